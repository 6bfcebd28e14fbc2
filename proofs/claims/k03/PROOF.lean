import PyProof.Rows.All
import Wide.All
import OpenK.AllK
import Wide.FinOn
import HandS.ForMost
import HandS.TupAny
import HandS.TupMul
import HandS.Codes
import HandS.Conv
import HandS.More
import HandS.Gcd
import HandS.Style
import HandS.Flow
import HandS.WideBits
import HandS.StrMore
import HandS.RevRange
import PyProof.ReprLen
import PyProof.ReprRoads
import KE.KMathG
import KE.KRevSl
import KE.GoesEnum
import PyProof.Rows.RuleB_pow
import KE.KStateDown
import Lean
import HandS.Base
import HandS.Call
import HandS.Ends
import HandS.Words
import HandS.WordsExc
import HandS.Defaults
import HandS.Head0
import HandS.Head1
import HandS.Head2
import HandS.Head3
import HandS.HeadEnd
import HandS.HeadHook1
import HandS.HeadHook2
import PySem.Challenge.RW_earstogether_k03_rows_by_hand
set_option Elab.async false
set_option linter.all false
set_option maxRecDepth 1000000
set_option maxHeartbeats 8100000
noncomputable section
/-! Ear: an evaluator of a part of Python, in a form that the kernel runs, and that it tells the truth. -/
namespace Ear
open PySem PySem.Spec PyProof.Rows L2

/-! ### values -/
/-- a value: tuples are trees, lists stand in a store -/
inductive D where
  | und | non | bl (b : Bool) | int (i : Int) | str (x : Str) | nil | cons (a t : D) | tup (l : D) | ref (n : Nat) | ty (s : String) | pot | rol (l : D) | rep (d : D)

/-- where the store's lists stand: as many, their addresses; the pot's address -/
structure Rh where
  n : Nat
  f : Nat → Addr
  pt : Addr

/-- data without lists, as the library tells them: a value's, a list's -/
def pdB (d : D) : PyData × List PyData := D.rec (motive := fun _ => PyData × List PyData) (.none, []) (.none, []) (fun b => (.bool b, [])) (fun i => (.int i, [])) (fun x => (.str x, [])) (.none, [])
  (fun _ _ iha iht => (.none, iha.1 :: iht.2)) (fun _ ih => (.tuple ih.2, [])) (fun _ => (.none, [])) (fun _ => (.none, [])) (.none, []) (fun _ _ => (.none, [])) (fun _ _ => (.none, [])) d
def pd (d : D) : PyData := (pdB d).1
/-- a range object -/
def RgO (a : Addr) (i j c : Int) : Heap → Prop := fun h => ∃ t u v, h.get? a = some { cls := .type "range", data := .fields #[.int i t, .int j u, .int c v] }
def rgD (i j c : Int) : D := .cons (.int i) (.cons (.int j) (.cons (.int c) .nil))
mutual
inductive RD (K : PySem.W.Frag) (r : Rh) (H : Hp) : D → V → Prop
  | non : RD K r H .non .non
  | bl (b : Bool) : RD K r H (.bl b) (.bl b)
  | int (i : Int) : RD K r H (.int i) (.int i)
  | str (x : Str) : RD K r H (.str x) (.str x)
  | ty (s : String) : RD K r H (.ty s) (.ty s)
  | tup {d : D} {a : Addr} {xs : List V} (h : SqT K H a xs) (l : RL K r H d xs) : RD K r H (.tup d) (.ref a)
  | ref {i : Nat} (h : i < r.n) : RD K r H (.ref i) (.ref (r.f i))
  | pot : RD K r H .pot (.ref r.pt)
  | rep {d : D} : RD K r H (.rep d) (.str (pd d).shown)
  | rol {a : Addr} {i j c : Int} (h : H a = some (.ext (RgO a i j c))) : RD K r H (.rol (rgD i j c)) (.ref a)
inductive RL (K : PySem.W.Frag) (r : Rh) (H : Hp) : D → List V → Prop
  | nil : RL K r H .nil []
  | cons {d t : D} {x : V} {xs : List V} (h : RD K r H d x) (l : RL K r H t xs) : RL K r H (.cons d t) (x :: xs)
end

/-- the store of lists, newest first; how many there have been; how often the pot was asked -/
structure Wd where
  n : Nat
  t : Nat
  h : List (Nat × D)

def lookL (h : List (Nat × D)) (i : Nat) : Option D :=
  List.rec (motive := fun _ => Option D) none (fun p _ ih => Bool.rec ih (some p.2) (Nat.beq p.1 i)) h
def setL (h : List (Nat × D)) (i : Nat) (d : D) : List (Nat × D) :=
  List.rec (motive := fun _ => List (Nat × D)) [] (fun p r ih => Bool.rec (p :: ih) ((i, d) :: r) (Nat.beq p.1 i)) h
theorem beq_yes {i j : Nat} (e : i = j) : Nat.beq i j = true := by subst e; exact Nat.beq_refl i
theorem beq_no {i j : Nat} (e : i ≠ j) : Nat.beq i j = false := by
  cases q : Nat.beq i j with
  | false => rfl
  | true => exact absurd (Nat.eq_of_beq_eq_true q) e
theorem lookL_cons {p : Nat × D} {h : List (Nat × D)} {i : Nat} : lookL (p :: h) i = if p.1 = i then some p.2 else lookL h i := by
  show (Bool.rec (lookL h i) (some p.2) (Nat.beq p.1 i) : Option D) = _
  by_cases e : p.1 = i
  · rw [if_pos e, beq_yes e]
  · rw [if_neg e, beq_no e]
theorem setL_cons {p : Nat × D} {h : List (Nat × D)} {i : Nat} {d : D} : setL (p :: h) i d = if p.1 = i then (i, d) :: h else p :: setL h i d := by
  show (Bool.rec (p :: setL h i d) ((i, d) :: h) (Nat.beq p.1 i) : List (Nat × D)) = _
  by_cases e : p.1 = i
  · rw [if_pos e, beq_yes e]
  · rw [if_neg e, beq_no e]
theorem look_set {i j : Nat} {d e : D} : ∀ {h : List (Nat × D)}, lookL (setL h i d) j = some e → (j = i ∧ e = d) ∨ (j ≠ i ∧ lookL h j = some e)
  | [], q => by cases q
  | p :: h, q => by
    rw [setL_cons] at q
    by_cases c : p.1 = i
    · rw [if_pos c, lookL_cons] at q
      by_cases k : i = j
      · rw [if_pos k] at q
        exact .inl ⟨k.symm, (Option.some.inj q).symm⟩
      · rw [if_neg k] at q
        refine .inr ⟨fun z => k z.symm, ?_⟩
        rw [lookL_cons, if_neg (by rw [c]; exact k)]
        exact q
    · rw [if_neg c, lookL_cons] at q
      by_cases k : p.1 = j
      · rw [if_pos k] at q
        refine .inr ⟨by rw [← k]; exact c, ?_⟩
        rw [lookL_cons, if_pos k]
        exact q
      · rw [if_neg k] at q
        rcases look_set q with z | ⟨z1, z2⟩
        · exact .inl z
        · exact .inr ⟨z1, by rw [lookL_cons, if_neg k]; exact z2⟩

/-! ### what holds between both -/
/-- the pot: three ints in bounds -/
def PotAt (H : Hp) (p : Addr) (t : Nat) : Prop := ∃ x y z : Int, H p = some (.lst [.int x, .int y, .int z]) ∧ 0 ≤ x ∧ x < 10 ^ 300 ∧ 0 ≤ y ∧ y < 2 ^ 61 ∧ 0 ≤ z ∧ z ≤ t
structure RW (K : PySem.W.Frag) (r : Rh) (w : Wd) (H : Hp) : Prop where
  n : w.n = r.n
  inj : ∀ i j, i < r.n → j < r.n → r.f i = r.f j → i = j
  lst : ∀ i, i < r.n → ∃ vs, H (r.f i) = some (.lst vs) ∧ ∀ d, lookL w.h i = some d → RL K r H d vs
  pot : PotAt H r.pt w.t
  apart : ∀ i, i < r.n → r.f i ≠ r.pt
/-- what may have happened meanwhile -/
structure Gr (r : Rh) (H : Hp) (r' : Rh) (H' : Hp) : Prop where
  le : r.n ≤ r'.n
  f : ∀ i, i < r.n → r'.f i = r.f i
  pt : r'.pt = r.pt
  new : ∀ i, r.n ≤ i → i < r'.n → H (r'.f i) = none
  keep : ∀ b o, H b = some o → (∀ i, i < r.n → b ≠ r.f i) → b ≠ r.pt → H' b = some o
section
variable {K : PySem.W.Frag} {r r1 r2 r' : Rh} {H H1 H2 H' : Hp} {w w' : Wd} {d e : D} {v x : V} {vs xs : List V}
theorem Gr.refl : Gr r H r H := ⟨Nat.le_refl _, fun _ _ => rfl, rfl, fun i h1 h2 => absurd h2 (Nat.not_lt.mpr h1), fun _ _ h _ _ => h⟩
/-- lists and the pot are no tuples -/
structure Sep (r : Rh) (H : Hp) : Prop where
  l : ∀ i, i < r.n → ∃ vs, H (r.f i) = some (.lst vs)
  p : ∃ vs, H r.pt = some (.lst vs)
theorem RW.sep (h : RW K r w H) : Sep r H := ⟨fun i hi => let ⟨vs, e, _⟩ := h.lst i hi; ⟨vs, e⟩, let ⟨x, y, z, e, _⟩ := h.pot; ⟨_, e⟩⟩
theorem Gr.trans (a : Gr r H r1 H1) (q1 : Sep r1 H1) (b : Gr r1 H1 r2 H2) : Gr r H r2 H2 where
  le := Nat.le_trans a.le b.le
  f := fun i hi => (b.f i (Nat.lt_of_lt_of_le hi a.le)).trans (a.f i hi)
  pt := b.pt.trans a.pt
  new := fun i h1 h2 => by
    by_cases c : i < r1.n
    · rw [b.f i c]; exact a.new i h1 c
    · have z := b.new i (Nat.le_of_not_lt c) h2
      cases q : H (r2.f i) with
      | none => rfl
      | some o =>
        exfalso
        have n1 : ∀ j, j < r.n → r2.f i ≠ r.f j := fun j hj e => by
          obtain ⟨vs, k⟩ := q1.l j (Nat.lt_of_lt_of_le hj a.le)
          rw [a.f j hj, ← e, z] at k
          cases k
        have n2 : r2.f i ≠ r.pt := fun e => by
          obtain ⟨vs, k⟩ := q1.p
          rw [a.pt, ← e, z] at k
          cases k
        rw [a.keep _ _ q n1 n2] at z
        cases z
  keep := fun c o h h1 h2 => b.keep c o (a.keep c o h h1 h2) (fun i hi e => by
    by_cases k : i < r.n
    · rw [a.f i k] at e; exact h1 i k e
    · have z := a.new i (Nat.le_of_not_lt k) hi
      rw [← e, h] at z
      cases z) (fun e => h2 (e.trans a.pt))
theorem Gr.ext (g : Gr r H r' H') (q : Sep r H) {a : Addr} {φ : Heap → Prop} (h : H a = some (.ext φ)) : H' a = some (.ext φ) := by
  refine g.keep a _ h (fun i hi e => ?_) fun e => ?_
  · obtain ⟨ys, k⟩ := q.l i hi
    rw [← e, h] at k
    cases k
  · obtain ⟨ys, k⟩ := q.p
    rw [← e, h] at k
    cases k
theorem Gr.tup (g : Gr r H r' H') (q : Sep r H) {a : Addr} (h : SqT K H a xs) : SqT K H' a xs := by
  have stay : ∀ {o : HO}, H a = some o → (∀ ys, o ≠ .lst ys) → H' a = some o := fun {o} h1 h2 => by
    refine g.keep a o h1 (fun i hi e => ?_) fun e => ?_
    · obtain ⟨ys, k⟩ := q.l i hi
      rw [← e, h1] at k
      exact h2 ys (Option.some.inj k)
    · obtain ⟨ys, k⟩ := q.p
      rw [← e, h1] at k
      exact h2 ys (Option.some.inj k)
  rcases h with (h | ⟨o, h⟩) | h
  · exact .inl (.inl (stay h fun ys z => by cases z))
  · exact .inl (.inr ⟨o, stay h fun ys z => by cases z⟩)
  · exact .inr h
mutual
theorem RD.mono (g : Gr r H r' H') (q : Sep r H) : ∀ {d : D} {v : V}, RD K r H d v → RD K r' H' d v
  | _, _, .non => .non
  | _, _, .bl b => .bl b
  | _, _, .int i => .int i
  | _, _, .str x => .str x
  | _, _, .ty s => .ty s
  | _, _, .tup h l => .tup (g.tup q h) (RL.mono g q l)
  | _, _, .ref (i := i) h => by
    rw [← g.f i h]
    exact .ref (Nat.lt_of_lt_of_le h g.le)
  | _, _, .pot => by
    rw [← g.pt]
    exact .pot
  | _, _, .rep => .rep
  | _, _, .rol h => .rol (g.ext q h)
theorem RL.mono (g : Gr r H r' H') (q : Sep r H) : ∀ {d : D} {vs : List V}, RL K r H d vs → RL K r' H' d vs
  | _, _, .nil => .nil
  | _, _, .cons h l => .cons (RD.mono g q h) (RL.mono g q l)
end
/-- the slots -/
structure RS (K : PySem.W.Frag) (r : Rh) (H : Hp) (S : List D) (σ : L2.St) : Prop where
  at_ : ∀ (i : Nat) (d : D), S[i]? = some d → d = .und ∨ ∃ v, σ[i]? = some (some v) ∧ RD K r H d v
  len : S.length ≤ σ.length
theorem RS.mono {S : List D} {σ : L2.St} (h : RS K r H S σ) (g : Gr r H r' H') (q : Sep r H) : RS K r' H' S σ := ⟨fun i d e => by
  rcases h.at_ i d e with z | ⟨v, z1, z2⟩
  · exact .inl z
  · exact .inr ⟨v, z1, z2.mono g q⟩, h.len⟩

/-! ### the list and the laws of the store -/
/-- how long a list is -/
def lenD (d : D) : Nat := D.rec (motive := fun _ => Nat) 0 0 (fun _ => 0) (fun _ => 0) (fun _ => 0) 0 (fun _ _ _ ih => Nat.succ ih) (fun _ _ => 0) (fun _ => 0) (fun _ => 0) 0 (fun _ _ => 0) (fun _ _ => 0) d
theorem RL.len : ∀ {d : D} {vs : List V}, RL K r H d vs → lenD d = vs.length
  | _, _, .nil => rfl
  | _, _, .cons h l => by
    show Nat.succ (lenD _) = _
    rw [RL.len l]; rfl
/-- the new list at p, the store one longer -/
def Rh.more (r : Rh) (p : Addr) : Rh := ⟨r.n + 1, fun i => if i = r.n then p else r.f i, r.pt⟩
def Wd.more (w : Wd) (d : D) : Wd := ⟨Nat.succ w.n, w.t, (w.n, d) :: w.h⟩
theorem gr_more {p : Addr} {o : HO} (hp : H p = none) (q : Sep r H) : Gr r H (r.more p) (upd H p o) where
  le := Nat.le_succ _
  f := fun i hi => if_neg (Nat.ne_of_lt hi)
  pt := rfl
  new := fun i h1 h2 => by
    have e : i = r.n := Nat.le_antisymm (Nat.le_of_lt_succ h2) h1
    show H (if i = r.n then p else r.f i) = none
    rw [if_pos e]; exact hp
  keep := fun b o h _ _ => by rw [upd_ne (ne_of_none h hp)]; exact h
theorem gr_new {p : Addr} {o : HO} (hp : H p = none) : Gr r H r (upd H p o) where
  le := Nat.le_refl _
  f := fun _ _ => rfl
  pt := rfl
  new := fun i h1 h2 => absurd h2 (Nat.not_lt.mpr h1)
  keep := fun b o h _ _ => by rw [upd_ne (ne_of_none h hp)]; exact h
theorem RW.more {p : Addr} (h : RW K r w H) (hp : H p = none) (l : RL K r H d vs) : RW K (r.more p) (w.more d) (upd H p (.lst vs)) := by
  have g : Gr r H (r.more p) (upd H p (.lst vs)) := gr_more hp h.sep
  have pne : ∀ i, i < r.n → r.f i ≠ p := fun i hi e => by
    obtain ⟨ys, k, _⟩ := h.lst i hi
    rw [e, hp] at k; cases k
  have fi : ∀ i, i < r.n → (r.more p).f i = r.f i := g.f
  have fn : (r.more p).f r.n = p := if_pos rfl
  have ptp : r.pt ≠ p := fun e => by
    obtain ⟨x, y, z, k, _⟩ := h.pot
    rw [e, hp] at k; cases k
  refine ⟨congrArg Nat.succ h.n, fun i j hi hj e => ?_, fun i hi => ?_, ?_, fun i hi => ?_⟩
  · rcases Nat.lt_succ_iff_lt_or_eq.mp hi with hi | rfl <;> rcases Nat.lt_succ_iff_lt_or_eq.mp hj with hj | rfl
    · rw [fi i hi, fi j hj] at e; exact h.inj i j hi hj e
    · rw [fi i hi, fn] at e; exact absurd e (pne i hi)
    · rw [fi j hj, fn] at e; exact absurd e.symm (pne j hj)
    · rfl
  · rcases Nat.lt_succ_iff_lt_or_eq.mp hi with hi | rfl
    · obtain ⟨ys, k, q⟩ := h.lst i hi
      refine ⟨ys, by rw [fi i hi, upd_ne (pne i hi)]; exact k, fun e he => ?_⟩
      have he : lookL ((w.n, d) :: w.h) i = some e := he
      rw [lookL_cons, if_neg (by rw [h.n]; exact Nat.ne_of_gt hi)] at he
      exact (q e he).mono g h.sep
    · refine ⟨vs, by rw [fn]; exact upd_same, fun e he => ?_⟩
      have he : lookL ((w.n, d) :: w.h) r.n = some e := he
      rw [lookL_cons, if_pos h.n] at he
      cases he
      exact l.mono g h.sep
  · obtain ⟨x, y, z, k, q⟩ := h.pot
    exact ⟨x, y, z, by show upd H p _ r.pt = _; rw [upd_ne ptp]; exact k, q⟩
  · show (r.more p).f i ≠ r.pt
    rcases Nat.lt_succ_iff_lt_or_eq.mp hi with hi | rfl
    · rw [fi i hi]; exact h.apart i hi
    · rw [fn]; exact fun e => ptp e.symm
/-- another object is laid -/
theorem RW.new {p : Addr} {o : HO} (h : RW K r w H) (hp : H p = none) : RW K r w (upd H p o) := by
  have g : Gr r H r (upd H p o) := gr_new hp
  have pne : ∀ i, i < r.n → r.f i ≠ p := fun i hi e => by
    obtain ⟨ys, k, _⟩ := h.lst i hi
    rw [e, hp] at k; cases k
  have ptp : r.pt ≠ p := fun e => by
    obtain ⟨x, y, z, k, _⟩ := h.pot
    rw [e, hp] at k; cases k
  refine ⟨h.n, h.inj, fun i hi => ?_, ?_, h.apart⟩
  · obtain ⟨ys, k, q⟩ := h.lst i hi
    exact ⟨ys, by rw [upd_ne (pne i hi)]; exact k, fun e he => (q e he).mono g h.sep⟩
  · obtain ⟨x, y, z, k, q⟩ := h.pot
    exact ⟨x, y, z, by rw [upd_ne ptp]; exact k, q⟩
/-- list number i is changed -/
def Wd.put (w : Wd) (i : Nat) (d : D) : Wd := ⟨w.n, w.t, setL w.h i d⟩
theorem gr_put {i : Nat} {o : HO} (hi : i < r.n) : Gr r H r (upd H (r.f i) o) where
  le := Nat.le_refl _
  f := fun _ _ => rfl
  pt := rfl
  new := fun j h1 h2 => absurd h2 (Nat.not_lt.mpr h1)
  keep := fun b o h h1 _ => by rw [upd_ne (h1 i hi)]; exact h
theorem RW.put {i : Nat} (h : RW K r w H) (hi : i < r.n) (l : RL K r H d vs) : RW K r (w.put i d) (upd H (r.f i) (.lst vs)) := by
  have g : Gr r H r (upd H (r.f i) (.lst vs)) := gr_put hi
  have ne : ∀ j, j < r.n → j ≠ i → r.f j ≠ r.f i := fun j hj n e => n (h.inj j i hj hi e)
  refine ⟨h.n, h.inj, fun j hj => ?_, ?_, h.apart⟩
  · by_cases c : j = i
    · subst c
      refine ⟨vs, upd_same, fun e' he => ?_⟩
      have he : lookL (setL w.h j d) j = some e' := he
      rcases look_set he with ⟨_, z⟩ | ⟨z, _⟩
      · rw [z]; exact l.mono g h.sep
      · exact absurd rfl z
    · obtain ⟨ys, k, q⟩ := h.lst j hj
      refine ⟨ys, by rw [upd_ne (ne j hj c)]; exact k, fun e' he => ?_⟩
      have he : lookL (setL w.h i d) j = some e' := he
      rcases look_set he with ⟨z, _⟩ | ⟨_, z⟩
      · exact absurd z c
      · exact (q e' z).mono g h.sep
  · obtain ⟨x, y, z, k, q⟩ := h.pot
    exact ⟨x, y, z, by rw [upd_ne (fun e => h.apart i hi e.symm)]; exact k, q⟩
end
end Ear
namespace Ear
open PySem PySem.Spec PyProof.Rows L2

abbrev Sg := List D
abbrev Kt := D → Wd → Bool
abbrev F := Sg → Wd → Kt → Bool

/-! ### switches -/
def swI (d : D) (k : Int → Bool) : Bool := D.rec (motive := fun _ => Bool) false false (fun _ => false) k (fun _ => false) false (fun _ _ _ _ => false) (fun _ _ => false) (fun _ => false) (fun _ => false) false (fun _ _ => false) (fun _ _ => false) d
def swB (d : D) (k : Bool → Bool) : Bool := D.rec (motive := fun _ => Bool) false false k (fun _ => false) (fun _ => false) false (fun _ _ _ _ => false) (fun _ _ => false) (fun _ => false) (fun _ => false) false (fun _ _ => false) (fun _ _ => false) d
def swS (d : D) (k : Str → Bool) : Bool := D.rec (motive := fun _ => Bool) false false (fun _ => false) (fun _ => false) k false (fun _ _ _ _ => false) (fun _ _ => false) (fun _ => false) (fun _ => false) false (fun _ _ => false) (fun _ _ => false) d
def swT (d : D) (k : D → Bool) : Bool := D.rec (motive := fun _ => Bool) false false (fun _ => false) (fun _ => false) (fun _ => false) false (fun _ _ _ _ => false) (fun l _ => k l) (fun _ => false) (fun _ => false) false (fun _ _ => false) (fun _ _ => false) d
def swR (d : D) (k : Nat → Bool) : Bool := D.rec (motive := fun _ => Bool) false false (fun _ => false) (fun _ => false) (fun _ => false) false (fun _ _ _ _ => false) (fun _ _ => false) k (fun _ => false) false (fun _ _ => false) (fun _ _ => false) d
def swC (d : D) (k : D → D → Bool) : Bool := D.rec (motive := fun _ => Bool) false false (fun _ => false) (fun _ => false) (fun _ => false) false (fun x t _ _ => k x t) (fun _ _ => false) (fun _ => false) (fun _ => false) false (fun _ _ => false) (fun _ _ => false) d
def swN (d : D) (k : Bool) : Bool := D.rec (motive := fun _ => Bool) false false (fun _ => false) (fun _ => false) (fun _ => false) k (fun _ _ _ _ => false) (fun _ _ => false) (fun _ => false) (fun _ => false) false (fun _ _ => false) (fun _ _ => false) d
/-- an int, a text, a tuple, a list: each its own way -/
def sw4 (d : D) (ki : Int → Bool) (ks : Str → Bool) (kt : D → Bool) (kr : Nat → Bool) : Bool := D.rec (motive := fun _ => Bool) false false (fun _ => false) ki ks false (fun _ _ _ _ => false) (fun l _ => kt l) kr (fun _ => false) false (fun _ _ => false) (fun _ _ => false) d
theorem swI_ {d : D} {k : Int → Bool} (h : swI d k = true) : ∃ i, d = .int i ∧ k i = true := by cases d <;> first | exact ⟨_, rfl, h⟩ | exact absurd (show false = true from h) Bool.false_ne_true
theorem swB_ {d : D} {k : Bool → Bool} (h : swB d k = true) : ∃ i, d = .bl i ∧ k i = true := by cases d <;> first | exact ⟨_, rfl, h⟩ | exact absurd (show false = true from h) Bool.false_ne_true
theorem swS_ {d : D} {k : Str → Bool} (h : swS d k = true) : ∃ i, d = .str i ∧ k i = true := by cases d <;> first | exact ⟨_, rfl, h⟩ | exact absurd (show false = true from h) Bool.false_ne_true
theorem swT_ {d : D} {k : D → Bool} (h : swT d k = true) : ∃ i, d = .tup i ∧ k i = true := by cases d <;> first | exact ⟨_, rfl, h⟩ | exact absurd (show false = true from h) Bool.false_ne_true
theorem swR_ {d : D} {k : Nat → Bool} (h : swR d k = true) : ∃ i, d = .ref i ∧ k i = true := by cases d <;> first | exact ⟨_, rfl, h⟩ | exact absurd (show false = true from h) Bool.false_ne_true
theorem swC_ {d : D} {k : D → D → Bool} (h : swC d k = true) : ∃ x t, d = .cons x t ∧ k x t = true := by cases d <;> first | exact ⟨_, _, rfl, h⟩ | exact absurd (show false = true from h) Bool.false_ne_true
theorem swN_ {d : D} {k : Bool} (h : swN d k = true) : d = .nil ∧ k = true := by cases d <;> first | exact ⟨rfl, h⟩ | exact absurd (show false = true from h) Bool.false_ne_true
theorem sw4_ {d : D} {ki : Int → Bool} {ks : Str → Bool} {kt : D → Bool} {kr : Nat → Bool} (h : sw4 d ki ks kt kr = true) :
    (∃ i, d = .int i ∧ ki i = true) ∨ (∃ i, d = .str i ∧ ks i = true) ∨ (∃ i, d = .tup i ∧ kt i = true) ∨ ∃ i, d = .ref i ∧ kr i = true := by
  cases d <;> first | exact .inl ⟨_, rfl, h⟩ | exact .inr (.inl ⟨_, rfl, h⟩) | exact .inr (.inr (.inl ⟨_, rfl, h⟩)) | exact .inr (.inr (.inr ⟨_, rfl, h⟩)) | exact absurd (show false = true from h) Bool.false_ne_true
/-- both -/
def et (a b : Bool) : Bool := Bool.rec false b a
theorem et_ {a b : Bool} (h : et a b = true) : a = true ∧ b = true := by
  cases a with
  | true => exact ⟨rfl, h⟩
  | false => exact absurd (show false = true from h) Bool.false_ne_true
def ife (c a b : Bool) : Bool := Bool.rec b a c
theorem ife_ {c a b : Bool} (h : ife c a b = true) : (c = true ∧ a = true) ∨ (c = false ∧ b = true) := by
  cases c with
  | true => exact .inl ⟨rfl, h⟩
  | false => exact .inr ⟨rfl, h⟩

/-! ### ints for the kernel -/
def iAdd (a b : Int) : Int := Int.rec (fun m => Int.rec (fun n => Int.ofNat (Nat.add m n)) (fun n => Int.subNatNat m (Nat.succ n)) b) (fun m => Int.rec (fun n => Int.subNatNat n (Nat.succ m)) (fun n => Int.negSucc (Nat.succ (Nat.add m n))) b) a
theorem iAdd_eq (a b : Int) : iAdd a b = a + b := by cases a <;> cases b <;> rfl
def iNeg (a : Int) : Int := Int.rec (fun m => Int.negOfNat m) (fun m => Int.ofNat (Nat.succ m)) a
theorem iNeg_eq (a : Int) : iNeg a = -a := by cases a <;> rfl
def iSub (a b : Int) : Int := iAdd a (iNeg b)
theorem iSub_eq (a b : Int) : iSub a b = a - b := by unfold iSub; rw [iNeg_eq, iAdd_eq]; rfl
def iMul (a b : Int) : Int := Int.rec (fun m => Int.rec (fun n => Int.ofNat (Nat.mul m n)) (fun n => Int.negOfNat (Nat.mul m (Nat.succ n))) b) (fun m => Int.rec (fun n => Int.negOfNat (Nat.mul (Nat.succ m) n)) (fun n => Int.ofNat (Nat.mul (Nat.succ m) (Nat.succ n))) b) a
theorem iMul_eq (a b : Int) : iMul a b = a * b := by cases a <;> cases b <;> rfl
def iLt (a b : Int) : Bool := Int.rec (fun m => Int.rec (fun n => Nat.blt m n) (fun _ => false) b) (fun m => Int.rec (fun _ => true) (fun n => Nat.blt n m) b) a
theorem blt_eq (m n : Nat) : Nat.blt m n = decide (m < n) := by
  unfold Nat.blt
  cases h : decide (m < n) with
  | true => exact Nat.ble_eq_true_of_le (Nat.succ_le_of_lt (of_decide_eq_true h))
  | false =>
    have := of_decide_eq_false h
    cases q : Nat.ble (m.succ) n with
    | false => rfl
    | true => exact absurd (Nat.le_of_ble_eq_true q) this
theorem iLt_eq (a b : Int) : iLt a b = decide (a < b) := by
  cases a with
  | ofNat m => cases b with
    | ofNat n =>
      show Nat.blt m n = _
      rw [blt_eq]
      exact decide_eq_decide.mpr (by show m < n ↔ (m : Int) < (n : Int); omega)
    | negSucc n => exact (decide_eq_false (by show ¬ (m : Int) < Int.negSucc n; omega)).symm
  | negSucc m => cases b with
    | ofNat n => exact (decide_eq_true (by show Int.negSucc m < (n : Int); omega)).symm
    | negSucc n => show Nat.blt n m = _; rw [blt_eq]; exact decide_eq_decide.mpr (by omega)
def iEq (a b : Int) : Bool := Int.rec (fun m => Int.rec (fun n => Nat.beq m n) (fun _ => false) b) (fun m => Int.rec (fun _ => false) (fun n => Nat.beq m n) b) a
theorem beq_eq (m n : Nat) : Nat.beq m n = decide (m = n) := by
  by_cases e : m = n
  · rw [beq_yes e, decide_eq_true e]
  · rw [beq_no e, decide_eq_false e]
theorem iEq_eq (a b : Int) : iEq a b = decide (a = b) := by
  cases a with
  | ofNat m => cases b with
    | ofNat n => show Nat.beq m n = _; rw [beq_eq]; exact decide_eq_decide.mpr (by show m = n ↔ (m : Int) = (n : Int); omega)
    | negSucc n => exact (decide_eq_false (by show ¬ (m : Int) = Int.negSucc n; omega)).symm
  | negSucc m => cases b with
    | ofNat n => exact (decide_eq_false (by show ¬ Int.negSucc m = (n : Int); omega)).symm
    | negSucc n => show Nat.beq m n = _; rw [beq_eq]; exact decide_eq_decide.mpr (by omega)
def iLe (a b : Int) : Bool := Bool.rec true false (iLt b a)
theorem iLe_eq (a b : Int) : iLe a b = decide (a ≤ b) := by
  have e : iLe a b = !iLt b a := by unfold iLe; cases iLt b a <;> rfl
  rw [e, iLt_eq]
  by_cases h : b < a
  · rw [decide_eq_true h, decide_eq_false (by omega)]; rfl
  · rw [decide_eq_false h, decide_eq_true (by omega)]; rfl
def bNot (a : Bool) : Bool := Bool.rec true false a
theorem bNot_eq (a : Bool) : bNot a = !a := by cases a <;> rfl

/-! ### what is true of an expression -/
section
variable {X : Cx} {r : Rh} {S : Sg} {σ : L2.St} {w : Wd} {H : Hp}
/-- an expression's widest reading; a test's; an operator's; a call's -/
def tE (X : Cx) (e : Expr) : TE := fun σ H Q => ∀ (pins : List (Addr × Obj)) (s : Shared), Inv X pins σ H s → wpAny (model X.prog X.w) X.A (eval e X.env) (EP X pins σ Q) X.xe s
def tT (X : Cx) (e : Expr) : TT := fun σ H Q => ∀ (pins : List (Addr × Obj)) (s : Shared), Inv X pins σ H s → wpAny (model X.prog X.w) X.A (isTrue e X.env (eval e X.env)) (TP X pins σ Q) X.xe s
def tW (X : Cx) (e : Expr) : TT := fun σ H Q => ∀ (whole : Sem Value) (pins : List (Addr × Obj)) (s : Shared), Inv X pins σ H s → wpAny (model X.prog X.w) X.A (isTrue e X.env whole) (TP X pins σ Q) X.xe s
def tA (X : Cx) (es : List Expr) : TA := fun σ H Q => ∀ (pos : Pos) (pins : List (Addr × Obj)) (s : Shared), Inv X pins σ H s → wpAny (model X.prog X.w) X.A (spliced (backTo pos (starEach es X.env))) (AP X pins σ Q) X.xe s
def tR (X : Cx) (f : Value → Value → Sem Value) : R2 := fun x y H Q => ∀ (pins : List (Addr × Obj)) (s : Shared) (σ : L2.St) (v u : Value), Inv X pins σ H s → RelV x v → RelV y u → wpAny (model X.prog X.w) X.A (f v u) (EP X pins σ Q) X.xe s
def tU (X : Cx) (f : Value → Sem Value) : V → Hp → VK → Prop := fun x H Q => ∀ (pins : List (Addr × Obj)) (s : Shared) (σ : L2.St) (v : Value), Inv X pins σ H s → RelV x v → wpAny (model X.prog X.w) X.A (f v) (EP X pins σ Q) X.xe s
def tB (X : Cx) (f : Value) : List V → Hp → VK → Prop := fun xs H Q => ∀ (pins : List (Addr × Obj)) (s : Shared) (σ : L2.St) (us : List Value), Inv X pins σ H s → Vals xs us → wpAny (model X.prog X.w) X.A (call f us) (EP X pins σ Q) X.xe s
theorem pe_tE (e : Expr) : PE X e (tE X e) := ⟨fun pins s σ H Q I h => h pins s I⟩
theorem pt_tT (e : Expr) : PT X e (tT X e) := ⟨fun pins s σ H Q I h => h pins s I⟩
theorem pw_tW (e : Expr) : PW X e (tW X e) := ⟨fun wh pins s σ H Q I h => h wh pins s I⟩
theorem pa_tA (es : List Expr) : PA X es (tA X es) := ⟨fun pos pins s σ H Q I h => h pos pins s I⟩
theorem op_tR (f : Value → Value → Sem Value) : OpR X f (tR X f) := fun pins s σ H x y v u Q I rx ry h => h pins s σ v u I rx ry
theorem un_tU (f : Value → Sem Value) : UnR X f (tU X f) := fun pins s σ H x v Q I rx h => h pins s σ v I rx
theorem cr_tB (f : Value) : CallR X f (tB X f) := fun pins s σ H xs us Q I rx h => h pins s σ us I rx
theorem _root_.L2.PE.to {e : Expr} {t : TE} {Q : VK} (h : PE X e t) (q : t σ H Q) : tE X e σ H Q := fun pins s I => h.run pins s σ H Q I q
theorem _root_.L2.PT.to {e : Expr} {t : TT} {Q : Bool → Hp → Prop} (h : PT X e t) (q : t σ H Q) : tT X e σ H Q := fun pins s I => h.run pins s σ H Q I q
theorem _root_.L2.PW.to {e : Expr} {t : TT} {Q : Bool → Hp → Prop} (h : PW X e t) (q : t σ H Q) : tW X e σ H Q := fun wh pins s I => h.run wh pins s σ H Q I q
theorem _root_.L2.PA.to {es : List Expr} {t : TA} {Q : List V → Hp → Prop} (h : PA X es t) (q : t σ H Q) : tA X es σ H Q := fun pos pins s I => h.run pos pins s σ H Q I q
theorem _root_.L2.OpR.to {f : Value → Value → Sem Value} {t : R2} {x y : V} {Q : VK} (h : OpR X f t) (q : t x y H Q) : tR X f x y H Q := fun pins s σ v u I rx ry => h pins s σ H x y v u Q I rx ry q
theorem _root_.L2.UnR.to {f : Value → Sem Value} {t : V → Hp → VK → Prop} {x : V} {Q : VK} (h : UnR X f t) (q : t x H Q) : tU X f x H Q := fun pins s σ v I rx => h pins s σ H x v Q I rx q
theorem _root_.L2.CallR.to {f : Value} {t : List V → Hp → VK → Prop} {xs : List V} {Q : VK} (h : CallR X f t) (q : t xs H Q) : tB X f xs H Q := fun pins s σ us I rx => h pins s σ H xs us Q I rx q

/-- where an evaluation goes on -/
def Go (K : PySem.W.Frag) (r : Rh) (H : Hp) (k : Kt) (Q : VK) : Prop := ∀ (r' : Rh) (d : D) (v : V) (w' : Wd) (H' : Hp), Gr r H r' H' → RW K r' w' H' → RD K r' H' d v → k d w' = true → Q v H'
def GoT (K : PySem.W.Frag) (r : Rh) (H : Hp) (k : Kt) (Q : Bool → Hp → Prop) : Prop := ∀ (r' : Rh) (b : Bool) (w' : Wd) (H' : Hp), Gr r H r' H' → RW K r' w' H' → k (.bl b) w' = true → Q b H'
def GoA (K : PySem.W.Frag) (r : Rh) (H : Hp) (k : Kt) (Q : List V → Hp → Prop) : Prop := ∀ (r' : Rh) (d : D) (vs : List V) (w' : Wd) (H' : Hp), Gr r H r' H' → RW K r' w' H' → RL K r' H' d vs → k d w' = true → Q vs H'
def OkE (X : Cx) (f : F) (e : Expr) : Prop := ∀ (r : Rh) (S : Sg) (σ : L2.St) (w : Wd) (H : Hp) (k : Kt) (Q : VK), RS X.K r H S σ → RW X.K r w H → f S w k = true → Go X.K r H k Q → tE X e σ H Q
def OkT (X : Cx) (f : F) (e : Expr) : Prop := ∀ (r : Rh) (S : Sg) (σ : L2.St) (w : Wd) (H : Hp) (k : Kt) (Q : Bool → Hp → Prop), RS X.K r H S σ → RW X.K r w H → f S w k = true → GoT X.K r H k Q → tT X e σ H Q
def OkW (X : Cx) (f : F) (e : Expr) : Prop := ∀ (r : Rh) (S : Sg) (σ : L2.St) (w : Wd) (H : Hp) (k : Kt) (Q : Bool → Hp → Prop), RS X.K r H S σ → RW X.K r w H → f S w k = true → GoT X.K r H k Q → tW X e σ H Q
def OkA (X : Cx) (f : F) (es : List Expr) : Prop := ∀ (r : Rh) (S : Sg) (σ : L2.St) (w : Wd) (H : Hp) (k : Kt) (Q : List V → Hp → Prop), RS X.K r H S σ → RW X.K r w H → f S w k = true → GoA X.K r H k Q → tA X es σ H Q
abbrev O2 := D → D → Wd → Kt → Bool
abbrev O1 := D → Wd → Kt → Bool
def OkR (X : Cx) (op : O2) (f : Value → Value → Sem Value) : Prop := ∀ (r : Rh) (w : Wd) (H : Hp) (d e : D) (x y : V) (k : Kt) (Q : VK), RW X.K r w H → RD X.K r H d x → RD X.K r H e y → op d e w k = true → Go X.K r H k Q → tR X f x y H Q
def OkU (X : Cx) (op : O1) (f : Value → Sem Value) : Prop := ∀ (r : Rh) (w : Wd) (H : Hp) (d : D) (x : V) (k : Kt) (Q : VK), RW X.K r w H → RD X.K r H d x → op d w k = true → Go X.K r H k Q → tU X f x H Q
def OkB (X : Cx) (op : O1) (f : Value) : Prop := ∀ (r : Rh) (w : Wd) (H : Hp) (d : D) (xs : List V) (k : Kt) (Q : VK), RW X.K r w H → RL X.K r H d xs → op d w k = true → Go X.K r H k Q → tB X f xs H Q

variable {K : PySem.W.Frag} {r1 : Rh} {H1 : Hp} {w1 : Wd} {k : Kt} {Q : VK}
theorem Go.later (g : Go K r H k Q) (a : Gr r H r1 H1) (q : Sep r1 H1) : Go K r1 H1 k Q := fun r' d v w' H' b rw rd hk => g r' d v w' H' (a.trans q b) rw rd hk
theorem Go.now {d : D} {v : V} (g : Go K r H k Q) (rw : RW K r w H) (rd : RD K r H d v) (h : k d w = true) : Q v H := g r d v w H .refl rw rd h
/-- a new tuple -/
theorem Go.newT {l : D} {vs : List V} {p : Addr} (g : Go K r H k Q) (rw : RW K r w H) (rl : RL K r H l vs) (hp : H p = none) (h : k (.tup l) w = true) : Q (.ref p) (upd H p (.tup vs)) :=
  g r (.tup l) (.ref p) w _ (gr_new hp) (rw.new hp) (.tup (SqT.of upd_same) (rl.mono (gr_new hp) rw.sep)) h
/-- a new list -/
theorem Go.newL {l : D} {vs : List V} {p : Addr} (g : Go K r H k Q) (rw : RW K r w H) (rl : RL K r H l vs) (hp : H p = none) (h : k (.ref w.n) (w.more l) = true) : Q (.ref p) (upd H p (.lst vs)) := by
  refine g (r.more p) (.ref w.n) (.ref p) (w.more l) _ (gr_more hp rw.sep) (rw.more hp rl) ?_ h
  have e : (r.more p).f w.n = p := by rw [rw.n]; exact if_pos rfl
  have := RD.ref (K := K) (r := r.more p) (H := upd H p (.lst vs)) (i := w.n) (by rw [rw.n]; exact Nat.lt_succ_self _)
  rw [e] at this
  exact this

/-! ### names, constants -/
def eLit (d : D) : F := fun _ w k => k d w
def nth (S : Sg) (i : Nat) (k : D → Bool) : Bool := (List.rec (motive := fun _ => Nat → Bool) (fun _ => false) (fun d _ ih i => Nat.rec (k d) (fun j _ => ih j) i) S) i
theorem nth_ {k : D → Bool} : ∀ {S : Sg} {i : Nat}, nth S i k = true → ∃ d, S[i]? = some d ∧ k d = true
  | [], i, h => absurd (show false = true from h) Bool.false_ne_true
  | d :: S, 0, h => ⟨d, rfl, h⟩
  | d :: S, i + 1, h => by
    obtain ⟨e, h1, h2⟩ := nth_ (S := S) (i := i) h
    exact ⟨e, by simpa using h1, h2⟩
/-- is it there -/
def def_ (d : D) (k : Bool) : Bool := D.rec (motive := fun _ => Bool) false k (fun _ => k) (fun _ => k) (fun _ => k) k (fun _ _ _ _ => k) (fun _ _ => k) (fun _ => k) (fun _ => k) k (fun _ _ => k) (fun _ _ => k) d
theorem def__ {d : D} {k : Bool} (h : def_ d k = true) : d ≠ .und ∧ k = true := by
  cases d <;> first | exact ⟨by simp, h⟩ | exact absurd (show false = true from h) Bool.false_ne_true
def eVar (i : Nat) : F := fun S w k => nth S i fun d => def_ d (k d w)
theorem ok_var (i : Nat) {x : Str} {pos : Pos} (hN : X.N[i]? = some x := by rfl) (hv : Vis X.env.scope x := by first | exact Or.inl rfl | exact Or.inr (Or.inl rfl) | exact Or.inr (Or.inr rfl)) (hd : (x == ("__debug__" : Str)) = false := by decide)
    (hcd : (x == ("__classdict__" : Str)) = false := by decide) : OkE X (eVar i) (.Name x pos) := fun r S σ w H k Q rs rw h g => by
  obtain ⟨d, h1, h2⟩ := nth_ h
  obtain ⟨h3, h4⟩ := def__ h2
  rcases rs.at_ i d h1 with z | ⟨v, z1, z2⟩
  · exact absurd z h3
  · exact (pe_var hN hv hd hcd).to ⟨v, z1, g.now rw z2 h4⟩
theorem ok_int {i : Int} {j pos} : OkE X (eLit (.int i)) (.Constant (.int i) j pos) := fun r S σ w H k Q rs rw h g => pe_int.to (g.now rw (.int i) h)
theorem ok_bl {b : Bool} {j pos} : OkE X (eLit (.bl b)) (.Constant (.bool b) j pos) := fun r S σ w H k Q rs rw h g => pe_bl.to (g.now rw (.bl b) h)
theorem ok_non {j pos} : OkE X (eLit .non) (.Constant .none j pos) := fun r S σ w H k Q rs rw h g => pe_non.to (g.now rw .non h)
theorem ok_str {x : Str} {j pos} : OkE X (eLit (.str x)) (.Constant (.str x) j pos) := fun r S σ w H k Q rs rw h g => pe_str.to (g.now rw (.str x) h)
/-- a module's constant -/
def GC (X : Cx) (x : Str) (d : D) : Prop := ∃ u v, X.mg x = some u ∧ RelV v u ∧ ∀ r H, RD X.K r H d v
theorem ok_glob {x : Str} {d : D} {pos : Pos} (c : GC X x d) (hg : Gl X x := by rfl) (hd : (x == ("__debug__" : Str)) = false := by decide) : OkE X (eLit d) (.Name x pos) := fun r S σ w H k Q rs rw h g => by
  obtain ⟨u, v, h1, h2, h3⟩ := c
  exact (pe_glob hg h1 h2 hd).to (g.now rw (h3 r H) h)
/-- a built-in class -/
theorem ok_ty {x : Str} {T : String} {pos : Pos} (hm : X.mg x = none) (hv : bootBuiltins x = some (.type T)) (hg : Gl X x := by rfl) (hn : x ≠ "__name__" := by decide) (hd : (x == ("__debug__" : Str)) = false := by decide) :
    OkE X (eLit (.ty T)) (.Name x pos) := fun r S σ w H k Q rs rw h g => (pe_bltn (v := .ty T) hg hm hv rfl hn hd).to (g.now rw (.ty T) h)

/-! ### operators -/
def eBin (op : O2) (a b : F) : F := fun S w k => a S w fun x w1 => b S w1 fun y w2 => op x y w2 k
theorem two {op : O2} {fa fb : F} {a b : Expr} {f : Value → Value → Sem Value} (ho : OkR X op f) (ha : OkE X fa a) (hb : OkE X fb b) (rs : RS X.K r H S σ) (rw : RW X.K r w H) (h : eBin op fa fb S w k = true) (g : Go X.K r H k Q) :
    tOp (tR X f) (tE X a) (tE X b) σ H Q := by
  refine ha r S σ w H _ _ rs rw h fun r1 d x w1 H1 g1 rw1 rd1 h1 => ?_
  refine hb r1 S σ w1 H1 _ _ (rs.mono g1 rw.sep) rw1 h1 fun r2 e y w2 H2 g2 rw2 rd2 h2 => ?_
  exact ho r2 w2 H2 d e x y k Q rw2 (rd1.mono g2 rw1.sep) rd2 h2 (g.later (g1.trans rw1.sep g2) rw2.sep)
theorem ok_bin {op : O2} {fa fb : F} {a b : Expr} {o : Operator} {pos : Pos} (ho : OkR X op (binaryOp o)) (ha : OkE X fa a) (hb : OkE X fb b) : OkE X (eBin op fa fb) (.BinOp a o b pos) := fun r S σ w H k Q rs rw h g =>
  (pe_op (op_tR _) (pe_tE a) (pe_tE b)).to (two ho ha hb rs rw h g)
theorem ok_cmp {op : O2} {fa fb : F} {a b : Expr} {o : CmpOp} {pos : Pos} (ho : OkR X op (compareOp o)) (ha : OkE X fa a) (hb : OkE X fb b) (hm : behindInMarks o b = false := by rfl) : OkE X (eBin op fa fb) (.Compare a [o] [b] pos) := fun r S σ w H k Q rs rw h g =>
  (pe_cmpR (op_tR _) (pe_tE a) (pe_tE b) hm).to (two ho ha hb rs rw h g)
/-- as a test -/
def eTst (f : F) : F := fun S w k => f S w fun d w1 => swB d fun b => k (.bl b) w1
theorem ok_tcmp {op : O2} {fa fb : F} {a b : Expr} {o : CmpOp} {pos : Pos} (ho : OkR X op (compareOp o)) (ha : OkE X fa a) (hb : OkE X fb b) (hm : behindInMarks o b = false := by rfl) : OkT X (eTst (eBin op fa fb)) (.Compare a [o] [b] pos) := fun r S σ w H k Q rs rw h g =>
  (pt_cmpR (op_tR _) (pe_tE a) (pe_tE b) hm).to (two ho ha hb rs rw h fun r' d v w' H' gr rw' rd hk => by
    obtain ⟨b, rfl, hk⟩ := swB_ hk
    cases rd
    exact ⟨b, rfl, g r' b w' H' gr rw' hk⟩)
/-- a < b < c -/
def eChn (op op' : O2) (a b c : F) : F := fun S w k => a S w fun x w1 => b S w1 fun y w2 => op x y w2 fun z w3 => swB z fun t => ife t (c S w3 fun u w4 => op' y u w4 k) (k (.bl false) w3)
theorem chn {op op' : O2} {fa fb fc : F} {a b c : Expr} {f f' : Value → Value → Sem Value} (ho : OkR X op f) (ho' : OkR X op' f') (ha : OkE X fa a) (hb : OkE X fb b) (hc : OkE X fc c) (rs : RS X.K r H S σ) (rw : RW X.K r w H)
    (h : eChn op op' fa fb fc S w k = true) (g : Go X.K r H k Q) : tChain (tR X f) (tR X f') (tE X a) (tE X b) (tE X c) σ H Q := by
  refine ha r S σ w H _ _ rs rw h fun r1 d x w1 H1 g1 rw1 rd1 h1 => ?_
  refine hb r1 S σ w1 H1 _ _ (rs.mono g1 rw.sep) rw1 h1 fun r2 e y w2 H2 g2 rw2 rd2 h2 => ?_
  have g12 := g1.trans rw1.sep g2
  refine ho r2 w2 H2 d e x y _ _ rw2 (rd1.mono g2 rw1.sep) rd2 h2 fun r3 z v w3 H3 g3 rw3 rd3 h3 => ?_
  obtain ⟨t, rfl, h3⟩ := swB_ h3
  cases rd3
  have g13 := g12.trans rw2.sep g3
  refine ⟨t, rfl, ?_⟩
  rcases ife_ h3 with ⟨rfl, h3⟩ | ⟨rfl, h3⟩
  · rw [if_pos rfl]
    refine hc r3 S σ w3 H3 _ _ (rs.mono g13 rw.sep) rw3 h3 fun r4 u z w4 H4 g4 rw4 rd4 h4 => ?_
    exact ho' r4 w4 H4 e u y z k Q rw4 ((rd2.mono g3 rw2.sep).mono g4 rw3.sep) rd4 h4 (g.later (g13.trans rw3.sep g4) rw4.sep)
  · rw [if_neg Bool.false_ne_true]
    exact g r3 (.bl false) _ w3 H3 g13 rw3 (.bl false) h3
theorem ok_chn {op op' : O2} {fa fb fc : F} {a b c : Expr} {o o' : CmpOp} {pos : Pos} (ho : OkR X op (compareOp o)) (ho' : OkR X op' (compareOp o')) (ha : OkE X fa a) (hb : OkE X fb b) (hc : OkE X fc c)
    (hm : lastMarks [o, o'] [b, c] = false := by with_unfolding_all rfl) : OkE X (eChn op op' fa fb fc) (.Compare a [o, o'] [b, c] pos) := fun r S σ w H k Q rs rw h g =>
  (pe_chain (op_tR _) (op_tR _) (pe_tE a) (pe_tE b) (pe_tE c) hm).to (chn ho ho' ha hb hc rs rw h g)
theorem ok_tchn {op op' : O2} {fa fb fc : F} {a b c : Expr} {o o' : CmpOp} {pos : Pos} (ho : OkR X op (compareOp o)) (ho' : OkR X op' (compareOp o')) (ha : OkE X fa a) (hb : OkE X fb b) (hc : OkE X fc c)
    (hm : lastMarks [o, o'] [b, c] = false := by with_unfolding_all rfl) : OkT X (eTst (eChn op op' fa fb fc)) (.Compare a [o, o'] [b, c] pos) := fun r S σ w H k Q rs rw h g =>
  (pt_chain (op_tR _) (op_tR _) (pe_tE a) (pe_tE b) (pe_tE c) hm).to (chn ho ho' ha hb hc rs rw h fun r' d v w' H' gr rw' rd hk => by
    obtain ⟨b, rfl, hk⟩ := swB_ hk
    cases rd
    exact ⟨b, rfl, g r' b w' H' gr rw' hk⟩)
def eUn (op : O1) (a : F) : F := fun S w k => a S w fun x w1 => op x w1 k
theorem ok_un {op : O1} {fa : F} {a : Expr} {o : UnaryOp} {pos : Pos} (ho : OkU X op (unaryOp o)) (ha : OkE X fa a) : OkE X (eUn op fa) (.UnaryOp o a pos) := fun r S σ w H k Q rs rw h g =>
  (pe_un (un_tU _) (pe_tE a)).to (ha r S σ w H _ _ rs rw h fun r1 d x w1 H1 g1 rw1 rd1 h1 => ho r1 w1 H1 d x k Q rw1 rd1 h1 (g.later g1 rw1.sep))

/-! ### and, or, not, if -/
def eAnd (a b : F) : F := fun S w k => a S w fun x w1 => swB x fun t => ife t (b S w1 k) (k (.bl false) w1)
def eOr (a b : F) : F := fun S w k => a S w fun x w1 => swB x fun t => ife t (k (.bl true) w1) (b S w1 k)
def eNot (a : F) : F := fun S w k => a S w fun x w1 => swB x fun t => k (.bl (bNot t)) w1
def eIf (c a b : F) : F := fun S w k => c S w fun x w1 => swB x fun t => ife t (a S w1 k) (b S w1 k)
theorem ok_one {fa : F} {a : Expr} {op : BoolOp} {pos : Pos} (ha : OkE X fa a) : OkE X fa (.BoolOp op [a] pos) := fun r S σ w H k Q rs rw h g => (pe_one (pe_tE a)).to (ha r S σ w H k Q rs rw h g)
theorem ok_and {fa fb : F} {a b : Expr} {rest : List Expr} {pos : Pos} (ha : OkE X fa a) (hb : OkE X fb (.BoolOp .And (b :: rest) pos)) : OkE X (eAnd fa fb) (.BoolOp .And (a :: b :: rest) pos) := fun r S σ w H k Q rs rw h g =>
  (pe_and (pe_tE a) (pe_tE _)).to (ha r S σ w H _ _ rs rw h fun r1 d x w1 H1 g1 rw1 rd1 h1 => by
    obtain ⟨t, rfl, h1⟩ := swB_ h1
    cases rd1
    refine ⟨t, rfl, ?_⟩
    rcases ife_ h1 with ⟨rfl, h1⟩ | ⟨rfl, h1⟩
    · rw [if_pos rfl]
      exact hb r1 S σ w1 H1 k Q (rs.mono g1 rw.sep) rw1 h1 (g.later g1 rw1.sep)
    · rw [if_neg Bool.false_ne_true]
      exact g r1 (.bl false) _ w1 H1 g1 rw1 (.bl false) h1)
theorem ok_or {fa fb : F} {a b : Expr} {rest : List Expr} {pos : Pos} (ha : OkE X fa a) (hb : OkE X fb (.BoolOp .Or (b :: rest) pos)) : OkE X (eOr fa fb) (.BoolOp .Or (a :: b :: rest) pos) := fun r S σ w H k Q rs rw h g =>
  (pe_or (pe_tE a) (pe_tE _)).to (ha r S σ w H _ _ rs rw h fun r1 d x w1 H1 g1 rw1 rd1 h1 => by
    obtain ⟨t, rfl, h1⟩ := swB_ h1
    cases rd1
    refine ⟨t, rfl, ?_⟩
    rcases ife_ h1 with ⟨rfl, h1⟩ | ⟨rfl, h1⟩
    · rw [if_pos rfl]
      exact g r1 (.bl true) _ w1 H1 g1 rw1 (.bl true) h1
    · rw [if_neg Bool.false_ne_true]
      exact hb r1 S σ w1 H1 k Q (rs.mono g1 rw.sep) rw1 h1 (g.later g1 rw1.sep))
theorem ok_not {fa : F} {a : Expr} {pos : Pos} (ha : OkE X fa a) : OkE X (eNot fa) (.UnaryOp .Not a pos) := fun r S σ w H k Q rs rw h g =>
  (pe_not (pe_tE a)).to (ha r S σ w H _ _ rs rw h fun r1 d x w1 H1 g1 rw1 rd1 h1 => by
    obtain ⟨t, rfl, h1⟩ := swB_ h1
    cases rd1
    have h1 : k (.bl (bNot t)) w1 = true := h1
    rw [bNot_eq] at h1
    exact ⟨t, rfl, g r1 (.bl (!t)) _ w1 H1 g1 rw1 (.bl (!t)) h1⟩)
theorem GoT.later {Q : Bool → Hp → Prop} (g : GoT K r H k Q) (a : Gr r H r1 H1) (q : Sep r1 H1) : GoT K r1 H1 k Q := fun r' b w' H' c rw hk => g r' b w' H' (a.trans q c) rw hk
theorem ok_w {fa : F} {a : Expr} (h : OkW X fa a) : OkT X fa a := fun r S σ w H k Q rs rw q g pins s I => h r S σ w H k Q rs rw q g _ pins s I
theorem ok_wand1 {fa : F} {a : Expr} {pos : Pos} (ha : OkT X fa a) : OkW X fa (.BoolOp .And [a] pos) := fun r S σ w H k Q rs rw h g => (pw_and1 (pt_tT a)).to (ha r S σ w H k Q rs rw h g)
theorem ok_wor1 {fa : F} {a : Expr} {pos : Pos} (ha : OkT X fa a) : OkW X fa (.BoolOp .Or [a] pos) := fun r S σ w H k Q rs rw h g => (pw_or1 (pt_tT a)).to (ha r S σ w H k Q rs rw h g)
theorem ok_wand {fa fb : F} {a b : Expr} {rest : List Expr} {pos : Pos} (ha : OkT X fa a) (hb : OkW X fb (.BoolOp .And (b :: rest) pos)) : OkW X (eAnd fa fb) (.BoolOp .And (a :: b :: rest) pos) := fun r S σ w H k Q rs rw h g =>
  (pw_and (pt_tT a) (pw_tW _)).to (ha r S σ w H _ _ rs rw h fun r1 t w1 H1 g1 rw1 h1 => by
    rcases ife_ (show ife t _ _ = true from h1) with ⟨rfl, h1⟩ | ⟨rfl, h1⟩
    · rw [if_pos rfl]
      exact hb r1 S σ w1 H1 k Q (rs.mono g1 rw.sep) rw1 h1 (g.later g1 rw1.sep)
    · rw [if_neg Bool.false_ne_true]
      exact g r1 false w1 H1 g1 rw1 h1)
theorem ok_wor {fa fb : F} {a b : Expr} {rest : List Expr} {pos : Pos} (ha : OkT X fa a) (hb : OkW X fb (.BoolOp .Or (b :: rest) pos)) : OkW X (eOr fa fb) (.BoolOp .Or (a :: b :: rest) pos) := fun r S σ w H k Q rs rw h g =>
  (pw_or (pt_tT a) (pw_tW _)).to (ha r S σ w H _ _ rs rw h fun r1 t w1 H1 g1 rw1 h1 => by
    rcases ife_ (show ife t _ _ = true from h1) with ⟨rfl, h1⟩ | ⟨rfl, h1⟩
    · rw [if_pos rfl]
      exact g r1 true w1 H1 g1 rw1 h1
    · rw [if_neg Bool.false_ne_true]
      exact hb r1 S σ w1 H1 k Q (rs.mono g1 rw.sep) rw1 h1 (g.later g1 rw1.sep))
theorem ok_tnot {fa : F} {a : Expr} {pos : Pos} (ha : OkT X fa a) : OkT X (eNot fa) (.UnaryOp .Not a pos) := fun r S σ w H k Q rs rw h g =>
  (pt_not (pt_tT a)).to (ha r S σ w H _ _ rs rw h fun r1 t w1 H1 g1 rw1 h1 => by
    have h1 : k (.bl (bNot t)) w1 = true := h1
    rw [bNot_eq] at h1
    exact g r1 (!t) w1 H1 g1 rw1 h1)
theorem ok_if {fc fa fb : F} {c a b : Expr} {pos : Pos} (hc : OkT X fc c) (ha : OkE X fa a) (hb : OkE X fb b) : OkE X (eIf fc fa fb) (.IfExp c a b pos) := fun r S σ w H k Q rs rw h g =>
  (pe_ifExp (pt_tT c) (pe_tE a) (pe_tE b)).to (hc r S σ w H _ _ rs rw h fun r1 t w1 H1 g1 rw1 h1 => by
    rcases ife_ (show ife t _ _ = true from h1) with ⟨rfl, h1⟩ | ⟨rfl, h1⟩
    · rw [if_pos rfl]
      exact ha r1 S σ w1 H1 k Q (rs.mono g1 rw.sep) rw1 h1 (g.later g1 rw1.sep)
    · rw [if_neg Bool.false_ne_true]
      exact hb r1 S σ w1 H1 k Q (rs.mono g1 rw.sep) rw1 h1 (g.later g1 rw1.sep))
/-- a value's truth -/
def nilB (d : D) (k : Bool → Bool) : Bool := D.rec (motive := fun _ => Bool) false false (fun _ => false) (fun _ => false) (fun _ => false) (k false) (fun _ _ _ _ => k true) (fun _ _ => false) (fun _ => false) (fun _ => false) false (fun _ _ => false) (fun _ _ => false) d
theorem nilB_ {d : D} {vs : List V} {k : Bool → Bool} (l : RL K r H d vs) (h : nilB d k = true) : k (!vs.isEmpty) = true := by
  cases l with
  | nil => exact h
  | cons _ _ => exact h
def truD (d : D) (w : Wd) (k : Bool → Bool) : Bool := D.rec (motive := fun _ => Bool) false (k false) k (fun i => k (bNot (iEq i (Int.ofNat 0)))) (fun _ => false) false (fun _ _ _ _ => false) (fun l _ => nilB l k) (fun i => Option.rec false (fun l => nilB l k) (lookL w.h i)) (fun _ => false) false (fun _ _ => false) (fun _ _ => false) d
def eTru (f : F) : F := fun S w k => f S w fun d w1 => truD d w1 fun b => k (.bl b) w1
theorem truD_ {d : D} {v : V} {k : Bool → Bool} (rw : RW K r w H) (rd : RD K r H d v) (h : truD d w k = true) : ∃ b, TruV K v H b ∧ k b = true := by
  cases rd with
  | non => exact ⟨false, rfl, h⟩
  | bl b => exact ⟨b, rfl, h⟩
  | int i =>
    have h : k (bNot (iEq i (Int.ofNat 0))) = true := h
    rw [bNot_eq, iEq_eq] at h
    refine ⟨i != 0, rfl, ?_⟩
    have e : (i != 0) = !decide (i = Int.ofNat 0) := by
      by_cases z : i = 0
      · subst z; rfl
      · rw [decide_eq_false (show ¬ i = Int.ofNat 0 from z)]; exact bne_iff_ne.mpr z
    rw [e]; exact h
  | str x => exact absurd (show false = true from h) Bool.false_ne_true
  | ty s => exact absurd (show false = true from h) Bool.false_ne_true
  | pot => exact absurd (show false = true from h) Bool.false_ne_true
  | rep => exact absurd (show false = true from h) Bool.false_ne_true
  | rol _ => exact absurd (show false = true from h) Bool.false_ne_true
  | tup hq l => exact ⟨_, .inr (.inl ⟨_, hq, rfl⟩), nilB_ l h⟩
  | ref hi =>
    rename_i i
    obtain ⟨vs, e, q⟩ := rw.lst i hi
    have h : (Option.rec false (fun l => nilB l k) (lookL w.h i) : Bool) = true := h
    cases z : lookL w.h i with
    | none => rw [z] at h; exact absurd (show false = true from h) Bool.false_ne_true
    | some l =>
      rw [z] at h
      exact ⟨_, .inl ⟨vs, SqL.of e, rfl⟩, nilB_ (q l z) h⟩
theorem ok_tru {fa : F} {a : Expr} (ha : OkE X fa a) (he : ∀ whole, isTrue a X.env whole = (do let v ← whole; standAt a.pos; holding [v] (truthy v)) := by intro _; rfl) : OkT X (eTru fa) a := fun r S σ w H k Q rs rw h g =>
  (pt_truth (pe_tE a) he).to (ha r S σ w H _ _ rs rw h fun r1 d x w1 H1 g1 rw1 rd1 h1 => by
    obtain ⟨b, z1, z2⟩ := truD_ rw1 rd1 h1
    exact ⟨b, z1, g r1 b w1 H1 g1 rw1 z2⟩)

/-! ### arguments, displays, calls -/
def eNil : F := fun _ w k => k .nil w
def eCons (a t : F) : F := fun S w k => a S w fun x w1 => t S w1 fun xs w2 => k (.cons x xs) w2
theorem ok_nil : OkA X eNil [] := fun r S σ w H k Q rs rw h g => pa_nil.to (g r .nil [] w H .refl rw .nil h)
theorem ok_cons {fa ft : F} {e : Expr} {es : List Expr} (ha : OkE X fa e) (ht : OkA X ft es) (hs : starEach (e :: es) X.env = (false, eval e X.env) :: starEach es X.env := by rfl) : OkA X (eCons fa ft) (e :: es) := fun r S σ w H k Q rs rw h g =>
  (pa_cons (pe_tE e) (pa_tA es) hs).to (ha r S σ w H _ _ rs rw h fun r1 d x w1 H1 g1 rw1 rd1 h1 =>
    ht r1 S σ w1 H1 _ _ (rs.mono g1 rw.sep) rw1 h1 fun r2 ds xs w2 H2 g2 rw2 rl2 h2 => g r2 (.cons d ds) (x :: xs) w2 H2 (g1.trans rw1.sep g2) rw2 (.cons (rd1.mono g2 rw1.sep) rl2) h2)
def small : Nat := 100000
theorem small_le {n : Nat} (h : Nat.ble n small = true) : n ≤ sizeLine := Nat.le_trans (Nat.le_of_ble_eq_true h) (by decide)
theorem small_lt {n : Nat} (h : Nat.ble n small = true) : n < sizeLine := Nat.lt_of_le_of_lt (Nat.le_of_ble_eq_true h) (by decide)
def eTup (t : F) : F := fun S w k => t S w fun xs w1 => et (Nat.ble (lenD xs) small) (k (.tup xs) w1)
def eLst (t : F) : F := fun S w k => t S w fun xs w1 => et (Nat.ble (lenD xs) small) (k (.ref w1.n) (w1.more xs))
theorem GoA.later {Q : List V → Hp → Prop} (g : GoA K r H k Q) (a : Gr r H r1 H1) (q : Sep r1 H1) : GoA K r1 H1 k Q := fun r' b vs w' H' c rw rl hk => g r' b vs w' H' (a.trans q c) rw rl hk
theorem ok_tup {ft : F} {es : List Expr} {x1 pos} (ht : OkA X ft es) : OkE X (eTup ft) (.Tuple es x1 pos) := fun r S σ w H k Q rs rw h g =>
  (pe_tup (pa_tA es)).to (ht r S σ w H _ _ rs rw h fun r1 ds xs w1 H1 g1 rw1 rl1 h1 => by
    obtain ⟨h2, h3⟩ := et_ h1
    rw [rl1.len] at h2
    exact ⟨small_le h2, fun p hp => (g.later g1 rw1.sep).newT rw1 rl1 hp h3⟩)
theorem ok_lst {ft : F} {es : List Expr} {pos} (ht : OkA X ft es) : OkE X (eLst ft) (.List es pos) := fun r S σ w H k Q rs rw h g =>
  (pe_lst (pa_tA es)).to (ht r S σ w H _ _ rs rw h fun r1 ds xs w1 H1 g1 rw1 rl1 h1 => by
    obtain ⟨h2, h3⟩ := et_ h1
    rw [rl1.len] at h2
    exact ⟨small_le h2, fun p hp => (g.later g1 rw1.sep).newL rw1 rl1 hp h3⟩)
/-- a built-in function, a built-in class called -/
def eCb (op : O1) (t : F) : F := fun S w k => t S w fun xs w1 => op xs w1 k
theorem ok_cb {op : O1} {ft : F} {x : Str} {p pos : Pos} {e : Expr} {es : List Expr} {id : String} (hc : OkB X op (.builtin id)) (ht : OkA X ft (e :: es)) (hm : X.mg x = none) (hg : Gl X x := by rfl) (hv : bootBuiltins x = some (.builtin id) := by rfl)
    (hn : x ≠ "__name__" := by decide) (hdb : (x == ("__debug__" : Str)) = false := by decide) (he : starEach (e :: es) X.env = (false, eval e X.env) :: starEach es X.env := by rfl) (hpl : (backTo pos (starEach es X.env)).any (·.1) = false := by rfl) :
    OkE X (eCb op ft) (.Call (.Name x p) (e :: es) [] pos) := fun r S σ w H k Q rs rw h g =>
  (pe_callB (cr_tB _) hg hm hv (pa_tA _) hn hdb he hpl).to (ht r S σ w H _ _ rs rw h fun r1 ds xs w1 H1 g1 rw1 rl1 h1 => hc r1 w1 H1 ds xs k Q rw1 rl1 h1 (g.later g1 rw1.sep))
end
end Ear
namespace Ear
open PySem PySem.Spec PyProof.Rows L2

abbrev Kn := Sg → Wd → Bool
/-- a statement: what comes next, what is returned, break, continue -/
abbrev G := Sg → Wd → Kn → Kt → Kn → Kn → Bool
/-- a target -/
abbrev T := D → Sg → Wd → Kn → Bool

/-- slots, with room -/
abbrev RZ (K : PySem.W.Frag) (r : Rh) (H : Hp) (S : Sg) (σ : L2.St) : Prop := RS K r H S σ
section
variable {X : Cx} {K : PySem.W.Frag} {r r1 r' : Rh} {S S' : Sg} {σ : L2.St} {w w1 : Wd} {H H1 H' : Hp} {k : Kt} {Q : VK} {pos : Pos}

def tG (X : Cx) (e : Expr) : TG := fun v σ H Q => ∀ (pins : List (Addr × Obj)) (s : Shared) (u : Value), Inv X pins σ H s → RelV v u → wpAny (model X.prog X.w) X.A (assign e X.env u) (fun _ s' => ∃ σ' H', Inv X pins σ' H' s' ∧ Q σ' H') X.xe s
def tGs (X : Cx) (es : List Expr) : TGs := fun vs σ H Q => ∀ (pins : List (Addr × Obj)) (s : Shared) (us : List Value), Inv X pins σ H s → Vals vs us → wpAny (model X.prog X.w) X.A (assignInOrder ((assignEach es X.env).map (·.2)) us) (fun _ s' => ∃ σ' H', Inv X pins σ' H' s' ∧ Q σ' H') X.xe s
def tS (X : Cx) (st : Stmt) : TS := fun D σ H => ∀ (pins : List (Addr × Obj)) (s : Shared), Inv X pins σ H s → wpAny (model X.prog X.w) X.A (exec st X.env) (SP X pins D) X.xe s
def tSs (X : Cx) (st : List Stmt) : TS := fun D σ H => ∀ (pins : List (Addr × Obj)) (s : Shared), Inv X pins σ H s → wpAny (model X.prog X.w) X.A (execs st X.env) (SP X pins D) X.xe s
def tI (X : Cx) (tg iter : Expr) : TI := fun σ H R => ∀ (pins : List (Addr × Obj)) (s : Shared), Inv X pins σ H s → wpAny (model X.prog X.w) X.A (eval iter X.env) (fun v s1 => wpAny (model X.prog X.w) X.A (pyIter v) (PIE X pins σ tg R) X.xe s1) X.xe s
theorem pg_tG (e : Expr) : PG X e (tG X e) := ⟨fun pins s σ H v u Q I r h => h pins s u I r⟩
theorem pgs_tGs (es : List Expr) : PGs X es (tGs X es) := ⟨fun pins s σ H v u Q I r h => h pins s u I r⟩
theorem ps_tS (st : Stmt) : PS X st (tS X st) := ⟨fun pins s σ H D I h => h pins s I⟩
theorem pss_tSs (st : List Stmt) : PSs X st (tSs X st) := ⟨fun pins s σ H D I h => h pins s I⟩
theorem pi_tI (tg iter : Expr) : PI X tg iter (tI X tg iter) := ⟨fun pins s σ H R I h => h pins s I⟩
theorem _root_.L2.PG.to {e : Expr} {t : TG} {v : V} {Q : L2.St → Hp → Prop} (h : PG X e t) (q : t v σ H Q) : tG X e v σ H Q := fun pins s u I rv => h.run pins s σ H v u Q I rv q
theorem _root_.L2.PGs.to {e : List Expr} {t : TGs} {v : List V} {Q : L2.St → Hp → Prop} (h : PGs X e t) (q : t v σ H Q) : tGs X e v σ H Q := fun pins s u I rv => h.run pins s σ H v u Q I rv q
theorem _root_.L2.PS.to {st : Stmt} {t : TS} {D : Ends} (h : PS X st t) (q : t D σ H) : tS X st D σ H := fun pins s I => h.run pins s σ H D I q
theorem _root_.L2.PSs.to {st : List Stmt} {t : TS} {D : Ends} (h : PSs X st t) (q : t D σ H) : tSs X st D σ H := fun pins s I => h.run pins s σ H D I q
theorem _root_.L2.PI.to {tg iter : Expr} {t : TI} {R : It → Hp → Prop} (h : PI X tg iter t) (q : t σ H R) : tI X tg iter σ H R := fun pins s I => h.run pins s σ H R I q

def GoS (K : PySem.W.Frag) (r : Rh) (H : Hp) (k : Kn) (Q : L2.St → Hp → Prop) : Prop := ∀ (r' : Rh) (S' : Sg) (σ' : L2.St) (w' : Wd) (H' : Hp), Gr r H r' H' → RZ K r' H' S' σ' → RW K r' w' H' → k S' w' = true → Q σ' H'
theorem GoS.later {k : Kn} {Q : L2.St → Hp → Prop} (g : GoS K r H k Q) (a : Gr r H r1 H1) (q : Sep r1 H1) : GoS K r1 H1 k Q := fun r' S' σ' w' H' b rz rw hk => g r' S' σ' w' H' (a.trans q b) rz rw hk
def OkG (X : Cx) (t : T) (e : Expr) : Prop := ∀ (r : Rh) (S : Sg) (σ : L2.St) (w : Wd) (H : Hp) (d : D) (v : V) (k : Kn) (Q : L2.St → Hp → Prop), RZ X.K r H S σ → RW X.K r w H → RD X.K r H d v → t d S w k = true → GoS X.K r H k Q → tG X e v σ H Q
def OkGs (X : Cx) (t : T) (es : List Expr) : Prop := ∀ (r : Rh) (S : Sg) (σ : L2.St) (w : Wd) (H : Hp) (d : D) (vs : List V) (k : Kn) (Q : L2.St → Hp → Prop), RZ X.K r H S σ → RW X.K r w H → RL X.K r H d vs → t d S w k = true → GoS X.K r H k Q → tGs X es vs σ H Q
/-- what is wanted behind a statement, on both sides -/
structure Ok4 (K : PySem.W.Frag) (r : Rh) (H : Hp) (nx : Kn) (rt : Kt) (bk ct : Kn) (D : Ends) : Prop where
  nx : GoS K r H nx D.nx
  rt : Go K r H rt D.rt
  bk : GoS K r H bk D.bk
  ct : GoS K r H ct D.ct
theorem Ok4.later {nx : Kn} {rt : Kt} {bk ct : Kn} {D : Ends} (g : Ok4 K r H nx rt bk ct D) (a : Gr r H r1 H1) (q : Sep r1 H1) : Ok4 K r1 H1 nx rt bk ct D := ⟨g.nx.later a q, g.rt.later a q, g.bk.later a q, g.ct.later a q⟩
def OkS (X : Cx) (f : G) (st : Stmt) : Prop := ∀ (r : Rh) (S : Sg) (σ : L2.St) (w : Wd) (H : Hp) (nx : Kn) (rt : Kt) (bk ct : Kn) (D : Ends), RZ X.K r H S σ → RW X.K r w H → f S w nx rt bk ct = true → Ok4 X.K r H nx rt bk ct D → tS X st D σ H
def OkSs (X : Cx) (f : G) (st : List Stmt) : Prop := ∀ (r : Rh) (S : Sg) (σ : L2.St) (w : Wd) (H : Hp) (nx : Kn) (rt : Kt) (bk ct : Kn) (D : Ends), RZ X.K r H S σ → RW X.K r w H → f S w nx rt bk ct = true → Ok4 X.K r H nx rt bk ct D → tSs X st D σ H

/-! ### targets -/
def lset (S : Sg) (i : Nat) (d : D) : Sg := (List.rec (motive := fun _ => Nat → Sg) (fun _ => []) (fun x r ih i => Nat.rec (d :: r) (fun j _ => x :: ih j) i) S) i
theorem lset_eq (d : D) : ∀ (S : Sg) (i : Nat), lset S i d = S.set i d
  | [], i => rfl
  | x :: S, 0 => rfl
  | x :: S, i + 1 => congrArg (x :: ·) (lset_eq d S i)
theorem RS.set {i : Nat} {d : D} {v : V} (h : RZ K r H S σ) (rd : RD K r H d v) : RZ K r H (lset S i d) (σ.set i (some v)) := by
  rw [lset_eq]
  refine ⟨fun j e he => ?_, by rw [List.length_set, List.length_set]; exact h.2⟩
  by_cases c : j = i
  · subst c
    have hl : j < S.length := by
      have := (List.getElem?_eq_some_iff.mp he).1
      rw [List.length_set] at this
      exact this
    rw [List.getElem?_set_self hl] at he
    cases he
    exact .inr ⟨v, List.getElem?_set_self (Nat.lt_of_lt_of_le hl h.2), rd⟩
  · rw [List.getElem?_set_ne (Ne.symm c)] at he
    rcases h.1 j e he with z | ⟨u, z1, z2⟩
    · exact .inl z
    · exact .inr ⟨u, by rw [List.getElem?_set_ne (Ne.symm c)]; exact z1, z2⟩
def gSet (i : Nat) : T := fun d S w k => k (lset S i d) w
theorem ok_gname (i : Nat) {x : Str} (hN : X.N.Nodup) (hi : X.N[i]? = some x := by rfl) (hx : Loc X.env.scope x := by first | exact Or.inl rfl | exact Or.inr rfl)
    (hf : X.fn x = true ∨ X.env.scope.names.lookup x = some .local := by first | exact .inl rfl | exact .inr rfl) : OkG X (gSet i) (.Name x pos) := fun r S σ w H d v k Q rz rw rd h g =>
  (pg_name hN hi hx hf).to (g r _ _ w H .refl (rz.set rd) rw h)
def gNo : T := fun d S w k => swN d (k S w)
def gMore (t u : T) : T := fun d S w k => swC d fun x l => t x S w fun S1 w1 => u l S1 w1 k
theorem ok_gno : OkGs X gNo [] := fun r S σ w H d vs k Q rz rw rl h g => by
  obtain ⟨rfl, h⟩ := swN_ h
  cases rl
  exact pgs_nil.to ⟨rfl, g r S σ w H .refl rz rw h⟩
theorem ok_gmore {t u : T} {e : Expr} {es : List Expr} (ht : OkG X t e) (hu : OkGs X u es) (hs : (assignEach (e :: es) X.env).map (·.2) = assign e X.env :: (assignEach es X.env).map (·.2) := by rfl) : OkGs X (gMore t u) (e :: es) := fun r S σ w H d vs k Q rz rw rl h g => by
  obtain ⟨x, l, rfl, h⟩ := swC_ h
  cases rl with
  | cons rx rl =>
    refine (pgs_cons (pg_tG e) (pgs_tGs es) hs).to ⟨_, _, rfl, ht r S σ w H x _ _ _ rz rw rx h fun r1 S1 σ1 w1 H1 g1 rz1 rw1 h1 => ?_⟩
    exact hu r1 S1 σ1 w1 H1 l _ k Q rz1 rw1 (rl.mono g1 rw.sep) h1 (g.later g1 rw1.sep)
def gTp (n : Nat) (t : T) : T := fun d S w k => swT d fun l => et (Nat.beq (lenD l) n) (t l S w k)
theorem ok_gtup {t : T} {es : List Expr} {n k0 : Nat} (hc : X.calm = true) (ht : OkGs X t es) (hn : (assignEach es X.env).length = n := by rfl) (hst : (assignEach es X.env).findIdx? (·.1) = none := by rfl) : OkG X (gTp n t) (.Tuple es k0 pos) := fun r S σ w H d v k Q rz rw rd h g => by
  obtain ⟨l, rfl, h⟩ := swT_ h
  obtain ⟨h1, h2⟩ := et_ h
  cases rd with
  | tup hq rl =>
    refine (pg_tup hc (pgs_tGs es) hn hst).to ⟨_, _, rfl, hq, ?_, ht r S σ w H l _ k Q rz rw rl h2 g⟩
    rw [← rl.len]
    exact Nat.eq_of_beq_eq_true h1

/-! ### statements -/
def sSkip : G := fun S w nx _ _ _ => nx S w
def sSeq (a b : G) : G := fun S w nx rt bk ct => a S w (fun S1 w1 => b S1 w1 nx rt bk ct) rt bk ct
def sBrk : G := fun S w _ _ bk _ => bk S w
def sCnt : G := fun S w _ _ _ ct => ct S w
def sRet (f : F) : G := fun S w _ rt _ _ => f S w rt
def sRetN : G := fun S w _ rt _ _ => rt .non w
def sExp (f : F) : G := fun S w nx _ _ _ => f S w fun _ w1 => nx S w1
def sAsg (f : F) (t : T) : G := fun S w nx _ _ _ => f S w fun d w1 => t d S w1 nx
def sPar (i j : Nat) (f : F) : G := fun S w nx _ _ _ => f S w fun d w1 => swC d fun a l => swC l fun b m => swN m (nx (lset (lset S i a) j b) w1)
def sIf (c : F) (a b : G) : G := fun S w nx rt bk ct => c S w fun d w1 => swB d fun t => ife t (a S w1 nx rt bk ct) (b S w1 nx rt bk ct)
/-- code that is never come to -/
def sNo : G := fun _ _ _ _ _ _ => false
theorem ok_sno {st : Stmt} : OkS X sNo st := fun r S σ w H nx rt bk ct D rz rw h g => absurd (show false = true from h) Bool.false_ne_true
theorem ok_ssno {st : List Stmt} : OkSs X sNo st := fun r S σ w H nx rt bk ct D rz rw h g => absurd (show false = true from h) Bool.false_ne_true
theorem ok_skip : OkSs X sSkip [] := fun r S σ w H nx rt bk ct D rz rw h g => pss_nil.to (g.nx r S σ w H .refl rz rw h)
theorem ok_seq {a b : G} {st : Stmt} {rest : List Stmt} (ha : OkS X a st) (hb : OkSs X b rest) : OkSs X (sSeq a b) (st :: rest) := fun r S σ w H nx rt bk ct D rz rw h g =>
  (pss_cons (ps_tS st) (pss_tSs rest)).to (ha r S σ w H _ rt bk ct _ rz rw h ⟨fun r1 S1 σ1 w1 H1 g1 rz1 rw1 h1 => hb r1 S1 σ1 w1 H1 nx rt bk ct D rz1 rw1 h1 (g.later g1 rw1.sep), g.rt, g.bk, g.ct⟩)
theorem ok_last {a : G} {st : Stmt} (ha : OkS X a st) : OkSs X a [st] := fun r S σ w H nx rt bk ct D rz rw h g => (pss_one (ps_tS st)).to (ha r S σ w H nx rt bk ct D rz rw h g)
theorem ok_pass : OkS X sSkip (.Pass pos) := fun r S σ w H nx rt bk ct D rz rw h g => ps_pass.to (g.nx r S σ w H .refl rz rw h)
theorem ok_brk : OkS X sBrk (.Break pos) := fun r S σ w H nx rt bk ct D rz rw h g => ps_break.to (g.bk r S σ w H .refl rz rw h)
theorem ok_cnt : OkS X sCnt (.Continue pos) := fun r S σ w H nx rt bk ct D rz rw h g => ps_continue.to (g.ct r S σ w H .refl rz rw h)
theorem ok_ret {f : F} {e : Expr} (he : OkE X f e) : OkS X (sRet f) (.Return (some e) pos) := fun r S σ w H nx rt bk ct D rz rw h g => (ps_ret (pe_tE e)).to (he r S σ w H rt D.rt rz rw h g.rt)
theorem ok_retn : OkS X sRetN (.Return none pos) := fun r S σ w H nx rt bk ct D rz rw h g => ps_retN.to (g.rt.now rw .non h)
theorem ok_exp {f : F} {e : Expr} (he : OkE X f e) (hs : swapsWith e none pos.line X.env = pure false := by rfl) : OkS X (sExp f) (.Expr e pos) := fun r S σ w H nx rt bk ct D rz rw h g =>
  (ps_expr (pe_tE e) hs).to (he r S σ w H _ _ rz rw h fun r1 d v w1 H1 g1 rw1 _ h1 => g.nx r1 S σ w1 H1 g1 (rz.mono g1 rw.sep) rw1 h1)
theorem ok_asg {f : F} {t : T} {tg e : Expr} (he : OkE X f e) (ht : OkG X t tg) (hs : swapsWithSole [tg] e pos.line X.env = pure false := by rfl) (hw : swappedStores [tg] e X.env = pure none := by rfl)
    (h1 : (assignEach [tg] X.env).map (·.2) = [assign tg X.env] := by rfl) : OkS X (sAsg f t) (.Assign [tg] e pos) := fun r S σ w H nx rt bk ct D rz rw h g =>
  (ps_asg (pe_tE e) (pg_tG tg) hs hw h1).to (he r S σ w H _ _ rz rw h fun r1 d v w1 H1 g1 rw1 rd1 h1 => ht r1 S σ w1 H1 d v nx D.nx (rz.mono g1 rw.sep) rw1 rd1 h1 (g.nx.later g1 rw1.sep))
theorem ok_set (i : Nat) {f : F} {x : Str} {pos' : Pos} {e : Expr} (hN : X.N.Nodup) (he : OkE X f e) (hi : X.N[i]? = some x := by rfl) (hx : Loc X.env.scope x := by first | exact Or.inl rfl | exact Or.inr rfl)
    (hs : swapsWith e (some (.Name x pos')) pos.line X.env = pure false := by rfl) (hf : X.fn x = true ∨ X.env.scope.names.lookup x = some .local := by first | exact .inl rfl | exact .inr rfl) : OkS X (sAsg f (gSet i)) (.Assign [.Name x pos'] e pos) := fun r S σ w H nx rt bk ct D rz rw h g =>
  (ps_set hN hi hx (pe_tE e) hs hf).to (he r S σ w H _ _ rz rw h fun r1 d v w1 H1 g1 rw1 rd1 h1 => g.nx r1 _ _ w1 H1 g1 ((rz.mono g1 rw.sep).set rd1) rw1 h1)
theorem ok_par (i j : Nat) {f : F} {x y : Str} {a b : Expr} {px py pt : Pos} {kt k2 pt2} (hc : X.calm = true) (hN : X.N.Nodup) (ha : OkA X f [a, b]) (hi : X.N[i]? = some x := by rfl) (hj : X.N[j]? = some y := by rfl) (hij : i ≠ j := by decide)
    (hx : X.env.scope.names.lookup x = some .local := by rfl) (hy : X.env.scope.names.lookup y = some .local := by rfl) (hw : swappedStores [.Tuple [.Name x px, .Name y py] kt pt] (.Tuple [a, b] k2 pt2) X.env = pure (some [x, y]) := by rfl)
    (hs : swapsWithSole [.Tuple [.Name x px, .Name y py] kt pt] (.Tuple [a, b] k2 pt2) pos.line X.env = pure false := by rfl) : OkS X (sPar i j f) (.Assign [.Tuple [.Name x px, .Name y py] kt pt] (.Tuple [a, b] k2 pt2) pos) := fun r S σ w H nx rt bk ct D rz rw h g =>
  (ps_par hc hN hi hj hij hx hy (pa_tA [a, b]) hw hs).to (ha r S σ w H _ _ rz rw h fun r1 d vs w1 H1 g1 rw1 rl1 h1 => by
    obtain ⟨p, l, rfl, h2⟩ := swC_ h1
    obtain ⟨q, m, rfl, h3⟩ := swC_ h2
    obtain ⟨rfl, h3⟩ := swN_ h3
    cases rl1 with
    | cons rp rl =>
      cases rl with
      | cons rq rl =>
        cases rl with
        | nil => exact ⟨_, _, rfl, g.nx r1 _ _ w1 H1 g1 (((rz.mono g1 rw.sep).set rp).set rq) rw1 h3⟩)
theorem ok_sif {fc : F} {fa fb : G} {c : Expr} {a b : List Stmt} (hc : OkT X fc c) (ha : OkSs X fa a) (hb : OkSs X fb b) : OkS X (sIf fc fa fb) (.If c a b pos) := fun r S σ w H nx rt bk ct D rz rw h g =>
  (ps_if (pt_tT c) (pss_tSs a) (pss_tSs b)).to (hc r S σ w H _ _ rz rw h fun r1 t w1 H1 g1 rw1 h1 => by
    rcases ife_ (show ife t _ _ = true from h1) with ⟨rfl, h1⟩ | ⟨rfl, h1⟩
    · rw [if_pos rfl]
      exact ha r1 S σ w1 H1 nx rt bk ct D (rz.mono g1 rw.sep) rw1 h1 (g.later g1 rw1.sep)
    · rw [if_neg Bool.false_ne_true]
      exact hb r1 S σ w1 H1 nx rt bk ct D (rz.mono g1 rw.sep) rw1 h1 (g.later g1 rw1.sep))
/-- while -/
def fuel : Nat := 100000
def whl (c : F) (b : G) (nx : Kn) (rt : Kt) (n : Nat) : Kn := Nat.rec (motive := fun _ => Kn) (fun _ _ => false) (fun _ ih S w => c S w fun d w1 => swB d fun t => ife t (b S w1 ih rt nx ih) (nx S w1)) n
def sWhl (c : F) (b : G) : G := fun S w nx rt _ _ => whl c b nx rt fuel S w
theorem ok_whl {fc : F} {fb : G} {c : Expr} {body : List Stmt} (hp : PassesOwn (model X.prog X.w) X.A X.env X.xe) (hc : OkT X fc c) (hb : OkSs X fb body) : OkS X (sWhl fc fb) (.While c body [] pos) := fun r S σ w H nx rt bk ct D rz rw h g =>
  (ps_while hp (pt_tT c) (pss_tSs body)).to ⟨fun m σ1 H1 => ∃ r1 S1 w1, Gr r H r1 H1 ∧ RZ X.K r1 H1 S1 σ1 ∧ RW X.K r1 w1 H1 ∧ whl fc fb nx rt m S1 w1 = true, ⟨fuel, r, S, w, .refl, rz, rw, h⟩, by
    rintro m σ1 H1 ⟨r1, S1, w1, g1, rz1, rw1, h1⟩
    cases m with
    | zero => exact absurd (show false = true from h1) Bool.false_ne_true
    | succ m =>
      refine hc r1 S1 σ1 w1 H1 _ _ rz1 rw1 h1 fun r2 t w2 H2 g2 rw2 h2 => ?_
      have g12 := g1.trans rw1.sep g2
      have rz2 := rz1.mono g2 rw1.sep
      have gg := g.later g12 rw2.sep
      rcases ife_ (show ife t _ _ = true from h2) with ⟨rfl, h2⟩ | ⟨rfl, h2⟩
      · rw [if_pos rfl]
        refine ⟨fun σ3 H3 => ∃ m', m' < m + 1 ∧ ∃ r3 S3 w3, Gr r H r3 H3 ∧ RZ X.K r3 H3 S3 σ3 ∧ RW X.K r3 w3 H3 ∧ whl fc fb nx rt m' S3 w3 = true, fun _ _ z => z, ?_⟩
        have nxt : GoS X.K r2 H2 (whl fc fb nx rt m) (fun σ3 H3 => ∃ m', m' < m + 1 ∧ ∃ r3 S3 w3, Gr r H r3 H3 ∧ RZ X.K r3 H3 S3 σ3 ∧ RW X.K r3 w3 H3 ∧ whl fc fb nx rt m' S3 w3 = true) :=
          fun r3 S3 σ3 w3 H3 g3 rz3 rw3 h3 => ⟨m, Nat.lt_succ_self m, r3, S3, w3, g12.trans rw2.sep g3, rz3, rw3, h3⟩
        exact hb r2 S1 σ1 w2 H2 _ rt nx _ _ rz2 rw2 h2 ⟨nxt, gg.rt, gg.nx, nxt⟩
      · rw [if_neg Bool.false_ne_true]
        exact g12 |> fun _ => g.nx r2 S1 σ1 w2 H2 g12 rz2 rw2 h2⟩

/-! ### defs -/
abbrev C := D → Wd → Kt → Bool
/-- the slots at a def's entry -/
def slots (d : D) (more : Sg) : Sg := D.rec (motive := fun _ => Sg) more more (fun _ => more) (fun _ => more) (fun _ => more) more (fun x _ _ ih => x :: ih) (fun _ _ => more) (fun _ => more) (fun _ => more) more (fun _ _ => more) (fun _ _ => more) d
def fnC (more : Sg) (g : G) : C := fun d w k => g (slots d more) w (fun _ w1 => k .non w1) k (fun _ _ => false) (fun _ _ => false)
def spEv (K : PySem.W.Frag) (np : Nat) (c : C) : Sp := fun vs H Q _ => vs.length = np ∧ ∃ (r : Rh) (w : Wd) (d : D) (k : Kt), RL K r H d vs ∧ RW K r w H ∧ c d w k = true ∧ Go K r H k Q
/-- a def's promise where no guard is at work around -/
structure FnG (P : Program) (W : World) (K : PySem.W.Frag) (mg : Str → Option Value) (base : Heap) (k : Nat) (f : Addr) (fd : FuncData) (ps : List Str) (sp : Sp) : Prop where
  many : ∀ vs H Q E, sp vs H Q E → vs.length = ps.length
  goes : ∀ (A : Around) (outer : List Env) (s : Shared) (H : Hp) (ar : Args) (us : List Value) (vs : List V) (Q : VK) (E : XK), Room k A → A.guards = some [] → Env0 P W K mg base A outer s H →
    BindsTo s fd ar (ps.zip us) → Vals vs us → sp vs H Q E → codeAny (model P W) A (.call (.ref f) ar) (CR CX0 outer P W H s Q E) s
theorem FnG.of {P : Program} {W : World} {mg : Str → Option Value} {base : Heap} {k : Nat} {f : Addr} {fd : FuncData} {ps : List Str} {sp : Sp} (F : FnOk P W K mg base CX0 k f fd ps sp) : FnG P W K mg base k f fd ps sp :=
  ⟨F.len, fun A outer s H ar us vs Q E a _ b c d e => F.run A outer s H ar us vs Q E a b c d e⟩
/-- the def that is called x tells what c tells -/
def Fa (P : Program) (W : World) (K : PySem.W.Frag) (mg : Str → Option Value) (base : Heap) (x : Str) (np : Nat) (c : C) (lev : Nat) : Prop :=
  ∃ f fd ps, FnG P W K mg base lev f fd ps (spEv K np c) ∧ mg x = some (.ref f) ∧ PySem.W.keepIn K (.ref f) = true ∧ Binds K fd ps []
/-- where calls may be made -/
structure Ro (k : Nat) (A : Around) : Prop where
  room : Room k A
  gd : A.guards = some []
def eCall (c : C) (np : Nat) (t : F) : F := fun S w k => t S w fun d w1 => et (Nat.beq (lenD d) np) (c d w1 k)
theorem pe_fa {k : Nat} {f : Addr} {fd : FuncData} {ps : List Str} {sp : Sp} {x : Str} {p : Pos} {e : Expr} {es : List Expr} {t : TA} (F : FnG X.prog X.w X.K X.mg X.base k f fd ps sp) (hr : Ro k X.A) (hg : Gl X x) (hm : X.mg x = some (.ref f)) (hk : PySem.W.keepIn X.K (.ref f) = true) (hb : Binds X.K fd ps []) (hx : X.xe = fun _ _ => False)
    (ha : PA X (e :: es) t) (hdb : (x == ("__debug__" : Str)) = false) (he : starEach (e :: es) X.env = (false, eval e X.env) :: starEach es X.env) (hpl : (backTo pos (starEach es X.env)).any (·.1) = false) : PE X (.Call (.Name x p) (e :: es) [] pos) (fun σ H Q => t σ H fun vs H1 => sp vs H1 Q E0) := by
  constructor
  intro pins s σ H Q I h
  apply wpAny_Call_Name_kw
  refine ld_glob I hg hm (PySem.W.callWith_K I.ok.mod.kin hk (thn (ha.run pos pins s σ H _ I h) ?_) he hpl) hdb
  rintro us s1 ⟨vs, H1, I1, rv, q⟩
  refine ⟨I1.kIn, wpAny_call (codeAny_mono (F.goes X.A X.stack s1 H1 ⟨us, []⟩ us vs Q E0 hr.room hr.gd I1.env0 ?_ rv q) ?_)⟩
  · have hl : (us ++ []).length = ps.length := by
      rw [List.append_nil, ← rv.length]
      exact F.many vs H1 Q E0 q
    have := hb s1 us I1.kIn hl
    rw [List.append_nil] at this
    exact this
  · intro res s2 hq
    match res, hq with
    | .ok (.ret u), hq => exact I1.after hq
    | .error _, hq => exact False.elim hq
    | .ok .next, hq => exact False.elim hq
    | .ok .brk, hq => exact False.elim hq
    | .ok .cont, hq => exact False.elim hq
theorem Ro.mono {j k : Nat} {A : Around} (h : Ro k A) (q : j ≤ k) : Ro j A := ⟨h.room.mono q, h.gd⟩
theorem ok_call {x : Str} {np : Nat} {c : C} {lev lv : Nat} {ft : F} {e : Expr} {es : List Expr} {p : Pos} (F : Fa X.prog X.w X.K X.mg X.base x np c lev) (hr : Ro lv X.A) (hl : lev ≤ lv) (ht : OkA X ft (e :: es)) (hx : X.xe = fun _ _ => False := by rfl) (hg : Gl X x := by rfl)
    (hdb : (x == ("__debug__" : Str)) = false := by decide) (he : starEach (e :: es) X.env = (false, eval e X.env) :: starEach es X.env := by rfl) (hpl : (backTo pos (starEach es X.env)).any (·.1) = false := by rfl) : OkE X (eCall c np ft) (.Call (.Name x p) (e :: es) [] pos) := fun r S σ w H k Q rs rw h g => by
  obtain ⟨f, fd, ps, ok, hm, hk, hb⟩ := F
  refine (pe_fa ok (hr.mono hl) hg hm hk hb hx (pa_tA (e :: es)) hdb he hpl).to (ht r S σ w H _ _ rs rw h fun r1 d vs w1 H1 g1 rw1 rl1 h1 => ?_)
  obtain ⟨h2, h3⟩ := et_ h1
  exact ⟨by rw [← rl1.len]; exact Nat.eq_of_beq_eq_true h2, r1, w1, d, k, rl1, rw1, h3, g.later g1 rw1.sep⟩
theorem slots_get {more : Sg} {e : D} : ∀ {d : D} {vs : List V} {i : Nat}, RL K r H d vs → (slots d more)[i]? = some e → (∃ v, vs[i]? = some v ∧ RD K r H e v) ∨ e ∈ more
  | _, _, i, .nil, h => .inr (List.mem_of_getElem? h)
  | _, _, 0, .cons rd rl, h => .inl ⟨_, rfl, by cases h; exact rd⟩
  | _, _, i + 1, .cons rd rl, h => slots_get (i := i) rl h
theorem slots_len {more : Sg} : ∀ {d : D} {vs : List V}, RL K r H d vs → (slots d more).length = vs.length + more.length
  | _, _, .nil => by show more.length = _; simp
  | _, _, .cons rd rl => by
    show (slots _ more).length + 1 = _
    rw [slots_len rl, List.length_cons]; omega
section
variable {P : Program} {W : World} {mg : Str → Option Value} {base : Heap}
/-- a def by its body, the guards told -/
theorem fnG_of {x qual : Str} {st : Stmt} {f : Addr} {fd : FuncData} {N ps : List Str} {k : Nat} {sp : Sp} (F : Fun K x qual st f fd) (S : FnScope N ps (defScope st)) (many : ∀ vs H Q E, sp vs H Q E → vs.length = ps.length)
    (body : ∀ (cdv : Value) (A : Around) (outer : List Env) (s : Shared) (H : Hp) (vs : List V) (Q : VK) (E : XK), Ro k (A.deeper (envOfC qual (defScope st) s.heap.objs.size f cdv)) → sp vs H Q E →
      tSs (cxOf CX0 P W K mg base N qual (defScope st) f cdv A outer s H E).nox (defBody st) { nx := fun _ H' => Q .non H', rt := Q } (L2.start N vs) H) : FnG P W K mg base (k + 1) f fd ps sp := by
  obtain ⟨oc, od, kV, doc, pm, an, cdv, ct, osl, rfl, lk, code⟩ := F.ex
  refine ⟨many, ?_⟩
  intro A outer s H ar us vs Q E room gd e0 bind rv hsp
  have inK : K.In s.heap := e0.mod.kin.keeps fun b o e => (e0.bs b o e).1
  have names : ∀ y ∈ ps.zip us, (defScope st).names.lookup y.1 = some .local ∨ ((defScope st).names.lookup y.1 = some .cell ∧ ((cellsFrom (s.heap.objs.size + 1) (defScope st).names []).lookup y.1).isSome = true) := by
    rintro ⟨n, v⟩ hy
    have hn := (List.of_mem_zip hy).1
    exact (S.par n hn).imp id fun c => ⟨c, PySem.W.cellsFrom_some _ _ _ (.inl c)⟩
  refine codeAny_call_function room.depth (inK _ _ lk) rfl S.co S.gen rfl (PySem.W.codeRec_of inK code) (bind _ _ _ _ ?_)
  refine wpAny_newFunctionEnv_cells S.kind names ?_
  rintro env rfl s1 new
  refine ⟨(e0.mod.nolimit.keeps fun b o e => (e0.bs b o e).1).keeps new.toInCall.keep, codeAny_func ?_⟩
  have deep : Ro k (A.deeper (envOfC qual (defScope st) s.heap.objs.size f cdv)) := ⟨room.deeper _, gd⟩
  have I0 := inv_start (CX := CX0) (E := E) S room.hd e0 (many _ _ _ _ hsp) rv new
  have run := (((pss_tSs (X := (cxOf CX0 P W K mg base N qual (defScope st) f cdv A outer s H E).nox) (defBody st)).nox).run [] s1 (L2.start N vs) H _ I0 (body cdv A outer s H vs Q E deep hsp))
  refine wpAny_mono run ?_ fun e s' hs => hs
  rintro fl s' hs
  match fl, hs with
  | .ret u, ⟨v, σ', H', J, ru, q⟩ => exact ⟨v, H', J.os, J.bare, J.base, J.hok, ru, q⟩
  | .next, ⟨σ', H', J, q⟩ => exact ⟨V.non, H', J.os, J.bare, J.base, J.hok, rfl, q⟩
  | .brk, ⟨_, _, _, q⟩ => exact False.elim q
  | .cont, ⟨_, _, _, q⟩ => exact False.elim q
theorem ok_fn {x qual : Str} {st : Stmt} {f : Addr} {fd : FuncData} {N ps : List Str} {k np : Nat} {g : G} {more : Sg} (F : Fun K x qual st f fd) (S : FnScope N ps (defScope st)) (hnp : ps.length = np) (hN : np + more.length = N.length) (hm : ∀ e ∈ more, e = D.und)
    (body : ∀ (cdv : Value) (A : Around) (outer : List Env) (s : Shared) (H : Hp) (E : XK), Ro k (A.deeper (envOfC qual (defScope st) s.heap.objs.size f cdv)) →
      OkSs (cxOf CX0 P W K mg base N qual (defScope st) f cdv A outer s H E).nox g (defBody st)) : FnG P W K mg base (k + 1) f fd ps (spEv K np (fnC more g)) := by
  refine fnG_of F S (fun vs H Q E h => by rw [h.1, hnp]) fun cdv A outer s H vs Q E hr h => ?_
  obtain ⟨hl, r, w, d, k', rl, rw, hc, go⟩ := h
  have rz : RZ K r H (slots d more) (L2.start N vs) := by
    refine ⟨fun i e he => ?_, ?_⟩
    · rcases slots_get rl he with ⟨v, z1, z2⟩ | z
      · refine .inr ⟨v, ?_, z2⟩
        unfold L2.start
        have hi : i < vs.length := (List.getElem?_eq_some_iff.mp z1).1
        rw [List.getElem?_append_left (by simpa using hi), List.getElem?_map, z1]
        rfl
      · exact .inl (hm e z)
    · unfold L2.start
      rw [slots_len rl, List.length_append, List.length_map, List.length_replicate]
      omega
  refine body cdv A outer s H E hr r (slots d more) (L2.start N vs) w H _ k' _ _ _ rz rw hc ⟨fun r' S' σ' w' H' g' rz' rw' h' => ?_, go, ?_, ?_⟩
  · exact go r' .non .non w' H' g' rw' .non h'
  · intro r' S' σ' w' H' _ _ _ h'
    exact absurd (show false = true from h') Bool.false_ne_true
  · intro r' S' σ' w' H' _ _ _ h'
    exact absurd (show false = true from h') Bool.false_ne_true
end
end
end Ear
namespace Ear
open PySem PySem.Spec PyProof.Rows L2

/-! ### iterators -/
section
variable {X : Cx} {K : PySem.W.Frag} {r r0 r1 r2 r' : Rh} {S S' : Sg} {σ : L2.St} {w w1 w' : Wd} {H H0 H1 H2 H' : Hp} {k : Kt} {Q : VK} {pos : Pos} {d e l : D} {v x y : V} {vs xs ys : List V}
/-- what is left of a list behind i items; item i -/
def dropD (l : D) (i : Nat) : D := Nat.rec (motive := fun _ => D) l (fun _ ih => D.rec (motive := fun _ => D) .und .und (fun _ => .und) (fun _ => .und) (fun _ => .und) .nil (fun _ t _ _ => t) (fun _ _ => .und) (fun _ => .und) (fun _ => .und) .und (fun _ _ => .und) (fun _ _ => .und) ih) i
def atD (l : D) (i : Nat) : Option D := match l, i with
  | .cons d _, 0 => some d
  | .cons _ t, i + 1 => atD t i
  | _, _ => none
theorem drop_succ_cons {d t : D} : ∀ (i : Nat), dropD (.cons d t) (i + 1) = dropD t i
  | 0 => rfl
  | i + 1 => by
    have ih := drop_succ_cons (d := d) (t := t) i
    show (D.rec _ _ _ _ _ _ _ _ _ _ _ _ _ (dropD (.cons d t) (i + 1)) : D) = D.rec _ _ _ _ _ _ _ _ _ _ _ _ _ (dropD t i)
    rw [ih]
theorem drop_cons : ∀ {l : D} {vs : List V} {i : Nat} {d t : D}, RL K r H l vs → dropD l i = .cons d t → atD l i = some d ∧ dropD l (i + 1) = t ∧ i < vs.length
  | _, _, 0, d, t, .cons rd rl, h => by cases h; exact ⟨rfl, rfl, Nat.succ_pos _⟩
  | _, _, i + 1, d, t, .cons rd rl, h => by
    rw [drop_succ_cons] at h
    obtain ⟨h1, h2, h3⟩ := drop_cons (i := i) rl h
    exact ⟨h1, by rw [drop_succ_cons]; exact h2, Nat.succ_lt_succ h3⟩
  | _, _, 0, d, t, .nil, h => by cases h
  | _, _, i + 1, d, t, .nil, h => by
    have z : ∀ j, ∀ d t, dropD .nil j ≠ .cons d t := fun j => by
      induction j with
      | zero => intro d t e; cases e
      | succ j ih =>
        intro d t e
        have : dropD .nil j = .nil ∨ dropD .nil j = .und := by
          clear e ih
          induction j with
          | zero => exact .inl rfl
          | succ j ih =>
            rcases ih with z | z
            · left; show (D.rec _ _ _ _ _ _ _ _ _ _ _ _ _ (dropD .nil j) : D) = _; rw [z]
            · right; show (D.rec _ _ _ _ _ _ _ _ _ _ _ _ _ (dropD .nil j) : D) = _; rw [z]
        have e : (D.rec (motive := fun _ => D) .und .und (fun _ => .und) (fun _ => .und) (fun _ => .und) .nil (fun _ t _ _ => t) (fun _ _ => .und) (fun _ => .und) (fun _ => .und) .und (fun _ _ => .und) (fun _ _ => .und) (dropD .nil j) : D) = .cons d t := e
        rcases this with z | z
        · rw [z] at e; cases e
        · rw [z] at e; cases e
    exact absurd h (z (i + 1) d t)
theorem drop_nil : ∀ {l : D} {vs : List V} {i : Nat}, RL K r H l vs → dropD l i = .nil → vs.length ≤ i
  | _, _, _, .nil, _ => Nat.zero_le _
  | _, _, 0, .cons rd rl, h => by cases h
  | _, _, i + 1, .cons rd rl, h => by
    rw [drop_succ_cons] at h
    exact Nat.succ_le_succ (drop_nil (i := i) rl h)
theorem at_get : ∀ {l : D} {vs : List V} {i : Nat} {d : D}, RL K r H l vs → atD l i = some d → ∃ v, vs[i]? = some v ∧ RD K r H d v
  | _, _, 0, d, .cons rd rl, h => by cases h; exact ⟨_, rfl, rd⟩
  | _, _, i + 1, d, .cons rd rl, h => at_get (i := i) rl h
  | _, _, 0, d, .nil, h => by cases h
  | _, _, i + 1, d, .nil, h => by cases h
/-- a list indeed -/
inductive Ls : D → Prop
  | nil : Ls .nil
  | cons {d t : D} (h : Ls t) : Ls (.cons d t)
theorem RL.ls : ∀ {l : D} {vs : List V}, RL K r H l vs → Ls l
  | _, _, .nil => .nil
  | _, _, .cons _ rl => .cons (RL.ls rl)
theorem drop_ls {l : D} (h : Ls l) : ∀ i, Ls (dropD l i)
  | 0 => h
  | i + 1 => by
    cases h with
    | nil =>
      have : dropD .nil (i + 1) = .nil := by
        induction i with
        | zero => rfl
        | succ i ih => show (D.rec _ _ _ _ _ _ _ _ _ _ _ _ _ (dropD .nil (i + 1)) : D) = _; rw [ih]
      rw [this]; exact .nil
    | cons h => rw [drop_succ_cons]; exact drop_ls h i
theorem ls_cons : ∀ {l : D} {i : Nat} {d t : D}, Ls l → dropD l i = .cons d t → atD l i = some d ∧ dropD l (i + 1) = t ∧ i < lenD l
  | _, 0, d, t, .cons q, h => by cases h; exact ⟨rfl, rfl, Nat.succ_pos _⟩
  | _, i + 1, d, t, .cons q, h => by
    rw [drop_succ_cons] at h
    obtain ⟨h1, h2, h3⟩ := ls_cons (i := i) q h
    exact ⟨h1, by rw [drop_succ_cons]; exact h2, Nat.succ_lt_succ h3⟩
  | _, 0, d, t, .nil, h => by cases h
  | _, i + 1, d, t, .nil, h => by
    exfalso
    have : dropD .nil (i + 1) = .nil := by
      clear h
      induction i with
      | zero => rfl
      | succ i ih => show (D.rec _ _ _ _ _ _ _ _ _ _ _ _ _ (dropD .nil (i + 1)) : D) = _; rw [ih]
    rw [this] at h
    cases h
theorem ls_nil : ∀ {l : D} {i : Nat}, Ls l → dropD l i = .nil → lenD l ≤ i
  | _, _, .nil, _ => Nat.zero_le _
  | _, 0, .cons q, h => by cases h
  | _, i + 1, .cons q, h => by
    rw [drop_succ_cons] at h
    exact Nat.succ_le_succ (ls_nil (i := i) q h)
/-- an iterator over items that are known: as many -/
def SnapO (K : PySem.W.Frag) (r0 : Rh) (H0 : Hp) (J : It) (l : D) : Prop := ∀ (r : Rh) (w : Wd) (H : Hp), Gr r0 H0 r H → RW K r w H → ∃ us, RL K r H l us ∧ ∀ i, (i < us.length → J.go i H) ∧ (us.length ≤ i → J.stop i H) ∧
  ∀ x H' d, J.yld i H x H' → atD l i = some d → RW K r w H' ∧ Gr r H r H' ∧ RD K r H' d x
def Snap (K : PySem.W.Frag) (r0 : Rh) (H0 : Hp) (J : It) (l : D) : Prop := ∀ (r : Rh) (w : Wd) (H : Hp), Gr r0 H0 r H → RW K r w H → Ls l ∧ ∀ i, (i < lenD l → J.go i H) ∧ (lenD l ≤ i → J.stop i H) ∧
  ∀ x H' d, J.yld i H x H' → atD l i = some d → RW K r w H' ∧ Gr r H r H' ∧ RD K r H' d x
theorem Snap.of {J : It} (h : SnapO K r H J l) : Snap K r H J l := fun r2 w2 H2 g2 rw2 => by
  obtain ⟨us, rl, q⟩ := h r2 w2 H2 g2 rw2
  rw [rl.len]
  exact ⟨rl.ls, q⟩
/-- .. over list number j of the store, as it is at each turn; m: what is made of an item -/
def Live (K : PySem.W.Frag) (r0 : Rh) (H0 : Hp) (J : It) (j : Nat) (m : Nat → D → D) : Prop := ∀ (r : Rh) (w : Wd) (H : Hp) (l : D), Gr r0 H0 r H → RW K r w H → lookL w.h j = some l → ∃ us, RL K r H l us ∧ ∀ i, (i < us.length → J.go i H) ∧ (us.length ≤ i → J.stop i H) ∧
  ∀ x H' d, J.yld i H x H' → atD l i = some d → RW K r w H' ∧ Gr r H r H' ∧ RD K r H' (m i d) x
abbrev IF := Sg → Wd → (D → Wd → Bool) → (Nat → (Nat → D → D) → Wd → Bool) → Bool
def OkI (X : Cx) (f : IF) (tg iter : Expr) : Prop := ∀ (r : Rh) (S : Sg) (σ : L2.St) (w : Wd) (H : Hp) (ks : D → Wd → Bool) (kl : Nat → (Nat → D → D) → Wd → Bool) (R : It → Hp → Prop), RS X.K r H S σ → RW X.K r w H → f S w ks kl = true →
  (∀ r' l w' H' J, Gr r H r' H' → RW X.K r' w' H' → Snap X.K r' H' J l → ks l w' = true → R J H') → (∀ r' j m w' H' J, Gr r H r' H' → RW X.K r' w' H' → Live X.K r' H' J j m → kl j m w' = true → R J H') → tI X tg iter σ H R
/-- a loop's turns, over known items, over a list -/
def forS (l : D) (step : D → Sg → Wd → Kn → Bool) (done : Kn) : Kn := D.rec (motive := fun _ => Kn) (fun _ _ => false) (fun _ _ => false) (fun _ _ _ => false) (fun _ _ _ => false) (fun _ _ _ => false) done (fun d _ _ ih S w => step d S w ih) (fun _ _ _ _ => false) (fun _ _ _ => false) (fun _ _ _ => false) (fun _ _ => false) (fun _ _ _ _ => false) (fun _ _ _ _ => false) l
def swNC (l : D) (kn : Bool) (kc : D → Bool) : Bool := D.rec (motive := fun _ => Bool) false false (fun _ => false) (fun _ => false) (fun _ => false) kn (fun d _ _ _ => kc d) (fun _ _ => false) (fun _ => false) (fun _ => false) false (fun _ _ => false) (fun _ _ => false) l
theorem swNC_ {l : D} {kn : Bool} {kc : D → Bool} (h : swNC l kn kc = true) : (l = .nil ∧ kn = true) ∨ ∃ d t, l = .cons d t ∧ kc d = true := by
  cases l <;> first | exact .inl ⟨rfl, h⟩ | exact .inr ⟨_, _, rfl, h⟩ | exact absurd (show false = true from h) Bool.false_ne_true
def onL (h : List (Nat × D)) (j : Nat) (k : D → Bool) : Bool := Option.rec false k (lookL h j)
theorem onL_ {h : List (Nat × D)} {j : Nat} {k : D → Bool} (q : onL h j k = true) : ∃ l, lookL h j = some l ∧ k l = true := by
  unfold onL at q
  cases e : lookL h j with
  | none => rw [e] at q; exact absurd (show false = true from q) Bool.false_ne_true
  | some l => rw [e] at q; exact ⟨l, rfl, q⟩
def forL (j : Nat) (m : Nat → D → D) (step : D → Sg → Wd → Kn → Bool) (done : Kn) (n : Nat) : Nat → Kn := Nat.rec (motive := fun _ => Nat → Kn) (fun _ _ _ => false) (fun _ ih i S w => onL w.h j fun l => swNC (dropD l i) (done S w) fun d => step (m i d) S w (ih (Nat.succ i))) n
def sFor (it : IF) (t : T) (b : G) : G := fun S w nx rt _ _ => it S w (fun l w1 => forS l (fun d S2 w2 n => t d S2 w2 fun S3 w3 => b S3 w3 n rt nx n) nx S w1) (fun j m w1 => forL j m (fun d S2 w2 n => t d S2 w2 fun S3 w3 => b S3 w3 n rt nx n) nx fuel 0 S w1)
theorem lenD_RL (h : RL K r H l vs) : lenD l = vs.length := h.len
theorem ok_for {it : IF} {t : T} {fb : G} {tg iter : Expr} {body : List Stmt} (hp : PassesOwn (model X.prog X.w) X.A X.env X.xe) (hc : X.calm = true) (hi : OkI X it tg iter) (hg : OkG X t tg) (hb : OkSs X fb body) (hs : ∀ x, foldedSetIterable iter X.env x = pure x := by intro _; rfl) :
    OkS X (sFor it t fb) (.For tg iter body [] pos) := fun r S σ w H nx rt bk ct D rz rw h g => by
  refine (ps_for hp hc (pi_tI tg iter) (pg_tG tg) (pss_tSs body) hs).to (hi r S σ w H _ _ _ rz rw h (fun r1 l w1 H1 J g1 rw1 sn h1 => ?_) (fun r1 j m w1 H1 J g1 rw1 lv h1 => ?_))
  · -- known items
    have rz1 := rz.mono g1 rw.sep
    refine ⟨fun i m σ2 H2 => ∃ r2 S2 w2 t2, Gr r1 H1 r2 H2 ∧ RZ X.K r2 H2 S2 σ2 ∧ RW X.K r2 w2 H2 ∧ dropD l i = t2 ∧ lenD t2 = m ∧ forS t2 (fun d S2 w2 n => t d S2 w2 fun S3 w3 => fb S3 w3 n rt nx n) nx S2 w2 = true,
      ⟨lenD l, r1, S, w1, l, .refl, rz1, rw1, rfl, rfl, h1⟩, ?_⟩
    rintro i m σ2 H2 ⟨r2, S2, w2, t2, g2, rz2, rw2, e1, e2, h2⟩
    obtain ⟨rl, J3⟩ := sn r2 w2 H2 g2 rw2
    obtain ⟨j1, j2, j3⟩ := J3 i
    have g12 := g1.trans rw1.sep g2
    cases t2 with
    | nil => exact .inl ⟨j2 (ls_nil rl e1), g.nx r2 S2 σ2 w2 H2 g12 rz2 rw2 h2⟩
    | cons d t3 =>
      obtain ⟨a1, a2, a3⟩ := ls_cons rl e1
      refine .inr ⟨j1 a3, fun σ3 H3 => ∃ r3 S3 w3, Gr r1 H1 r3 H3 ∧ RZ X.K r3 H3 S3 σ3 ∧ RW X.K r3 w3 H3 ∧ forS t3 (fun d S2 w2 n => t d S2 w2 fun S3 w3 => fb S3 w3 n rt nx n) nx S3 w3 = true,
        fun σ3 H3 ⟨r3, S3, w3, z1, z2, z3, z4⟩ => ⟨lenD t3, by rw [← e2]; exact Nat.lt_succ_self _, r3, S3, w3, t3, z1, z2, z3, a2, rfl, z4⟩, fun x H3 yl => ?_⟩
      obtain ⟨rw3, g3, rd3⟩ := j3 x H3 d yl a1
      have g13 := g12.trans rw2.sep g3
      refine hg r2 S2 σ2 w2 H3 d x _ _ (rz2.mono g3 rw2.sep) rw3 rd3 h2 fun r4 S4 σ4 w4 H4 g4 rz4 rw4 h4 => ?_
      have g14 := g13.trans rw3.sep g4
      have nxt : GoS X.K r4 H4 (forS t3 (fun d S2 w2 n => t d S2 w2 fun S3 w3 => fb S3 w3 n rt nx n) nx) (fun σ3 H3 => ∃ r3 S3 w3, Gr r1 H1 r3 H3 ∧ RZ X.K r3 H3 S3 σ3 ∧ RW X.K r3 w3 H3 ∧ forS t3 (fun d S2 w2 n => t d S2 w2 fun S3 w3 => fb S3 w3 n rt nx n) nx S3 w3 = true) :=
        fun r5 S5 σ5 w5 H5 g5 rz5 rw5 h5 => ⟨r5, S5, w5, ((g2.trans rw2.sep g3).trans rw3.sep g4).trans rw4.sep g5, rz5, rw5, h5⟩
      have gg := g.later g14 rw4.sep
      exact hb r4 S4 σ4 w4 H4 _ rt nx _ _ rz4 rw4 h4 ⟨nxt, gg.rt, gg.nx, nxt⟩
    | _ => exact absurd (show false = true from h2) Bool.false_ne_true
  · -- a list
    have rz1 := rz.mono g1 rw.sep
    refine ⟨fun i n σ2 H2 => ∃ r2 S2 w2, Gr r1 H1 r2 H2 ∧ RZ X.K r2 H2 S2 σ2 ∧ RW X.K r2 w2 H2 ∧ forL j m (fun d S2 w2 n => t d S2 w2 fun S3 w3 => fb S3 w3 n rt nx n) nx n i S2 w2 = true, ⟨fuel, r1, S, w1, .refl, rz1, rw1, h1⟩, ?_⟩
    rintro i n σ2 H2 ⟨r2, S2, w2, g2, rz2, rw2, h2⟩
    cases n with
    | zero => exact absurd (show false = true from h2) Bool.false_ne_true
    | succ n =>
      obtain ⟨l, hl, h2⟩ := onL_ (show onL w2.h j _ = true from h2)
      obtain ⟨us, rl, J3⟩ := lv r2 w2 H2 l g2 rw2 hl
      obtain ⟨j1, j2, j3⟩ := J3 i
      have g12 := g1.trans rw1.sep g2
      rcases swNC_ h2 with ⟨e1, h2⟩ | ⟨d, t3, e1, h2⟩
      · exact .inl ⟨j2 (drop_nil rl e1), g.nx r2 S2 σ2 w2 H2 g12 rz2 rw2 h2⟩
      · obtain ⟨a1, a2, a3⟩ := drop_cons rl e1
        refine .inr ⟨j1 a3, fun σ3 H3 => ∃ r3 S3 w3, Gr r1 H1 r3 H3 ∧ RZ X.K r3 H3 S3 σ3 ∧ RW X.K r3 w3 H3 ∧ forL j m (fun d S2 w2 n => t d S2 w2 fun S3 w3 => fb S3 w3 n rt nx n) nx n (i + 1) S3 w3 = true,
          fun σ3 H3 ⟨r3, S3, w3, z1, z2, z3, z4⟩ => ⟨n, Nat.lt_succ_self _, r3, S3, w3, z1, z2, z3, z4⟩, fun x H3 yl => ?_⟩
        obtain ⟨rw3, g3, rd3⟩ := j3 x H3 d yl a1
        have g13 := g12.trans rw2.sep g3
        refine hg r2 S2 σ2 w2 H3 (m i d) x _ _ (rz2.mono g3 rw2.sep) rw3 rd3 h2 fun r4 S4 σ4 w4 H4 g4 rz4 rw4 h4 => ?_
        have g14 := g13.trans rw3.sep g4
        have nxt : GoS X.K r4 H4 (forL j m (fun d S2 w2 n => t d S2 w2 fun S3 w3 => fb S3 w3 n rt nx n) nx n (i + 1)) (fun σ3 H3 => ∃ r3 S3 w3, Gr r1 H1 r3 H3 ∧ RZ X.K r3 H3 S3 σ3 ∧ RW X.K r3 w3 H3 ∧ forL j m (fun d S2 w2 n => t d S2 w2 fun S3 w3 => fb S3 w3 n rt nx n) nx n (i + 1) S3 w3 = true) :=
          fun r5 S5 σ5 w5 H5 g5 rz5 rw5 h5 => ⟨r5, S5, w5, ((g2.trans rw2.sep g3).trans rw3.sep g4).trans rw4.sep g5, rz5, rw5, h5⟩
        have gg := g.later g14 rw4.sep
        exact hb r4 S4 σ4 w4 H4 _ rt nx _ _ rz4 rw4 h4 ⟨nxt, gg.rt, gg.nx, nxt⟩

/-! ### comprehensions -/
mutual
theorem RD.alt {a : Addr} (ht : ∀ b zs, SqT K H b zs → SqT K H' b zs) (hx : ∀ b φ, H b = some (.ext φ) → H' b = some (.ext φ)) : ∀ {d : D} {v : V}, RD K r H d v → RD K r H' d v
  | _, _, .non => .non
  | _, _, .bl b => .bl b
  | _, _, .int i => .int i
  | _, _, .str x => .str x
  | _, _, .ty s => .ty s
  | _, _, .tup h l => .tup (ht _ _ h) (RL.alt (a := a) ht hx l)
  | _, _, .ref h => .ref h
  | _, _, .pot => .pot
  | _, _, .rep => .rep
  | _, _, .rol h => .rol (hx _ _ h)
theorem RL.alt {a : Addr} (ht : ∀ b zs, SqT K H b zs → SqT K H' b zs) (hx : ∀ b φ, H b = some (.ext φ) → H' b = some (.ext φ)) : ∀ {d : D} {vs : List V}, RL K r H d vs → RL K r H' d vs
  | _, _, .nil => .nil
  | _, _, .cons h l => .cons (RD.alt (a := a) ht hx h) (RL.alt (a := a) ht hx l)
end
/-- a list of our own that the store does not know -/
structure Own (r : Rh) (H : Hp) (a : Addr) (xs : List V) : Prop where
  at_ : H a = some (.lst xs)
  nr : ∀ i, i < r.n → r.f i ≠ a
  np : r.pt ≠ a
theorem Own.tups {a : Addr} (o : Own r H a xs) : ∀ b zs, SqT K H b zs → SqT K (upd H a (.lst ys)) b zs := fun b zs h => by
  have ne : ∀ {u : HO}, H b = some u → (∀ ws, u ≠ .lst ws) → b ≠ a := fun {u} h1 h2 e => by
    rw [e, o.at_] at h1
    exact h2 xs (Option.some.inj h1).symm
  rcases h with (h | ⟨ob, h⟩) | h
  · exact .inl (.inl (by rw [upd_ne (ne h fun ws z => by cases z)]; exact h))
  · exact .inl (.inr ⟨ob, by rw [upd_ne (ne h fun ws z => by cases z)]; exact h⟩)
  · exact .inr h
theorem Own.exts {a : Addr} (o : Own r H a xs) : ∀ b φ, H b = some (.ext φ) → upd H a (.lst ys) b = some (.ext φ) := fun b φ h => by
  rw [upd_ne (fun e => by rw [e, o.at_] at h; cases h)]
  exact h
theorem Own.step {a : Addr} (o : Own r H a xs) (g : Gr r H r' H') : Own r' H' a xs where
  at_ := g.keep a _ o.at_ (fun i hi e => o.nr i hi e.symm) fun e => o.np e.symm
  nr := fun i hi e => by
    by_cases c : i < r.n
    · rw [g.f i c] at e; exact o.nr i c e
    · have z := g.new i (Nat.le_of_not_lt c) hi
      rw [e, o.at_] at z; cases z
  np := by rw [g.pt]; exact o.np
theorem Own.put {a : Addr} (o : Own r H a xs) : Own r (upd H a (.lst ys)) a ys := ⟨upd_same, o.nr, o.np⟩
theorem RW.own {a : Addr} (o : Own r H a xs) (h : RW K r w H) : RW K r w (upd H a (.lst ys)) := by
  refine ⟨h.n, h.inj, fun i hi => ?_, ?_, h.apart⟩
  · obtain ⟨zs, k, q⟩ := h.lst i hi
    exact ⟨zs, by rw [upd_ne (o.nr i hi)]; exact k, fun e he => (q e he).alt (a := a) o.tups o.exts⟩
  · obtain ⟨x, y, z, k, q⟩ := h.pot
    exact ⟨x, y, z, by rw [upd_ne o.np]; exact k, q⟩
mutual
theorem RD.up (hn : r.n ≤ r'.n) (hf : ∀ i, i < r.n → r'.f i = r.f i) (hp : r'.pt = r.pt) : ∀ {d : D} {v : V}, RD K r H d v → RD K r' H d v
  | _, _, .non => .non
  | _, _, .bl b => .bl b
  | _, _, .int i => .int i
  | _, _, .str x => .str x
  | _, _, .ty s => .ty s
  | _, _, .tup h l => .tup h (RL.up hn hf hp l)
  | _, _, .ref (i := i) h => by
    rw [← hf i h]
    exact .ref (Nat.lt_of_lt_of_le h hn)
  | _, _, .pot => by
    rw [← hp]
    exact .pot
  | _, _, .rep => .rep
  | _, _, .rol h => .rol h
theorem RL.up (hn : r.n ≤ r'.n) (hf : ∀ i, i < r.n → r'.f i = r.f i) (hp : r'.pt = r.pt) : ∀ {d : D} {vs : List V}, RL K r H d vs → RL K r' H d vs
  | _, _, .nil => .nil
  | _, _, .cons h l => .cons (RD.up hn hf hp h) (RL.up hn hf hp l)
end
theorem more_f {p : Addr} {i : Nat} (hi : i < r.n) : (r.more p).f i = r.f i := if_neg (Nat.ne_of_lt hi)
theorem RW.adopt {a : Addr} (o : Own r H a xs) (h : RW K r w H) (rl : RL K r H l xs) : RW K (r.more a) (w.more l) H := by
  have up : ∀ {d : D} {vs : List V}, RL K r H d vs → RL K (r.more a) H d vs := fun q => q.up (Nat.le_succ _) (fun i hi => more_f hi) rfl
  have fn : (r.more a).f r.n = a := if_pos rfl
  refine ⟨congrArg Nat.succ h.n, fun i j hi hj e => ?_, fun i hi => ?_, ?_, fun i hi => ?_⟩
  · rcases Nat.lt_succ_iff_lt_or_eq.mp hi with hi | rfl <;> rcases Nat.lt_succ_iff_lt_or_eq.mp hj with hj | rfl
    · rw [more_f hi, more_f hj] at e; exact h.inj i j hi hj e
    · rw [more_f hi, fn] at e; exact absurd e (o.nr i hi)
    · rw [more_f hj, fn] at e; exact absurd e.symm (o.nr j hj)
    · rfl
  · rcases Nat.lt_succ_iff_lt_or_eq.mp hi with hi | rfl
    · obtain ⟨zs, k, q⟩ := h.lst i hi
      refine ⟨zs, by rw [more_f hi]; exact k, fun e he => ?_⟩
      have he : lookL ((w.n, l) :: w.h) i = some e := he
      rw [lookL_cons, if_neg (by rw [h.n]; exact Nat.ne_of_gt hi)] at he
      exact up (q e he)
    · refine ⟨xs, by rw [fn]; exact o.at_, fun e he => ?_⟩
      have he : lookL ((w.n, l) :: w.h) r.n = some e := he
      rw [lookL_cons, if_pos h.n] at he
      cases he
      exact up rl
  · exact h.pot
  · show (r.more a).f i ≠ r.pt
    rcases Nat.lt_succ_iff_lt_or_eq.mp hi with hi | rfl
    · rw [more_f hi]; exact h.apart i hi
    · rw [fn]; exact fun e => o.np e.symm
theorem ref_new {a : Addr} (h : w.n = r.n) : RD K (r.more a) H (.ref w.n) (.ref a) := by
  have e : (r.more a).f w.n = a := by rw [h]; exact if_pos rfl
  have := RD.ref (K := K) (r := r.more a) (H := H) (i := w.n) (by rw [h]; exact Nat.lt_succ_self _)
  rw [e] at this
  exact this
/-- lists turned about -/
def revA (d e : D) : D := (D.rec (motive := fun _ => D → D) (fun e => e) (fun e => e) (fun _ e => e) (fun _ e => e) (fun _ e => e) (fun e => e) (fun x _ _ ih e => ih (.cons x e)) (fun _ _ e => e) (fun _ e => e) (fun _ e => e) (fun e => e) (fun _ _ e => e) (fun _ _ e => e) d : D → D) e
theorem revA_cons (x t e : D) : revA (.cons x t) e = revA t (.cons x e) := rfl
theorem RL.turn : ∀ {d e : D} {vs ws : List V}, RL K r H d vs → RL K r H e ws → RL K r H (revA d e) (vs.reverse ++ ws)
  | _, _, _, _, .nil, q => q
  | _, _, _, _, .cons rd rl, q => by
    rw [List.reverse_cons, List.append_assoc, revA_cons]
    exact RL.turn rl (.cons rd q)

theorem wipe_get (σ : L2.St) (j : Nat) : ∀ vs : List Nat, (wipe σ vs)[j]? = if j ∈ vs then (if j < σ.length then some none else none) else σ[j]?
  | [] => by simp [wipe]
  | v :: vs => by
    have ih := wipe_get σ j vs
    show ((wipe σ vs).set v none)[j]? = _
    rw [List.getElem?_set, wipe_length]
    by_cases c : v = j
    · subst c
      rw [if_pos rfl, if_pos List.mem_cons_self]
    · rw [if_neg c, ih]
      by_cases m : j ∈ vs
      · rw [if_pos m, if_pos (List.mem_cons_of_mem _ m)]
      · rw [if_neg m, if_neg (by simp only [List.mem_cons, not_or]; exact ⟨fun e => c e.symm, m⟩)]
theorem wipe_set {σ : L2.St} {i : Nat} {u : Option V} {vs : List Nat} (h : i ∈ vs) : wipe (σ.set i u) vs = wipe σ vs := by
  refine List.ext_getElem? fun j => ?_
  rw [wipe_get, wipe_get, List.length_set]
  by_cases m : j ∈ vs
  · rw [if_pos m, if_pos m]
  · rw [if_neg m, if_neg m, List.getElem?_set_ne (fun e => m (by rw [← e]; exact h))]
theorem wipe_wipe (σ : L2.St) (vs : List Nat) : wipe (wipe σ vs) vs = wipe σ vs := by
  refine List.ext_getElem? fun j => ?_
  rw [wipe_get, wipe_length, wipe_get]
  by_cases m : j ∈ vs
  · rw [if_pos m, if_pos m]
  · rw [if_neg m, if_neg m]
/-- a comprehension's target -/
def OkGw (X : Cx) (vs : List Nat) (t : T) (e : Expr) : Prop := ∀ (r : Rh) (S : Sg) (σ : L2.St) (w : Wd) (H : Hp) (d : D) (v : V) (k : Kn) (Q : L2.St → Hp → Prop), RZ X.K r H S σ → RW X.K r w H → RD X.K r H d v → t d S w k = true →
  (∀ r' S' σ' w' H', Gr r H r' H' → RZ X.K r' H' S' σ' → RW X.K r' w' H' → wipe σ' vs = wipe σ vs → k S' w' = true → Q σ' H') → tG X e v σ H Q
def OkGws (X : Cx) (us : List Nat) (t : T) (es : List Expr) : Prop := ∀ (r : Rh) (S : Sg) (σ : L2.St) (w : Wd) (H : Hp) (d : D) (vs : List V) (k : Kn) (Q : L2.St → Hp → Prop), RZ X.K r H S σ → RW X.K r w H → RL X.K r H d vs → t d S w k = true →
  (∀ r' S' σ' w' H', Gr r H r' H' → RZ X.K r' H' S' σ' → RW X.K r' w' H' → wipe σ' us = wipe σ us → k S' w' = true → Q σ' H') → tGs X es vs σ H Q
theorem ok_wname (i : Nat) {x : Str} {us : List Nat} (hN : X.N.Nodup) (hu : i ∈ us := by decide) (hi : X.N[i]? = some x := by rfl) (hx : Loc X.env.scope x := by first | exact Or.inl rfl | exact Or.inr rfl)
    (hf : X.fn x = true ∨ X.env.scope.names.lookup x = some .local := by first | exact .inl rfl | exact .inr rfl) : OkGw X us (gSet i) (.Name x pos) := fun r S σ w H d v k Q rz rw rd h g =>
  (pg_name hN hi hx hf).to (g r _ _ w H .refl (rz.set rd) rw (wipe_set hu) h)
theorem ok_wno {us : List Nat} : OkGws X us gNo [] := fun r S σ w H d vs k Q rz rw rl h g => by
  obtain ⟨rfl, h⟩ := swN_ h
  cases rl
  exact pgs_nil.to ⟨rfl, g r S σ w H .refl rz rw rfl h⟩
theorem ok_wmore {t u : T} {e : Expr} {es : List Expr} {us : List Nat} (ht : OkGw X us t e) (hu : OkGws X us u es) (hs : (assignEach (e :: es) X.env).map (·.2) = assign e X.env :: (assignEach es X.env).map (·.2) := by rfl) : OkGws X us (gMore t u) (e :: es) := fun r S σ w H d vs k Q rz rw rl h g => by
  obtain ⟨x, l, rfl, h⟩ := swC_ h
  cases rl with
  | cons rx rl =>
    refine (pgs_cons (pg_tG e) (pgs_tGs es) hs).to ⟨_, _, rfl, ht r S σ w H x _ _ _ rz rw rx h fun r1 S1 σ1 w1 H1 g1 rz1 rw1 e1 h1 => ?_⟩
    exact hu r1 S1 σ1 w1 H1 l _ k Q rz1 rw1 (rl.mono g1 rw.sep) h1 fun r2 S2 σ2 w2 H2 g2 rz2 rw2 e2 h2 => g r2 S2 σ2 w2 H2 (g1.trans rw1.sep g2) rz2 rw2 (e2.trans e1) h2
theorem ok_wtup {t : T} {es : List Expr} {n k0 : Nat} {us : List Nat} (hc : X.calm = true) (ht : OkGws X us t es) (hn : (assignEach es X.env).length = n := by rfl) (hst : (assignEach es X.env).findIdx? (·.1) = none := by rfl) : OkGw X us (gTp n t) (.Tuple es k0 pos) := fun r S σ w H d v k Q rz rw rd h g => by
  obtain ⟨l, rfl, h⟩ := swT_ h
  obtain ⟨h1, h2⟩ := et_ h
  cases rd with
  | tup hq rl =>
    refine (pg_tup hc (pgs_tGs es) hn hst).to ⟨_, _, rfl, hq, ?_, ht r S σ w H l _ k Q rz rw rl h2 g⟩
    rw [← rl.len]
    exact Nat.eq_of_beq_eq_true h1
/-- a comprehension's tests -/
def tTs (X : Cx) (es : List Expr) : TT := fun σ H Q => ∀ (pins : List (Addr × Obj)) (s : Shared), Inv X pins σ H s → wpAny (model X.prog X.w) X.A (forIn es true fun c r => if r = true then do let ok ← isTrue c X.env (eval c X.env); pure (ForInStep.yield ok) else pure (ForInStep.yield r)) (TP X pins σ Q) X.xe s
theorem pts_tTs (es : List Expr) : PTs X es (tTs X es) := ⟨fun pins s σ H Q I h => h pins s I⟩
def OkTs (X : Cx) (f : F) (es : List Expr) : Prop := ∀ (r : Rh) (S : Sg) (σ : L2.St) (w : Wd) (H : Hp) (k : Kt) (Q : Bool → Hp → Prop), RS X.K r H S σ → RW X.K r w H → f S w k = true → GoT X.K r H k Q → tTs X es σ H Q
def eYes : F := fun _ w k => k (.bl true) w
theorem ok_yes : OkTs X eYes [] := fun r S σ w H k Q rs rw h g pins s I => pts_nil.run pins s σ H Q I (g r true w H .refl rw h)
theorem ok_ts1 {f : F} {c : Expr} (hc : OkT X f c) : OkTs X f [c] := fun r S σ w H k Q rs rw h g pins s I => (pts_one (pt_tT c)).run pins s σ H Q I (hc r S σ w H k Q rs rw h g)
def wipeS (S : Sg) (us : List Nat) : Sg := List.rec (motive := fun _ => Sg) S (fun v _ ih => lset ih v .und) us
theorem RS.wipe (h : RZ K r H S σ) : ∀ us : List Nat, RZ K r H (wipeS S us) (L2.wipe σ us)
  | [] => h
  | v :: us => by
    obtain ⟨h1, h2⟩ := RS.wipe h us
    show RZ K r H (lset (wipeS S us) v .und) ((L2.wipe σ us).set v none)
    rw [lset_eq]
    refine ⟨fun j e he => ?_, by rw [List.length_set, List.length_set]; exact h2⟩
    by_cases c : v = j
    · subst c
      rw [List.getElem?_set] at he
      rw [if_pos rfl] at he
      split at he
      · cases he; exact .inl rfl
      · cases he
    · rw [List.getElem?_set_ne c] at he
      rcases h1 j e he with z | ⟨u, z1, z2⟩
      · exact .inl z
      · exact .inr ⟨u, by rw [List.getElem?_set_ne c]; exact z1, z2⟩
def lcS (l : D) (step : D → Wd → (Wd → Bool) → (D → Wd → Bool) → Bool) (done : D → Wd → Bool) : D → Nat → Wd → Bool :=
  D.rec (motive := fun _ => D → Nat → Wd → Bool) (fun _ _ _ => false) (fun _ _ _ => false) (fun _ _ _ _ => false) (fun _ _ _ _ => false) (fun _ _ _ _ => false) (fun a _ w => done a w)
    (fun d _ _ ih a c w => step d w (ih a c) fun y w1 => et (Nat.blt c small) (ih (.cons y a) (Nat.succ c) w1)) (fun _ _ _ _ _ => false) (fun _ _ _ _ => false) (fun _ _ _ _ => false) (fun _ _ _ => false) (fun _ _ _ _ _ => false) (fun _ _ _ _ _ => false) l
def lcL (j : Nat) (m : Nat → D → D) (step : D → Wd → (Wd → Bool) → (D → Wd → Bool) → Bool) (done : D → Wd → Bool) (n : Nat) : Nat → D → Nat → Wd → Bool :=
  Nat.rec (motive := fun _ => Nat → D → Nat → Wd → Bool) (fun _ _ _ _ => false) (fun _ ih i a c w => onL w.h j fun l => swNC (dropD l i) (done a w) fun d => step (m i d) w (ih (Nat.succ i) a c) fun y w1 => et (Nat.blt c small) (ih (Nat.succ i) (.cons y a) (Nat.succ c) w1)) n
def lcStep (us : List Nat) (S : Sg) (t : T) (ft fe : F) : D → Wd → (Wd → Bool) → (D → Wd → Bool) → Bool := fun d w no yes => t d (wipeS S us) w fun S1 w1 => ft S1 w1 fun b w2 => swB b fun b => ife b (fe S1 w2 yes) (no w2)
def eLc (us : List Nat) (it : IF) (t : T) (ft fe : F) : F := fun S w k => it S w (fun l w1 => lcS l (lcStep us S t ft fe) (fun a w2 => k (.ref w2.n) (w2.more (revA a .nil))) .nil 0 w1)
  (fun j m w1 => lcL j m (lcStep us S t ft fe) (fun a w2 => k (.ref w2.n) (w2.more (revA a .nil))) fuel 0 .nil 0 w1)
end
end Ear
namespace Ear
open PySem PySem.Spec PyProof.Rows L2

section
variable {X : Cx} {K : PySem.W.Frag} {r r0 r1 r2 r' : Rh} {S S' : Sg} {σ : L2.St} {w w1 w' : Wd} {H H0 H1 H2 H' : Hp} {k : Kt} {Q : VK} {pos : Pos} {d e l : D} {v x y : V} {vs xs ys : List V}
/-- what holds between two turns of a comprehension -/
structure Lc (K : PySem.W.Frag) (r1 : Rh) (H1 : Hp) (Dl : Addr) (r : Rh) (w : Wd) (H : Hp) (a : D) (c : Nat) : Prop where
  new : H1 Dl = none
  gr : Gr r1 H1 r H
  rw_ : RW K r w H
  acc : ∃ xs, Own r H Dl xs ∧ RL K r H a xs.reverse ∧ xs.length = c
/-- one turn -/
theorem lc_turn {us : List Nat} {t : T} {ft fe : F} {tg elt : Expr} {ifs : List Expr} {Dl : Addr} {c : Nat} {a : D} {no : Wd → Bool} {yes : D → Wd → Bool} {B : Cx → Prop} {Nx : Hp → Prop}
    (hK : ∀ X', B X' → X'.K = X.K) (hg : ∀ X', B X' → OkGw X' us t tg) (ht : ∀ X', B X' → OkTs X' ft ifs) (he : ∀ X', B X' → OkE X' fe elt)
    (rz : RZ X.K r1 H1 S σ) (q1 : Sep r1 H1) (L : Lc X.K r1 H1 Dl r w H a c) (rd : RD X.K r H d x) (h : lcStep us S t ft fe d w no yes = true)
    (hno : ∀ r' w' H', Lc X.K r1 H1 Dl r' w' H' a c → no w' = true → Nx H')
    (hyes : ∀ r' w' H' e, Lc X.K r1 H1 Dl r' w' H' (.cons e a) (c + 1) → yes e w' = true → c < sizeLine ∧ Nx H') :
    ∀ X1, B X1 → tG X1 tg x (L2.wipe σ us) H fun σ2 H2 => L2.wipe σ2 us = L2.wipe σ us ∧ ∀ X2, B X2 → tTs X2 ifs σ2 H2 fun b H3 => if b = true then ∀ X3, B X3 → tE X3 elt σ2 H3 fun y H4 => ∃ acc, H4 Dl = some (.lst acc) ∧ acc.length < sizeLine ∧ Nx (upd H4 Dl (.lst (acc ++ [y]))) else Nx H3 := by
  have stay : ∀ {r' : Rh} {w' : Wd} {H' : Hp}, Gr r H r' H' → RW X.K r' w' H' → Lc X.K r1 H1 Dl r' w' H' a c := fun {r' w' H'} g rw' => by
    obtain ⟨zs, o, rl, e⟩ := L.acc
    exact ⟨L.new, L.gr.trans L.rw_.sep g, rw', zs, o.step g, rl.mono g L.rw_.sep, e⟩
  intro X1 hX1
  have rz0 : RZ X1.K r H (wipeS S us) (L2.wipe σ us) := by rw [hK X1 hX1]; exact (rz.wipe us).mono L.gr q1
  refine hg X1 hX1 r (wipeS S us) (L2.wipe σ us) w H d x _ _ rz0 (by rw [hK X1 hX1]; exact L.rw_) (by rw [hK X1 hX1]; exact rd) h fun r2 S2 σ2 w2 H2 g2 rz2 rw2 e2 h2 => ?_
  rw [hK X1 hX1] at rw2 rz2
  refine ⟨e2.trans (wipe_wipe σ us), fun X2 hX2 => ?_⟩
  refine ht X2 hX2 r2 S2 σ2 w2 H2 _ _ (by rw [hK X2 hX2]; exact rz2) (by rw [hK X2 hX2]; exact rw2) h2 fun r3 b w3 H3 g3 rw3 h3 => ?_
  rw [hK X2 hX2] at rw3
  have g23 := g2.trans rw2.sep g3
  rcases ife_ (show ife b _ _ = true from h3) with ⟨rfl, h3⟩ | ⟨rfl, h3⟩
  · rw [if_pos rfl]
    intro X3 hX3
    refine he X3 hX3 r3 S2 σ2 w3 H3 yes _ (by rw [hK X3 hX3]; exact rz2.mono g3 rw2.sep) (by rw [hK X3 hX3]; exact rw3) h3 fun r4 e y w4 H4 g4 rw4 rd4 h4 => ?_
    rw [hK X3 hX3] at rw4 rd4
    have L4 := stay (g23.trans rw3.sep g4) rw4
    obtain ⟨zs, o, rl, ec⟩ := L4.acc
    have L5 : Lc X.K r1 H1 Dl r4 w4 (upd H4 Dl (.lst (zs ++ [y]))) (.cons e a) (c + 1) := by
      refine ⟨L.new, ⟨L4.gr.le, L4.gr.f, L4.gr.pt, L4.gr.new, fun b ob hb n1 n2 => ?_⟩, rw4.own o, zs ++ [y], o.put, ?_, ?_⟩
      · rw [upd_ne (ne_of_none hb L.new)]
        exact L4.gr.keep b ob hb n1 n2
      · rw [List.reverse_append]
        exact .cons (rd4.alt (a := Dl) o.tups o.exts) (rl.alt (a := Dl) o.tups o.exts)
      · rw [List.length_append, ec]
        rfl
    obtain ⟨z1, z2⟩ := hyes r4 w4 _ e L5 h4
    exact ⟨zs, o.at_, by rw [ec]; exact z1, z2⟩
  · rw [if_neg Bool.false_ne_true]
    exact hno r3 w3 H3 (stay g23 rw3) h3
theorem lc_done {Dl : Addr} {c : Nat} {a : D} (L : Lc K r1 H1 Dl r w H a c) (g : Go K r1 H1 k Q) (h : k (.ref w.n) (w.more (revA a .nil)) = true) : Q (.ref Dl) H := by
  obtain ⟨zs, o, rl, ec⟩ := L.acc
  have rl2 : RL K r H (revA a .nil) zs := by
    have := rl.turn .nil
    rw [List.reverse_reverse, List.append_nil] at this
    exact this
  refine g (r.more Dl) (.ref w.n) (.ref Dl) (w.more (revA a .nil)) H ?_ (L.rw_.adopt o rl2) (ref_new L.rw_.n) h
  refine ⟨Nat.le_trans L.gr.le (Nat.le_succ _), fun i hi => ?_, L.gr.pt, fun i h1 h2 => ?_, L.gr.keep⟩
  · rw [more_f (Nat.lt_of_lt_of_le hi L.gr.le)]; exact L.gr.f i hi
  · rcases Nat.lt_succ_iff_lt_or_eq.mp h2 with h3 | rfl
    · rw [more_f h3]; exact L.gr.new i h1 h3
    · show H1 (if r.n = r.n then Dl else r.f r.n) = none
      rw [if_pos rfl]; exact L.new
theorem Own.new {Dl : Addr} (h : RW K r w H) (hD : H Dl = none) : Own r (upd H Dl (.lst xs)) Dl xs where
  at_ := upd_same
  nr := fun i hi e => by
    obtain ⟨zs, z, _⟩ := h.lst i hi
    rw [e, hD] at z
    cases z
  np := fun e => by
    obtain ⟨x, y, z, q, _⟩ := h.pot
    rw [e, hD] at q
    cases q
theorem small_blt {n : Nat} (h : Nat.blt n small = true) : n < sizeLine := by
  rw [blt_eq] at h
  exact Nat.lt_of_lt_of_le (of_decide_eq_true h) (by decide)
/-- a comprehension's blocks -/
def BK (X : Cx) (scope : Scope) (X' : Cx) : Prop := ∃ (s : Shared) (H : Hp) (C : Addr) (cl : List (Str × Addr)) (fp : List Addr), X' = X.blk s H scope (compEnvC scope cl C X.env) fp
theorem lc_t {it : IF} {t : T} {ft fe : F} {elt tg iter : Expr} {ifs : List Expr} {scope : Scope} (own : List (Str × Nat)) (hi : OkI X it tg iter)
    (hg' : ∀ X', BK X scope X' → OkGw X' (own.map (·.2)) t tg) (ht' : ∀ X', BK X scope X' → OkTs X' ft ifs) (he' : ∀ X', BK X scope X' → OkE X' fe elt)
    (rz : RZ X.K r H S σ) (rw : RW X.K r w H) (h : eLc (own.map (·.2)) it t ft fe S w k = true) (g : Go X.K r H k Q) :
    tLc (tI X tg iter) (fun v σ H Q => ∀ X1, BK X scope X1 → tG X1 tg v σ H Q) (fun σ H Q => ∀ X1, BK X scope X1 → tTs X1 ifs σ H Q) (fun σ H Q => ∀ X1, BK X scope X1 → tE X1 elt σ H Q) (own.map (·.2)) σ H Q := by
  have hK : ∀ X', BK X scope X' → X'.K = X.K := fun X' ⟨s, H, C, cl, fp, e⟩ => by rw [e]
  refine hi r S σ w H _ _ _ rz rw h (fun r1 l w1 H1 J g1 rw1 sn h1 => ?_) (fun r1 j m w1 H1 J g1 rw1 lv h1 => ?_)
  · intro Dl hD
    have rz1 := rz.mono g1 rw.sep
    refine ⟨fun i n H2 => ∃ r2 w2 a c t2, Lc X.K r1 H1 Dl r2 w2 H2 a c ∧ dropD l i = t2 ∧ lenD t2 = n ∧ lcS t2 (lcStep (own.map (·.2)) S t ft fe) (fun a w2 => k (.ref w2.n) (w2.more (revA a .nil))) a c w2 = true, ⟨lenD l, r1, w1, .nil, 0, l, ?_, rfl, rfl, h1⟩, ?_⟩
    · exact ⟨hD, gr_new hD, rw1.new hD, [], Own.new rw1 hD, .nil, rfl⟩
    · rintro i n H2 ⟨r2, w2, a, c, t2, L, e1, e2, h2⟩
      obtain ⟨rl, J3⟩ := sn r2 w2 H2 L.gr L.rw_
      obtain ⟨j1, j2, j3⟩ := J3 i
      cases t2 with
      | nil => exact .inl ⟨j2 (ls_nil rl e1), lc_done L (g.later g1 rw1.sep) h2⟩
      | cons d t3 =>
        obtain ⟨a1, a2, a3⟩ := ls_cons rl e1
        refine .inr ⟨j1 a3, fun H3 => ∃ r3 w3 a3 c3, Lc X.K r1 H1 Dl r3 w3 H3 a3 c3 ∧ lcS t3 (lcStep (own.map (·.2)) S t ft fe) (fun a w2 => k (.ref w2.n) (w2.more (revA a .nil))) a3 c3 w3 = true,
          fun H3 ⟨r3, w3, a3, c3, z1, z2⟩ => ⟨lenD t3, by rw [← e2]; exact Nat.lt_succ_self _, r3, w3, a3, c3, t3, z1, a2, rfl, z2⟩, fun x H3 yl => ?_⟩
        obtain ⟨rw3, g3, rd3⟩ := j3 x H3 d yl a1
        obtain ⟨zs, o, rlz, ec⟩ := L.acc
        have L3 : Lc X.K r1 H1 Dl r2 w2 H3 a c := ⟨L.new, L.gr.trans L.rw_.sep g3, rw3, zs, o.step g3, rlz.mono g3 L.rw_.sep, ec⟩
        exact lc_turn (B := BK X scope) hK hg' ht' he' rz1 rw1.sep L3 rd3 (show lcStep (own.map (·.2)) S t ft fe d w2 _ _ = true from h2) (fun r' w' H' L' hn => ⟨r', w', a, c, L', hn⟩) (fun r' w' H' e L' hy => by
          obtain ⟨y1, y2⟩ := et_ hy
          exact ⟨small_blt y1, r', w', _, _, L', y2⟩)
      | _ => exact absurd (show false = true from h2) Bool.false_ne_true
  · intro Dl hD
    have rz1 := rz.mono g1 rw.sep
    refine ⟨fun i n H2 => ∃ r2 w2 a c, Lc X.K r1 H1 Dl r2 w2 H2 a c ∧ lcL j m (lcStep (own.map (·.2)) S t ft fe) (fun a w2 => k (.ref w2.n) (w2.more (revA a .nil))) n i a c w2 = true, ⟨fuel, r1, w1, .nil, 0, ?_, h1⟩, ?_⟩
    · exact ⟨hD, gr_new hD, rw1.new hD, [], Own.new rw1 hD, .nil, rfl⟩
    · rintro i n H2 ⟨r2, w2, a, c, L, h2⟩
      cases n with
      | zero => exact absurd (show false = true from h2) Bool.false_ne_true
      | succ n =>
        obtain ⟨l, hl, h2⟩ := onL_ (show onL w2.h j _ = true from h2)
        obtain ⟨us, rl, J3⟩ := lv r2 w2 H2 l L.gr L.rw_ hl
        obtain ⟨j1, j2, j3⟩ := J3 i
        rcases swNC_ h2 with ⟨e1, h2⟩ | ⟨d, t3, e1, h2⟩
        · exact .inl ⟨j2 (drop_nil rl e1), lc_done L (g.later g1 rw1.sep) h2⟩
        · obtain ⟨a1, a2, a3⟩ := drop_cons rl e1
          refine .inr ⟨j1 a3, fun H3 => ∃ r3 w3 a3 c3, Lc X.K r1 H1 Dl r3 w3 H3 a3 c3 ∧ lcL j m (lcStep (own.map (·.2)) S t ft fe) (fun a w2 => k (.ref w2.n) (w2.more (revA a .nil))) n (i + 1) a3 c3 w3 = true,
            fun H3 ⟨r3, w3, a3, c3, z1, z2⟩ => ⟨n, Nat.lt_succ_self _, r3, w3, a3, c3, z1, z2⟩, fun x H3 yl => ?_⟩
          obtain ⟨rw3, g3, rd3⟩ := j3 x H3 d yl a1
          obtain ⟨zs, o, rlz, ec⟩ := L.acc
          have L3 : Lc X.K r1 H1 Dl r2 w2 H3 a c := ⟨L.new, L.gr.trans L.rw_.sep g3, rw3, zs, o.step g3, rlz.mono g3 L.rw_.sep, ec⟩
          exact lc_turn (B := BK X scope) hK hg' ht' he' rz1 rw1.sep L3 rd3 (show lcStep (own.map (·.2)) S t ft fe (m i d) w2 _ _ = true from h2) (fun r' w' H' L' hn => ⟨r', w', a, c, L', hn⟩) (fun r' w' H' e L' hy => by
            obtain ⟨y1, y2⟩ := et_ hy
            exact ⟨small_blt y1, r', w', _, _, L', y2⟩)
theorem ok_lc {it : IF} {t : T} {ft fe : F} {elt tg iter : Expr} {ifs : List Expr} {scope : Scope} (own : List (Str × Nat)) (hc : X.calm = true) (hN : X.N.Nodup) (hi : OkI X it tg iter) (ok : BlkOk X.N X.env.scope scope own)
    (hg : ∀ (s : Shared) (H : Hp) (C : Addr) (cl : List (Str × Addr)) (fp : List Addr), OkGw (X.blk s H scope (compEnvC scope cl C X.env) fp) (own.map (·.2)) t tg)
    (ht : ∀ (s : Shared) (H : Hp) (C : Addr) (cl : List (Str × Addr)) (fp : List Addr), OkTs (X.blk s H scope (compEnvC scope cl C X.env) fp) ft ifs)
    (he : ∀ (s : Shared) (H : Hp) (C : Addr) (cl : List (Str × Addr)) (fp : List Addr), OkE (X.blk s H scope (compEnvC scope cl C X.env) fp) fe elt) (hs : ∀ x, foldedSetIterable iter X.env x = pure x := by intro _; rfl) :
    OkE X (eLc (own.map (·.2)) it t ft fe) (.ListComp elt [⟨tg, iter, ifs, 0⟩] scope pos) := by
  refine fun r S σ w H k Q rz rw h g => ?_
  have hg' : ∀ X', BK X scope X' → OkGw X' (own.map (·.2)) t tg := fun X' ⟨s, H, C, cl, fp, e⟩ => by rw [e]; exact hg s H C cl fp
  have ht' : ∀ X', BK X scope X' → OkTs X' ft ifs := fun X' ⟨s, H, C, cl, fp, e⟩ => by rw [e]; exact ht s H C cl fp
  have he' : ∀ X', BK X scope X' → OkE X' fe elt := fun X' ⟨s, H, C, cl, fp, e⟩ => by rw [e]; exact he s H C cl fp
  exact (pe_lc (g := fun v σ H Q => ∀ X1, BK X scope X1 → tG X1 tg v σ H Q) (tt := fun σ H Q => ∀ X1, BK X scope X1 → tTs X1 ifs σ H Q) (te := fun σ H Q => ∀ X1, BK X scope X1 → tE X1 elt σ H Q) hc hN (pi_tI tg iter) ok
    (fun s H C cl fp => ⟨fun pins s' σ H' v u Q I rv q => q _ ⟨s, H, C, cl, fp, rfl⟩ pins s' u I rv⟩) (fun s H C cl fp => ⟨fun pins s' σ H' Q I q => q _ ⟨s, H, C, cl, fp, rfl⟩ pins s' I⟩) (fun s H C cl fp => ⟨fun pins s' σ H' Q I q => q _ ⟨s, H, C, cl, fp, rfl⟩ pins s' I⟩) hs).to (lc_t own hi hg' ht' he' rz rw h g)
/-- name = [..] on one line -/
theorem ok_setlc (i : Nat) {y : Str} {py spos : Pos} {it : IF} {t : T} {ft fe : F} {elt tg iter : Expr} {ifs : List Expr} {scope : Scope} (own : List (Str × Nat)) (hc : X.calm = true) (hN : X.N.Nodup) (hi : OkI X it tg iter) (ok : BlkOk X.N X.env.scope scope own)
    (hg : ∀ (s : Shared) (H : Hp) (C : Addr) (cl : List (Str × Addr)) (fp : List Addr), OkGw (X.blk s H scope (compEnvC scope cl C X.env) fp) (own.map (·.2)) t tg)
    (ht : ∀ (s : Shared) (H : Hp) (C : Addr) (cl : List (Str × Addr)) (fp : List Addr), OkTs (X.blk s H scope (compEnvC scope cl C X.env) fp) ft ifs)
    (he : ∀ (s : Shared) (H : Hp) (C : Addr) (cl : List (Str × Addr)) (fp : List Addr), OkE (X.blk s H scope (compEnvC scope cl C X.env) fp) fe elt) (hs : ∀ x, foldedSetIterable iter X.env x = pure x := by intro _; rfl) (hy : X.N[i]? = some y := by rfl) (hyl : X.env.scope.names.lookup y = some .local := by rfl)
    (hsw : swapsWith (.ListComp elt [⟨tg, iter, ifs, 0⟩] scope pos) (some (.Name y py)) spos.line X.env = pure true := by rfl) :
    OkS X (sAsg (eLc (own.map (·.2)) it t ft fe) (gSet i)) (.Assign [.Name y py] (.ListComp elt [⟨tg, iter, ifs, 0⟩] scope pos) spos) := by
  refine fun r S σ w H nx rt bk ct D rz rw h g => ?_
  have hg' : ∀ X', BK X scope X' → OkGw X' (own.map (·.2)) t tg := fun X' ⟨s, H, C, cl, fp, e⟩ => by rw [e]; exact hg s H C cl fp
  have ht' : ∀ X', BK X scope X' → OkTs X' ft ifs := fun X' ⟨s, H, C, cl, fp, e⟩ => by rw [e]; exact ht s H C cl fp
  have he' : ∀ X', BK X scope X' → OkE X' fe elt := fun X' ⟨s, H, C, cl, fp, e⟩ => by rw [e]; exact he s H C cl fp
  refine (ps_setLc (g := fun v σ H Q => ∀ X1, BK X scope X1 → tG X1 tg v σ H Q) (tt := fun σ H Q => ∀ X1, BK X scope X1 → tTs X1 ifs σ H Q) (te := fun σ H Q => ∀ X1, BK X scope X1 → tE X1 elt σ H Q) hc hN hy hyl hsw (pi_tI tg iter) ok
    (fun s H C cl fp => ⟨fun pins s' σ H' v u Q I rv q => q _ ⟨s, H, C, cl, fp, rfl⟩ pins s' u I rv⟩) (fun s H C cl fp => ⟨fun pins s' σ H' Q I q => q _ ⟨s, H, C, cl, fp, rfl⟩ pins s' I⟩) (fun s H C cl fp => ⟨fun pins s' σ H' Q I q => q _ ⟨s, H, C, cl, fp, rfl⟩ pins s' I⟩) hs).to ?_
  exact lc_t own hi hg' ht' he' rz rw (k := fun d w1 => gSet i d S w1 nx) h fun r1 d v w1 H1 g1 rw1 rd1 h1 => g.nx r1 _ _ w1 H1 g1 ((rz.mono g1 rw.sep).set rd1) rw1 h1
end
end Ear
namespace Ear
open PySem PySem.Spec PyProof.Rows L2

section
variable {X : Cx} {K : PySem.W.Frag} {r r0 r1 r2 r' : Rh} {S S' : Sg} {σ : L2.St} {w w1 w' : Wd} {H H0 H1 H2 H' : Hp} {k : Kt} {Q : VK} {pos : Pos} {d e l : D} {v x y : V} {vs xs ys : List V}
/-! ### operators on ints and comparisons -/
/-- from two ints an int -/
def opI2 (f : Int → Int → Int) : O2 := fun d e w k => swI d fun i => swI e fun j => k (.int (f i j)) w
theorem okI2 {f : Value → Value → Sem Value} {g h : Int → Int → Int} (ho : OpR X f (rI0 fun i j => .int (h i j))) (e : ∀ i j, g i j = h i j) : OkR X (opI2 g) f := fun r w H d d' x y k Q rw rd re q go => by
  obtain ⟨i, rfl, q1_⟩ := swI_ q
  obtain ⟨j, rfl, q2_⟩ := swI_ q1_
  cases rd
  cases re
  rw [e] at q2_
  exact ho.to ⟨i, j, rfl, rfl, go.now rw (.int _) q2_⟩
def opB2 (f : Int → Int → Bool) : O2 := fun d e w k => swI d fun i => swI e fun j => k (.bl (f i j)) w
theorem okB2 {f : Value → Value → Sem Value} {g h : Int → Int → Bool} (ho : OpR X f (rI0 fun i j => .bl (h i j))) (e : ∀ i j, g i j = h i j) : OkR X (opB2 g) f := fun r w H d d' x y k Q rw rd re q go => by
  obtain ⟨i, rfl, q1_⟩ := swI_ q
  obtain ⟨j, rfl, q2_⟩ := swI_ q1_
  cases rd
  cases re
  rw [e] at q2_
  exact ho.to ⟨i, j, rfl, rfl, go.now rw (.bl _) q2_⟩
def opLt : O2 := opB2 iLt
def opLe : O2 := opB2 iLe
def opGt : O2 := opB2 fun i j => iLt j i
def opGe : O2 := opB2 fun i j => iLe j i
theorem okLt : OkR X opLt (compareOp .Lt) := okB2 op_lt iLt_eq
theorem okLe : OkR X opLe (compareOp .LtE) := okB2 op_le iLe_eq
theorem okGt : OkR X opGt (compareOp .Gt) := okB2 op_gt fun i j => iLt_eq j i
theorem okGe : OkR X opGe (compareOp .GtE) := okB2 op_ge fun i j => iLe_eq j i
def opSub : O2 := opI2 iSub
theorem okSub : OkR X opSub (binaryOp .Sub) := okI2 op_sub iSub_eq
def appD (a b : D) : D := D.rec (motive := fun _ => D) b b (fun _ => b) (fun _ => b) (fun _ => b) b (fun x _ _ ih => .cons x ih) (fun _ _ => b) (fun _ => b) (fun _ => b) b (fun _ _ => b) (fun _ _ => b) a
theorem RL.app : ∀ {d e : D} {vs ws : List V}, RL K r H d vs → RL K r H e ws → RL K r H (appD d e) (vs ++ ws)
  | _, _, _, _, .nil, q => q
  | _, _, _, _, .cons rd rl, q => .cons rd (RL.app rl q)
def strLen (x : Str) : Nat := x.length
/-- + : ints, texts, tuples, lists -/
def opAdd : O2 := fun d e w k => sw4 d (fun i => swI e fun j => k (.int (iAdd i j)) w) (fun a => swS e fun b => et (Nat.ble (Nat.add a.length b.length) small) (k (.str (a ++ b)) w))
  (fun a => swT e fun b => et (Nat.ble (Nat.add (lenD a) (lenD b)) small) (k (.tup (appD a b)) w))
  (fun i => swR e fun j => onL w.h i fun a => onL w.h j fun b => et (Nat.ble (Nat.add (lenD a) (lenD b)) small) (k (.ref w.n) (w.more (appD a b))))
theorem RD.list {i : Nat} (rw : RW K r w H) (rd : RD K r H (.ref i) x) (h : lookL w.h i = some l) : ∃ a xs, x = .ref a ∧ H a = some (.lst xs) ∧ RL K r H l xs ∧ a = r.f i ∧ i < r.n := by
  cases rd with
  | ref hi =>
    obtain ⟨xs, z1, z2⟩ := rw.lst i hi
    exact ⟨_, xs, rfl, z1, z2 l h, rfl, hi⟩
theorem app_nil (d : D) (rl : RL K r H d vs) : appD d .nil = d := by
  induction d generalizing vs with
  | cons a t _ ih =>
    cases rl with
    | cons rd rl => show D.cons a (appD t .nil) = _; rw [ih rl]
  | nil => rfl
  | _ => cases rl
theorem okAdd : OkR X opAdd (binaryOp .Add) := fun r w H d e x y k Q rw rd re q go => by
  rcases sw4_ q with ⟨i, rfl, q1⟩ | ⟨a, rfl, q1⟩ | ⟨a, rfl, q1⟩ | ⟨i, rfl, q1⟩
  · obtain ⟨j, rfl, q2_⟩ := swI_ q1
    cases rd
    cases re
    rw [iAdd_eq] at q2_
    exact op_add.to ⟨i, j, rfl, rfl, go.now rw (.int _) q2_⟩
  · obtain ⟨b, rfl, q3_⟩ := swS_ q1
    obtain ⟨q1, q4_⟩ := et_ q3_
    cases rd
    cases re
    exact op_add_str.to ⟨a, b, rfl, rfl, small_le q1, go.now rw (.str _) q4_⟩
  · obtain ⟨b, rfl, q5_⟩ := swT_ q1
    obtain ⟨q1, q6_⟩ := et_ q5_
    cases rd with
    | tup ha la =>
      cases re with
      | tup hb lb =>
        rename_i p xs p2 ys
        refine op_catA.to ⟨p, p2, xs, ys, rfl, rfl, ha, hb, ?_, fun e => ?_, fun _ e => ?_, fun _ _ p3 hp => go.newT rw (la.app lb) hp q6_⟩
        · have : Nat.add (lenD a) (lenD b) = xs.length + ys.length := by rw [la.len, lb.len]; rfl
          rw [this] at q1
          exact small_le q1
        · subst e
          cases la
          exact go.now rw (.tup hb lb) q6_
        · subst e
          cases lb
          rw [app_nil a la] at q6_
          exact go.now rw (.tup ha la) q6_
  · obtain ⟨j, rfl, q7_⟩ := swR_ q1
    obtain ⟨a, h1, q8_⟩ := onL_ q7_
    obtain ⟨b, h2, q9_⟩ := onL_ q8_
    obtain ⟨q1, q10_⟩ := et_ q9_
    obtain ⟨p, xs, rfl, ha, la, _⟩ := rd.list rw h1
    obtain ⟨p2, ys, rfl, hb, lb, _⟩ := re.list rw h2
    have : Nat.add (lenD a) (lenD b) = xs.length + ys.length := by rw [la.len, lb.len]; rfl
    rw [this] at q1
    exact op_cat.to ⟨p, p2, xs, ys, rfl, rfl, ha, hb, small_le q1, fun p3 hp => go.newL rw (la.app lb) hp q10_⟩
def repD (a : D) (n : Nat) : D := Nat.rec (motive := fun _ => D) .nil (fun _ ih => appD a ih) n
theorem RL.rep (h : RL K r H d vs) : ∀ n, RL K r H (repD d n) (List.replicate n vs).flatten
  | 0 => .nil
  | n + 1 => by
    rw [List.replicate_succ, List.flatten_cons]
    exact h.app (RL.rep h n)
/-- an int that is a nat -/
def natI (i : Int) (k : Nat → Bool) : Bool := Int.rec k (fun _ => false) i
theorem natI_ {i : Int} {k : Nat → Bool} (h : natI i k = true) : ∃ n : Nat, i = n ∧ k n = true := by
  cases i with
  | ofNat n => exact ⟨n, rfl, h⟩
  | negSucc n => exact absurd (show false = true from h) Bool.false_ne_true
def isMul (i : Int) : Bool := Bool.rec false (iLt (Int.negSucc 18446744073709551615) i) (iLt i (Int.ofNat 18446744073709551616))
theorem isMul_ {i : Int} (h : isMul i = true) : -(2 ^ 64) < i ∧ i < 2 ^ 64 := by
  unfold isMul at h
  cases e : iLt i (Int.ofNat 18446744073709551616) with
  | false => rw [e] at h; exact absurd (show false = true from h) Bool.false_ne_true
  | true =>
    rw [e] at h
    have h : iLt (Int.negSucc 18446744073709551615) i = true := h
    rw [iLt_eq] at h e
    have h1 := of_decide_eq_true h
    have h2 := of_decide_eq_true e
    refine ⟨?_, h2⟩
    have e3 : (Int.negSucc 18446744073709551615) = -(2 ^ 64) := by decide
    rw [e3] at h1
    exact h1
/-- * : ints (the one small), list * int, tuple * int -/
def opMul : O2 := fun d e w k => sw4 d (fun i => swI e fun j => et (Bool.rec (isMul j) true (isMul i)) (k (.int (iMul i j)) w)) (fun _ => false)
  (fun a => swI e fun j => natI j fun n => swC a fun _ _ => et (Nat.ble 2 n) (et (Nat.ble n 1000) (et (Nat.ble (lenD a) 1000) (k (.tup (repD a n)) w))))
  (fun i => swI e fun j => natI j fun n => onL w.h i fun a => et (Nat.ble (Nat.mul (lenD a) n) small) (et (Nat.ble n small) (k (.ref w.n) (w.more (repD a n)))))
theorem okMul : OkR X opMul (binaryOp .Mult) := fun r w H d e x y k Q rw rd re q go => by
  rcases sw4_ q with ⟨i, rfl, q1⟩ | ⟨a, rfl, q1⟩ | ⟨a, rfl, q1⟩ | ⟨i, rfl, q1⟩
  · obtain ⟨j, rfl, q2_⟩ := swI_ q1
    obtain ⟨q1, q3_⟩ := et_ q2_
    cases rd
    cases re
    rw [iMul_eq] at q3_
    refine op_mul.to ⟨i, j, rfl, rfl, ?_, go.now rw (.int _) q3_⟩
    cases ei : isMul i with
    | true => exact .inl (isMul_ ei)
    | false =>
      rw [ei] at q1
      exact .inr (isMul_ q1)
  · exact absurd (show false = true from q1) Bool.false_ne_true
  · obtain ⟨j, rfl, q4_⟩ := swI_ q1
    obtain ⟨n, rfl, q5_⟩ := natI_ q4_
    obtain ⟨a1, a2, rfl, q6_⟩ := swC_ q5_
    obtain ⟨q1, q7_⟩ := et_ q6_
    obtain ⟨q2, q8_⟩ := et_ q7_
    obtain ⟨q3, q9_⟩ := et_ q8_
    cases re
    cases rd with
    | tup ha la =>
      rename_i p xs
      refine op_repT.to ⟨p, n, xs, rfl, rfl, ha, fun e => (by subst e; cases la), ?_, ?_, ?_, fun p3 hp => go.newT rw ?_ hp q9_⟩
      · have := Nat.le_of_ble_eq_true q1; omega
      · have := Nat.le_of_ble_eq_true q2; omega
      · rw [← la.len]; exact Nat.le_of_ble_eq_true q3
      · exact la.rep n
  · obtain ⟨j, rfl, q10_⟩ := swI_ q1
    obtain ⟨n, rfl, q11_⟩ := natI_ q10_
    obtain ⟨a, h1, q12_⟩ := onL_ q11_
    obtain ⟨q1, q13_⟩ := et_ q12_
    obtain ⟨q2, q14_⟩ := et_ q13_
    cases re
    obtain ⟨p, xs, rfl, ha, la, _⟩ := rd.list rw h1
    have z : n ≤ 100000 := Nat.le_of_ble_eq_true q2
    refine op_rep.to ⟨p, n, xs, rfl, rfl, ha, by omega, by omega, ?_, fun p3 hp => go.newL rw (la.rep n) hp q14_⟩
    have : Nat.mul (lenD a) n = xs.length * (n : Int).toNat := by rw [la.len]; rfl
    rw [this] at q1
    exact small_le q1
/-- //, a divisor above 0 or below 0 -/
def posSmall (j : Int) (k1 k2 : Bool) : Bool := Int.rec (fun n => et (Nat.blt 0 n) (et (Nat.blt n 1073741824) k1)) (fun n => et (Nat.blt n 1073741823) k2) j
def opFdiv : O2 := fun d e w k => swI d fun i => swI e fun j => posSmall j (k (.int (i / j)) w) (k (.int (i.fdiv j)) w)
theorem okFdiv : OkR X opFdiv (binaryOp .FloorDiv) := fun r w H d e x y k Q rw rd re q go => by
  obtain ⟨i, rfl, q1_⟩ := swI_ q
  obtain ⟨j, rfl, q2_⟩ := swI_ q1_
  cases rd
  cases re
  cases j with
  | ofNat n =>
    obtain ⟨q1, q3_⟩ := et_ (show et (Nat.blt 0 n) (et (Nat.blt n 1073741824) _) = true from q2_)
    obtain ⟨q2, q4_⟩ := et_ q3_
    rw [blt_eq] at q1 q2
    have a1 := of_decide_eq_true q1
    have a2 := of_decide_eq_true q2
    exact op_fdiv.to ⟨i, _, rfl, rfl, ⟨by show (0 : Int) < (n : Int); omega, by show (n : Int) < 1073741824; omega⟩, go.now rw (.int _) q4_⟩
  | negSucc n =>
    obtain ⟨q1, q5_⟩ := et_ (show et (Nat.blt n 1073741823) _ = true from q2_)
    rw [blt_eq] at q1
    have a1 := of_decide_eq_true q1
    exact op_fdivN.to ⟨i, _, rfl, rfl, ⟨by omega, by omega⟩, go.now rw (.int _) q5_⟩
def opMod : O2 := fun d e w k => swI d fun i => swI e fun j => et (iLt (Int.ofNat 0) j) (k (.int (i % j)) w)
theorem okMod : OkR X opMod (binaryOp .Mod) := fun r w H d e x y k Q rw rd re q go => by
  obtain ⟨i, rfl, q1_⟩ := swI_ q
  obtain ⟨j, rfl, q2_⟩ := swI_ q1_
  obtain ⟨q1, q3_⟩ := et_ q2_
  rw [iLt_eq] at q1
  cases rd
  cases re
  exact op_mod.to ⟨i, j, rfl, rfl, of_decide_eq_true q1, go.now rw (.int _) q3_⟩
def opNeg : O1 := fun d w k => swI d fun i => k (.int (iNeg i)) w
theorem okNeg : OkU X opNeg (unaryOp .USub) := fun r w H d x k Q rw rd q go => by
  obtain ⟨i, rfl, q1_⟩ := swI_ q
  cases rd
  rw [iNeg_eq] at q1_
  exact un_neg.to ⟨i, rfl, go.now rw (.int _) q1_⟩
/-! ### equal, is -/
def natsEq (a b : List Nat) : Bool := (List.rec (motive := fun _ => List Nat → Bool) (fun b => List.rec true (fun _ _ _ => false) b) (fun x _ ih b => List.rec false (fun y t _ => Bool.rec false (ih t) (Nat.beq x y)) b) a : List Nat → Bool) b
theorem natsEq_eq : ∀ a b : List Nat, natsEq a b = decide (a = b)
  | [], [] => rfl
  | [], _ :: _ => rfl
  | _ :: _, [] => rfl
  | x :: a, y :: b => by
    show (Bool.rec false (natsEq a b) (Nat.beq x y) : Bool) = _
    by_cases e : x = y
    · subst e
      rw [beq_yes rfl, natsEq_eq a b]
      by_cases e2 : a = b
      · subst e2; simp
      · rw [decide_eq_false e2, decide_eq_false (fun z => e2 (List.cons.inj z).2)]
    · rw [beq_no e, decide_eq_false (fun z => e (List.cons.inj z).1)]
def strEq (a b : Str) : Bool := natsEq a.cps.toList b.cps.toList
theorem strEq_eq (a b : Str) : strEq a b = decide (a = b) := by
  unfold strEq
  rw [natsEq_eq]
  refine decide_eq_decide.mpr ⟨fun e => ?_, fun e => by rw [e]⟩
  cases a with
  | mk p =>
    cases b with
    | mk q => exact congrArg Str.mk (Array.toList_inj.mp e)
/-- the same tree -/
def sameD (a b : D) : Bool := (D.rec (motive := fun _ => D → Bool) (fun _ => false) (fun b => D.rec (motive := fun _ => Bool) false true (fun _ => false) (fun _ => false) (fun _ => false) false (fun _ _ _ _ => false) (fun _ _ => false) (fun _ => false) (fun _ => false) false (fun _ _ => false) (fun _ _ => false) b)
  (fun x b => swB b fun y => Bool.rec (bNot y) y x) (fun x b => swI b fun y => iEq x y) (fun x b => swS b fun y => strEq x y) (fun b => swN b true) (fun _ _ iha iht b => swC b fun y u => et (iha y) (iht u)) (fun _ ih b => swT b ih) (fun _ _ => false) (fun _ _ => false) (fun _ => false) (fun _ _ _ => false) (fun _ _ _ => false) a : D → Bool) b
theorem sameD_ : ∀ {a b : D}, sameD a b = true → a = b
  | .non, b, h => by cases b <;> first | rfl | exact absurd (show false = true from h) Bool.false_ne_true
  | .bl x, b, h => by
    obtain ⟨y, rfl, h⟩ := swB_ h
    cases x <;> cases y <;> first | rfl | exact absurd (show false = true from h) Bool.false_ne_true
  | .int x, b, h => by
    obtain ⟨y, rfl, h1⟩ := swI_ h
    rw [iEq_eq] at h1
    rw [of_decide_eq_true h1]
  | .str x, b, h => by
    obtain ⟨y, rfl, h1⟩ := swS_ h
    rw [strEq_eq] at h1
    rw [of_decide_eq_true h1]
  | .nil, b, h => by
    obtain ⟨rfl, _⟩ := swN_ h
    rfl
  | .cons x t, b, h => by
    obtain ⟨y, u, rfl, h1⟩ := swC_ h
    obtain ⟨h2, h3⟩ := et_ h1
    rw [sameD_ h2, sameD_ h3]
  | .tup l, b, h => by
    obtain ⟨m, rfl, h1⟩ := swT_ h
    rw [sameD_ h1]
  | .und, b, h => absurd (show false = true from h) Bool.false_ne_true
  | .ref _, b, h => absurd (show false = true from h) Bool.false_ne_true
  | .ty _, b, h => absurd (show false = true from h) Bool.false_ne_true
  | .pot, b, h => absurd (show false = true from h) Bool.false_ne_true
  | .rol _, b, h => absurd (show false = true from h) Bool.false_ne_true
  | .rep _, b, h => absurd (show false = true from h) Bool.false_ne_true
/-- ints, texts, told texts -/
def sw3 (d : D) (ki : Int → Bool) (ks : Str → Bool) (kr : D → Bool) : Bool := D.rec (motive := fun _ => Bool) false false (fun _ => false) ki ks false (fun _ _ _ _ => false) (fun _ _ => false) (fun _ => false) (fun _ => false) false (fun _ _ => false) (fun d _ => kr d) d
theorem sw3_ {ki : Int → Bool} {ks : Str → Bool} {kr : D → Bool} (h : sw3 d ki ks kr = true) : (∃ i, d = .int i ∧ ki i = true) ∨ (∃ i, d = .str i ∧ ks i = true) ∨ ∃ i, d = .rep i ∧ kr i = true := by
  cases d <;> first | exact .inl ⟨_, rfl, h⟩ | exact .inr (.inl ⟨_, rfl, h⟩) | exact .inr (.inr ⟨_, rfl, h⟩) | exact absurd (show false = true from h) Bool.false_ne_true
def swP (d : D) (k : D → Bool) : Bool := D.rec (motive := fun _ => Bool) false false (fun _ => false) (fun _ => false) (fun _ => false) false (fun _ _ _ _ => false) (fun _ _ => false) (fun _ => false) (fun _ => false) false (fun _ _ => false) (fun d _ => k d) d
theorem swP_ {kk : D → Bool} (h : swP d kk = true) : ∃ i, d = .rep i ∧ kk i = true := by
  cases d <;> first | exact ⟨_, rfl, h⟩ | exact absurd (show false = true from h) Bool.false_ne_true
def eqD (d e : D) (k : Bool → Bool) : Bool := sw3 d (fun i => swI e fun j => k (iEq i j)) (fun a => swS e fun b => k (strEq a b)) (fun a => swP e fun b => et (sameD a b) (k true))
def opEq : O2 := fun d e w k => eqD d e fun b => k (.bl b) w
def opNe : O2 := fun d e w k => eqD d e fun b => k (.bl (bNot b)) w
theorem eqD_ {kk : Bool → Bool} (h : eqD d e kk = true) (rd : RD K r H d x) (re : RD K r H e y) : scal x y = true ∧ kk (decide (x = y)) = true := by
  rcases sw3_ h with ⟨i, rfl, q1⟩ | ⟨a, rfl, q1⟩ | ⟨a, rfl, q1⟩
  · obtain ⟨j, rfl, q2⟩ := swI_ q1
    cases rd
    cases re
    rw [iEq_eq] at q2
    refine ⟨rfl, ?_⟩
    have : decide (V.int i = V.int j) = decide (i = j) := decide_eq_decide.mpr ⟨fun z => V.int.inj z, fun z => by rw [z]⟩
    rw [this]; exact q2
  · obtain ⟨b, rfl, q2⟩ := swS_ q1
    cases rd
    cases re
    rw [strEq_eq] at q2
    refine ⟨rfl, ?_⟩
    have : decide (V.str a = V.str b) = decide (a = b) := decide_eq_decide.mpr ⟨fun z => V.str.inj z, fun z => by rw [z]⟩
    rw [this]; exact q2
  · obtain ⟨b, rfl, q2⟩ := swP_ q1
    obtain ⟨q3, q4⟩ := et_ q2
    have e := sameD_ q3
    subst e
    cases rd
    cases re
    exact ⟨rfl, by rw [decide_eq_true rfl]; exact q4⟩
theorem okEq : OkR X opEq (compareOp .Eq) := fun r w H d e x y k Q rw rd re q go => by
  obtain ⟨h1, h2⟩ := eqD_ q rd re
  exact op_eq.to ⟨h1, go.now rw (.bl _) h2⟩
theorem okNe : OkR X opNe (compareOp .NotEq) := fun r w H d e x y k Q rw rd re q go => by
  obtain ⟨h1, h2⟩ := eqD_ q rd re
  rw [bNot_eq] at h2
  exact op_ne.to ⟨h1, go.now rw (.bl _) h2⟩
/-- is: of two classes, of None -/
def swTy (d : D) (k : String → Bool) (kn : Bool) : Bool := D.rec (motive := fun _ => Bool) false kn (fun _ => false) (fun _ => false) (fun _ => false) false (fun _ _ _ _ => false) (fun _ _ => false) (fun _ => false) k false (fun _ _ => false) (fun _ _ => false) d
theorem swTy_ {kk : String → Bool} {kn : Bool} (h : swTy d kk kn = true) : (∃ s, d = .ty s ∧ kk s = true) ∨ (d = .non ∧ kn = true) := by
  cases d <;> first | exact .inl ⟨_, rfl, h⟩ | exact .inr ⟨rfl, h⟩ | exact absurd (show false = true from h) Bool.false_ne_true
def isNon (d : D) (k : Bool → Bool) : Bool := D.rec (motive := fun _ => Bool) false (k true) (fun _ => k false) (fun _ => k false) (fun _ => k false) false (fun _ _ _ _ => false) (fun _ _ => k false) (fun _ => k false) (fun _ => k false) false (fun _ _ => false) (fun _ _ => false) d
theorem isNon_ {kk : Bool → Bool} (h : isNon d kk = true) (rd : RD K r H d x) : kk (decide (x = .non)) = true := by
  cases rd with
  | non => exact h
  | bl b => rw [decide_eq_false (fun z => by cases z)]; exact h
  | int b => rw [decide_eq_false (fun z => by cases z)]; exact h
  | str b => rw [decide_eq_false (fun z => by cases z)]; exact h
  | ty b => rw [decide_eq_false (fun z => by cases z)]; exact h
  | tup _ _ => rw [decide_eq_false (fun z => by cases z)]; exact h
  | ref _ => rw [decide_eq_false (fun z => by cases z)]; exact h
  | pot => exact absurd (show false = true from h) Bool.false_ne_true
  | rep => exact absurd (show false = true from h) Bool.false_ne_true
  | rol _ => exact absurd (show false = true from h) Bool.false_ne_true
/-- the classes that are asked about, as numbers -/
def tyN (s : String) : Nat := s.length
def isTy2 (d e : D) (k : Bool → Bool) : Bool := swTy e (fun s => swTy d (fun t => k (decide (t = s))) false) (isNon d k)
def opIs : O2 := fun d e w k => isTy2 d e fun b => k (.bl b) w
def opIsNot : O2 := fun d e w k => isTy2 d e fun b => k (.bl (bNot b)) w
theorem okIs : OkR X opIs (compareOp .Is) := fun r w H d e x y k Q rw rd re q go => by
  rcases swTy_ q with ⟨s, rfl, q1⟩ | ⟨rfl, q1⟩
  · rcases swTy_ q1 with ⟨t, rfl, q2⟩ | ⟨rfl, q2⟩
    · cases rd
      cases re
      exact op_isTyB.to ⟨t, s, rfl, rfl, go.now rw (.bl _) q2⟩
    · exact absurd (show false = true from q2) Bool.false_ne_true
  · cases re
    exact op_isN.to ⟨rfl, go.now rw (.bl _) (isNon_ q1 rd)⟩
theorem okIsNot : OkR X opIsNot (compareOp .IsNot) := fun r w H d e x y k Q rw rd re q go => by
  rcases swTy_ q with ⟨s, rfl, q1⟩ | ⟨rfl, q1⟩
  · rcases swTy_ q1 with ⟨t, rfl, q2⟩ | ⟨rfl, q2⟩
    · cases rd
      cases re
      have q2 : k (.bl (bNot (decide (t = s)))) w = true := q2
      rw [bNot_eq] at q2
      exact op_notTyB.to ⟨t, s, rfl, rfl, go.now rw (.bl _) q2⟩
    · exact absurd (show false = true from q2) Bool.false_ne_true
  · cases re
    have h2 := isNon_ q1 rd
    have h2 : k (.bl (bNot (decide (x = .non)))) w = true := h2
    rw [bNot_eq] at h2
    exact op_notN.to ⟨rfl, go.now rw (.bl _) h2⟩
end
end Ear
namespace Ear
open PySem PySem.Spec PyProof.Rows L2

section
variable {X : Cx} {K : PySem.W.Frag} {r r0 r1 r2 r' : Rh} {S S' : Sg} {σ : L2.St} {w w1 w' : Wd} {H H0 H1 H2 H' : Hp} {k : Kt} {Q : VK} {pos : Pos} {d e l : D} {v x y : V} {vs xs ys : List V}
/-! ### built-ins -/
/-- one argument, two -/
def a1 (d : D) (k : D → Bool) : Bool := swC d fun x t => swN t (k x)
def a2 (d : D) (k : D → D → Bool) : Bool := swC d fun x t => swC t fun y u => swN u (k x y)
theorem a1_ {kk : D → Bool} (h : a1 d kk = true) (rl : RL K r H d vs) : ∃ x v, vs = [v] ∧ RD K r H x v ∧ kk x = true := by
  obtain ⟨x, t, rfl, h1⟩ := swC_ h
  obtain ⟨rfl, h2⟩ := swN_ h1
  cases rl with
  | cons rd rl =>
    cases rl
    exact ⟨x, _, rfl, rd, h2⟩
theorem a2_ {kk : D → D → Bool} (h : a2 d kk = true) (rl : RL K r H d vs) : ∃ x y u v, vs = [u, v] ∧ RD K r H x u ∧ RD K r H y v ∧ kk x y = true := by
  obtain ⟨x, t, rfl, h1⟩ := swC_ h
  obtain ⟨y, u, rfl, h2⟩ := swC_ h1
  obtain ⟨rfl, h3⟩ := swN_ h2
  cases rl with
  | cons rd rl =>
    cases rl with
    | cons re rl =>
      cases rl
      exact ⟨x, y, _, _, rfl, rd, re, h3⟩
/-- type(x) -/
def bType : O1 := fun d w k => a1 d fun x => D.rec (motive := fun _ => Bool) false (k (.ty "NoneType") w) (fun _ => k (.ty "bool") w) (fun _ => k (.ty "int") w) (fun _ => k (.ty "str") w) false (fun _ _ _ _ => false) (fun _ _ => k (.ty "tuple") w) (fun _ => k (.ty "list") w) (fun _ => false) false (fun _ _ => false) (fun _ _ => false) x
theorem okType : OkB X bType (.type "type") := fun r w H d xs k Q rw rl q go => by
  obtain ⟨z, v, rfl, rd, q1⟩ := a1_ q rl
  cases rd with
  | non => exact call_type1.to ⟨_, "NoneType", rfl, .non, go.now rw (.ty _) q1⟩
  | bl b => exact call_type1.to ⟨_, "bool", rfl, .bl b, go.now rw (.ty _) q1⟩
  | int b => exact call_type1.to ⟨_, "int", rfl, .int b, go.now rw (.ty _) q1⟩
  | str b => exact call_type1.to ⟨_, "str", rfl, .str b, go.now rw (.ty _) q1⟩
  | ty b => exact absurd (show false = true from q1) Bool.false_ne_true
  | tup h _ => exact call_type1.to ⟨_, "tuple", rfl, .tup h, go.now rw (.ty _) q1⟩
  | ref hi =>
    obtain ⟨us, z1, _⟩ := rw.lst _ hi
    exact call_type1.to ⟨_, "list", rfl, .lst (SqL.of z1), go.now rw (.ty _) q1⟩
  | pot => exact absurd (show false = true from q1) Bool.false_ne_true
  | rep => exact absurd (show false = true from q1) Bool.false_ne_true
  | rol _ => exact absurd (show false = true from q1) Bool.false_ne_true
/-- len(x) -/
def bLen : O1 := fun d w k => a1 d fun x => sw4 x (fun _ => false) (fun s => et (Nat.ble s.length small) (k (.int (Int.ofNat s.length)) w)) (fun l => k (.int (Int.ofNat (lenD l))) w) (fun i => onL w.h i fun l => k (.int (Int.ofNat (lenD l))) w)
theorem okLen : OkB X bLen (.builtin "len") := fun r w H d xs k Q rw rl q go => by
  obtain ⟨z, v, rfl, rd, q1⟩ := a1_ q rl
  rcases sw4_ q1 with ⟨i, rfl, q2⟩ | ⟨s, rfl, q2⟩ | ⟨l, rfl, q2⟩ | ⟨i, rfl, q2⟩
  · exact absurd (show false = true from q2) Bool.false_ne_true
  · obtain ⟨q3, q4⟩ := et_ q2
    cases rd
    exact call_len.to ⟨_, s.length, rfl, ⟨small_le q3, rfl⟩, go.now rw (.int _) q4⟩
  · cases rd with
    | tup h l =>
      rw [l.len] at q2
      exact call_len.to ⟨_, _, rfl, .inr ⟨_, h, rfl⟩, go.now rw (.int _) q2⟩
  · obtain ⟨l, h1, q3⟩ := onL_ q2
    obtain ⟨a, us, rfl, h2, l2, _⟩ := rd.list rw h1
    rw [l2.len] at q3
    exact call_len.to ⟨_, _, rfl, .inl ⟨_, SqL.of h2, rfl⟩, go.now rw (.int _) q3⟩
/-- all(list of bools), any -/
def allD (l : D) (k : Bool → Bool) : Bool := (D.rec (motive := fun _ => Bool → Bool) (fun _ => false) (fun _ => false) (fun _ _ => false) (fun _ _ => false) (fun _ _ => false) k (fun x _ _ ih b => swB x fun c => ih (Bool.rec false b c)) (fun _ _ _ => false) (fun _ _ => false) (fun _ _ => false) (fun _ => false) (fun _ _ _ => false) (fun _ _ _ => false) l : Bool → Bool) true
def anyD (l : D) (k : Bool → Bool) : Bool := (D.rec (motive := fun _ => Bool → Bool) (fun _ => false) (fun _ => false) (fun _ _ => false) (fun _ _ => false) (fun _ _ => false) k (fun x _ _ ih b => swB x fun c => ih (Bool.rec b true c)) (fun _ _ _ => false) (fun _ _ => false) (fun _ _ => false) (fun _ => false) (fun _ _ _ => false) (fun _ _ _ => false) l : Bool → Bool) false
theorem allD_ {kk : Bool → Bool} : ∀ {d : D} {vs : List V} {b : Bool}, RL K r H d vs → (D.rec (motive := fun _ => Bool → Bool) (fun _ => false) (fun _ => false) (fun _ _ => false) (fun _ _ => false) (fun _ _ => false) kk (fun x _ _ ih b => swB x fun c => ih (Bool.rec false b c)) (fun _ _ _ => false) (fun _ _ => false) (fun _ _ => false) (fun _ => false) (fun _ _ _ => false) (fun _ _ _ => false) d : Bool → Bool) b = true →
    ∃ bs : List Bool, vs = bs.map V.bl ∧ kk (bs.all id && b) = true
  | _, _, b, .nil, q => ⟨[], rfl, by simpa using q⟩
  | _, _, b, .cons rd rl, q => by
    obtain ⟨c, rfl, q1⟩ := swB_ q
    cases rd
    obtain ⟨bs, e, q2⟩ := allD_ (kk := kk) rl q1
    refine ⟨c :: bs, by rw [e]; rfl, ?_⟩
    have : ((c :: bs).all id && b) = (bs.all id && (Bool.rec false b c : Bool)) := by
      cases c <;> cases b <;> simp
    rw [this]
    exact q2
theorem anyD_ {kk : Bool → Bool} : ∀ {d : D} {vs : List V} {b : Bool}, RL K r H d vs → (D.rec (motive := fun _ => Bool → Bool) (fun _ => false) (fun _ => false) (fun _ _ => false) (fun _ _ => false) (fun _ _ => false) kk (fun x _ _ ih b => swB x fun c => ih (Bool.rec b true c)) (fun _ _ _ => false) (fun _ _ => false) (fun _ _ => false) (fun _ => false) (fun _ _ _ => false) (fun _ _ _ => false) d : Bool → Bool) b = true →
    ∃ bs : List Bool, vs = bs.map V.bl ∧ kk (bs.any id || b) = true
  | _, _, b, .nil, q => ⟨[], rfl, by simpa using q⟩
  | _, _, b, .cons rd rl, q => by
    obtain ⟨c, rfl, q1⟩ := swB_ q
    cases rd
    obtain ⟨bs, e, q2⟩ := anyD_ (kk := kk) rl q1
    refine ⟨c :: bs, by rw [e]; rfl, ?_⟩
    have : ((c :: bs).any id || b) = (bs.any id || (Bool.rec b true c : Bool)) := by
      cases c <;> cases b <;> simp
    rw [this]
    exact q2
def bAll : O1 := fun d w k => a1 d fun x => swR x fun i => onL w.h i fun l => allD l fun b => k (.bl b) w
def bAny : O1 := fun d w k => a1 d fun x => swR x fun i => onL w.h i fun l => anyD l fun b => k (.bl b) w
theorem okAll (hc : X.calm = true) : OkB X bAll (.builtin "all") := fun r w H d xs k Q rw rl q go => by
  obtain ⟨z, v, rfl, rd, q1⟩ := a1_ q rl
  obtain ⟨i, rfl, q2⟩ := swR_ q1
  obtain ⟨l, h1, q3⟩ := onL_ q2
  obtain ⟨a, us, rfl, h2, l2, _⟩ := rd.list rw h1
  obtain ⟨bs, e, q4⟩ := allD_ (kk := fun b => k (.bl b) w) l2 q3
  rw [Bool.and_true] at q4
  exact (cr_all hc).to ⟨a, bs, rfl, SqL.of (by rw [h2, e]), go.now rw (.bl _) q4⟩
theorem okAny (hc : X.calm = true) : OkB X bAny (.builtin "any") := fun r w H d xs k Q rw rl q go => by
  obtain ⟨z, v, rfl, rd, q1⟩ := a1_ q rl
  obtain ⟨i, rfl, q2⟩ := swR_ q1
  obtain ⟨l, h1, q3⟩ := onL_ q2
  obtain ⟨a, us, rfl, h2, l2, _⟩ := rd.list rw h1
  obtain ⟨bs, e, q4⟩ := anyD_ (kk := fun b => k (.bl b) w) l2 q3
  rw [Bool.or_false] at q4
  exact (cr_any hc).to ⟨a, bs, rfl, SqL.of (by rw [h2, e]), go.now rw (.bl _) q4⟩
/-- gcd(a, b) -/
def iAbs (i : Int) : Nat := Int.rec (fun n => n) (fun n => Nat.succ n) i
theorem iAbs_eq (i : Int) : iAbs i = i.natAbs := by cases i <;> rfl
def bGcd : O1 := fun d w k => a2 d fun x y => swI x fun i => swI y fun j => k (.int (Int.ofNat (Nat.gcd (iAbs i) (iAbs j)))) w
theorem okGcd : OkB X bGcd (.builtin "math.gcd") := fun r w H d xs k Q rw rl q go => by
  obtain ⟨z, y, u, v, rfl, rd, re, q1⟩ := a2_ q rl
  obtain ⟨i, rfl, q2⟩ := swI_ q1
  obtain ⟨j, rfl, q3⟩ := swI_ q2
  cases rd
  cases re
  rw [iAbs_eq, iAbs_eq] at q3
  exact cr_gcd.to ⟨i, j, rfl, go.now rw (.int _) q3⟩
/-- int(i), abs(i), max(i, j), min(i, j) -/
def bInt : O1 := fun d w k => a1 d fun x => swI x fun i => k (.int i) w
theorem okInt : OkB X bInt (.type "int") := fun r w H d xs k Q rw rl q go => by
  obtain ⟨z, v, rfl, rd, q1⟩ := a1_ q rl
  obtain ⟨i, rfl, q2⟩ := swI_ q1
  cases rd
  exact call_int1.to (.inl ⟨i, rfl, go.now rw (.int _) q2⟩)
def bAbs : O1 := fun d w k => a1 d fun x => swI x fun i => k (.int (Int.ofNat (iAbs i))) w
theorem okAbs : OkB X bAbs (.builtin "abs") := fun r w H d xs k Q rw rl q go => by
  obtain ⟨z, v, rfl, rd, q1⟩ := a1_ q rl
  obtain ⟨i, rfl, q2⟩ := swI_ q1
  cases rd
  have e : Int.ofNat (iAbs i) = if i < 0 then -i else i := by
    rw [iAbs_eq]
    show ((i.natAbs : Nat) : Int) = _
    split <;> omega
  rw [e] at q2
  exact call_abs.to ⟨i, rfl, go.now rw (.int _) q2⟩
def iMax (i j : Int) : Int := Bool.rec i j (iLt i j)
def iMin (i j : Int) : Int := Bool.rec i j (iLt j i)
theorem iMax_eq (i j : Int) : iMax i j = if j > i then j else i := by
  unfold iMax
  rw [iLt_eq]
  by_cases h : i < j
  · rw [decide_eq_true h, if_pos h]
  · rw [decide_eq_false h, if_neg h]
theorem iMin_eq (i j : Int) : iMin i j = if j < i then j else i := by
  unfold iMin
  rw [iLt_eq]
  by_cases h : j < i
  · rw [decide_eq_true h, if_pos h]
  · rw [decide_eq_false h, if_neg h]
def bMax2 : O1 := fun d w k => a2 d fun x y => swI x fun i => swI y fun j => k (.int (iMax i j)) w
def bMin2 : O1 := fun d w k => a2 d fun x y => swI x fun i => swI y fun j => k (.int (iMin i j)) w
theorem okMax2 (hc : X.calm = true) : OkB X bMax2 (.builtin "max") := fun r w H d xs k Q rw rl q go => by
  obtain ⟨z, y, u, v, rfl, rd, re, q1⟩ := a2_ q rl
  obtain ⟨i, rfl, q2⟩ := swI_ q1
  obtain ⟨j, rfl, q3⟩ := swI_ q2
  cases rd
  cases re
  rw [iMax_eq] at q3
  exact (call_max2 hc).to ⟨i, j, rfl, go.now rw (.int _) q3⟩
theorem okMin2 (hc : X.calm = true) : OkB X bMin2 (.builtin "min") := fun r w H d xs k Q rw rl q go => by
  obtain ⟨z, y, u, v, rfl, rd, re, q1⟩ := a2_ q rl
  obtain ⟨i, rfl, q2⟩ := swI_ q1
  obtain ⟨j, rfl, q3⟩ := swI_ q2
  cases rd
  cases re
  rw [iMin_eq] at q3
  exact (call_min2 hc).to ⟨i, j, rfl, go.now rw (.int _) q3⟩
/-- tuple(list | tuple), list(list | tuple) -/
def bTuple : O1 := fun d w k => a1 d fun x => sw4 x (fun _ => false) (fun _ => false) (fun l => k (.tup l) w) (fun i => onL w.h i fun l => k (.tup l) w)
theorem okTuple : OkB X bTuple (.type "tuple") := fun r w H d xs k Q rw rl q go => by
  obtain ⟨z, v, rfl, rd, q1⟩ := a1_ q rl
  rcases sw4_ q1 with ⟨i, rfl, q2⟩ | ⟨s, rfl, q2⟩ | ⟨l, rfl, q2⟩ | ⟨i, rfl, q2⟩
  · exact absurd (show false = true from q2) Bool.false_ne_true
  · exact absurd (show false = true from q2) Bool.false_ne_true
  · cases rd with
    | tup h l => exact call_tuple_of.to ⟨_, _, rfl, .inr ⟨h, go.now rw (.tup h l) q2⟩⟩
  · obtain ⟨l, h1, q3⟩ := onL_ q2
    obtain ⟨a, us, rfl, h2, l2, _⟩ := rd.list rw h1
    exact call_tuple_of.to ⟨_, _, rfl, .inl ⟨SqL.of h2, fun p hp => go.newT rw l2 hp q3⟩⟩
def bList : O1 := fun d w k => a1 d fun x => sw4 x (fun _ => false) (fun _ => false) (fun l => k (.ref w.n) (w.more l)) (fun i => onL w.h i fun l => k (.ref w.n) (w.more l))
theorem okList : OkB X bList (.type "list") := fun r w H d xs k Q rw rl q go => by
  obtain ⟨z, v, rfl, rd, q1⟩ := a1_ q rl
  rcases sw4_ q1 with ⟨i, rfl, q2⟩ | ⟨s, rfl, q2⟩ | ⟨l, rfl, q2⟩ | ⟨i, rfl, q2⟩
  · exact absurd (show false = true from q2) Bool.false_ne_true
  · exact absurd (show false = true from q2) Bool.false_ne_true
  · cases rd with
    | tup h l => exact call_list_of.to ⟨_, _, rfl, .inr h, fun p hp => go.newL rw l hp q2⟩
  · obtain ⟨l, h1, q3⟩ := onL_ q2
    obtain ⟨a, us, rfl, h2, l2, _⟩ := rd.list rw h1
    exact call_list_of.to ⟨_, _, rfl, .inl (SqL.of h2), fun p hp => go.newL rw l2 hp q3⟩
/-- the call of a built-in class -/
theorem ok_ct {op : O1} {ft : F} {x : Str} {p pos : Pos} {e : Expr} {es : List Expr} {T : String} (hc : OkB X op (.type T)) (ht : OkA X ft (e :: es)) (hm : X.mg x = none) (hg : Gl X x := by rfl) (hv : bootBuiltins x = some (.type T) := by rfl)
    (hn : x ≠ "__name__" := by decide) (hdb : (x == ("__debug__" : Str)) = false := by decide) (he : starEach (e :: es) X.env = (false, eval e X.env) :: starEach es X.env := by rfl) (hpl : (backTo pos (starEach es X.env)).any (·.1) = false := by rfl) :
    OkE X (eCb op ft) (.Call (.Name x p) (e :: es) [] pos) := fun r S σ w H k Q rs rw h g =>
  (pe_callTy (cr_tB _) hg hm hv (pa_tA _) hn hdb he hpl).to (ht r S σ w H _ _ rs rw h fun r1 ds xs w1 H1 g1 rw1 rl1 h1 => hc r1 w1 H1 ds xs k Q rw1 rl1 h1 (g.later g1 rw1.sep))
/-- a built-in function that the module has imported -/
theorem ok_cf {op : O1} {ft : F} {x : Str} {p pos : Pos} {e : Expr} {es : List Expr} {id : String} (hc : OkB X op (.builtin id)) (ht : OkA X ft (e :: es)) (hm : X.mg x = some (.builtin id)) (hg : Gl X x := by rfl)
    (hdb : (x == ("__debug__" : Str)) = false := by decide) (he : starEach (e :: es) X.env = (false, eval e X.env) :: starEach es X.env := by rfl) (hpl : (backTo pos (starEach es X.env)).any (·.1) = false := by rfl) :
    OkE X (eCb op ft) (.Call (.Name x p) (e :: es) [] pos) := fun r S σ w H k Q rs rw h g =>
  (pe_callBfun (cr_tB _) hg hm (pa_tA _) hdb he hpl).to (ht r S σ w H _ _ rs rw h fun r1 ds xs w1 H1 g1 rw1 rl1 h1 => hc r1 w1 H1 ds xs k Q rw1 rl1 h1 (g.later g1 rw1.sep))

/-! ### subscripts -/
/-- a place among n -/
def ixI (n : Nat) (i : Int) (k : Nat → Bool) : Bool := Int.rec (fun m => et (Nat.blt m n) (k m)) (fun m => et (Nat.blt m n) (k (Nat.sub n (Nat.succ m)))) i
theorem ixI_ {n : Nat} {i : Int} {kk : Nat → Bool} (h : ixI n i kk = true) : ∃ j, ixN n i = some j ∧ j < n ∧ kk j = true := by
  cases i with
  | ofNat m =>
    obtain ⟨h1, h2⟩ := et_ (show et (Nat.blt m n) (kk m) = true from h)
    rw [blt_eq] at h1
    have h3 := of_decide_eq_true h1
    refine ⟨m, ?_, h3, h2⟩
    unfold ixN
    rw [if_pos (by show (0 : Int) ≤ (m : Int); omega), if_pos (by show (m : Int) < (n : Int); omega)]
    rfl
  | negSucc m =>
    obtain ⟨h1, h2⟩ := et_ (show et (Nat.blt m n) (kk (Nat.sub n (Nat.succ m))) = true from h)
    rw [blt_eq] at h1
    have h3 := of_decide_eq_true h1
    refine ⟨n - (m + 1), ?_, by omega, h2⟩
    unfold ixN
    rw [if_neg (by omega), if_pos (by omega)]
    congr 1
    omega
/-- item number j of a list -/
def itD (l : D) (j : Nat) (k : D → Bool) : Bool := (D.rec (motive := fun _ => Nat → Bool) (fun _ => false) (fun _ => false) (fun _ _ => false) (fun _ _ => false) (fun _ _ => false) (fun _ => false) (fun x _ _ ih j => Nat.rec (k x) (fun i _ => ih i) j) (fun _ _ _ => false) (fun _ _ => false) (fun _ _ => false) (fun _ => false) (fun _ _ _ => false) (fun _ _ _ => false) l : Nat → Bool) j
theorem itD_ {kk : D → Bool} : ∀ {l : D} {vs : List V} {j : Nat}, RL K r H l vs → itD l j kk = true → ∃ d v, vs[j]? = some v ∧ RD K r H d v ∧ kk d = true
  | _, _, 0, .cons rd rl, h => ⟨_, _, rfl, rd, h⟩
  | _, _, j + 1, .cons rd rl, h => itD_ (j := j) rl h
  | _, _, 0, .nil, h => absurd (show false = true from h) Bool.false_ne_true
  | _, _, j + 1, .nil, h => absurd (show false = true from h) Bool.false_ne_true
def opIx : O2 := fun d e w k => sw4 d (fun _ => false) (fun _ => false) (fun l => swI e fun i => ixI (lenD l) i fun j => itD l j fun x => k x w) (fun n => swI e fun i => onL w.h n fun l => ixI (lenD l) i fun j => itD l j fun x => k x w)
def OkX (X : Cx) (op : O2) : Prop := ∀ (r : Rh) (w : Wd) (H : Hp) (d e : D) (x y : V) (k : Kt) (Q : VK), RW X.K r w H → RD X.K r H d x → RD X.K r H e y → op d e w k = true → Go X.K r H k Q → (rIxL X.K x y H Q ∨ rIxT X.K x y H Q)
theorem okIx : OkX X opIx := fun r w H d e x y k Q rw rd re q go => by
  rcases sw4_ q with ⟨i, rfl, q1⟩ | ⟨s, rfl, q1⟩ | ⟨l, rfl, q1⟩ | ⟨i, rfl, q1⟩
  · exact absurd (show false = true from q1) Bool.false_ne_true
  · exact absurd (show false = true from q1) Bool.false_ne_true
  · obtain ⟨i, rfl, q2⟩ := swI_ q1
    obtain ⟨j, h1, h2, q3⟩ := ixI_ q2
    cases re
    cases rd with
    | tup h l =>
      obtain ⟨c, v, z1, z2, q4⟩ := itD_ l q3
      refine .inr ⟨_, _, i, v, rfl, rfl, h, ?_, go.now rw z2 q4⟩
      unfold atI
      rw [← l.len, h1]
      exact z1
  · obtain ⟨i, rfl, q2⟩ := swI_ q1
    obtain ⟨l, h0, q3⟩ := onL_ q2
    obtain ⟨j, h1, h2, q4⟩ := ixI_ q3
    cases re
    obtain ⟨a, us, rfl, h3, l2, _⟩ := rd.list rw h0
    obtain ⟨c, v, z1, z2, q5⟩ := itD_ l2 q4
    refine .inl ⟨_, _, i, v, rfl, rfl, SqL.of h3, ?_, go.now rw z2 q5⟩
    unfold atI
    rw [← l2.len, h1]
    exact z1
theorem ok_ix {fa fb : F} {a b : Expr} (ha : OkE X fa a) (hb : OkE X fb b) (hs : PlainIx b := by exact fun _ _ => rfl) : OkE X (eBin opIx fa fb) (.Subscript a b pos) := fun r S σ w H k Q rs rw h g => by
  refine (pe_ix (IxR.or ix_list ix_tup) (pe_tE a) (pe_tE b) hs).to ?_
  refine ha r S σ w H _ _ rs rw h fun r1 d x w1 H1 g1 rw1 rd1 h1 => ?_
  refine hb r1 S σ w1 H1 _ _ (rs.mono g1 rw.sep) rw1 h1 fun r2 e y w2 H2 g2 rw2 rd2 h2 => ?_
  exact okIx r2 w2 H2 d e x y k Q rw2 (rd1.mono g2 rw1.sep) rd2 h2 (g.later (g1.trans rw1.sep g2) rw2.sep)
end
end Ear
namespace Ear
open PySem PySem.Spec PyProof.Rows L2

section
variable {X : Cx} {K : PySem.W.Frag} {r r0 r1 r2 r' : Rh} {S S' : Sg} {σ : L2.St} {w w1 w' : Wd} {H H0 H1 H2 H' : Hp} {k : Kt} {Q : VK} {pos : Pos} {d e l : D} {v x y : V} {vs xs ys : List V}
/-! ### iterators -/
theorem at_lt : ∀ {l : D} {vs : List V} {i : Nat} {v : V}, RL K r H l vs → vs[i]? = some v → ∃ d, atD l i = some d ∧ RD K r H d v
  | _, _, 0, _, .cons rd rl, h => by cases h; exact ⟨_, rfl, rd⟩
  | _, _, i + 1, _, .cons rd rl, h => at_lt (i := i) rl h
  | _, _, 0, _, .nil, h => by cases h
  | _, _, i + 1, _, .nil, h => by cases h
def itT (f : F) : IF := fun S w ks _ => f S w fun d w1 => swT d fun l => ks l w1
theorem ok_itT {f : F} {tg e : Expr} (he : OkE X f e) : OkI X (itT f) tg e := fun r S σ w H ks kl R rs rw h hs hl => by
  refine (pi_tup (pe_tE e)).to (he r S σ w H _ _ rs rw h fun r1 d v w1 H1 g1 rw1 rd1 h1 => ?_)
  obtain ⟨l, rfl, h2⟩ := swT_ h1
  cases rd1 with
  | tup hq rl =>
    rename_i a xs
    refine ⟨a, rfl, ⟨xs, hq⟩, hs r1 l w1 H1 _ g1 rw1 (Snap.of fun r2 w2 H2 g2 rw2 => ⟨xs, rl.mono g2 rw1.sep, fun i => ⟨fun hi => ?_, fun hi => ?_, fun z H3 c y1 y2 => ?_⟩⟩) h2⟩
    · exact ⟨xs, xs[i], g2.tup rw1.sep hq, List.getElem?_eq_getElem hi⟩
    · exact ⟨xs, g2.tup rw1.sep hq, hi⟩
    · obtain ⟨e1, e2⟩ := y1
      subst e1
      obtain ⟨u, z1, z2⟩ := at_get (rl.mono g2 rw1.sep) y2
      have z3 := e2 xs (g2.tup rw1.sep hq)
      rw [z1] at z3
      cases z3
      exact ⟨rw2, .refl, z2⟩
def itL (f : F) : IF := fun S w _ kl => f S w fun d w1 => swR d fun i => kl i (fun _ x => x) w1
theorem Gr.ref {i : Nat} (g : Gr r H r' H') (hi : i < r.n) : r'.f i = r.f i ∧ i < r'.n := ⟨g.f i hi, Nat.lt_of_lt_of_le hi g.le⟩
theorem ok_itL {f : F} {tg e : Expr} (he : OkE X f e) : OkI X (itL f) tg e := fun r S σ w H ks kl R rs rw h hs hl => by
  refine (pi_list (pe_tE e)).to (he r S σ w H _ _ rs rw h fun r1 d v w1 H1 g1 rw1 rd1 h1 => ?_)
  obtain ⟨j, rfl, h2⟩ := swR_ h1
  cases rd1 with
  | ref hj =>
    obtain ⟨us, z1, _⟩ := rw1.lst j hj
    refine ⟨_, rfl, ⟨us, SqL.of z1⟩, hl r1 j _ w1 H1 _ g1 rw1 (fun r2 w2 H2 l g2 rw2 q => ?_) h2⟩
    obtain ⟨e1, hj2⟩ := g2.ref hj
    obtain ⟨xs, z2, z3⟩ := rw2.lst j hj2
    rw [e1] at z2
    have rl := z3 l q
    refine ⟨xs, rl, fun i => ⟨fun hi => ?_, fun hi => ?_, fun z H3 c y1 y2 => ?_⟩⟩
    · exact ⟨xs, xs[i], SqL.of z2, List.getElem?_eq_getElem hi⟩
    · exact ⟨xs, SqL.of z2, hi⟩
    · obtain ⟨e3, e2⟩ := y1
      subst e3
      obtain ⟨u, z4, z5⟩ := at_get rl y2
      have z6 := e2 xs (SqL.of z2)
      rw [z4] at z6
      cases z6
      exact ⟨rw2, .refl, z5⟩
/-- for i, x in enumerate(list) -/
def itE (f : F) : IF := fun S w _ kl => f S w fun d w1 => a1 d fun x => swR x fun i => kl i (fun i x => .tup (.cons (.int (Int.ofNat i)) (.cons x .nil))) w1
theorem ok_itE {f : F} {e : Expr} {elts : List Expr} {kk : Nat} {tpos p pos : Pos} (he : OkA X f [e]) (hm : X.mg "enumerate" = none) (hg : Gl X "enumerate" := by rfl) (hs : starEach [e] X.env = [(false, eval e X.env)] := by rfl) : OkI X (itE f) (.Tuple elts kk tpos) (.Call (.Name "enumerate" p) [e] [] pos) := fun r S σ w H ks kl R rs rw h hss hl => by
  refine (pi_enum hg hm (pa_tA [e]) hs).to (he r S σ w H _ _ rs rw h fun r1 d vs w1 H1 g1 rw1 rl1 h1 => ?_)
  obtain ⟨x, v, rfl, rd, h2⟩ := a1_ h1 rl1
  obtain ⟨j, rfl, h3⟩ := swR_ h2
  cases rd with
  | ref hj =>
    obtain ⟨us, z1, _⟩ := rw1.lst j hj
    refine ⟨_, us, rfl, SqL.of z1, hl r1 j _ w1 H1 _ g1 rw1 (fun r2 w2 H2 l g2 rw2 q => ?_) h3⟩
    obtain ⟨e1, hj2⟩ := g2.ref hj
    obtain ⟨xs, z2, z3⟩ := rw2.lst j hj2
    rw [e1] at z2
    have rl := z3 l q
    refine ⟨xs, rl, fun i => ⟨fun hi => ?_, fun hi => ?_, fun z H3 c y1 y2 => ?_⟩⟩
    · exact ⟨xs, xs[i], SqL.of z2, List.getElem?_eq_getElem hi⟩
    · exact ⟨xs, SqL.of z2, hi⟩
    · obtain ⟨T, y, e2, e3, e4, e5⟩ := y1
      subst e2
      subst e4
      obtain ⟨u, z4, z5⟩ := at_get rl y2
      have z6 : u = y := Option.some.inj (z4.symm.trans (e5 xs (SqL.of z2)))
      rw [z6] at z5
      have g3 : Gr r2 H2 r2 (upd H2 T (.tup [.int (i : Nat), y])) := gr_new e3
      exact ⟨rw2.new e3, g3, .tup (SqT.of upd_same) (.cons (.int _) (.cons (z5.mono g3 rw2.sep) .nil))⟩
/-- lo, lo + 1, ..: n of them -/
def rngD (lo : Int) (n : Nat) : D := (Nat.rec (motive := fun _ => Int → D) (fun _ => .nil) (fun _ ih i => .cons (.int i) (ih (iAdd i (Int.ofNat 1)))) n : Int → D) lo
def rngV (lo : Int) (n : Nat) : List V := (List.range n).map fun i => .int (lo + (i : Nat))
theorem rngV_succ (lo : Int) (n : Nat) : rngV lo (n + 1) = .int lo :: rngV (lo + 1) n := by
  unfold rngV
  rw [List.range_succ_eq_map, List.map_cons, List.map_map]
  congr 1
  · simp
  · refine List.map_congr_left fun i _ => ?_
    show V.int (lo + ((i + 1 : Nat) : Int)) = _
    congr 1
    omega
theorem rng_rl (n : Nat) : ∀ lo : Int, RL K r H (rngD lo n) (rngV lo n) := by
  induction n with
  | zero => intro lo; exact .nil
  | succ n ih =>
    intro lo
    rw [rngV_succ]
    have e : rngD lo (n + 1) = .cons (.int lo) (rngD (iAdd lo (Int.ofNat 1)) n) := rfl
    rw [e, iAdd_eq]
    exact .cons (.int lo) (ih _)
def isRg (i : Int) : Bool := Int.rec (fun n => Nat.ble n 1000000) (fun n => Nat.ble n 1000000) i
theorem isRg_ {i : Int} (h : isRg i = true) : -(2 ^ 62) ≤ i ∧ i < 2 ^ 62 := by
  cases i with
  | ofNat n => have := Nat.le_of_ble_eq_true (show Nat.ble n 1000000 = true from h); show -(2 ^ 62) ≤ (n : Int) ∧ (n : Int) < 2 ^ 62; omega
  | negSucc n => have := Nat.le_of_ble_eq_true (show Nat.ble n 1000000 = true from h); omega
def toN (i : Int) : Nat := Int.rec (fun n => n) (fun _ => 0) i
theorem toN_eq (i : Int) : toN i = i.toNat := by cases i <;> rfl
theorem snap_rng {lo : Int} {n : Nat} : Snap K r H (Itr lo n) (rngD lo n) := Snap.of fun r2 w2 H2 g2 rw2 => ⟨rngV lo n, rng_rl n lo, fun i => by
  have hl : (rngV lo n).length = n := by unfold rngV; rw [List.length_map, List.length_range]
  rw [hl]
  refine ⟨id, id, fun z H3 c y1 y2 => ?_⟩
  obtain ⟨e1, e2⟩ := y1
  subst e1
  subst e2
  obtain ⟨u, z4, z5⟩ := at_get (rng_rl (K := K) (r := r2) (H := H3) n lo) y2
  have : u = .int (lo + (i : Nat)) := by
    unfold rngV at z4
    rw [List.getElem?_map] at z4
    cases q : (List.range n)[i]? with
    | none => rw [q] at z4; cases z4
    | some j =>
      rw [q] at z4
      have : j = i := by
        have := (List.getElem?_eq_some_iff.mp q).2
        rw [List.getElem_range] at this
        exact this.symm
      subst this
      cases z4
      rfl
  subst this
  exact ⟨rw2, .refl, z5⟩⟩
def itR1 (f : F) : IF := fun S w ks _ => f S w fun d w1 => a1 d fun x => swI x fun i => et (isRg i) (ks (rngD (Int.ofNat 0) (toN i)) w1)
theorem ok_itR1 {f : F} {tg a : Expr} {p pos : Pos} (he : OkA X f [a]) (hm : X.mg "range" = none) (hg : Gl X "range" := by rfl) (hs : starEach [a] X.env = [(false, eval a X.env)] := by rfl) : OkI X (itR1 f) tg (.Call (.Name "range" p) [a] [] pos) := fun r S σ w H ks kl R rs rw h hss hl => by
  refine (pi_range1 hg hm (pa_tA [a]) hs).to (he r S σ w H _ _ rs rw h fun r1 d vs w1 H1 g1 rw1 rl1 h1 => ?_)
  obtain ⟨x, v, rfl, rd, h2⟩ := a1_ h1 rl1
  obtain ⟨i, rfl, h3⟩ := swI_ h2
  obtain ⟨h4, h5⟩ := et_ h3
  cases rd
  obtain ⟨b1, b2⟩ := isRg_ h4
  rw [toN_eq] at h5
  exact ⟨i, rfl, b1, b2, hss r1 _ w1 H1 _ g1 rw1 snap_rng h5⟩
def itR2 (f : F) : IF := fun S w ks _ => f S w fun d w1 => a2 d fun x y => swI x fun i => swI y fun j => et (isRg i) (et (isRg j) (ks (rngD i (toN (iSub j i))) w1))
theorem ok_itR2 {f : F} {tg a b : Expr} {p pos : Pos} (he : OkA X f [a, b]) (hm : X.mg "range" = none) (hg : Gl X "range" := by rfl) (hs : starEach [a, b] X.env = [(false, eval a X.env), (false, eval b X.env)] := by rfl) (hs2 : starEach [b] X.env = [(false, eval b X.env)] := by rfl) : OkI X (itR2 f) tg (.Call (.Name "range" p) [a, b] [] pos) := fun r S σ w H ks kl R rs rw h hss hl => by
  refine (pi_range2 hg hm (pa_tA [a, b]) hs hs2).to (he r S σ w H _ _ rs rw h fun r1 d vs w1 H1 g1 rw1 rl1 h1 => ?_)
  obtain ⟨x, y, u, v, rfl, rd, re, h2⟩ := a2_ h1 rl1
  obtain ⟨i, rfl, h3⟩ := swI_ h2
  obtain ⟨j, rfl, h4⟩ := swI_ h3
  obtain ⟨h5, h6⟩ := et_ h4
  obtain ⟨h7, h8⟩ := et_ h6
  cases rd
  cases re
  obtain ⟨b1, b2⟩ := isRg_ h5
  obtain ⟨b3, b4⟩ := isRg_ h7
  rw [toN_eq, iSub_eq] at h8
  exact ⟨i, j, rfl, ⟨b1, b2, b3, b4⟩, hss r1 _ w1 H1 _ g1 rw1 snap_rng h8⟩

/-! ### stores -/
def setD (l : D) (j : Nat) (x : D) : D := (D.rec (motive := fun _ => Nat → D) (fun _ => l) (fun _ => l) (fun _ _ => l) (fun _ _ => l) (fun _ _ => l) (fun _ => .nil) (fun y t _ ih j => Nat.rec (.cons x t) (fun i _ => .cons y (ih i)) j) (fun _ _ _ => l) (fun _ _ => l) (fun _ _ => l) (fun _ => l) (fun _ _ _ => l) (fun _ _ _ => l) l : Nat → D) j
def setR (x l : D) (j : Nat) : D := match l, j with
  | .cons _ t, 0 => .cons x t
  | .cons y t, j + 1 => .cons y (setR x t j)
  | l, _ => l
theorem RL.set (rx : RD K r H e v) : ∀ {l : D} {vs : List V} {j : Nat}, RL K r H l vs → RL K r H (setR e l j) (vs.set j v)
  | _, _, 0, .cons rd rl => .cons rx rl
  | _, _, j + 1, .cons rd rl => .cons rd (RL.set rx (j := j) rl)
  | _, _, 0, .nil => .nil
  | _, _, j + 1, .nil => .nil
/-- list number n, place i, becomes x -/
def setAt (o i x : D) (w : Wd) (k : Wd → Bool) : Bool := swR o fun n => swI i fun i => onL w.h n fun l => ixI (lenD l) i fun j => k (w.put n (setR x l j))
theorem setAt_ {o i c : D} {p q u : V} {kk : Wd → Bool} (rw : RW K r w H) (ro : RD K r H o p) (ri : RD K r H i q) (rc : RD K r H c u) (h : setAt o i c w kk = true) {Q : Hp → Prop} (go : ∀ w' H', Gr r H r H' → RW K r w' H' → kk w' = true → Q H') : rSetL p q u H Q := by
  obtain ⟨n, rfl, h1⟩ := swR_ h
  obtain ⟨m, rfl, h2⟩ := swI_ h1
  obtain ⟨l, h3, h4⟩ := onL_ h2
  obtain ⟨j, h5, h6, h7⟩ := ixI_ h4
  cases ri
  obtain ⟨a, us, rfl, z1, rl, ea, hn⟩ := ro.list rw h3
  refine ⟨a, us, m, j, rfl, rfl, z1, by rw [← rl.len]; exact h5, ?_⟩
  subst ea
  exact go _ _ (gr_put hn) (rw.put hn (rl.set rc)) h7
def gIx (fo fi : F) : T := fun d S w k => fo S w fun o w1 => fi S w1 fun i w2 => setAt o i d w2 fun w3 => k S w3
theorem ok_gix {fo fi : F} {o i : Expr} (ho : OkE X fo o) (hi : OkE X fi i) (ha : ∀ v, assign (.Subscript o i pos) X.env v = (do
      let ov ← holding [v] (eval o X.env)
      let iv ← holding [v, ov] (eval i X.env)
      standAt pos
      holding [v, ov, iv] (setItem ov iv v)
      release [v, ov, iv] []) := by intro _; rfl) : OkG X (gIx fo fi) (.Subscript o i pos) := fun r S σ w H d v k Q rz rw rd h g => by
  refine (pg_sub (pe_tE o) (pe_tE i) set_list ha).to ?_
  refine ho r S σ w H _ _ rz rw h fun r1 d1 v1 w1 H1 g1 rw1 rd1 h1 => ?_
  refine hi r1 S σ w1 H1 _ _ (rz.mono g1 rw.sep) rw1 h1 fun r2 d2 v2 w2 H2 g2 rw2 rd2 h2 => ?_
  have g12 := g1.trans rw1.sep g2
  exact setAt_ rw2 (rd1.mono g2 rw1.sep) rd2 (rd.mono g12 rw.sep) h2 fun w3 H3 g3 rw3 h3 => g r2 S σ w3 H3 (g12.trans rw2.sep g3) (rz.mono (g12.trans rw2.sep g3) rw.sep) rw3 h3
/-- x op= e, o[i] op= e -/
def sAug (i : Nat) (op : O2) (f : F) : G := fun S w nx _ _ _ => nth S i fun x => def_ x (f S w fun y w1 => op x y w1 fun z w2 => nx (lset S i z) w2)
theorem ok_aug (i : Nat) {f : F} {op : O2} {o : Operator} {x : Str} {e : Expr} {pos' : Pos} (hN : X.N.Nodup) (ho : OkR X op (inplaceOp o)) (he : OkE X f e) (hi : X.N[i]? = some x := by rfl) (hx : Loc X.env.scope x := by first | exact Or.inl rfl | exact Or.inr rfl)
    (hf : X.fn x = true ∨ X.env.scope.names.lookup x = some .local := by first | exact .inl rfl | exact .inr rfl) : OkS X (sAug i op f) (.AugAssign (.Name x pos') o e pos) := fun r S σ w H nx rt bk ct D rz rw h g => by
  obtain ⟨d, h1, h2⟩ := nth_ h
  obtain ⟨h3, h4⟩ := def__ h2
  rcases rz.at_ i d h1 with z | ⟨v, z1, z2⟩
  · exact absurd z h3
  · refine (ps_aug (ti := fun x y H Q => tR X (inplaceOp o) x y H Q) hN hi hx (pe_tE e) (fun pins s σ H x y v u Q I rx ry q => q pins s σ v u I rx ry) hf).to ⟨v, z1, ?_⟩
    refine he r S σ w H _ _ rz rw h4 fun r1 d1 v1 w1 H1 g1 rw1 rd1 h5 => ?_
    refine ho r1 w1 H1 d d1 v v1 _ _ rw1 (z2.mono g1 rw.sep) rd1 h5 fun r2 d2 v2 w2 H2 g2 rw2 rd2 h6 => ?_
    exact g.nx r2 _ _ w2 H2 (g1.trans rw1.sep g2) ((rz.mono (g1.trans rw1.sep g2) rw.sep).set rd2) rw2 h6
def opAddI : O2 := opI2 iAdd
theorem okAddI : OkR X opAddI (inplaceOp .Add) := okI2 iop_add iAdd_eq
theorem okSubI : OkR X opSub (inplaceOp .Sub) := okI2 iop_sub iSub_eq
def opMulI : O2 := fun d e w k => swI d fun i => swI e fun j => et (Bool.rec (isMul j) true (isMul i)) (k (.int (iMul i j)) w)
theorem okMulI : OkR X opMulI (inplaceOp .Mult) := fun r w H d e x y k Q rw rd re q go => by
  obtain ⟨i, rfl, q1⟩ := swI_ q
  obtain ⟨j, rfl, q2⟩ := swI_ q1
  obtain ⟨q3, q4⟩ := et_ q2
  cases rd
  cases re
  rw [iMul_eq] at q4
  refine iop_mul.to ⟨i, j, rfl, rfl, ?_, go.now rw (.int _) q4⟩
  cases ei : isMul i with
  | true => exact .inl (isMul_ ei)
  | false =>
    rw [ei] at q3
    exact .inr (isMul_ q3)
def sAugX (fo fi : F) (op : O2) (fe : F) : G := fun S w nx _ _ _ => fo S w fun o w1 => fi S w1 fun i w2 => swR o fun n => swI i fun m => natI m fun q => onL w2.h n fun l => itD l q fun x => fe S w2 fun y w3 => op x y w3 fun z w4 => setAt o i z w4 fun w5 => nx S w5
/-- an item by a place from the left -/
def rGetN (K : PySem.W.Frag) : V → V → Hp → VK → Prop := fun x y H Q => ∃ (p : Addr) (us : List V) (j : Nat) (v : V), x = .ref p ∧ y = .int (j : Nat) ∧ SqL K H p us ∧ us[j]? = some v ∧ Q v H
theorem pget_list : PGet X (rGetN X.K) := fun pins s σ H o i ov iv Q I ro ri q => by
  obtain ⟨p, us, j, v, rfl, rfl, hs, ha, q⟩ := q
  cases ro
  obtain ⟨t, rfl⟩ := ri
  obtain ⟨zs, pr, ip, le⟩ := I.list hs
  obtain ⟨y, ey, ry⟩ := pr.get ha
  have hl : j < 2 ^ 63 := by
    have h1 := (List.getElem?_eq_some_iff.mp ha).1
    have h2 : sizeLine < 2 ^ 63 := by decide
    omega
  exact wpAny_getItem_list ip.isList (by omega) (by omega) (by simpa using ey) ⟨v, H, I, ry, q⟩
theorem ok_augx {fo fi fe : F} {op : O2} {o i e : Expr} {oo : Operator} {tpos : Pos} (ho : OkE X fo o) (hi : OkE X fi i) (hop : OkR X op (inplaceOp oo)) (he : OkE X fe e)
    (ha : ∀ ov iv new, augStore i ov iv new = (do holding [new, ov, iv] (setItem ov iv new); release [new, ov, iv] []; pure .next) := by intros; rfl) : OkS X (sAugX fo fi op fe) (.AugAssign (.Subscript o i tpos) oo e pos) := fun r S σ w H nx rt bk ct D rz rw h g => by
  refine (ps_augS (tip := fun x y H Q => tR X (inplaceOp oo) x y H Q) (pe_tE o) (pe_tE i) pget_list (pe_tE e) (fun pins s σ H x y v u Q I rx ry q => q pins s σ v u I rx ry) set_list ha).to ?_
  refine ho r S σ w H _ _ rz rw h fun r1 d1 v1 w1 H1 g1 rw1 rd1 h1 => ?_
  refine hi r1 S σ w1 H1 _ _ (rz.mono g1 rw.sep) rw1 h1 fun r2 d2 v2 w2 H2 g2 rw2 rd2 h2 => ?_
  have g12 := g1.trans rw1.sep g2
  have rd1' := rd1.mono g2 rw1.sep
  obtain ⟨n, rfl, h3⟩ := swR_ h2
  obtain ⟨m, rfl, h4⟩ := swI_ h3
  obtain ⟨q, rfl, h4'⟩ := natI_ h4
  obtain ⟨l, h5, h6⟩ := onL_ h4'
  obtain ⟨c, u, z1, z2, h9⟩ := itD_ ((rw2.lst n (by cases rd1'; assumption)).choose_spec.2 l h5) h6
  have z3 := (rw2.lst n (by cases rd1'; assumption)).choose_spec.1
  cases rd2
  cases rd1' with
  | ref hn =>
    refine ⟨_, _, q, u, rfl, rfl, SqL.of z3, z1, ?_⟩
    refine he r2 S σ w2 H2 _ _ (rz.mono g12 rw.sep) rw2 h9 fun r3 d3 v3 w3 H3 g3 rw3 rd3 h10 => ?_
    refine hop r3 w3 H3 c d3 u v3 _ _ rw3 (z2.mono g3 rw2.sep) rd3 h10 fun r4 d4 v4 w4 H4 g4 rw4 rd4 h11 => ?_
    have g34 := g3.trans rw3.sep g4
    have g14 := g12.trans rw2.sep g34
    exact setAt_ rw4 ((RD.ref hn).mono g34 rw2.sep) (.int _) rd4 h11 fun w5 H5 g5 rw5 h12 => g.nx r4 S σ w5 H5 (g14.trans rw4.sep g5) (rz.mono (g14.trans rw4.sep g5) rw.sep) rw5 h12

/-! ### slices -/
abbrev PF := Sg → Wd → (Option Int → Wd → Bool) → Bool
def tP (X : Cx) (e : Option Expr) : TO := fun σ H Q => ∀ (pins : List (Addr × Obj)) (s : Shared), Inv X pins σ H s → wpAny (model X.prog X.w) X.A (evalPart e X.env) (fun u s' => ∃ o H', Inv X pins σ H' s' ∧ IsPart u o ∧ Q o H') X.xe s
theorem po_tP (e : Option Expr) : PO X e (tP X e) := ⟨fun pins s σ H Q I h => h pins s I⟩
def OkP (X : Cx) (f : PF) (e : Option Expr) : Prop := ∀ (r : Rh) (S : Sg) (σ : L2.St) (w : Wd) (H : Hp) (k : Option Int → Wd → Bool) (Q : Option Int → Hp → Prop), RS X.K r H S σ → RW X.K r w H → f S w k = true →
  (∀ r' o w' H', Gr r H r' H' → RW X.K r' w' H' → k o w' = true → Q o H') → tP X e σ H Q
def pNo : PF := fun _ w k => k none w
def pAt (f : F) : PF := fun S w k => f S w fun d w1 => swI d fun i => k (some i) w1
theorem ok_pno : OkP X pNo none := fun r S σ w H k Q rs rw h g pins s I => po_none.run pins s σ H Q I (g r none w H .refl rw h)
theorem ok_pat {f : F} {e : Expr} (he : OkE X f e) : OkP X (pAt f) (some e) := fun r S σ w H k Q rs rw h g pins s I => (po_some (pe_tE e)).run pins s σ H Q I (he r S σ w H _ _ rs rw h fun r1 d v w1 H1 g1 rw1 rd1 h1 => by
  obtain ⟨i, rfl, h2⟩ := swI_ h1
  cases rd1
  exact ⟨i, rfl, g r1 (some i) w1 H1 g1 rw1 h2⟩)
def sIxD (n d : Nat) (o : Option Int) : Nat := Option.rec (motive := fun _ => Nat) d (fun v => Int.rec (motive := fun _ => Nat) (fun m => Bool.rec (motive := fun _ => Nat) m n (Nat.ble n m)) (fun m => Nat.sub n (Nat.succ m)) v) o
theorem sIxD_eq (n d : Nat) (o : Option Int) : sIxD n d o = HT.sIx n d o := by
  cases o with
  | none => rfl
  | some v =>
    cases v with
    | ofNat m =>
      show (Bool.rec (motive := fun _ => Nat) m n (Nat.ble n m) : Nat) = if Int.ofNat m < 0 then (Int.ofNat m + (n : Int)).toNat else min (Int.ofNat m).toNat n
      rw [if_neg (by show ¬ (m : Int) < 0; omega)]
      cases e : Nat.ble n m with
      | true =>
        have := Nat.le_of_ble_eq_true e
        show n = min m n
        omega
      | false =>
        have : ¬ n ≤ m := fun z => by rw [Nat.ble_eq_true_of_le z] at e; cases e
        show m = min m n
        omega
    | negSucc m =>
      show n - (m + 1) = if Int.negSucc m < 0 then (Int.negSucc m + (n : Int)).toNat else min (Int.negSucc m).toNat n
      rw [if_pos (by omega)]
      omega
def takeD (l : D) (n : Nat) : D := (D.rec (motive := fun _ => Nat → D) (fun _ => .nil) (fun _ => .nil) (fun _ _ => .nil) (fun _ _ => .nil) (fun _ _ => .nil) (fun _ => .nil) (fun x _ _ ih n => Nat.rec .nil (fun m _ => .cons x (ih m)) n) (fun _ _ _ => .nil) (fun _ _ => .nil) (fun _ _ => .nil) (fun _ => .nil) (fun _ _ _ => .nil) (fun _ _ _ => .nil) l : Nat → D) n
def cutD (l : D) (n : Nat) : D := (D.rec (motive := fun _ => Nat → D) (fun _ => .nil) (fun _ => .nil) (fun _ _ => .nil) (fun _ _ => .nil) (fun _ _ => .nil) (fun _ => .nil) (fun x t _ ih n => Nat.rec (.cons x t) (fun m _ => ih m) n) (fun _ _ _ => .nil) (fun _ _ => .nil) (fun _ _ => .nil) (fun _ => .nil) (fun _ _ _ => .nil) (fun _ _ _ => .nil) l : Nat → D) n
theorem RL.take : ∀ {l : D} {vs : List V} (n : Nat), RL K r H l vs → RL K r H (takeD l n) (vs.take n)
  | _, _, 0, .nil => .nil
  | _, _, _ + 1, .nil => .nil
  | _, _, 0, .cons rd rl => .nil
  | _, _, n + 1, .cons rd rl => .cons rd (RL.take n rl)
theorem RL.cut : ∀ {l : D} {vs : List V} (n : Nat), RL K r H l vs → RL K r H (cutD l n) (vs.drop n)
  | _, _, 0, .nil => .nil
  | _, _, _ + 1, .nil => .nil
  | _, _, 0, .cons rd rl => .cons rd rl
  | _, _, n + 1, .cons rd rl => RL.cut n rl
def slD (l : D) (lo hi : Option Int) : D := takeD (cutD l (sIxD (lenD l) 0 lo)) (Nat.sub (sIxD (lenD l) (lenD l) hi) (sIxD (lenD l) 0 lo))
theorem RL.sl {lo hi : Option Int} (h : RL K r H l vs) : RL K r H (slD l lo hi) (cutV vs lo hi) := by
  unfold slD cutV
  rw [sIxD_eq, sIxD_eq, h.len]
  exact (h.cut _).take _
def eSl (fe : F) (lo hi : PF) : F := fun S w k => fe S w fun d w1 => lo S w1 fun a w2 => hi S w2 fun b w3 => sw4 d (fun _ => false) (fun s => et (Nat.ble s.length small) (k (.str (cutS s a b)) w3)) (fun l => k (.tup (slD l a b)) w3) (fun i => onL w3.h i fun l => k (.ref w3.n) (w3.more (slD l a b)))
theorem ok_sl {fe : F} {lo hi : PF} {e : Expr} {el eh : Option Expr} {p2 : Pos} (he : OkE X fe e) (hl : OkP X lo el) (hh : OkP X hi eh) : OkE X (eSl fe lo hi) (.Subscript e (.Slice el eh none p2) pos) := fun r S σ w H k Q rs rw h g => by
  refine (pe_slice (SlR.or sl_str (SlR.or sl_tupA sl_list)) (pe_tE e) (po_tP el) (po_tP eh)).to ?_
  refine he r S σ w H _ _ rs rw h fun r1 d v w1 H1 g1 rw1 rd1 h1 => ?_
  refine hl r1 S σ w1 H1 _ _ (rs.mono g1 rw.sep) rw1 h1 fun r2 a w2 H2 g2 rw2 h2 => ?_
  have g12 := g1.trans rw1.sep g2
  refine hh r2 S σ w2 H2 _ _ (rs.mono g12 rw.sep) rw2 h2 fun r3 b w3 H3 g3 rw3 h3 => ?_
  have g13 := g12.trans rw2.sep g3
  have rd3 := (rd1.mono g2 rw1.sep).mono g3 rw2.sep
  have gg := g.later g13 rw3.sep
  rcases sw4_ h3 with ⟨i, rfl, h4⟩ | ⟨z, rfl, h4⟩ | ⟨l, rfl, h4⟩ | ⟨i, rfl, h4⟩
  · exact absurd (show false = true from h4) Bool.false_ne_true
  · obtain ⟨h5, h6⟩ := et_ h4
    cases rd3
    exact .inl ⟨z, rfl, small_le h5, gg.now rw3 (.str _) h6⟩
  · cases rd3 with
    | tup hq rl =>
      rename_i p xs
      refine .inr (.inl ⟨p, xs, rfl, hq, fun hw => ?_, fun hw p3 hp => gg.newT rw3 rl.sl hp h4⟩)
      have e1 : cutV xs a b = xs := by
        unfold cutV
        rw [hw.1, hw.2, List.drop_zero, Nat.sub_zero, List.take_length]
      have rl2 := rl.sl (lo := a) (hi := b)
      rw [e1] at rl2
      exact gg.now rw3 (.tup hq rl2) h4
  · obtain ⟨l, h5, h6⟩ := onL_ h4
    obtain ⟨p, xs, rfl, z1, rl, _⟩ := rd3.list rw3 h5
    exact .inr (.inr ⟨p, xs, rfl, SqL.of z1, fun p3 hp => gg.newL rw3 rl.sl hp h6⟩)

/-! ### texts -/
def eM1 (op : Str → D → Wd → Kt → Bool) (fo fe : F) : F := fun S w k => fo S w fun o w1 => swS o fun a => fe S w1 fun y w2 => op a y w2 k
def eM0 (op : Str → Wd → Kt → Bool) (fo : F) : F := fun S w k => fo S w fun o w1 => swS o fun a => op a w1 k
theorem ok_m0 {id : String} {name : Str} {apos : Pos} {rr : V → List V → Hp → VK → Prop} {op : Str → Wd → Kt → Bool} {fo : F} {o : Expr} (slot : Slot "str" name id) (ty : typeOf (.builtin id) = pure (.type "method_descriptor")) (rule : MtR X id rr) (ho : OkE X fo o)
    (hr : ∀ (r : Rh) (w : Wd) (H : Hp) (a : Str) (k : Kt) (Q : VK), RW X.K r w H → op a w k = true → Go X.K r H k Q → rr (.str a) [] H Q)
    (hbase : attributeBase o name X.env (eval o X.env) = eval o X.env := by rfl) (hline : (apos.endLine == pos.line) = true := by rfl) : OkE X (eM0 op fo) (.Call (.Attribute o name apos) [] [] pos) := fun r S σ w H k Q rs rw h g => by
  refine (pe_m0 slot ty rule (pe_tE o) hbase hline).to (ho r S σ w H _ _ rs rw h fun r1 d v w1 H1 g1 rw1 rd1 h1 => ?_)
  obtain ⟨a, rfl, h2⟩ := swS_ h1
  cases rd1
  exact ⟨⟨a, rfl⟩, hr r1 w1 H1 a k Q rw1 h2 (g.later g1 rw1.sep)⟩
theorem ok_m1 {id : String} {name : Str} {apos : Pos} {rr : V → List V → Hp → VK → Prop} {op : Str → D → Wd → Kt → Bool} {fo fe : F} {o e : Expr} (slot : Slot "str" name id) (ty : typeOf (.builtin id) = pure (.type "method_descriptor")) (rule : MtR X id rr) (ho : OkE X fo o) (he : OkE X fe e)
    (hr : ∀ (r : Rh) (w : Wd) (H : Hp) (a : Str) (d : D) (y : V) (k : Kt) (Q : VK), RW X.K r w H → RD X.K r H d y → op a d w k = true → Go X.K r H k Q → rr (.str a) [y] H Q)
    (hs : starEach [e] X.env = [(false, eval e X.env)] := by rfl) (hbase : attributeBase o name X.env (eval o X.env) = eval o X.env := by rfl) (hline : (apos.endLine == pos.line) = true := by rfl) : OkE X (eM1 op fo fe) (.Call (.Attribute o name apos) [e] [] pos) := fun r S σ w H k Q rs rw h g => by
  refine (pe_m1 slot ty rule (pe_tE o) (pe_tE e) hs hbase hline).to (ho r S σ w H _ _ rs rw h fun r1 d v w1 H1 g1 rw1 rd1 h1 => ?_)
  obtain ⟨a, rfl, h2⟩ := swS_ h1
  cases rd1
  refine ⟨⟨a, rfl⟩, he r1 S σ w1 H1 _ _ (rs.mono g1 rw.sep) rw1 h2 fun r2 d2 v2 w2 H2 g2 rw2 rd2 h3 => ?_⟩
  exact hr r2 w2 H2 a d2 v2 k Q rw2 rd2 h3 (g.later (g1.trans rw1.sep g2) rw2.sep)
def mStarts : Str → D → Wd → Kt → Bool := fun a y w k => swS y fun b => k (.bl (Txt.startswith a b)) w
theorem ok_starts {fo fe : F} {o e : Expr} {apos : Pos} (ho : OkE X fo o) (he : OkE X fe e) (hs : starEach [e] X.env = [(false, eval e X.env)] := by rfl) (hbase : attributeBase o "startswith" X.env (eval o X.env) = eval o X.env := by rfl) (hline : (apos.endLine == pos.line) = true := by rfl) :
    OkE X (eM1 mStarts fo fe) (.Call (.Attribute o "startswith" apos) [e] [] pos) := ok_m1 F.slot_str_startswith F.type_str_startswith mt_startswith ho he (fun r w H a d y k Q rw rd h g => by
  obtain ⟨b, rfl, h2⟩ := swS_ h
  cases rd
  exact ⟨a, b, rfl, rfl, g.now rw (.bl _) h2⟩) hs hbase hline
def mIsdigit : Str → Wd → Kt → Bool := fun a w k => k (.bl (Txt.isdigit a)) w
def mIsascii : Str → Wd → Kt → Bool := fun a w k => k (.bl (Txt.isascii a)) w
theorem ok_isdigit {fo : F} {o : Expr} {apos : Pos} (ho : OkE X fo o) (hbase : attributeBase o "isdigit" X.env (eval o X.env) = eval o X.env := by rfl) (hline : (apos.endLine == pos.line) = true := by rfl) :
    OkE X (eM0 mIsdigit fo) (.Call (.Attribute o "isdigit" apos) [] [] pos) := ok_m0 F.slot_str_isdigit F.type_str_isdigit mt_isdigit ho (fun r w H a k Q rw h g => ⟨a, rfl, rfl, trivial, g.now rw (.bl _) h⟩) hbase hline
theorem ok_isascii {fo : F} {o : Expr} {apos : Pos} (ho : OkE X fo o) (hbase : attributeBase o "isascii" X.env (eval o X.env) = eval o X.env := by rfl) (hline : (apos.endLine == pos.line) = true := by rfl) :
    OkE X (eM0 mIsascii fo) (.Call (.Attribute o "isascii" apos) [] [] pos) := ok_m0 F.slot_str_isascii F.type_str_isascii mt_isascii ho (fun r w H a k Q rw h g => ⟨a, rfl, rfl, trivial, g.now rw (.bl _) h⟩) hbase hline
def mPart : Str → D → Wd → Kt → Bool := fun a y w k => swS y fun b => et (bNot (Nat.beq b.length 0)) (et (Nat.ble a.length small) (k (.tup (.cons (.str (Txt.partition a b).1) (.cons (.str (Txt.partition a b).2.1) (.cons (.str (Txt.partition a b).2.2) .nil)))) w))
theorem len0 {b : Str} (h : bNot (Nat.beq b.length 0) = true) : (b.length == 0) = false := by
  rw [bNot_eq, beq_eq] at h
  cases e : (b.length == 0) with
  | false => rfl
  | true =>
    rw [decide_eq_true (by simpa using e)] at h
    cases h
theorem ok_part {fo fe : F} {o e : Expr} {apos : Pos} (ho : OkE X fo o) (he : OkE X fe e) (hs : starEach [e] X.env = [(false, eval e X.env)] := by rfl) (hbase : attributeBase o "partition" X.env (eval o X.env) = eval o X.env := by rfl) (hline : (apos.endLine == pos.line) = true := by rfl) :
    OkE X (eM1 mPart fo fe) (.Call (.Attribute o "partition" apos) [e] [] pos) := ok_m1 F.slot_str_partition F.type_str_partition mt_partition ho he (fun r w H a d y k Q rw rd h g => by
  obtain ⟨b, rfl, h2⟩ := swS_ h
  obtain ⟨h3, h4⟩ := et_ h2
  obtain ⟨h5, h6⟩ := et_ h4
  cases rd
  exact ⟨a, b, rfl, rfl, len0 h3, small_le h5, fun p hp => g.newT rw (.cons (.str _) (.cons (.str _) (.cons (.str _) .nil))) hp h6⟩) hs hbase hline
def strsD (ys : List Str) : D := List.rec (motive := fun _ => D) .nil (fun y _ ih => .cons (.str y) ih) ys
theorem strs_rl : ∀ ys : List Str, RL K r H (strsD ys) (ys.map V.str)
  | [] => .nil
  | y :: ys => .cons (.str y) (strs_rl ys)
def mSplit : Str → D → Wd → Kt → Bool := fun a y w k => swS y fun b => et (bNot (Nat.beq b.length 0)) (et (Nat.ble (Nat.add a.length 2) small) (k (.ref w.n) (w.more (strsD (Txt.split a b)))))
theorem ok_split {fo fe : F} {o e : Expr} {apos : Pos} (ho : OkE X fo o) (he : OkE X fe e) (hs : starEach [e] X.env = [(false, eval e X.env)] := by rfl) (hbase : attributeBase o "split" X.env (eval o X.env) = eval o X.env := by rfl) (hline : (apos.endLine == pos.line) = true := by rfl) :
    OkE X (eM1 mSplit fo fe) (.Call (.Attribute o "split" apos) [e] [] pos) := ok_m1 F.slot_str_split F.type_str_split mt_split ho he (fun r w H a d y k Q rw rd h g => by
  obtain ⟨b, rfl, h2⟩ := swS_ h
  obtain ⟨h3, h4⟩ := et_ h2
  obtain ⟨h5, h6⟩ := et_ h4
  cases rd
  exact ⟨a, b, rfl, rfl, len0 h3, small_le h5, fun p hp => g.newL rw (strs_rl _) hp h6⟩) hs hbase hline
/-- a list of texts -/
def strsOf (l : D) (k : List Str → Bool) : Bool := (D.rec (motive := fun _ => List Str → Bool) (fun _ => false) (fun _ => false) (fun _ _ => false) (fun _ _ => false) (fun _ _ => false) (fun a => k a.reverse) (fun x _ _ ih a => swS x fun s => ih (s :: a)) (fun _ _ _ => false) (fun _ _ => false) (fun _ _ => false) (fun _ => false) (fun _ _ _ => false) (fun _ _ _ => false) l : List Str → Bool) []
theorem strsOf_ {kk : List Str → Bool} : ∀ {l : D} {vs : List V} {a : List Str}, RL K r H l vs → (D.rec (motive := fun _ => List Str → Bool) (fun _ => false) (fun _ => false) (fun _ _ => false) (fun _ _ => false) (fun _ _ => false) (fun a => kk a.reverse) (fun x _ _ ih a => swS x fun s => ih (s :: a)) (fun _ _ _ => false) (fun _ _ => false) (fun _ _ => false) (fun _ => false) (fun _ _ _ => false) (fun _ _ _ => false) l : List Str → Bool) a = true →
    ∃ ys : List Str, vs = ys.map V.str ∧ kk (a.reverse ++ ys) = true
  | _, _, a, .nil, h => ⟨[], rfl, by rw [List.append_nil]; exact h⟩
  | _, _, a, .cons rd rl, h => by
    obtain ⟨s, rfl, h2⟩ := swS_ h
    cases rd
    obtain ⟨ys, e, h3⟩ := strsOf_ (kk := kk) rl h2
    refine ⟨s :: ys, by rw [e]; rfl, ?_⟩
    rw [List.reverse_cons, List.append_assoc] at h3
    exact h3
def sumLen (ys : List Str) : Nat := (ys.map (·.length)).sum
def mJoin : Str → D → Wd → Kt → Bool := fun a y w k => swR y fun i => onL w.h i fun l => strsOf l fun ys => et (Nat.ble (Nat.add (sumLen ys) (Nat.mul ys.length a.length)) small) (k (.str (Txt.join a ys)) w)
theorem ok_join {fo fe : F} {o e : Expr} {apos : Pos} (ho : OkE X fo o) (he : OkE X fe e) (hs : starEach [e] X.env = [(false, eval e X.env)] := by rfl) (hbase : attributeBase o "join" X.env (eval o X.env) = eval o X.env := by rfl) (hline : (apos.endLine == pos.line) = true := by rfl) :
    OkE X (eM1 mJoin fo fe) (.Call (.Attribute o "join" apos) [e] [] pos) := ok_m1 F.slot_str_join F.type_str_join mt_join ho he (fun r w H a d y k Q rw rd h g => by
  obtain ⟨i, rfl, h2⟩ := swR_ h
  obtain ⟨l, h3, h4⟩ := onL_ h2
  obtain ⟨p, us, rfl, z1, rl, _⟩ := rd.list rw h3
  obtain ⟨ys, e1, h5⟩ := strsOf_ (kk := fun ys => et (Nat.ble (Nat.add (sumLen ys) (Nat.mul ys.length a.length)) small) (k (.str (Txt.join a ys)) w)) (a := []) rl h4
  obtain ⟨h6, h7⟩ := et_ h5
  refine ⟨a, p, ys, rfl, rfl, .inl (SqL.of (by rw [z1, e1])), ?_, g.now rw (.str _) h7⟩
  have := Nat.le_of_ble_eq_true h6
  exact Nat.le_trans this (by decide)) hs hbase hline
/-- str(i), int(text) -/
def log2Small (i : Int) : Bool := Nat.blt (iAbs i) (2 ^ 1900)
def bStr : O1 := fun d w k => a1 d fun x => swI x fun i => et (log2Small i) (k (.str (toString i)) w)
theorem okStr : OkB X bStr (.type "str") := fun r w H d xs k Q rw rl q go => by
  obtain ⟨z, v, rfl, rd, q1⟩ := a1_ q rl
  obtain ⟨i, rfl, q2⟩ := swI_ q1
  obtain ⟨q3, q4⟩ := et_ q2
  cases rd
  refine call_str_int.to ⟨i, rfl, ?_, go.now rw (.str _) q4⟩
  unfold log2Small at q3
  rw [blt_eq, iAbs_eq] at q3
  have h := of_decide_eq_true q3
  by_cases h0 : i.natAbs = 0
  · rw [h0]; decide
  · exact Nat.lt_trans ((Nat.log2_lt h0).mpr h) (by decide)
def bIntS : O1 := fun d w k => a1 d fun x => swS x fun a => et (Nat.ble a.length 640) (Option.rec false (fun n => k (.int n) w) (PySem.intText? a))
theorem okIntS : OkB X bIntS (.type "int") := fun r w H d xs k Q rw rl q go => by
  obtain ⟨z, v, rfl, rd, q1⟩ := a1_ q rl
  obtain ⟨a, rfl, q2⟩ := swS_ q1
  obtain ⟨q3, q4⟩ := et_ q2
  cases rd
  cases e : PySem.intText? a with
  | none => rw [e] at q4; exact absurd (show false = true from q4) Bool.false_ne_true
  | some n =>
    rw [e] at q4
    exact call_int_str.to ⟨a, n, rfl, e, Nat.le_of_ble_eq_true q3, go.now rw (.int _) q4⟩
end
end Ear
namespace Ear
open PySem PySem.Spec PyProof.Rows L2

section
variable {X : Cx} {K : PySem.W.Frag} {r r0 r1 r2 r' : Rh} {S S' : Sg} {σ : L2.St} {w w1 w' : Wd} {H H0 H1 H2 H' : Hp} {k : Kt} {Q : VK} {pos : Pos} {d e l : D} {v x y : V} {vs xs ys : List V}
/-! ### told texts -/
/-- plain data; how long its text may be; how deep it is -/
def isPd (d : D) : Bool := D.rec (motive := fun _ => Bool) false true (fun _ => true) (fun i => log2Small i) (fun _ => true) true (fun _ _ a b => et a b) (fun _ a => a) (fun _ => false) (fun _ => false) false (fun _ _ => false) (fun _ _ => false) d
def szD (d : D) : Nat := D.rec (motive := fun _ => Nat) 10 10 (fun _ => 10) (fun _ => 2000) (fun x => (reprText x).length) 0 (fun _ _ a b => Nat.add (Nat.add a b) 6) (fun _ a => Nat.add a 3) (fun _ => 10) (fun _ => 10) 10 (fun _ _ => 10) (fun _ _ => 10) d
def dpD (d : D) : Nat := D.rec (motive := fun _ => Nat) 0 0 (fun _ => 0) (fun _ => 0) (fun _ => 0) 0 (fun _ _ a b => Nat.add a b) (fun _ a => Nat.succ a) (fun _ => 0) (fun _ => 0) 0 (fun _ _ => 0) (fun _ _ => 0) d
theorem log2S {i : Int} (h : log2Small i = true) : i.natAbs.log2 < 1920 := by
  unfold log2Small at h
  rw [blt_eq, iAbs_eq] at h
  have h := of_decide_eq_true h
  by_cases h0 : i.natAbs = 0
  · rw [h0]; decide
  · exact Nat.lt_trans ((Nat.log2_lt h0).mpr h) (by decide)
/-- all that is asked of plain data -/
structure Pl (d : D) : Prop where
  one : (pd d).showable = true ∧ (pd d).hasDict = false ∧ (pd d).depth ≤ dpD d
  all : PyData.showableAll (pdB d).2 = true ∧ PyData.hasDictAll (pdB d).2 = false ∧ PyData.depthAll (pdB d).2 ≤ dpD d
theorem pl : ∀ {d : D}, isPd d = true → Pl d
  | .non, h => ⟨⟨rfl, rfl, Nat.le_refl _⟩, ⟨rfl, rfl, Nat.le_refl _⟩⟩
  | .bl b, h => ⟨⟨rfl, rfl, Nat.le_refl _⟩, ⟨rfl, rfl, Nat.le_refl _⟩⟩
  | .int i, h => ⟨⟨by show PyData.showable (.int i) = true; simp only [PyData.showable]; exact decide_eq_true (log2S h), by show PyData.hasDict (.int i) = false; simp only [PyData.hasDict], by show PyData.depth (.int i) ≤ _; simp only [PyData.depth]; exact Nat.zero_le _⟩, ⟨rfl, rfl, Nat.le_refl _⟩⟩
  | .str x, h => ⟨⟨rfl, rfl, Nat.le_refl _⟩, ⟨rfl, rfl, Nat.le_refl _⟩⟩
  | .nil, h => ⟨⟨rfl, rfl, Nat.le_refl _⟩, ⟨rfl, rfl, Nat.le_refl _⟩⟩
  | .cons a t, h => by
    obtain ⟨h1, h2⟩ := et_ h
    obtain ⟨⟨a1, a2, a3⟩, _⟩ := pl h1
    obtain ⟨_, ⟨b1, b2, b3⟩⟩ := pl h2
    refine ⟨⟨rfl, rfl, Nat.zero_le _⟩, ⟨?_, ?_, ?_⟩⟩
    · show PyData.showableAll (pd a :: (pdB t).2) = true
      simp only [PyData.showableAll, a1, b1, Bool.and_true]
    · show PyData.hasDictAll (pd a :: (pdB t).2) = false
      simp only [PyData.hasDictAll, a2, b2, Bool.or_false]
    · show PyData.depthAll (pd a :: (pdB t).2) ≤ dpD a + dpD t
      simp only [PyData.depthAll]
      omega
  | .tup l, h => by
    obtain ⟨_, ⟨b1, b2, b3⟩⟩ := pl (d := l) h
    refine ⟨⟨?_, ?_, ?_⟩, ⟨rfl, rfl, Nat.zero_le _⟩⟩
    · show PyData.showable (.tuple (pdB l).2) = true
      simp only [PyData.showable, b1]
    · show PyData.hasDict (.tuple (pdB l).2) = false
      simp only [PyData.hasDict, b2]
    · show PyData.depth (.tuple (pdB l).2) ≤ dpD l + 1
      simp only [PyData.depth]
      omega
theorem pl_sz : ∀ {d : D}, isPd d = true → (pd d).shown.length ≤ szD d + 4 ∧ ((PyData.shownAll (pdB d).2).map (·.length)).sum + 2 * (PyData.shownAll (pdB d).2).length ≤ szD d
  | .non, h => ⟨by show (PyData.shown .none).length ≤ 14; simp only [PyData.shown]; decide, by show _ ≤ 10; simp only [pdB, PyData.shownAll]; decide⟩
  | .bl b, h => ⟨by show (PyData.shown (.bool b)).length ≤ 14; simp only [PyData.shown]; cases b <;> decide, by show _ ≤ 10; simp only [pdB, PyData.shownAll]; decide⟩
  | .int i, h => ⟨by
      show (PyData.shown (.int i)).length ≤ 2004
      simp only [PyData.shown]
      have e := int_text_length_le (k := 1920) (by decide) (log2S h)
      show (Str.ofString (toString i)).length ≤ 2004
      rw [PySem.ofString_length]
      omega, by show _ ≤ 2000; simp only [pdB, PyData.shownAll]; decide⟩
  | .str x, h => ⟨by show (PyData.shown (.str x)).length ≤ (reprText x).length + 4; simp only [PyData.shown]; omega, by show ((PyData.shownAll []).map (·.length)).sum + 2 * (PyData.shownAll []).length ≤ _; simp only [PyData.shownAll]; exact Nat.zero_le _⟩
  | .nil, h => ⟨by show (PyData.shown .none).length ≤ 4; simp only [PyData.shown]; decide, by show ((PyData.shownAll []).map (·.length)).sum + 2 * (PyData.shownAll []).length ≤ 0; simp only [PyData.shownAll]; decide⟩
  | .cons a t, h => by
    obtain ⟨h1, h2⟩ := et_ h
    obtain ⟨a1, _⟩ := pl_sz h1
    obtain ⟨_, b2⟩ := pl_sz h2
    refine ⟨by show (PyData.shown .none).length ≤ (szD a + szD t + 6) + 4; simp only [PyData.shown]; exact Nat.le_trans (by decide : Str.length (Str.ofString "None") ≤ 4) (Nat.le_add_left _ _), ?_⟩
    show ((PyData.shownAll (pd a :: (pdB t).2)).map (·.length)).sum + 2 * (PyData.shownAll (pd a :: (pdB t).2)).length ≤ szD a + szD t + 6
    simp only [PyData.shownAll, List.map_cons, List.sum_cons, List.length_cons]
    omega
  | .tup l, h => by
    obtain ⟨_, b2⟩ := pl_sz (d := l) h
    refine ⟨?_, by show ((PyData.shownAll []).map (·.length)).sum + 2 * (PyData.shownAll []).length ≤ _; simp only [PyData.shownAll]; exact Nat.zero_le _⟩
    show (PyData.shown (.tuple (pdB l).2)).length ≤ (szD l + 3) + 4
    simp only [PyData.shown]
    have := tupleText_len_le (PyData.shownAll (pdB l).2)
    omega
mutual
theorem reads_d {pins : List (Addr × Obj)} {s : Shared} (I : Inv X pins σ H s) : ∀ {d : D} {v : V} {u : Value}, RD X.K r H d v → isPd d = true → RelV v u → ∃ as, Reads s.heap u (pd d) as
  | _, _, _, .non, _, e => by cases e; exact ⟨_, .none⟩
  | _, _, _, .bl b, _, e => by cases e; exact ⟨_, .bool b⟩
  | _, _, _, .int i, _, e => by obtain ⟨t, rfl⟩ := e; exact ⟨_, .int i t⟩
  | _, _, _, .str z, _, e => by obtain ⟨t, rfl⟩ := e; exact ⟨_, .str z t⟩
  | _, _, _, .tup h l, p, e => by
    cases e
    obtain ⟨its, pr, ⟨o, ho, hc, n, hd⟩, _⟩ := I.tuple h
    obtain ⟨as, ra⟩ := reads_l I l p pr
    exact ⟨as, .tuple ho hc hd ra⟩
  | _, _, _, .ty _, p, _ => absurd (show false = true from p) Bool.false_ne_true
  | _, _, _, .ref _, p, _ => absurd (show false = true from p) Bool.false_ne_true
  | _, _, _, .pot, p, _ => absurd (show false = true from p) Bool.false_ne_true
  | _, _, _, .rep, p, _ => absurd (show false = true from p) Bool.false_ne_true
  | _, _, _, .rol _, p, _ => absurd (show false = true from p) Bool.false_ne_true
theorem reads_l {pins : List (Addr × Obj)} {s : Shared} (I : Inv X pins σ H s) : ∀ {d : D} {vs : List V} {us : List Value}, RL X.K r H d vs → isPd d = true → Vals vs us → ∃ as, ReadsAll s.heap us (pdB d).2 as
  | _, _, _, .nil, _, .nil => ⟨_, .nil⟩
  | _, _, _, .cons rd rl, p, .cons e es => by
    obtain ⟨p1, p2⟩ := et_ p
    obtain ⟨a1, r1⟩ := reads_d I rd p1 e
    obtain ⟨a2, r2⟩ := reads_l I rl p2 es
    exact ⟨a1 ++ a2, .cons r1 r2⟩
end
/-- repr(a tuple) -/
def bRepr : O1 := fun d w k => a1 d fun x => swT x fun l => et (isPd l) (et (Nat.ble (szD l) 90000) (et (Nat.ble (dpD l) 100) (k (.rep x) w)))
theorem okRepr {lv : Nat} (hr : Ro lv X.A) : OkB X bRepr (.builtin "repr") := fun r w H d xs k Q rw rl q go => by
  obtain ⟨z, v, rfl, rd, q1⟩ := a1_ q rl
  obtain ⟨l, rfl, q2⟩ := swT_ q1
  obtain ⟨q3, q4⟩ := et_ q2
  obtain ⟨q5, q6⟩ := et_ q4
  obtain ⟨q7, q8⟩ := et_ q6
  intro pins s σ us I rv
  cases rv with
  | cons ru rn =>
    cases rn
    obtain ⟨as, ra⟩ := reads_d I rd q3 ru
    obtain ⟨⟨p1, p2, p3⟩, _⟩ := pl (d := .tup l) q3
    have p4 := (pl_sz (d := .tup l) q3).1
    have b1 := Nat.le_of_ble_eq_true q5
    have b2 := Nat.le_of_ble_eq_true q7
    cases rd with
    | tup h rl =>
      cases ru
      have un := hr.room.un
      have d1 : dpD (.tup l) = dpD l + 1 := rfl
      have d2 : szD (.tup l) = szD l + 3 := rfl
      refine repr_of_reads' ra p1 (fun e => by rw [p2] at e; cases e) hr.gd (by omega) (fun b o e => e) (fun h' u tk hk => ?_) (Nat.le_trans p4 (Nat.le_trans (by omega : szD (.tup l) + 4 ≤ 100000) (by decide)))
      exact ⟨.str (pd (.tup l)).shown, H, I.kept hk, ⟨u, rfl⟩, go.now rw (.rep) q8⟩
/-- lcm(a, b), both below 2 ** 31 -/
def bLcm : O1 := fun d w k => a2 d fun x y => swI x fun i => swI y fun j => et (Nat.blt (iAbs i) 2147483648) (et (Nat.blt (iAbs j) 2147483648) (k (.int (Int.ofNat (Nat.lcm (iAbs i) (iAbs j)))) w))
theorem okLcm : OkB X bLcm (.builtin "math.lcm") := fun r w H d xs k Q rw rl q go => by
  obtain ⟨z, y, u, v, rfl, rd, re, q1⟩ := a2_ q rl
  obtain ⟨i, rfl, q2⟩ := swI_ q1
  obtain ⟨j, rfl, q3⟩ := swI_ q2
  obtain ⟨q4, q5⟩ := et_ q3
  obtain ⟨q6, q7⟩ := et_ q5
  cases rd
  cases re
  rw [blt_eq, iAbs_eq] at q4 q6
  rw [iAbs_eq, iAbs_eq] at q7
  have b1 := of_decide_eq_true q4
  have b2 := of_decide_eq_true q6
  intro pins s σ us I rv
  cases rv with
  | cons ru rn =>
    cases rn with
    | cons ru2 rn =>
      cases rn
      obtain ⟨t, rfl⟩ := ru
      obtain ⟨t2, rfl⟩ := ru2
      have e1 : (Nat.lcm 1 i.natAbs) = i.natAbs := by simp [Nat.lcm]
      have le : i.natAbs.lcm j.natAbs ≤ i.natAbs * j.natAbs := Nat.div_le_self _ _
      have lt : i.natAbs.lcm j.natAbs < 2 ^ 62 := Nat.lt_of_le_of_lt le (Nat.lt_of_lt_of_le (Nat.mul_lt_mul'' b1 b2) (by decide))
      refine PySem.W.mg_lcm (by omega) (by omega) ?_ ?_
      · rw [e1]
        show (i.natAbs.lcm j.natAbs).log2 < bitsLine
        by_cases h0 : i.natAbs.lcm j.natAbs = 0
        · rw [h0]; decide
        · exact Nat.lt_trans ((Nat.log2_lt h0).mpr lt) (by decide)
      · rw [e1]
        exact ⟨.int _, H, I.tok _, ⟨_, rfl⟩, go.now rw (.int _) q7⟩
/-- list[::-1] -/
def eRevL (f : F) : F := fun S w k => f S w fun d w1 => swR d fun i => onL w1.h i fun l => k (.ref w1.n) (w1.more (revA l .nil))
theorem ok_revL {f : F} {e : Expr} {kk : Nat} {p1 p2 p3 : Pos} (he : OkE X f e) : OkE X (eRevL f) (.Subscript e (.Slice none none (some (.UnaryOp .USub (.Constant (.int 1) kk p1) p2)) p3) pos) := fun r S σ w H k Q rs rw h g =>
  (pe_revL (pe_tE e)).to (he r S σ w H _ _ rs rw h fun r1 d v w1 H1 g1 rw1 rd1 h1 => by
    obtain ⟨i, rfl, h2⟩ := swR_ h1
    obtain ⟨l, h3, h4⟩ := onL_ h2
    obtain ⟨a, us, rfl, z1, rl, _⟩ := rd1.list rw1 h3
    have rl2 := rl.turn (RL.nil)
    rw [List.append_nil] at rl2
    exact ⟨a, us, rfl, SqL.of z1, fun p hp => (g.later g1 rw1.sep).newL rw1 rl2 hp h4⟩)
end
end Ear
namespace Ear
open PySem PySem.Spec PyProof.Rows L2

section
variable {X : Cx} {K : PySem.W.Frag} {r r0 r1 r2 r' : Rh} {S S' : Sg} {σ : L2.St} {w w1 w' : Wd} {H H0 H1 H2 H' : Hp} {k : Kt} {Q : VK} {pos : Pos} {d e l : D} {v x y : V} {vs xs ys : List V}
/-! ### tuple[::-1] -/
theorem adj_back (n : Nat) : Builtin.Slice.sliceAdjust none none (-1) (n : Int) = ((n : Int) - 1, -1) := rfl
theorem pla_back (n : Nat) : Builtin.Slice.slicePlaces ((n : Int) - 1) (-1) (-1) = n := by
  unfold Builtin.Slice.slicePlaces
  rw [if_neg (by decide)]
  by_cases h : (n : Int) - 1 > -1
  · rw [if_pos h]
    have e : ((n : Int) - 1 - -1 - 1) / (- -1) + 1 = (n : Int) := by
      rw [show (- -1 : Int) = 1 by decide, Int.ediv_one]
      omega
    rw [e]
    rfl
  · rw [if_neg h]
    show (0 : Int).toNat = n
    omega
theorem fm_congr {α β : Type} {f g : α → Option β} : ∀ (l : List α), (∀ a ∈ l, f a = g a) → l.filterMap f = l.filterMap g
  | [], _ => rfl
  | a :: l, h => by
    rw [List.filterMap_cons, List.filterMap_cons, h a List.mem_cons_self, fm_congr l fun b hb => h b (List.mem_cons_of_mem _ hb)]
theorem pick_back (its : List Value) : ((List.range its.length).filterMap fun (m : Nat) => its.toArray[(((its.length : Int) - 1) + (m : Int) * -1).toNat]?).toArray = its.reverse.toArray := by
  congr 1
  have e1 : ((List.range its.length).filterMap fun (m : Nat) => its.toArray[(((its.length : Int) - 1) + (m : Int) * -1).toNat]?) = ((List.range its.length).map (fun m => its.length - 1 - m)).filterMap (its.toArray[·]?) := by
    rw [List.filterMap_map]
    refine fm_congr _ fun m hm => ?_
    have := List.mem_range.mp hm
    show its.toArray[_]? = its.toArray[its.length - 1 - m]?
    congr 1
    omega
  rw [e1, PySem.W.krv_range, List.filterMap_reverse]
  have := PySem.W.krv_all its.toArray
  rw [List.size_toArray] at this
  rw [this]
theorem tup_back {prog : Program} {W : World} {A : Around} {E : Value → Shared → Prop} {s : Shared} {t sl : Addr} {its : List Value} {c : Value} {Q : Value → Shared → Prop} (ht : IsTup s.heap t its.toArray) (hs : s.heap.IsSliceOf sl .none .none c) (pc : IsPart c (some (-1)))
    (hz : its.length ≤ sizeLine) (h : Q (.ref s.heap.objs.size) { s with heap := s.heap.push { cls := .type "tuple", data := .seq its.reverse.toArray } }) : wpAny (model prog W) A (getItem (.ref t) (.ref sl)) Q E s := by
  obtain ⟨os, h1, h2, h3⟩ := id hs
  have isl : s.TypeIs (.ref sl) "slice" := ⟨os, h1, h2⟩
  unfold getItem
  try with_reducible refine wpAny_holding ?_
  first | refine wpAny_bind (wpAny_pure ?_) | skip
  refine wpAny_bind (wpAny_sequenceKey ht.typeIs (by decide) (wpAny_bind (wpAny_callSpecial?_slot (name := Str.ofString "__getitem__") ht.typeIs PyProof.Rows.slot_tuple_getitem (wpAny_call_entry PyProof.Rows.slot_tuple_getitem ht.typeIs entry_tuple_getitem ?_ (args_tuple_getitem _ _)))))
  show wpAny _ _ (Builtin.Tuple.tupleItemsOf (.ref t) >>= _) _ _ s
  refine wpAny_bind (tupleItemsOf_ ht (wpAny_bind (wpAny_typeOf isl ?_)))
  rw [if_pos (by decide), List.size_toArray]
  have app : ∀ {B : Around} {R : Int × Int × Nat → Shared → Prop} {E' : Value → Shared → Prop}, R ((its.length : Int) - 1, -1, its.length) s → wpAny (model prog W) B (Builtin.Slice.sliceApplied (.ref sl) (pure (its.length : Int))) R E' s := fun {B R E'} q => by
    unfold Builtin.Slice.sliceApplied Builtin.Slice.sliceFields
    refine wpAny_bind (wpAny_bind (wpAny_field h1 h3 (x := .none) rfl (wpAny_bind (wpAny_field h1 h3 (x := .none) rfl (wpAny_bind (wpAny_field h1 h3 (x := c) rfl (wpAny_pure ?_)))))))
    refine wpAny_bind (HT.slicePart_ pc ?_)
    show wpAny _ _ (if ((-1 : Int) == 0) = true then _ else _) _ _ s
    rw [if_neg (by decide)]
    refine wpAny_bind (slicePart_none (wpAny_bind (slicePart_none (wpAny_bind (wpAny_pure ?_)))))
    show wpAny _ _ (match Builtin.Slice.sliceAdjust none none (-1) (its.length : Int) with | (lo, hi) => pure (lo, (-1 : Int), Builtin.Slice.slicePlaces lo hi (-1))) _ _ s
    rw [adj_back]
    show wpAny _ _ (pure ((its.length : Int) - 1, (-1 : Int), Builtin.Slice.slicePlaces ((its.length : Int) - 1) (-1) (-1))) _ _ s
    rw [pla_back]
    exact wpAny_pure q
  refine wpAny_bind (app ?_)
  have no : ¬ ((((its.length : Int) - 1) == 0 && (-1 : Int) == 1 && its.length == its.length) = true) := by
    intro q
    rw [Bool.and_eq_true, Bool.and_eq_true] at q
    exact absurd q.1.2 (by decide)
  show wpAny _ _ (if (((its.length : Int) - 1) == 0 && (-1 : Int) == 1 && its.length == its.length) = true then _ else _) _ _ s
  rw [if_neg no, pick_back]
  have ok : sizeOk (.seq its.reverse.toArray) := by
    show its.reverse.toArray.size ≤ sizeLine
    rw [List.size_toArray, List.length_reverse]
    exact hz
  first
    | exact wpAny_bind (m := Builtin.Tuple.tupleExact _) (wpAny_newObj_type (wpAny_pure ⟨_, rfl, wpAny_pure h⟩) ok)
    | exact wpAny_bind (m := Builtin.Tuple.tupleExact _) (wpAny_newObj_type (wpAny_bind (wpAny_pure (wpAny_pure ⟨_, rfl, wpAny_pure h⟩))) ok)
    | exact wpAny_bind (wpAny_bind (m := Builtin.Tuple.tupleExact _) (wpAny_newObj_type (wpAny_pure (wpAny_pure ⟨_, rfl, wpAny_pure h⟩)) ok))
    | exact wpAny_bind (wpAny_bind (m := Builtin.Tuple.tupleExact _) (wpAny_newObj_type (wpAny_pure ⟨_, rfl, wpAny_pure h⟩) ok))
def tRevT (K : PySem.W.Frag) (te : TE) : TE := fun σ H Q => te σ H fun x H1 => ∃ (a : Addr) (us : List V), x = .ref a ∧ SqT K H1 a us ∧ ∀ p, H1 p = none → Q (.ref p) (upd H1 p (.tup us.reverse))
theorem pe_revT {e : Expr} {te : TE} {kk : Nat} {p1 p2 p3 : Pos} (he : PE X e te) : PE X (.Subscript e (.Slice none none (some (.UnaryOp .USub (.Constant (.int 1) kk p1) p2)) p3) pos) (tRevT X.K te) := by
  constructor
  intro pins s σ H Q I h
  refine Subscript_ (thn (he.run pins s σ H _ I h) ?_)
  rintro v s1 ⟨x, H1, I1, rx, a, us, rfl, hx, q⟩
  cases rx
  have step : PO X (some (.UnaryOp .USub (.Constant (.int 1) kk p1) p2)) (tPart (tUn (rU fun i => .int (-i)) (tC (.int 1)))) := po_some (pe_un un_neg pe_int)
  refine wpAny_Slice (thn (po_none.run pins s1 σ H1 (fun o G => o = none ∧ G = H1) I1 ⟨rfl, rfl⟩) ?_)
  rintro vl s2 ⟨o2, G2, I2, pl, eo2, eG2⟩
  rw [eo2] at pl
  rw [eG2] at I2
  refine thn (po_none.run pins s2 σ H1 (fun o G => o = none ∧ G = H1) I2 ⟨rfl, rfl⟩) ?_
  rintro vu s3 ⟨o3, G3, I3, pu, eo3, eG3⟩
  rw [eo3] at pu
  rw [eG3] at I3
  refine thn (step.run pins s3 σ H1 (fun o G => o = some (-1) ∧ G = H1) I3 ⟨1, rfl, -1, rfl, rfl, rfl⟩) ?_
  rintro vc s4 ⟨o4, G4, I4, pc, eo4, eG4⟩
  rw [eo4] at pc
  rw [eG4] at I4
  cases pl
  cases pu
  have I5 : Inv X pins σ H1 { s4 with heap := s4.heap.push { cls := .type "slice", data := .fields #[.none, .none, vc] } } := I4.kept (t' := s4.toks) fun b ob q => Heap.get?_push_of_some _ q
  obtain ⟨its, rr, tt, hz⟩ := I5.tuple hx
  have hl := rr.length
  show wpAny (model X.prog X.w) X.A (subscriptTail e (.Slice none none (some (.UnaryOp .USub (.Constant (.int 1) kk p1) p2)) p3) (.ref a) (.ref s4.heap.objs.size)) (EP X pins σ Q) X.xe { s4 with heap := s4.heap.push { cls := .type "slice", data := .fields #[.none, .none, vc] } }
  refine tail_any (ops := [.ref a, .ref s4.heap.objs.size]) tt.typeIs PyProof.Rows.slot_tuple_getitem.lookup ?_ (by with_unfolding_all rfl)
  refine tup_back tt (Heap.IsSliceOf.new _ .none .none vc) pc (by omega) ?_
  refine ⟨.ref _, _, I5.laid (t' := s4.toks) (o := .tup us.reverse) (fun b ob q => Heap.get?_push_of_some _ q) (Nat.le_refl _) ?_, rfl, q _ (I5.hok.fresh (Nat.le_refl _))⟩
  exact ⟨by rw [List.length_reverse]; exact hz, its.reverse, rr.reverse, ⟨_, Heap.get?_push_size _ rfl, rfl, _, rfl⟩⟩
def eRevT (f : F) : F := fun S w k => f S w fun d w1 => swT d fun l => k (.tup (revA l .nil)) w1
theorem ok_revT {f : F} {e : Expr} {kk : Nat} {p1 p2 p3 : Pos} (he : OkE X f e) : OkE X (eRevT f) (.Subscript e (.Slice none none (some (.UnaryOp .USub (.Constant (.int 1) kk p1) p2)) p3) pos) := fun r S σ w H k Q rs rw h g =>
  (pe_revT (pe_tE e)).to (he r S σ w H _ _ rs rw h fun r1 d v w1 H1 g1 rw1 rd1 h1 => by
    obtain ⟨l, rfl, h2⟩ := swT_ h1
    cases rd1 with
    | tup hq rl =>
      have rl2 := rl.turn (RL.nil)
      rw [List.append_nil] at rl2
      exact ⟨_, _, rfl, hq, fun p hp => (g.later g1 rw1.sep).newT rw1 rl2 hp h2⟩)
/-! ### list(range(a, b)) -/
def eLrg (fa fb : F) : F := fun S w k => fa S w fun x w1 => fb S w1 fun y w2 => swI x fun i => swI y fun j => et (isRg i) (et (isRg j) (k (.ref w2.n) (w2.more (rngD i (toN (iSub j i))))))
theorem ok_lrg {fa fb : F} {a b : Expr} {p p2 pos2 : Pos} (hc : X.calm = true) (ha : OkE X fa a) (hb : OkE X fb b) (hm1 : X.mg "list" = none) (hm2 : X.mg "range" = none) (hg1 : Gl X "list" := by rfl) (hg2 : Gl X "range" := by rfl) (na : starEach [a, b] X.env = (false, eval a X.env) :: starEach [b] X.env := by rfl)
    (nb : starEach [b] X.env = (false, eval b X.env) :: starEach [] X.env := by rfl) (hp : (backTo pos2 (starEach [b] X.env)).any (·.1) = false := by rfl) (nc : starEach [Expr.Call (.Name "range" p2) [a, b] [] pos2] X.env = (false, eval (Expr.Call (.Name "range" p2) [a, b] [] pos2) X.env) :: starEach [] X.env := by rfl) :
    OkE X (eLrg fa fb) (.Call (.Name "list" p) [.Call (.Name "range" p2) [a, b] [] pos2] [] pos) := fun r S σ w H k Q rs rw h g => by
  refine (pe_listRg hc hg1 hm1 (prg_2 hg2 hm2 (pe_tE a) (pe_tE b) na nb hp) nc).to ?_
  refine ha r S σ w H _ _ rs rw h fun r1 d x w1 H1 g1 rw1 rd1 h1 => ?_
  refine hb r1 S σ w1 H1 _ _ (rs.mono g1 rw.sep) rw1 h1 fun r2 e y w2 H2 g2 rw2 rd2 h2 => ?_
  obtain ⟨i, rfl, h3⟩ := swI_ h2
  obtain ⟨j, rfl, h4⟩ := swI_ h3
  obtain ⟨h5, h6⟩ := et_ h4
  obtain ⟨h7, h8⟩ := et_ h6
  cases rd1
  cases rd2
  have c1 : -1000001 ≤ i ∧ i ≤ 1000001 := by
    cases i with
    | ofNat n => have := Nat.le_of_ble_eq_true (show Nat.ble n 1000000 = true from h5); show -1000001 ≤ (n : Int) ∧ (n : Int) ≤ 1000001; omega
    | negSucc n => have := Nat.le_of_ble_eq_true (show Nat.ble n 1000000 = true from h5); omega
  have c2 : -1000001 ≤ j ∧ j ≤ 1000001 := by
    cases j with
    | ofNat n => have := Nat.le_of_ble_eq_true (show Nat.ble n 1000000 = true from h7); show -1000001 ≤ (n : Int) ∧ (n : Int) ≤ 1000001; omega
    | negSucc n => have := Nat.le_of_ble_eq_true (show Nat.ble n 1000000 = true from h7); omega
  rw [toN_eq, iSub_eq] at h8
  exact ⟨i, j, rfl, rfl, ⟨by omega, by omega, by omega, by omega, by omega⟩, fun p hp => (g.later (g1.trans rw1.sep g2) rw2.sep).newL rw2 (rng_rl _ i) hp h8⟩
end
end Ear
namespace Ear
open PySem PySem.Spec PyProof.Rows L2

section
variable {X : Cx} {K : PySem.W.Frag} {r r0 r1 r2 r' : Rh} {S S' : Sg} {σ : L2.St} {w w1 w' : Wd} {H H0 H1 H2 H' : Hp} {k : Kt} {Q : VK} {pos : Pos} {d e l : D} {v x y : V} {vs xs ys : List V}
/-! ### list[a:c] = tuple -/
/-- at the level of objects -/
theorem put_cut {P : Program} {W : World} {B : Around} {E : Value → Shared → Prop} {s : Shared} {li tu sl : Addr} {its new : Array Value} {n : Nat} {vl vu : Value} {a c : Nat} {R : Unit → Shared → Prop}
    (e : s.heap.get? li = some { cls := .type "list", data := .seq its n }) (tt : IsTup s.heap tu new) (ne : li ≠ tu) (cut : s.heap.IsSliceOf sl vl vu .none) (pl : IsPart vl (some (a : Int))) (pu : IsPart vu (some (c : Int))) (ac : a ≤ c) (cs : c ≤ its.size)
    (fit : its.size + new.size ≤ sizeLine) (q : R () { s with heap := s.heap.update li (Obj.mapSeq fun us => us.extract 0 a ++ new ++ us.extract c us.size) }) : wpAny (model P W) B (setItem (.ref li) (.ref sl) (.ref tu)) R E s := by
  have isl : s.heap.IsList li its := PySem.IsL.isList e
  obtain ⟨o2, e2, _, n2, d2⟩ := id tt
  obtain ⟨os, h1, h2, h3⟩ := id cut
  have tsl : s.TypeIs (.ref sl) "slice" := ⟨os, h1, h2⟩
  have one : ¬ ((rawPart none == rawInt 0) = true) := Bool.false_ne_true
  have apart : Builtin.List.listSameRef (.ref li) (.ref tu) = false := by
    unfold Builtin.List.listSameRef
    exact beq_eq_false_iff_ne.mpr ne
  have top : (max (a : Int) (c : Int)).toNat = c := by omega
  have small : ((fun us : Array Value => us.extract 0 a ++ new ++ us.extract c us.size) its).size ≤ sizeLine + 1 := by
    simp only [Array.size_append, Array.size_extract]
    omega
  unfold setItem
  try with_reducible refine wpAny_holding ?_
  first | refine wpAny_bind (wpAny_pure ?_) | skip
  refine wpAny_bind (wpAny_sequenceKey isl.typeIs (by decide) (wpAny_bind (wpAny_callSpecial?_slot (name := Str.ofString "__setitem__") isl.typeIs slot_list_setitem (wpAny_call_entry slot_list_setitem isl.typeIs entry_list_setitem ?_ (args_list_setitem _ _ _)))))
  show wpAny _ _ (Builtin.List.listSubscript? (.ref sl) >>= _) _ _ s
  refine wpAny_bind ?_
  unfold Builtin.List.listSubscript?
  refine wpAny_bind (wpAny_specialOf tsl slice_no_index ?_)
  simp only [Option.isNone_none, if_true]
  refine wpAny_pure ?_
  show wpAny _ _ (typeOf (.ref sl) >>= _) _ _ s
  refine wpAny_bind (wpAny_typeOf tsl ?_)
  first
    | rw [if_neg (by decide)]
    | refine PySem.W.KFB.if_not (by decide) ?_
  rw [listSliceParts_eq]
  refine wpAny_bind (wpAny_bind (wpAny_field h1 h3 (x := .none) rfl (wpAny_bind (wpAny_listPart .none ?_))))
  rw [if_neg one]
  refine wpAny_bind (wpAny_field h1 h3 (x := vl) rfl (wpAny_bind (wpAny_listPart pl (wpAny_bind (wpAny_field h1 h3 (x := vu) rfl (wpAny_bind (wpAny_listPart pu (wpAny_pure ?_))))))))
  first
    | simp only [apart, Bool.false_eq_true, if_false]
    | refine PySem.W.KFB.if_not apart ?_
    | (dsimp only
       rw [if_neg (by rw [apart]; exact Bool.false_ne_true)])
  refine wpAny_bind (m := Builtin.List.listAllItems (.ref tu) "must assign iterable to extended slice") ?_
  unfold Builtin.List.listAllItems
  refine wpAny_bind (wpAny_typeOf tt.typeIs ?_)
  first
    | refine PySem.W.KFB.if_so (by decide) ?_
    | rw [if_pos (by decide)]
  unfold Builtin.List.listItems
  refine wpAny_bind (wpAny_seqItems e2 d2 (wpAny_pure (wpAny_bind (wpAny_bind (wpAny_seqItems e rfl (wpAny_pure ?_))))))
  refine wpAny_bind (wpAny_of_eq ((sliceIndices_raw (some (a : Int)) (some (c : Int)) none its.size (by simp)).trans (congrArg (pure : Int × Int × Int → Sem (Int × Int × Int)) (bounds_run ac cs))) ?_)
  show wpAny _ _ (if ((1 : Int) == 1) = true then _ else _) _ _ s
  rw [if_pos (by decide)]
  refine wpAny_bind (wpAny_rule ?_)
  first
    | simp only [notLongL fit, Bool.false_eq_true, if_false]
    | refine PySem.W.KFB.if_not (notLongL fit) ?_
  first | refine wpAny_bind (wpAny_pure ?_) | skip
  show wpAny _ _ (updateSeq li (fun us => us.extract 0 ((a : Int)).toNat ++ new ++ us.extract (max (a : Int) (c : Int)).toNat us.size) >>= _) _ _ s
  rw [top, Int.toNat_natCast]
  refine wpAny_bind (wpAny_updateSeq (hz := Nat.le_trans (Nat.le_add_right _ _) fit) (_hz' := small) e rfl (wpAny_bind (wpAny_letGo ?_)))
  first
    | exact wpAny_bind (wpAny_pure (wpAny_pure ⟨.none, rfl, wpAny_pure q⟩))
    | exact wpAny_pure ⟨.none, rfl, wpAny_pure q⟩
/-- the target list[a:c], of a tuple -/
def gCutT (K : PySem.W.Frag) (to : TE) (tl th : TO) : TG := fun v σ H Q => to σ H fun o H1 => tl σ H1 fun i H2 => th σ H2 fun j H3 => ∃ (li tu : Addr) (us zs : List V) (a c : Nat), o = .ref li ∧ v = .ref tu ∧ H3 li = some (.lst us) ∧ SqT K H3 tu zs ∧ i = some (a : Int) ∧ j = some (c : Int) ∧ a ≤ c ∧ c ≤ us.length ∧ us.length + zs.length ≤ sizeLine ∧
  Q σ (upd H3 li (.lst (us.take a ++ zs ++ us.drop c)))
theorem pg_cut {o : Expr} {el eh : Option Expr} {to : TE} {tl th : TO} {p2 : Pos} (ho : PE X o to) (hl : PO X el tl) (hh : PO X eh th)
    (hs : ∀ v, assign (.Subscript o (.Slice el eh none p2) pos) X.env v = (do
      let ov ← holding [v] (eval o X.env)
      let iv ← holding [v, ov] (eval (.Slice el eh none p2) X.env)
      standAt pos
      holding [v, ov, iv] (setItem ov iv v)
      release [iv, v, ov] [])) : PG X (.Subscript o (.Slice el eh none p2) pos) (gCutT X.K to tl th) := by
  constructor
  intro pins s σ H v u Q I rv h
  rw [hs]
  refine wpAny_bind (wpAny_holding (thn (ho.run pins s σ H _ I h) ?_))
  rintro ov s1 ⟨x, H1, I1, rx, h1⟩
  refine wpAny_bind (wpAny_holding (wpAny_Slice (thn (hl.run pins s1 σ H1 _ I1 h1) ?_)))
  rintro vl s2 ⟨i, H2, I2, pl, h2⟩
  refine thn (hh.run pins s2 σ H2 _ I2 h2) ?_
  rintro vu s3 ⟨j, H3, I3, pu, h3⟩
  refine thn (po_none.run pins s3 σ H3 (fun o G => o = none ∧ G = H3) I3 ⟨rfl, rfl⟩) ?_
  rintro vc s4 ⟨o4, G4, I4, pc, eo4, eG4⟩
  rw [eo4] at pc
  rw [eG4] at I4
  cases pc
  obtain ⟨li, tu, us, zs, a, c, rfl, rfl, k1, k2, rfl, rfl, ac, cs, fit, q⟩ := h3
  cases rx
  cases rv
  have I5 : Inv X pins σ H3 { s4 with heap := s4.heap.push { cls := .type "slice", data := .fields #[vl, vu, .none] } } := I4.kept (t' := s4.toks) fun b ob z => Heap.get?_push_of_some _ z
  obtain ⟨z, its, n, pr, pl2, e⟩ := I5.lstM k1
  obtain ⟨jts, pr2, tt, _⟩ := I5.tuple k2
  have l1 := pr.length
  have l2 := pr2.length
  have ne : li ≠ tu := fun z => by
    obtain ⟨o', g1, g2, _⟩ := tt
    rw [← z, e] at g1
    cases g1
    exact absurd (Value.type.inj g2) (by decide)
  refine wpAny_bind (wpAny_standAt (wpAny_bind (wpAny_holding (put_cut (a := a) (c := c) e tt ne (Heap.IsSliceOf.new _ vl vu .none) pl pu ac (by rw [List.size_toArray]; omega) (by rw [List.size_toArray, List.size_toArray]; omega) ?_))))
  refine wpAny_release ⟨σ, _, I5.lset (its' := its.take a ++ jts ++ its.drop c) (t' := s4.toks) k1 e (splice_eq its jts a c) (Vals.append (Vals.append (pr.take _) pr2) (pr.drop _)) ?_, q⟩
  rw [List.length_append, List.length_append, List.length_take, List.length_drop]
  omega
def somI (o : Option Int) (k : Nat → Bool) : Bool := Option.rec false (fun i => natI i k) o
theorem somI_ {o : Option Int} {kk : Nat → Bool} (h : somI o kk = true) : ∃ n : Nat, o = some (n : Int) ∧ kk n = true := by
  cases o with
  | none => exact absurd (show false = true from h) Bool.false_ne_true
  | some i =>
    obtain ⟨n, rfl, h2⟩ := natI_ (show natI i kk = true from h)
    exact ⟨n, rfl, h2⟩
def gCut (fo : F) (lo hi : PF) : T := fun d S w k => fo S w fun o w1 => lo S w1 fun i w2 => hi S w2 fun j w3 => swR o fun n => swT d fun z => somI i fun a => somI j fun c => onL w3.h n fun l => et (Nat.ble a c) (et (Nat.ble c (lenD l)) (et (Nat.ble (Nat.add (lenD l) (lenD z)) Ear.small) (k S (w3.put n (appD (appD (takeD l a) z) (cutD l c))))))
theorem ok_gcut {fo : F} {lo hi : PF} {o : Expr} {el eh : Option Expr} {p2 : Pos} (ho : OkE X fo o) (hl : OkP X lo el) (hh : OkP X hi eh) (hs : ∀ v, assign (.Subscript o (.Slice el eh none p2) pos) X.env v = (do
      let ov ← holding [v] (eval o X.env)
      let iv ← holding [v, ov] (eval (.Slice el eh none p2) X.env)
      standAt pos
      holding [v, ov, iv] (setItem ov iv v)
      release [iv, v, ov] []) := by intro _; rfl) : OkG X (gCut fo lo hi) (.Subscript o (.Slice el eh none p2) pos) := fun r S σ w H d v k Q rz rw rd h g => by
  refine (pg_cut (pe_tE o) (po_tP el) (po_tP eh) hs).to ?_
  refine ho r S σ w H _ _ rz rw h fun r1 d1 v1 w1 H1 g1 rw1 rd1 h1 => ?_
  refine hl r1 S σ w1 H1 _ _ (rz.mono g1 rw.sep) rw1 h1 fun r2 i w2 H2 g2 rw2 h2 => ?_
  have g12 := g1.trans rw1.sep g2
  refine hh r2 S σ w2 H2 _ _ (rz.mono g12 rw.sep) rw2 h2 fun r3 j w3 H3 g3 rw3 h3 => ?_
  have g13 := g12.trans rw2.sep g3
  have rd3 := rd.mono g13 rw.sep
  have ro3 := (rd1.mono g2 rw1.sep).mono g3 rw2.sep
  obtain ⟨n, rfl, h4⟩ := swR_ h3
  obtain ⟨z, rfl, h5⟩ := swT_ h4
  obtain ⟨a, rfl, h6⟩ := somI_ h5
  obtain ⟨c, rfl, h7⟩ := somI_ h6
  obtain ⟨l, h8, h9⟩ := onL_ h7
  obtain ⟨b1, h10⟩ := et_ h9
  obtain ⟨b2, h11⟩ := et_ h10
  obtain ⟨b3, h12⟩ := et_ h11
  obtain ⟨p, us, rfl, z1, rl, ep, hn⟩ := ro3.list rw3 h8
  cases rd3 with
  | tup hq rl2 =>
    rename_i tu zs
    rw [rl.len] at b2
    have b3' : Nat.ble (us.length + zs.length) Ear.small = true := by rw [← rl.len, ← rl2.len]; exact b3
    refine ⟨p, tu, us, zs, a, c, rfl, rfl, z1, hq, rfl, rfl, Nat.le_of_ble_eq_true b1, Nat.le_of_ble_eq_true b2, small_le b3', ?_⟩
    subst ep
    have g4 : Gr r3 H3 r3 (upd H3 (r3.f n) (.lst (us.take a ++ zs ++ us.drop c))) := gr_put hn
    exact g r3 S σ _ _ (g13.trans rw3.sep g4) (rz.mono (g13.trans rw3.sep g4) rw.sep) (rw3.put hn (((rl.take a).app rl2).app (rl.cut c))) h12

/-! ### range objects -/
def bRng3 : O1 := fun d w k => swC d fun x t => a2 t fun y z => swI x fun i => swI y fun j => swI z fun c => et (isRg i) (et (isRg j) (et (iLt c (Int.ofNat 0)) (et (isRg c) (k (.rol (rgD i j c)) w))))
theorem okRng3 : OkB X bRng3 (.type "range") := fun r w H d xs k Q rw rl q go => by
  obtain ⟨x, t, rfl, q1⟩ := swC_ q
  cases rl with
  | cons rx rl =>
    obtain ⟨y, z, u, v, rfl, ry, rz, q2⟩ := a2_ q1 rl
    obtain ⟨i, rfl, q3⟩ := swI_ q2
    obtain ⟨j, rfl, q4⟩ := swI_ q3
    obtain ⟨c, rfl, q5⟩ := swI_ q4
    obtain ⟨q6, q7⟩ := et_ q5
    obtain ⟨q8, q9⟩ := et_ q7
    obtain ⟨q10, q11⟩ := et_ q9
    obtain ⟨q12, q13⟩ := et_ q11
    rw [iLt_eq] at q10
    have c0 : c < 0 := of_decide_eq_true q10
    cases rx
    cases ry
    cases rz
    intro pins s σ us I rv
    cases rv with
    | cons r1 rn =>
      cases rn with
      | cons r2 rn =>
        cases rn with
        | cons r3 rn =>
          cases rn
          obtain ⟨t1, rfl⟩ := r1
          obtain ⟨t2, rfl⟩ := r2
          obtain ⟨t3, rfl⟩ := r3
          have c1 : c.natAbs ≤ 1000001 := by
            cases c with
            | ofNat n => have := Nat.le_of_ble_eq_true (show Nat.ble n 1000000 = true from q12); show n ≤ 1000001; omega
            | negSucc n => have := Nat.le_of_ble_eq_true (show Nat.ble n 1000000 = true from q12); omega
          refine call_range_3 (by omega) ?_ (.inl (PyProof.noPylong_small (by omega)))
          have hf : H s.heap.objs.size = none := I.hok.fresh (Nat.le_refl _)
          have at_ : (s.heap.push { cls := .type "range", data := .fields #[.int i t1, .int j t2, .int c t3] }).get? s.heap.objs.size = some { cls := .type "range", data := .fields #[.int i t1, .int j t2, .int c t3] } := Heap.get?_push_size _ rfl
          refine ⟨.ref s.heap.objs.size, upd H s.heap.objs.size (.ext (RgO s.heap.objs.size i j c)), I.laid (t' := s.toks) (fun b ob z => Heap.get?_push_of_some _ z) (Nat.le_refl _) ⟨⟨t1, t2, t3, at_⟩, ⟨_, at_⟩, fun h1 h2 ⟨a, b, e, k1⟩ k2 => ⟨a, b, e, k2 _ k1⟩⟩, rfl, ?_⟩
          exact go r _ _ w _ (gr_new hf) (rw.new hf) (.rol upd_same) q13
/-- i, i + c, ..: n of them -/
def rgcD (i c : Int) (n : Nat) : D := (Nat.rec (motive := fun _ => Int → D) (fun _ => .nil) (fun _ ih i => .cons (.int i) (ih (iAdd i c))) n : Int → D) i
def rgcV (i c : Int) (n : Nat) : List V := (List.range n).map fun t => .int (i + (t : Nat) * c)
theorem rgcV_succ (i c : Int) (n : Nat) : rgcV i c (n + 1) = .int i :: rgcV (i + c) c n := by
  unfold rgcV
  rw [List.range_succ_eq_map, List.map_cons, List.map_map]
  congr 1
  · simp
  · refine List.map_congr_left fun t _ => ?_
    show V.int (i + ((t + 1 : Nat) : Int) * c) = _
    congr 1
    rw [Int.natCast_add, Int.add_mul]
    omega
theorem rgc_rl (c : Int) (n : Nat) : ∀ i : Int, RL K r H (rgcD i c n) (rgcV i c n) := by
  induction n with
  | zero => intro i; exact .nil
  | succ n ih =>
    intro i
    rw [rgcV_succ]
    have e : rgcD i c (n + 1) = .cons (.int i) (rgcD (iAdd i c) c n) := rfl
    rw [e, iAdd_eq]
    exact .cons (.int i) (ih _)
theorem snap_rgc {i c : Int} {n : Nat} : Snap K r H (Itc i c n) (rgcD i c n) := Snap.of fun r2 w2 H2 g2 rw2 => ⟨rgcV i c n, rgc_rl c n i, fun t => by
  have hl : (rgcV i c n).length = n := by unfold rgcV; rw [List.length_map, List.length_range]
  rw [hl]
  refine ⟨id, id, fun z H3 q y1 y2 => ?_⟩
  obtain ⟨e1, e2⟩ := y1
  subst e1
  subst e2
  obtain ⟨u, z4, z5⟩ := at_get (rgc_rl (K := K) (r := r2) (H := H3) c n i) y2
  have : u = .int (i + (t : Nat) * c) := by
    unfold rgcV at z4
    rw [List.getElem?_map] at z4
    cases q : (List.range n)[t]? with
    | none => rw [q] at z4; cases z4
    | some j =>
      rw [q] at z4
      have : j = t := by
        have := (List.getElem?_eq_some_iff.mp q).2
        rw [List.getElem_range] at this
        exact this.symm
      subst this
      cases z4
      rfl
  subst this
  exact ⟨rw2, .refl, z5⟩⟩
/-- what is walked: a range object -/
def iRob (te : TE) : TI := fun σ H R => te σ H fun x H1 => ∃ (a : Addr) (i j c : Int) (n : Nat), x = .ref a ∧ H1 a = some (.ext (RgO a i j c)) ∧ Builtin.Range.small i j c = true ∧ Builtin.Range.rangeSize i j c = (n : Int) ∧ R (Itc i c n) H1
theorem pi_rob {tg e : Expr} {te : TE} (he : PE X e te) : PI X tg e (iRob te) := by
  constructor
  intro pins s σ H R I h
  refine thn (he.run pins s σ H _ I h) ?_
  rintro v s1 ⟨x, H1, I1, rx, a, i, j, c, n, rfl, ha, sm, sz, q⟩
  cases rx
  obtain ⟨⟨t1, t2, t3, at_⟩, _, _⟩ := I1.hok a _ ha
  refine wpAny_pyIter_range (t := t1) (u := t2) (v := t3) at_ sm (pi_one (tk := s1.toks) I1 _ (turn_rangeC _ i c n) ?_ q)
  have e1 : i + ((0 : Nat) : Int) * c = i := by simp
  have e2 : (n : Int) - ((0 : Nat) : Int) = Builtin.Range.rangeSize i j c := by rw [sz]; simp
  show IsRangeIter _ _ (i + ((0 : Nat) : Int) * c) ((n : Int) - ((0 : Nat) : Int)) c
  rw [e1, e2]
  exact Heap.get?_push_size _ rfl
def swO (d : D) (k : D → Bool) : Bool := D.rec (motive := fun _ => Bool) false false (fun _ => false) (fun _ => false) (fun _ => false) false (fun _ _ _ _ => false) (fun _ _ => false) (fun _ => false) (fun _ => false) false (fun l _ => k l) (fun _ _ => false) d
theorem swO_ {kk : D → Bool} (h : swO d kk = true) : ∃ i, d = .rol i ∧ kk i = true := by
  cases d <;> first | exact ⟨_, rfl, h⟩ | exact absurd (show false = true from h) Bool.false_ne_true
def rgOf (l : D) (k : Int → Int → Int → Bool) : Bool := swC l fun x t => swC t fun y u => swC u fun z e => swN e (swI x fun i => swI y fun j => swI z fun c => k i j c)
theorem rgOf_ {kk : Int → Int → Int → Bool} (h : rgOf l kk = true) : ∃ i j c, l = rgD i j c ∧ kk i j c = true := by
  obtain ⟨x, t, rfl, h1⟩ := swC_ h
  obtain ⟨y, u, rfl, h2⟩ := swC_ h1
  obtain ⟨z, e, rfl, h3⟩ := swC_ h2
  obtain ⟨rfl, h4⟩ := swN_ h3
  obtain ⟨i, rfl, h5⟩ := swI_ h4
  obtain ⟨j, rfl, h6⟩ := swI_ h5
  obtain ⟨c, rfl, h7⟩ := swI_ h6
  exact ⟨i, j, c, rfl, h7⟩
def itO (f : F) : IF := fun S w ks _ => f S w fun d w1 => swO d fun l => rgOf l fun i j c => et (Builtin.Range.small i j c) (natI (Builtin.Range.rangeSize i j c) fun n => ks (rgcD i c n) w1)
theorem ok_itO {f : F} {tg e : Expr} (he : OkE X f e) : OkI X (itO f) tg e := fun r S σ w H ks kl R rs rw h hs hl => by
  refine (pi_rob (pe_tE e)).to (he r S σ w H _ _ rs rw h fun r1 d v w1 H1 g1 rw1 rd1 h1 => ?_)
  obtain ⟨l, rfl, h2⟩ := swO_ h1
  obtain ⟨i, j, c, rfl, h3⟩ := rgOf_ h2
  obtain ⟨h4, h5⟩ := et_ h3
  obtain ⟨n, h6, h7⟩ := natI_ h5
  generalize hz : D.rol (rgD i j c) = z at rd1
  cases rd1 with
  | rol ha =>
    rename_i a i2 j2 c2
    have e1 : rgD i j c = rgD i2 j2 c2 := D.rol.inj hz
    have e2 := D.cons.inj e1
    have e3 := D.cons.inj e2.2
    have e4 := D.cons.inj e3.2
    have x1 := D.int.inj e2.1
    have x2 := D.int.inj e3.1
    have x3 := D.int.inj e4.1
    subst x1
    subst x2
    subst x3
    exact ⟨a, i, j, c, n, rfl, ha, h4, h6, hs r1 _ w1 H1 _ g1 rw1 snap_rgc h7⟩
  | _ => cases hz
end
end Ear
namespace Ear
open PySem PySem.Spec PyProof.Rows L2

section
variable {X : Cx} {K : PySem.W.Frag} {r r0 r1 r2 r' : Rh} {S S' : Sg} {σ : L2.St} {w w1 w' : Wd} {H H0 H1 H2 H' : Hp} {k : Kt} {Q : VK} {pos : Pos} {d e l : D} {v x y : V} {vs xs ys : List V}
/-! ### a tuple or a list walked -/
def iEi (K : PySem.W.Frag) (te : TE) : TI := fun σ H R => te σ H fun x H1 => ∃ a, x = .ref a ∧ (((∃ xs, SqT K H1 a xs) ∧ R (Itt K a) H1) ∨ ((∃ xs, SqL K H1 a xs) ∧ R (Itl K a) H1))
theorem pi_ei {tg e : Expr} {te : TE} (he : PE X e te) : PI X tg e (iEi X.K te) := by
  constructor
  intro pins s σ H R I h
  refine thn (he.run pins s σ H _ I h) ?_
  rintro v s1 ⟨x, H1, I1, rx, a, rfl, q | q⟩
  · obtain ⟨⟨xs, hq⟩, q⟩ := q
    cases rx
    obtain ⟨js, _, jp, _⟩ := I1.tuple hq
    exact wpAny_pyIter_tuple (show s1.heap.IsTuple a js.toArray from jp) (pi_one (tk := s1.toks) I1 _ (turn_tuple a _) ⟨_, Heap.get?_push_size _ rfl, rfl, rfl⟩ q)
  · obtain ⟨⟨xs, hq⟩, q⟩ := q
    cases rx
    obtain ⟨js, _, jp, _⟩ := I1.list hq
    exact wpAny_pyIter_list jp.isList (pi_one (tk := s1.toks) I1 _ (turn_list a _) ⟨_, Heap.get?_push_size _ rfl, rfl, rfl⟩ q)
def itX (f : F) : IF := fun S w ks kl => f S w fun d w1 => sw4 d (fun _ => false) (fun _ => false) (fun l => ks l w1) (fun i => kl i (fun _ x => x) w1)
theorem ok_itX {f : F} {tg e : Expr} (he : OkE X f e) : OkI X (itX f) tg e := fun r S σ w H ks kl R rs rw h hs hl => by
  refine (pi_ei (pe_tE e)).to (he r S σ w H _ _ rs rw h fun r1 d v w1 H1 g1 rw1 rd1 h1 => ?_)
  rcases sw4_ h1 with ⟨i, rfl, h2⟩ | ⟨z, rfl, h2⟩ | ⟨l, rfl, h2⟩ | ⟨j, rfl, h2⟩
  · exact absurd (show false = true from h2) Bool.false_ne_true
  · exact absurd (show false = true from h2) Bool.false_ne_true
  · cases rd1 with
    | tup hq rl =>
      rename_i a xs
      refine ⟨a, rfl, .inl ⟨⟨xs, hq⟩, hs r1 l w1 H1 _ g1 rw1 (Snap.of fun r2 w2 H2 g2 rw2 => ⟨xs, rl.mono g2 rw1.sep, fun i => ⟨fun hi => ?_, fun hi => ?_, fun z H3 c y1 y2 => ?_⟩⟩) h2⟩⟩
      · exact ⟨xs, xs[i], g2.tup rw1.sep hq, List.getElem?_eq_getElem hi⟩
      · exact ⟨xs, g2.tup rw1.sep hq, hi⟩
      · obtain ⟨e1, e2⟩ := y1
        subst e1
        obtain ⟨u, z1, z2⟩ := at_get (rl.mono g2 rw1.sep) y2
        have z3 := e2 xs (g2.tup rw1.sep hq)
        rw [z1] at z3
        cases z3
        exact ⟨rw2, .refl, z2⟩
  · cases rd1 with
    | ref hj =>
      obtain ⟨us, z1, _⟩ := rw1.lst j hj
      refine ⟨_, rfl, .inr ⟨⟨us, SqL.of z1⟩, hl r1 j _ w1 H1 _ g1 rw1 (fun r2 w2 H2 l g2 rw2 q => ?_) h2⟩⟩
      obtain ⟨e1, hj2⟩ := g2.ref hj
      obtain ⟨xs, z2, z3⟩ := rw2.lst j hj2
      rw [e1] at z2
      have rl := z3 l q
      refine ⟨xs, rl, fun i => ⟨fun hi => ?_, fun hi => ?_, fun z H3 c y1 y2 => ?_⟩⟩
      · exact ⟨xs, xs[i], SqL.of z2, List.getElem?_eq_getElem hi⟩
      · exact ⟨xs, SqL.of z2, hi⟩
      · obtain ⟨e3, e2⟩ := y1
        subst e3
        obtain ⟨u, z4, z5⟩ := at_get rl y2
        have z6 := e2 xs (SqL.of z2)
        rw [z4] at z6
        cases z6
        exact ⟨rw2, .refl, z5⟩

/-! ### enumerate(tuple, k) -/
def IteT (K : PySem.W.Frag) (a : Addr) (k : Int) : It :=
  ⟨fun i H => ∃ xs x, SqT K H a xs ∧ xs[i]? = some x, fun i H v H' => ∃ T x, v = .ref T ∧ H T = none ∧ H' = upd H T (.tup [.int (k + (i : Nat)), x]) ∧ (∀ xs, SqT K H a xs → xs[i]? = some x), fun i H => ∃ xs, SqT K H a xs ∧ xs.length ≤ i⟩
theorem tup_ne {s : Shared} {a b : Addr} {js : Array Value} {c : String} {o : Obj} (h : s.heap.IsTuple a js) (e : s.heap.get? b = some o) (hc : o.cls = .type c) (n : ("tuple" : String) ≠ c) : a ≠ b := fun z => by
  obtain ⟨o', g1, g2, _⟩ := h
  rw [z, e] at g1
  cases g1
  exact n (Value.type.inj (g2.symm.trans hc))
theorem turn_enT {P : Program} {w : World} {K : PySem.W.Frag} {elts : List Expr} {kk : Nat} {tpos : Pos} (a c it : Addr) (k : Int) :
    Turn P w K (.Tuple elts kk tpos) (IteT K a k) [c, it] c (fun i h => (∃ old, IsEnum h c it (k + ((i : Nat) : Int)) old) ∧ h.IsTupleIter it a i ∧ c ≠ it) where
  mem := List.mem_cons_self
  obj := fun i h st b hb => by
    obtain ⟨⟨old, z1⟩, ⟨o, z2, z3, z4⟩, _⟩ := st
    rcases List.mem_cons.mp hb with rfl | hb
    · exact ⟨_, z1, fun v q => by cases q⟩
    · rw [List.mem_singleton.mp hb]
      exact ⟨o, z2, fun v q => by rw [z4] at q; cases q⟩
  keep := fun i h h' st kp => by
    obtain ⟨⟨old, z1⟩, z2, z3⟩ := st
    exact ⟨⟨old, kp c List.mem_cons_self _ z1⟩, z2.at fun o q => kp it (List.mem_cons_of_mem _ List.mem_cons_self) o q, z3⟩
  item := by
    intro X q1 q2 q3 hc i pins s σ H E I hf st hg
    subst q1 q2 q3
    obtain ⟨⟨old, z1⟩, z2, z3⟩ := st
    obtain ⟨xs, x, hq, hx⟩ := hg
    obtain ⟨js, rv, jp, hz⟩ := I.tuple hq
    obtain ⟨u, hu, ru⟩ := rv.get hx
    have jt : s.heap.IsTuple a js.toArray := jp
    obtain ⟨oi, y1, y2, y3⟩ := id z2
    have n1 : a ≠ it := tup_ne jt y1 y2 (by decide)
    have n2 : a ≠ c := tup_ne jt z1 rfl (by decide)
    have lc : c < s.heap.objs.size := Heap.lt_size z1
    have li : it < s.heap.objs.size := Heap.lt_size y1
    have hlt : i < js.toArray.size := by
      have := (List.getElem?_eq_some_iff.mp hu).1
      rw [List.size_toArray]; exact this
    refine wpAny_pyNext_enum_itemC (Draws.tuple (A := X.A.in1) (I.ok.hd hc) it a n1 js.toArray) z1 ⟨z2, jt⟩ hlt z3 (by simp [z3, n2.symm]) fun y h' tk py ho st' hT hs hk => ?_
    have ey : y = u := by
      have e1 : js.toArray[i]? = some y := py
      rw [List.getElem?_toArray, hu] at e1
      exact (Option.some.inj e1).symm
    subst ey
    refine ⟨_, rfl, wpAny_letOwnedTupleGo_enum (s := { s with heap := h', toks := tk + 1 }) ho fun h2 he sb => ?_⟩
    have hT2 : h2.get? s.heap.objs.size = some { cls := .type "tuple", data := .seq #[.int (k + ((i : Nat) : Int)) tk, y] } := (sb.2 _ (Nat.ne_of_gt lc)).trans hT
    have nw : ObjOk X.prog X.w (upd H s.heap.objs.size (.tup [.int (k + (i : Nat)), x])) h2 s.heap.objs.size (.tup [.int (k + (i : Nat)), x]) :=
      ⟨(by decide : 2 ≤ sizeLine), [.int (k + ((i : Nat) : Int)) tk, y], .cons ⟨_, rfl⟩ (.cons ru .nil), ⟨_, hT2, rfl, _, rfl⟩⟩
    have J1 := I.turnedNew (t' := tk + 1) (h' := h2) (ch := [c, it]) (fun b ob hb q => (sb.2 b (fun z => hb (by rw [z]; exact List.mem_cons_self))).trans (hk b ob (fun z => hb (by rw [z]; exact List.mem_cons_self)) (fun z => hb (by rw [z]; exact List.mem_cons_of_mem _ List.mem_cons_self)) q)) hf (Nat.le_refl _) nw
    refine ⟨.ref s.heap.objs.size, _, J1, rfl, ⟨_, x, rfl, I.hok.fresh (Nat.le_refl _), rfl, fun zs hzs => ?_⟩, ⟨⟨y, ?_⟩, st'.1.at fun o q => (sb.2 it (Ne.symm z3)).trans q, z3⟩, fun b hb => ?_⟩
    · rw [I.tuple_inj hzs hq]; exact hx
    · have e1 : k + (((i + 1 : Nat)) : Int) = k + (i : Int) + 1 := by omega
      rw [e1]
      exact he
    · have lb : b < s.heap.objs.size := by
        rcases List.mem_cons.mp hb with rfl | hb
        · exact lc
        · rw [List.mem_singleton.mp hb]; exact li
      rw [upd_ne (Nat.ne_of_lt lb)]
      exact (hf b hb).1
  done := by
    intro X q1 q2 q3 hc i pins s σ H E I hf st hg
    subst q1 q2 q3
    obtain ⟨⟨old, z1⟩, z2, z3⟩ := st
    obtain ⟨xs, hq, hx⟩ := hg
    obtain ⟨js, rv, jp, hz⟩ := I.tuple hq
    have jt : s.heap.IsTuple a js.toArray := jp
    obtain ⟨f0, f1, f2, f3, f4, f5⟩ := hf it (List.mem_cons_of_mem _ List.mem_cons_self)
    have hl := rv.length
    have D0 : Draws X.prog X.w X.A.in1 it [it, a] 0 (fun _ _ => True) (fun _ h => h.IsTupleIter it a i ∧ h.IsTuple a js.toArray) :=
      { live := fun _ _ q => let ⟨o, y1, _⟩ := q.1; ⟨o, y1⟩
        frame := fun _ _ _ q hk => ⟨q.1.at fun o y => hk it List.mem_cons_self o y, q.2.at fun o y => hk a (List.mem_cons_of_mem _ List.mem_cons_self) o y⟩
        item := fun j _ _ _ q => absurd q (Nat.not_lt_zero j)
        done := fun s2 Q2 E2 q hE => wpAny_nextOf_tuple_end (I.ok.hd hc) q.1 q.2 (by simp; omega) hE }
    exact wpAny_pyNext_enum_endD D0 z1 ⟨z2, jt⟩ fun h' eb => ⟨rfl, I.turned (t' := s.toks) (fun b o hb q => eb b o hb q) f0 f1 f3 f4 f5⟩
  self := fun A i s Q E st h => by
    obtain ⟨⟨_, z1⟩, _⟩ := st
    exact wpAny_pyIter_enum z1 h
def iEnT (K : PySem.W.Frag) (ta : TA) : TI := fun σ H R => ta σ H fun vs H1 => ∃ a xs i, vs = [.ref a, .int i] ∧ SqT K H1 a xs ∧ -(2 ^ 63) ≤ i ∧ i < 2 ^ 63 ∧ R (IteT K a i) H1
theorem pi_enT {b c : Expr} {ta : TA} {p tpos : Pos} {elts : List Expr} {kk : Nat} (hg : Gl X "enumerate") (hm : X.mg "enumerate" = none) (ha : PA X [b, c] ta) (hs : starEach [b, c] X.env = [(false, eval b X.env), (false, eval c X.env)] := by rfl) (hs2 : starEach [c] X.env = [(false, eval c X.env)] := by rfl) :
    PI X (.Tuple elts kk tpos) (.Call (.Name "enumerate" p) [b, c] [] pos) (iEnT X.K ta) := by
  constructor
  intro pins s σ H R I h
  refine Call_ (ld_blt I hg hm boot_enumerate (PyProof.Rows.callWith_type1 (thn (ha.run pos pins s σ H _ I h) ?_) (by rw [hs, hs2]) (by rw [hs2]; rfl)))
  rintro us s1 ⟨vs, H1, I1, r1, a, xs, i, rfl, hq, b1, b2, q⟩
  cases r1 with
  | cons rx rr =>
    cases rr with
    | cons ry rr =>
      cases rr
      cases rx
      obtain ⟨t, rfl⟩ := ry
      obtain ⟨js, rv, jp, hz⟩ := I1.tuple hq
      have jt : s1.heap.IsTuple a js.toArray := jp
      refine (enum_begins (begins_tuple a js.toArray) jt b1 b2 fun h' he hit hs kp => wpAny_pyIter_enum he ?_)
      have I2 : Inv X pins σ H1 { s1 with heap := h' } := I1.kept (t' := s1.toks) kp
      refine ⟨s1.heap.objs.size + 1, [s1.heap.objs.size + 1, s1.heap.objs.size], _, _, H1, rfl, I2, turn_enT a (s1.heap.objs.size + 1) s1.heap.objs.size i, ⟨⟨.none, ?_⟩, ⟨_, hit, rfl, rfl⟩, Nat.succ_ne_self _⟩, fun b hb => ?_, q⟩
      · show IsEnum h' _ _ (i + ((0 : Nat) : Int)) _
        rw [Int.natCast_zero, Int.add_zero]
        exact he
      · have le : s1.heap.objs.size ≤ b := by
          rcases List.mem_cons.mp hb with rfl | hb
          · exact Nat.le_succ _
          · rw [List.mem_singleton.mp hb]; exact Nat.le_refl _
        exact I1.fpOk le (I1.hok.fresh le)
/-- (k, x), (k + 1, y), .. -/
def numD (l : D) (k : Int) : D := (D.rec (motive := fun _ => Int → D) (fun _ => .nil) (fun _ => .nil) (fun _ _ => .nil) (fun _ _ => .nil) (fun _ _ => .nil) (fun _ => .nil) (fun x _ _ ih i => .cons (.tup (.cons (.int i) (.cons x .nil))) (ih (iAdd i (Int.ofNat 1)))) (fun _ _ _ => .nil) (fun _ _ => .nil) (fun _ _ => .nil) (fun _ => .nil) (fun _ _ _ => .nil) (fun _ _ _ => .nil) l : Int → D) k
theorem num_at : ∀ {l : D} {vs : List V} {k : Int} {i : Nat} {c : D}, RL K r H l vs → atD (numD l k) i = some c → ∃ x, atD l i = some x ∧ c = .tup (.cons (.int (k + (i : Nat))) (.cons x .nil))
  | _, _, k, 0, c, .cons rd rl, h => ⟨_, rfl, by
      have h : some (D.tup (.cons (.int k) (.cons _ .nil))) = some c := h
      cases h
      simp⟩
  | _, _, k, i + 1, c, .cons (t := t) rd rl, h => by
    have h : atD (numD t (iAdd k (Int.ofNat 1))) i = some c := h
    rw [iAdd_eq] at h
    obtain ⟨x, h1, h2⟩ := num_at (i := i) rl h
    refine ⟨x, h1, ?_⟩
    rw [h2]
    have : k + Int.ofNat 1 + (i : Int) = k + ((i + 1 : Nat) : Int) := by
      show k + ((1 : Nat) : Int) + (i : Int) = _
      omega
    rw [this]
  | _, _, k, 0, c, .nil, h => by cases h
  | _, _, k, i + 1, c, .nil, h => by cases h
theorem num_ls : ∀ {l : D} {vs : List V} (k : Int), RL K r H l vs → Ls (numD l k) ∧ lenD (numD l k) = vs.length
  | _, _, k, .nil => ⟨.nil, rfl⟩
  | _, _, k, .cons (t := t) rd rl => by
    obtain ⟨h1, h2⟩ := num_ls (iAdd k (Int.ofNat 1)) rl
    exact ⟨.cons h1, congrArg Nat.succ h2⟩
def itE2 (f : F) : IF := fun S w ks _ => f S w fun d w1 => a2 d fun x y => swT x fun l => swI y fun i => et (isRg i) (ks (numD l i) w1)
theorem ok_itE2 {f : F} {b c : Expr} {elts : List Expr} {kk : Nat} {tpos p pos : Pos} (he : OkA X f [b, c]) (hm : X.mg "enumerate" = none) (hg : Gl X "enumerate" := by rfl) (hs : starEach [b, c] X.env = [(false, eval b X.env), (false, eval c X.env)] := by rfl) (hs2 : starEach [c] X.env = [(false, eval c X.env)] := by rfl) :
    OkI X (itE2 f) (.Tuple elts kk tpos) (.Call (.Name "enumerate" p) [b, c] [] pos) := fun r S σ w H ks kl R rs rw h hss hl => by
  refine (pi_enT hg hm (pa_tA [b, c]) hs hs2).to (he r S σ w H _ _ rs rw h fun r1 d vs w1 H1 g1 rw1 rl1 h1 => ?_)
  obtain ⟨x, y, u, v, rfl, rd, re, h2⟩ := a2_ h1 rl1
  obtain ⟨l, rfl, h3⟩ := swT_ h2
  obtain ⟨i, rfl, h4⟩ := swI_ h3
  obtain ⟨h5, h6⟩ := et_ h4
  obtain ⟨b1, b2⟩ := isRg_ h5
  cases re
  cases rd with
  | tup hq rl =>
    rename_i a xs
    refine ⟨a, xs, i, rfl, hq, by omega, by omega, hss r1 _ w1 H1 _ g1 rw1 (fun r2 w2 H2 g2 rw2 => ?_) h6⟩
    have rl2 := rl.mono g2 rw1.sep
    have hq2 := g2.tup rw1.sep hq
    obtain ⟨z1, z2⟩ := num_ls i rl2
    rw [z2]
    refine ⟨z1, fun j => ⟨fun hj => ⟨xs, xs[j], hq2, List.getElem?_eq_getElem hj⟩, fun hj => ⟨xs, hq2, hj⟩, fun z H3 q y1 y2 => ?_⟩⟩
    obtain ⟨T, y, e1, e2, e3, e4⟩ := y1
    subst e1
    subst e3
    obtain ⟨t, z3, z4⟩ := num_at rl2 y2
    subst z4
    obtain ⟨u, z5, z6⟩ := at_get rl2 z3
    have z7 : u = y := Option.some.inj (z5.symm.trans (e4 xs hq2))
    rw [z7] at z6
    have g3 : Gr r2 H2 r2 (upd H2 T (.tup [.int (i + (j : Nat)), y])) := gr_new e2
    exact ⟨rw2.new e2, g3, .tup (SqT.of upd_same) (.cons (.int _) (.cons (z6.mono g3 rw2.sep) .nil))⟩
end
end Ear
namespace Ear
open PySem PySem.Spec PyProof.Rows L2
open AutoSeq1 (wpAny_loadPart')
/-! ### tuple * 1, tuple * 0 -/
theorem tup_mul1 (l : Addr) (js : Array Value) (n : Nat) (dd : Option Addr) (sl : Array (Option Value)) (u : Tok) :
    Meets (Builtin.«tuple.__mul__» ⟨[.ref l, .int 1 u], []⟩) (fun _ R s => s.heap.get? l = some { cls := .type "tuple", dict := dd, data := .seq js n, slots := sl } ∧ R (.ok (.ret (Value.ref l))) s) :=
  .of_wp fun prog w A R s q => by
    obtain ⟨hp, gs, dr, tk, os⟩ := s
    obtain ⟨hl, q⟩ := q
    have f1 := AutoSeq1.idx_int
    wp_walk using wpAny_loadPart' hl
    exact ⟨_, rfl, q⟩
theorem tup_mul0 (l : Addr) (js : Array Value) (n : Nat) (dd : Option Addr) (sl : Array (Option Value)) (u : Tok) (c1 : (js.isEmpty || (0 : Int) == 1) = false) :
    Meets (Builtin.«tuple.__mul__» ⟨[.ref l, .int 0 u], []⟩) (fun _ R s => s.heap.get? l = some { cls := .type "tuple", dict := dd, data := .seq js n, slots := sl } ∧ R (.ok (.ret (Value.ref s.heap.objs.size))) { s with heap := s.heap.push { cls := Value.type "tuple", data := Data.seq #[] }, toks := s.toks }) :=
  .of_wp fun prog w A R s q => by
    obtain ⟨hp, gs, dr, tk, os⟩ := s
    obtain ⟨hl, q⟩ := q
    have f1 := AutoSeq1.idx_int
    wp_walk using wpAny_loadPart' hl
    refine wpAny_ite_false (decide_eq_false (by rw [c1]; exact Bool.false_ne_true)) ?_
    wp_walk using wpAny_loadPart' hl
    exact ⟨_, rfl, q⟩
def rMul01 (K : PySem.W.Frag) : R2 := fun x y H Q => ∃ l xs, x = .ref l ∧ SqT K H l xs ∧ xs ≠ [] ∧ ((y = .int 1 ∧ Q (.ref l) H) ∨ (y = .int 0 ∧ ∀ p, H p = none → Q (.ref p) (upd H p (.tup []))))
section
variable {X : Cx}
theorem op_mul01 : OpR X (binaryOp .Mult) (rMul01 X.K) := by
  intro pins s σ H x y v u Q I rx ry h
  obtain ⟨l, xs, rfl, hT, hne, q⟩ := h
  cases rx
  obtain ⟨js, rv, ⟨⟨cls, dd, data, sl⟩, ho, hc, n, hd⟩, hs⟩ := I.tuple hT
  simp only at hc hd
  subst hc hd
  have hle : js.length = xs.length := rv.length.symm
  have hi : js.toArray.isEmpty = false := by
    cases js with
    | nil => exact absurd (List.eq_nil_of_length_eq_zero hle.symm) hne
    | cons a b => rfl
  rcases q with ⟨rfl, q⟩ | ⟨rfl, q⟩
  · obtain ⟨t, rfl⟩ := ry
    refine wpAny_binaryOp_repeat_ref (T := "tuple") (U := "int") (by decide) ⟨_, ho, rfl⟩ (fun s' => typeIs_int s' 1 t) noFill_tuple_mul F.fills_int_mul F.slot_int_rmul repeat_tuple F.slot_int_index.lookup
      (call_meets F.slot_int_rmul (typeIs_int s 1 t) F.entry_int_rmul (F.args_int_rmul_2 _ _) (int_rmul_tuple 1 t l js.toArray n dd sl)
        ⟨ho, rfl, ⟨_, ho, rfl⟩, call_meets F.slot_tuple_mul ⟨_, ho, rfl⟩ F.entry_tuple_mul (F.args_tuple_mul_2 _ _) (tup_mul1 l js.toArray n dd sl t) ⟨ho, ?_⟩⟩)
    exact ⟨.ref l, H, I, rfl, q⟩
  · obtain ⟨t, rfl⟩ := ry
    refine wpAny_binaryOp_repeat_ref (T := "tuple") (U := "int") (by decide) ⟨_, ho, rfl⟩ (fun s' => typeIs_int s' 0 t) noFill_tuple_mul F.fills_int_mul F.slot_int_rmul repeat_tuple F.slot_int_index.lookup
      (call_meets F.slot_int_rmul (typeIs_int s 0 t) F.entry_int_rmul (F.args_int_rmul_2 _ _) (int_rmul_tuple 0 t l js.toArray n dd sl)
        ⟨ho, rfl, ⟨_, ho, rfl⟩, call_meets F.slot_tuple_mul ⟨_, ho, rfl⟩ F.entry_tuple_mul (F.args_tuple_mul_2 _ _) (tup_mul0 l js.toArray n dd sl t (by rw [hi]; rfl)) ⟨ho, ?_⟩⟩)
    refine ⟨.ref s.heap.objs.size, _, I.laid (t' := s.toks) (o := .tup []) (fun b ob q => Heap.get?_push_of_some _ q) (Nat.le_refl _) ?_, rfl, q _ (I.hok.fresh (Nat.le_refl _))⟩
    exact ⟨Nat.zero_le _, [], .nil, IsTup.new _ _⟩
variable {K : PySem.W.Frag} {r : Rh} {w : Wd} {H : Hp} {k : Kt} {Q : VK} {d e : D} {x y : V}
/-- tuple * n: two cases, then the rest -/
def nat01 (n : Nat) (k0 k1 k2 : Bool) : Bool := Nat.rec k0 (fun m _ => Nat.rec k1 (fun _ _ => k2) m) n
/-- * in full -/
def opMulX : O2 := fun d e w k => sw4 d (fun i => swI e fun j => et (Bool.rec (isMul j) true (isMul i)) (k (.int (iMul i j)) w)) (fun _ => false)
  (fun a => swI e fun j => natI j fun n => swC a fun _ _ => nat01 n (k (.tup .nil) w) (k d w) (et (Nat.ble n 1000) (et (Nat.ble (lenD a) 1000) (k (.tup (repD a n)) w))))
  (fun i => swI e fun j => natI j fun n => onL w.h i fun a => et (Nat.ble (Nat.mul (lenD a) n) small) (et (Nat.ble n small) (k (.ref w.n) (w.more (repD a n)))))
theorem okMulX : OkR X opMulX (binaryOp .Mult) := fun r w H d e x y k Q rw rd re q go => by
  rcases sw4_ q with ⟨i, rfl, q1⟩ | ⟨a, rfl, q1⟩ | ⟨a, rfl, q1⟩ | ⟨i, rfl, q1⟩
  · exact okMul r w H (.int i) e x y k Q rw rd re q1 go
  · exact absurd (show false = true from q1) Bool.false_ne_true
  · obtain ⟨j, rfl, q4⟩ := swI_ q1
    obtain ⟨n, rfl, q5⟩ := natI_ q4
    obtain ⟨a1, a2, rfl, q6⟩ := swC_ q5
    cases re
    cases rd with
    | tup ha la =>
      rename_i p xs
      have ne : xs ≠ [] := fun e => by subst e; cases la
      match n, q6 with
      | 0, q6 =>
        refine op_mul01.to ⟨p, xs, rfl, ha, ne, .inr ⟨rfl, fun p3 hp => ?_⟩⟩
        exact go.newT rw .nil hp (show k (.tup .nil) w = true from q6)
      | 1, q6 => exact op_mul01.to ⟨p, xs, rfl, ha, ne, .inl ⟨rfl, go.now rw (.tup ha la) (show k (.tup (.cons a1 a2)) w = true from q6)⟩⟩
      | m + 2, q6 =>
        obtain ⟨q2, q8⟩ := et_ (show et (Nat.ble (m + 2) 1000) _ = true from q6)
        obtain ⟨q3, q9⟩ := et_ q8
        refine op_repT.to ⟨p, ((m + 2 : Nat) : Int), xs, rfl, rfl, ha, ne, by omega, ?_, ?_, fun p3 hp => go.newT rw ?_ hp q9⟩
        · have := Nat.le_of_ble_eq_true q2; omega
        · rw [← la.len]; exact Nat.le_of_ble_eq_true q3
        · exact la.rep (m + 2)
  · exact okMul r w H (.ref i) e x y k Q rw rd re q1 go
end
end Ear
namespace Ear
open PySem PySem.Spec PyProof.Rows L2
/-! ### the law's own drawing, the module's constants -/
def allN (n : Nat) (k : Nat → Bool) : Bool := Nat.rec true (fun m ih => et (k m) ih) n
theorem allN_ {k : Nat → Bool} : ∀ {n i : Nat}, allN n k = true → i < n → k i = true
  | n + 1, i, h, q => by
    obtain ⟨h1, h2⟩ := et_ (show et (k n) (allN n k) = true from h)
    rcases Nat.lt_succ_iff_lt_or_eq.mp q with q | rfl
    · exact allN_ h2 q
    · exact h1
def swPot (d : D) (k : Bool) : Bool := D.rec (motive := fun _ => Bool) false false (fun _ => false) (fun _ => false) (fun _ => false) false (fun _ _ _ _ => false) (fun _ _ => false) (fun _ => false) (fun _ => false) k (fun _ _ => false) (fun _ _ => false) d
theorem swPot_ {d : D} {k : Bool} (h : swPot d k = true) : d = .pot ∧ k = true := by cases d <;> first | exact ⟨rfl, h⟩ | exact absurd (show false = true from h) Bool.false_ne_true
/-- any digit below the bound -/
def takeC : C := fun d w k => a2 d fun p u => swPot p (swI u fun u => natI u fun n => et (Nat.blt 0 n) (et (Nat.blt n 1000000) (et (Nat.blt w.t 1000) (allN n fun i => k (.int (Int.ofNat i)) ⟨w.n, Nat.succ w.t, w.h⟩))))
def k_NOTHING : D := .tup (.cons (.int (Int.ofNat 0)) (.cons (.tup .nil) .nil))
def k_PIECE : D := .int (Int.ofNat 100000000000000000000000000000000000000000000000000000000000000000000000000000000000000000000000000000000000000000000000000000000000000000000000000000000000000000000000000000000000000000000000000000000000000000000000000000000000000000000000000000000000000000000000000000000000000000000000000000000000000000000000000000000000000000000000000000000000000000000000000000000000000000000000000000000000000000000000000000000000000000000000000000000000000000000000000000000000000000000000000000000000000000000000000000000)
def k_FIGURES : D := .int (Int.ofNat 512)
def k_MOST_WORTHS : D := .int (Int.ofNat 200)
def k_FEW : D := .int (Int.ofNat 12)
/-- _law_row -/
def g__law_row : G := (sRet (eTup (eCons (eVar 0) (eCons (eCb bTuple (eCons (eLc [2] (itX (eVar 1)) (gSet 2) eYes (eTup (eCons (eVar 2) (eCons (eLit (.int (Int.ofNat 1))) eNil)))) eNil)) eNil))))
def c__law_row : C := fnC [.und] g__law_row
/-- is_integer -/
def g_is_integer : G := (sRet (eBin opIs (eCb bType (eCons (eVar 0) eNil)) (eLit (.ty "int"))))
def c_is_integer : C := fnC [] g_is_integer
/-- is_fraction -/
def g_is_fraction : G := (sSeq (sIf (eOr (eTst (eBin opIsNot (eCb bType (eCons (eVar 0) eNil)) (eLit (.ty "tuple")))) (eTst (eBin opNe (eCb bLen (eCons (eVar 0) eNil)) (eLit (.int (Int.ofNat 2)))))) (sRet (eLit (.bl false))) sSkip) (sSeq (sAsg (eVar 0) (gTp 2 (gMore (gSet 1) (gMore (gSet 2) gNo)))) (sRet (eAnd (eCall c_is_integer 1 (eCons (eVar 1) eNil)) (eAnd (eCall c_is_integer 1 (eCons (eVar 2) eNil)) (eAnd (eBin opGt (eVar 2) (eLit (.int (Int.ofNat 0)))) (eBin opEq (eCb bGcd (eCons (eVar 1) (eCons (eVar 2) eNil))) (eLit (.int (Int.ofNat 1))))))))))
def c_is_fraction : C := fnC [.und, .und] g_is_fraction
/-- are_fractions -/
def g_are_fractions : G := (sRet (eAnd (eBin opIs (eCb bType (eCons (eVar 0) eNil)) (eLit (.ty "tuple"))) (eCb bAll (eCons (eLc [1] (itX (eVar 0)) (gSet 1) eYes (eCall c_is_fraction 1 (eCons (eVar 1) eNil))) eNil))))
def c_are_fractions : C := fnC [.und] g_are_fractions
/-- is_row -/
def g_is_row : G := (sSeq (sIf (eOr (eTst (eBin opIsNot (eCb bType (eCons (eVar 0) eNil)) (eLit (.ty "tuple")))) (eTst (eBin opNe (eCb bLen (eCons (eVar 0) eNil)) (eLit (.int (Int.ofNat 2)))))) (sRet (eLit (.bl false))) sSkip) (sSeq (sAsg (eVar 0) (gTp 2 (gMore (gSet 1) (gMore (gSet 2) gNo)))) (sSeq (sIf (eOr (eNot (eTru (eCall c_is_integer 1 (eCons (eVar 1) eNil)))) (eNot (eTru (eCall c_are_fractions 1 (eCons (eVar 2) eNil))))) (sRet (eLit (.bl false))) sSkip) (sSeq (sIf (eTst (eBin opEq (eCb bLen (eCons (eVar 2) eNil)) (eLit (.int (Int.ofNat 0))))) (sRet (eBin opEq (eVar 1) (eLit (.int (Int.ofNat 0))))) sSkip) (sRet (eAnd (eBin opNe (eBin opIx (eBin opIx (eVar 2) (eLit (.int (Int.ofNat 0)))) (eLit (.int (Int.ofNat 0)))) (eLit (.int (Int.ofNat 0)))) (eBin opNe (eBin opIx (eBin opIx (eVar 2) (eUn opNeg (eLit (.int (Int.ofNat 1))))) (eLit (.int (Int.ofNat 0)))) (eLit (.int (Int.ofNat 0))))))))))
def c_is_row : C := fnC [.und, .und] g_is_row
/-- check_row -/
def g_check_row : G := (sIf (eNot (eTru (eCall c_is_row 1 (eCons (eVar 0) eNil)))) sNo sSkip)
def c_check_row : C := fnC [] g_check_row
/-- contrary -/
def g_contrary : G := (sRet (eTup (eCons (eBin opIx (eVar 0) (eLit (.int (Int.ofNat 0)))) (eCons (eCb bTuple (eCons (eLc [1, 2] (itX (eBin opIx (eVar 0) (eLit (.int (Int.ofNat 1))))) (gTp 2 (gMore (gSet 1) (gMore (gSet 2) gNo))) eYes (eTup (eCons (eUn opNeg (eVar 1)) (eCons (eVar 2) eNil)))) eNil)) eNil))))
def c_contrary : C := fnC [.und, .und] g_contrary
/-- reduced -/
def g_reduced : G := (sSeq (sIf (eTst (eBin opEq (eVar 1) (eLit (.int (Int.ofNat 1))))) (sRet (eTup (eCons (eVar 0) (eCons (eLit (.int (Int.ofNat 1))) eNil)))) sSkip) (sSeq (sAsg (eCb bGcd (eCons (eVar 0) (eCons (eVar 1) eNil))) (gSet 2)) (sSeq (sIf (eTst (eBin opLt (eVar 1) (eLit (.int (Int.ofNat 0))))) (sAsg (eUn opNeg (eVar 2)) (gSet 2)) sSkip) (sRet (eTup (eCons (eBin opFdiv (eVar 0) (eVar 2)) (eCons (eBin opFdiv (eVar 1) (eVar 2)) eNil)))))))
def c_reduced : C := fnC [.und] g_reduced
/-- fraction_sum -/
def g_fraction_sum : G := (sSeq (sIf (eAnd (eTst (eBin opEq (eBin opIx (eVar 0) (eLit (.int (Int.ofNat 1)))) (eLit (.int (Int.ofNat 1))))) (eTst (eBin opEq (eBin opIx (eVar 1) (eLit (.int (Int.ofNat 1)))) (eLit (.int (Int.ofNat 1)))))) (sRet (eTup (eCons (eBin opAdd (eBin opIx (eVar 0) (eLit (.int (Int.ofNat 0)))) (eBin opIx (eVar 1) (eLit (.int (Int.ofNat 0))))) (eCons (eLit (.int (Int.ofNat 1))) eNil)))) sSkip) (sRet (eCall c_reduced 2 (eCons (eBin opAdd (eBin opMulX (eBin opIx (eVar 0) (eLit (.int (Int.ofNat 0)))) (eBin opIx (eVar 1) (eLit (.int (Int.ofNat 1))))) (eBin opMulX (eBin opIx (eVar 1) (eLit (.int (Int.ofNat 0)))) (eBin opIx (eVar 0) (eLit (.int (Int.ofNat 1)))))) (eCons (eBin opMulX (eBin opIx (eVar 0) (eLit (.int (Int.ofNat 1)))) (eBin opIx (eVar 1) (eLit (.int (Int.ofNat 1))))) eNil)))))
def c_fraction_sum : C := fnC [] g_fraction_sum
/-- trimmed -/
def g_trimmed : G := (sSeq (sPar 2 3 (eCons (eLit (.int (Int.ofNat 0))) (eCons (eCb bLen (eCons (eVar 1) eNil)) eNil))) (sSeq (sWhl (eAnd (eTst (eBin opLt (eVar 2) (eVar 3))) (eTst (eBin opEq (eBin opIx (eBin opIx (eVar 1) (eVar 2)) (eLit (.int (Int.ofNat 0)))) (eLit (.int (Int.ofNat 0)))))) (sAug 2 opAddI (eLit (.int (Int.ofNat 1))))) (sSeq (sWhl (eAnd (eTst (eBin opGt (eVar 3) (eVar 2))) (eTst (eBin opEq (eBin opIx (eBin opIx (eVar 1) (eBin opSub (eVar 3) (eLit (.int (Int.ofNat 1))))) (eLit (.int (Int.ofNat 0)))) (eLit (.int (Int.ofNat 0)))))) (sAug 3 opSub (eLit (.int (Int.ofNat 1))))) (sSeq (sIf (eTst (eBin opEq (eVar 2) (eVar 3))) (sRet (eLit k_NOTHING)) sSkip) (sRet (eTup (eCons (eBin opAdd (eVar 0) (eVar 2)) (eCons (eCb bTuple (eCons (eSl (eVar 1) (pAt (eVar 2)) (pAt (eVar 3))) eNil)) eNil))))))))
def c_trimmed : C := fnC [.und, .und] g_trimmed
/-- row_sum -/
def g_row_sum : G := (sSeq (sIf (eTst (eBin opEq (eCb bLen (eCons (eBin opIx (eVar 0) (eLit (.int (Int.ofNat 1)))) eNil)) (eLit (.int (Int.ofNat 0))))) (sRet (eVar 1)) sSkip) (sSeq (sIf (eTst (eBin opEq (eCb bLen (eCons (eBin opIx (eVar 1) (eLit (.int (Int.ofNat 1)))) eNil)) (eLit (.int (Int.ofNat 0))))) (sRet (eVar 0)) sSkip) (sSeq (sAsg (eCb bMin2 (eCons (eBin opIx (eVar 0) (eLit (.int (Int.ofNat 0)))) (eCons (eBin opIx (eVar 1) (eLit (.int (Int.ofNat 0)))) eNil))) (gSet 2)) (sSeq (sAsg (eCb bMax2 (eCons (eBin opAdd (eBin opIx (eVar 0) (eLit (.int (Int.ofNat 0)))) (eCb bLen (eCons (eBin opIx (eVar 0) (eLit (.int (Int.ofNat 1)))) eNil))) (eCons (eBin opAdd (eBin opIx (eVar 1) (eLit (.int (Int.ofNat 0)))) (eCb bLen (eCons (eBin opIx (eVar 1) (eLit (.int (Int.ofNat 1)))) eNil))) eNil))) (gSet 3)) (sSeq (sAsg (eBin opMulX (eLst (eCons (eTup (eCons (eLit (.int (Int.ofNat 0))) (eCons (eLit (.int (Int.ofNat 1))) eNil))) eNil)) (eBin opSub (eVar 3) (eVar 2))) (gSet 4)) (sSeq (sAsg (eBin opSub (eBin opIx (eVar 0) (eLit (.int (Int.ofNat 0)))) (eVar 2)) (gSet 5)) (sSeq (sAsg (eBin opIx (eVar 0) (eLit (.int (Int.ofNat 1)))) (gCut (eVar 4) (pAt (eVar 5)) (pAt (eBin opAdd (eVar 5) (eCb bLen (eCons (eBin opIx (eVar 0) (eLit (.int (Int.ofNat 1)))) eNil)))))) (sSeq (sFor (itE2 (eCons (eBin opIx (eVar 1) (eLit (.int (Int.ofNat 1)))) (eCons (eBin opSub (eBin opIx (eVar 1) (eLit (.int (Int.ofNat 0)))) (eVar 2)) eNil))) (gTp 2 (gMore (gSet 6) (gMore (gSet 7) gNo))) (sAsg (eCall c_fraction_sum 2 (eCons (eBin opIx (eVar 4) (eVar 6)) (eCons (eVar 7) eNil))) (gIx (eVar 4) (eVar 6)))) (sRet (eCall c_trimmed 2 (eCons (eVar 2) (eCons (eVar 4) eNil))))))))))))
def c_row_sum : C := fnC [.und, .und, .und, .und, .und, .und] g_row_sum
/-- less -/
def g_less : G := (sSeq (sExp (eCall c_check_row 1 (eCons (eVar 0) eNil))) (sSeq (sExp (eCall c_check_row 1 (eCons (eVar 1) eNil))) (sRet (eCall c_row_sum 2 (eCons (eVar 0) (eCons (eCall c_contrary 1 (eCons (eVar 1) eNil)) eNil))))))
def c_less : C := fnC [] g_less
/-- plus -/
def g_plus : G := (sSeq (sExp (eCall c_check_row 1 (eCons (eVar 0) eNil))) (sSeq (sExp (eCall c_check_row 1 (eCons (eVar 1) eNil))) (sRet (eCall c_row_sum 2 (eCons (eVar 0) (eCons (eVar 1) eNil))))))
def c_plus : C := fnC [] g_plus
/-- is_number_text -/
def g_is_number_text : G := (sSeq (sAsg (eIf (eTru (eM1 mStarts (eVar 0) (eLit (.str "-")))) (eSl (eVar 0) (pAt (eLit (.int (Int.ofNat 1)))) pNo) (eVar 0)) (gSet 1)) (sSeq (sIf (eOr (eNot (eTru (eM0 mIsascii (eVar 1)))) (eNot (eTru (eM0 mIsdigit (eVar 1))))) (sRet (eLit (.bl false))) sSkip) (sRet (eOr (eBin opEq (eVar 0) (eLit (.str "0"))) (eNot (eM1 mStarts (eVar 1) (eLit (.str "0"))))))))
def c_is_number_text : C := fnC [.und] g_is_number_text
/-- read_figures -/
def g_read_figures : G := (sSeq (sAsg (eCb bRng3 (eCons (eCb bLen (eCons (eVar 0) eNil)) (eCons (eLit (.int (Int.ofNat 0))) (eCons (eUn opNeg (eLit k_FIGURES)) eNil)))) (gSet 1)) (sSeq (sAsg (eLc [4] (itO (eVar 1)) (gSet 4) eYes (eCb bIntS (eCons (eSl (eVar 0) (pAt (eCb bMax2 (eCons (eLit (.int (Int.ofNat 0))) (eCons (eBin opSub (eVar 4) (eLit k_FIGURES)) eNil)))) (pAt (eVar 4))) eNil))) (gSet 2)) (sSeq (sAsg (eLit k_PIECE) (gSet 3)) (sSeq (sWhl (eTst (eBin opGt (eCb bLen (eCons (eVar 2) eNil)) (eLit (.int (Int.ofNat 1))))) (sSeq (sIf (eTst (eBin opEq (eBin opMod (eCb bLen (eCons (eVar 2) eNil)) (eLit (.int (Int.ofNat 2)))) (eLit (.int (Int.ofNat 1))))) sNo sSkip) (sSeq (sAsg (eLc [5] (itX (eCb bRng3 (eCons (eLit (.int (Int.ofNat 0))) (eCons (eCb bLen (eCons (eVar 2) eNil)) (eCons (eLit (.int (Int.ofNat 2))) eNil))))) (gSet 5) eYes (eBin opAdd (eBin opIx (eVar 2) (eVar 5)) (eBin opMulX (eVar 3) (eBin opIx (eVar 2) (eBin opAdd (eVar 5) (eLit (.int (Int.ofNat 1)))))))) (gSet 2)) (sAsg (eBin opMulX (eVar 3) (eVar 3)) (gSet 3))))) (sRet (eBin opIx (eVar 2) (eLit (.int (Int.ofNat 0)))))))))
def c_read_figures : C := fnC [.und, .und, .und, .und, .und] g_read_figures
/-- read_number -/
def g_read_number : G := (sSeq (sIf (eTru (eM1 mStarts (eVar 0) (eLit (.str "-")))) (sRet (eUn opNeg (eCall c_read_figures 1 (eCons (eSl (eVar 0) (pAt (eLit (.int (Int.ofNat 1)))) pNo) eNil)))) sSkip) (sRet (eCall c_read_figures 1 (eCons (eVar 0) eNil))))
def c_read_number : C := fnC [] g_read_number
/-- read_fraction -/
def g_read_fraction : G := (sSeq (sAsg (eM1 mPart (eVar 0) (eLit (.str "/"))) (gTp 3 (gMore (gSet 1) (gMore (gSet 2) (gMore (gSet 3) gNo))))) (sSeq (sIf (eNot (eTru (eCall c_is_number_text 1 (eCons (eVar 1) eNil)))) (sRet (eLit .non)) sSkip) (sSeq (sIf (eTst (eBin opEq (eVar 2) (eLit (.str "")))) (sRet (eTup (eCons (eCall c_read_number 1 (eCons (eVar 1) eNil)) (eCons (eLit (.int (Int.ofNat 1))) eNil)))) sSkip) (sSeq (sIf (eNot (eTru (eCall c_is_number_text 1 (eCons (eVar 3) eNil)))) (sRet (eLit .non)) sSkip) (sSeq (sAsg (eTup (eCons (eCall c_read_number 1 (eCons (eVar 1) eNil)) (eCons (eCall c_read_number 1 (eCons (eVar 3) eNil)) eNil))) (gSet 4)) (sRet (eIf (eAnd (eTst (eBin opGt (eBin opIx (eVar 4) (eLit (.int (Int.ofNat 1)))) (eLit (.int (Int.ofNat 1))))) (eTru (eCall c_is_fraction 1 (eCons (eVar 4) eNil)))) (eVar 4) (eLit .non))))))))
def c_read_fraction : C := fnC [.und, .und, .und, .und] g_read_fraction
/-- row_in -/
def g_row_in : G := (sSeq (sIf (eTst (eBin opEq (eVar 0) (eLit (.str "-")))) (sRet (eLit k_NOTHING)) sSkip) (sSeq (sAsg (eM1 mPart (eVar 0) (eLit (.str ": "))) (gTp 3 (gMore (gSet 1) (gMore (gSet 2) (gMore (gSet 3) gNo))))) (sSeq (sIf (eOr (eTst (eBin opEq (eVar 2) (eLit (.str "")))) (eNot (eTru (eCall c_is_number_text 1 (eCons (eVar 1) eNil))))) (sRet (eLit .non)) sSkip) (sSeq (sAsg (eTup (eCons (eCall c_read_number 1 (eCons (eVar 1) eNil)) (eCons (eCb bTuple (eCons (eLc [5] (itX (eM1 mSplit (eVar 3) (eLit (.str " ")))) (gSet 5) eYes (eCall c_read_fraction 1 (eCons (eVar 5) eNil))) eNil)) eNil))) (gSet 4)) (sRet (eIf (eTru (eCall c_is_row 1 (eCons (eVar 4) eNil))) (eVar 4) (eLit .non)))))))
def c_row_in : C := fnC [.und, .und, .und, .und, .und] g_row_in
/-- read_row -/
def g_read_row : G := (sSeq (sAsg (eIf (eTst (eBin opIs (eCb bType (eCons (eVar 0) eNil)) (eLit (.ty "str")))) (eCall c_row_in 1 (eCons (eVar 0) eNil)) (eLit .non)) (gSet 1)) (sSeq (sIf (eTst (eBin opIs (eVar 1) (eLit .non))) sNo sSkip) (sRet (eVar 1))))
def c_read_row : C := fnC [.und] g_read_row
/-- check_number -/
def g_check_number : G := (sIf (eNot (eTru (eCall c_is_integer 1 (eCons (eVar 0) eNil)))) sNo sSkip)
def c_check_number : C := fnC [] g_check_number
/-- row_of -/
def g_row_of : G := (sSeq (sExp (eCall c_check_number 1 (eCons (eVar 0) eNil))) (sSeq (sIf (eOr (eNot (eTru (eCall c_are_fractions 1 (eCons (eVar 1) eNil)))) (eTst (eBin opGt (eCb bLen (eCons (eVar 1) eNil)) (eLit k_MOST_WORTHS)))) sNo sSkip) (sRet (eCall c_trimmed 2 (eCons (eVar 0) (eCons (eVar 1) eNil))))))
def c_row_of : C := fnC [] g_row_of
/-- figures_of -/
def g_figures_of : G := (sSeq (sIf (eTst (eBin opLt (eVar 0) (eLit k_PIECE))) (sRet (eCb bStr (eCons (eVar 0) eNil))) sSkip) (sSeq (sAsg (eLst (eCons (eLit k_PIECE) eNil)) (gSet 1)) (sSeq (sWhl (eTst (eBin opLe (eBin opIx (eVar 1) (eUn opNeg (eLit (.int (Int.ofNat 1))))) (eVar 0))) sNo) (sSeq (sAsg (eLst (eCons (eVar 0) eNil)) (gSet 2)) sNo))))
def c_figures_of : C := fnC [.und, .und, .und, .und, .und] g_figures_of
/-- number_text -/
def g_number_text : G := (sSeq (sIf (eTst (eBin opLt (eVar 0) (eLit (.int (Int.ofNat 0))))) (sRet (eBin opAdd (eLit (.str "-")) (eCall c_figures_of 1 (eCons (eUn opNeg (eVar 0)) eNil)))) sSkip) (sRet (eCall c_figures_of 1 (eCons (eVar 0) eNil))))
def c_number_text : C := fnC [] g_number_text
/-- fraction_text -/
def g_fraction_text : G := (sSeq (sAsg (eVar 0) (gTp 2 (gMore (gSet 1) (gMore (gSet 2) gNo)))) (sSeq (sIf (eTst (eBin opEq (eVar 2) (eLit (.int (Int.ofNat 1))))) (sRet (eCall c_number_text 1 (eCons (eVar 1) eNil))) sSkip) (sRet (eBin opAdd (eBin opAdd (eCall c_number_text 1 (eCons (eVar 1) eNil)) (eLit (.str "/"))) (eCall c_number_text 1 (eCons (eVar 2) eNil))))))
def c_fraction_text : C := fnC [.und, .und] g_fraction_text
/-- row_text -/
def g_row_text : G := (sSeq (sExp (eCall c_check_row 1 (eCons (eVar 0) eNil))) (sSeq (sIf (eTst (eBin opEq (eCb bLen (eCons (eBin opIx (eVar 0) (eLit (.int (Int.ofNat 1)))) eNil)) (eLit (.int (Int.ofNat 0))))) (sRet (eLit (.str "-"))) sSkip) (sRet (eBin opAdd (eBin opAdd (eCall c_number_text 1 (eCons (eBin opIx (eVar 0) (eLit (.int (Int.ofNat 0)))) eNil)) (eLit (.str ": "))) (eM1 mJoin (eLit (.str " ")) (eLc [1] (itX (eBin opIx (eVar 0) (eLit (.int (Int.ofNat 1))))) (gSet 1) eYes (eCall c_fraction_text 1 (eCons (eVar 1) eNil))))))))
def c_row_text : C := fnC [.und] g_row_text
/-- fraction_product -/
def g_fraction_product : G := (sRet (eCall c_reduced 2 (eCons (eBin opMulX (eBin opIx (eVar 0) (eLit (.int (Int.ofNat 0)))) (eBin opIx (eVar 1) (eLit (.int (Int.ofNat 0))))) (eCons (eBin opMulX (eBin opIx (eVar 0) (eLit (.int (Int.ofNat 1)))) (eBin opIx (eVar 1) (eLit (.int (Int.ofNat 1))))) eNil))))
def c_fraction_product : C := fnC [] g_fraction_product
/-- scaled_row -/
def g_scaled_row : G := (sSeq (sIf (eTst (eBin opEq (eBin opIx (eVar 1) (eLit (.int (Int.ofNat 0)))) (eLit (.int (Int.ofNat 0))))) (sRet (eLit k_NOTHING)) sSkip) (sRet (eTup (eCons (eBin opIx (eVar 0) (eLit (.int (Int.ofNat 0)))) (eCons (eCb bTuple (eCons (eLc [2] (itX (eBin opIx (eVar 0) (eLit (.int (Int.ofNat 1))))) (gSet 2) eYes (eCall c_fraction_product 2 (eCons (eVar 2) (eCons (eVar 1) eNil)))) eNil)) eNil)))))
def c_scaled_row : C := fnC [.und] g_scaled_row
/-- scaled -/
def g_scaled : G := (sSeq (sExp (eCall c_check_row 1 (eCons (eVar 0) eNil))) (sSeq (sIf (eNot (eTru (eCall c_is_fraction 1 (eCons (eVar 1) eNil)))) sNo sSkip) (sRet (eCall c_scaled_row 2 (eCons (eVar 0) (eCons (eVar 1) eNil))))))
def c_scaled : C := fnC [] g_scaled
/-- shifted_row -/
def g_shifted_row : G := (sSeq (sIf (eTst (eBin opEq (eCb bLen (eCons (eBin opIx (eVar 0) (eLit (.int (Int.ofNat 1)))) eNil)) (eLit (.int (Int.ofNat 0))))) (sRet (eLit k_NOTHING)) sSkip) (sRet (eTup (eCons (eBin opAdd (eBin opIx (eVar 0) (eLit (.int (Int.ofNat 0)))) (eVar 1)) (eCons (eBin opIx (eVar 0) (eLit (.int (Int.ofNat 1)))) eNil)))))
def c_shifted_row : C := fnC [] g_shifted_row
/-- shifted -/
def g_shifted : G := (sSeq (sExp (eCall c_check_row 1 (eCons (eVar 0) eNil))) (sSeq (sExp (eCall c_check_number 1 (eCons (eVar 1) eNil))) (sRet (eCall c_shifted_row 2 (eCons (eVar 0) (eCons (eVar 1) eNil))))))
def c_shifted : C := fnC [] g_shifted
/-- spread -/
def g_spread : G := (sSeq (sExp (eCall c_check_row 1 (eCons (eVar 0) eNil))) (sRet (eIf (eTru (eBin opIx (eVar 0) (eLit (.int (Int.ofNat 1))))) (eBin opSub (eCb bLen (eCons (eBin opIx (eVar 0) (eLit (.int (Int.ofNat 1)))) eNil)) (eLit (.int (Int.ofNat 1)))) (eLit .non))))
def c_spread : C := fnC [] g_spread
/-- in_wholes -/
def g_in_wholes : G := (sSeq (sAsg (eLit (.int (Int.ofNat 1))) (gSet 1)) (sSeq (sFor (itX (eVar 0)) (gSet 2) (sAsg (eCb bLcm (eCons (eVar 1) (eCons (eBin opIx (eVar 2) (eLit (.int (Int.ofNat 1)))) eNil))) (gSet 1))) (sRet (eTup (eCons (eVar 1) (eCons (eLc [3, 4] (itX (eVar 0)) (gTp 2 (gMore (gSet 3) (gMore (gSet 4) gNo))) eYes (eBin opMulX (eVar 3) (eBin opFdiv (eVar 1) (eVar 4)))) eNil))))))
def c_in_wholes : C := fnC [.und, .und, .und, .und] g_in_wholes
/-- product_singly -/
def g_product_singly : G := (sSeq (sAsg (eBin opMulX (eLst (eCons (eLit (.int (Int.ofNat 0))) eNil)) (eVar 2)) (gSet 3)) (sSeq (sFor (itX (eVar 0)) (gTp 2 (gMore (gSet 4) (gMore (gSet 5) gNo))) (sFor (itX (eVar 1)) (gTp 2 (gMore (gSet 6) (gMore (gSet 7) gNo))) (sAugX (eVar 3) (eBin opAdd (eVar 4) (eVar 6)) opAddI (eBin opMulX (eVar 5) (eVar 7))))) (sRet (eVar 3))))
def c_product_singly : C := fnC [.und, .und, .und, .und, .und] g_product_singly
/-- product_of -/
def g_product_of : G := (sSeq (sAsg (eLc [6, 7] (itE (eCons (eVar 0) eNil)) (gTp 2 (gMore (gSet 6) (gMore (gSet 7) gNo))) (eTst (eBin opNe (eVar 7) (eLit (.int (Int.ofNat 0))))) (eTup (eCons (eVar 6) (eCons (eVar 7) eNil)))) (gSet 2)) (sSeq (sAsg (eLc [6, 7] (itE (eCons (eVar 1) eNil)) (gTp 2 (gMore (gSet 6) (gMore (gSet 7) gNo))) (eTst (eBin opNe (eVar 7) (eLit (.int (Int.ofNat 0))))) (eTup (eCons (eVar 6) (eCons (eVar 7) eNil)))) (gSet 3)) (sSeq (sAsg (eBin opSub (eBin opAdd (eCb bLen (eCons (eVar 0) eNil)) (eCb bLen (eCons (eVar 1) eNil))) (eLit (.int (Int.ofNat 1)))) (gSet 4)) (sSeq (sIf (eTst (eBin opLe (eBin opMulX (eCb bLen (eCons (eVar 2) eNil)) (eCb bLen (eCons (eVar 3) eNil))) (eBin opMulX (eLit k_FEW) (eVar 4)))) (sRet (eCall c_product_singly 3 (eCons (eVar 2) (eCons (eVar 3) (eCons (eVar 4) eNil))))) sSkip) sNo))))
def c_product_of : C := fnC [.und, .und, .und, .und, .und, .und] g_product_of
/-- row_product -/
def g_row_product : G := (sSeq (sIf (eOr (eTst (eBin opEq (eCb bLen (eCons (eBin opIx (eVar 0) (eLit (.int (Int.ofNat 1)))) eNil)) (eLit (.int (Int.ofNat 0))))) (eTst (eBin opEq (eCb bLen (eCons (eBin opIx (eVar 1) (eLit (.int (Int.ofNat 1)))) eNil)) (eLit (.int (Int.ofNat 0)))))) (sRet (eLit k_NOTHING)) sSkip) (sSeq (sAsg (eCall c_in_wholes 1 (eCons (eBin opIx (eVar 0) (eLit (.int (Int.ofNat 1)))) eNil)) (gTp 2 (gMore (gSet 2) (gMore (gSet 3) gNo)))) (sSeq (sAsg (eCall c_in_wholes 1 (eCons (eBin opIx (eVar 1) (eLit (.int (Int.ofNat 1)))) eNil)) (gTp 2 (gMore (gSet 4) (gMore (gSet 5) gNo)))) (sSeq (sAsg (eLc [7] (itX (eCall c_product_of 2 (eCons (eVar 3) (eCons (eVar 5) eNil)))) (gSet 7) eYes (eCall c_reduced 2 (eCons (eVar 7) (eCons (eBin opMulX (eVar 2) (eVar 4)) eNil)))) (gSet 6)) (sRet (eTup (eCons (eBin opAdd (eBin opIx (eVar 0) (eLit (.int (Int.ofNat 0)))) (eBin opIx (eVar 1) (eLit (.int (Int.ofNat 0))))) (eCons (eCb bTuple (eCons (eVar 6) eNil)) eNil))))))))
def c_row_product : C := fnC [.und, .und, .und, .und, .und, .und] g_row_product
/-- times -/
def g_times : G := (sSeq (sExp (eCall c_check_row 1 (eCons (eVar 0) eNil))) (sSeq (sExp (eCall c_check_row 1 (eCons (eVar 1) eNil))) (sRet (eCall c_row_product 2 (eCons (eVar 0) (eCons (eVar 1) eNil))))))
def c_times : C := fnC [] g_times
/-- turned_row -/
def g_turned_row : G := (sSeq (sIf (eTst (eBin opEq (eCb bLen (eCons (eBin opIx (eVar 0) (eLit (.int (Int.ofNat 1)))) eNil)) (eLit (.int (Int.ofNat 0))))) (sRet (eLit k_NOTHING)) sSkip) (sRet (eTup (eCons (eBin opSub (eBin opSub (eLit (.int (Int.ofNat 1))) (eBin opIx (eVar 0) (eLit (.int (Int.ofNat 0))))) (eCb bLen (eCons (eBin opIx (eVar 0) (eLit (.int (Int.ofNat 1)))) eNil))) (eCons (eRevT (eBin opIx (eVar 0) (eLit (.int (Int.ofNat 1))))) eNil)))))
def c_turned_row : C := fnC [] g_turned_row
/-- turned -/
def g_turned : G := (sSeq (sExp (eCall c_check_row 1 (eCons (eVar 0) eNil))) (sRet (eCall c_turned_row 1 (eCons (eVar 0) eNil))))
def c_turned : C := fnC [] g_turned
/-- worth_at -/
def g_worth_at : G := (sSeq (sAsg (eBin opSub (eVar 1) (eBin opIx (eVar 0) (eLit (.int (Int.ofNat 0))))) (gSet 2)) (sRet (eIf (eTst (eChn opLe opLt (eLit (.int (Int.ofNat 0))) (eVar 2) (eCb bLen (eCons (eBin opIx (eVar 0) (eLit (.int (Int.ofNat 1)))) eNil)))) (eBin opIx (eBin opIx (eVar 0) (eLit (.int (Int.ofNat 1)))) (eVar 2)) (eTup (eCons (eLit (.int (Int.ofNat 0))) (eCons (eLit (.int (Int.ofNat 1))) eNil))))))
def c_worth_at : C := fnC [.und] g_worth_at
/-- worth -/
def g_worth : G := (sSeq (sExp (eCall c_check_row 1 (eCons (eVar 0) eNil))) (sSeq (sExp (eCall c_check_number 1 (eCons (eVar 1) eNil))) (sRet (eCall c_worth_at 2 (eCons (eVar 0) (eCons (eVar 1) eNil))))))
def c_worth : C := fnC [] g_worth
/-- _law_right -/
def g0__law_right : G := (sPar 1 2 (eCons (eBin opAdd (eLit (.int (Int.ofNat 1))) (eCall takeC 2 (eCons (eVar 0) (eCons (eLit (.int (Int.ofNat 9))) eNil)))) (eCons (eBin opSub (eCall takeC 2 (eCons (eVar 0) (eCons (eLit (.int (Int.ofNat 19))) eNil))) (eLit (.int (Int.ofNat 9)))) eNil)))
def g1__law_right : G := (sSeq (sPar 3 4 (eCons (eCall c__law_row 2 (eCons (eVar 2) (eCons (eTup (eCons (eVar 1) eNil)) eNil))) (eCons (eTup (eCons (eLit (.int (Int.ofNat 0))) (eCons (eTup eNil) eNil))) eNil))) (sSeq (sIf (eTst (eBin opNe (eCb bRepr (eCons (eTup (eCons (eCall c_plus 2 (eCons (eVar 3) (eCons (eCall c_scaled 2 (eCons (eVar 3) (eCons (eTup (eCons (eUn opNeg (eLit (.int (Int.ofNat 1)))) (eCons (eLit (.int (Int.ofNat 1))) eNil))) eNil))) eNil))) (eCons (eCall c_less 2 (eCons (eVar 3) (eCons (eVar 3) eNil))) (eCons (eCall c_times 2 (eCons (eVar 3) (eCons (eVar 4) eNil))) (eCons (eCall c_scaled 2 (eCons (eVar 3) (eCons (eTup (eCons (eLit (.int (Int.ofNat 0))) (eCons (eLit (.int (Int.ofNat 1))) eNil))) eNil))) eNil))))) eNil)) (eCb bRepr (eCons (eBin opMulX (eTup (eCons (eVar 4) eNil)) (eLit (.int (Int.ofNat 4)))) eNil)))) (sRet (eLit (.bl false))) sSkip) (sSeq (sIf (eTst (eBin opNe (eCb bRepr (eCons (eTup (eCons (eCall c_times 2 (eCons (eVar 3) (eCons (eVar 3) eNil))) (eCons (eCall c_turned 1 (eCons (eVar 3) eNil)) (eCons (eCall c_shifted 2 (eCons (eVar 3) (eCons (eUn opNeg (eVar 2)) eNil))) (eCons (eCall c_spread 1 (eCons (eVar 3) eNil)) (eCons (eCall c_spread 1 (eCons (eVar 4) eNil)) eNil)))))) eNil)) (eCb bRepr (eCons (eTup (eCons (eCall c__law_row 2 (eCons (eBin opMulX (eLit (.int (Int.ofNat 2))) (eVar 2)) (eCons (eTup (eCons (eBin opMulX (eVar 1) (eVar 1)) eNil)) eNil))) (eCons (eCall c__law_row 2 (eCons (eUn opNeg (eVar 2)) (eCons (eTup (eCons (eVar 1) eNil)) eNil))) (eCons (eCall c__law_row 2 (eCons (eLit (.int (Int.ofNat 0))) (eCons (eTup (eCons (eVar 1) eNil)) eNil))) (eCons (eLit (.int (Int.ofNat 0))) (eCons (eLit .non) eNil)))))) eNil)))) (sRet (eLit (.bl false))) sSkip) (sSeq (sPar 5 6 (eCons (eCall c__law_row 2 (eCons (eLit (.int (Int.ofNat 0))) (eCons (eBin opMulX (eTup (eCons (eLit (.int (Int.ofNat 1))) eNil)) (eVar 1)) eNil))) (eCons (eCall c__law_row 2 (eCons (eLit (.int (Int.ofNat 0))) (eCons (eTup (eCons (eLit (.int (Int.ofNat 1))) (eCons (eUn opNeg (eLit (.int (Int.ofNat 1)))) eNil))) eNil))) eNil))) (sSeq (sIf (eTst (eBin opNe (eCb bRepr (eCons (eCall c_times 2 (eCons (eVar 5) (eCons (eVar 6) eNil))) eNil)) (eCb bRepr (eCons (eCall c__law_row 2 (eCons (eLit (.int (Int.ofNat 0))) (eCons (eBin opAdd (eBin opAdd (eTup (eCons (eLit (.int (Int.ofNat 1))) eNil)) (eBin opMulX (eTup (eCons (eLit (.int (Int.ofNat 0))) eNil)) (eBin opSub (eVar 1) (eLit (.int (Int.ofNat 1)))))) (eTup (eCons (eUn opNeg (eLit (.int (Int.ofNat 1)))) eNil))) eNil))) eNil)))) (sRet (eLit (.bl false))) sSkip) (sSeq (sAsg (eCall c_times 2 (eCons (eVar 5) (eCons (eCall c_turned 1 (eCons (eVar 5) eNil)) eNil))) (gSet 7)) (sSeq (sIf (eOr (eTst (eBin opNe (eCb bRepr (eCons (eVar 7) eNil)) (eCb bRepr (eCons (eCall c__law_row 2 (eCons (eBin opSub (eLit (.int (Int.ofNat 1))) (eVar 1)) (eCons (eBin opAdd (eBin opAdd (eLrg (eLit (.int (Int.ofNat 1))) (eVar 1)) (eLst (eCons (eVar 1) eNil))) (eRevL (eLrg (eLit (.int (Int.ofNat 1))) (eVar 1)))) eNil))) eNil)))) (eTst (eBin opNe (eCb bRepr (eCons (eCall c_turned 1 (eCons (eVar 7) eNil)) eNil)) (eCb bRepr (eCons (eVar 7) eNil))))) (sRet (eLit (.bl false))) sSkip) (sSeq (sAsg (eCall c_plus 2 (eCons (eVar 3) (eCons (eCall c_shifted 2 (eCons (eVar 3) (eCons (eLit (.int (Int.ofNat 7))) eNil))) eNil))) (gSet 8)) (sSeq (sIf (eOr (eTst (eBin opNe (eCb bRepr (eCons (eVar 8) eNil)) (eCb bRepr (eCons (eCall c__law_row 2 (eCons (eVar 2) (eCons (eTup (eCons (eVar 1) (eCons (eLit (.int (Int.ofNat 0))) (eCons (eLit (.int (Int.ofNat 0))) (eCons (eLit (.int (Int.ofNat 0))) (eCons (eLit (.int (Int.ofNat 0))) (eCons (eLit (.int (Int.ofNat 0))) (eCons (eLit (.int (Int.ofNat 0))) (eCons (eVar 1) eNil))))))))) eNil))) eNil)))) (eTst (eBin opNe (eCb bRepr (eCons (eTup (eCons (eCall c_worth 2 (eCons (eVar 8) (eCons (eBin opAdd (eVar 2) (eLit (.int (Int.ofNat 3)))) eNil))) (eCons (eCall c_worth 2 (eCons (eVar 8) (eCons (eBin opAdd (eVar 2) (eLit (.int (Int.ofNat 7)))) eNil))) (eCons (eCall c_worth 2 (eCons (eVar 8) (eCons (eBin opSub (eVar 2) (eLit (.int (Int.ofNat 1)))) eNil))) eNil)))) eNil)) (eCb bRepr (eCons (eTup (eCons (eTup (eCons (eLit (.int (Int.ofNat 0))) (eCons (eLit (.int (Int.ofNat 1))) eNil))) (eCons (eTup (eCons (eVar 1) (eCons (eLit (.int (Int.ofNat 1))) eNil))) (eCons (eTup (eCons (eLit (.int (Int.ofNat 0))) (eCons (eLit (.int (Int.ofNat 1))) eNil))) eNil)))) eNil))))) (sRet (eLit (.bl false))) sSkip) (sSeq (sIf (eOr (eTst (eBin opNe (eCb bRepr (eCons (eCall c_less 2 (eCons (eVar 8) (eCons (eCall c_shifted 2 (eCons (eVar 3) (eCons (eLit (.int (Int.ofNat 7))) eNil))) eNil))) eNil)) (eCb bRepr (eCons (eVar 3) eNil)))) (eTst (eBin opNe (eCb bRepr (eCons (eCall c_less 2 (eCons (eVar 8) (eCons (eVar 3) eNil))) eNil)) (eCb bRepr (eCons (eCall c_shifted 2 (eCons (eVar 3) (eCons (eLit (.int (Int.ofNat 7))) eNil))) eNil))))) (sRet (eLit (.bl false))) sSkip) (sSeq (sAsg (eTup (eCons (eVar 2) (eCons (eTup (eCons (eTup (eCons (eLit (.int (Int.ofNat 1))) (eCons (eLit (.int (Int.ofNat 3))) eNil))) (eCons (eTup (eCons (eLit (.int (Int.ofNat 0))) (eCons (eLit (.int (Int.ofNat 1))) eNil))) (eCons (eTup (eCons (eUn opNeg (eLit (.int (Int.ofNat 1)))) (eCons (eLit (.int (Int.ofNat 6))) eNil))) eNil)))) eNil))) (gSet 9)) (sSeq (sIf (eOr (eTst (eBin opNe (eCall c_row_text 1 (eCons (eVar 9) eNil)) (eBin opAdd (eCb bStr (eCons (eCb bInt (eCons (eVar 2) eNil)) eNil)) (eLit (.str ": 1/3 0 -1/6"))))) (eTst (eBin opNe (eCb bRepr (eCons (eCall c_read_row 1 (eCons (eBin opAdd (eCb bStr (eCons (eCb bInt (eCons (eVar 2) eNil)) eNil)) (eLit (.str ": 1/3 0 -1/6"))) eNil)) eNil)) (eCb bRepr (eCons (eVar 9) eNil))))) (sRet (eLit (.bl false))) sSkip) (sSeq (sIf (eOr (eTst (eBin opNe (eCb bRepr (eCons (eCall c_scaled 2 (eCons (eVar 9) (eCons (eTup (eCons (eUn opNeg (eLit (.int (Int.ofNat 6)))) (eCons (eLit (.int (Int.ofNat 1))) eNil))) eNil))) eNil)) (eCb bRepr (eCons (eCall c__law_row 2 (eCons (eVar 2) (eCons (eTup (eCons (eUn opNeg (eLit (.int (Int.ofNat 2)))) (eCons (eLit (.int (Int.ofNat 0))) (eCons (eLit (.int (Int.ofNat 1))) eNil)))) eNil))) eNil)))) (eTst (eBin opNe (eCb bRepr (eCons (eCall c_plus 2 (eCons (eVar 9) (eCons (eVar 9) eNil))) eNil)) (eCb bRepr (eCons (eTup (eCons (eVar 2) (eCons (eTup (eCons (eTup (eCons (eLit (.int (Int.ofNat 2))) (eCons (eLit (.int (Int.ofNat 3))) eNil))) (eCons (eTup (eCons (eLit (.int (Int.ofNat 0))) (eCons (eLit (.int (Int.ofNat 1))) eNil))) (eCons (eTup (eCons (eUn opNeg (eLit (.int (Int.ofNat 1)))) (eCons (eLit (.int (Int.ofNat 3))) eNil))) eNil)))) eNil))) eNil))))) (sRet (eLit (.bl false))) sSkip) (sSeq (sAsg (eCall c_row_of 2 (eCons (eVar 2) (eCons (eBin opAdd (eBin opAdd (eTup (eCons (eTup (eCons (eVar 1) (eCons (eLit (.int (Int.ofNat 1))) eNil))) eNil)) (eBin opMulX (eTup (eCons (eTup (eCons (eLit (.int (Int.ofNat 0))) (eCons (eLit (.int (Int.ofNat 1))) eNil))) eNil)) (eLit (.int (Int.ofNat 198))))) (eTup (eCons (eTup (eCons (eLit (.int (Int.ofNat 1))) (eCons (eVar 1) eNil))) eNil))) eNil))) (gSet 10)) (sSeq (sIf (eOr (eTst (eBin opNe (eCb bRepr (eCons (eTup (eCons (eCall c_spread 1 (eCons (eVar 10) eNil)) (eCons (eCall c_worth 2 (eCons (eVar 10) (eCons (eBin opAdd (eVar 2) (eLit (.int (Int.ofNat 199)))) eNil))) eNil))) eNil)) (eCb bRepr (eCons (eTup (eCons (eLit (.int (Int.ofNat 199))) (eCons (eTup (eCons (eLit (.int (Int.ofNat 1))) (eCons (eVar 1) eNil))) eNil))) eNil)))) (eOr (eTst (eBin opNe (eCall c_row_text 1 (eCons (eVar 4) eNil)) (eLit (.str "-")))) (eTst (eBin opNe (eCb bRepr (eCons (eCall c_read_row 1 (eCons (eLit (.str "-")) eNil)) eNil)) (eCb bRepr (eCons (eVar 4) eNil)))))) (sRet (eLit (.bl false))) sSkip) (sRet (eAnd (eBin opEq (eCb bRepr (eCons (eCall c_row_of 2 (eCons (eVar 2) (eCons (eBin opMulX (eTup (eCons (eTup (eCons (eLit (.int (Int.ofNat 0))) (eCons (eLit (.int (Int.ofNat 1))) eNil))) eNil)) (eLit (.int (Int.ofNat 200)))) eNil))) eNil)) (eCb bRepr (eCons (eVar 4) eNil))) (eBin opEq (eCb bRepr (eCons (eCall c_row_of 2 (eCons (eVar 2) (eCons (eTup eNil) eNil))) eNil)) (eCb bRepr (eCons (eVar 4) eNil))))))))))))))))))))
def g__law_right : G := (sSeq g0__law_right g1__law_right)
def m__law_right : Sg := [.und, .und, .und, .und, .und, .und, .und, .und, .und, .und]
def c__law_right : C := fnC m__law_right g__law_right
def kTrue : Kt := fun d _ => swB d fun b => b
/-- what is left behind the two digits -/
def restB (n m : Nat) : Bool := g1__law_right (lset (lset (slots (.cons .pot .nil) m__law_right) 1 (.int (Int.ofNat (Nat.add 1 n)))) 2 (.int (iSub (Int.ofNat m) (Int.ofNat 9)))) ⟨0, 2, []⟩ (fun _ w => kTrue .non w) kTrue (fun _ _ => false) (fun _ _ => false)
end Ear
namespace Ear
open PySem PySem.Spec PyProof.Rows L2
def topS (i : Nat) : Stmt := PySem.Challenge.pw_earstogether_k03_rows_by_hand.main.body.getD i (.Pass ⟨0, 0, 0, 0⟩)
/-- a def of the text, the module's name for it -/
def DefAt (K : PySem.W.Frag) (mg : Str → Option Value) (x : Str) (st : Stmt) (ps : List Str) : Prop := ∃ f fd, Fun K x x st f fd ∧ mg x = some (.ref f) ∧ PySem.W.keepIn K (.ref f) = true ∧ Binds K fd ps []
/-- a constant of the module -/
def GK (K : PySem.W.Frag) (mg : Str → Option Value) (x : Str) (d : D) : Prop := ∃ u v, mg x = some u ∧ RelV v u ∧ ∀ r H, RD K r H d v
section
variable {P : Program} {W : World} {K : PySem.W.Frag} {mg : Str → Option Value} {base : Heap}
variable {r : Rh} {w : Wd} {H : Hp}
theorem gr_pot {o : HO} : Gr r H r (upd H r.pt o) where
  le := Nat.le_refl _
  f := fun _ _ => rfl
  pt := rfl
  new := fun j h1 h2 => absurd h2 (Nat.not_lt.mpr h1)
  keep := fun b o h _ h2 => by rw [upd_ne h2]; exact h
theorem RW.pour {x y z : Int} {t : Nat} (h : RW K r w H) (hx : 0 ≤ x) (hx2 : x < 10 ^ 300) (hy : 0 ≤ y) (hy2 : y < 2 ^ 61) (hz : 0 ≤ z) (hz2 : z ≤ t) : RW K r ⟨w.n, t, w.h⟩ (upd H r.pt (.lst [.int x, .int y, .int z])) := by
  refine ⟨h.n, h.inj, fun i hi => ?_, ⟨x, y, z, upd_same, hx, hx2, hy, hy2, hz, hz2⟩, h.apart⟩
  obtain ⟨ys, k, q⟩ := h.lst i hi
  exact ⟨ys, by rw [upd_ne (h.apart i hi)]; exact k, fun e he => (q e he).mono gr_pot h.sep⟩
theorem sc_take : FnScope ["pot", "upto", "digit", "prime", "blend"] ["pot", "upto"] (defScope (topS 62)) := ⟨rfl, rfl, rfl, by decide +kernel, rfl, by decide +kernel, by decide +kernel⟩
theorem fa_take (d : DefAt K mg "_law_take" (topS 62) ["pot", "upto"]) (mi : mg "int" = none) : Fa P W K mg base "_law_take" 2 takeC 1 := by
  have nd := sc_take.nd
  obtain ⟨f, fd, F, hm, hk, hb⟩ := d
  refine ⟨f, fd, ["pot", "upto"], fnG_of F sc_take (fun vs H Q E h => h.1) fun cdv A outer s H vs Q E hr h => ?_, hm, hk, hb⟩
  obtain ⟨_, r, w, d, k, rl, rw, hc, go⟩ := h
  obtain ⟨p, u, a, b, rfl, rp, ru, h1⟩ := a2_ hc rl
  obtain ⟨rfl, h2⟩ := swPot_ h1
  obtain ⟨u, rfl, h3⟩ := swI_ h2
  obtain ⟨u, rfl, h4⟩ := natI_ h3
  obtain ⟨h5, h6⟩ := et_ h4
  obtain ⟨h7, h8⟩ := et_ h6
  obtain ⟨h9, h10⟩ := et_ h8
  rw [blt_eq] at h5 h7 h9
  have u0 := of_decide_eq_true h5
  have u1 := of_decide_eq_true h7
  have t1 := of_decide_eq_true h9
  cases rp
  cases ru
  obtain ⟨x, y, z, hp, x0, x1, y0, y1, z0, z1⟩ := rw.pot
  have ps : PSs (cxOf CX0 P W K mg base ["pot", "upto", "digit", "prime", "blend"] "_law_take" (defScope (topS 62)) f cdv A outer s H E).nox (defBody (topS 62)) _ := (pss_cons (ps_if (pt_cmpR op_gt (pe_ix ix_list (pv 0) pe_int (fun _ _ => rfl)) pe_int (nomark _))
      (pss_cons (ps_set (i := 2) nd rfl (.inl rfl) (pe_op op_mod (pe_callTy call_int1 (by rfl) (by exact mi) (by rfl) (pa_cons (pe_ix ix_list (pv 0) pe_int (fun _ _ => rfl)) pa_nil)) (pv 1)))
      (pss_cons (ps_asg (pe_op op_fdiv (pe_ix ix_list (pv 0) pe_int (fun _ _ => rfl)) (pv 1)) (pg_sub (pv 0) pe_int set_list (fun _ => rfl)) rfl rfl rfl)
      (pss_one (ps_ret (pv 2))))) pss_nil)
    (pss_cons (ps_asg (pe_op op_add (pe_ix ix_list (pv 0) pe_int (fun _ _ => rfl)) pe_int) (pg_sub (pv 0) pe_int set_list (fun _ => rfl)) rfl rfl rfl)
    (pss_cons (ps_set (i := 3) nd rfl (.inl rfl) (pe_ix ix_list (pe_lst (pa_cons pe_int (pa_cons pe_int (pa_cons pe_int (pa_cons pe_int (pa_cons pe_int pa_nil)))))) (pe_op op_mod (pe_callTy call_int1 (by rfl) (by exact mi) (by rfl) (pa_cons (pe_ix ix_list (pv 0) pe_int (fun _ _ => rfl)) pa_nil)) pe_int) (fun _ _ => rfl)))
    (pss_cons (ps_set (i := 4) nd rfl (.inl rfl) (pe_op op_mod (pe_callTy call_int1 (by rfl) (by exact mi) (by rfl) (pa_cons (pe_op op_pow (pe_callTy call_int1 (by rfl) (by exact mi) (by rfl) (pa_cons (pe_op op_add (pe_op op_add (pe_ix ix_list (pv 0) pe_int (fun _ _ => rfl)) (pe_op op_mul (pe_op op_mul pe_int (pe_ix ix_list (pv 0) pe_int (fun _ _ => rfl))) (pe_ix ix_list (pv 0) pe_int (fun _ _ => rfl)))) pe_int) pa_nil)) pe_int) pa_nil)) (pv 3)))
    (pss_one (ps_ret (pe_op op_mod (pe_callTy call_int1 (by rfl) (by exact mi) (by rfl) (pa_cons (pe_op op_fdiv (pe_op op_mul (pv 4) (pe_op op_add (pe_op op_mod (pe_callTy call_int1 (by rfl) (by exact mi) (by rfl) (pa_cons (pv 4) pa_nil)) pe_int) (pe_op op_mul pe_int (pe_ix ix_list (pv 0) pe_int (fun _ _ => rfl))))) pe_int) pa_nil)) (pv 1))))))))
  refine ps.to ?_
  have all : ∀ i, i < u → k (.int (Int.ofNat i)) ⟨w.n, w.t + 1, w.h⟩ = true := fun i hi => allN_ h10 hi
  have fin : ∀ {x' y' z' : Int} {i : Int}, 0 ≤ x' → x' < 10 ^ 300 → 0 ≤ y' → y' < 2 ^ 61 → 0 ≤ z' → z' ≤ ((w.t + 1 : Nat) : Int) → 0 ≤ i → i < u → ∀ H', (H' = upd H r.pt (.lst [.int x', .int y', .int z']) ∨ ∃ p o, upd H r.pt (.lst [.int x', .int y', .int z']) p = none ∧ H' = upd (upd H r.pt (.lst [.int x', .int y', .int z'])) p o) → Q (.int i) H' := by
    intro x' y' z' i a1 a2 a3 a4 a5 a6 a7 a8 H' hH
    have rw1 := rw.pour (t := w.t + 1) a1 a2 a3 a4 a5 a6
    have g1 : Gr r H r (upd H r.pt (.lst [.int x', .int y', .int z'])) := gr_pot
    have e : i = Int.ofNat i.toNat := by show i = ((i.toNat : Nat) : Int); omega
    have q := all i.toNat (by omega)
    rw [← e] at q
    rcases hH with rfl | ⟨p, o, hp, rfl⟩
    · exact go r (.int i) (.int i) _ _ g1 rw1 (.int i) q
    · exact go r (.int i) (.int i) _ _ (g1.trans rw1.sep (gr_new hp)) (rw1.new hp) (.int i) q
  refine ⟨.ref r.pt, rfl, r.pt, [.int x, .int y, .int z], 0, .int x, rfl, rfl, SqL.of hp, rfl, x, 0, rfl, rfl, decide (0 < x), rfl, ?_⟩
  by_cases hx : 0 < x
  · dsimp only
    rw [if_pos (decide_eq_true hx)]
    refine ⟨.ref r.pt, rfl, r.pt, [.int x, .int y, .int z], 0, .int x, rfl, rfl, SqL.of hp, rfl, .inl ⟨x, rfl, ?_⟩⟩
    refine ⟨.int u, rfl, x, u, rfl, rfl, by omega, ?_⟩
    refine ⟨.ref r.pt, rfl, r.pt, [.int x, .int y, .int z], 0, .int x, rfl, rfl, SqL.of hp, rfl, .int u, rfl, x, u, rfl, rfl, ⟨by omega, by omega⟩, ?_⟩
    refine ⟨.ref r.pt, rfl, r.pt, [.int x, .int y, .int z], 0, 0, rfl, rfl, hp, rfl, .int (x % u), rfl, ?_⟩
    have d0 : 0 ≤ x / (u : Int) := Int.ediv_nonneg x0 (by omega)
    have d1 : x / (u : Int) ≤ x := Int.ediv_le_self _ x0
    exact fin d0 (by omega) y0 y1 z0 (by omega) (Int.emod_nonneg _ (by omega)) (Int.emod_lt_of_pos _ (by omega)) _ (.inl rfl)
  · dsimp only
    rw [if_neg (by rw [decide_eq_false hx]; exact Bool.false_ne_true)]
    refine ⟨.ref r.pt, rfl, r.pt, [.int x, .int y, .int z], 2, .int z, rfl, rfl, SqL.of hp, rfl, z, 1, rfl, rfl, ?_⟩
    refine ⟨.ref r.pt, rfl, r.pt, [.int x, .int y, .int z], 2, 2, rfl, rfl, hp, rfl, ?_⟩
    refine ⟨by decide, fun p hp2 => ?_⟩
    have e1 : upd (upd H r.pt (.lst [.int x, .int y, .int (z + 1)])) p (.lst [.int 2147483647, .int 2147483629, .int 2147483587, .int 2147483579, .int 2147483563]) r.pt = some (.lst [.int x, .int y, .int (z + 1)]) := by
      rw [upd_ne (ne_of_none upd_same hp2)]
      exact upd_same
    have e2 : upd (upd H r.pt (.lst [.int x, .int y, .int (z + 1)])) p (.lst [.int 2147483647, .int 2147483629, .int 2147483587, .int 2147483579, .int 2147483563]) p = some (.lst [.int 2147483647, .int 2147483629, .int 2147483587, .int 2147483579, .int 2147483563]) := upd_same
    refine ⟨.ref r.pt, rfl, r.pt, [.int x, .int y, .int (z + 1)], 2, .int (z + 1), rfl, rfl, SqL.of e1, rfl, .inl ⟨z + 1, rfl, z + 1, 5, rfl, rfl, (by show (0 : Int) < 5; decide), ?_⟩⟩
    have pr : ∃ c : Int, atI [V.int 2147483647, .int 2147483629, .int 2147483587, .int 2147483579, .int 2147483563] ((z + 1) % 5) = some (.int c) ∧ 0 < c ∧ c < 2147483648 := by
      have a1 : 0 ≤ (z + 1) % 5 := Int.emod_nonneg _ (by decide)
      have a2 : (z + 1) % 5 < 5 := Int.emod_lt_of_pos _ (by decide)
      generalize (z + 1) % 5 = j at a1 a2
      have : j = 0 ∨ j = 1 ∨ j = 2 ∨ j = 3 ∨ j = 4 := by omega
      rcases this with rfl | rfl | rfl | rfl | rfl
      · exact ⟨2147483647, rfl, by decide, by decide⟩
      · exact ⟨2147483629, rfl, by decide, by decide⟩
      · exact ⟨2147483587, rfl, by decide, by decide⟩
      · exact ⟨2147483579, rfl, by decide, by decide⟩
      · exact ⟨2147483563, rfl, by decide, by decide⟩
    obtain ⟨c, c1, c2, c3⟩ := pr
    refine ⟨p, _, (z + 1) % 5, .int c, rfl, rfl, SqL.of e2, c1, ?_⟩
    -- blend
    have m1 : 0 ≤ 100799 * (z + 1) := by omega
    have m2 : 100799 * (z + 1) ≤ 100799 * 1001 := by omega
    have m3 : 0 ≤ 100799 * (z + 1) * (z + 1) := Int.mul_nonneg m1 (by omega)
    have m4 : 100799 * (z + 1) * (z + 1) ≤ 100799 * 1001 * 1001 := Int.mul_le_mul m2 (by omega) (by omega) (by decide)
    refine ⟨.ref r.pt, rfl, r.pt, [.int x, .int y, .int (z + 1)], 1, .int y, rfl, rfl, SqL.of e1, rfl, ?_⟩
    refine ⟨.ref r.pt, rfl, r.pt, [.int x, .int y, .int (z + 1)], 2, .int (z + 1), rfl, rfl, SqL.of e1, rfl, 100799, z + 1, rfl, rfl, .inl (by decide), ?_⟩
    refine ⟨.ref r.pt, rfl, r.pt, [.int x, .int y, .int (z + 1)], 2, .int (z + 1), rfl, rfl, SqL.of e1, rfl, 100799 * (z + 1), z + 1, rfl, rfl, .inl ⟨by omega, by omega⟩, ?_⟩
    refine ⟨y, 100799 * (z + 1) * (z + 1), rfl, rfl, _, 2129, rfl, rfl, .inl ⟨_, rfl, ?_⟩⟩
    refine ⟨_, 3, rfl, rfl, ⟨by decide, by decide, by omega⟩, .inl ⟨_, rfl, ?_⟩⟩
    refine ⟨.int c, rfl, _, c, rfl, rfl, c2, ?_⟩
    have b1 : 0 ≤ ((y + 100799 * (z + 1) * (z + 1) + 2129) ^ (3 : Int).toNat % c) := Int.emod_nonneg _ (by omega)
    have b2 : ((y + 100799 * (z + 1) * (z + 1) + 2129) ^ (3 : Int).toNat % c) < c := Int.emod_lt_of_pos _ c2
    refine ⟨.int ((y + 100799 * (z + 1) * (z + 1) + 2129) ^ (3 : Int).toNat % c), rfl, .int ((y + 100799 * (z + 1) * (z + 1) + 2129) ^ (3 : Int).toNat % c), rfl, .inl ⟨((y + 100799 * (z + 1) * (z + 1) + 2129) ^ (3 : Int).toNat % c), rfl, ((y + 100799 * (z + 1) * (z + 1) + 2129) ^ (3 : Int).toNat % c), 10559, rfl, rfl, (by show (0 : Int) < 10559; decide), ?_⟩⟩
    have n1 : 0 ≤ ((y + 100799 * (z + 1) * (z + 1) + 2129) ^ (3 : Int).toNat % c) % 10559 := Int.emod_nonneg _ (by decide)
    have n2 : ((y + 100799 * (z + 1) * (z + 1) + 2129) ^ (3 : Int).toNat % c) % 10559 < 10559 := Int.emod_lt_of_pos _ (by decide)
    refine ⟨.ref r.pt, rfl, r.pt, [.int x, .int y, .int (z + 1)], 2, .int (z + 1), rfl, rfl, SqL.of e1, rfl, 269, z + 1, rfl, rfl, .inl (by decide), ?_⟩
    refine ⟨((y + 100799 * (z + 1) * (z + 1) + 2129) ^ (3 : Int).toNat % c) % 10559, 269 * (z + 1), rfl, rfl, ((y + 100799 * (z + 1) * (z + 1) + 2129) ^ (3 : Int).toNat % c), _, rfl, rfl, .inl ⟨by omega, by omega⟩, ?_⟩
    refine ⟨_, 151, rfl, rfl, ⟨by decide, by decide⟩, .inl ⟨_, rfl, .int u, rfl, _, u, rfl, rfl, by omega, ?_⟩⟩
    exact fin x0 x1 y0 y1 (by omega) (by omega) (Int.emod_nonneg _ (by omega)) (Int.emod_lt_of_pos _ (by omega)) _ (.inr ⟨p, _, hp2, rfl⟩)
end
end Ear
namespace Ear
open PySem PySem.Spec PyProof.Rows L2
structure Hd (K : PySem.W.Frag) (mg : Str → Option Value) : Prop where
  d__law_row : DefAt K mg "_law_row" (topS 63) ["first", "worths"]
  d_is_integer : DefAt K mg "is_integer" (topS 9) ["value"]
  d_is_fraction : DefAt K mg "is_fraction" (topS 10) ["value"]
  d_are_fractions : DefAt K mg "are_fractions" (topS 11) ["value"]
  d_is_row : DefAt K mg "is_row" (topS 12) ["value"]
  d_check_row : DefAt K mg "check_row" (topS 13) ["value"]
  d_contrary : DefAt K mg "contrary" (topS 39) ["row"]
  d_reduced : DefAt K mg "reduced" (topS 32) ["top", "bottom"]
  d_fraction_sum : DefAt K mg "fraction_sum" (topS 36) ["one", "other"]
  d_trimmed : DefAt K mg "trimmed" (topS 33) ["first", "worths"]
  d_row_sum : DefAt K mg "row_sum" (topS 38) ["one", "other"]
  d_less : DefAt K mg "less" (topS 50) ["one", "other"]
  d_plus : DefAt K mg "plus" (topS 49) ["one", "other"]
  d_is_number_text : DefAt K mg "is_number_text" (topS 19) ["text"]
  d_read_figures : DefAt K mg "read_figures" (topS 21) ["figures"]
  d_read_number : DefAt K mg "read_number" (topS 20) ["text"]
  d_read_fraction : DefAt K mg "read_fraction" (topS 23) ["text"]
  d_row_in : DefAt K mg "row_in" (topS 59) ["text"]
  d_read_row : DefAt K mg "read_row" (topS 58) ["text"]
  d_check_number : DefAt K mg "check_number" (topS 48) ["value"]
  d_row_of : DefAt K mg "row_of" (topS 47) ["first", "worths"]
  d_figures_of : DefAt K mg "figures_of" (topS 18) ["number"]
  d_number_text : DefAt K mg "number_text" (topS 17) ["number"]
  d_fraction_text : DefAt K mg "fraction_text" (topS 22) ["fraction"]
  d_row_text : DefAt K mg "row_text" (topS 57) ["row"]
  d_fraction_product : DefAt K mg "fraction_product" (topS 37) ["one", "other"]
  d_scaled_row : DefAt K mg "scaled_row" (topS 41) ["row", "by"]
  d_scaled : DefAt K mg "scaled" (topS 52) ["row", "by"]
  d_shifted_row : DefAt K mg "shifted_row" (topS 42) ["row", "by"]
  d_shifted : DefAt K mg "shifted" (topS 53) ["row", "by"]
  d_spread : DefAt K mg "spread" (topS 56) ["row"]
  d_in_wholes : DefAt K mg "in_wholes" (topS 34) ["worths"]
  d_product_singly : DefAt K mg "product_singly" (topS 30) ["ones", "others", "many"]
  d_product_of : DefAt K mg "product_of" (topS 29) ["one", "other"]
  d_row_product : DefAt K mg "row_product" (topS 40) ["one", "other"]
  d_times : DefAt K mg "times" (topS 51) ["one", "other"]
  d_turned_row : DefAt K mg "turned_row" (topS 43) ["row"]
  d_turned : DefAt K mg "turned" (topS 54) ["row"]
  d_worth_at : DefAt K mg "worth_at" (topS 44) ["row", "moment"]
  d_worth : DefAt K mg "worth" (topS 55) ["row", "moment"]
  d__law_right : DefAt K mg "_law_right" (topS 64) ["pot"]
  d__law_take : DefAt K mg "_law_take" (topS 62) ["pot", "upto"]
  f_all : mg "all" = none
  f_enumerate : mg "enumerate" = none
  f_int : mg "int" = none
  f_len : mg "len" = none
  f_list : mg "list" = none
  f_max : mg "max" = none
  f_min : mg "min" = none
  f_range : mg "range" = none
  f_repr : mg "repr" = none
  f_str : mg "str" = none
  f_tuple : mg "tuple" = none
  f_type : mg "type" = none
  i_gcd : mg "gcd" = some (.builtin "math.gcd")
  i_lcm : mg "lcm" = some (.builtin "math.lcm")
  c_FEW : GK K mg "FEW" k_FEW
  c_FIGURES : GK K mg "FIGURES" k_FIGURES
  c_MOST_WORTHS : GK K mg "MOST_WORTHS" k_MOST_WORTHS
  c_NOTHING : GK K mg "NOTHING" k_NOTHING
  c_PIECE : GK K mg "PIECE" k_PIECE
section
variable {P : Program} {W : World} {K : PySem.W.Frag} {mg : Str → Option Value} {base : Heap}
theorem fa__law_take (h : Hd K mg) : Fa P W K mg base "_law_take" 2 takeC 1 := fa_take h.d__law_take h.f_int
theorem sc__law_row : FnScope ["first", "worths", "number"] ["first", "worths"] (defScope (topS 63)) := ⟨rfl, rfl, rfl, by decide +kernel, rfl, by decide +kernel, by decide +kernel⟩
theorem fa__law_row (h : Hd K mg) : Fa P W K mg base "_law_row" 2 c__law_row 1 := by
  have nd := sc__law_row.nd
  obtain ⟨f, fd, F, hm, hk, hb⟩ := h.d__law_row
  exact ⟨f, fd, ["first", "worths"], ok_fn F sc__law_row rfl rfl (by first | simp | (unfold m__law_row; simp)) fun cdv A outer s H E hr => (ok_last (ok_ret (ok_tup (ok_cons (ok_var 0) (ok_cons (ok_ct okTuple (ok_cons (ok_lc [("number", 2)] rfl nd (ok_itX (ok_var 1)) (blkOk_by (N := ["first", "worths", "number"]) (sc := defScope (topS 63)) (by decide +kernel)) (fun _ _ _ _ _ => (ok_wname 2 nd)) (fun _ _ _ _ _ => ok_yes) (fun _ _ _ _ _ => (ok_tup (ok_cons (ok_var 2) (ok_cons ok_int ok_nil))))) ok_nil) (h.f_tuple)) ok_nil))))), hm, hk, hb⟩
theorem sc_is_integer : FnScope ["value"] ["value"] (defScope (topS 9)) := ⟨rfl, rfl, rfl, by decide +kernel, rfl, by decide +kernel, by decide +kernel⟩
theorem fa_is_integer (h : Hd K mg) : Fa P W K mg base "is_integer" 1 c_is_integer 1 := by
  have nd := sc_is_integer.nd
  obtain ⟨f, fd, F, hm, hk, hb⟩ := h.d_is_integer
  exact ⟨f, fd, ["value"], ok_fn F sc_is_integer rfl rfl (by first | simp | (unfold m_is_integer; simp)) fun cdv A outer s H E hr => (ok_last (ok_ret (ok_cmp okIs (ok_ct okType (ok_cons (ok_var 0) ok_nil) (h.f_type)) (ok_ty (h.f_int) rfl)))), hm, hk, hb⟩
theorem sc_is_fraction : FnScope ["value", "top", "bottom"] ["value"] (defScope (topS 10)) := ⟨rfl, rfl, rfl, by decide +kernel, rfl, by decide +kernel, by decide +kernel⟩
theorem fa_is_fraction (h : Hd K mg) : Fa P W K mg base "is_fraction" 1 c_is_fraction 2 := by
  have nd := sc_is_fraction.nd
  have k_is_integer := fa_is_integer (P := P) (W := W) (base := base) h
  obtain ⟨f, fd, F, hm, hk, hb⟩ := h.d_is_fraction
  exact ⟨f, fd, ["value"], ok_fn F sc_is_fraction rfl rfl (by first | simp | (unfold m_is_fraction; simp)) fun cdv A outer s H E hr => (ok_seq (ok_sif (ok_w (ok_wor (ok_tcmp okIsNot (ok_ct okType (ok_cons (ok_var 0) ok_nil) (h.f_type)) (ok_ty (h.f_tuple) rfl)) (ok_wor1 (ok_tcmp okNe (ok_cb okLen (ok_cons (ok_var 0) ok_nil) (h.f_len)) ok_int)))) (ok_last (ok_ret ok_bl)) ok_skip) (ok_seq (ok_asg (ok_var 0) (ok_gtup rfl (ok_gmore (ok_gname 1 nd) (ok_gmore (ok_gname 2 nd) ok_gno)))) (ok_last (ok_ret (ok_and (ok_call k_is_integer hr (by decide) (ok_cons (ok_var 1) ok_nil)) (ok_and (ok_call k_is_integer hr (by decide) (ok_cons (ok_var 2) ok_nil)) (ok_and (ok_cmp okGt (ok_var 2) ok_int) (ok_one (ok_cmp okEq (ok_cf okGcd (ok_cons (ok_var 1) (ok_cons (ok_var 2) ok_nil)) h.i_gcd) ok_int))))))))), hm, hk, hb⟩
theorem sc_are_fractions : FnScope ["value", "part"] ["value"] (defScope (topS 11)) := ⟨rfl, rfl, rfl, by decide +kernel, rfl, by decide +kernel, by decide +kernel⟩
theorem fa_are_fractions (h : Hd K mg) : Fa P W K mg base "are_fractions" 1 c_are_fractions 3 := by
  have nd := sc_are_fractions.nd
  have k_is_fraction := fa_is_fraction (P := P) (W := W) (base := base) h
  obtain ⟨f, fd, F, hm, hk, hb⟩ := h.d_are_fractions
  exact ⟨f, fd, ["value"], ok_fn F sc_are_fractions rfl rfl (by first | simp | (unfold m_are_fractions; simp)) fun cdv A outer s H E hr => (ok_last (ok_ret (ok_and (ok_cmp okIs (ok_ct okType (ok_cons (ok_var 0) ok_nil) (h.f_type)) (ok_ty (h.f_tuple) rfl)) (ok_one (ok_cb (okAll rfl) (ok_cons (ok_lc [("part", 1)] rfl nd (ok_itX (ok_var 0)) (blkOk_by (N := ["value", "part"]) (sc := defScope (topS 11)) (by decide +kernel)) (fun _ _ _ _ _ => (ok_wname 1 nd)) (fun _ _ _ _ _ => ok_yes) (fun _ _ _ _ _ => (ok_call k_is_fraction hr (by decide) (ok_cons (ok_var 1) ok_nil)))) ok_nil) (h.f_all)))))), hm, hk, hb⟩
theorem sc_is_row : FnScope ["value", "first", "worths"] ["value"] (defScope (topS 12)) := ⟨rfl, rfl, rfl, by decide +kernel, rfl, by decide +kernel, by decide +kernel⟩
theorem fa_is_row (h : Hd K mg) : Fa P W K mg base "is_row" 1 c_is_row 4 := by
  have nd := sc_is_row.nd
  have k_are_fractions := fa_are_fractions (P := P) (W := W) (base := base) h
  have k_is_integer := fa_is_integer (P := P) (W := W) (base := base) h
  obtain ⟨f, fd, F, hm, hk, hb⟩ := h.d_is_row
  exact ⟨f, fd, ["value"], ok_fn F sc_is_row rfl rfl (by first | simp | (unfold m_is_row; simp)) fun cdv A outer s H E hr => (ok_seq (ok_sif (ok_w (ok_wor (ok_tcmp okIsNot (ok_ct okType (ok_cons (ok_var 0) ok_nil) (h.f_type)) (ok_ty (h.f_tuple) rfl)) (ok_wor1 (ok_tcmp okNe (ok_cb okLen (ok_cons (ok_var 0) ok_nil) (h.f_len)) ok_int)))) (ok_last (ok_ret ok_bl)) ok_skip) (ok_seq (ok_asg (ok_var 0) (ok_gtup rfl (ok_gmore (ok_gname 1 nd) (ok_gmore (ok_gname 2 nd) ok_gno)))) (ok_seq (ok_sif (ok_w (ok_wor (ok_tnot (ok_tru (ok_call k_is_integer hr (by decide) (ok_cons (ok_var 1) ok_nil)))) (ok_wor1 (ok_tnot (ok_tru (ok_call k_are_fractions hr (by decide) (ok_cons (ok_var 2) ok_nil))))))) (ok_last (ok_ret ok_bl)) ok_skip) (ok_seq (ok_sif (ok_tcmp okEq (ok_cb okLen (ok_cons (ok_var 2) ok_nil) (h.f_len)) ok_int) (ok_last (ok_ret (ok_cmp okEq (ok_var 1) ok_int))) ok_skip) (ok_last (ok_ret (ok_and (ok_cmp okNe (ok_ix (ok_ix (ok_var 2) ok_int) ok_int) ok_int) (ok_one (ok_cmp okNe (ok_ix (ok_ix (ok_var 2) (ok_un okNeg ok_int)) ok_int) ok_int))))))))), hm, hk, hb⟩
theorem sc_check_row : FnScope ["value"] ["value"] (defScope (topS 13)) := ⟨rfl, rfl, rfl, by decide +kernel, rfl, by decide +kernel, by decide +kernel⟩
theorem fa_check_row (h : Hd K mg) : Fa P W K mg base "check_row" 1 c_check_row 5 := by
  have nd := sc_check_row.nd
  have k_is_row := fa_is_row (P := P) (W := W) (base := base) h
  obtain ⟨f, fd, F, hm, hk, hb⟩ := h.d_check_row
  exact ⟨f, fd, ["value"], ok_fn F sc_check_row rfl rfl (by first | simp | (unfold m_check_row; simp)) fun cdv A outer s H E hr => (ok_last (ok_sif (ok_tnot (ok_tru (ok_call k_is_row hr (by decide) (ok_cons (ok_var 0) ok_nil)))) ok_ssno ok_skip)), hm, hk, hb⟩
theorem sc_contrary : FnScope ["row", "top", "bottom"] ["row"] (defScope (topS 39)) := ⟨rfl, rfl, rfl, by decide +kernel, rfl, by decide +kernel, by decide +kernel⟩
theorem fa_contrary (h : Hd K mg) : Fa P W K mg base "contrary" 1 c_contrary 1 := by
  have nd := sc_contrary.nd
  obtain ⟨f, fd, F, hm, hk, hb⟩ := h.d_contrary
  exact ⟨f, fd, ["row"], ok_fn F sc_contrary rfl rfl (by first | simp | (unfold m_contrary; simp)) fun cdv A outer s H E hr => (ok_last (ok_ret (ok_tup (ok_cons (ok_ix (ok_var 0) ok_int) (ok_cons (ok_ct okTuple (ok_cons (ok_lc [("top", 1), ("bottom", 2)] rfl nd (ok_itX (ok_ix (ok_var 0) ok_int)) (blkOk_by (N := ["row", "top", "bottom"]) (sc := defScope (topS 39)) (by decide +kernel)) (fun _ _ _ _ _ => (ok_wtup rfl (ok_wmore (ok_wname 1 nd) (ok_wmore (ok_wname 2 nd) ok_wno)))) (fun _ _ _ _ _ => ok_yes) (fun _ _ _ _ _ => (ok_tup (ok_cons (ok_un okNeg (ok_var 1)) (ok_cons (ok_var 2) ok_nil))))) ok_nil) (h.f_tuple)) ok_nil))))), hm, hk, hb⟩
theorem sc_reduced : FnScope ["top", "bottom", "shared"] ["top", "bottom"] (defScope (topS 32)) := ⟨rfl, rfl, rfl, by decide +kernel, rfl, by decide +kernel, by decide +kernel⟩
theorem fa_reduced (h : Hd K mg) : Fa P W K mg base "reduced" 2 c_reduced 1 := by
  have nd := sc_reduced.nd
  obtain ⟨f, fd, F, hm, hk, hb⟩ := h.d_reduced
  exact ⟨f, fd, ["top", "bottom"], ok_fn F sc_reduced rfl rfl (by first | simp | (unfold m_reduced; simp)) fun cdv A outer s H E hr => (ok_seq (ok_sif (ok_tcmp okEq (ok_var 1) ok_int) (ok_last (ok_ret (ok_tup (ok_cons (ok_var 0) (ok_cons ok_int ok_nil))))) ok_skip) (ok_seq (ok_set 2 nd (ok_cf okGcd (ok_cons (ok_var 0) (ok_cons (ok_var 1) ok_nil)) h.i_gcd)) (ok_seq (ok_sif (ok_tcmp okLt (ok_var 1) ok_int) (ok_last (ok_set 2 nd (ok_un okNeg (ok_var 2)))) ok_skip) (ok_last (ok_ret (ok_tup (ok_cons (ok_bin okFdiv (ok_var 0) (ok_var 2)) (ok_cons (ok_bin okFdiv (ok_var 1) (ok_var 2)) ok_nil)))))))), hm, hk, hb⟩
theorem sc_fraction_sum : FnScope ["one", "other"] ["one", "other"] (defScope (topS 36)) := ⟨rfl, rfl, rfl, by decide +kernel, rfl, by decide +kernel, by decide +kernel⟩
theorem fa_fraction_sum (h : Hd K mg) : Fa P W K mg base "fraction_sum" 2 c_fraction_sum 2 := by
  have nd := sc_fraction_sum.nd
  have k_reduced := fa_reduced (P := P) (W := W) (base := base) h
  obtain ⟨f, fd, F, hm, hk, hb⟩ := h.d_fraction_sum
  exact ⟨f, fd, ["one", "other"], ok_fn F sc_fraction_sum rfl rfl (by first | simp | (unfold m_fraction_sum; simp)) fun cdv A outer s H E hr => (ok_seq (ok_sif (ok_w (ok_wand (ok_tcmp okEq (ok_ix (ok_var 0) ok_int) ok_int) (ok_wand1 (ok_tcmp okEq (ok_ix (ok_var 1) ok_int) ok_int)))) (ok_last (ok_ret (ok_tup (ok_cons (ok_bin okAdd (ok_ix (ok_var 0) ok_int) (ok_ix (ok_var 1) ok_int)) (ok_cons ok_int ok_nil))))) ok_skip) (ok_last (ok_ret (ok_call k_reduced hr (by decide) (ok_cons (ok_bin okAdd (ok_bin okMulX (ok_ix (ok_var 0) ok_int) (ok_ix (ok_var 1) ok_int)) (ok_bin okMulX (ok_ix (ok_var 1) ok_int) (ok_ix (ok_var 0) ok_int))) (ok_cons (ok_bin okMulX (ok_ix (ok_var 0) ok_int) (ok_ix (ok_var 1) ok_int)) ok_nil)))))), hm, hk, hb⟩
theorem sc_trimmed : FnScope ["first", "worths", "low", "high"] ["first", "worths"] (defScope (topS 33)) := ⟨rfl, rfl, rfl, by decide +kernel, rfl, by decide +kernel, by decide +kernel⟩
theorem fa_trimmed (h : Hd K mg) : Fa P W K mg base "trimmed" 2 c_trimmed 1 := by
  have nd := sc_trimmed.nd
  obtain ⟨f, fd, F, hm, hk, hb⟩ := h.d_trimmed
  exact ⟨f, fd, ["first", "worths"], ok_fn F sc_trimmed rfl rfl (by first | simp | (unfold m_trimmed; simp)) fun cdv A outer s H E hr => (ok_seq (ok_par 2 3 rfl nd (ok_cons ok_int (ok_cons (ok_cb okLen (ok_cons (ok_var 1) ok_nil) (h.f_len)) ok_nil))) (ok_seq (ok_whl PassesOwn.never (ok_w (ok_wand (ok_tcmp okLt (ok_var 2) (ok_var 3)) (ok_wand1 (ok_tcmp okEq (ok_ix (ok_ix (ok_var 1) (ok_var 2)) ok_int) ok_int)))) (ok_last (ok_aug 2 nd okAddI ok_int))) (ok_seq (ok_whl PassesOwn.never (ok_w (ok_wand (ok_tcmp okGt (ok_var 3) (ok_var 2)) (ok_wand1 (ok_tcmp okEq (ok_ix (ok_ix (ok_var 1) (ok_bin okSub (ok_var 3) ok_int)) ok_int) ok_int)))) (ok_last (ok_aug 3 nd okSubI ok_int))) (ok_seq (ok_sif (ok_tcmp okEq (ok_var 2) (ok_var 3)) (ok_last (ok_ret (ok_glob h.c_NOTHING))) ok_skip) (ok_last (ok_ret (ok_tup (ok_cons (ok_bin okAdd (ok_var 0) (ok_var 2)) (ok_cons (ok_ct okTuple (ok_cons (ok_sl (ok_var 1) (ok_pat (ok_var 2)) (ok_pat (ok_var 3))) ok_nil) (h.f_tuple)) ok_nil))))))))), hm, hk, hb⟩
theorem sc_row_sum : FnScope ["one", "other", "first", "end", "worths", "start", "at", "worth"] ["one", "other"] (defScope (topS 38)) := ⟨rfl, rfl, rfl, by decide +kernel, rfl, by decide +kernel, by decide +kernel⟩
theorem fa_row_sum (h : Hd K mg) : Fa P W K mg base "row_sum" 2 c_row_sum 3 := by
  have nd := sc_row_sum.nd
  have k_fraction_sum := fa_fraction_sum (P := P) (W := W) (base := base) h
  have k_trimmed := fa_trimmed (P := P) (W := W) (base := base) h
  obtain ⟨f, fd, F, hm, hk, hb⟩ := h.d_row_sum
  exact ⟨f, fd, ["one", "other"], ok_fn F sc_row_sum rfl rfl (by first | simp | (unfold m_row_sum; simp)) fun cdv A outer s H E hr => (ok_seq (ok_sif (ok_tcmp okEq (ok_cb okLen (ok_cons (ok_ix (ok_var 0) ok_int) ok_nil) (h.f_len)) ok_int) (ok_last (ok_ret (ok_var 1))) ok_skip) (ok_seq (ok_sif (ok_tcmp okEq (ok_cb okLen (ok_cons (ok_ix (ok_var 1) ok_int) ok_nil) (h.f_len)) ok_int) (ok_last (ok_ret (ok_var 0))) ok_skip) (ok_seq (ok_set 2 nd (ok_cb (okMin2 rfl) (ok_cons (ok_ix (ok_var 0) ok_int) (ok_cons (ok_ix (ok_var 1) ok_int) ok_nil)) (h.f_min))) (ok_seq (ok_set 3 nd (ok_cb (okMax2 rfl) (ok_cons (ok_bin okAdd (ok_ix (ok_var 0) ok_int) (ok_cb okLen (ok_cons (ok_ix (ok_var 0) ok_int) ok_nil) (h.f_len))) (ok_cons (ok_bin okAdd (ok_ix (ok_var 1) ok_int) (ok_cb okLen (ok_cons (ok_ix (ok_var 1) ok_int) ok_nil) (h.f_len))) ok_nil)) (h.f_max))) (ok_seq (ok_set 4 nd (ok_bin okMulX (ok_lst (ok_cons (ok_tup (ok_cons ok_int (ok_cons ok_int ok_nil))) ok_nil)) (ok_bin okSub (ok_var 3) (ok_var 2)))) (ok_seq (ok_set 5 nd (ok_bin okSub (ok_ix (ok_var 0) ok_int) (ok_var 2))) (ok_seq (ok_asg (ok_ix (ok_var 0) ok_int) (ok_gcut (ok_var 4) (ok_pat (ok_var 5)) (ok_pat (ok_bin okAdd (ok_var 5) (ok_cb okLen (ok_cons (ok_ix (ok_var 0) ok_int) ok_nil) (h.f_len)))))) (ok_seq (ok_for PassesOwn.never rfl (ok_itE2 (ok_cons (ok_ix (ok_var 1) ok_int) (ok_cons (ok_bin okSub (ok_ix (ok_var 1) ok_int) (ok_var 2)) ok_nil)) (h.f_enumerate)) (ok_gtup rfl (ok_gmore (ok_gname 6 nd) (ok_gmore (ok_gname 7 nd) ok_gno))) (ok_last (ok_asg (ok_call k_fraction_sum hr (by decide) (ok_cons (ok_ix (ok_var 4) (ok_var 6)) (ok_cons (ok_var 7) ok_nil))) (ok_gix (ok_var 4) (ok_var 6))))) (ok_last (ok_ret (ok_call k_trimmed hr (by decide) (ok_cons (ok_var 2) (ok_cons (ok_var 4) ok_nil))))))))))))), hm, hk, hb⟩
theorem sc_less : FnScope ["one", "other"] ["one", "other"] (defScope (topS 50)) := ⟨rfl, rfl, rfl, by decide +kernel, rfl, by decide +kernel, by decide +kernel⟩
theorem fa_less (h : Hd K mg) : Fa P W K mg base "less" 2 c_less 6 := by
  have nd := sc_less.nd
  have k_check_row := fa_check_row (P := P) (W := W) (base := base) h
  have k_contrary := fa_contrary (P := P) (W := W) (base := base) h
  have k_row_sum := fa_row_sum (P := P) (W := W) (base := base) h
  obtain ⟨f, fd, F, hm, hk, hb⟩ := h.d_less
  exact ⟨f, fd, ["one", "other"], ok_fn F sc_less rfl rfl (by first | simp | (unfold m_less; simp)) fun cdv A outer s H E hr => (ok_seq (ok_exp (ok_call k_check_row hr (by decide) (ok_cons (ok_var 0) ok_nil))) (ok_seq (ok_exp (ok_call k_check_row hr (by decide) (ok_cons (ok_var 1) ok_nil))) (ok_last (ok_ret (ok_call k_row_sum hr (by decide) (ok_cons (ok_var 0) (ok_cons (ok_call k_contrary hr (by decide) (ok_cons (ok_var 1) ok_nil)) ok_nil))))))), hm, hk, hb⟩
theorem sc_plus : FnScope ["one", "other"] ["one", "other"] (defScope (topS 49)) := ⟨rfl, rfl, rfl, by decide +kernel, rfl, by decide +kernel, by decide +kernel⟩
theorem fa_plus (h : Hd K mg) : Fa P W K mg base "plus" 2 c_plus 6 := by
  have nd := sc_plus.nd
  have k_check_row := fa_check_row (P := P) (W := W) (base := base) h
  have k_row_sum := fa_row_sum (P := P) (W := W) (base := base) h
  obtain ⟨f, fd, F, hm, hk, hb⟩ := h.d_plus
  exact ⟨f, fd, ["one", "other"], ok_fn F sc_plus rfl rfl (by first | simp | (unfold m_plus; simp)) fun cdv A outer s H E hr => (ok_seq (ok_exp (ok_call k_check_row hr (by decide) (ok_cons (ok_var 0) ok_nil))) (ok_seq (ok_exp (ok_call k_check_row hr (by decide) (ok_cons (ok_var 1) ok_nil))) (ok_last (ok_ret (ok_call k_row_sum hr (by decide) (ok_cons (ok_var 0) (ok_cons (ok_var 1) ok_nil))))))), hm, hk, hb⟩
theorem sc_is_number_text : FnScope ["text", "figures"] ["text"] (defScope (topS 19)) := ⟨rfl, rfl, rfl, by decide +kernel, rfl, by decide +kernel, by decide +kernel⟩
theorem fa_is_number_text (h : Hd K mg) : Fa P W K mg base "is_number_text" 1 c_is_number_text 1 := by
  have nd := sc_is_number_text.nd
  obtain ⟨f, fd, F, hm, hk, hb⟩ := h.d_is_number_text
  exact ⟨f, fd, ["text"], ok_fn F sc_is_number_text rfl rfl (by first | simp | (unfold m_is_number_text; simp)) fun cdv A outer s H E hr => (ok_seq (ok_set 1 nd (ok_if (ok_tru (ok_starts (ok_var 0) ok_str)) (ok_sl (ok_var 0) (ok_pat ok_int) ok_pno) (ok_var 0))) (ok_seq (ok_sif (ok_w (ok_wor (ok_tnot (ok_tru (ok_isascii (ok_var 1)))) (ok_wor1 (ok_tnot (ok_tru (ok_isdigit (ok_var 1))))))) (ok_last (ok_ret ok_bl)) ok_skip) (ok_last (ok_ret (ok_or (ok_cmp okEq (ok_var 0) ok_str) (ok_one (ok_not (ok_starts (ok_var 1) ok_str)))))))), hm, hk, hb⟩
theorem sc_read_figures : FnScope ["figures", "ends", "parts", "power", "end", "k"] ["figures"] (defScope (topS 21)) := ⟨rfl, rfl, rfl, by decide +kernel, rfl, by decide +kernel, by decide +kernel⟩
theorem fa_read_figures (h : Hd K mg) : Fa P W K mg base "read_figures" 1 c_read_figures 1 := by
  have nd := sc_read_figures.nd
  obtain ⟨f, fd, F, hm, hk, hb⟩ := h.d_read_figures
  exact ⟨f, fd, ["figures"], ok_fn F sc_read_figures rfl rfl (by first | simp | (unfold m_read_figures; simp)) fun cdv A outer s H E hr => (ok_seq (ok_set 1 nd (ok_ct okRng3 (ok_cons (ok_cb okLen (ok_cons (ok_var 0) ok_nil) (h.f_len)) (ok_cons ok_int (ok_cons (ok_un okNeg (ok_glob h.c_FIGURES)) ok_nil))) (h.f_range))) (ok_seq (ok_set 2 nd (ok_lc [("end", 4)] rfl nd (ok_itO (ok_var 1)) (blkOk_by (N := ["figures", "ends", "parts", "power", "end", "k"]) (sc := defScope (topS 21)) (by decide +kernel)) (fun _ _ _ _ _ => (ok_wname 4 nd)) (fun _ _ _ _ _ => ok_yes) (fun _ _ _ _ _ => (ok_ct okIntS (ok_cons (ok_sl (ok_var 0) (ok_pat (ok_cb (okMax2 rfl) (ok_cons ok_int (ok_cons (ok_bin okSub (ok_var 4) (ok_glob h.c_FIGURES)) ok_nil)) (h.f_max))) (ok_pat (ok_var 4))) ok_nil) (h.f_int))))) (ok_seq (ok_set 3 nd (ok_glob h.c_PIECE)) (ok_seq (ok_whl PassesOwn.never (ok_tcmp okGt (ok_cb okLen (ok_cons (ok_var 2) ok_nil) (h.f_len)) ok_int) (ok_seq (ok_sif (ok_tcmp okEq (ok_bin okMod (ok_cb okLen (ok_cons (ok_var 2) ok_nil) (h.f_len)) ok_int) ok_int) ok_ssno ok_skip) (ok_seq (ok_set 2 nd (ok_lc [("k", 5)] rfl nd (ok_itX (ok_ct okRng3 (ok_cons ok_int (ok_cons (ok_cb okLen (ok_cons (ok_var 2) ok_nil) (h.f_len)) (ok_cons ok_int ok_nil))) (h.f_range))) (blkOk_by (N := ["figures", "ends", "parts", "power", "end", "k"]) (sc := defScope (topS 21)) (by decide +kernel)) (fun _ _ _ _ _ => (ok_wname 5 nd)) (fun _ _ _ _ _ => ok_yes) (fun _ _ _ _ _ => (ok_bin okAdd (ok_ix (ok_var 2) (ok_var 5)) (ok_bin okMulX (ok_var 3) (ok_ix (ok_var 2) (ok_bin okAdd (ok_var 5) ok_int))))))) (ok_last (ok_set 3 nd (ok_bin okMulX (ok_var 3) (ok_var 3))))))) (ok_last (ok_ret (ok_ix (ok_var 2) ok_int))))))), hm, hk, hb⟩
theorem sc_read_number : FnScope ["text"] ["text"] (defScope (topS 20)) := ⟨rfl, rfl, rfl, by decide +kernel, rfl, by decide +kernel, by decide +kernel⟩
theorem fa_read_number (h : Hd K mg) : Fa P W K mg base "read_number" 1 c_read_number 2 := by
  have nd := sc_read_number.nd
  have k_read_figures := fa_read_figures (P := P) (W := W) (base := base) h
  obtain ⟨f, fd, F, hm, hk, hb⟩ := h.d_read_number
  exact ⟨f, fd, ["text"], ok_fn F sc_read_number rfl rfl (by first | simp | (unfold m_read_number; simp)) fun cdv A outer s H E hr => (ok_seq (ok_sif (ok_tru (ok_starts (ok_var 0) ok_str)) (ok_last (ok_ret (ok_un okNeg (ok_call k_read_figures hr (by decide) (ok_cons (ok_sl (ok_var 0) (ok_pat ok_int) ok_pno) ok_nil))))) ok_skip) (ok_last (ok_ret (ok_call k_read_figures hr (by decide) (ok_cons (ok_var 0) ok_nil))))), hm, hk, hb⟩
theorem sc_read_fraction : FnScope ["text", "top", "line", "bottom", "fraction"] ["text"] (defScope (topS 23)) := ⟨rfl, rfl, rfl, by decide +kernel, rfl, by decide +kernel, by decide +kernel⟩
theorem fa_read_fraction (h : Hd K mg) : Fa P W K mg base "read_fraction" 1 c_read_fraction 3 := by
  have nd := sc_read_fraction.nd
  have k_is_fraction := fa_is_fraction (P := P) (W := W) (base := base) h
  have k_is_number_text := fa_is_number_text (P := P) (W := W) (base := base) h
  have k_read_number := fa_read_number (P := P) (W := W) (base := base) h
  obtain ⟨f, fd, F, hm, hk, hb⟩ := h.d_read_fraction
  exact ⟨f, fd, ["text"], ok_fn F sc_read_fraction rfl rfl (by first | simp | (unfold m_read_fraction; simp)) fun cdv A outer s H E hr => (ok_seq (ok_asg (ok_part (ok_var 0) ok_str) (ok_gtup rfl (ok_gmore (ok_gname 1 nd) (ok_gmore (ok_gname 2 nd) (ok_gmore (ok_gname 3 nd) ok_gno))))) (ok_seq (ok_sif (ok_tnot (ok_tru (ok_call k_is_number_text hr (by decide) (ok_cons (ok_var 1) ok_nil)))) (ok_last (ok_ret ok_non)) ok_skip) (ok_seq (ok_sif (ok_tcmp okEq (ok_var 2) ok_str) (ok_last (ok_ret (ok_tup (ok_cons (ok_call k_read_number hr (by decide) (ok_cons (ok_var 1) ok_nil)) (ok_cons ok_int ok_nil))))) ok_skip) (ok_seq (ok_sif (ok_tnot (ok_tru (ok_call k_is_number_text hr (by decide) (ok_cons (ok_var 3) ok_nil)))) (ok_last (ok_ret ok_non)) ok_skip) (ok_seq (ok_set 4 nd (ok_tup (ok_cons (ok_call k_read_number hr (by decide) (ok_cons (ok_var 1) ok_nil)) (ok_cons (ok_call k_read_number hr (by decide) (ok_cons (ok_var 3) ok_nil)) ok_nil)))) (ok_last (ok_ret (ok_if (ok_w (ok_wand (ok_tcmp okGt (ok_ix (ok_var 4) ok_int) ok_int) (ok_wand1 (ok_tru (ok_call k_is_fraction hr (by decide) (ok_cons (ok_var 4) ok_nil)))))) (ok_var 4) ok_non)))))))), hm, hk, hb⟩
theorem sc_row_in : FnScope ["text", "first", "colon", "words", "row", "word"] ["text"] (defScope (topS 59)) := ⟨rfl, rfl, rfl, by decide +kernel, rfl, by decide +kernel, by decide +kernel⟩
theorem fa_row_in (h : Hd K mg) : Fa P W K mg base "row_in" 1 c_row_in 5 := by
  have nd := sc_row_in.nd
  have k_is_number_text := fa_is_number_text (P := P) (W := W) (base := base) h
  have k_is_row := fa_is_row (P := P) (W := W) (base := base) h
  have k_read_fraction := fa_read_fraction (P := P) (W := W) (base := base) h
  have k_read_number := fa_read_number (P := P) (W := W) (base := base) h
  obtain ⟨f, fd, F, hm, hk, hb⟩ := h.d_row_in
  exact ⟨f, fd, ["text"], ok_fn F sc_row_in rfl rfl (by first | simp | (unfold m_row_in; simp)) fun cdv A outer s H E hr => (ok_seq (ok_sif (ok_tcmp okEq (ok_var 0) ok_str) (ok_last (ok_ret (ok_glob h.c_NOTHING))) ok_skip) (ok_seq (ok_asg (ok_part (ok_var 0) ok_str) (ok_gtup rfl (ok_gmore (ok_gname 1 nd) (ok_gmore (ok_gname 2 nd) (ok_gmore (ok_gname 3 nd) ok_gno))))) (ok_seq (ok_sif (ok_w (ok_wor (ok_tcmp okEq (ok_var 2) ok_str) (ok_wor1 (ok_tnot (ok_tru (ok_call k_is_number_text hr (by decide) (ok_cons (ok_var 1) ok_nil))))))) (ok_last (ok_ret ok_non)) ok_skip) (ok_seq (ok_set 4 nd (ok_tup (ok_cons (ok_call k_read_number hr (by decide) (ok_cons (ok_var 1) ok_nil)) (ok_cons (ok_ct okTuple (ok_cons (ok_lc [("word", 5)] rfl nd (ok_itX (ok_split (ok_var 3) ok_str)) (blkOk_by (N := ["text", "first", "colon", "words", "row", "word"]) (sc := defScope (topS 59)) (by decide +kernel)) (fun _ _ _ _ _ => (ok_wname 5 nd)) (fun _ _ _ _ _ => ok_yes) (fun _ _ _ _ _ => (ok_call k_read_fraction hr (by decide) (ok_cons (ok_var 5) ok_nil)))) ok_nil) (h.f_tuple)) ok_nil)))) (ok_last (ok_ret (ok_if (ok_tru (ok_call k_is_row hr (by decide) (ok_cons (ok_var 4) ok_nil))) (ok_var 4) ok_non))))))), hm, hk, hb⟩
theorem sc_read_row : FnScope ["text", "row"] ["text"] (defScope (topS 58)) := ⟨rfl, rfl, rfl, by decide +kernel, rfl, by decide +kernel, by decide +kernel⟩
theorem fa_read_row (h : Hd K mg) : Fa P W K mg base "read_row" 1 c_read_row 6 := by
  have nd := sc_read_row.nd
  have k_row_in := fa_row_in (P := P) (W := W) (base := base) h
  obtain ⟨f, fd, F, hm, hk, hb⟩ := h.d_read_row
  exact ⟨f, fd, ["text"], ok_fn F sc_read_row rfl rfl (by first | simp | (unfold m_read_row; simp)) fun cdv A outer s H E hr => (ok_seq (ok_set 1 nd (ok_if (ok_tcmp okIs (ok_ct okType (ok_cons (ok_var 0) ok_nil) (h.f_type)) (ok_ty (h.f_str) rfl)) (ok_call k_row_in hr (by decide) (ok_cons (ok_var 0) ok_nil)) ok_non)) (ok_seq (ok_sif (ok_tcmp okIs (ok_var 1) ok_non) ok_ssno ok_skip) (ok_last (ok_ret (ok_var 1))))), hm, hk, hb⟩
theorem sc_check_number : FnScope ["value"] ["value"] (defScope (topS 48)) := ⟨rfl, rfl, rfl, by decide +kernel, rfl, by decide +kernel, by decide +kernel⟩
theorem fa_check_number (h : Hd K mg) : Fa P W K mg base "check_number" 1 c_check_number 2 := by
  have nd := sc_check_number.nd
  have k_is_integer := fa_is_integer (P := P) (W := W) (base := base) h
  obtain ⟨f, fd, F, hm, hk, hb⟩ := h.d_check_number
  exact ⟨f, fd, ["value"], ok_fn F sc_check_number rfl rfl (by first | simp | (unfold m_check_number; simp)) fun cdv A outer s H E hr => (ok_last (ok_sif (ok_tnot (ok_tru (ok_call k_is_integer hr (by decide) (ok_cons (ok_var 0) ok_nil)))) ok_ssno ok_skip)), hm, hk, hb⟩
theorem sc_row_of : FnScope ["first", "worths"] ["first", "worths"] (defScope (topS 47)) := ⟨rfl, rfl, rfl, by decide +kernel, rfl, by decide +kernel, by decide +kernel⟩
theorem fa_row_of (h : Hd K mg) : Fa P W K mg base "row_of" 2 c_row_of 4 := by
  have nd := sc_row_of.nd
  have k_are_fractions := fa_are_fractions (P := P) (W := W) (base := base) h
  have k_check_number := fa_check_number (P := P) (W := W) (base := base) h
  have k_trimmed := fa_trimmed (P := P) (W := W) (base := base) h
  obtain ⟨f, fd, F, hm, hk, hb⟩ := h.d_row_of
  exact ⟨f, fd, ["first", "worths"], ok_fn F sc_row_of rfl rfl (by first | simp | (unfold m_row_of; simp)) fun cdv A outer s H E hr => (ok_seq (ok_exp (ok_call k_check_number hr (by decide) (ok_cons (ok_var 0) ok_nil))) (ok_seq (ok_sif (ok_w (ok_wor (ok_tnot (ok_tru (ok_call k_are_fractions hr (by decide) (ok_cons (ok_var 1) ok_nil)))) (ok_wor1 (ok_tcmp okGt (ok_cb okLen (ok_cons (ok_var 1) ok_nil) (h.f_len)) (ok_glob h.c_MOST_WORTHS))))) ok_ssno ok_skip) (ok_last (ok_ret (ok_call k_trimmed hr (by decide) (ok_cons (ok_var 0) (ok_cons (ok_var 1) ok_nil))))))), hm, hk, hb⟩
theorem sc_figures_of : FnScope ["number", "powers", "parts", "power", "part", "piece"] ["number"] (defScope (topS 18)) := ⟨rfl, rfl, rfl, by decide +kernel, rfl, by decide +kernel, by decide +kernel⟩
theorem fa_figures_of (h : Hd K mg) : Fa P W K mg base "figures_of" 1 c_figures_of 1 := by
  have nd := sc_figures_of.nd
  obtain ⟨f, fd, F, hm, hk, hb⟩ := h.d_figures_of
  exact ⟨f, fd, ["number"], ok_fn F sc_figures_of rfl rfl (by first | simp | (unfold m_figures_of; simp)) fun cdv A outer s H E hr => (ok_seq (ok_sif (ok_tcmp okLt (ok_var 0) (ok_glob h.c_PIECE)) (ok_last (ok_ret (ok_ct okStr (ok_cons (ok_var 0) ok_nil) (h.f_str)))) ok_skip) (ok_seq (ok_set 1 nd (ok_lst (ok_cons (ok_glob h.c_PIECE) ok_nil))) (ok_seq (ok_whl PassesOwn.never (ok_tcmp okLe (ok_ix (ok_var 1) (ok_un okNeg ok_int)) (ok_var 0)) ok_ssno) (ok_seq (ok_set 2 nd (ok_lst (ok_cons (ok_var 0) ok_nil))) ok_ssno)))), hm, hk, hb⟩
theorem sc_number_text : FnScope ["number"] ["number"] (defScope (topS 17)) := ⟨rfl, rfl, rfl, by decide +kernel, rfl, by decide +kernel, by decide +kernel⟩
theorem fa_number_text (h : Hd K mg) : Fa P W K mg base "number_text" 1 c_number_text 2 := by
  have nd := sc_number_text.nd
  have k_figures_of := fa_figures_of (P := P) (W := W) (base := base) h
  obtain ⟨f, fd, F, hm, hk, hb⟩ := h.d_number_text
  exact ⟨f, fd, ["number"], ok_fn F sc_number_text rfl rfl (by first | simp | (unfold m_number_text; simp)) fun cdv A outer s H E hr => (ok_seq (ok_sif (ok_tcmp okLt (ok_var 0) ok_int) (ok_last (ok_ret (ok_bin okAdd ok_str (ok_call k_figures_of hr (by decide) (ok_cons (ok_un okNeg (ok_var 0)) ok_nil))))) ok_skip) (ok_last (ok_ret (ok_call k_figures_of hr (by decide) (ok_cons (ok_var 0) ok_nil))))), hm, hk, hb⟩
theorem sc_fraction_text : FnScope ["fraction", "top", "bottom"] ["fraction"] (defScope (topS 22)) := ⟨rfl, rfl, rfl, by decide +kernel, rfl, by decide +kernel, by decide +kernel⟩
theorem fa_fraction_text (h : Hd K mg) : Fa P W K mg base "fraction_text" 1 c_fraction_text 3 := by
  have nd := sc_fraction_text.nd
  have k_number_text := fa_number_text (P := P) (W := W) (base := base) h
  obtain ⟨f, fd, F, hm, hk, hb⟩ := h.d_fraction_text
  exact ⟨f, fd, ["fraction"], ok_fn F sc_fraction_text rfl rfl (by first | simp | (unfold m_fraction_text; simp)) fun cdv A outer s H E hr => (ok_seq (ok_asg (ok_var 0) (ok_gtup rfl (ok_gmore (ok_gname 1 nd) (ok_gmore (ok_gname 2 nd) ok_gno)))) (ok_seq (ok_sif (ok_tcmp okEq (ok_var 2) ok_int) (ok_last (ok_ret (ok_call k_number_text hr (by decide) (ok_cons (ok_var 1) ok_nil)))) ok_skip) (ok_last (ok_ret (ok_bin okAdd (ok_bin okAdd (ok_call k_number_text hr (by decide) (ok_cons (ok_var 1) ok_nil)) ok_str) (ok_call k_number_text hr (by decide) (ok_cons (ok_var 2) ok_nil))))))), hm, hk, hb⟩
theorem sc_row_text : FnScope ["row", "part"] ["row"] (defScope (topS 57)) := ⟨rfl, rfl, rfl, by decide +kernel, rfl, by decide +kernel, by decide +kernel⟩
theorem fa_row_text (h : Hd K mg) : Fa P W K mg base "row_text" 1 c_row_text 6 := by
  have nd := sc_row_text.nd
  have k_check_row := fa_check_row (P := P) (W := W) (base := base) h
  have k_fraction_text := fa_fraction_text (P := P) (W := W) (base := base) h
  have k_number_text := fa_number_text (P := P) (W := W) (base := base) h
  obtain ⟨f, fd, F, hm, hk, hb⟩ := h.d_row_text
  exact ⟨f, fd, ["row"], ok_fn F sc_row_text rfl rfl (by first | simp | (unfold m_row_text; simp)) fun cdv A outer s H E hr => (ok_seq (ok_exp (ok_call k_check_row hr (by decide) (ok_cons (ok_var 0) ok_nil))) (ok_seq (ok_sif (ok_tcmp okEq (ok_cb okLen (ok_cons (ok_ix (ok_var 0) ok_int) ok_nil) (h.f_len)) ok_int) (ok_last (ok_ret ok_str)) ok_skip) (ok_last (ok_ret (ok_bin okAdd (ok_bin okAdd (ok_call k_number_text hr (by decide) (ok_cons (ok_ix (ok_var 0) ok_int) ok_nil)) ok_str) (ok_join ok_str (ok_lc [("part", 1)] rfl nd (ok_itX (ok_ix (ok_var 0) ok_int)) (blkOk_by (N := ["row", "part"]) (sc := defScope (topS 57)) (by decide +kernel)) (fun _ _ _ _ _ => (ok_wname 1 nd)) (fun _ _ _ _ _ => ok_yes) (fun _ _ _ _ _ => (ok_call k_fraction_text hr (by decide) (ok_cons (ok_var 1) ok_nil)))))))))), hm, hk, hb⟩
theorem sc_fraction_product : FnScope ["one", "other"] ["one", "other"] (defScope (topS 37)) := ⟨rfl, rfl, rfl, by decide +kernel, rfl, by decide +kernel, by decide +kernel⟩
theorem fa_fraction_product (h : Hd K mg) : Fa P W K mg base "fraction_product" 2 c_fraction_product 2 := by
  have nd := sc_fraction_product.nd
  have k_reduced := fa_reduced (P := P) (W := W) (base := base) h
  obtain ⟨f, fd, F, hm, hk, hb⟩ := h.d_fraction_product
  exact ⟨f, fd, ["one", "other"], ok_fn F sc_fraction_product rfl rfl (by first | simp | (unfold m_fraction_product; simp)) fun cdv A outer s H E hr => (ok_last (ok_ret (ok_call k_reduced hr (by decide) (ok_cons (ok_bin okMulX (ok_ix (ok_var 0) ok_int) (ok_ix (ok_var 1) ok_int)) (ok_cons (ok_bin okMulX (ok_ix (ok_var 0) ok_int) (ok_ix (ok_var 1) ok_int)) ok_nil))))), hm, hk, hb⟩
theorem sc_scaled_row : FnScope ["row", "by", "worth"] ["row", "by"] (defScope (topS 41)) := ⟨rfl, rfl, rfl, by decide +kernel, rfl, by decide +kernel, by decide +kernel⟩
theorem fa_scaled_row (h : Hd K mg) : Fa P W K mg base "scaled_row" 2 c_scaled_row 3 := by
  have nd := sc_scaled_row.nd
  have k_fraction_product := fa_fraction_product (P := P) (W := W) (base := base) h
  obtain ⟨f, fd, F, hm, hk, hb⟩ := h.d_scaled_row
  exact ⟨f, fd, ["row", "by"], ok_fn F sc_scaled_row rfl rfl (by first | simp | (unfold m_scaled_row; simp)) fun cdv A outer s H E hr => (ok_seq (ok_sif (ok_tcmp okEq (ok_ix (ok_var 1) ok_int) ok_int) (ok_last (ok_ret (ok_glob h.c_NOTHING))) ok_skip) (ok_last (ok_ret (ok_tup (ok_cons (ok_ix (ok_var 0) ok_int) (ok_cons (ok_ct okTuple (ok_cons (ok_lc [("worth", 2)] rfl nd (ok_itX (ok_ix (ok_var 0) ok_int)) (blkOk_by (N := ["row", "by", "worth"]) (sc := defScope (topS 41)) (by decide +kernel)) (fun _ _ _ _ _ => (ok_wname 2 nd)) (fun _ _ _ _ _ => ok_yes) (fun _ _ _ _ _ => (ok_call k_fraction_product hr (by decide) (ok_cons (ok_var 2) (ok_cons (ok_var 1) ok_nil))))) ok_nil) (h.f_tuple)) ok_nil)))))), hm, hk, hb⟩
theorem sc_scaled : FnScope ["row", "by"] ["row", "by"] (defScope (topS 52)) := ⟨rfl, rfl, rfl, by decide +kernel, rfl, by decide +kernel, by decide +kernel⟩
theorem fa_scaled (h : Hd K mg) : Fa P W K mg base "scaled" 2 c_scaled 6 := by
  have nd := sc_scaled.nd
  have k_check_row := fa_check_row (P := P) (W := W) (base := base) h
  have k_is_fraction := fa_is_fraction (P := P) (W := W) (base := base) h
  have k_scaled_row := fa_scaled_row (P := P) (W := W) (base := base) h
  obtain ⟨f, fd, F, hm, hk, hb⟩ := h.d_scaled
  exact ⟨f, fd, ["row", "by"], ok_fn F sc_scaled rfl rfl (by first | simp | (unfold m_scaled; simp)) fun cdv A outer s H E hr => (ok_seq (ok_exp (ok_call k_check_row hr (by decide) (ok_cons (ok_var 0) ok_nil))) (ok_seq (ok_sif (ok_tnot (ok_tru (ok_call k_is_fraction hr (by decide) (ok_cons (ok_var 1) ok_nil)))) ok_ssno ok_skip) (ok_last (ok_ret (ok_call k_scaled_row hr (by decide) (ok_cons (ok_var 0) (ok_cons (ok_var 1) ok_nil))))))), hm, hk, hb⟩
theorem sc_shifted_row : FnScope ["row", "by"] ["row", "by"] (defScope (topS 42)) := ⟨rfl, rfl, rfl, by decide +kernel, rfl, by decide +kernel, by decide +kernel⟩
theorem fa_shifted_row (h : Hd K mg) : Fa P W K mg base "shifted_row" 2 c_shifted_row 1 := by
  have nd := sc_shifted_row.nd
  obtain ⟨f, fd, F, hm, hk, hb⟩ := h.d_shifted_row
  exact ⟨f, fd, ["row", "by"], ok_fn F sc_shifted_row rfl rfl (by first | simp | (unfold m_shifted_row; simp)) fun cdv A outer s H E hr => (ok_seq (ok_sif (ok_tcmp okEq (ok_cb okLen (ok_cons (ok_ix (ok_var 0) ok_int) ok_nil) (h.f_len)) ok_int) (ok_last (ok_ret (ok_glob h.c_NOTHING))) ok_skip) (ok_last (ok_ret (ok_tup (ok_cons (ok_bin okAdd (ok_ix (ok_var 0) ok_int) (ok_var 1)) (ok_cons (ok_ix (ok_var 0) ok_int) ok_nil)))))), hm, hk, hb⟩
theorem sc_shifted : FnScope ["row", "by"] ["row", "by"] (defScope (topS 53)) := ⟨rfl, rfl, rfl, by decide +kernel, rfl, by decide +kernel, by decide +kernel⟩
theorem fa_shifted (h : Hd K mg) : Fa P W K mg base "shifted" 2 c_shifted 6 := by
  have nd := sc_shifted.nd
  have k_check_number := fa_check_number (P := P) (W := W) (base := base) h
  have k_check_row := fa_check_row (P := P) (W := W) (base := base) h
  have k_shifted_row := fa_shifted_row (P := P) (W := W) (base := base) h
  obtain ⟨f, fd, F, hm, hk, hb⟩ := h.d_shifted
  exact ⟨f, fd, ["row", "by"], ok_fn F sc_shifted rfl rfl (by first | simp | (unfold m_shifted; simp)) fun cdv A outer s H E hr => (ok_seq (ok_exp (ok_call k_check_row hr (by decide) (ok_cons (ok_var 0) ok_nil))) (ok_seq (ok_exp (ok_call k_check_number hr (by decide) (ok_cons (ok_var 1) ok_nil))) (ok_last (ok_ret (ok_call k_shifted_row hr (by decide) (ok_cons (ok_var 0) (ok_cons (ok_var 1) ok_nil))))))), hm, hk, hb⟩
theorem sc_spread : FnScope ["row"] ["row"] (defScope (topS 56)) := ⟨rfl, rfl, rfl, by decide +kernel, rfl, by decide +kernel, by decide +kernel⟩
theorem fa_spread (h : Hd K mg) : Fa P W K mg base "spread" 1 c_spread 6 := by
  have nd := sc_spread.nd
  have k_check_row := fa_check_row (P := P) (W := W) (base := base) h
  obtain ⟨f, fd, F, hm, hk, hb⟩ := h.d_spread
  exact ⟨f, fd, ["row"], ok_fn F sc_spread rfl rfl (by first | simp | (unfold m_spread; simp)) fun cdv A outer s H E hr => (ok_seq (ok_exp (ok_call k_check_row hr (by decide) (ok_cons (ok_var 0) ok_nil))) (ok_last (ok_ret (ok_if (ok_tru (ok_ix (ok_var 0) ok_int)) (ok_bin okSub (ok_cb okLen (ok_cons (ok_ix (ok_var 0) ok_int) ok_nil) (h.f_len)) ok_int) ok_non)))), hm, hk, hb⟩
theorem sc_in_wholes : FnScope ["worths", "bottom", "worth", "top", "low"] ["worths"] (defScope (topS 34)) := ⟨rfl, rfl, rfl, by decide +kernel, rfl, by decide +kernel, by decide +kernel⟩
theorem fa_in_wholes (h : Hd K mg) : Fa P W K mg base "in_wholes" 1 c_in_wholes 1 := by
  have nd := sc_in_wholes.nd
  obtain ⟨f, fd, F, hm, hk, hb⟩ := h.d_in_wholes
  exact ⟨f, fd, ["worths"], ok_fn F sc_in_wholes rfl rfl (by first | simp | (unfold m_in_wholes; simp)) fun cdv A outer s H E hr => (ok_seq (ok_set 1 nd ok_int) (ok_seq (ok_for PassesOwn.never rfl (ok_itX (ok_var 0)) (ok_gname 2 nd) (ok_last (ok_set 1 nd (ok_cf okLcm (ok_cons (ok_var 1) (ok_cons (ok_ix (ok_var 2) ok_int) ok_nil)) h.i_lcm)))) (ok_last (ok_ret (ok_tup (ok_cons (ok_var 1) (ok_cons (ok_lc [("top", 3), ("low", 4)] rfl nd (ok_itX (ok_var 0)) (blkOk_by (N := ["worths", "bottom", "worth", "top", "low"]) (sc := defScope (topS 34)) (by decide +kernel)) (fun _ _ _ _ _ => (ok_wtup rfl (ok_wmore (ok_wname 3 nd) (ok_wmore (ok_wname 4 nd) ok_wno)))) (fun _ _ _ _ _ => ok_yes) (fun _ _ _ _ _ => (ok_bin okMulX (ok_var 3) (ok_bin okFdiv (ok_var 1) (ok_var 4))))) ok_nil))))))), hm, hk, hb⟩
theorem sc_product_singly : FnScope ["ones", "others", "many", "out", "at", "number", "place", "by"] ["ones", "others", "many"] (defScope (topS 30)) := ⟨rfl, rfl, rfl, by decide +kernel, rfl, by decide +kernel, by decide +kernel⟩
theorem fa_product_singly (h : Hd K mg) : Fa P W K mg base "product_singly" 3 c_product_singly 1 := by
  have nd := sc_product_singly.nd
  obtain ⟨f, fd, F, hm, hk, hb⟩ := h.d_product_singly
  exact ⟨f, fd, ["ones", "others", "many"], ok_fn F sc_product_singly rfl rfl (by first | simp | (unfold m_product_singly; simp)) fun cdv A outer s H E hr => (ok_seq (ok_set 3 nd (ok_bin okMulX (ok_lst (ok_cons ok_int ok_nil)) (ok_var 2))) (ok_seq (ok_for PassesOwn.never rfl (ok_itX (ok_var 0)) (ok_gtup rfl (ok_gmore (ok_gname 4 nd) (ok_gmore (ok_gname 5 nd) ok_gno))) (ok_last (ok_for PassesOwn.never rfl (ok_itX (ok_var 1)) (ok_gtup rfl (ok_gmore (ok_gname 6 nd) (ok_gmore (ok_gname 7 nd) ok_gno))) (ok_last (ok_augx (ok_var 3) (ok_bin okAdd (ok_var 4) (ok_var 6)) okAddI (ok_bin okMulX (ok_var 5) (ok_var 7))))))) (ok_last (ok_ret (ok_var 3))))), hm, hk, hb⟩
theorem sc_product_of : FnScope ["one", "other", "ones", "others", "many", "bits", "k", "number"] ["one", "other"] (defScope (topS 29)) := ⟨rfl, rfl, rfl, by decide +kernel, rfl, by decide +kernel, by decide +kernel⟩
theorem fa_product_of (h : Hd K mg) : Fa P W K mg base "product_of" 2 c_product_of 2 := by
  have nd := sc_product_of.nd
  have k_product_singly := fa_product_singly (P := P) (W := W) (base := base) h
  obtain ⟨f, fd, F, hm, hk, hb⟩ := h.d_product_of
  exact ⟨f, fd, ["one", "other"], ok_fn F sc_product_of rfl rfl (by first | simp | (unfold m_product_of; simp)) fun cdv A outer s H E hr => (ok_seq (ok_setlc 2 [("k", 6), ("number", 7)] rfl nd (ok_itE (ok_cons (ok_var 0) ok_nil) (h.f_enumerate)) (blkOk_by (N := ["one", "other", "ones", "others", "many", "bits", "k", "number"]) (sc := defScope (topS 29)) (by decide +kernel)) (fun _ _ _ _ _ => (ok_wtup rfl (ok_wmore (ok_wname 6 nd) (ok_wmore (ok_wname 7 nd) ok_wno)))) (fun _ _ _ _ _ => (ok_ts1 (ok_tcmp okNe (ok_var 7) ok_int))) (fun _ _ _ _ _ => (ok_tup (ok_cons (ok_var 6) (ok_cons (ok_var 7) ok_nil))))) (ok_seq (ok_setlc 3 [("k", 6), ("number", 7)] rfl nd (ok_itE (ok_cons (ok_var 1) ok_nil) (h.f_enumerate)) (blkOk_by (N := ["one", "other", "ones", "others", "many", "bits", "k", "number"]) (sc := defScope (topS 29)) (by decide +kernel)) (fun _ _ _ _ _ => (ok_wtup rfl (ok_wmore (ok_wname 6 nd) (ok_wmore (ok_wname 7 nd) ok_wno)))) (fun _ _ _ _ _ => (ok_ts1 (ok_tcmp okNe (ok_var 7) ok_int))) (fun _ _ _ _ _ => (ok_tup (ok_cons (ok_var 6) (ok_cons (ok_var 7) ok_nil))))) (ok_seq (ok_set 4 nd (ok_bin okSub (ok_bin okAdd (ok_cb okLen (ok_cons (ok_var 0) ok_nil) (h.f_len)) (ok_cb okLen (ok_cons (ok_var 1) ok_nil) (h.f_len))) ok_int)) (ok_seq (ok_sif (ok_tcmp okLe (ok_bin okMulX (ok_cb okLen (ok_cons (ok_var 2) ok_nil) (h.f_len)) (ok_cb okLen (ok_cons (ok_var 3) ok_nil) (h.f_len))) (ok_bin okMulX (ok_glob h.c_FEW) (ok_var 4))) (ok_last (ok_ret (ok_call k_product_singly hr (by decide) (ok_cons (ok_var 2) (ok_cons (ok_var 3) (ok_cons (ok_var 4) ok_nil)))))) ok_skip) ok_ssno)))), hm, hk, hb⟩
theorem sc_row_product : FnScope ["one", "other", "bottom", "wholes", "low", "by", "worths", "whole"] ["one", "other"] (defScope (topS 40)) := ⟨rfl, rfl, rfl, by decide +kernel, rfl, by decide +kernel, by decide +kernel⟩
theorem fa_row_product (h : Hd K mg) : Fa P W K mg base "row_product" 2 c_row_product 3 := by
  have nd := sc_row_product.nd
  have k_in_wholes := fa_in_wholes (P := P) (W := W) (base := base) h
  have k_product_of := fa_product_of (P := P) (W := W) (base := base) h
  have k_reduced := fa_reduced (P := P) (W := W) (base := base) h
  obtain ⟨f, fd, F, hm, hk, hb⟩ := h.d_row_product
  exact ⟨f, fd, ["one", "other"], ok_fn F sc_row_product rfl rfl (by first | simp | (unfold m_row_product; simp)) fun cdv A outer s H E hr => (ok_seq (ok_sif (ok_w (ok_wor (ok_tcmp okEq (ok_cb okLen (ok_cons (ok_ix (ok_var 0) ok_int) ok_nil) (h.f_len)) ok_int) (ok_wor1 (ok_tcmp okEq (ok_cb okLen (ok_cons (ok_ix (ok_var 1) ok_int) ok_nil) (h.f_len)) ok_int)))) (ok_last (ok_ret (ok_glob h.c_NOTHING))) ok_skip) (ok_seq (ok_asg (ok_call k_in_wholes hr (by decide) (ok_cons (ok_ix (ok_var 0) ok_int) ok_nil)) (ok_gtup rfl (ok_gmore (ok_gname 2 nd) (ok_gmore (ok_gname 3 nd) ok_gno)))) (ok_seq (ok_asg (ok_call k_in_wholes hr (by decide) (ok_cons (ok_ix (ok_var 1) ok_int) ok_nil)) (ok_gtup rfl (ok_gmore (ok_gname 4 nd) (ok_gmore (ok_gname 5 nd) ok_gno)))) (ok_seq (ok_setlc 6 [("whole", 7)] rfl nd (ok_itX (ok_call k_product_of hr (by decide) (ok_cons (ok_var 3) (ok_cons (ok_var 5) ok_nil)))) (blkOk_by (N := ["one", "other", "bottom", "wholes", "low", "by", "worths", "whole"]) (sc := defScope (topS 40)) (by decide +kernel)) (fun _ _ _ _ _ => (ok_wname 7 nd)) (fun _ _ _ _ _ => ok_yes) (fun _ _ _ _ _ => (ok_call k_reduced hr (by decide) (ok_cons (ok_var 7) (ok_cons (ok_bin okMulX (ok_var 2) (ok_var 4)) ok_nil))))) (ok_last (ok_ret (ok_tup (ok_cons (ok_bin okAdd (ok_ix (ok_var 0) ok_int) (ok_ix (ok_var 1) ok_int)) (ok_cons (ok_ct okTuple (ok_cons (ok_var 6) ok_nil) (h.f_tuple)) ok_nil))))))))), hm, hk, hb⟩
theorem sc_times : FnScope ["one", "other"] ["one", "other"] (defScope (topS 51)) := ⟨rfl, rfl, rfl, by decide +kernel, rfl, by decide +kernel, by decide +kernel⟩
theorem fa_times (h : Hd K mg) : Fa P W K mg base "times" 2 c_times 6 := by
  have nd := sc_times.nd
  have k_check_row := fa_check_row (P := P) (W := W) (base := base) h
  have k_row_product := fa_row_product (P := P) (W := W) (base := base) h
  obtain ⟨f, fd, F, hm, hk, hb⟩ := h.d_times
  exact ⟨f, fd, ["one", "other"], ok_fn F sc_times rfl rfl (by first | simp | (unfold m_times; simp)) fun cdv A outer s H E hr => (ok_seq (ok_exp (ok_call k_check_row hr (by decide) (ok_cons (ok_var 0) ok_nil))) (ok_seq (ok_exp (ok_call k_check_row hr (by decide) (ok_cons (ok_var 1) ok_nil))) (ok_last (ok_ret (ok_call k_row_product hr (by decide) (ok_cons (ok_var 0) (ok_cons (ok_var 1) ok_nil))))))), hm, hk, hb⟩
theorem sc_turned_row : FnScope ["row"] ["row"] (defScope (topS 43)) := ⟨rfl, rfl, rfl, by decide +kernel, rfl, by decide +kernel, by decide +kernel⟩
theorem fa_turned_row (h : Hd K mg) : Fa P W K mg base "turned_row" 1 c_turned_row 1 := by
  have nd := sc_turned_row.nd
  obtain ⟨f, fd, F, hm, hk, hb⟩ := h.d_turned_row
  exact ⟨f, fd, ["row"], ok_fn F sc_turned_row rfl rfl (by first | simp | (unfold m_turned_row; simp)) fun cdv A outer s H E hr => (ok_seq (ok_sif (ok_tcmp okEq (ok_cb okLen (ok_cons (ok_ix (ok_var 0) ok_int) ok_nil) (h.f_len)) ok_int) (ok_last (ok_ret (ok_glob h.c_NOTHING))) ok_skip) (ok_last (ok_ret (ok_tup (ok_cons (ok_bin okSub (ok_bin okSub ok_int (ok_ix (ok_var 0) ok_int)) (ok_cb okLen (ok_cons (ok_ix (ok_var 0) ok_int) ok_nil) (h.f_len))) (ok_cons (ok_revT (ok_ix (ok_var 0) ok_int)) ok_nil)))))), hm, hk, hb⟩
theorem sc_turned : FnScope ["row"] ["row"] (defScope (topS 54)) := ⟨rfl, rfl, rfl, by decide +kernel, rfl, by decide +kernel, by decide +kernel⟩
theorem fa_turned (h : Hd K mg) : Fa P W K mg base "turned" 1 c_turned 6 := by
  have nd := sc_turned.nd
  have k_check_row := fa_check_row (P := P) (W := W) (base := base) h
  have k_turned_row := fa_turned_row (P := P) (W := W) (base := base) h
  obtain ⟨f, fd, F, hm, hk, hb⟩ := h.d_turned
  exact ⟨f, fd, ["row"], ok_fn F sc_turned rfl rfl (by first | simp | (unfold m_turned; simp)) fun cdv A outer s H E hr => (ok_seq (ok_exp (ok_call k_check_row hr (by decide) (ok_cons (ok_var 0) ok_nil))) (ok_last (ok_ret (ok_call k_turned_row hr (by decide) (ok_cons (ok_var 0) ok_nil))))), hm, hk, hb⟩
theorem sc_worth_at : FnScope ["row", "moment", "at"] ["row", "moment"] (defScope (topS 44)) := ⟨rfl, rfl, rfl, by decide +kernel, rfl, by decide +kernel, by decide +kernel⟩
theorem fa_worth_at (h : Hd K mg) : Fa P W K mg base "worth_at" 2 c_worth_at 1 := by
  have nd := sc_worth_at.nd
  obtain ⟨f, fd, F, hm, hk, hb⟩ := h.d_worth_at
  exact ⟨f, fd, ["row", "moment"], ok_fn F sc_worth_at rfl rfl (by first | simp | (unfold m_worth_at; simp)) fun cdv A outer s H E hr => (ok_seq (ok_set 2 nd (ok_bin okSub (ok_var 1) (ok_ix (ok_var 0) ok_int))) (ok_last (ok_ret (ok_if (ok_tchn okLe okLt ok_int (ok_var 2) (ok_cb okLen (ok_cons (ok_ix (ok_var 0) ok_int) ok_nil) (h.f_len))) (ok_ix (ok_ix (ok_var 0) ok_int) (ok_var 2)) (ok_tup (ok_cons ok_int (ok_cons ok_int ok_nil))))))), hm, hk, hb⟩
theorem sc_worth : FnScope ["row", "moment"] ["row", "moment"] (defScope (topS 55)) := ⟨rfl, rfl, rfl, by decide +kernel, rfl, by decide +kernel, by decide +kernel⟩
theorem fa_worth (h : Hd K mg) : Fa P W K mg base "worth" 2 c_worth 6 := by
  have nd := sc_worth.nd
  have k_check_number := fa_check_number (P := P) (W := W) (base := base) h
  have k_check_row := fa_check_row (P := P) (W := W) (base := base) h
  have k_worth_at := fa_worth_at (P := P) (W := W) (base := base) h
  obtain ⟨f, fd, F, hm, hk, hb⟩ := h.d_worth
  exact ⟨f, fd, ["row", "moment"], ok_fn F sc_worth rfl rfl (by first | simp | (unfold m_worth; simp)) fun cdv A outer s H E hr => (ok_seq (ok_exp (ok_call k_check_row hr (by decide) (ok_cons (ok_var 0) ok_nil))) (ok_seq (ok_exp (ok_call k_check_number hr (by decide) (ok_cons (ok_var 1) ok_nil))) (ok_last (ok_ret (ok_call k_worth_at hr (by decide) (ok_cons (ok_var 0) (ok_cons (ok_var 1) ok_nil))))))), hm, hk, hb⟩
theorem sc__law_right : FnScope ["pot", "n", "m", "click", "nothing", "step", "fall", "hill", "far", "third", "long"] ["pot"] (defScope (topS 64)) := ⟨rfl, rfl, rfl, by decide +kernel, rfl, by decide +kernel, by decide +kernel⟩
theorem fa__law_right (h : Hd K mg) : Fa P W K mg base "_law_right" 1 c__law_right 7 := by
  have nd := sc__law_right.nd
  have k__law_row := fa__law_row (P := P) (W := W) (base := base) h
  have k__law_take := fa__law_take (P := P) (W := W) (base := base) h
  have k_less := fa_less (P := P) (W := W) (base := base) h
  have k_plus := fa_plus (P := P) (W := W) (base := base) h
  have k_read_row := fa_read_row (P := P) (W := W) (base := base) h
  have k_row_of := fa_row_of (P := P) (W := W) (base := base) h
  have k_row_text := fa_row_text (P := P) (W := W) (base := base) h
  have k_scaled := fa_scaled (P := P) (W := W) (base := base) h
  have k_shifted := fa_shifted (P := P) (W := W) (base := base) h
  have k_spread := fa_spread (P := P) (W := W) (base := base) h
  have k_times := fa_times (P := P) (W := W) (base := base) h
  have k_turned := fa_turned (P := P) (W := W) (base := base) h
  have k_worth := fa_worth (P := P) (W := W) (base := base) h
  obtain ⟨f, fd, F, hm, hk, hb⟩ := h.d__law_right
  exact ⟨f, fd, ["pot"], ok_fn F sc__law_right rfl rfl (by first | simp | (unfold m__law_right; simp)) fun cdv A outer s H E hr => (ok_seq (ok_par 1 2 rfl nd (ok_cons (ok_bin okAdd ok_int (ok_call k__law_take hr (by decide) (ok_cons (ok_var 0) (ok_cons ok_int ok_nil)))) (ok_cons (ok_bin okSub (ok_call k__law_take hr (by decide) (ok_cons (ok_var 0) (ok_cons ok_int ok_nil))) ok_int) ok_nil))) (ok_seq (ok_par 3 4 rfl nd (ok_cons (ok_call k__law_row hr (by decide) (ok_cons (ok_var 2) (ok_cons (ok_tup (ok_cons (ok_var 1) ok_nil)) ok_nil))) (ok_cons (ok_tup (ok_cons ok_int (ok_cons (ok_tup ok_nil) ok_nil))) ok_nil))) (ok_seq (ok_sif (ok_tcmp okNe (ok_cb (okRepr hr) (ok_cons (ok_tup (ok_cons (ok_call k_plus hr (by decide) (ok_cons (ok_var 3) (ok_cons (ok_call k_scaled hr (by decide) (ok_cons (ok_var 3) (ok_cons (ok_tup (ok_cons (ok_un okNeg ok_int) (ok_cons ok_int ok_nil))) ok_nil))) ok_nil))) (ok_cons (ok_call k_less hr (by decide) (ok_cons (ok_var 3) (ok_cons (ok_var 3) ok_nil))) (ok_cons (ok_call k_times hr (by decide) (ok_cons (ok_var 3) (ok_cons (ok_var 4) ok_nil))) (ok_cons (ok_call k_scaled hr (by decide) (ok_cons (ok_var 3) (ok_cons (ok_tup (ok_cons ok_int (ok_cons ok_int ok_nil))) ok_nil))) ok_nil))))) ok_nil) (h.f_repr)) (ok_cb (okRepr hr) (ok_cons (ok_bin okMulX (ok_tup (ok_cons (ok_var 4) ok_nil)) ok_int) ok_nil) (h.f_repr))) (ok_last (ok_ret ok_bl)) ok_skip) (ok_seq (ok_sif (ok_tcmp okNe (ok_cb (okRepr hr) (ok_cons (ok_tup (ok_cons (ok_call k_times hr (by decide) (ok_cons (ok_var 3) (ok_cons (ok_var 3) ok_nil))) (ok_cons (ok_call k_turned hr (by decide) (ok_cons (ok_var 3) ok_nil)) (ok_cons (ok_call k_shifted hr (by decide) (ok_cons (ok_var 3) (ok_cons (ok_un okNeg (ok_var 2)) ok_nil))) (ok_cons (ok_call k_spread hr (by decide) (ok_cons (ok_var 3) ok_nil)) (ok_cons (ok_call k_spread hr (by decide) (ok_cons (ok_var 4) ok_nil)) ok_nil)))))) ok_nil) (h.f_repr)) (ok_cb (okRepr hr) (ok_cons (ok_tup (ok_cons (ok_call k__law_row hr (by decide) (ok_cons (ok_bin okMulX ok_int (ok_var 2)) (ok_cons (ok_tup (ok_cons (ok_bin okMulX (ok_var 1) (ok_var 1)) ok_nil)) ok_nil))) (ok_cons (ok_call k__law_row hr (by decide) (ok_cons (ok_un okNeg (ok_var 2)) (ok_cons (ok_tup (ok_cons (ok_var 1) ok_nil)) ok_nil))) (ok_cons (ok_call k__law_row hr (by decide) (ok_cons ok_int (ok_cons (ok_tup (ok_cons (ok_var 1) ok_nil)) ok_nil))) (ok_cons ok_int (ok_cons ok_non ok_nil)))))) ok_nil) (h.f_repr))) (ok_last (ok_ret ok_bl)) ok_skip) (ok_seq (ok_par 5 6 rfl nd (ok_cons (ok_call k__law_row hr (by decide) (ok_cons ok_int (ok_cons (ok_bin okMulX (ok_tup (ok_cons ok_int ok_nil)) (ok_var 1)) ok_nil))) (ok_cons (ok_call k__law_row hr (by decide) (ok_cons ok_int (ok_cons (ok_tup (ok_cons ok_int (ok_cons (ok_un okNeg ok_int) ok_nil))) ok_nil))) ok_nil))) (ok_seq (ok_sif (ok_tcmp okNe (ok_cb (okRepr hr) (ok_cons (ok_call k_times hr (by decide) (ok_cons (ok_var 5) (ok_cons (ok_var 6) ok_nil))) ok_nil) (h.f_repr)) (ok_cb (okRepr hr) (ok_cons (ok_call k__law_row hr (by decide) (ok_cons ok_int (ok_cons (ok_bin okAdd (ok_bin okAdd (ok_tup (ok_cons ok_int ok_nil)) (ok_bin okMulX (ok_tup (ok_cons ok_int ok_nil)) (ok_bin okSub (ok_var 1) ok_int))) (ok_tup (ok_cons (ok_un okNeg ok_int) ok_nil))) ok_nil))) ok_nil) (h.f_repr))) (ok_last (ok_ret ok_bl)) ok_skip) (ok_seq (ok_set 7 nd (ok_call k_times hr (by decide) (ok_cons (ok_var 5) (ok_cons (ok_call k_turned hr (by decide) (ok_cons (ok_var 5) ok_nil)) ok_nil)))) (ok_seq (ok_sif (ok_w (ok_wor (ok_tcmp okNe (ok_cb (okRepr hr) (ok_cons (ok_var 7) ok_nil) (h.f_repr)) (ok_cb (okRepr hr) (ok_cons (ok_call k__law_row hr (by decide) (ok_cons (ok_bin okSub ok_int (ok_var 1)) (ok_cons (ok_bin okAdd (ok_bin okAdd (ok_lrg rfl ok_int (ok_var 1) (h.f_list) (h.f_range)) (ok_lst (ok_cons (ok_var 1) ok_nil))) (ok_revL (ok_lrg rfl ok_int (ok_var 1) (h.f_list) (h.f_range)))) ok_nil))) ok_nil) (h.f_repr))) (ok_wor1 (ok_tcmp okNe (ok_cb (okRepr hr) (ok_cons (ok_call k_turned hr (by decide) (ok_cons (ok_var 7) ok_nil)) ok_nil) (h.f_repr)) (ok_cb (okRepr hr) (ok_cons (ok_var 7) ok_nil) (h.f_repr)))))) (ok_last (ok_ret ok_bl)) ok_skip) (ok_seq (ok_set 8 nd (ok_call k_plus hr (by decide) (ok_cons (ok_var 3) (ok_cons (ok_call k_shifted hr (by decide) (ok_cons (ok_var 3) (ok_cons ok_int ok_nil))) ok_nil)))) (ok_seq (ok_sif (ok_w (ok_wor (ok_tcmp okNe (ok_cb (okRepr hr) (ok_cons (ok_var 8) ok_nil) (h.f_repr)) (ok_cb (okRepr hr) (ok_cons (ok_call k__law_row hr (by decide) (ok_cons (ok_var 2) (ok_cons (ok_tup (ok_cons (ok_var 1) (ok_cons ok_int (ok_cons ok_int (ok_cons ok_int (ok_cons ok_int (ok_cons ok_int (ok_cons ok_int (ok_cons (ok_var 1) ok_nil))))))))) ok_nil))) ok_nil) (h.f_repr))) (ok_wor1 (ok_tcmp okNe (ok_cb (okRepr hr) (ok_cons (ok_tup (ok_cons (ok_call k_worth hr (by decide) (ok_cons (ok_var 8) (ok_cons (ok_bin okAdd (ok_var 2) ok_int) ok_nil))) (ok_cons (ok_call k_worth hr (by decide) (ok_cons (ok_var 8) (ok_cons (ok_bin okAdd (ok_var 2) ok_int) ok_nil))) (ok_cons (ok_call k_worth hr (by decide) (ok_cons (ok_var 8) (ok_cons (ok_bin okSub (ok_var 2) ok_int) ok_nil))) ok_nil)))) ok_nil) (h.f_repr)) (ok_cb (okRepr hr) (ok_cons (ok_tup (ok_cons (ok_tup (ok_cons ok_int (ok_cons ok_int ok_nil))) (ok_cons (ok_tup (ok_cons (ok_var 1) (ok_cons ok_int ok_nil))) (ok_cons (ok_tup (ok_cons ok_int (ok_cons ok_int ok_nil))) ok_nil)))) ok_nil) (h.f_repr)))))) (ok_last (ok_ret ok_bl)) ok_skip) (ok_seq (ok_sif (ok_w (ok_wor (ok_tcmp okNe (ok_cb (okRepr hr) (ok_cons (ok_call k_less hr (by decide) (ok_cons (ok_var 8) (ok_cons (ok_call k_shifted hr (by decide) (ok_cons (ok_var 3) (ok_cons ok_int ok_nil))) ok_nil))) ok_nil) (h.f_repr)) (ok_cb (okRepr hr) (ok_cons (ok_var 3) ok_nil) (h.f_repr))) (ok_wor1 (ok_tcmp okNe (ok_cb (okRepr hr) (ok_cons (ok_call k_less hr (by decide) (ok_cons (ok_var 8) (ok_cons (ok_var 3) ok_nil))) ok_nil) (h.f_repr)) (ok_cb (okRepr hr) (ok_cons (ok_call k_shifted hr (by decide) (ok_cons (ok_var 3) (ok_cons ok_int ok_nil))) ok_nil) (h.f_repr)))))) (ok_last (ok_ret ok_bl)) ok_skip) (ok_seq (ok_set 9 nd (ok_tup (ok_cons (ok_var 2) (ok_cons (ok_tup (ok_cons (ok_tup (ok_cons ok_int (ok_cons ok_int ok_nil))) (ok_cons (ok_tup (ok_cons ok_int (ok_cons ok_int ok_nil))) (ok_cons (ok_tup (ok_cons (ok_un okNeg ok_int) (ok_cons ok_int ok_nil))) ok_nil)))) ok_nil)))) (ok_seq (ok_sif (ok_w (ok_wor (ok_tcmp okNe (ok_call k_row_text hr (by decide) (ok_cons (ok_var 9) ok_nil)) (ok_bin okAdd (ok_ct okStr (ok_cons (ok_ct okInt (ok_cons (ok_var 2) ok_nil) (h.f_int)) ok_nil) (h.f_str)) ok_str)) (ok_wor1 (ok_tcmp okNe (ok_cb (okRepr hr) (ok_cons (ok_call k_read_row hr (by decide) (ok_cons (ok_bin okAdd (ok_ct okStr (ok_cons (ok_ct okInt (ok_cons (ok_var 2) ok_nil) (h.f_int)) ok_nil) (h.f_str)) ok_str) ok_nil)) ok_nil) (h.f_repr)) (ok_cb (okRepr hr) (ok_cons (ok_var 9) ok_nil) (h.f_repr)))))) (ok_last (ok_ret ok_bl)) ok_skip) (ok_seq (ok_sif (ok_w (ok_wor (ok_tcmp okNe (ok_cb (okRepr hr) (ok_cons (ok_call k_scaled hr (by decide) (ok_cons (ok_var 9) (ok_cons (ok_tup (ok_cons (ok_un okNeg ok_int) (ok_cons ok_int ok_nil))) ok_nil))) ok_nil) (h.f_repr)) (ok_cb (okRepr hr) (ok_cons (ok_call k__law_row hr (by decide) (ok_cons (ok_var 2) (ok_cons (ok_tup (ok_cons (ok_un okNeg ok_int) (ok_cons ok_int (ok_cons ok_int ok_nil)))) ok_nil))) ok_nil) (h.f_repr))) (ok_wor1 (ok_tcmp okNe (ok_cb (okRepr hr) (ok_cons (ok_call k_plus hr (by decide) (ok_cons (ok_var 9) (ok_cons (ok_var 9) ok_nil))) ok_nil) (h.f_repr)) (ok_cb (okRepr hr) (ok_cons (ok_tup (ok_cons (ok_var 2) (ok_cons (ok_tup (ok_cons (ok_tup (ok_cons ok_int (ok_cons ok_int ok_nil))) (ok_cons (ok_tup (ok_cons ok_int (ok_cons ok_int ok_nil))) (ok_cons (ok_tup (ok_cons (ok_un okNeg ok_int) (ok_cons ok_int ok_nil))) ok_nil)))) ok_nil))) ok_nil) (h.f_repr)))))) (ok_last (ok_ret ok_bl)) ok_skip) (ok_seq (ok_set 10 nd (ok_call k_row_of hr (by decide) (ok_cons (ok_var 2) (ok_cons (ok_bin okAdd (ok_bin okAdd (ok_tup (ok_cons (ok_tup (ok_cons (ok_var 1) (ok_cons ok_int ok_nil))) ok_nil)) (ok_bin okMulX (ok_tup (ok_cons (ok_tup (ok_cons ok_int (ok_cons ok_int ok_nil))) ok_nil)) ok_int)) (ok_tup (ok_cons (ok_tup (ok_cons ok_int (ok_cons (ok_var 1) ok_nil))) ok_nil))) ok_nil)))) (ok_seq (ok_sif (ok_w (ok_wor (ok_tcmp okNe (ok_cb (okRepr hr) (ok_cons (ok_tup (ok_cons (ok_call k_spread hr (by decide) (ok_cons (ok_var 10) ok_nil)) (ok_cons (ok_call k_worth hr (by decide) (ok_cons (ok_var 10) (ok_cons (ok_bin okAdd (ok_var 2) ok_int) ok_nil))) ok_nil))) ok_nil) (h.f_repr)) (ok_cb (okRepr hr) (ok_cons (ok_tup (ok_cons ok_int (ok_cons (ok_tup (ok_cons ok_int (ok_cons (ok_var 1) ok_nil))) ok_nil))) ok_nil) (h.f_repr))) (ok_wor (ok_tcmp okNe (ok_call k_row_text hr (by decide) (ok_cons (ok_var 4) ok_nil)) ok_str) (ok_wor1 (ok_tcmp okNe (ok_cb (okRepr hr) (ok_cons (ok_call k_read_row hr (by decide) (ok_cons ok_str ok_nil)) ok_nil) (h.f_repr)) (ok_cb (okRepr hr) (ok_cons (ok_var 4) ok_nil) (h.f_repr))))))) (ok_last (ok_ret ok_bl)) ok_skip) (ok_last (ok_ret (ok_and (ok_cmp okEq (ok_cb (okRepr hr) (ok_cons (ok_call k_row_of hr (by decide) (ok_cons (ok_var 2) (ok_cons (ok_bin okMulX (ok_tup (ok_cons (ok_tup (ok_cons ok_int (ok_cons ok_int ok_nil))) ok_nil)) ok_int) ok_nil))) ok_nil) (h.f_repr)) (ok_cb (okRepr hr) (ok_cons (ok_var 4) ok_nil) (h.f_repr))) (ok_one (ok_cmp okEq (ok_cb (okRepr hr) (ok_cons (ok_call k_row_of hr (by decide) (ok_cons (ok_var 2) (ok_cons (ok_tup ok_nil) ok_nil))) ok_nil) (h.f_repr)) (ok_cb (okRepr hr) (ok_cons (ok_var 4) ok_nil) (h.f_repr))))))))))))))))))))))), hm, hk, hb⟩
end
end Ear
namespace Ear
open PySem PySem.Spec PyProof.Rows L2
section
variable {P : Program} {W : World} {K : PySem.W.Frag} {mg : Str → Option Value} {base : Heap}
def CPowB (i j : Int) : Prop := 0 ≤ j ∧ (Builtin.Int.intBits i : Int) * j ≤ 2 ^ 27
theorem op_powB {X : Cx} : OpR X (binaryOp .Pow) (rI CPowB fun i j => .int (i ^ j.toNat)) := opI fun _ _ _ _ _ _ _ hc q => pow_int hc.1 hc.2 q
/-- the pot that is made of a script -/
def spPot (K : PySem.W.Frag) : Sp := fun vs H Q _ => ∃ (a : Addr) (ns : List Int), vs = [.ref a, .int 0] ∧ SqL K H a (ns.map V.int) ∧ ns.length ≤ 1000 ∧ ∀ (p : Addr) (x y : Int) (H' : Hp), H' p = some (.lst [.int x, .int y, .int 0]) → 0 ≤ x → x < 10 ^ 300 → 0 ≤ y → y < 2 ^ 61 → Q (.ref p) H'
theorem sc_pot : FnScope ["script", "place", "cell", "own", "small"] ["script", "place"] (defScope (topS 61)) := ⟨rfl, rfl, rfl, by decide +kernel, rfl, by decide +kernel, by decide +kernel⟩
theorem fn_pot {f : Addr} {fd : FuncData} (F : Fun K "_law_pot" "_law_pot" (topS 61) f fd) (mi : mg "int" = none) (ml : mg "len" = none) (ms : mg "sum" = none) (ma : mg "abs" = none) : FnG P W K mg base 1 f fd ["script", "place"] (spPot K) := by
  have nd := sc_pot.nd
  refine fnG_of F sc_pot (fun vs H Q E h => by obtain ⟨a, ns, rfl, _⟩ := h; rfl) fun cdv A outer s H vs Q E hr h => ?_
  obtain ⟨a, ns, rfl, ha, hl, go⟩ := h
  have ps : PSs (cxOf CX0 P W K mg base ["script", "place", "cell", "own", "small"] "_law_pot" (defScope (topS 61)) f cdv A outer s H E).nox (defBody (topS 61)) _ :=
    (pss_cons (ps_set (i := 2) nd rfl (.inl rfl) (pe_ifExp (pt_cmpR op_lt (pv 1) (pe_callB call_len (by rfl) (by exact ml) boot_len (pa_cons (pv 0) pa_nil)) (nomark _)) (pe_ix ix_list (pv 0) (pv 1) (fun _ _ => rfl))
      (pe_op op_add (pe_op op_add (pe_op op_mod (pe_callTy call_int1 (by rfl) (by exact mi) (by rfl) (pa_cons (pe_callB (cr_sum rfl) (by rfl) (by exact ms) (by rfl) (pa_cons (pe_slice sl_list (pv 0) po_none (po_some pe_int)) pa_nil)) pa_nil)) pe_int) (pe_op op_mul pe_int (pv 1))) pe_int)))
    (pss_cons (ps_set (i := 3) nd rfl (.inl rfl) (pe_op op_mul (pe_op op_mod (pe_callTy call_int1 (by rfl) (by exact mi) (by rfl) (pa_cons (pe_callB call_abs (by rfl) (by exact ma) (by rfl) (pa_cons (pv 2) pa_nil)) pa_nil)) (pe_op op_powB (pe_op op_pow pe_int pe_int) pe_int))
      (pe_callTy call_int1 (by rfl) (by exact mi) (by rfl) (pa_cons (pe_cmpR op_ge (pe_callB call_abs (by rfl) (by exact ma) (by rfl) (pa_cons (pv 2) pa_nil)) (pe_op op_pow pe_int pe_int) (nomark _)) pa_nil))))
    (pss_cons (ps_set (i := 4) nd rfl (.inl rfl) (pe_op op_mod (pe_callTy call_int1 (by rfl) (by exact mi) (by rfl) (pa_cons (pv 2) pa_nil)) pe_int))
    (pss_one (ps_ret (pe_lst (pa_cons (pv 3) (pa_cons (pe_op op_mod (pe_callTy call_int1 (by rfl) (by exact mi) (by rfl) (pa_cons (pe_op op_add (pe_op op_add (pe_op op_mul (pv 4) pe_int) (pe_op op_mul (pe_op op_mul pe_int (pv 1)) (pv 1))) pe_int) pa_nil)) pe_int) (pa_cons pe_int pa_nil)))))))))
  refine ps.to ?_
  have pw : ∀ c : Int, 0 ≤ (if c < 0 then -c else c) := fun c => by split <;> omega
  have one0 : ∀ b : Bool, -(2 ^ 64) < (if b = true then (1 : Int) else 0) := fun b => by cases b <;> decide
  have one1 : ∀ b : Bool, (if b = true then (1 : Int) else 0) < 2 ^ 64 := fun b => by cases b <;> decide
  have tp : (0 : Int) < ((10 : Int) ^ (60 : Int).toNat) ^ (5 : Int).toNat := by decide +kernel
  have te : ((10 : Int) ^ (60 : Int).toNat) ^ (5 : Int).toNat = 10 ^ 300 := by decide +kernel
  have own0 : ∀ (c : Int) (b : Bool), 0 ≤ c % (((10 : Int) ^ (60 : Int).toNat) ^ (5 : Int).toNat) * (if b = true then 1 else 0) := fun c b => by
    have := Int.emod_nonneg c (Int.ne_of_gt tp)
    cases b
    · rw [if_neg Bool.false_ne_true, Int.mul_zero]; decide
    · rw [if_pos rfl, Int.mul_one]; exact this
  have own1 : ∀ (c : Int) (b : Bool), c % (((10 : Int) ^ (60 : Int).toNat) ^ (5 : Int).toNat) * (if b = true then 1 else 0) < 10 ^ 300 := fun c b => by
    have h1 := Int.emod_lt_of_pos c tp
    rw [te] at h1 ⊢
    cases b
    · rw [if_neg Bool.false_ne_true, Int.mul_zero]; decide +kernel
    · rw [if_pos rfl, Int.mul_one]; exact h1
  match ns, ha, hl with
  | [], ha, hl =>
    refine ⟨.int 0, rfl, .ref a, rfl, .ref a, 0, rfl, .inl ⟨_, ha, rfl⟩, 0, 0, rfl, rfl, decide ((0 : Int) < 0), rfl, ?_⟩
    dsimp only
    rw [if_neg (by decide)]
    refine ⟨.ref a, rfl, 1, rfl, a, _, rfl, ha, fun p hp => ⟨p, [], rfl, SqL.of upd_same, .inl ⟨_, rfl, _, 1000003, rfl, rfl, (by show (0 : Int) < 1000003; decide), ?_⟩⟩⟩
    refine ⟨.int 0, rfl, 2467, 0, rfl, rfl, .inl (by decide), _, _, rfl, rfl, _, 1831, rfl, rfl, ?_⟩
    refine ⟨_, rfl, _, rfl, .inl ⟨_, rfl, 10, 60, rfl, rfl, ⟨by decide, by decide, by decide⟩, (10 : Int) ^ (60 : Int).toNat, 5, rfl, rfl, ⟨by decide, by decide +kernel⟩, _, _, rfl, rfl, (by show (0 : Int) < ((10 : Int) ^ (60 : Int).toNat) ^ (5 : Int).toNat; decide +kernel), ?_⟩⟩
    refine ⟨_, rfl, _, rfl, 10, 18, rfl, rfl, ⟨by decide, by decide, by decide⟩, _, _, rfl, rfl, .inr ⟨_, rfl, ?_⟩⟩
    refine ⟨_, _, rfl, rfl, .inr ⟨?_, ?_⟩, ?_⟩
    · exact one0 _
    · exact one1 _
    refine ⟨_, rfl, .inl ⟨_, rfl, _, 2305843009213693951, rfl, rfl, (by show (0 : Int) < 2305843009213693951; decide), ?_⟩⟩
    refine ⟨_, rfl, ?_⟩
    refine ⟨_, rfl, _, 86083, rfl, rfl, .inr ⟨by decide, by decide⟩, .int 0, rfl, 11159, 0, rfl, rfl, .inl ⟨by decide, by decide⟩, .int 0, rfl, _, 0, rfl, rfl, .inr ⟨by decide, by decide⟩, _, _, rfl, rfl, _, 1481, rfl, rfl, .inl ⟨_, rfl, _, 2305843009213693921, rfl, rfl, (by show (0 : Int) < 2305843009213693921; decide), ?_⟩⟩
    refine ⟨(by show 3 ≤ sizeLine; decide), fun p hp => ?_⟩
    refine go p _ _ _ upd_same ?_ ?_ (Int.emod_nonneg _ (by decide)) (Int.lt_of_lt_of_le (Int.emod_lt_of_pos _ (by decide)) (by decide))
    · exact own0 _ _
    · exact own1 _ _
  | n :: ns, ha, hl =>
    refine ⟨.int 0, rfl, .ref a, rfl, .ref a, (n :: ns).length, rfl, .inl ⟨_, ha, (by simp)⟩, 0, _, rfl, rfl, decide ((0 : Int) < ((n :: ns).length : Nat)), rfl, ?_⟩
    dsimp only
    rw [if_pos (decide_eq_true (by rw [List.length_cons]; omega))]
    refine ⟨.ref a, rfl, .int 0, rfl, a, _, 0, .int n, rfl, rfl, ha, ?_, ?_⟩
    · unfold atI ixN
      rw [if_pos (by decide), if_pos (by rw [List.length_map, List.length_cons]; omega)]
      rfl
    refine ⟨_, rfl, n, rfl, .inl ⟨_, rfl, 10, 60, rfl, rfl, ⟨by decide, by decide, by decide⟩, (10 : Int) ^ (60 : Int).toNat, 5, rfl, rfl, ⟨by decide, by decide +kernel⟩, _, _, rfl, rfl, (by show (0 : Int) < ((10 : Int) ^ (60 : Int).toNat) ^ (5 : Int).toNat; decide +kernel), ?_⟩⟩
    refine ⟨_, rfl, n, rfl, 10, 18, rfl, rfl, ⟨by decide, by decide, by decide⟩, _, _, rfl, rfl, .inr ⟨_, rfl, ?_⟩⟩
    refine ⟨_, _, rfl, rfl, .inr ⟨?_, ?_⟩, ?_⟩
    · exact one0 _
    · exact one1 _
    refine ⟨_, rfl, .inl ⟨n, rfl, _, 2305843009213693951, rfl, rfl, (by show (0 : Int) < 2305843009213693951; decide), ?_⟩⟩
    refine ⟨_, rfl, ?_⟩
    refine ⟨_, rfl, _, 86083, rfl, rfl, .inr ⟨by decide, by decide⟩, .int 0, rfl, 11159, 0, rfl, rfl, .inl ⟨by decide, by decide⟩, .int 0, rfl, _, 0, rfl, rfl, .inr ⟨by decide, by decide⟩, _, _, rfl, rfl, _, 1481, rfl, rfl, .inl ⟨_, rfl, _, 2305843009213693921, rfl, rfl, (by show (0 : Int) < 2305843009213693921; decide), ?_⟩⟩
    refine ⟨(by show 3 ≤ sizeLine; decide), fun p hp => ?_⟩
    refine go p _ _ _ upd_same ?_ ?_ (Int.emod_nonneg _ (by decide)) (Int.lt_of_lt_of_le (Int.emod_lt_of_pos _ (by decide)) (by decide))
    · exact own0 _ _
    · exact own1 _ _
end
end Ear
namespace Ear
open PySem PySem.Spec PyProof.Rows L2
/-! ### a law's end, where no guard is at work -/
section
variable {P : Program} {W : World} {K : PySem.W.Frag} {mg mb : Str → Option Value} {lv : Nat} {fa a : Addr} {fd : FuncData} {x : Str} {sp : Sp} {s : Shared} {us : List Value} {ns : List Int}
/-- the call, from a heap where at most the script is told -/
theorem end_at (inK : K.In s.heap) (nsG : s.heap.Ns mainGlobals mg) (nsB : s.heap.Ns builtinsNs mb) (bt : ∀ x : Str, x ≠ "__name__" → mb x = bootBuiltins x) (nolim : s.heap.NoLimit) (gen0 : s.gens = #[])
    (at_ : s.heap.get? a = some { cls := .type "list", data := .seq us.toArray }) (room : Room lv callerA)
    (F : ∀ base : Heap, FnG P W K mg base lv fa fd [x] sp) (bind : ∀ (s : Shared) (u : Value), BindsTo s fd ⟨[u], []⟩ [(x, u)])
    (H : Hp) (only : Only H) (hsp : sp [.ref a] H (fun v _ => v = .bl true) fun _ _ _ => False) (ok : HOk P W H s.heap) (mine : ∀ b, H b ≠ none → b = a) (out : H a ≠ none → K.lookup a = none) :
    codeAny (model P W) callerA (.call (.ref fa) ⟨[.ref a], []⟩) (fun r s' => r = .ok (.ret (.bool true)) ∧ OldK s.heap s'.heap ∧ s'.os = s.os ∧ AllBare s'.gens) s := by
  have cleared : ∀ {b : Addr} {o : Obj}, s.heap.get? b = some o → H b = none → (hidT s.heap H).get? b = some o := fun e n => hidT_get e n
  have dictN : ∀ {b : Addr} {o : Obj} {es : Array DictEntry} {ep : Nat}, s.heap.get? b = some o → o.data = .dict es ep → H b = none := fun {b o es ep} e d => by
    cases q : H b with
    | none => rfl
    | some t =>
      obtain rfl : b = a := mine b (by rw [q]; exact Option.some_ne_none t)
      rw [at_] at e
      cases e
      cases (show Data.seq us.toArray _ = Data.dict es ep from d)
  have space : ∀ {b : Addr} {m : Str → Option Value}, s.heap.Ns b m → (hidT s.heap H).Ns b m := fun {b m} ⟨o, es, ep, e, d, r⟩ => ⟨o, es, ep, cleared e (dictN e d), d, r⟩
  have inB : K.In (hidT s.heap H) := fun b o e => cleared (inK b o e) (by
    cases q : H b with
    | none => rfl
    | some t =>
      obtain rfl : b = a := mine b (by rw [q]; exact Option.some_ne_none t)
      rw [out (by rw [q]; exact Option.some_ne_none t)] at e
      cases e)
  have md : Mod K mg (hidT s.heap H) := ⟨inB, space nsG, ⟨mb, space nsB, bt⟩, let ⟨mc, z1, z2⟩ := nolim; ⟨mc, space z1, z2⟩⟩
  have ev : Env0 P W K mg (hidT s.heap H) callerA [] s H := ⟨rfl, md, fun b o e => of_hidT e, Nat.le_of_eq (hidT_size _ _), trivial, fun b z => absurd z List.not_mem_nil, ok, .of_eq gen0⟩
  refine codeAny_mono ((F _).goes callerA [] s H ⟨[.ref a], []⟩ [.ref a] [.ref a] _ _ room rfl ev (bind s (.ref a)) (.cons rfl .nil) hsp) fun r s' h => ?_
  match r, h with
  | .error _, h => exact False.elim h
  | .ok .next, h => exact False.elim h
  | .ok .brk, h => exact False.elim h
  | .ok .cont, h => exact False.elim h
  | .ok (.ret u), h =>
    obtain ⟨v, H', os, bare, un, ok', ru, q⟩ := h
    obtain rfl : v = .bl true := q
    obtain rfl : u = Value.bool true := ru
    refine ⟨rfl, OldK.of_keep fun b o e => ?_, os, bare⟩
    cases q : H b with
    | none => exact un.keep b o e q (fun z => absurd z List.not_mem_nil) (by simp)
    | some t =>
      rcases only b with z | ⟨ob, xs, z⟩
      · rw [q] at z
        cases z
      · obtain ⟨e1, _⟩ := ok b _ z
        obtain ⟨e2, _⟩ := ok' b _ (un.frzs b ob _ z)
        rw [e] at e1
        cases e1
        exact e2
theorem end_call (inK : K.In s.heap) (nsG : s.heap.Ns mainGlobals mg) (nsB : s.heap.Ns builtinsNs mb) (bt : ∀ x : Str, x ≠ "__name__" → mb x = bootBuiltins x) (nolim : s.heap.NoLimit) (gen0 : s.gens = #[])
    (at_ : s.heap.get? a = some { cls := .type "list", data := .seq us.toArray }) (nums : IntsAre us ns) (few : ns.length ≤ sizeLine) (room : Room lv callerA)
    (F : ∀ base : Heap, FnG P W K mg base lv fa fd [x] sp) (bind : ∀ (s : Shared) (u : Value), BindsTo s fd ⟨[u], []⟩ [(x, u)])
    (hsp : ∀ H : Hp, SqL K H a (ns.map V.int) → sp [.ref a] H (fun v _ => v = .bl true) fun _ _ _ => False) :
    codeAny (model P W) callerA (.call (.ref fa) ⟨[.ref a], []⟩) (fun r s' => r = .ok (.ret (.bool true)) ∧ OldK s.heap s'.heap ∧ s'.os = s.os ∧ AllBare s'.gens) s := by
  have vals := vals_ints nums
  have len := nums.length
  cases hk : K.lookup a with
  | some o =>
    have e := inK a o hk
    rw [at_] at e
    cases e
    exact end_at inK nsG nsB bt nolim gen0 at_ room F bind (fun _ => none) (fun _ => .inl rfl) (hsp _ (.inr ⟨_, us.toArray, _, hk, rfl, rfl, rfl, (by rw [List.size_toArray, len]; exact few), (by simpa using vals)⟩)) (fun b t z => nomatch (show (none : Option HO) = some t from z)) (fun b z => absurd rfl z) fun z => absurd rfl z
  | none =>
    refine end_at inK nsG nsB bt nolim gen0 at_ room F bind (fun b => if b = a then some (.frz { cls := .type "list", data := .seq us.toArray } (.lst (ns.map V.int))) else none) (fun b => ?_) (hsp _ (.inl (.inr ⟨_, if_pos rfl⟩))) (fun b t z => ?_) (fun b z => ?_) fun _ => hk
    · by_cases c : b = a
      · exact .inr ⟨_, _, if_pos c⟩
      · exact .inl (if_neg c)
    · by_cases c : b = a
      · cases (if_pos c).symm.trans z
        subst c
        exact ⟨at_, (by rw [List.length_map]; exact few), us, _, vals, at_⟩
      · cases (if_neg c).symm.trans z
    · by_cases c : b = a
      · exact c
      · exact absurd (if_neg c) z
/-- a law's walk -/
theorem end_walk {l : PySem.W.OpenLaw} {n : Nat} {q : Program} {loose : List Str} {XP : (Str → Option Value) → Heap → Prop} {YP : World → Heap → Prop} {d : DefRec} (most : l.most = some n) (hn : n ≤ sizeLine) (nodef : d.params.defaults = []) (room : Room lv callerA)
    (F : ∀ (W : World) (mg : Str → Option Value) (fa : Addr) (h : Heap), YP W h → h.Ns mainGlobals mg → mg d.name = some (.ref fa) → ∃ (K : PySem.W.Frag) (fd : FuncData) (sp : Sp), K.In h ∧ (∀ (s : Shared) (u : Value), BindsTo s fd ⟨[u], []⟩ [(x, u)]) ∧
      (∀ (H : Hp) (a : Addr) (ns : List Int), ns.length ≤ n → SqL K H a (ns.map V.int) → sp [.ref a] H (fun v _ => v = .bl true) fun _ _ _ => False) ∧ ∀ base : Heap, FnG l.prog W K mg base lv fa fd [x] sp) :
    PySem.W.WalkO q loose XP YP l.row.toRowW d [] (fun f vs => PySem.call f vs) := by
  refine Att.attach_call most nodef fun W s0 s mg mb fa o pm cd doc a us ns G Y ho hd hcd hmg at_ nums few gen0 => ?_
  obtain ⟨K, fd, sp, inK, bind, hsp, ok⟩ := F W mg fa _ Y G.T.g hmg
  exact end_call inK G.T.g G.T.b G.T.builtins G.T.nolimit gen0 at_ nums (Nat.le_trans few hn) room ok bind fun H hS => hsp H a ns few hS
end
end Ear
namespace Ear
open PySem PySem.Spec PyProof.Rows L2
theorem allN_of {k : Nat → Bool} : ∀ {n : Nat}, (∀ i, i < n → k i = true) → allN n k = true
  | 0, _ => rfl
  | n + 1, h => by
    show et (k n) (allN n k) = true
    rw [h n (Nat.lt_succ_self n), allN_of fun i hi => h i (Nat.lt_succ_of_lt hi)]
    rfl
theorem digits (g1 : G) (k : Kt) : fnC m__law_right (sSeq g0__law_right g1) (.cons .pot .nil) ⟨0, 0, []⟩ k = allN 9 fun n => allN 19 fun m =>
    g1 (lset (lset (slots (.cons .pot .nil) m__law_right) 1 (.int (Int.ofNat (Nat.add 1 n)))) 2 (.int (iSub (Int.ofNat m) (Int.ofNat 9)))) ⟨0, 2, []⟩ (fun _ w => k .non w) k (fun _ _ => false) (fun _ _ => false) := rfl
theorem right_true (h : ∀ n, n < 9 → allN 19 (restB n) = true) : c__law_right (.cons .pot .nil) ⟨0, 0, []⟩ kTrue = true := by
  show fnC m__law_right (sSeq g0__law_right g1__law_right) (.cons .pot .nil) ⟨0, 0, []⟩ kTrue = true
  rw [digits]
  exact allN_of fun n hn => h n hn
def spLaw (K : PySem.W.Frag) : Sp := fun vs H Q _ => ∃ (a : Addr) (ns : List Int), vs = [.ref a] ∧ SqL K H a (ns.map V.int) ∧ ns.length ≤ 1000 ∧ ∀ H', Q (.bl true) H'
section
variable {P : Program} {W : World} {K : PySem.W.Frag} {mg : Str → Option Value} {base : Heap}
theorem sc_law : FnScope ["script"] ["script"] (defScope (topS 65)) := ⟨rfl, rfl, rfl, by decide +kernel, rfl, by decide +kernel, by decide +kernel⟩
theorem rw_pot {p : Addr} {x y : Int} {H : Hp} (h : H p = some (.lst [.int x, .int y, .int 0])) (a : 0 ≤ x) (b : x < 10 ^ 300) (c : 0 ≤ y) (d : y < 2 ^ 61) : RW K ⟨0, fun _ => 0, p⟩ ⟨0, 0, []⟩ H :=
  ⟨rfl, fun i j hi => absurd hi (Nat.not_lt_zero i), fun i hi => absurd hi (Nat.not_lt_zero i), ⟨x, y, 0, h, a, b, c, d, Int.le_refl 0, Int.le_refl 0⟩, fun i hi => absurd hi (Nat.not_lt_zero i)⟩
theorem fn_law (all : ∀ n, n < 9 → allN 19 (restB n) = true) {f : Addr} {fd : FuncData} (F : Fun K "law" "law" (topS 65) f fd) (h : Hd K mg) (dp : DefAt K mg "_law_pot" (topS 61) ["script", "place"]) (ms : mg "sum" = none) (ma : mg "abs" = none) :
    FnG P W K mg base 8 f fd ["script"] (spLaw K) := by
  refine fnG_of F sc_law (fun vs H Q E h => by obtain ⟨a, ns, rfl, _⟩ := h; rfl) fun cdv A outer s H vs Q E hr q => ?_
  obtain ⟨a, ns, rfl, ha, hl, go⟩ := q
  obtain ⟨f1, fd1, F1, m1, k1, b1⟩ := dp
  obtain ⟨f2, fd2, ps2, F2, m2, k2, b2⟩ := fa__law_right (P := P) (W := W) (base := base) h
  have G1 := fn_pot (P := P) (W := W) (base := base) F1 h.f_int h.f_len ms ma
  have ps : PSs (cxOf CX0 P W K mg base ["script"] "law" (defScope (topS 65)) f cdv A outer s H E).nox (defBody (topS 65)) _ :=
    pss_one (ps_ret (pe_fa F2 (hr.mono (by decide)) (by rfl) (by exact m2) (by exact k2) b2 (by rfl) (by exact pa_cons (pe_fa G1 (hr.mono (by decide)) (by rfl) (by exact m1) (by exact k1) b1 (by rfl) (by exact pa_cons (pv 0) (pa_cons pe_int pa_nil)) (by decide) (by rfl) (by rfl)) pa_nil) (by decide) (by rfl) (by rfl)))
  refine ps.to ?_
  refine ⟨.ref a, rfl, a, ns, rfl, ha, hl, fun p x y H' hp x0 x1 y0 y1 => ⟨rfl, _, _, _, kTrue, .cons .pot .nil, rw_pot hp x0 x1 y0 y1, right_true all, fun r' d v w' H2 g' rw' rd hk => ?_⟩⟩
  obtain ⟨b, rfl, e⟩ := swB_ (show swB d (fun b => b) = true from hk)
  cases rd
  rw [e]
  exact go H2
end
end Ear
namespace Ear
open PySem PySem.Spec PyProof.Rows L2
/-! ### the head: what the top has left -/
/-- a tuple of the written part -/
def tupAt (K : PySem.W.Frag) (a : Addr) (vs : List V) : Bool := match K.lookup a with
  | some ⟨.type c, _, .seq js _, _⟩ => decide (c = "tuple") && (decide (js.size ≤ sizeLine) && He.relAll vs js.toList)
  | _ => false
theorem tupAt_ok {K : PySem.W.Frag} {a : Addr} {vs : List V} (h : tupAt K a vs = true) (H : Hp) : SqT K H a vs := by
  unfold tupAt at h
  split at h
  · rename_i c _ js n _ e
    obtain ⟨h1, h2⟩ := He.ba h
    obtain ⟨h3, h4⟩ := He.ba h2
    exact .inr ⟨_, js, n, e, congrArg Value.type (of_decide_eq_true h1), rfl, of_decide_eq_true h3, He.relAll_ok h4⟩
  · cases h
/-- the second item of a tuple, if it is an object -/
def snd_ (K : PySem.W.Frag) (a : Addr) : Addr := match K.lookup a with
  | some ⟨_, _, .seq js _, _⟩ => (match js.toList[1]? with
    | some (Value.ref b) => b
    | _ => 0)
  | _ => 0
def ex (K : PySem.W.Frag) : Bool := (tupAt K (He.ga K "NOTHING") [.int 0, .ref (snd_ K (He.ga K "NOTHING"))] && tupAt K (snd_ K (He.ga K "NOTHING")) []) &&
  (He.eqO (PySem.W.nsIn K mainGlobals "gcd") (some (some (.builtin "math.gcd"))) && He.eqO (PySem.W.nsIn K mainGlobals "lcm") (some (some (.builtin "math.lcm"))))
/-- the library's hook, and a test of one's own -/
def hookX (n : Nat) (fa : List He.Fa) (fn : List He.DefD) (ex : PySem.W.Frag → Bool) : PySem.W.Hook where
  α := He.AlD × Bool
  obs := fun s => (He.obsDG n fa fn s.heap.get?, ex (He.frG s.heap.get? (He.asD s.heap.get? n)))
  val := fun _ => (He.valD fn, true)
  says := fun _ h => ∃ K : PySem.W.Frag, K.In h ∧ He.SaysD fa fn K ∧ ex K = true
  of := fun _ _ e => ⟨_, He.frG_in, congrArg (fun z : He.AlD × Bool => z.1) e, congrArg (fun z : He.AlD × Bool => z.2) e⟩
  keeps := fun _ _ _ ⟨K, a, b, c⟩ k => ⟨K, PySem.W.Frag.In.keeps a k, b, c⟩
def obX (n : Nat) (fa : List He.Fa) (fn : List He.DefD) (ex : PySem.W.Frag → Bool) (g : Addr → Option Obj) : He.AlD × Bool := (He.obsDG n fa fn g, ex (He.frG g (He.asD g n)))
theorem obX_eq {n : Nat} {fa : List He.Fa} {fn : List He.DefD} {ex : PySem.W.Frag → Bool} {g : Addr → Option Obj} {s : Shared} (h : ∀ a, g a = s.heap.get? a) : obX n fa fn ex g = (hookX n fa fn ex).obs s := by
  have e : g = s.heap.get? := funext h
  subst e
  rfl
theorem fun_of {K : PySem.W.Frag} {x qual : Str} {st : Stmt} {f : Addr} {fd : FuncData} (F : FunD K x qual (defArgs st) (defBody st) (defScope st) [] [] f fd) : Fun K x qual st f fd := by
  obtain ⟨oc, od, dV, kV, doc, pm, an, cdv, ct, osl, rfl, lk, code, dv, _⟩ := F.ex
  rcases dv with ⟨_, rfl⟩ | ⟨z, _⟩
  · exact ⟨⟨oc, od, kV, doc, pm, an, cdv, ct, osl, rfl, lk, code⟩, F.kp⟩
  · exact absurd rfl z
abbrev dd (x : Str) (i : Nat) : He.DefD := ⟨(x, none), x, x, defArgs (topS i), defBody (topS i), defScope (topS i), [], []⟩
theorem defAt_of {fa : List He.Fa} {fn : List He.DefD} {K : PySem.W.Frag} {h : Heap} {mg : Str → Option Value} (c : He.SaysD fa fn K) (X : K.In h) (G : h.Ns mainGlobals mg) (i : Nat) {x : Str} {k : Nat} {ps : List Str} (hf : fa[i]? = some (.glo x)) (hd : fn[i]? = some (dd x k))
    (hb : ∀ (kV doc pm : Value) (an : Option Addr) (cdv ct : Value) (us : List Value), us.length = ps.length → bindArgs (PySem.W.fnOf x x (defArgs (topS k)) (defBody (topS k)) (defScope (topS k)) .none kV doc pm an cdv ct) ⟨us, []⟩ = pure (ps.zip us)) : DefAt K mg x (topS k) ps := by
  obtain ⟨fd, F⟩ := c.def_ i hd
  exact ⟨_, fd, fun_of F, He.glo_ok X G (c.fact i hf), F.kp, F.bindsN hb⟩
theorem gk_int {K : PySem.W.Frag} {h : Heap} {mg : Str → Option Value} (X : K.In h) (G : h.Ns mainGlobals mg) {x : Str} {i : Int} (c : (He.Fa.int x i).ok K = true) : GK K mg x (.int i) := by
  obtain ⟨t, e⟩ := He.int_ok X G c
  exact ⟨_, .int i, e, ⟨t, rfl⟩, fun _ _ => .int i⟩
def fn : List He.DefD := [dd "_law_row" 63, dd "is_integer" 9, dd "is_fraction" 10, dd "are_fractions" 11, dd "is_row" 12, dd "check_row" 13, dd "contrary" 39, dd "reduced" 32, dd "fraction_sum" 36, dd "trimmed" 33, dd "row_sum" 38, dd "less" 50, dd "plus" 49, dd "is_number_text" 19, dd "read_figures" 21, dd "read_number" 20, dd "read_fraction" 23, dd "row_in" 59, dd "read_row" 58, dd "check_number" 48, dd "row_of" 47, dd "figures_of" 18, dd "number_text" 17, dd "fraction_text" 22, dd "row_text" 57, dd "fraction_product" 37, dd "scaled_row" 41, dd "scaled" 52, dd "shifted_row" 42, dd "shifted" 53, dd "spread" 56, dd "in_wholes" 34, dd "product_singly" 30, dd "product_of" 29, dd "row_product" 40, dd "times" 51, dd "turned_row" 43, dd "turned" 54, dd "worth_at" 44, dd "worth" 55, dd "_law_right" 64, dd "_law_take" 62, dd "_law_pot" 61, dd "law" 65]
def fa : List He.Fa := [.glo "_law_row", .glo "is_integer", .glo "is_fraction", .glo "are_fractions", .glo "is_row", .glo "check_row", .glo "contrary", .glo "reduced", .glo "fraction_sum", .glo "trimmed", .glo "row_sum", .glo "less", .glo "plus", .glo "is_number_text", .glo "read_figures", .glo "read_number", .glo "read_fraction", .glo "row_in", .glo "read_row", .glo "check_number", .glo "row_of", .glo "figures_of", .glo "number_text", .glo "fraction_text", .glo "row_text", .glo "fraction_product", .glo "scaled_row", .glo "scaled", .glo "shifted_row", .glo "shifted", .glo "spread", .glo "in_wholes", .glo "product_singly", .glo "product_of", .glo "row_product", .glo "times", .glo "turned_row", .glo "turned", .glo "worth_at", .glo "worth", .glo "_law_right", .glo "_law_take", .glo "_law_pot", .glo "law", .free "abs", .free "all", .free "enumerate", .free "int", .free "len", .free "list", .free "max", .free "min", .free "range", .free "repr", .free "str", .free "sum", .free "tuple", .free "type", .int "PIECE" 100000000000000000000000000000000000000000000000000000000000000000000000000000000000000000000000000000000000000000000000000000000000000000000000000000000000000000000000000000000000000000000000000000000000000000000000000000000000000000000000000000000000000000000000000000000000000000000000000000000000000000000000000000000000000000000000000000000000000000000000000000000000000000000000000000000000000000000000000000000000000000000000000000000000000000000000000000000000000000000000000000000000000000000000000000000, .int "FIGURES" 512, .int "MOST_WORTHS" 200, .int "FEW" 12, .glo "NOTHING"]
def names0 : List Str := ["EarError", "BadRow", "BadFraction", "BadNumber", "BadWorths", "NOTHING", "is_integer", "is_fraction", "are_fractions", "is_row", "check_row", "FIGURES", "PIECE", "number_text", "figures_of", "is_number_text", "read_number", "read_figures", "fraction_text", "read_fraction", "FEW", "packed", "unpacked", "greatest", "product_of", "product_singly", "reduced", "trimmed", "in_wholes", "fraction_sum"]
def names1 : List Str := ["fraction_product", "row_sum", "contrary", "row_product", "scaled_row", "shifted_row", "turned_row", "worth_at", "MOST_WORTHS", "row_of", "check_number", "plus", "less", "times", "scaled", "shifted", "turned", "worth", "spread", "row_text", "read_row", "row_in", "_law_pot", "_law_take", "_law_row", "_law_right"]
def names : List Str := names0 ++ names1
abbrev Rw : PySem.W.OpenRow := PySem.W.OpenLaw.row PySem.Challenge.rw_earstogether_k03_rows_by_hand
abbrev hk : PySem.W.Hook := hookX 4 fa fn ex
def ob (s : PySem.W.SharedT) : He.AlD × Bool := obX 4 fa fn ex (HandSHeadRun.getT s)
theorem ob_eq (s : PySem.W.SharedT) : ob s = hk.obs s.abs := obX_eq (HandSHeadRun.getT_eq s)
theorem run (w : World) : HandSHeadRun.RunEqI Rw (PySem.W.view Rw.prog [0, 65]) hk ob 20000 names w := by
  unfold HandSHeadRun.RunEqI
  kernel_rfl
theorem hd_of {K : PySem.W.Frag} {h : Heap} {mg : Str → Option Value} (X : K.In h) (G : h.Ns mainGlobals mg) (c : He.SaysD fa fn K) (e : ex K = true) : Hd K mg where
  d__law_row := defAt_of c X G 0 rfl rfl (fun _ _ _ _ _ _ us hl => match us, hl with | [_, _], _ => rfl)
  d_is_integer := defAt_of c X G 1 rfl rfl (fun _ _ _ _ _ _ us hl => match us, hl with | [_], _ => rfl)
  d_is_fraction := defAt_of c X G 2 rfl rfl (fun _ _ _ _ _ _ us hl => match us, hl with | [_], _ => rfl)
  d_are_fractions := defAt_of c X G 3 rfl rfl (fun _ _ _ _ _ _ us hl => match us, hl with | [_], _ => rfl)
  d_is_row := defAt_of c X G 4 rfl rfl (fun _ _ _ _ _ _ us hl => match us, hl with | [_], _ => rfl)
  d_check_row := defAt_of c X G 5 rfl rfl (fun _ _ _ _ _ _ us hl => match us, hl with | [_], _ => rfl)
  d_contrary := defAt_of c X G 6 rfl rfl (fun _ _ _ _ _ _ us hl => match us, hl with | [_], _ => rfl)
  d_reduced := defAt_of c X G 7 rfl rfl (fun _ _ _ _ _ _ us hl => match us, hl with | [_, _], _ => rfl)
  d_fraction_sum := defAt_of c X G 8 rfl rfl (fun _ _ _ _ _ _ us hl => match us, hl with | [_, _], _ => rfl)
  d_trimmed := defAt_of c X G 9 rfl rfl (fun _ _ _ _ _ _ us hl => match us, hl with | [_, _], _ => rfl)
  d_row_sum := defAt_of c X G 10 rfl rfl (fun _ _ _ _ _ _ us hl => match us, hl with | [_, _], _ => rfl)
  d_less := defAt_of c X G 11 rfl rfl (fun _ _ _ _ _ _ us hl => match us, hl with | [_, _], _ => rfl)
  d_plus := defAt_of c X G 12 rfl rfl (fun _ _ _ _ _ _ us hl => match us, hl with | [_, _], _ => rfl)
  d_is_number_text := defAt_of c X G 13 rfl rfl (fun _ _ _ _ _ _ us hl => match us, hl with | [_], _ => rfl)
  d_read_figures := defAt_of c X G 14 rfl rfl (fun _ _ _ _ _ _ us hl => match us, hl with | [_], _ => rfl)
  d_read_number := defAt_of c X G 15 rfl rfl (fun _ _ _ _ _ _ us hl => match us, hl with | [_], _ => rfl)
  d_read_fraction := defAt_of c X G 16 rfl rfl (fun _ _ _ _ _ _ us hl => match us, hl with | [_], _ => rfl)
  d_row_in := defAt_of c X G 17 rfl rfl (fun _ _ _ _ _ _ us hl => match us, hl with | [_], _ => rfl)
  d_read_row := defAt_of c X G 18 rfl rfl (fun _ _ _ _ _ _ us hl => match us, hl with | [_], _ => rfl)
  d_check_number := defAt_of c X G 19 rfl rfl (fun _ _ _ _ _ _ us hl => match us, hl with | [_], _ => rfl)
  d_row_of := defAt_of c X G 20 rfl rfl (fun _ _ _ _ _ _ us hl => match us, hl with | [_, _], _ => rfl)
  d_figures_of := defAt_of c X G 21 rfl rfl (fun _ _ _ _ _ _ us hl => match us, hl with | [_], _ => rfl)
  d_number_text := defAt_of c X G 22 rfl rfl (fun _ _ _ _ _ _ us hl => match us, hl with | [_], _ => rfl)
  d_fraction_text := defAt_of c X G 23 rfl rfl (fun _ _ _ _ _ _ us hl => match us, hl with | [_], _ => rfl)
  d_row_text := defAt_of c X G 24 rfl rfl (fun _ _ _ _ _ _ us hl => match us, hl with | [_], _ => rfl)
  d_fraction_product := defAt_of c X G 25 rfl rfl (fun _ _ _ _ _ _ us hl => match us, hl with | [_, _], _ => rfl)
  d_scaled_row := defAt_of c X G 26 rfl rfl (fun _ _ _ _ _ _ us hl => match us, hl with | [_, _], _ => rfl)
  d_scaled := defAt_of c X G 27 rfl rfl (fun _ _ _ _ _ _ us hl => match us, hl with | [_, _], _ => rfl)
  d_shifted_row := defAt_of c X G 28 rfl rfl (fun _ _ _ _ _ _ us hl => match us, hl with | [_, _], _ => rfl)
  d_shifted := defAt_of c X G 29 rfl rfl (fun _ _ _ _ _ _ us hl => match us, hl with | [_, _], _ => rfl)
  d_spread := defAt_of c X G 30 rfl rfl (fun _ _ _ _ _ _ us hl => match us, hl with | [_], _ => rfl)
  d_in_wholes := defAt_of c X G 31 rfl rfl (fun _ _ _ _ _ _ us hl => match us, hl with | [_], _ => rfl)
  d_product_singly := defAt_of c X G 32 rfl rfl (fun _ _ _ _ _ _ us hl => match us, hl with | [_, _, _], _ => rfl)
  d_product_of := defAt_of c X G 33 rfl rfl (fun _ _ _ _ _ _ us hl => match us, hl with | [_, _], _ => rfl)
  d_row_product := defAt_of c X G 34 rfl rfl (fun _ _ _ _ _ _ us hl => match us, hl with | [_, _], _ => rfl)
  d_times := defAt_of c X G 35 rfl rfl (fun _ _ _ _ _ _ us hl => match us, hl with | [_, _], _ => rfl)
  d_turned_row := defAt_of c X G 36 rfl rfl (fun _ _ _ _ _ _ us hl => match us, hl with | [_], _ => rfl)
  d_turned := defAt_of c X G 37 rfl rfl (fun _ _ _ _ _ _ us hl => match us, hl with | [_], _ => rfl)
  d_worth_at := defAt_of c X G 38 rfl rfl (fun _ _ _ _ _ _ us hl => match us, hl with | [_, _], _ => rfl)
  d_worth := defAt_of c X G 39 rfl rfl (fun _ _ _ _ _ _ us hl => match us, hl with | [_, _], _ => rfl)
  d__law_right := defAt_of c X G 40 rfl rfl (fun _ _ _ _ _ _ us hl => match us, hl with | [_], _ => rfl)
  d__law_take := defAt_of c X G 41 rfl rfl (fun _ _ _ _ _ _ us hl => match us, hl with | [_, _], _ => rfl)
  f_all := He.free_ok X G (c.fact 45 rfl)
  f_enumerate := He.free_ok X G (c.fact 46 rfl)
  f_int := He.free_ok X G (c.fact 47 rfl)
  f_len := He.free_ok X G (c.fact 48 rfl)
  f_list := He.free_ok X G (c.fact 49 rfl)
  f_max := He.free_ok X G (c.fact 50 rfl)
  f_min := He.free_ok X G (c.fact 51 rfl)
  f_range := He.free_ok X G (c.fact 52 rfl)
  f_repr := He.free_ok X G (c.fact 53 rfl)
  f_str := He.free_ok X G (c.fact 54 rfl)
  f_tuple := He.free_ok X G (c.fact 56 rfl)
  f_type := He.free_ok X G (c.fact 57 rfl)
  i_gcd := PySem.W.mg_of X G (He.eqO_ok (He.ba (He.ba e).2).1)
  i_lcm := PySem.W.mg_of X G (He.eqO_ok (He.ba (He.ba e).2).2)
  c_PIECE := gk_int X G (c.fact 58 rfl)
  c_FIGURES := gk_int X G (c.fact 59 rfl)
  c_MOST_WORTHS := gk_int X G (c.fact 60 rfl)
  c_FEW := gk_int X G (c.fact 61 rfl)
  c_NOTHING := ⟨_, .ref (He.ga K "NOTHING"), He.glo_ok X G (c.fact 62 (f := .glo "NOTHING") rfl), rfl, fun r H => .tup (tupAt_ok (He.ba (He.ba e).1).1 H) (.cons (.int 0) (.cons (.tup (tupAt_ok (He.ba (He.ba e).1).2 H) .nil) .nil))⟩
theorem facts (all : ∀ n, n < 9 → allN 19 (restB n) = true) {P : Program} {w : World} {K : PySem.W.Frag} {h : Heap} {mg : Str → Option Value} {f : Addr} (X : K.In h) (G : h.Ns mainGlobals mg) (hf : mg ("law" : Str) = some (.ref f)) (c : He.SaysD fa fn K) (e : ex K = true) :
    ∃ fd : FuncData, (∀ (s : Shared) (v : Value), BindsTo s fd ⟨[v], []⟩ [("script", v)]) ∧ ∀ base : Heap, FnG P w K mg base 8 f fd ["script"] (spLaw K) := by
  obtain ⟨fd, F⟩ := c.def_ 43 (d := dd "law" 65) rfl
  have e1 := hf.symm.trans (He.glo_ok X G (c.fact 43 (f := .glo "law") rfl))
  cases e1
  have b := FunD.bindsA (ps := ["script"]) F fun _ _ _ _ _ _ us hl => match us, hl with | [_], _ => rfl
  exact ⟨fd, fun s v => b s [v] rfl, fun base => fn_law all (fun_of F) (hd_of X G c e) (defAt_of c X G 42 rfl rfl (fun _ _ _ _ _ _ us hl => match us, hl with | [_, _], _ => rfl)) (He.free_ok X G (c.fact 55 rfl)) (He.free_ok X G (c.fact 44 rfl))⟩
end Ear
namespace Ear
open PySem PySem.Spec PyProof.Rows L2
/-! ### every pair of digits, by the kernel -/
theorem case_0_0 : restB 0 0 = true := by decide +kernel
theorem case_0_1 : restB 0 1 = true := by decide +kernel
theorem case_0_2 : restB 0 2 = true := by decide +kernel
theorem case_0_3 : restB 0 3 = true := by decide +kernel
theorem case_0_4 : restB 0 4 = true := by decide +kernel
theorem case_0_5 : restB 0 5 = true := by decide +kernel
theorem case_0_6 : restB 0 6 = true := by decide +kernel
theorem case_0_7 : restB 0 7 = true := by decide +kernel
theorem case_0_8 : restB 0 8 = true := by decide +kernel
theorem case_0_9 : restB 0 9 = true := by decide +kernel
theorem case_0_10 : restB 0 10 = true := by decide +kernel
theorem case_0_11 : restB 0 11 = true := by decide +kernel
theorem case_0_12 : restB 0 12 = true := by decide +kernel
theorem case_0_13 : restB 0 13 = true := by decide +kernel
theorem case_0_14 : restB 0 14 = true := by decide +kernel
theorem case_0_15 : restB 0 15 = true := by decide +kernel
theorem case_0_16 : restB 0 16 = true := by decide +kernel
theorem case_0_17 : restB 0 17 = true := by decide +kernel
theorem case_0_18 : restB 0 18 = true := by decide +kernel
theorem case_1_0 : restB 1 0 = true := by decide +kernel
theorem case_1_1 : restB 1 1 = true := by decide +kernel
theorem case_1_2 : restB 1 2 = true := by decide +kernel
theorem case_1_3 : restB 1 3 = true := by decide +kernel
theorem case_1_4 : restB 1 4 = true := by decide +kernel
theorem case_1_5 : restB 1 5 = true := by decide +kernel
theorem case_1_6 : restB 1 6 = true := by decide +kernel
theorem case_1_7 : restB 1 7 = true := by decide +kernel
theorem case_1_8 : restB 1 8 = true := by decide +kernel
theorem case_1_9 : restB 1 9 = true := by decide +kernel
theorem case_1_10 : restB 1 10 = true := by decide +kernel
theorem case_1_11 : restB 1 11 = true := by decide +kernel
theorem case_1_12 : restB 1 12 = true := by decide +kernel
theorem case_1_13 : restB 1 13 = true := by decide +kernel
theorem case_1_14 : restB 1 14 = true := by decide +kernel
theorem case_1_15 : restB 1 15 = true := by decide +kernel
theorem case_1_16 : restB 1 16 = true := by decide +kernel
theorem case_1_17 : restB 1 17 = true := by decide +kernel
theorem case_1_18 : restB 1 18 = true := by decide +kernel
theorem case_2_0 : restB 2 0 = true := by decide +kernel
theorem case_2_1 : restB 2 1 = true := by decide +kernel
theorem case_2_2 : restB 2 2 = true := by decide +kernel
theorem case_2_3 : restB 2 3 = true := by decide +kernel
theorem case_2_4 : restB 2 4 = true := by decide +kernel
theorem case_2_5 : restB 2 5 = true := by decide +kernel
theorem case_2_6 : restB 2 6 = true := by decide +kernel
theorem case_2_7 : restB 2 7 = true := by decide +kernel
theorem case_2_8 : restB 2 8 = true := by decide +kernel
theorem case_2_9 : restB 2 9 = true := by decide +kernel
theorem case_2_10 : restB 2 10 = true := by decide +kernel
theorem case_2_11 : restB 2 11 = true := by decide +kernel
theorem case_2_12 : restB 2 12 = true := by decide +kernel
theorem case_2_13 : restB 2 13 = true := by decide +kernel
theorem case_2_14 : restB 2 14 = true := by decide +kernel
theorem case_2_15 : restB 2 15 = true := by decide +kernel
theorem case_2_16 : restB 2 16 = true := by decide +kernel
theorem case_2_17 : restB 2 17 = true := by decide +kernel
theorem case_2_18 : restB 2 18 = true := by decide +kernel
theorem case_3_0 : restB 3 0 = true := by decide +kernel
theorem case_3_1 : restB 3 1 = true := by decide +kernel
theorem case_3_2 : restB 3 2 = true := by decide +kernel
theorem case_3_3 : restB 3 3 = true := by decide +kernel
theorem case_3_4 : restB 3 4 = true := by decide +kernel
theorem case_3_5 : restB 3 5 = true := by decide +kernel
theorem case_3_6 : restB 3 6 = true := by decide +kernel
theorem case_3_7 : restB 3 7 = true := by decide +kernel
theorem case_3_8 : restB 3 8 = true := by decide +kernel
theorem case_3_9 : restB 3 9 = true := by decide +kernel
theorem case_3_10 : restB 3 10 = true := by decide +kernel
theorem case_3_11 : restB 3 11 = true := by decide +kernel
theorem case_3_12 : restB 3 12 = true := by decide +kernel
theorem case_3_13 : restB 3 13 = true := by decide +kernel
theorem case_3_14 : restB 3 14 = true := by decide +kernel
theorem case_3_15 : restB 3 15 = true := by decide +kernel
theorem case_3_16 : restB 3 16 = true := by decide +kernel
theorem case_3_17 : restB 3 17 = true := by decide +kernel
theorem case_3_18 : restB 3 18 = true := by decide +kernel
theorem case_4_0 : restB 4 0 = true := by decide +kernel
theorem case_4_1 : restB 4 1 = true := by decide +kernel
theorem case_4_2 : restB 4 2 = true := by decide +kernel
theorem case_4_3 : restB 4 3 = true := by decide +kernel
theorem case_4_4 : restB 4 4 = true := by decide +kernel
theorem case_4_5 : restB 4 5 = true := by decide +kernel
theorem case_4_6 : restB 4 6 = true := by decide +kernel
theorem case_4_7 : restB 4 7 = true := by decide +kernel
theorem case_4_8 : restB 4 8 = true := by decide +kernel
theorem case_4_9 : restB 4 9 = true := by decide +kernel
theorem case_4_10 : restB 4 10 = true := by decide +kernel
theorem case_4_11 : restB 4 11 = true := by decide +kernel
theorem case_4_12 : restB 4 12 = true := by decide +kernel
theorem case_4_13 : restB 4 13 = true := by decide +kernel
theorem case_4_14 : restB 4 14 = true := by decide +kernel
theorem case_4_15 : restB 4 15 = true := by decide +kernel
theorem case_4_16 : restB 4 16 = true := by decide +kernel
theorem case_4_17 : restB 4 17 = true := by decide +kernel
theorem case_4_18 : restB 4 18 = true := by decide +kernel
theorem case_5_0 : restB 5 0 = true := by decide +kernel
theorem case_5_1 : restB 5 1 = true := by decide +kernel
theorem case_5_2 : restB 5 2 = true := by decide +kernel
theorem case_5_3 : restB 5 3 = true := by decide +kernel
theorem case_5_4 : restB 5 4 = true := by decide +kernel
theorem case_5_5 : restB 5 5 = true := by decide +kernel
theorem case_5_6 : restB 5 6 = true := by decide +kernel
theorem case_5_7 : restB 5 7 = true := by decide +kernel
theorem case_5_8 : restB 5 8 = true := by decide +kernel
theorem case_5_9 : restB 5 9 = true := by decide +kernel
theorem case_5_10 : restB 5 10 = true := by decide +kernel
theorem case_5_11 : restB 5 11 = true := by decide +kernel
theorem case_5_12 : restB 5 12 = true := by decide +kernel
theorem case_5_13 : restB 5 13 = true := by decide +kernel
theorem case_5_14 : restB 5 14 = true := by decide +kernel
theorem case_5_15 : restB 5 15 = true := by decide +kernel
theorem case_5_16 : restB 5 16 = true := by decide +kernel
theorem case_5_17 : restB 5 17 = true := by decide +kernel
theorem case_5_18 : restB 5 18 = true := by decide +kernel
theorem case_6_0 : restB 6 0 = true := by decide +kernel
theorem case_6_1 : restB 6 1 = true := by decide +kernel
theorem case_6_2 : restB 6 2 = true := by decide +kernel
theorem case_6_3 : restB 6 3 = true := by decide +kernel
theorem case_6_4 : restB 6 4 = true := by decide +kernel
theorem case_6_5 : restB 6 5 = true := by decide +kernel
theorem case_6_6 : restB 6 6 = true := by decide +kernel
theorem case_6_7 : restB 6 7 = true := by decide +kernel
theorem case_6_8 : restB 6 8 = true := by decide +kernel
theorem case_6_9 : restB 6 9 = true := by decide +kernel
theorem case_6_10 : restB 6 10 = true := by decide +kernel
theorem case_6_11 : restB 6 11 = true := by decide +kernel
theorem case_6_12 : restB 6 12 = true := by decide +kernel
theorem case_6_13 : restB 6 13 = true := by decide +kernel
theorem case_6_14 : restB 6 14 = true := by decide +kernel
theorem case_6_15 : restB 6 15 = true := by decide +kernel
theorem case_6_16 : restB 6 16 = true := by decide +kernel
theorem case_6_17 : restB 6 17 = true := by decide +kernel
theorem case_6_18 : restB 6 18 = true := by decide +kernel
theorem case_7_0 : restB 7 0 = true := by decide +kernel
theorem case_7_1 : restB 7 1 = true := by decide +kernel
theorem case_7_2 : restB 7 2 = true := by decide +kernel
theorem case_7_3 : restB 7 3 = true := by decide +kernel
theorem case_7_4 : restB 7 4 = true := by decide +kernel
theorem case_7_5 : restB 7 5 = true := by decide +kernel
theorem case_7_6 : restB 7 6 = true := by decide +kernel
theorem case_7_7 : restB 7 7 = true := by decide +kernel
theorem case_7_8 : restB 7 8 = true := by decide +kernel
theorem case_7_9 : restB 7 9 = true := by decide +kernel
theorem case_7_10 : restB 7 10 = true := by decide +kernel
theorem case_7_11 : restB 7 11 = true := by decide +kernel
theorem case_7_12 : restB 7 12 = true := by decide +kernel
theorem case_7_13 : restB 7 13 = true := by decide +kernel
theorem case_7_14 : restB 7 14 = true := by decide +kernel
theorem case_7_15 : restB 7 15 = true := by decide +kernel
theorem case_7_16 : restB 7 16 = true := by decide +kernel
theorem case_7_17 : restB 7 17 = true := by decide +kernel
theorem case_7_18 : restB 7 18 = true := by decide +kernel
theorem case_8_0 : restB 8 0 = true := by decide +kernel
theorem case_8_1 : restB 8 1 = true := by decide +kernel
theorem case_8_2 : restB 8 2 = true := by decide +kernel
theorem case_8_3 : restB 8 3 = true := by decide +kernel
theorem case_8_4 : restB 8 4 = true := by decide +kernel
theorem case_8_5 : restB 8 5 = true := by decide +kernel
theorem case_8_6 : restB 8 6 = true := by decide +kernel
theorem case_8_7 : restB 8 7 = true := by decide +kernel
theorem case_8_8 : restB 8 8 = true := by decide +kernel
theorem case_8_9 : restB 8 9 = true := by decide +kernel
theorem case_8_10 : restB 8 10 = true := by decide +kernel
theorem case_8_11 : restB 8 11 = true := by decide +kernel
theorem case_8_12 : restB 8 12 = true := by decide +kernel
theorem case_8_13 : restB 8 13 = true := by decide +kernel
theorem case_8_14 : restB 8 14 = true := by decide +kernel
theorem case_8_15 : restB 8 15 = true := by decide +kernel
theorem case_8_16 : restB 8 16 = true := by decide +kernel
theorem case_8_17 : restB 8 17 = true := by decide +kernel
theorem case_8_18 : restB 8 18 = true := by decide +kernel
theorem cases_ : ∀ n, n < 9 → ∀ m, m < 19 → restB n m = true
  | 0, _, 0, _ => case_0_0
  | 0, _, 1, _ => case_0_1
  | 0, _, 2, _ => case_0_2
  | 0, _, 3, _ => case_0_3
  | 0, _, 4, _ => case_0_4
  | 0, _, 5, _ => case_0_5
  | 0, _, 6, _ => case_0_6
  | 0, _, 7, _ => case_0_7
  | 0, _, 8, _ => case_0_8
  | 0, _, 9, _ => case_0_9
  | 0, _, 10, _ => case_0_10
  | 0, _, 11, _ => case_0_11
  | 0, _, 12, _ => case_0_12
  | 0, _, 13, _ => case_0_13
  | 0, _, 14, _ => case_0_14
  | 0, _, 15, _ => case_0_15
  | 0, _, 16, _ => case_0_16
  | 0, _, 17, _ => case_0_17
  | 0, _, 18, _ => case_0_18
  | 1, _, 0, _ => case_1_0
  | 1, _, 1, _ => case_1_1
  | 1, _, 2, _ => case_1_2
  | 1, _, 3, _ => case_1_3
  | 1, _, 4, _ => case_1_4
  | 1, _, 5, _ => case_1_5
  | 1, _, 6, _ => case_1_6
  | 1, _, 7, _ => case_1_7
  | 1, _, 8, _ => case_1_8
  | 1, _, 9, _ => case_1_9
  | 1, _, 10, _ => case_1_10
  | 1, _, 11, _ => case_1_11
  | 1, _, 12, _ => case_1_12
  | 1, _, 13, _ => case_1_13
  | 1, _, 14, _ => case_1_14
  | 1, _, 15, _ => case_1_15
  | 1, _, 16, _ => case_1_16
  | 1, _, 17, _ => case_1_17
  | 1, _, 18, _ => case_1_18
  | 2, _, 0, _ => case_2_0
  | 2, _, 1, _ => case_2_1
  | 2, _, 2, _ => case_2_2
  | 2, _, 3, _ => case_2_3
  | 2, _, 4, _ => case_2_4
  | 2, _, 5, _ => case_2_5
  | 2, _, 6, _ => case_2_6
  | 2, _, 7, _ => case_2_7
  | 2, _, 8, _ => case_2_8
  | 2, _, 9, _ => case_2_9
  | 2, _, 10, _ => case_2_10
  | 2, _, 11, _ => case_2_11
  | 2, _, 12, _ => case_2_12
  | 2, _, 13, _ => case_2_13
  | 2, _, 14, _ => case_2_14
  | 2, _, 15, _ => case_2_15
  | 2, _, 16, _ => case_2_16
  | 2, _, 17, _ => case_2_17
  | 2, _, 18, _ => case_2_18
  | 3, _, 0, _ => case_3_0
  | 3, _, 1, _ => case_3_1
  | 3, _, 2, _ => case_3_2
  | 3, _, 3, _ => case_3_3
  | 3, _, 4, _ => case_3_4
  | 3, _, 5, _ => case_3_5
  | 3, _, 6, _ => case_3_6
  | 3, _, 7, _ => case_3_7
  | 3, _, 8, _ => case_3_8
  | 3, _, 9, _ => case_3_9
  | 3, _, 10, _ => case_3_10
  | 3, _, 11, _ => case_3_11
  | 3, _, 12, _ => case_3_12
  | 3, _, 13, _ => case_3_13
  | 3, _, 14, _ => case_3_14
  | 3, _, 15, _ => case_3_15
  | 3, _, 16, _ => case_3_16
  | 3, _, 17, _ => case_3_17
  | 3, _, 18, _ => case_3_18
  | 4, _, 0, _ => case_4_0
  | 4, _, 1, _ => case_4_1
  | 4, _, 2, _ => case_4_2
  | 4, _, 3, _ => case_4_3
  | 4, _, 4, _ => case_4_4
  | 4, _, 5, _ => case_4_5
  | 4, _, 6, _ => case_4_6
  | 4, _, 7, _ => case_4_7
  | 4, _, 8, _ => case_4_8
  | 4, _, 9, _ => case_4_9
  | 4, _, 10, _ => case_4_10
  | 4, _, 11, _ => case_4_11
  | 4, _, 12, _ => case_4_12
  | 4, _, 13, _ => case_4_13
  | 4, _, 14, _ => case_4_14
  | 4, _, 15, _ => case_4_15
  | 4, _, 16, _ => case_4_16
  | 4, _, 17, _ => case_4_17
  | 4, _, 18, _ => case_4_18
  | 5, _, 0, _ => case_5_0
  | 5, _, 1, _ => case_5_1
  | 5, _, 2, _ => case_5_2
  | 5, _, 3, _ => case_5_3
  | 5, _, 4, _ => case_5_4
  | 5, _, 5, _ => case_5_5
  | 5, _, 6, _ => case_5_6
  | 5, _, 7, _ => case_5_7
  | 5, _, 8, _ => case_5_8
  | 5, _, 9, _ => case_5_9
  | 5, _, 10, _ => case_5_10
  | 5, _, 11, _ => case_5_11
  | 5, _, 12, _ => case_5_12
  | 5, _, 13, _ => case_5_13
  | 5, _, 14, _ => case_5_14
  | 5, _, 15, _ => case_5_15
  | 5, _, 16, _ => case_5_16
  | 5, _, 17, _ => case_5_17
  | 5, _, 18, _ => case_5_18
  | 6, _, 0, _ => case_6_0
  | 6, _, 1, _ => case_6_1
  | 6, _, 2, _ => case_6_2
  | 6, _, 3, _ => case_6_3
  | 6, _, 4, _ => case_6_4
  | 6, _, 5, _ => case_6_5
  | 6, _, 6, _ => case_6_6
  | 6, _, 7, _ => case_6_7
  | 6, _, 8, _ => case_6_8
  | 6, _, 9, _ => case_6_9
  | 6, _, 10, _ => case_6_10
  | 6, _, 11, _ => case_6_11
  | 6, _, 12, _ => case_6_12
  | 6, _, 13, _ => case_6_13
  | 6, _, 14, _ => case_6_14
  | 6, _, 15, _ => case_6_15
  | 6, _, 16, _ => case_6_16
  | 6, _, 17, _ => case_6_17
  | 6, _, 18, _ => case_6_18
  | 7, _, 0, _ => case_7_0
  | 7, _, 1, _ => case_7_1
  | 7, _, 2, _ => case_7_2
  | 7, _, 3, _ => case_7_3
  | 7, _, 4, _ => case_7_4
  | 7, _, 5, _ => case_7_5
  | 7, _, 6, _ => case_7_6
  | 7, _, 7, _ => case_7_7
  | 7, _, 8, _ => case_7_8
  | 7, _, 9, _ => case_7_9
  | 7, _, 10, _ => case_7_10
  | 7, _, 11, _ => case_7_11
  | 7, _, 12, _ => case_7_12
  | 7, _, 13, _ => case_7_13
  | 7, _, 14, _ => case_7_14
  | 7, _, 15, _ => case_7_15
  | 7, _, 16, _ => case_7_16
  | 7, _, 17, _ => case_7_17
  | 7, _, 18, _ => case_7_18
  | 8, _, 0, _ => case_8_0
  | 8, _, 1, _ => case_8_1
  | 8, _, 2, _ => case_8_2
  | 8, _, 3, _ => case_8_3
  | 8, _, 4, _ => case_8_4
  | 8, _, 5, _ => case_8_5
  | 8, _, 6, _ => case_8_6
  | 8, _, 7, _ => case_8_7
  | 8, _, 8, _ => case_8_8
  | 8, _, 9, _ => case_8_9
  | 8, _, 10, _ => case_8_10
  | 8, _, 11, _ => case_8_11
  | 8, _, 12, _ => case_8_12
  | 8, _, 13, _ => case_8_13
  | 8, _, 14, _ => case_8_14
  | 8, _, 15, _ => case_8_15
  | 8, _, 16, _ => case_8_16
  | 8, _, 17, _ => case_8_17
  | 8, _, 18, _ => case_8_18
  | n + 9, h, _, _ => absurd h (by omega)
  | 0, _, m + 19, h => absurd h (by omega)
  | 1, _, m + 19, h => absurd h (by omega)
  | 2, _, m + 19, h => absurd h (by omega)
  | 3, _, m + 19, h => absurd h (by omega)
  | 4, _, m + 19, h => absurd h (by omega)
  | 5, _, m + 19, h => absurd h (by omega)
  | 6, _, m + 19, h => absurd h (by omega)
  | 7, _, m + 19, h => absurd h (by omega)
  | 8, _, m + 19, h => absurd h (by omega)
end Ear
open PySem PySem.W PySem.Calls PyProof.Rows
theorem PySem.Challenge.cw_earstogether_k03_rows_by_hand_holds : PySem.Challenge.rw_earstogether_k03_rows_by_hand.Holds := by
  w_on; o_law
  refine HandSHeadRun.head_imp (r := OpenLaw.row PySem.Challenge.rw_earstogether_k03_rows_by_hand) (q := view (OpenLaw.row PySem.Challenge.rw_earstogether_k03_rows_by_hand).prog [0, 65]) (H := Ear.hk) (ob := Ear.ob) (M := 20000) (loose := Ear.names) (d := HandSHeadRun.topDef (OpenLaw.row PySem.Challenge.rw_earstogether_k03_rows_by_hand).prog 65) (kwd := [])
    Ear.ob_eq Ear.run (by kernel_rfl) (by kernel_rfl) (by kernel_rfl) (by rfl) (by first | assumption | decide +kernel) (by decide +kernel) ⟨rfl, rfl, rfl, rfl, rfl, by decide +kernel⟩ ?hw ?hc
  case hw => w_witness2
  case hc =>
    refine Ear.end_walk (l := PySem.Challenge.rw_earstogether_k03_rows_by_hand) (n := 63) (lv := 8) (x := "script") rfl (by decide) (by kernel_rfl) ⟨rfl, by decide, by decide⟩ ?F
    intro w mg fa h Y G q
    obtain ⟨K, inK, c, e⟩ := Y
    have q2 : mg ("law" : PySem.Str) = some (.ref fa) := by
      have z : (HandSHeadRun.topDef (OpenLaw.row PySem.Challenge.rw_earstogether_k03_rows_by_hand).prog 65).name = ("law" : PySem.Str) := by kernel_rfl
      rw [← z]
      exact q
    obtain ⟨fd, hb, hF⟩ := Ear.facts (P := (PySem.Challenge.rw_earstogether_k03_rows_by_hand).prog) (w := w) (fun n hn => Ear.allN_of fun m hm => Ear.cases_ n hn m hm) inK G q2 c e
    exact ⟨K, fd, Ear.spLaw K, inK, hb, fun H a ns hl hS => ⟨a, ns, rfl, hS, by omega, fun _ => rfl⟩, hF⟩
