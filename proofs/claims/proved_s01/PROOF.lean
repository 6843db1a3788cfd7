import PyProof.Rows.All
import Wide.All
import OpenK.AllK
import Wide.FinOn
import KE.KLam
import KE.KSortKey
import HandS.ForMost
import HandS.Lambda
import HandS.SortKw
import KE.GoesZip
import KE.GoesEnumKw
import KE.GoesMore
import KE.DatumOrd
import HandS.Zip
import HandS.Walk
import HandS.CallLocal
import HandS.Strs
import Open.SpecLaws
import KE.OsGo
import KE.KStateDown
import Lean
import HandS.Spec
import HandS.Defaults
import HandS.Head0
import HandS.Head1
import HandS.Head2
import HandS.Head3
import HandS.Head4
import HandS.HeadHook4
import PySem.Challenge.RW_teamrounds_s01_answers
set_option Elab.async false
namespace TR
open Vbbral

/-! ### scores -/
theorem filter_range_len (p : Nat → Bool) : ∀ (n : Nat), (∀ i j, i ≤ j → j < n → p j = true → p i = true) → ∀ v : Nat, v < ((List.range n).filter p).length ↔ v < n ∧ p v = true
  | 0, _, v => by simp
  | n + 1, down, v => by
    have ih := filter_range_len p n (fun i j h1 h2 h3 => down i j h1 (by omega) h3) v
    rw [List.range_succ, List.filter_append, List.length_append]
    cases hp : p n with
    | true =>
      have all : (List.range n).filter p = List.range n := List.filter_eq_self.mpr fun a ha => down a n (by have := List.mem_range.mp ha; omega) (by omega) hp
      rw [all, List.length_range, List.filter_cons_of_pos hp]
      constructor
      · intro h
        have h2 : v < n + 1 := by simpa using h
        exact ⟨h2, down v n (by omega) (by omega) hp⟩
      · intro h
        simpa using h.1
    | false =>
      have e : List.filter p [n] = [] := by simp [hp]
      rw [e, List.length_nil, Nat.add_zero, ih]
      constructor
      · intro h
        exact ⟨by omega, h.2⟩
      · intro h
        refine ⟨?_, h.2⟩
        rcases Nat.lt_or_ge v n with q | q
        · exact q
        · have : v = n := by omega
          rw [this, hp] at h
          exact absurd h.2 (by decide)
theorem margin_lt (m v : Nat) : v < ((List.range 11).filter fun v => decide (v * v ≤ 4 * m)).length ↔ v < 11 ∧ v * v ≤ 4 * m := by
  have h := filter_range_len (fun v => decide (v * v ≤ 4 * m)) 11 (fun i j h1 _ h3 => by
    have h3 := of_decide_eq_true h3
    exact decide_eq_true (Nat.le_trans (Nat.mul_le_mul h1 h1) h3)) v
  simpa using h
theorem margin_iff {m v : Nat} (hv : v ≤ 10) : v ≤ marginOf m ↔ v * v ≤ 4 * m := by
  have h0 := margin_lt m 0
  have h := margin_lt m v
  unfold marginOf
  have h1 : 0 < ((List.range 11).filter fun v => decide (v * v ≤ 4 * m)).length := h0.mpr ⟨by omega, by omega⟩
  constructor
  · intro q
    exact (h.mp (by omega)).2
  · intro q
    have := h.mpr ⟨by omega, q⟩
    omega
theorem margin_le (m : Nat) : marginOf m ≤ 10 := by
  have h := margin_lt m 11
  unfold marginOf
  have : ¬ 11 < ((List.range 11).filter fun v => decide (v * v ≤ 4 * m)).length := fun q => by
    have := (h.mp q).1
    omega
  omega
theorem margin_step {m v : Nat} (hv : v < 10) (h : (v + 1) * (v + 1) ≤ 4 * m) : v + 1 ≤ marginOf m := (margin_iff (by omega)).mpr h
theorem margin_stop {m v : Nat} (hv : v ≤ marginOf m) (h : ¬ (v < 10 ∧ (v + 1) * (v + 1) ≤ 4 * m)) : v = marginOf m := by
  have h10 := margin_le m
  rcases Nat.lt_or_ge v 10 with q | q
  · rcases Nat.lt_or_ge v (marginOf m) with p | p
    · exact absurd ⟨q, (margin_iff (by omega)).mp p⟩ h
    · omega
  · omega
theorem vp_int (d : Int) : ((vp d : Nat) : Int) = if d ≥ 0 then 10 + (marginOf d.natAbs : Int) else 10 - (marginOf d.natAbs : Int) := by
  have h := margin_le d.natAbs
  unfold vp
  by_cases c : d < 0
  · rw [if_pos c, if_neg (by omega)]
    omega
  · rw [if_neg c, if_pos (by omega)]
    omega
theorem vp_le (d : Int) : vp d ≤ 20 := by
  have h := margin_le d.natAbs
  unfold vp
  split <;> omega
theorem imp_int (d : Int) : imp d = if d ≥ 0 then ((STEPS.filter fun s => decide (s ≤ d.natAbs)).length : Int) else -((STEPS.filter fun s => decide (s ≤ d.natAbs)).length : Int) := by
  unfold imp signed impOf
  by_cases c : d < 0
  · rw [if_pos c, if_neg (by omega)]
  · rw [if_neg c, if_pos (by omega)]

/-! ### pairings -/
def Wy (may : Nat → Nat → Bool) (l : List Nat) : List Pairs := pairings may l.length l
theorem picks_len : ∀ (r : List Nat) (p : Nat × List Nat), p ∈ picks r → p.2.length + 1 = r.length
  | [], p, h => by simp [picks] at h
  | x :: r, p, h => by
    unfold picks at h
    rcases List.mem_cons.mp h with e | h
    · rw [e]
      rfl
    · obtain ⟨q, hq, rfl⟩ := List.mem_map.mp h
      have := picks_len r q hq
      show (x :: q.2).length + 1 = (x :: r).length
      simp only [List.length_cons]
      omega
theorem flatMap_congr_mem {α β : Type} {l : List α} {f g : α → List β} (h : ∀ x ∈ l, f x = g x) : l.flatMap f = l.flatMap g := by
  induction l with
  | nil => rfl
  | cons a l ih =>
    rw [List.flatMap_cons, List.flatMap_cons, h a (List.mem_cons_self ..), ih fun x hx => h x (List.mem_cons_of_mem _ hx)]
theorem fuel (may : Nat → Nat → Bool) : ∀ (k n m : Nat) (l : List Nat), l.length ≤ k → l.length ≤ n → l.length ≤ m → pairings may n l = pairings may m l
  | _, n, m, [], _, _, _ => by
    cases n <;> cases m <;> rfl
  | 0, _, _, _ :: _, h, _, _ => by simp at h
  | k + 1, 0, _, _ :: _, _, h, _ => by simp at h
  | k + 1, n + 1, 0, _ :: _, _, _, h => by simp at h
  | k + 1, n + 1, m + 1, x :: r, h1, h2, h3 => by
    show ((picks r).filter fun p => may x p.1).flatMap (fun p => (pairings may n p.2).map fun l => (x, p.1) :: l) = ((picks r).filter fun p => may x p.1).flatMap (fun p => (pairings may m p.2).map fun l => (x, p.1) :: l)
    refine flatMap_congr_mem fun p hp => ?_
    have hl := picks_len r p (List.mem_filter.mp hp).1
    simp only [List.length_cons] at h1 h2 h3
    rw [fuel may k n m p.2 (by omega) (by omega) (by omega)]
theorem filter_ne_self {r : List Nat} {x : Nat} (h : x ∉ r) : r.filter (· != x) = r := List.filter_eq_self.mpr fun a ha => by
  have : a ≠ x := fun e => h (e ▸ ha)
  simpa using this
theorem picks_nodup : ∀ (r : List Nat), r.Nodup → picks r = r.map fun y => (y, r.filter (· != y))
  | [], _ => rfl
  | x :: r, h => by
    have hx : x ∉ r := (List.nodup_cons.mp h).1
    have hr := (List.nodup_cons.mp h).2
    rw [picks, picks_nodup r hr, List.map_map, List.map_cons]
    congr 1
    · rw [List.filter_cons_of_neg (by simp), filter_ne_self hx]
    · refine List.map_congr_left fun y hy => ?_
      have : x ≠ y := fun e => hx (e ▸ hy)
      show (y, x :: r.filter (· != y)) = (y, (x :: r).filter (· != y))
      rw [List.filter_cons_of_pos (by simpa using this)]
theorem wy_nil (may : Nat → Nat → Bool) : Wy may [] = [[]] := rfl
theorem flatMap_map' {α β γ : Type} (f : α → β) (g : β → List γ) : ∀ l : List α, (l.map f).flatMap g = l.flatMap fun x => g (f x)
  | [] => rfl
  | a :: l => by rw [List.map_cons, List.flatMap_cons, List.flatMap_cons, flatMap_map' f g l]
theorem wy_cons {may : Nat → Nat → Bool} {x : Nat} {r : List Nat} (h : r.Nodup) : Wy may (x :: r) = (r.filter (may x)).flatMap fun y => (Wy may (r.filter (· != y))).map ((x, y) :: ·) := by
  show ((picks r).filter fun p => may x p.1).flatMap (fun p => (pairings may r.length p.2).map fun l => (x, p.1) :: l) = _
  rw [picks_nodup r h, List.filter_map, flatMap_map']
  refine flatMap_congr_mem fun y hy => ?_
  have hy := (List.mem_filter.mp hy).1
  show (pairings may r.length (r.filter (· != y))).map _ = _
  have hl : (r.filter (· != y)).length ≤ r.length := List.length_filter_le ..
  rw [fuel may r.length r.length (r.filter (· != y)).length _ hl hl (Nat.le_refl _)]
  rfl

/-! ### the cheapest -/
abbrev Fnd := Option (Nat × Pairs)
def chp (c : Pairs → Nat) : List Pairs → Fnd → Fnd
  | [], b => b
  | l :: r, b => match b with
    | none => chp c r (some (c l, l))
    | some m => if c l < m.1 then chp c r (some (c l, l)) else chp c r b
theorem cheapest_eq (pts : List Nat) : ∀ (L : List Pairs) (b : Fnd), cheapest pts L b = chp (costBy pts) L b
  | [], _ => rfl
  | l :: r, none => by
    show cheapest pts r _ = chp _ r _
    exact cheapest_eq pts r _
  | l :: r, some m => by
    show (if costBy pts l < m.1 then cheapest pts r _ else cheapest pts r _) = (if costBy pts l < m.1 then chp _ r _ else chp _ r _)
    rw [cheapest_eq pts r, cheapest_eq pts r]
def mg2 : Fnd → Fnd → Fnd
  | b, none => b
  | none, some m => some m
  | some b, some m => if m.1 < b.1 then some m else some b
theorem mg2_none (b : Fnd) : mg2 none b = b := by cases b <;> rfl
theorem mg2_none_r (b : Fnd) : mg2 b none = b := by cases b <;> rfl
theorem mg2_assoc (a b d : Fnd) : mg2 (mg2 a b) d = mg2 a (mg2 b d) := by
  rcases a with _ | a
  · rw [mg2_none, mg2_none]
  · rcases d with _ | d
    · rw [mg2_none_r, mg2_none_r]
    · rcases b with _ | b
      · rw [mg2_none, mg2_none_r]
      · show mg2 (if b.1 < a.1 then some b else some a) (some d) = mg2 (some a) (if d.1 < b.1 then some d else some b)
        by_cases h1 : b.1 < a.1 <;> by_cases h2 : d.1 < b.1
        · rw [if_pos h1, if_pos h2]
          show (if d.1 < b.1 then some d else some b) = (if d.1 < a.1 then some d else some a)
          rw [if_pos h2, if_pos (by omega)]
        · rw [if_pos h1, if_neg h2]
          show (if d.1 < b.1 then some d else some b) = (if b.1 < a.1 then some b else some a)
          rw [if_neg h2, if_pos h1]
        · rw [if_neg h1, if_pos h2]
        · rw [if_neg h1, if_neg h2]
          show (if d.1 < a.1 then some d else some a) = (if b.1 < a.1 then some b else some a)
          rw [if_neg (by omega), if_neg h1]
theorem chp_mg (c : Pairs → Nat) : ∀ (L : List Pairs) (b : Fnd), chp c L b = mg2 b (chp c L none)
  | [], b => (mg2_none_r b).symm
  | l :: r, none => (mg2_none _).symm
  | l :: r, some m => by
    show (if c l < m.1 then chp c r (some (c l, l)) else chp c r (some m)) = mg2 (some m) (chp c r (some (c l, l)))
    rw [chp_mg c r (some (c l, l)), chp_mg c r (some m), ← mg2_assoc]
    show _ = mg2 (if c l < m.1 then some (c l, l) else some m) _
    split <;> rfl
theorem chp_append (c : Pairs → Nat) : ∀ (L M : List Pairs) (b : Fnd), chp c (L ++ M) b = chp c M (chp c L b)
  | [], _, _ => rfl
  | l :: r, M, none => chp_append c r M _
  | l :: r, M, some m => by
    show (if c l < m.1 then chp c (r ++ M) _ else chp c (r ++ M) _) = chp c M (if c l < m.1 then chp c r _ else chp c r _)
    rw [chp_append c r M, chp_append c r M]
    split <;> rfl
theorem chp_map_cons {c : Pairs → Nat} {p : Nat × Nat} {k : Nat} (hc : ∀ l, c (p :: l) = k + c l) : ∀ (L : List Pairs) (b : Fnd),
    chp c (L.map (p :: ·)) (b.map fun m => (k + m.1, p :: m.2)) = (chp c L b).map fun m => (k + m.1, p :: m.2)
  | [], _ => rfl
  | l :: r, none => by
    show chp c (r.map (p :: ·)) (some (c (p :: l), p :: l)) = (chp c r (some (c l, l))).map _
    rw [hc l]
    exact chp_map_cons hc r (some (c l, l))
  | l :: r, some m => by
    show (if c (p :: l) < k + m.1 then chp c (r.map (p :: ·)) (some (c (p :: l), p :: l)) else chp c (r.map (p :: ·)) (some (k + m.1, p :: m.2))) = (if c l < m.1 then chp c r (some (c l, l)) else chp c r (some m)).map _
    rw [hc l]
    by_cases h : c l < m.1
    · rw [if_pos (by omega), if_pos h]
      exact chp_map_cons hc r (some (c l, l))
    · rw [if_neg (by omega), if_neg h]
      exact chp_map_cons hc r (some m)
theorem chp_flat (c : Pairs → Nat) (f : Nat → Bool) (g : Nat → List Pairs) : ∀ (r : List Nat) (b : Fnd), chp c ((r.filter f).flatMap g) b = r.foldl (fun b y => if f y = true then mg2 b (chp c (g y) none) else b) b
  | [], _ => rfl
  | y :: r, b => by
    rw [List.foldl_cons]
    by_cases h : f y = true
    · rw [List.filter_cons_of_pos h, List.flatMap_cons, chp_append, chp_flat c f g r, if_pos h, ← chp_mg]
    · rw [List.filter_cons_of_neg h, chp_flat c f g r, if_neg h]
theorem total_acc : ∀ (l : List Nat) (a : Nat), l.foldl (fun a b => a + b) a = a + total l
  | [], a => rfl
  | x :: l, a => by
    unfold total
    rw [List.foldl_cons, List.foldl_cons, total_acc l, total_acc l]
    omega
theorem total_nil : total [] = 0 := rfl
theorem total_cons (x : Nat) (l : List Nat) : total (x :: l) = x + total l := by
  show (x :: l).foldl (fun a b => a + b) 0 = _
  rw [List.foldl_cons, total_acc]
  omega
theorem total_append (l m : List Nat) : total (l ++ m) = total l + total m := by
  induction l with
  | nil => simp [total_nil]
  | cons x l ih => rw [List.cons_append, total_cons, total_cons, ih]; omega
def costW (w : Nat → Nat → Nat) (l : Pairs) : Nat := total (l.map fun p => w p.1 p.2)
theorem costW_cons (w : Nat → Nat → Nat) (x y : Nat) (l : Pairs) : costW w ((x, y) :: l) = w x y + costW w l := total_cons ..
def best (may : Nat → Nat → Bool) (w : Nat → Nat → Nat) (l : List Nat) : Fnd := chp (costW w) (Wy may l) none
theorem best_nil (may : Nat → Nat → Bool) (w : Nat → Nat → Nat) : best may w [] = some (0, []) := rfl
def bstep (may : Nat → Nat → Bool) (w : Nat → Nat → Nat) (x : Nat) (r : List Nat) (b : Fnd) (y : Nat) : Fnd :=
  if may x y = true then mg2 b ((best may w (r.filter (· != y))).map fun m => (w x y + m.1, (x, y) :: m.2)) else b
theorem best_cons {may : Nat → Nat → Bool} {w : Nat → Nat → Nat} {x : Nat} {r : List Nat} (h : r.Nodup) : best may w (x :: r) = r.foldl (bstep may w x r) none := by
  unfold best
  rw [wy_cons h, chp_flat]
  congr 1
  funext b y
  unfold bstep best
  rw [← chp_map_cons (c := costW w) (p := (x, y)) (k := w x y) (costW_cons w x y)]
  rfl
def cnt (may : Nat → Nat → Bool) (l : List Nat) : Nat := (Wy may l).length
theorem cnt_nil (may : Nat → Nat → Bool) : cnt may [] = 1 := rfl
def cstep (may : Nat → Nat → Bool) (x : Nat) (r : List Nat) (n : Nat) (y : Nat) : Nat := if may x y = true then n + cnt may (r.filter (· != y)) else n
theorem len_flat {may : Nat → Nat → Bool} {x : Nat} {q : List Nat} : ∀ (r : List Nat) (n : Nat), n + ((r.filter (may x)).flatMap fun y => (Wy may (q.filter (· != y))).map ((x, y) :: ·)).length = r.foldl (cstep may x q) n
  | [], _ => rfl
  | y :: r, n => by
    rw [List.foldl_cons, ← len_flat r]
    unfold cstep
    by_cases h : may x y = true
    · rw [List.filter_cons_of_pos h, List.flatMap_cons, List.length_append, if_pos h, List.length_map]
      unfold cnt
      omega
    · rw [List.filter_cons_of_neg h, if_neg h]
theorem cnt_cons {may : Nat → Nat → Bool} {x : Nat} {r : List Nat} (h : r.Nodup) : cnt may (x :: r) = r.foldl (cstep may x r) 0 := by
  rw [← len_flat]
  unfold cnt
  rw [wy_cons h, Nat.zero_add]
/-- what is found, none iff there is no pairing -/
theorem best_none {may : Nat → Nat → Bool} {w : Nat → Nat → Nat} {l : List Nat} : best may w l = none ↔ Wy may l = [] := by
  unfold best
  cases h : Wy may l with
  | nil => simp [chp]
  | cons a r =>
    have : ∀ (r : List Pairs) (m : Nat × Pairs), chp (costW w) r (some m) ≠ none := fun r => by
      induction r with
      | nil => intro m; simp [chp]
      | cons l r ih =>
        intro m
        show (if costW w l < m.1 then chp (costW w) r (some (costW w l, l)) else chp (costW w) r (some m)) ≠ none
        split
        · exact ih _
        · exact ih _
    simp only [reduceCtorEq, iff_false]
    exact this r _
theorem chp_zero {c : Pairs → Nat} (hc : ∀ l, c l = 0) (L : List Pairs) : chp c L none = L.head?.map fun l => (0, l) := by
  have keep : ∀ (r : List Pairs) (l : Pairs), chp c r (some (0, l)) = some (0, l) := fun r => by
    induction r with
    | nil => intro l; rfl
    | cons a r ih =>
      intro l
      show (if c a < 0 then chp c r (some (c a, a)) else chp c r (some (0, l))) = _
      rw [if_neg (by omega)]
      exact ih l
  cases L with
  | nil => rfl
  | cons a r =>
    show chp c r (some (c a, a)) = some (0, a)
    rw [hc a]
    exact keep r a
/-- every pair of what is found may be, and its teams are among the list -/
theorem wy_mem {may : Nat → Nat → Bool} : ∀ (k : Nat) (l : List Nat), l.length ≤ k → l.Nodup → ∀ q ∈ Wy may l, (q.flatMap fun p => [p.1, p.2]).Perm l ∧ (∀ p ∈ q, may p.1 p.2 = true) ∧ q.length * 2 = l.length
  | _, [], _, _, q, hq => by
    rw [wy_nil] at hq
    obtain rfl := List.mem_singleton.mp hq
    exact ⟨List.Perm.refl _, by simp, rfl⟩
  | 0, x :: r, h, _, _, _ => by simp at h
  | k + 1, x :: r, hk, hn, q, hq => by
    have hr := (List.nodup_cons.mp hn).2
    rw [wy_cons hr] at hq
    obtain ⟨y, hy, hq⟩ := List.mem_flatMap.mp hq
    obtain ⟨l, hl, rfl⟩ := List.mem_map.mp hq
    obtain ⟨hy1, hy2⟩ := List.mem_filter.mp hy
    have hl2 : (r.filter (· != y)).length ≤ r.length := List.length_filter_le ..
    obtain ⟨i1, i2, i3⟩ := wy_mem k (r.filter (· != y)) (by simp only [List.length_cons] at hk; omega) (hr.sublist List.filter_sublist) l hl
    have pm : (y :: r.filter (· != y)).Perm r := by
      have : r.filter (· != y) = r.erase y := by
        rw [List.Nodup.erase_eq_filter hr]
      rw [this]
      exact (List.perm_cons_erase hy1).symm
    refine ⟨?_, ?_, ?_⟩
    · show ((x :: y :: l.flatMap fun p => [p.1, p.2])).Perm (x :: r)
      exact ((List.Perm.cons _ i1).trans pm).cons x
    · intro p hp
      rcases List.mem_cons.mp hp with rfl | hp
      · exact hy2
      · exact i2 p hp
    · have e := pm.length_eq
      simp only [List.length_cons] at e ⊢
      omega
theorem chp_mem {c : Pairs → Nat} : ∀ (L : List Pairs) (b m), chp c L b = some m → b = some m ∨ m.2 ∈ L
  | [], b, m, h => .inl h
  | l :: r, none, m, h => by
    rcases chp_mem r _ m h with e | e
    · right
      obtain rfl := (Option.some.inj e).symm
      exact List.mem_cons_self ..
    · exact .inr (List.mem_cons_of_mem _ e)
  | l :: r, some b, m, h => by
    have h : (if c l < b.1 then chp c r (some (c l, l)) else chp c r (some b)) = some m := h
    split at h
    · rcases chp_mem r _ m h with e | e
      · right
        obtain rfl := (Option.some.inj e).symm
        exact List.mem_cons_self ..
      · exact .inr (List.mem_cons_of_mem _ e)
    · rcases chp_mem r _ m h with e | e
      · exact .inl e
      · exact .inr (List.mem_cons_of_mem _ e)
theorem best_mem {may : Nat → Nat → Bool} {w : Nat → Nat → Nat} {l : List Nat} {m : Nat × Pairs} (h : best may w l = some m) : m.2 ∈ Wy may l := by
  rcases chp_mem _ _ _ h with e | e
  · cases e
  · exact e

end TR

set_option Elab.async false
set_option linter.all false
set_option maxRecDepth 100000
set_option maxHeartbeats 4000000
/-! sorted(xs, key=lambda x: (i, j, k)): a rule -/
namespace TR
open PySem PySem.Spec PyProof.Rows L2 LamX
abbrev I3 : Type := Int × Int × Int
/-! ### the order of triples -/
def lex3 (p q : I3) : Bool := if p.1 = q.1 then (if p.2.1 = q.2.1 then decide (p.2.2 < q.2.2) else decide (p.2.1 < q.2.1)) else decide (p.1 < q.1)
theorem lex3_iff {p q : I3} : lex3 p q = true ↔ p.1 < q.1 ∨ (p.1 = q.1 ∧ (p.2.1 < q.2.1 ∨ (p.2.1 = q.2.1 ∧ p.2.2 < q.2.2))) := by
  unfold lex3
  by_cases e : p.1 = q.1
  · rw [if_pos e]
    by_cases e2 : p.2.1 = q.2.1
    · rw [if_pos e2, decide_eq_true_eq]
      omega
    · rw [if_neg e2, decide_eq_true_eq]
      omega
  · rw [if_neg e, decide_eq_true_eq]
    omega
theorem lex3_no {p q : I3} : lex3 p q = false ↔ ¬ (p.1 < q.1 ∨ (p.1 = q.1 ∧ (p.2.1 < q.2.1 ∨ (p.2.1 = q.2.1 ∧ p.2.2 < q.2.2)))) := by
  rw [← lex3_iff]
  cases lex3 p q <;> simp
theorem swo3 (kf : Value → I3) : SrtO.Swo fun v u => lex3 (kf v) (kf u) := by
  refine ⟨fun x y q => ?_, fun x y z q1 q2 => ?_⟩
  · have q := lex3_iff.mp q
    exact lex3_no.mpr (by omega)
  · have q1 := lex3_no.mp q1
    have q2 := lex3_no.mp q2
    exact lex3_no.mpr (by omega)
/-- a tuple of three ints -/
def Tri (h : Heap) (v : Value) (k : I3) : Prop := ∃ (a : Addr) (o : Obj) (t1 t2 t3 : Tok) (n : Nat), v = .ref a ∧ h.get? a = some o ∧ o.cls = .type "tuple" ∧ o.data = .seq #[.int k.1 t1, .int k.2.1 t2, .int k.2.2 t3] n
theorem Tri.inj {h : Heap} {v : Value} {k k' : I3} (x : Tri h v k) (y : Tri h v k') : k = k' := by
  obtain ⟨a, o, t1, t2, t3, n, rfl, e, _, d⟩ := x
  obtain ⟨a', o', u1, u2, u3, n', ea, e', _, d'⟩ := y
  cases ea
  rw [e] at e'
  cases e'
  rw [d] at d'
  obtain ⟨k1, k2, k3⟩ := k
  obtain ⟨l1, l2, l3⟩ := k'
  simp at d'
  obtain ⟨⟨⟨a1, _⟩, ⟨a2, _⟩, a3, _⟩, _⟩ := d'
  rw [a1, a2, a3]
open Classical in
noncomputable def triOf (h : Heap) (v : Value) : I3 := if x : ∃ k, Tri h v k then x.choose else (0, 0, 0)
theorem triOf_eq {h : Heap} {v : Value} {k : I3} (x : Tri h v k) : triOf h v = k := by
  have q : ∃ k, Tri h v k := ⟨k, x⟩
  unfold triOf
  rw [dif_pos q]
  exact q.choose_spec.inj x
section
variable {prog : Program} {w : World} {A : Around} {s : Shared}
theorem tri_cmp {P : Value → Prop} (hp : ∀ v, P v → ∃ k, Tri s.heap v k) : SrtO.Cmp prog w A s (tuples' true) (fun p => P p.1) (SrtO.lt2 fun v u => lex3 (triOf s.heap v) (triOf s.heap u)) := by
  intro p q hm hm'
  obtain ⟨k, h1⟩ := hp _ hm
  obtain ⟨k', h2⟩ := hp _ hm'
  show wpAny (model prog w) A (keyLt' (tuples' true) p.1 q.1) (fun r s' => s' = s ∧ r = lex3 (triOf s.heap p.1) (triOf s.heap q.1)) (fun _ _ => False) s
  rw [triOf_eq h1, triOf_eq h2]
  obtain ⟨x, y, z⟩ := k
  obtain ⟨x', y', z'⟩ := k'
  obtain ⟨a, o, t1, t2, t3, n, e, ho, hc, hd⟩ := h1
  obtain ⟨a', o', u1, u2, u3, n', e', ho', hc', hd'⟩ := h2
  rw [e, e']
  refine PySem.W.kat_lt ho hd ho' hd' ?_
  show PySem.W.KatLex prog w A true (decide (3 < 3)) _ [(.int x t1, .int x' u1), (.int y t2, .int y' u2), (.int z t3, .int z' u3)] 0 s
  refine PySem.W.kat_cons (SeqAt.EqAt.int_int x t1 x' u1 prog w _ _ ?_)
  refine PySem.W.kat_go (fun q1 => ?_) (fun q1 => ?_)
  · have ex : x = x' := by simpa using q1
    refine PySem.W.kat_yes (PySem.W.kat_cons (SeqAt.EqAt.int_int y t2 y' u2 prog w _ _ ?_))
    refine PySem.W.kat_go (fun q2 => ?_) (fun q2 => ?_)
    · have ey : y = y' := by simpa using q2
      refine PySem.W.kat_yes (PySem.W.kat_cons (SeqAt.EqAt.int_int z t3 z' u3 prog w _ _ ?_))
      have e3 : lex3 (x, y, z) (x', y', z') = decide (z < z') := (if_pos ex).trans (if_pos ey)
      refine PySem.W.kat_go (fun q3 => ?_) (fun q3 => ?_)
      · have ez : z = z' := by simpa using q3
        refine PySem.W.kat_yes (PySem.W.kat_nil ⟨rfl, ?_⟩)
        rw [e3, ez]
        exact (decide_eq_false (Int.lt_irrefl z')).symm ▸ rfl
      · exact PySem.W.kat_no (PySem.W.kat_one _ _ (PyProof.Rows.lt_int (show s = s ∧ decide (z < z') = lex3 (x, y, z) (x', y', z') from ⟨rfl, e3.symm⟩)))
    · have ey : ¬ y = y' := by simpa using q2
      have e3 : lex3 (x, y, z) (x', y', z') = decide (y < y') := (if_pos ex).trans (if_neg ey)
      exact PySem.W.kat_no (PySem.W.kat_one _ _ (PyProof.Rows.lt_int (show s = s ∧ decide (y < y') = lex3 (x, y, z) (x', y', z') from ⟨rfl, e3.symm⟩)))
  · have ex : ¬ x = x' := by simpa using q1
    have e3 : lex3 (x, y, z) (x', y', z') = decide (x < x') := if_neg ex
    exact PySem.W.kat_no (oneLt_int ⟨rfl, e3.symm⟩)
theorem tri_firsts {h : Heap} : ∀ (vs : List Value), (∀ v ∈ vs, ∃ k, Tri h v k) → ∃ fs : List Value, PySem.W.KatTups h vs fs ∧ fs.length = vs.length ∧ ∀ f ∈ fs, ∃ x t, f = Value.int x t
  | [], _ => ⟨[], PySem.W.KatTups.nil, rfl, fun _ z => absurd z (by simp)⟩
  | v :: vs, hp => by
    obtain ⟨fs, k1, k2, k3⟩ := tri_firsts vs fun u hu => hp u (List.mem_cons_of_mem _ hu)
    obtain ⟨k, a, o, t1, t2, t3, n, rfl, ho, hc, hd⟩ := hp v (List.mem_cons_self ..)
    refine ⟨.int k.1 t1 :: fs, PySem.W.KatTups.cons ho hc hd rfl k1, by simp [k2], fun f hf => ?_⟩
    rcases List.mem_cons.mp hf with rfl | hf
    · exact ⟨_, _, rfl⟩
    · exact k3 f hf
theorem tri_kind {vs : List Value} (h0 : 0 < vs.length) (hp : ∀ v ∈ vs, ∃ k, Tri s.heap v k) {Q : SortKind → Shared → Prop} {E : Value → Shared → Prop} (q : Q (tuples' true) s) : wpAny (model prog w) A (keyKind' vs.toArray) Q E s := by
  obtain ⟨fs, k1, k2, k3⟩ := tri_firsts vs hp
  refine PySem.W.kat_kind (T := .type "int") k1 (by omega) (fun f hf => ?_) (by rfl) ?_
  · obtain ⟨x, t, rfl⟩ := k3 f hf
    exact PySem.W.Looks.now
  · have e : (Value.type "int" != Value.type "tuple") = true := by first | decide +kernel | rfl
    rw [e]
    exact q
end
/-! ### untracked objects of ours -/
section
variable {X : Cx} {pins : List (Addr × Obj)} {σ : L2.St} {H : Hp} {s : Shared} {h' : Heap} {a : Addr}
/-- what ours a may be changed to, at any turn: it is none of what is known -/
def Ours (X : Cx) (pins : List (Addr × Obj)) (a : Addr) : Prop :=
  a ≠ X.env.locals ∧ a ∉ X.fs ∧ X.s_0.heap.objs.size ≤ a ∧ (∀ x c, X.env.cells.lookup x = some c → c ≠ a) ∧ ∀ p ∈ X.pn ++ pins, p.1 ≠ a
theorem Ours.new (I : Inv X pins σ H s) (hb : s.heap.objs.size ≤ a) : Ours X pins a := by
  obtain ⟨_, p2, p3, _, p5, p6⟩ := I.fpOk hb (I.hok.fresh hb)
  exact ⟨p2, p3, Nat.le_trans I.sz hb, p5, p6⟩
theorem inv_ours (I : Inv X pins σ H s) (o : Ours X pins a) (n : H a = none) {t' : Nat} (k : ∀ b u, b ≠ a → s.heap.get? b = some u → h'.get? b = some u) : Inv X pins σ H { s with heap := h', toks := t' } :=
  I.turned k n o.1 (.inr o.2.2.1) o.2.2.2.1 o.2.2.2.2
theorem inv_pin1 (I : Inv X pins σ H s) (o : Ours X pins a) (n : H a = none) {ob : Obj} (e : s.heap.get? a = some ob) (nc : ∀ v, ob.data ≠ .cell v) : Inv X ((a, ob) :: pins) σ H s :=
  I.pins_of fun p hp => by
    rcases List.mem_cons.mp hp with rfl | hp
    · exact ⟨e, n, o.1, o.2.1, nc⟩
    · exact I.pin p (List.mem_append_right _ hp)
theorem inv_unpin {p : Addr × Obj} (I : Inv X (p :: pins) σ H s) : Inv X pins σ H s := I.pins_of fun q hq => I.pin q (List.mem_append_right _ (List.mem_cons_of_mem _ hq))
theorem inv_pinned {p : Addr × Obj} (I : Inv X pins σ H s) (hp : p ∈ pins) : s.heap.get? p.1 = some p.2 ∧ H p.1 = none := ⟨(I.pin p (List.mem_append_right _ hp)).1, (I.pin p (List.mem_append_right _ hp)).2.1⟩
/-- ours is tracked from now on -/
theorem inv_adopt (I : Inv X pins σ H s) (o : Ours X pins a) (n : H a = none) {u : HO} {t' : Nat} (k : ∀ b v, b ≠ a → s.heap.get? b = some v → h'.get? b = some v) (new : ObjOk X.prog X.w (upd H a u) h' a u) :
    Inv X pins σ (upd H a u) { s with heap := h', toks := t' } := by
  have ne : ∀ b v, H b = some v → b ≠ a := fun b v e => ne_of_none e n
  have at_ : ∀ b v, H b = some v → upd H a u b = some v := fun b v e => by rw [upd_ne (ne b v e)]; exact e
  refine I.step (g' := s.gens) (d' := s.drawn) (ch := [a]) (fun b hb => ?_) (fun b v _ _ hc e _ => k b v (fun z => hc (by simp [z])) e) (fun b v _ _ hc e _ => ⟨v.slots, k b v (fun z => hc (by simp [z])) e⟩)
    (fun b v hc e hn => by rw [upd_ne (fun z => hc (by simp [z]))]; exact hn) (fun b v hc e => ⟨v, k b v (fun z => hc (by simp [z])) e⟩) (fun b xs e => at_ b _ e) (fun b v w e => at_ b _ e) (fun b ps e => ⟨#[], by rw [at_ b _ e]; simp⟩) (fun m hm => ?_) (fun b v e => ?_) I.bare
  · obtain rfl : b = a := by simpa using hb
    exact ⟨.inr o.2.2.1, o.1, o.2.2.2.1, o.2.2.2.2⟩
  · obtain ⟨ob, es, ep, ho, r⟩ := hm
    exact ⟨ob, es, ep, k _ ob (Ne.symm o.1) ho, r⟩
  · by_cases hb : b = a
    · subst hb
      rw [upd_same] at e
      cases e
      exact new
    · rw [upd_ne hb] at e
      refine (I.hok b v e).stay (fun d w hd q => k d w ?_ q) (fun d q => at_ d _ q) fun d xs q => at_ d _ q
      rcases hd with z | z
      · rw [z]
        exact hb
      · exact ne d _ z
end
/-! ### the keys, then the sort -/
section
variable {X : Cx} {pins : List (Addr × Obj)} {σ : L2.St} {H : Hp} {s : Shared} {A : Around} {f a : Addr} {fo : Obj} {vs : List Value} {kz : List I3}
/-- the call of f with each item, where the tracked grows alone -/
def KeyCalls (X : Cx) (pins : List (Addr × Obj)) (σ : L2.St) (H : Hp) (A : Around) (f : Addr) (fo : Obj) (vs : List Value) (kz : List I3) : Prop :=
  ∀ (i : Nat) (u : Value) (k : I3) (more : List (Addr × Obj)) (H' : Hp) (s' : Shared), vs[i]? = some u → kz[i]? = some k → Inv X (more ++ pins) σ H' s' → (∀ b o, H b = some o → H' b = some o) → s'.heap.get? f = some fo → H' f = none →
    codeAny (model X.prog X.w) A (.call (.ref f) ⟨[u], []⟩) (CR C8.CX0 X.stack X.prog X.w H' s' (fun v H'' => (∀ b o, H' b = some o → H'' b = some o) ∧ ∃ t, v = .ref t ∧ H'' t = some (.tup [.int k.1, .int k.2.1, .int k.2.2])) C8.E0) s'
def GotKeys (H : Hp) (kz : List I3) (i : Nat) (kA : Array Value) : Prop := kA.size = i ∧ ∀ j, j < i → ∃ t k, kA[j]? = some (.ref t) ∧ kz[j]? = some k ∧ H t = some (.tup [.int k.1, .int k.2.1, .int k.2.2])
theorem GotKeys.grow {H H' : Hp} {i : Nat} {kA : Array Value} (g : GotKeys H kz i kA) (k : ∀ b o, H b = some o → H' b = some o) : GotKeys H' kz i kA := ⟨g.1, fun j hj => by
  obtain ⟨t, q, e1, e2, e3⟩ := g.2 j hj
  exact ⟨t, q, e1, e2, k _ _ e3⟩⟩
theorem GotKeys.push {H : Hp} {i : Nat} {kA : Array Value} {t : Addr} {k : I3} (g : GotKeys H kz i kA) (hk : kz[i]? = some k) (ht : H t = some (.tup [.int k.1, .int k.2.1, .int k.2.2])) : GotKeys H kz (i + 1) (kA.push (.ref t)) := by
  refine ⟨by rw [Array.size_push, g.1], fun j hj => ?_⟩
  by_cases e : j = i
  · subst e
    exact ⟨t, k, by rw [← g.1]; simp, hk, ht⟩
  · obtain ⟨t', k', e1, e2, e3⟩ := g.2 j (by omega)
    exact ⟨t', k', by rw [Array.getElem?_push_lt (by rw [g.1]; omega)]; rw [← e1]; simp [g.1, show j < i by omega], e2, e3⟩
theorem not_cell {c : String} {xs : Array Value} {n : Nat} : ∀ v, (seqObj c xs n).data ≠ .cell v := fun v z => by cases z
/-- the turns: each item's key is pushed -/
theorem keys_loop {kS : Addr} {Q : PUnit → Shared → Prop} {E : Value → Shared → Prop} {ob : Obj} (I : Inv X ((kS, seqObj "list" #[] 0) :: (a, ob) :: pins) σ H s) (o : Ours X pins kS) (na : kS ≠ a)
    (hl : kz.length = vs.length) (hz : vs.length ≤ sizeLine) (C : KeyCalls X pins σ H A f fo vs kz) (hf : s.heap.get? f = some fo) (hfn : H f = none) (hfr : f ∉ frs X.stack) (nd : ∀ c xs n, fo ≠ seqObj c xs n) {body : Value → PUnit → Sem (ForInStep PUnit)}
    (hb : body = fun x _ => (do
      match ← (call (.ref f) [x]).attempt with
      | .ok k => Builtin.List.listUpdate (.ref kS) (·.push k)
                 return .yield ⟨⟩
      | .error e =>
        rule "list.sort.key-raised"
        let made ← Builtin.List.listItems (.ref kS)
        Builtin.List.listUpdate (.ref kS) fun _ => #[]
        letGo made.toList.reverse [e]
        Builtin.List.listUpdate (.ref a) fun _ => vs.toArray
        throw e))
    (h : ∀ s' H' kA c, Inv X ((kS, seqObj "list" kA c) :: (a, ob) :: pins) σ H' s' → (∀ b o, H b = some o → H' b = some o) → GotKeys H' kz vs.length kA → Q ⟨⟩ s') :
    wpAny (model X.prog X.w) A (forIn vs PUnit.unit body) Q E s := by
  refine PyProof.Rows.ksk_fold (fun i s' => ∃ H' kA c, Inv X ((kS, seqObj "list" kA c) :: (a, ob) :: pins) σ H' s' ∧ (∀ b o, H b = some o → H' b = some o) ∧ GotKeys H' kz i kA ∧ s'.heap.get? f = some fo ∧ H' f = none) vs 0 s ⟨H, #[], 0, I, fun _ _ e => e, ⟨rfl, fun j hj => absurd hj (by omega)⟩, hf, hfn⟩ ?_ ?_
  · rintro j x s' hx ⟨H', kA, c, I', kp, g, hf', hfn'⟩
    rw [Nat.zero_add] at g
    have hj : j < vs.length := (List.getElem?_eq_some_iff.mp hx).1
    obtain ⟨k, hk⟩ : ∃ k, kz[j]? = some k := ⟨_, List.getElem?_eq_getElem (by omega)⟩
    subst hb
    refine wpAny_bind (wpAny_attempt (wpAny_call (codeAny_mono (C j x k [(kS, seqObj "list" kA c), (a, ob)] H' s' hx hk I' kp hf' hfn') fun r s2 hq => ?_)))
    cases r with
    | error e => exact (show False from hq).elim
    | ok fl =>
      cases fl with
      | next => exact False.elim hq
      | brk => exact False.elim hq
      | cont => exact False.elim hq
      | ret u =>
        have hq0 : CE X.stack X.prog X.w H' s' _ u s2 := hq
        obtain ⟨v, H2, os2, ba2, un, ok2, rv, kp2, t, rfl, ht⟩ := hq0
        have I2 : Inv X ((kS, seqObj "list" kA c) :: (a, ob) :: pins) σ H2 s2 := I'.call' os2 un ok2 ba2 fun b z => absurd z (by simp)
        have hf2 := un.keep f fo hf' hfn' hfr (by simp)
        have hfn2 := un.free f fo hf' hfn' (by simp)
        obtain rfl : u = Value.ref t := rv
        dsimp only
        have p1 := inv_pinned I2 (p := (kS, seqObj "list" kA c)) (List.mem_cons_self ..)
        obtain ⟨c2, e2⟩ : ∃ c2, (s2.heap.update kS (Obj.mapSeq (·.push (.ref t)))).get? kS = some (seqObj "list" (kA.push (.ref t)) c2) := ⟨_, get?_update_seq p1.1 (·.push (.ref t))⟩
        have sb := Heap.SameBut.update s2.heap kS (Obj.mapSeq (·.push (.ref t)))
        have hs : kA.size ≤ sizeLine := by rw [g.1]; omega
        refine wpAny_bind (listUpdate_at p1.1 rfl ?_ hs (by rw [Array.size_push, g.1]; omega))
        refine wpAny_pure ⟨rfl, H2, kA.push (.ref t), c2, ?_, fun b o e => kp2 b o (kp b o e), ?_, ?_, hfn2⟩
        · have o2 : Ours X ((a, ob) :: pins) kS := ⟨o.1, o.2.1, o.2.2.1, o.2.2.2.1, fun p hp => by
            rcases List.mem_append.mp hp with hp | hp
            · exact o.2.2.2.2 p (List.mem_append_left _ hp)
            · rcases List.mem_cons.mp hp with rfl | hp
              · exact na.symm
              · exact o.2.2.2.2 p (List.mem_append_right _ hp)⟩
          exact inv_pin1 (inv_ours (t' := s2.toks) (inv_unpin I2) o2 p1.2 fun b u hb e => (sb.2 b hb).trans e) o2 p1.2 e2 not_cell
        · rw [Nat.zero_add]
          exact (g.grow kp2).push hk ht
        · refine (sb.2 f fun z => ?_).trans hf2
          rw [z, p1.1] at hf2
          exact nd _ _ _ (Option.some.inj hf2).symm
  · rintro s' ⟨H', kA, c, I', kp, g, _, _⟩
    rw [Nat.zero_add] at g
    exact h s' H' kA c I' kp g
/-- the pairs of keys and items, in the order that came out -/
theorem out_keys {h : Heap} {kA : Array Value} {vs : List Value} {kz : List I3} {xs : Array Keyed} (hk : ∀ (j : Nat) (k : I3), kz[j]? = some k → ∃ v, kA[j]? = some v ∧ Tri h v k) (hl : kA.size = kz.length) (hl2 : kz.length = vs.length)
    (hs : SrtO.Srtd (SrtO.lt2 fun v u => lex3 (triOf h v) (triOf h u)) xs.toList) (hp : xs.toList.Perm (kA.toList.zip vs)) :
    ∃ ps : List (I3 × Value), ps.Perm (kz.zip vs) ∧ ps.Pairwise (fun p q => lex3 q.1 p.1 = false) ∧ (xs.map (·.2)).toList = ps.map Prod.snd := by
  have e1 : (kA.toList.zip vs).map (fun p : Keyed => (triOf h p.1, p.2)) = kz.zip vs := by
    rw [show (fun p : Keyed => (triOf h p.1, p.2)) = Prod.map (triOf h) id from rfl, ← List.zip_map_left]
    congr 1
    apply List.ext_getElem?
    intro j
    rw [List.getElem?_map, Array.getElem?_toList]
    cases q : kz[j]? with
    | none =>
      have hj : kz.length ≤ j := List.getElem?_eq_none_iff.mp q
      rw [Array.getElem?_eq_none (by omega)]
      rfl
    | some k =>
      obtain ⟨v, e, ht⟩ := hk j k q
      rw [e]
      show some (triOf h v) = some k
      rw [triOf_eq ht]
  refine ⟨xs.toList.map fun p : Keyed => (triOf h p.1, p.2), ?_, List.pairwise_map.mpr hs, ?_⟩
  · rw [← e1]
    exact hp.map _
  · rw [Array.toList_map, List.map_map]
    rfl
theorem zip_arr (kA : Array Value) (vs : List Value) : (kA.zip vs.toArray).toList = kA.toList.zip vs := PyProof.Rows.ksk_zip kA vs
/-- what list.sort does behind the keys -/
theorem sort_end {kS : Addr} {kA : Array Value} {c e1 : Nat} {R : PySem.Fin → Shared → Prop} {E : Value → Shared → Prop} (I : Inv X ((kS, seqObj "list" kA c) :: (a, seqObj "list" #[] e1) :: pins) σ H s) (o : Ours X pins kS) (oa : Ours X pins a) (na : kS ≠ a)
    (hl : kz.length = vs.length) (hz : vs.length ≤ sizeLine) (g : GotKeys H kz vs.length kA)
    (h : ∀ (h' : Heap) (t n : Nat) (out : List Value) (ps : List (I3 × Value)), ps.Perm (kz.zip vs) → ps.Pairwise (fun p q => lex3 q.1 p.1 = false) → out = ps.map Prod.snd → Inv X pins σ H { s with heap := h', toks := t } → h'.get? a = some (seqObj "list" out.toArray n) → R (.done (.ret .none)) { s with heap := h', toks := t }) :
    wpAny (model X.prog X.w) A (PyProof.Rows.ksk_end a false vs.toArray e1 (.ref kS) kA) R E s := by
  have pk := inv_pinned I (p := (kS, seqObj "list" kA c)) (List.mem_cons_self ..)
  have pa := inv_pinned I (p := (a, seqObj "list" #[] e1)) (List.mem_cons_of_mem _ (List.mem_cons_self ..))
  have tri : ∀ (j : Nat) (k : I3), kz[j]? = some k → ∃ v, kA[j]? = some v ∧ Tri s.heap v k := fun j k q => by
    have hj : j < vs.length := by
      have := (List.getElem?_eq_some_iff.mp q).1
      omega
    obtain ⟨t, k', q1, q2, q3⟩ := g.2 j hj
    rw [q] at q2
    cases q2
    refine ⟨.ref t, q1, ?_⟩
    obtain ⟨_, its, r, ob, b1, b2, n, b3⟩ := (show ObjOk X.prog X.w H s.heap t (.tup [.int k.1, .int k.2.1, .int k.2.2]) from I.hok t _ q3)
    cases r with
    | cons r1 r =>
      cases r with
      | cons r2 r =>
        cases r with
        | cons r3 r =>
          cases r
          obtain ⟨t1, rfl⟩ := r1
          obtain ⟨t2, rfl⟩ := r2
          obtain ⟨t3, rfl⟩ := r3
          exact ⟨t, ob, t1, t2, t3, n, rfl, b1, b2, b3⟩
  have tri2 : ∀ v ∈ kA.toList, ∃ k, Tri s.heap v k := fun v hv => by
    obtain ⟨j, hj, e⟩ := List.mem_iff_getElem.mp hv
    have hj2 : j < kz.length := by
      rw [Array.length_toList, g.1] at hj
      omega
    obtain ⟨v', q1, q2⟩ := tri j kz[j] (List.getElem?_eq_getElem hj2)
    have e' : v' = v := by
      rw [← Array.getElem?_toList, List.getElem?_eq_getElem hj, e] at q1
      exact (Option.some.inj q1).symm
    exact ⟨_, e' ▸ q2⟩
  have tail : ∀ st : SortSt, SrtO.Srtd (SrtO.lt2 fun v u => lex3 (triOf s.heap v) (triOf s.heap u)) (arrOf st).toList → (arrOf st).toList.Perm (kA.toList.zip vs) → failedOf st = none →
      wpAny (model X.prog X.w) A (PyProof.Rows.ksk_tail a false e1 (.ref kS) st) R E s := by
    intro st h1 h2 h3
    obtain ⟨ps, k1, k2, k3⟩ := out_keys tri (by rw [g.1, hl]) hl h1 h2
    have hsz : (arrOf st).size = vs.length := by
      have q := h2.length_eq
      rw [List.length_zip, Array.length_toList, Array.length_toList, g.1, Nat.min_self] at q
      exact q
    have sb1 := Heap.SameBut.update s.heap kS (Obj.mapSeq fun _ => (#[] : Array Value))
    have pa1 : (s.heap.update kS (Obj.mapSeq fun _ => (#[] : Array Value))).get? a = some (seqObj "list" #[] e1) := (sb1.2 a na.symm).trans pa.1
    have sb2 := Heap.SameBut.update (s.heap.update kS (Obj.mapSeq fun _ => (#[] : Array Value))) a (Obj.mapSeq fun _ => (arrOf st).map (·.2))
    obtain ⟨c2, hc2⟩ : ∃ c2, ((s.heap.update kS (Obj.mapSeq fun _ => (#[] : Array Value))).update a (Obj.mapSeq fun _ => (arrOf st).map (·.2))).get? a = some (seqObj "list" ((arrOf st).map (·.2)) c2) := ⟨_, get?_update_seq pa1 fun _ => (arrOf st).map (·.2)⟩
    have oI : Ours X ((a, seqObj "list" #[] e1) :: pins) kS := ⟨o.1, o.2.1, o.2.2.1, o.2.2.2.1, fun p hp => by
      rcases List.mem_append.mp hp with hp | hp
      · exact o.2.2.2.2 p (List.mem_append_left _ hp)
      · rcases List.mem_cons.mp hp with rfl | hp
        · exact na.symm
        · exact o.2.2.2.2 p (List.mem_append_right _ hp)⟩
    have I1 : Inv X ((a, seqObj "list" #[] e1) :: pins) σ H { s with heap := s.heap.update kS (Obj.mapSeq fun _ => (#[] : Array Value)), toks := s.toks } := inv_ours (inv_unpin I) oI pk.2 fun b u hb e => (sb1.2 b hb).trans e
    have I2 : Inv X pins σ H { s with heap := (s.heap.update kS (Obj.mapSeq fun _ => (#[] : Array Value))).update a (Obj.mapSeq fun _ => (arrOf st).map (·.2)), toks := s.toks } := inv_ours (t' := s.toks) (inv_unpin I1) oa pa.2 fun b u hb e => (sb2.2 b hb).trans e
    unfold PyProof.Rows.ksk_tail
    dsimp only
    refine wpAny_bind (listUpdate_at pk.1 rfl ?_ (by rw [g.1]; exact hz) (Nat.zero_le _))
    refine wpAny_bind (wpAny_letGo ?_)
    refine wpAny_bind (seqEpoch_at pa1 rfl ?_)
    simp only [Bool.false_eq_true, if_false]
    refine wpAny_bind (listUpdate_at pa1 rfl ?_ (Nat.zero_le _) (by rw [Array.size_map, hsz]; omega))
    rw [h3]
    simp only [bne_self_eq_false, Bool.false_eq_true, if_false]
    refine wpAny_pure (h _ s.toks c2 ((arrOf st).map (·.2)).toList ps k1 k2 k3 I2 ?_)
    rw [Array.toArray_toList]
    exact hc2
  unfold PyProof.Rows.ksk_end
  dsimp only
  simp only [Bool.false_eq_true, if_false]
  by_cases h2 : vs.toArray.size < 2
  · rw [if_pos h2, if_pos h2]
    refine wpAny_bind (wpAny_pure ?_)
    rw [StateT.run_pure]
    refine wpAny_bind (wpAny_pure ?_)
    dsimp only
    refine tail (SortSt.mk' general' (kA.zip vs.toArray) #[] 7 none) ?_ ?_ rfl
    · show SrtO.Srtd _ (kA.zip vs.toArray).toList
      rw [zip_arr]
      have hl1 : (kA.toList.zip vs).length < 2 := by
        rw [List.length_zip]
        rw [List.size_toArray] at h2
        omega
      match kA.toList.zip vs, hl1 with
      | [], _ => exact List.Pairwise.nil
      | [p], _ => exact List.pairwise_singleton _ _
      | _ :: _ :: l, q => exact absurd q (by simp)
    · show (kA.zip vs.toArray).toList.Perm _
      rw [zip_arr]
  · rw [if_neg h2, if_neg h2]
    have h2' : 0 < vs.length := by
      rw [List.size_toArray] at h2
      omega
    have eA : kA = kA.toList.toArray := by simp
    rw [eA]
    refine wpAny_bind (tri_kind (by rw [Array.length_toList, g.1]; exact h2') tri2 ?_)
    rw [← eA]
    refine wpAny_bind (wpAny_mono (SrtO.wpS_sortO (st0 := SortSt.mk' (tuples' true) (kA.zip vs.toArray) #[] 7 none) (P := fun p => p.1 ∈ kA.toList)
      (Q := fun _ st' => SrtO.Srtd (SrtO.lt2 fun v u => lex3 (triOf s.heap v) (triOf s.heap u)) (arrOf st').toList ∧ (arrOf st').toList.Perm (kA.zip vs.toArray).toList ∧ failedOf st' = none) (SrtO.swo2 (swo3 (triOf s.heap))) (tri_cmp tri2) rfl (fun p hp => ?_) rfl rfl fun st' a1 a2 a3 => ⟨a1, a2.perm, a3⟩) ?_ fun _ _ e => e)
    · rw [show arrOf (SortSt.mk' (tuples' true) (kA.zip vs.toArray) #[] 7 none) = kA.zip vs.toArray from rfl, zip_arr] at hp
      exact (List.of_mem_zip hp).1
    · rintro ⟨⟨⟩, st'⟩ s' ⟨rfl, q1, q2, q3⟩
      dsimp only
      exact tail st' q1 (by rw [← zip_arr]; exact q2) q3
/-- list.sort(key=f) -/
theorem sort_keys {n : Nat} {R : PySem.Fin → Shared → Prop} {E : Value → Shared → Prop} (I : Inv X pins σ H s) (oa : Ours X pins a) (ha : H a = none) (ho : s.heap.get? a = some (seqObj "list" vs.toArray n)) (hl : kz.length = vs.length) (hz : vs.length ≤ sizeLine)
    (C : KeyCalls X pins σ H A f fo vs kz) (hf : s.heap.get? f = some fo) (hfn : H f = none) (hfr : f ∉ frs X.stack) (nd : ∀ c xs n, fo ≠ seqObj c xs n)
    (h : ∀ (h' : Heap) (g' : Array GenState) (d' : Drawn) (t n : Nat) (H' : Hp) (out : List Value) (ps : List (I3 × Value)), ps.Perm (kz.zip vs) → ps.Pairwise (fun p q => lex3 q.1 p.1 = false) → out = ps.map Prod.snd → (∀ b o, H b = some o → H' b = some o) →
      Inv X pins σ H' { s with heap := h', gens := g', drawn := d', toks := t } → H' a = none → h'.get? a = some (seqObj "list" out.toArray n) → R (.done (.ret .none)) { s with heap := h', gens := g', drawn := d', toks := t }) :
    wpAny (model X.prog X.w) A (PyProof.Rows.ksk_tree a (.ref f) false) R E s := by
  have sb1 := Heap.SameBut.update s.heap a (Obj.mapSeq fun _ => (#[] : Array Value))
  obtain ⟨e1, ho1⟩ : ∃ e1, (s.heap.update a (Obj.mapSeq fun _ => (#[] : Array Value))).get? a = some (seqObj "list" #[] e1) := ⟨_, get?_update_seq ho fun _ => #[]⟩
  have lt : a < s.heap.objs.size := Heap.lt_size ho
  have I1 : Inv X pins σ H { s with heap := s.heap.update a (Obj.mapSeq fun _ => (#[] : Array Value)), toks := s.toks } := inv_ours I oa ha fun b u hb e => (sb1.2 b hb).trans e
  have I2 : Inv X pins σ H { s with heap := (s.heap.update a (Obj.mapSeq fun _ => (#[] : Array Value))).push (seqObj "tuple" vs.toArray 0), toks := s.toks } := I1.kept fun b u e => Heap.get?_push_of_some _ e
  have I3' : Inv X pins σ H { s with heap := ((s.heap.update a (Obj.mapSeq fun _ => (#[] : Array Value))).push (seqObj "tuple" vs.toArray 0)).push (seqObj "list" #[] 0), toks := s.toks } := I2.kept fun b u e => Heap.get?_push_of_some _ e
  have sz : ((s.heap.update a (Obj.mapSeq fun _ => (#[] : Array Value))).push (seqObj "tuple" vs.toArray 0)).objs.size = s.heap.objs.size + 1 := by rw [size_push', Heap.size_update]
  have ok : Ours X pins ((s.heap.update a (Obj.mapSeq fun _ => (#[] : Array Value))).push (seqObj "tuple" vs.toArray 0)).objs.size := Ours.new I2 (Nat.le_refl _)
  have na : ((s.heap.update a (Obj.mapSeq fun _ => (#[] : Array Value))).push (seqObj "tuple" vs.toArray 0)).objs.size ≠ a := by
    rw [sz]
    exact Nat.ne_of_gt (Nat.lt_succ_of_lt lt)
  have fa : f ≠ a := fun z => by
    rw [z, ho] at hf
    exact nd _ _ _ (Option.some.inj hf).symm
  have hf5 : (((s.heap.update a (Obj.mapSeq fun _ => (#[] : Array Value))).push (seqObj "tuple" vs.toArray 0)).push (seqObj "list" #[] 0)).get? f = some fo := Heap.get?_push_of_some _ (Heap.get?_push_of_some _ ((sb1.2 f fa).trans hf))
  have nk : H ((s.heap.update a (Obj.mapSeq fun _ => (#[] : Array Value))).push (seqObj "tuple" vs.toArray 0)).objs.size = none := I2.hok.fresh (Nat.le_refl _)
  have ek : (((s.heap.update a (Obj.mapSeq fun _ => (#[] : Array Value))).push (seqObj "tuple" vs.toArray 0)).push (seqObj "list" #[] 0)).get? ((s.heap.update a (Obj.mapSeq fun _ => (#[] : Array Value))).push (seqObj "tuple" vs.toArray 0)).objs.size = some (seqObj "list" #[] 0) := Heap.get?_push_size _ rfl
  have ea : (((s.heap.update a (Obj.mapSeq fun _ => (#[] : Array Value))).push (seqObj "tuple" vs.toArray 0)).push (seqObj "list" #[] 0)).get? a = some (seqObj "list" #[] e1) := Heap.get?_push_of_some _ (Heap.get?_push_of_some _ ho1)
  have I4 := inv_pin1 I3' oa ha ea not_cell
  have ok2 : Ours X ((a, seqObj "list" #[] e1) :: pins) ((s.heap.update a (Obj.mapSeq fun _ => (#[] : Array Value))).push (seqObj "tuple" vs.toArray 0)).objs.size := ⟨ok.1, ok.2.1, ok.2.2.1, ok.2.2.2.1, fun p hp => by
    rcases List.mem_append.mp hp with hp | hp
    · exact ok.2.2.2.2 p (List.mem_append_left _ hp)
    · rcases List.mem_cons.mp hp with rfl | hp
      · exact na.symm
      · exact ok.2.2.2.2 p (List.mem_append_right _ hp)⟩
  have I5 := inv_pin1 I4 ok2 nk ek not_cell
  unfold PyProof.Rows.ksk_tree
  refine wpAny_bind (listItems_at ho rfl ?_)
  refine wpAny_bind (listUpdate_at ho rfl ?_ (by rw [List.size_toArray]; exact hz) (Nat.zero_le _))
  refine wpAny_bind (seqEpoch_at ho1 rfl ?_)
  refine wpAny_bind (wpAny_newTuple ?_ (by show vs.length ≤ _; exact hz))
  refine wpAny_bind (wpAny_newList ?_ (Nat.zero_le _))
  refine wpAny_holding ?_
  unfold PyProof.Rows.ksk_rest
  refine wpAny_bind (wpAny_rule ?_)
  first
    | rw [List.forIn_toArray]
    | rw [← Array.forIn_toList]
  refine wpAny_bind (keys_loop I5 ok na hl hz C hf5 hfn hfr nd rfl fun s' H' kA c I' kp g => ?_)
  have p1 := inv_pinned I' (p := (_, seqObj "list" kA c)) (List.mem_cons_self ..)
  dsimp only
  refine wpAny_bind (listItems_at p1.1 rfl ?_)
  have os' : s'.os = s.os := I'.os.trans I.os.symm
  obtain ⟨hp', g', d', t', o'⟩ := s'
  obtain rfl : o' = s.os := os'
  refine sort_end I' ok oa na hl hz g fun h' t n out ps q1 q2 q3 q4 q5 => ?_
  exact h h' g' d' t n H' out ps q1 q2 q3 kp q4 (inv_pinned I' (p := (a, seqObj "list" #[] e1)) (List.mem_cons_of_mem _ (List.mem_cons_self ..))).2 q5
end
/-! ### the lambda's call -/
section
variable {P : Program} {w : World} {K : PySem.W.Frag} {mg : Str → Option Value} {base : Heap} {A : Around} {outer : List Env} {s : Shared} {H : Hp}
theorem lam_run {f c' : Addr} {qual x : Str} {N : List Str} {params : Arguments} {body : Expr} {scope : Scope} {pm ctv u : Value} {v : V} {k : Nat} {tb : TE} {Q : VK}
    (e0 : Env0 P w K mg base A outer s H) (hr : Room (k + 1) A) (hlim : s.heap.NoLimit) (hf : s.heap.get? f = some (PySem.W.kla_obj "<lambda>" qual params body scope [] pm c' ctv)) (hc : H c' = some (CodeO c' qual)) (S : FnScope N [x] scope)
    (hbind : bindArgs (PySem.W.kla_fn "<lambda>" qual params body scope [] pm (.ref c') ctv) ⟨[u], []⟩ = pure [(x, u)]) (rv : RelV v u)
    (hbody : ∀ (A' : Around), Room k A' → A' = A.deeper (envOfC qual scope s.heap.objs.size f (.ref c')) → PE (cxOf C8.CX0 P w K mg base N qual scope f (.ref c') A outer s H C8.E0) body tb) (ht : tb (L2.start N [v]) H Q) :
    codeAny (model P w) A (.call (.ref f) ⟨[u], []⟩) (CR C8.CX0 outer P w H s Q C8.E0) s := by
  obtain ⟨⟨oc, vs, t, hoc, hdc, hvc⟩, _, _⟩ := e0.hok c' _ hc
  refine PySem.W.kla_callFunE hr.depth hf rfl S.co S.gen rfl ⟨c', oc, vs, t, rfl, hoc, hdc, hvc⟩ ?_
  rw [hbind]
  refine wpAny_pure (wpAny_newFunctionEnv_cells S.kind (fun y hy => ?_) fun env he s1 z => ?_)
  · obtain rfl : y = (x, u) := List.mem_singleton.mp hy
    rcases S.par x (List.mem_singleton.mpr rfl) with q | q
    · exact .inl q
    · exact .inr ⟨q, PySem.W.cellsFrom_some _ _ _ (.inl q)⟩
  · subst he
    refine ⟨hlim.keeps z.toInCall.keep, ?_⟩
    have J : Inv (cxOf C8.CX0 P w K mg base N qual scope f (.ref c') A outer s H C8.E0) [] (L2.start N [v]) H s1 := inv_start (ps := [x]) (us := [u]) S hr.hd e0 rfl (.cons rv .nil) z
    refine PySem.W.kla_codeExpr (wpAny_mono ((hbody _ (hr.deeper _) rfl).run [] s1 _ _ Q J ht) (fun v' s' hq => ?_) fun e s' hq => hq)
    obtain ⟨w', H', J', r', q⟩ := hq
    exact ⟨w', H', J'.os, J'.bare, J'.base, J'.hok, r', q⟩
end
/-! ### the rule -/
section
variable {X : Cx}
/-- sorted(e, key=lambda x: body): the items' keys kz by the lambda's reading tb; the new list: the items by their keys -/
def tSortK (K : PySem.W.Frag) (T : List (Addr × Str)) (tb : TE) (N : List Str) (ta : TA) : TE := fun σ H Q => ta σ H fun us H1 => ∃ (a : Addr) (xs : List V) (kz : List I3), us = [.ref a] ∧ SqL K H1 a xs ∧ kz.length = xs.length ∧ Tabs T H1 ∧ ∀ H2, ExtN H1 H2 → Tabs T H2 →
  (∀ (i : Nat) (x : V) (k : I3) (H' : Hp), xs[i]? = some x → kz[i]? = some k → (∀ b o, H2 b = some o → H' b = some o) → tb (L2.start N [x]) H' fun u H'' => (∀ b o, H' b = some o → H'' b = some o) ∧ ∃ t, u = .ref t ∧ H'' t = some (.tup [.int k.1, .int k.2.1, .int k.2.2])) ∧
  ∀ (H3 : Hp) (p : Addr) (ps : List (I3 × V)), (∀ b o, H2 b = some o → H3 b = some o) → H3 p = none → ps.Perm (kz.zip xs) → ps.Pairwise (fun p q => lex3 q.1 p.1 = false) → Q (.ref p) (upd H3 p (.lst (ps.map (·.2))))
theorem vals_perm : ∀ {ps : List (I3 × Value)} {kz : List I3} {xs : List V} {vs : List Value}, Vals xs vs → kz.length = xs.length → ps.Perm (kz.zip vs) → ∃ qs : List (I3 × V), qs.Perm (kz.zip xs) ∧ qs.map (·.1) = ps.map (·.1) ∧ Vals (qs.map (·.2)) (ps.map Prod.snd) := by
  intro ps kz xs vs rv hl hp
  have key : ∀ (l m : List (I3 × Value)), l.Perm m → ∀ ys : List (I3 × V), ys.map (·.1) = m.map (·.1) → Vals (ys.map (·.2)) (m.map Prod.snd) → ∃ qs : List (I3 × V), qs.Perm ys ∧ qs.map (·.1) = l.map (·.1) ∧ Vals (qs.map (·.2)) (l.map Prod.snd) := by
    intro l m hlm
    induction hlm with
    | nil => exact fun ys e r => ⟨ys, List.Perm.refl _, e, r⟩
    | cons x _ ih =>
      intro ys e r
      cases ys with
      | nil => cases e
      | cons y ys =>
        rw [List.map_cons, List.map_cons] at e r
        injection e with e1 e2
        cases r with
        | cons r1 r2 =>
          obtain ⟨qs, q1, q2, q3⟩ := ih ys e2 r2
          exact ⟨y :: qs, q1.cons y, by rw [List.map_cons, List.map_cons, e1, q2], .cons r1 q3⟩
    | swap x y l =>
      intro ys e r
      cases ys with
      | nil => cases e
      | cons y1 ys =>
        cases ys with
        | nil => simp at e
        | cons y2 ys =>
          simp only [List.map_cons, List.cons.injEq] at e r
          obtain ⟨e1, e2, e3⟩ := e
          cases r with
          | cons r1 r =>
            cases r with
            | cons r2 r3 => exact ⟨y2 :: y1 :: ys, List.Perm.swap .., by simp only [List.map_cons, e1, e2, e3], .cons r2 (.cons r1 r3)⟩
    | trans _ _ ih1 ih2 =>
      intro ys e r
      obtain ⟨qs, q1, q2, q3⟩ := ih2 ys e r
      obtain ⟨zs, z1, z2, z3⟩ := ih1 qs q2 q3
      exact ⟨zs, z1.trans q1, z2, z3⟩
  have hv := rv.length
  refine key ps _ hp (kz.zip xs) ?_ ?_
  · rw [List.map_fst_zip (by omega), List.map_fst_zip (by omega)]
  · rw [List.map_snd_zip (by omega), show (kz.zip vs).map Prod.snd = vs from List.map_snd_zip (by omega)]
    exact rv
theorem pe_sortK {T : List (Addr × Str)} {c P : Addr} {k : Nat} {N : List Str} {x : Str} {params : Arguments} {body : Expr} {scope : Scope} {tb : TE} {ta : TA} {e : Expr} {p pos lpos kpos : Pos} (hg : Gl X "sorted") (hm : X.mg "sorted" = none) (ha : PA X [e] ta)
    (TB : TabB X.base X.mg c P) (hcode : X.env.code = .ref c) (hmT : (P, X.env.qual ++ "<lambda>") ∈ T) (hu : ∀ p ∈ T, p.1 = P → p.2 = X.env.qual ++ "<lambda>") (hr : Room (k + 3) X.A) (hcalm : X.calm = true)
    (S : FnScope N [x] scope) (hcl : cloFrom X.env.cells scope.names [] = []) (hdef : defaultsOf params X.env = ([], []))
    (hbind : ∀ (q : Str) (pm cv ctv u : Value), bindArgs (PySem.W.kla_fn "<lambda>" q params body scope [] pm cv ctv) ⟨[u], []⟩ = pure [(x, u)])
    (hbody : ∀ (A : Around) (outer : List Env) (s : Shared) (H : Hp) (f c' : Addr), Room k (A.deeper (envOfC (X.env.qual ++ "<lambda>") scope s.heap.objs.size f (.ref c'))) → PE (cxOf C8.CX0 X.prog X.w X.K X.mg X.base N (X.env.qual ++ "<lambda>") scope f (.ref c') A outer s H C8.E0) body tb)
    (he : backTo pos (starEach [e] X.env) = (false, eval e X.env) :: backTo pos (starEach [] X.env) := by rfl) (hpl : (backTo pos (starEach [e] X.env)).any (·.1) = false := by rfl)
    (hall : (backToKw pos (keywordEach [⟨some "key", .Lambda params body scope lpos, kpos⟩] X.env)).all (·.1.isSome) = true := by rfl) (hnone : (backToKw pos (keywordEach [⟨some "key", .Lambda params body scope lpos, kpos⟩] X.env)).any (·.1.isNone) = false := by rfl)
    (hks : (backToKw pos (keywordEach [⟨some "key", .Lambda params body scope lpos, kpos⟩] X.env)).filterMap (·.1) = [Str.ofString "key"] := by rfl) :
    PE X (.Call (.Name "sorted" p) [e] [⟨some "key", .Lambda params body scope lpos, kpos⟩] pos) (tSortK X.K T tb N ta) := by
  refine ⟨fun pins s σ H Q I h => ?_⟩
  refine wpAny_Call_Name_kw (ld_blt I hg hm PyProof.Rows.boot_sorted ?_)
  refine PyProof.Rows.callWith_kw (thn (ha.run pos pins s σ H _ I h) fun us s1 ⟨us', H1, I1, r1, q1⟩ => ?_) he hpl hall hnone
  rw [hks]
  obtain ⟨a, xs, kz, rfl, hs, hl, hT, q1⟩ := q1
  obtain rfl := Vals.ref1 r1
  refine PyProof.Rows.kwAll_cons (lam_make2 I1 TB hcode hmT hu hT hdef (fun y hy z => absurd z (S.nofree y hy)) fun f c' pm ctv H2 s2 I2 eN T2 hf hfn hfr hco => ?_)
  rw [hcl] at hf
  refine PyProof.Rows.kwAll_nil ?_
  obtain ⟨qb, qe⟩ := q1 H2 eN T2
  have hs2 : SqL X.K H2 a xs := hs.elim (fun z => z.elim (fun z => .inl (.inl (eN a _ z (fun ps w => nomatch w)))) fun ⟨o, z⟩ => .inl (.inr ⟨o, eN a _ z (fun ps w => nomatch w)⟩)) .inr
  obtain ⟨its, rv, pl, hz⟩ := I2.list hs2
  have hlen : its.length = xs.length := rv.length.symm
  show wpAny _ _ (call (.builtin "sorted") [.ref a] [(Str.ofString "key", .ref f)]) _ _ s2
  refine call_function_entry_kw kind_sorted plain_sorted entry_sorted (PyProof.Rows.ksk_s1 _ _) ?_
  unfold Builtin.«sorted»
  refine wpAny_bind (m := checkCount "sorted" 1 1 _) (wpAny_pure ?_)
  refine wpAny_bind (collect_list pl.isList ?_ (by omega))
  refine wpAny_bind (wpAny_newList ?_ (by omega))
  have z1 : ((s2.heap.push (seqObj "list" #[] 0)).update s2.heap.objs.size (Obj.mapSeq (· ++ its.toArray))).objs.size = s2.heap.objs.size + 1 := by
    rw [Heap.size_update, size_push']
  have kp : ∀ b o, s2.heap.get? b = some o → ((s2.heap.push (seqObj "list" #[] 0)).update s2.heap.objs.size (Obj.mapSeq (· ++ its.toArray))).get? b = some o := fun b o q =>
    (Heap.get?_update_ne _ _ _ _ (Nat.ne_of_lt (Heap.lt_size q))).trans (Heap.get?_push_of_some _ q)
  have J1 : Inv X pins σ H2 { s2 with heap := (s2.heap.push (seqObj "list" #[] 0)).update s2.heap.objs.size (Obj.mapSeq (· ++ its.toArray)), toks := s2.toks } := I2.kept kp
  have J2 : Inv X pins σ H2 { s2 with heap := ((s2.heap.push (seqObj "list" #[] 0)).update s2.heap.objs.size (Obj.mapSeq (· ++ its.toArray))).push (seqObj "list" its.toArray 0), toks := s2.toks } := J1.kept fun b o q => Heap.get?_push_of_some _ q
  have oA := Ours.new J1 (Nat.le_refl _)
  have nA : H2 ((s2.heap.push (seqObj "list" #[] 0)).update s2.heap.objs.size (Obj.mapSeq (· ++ its.toArray))).objs.size = none := J1.hok.fresh (Nat.le_refl _)
  have hoL : (((s2.heap.push (seqObj "list" #[] 0)).update s2.heap.objs.size (Obj.mapSeq (· ++ its.toArray))).push (seqObj "list" its.toArray 0)).get? ((s2.heap.push (seqObj "list" #[] 0)).update s2.heap.objs.size (Obj.mapSeq (· ++ its.toArray))).objs.size = some (seqObj "list" its.toArray 0) := Heap.get?_push_size _ rfl
  refine wpAny_bind (wpAny_holding (wpAny_call_entry_kw slot_list_sort ⟨_, hoL, rfl⟩ entry_list_sort ?_ (PyProof.Rows.ksk_l1 _ _)))
  rw [PyProof.Rows.ksk_t1]
  refine sort_keys (vs := its) (kz := kz) (fo := PySem.W.kla_obj "<lambda>" (X.env.qual ++ "<lambda>") params body scope [] pm c' ctv) J2 oA nA hoL (by omega) (by omega) (fun i u k' more H' s' hu hk' I' kp' hf' hfn' => ?_) (Heap.get?_push_of_some _ (kp _ _ hf)) hfn hfr (fun _ _ _ z => by cases z) fun h' g' d' t n H' out ps p1 p2 p3 kp' I' na' ea => ?_
  · have hx : ∃ x0, xs[i]? = some x0 ∧ RelV x0 u := by
      have hi : i < xs.length := by
        have := (List.getElem?_eq_some_iff.mp hu).1
        omega
      obtain ⟨u2, hu2, rx2⟩ := rv.get (i := i) (x := xs[i]) (List.getElem?_eq_getElem hi)
      have eu : u2 = u := Option.some.inj (hu2.symm.trans hu)
      exact ⟨xs[i], List.getElem?_eq_getElem hi, eu ▸ rx2⟩
    obtain ⟨x0, hx, rx⟩ := hx
    refine lam_run (k := k) (tb := tb) (e0 := I'.env0.in1.in1) ⟨hr.hd, by have := hr.dp; show X.A.depth + 3 * (k + 1) + 5 < _; omega, by have := hr.un; show X.A.in1.in1.units + 16 * (k + 1) + 200 < _; simp only [units_in1]; omega⟩ I'.nolimit hf' (kp' _ _ hco) S (hbind _ _ _ _ _) rx (fun A' hA eA => ?_) (qb i x0 k' H' hx hk' kp')
    subst eA
    exact hbody _ _ _ _ _ _ hA
  · obtain ⟨qs, w1, w2, w3⟩ := vals_perm rv hl p1
    subst p3
    refine ⟨_, rfl, wpAny_pure ⟨_, rfl, .ref ((s2.heap.push (seqObj "list" #[] 0)).update s2.heap.objs.size (Obj.mapSeq (· ++ its.toArray))).objs.size, _, inv_adopt (h' := h') (t' := t) (u := .lst (qs.map (·.2))) I' oA na' (fun _ _ _ e => e) ⟨?_, _, _, w3, ea⟩, rfl, ?_⟩⟩
    · rw [List.length_map, w1.length_eq, List.length_zip]
      omega
    · refine qe H' _ qs kp' na' w1 ?_
      have q : (qs.map (·.1)).Pairwise (fun p q => lex3 q p = false) := by
        rw [w2]
        exact List.pairwise_map.mpr p2
      exact List.pairwise_map.mp q
end
end TR

set_option Elab.async false
set_option linter.all false
set_option maxRecDepth 100000
set_option maxHeartbeats 4000000
/-! rules that the layer lacks: enumerate from a start, zip of a list and a tuple, max of a tuple, len of a set of ints, a dict of the top with int keys, a def by its slot -/
namespace TR
open PySem PySem.Spec PyProof.Rows L2
/-! ### enumerate(list, start=c) -/
def ItEn (K : PySem.W.Frag) (a : Addr) (c : Int) : It :=
  ⟨fun i H => ∃ (xs : List V) (x : V), SqL K H a xs ∧ xs[i]? = some x,
   fun i H v H' => ∃ T x, v = .ref T ∧ H T = none ∧ H' = upd H T (.tup [.int (c + (i : Nat)), x]) ∧ ∀ xs, SqL K H a xs → xs[i]? = some x,
   fun i H => ∃ xs : List V, SqL K H a xs ∧ i = xs.length⟩
theorem turn_en {P : Program} {w : World} {K : PySem.W.Frag} {elts : List Expr} {kk : Nat} {tpos : Pos} {a e it : Addr} {c : Int} (hei : e ≠ it) (hea : e ≠ a) (hai : a ≠ it) :
    Turn P w K (.Tuple elts kk tpos) (ItEn K a c) [e, it] e (fun i h => (∃ old, IsEnum h e it (c + (i : Nat)) old) ∧ h.IsListIter it a i) where
  mem := List.mem_cons_self ..
  obj := fun i h st b hb => by
    obtain ⟨⟨old, h1⟩, o, h2, _, h3⟩ := st
    rcases List.mem_cons.mp hb with z | hb
    · subst z
      exact ⟨_, h1, fun v q => nomatch q⟩
    · rw [List.mem_singleton.mp hb]
      exact ⟨o, h2, fun v q => by rw [h3] at q; cases q⟩
  keep := fun i h h' st k => ⟨let ⟨old, z⟩ := st.1; ⟨old, k e (List.mem_cons_self ..) _ z⟩, st.2.at fun o q => k it (List.mem_cons_of_mem _ (List.mem_cons_self ..)) o q⟩
  item := by
    rintro X rfl rfl rfl hc i pins s σ H E I hf ⟨⟨old, he⟩, hit⟩ ⟨xs, x, hq, hx⟩
    obtain ⟨its, rv, pl, hz⟩ := I.list hq
    obtain ⟨u, hu, ru⟩ := rv.get hx
    have hel : e < s.heap.objs.size := Heap.lt_size he
    have hil : it < s.heap.objs.size := by obtain ⟨_, q, _⟩ := hit; exact Heap.lt_size q
    have hlt : i < its.toArray.size := by
      have := (List.getElem?_eq_some_iff.mp hu).1
      simpa using this
    refine wpAny_pyNext_enum_itemC (Draws.list (show X.A.in1.handled = none from I.ok.hd hc) it a hai its.toArray) he ⟨hit, pl.isList⟩ hlt hei (by simp [hei, hea]) fun x' h' tk hx' ho hst hT hsz hk => ?_
    have ex : x' = u := by
      have q : its[i]? = some x' := by simpa using hx'
      rw [hu] at q
      exact (Option.some.inj q).symm
    subst ex
    refine ⟨_, rfl, wpAny_letOwnedTupleGo_enum (s := { s with heap := h', toks := tk + 1 }) ho fun h'' he' sb => ?_⟩
    have hT2 : h''.get? s.heap.objs.size = some { cls := .type "tuple", data := .seq #[.int (c + (i : Nat)) tk, x'] } := (sb.2 _ (Nat.ne_of_gt hel)).trans hT
    have new : ObjOk X.prog X.w (upd H s.heap.objs.size (.tup [.int (c + (i : Nat)), x])) h'' s.heap.objs.size (.tup [.int (c + (i : Nat)), x]) := ⟨by show 2 ≤ sizeLine; decide, [_, x'], .cons ⟨tk, rfl⟩ (.cons ru .nil), ⟨_, hT2, rfl, _, rfl⟩⟩
    have I1 : Inv X pins σ (upd H s.heap.objs.size (.tup [.int (c + (i : Nat)), x])) { s with heap := h'', toks := tk + 1 } :=
      I.turnedNew (ch := [e, it]) (fun b ob hb q => (sb.2 b (fun z => hb (by simp [z]))).trans (hk b ob (fun z => hb (by simp [z])) (fun z => hb (by simp [z])) q)) hf (Nat.le_refl _) new
    refine ⟨.ref s.heap.objs.size, _, I1, rfl, ⟨_, x, rfl, I.hok.fresh (Nat.le_refl _), rfl, fun ys hy => by rw [I.list_inj hy hq]; exact hx⟩, ⟨⟨x', ?_⟩, hst.1.at fun o q => (sb.2 it (Ne.symm hei)).trans q⟩, fun b hb => ?_⟩
    · rw [show c + ((i + 1 : Nat) : Int) = c + (i : Nat) + 1 by omega]
      exact he'
    · have hb' : b < s.heap.objs.size := by
        rcases List.mem_cons.mp hb with z | hb
        · rw [z]; exact hel
        · rw [List.mem_singleton.mp hb]; exact hil
      rw [upd_ne (Nat.ne_of_lt hb')]
      exact (hf b hb).1
  done := by
    rintro X rfl rfl rfl hc i pins s σ H E I hf ⟨⟨old, he⟩, hit⟩ ⟨xs, hq, hx⟩
    obtain ⟨its, rv, pl, hz⟩ := I.list hq
    obtain ⟨f0, f1, f2, f3, f4, f5⟩ := hf it (List.mem_cons_of_mem _ (List.mem_cons_self ..))
    have e1 : i = its.toArray.size := by
      rw [List.size_toArray, ← rv.length]
      exact hx
    subst e1
    exact wpAny_pyNext_enum_endD (Draws.list (show X.A.in1.handled = none from I.ok.hd hc) it a hai its.toArray) he ⟨hit, pl.isList⟩ fun h' eb => ⟨rfl, I.turned (t' := s.toks) (fun b o hb q => eb b o hb q) f0 f1 f3 f4 f5⟩
  self := fun A i s Q E st h => let ⟨⟨_, z⟩, _⟩ := st; wpAny_pyIter_enum z h
theorem walk_en {K : PySem.W.Frag} {a : Addr} {c : Int} {xs : List V} : Walk (ItEn K a c) xs.length (fun H => SqL K H a xs) (YPair (fun i => some (.int (c + (i : Nat)))) (fun i => xs[i]?)) := by
  refine ⟨fun i _ hi q => ⟨xs, xs[i], q, by simp [hi]⟩, fun _ q => ⟨xs, q, rfl⟩, fun i H v H' _ q y => ?_⟩
  obtain ⟨T, x, h1, h2, h3, h4⟩ := y
  exact ⟨T, _, x, h1, h2, h3, rfl, h4 xs q⟩
section
variable {M : Model} {A : Around} {E : Value → Shared → Prop} {s : Shared} {env : Env}
theorem callWith_typeK {pos : Pos} {T : String} {e : Expr} {rest : List Expr} {kws : List Keyword} {Q : Value → Shared → Prop}
    (h : wpAny M A (spliced (backTo pos (starEach (e :: rest) env))) (fun vs s1 => wpAny M A (evalAll ((backToKw pos (keywordEach kws env)).map (·.2))) (fun ks s2 => wpAny M A (call (.type T) vs (((backToKw pos (keywordEach kws env)).filterMap (·.1)).zip ks)) Q E s2) E s1) E s)
    (he : backTo pos (starEach (e :: rest) env) = (false, eval e env) :: backTo pos (starEach rest env) := by rfl) (hpl : (backTo pos (starEach (e :: rest) env)).any (·.1) = false := by rfl)
    (hall : (backToKw pos (keywordEach kws env)).all (·.1.isSome) = true := by rfl) (hkw : (backToKw pos (keywordEach kws env)).any (·.1.isNone) = false := by rfl) :
    wpAny M A (callWith pos (.type T) [] (backTo pos (starEach (e :: rest) env)) (backToKw pos (keywordEach kws env))) Q E s := by
  have h1 : wpAny M A (evalArgs (.type T) true (backTo pos (starEach (e :: rest) env)) (backToKw pos (keywordEach kws env))) (fun a s1 => wpAny M A (call (.type T) ([] ++ a.pos) a.kw) Q E s1) E s := by
    rw [he] at h ⊢
    exact PyProof.Rows.evalArgs_kwB hall h
  unfold callWith
  refine wpAny_bind (wpAny_holding (wpAny_mono h1 (fun a s1 q => wpAny_bind (wpAny_standAt ?_)) fun _ _ z => z))
  simp only [hpl, hkw, Bool.or_false]
  exact wpAny_bind (wpAny_pure (wpAny_bind (wpAny_mono q (fun r s2 hr => wpAny_bind (wpAny_holding (wpAny_point (wpAny_pure hr)))) fun _ _ z => z)))
end
section
variable {X : Cx}
def iEn (K : PySem.W.Frag) (c : Int) (ta : TA) : TI := fun σ H R => ta σ H fun vs H1 => ∃ a xs, vs = [.ref a] ∧ SqL K H1 a xs ∧ R (ItEn K a c) H1
theorem pi_en {e : Expr} {ta : TA} {p pos tpos kpos cpos : Pos} {elts : List Expr} {kk j : Nat} {c : Int} (hg : Gl X "enumerate") (hm : X.mg "enumerate" = none) (ha : PA X [e] ta) (c0 : -(2 ^ 63) ≤ c) (c1 : c < 2 ^ 63)
    (he : backTo pos (starEach [e] X.env) = (false, eval e X.env) :: backTo pos (starEach [] X.env) := by rfl) (hpl : (backTo pos (starEach [e] X.env)).any (·.1) = false := by rfl)
    (hall : (backToKw pos (keywordEach [⟨some "start", .Constant (.int c) j cpos, kpos⟩] X.env)).all (·.1.isSome) = true := by rfl) (hkw : (backToKw pos (keywordEach [⟨some "start", .Constant (.int c) j cpos, kpos⟩] X.env)).any (·.1.isNone) = false := by rfl)
    (hks : (backToKw pos (keywordEach [⟨some "start", .Constant (.int c) j cpos, kpos⟩] X.env)).filterMap (·.1) = [Str.ofString "start"] := by rfl) :
    PI X (.Tuple elts kk tpos) (.Call (.Name "enumerate" p) [e] [⟨some "start", .Constant (.int c) j cpos, kpos⟩] pos) (iEn X.K c ta) := by
  refine ⟨fun pins s σ H R I h => ?_⟩
  refine wpAny_Call_Name_kw (ld_blt I hg hm PyProof.Rows.boot_enumerate (callWith_typeK (thn (ha.run pos pins s σ H _ I h) fun us s1 ⟨vs, H1, I1, r1, q1⟩ => ?_) he hpl hall hkw))
  rw [hks]
  obtain ⟨a, xs, rfl, hq, q⟩ := q1
  obtain rfl := Vals.ref1 r1
  have pk : PK X [⟨some "start", .Constant (.int c) j cpos, kpos⟩] (tCons (tC (.int c)) tNil) := pk_cons pe_int pk_nil
  refine thn (pk.run pos pins s1 σ H1 (fun zs H2 => zs = [.int c] ∧ H2 = H1) I1 ⟨rfl, rfl⟩) fun ws s2 ⟨zs, H2, I2, r2, e1, e2⟩ => ?_
  subst e1 e2
  cases r2 with
  | cons r r2 =>
    cases r2
    obtain ⟨t, rfl⟩ := r
    obtain ⟨its, rv, pl, hz⟩ := I2.list hq
    have la : a < s2.heap.objs.size := pl.lt
    refine enum_begins_start (begins_list a its.toArray) pl.isList c0 c1 fun h' he' hi' hsz hk => wpAny_pyIter_enum he' ?_
    have J : Inv X pins σ H2 { s2 with heap := h' } := I2.kept (t' := s2.toks) hk
    refine ⟨s2.heap.objs.size + 1, [s2.heap.objs.size + 1, s2.heap.objs.size], _, _, H2, rfl, J, turn_en (c := c) (Nat.succ_ne_self _) (Nat.ne_of_gt (Nat.lt_succ_of_lt la)) (Nat.ne_of_lt la), ⟨⟨.none, ?_⟩, ⟨_, hi', rfl, rfl⟩⟩, fun b hb => ?_, q⟩
    · rw [show c + ((0 : Nat) : Int) = c by omega]
      exact he'
    · have hle : s2.heap.objs.size ≤ b := by
        rcases List.mem_cons.mp hb with z | hb
        · rw [z]; exact Nat.le_succ _
        · rw [List.mem_singleton.mp hb]; exact Nat.le_refl _
      exact I2.fpOk hle (I2.hok.fresh hle)
end
/-! ### zip(list, tuple) -/
def ItZm (K : PySem.W.Frag) (a b : Addr) : It :=
  ⟨fun i H => ∃ (xs ys : List V) (x y : V), SqL K H a xs ∧ SqT K H b ys ∧ xs[i]? = some x ∧ ys[i]? = some y,
   fun i H v H' => ∃ T x y, v = .ref T ∧ H T = none ∧ H' = upd H T (.tup [x, y]) ∧ (∀ xs, SqL K H a xs → xs[i]? = some x) ∧ ∀ ys, SqT K H b ys → ys[i]? = some y,
   fun i H => ∃ xs ys : List V, SqL K H a xs ∧ SqT K H b ys ∧ i = xs.length ∧ i = ys.length⟩
theorem turn_zm {P : Program} {w : World} {K : PySem.W.Frag} {elts : List Expr} {kk : Nat} {tpos : Pos} {a b z TI TO i1 i2 : Addr} (D : ZipSep2 z TI TO i1 i2 [i1, a] [i2, b]) (ha : a ≠ i1) (hb : b ≠ i2) :
    Turn P w K (.Tuple elts kk tpos) (ItZm K a b) [z, TI, TO, i1, i2] z (fun i h => IsZip h z TI TO .none ∧ IsTupOf2 h TI (.ref i1) (.ref i2) ∧ (∃ x y, IsTupOf2 h TO x y) ∧ h.IsListIter i1 a i ∧ h.IsTupleIter i2 b i) where
  mem := List.mem_cons_self ..
  obj := fun i h st c hc => by
    obtain ⟨h1, h2, ⟨x, y, h3⟩, ⟨o1, e1, _, d1⟩, ⟨o2, e2, _, d2⟩⟩ := st
    simp only [List.mem_cons, List.not_mem_nil, or_false] at hc
    rcases hc with q | q | q | q | q
    · subst q; exact ⟨_, h1, fun v q => nomatch q⟩
    · subst q; exact ⟨_, h2, fun v q => nomatch q⟩
    · subst q; exact ⟨_, h3, fun v q => nomatch q⟩
    · subst q; exact ⟨o1, e1, fun v q => by rw [d1] at q; cases q⟩
    · subst q; exact ⟨o2, e2, fun v q => by rw [d2] at q; cases q⟩
  keep := fun i h h' ⟨h1, h2, ⟨x, y, h3⟩, h4, h5⟩ k =>
    ⟨k z (by simp) _ h1, k TI (by simp) _ h2, ⟨x, y, k TO (by simp) _ h3⟩, h4.at fun o q => k i1 (by simp) o q, h5.at fun o q => k i2 (by simp) o q⟩
  item := by
    rintro X rfl rfl rfl hc i pins s σ H E I hf ⟨h1, h2, ⟨x0, y0, h3⟩, h4, h5⟩ ⟨xs, ys, x, y, hqx, hqy, hx, hy⟩
    obtain ⟨its, rv, p, _⟩ := I.list hqx
    obtain ⟨jts, rw', p2, _⟩ := I.tuple hqy
    obtain ⟨u, hu, ru⟩ := rv.get hx
    obtain ⟨u2, hu2, ru2⟩ := rw'.get hy
    have hzl : z < s.heap.objs.size := Heap.lt_size h1
    have hh : X.A.in1.handled = none := I.ok.hd hc
    have l1 : i < its.toArray.size := by simpa using (List.getElem?_eq_some_iff.mp hu).1
    have l2 : i < jts.toArray.size := by simpa using (List.getElem?_eq_some_iff.mp hu2).1
    refine wpAny_pyNext_zipD2_item D (Draws.list hh i1 a ha its.toArray) (Draws.tuple hh i2 b hb jts.toArray) h1 h2 h3 ⟨h4, p.isList⟩ ⟨h5, p2⟩ l1 l2 fun x1 x2 h' tk y1 y2 b1 b2 d1 d2 hT hsz hk => ?_
    have q1 : its[i]? = some x1 := by simpa using y1
    have q2 : jts[i]? = some x2 := by simpa using y2
    rw [hu] at q1
    rw [hu2] at q2
    obtain rfl := Option.some.inj q1
    obtain rfl := Option.some.inj q2
    refine ⟨_, rfl, wpAny_letOwnedTupleGo_zip (s := { s with heap := h', toks := tk }) b1 fun h'' z'' sb => ?_⟩
    have hT2 : h''.get? s.heap.objs.size = some { cls := .type "tuple", data := .seq #[u, u2] } := (sb.2 _ (Nat.ne_of_gt hzl)).trans hT
    have new : ObjOk X.prog X.w (upd H s.heap.objs.size (.tup [x, y])) h'' s.heap.objs.size (.tup [x, y]) := ⟨by show 2 ≤ sizeLine; decide, [u, u2], .cons ru (.cons ru2 .nil), ⟨_, hT2, rfl, _, rfl⟩⟩
    have I1 : Inv X pins σ (upd H s.heap.objs.size (.tup [x, y])) { s with heap := h'', toks := tk } :=
      I.turnedNew (ch := [z, TI, TO, i1, i2]) (fun c o hb q => (sb.2 c (fun w => hb (by simp [w]))).trans (hk c o (fun w => hb (by simp [w])) (fun w => hb (by simp [w])) (fun w => hb (by simp [w])) (fun w => hb (by simp [w])) q)) hf (Nat.le_refl _) new
    have zi2 : i2 ≠ z := D.zi2.symm
    have zi1 : i1 ≠ z := D.zi1.symm
    refine ⟨.ref s.heap.objs.size, _, I1, rfl, ⟨_, x, y, rfl, I.hok.fresh (Nat.le_refl _), rfl, fun l hl => by rw [I.list_inj hl hqx]; exact hx, fun l hl => by rw [I.tuple_inj hl hqy]; exact hy⟩,
      ⟨z'', (sb.2 _ D.TIz).trans (hk _ _ D.TIz D.TITO D.TIi1 D.TIi2 h2), ⟨_, _, (sb.2 _ D.TOz).trans b2⟩, d1.1.at fun o q => (sb.2 _ zi1).trans q, d2.1.at fun o q => (sb.2 _ zi2).trans q⟩, fun c hcm => ?_⟩
    have hlt : c < s.heap.objs.size := by
      simp only [List.mem_cons, List.not_mem_nil, or_false] at hcm
      rcases hcm with q | q | q | q | q
      · rw [q]; exact hzl
      · rw [q]; exact Heap.lt_size h2
      · rw [q]; exact Heap.lt_size h3
      · rw [q]; obtain ⟨_, e1, _⟩ := h4; exact Heap.lt_size e1
      · rw [q]; obtain ⟨_, e2, _⟩ := h5; exact Heap.lt_size e2
    rw [upd_ne (Nat.ne_of_lt hlt)]
    exact (hf c hcm).1
  done := by
    rintro X rfl rfl rfl hc i pins s σ H E I hf ⟨h1, h2, ⟨x0, y0, h3⟩, h4, h5⟩ ⟨xs, ys, hqx, hqy, hx, hy⟩
    obtain ⟨its, rv, p, _⟩ := I.list hqx
    obtain ⟨jts, rw', p2, _⟩ := I.tuple hqy
    have hh : X.A.in1.handled = none := I.ok.hd hc
    have l1 : i = its.toArray.size := by
      rw [List.size_toArray, ← rv.length]
      exact hx
    have l2 : i = jts.toArray.size := by
      rw [List.size_toArray, ← rw'.length]
      exact hy
    exact wpAny_pyNext_zipD2_end D (Draws.list hh i1 a ha its.toArray) (Draws.tuple hh i2 b hb jts.toArray) h1 h2 h3 ⟨h4, p.isList⟩ ⟨h5, p2⟩ (Nat.le_of_eq l1) (Nat.le_of_eq l2) (.inl l1) fun h' tk hk => ⟨rfl, I.turnedL (t' := tk) (ch := [z, TI, TO, i1, i2])
      (fun c o hb q => hk c o (fun w => hb (by simp [w])) (fun w => hb (by simp [w])) (fun w => hb (by simp [w])) (fun w => hb (by simp [w])) q) hf⟩
  self := fun A i s Q E st h => wpAny_pyIter_zip st.1 h
theorem walk_zm {K : PySem.W.Frag} {a b : Addr} {xs ys : List V} (hl : ys.length = xs.length) : Walk (ItZm K a b) xs.length (fun H => SqL K H a xs ∧ SqT K H b ys) (YPair (fun i => xs[i]?) (fun i => ys[i]?)) := by
  refine ⟨fun i _ hi q => ⟨xs, ys, xs[i], ys[i]'(by omega), q.1, q.2, by simp [hi], by simp [hl, hi]⟩, fun _ q => ⟨xs, ys, q.1, q.2, rfl, hl.symm⟩, fun i H v H' _ q y => ?_⟩
  obtain ⟨T, x, z, h1, h2, h3, h4, h5⟩ := y
  exact ⟨T, x, z, h1, h2, h3, h4 xs q.1, h5 ys q.2⟩
section
variable {X : Cx}
def iZm (K : PySem.W.Frag) (ta : TA) : TI := fun σ H R => ta σ H fun vs H1 => ∃ a b xs ys, vs = [.ref a, .ref b] ∧ SqL K H1 a xs ∧ SqT K H1 b ys ∧ R (ItZm K a b) H1
theorem pi_zm {e e2 : Expr} {ta : TA} {p pos tpos : Pos} {elts : List Expr} {kk : Nat} (hg : Gl X "zip") (hm : X.mg "zip" = none) (ha : PA X [e, e2] ta)
    (hs : starEach [e, e2] X.env = (false, eval e X.env) :: starEach [e2] X.env := by rfl) (hpl : (backTo pos (starEach [e2] X.env)).any (·.1) = false := by rfl) :
    PI X (.Tuple elts kk tpos) (.Call (.Name "zip" p) [e, e2] [] pos) (iZm X.K ta) := by
  refine ⟨fun pins s σ H R I h => ?_⟩
  refine Call_ (ld_blt I hg hm PyProof.Rows.boot_zip (PyProof.Rows.callWith_type1 (thn (ha.run pos pins s σ H _ I h) fun us s1 ⟨vs, H1, I1, r1, q1⟩ => ?_) hs hpl))
  obtain ⟨a, b, xs, ys, rfl, hqx, hqy, q⟩ := q1
  cases r1 with
  | cons r rr =>
    cases rr with
    | cons r' rr =>
      cases rr
      cases r
      cases r'
      obtain ⟨its, rv, p1, _⟩ := I1.list hqx
      obtain ⟨jts, rw', p2, _⟩ := I1.tuple hqy
      have la : a < s1.heap.objs.size := p1.lt
      have lb : b < s1.heap.objs.size := by
        obtain ⟨o, ho, _⟩ := id p2
        exact Heap.lt_size ho
      refine zip_begins2 (begins_list a its.toArray) (begins_tuple b jts.toArray) p1.isList p2 fun h' hz hTI hTO h1 h2 hsz hk => wpAny_pyIter_zip hz ?_
      have I2 : Inv X pins σ H1 { s1 with heap := h' } := I1.kept (t' := s1.toks) hk
      refine ⟨s1.heap.objs.size + 4, [s1.heap.objs.size + 4, s1.heap.objs.size + 2, s1.heap.objs.size + 3, s1.heap.objs.size, s1.heap.objs.size + 1], _, _, H1, rfl, I2,
        turn_zm (zip_sep2 (fun c hc => by rw [List.mem_singleton.mp hc]; exact la) (fun c hc => by rw [List.mem_singleton.mp hc]; exact lb)) (Nat.ne_of_lt la) (Nat.ne_of_lt (Nat.lt_succ_of_lt lb)), ⟨hz, hTI, ⟨_, _, hTO⟩, ⟨_, h1, rfl, rfl⟩, ⟨_, h2, rfl, rfl⟩⟩, fun c hcm => ?_, q⟩
      have hle : s1.heap.objs.size ≤ c := by
        simp only [List.mem_cons, List.not_mem_nil, or_false] at hcm
        rcases hcm with w | w | w | w | w
        · rw [w]; exact Nat.le_add_right _ _
        · rw [w]; exact Nat.le_add_right _ _
        · rw [w]; exact Nat.le_add_right _ _
        · rw [w]; exact Nat.le_refl _
        · rw [w]; exact Nat.le_add_right _ _
      exact I1.fpOk hle (I1.hok.fresh hle)
end
/-! ### max(tuple of two ints) -/
section
variable {prog : Program} {w : World} {A : Around} {E : Value → Shared → Prop} {s : Shared}
theorem max_pair {l : Addr} {i j : Int} {t u : Tok} {Q : Value → Shared → Prop} (hh : A.handled = none) (hl : s.heap.IsTuple l #[.int i t, .int j u])
    (h : ∀ h' tk t', (∀ b o, s.heap.get? b = some o → h'.get? b = some o) → Q (.int (if j > i then j else i) t') { s with heap := h', toks := tk }) : wpAny (model prog w) A (call (.builtin "max") [.ref l]) Q E s := by
  have eI : intItems #[(i, t), (j, u)] = #[Value.int i t, Value.int j u] := by simp [intItems]
  have at_ : ∀ (n : Nat) (v : Value), (#[Value.int i t, Value.int j u] : Array Value)[n]? = some v → ∃ t', v = .int (numAt #[(i, t), (j, u)] n) t' := fun n v e => intItems_at (by rw [eI]; exact e)
  have lt : l < s.heap.objs.size := by
    obtain ⟨o, ho, _⟩ := id hl
    exact Heap.lt_size ho
  have st : (s.heap.push { cls := .type "tuple_iterator", data := .fields #[.ref l, .int 0 0] }).IsTupleIter s.heap.objs.size l 0 := ⟨_, Heap.get?_push_size _ rfl, rfl, rfl⟩
  refine call_max_walk (wpAny_pyIter_tuple hl ⟨_, _, _, _, _, _, _, rfl, Walks.tuple (A := A.in1) hh s.heap.objs.size l (Nat.ne_of_lt lt) #[Value.int i t, Value.int j u], ⟨st, hl.push _⟩, fun b hb => ?_, by show 0 < 2; decide, CmpOf.ints_gt (numAt #[(i, t), (j, u)]) at_, fun v h' tk hP hk => ?_⟩)
  · show b < (s.heap.push _).objs.size
    rw [Heap.size_push]
    rcases List.mem_cons.mp hb with q | hb
    · rw [q]
      exact Nat.lt_succ_self _
    · rw [List.mem_singleton.mp hb]
      exact Nat.lt_succ_of_lt lt
  · have hk2 : ∀ b o, s.heap.get? b = some o → h'.get? b = some o := fun b o e => hk b o (fun hm => Nat.ne_of_lt (Heap.lt_size e) (List.mem_singleton.mp hm)) (Heap.get?_push_of_some _ e)
    have e1 : argBest (fun m n => decide (numAt #[(i, t), (j, u)] m > numAt #[(i, t), (j, u)] n)) 1 = if j > i then 1 else 0 := by
      show (if decide (numAt #[(i, t), (j, u)] 1 > numAt #[(i, t), (j, u)] 0) = true then 1 else 0) = _
      show (if decide (j > i) = true then 1 else 0) = _
      by_cases q : j > i
      · rw [if_pos q, if_pos (decide_eq_true q)]
      · rw [if_neg q, if_neg (by simpa using q)]
    have hP' : (#[Value.int i t, Value.int j u] : Array Value)[argBest (fun m n => decide (numAt #[(i, t), (j, u)] m > numAt #[(i, t), (j, u)] n)) 1]? = some v := hP
    rw [e1] at hP'
    by_cases q : j > i
    · rw [if_pos q] at hP'
      obtain rfl : Value.int j u = v := Option.some.inj hP'
      have z := h h' tk u hk2
      rw [if_pos q] at z
      exact z
    · rw [if_neg q] at hP'
      obtain rfl : Value.int i t = v := Option.some.inj hP'
      have z := h h' tk t hk2
      rw [if_neg q] at z
      exact z
end
section
variable {X : Cx}
def rMaxP (K : PySem.W.Frag) : List V → Hp → VK → Prop := fun vs H Q => ∃ (a : Addr) (i j : Int), vs = [V.ref a] ∧ SqT K H a [.int i, .int j] ∧ Q (.int (if j > i then j else i)) H
theorem cr_maxP (hc : X.calm = true) : CallR X (.builtin "max") (rMaxP X.K) := by
  intro pins s σ H vs us Q I r h
  obtain ⟨a, i, j, rfl, hs, q⟩ := h
  obtain ⟨its, rv, hl, _⟩ := I.tuple hs
  rw [Vals.ref1 r]
  cases rv with
  | cons r1 rv =>
    cases rv with
    | cons r2 rv =>
      cases rv
      obtain ⟨t1, rfl⟩ := r1
      obtain ⟨t2, rfl⟩ := r2
      exact max_pair (I.ok.hd hc) hl fun h' tk t' hk => ⟨.int _, H, I.kept hk, ⟨_, rfl⟩, q⟩
/-! ### len(set(list of ints)) -/
theorem firstMet_eq {ns : List Int} : ∀ n, n ≤ ns.length → ((PyProof.Rows.firstMet (fun i => ns.getD i 0) n).length = n ↔ (ns.take n).Nodup)
  | 0, _ => by simp [PyProof.Rows.firstMet_zero]
  | n + 1, h => by
    have ih := firstMet_eq (ns := ns) n (by omega)
    have le := PyProof.Rows.firstMet_length_le (fun i => ns.getD i 0) n
    have hx : ns[n]? = some ns[n] := List.getElem?_eq_getElem (by omega)
    have ex : ns.getD n 0 = ns[n] := by rw [List.getD_eq_getElem?_getD, hx]; rfl
    have et : ns.take (n + 1) = ns.take n ++ [ns[n]] := by rw [List.take_add_one, hx]; rfl
    have hm : (List.range n).map (fun i => ns.getD i 0) = ns.take n := by
      apply List.ext_getElem?
      intro i
      rw [List.getElem?_map]
      by_cases hi : i < n
      · rw [List.getElem?_range hi, List.getElem?_take, if_pos hi]
        show some (ns.getD i 0) = ns[i]?
        rw [List.getD_eq_getElem?_getD, List.getElem?_eq_getElem (by omega)]
        rfl
      · rw [List.getElem?_eq_none (by rw [List.length_range]; omega), List.getElem?_take, if_neg hi]
        rfl
    have am := PyProof.Rows.firstMet_any (fun i => ns.getD i 0) n ns[n]
    rw [hm] at am
    rw [PyProof.Rows.firstMet_succ, et]
    show (PyProof.Rows.step_dedup _ (ns.getD n 0)).length = n + 1 ↔ _
    rw [ex, List.nodup_append]
    unfold PyProof.Rows.step_dedup
    by_cases q : (PyProof.Rows.firstMet (fun i => ns.getD i 0) n).any (· == ns[n]) = true
    · rw [if_pos q]
      constructor
      · intro e
        omega
      · rintro ⟨_, _, z⟩
        rw [am] at q
        obtain ⟨y, hy, e⟩ := List.any_eq_true.mp q
        exact absurd (eq_of_beq e) (z y hy ns[n] (List.mem_singleton.mpr rfl))
    · rw [if_neg q, List.length_append, List.length_singleton]
      rw [am] at q
      constructor
      · intro e
        refine ⟨ih.mp (by omega), by simp, fun y hy z hz e' => q (List.any_eq_true.mpr ⟨y, hy, ?_⟩)⟩
        rw [List.mem_singleton.mp hz] at e'
        exact beq_iff_eq.mpr e'
      · rintro ⟨z, _, _⟩
        have := ih.mpr z
        omega
def tLenSet' (K : PySem.W.Frag) (ta : TE) : TE := fun σ H Q => ta σ H fun x H1 => ∃ (l : Addr) (ns : List Int), x = V.ref l ∧ SqL K H1 l (ns.map V.int) ∧ ns.length < 64 ∧ ∀ n : Nat, (n = ns.length ↔ ns.Nodup) → Q (.int n) H1
theorem pe_lenSet' {p p2 q pos : Pos} {a : Expr} {ta : TE} (hc : X.calm = true) (hg : Gl X "len") (hm : X.mg "len" = none) (hg2 : Gl X "set") (hm2 : X.mg "set" = none) (ha : PE X a ta)
    (na : starEach [a] X.env = (false, eval a X.env) :: starEach [] X.env := by rfl) : PE X (.Call (.Name "len" p) [.Call (.Name "set" p2) [a] [] q] [] pos) (tLenSet' X.K ta) := by
  refine ⟨fun pins s σ H Q I h => ?_⟩
  refine Call_ (ld_blt I hg hm PySem.boot_len (PyProof.Rows.callWith_builtin1 (PyProof.Rows.args_cons ?_ rfl) rfl rfl))
  refine Call_ (ld_blt I hg2 hm2 PyProof.Rows.boot_set (PyProof.Rows.callWith_type1 (PyProof.Rows.args_cons (thn (ha.run pins s σ H _ I h) fun v s1 ⟨x, H1, I1, r1, q1⟩ => PyProof.Rows.args_nil ?_) na) na rfl))
  obtain ⟨l, ns, rfl, hq, h1, q1⟩ := q1
  cases r1
  obtain ⟨its, r, pl, hz⟩ := I1.list hq
  have hl : its.toArray.size = ns.length := by rw [List.size_toArray, ← r.length, List.length_map]
  refine call_set_list (I1.ok.hd hc) pl.isList (ns := ns) (by simpa using r.ints) (by unfold scanBound; omega) fun h' tk hS hk => PyProof.Rows.args_nil ?_
  rw [hl] at hS
  obtain ⟨o, es, ep, t, ho, hex, hd, _, _, _, hf, hn⟩ := hS
  have I2 : Inv X pins σ H1 { s1 with heap := h', toks := tk } := I1.kept fun b o e => hk b o (Heap.lt_size e) e
  have le := PyProof.Rows.firstMet_length_le (fun i => ns.getD i 0) ns.length
  have nd := firstMet_eq (ns := ns) ns.length (Nat.le_refl _)
  rw [List.take_length] at nd
  exact call_len_set ho hex hd hf (by rw [hn]; omega) ⟨.int (PyProof.Rows.firstMet (fun i => ns.getD i 0) ns.length).length, H1, I2.tok _, ⟨_, by rw [hn]⟩, q1 _ nd⟩
/-! ### a dict of the top, its keys ints -/
def intEnt : DictEntry → Option (Int × Value)
  | ⟨h, .int k _, v⟩ => if h = hashInt k then some (k, v) else none
  | _ => none
theorem intEnt_some {e : DictEntry} {k : Int} {v : Value} (h : intEnt e = some (k, v)) : e.hash = hashInt k ∧ (∃ t, e.key = .int k t) ∧ e.val = v := by
  obtain ⟨a, b, c⟩ := e
  cases b with
  | int j t =>
    have h : (if a = hashInt j then some (j, c) else none) = some (k, v) := h
    split at h
    · rename_i q
      obtain ⟨e1, e2⟩ := Prod.mk.inj (Option.some.inj h)
      subst e1 e2
      exact ⟨q, ⟨t, rfl⟩, rfl⟩
    · cases h
  | _ => cases h
def entsOf : List DictEntry → Option (List (Int × Value))
  | [] => some []
  | e :: r => match intEnt e, entsOf r with
    | some p, some ps => some (p :: ps)
    | _, _ => none
/-- the dict at d has int keys alone: its entries -/
def kInts (K : PySem.W.Frag) (d : Addr) : Option (List (Int × Value)) := match K.lookup d with
  | some ⟨.type c, none, .dict es _, sl⟩ => if c = "dict" ∧ sl = #[] ∧ (d == sysModules) = false then entsOf es.toList else none
  | _ => none
theorem ents_map {P : Program} {w : World} : ∀ (l : List DictEntry) (kvs : List (Int × Value)), entsOf l = some kvs → (∀ e ∈ l, ∃ k, (intKind P w).is k e.key = true ∧ e.hash = (intKind P w).hash k) ∧ ∀ k, (l.find? fun e => Value.isInt k e.key).map (·.val) = kvs.lookup k
  | [], kvs, h => by
    obtain rfl : [] = kvs := Option.some.inj h
    exact ⟨fun e he => absurd he (by simp), fun k => rfl⟩
  | e :: r, kvs, h => by
    unfold entsOf at h
    cases q : intEnt e with
    | none => rw [q] at h; cases h
    | some p =>
      cases q2 : entsOf r with
      | none => rw [q, q2] at h; cases h
      | some ps =>
        rw [q, q2] at h
        obtain rfl : p :: ps = kvs := Option.some.inj h
        obtain ⟨i1, i2⟩ := ents_map (P := P) (w := w) r ps q2
        obtain ⟨k0, v0⟩ := p
        obtain ⟨e1, ⟨t, e2⟩, e3⟩ := intEnt_some q
        refine ⟨fun e' he' => ?_, fun k => ?_⟩
        · rcases List.mem_cons.mp he' with rfl | he'
          · exact ⟨k0, by rw [e2]; show Value.isInt k0 (.int k0 t) = true; simp [Value.isInt], e1⟩
          · exact i1 e' he'
        · rw [List.find?_cons, List.lookup_cons, e2]
          by_cases c : k = k0
          · subst c
            rw [show Value.isInt k (.int k t) = true by simp [Value.isInt], show (k == k) = true by simp]
            show some e.val = some v0
            rw [e3]
          · rw [show Value.isInt k (.int k0 t) = false by simp [Value.isInt]; exact fun z => c z.symm, show (k == k0) = false by simpa using c]
            exact i2 k
theorem kInts_map {P : Program} {w : World} {K : PySem.W.Frag} {h : Heap} {d : Addr} {kvs : List (Int × Value)} (X : K.In h) (e : kInts K d = some kvs) : h.MapOf (intKind P w) d (fun k => kvs.lookup k) ∧ (d == sysModules) = false := by
  unfold kInts at e
  split at e
  · rename_i c es n sl hk
    split at e
    · rename_i q
      obtain ⟨rfl, rfl, q3⟩ := q
      obtain ⟨i1, i2⟩ := ents_map (P := P) (w := w) es.toList kvs e
      refine ⟨⟨_, es, n, X _ _ hk, ⟨rfl, rfl, rfl⟩, rfl, fun x hx => i1 x (Array.mem_toList_iff.mpr hx), fun k => ?_⟩, q3⟩
      show findBy (intKind P w).is es k = kvs.lookup k
      rw [← i2 k]
      unfold findBy
      rw [← Array.find?_toList]
      rfl
    · cases e
  · cases e
section
variable {X : Cx} {d : Addr} {kvs : List (Int × Value)}
theorem isInt_rel {k : Int} {u : Value} (r : RelV (.int k) u) : (intKind X.prog X.w).is k u = true := by
  obtain ⟨t, rfl⟩ := r
  show Value.isInt k (.int k t) = true
  simp [Value.isInt]
theorem op_notIn_ki (e : kInts X.K d = some kvs) : OpR X (compareOp .NotIn) (fun x y H Q => ∃ k : Int, x = .int k ∧ y = .ref d ∧ Q (.bl (!(kvs.lookup k).isSome)) H) := by
  intro pins s σ H x y v u Q I rx ry h
  obtain ⟨k, rfl, rfl, q⟩ := h
  cases ry
  obtain ⟨m, lo⟩ := kInts_map (P := X.prog) (w := X.w) I.kIn e
  exact wpAny_notIn_of (isInt_rel rx) lo m ⟨.bl _, H, I.tok _, rfl, q⟩
theorem op_in_ki (e : kInts X.K d = some kvs) : OpR X (compareOp .In) (fun x y H Q => ∃ k : Int, x = .int k ∧ y = .ref d ∧ Q (.bl (kvs.lookup k).isSome) H) := by
  intro pins s σ H x y v u Q I rx ry h
  obtain ⟨k, rfl, rfl, q⟩ := h
  cases ry
  obtain ⟨m, lo⟩ := kInts_map (P := X.prog) (w := X.w) I.kIn e
  exact wpAny_in_of (isInt_rel rx) lo m ⟨.bl _, H, I.tok _, rfl, q⟩
def tKGet (d : Addr) (kvs : List (Int × Value)) (to ti : TE) : TE := fun σ H Q => to σ H fun x H1 => ti σ H1 fun y H2 => x = .ref d ∧ ∃ (k : Int) (u : Value) (v : V), y = .int k ∧ kvs.lookup k = some u ∧ RelV v u ∧ Q v H2
theorem pe_kget {o i : Expr} {pos : Pos} {to ti : TE} (e : kInts X.K d = some kvs) (ho : PE X o to) (hi : PE X i ti) (hs : NoSl i) : PE X (.Subscript o i pos) (tKGet d kvs to ti) := by
  refine ⟨fun pins s σ H Q I h => ?_⟩
  refine subD_of PySem.F.slot_dict_getitem.lookup hs (thn (ho.run pins s σ H _ I h) fun u s1 ⟨x, H1, I1, rx, q1⟩ => thn (hi.run pins s1 σ H1 _ I1 q1) fun iv s2 ⟨y, H2, I2, ry, ex, k, u0, v0, ey, lk, r0, q2⟩ => ?_)
  subst ex ey
  obtain rfl : u = Value.ref d := rx
  obtain ⟨m, lo⟩ := kInts_map (P := X.prog) (w := X.w) I2.kIn e
  exact ⟨m.typeIs, wpAny_getItem_of (isInt_rel ry) m lk ⟨v0, H2, I2.tok _, r0, q2⟩⟩
/-! ### a def by its slot -/
def tCallH (P : Program) (w : World) (K : PySem.W.Frag) (mg : Str → Option Value) (base : Heap) (k i : Nat) (t : TA) : TE := fun σ H Q => ∃ f sp, σ[i]? = some (some (.ref f)) ∧ Held P w K mg base k f sp ∧ t σ H fun vs H1 => sp vs H1 Q (fun _ _ _ => False)
theorem pe_callH {k i : Nat} {x : Str} {p pos : Pos} {e : Expr} {es : List Expr} {t : TA} (hr : Room k X.A) (hN : X.N[i]? = some x) (hv : Vis X.env.scope x) (ha : PA X (e :: es) t)
    (hd : (x == ("__debug__" : Str)) = false := by decide) (hcd : (x == ("__classdict__" : Str)) = false := by decide)
    (he : starEach (e :: es) X.env = (false, eval e X.env) :: starEach es X.env := by rfl) (hpl : (backTo pos (starEach es X.env)).any (·.1) = false := by rfl) :
    PE X (.Call (.Name x p) (e :: es) [] pos) (tCallH X.prog X.w X.K X.mg X.base k i t) := by
  refine ⟨fun pins s σ H Q I h => ?_⟩
  obtain ⟨f, sp, h1, h2, h3⟩ := h
  have A : ∀ g sq, (fun g => if g = f then some sp else none) g = some sq → Held X.prog X.w X.K X.mg X.base k g sq := fun g sq z => by
    have z : (if g = f then some sp else none) = some sq := z
    split at z
    · rename_i q
      obtain rfl := Option.some.inj z
      rw [q]
      exact h2
    · cases z
  exact (pe_callA (i := i) (S := fun g => if g = f then some sp else none) A hr hN hv ha hd hcd he hpl).run pins s σ H Q I ⟨f, sp, h1, if_pos rfl, h3⟩
end
end
end TR

set_option Elab.async false
set_option linter.all false
set_option maxRecDepth 100000
set_option maxHeartbeats 4000000
namespace TR
open PySem PySem.Spec PyProof.Rows L2
/-! ### the text -/
def top (i : Nat) : Stmt := PySem.Challenge.pw_teamrounds_s01_answers.main.body.getD i (.Pass ⟨0, 0, 0, 0⟩)
abbrev s_Call_init : Stmt := inClass (top 3) 0
theorem sc_Call_init : FnScope ["self", "kind", "numbers", "row"] ["self", "kind", "numbers", "row"] (defScope s_Call_init) := ⟨rfl, rfl, rfl, by decide +kernel, rfl, by decide +kernel, by decide +kernel⟩
def dd_Call_init : He.DefD := ⟨("Call", some "__init__"), "__init__", "Call.__init__", defArgs s_Call_init, defBody s_Call_init, defScope s_Call_init, [], []⟩
abbrev s_Call_is_in_range : Stmt := inClass (top 3) 1
theorem sc_Call_is_in_range : FnScope ["self", "number", "limits"] ["self"] (defScope s_Call_is_in_range) := ⟨rfl, rfl, rfl, by decide +kernel, rfl, by decide +kernel, by decide +kernel⟩
def dd_Call_is_in_range : He.DefD := ⟨("Call", some "is_in_range"), "is_in_range", "Call.is_in_range", defArgs s_Call_is_in_range, defBody s_Call_is_in_range, defScope s_Call_is_in_range, [], []⟩
abbrev s_is_row_in_range : Stmt := top 4
theorem sc_is_row_in_range : FnScope ["row", "kind", "limits", "number"] ["row", "kind"] (defScope s_is_row_in_range) := ⟨rfl, rfl, rfl, by decide +kernel, rfl, by decide +kernel, by decide +kernel⟩
def dd_is_row_in_range : He.DefD := ⟨("is_row_in_range", none), "is_row_in_range", "is_row_in_range", defArgs s_is_row_in_range, defBody s_is_row_in_range, defScope s_is_row_in_range, [], []⟩
abbrev s_by_twos : Stmt := top 5
theorem sc_by_twos : FnScope ["row", "at"] ["row"] (defScope s_by_twos) := ⟨rfl, rfl, rfl, by decide +kernel, rfl, by decide +kernel, by decide +kernel⟩
def dd_by_twos : He.DefD := ⟨("by_twos", none), "by_twos", "by_twos", defArgs s_by_twos, defBody s_by_twos, defScope s_by_twos, [], []⟩
abbrev s_split_calls : Stmt := top 6
theorem sc_split_calls : FnScope ["calls", "split", "at", "kind", "end", "numbers", "row", "begin"] ["calls"] (defScope s_split_calls) := ⟨rfl, rfl, rfl, by decide +kernel, rfl, by decide +kernel, by decide +kernel⟩
def dd_split_calls : He.DefD := ⟨("split_calls", none), "split_calls", "split_calls", defArgs s_split_calls, defBody s_split_calls, defScope s_split_calls, [], []⟩
abbrev s_KnockOut_init : Stmt := inClass (top 8) 0
theorem sc_KnockOut_init : FnScope ["self", "teams", "seed"] ["self", "teams"] (defScope s_KnockOut_init) := ⟨rfl, rfl, rfl, by decide +kernel, rfl, by decide +kernel, by decide +kernel⟩
def dd_KnockOut_init : He.DefD := ⟨("KnockOut", some "__init__"), "__init__", "KnockOut.__init__", defArgs s_KnockOut_init, defBody s_KnockOut_init, defScope s_KnockOut_init, [], []⟩
abbrev s_KnockOut_pairs : Stmt := inClass (top 8) 1
theorem sc_KnockOut_pairs : FnScope ["self"] ["self"] (defScope s_KnockOut_pairs) := ⟨rfl, rfl, rfl, by decide +kernel, rfl, by decide +kernel, by decide +kernel⟩
def dd_KnockOut_pairs : He.DefD := ⟨("KnockOut", some "pairs"), "pairs", "KnockOut.pairs", defArgs s_KnockOut_pairs, defBody s_KnockOut_pairs, defScope s_KnockOut_pairs, [], []⟩
abbrev s_KnockOut_decided_for : Stmt := inClass (top 8) 2
theorem sc_KnockOut_decided_for : FnScope ["self", "pair", "team"] ["self", "pair"] (defScope s_KnockOut_decided_for) := ⟨rfl, rfl, rfl, by decide +kernel, rfl, by decide +kernel, by decide +kernel⟩
def dd_KnockOut_decided_for : He.DefD := ⟨("KnockOut", some "decided_for"), "decided_for", "KnockOut.decided_for", defArgs s_KnockOut_decided_for, defBody s_KnockOut_decided_for, defScope s_KnockOut_decided_for, [], []⟩
abbrev s_KnockOut_may_win : Stmt := inClass (top 8) 3
theorem sc_KnockOut_may_win : FnScope ["self", "team", "pair"] ["self", "team"] (defScope s_KnockOut_may_win) := ⟨rfl, rfl, rfl, by decide +kernel, rfl, by decide +kernel, by decide +kernel⟩
def dd_KnockOut_may_win : He.DefD := ⟨("KnockOut", some "may_win"), "may_win", "KnockOut.may_win", defArgs s_KnockOut_may_win, defBody s_KnockOut_may_win, defScope s_KnockOut_may_win, [], []⟩
abbrev s_KnockOut_win : Stmt := inClass (top 8) 4
theorem sc_KnockOut_win : FnScope ["self", "team"] ["self", "team"] (defScope s_KnockOut_win) := ⟨rfl, rfl, rfl, by decide +kernel, rfl, by decide +kernel, by decide +kernel⟩
def dd_KnockOut_win : He.DefD := ⟨("KnockOut", some "win"), "win", "KnockOut.win", defArgs s_KnockOut_win, defBody s_KnockOut_win, defScope s_KnockOut_win, [], []⟩
abbrev s_KnockOut_go_on : Stmt := inClass (top 8) 5
theorem sc_KnockOut_go_on : FnScope ["self", "winners", "pair"] ["self"] (defScope s_KnockOut_go_on) := ⟨rfl, rfl, rfl, by decide +kernel, rfl, by decide +kernel, by decide +kernel⟩
def dd_KnockOut_go_on : He.DefD := ⟨("KnockOut", some "go_on"), "go_on", "KnockOut.go_on", defArgs s_KnockOut_go_on, defBody s_KnockOut_go_on, defScope s_KnockOut_go_on, [], []⟩
abbrev s_seed_row : Stmt := top 9
theorem sc_seed_row : FnScope ["least", "row", "together", "wider", "seed"] ["least"] (defScope s_seed_row) := ⟨rfl, rfl, rfl, by decide +kernel, rfl, by decide +kernel, by decide +kernel⟩
def dd_seed_row : He.DefD := ⟨("seed_row", none), "seed_row", "seed_row", defArgs s_seed_row, defBody s_seed_row, defScope s_seed_row, [], []⟩
abbrev s_board_units : Stmt := top 14
theorem sc_board_units : FnScope ["apart", "reached", "limit"] ["apart"] (defScope s_board_units) := ⟨rfl, rfl, rfl, by decide +kernel, rfl, by decide +kernel, by decide +kernel⟩
def dd_board_units : He.DefD := ⟨("board_units", none), "board_units", "board_units", defArgs s_board_units, defBody s_board_units, defScope s_board_units, [], []⟩
abbrev s_match_units : Stmt := top 15
theorem sc_match_units : FnScope ["boards", "board"] ["boards"] (defScope s_match_units) := ⟨rfl, rfl, rfl, by decide +kernel, rfl, by decide +kernel, by decide +kernel⟩
def dd_match_units : He.DefD := ⟨("match_units", none), "match_units", "match_units", defArgs s_match_units, defBody s_match_units, defScope s_match_units, [], []⟩
abbrev s_match_points : Stmt := top 16
theorem sc_match_points : FnScope ["units", "more"] ["units"] (defScope s_match_points) := ⟨rfl, rfl, rfl, by decide +kernel, rfl, by decide +kernel, by decide +kernel⟩
def dd_match_points : He.DefD := ⟨("match_points", none), "match_points", "match_points", defArgs s_match_points, defBody s_match_points, defScope s_match_points, [], []⟩
abbrev s_Match_init : Stmt := inClass (top 19) 0
theorem sc_Match_init : FnScope ["self", "first", "second"] ["self", "first", "second"] (defScope s_Match_init) := ⟨rfl, rfl, rfl, by decide +kernel, rfl, by decide +kernel, by decide +kernel⟩
def dd_Match_init : He.DefD := ⟨("Match", some "__init__"), "__init__", "Match.__init__", defArgs s_Match_init, defBody s_Match_init, defScope s_Match_init, [], []⟩
abbrev s_Match_is_of : Stmt := inClass (top 19) 1
theorem sc_Match_is_of : FnScope ["self", "a", "b"] ["self", "a", "b"] (defScope s_Match_is_of) := ⟨rfl, rfl, rfl, by decide +kernel, rfl, by decide +kernel, by decide +kernel⟩
def dd_Match_is_of : He.DefD := ⟨("Match", some "is_of"), "is_of", "Match.is_of", defArgs s_Match_is_of, defBody s_Match_is_of, defScope s_Match_is_of, [], []⟩
abbrev s_Match_tell : Stmt := inClass (top 19) 2
theorem sc_Match_tell : FnScope ["self", "a", "units"] ["self", "a", "units"] (defScope s_Match_tell) := ⟨rfl, rfl, rfl, by decide +kernel, rfl, by decide +kernel, by decide +kernel⟩
def dd_Match_tell : He.DefD := ⟨("Match", some "tell"), "tell", "Match.tell", defArgs s_Match_tell, defBody s_Match_tell, defScope s_Match_tell, [], []⟩
abbrev s_Round_init : Stmt := inClass (top 20) 0
theorem sc_Round_init : FnScope ["self", "pairs", "sits_out", "pair"] ["self", "pairs", "sits_out"] (defScope s_Round_init) := ⟨rfl, rfl, rfl, by decide +kernel, rfl, by decide +kernel, by decide +kernel⟩
def dd_Round_init : He.DefD := ⟨("Round", some "__init__"), "__init__", "Round.__init__", defArgs s_Round_init, defBody s_Round_init, defScope s_Round_init, [], []⟩
abbrev s_Round_is_whole : Stmt := inClass (top 20) 1
theorem sc_Round_is_whole : FnScope ["self", "one"] ["self"] (defScope s_Round_is_whole) := ⟨rfl, rfl, rfl, by decide +kernel, rfl, by decide +kernel, by decide +kernel⟩
def dd_Round_is_whole : He.DefD := ⟨("Round", some "is_whole"), "is_whole", "Round.is_whole", defArgs s_Round_is_whole, defBody s_Round_is_whole, defScope s_Round_is_whole, [], []⟩
abbrev s_Round_match_of : Stmt := inClass (top 20) 2
theorem sc_Round_match_of : FnScope ["self", "a", "b", "one"] ["self", "a", "b"] (defScope s_Round_match_of) := ⟨rfl, rfl, rfl, by decide +kernel, rfl, by decide +kernel, by decide +kernel⟩
def dd_Round_match_of : He.DefD := ⟨("Round", some "match_of"), "match_of", "Round.match_of", defArgs s_Round_match_of, defBody s_Round_match_of, defScope s_Round_match_of, [], []⟩
abbrev s_Place_init : Stmt := inClass (top 21) 0
theorem sc_Place_init : FnScope ["self", "team"] ["self", "team"] (defScope s_Place_init) := ⟨rfl, rfl, rfl, by decide +kernel, rfl, by decide +kernel, by decide +kernel⟩
def dd_Place_init : He.DefD := ⟨("Place", some "__init__"), "__init__", "Place.__init__", defArgs s_Place_init, defBody s_Place_init, defScope s_Place_init, [], []⟩
abbrev s_Place_play : Stmt := inClass (top 21) 1
theorem sc_Place_play : FnScope ["self", "units"] ["self", "units"] (defScope s_Place_play) := ⟨rfl, rfl, rfl, by decide +kernel, rfl, by decide +kernel, by decide +kernel⟩
def dd_Place_play : He.DefD := ⟨("Place", some "play"), "play", "Place.play", defArgs s_Place_play, defBody s_Place_play, defScope s_Place_play, [], []⟩
abbrev s_Place_sit_out : Stmt := inClass (top 21) 2
theorem sc_Place_sit_out : FnScope ["self"] ["self"] (defScope s_Place_sit_out) := ⟨rfl, rfl, rfl, by decide +kernel, rfl, by decide +kernel, by decide +kernel⟩
def dd_Place_sit_out : He.DefD := ⟨("Place", some "sit_out"), "sit_out", "Place.sit_out", defArgs s_Place_sit_out, defBody s_Place_sit_out, defScope s_Place_sit_out, [], []⟩
abbrev s_Event_init : Stmt := inClass (top 22) 0
theorem sc_Event_init : FnScope ["self"] ["self"] (defScope s_Event_init) := ⟨rfl, rfl, rfl, by decide +kernel, rfl, by decide +kernel, by decide +kernel⟩
def dd_Event_init : He.DefD := ⟨("Event", some "__init__"), "__init__", "Event.__init__", defArgs s_Event_init, defBody s_Event_init, defScope s_Event_init, [], []⟩
abbrev s_Event_begin : Stmt := inClass (top 22) 1
theorem sc_Event_begin : FnScope ["self", "size"] ["self", "size"] (defScope s_Event_begin) := ⟨rfl, rfl, rfl, by decide +kernel, rfl, by decide +kernel, by decide +kernel⟩
def dd_Event_begin : He.DefD := ⟨("Event", some "begin"), "begin", "Event.begin", defArgs s_Event_begin, defBody s_Event_begin, defScope s_Event_begin, [], []⟩
abbrev s_Event_is_whole : Stmt := inClass (top 22) 2
theorem sc_Event_is_whole : FnScope ["self"] ["self"] (defScope s_Event_is_whole) := ⟨rfl, rfl, rfl, by decide +kernel, rfl, by decide +kernel, by decide +kernel⟩
def dd_Event_is_whole : He.DefD := ⟨("Event", some "is_whole"), "is_whole", "Event.is_whole", defArgs s_Event_is_whole, defBody s_Event_is_whole, defScope s_Event_is_whole, [], []⟩
abbrev s_Event_is_full : Stmt := inClass (top 22) 3
theorem sc_Event_is_full : FnScope ["self"] ["self"] (defScope s_Event_is_full) := ⟨rfl, rfl, rfl, by decide +kernel, rfl, by decide +kernel, by decide +kernel⟩
def dd_Event_is_full : He.DefD := ⟨("Event", some "is_full"), "is_full", "Event.is_full", defArgs s_Event_is_full, defBody s_Event_is_full, defScope s_Event_is_full, [], []⟩
abbrev s_Event_round_of : Stmt := inClass (top 22) 4
theorem sc_Event_round_of : FnScope ["self", "number"] ["self", "number"] (defScope s_Event_round_of) := ⟨rfl, rfl, rfl, by decide +kernel, rfl, by decide +kernel, by decide +kernel⟩
def dd_Event_round_of : He.DefD := ⟨("Event", some "round_of"), "round_of", "Event.round_of", defArgs s_Event_round_of, defBody s_Event_round_of, defScope s_Event_round_of, [], []⟩
abbrev s_Event_match_of : Stmt := inClass (top 22) 5
theorem sc_Event_match_of : FnScope ["self", "number", "a", "b", "found"] ["self", "number", "a", "b"] (defScope s_Event_match_of) := ⟨rfl, rfl, rfl, by decide +kernel, rfl, by decide +kernel, by decide +kernel⟩
def dd_Event_match_of : He.DefD := ⟨("Event", some "match_of"), "match_of", "Event.match_of", defArgs s_Event_match_of, defBody s_Event_match_of, defScope s_Event_match_of, [], []⟩
abbrev s_Event_met_in : Stmt := inClass (top 22) 6
theorem sc_Event_met_in : FnScope ["self", "a", "b", "number", "one"] ["self", "a", "b"] (defScope s_Event_met_in) := ⟨rfl, rfl, rfl, by decide +kernel, rfl, by decide +kernel, by decide +kernel⟩
def dd_Event_met_in : He.DefD := ⟨("Event", some "met_in"), "met_in", "Event.met_in", defArgs s_Event_met_in, defBody s_Event_met_in, defScope s_Event_met_in, [], []⟩
abbrev s_Event_has_sat_out : Stmt := inClass (top 22) 7
theorem sc_Event_has_sat_out : FnScope ["self", "team", "one"] ["self", "team"] (defScope s_Event_has_sat_out) := ⟨rfl, rfl, rfl, by decide +kernel, rfl, by decide +kernel, by decide +kernel⟩
def dd_Event_has_sat_out : He.DefD := ⟨("Event", some "has_sat_out"), "has_sat_out", "Event.has_sat_out", defArgs s_Event_has_sat_out, defBody s_Event_has_sat_out, defScope s_Event_has_sat_out, [], []⟩
abbrev s_Event_standing : Stmt := inClass (top 22) 8
theorem sc_Event_standing : FnScope ["self", "places", "one", "team"] ["self"] (defScope s_Event_standing) := ⟨rfl, rfl, rfl, by decide +kernel, rfl, by decide +kernel, by decide +kernel⟩
def dd_Event_standing : He.DefD := ⟨("Event", some "standing"), "standing", "Event.standing", defArgs s_Event_standing, defBody s_Event_standing, defScope s_Event_standing, [], []⟩
abbrev s_add_round : Stmt := top 23
theorem sc_add_round : FnScope ["places", "one", "played"] ["places", "one"] (defScope s_add_round) := ⟨rfl, rfl, rfl, by decide +kernel, rfl, by decide +kernel, by decide +kernel⟩
def dd_add_round : He.DefD := ⟨("add_round", none), "add_round", "add_round", defArgs s_add_round, defBody s_add_round, defScope s_add_round, [], []⟩
abbrev s_next_round : Stmt := top 25
theorem sc_next_round : FnScope ["event", "mode", "places", "costs", "known", "sits_out", "found"] ["event", "mode"] (defScope s_next_round) := ⟨rfl, rfl, rfl, by decide +kernel, rfl, by decide +kernel, by decide +kernel⟩
def dd_next_round : He.DefD := ⟨("next_round", none), "next_round", "next_round", defArgs s_next_round, defBody s_next_round, defScope s_next_round, [], []⟩
abbrev s_pairings_left : Stmt := top 26
theorem sc_pairings_left : FnScope ["event", "places", "costs", "known", "sits_out"] ["event"] (defScope s_pairings_left) := ⟨rfl, rfl, rfl, by decide +kernel, rfl, by decide +kernel, by decide +kernel⟩
def dd_pairings_left : He.DefD := ⟨("pairings_left", none), "pairings_left", "pairings_left", defArgs s_pairings_left, defBody s_pairings_left, defScope s_pairings_left, [], []⟩
abbrev s_may_sit_out : Stmt := top 27
theorem sc_may_sit_out : FnScope ["places", "place"] ["places"] (defScope s_may_sit_out) := ⟨rfl, rfl, rfl, by decide +kernel, rfl, by decide +kernel, by decide +kernel⟩
def dd_may_sit_out : He.DefD := ⟨("may_sit_out", none), "may_sit_out", "may_sit_out", defArgs s_may_sit_out, defBody s_may_sit_out, defScope s_may_sit_out, [], []⟩
abbrev s_teams_without : Stmt := top 28
theorem sc_teams_without : FnScope ["places", "sits_out", "place"] ["places", "sits_out"] (defScope s_teams_without) := ⟨rfl, rfl, rfl, by decide +kernel, rfl, by decide +kernel, by decide +kernel⟩
def dd_teams_without : He.DefD := ⟨("teams_without", none), "teams_without", "teams_without", defArgs s_teams_without, defBody s_teams_without, defScope s_teams_without, [], []⟩
abbrev s_pair_costs : Stmt := top 29
theorem sc_pair_costs : FnScope ["event", "places", "mode", "costs", "at", "upper", "lower"] ["event", "places", "mode"] (defScope s_pair_costs) := ⟨rfl, rfl, rfl, by decide +kernel, rfl, by decide +kernel, by decide +kernel⟩
def dd_pair_costs : He.DefD := ⟨("pair_costs", none), "pair_costs", "pair_costs", defArgs s_pair_costs, defBody s_pair_costs, defScope s_pair_costs, [], []⟩
abbrev s_pair_cost : Stmt := top 30
theorem sc_pair_cost : FnScope ["points", "other_points", "apart"] ["points", "other_points"] (defScope s_pair_cost) := ⟨rfl, rfl, rfl, by decide +kernel, rfl, by decide +kernel, by decide +kernel⟩
def dd_pair_cost : He.DefD := ⟨("pair_cost", none), "pair_cost", "pair_cost", defArgs s_pair_cost, defBody s_pair_cost, defScope s_pair_cost, [], []⟩
abbrev s_cheapest : Stmt := top 31
theorem sc_cheapest : FnScope ["teams", "costs", "known", "key", "best", "partner", "pair", "rest", "cost", "team"] ["teams", "costs", "known"] (defScope s_cheapest) := ⟨rfl, rfl, rfl, by decide +kernel, rfl, by decide +kernel, by decide +kernel⟩
def dd_cheapest : He.DefD := ⟨("cheapest", none), "cheapest", "cheapest", defArgs s_cheapest, defBody s_cheapest, defScope s_cheapest, [], []⟩
abbrev s_count_pairings : Stmt := top 32
theorem sc_count_pairings : FnScope ["teams", "costs", "known", "key", "count", "partner", "team"] ["teams", "costs", "known"] (defScope s_count_pairings) := ⟨rfl, rfl, rfl, by decide +kernel, rfl, by decide +kernel, by decide +kernel⟩
def dd_count_pairings : He.DefD := ⟨("count_pairings", none), "count_pairings", "count_pairings", defArgs s_count_pairings, defBody s_count_pairings, defScope s_count_pairings, [], []⟩
abbrev s_fault : Stmt := top 33
theorem sc_fault : FnScope ["event", "row", "sits_out", "pair"] ["event", "row"] (defScope s_fault) := ⟨rfl, rfl, rfl, by decide +kernel, rfl, by decide +kernel, by decide +kernel⟩
def dd_fault : He.DefD := ⟨("fault", none), "fault", "fault", defArgs s_fault, defBody s_fault, defScope s_fault, [], []⟩
abbrev s_row_cost : Stmt := top 34
theorem sc_row_cost : FnScope ["event", "row", "points", "place", "pair"] ["event", "row"] (defScope s_row_cost) := ⟨rfl, rfl, rfl, by decide +kernel, rfl, by decide +kernel, by decide +kernel⟩
def dd_row_cost : He.DefD := ⟨("row_cost", none), "row_cost", "row_cost", defArgs s_row_cost, defBody s_row_cost, defScope s_row_cost, [], []⟩
abbrev s_not_named : Stmt := top 35
theorem sc_not_named : FnScope ["event", "row", "team"] ["event", "row"] (defScope s_not_named) := ⟨rfl, rfl, rfl, by decide +kernel, rfl, by decide +kernel, by decide +kernel⟩
def dd_not_named : He.DefD := ⟨("not_named", none), "not_named", "not_named", defArgs s_not_named, defBody s_not_named, defScope s_not_named, [], []⟩
abbrev s_answer_teams : Stmt := top 45
theorem sc_answer_teams : FnScope ["event", "call"] ["event", "call"] (defScope s_answer_teams) := ⟨rfl, rfl, rfl, by decide +kernel, rfl, by decide +kernel, by decide +kernel⟩
def dd_answer_teams : He.DefD := ⟨("answer_teams", none), "answer_teams", "answer_teams", defArgs s_answer_teams, defBody s_answer_teams, defScope s_answer_teams, [], []⟩
abbrev s_answer_pair : Stmt := top 46
theorem sc_answer_pair : FnScope ["event", "call", "found", "told", "one"] ["event", "call"] (defScope s_answer_pair) := ⟨rfl, rfl, rfl, by decide +kernel, rfl, by decide +kernel, by decide +kernel⟩
def dd_answer_pair : He.DefD := ⟨("answer_pair", none), "answer_pair", "answer_pair", defArgs s_answer_pair, defBody s_answer_pair, defScope s_answer_pair, [], []⟩
abbrev s_answer_draw : Stmt := top 47
theorem sc_answer_draw : FnScope ["event", "call", "found"] ["event", "call"] (defScope s_answer_draw) := ⟨rfl, rfl, rfl, by decide +kernel, rfl, by decide +kernel, by decide +kernel⟩
def dd_answer_draw : He.DefD := ⟨("answer_draw", none), "answer_draw", "answer_draw", defArgs s_answer_draw, defBody s_answer_draw, defScope s_answer_draw, [], []⟩
abbrev s_answer_own : Stmt := top 48
theorem sc_answer_own : FnScope ["event", "call"] ["event", "call"] (defScope s_answer_own) := ⟨rfl, rfl, rfl, by decide +kernel, rfl, by decide +kernel, by decide +kernel⟩
def dd_answer_own : He.DefD := ⟨("answer_own", none), "answer_own", "answer_own", defArgs s_answer_own, defBody s_answer_own, defScope s_answer_own, [], []⟩
abbrev s_answer_match : Stmt := top 49
theorem sc_answer_match : FnScope ["event", "call", "found", "units"] ["event", "call"] (defScope s_answer_match) := ⟨rfl, rfl, rfl, by decide +kernel, rfl, by decide +kernel, by decide +kernel⟩
def dd_answer_match : He.DefD := ⟨("answer_match", none), "answer_match", "answer_match", defArgs s_answer_match, defBody s_answer_match, defScope s_answer_match, [], []⟩
abbrev s_answer_result : Stmt := top 50
theorem sc_answer_result : FnScope ["event", "call", "found", "units"] ["event", "call"] (defScope s_answer_result) := ⟨rfl, rfl, rfl, by decide +kernel, rfl, by decide +kernel, by decide +kernel⟩
def dd_answer_result : He.DefD := ⟨("answer_result", none), "answer_result", "answer_result", defArgs s_answer_result, defBody s_answer_result, defScope s_answer_result, [], []⟩
abbrev s_answer_standing : Stmt := top 51
theorem sc_answer_standing : FnScope ["event", "call", "told", "place"] ["event", "call"] (defScope s_answer_standing) := ⟨rfl, rfl, rfl, by decide +kernel, rfl, by decide +kernel, by decide +kernel⟩
def dd_answer_standing : He.DefD := ⟨("answer_standing", none), "answer_standing", "answer_standing", defArgs s_answer_standing, defBody s_answer_standing, defScope s_answer_standing, [], []⟩
abbrev s_answer_met : Stmt := top 52
theorem sc_answer_met : FnScope ["event", "call"] ["event", "call"] (defScope s_answer_met) := ⟨rfl, rfl, rfl, by decide +kernel, rfl, by decide +kernel, by decide +kernel⟩
def dd_answer_met : He.DefD := ⟨("answer_met", none), "answer_met", "answer_met", defArgs s_answer_met, defBody s_answer_met, defScope s_answer_met, [], []⟩
abbrev s_answer_left : Stmt := top 53
theorem sc_answer_left : FnScope ["event", "call"] ["event", "call"] (defScope s_answer_left) := ⟨rfl, rfl, rfl, by decide +kernel, rfl, by decide +kernel, by decide +kernel⟩
def dd_answer_left : He.DefD := ⟨("answer_left", none), "answer_left", "answer_left", defArgs s_answer_left, defBody s_answer_left, defScope s_answer_left, [], []⟩
abbrev s_answer_check : Stmt := top 54
theorem sc_answer_check : FnScope ["event", "call", "found"] ["event", "call"] (defScope s_answer_check) := ⟨rfl, rfl, rfl, by decide +kernel, rfl, by decide +kernel, by decide +kernel⟩
def dd_answer_check : He.DefD := ⟨("answer_check", none), "answer_check", "answer_check", defArgs s_answer_check, defBody s_answer_check, defScope s_answer_check, [], []⟩
abbrev s_answer_points : Stmt := top 55
theorem sc_answer_points : FnScope ["event", "call", "units"] ["event", "call"] (defScope s_answer_points) := ⟨rfl, rfl, rfl, by decide +kernel, rfl, by decide +kernel, by decide +kernel⟩
def dd_answer_points : He.DefD := ⟨("answer_points", none), "answer_points", "answer_points", defArgs s_answer_points, defBody s_answer_points, defScope s_answer_points, [], []⟩
abbrev s_answer_units : Stmt := top 56
theorem sc_answer_units : FnScope ["event", "call"] ["event", "call"] (defScope s_answer_units) := ⟨rfl, rfl, rfl, by decide +kernel, rfl, by decide +kernel, by decide +kernel⟩
def dd_answer_units : He.DefD := ⟨("answer_units", none), "answer_units", "answer_units", defArgs s_answer_units, defBody s_answer_units, defScope s_answer_units, [], []⟩
abbrev s_answer_knock : Stmt := top 57
theorem sc_answer_knock : FnScope ["event", "call", "size", "place"] ["event", "call"] (defScope s_answer_knock) := ⟨rfl, rfl, rfl, by decide +kernel, rfl, by decide +kernel, by decide +kernel⟩
def dd_answer_knock : He.DefD := ⟨("answer_knock", none), "answer_knock", "answer_knock", defArgs s_answer_knock, defBody s_answer_knock, defScope s_answer_knock, [], []⟩
abbrev s_answer_row : Stmt := top 58
theorem sc_answer_row : FnScope ["event", "call", "found"] ["event", "call"] (defScope s_answer_row) := ⟨rfl, rfl, rfl, by decide +kernel, rfl, by decide +kernel, by decide +kernel⟩
def dd_answer_row : He.DefD := ⟨("answer_row", none), "answer_row", "answer_row", defArgs s_answer_row, defBody s_answer_row, defScope s_answer_row, [], []⟩
abbrev s_answer_win : Stmt := top 59
theorem sc_answer_win : FnScope ["event", "call", "found"] ["event", "call"] (defScope s_answer_win) := ⟨rfl, rfl, rfl, by decide +kernel, rfl, by decide +kernel, by decide +kernel⟩
def dd_answer_win : He.DefD := ⟨("answer_win", none), "answer_win", "answer_win", defArgs s_answer_win, defBody s_answer_win, defScope s_answer_win, [], []⟩
abbrev s_answer_round_of : Stmt := top 60
theorem sc_answer_round_of : FnScope ["event", "call", "found", "told", "one"] ["event", "call"] (defScope s_answer_round_of) := ⟨rfl, rfl, rfl, by decide +kernel, rfl, by decide +kernel, by decide +kernel⟩
def dd_answer_round_of : He.DefD := ⟨("answer_round_of", none), "answer_round_of", "answer_round_of", defArgs s_answer_round_of, defBody s_answer_round_of, defScope s_answer_round_of, [], []⟩
abbrev s_answer_call : Stmt := top 63
theorem sc_answer_call : FnScope ["event", "call", "answering"] ["event", "call"] (defScope s_answer_call) := ⟨rfl, rfl, rfl, by decide +kernel, rfl, by decide +kernel, by decide +kernel⟩
def dd_answer_call : He.DefD := ⟨("answer_call", none), "answer_call", "answer_call", defArgs s_answer_call, defBody s_answer_call, defScope s_answer_call, [], []⟩
abbrev s_answers : Stmt := top 64
theorem sc_answers : FnScope ["calls", "event", "told", "call", "answer"] ["calls"] (defScope s_answers) := ⟨rfl, rfl, rfl, by decide +kernel, rfl, by decide +kernel, by decide +kernel⟩
def dd_answers : He.DefD := ⟨("answers", none), "answers", "answers", defArgs s_answers, defBody s_answers, defScope s_answers, [], []⟩
def fn : List He.DefD := [dd_Call_init, dd_Call_is_in_range, dd_is_row_in_range, dd_by_twos, dd_split_calls, dd_KnockOut_init, dd_KnockOut_pairs, dd_KnockOut_decided_for, dd_KnockOut_may_win, dd_KnockOut_win, dd_KnockOut_go_on, dd_seed_row, dd_board_units, dd_match_units, dd_match_points, dd_Match_init, dd_Match_is_of, dd_Match_tell, dd_Round_init, dd_Round_is_whole, dd_Round_match_of, dd_Place_init, dd_Place_play, dd_Place_sit_out, dd_Event_init, dd_Event_begin, dd_Event_is_whole, dd_Event_is_full, dd_Event_round_of, dd_Event_match_of, dd_Event_met_in, dd_Event_has_sat_out, dd_Event_standing, dd_add_round, dd_next_round, dd_pairings_left, dd_may_sit_out, dd_teams_without, dd_pair_costs, dd_pair_cost, dd_cheapest, dd_count_pairings, dd_fault, dd_row_cost, dd_not_named, dd_answer_teams, dd_answer_pair, dd_answer_draw, dd_answer_own, dd_answer_match, dd_answer_result, dd_answer_standing, dd_answer_met, dd_answer_left, dd_answer_check, dd_answer_points, dd_answer_units, dd_answer_knock, dd_answer_row, dd_answer_win, dd_answer_round_of, dd_answer_call, dd_answers]
def fa0 : List He.Fa := [.glo "is_row_in_range", .glo "by_twos", .glo "split_calls", .glo "seed_row", .glo "board_units", .glo "match_units", .glo "match_points", .glo "add_round", .glo "next_round", .glo "pairings_left", .glo "may_sit_out", .glo "teams_without", .glo "pair_costs", .glo "pair_cost", .glo "cheapest", .glo "count_pairings", .glo "fault", .glo "row_cost", .glo "not_named", .glo "answer_teams", .glo "answer_pair", .glo "answer_draw", .glo "answer_own", .glo "answer_match", .glo "answer_result", .glo "answer_standing", .glo "answer_met", .glo "answer_left", .glo "answer_check", .glo "answer_points"]
def fa1 : List He.Fa := [.glo "answer_units", .glo "answer_knock", .glo "answer_row", .glo "answer_win", .glo "answer_round_of", .glo "answer_call", .glo "answers", .glo "Call", .glo "KnockOut", .glo "Match", .glo "Round", .glo "Place", .glo "Event", .glo "RANGES", .glo "ROWS", .glo "LIMITS", .glo "ANSWERING", .glo "WITHOUT_TEAMS", .int "EVEN_POINTS" (10), .int "SIT_OUT_POINTS" (12), .int "MOST_ROUNDS" (11), .int "OUT_OF_RANGE" (-1), .int "NO_TEAMS" (-2), .int "NOT_WHOLE" (-3), .int "NO_KNOCK_OUT" (-4), .int "NOT_THERE" (-5), .int "MAY_NOT_BE" (-6), .int "NO_PAIRING" (-7), .int "FULL" (-8), .free "len"]
def fa2 : List He.Fa := [.free "zip", .free "all", .free "any", .free "sum", .free "max", .free "range", .free "abs", .free "sorted", .free "reversed", .free "enumerate", .free "tuple", .free "set", .cls "Call", .cls "KnockOut", .cls "Match", .cls "Round", .cls "Place", .cls "Event", .mkr "Call", .mkr "KnockOut", .mkr "Match", .mkr "Round", .mkr "Place", .mkr "Event", .noat "Call" "kind", .noat "Call" "numbers", .noat "Call" "row", .noat "KnockOut" "row", .noat "KnockOut" "won", .noat "Match" "first"]
def fa3 : List He.Fa := [.noat "Match" "second", .noat "Match" "units", .noat "Round" "matches", .noat "Round" "sits_out", .noat "Place" "team", .noat "Place" "points", .noat "Place" "units", .noat "Place" "sat_out", .noat "Event" "size", .noat "Event" "rounds", .noat "Event" "knock_out", .meth "Call" "is_in_range", .meth "KnockOut" "pairs", .meth "KnockOut" "decided_for", .meth "KnockOut" "may_win", .meth "KnockOut" "win", .meth "KnockOut" "go_on", .meth "Match" "is_of", .meth "Match" "tell", .meth "Round" "is_whole", .meth "Round" "match_of", .meth "Place" "play", .meth "Place" "sit_out", .meth "Event" "begin", .meth "Event" "is_whole", .meth "Event" "is_full", .meth "Event" "round_of", .meth "Event" "match_of", .meth "Event" "met_in", .meth "Event" "has_sat_out"]
def fa4 : List He.Fa := [.meth "Event" "standing"]
def fa : List He.Fa := fa0 ++ (fa1 ++ (fa2 ++ (fa3 ++ (fa4))))
/-! ### the tables of the top -/
/-- the items of the tuple at a -/
def tupAt (K : PySem.W.Frag) (a : Addr) : Option (List Value) := match K.lookup a with
  | some ⟨.type c, _, .seq its _, _⟩ => if c = "tuple" ∧ its.size ≤ sizeLine then some its.toList else none
  | _ => none
theorem tupAt_sq {K : PySem.W.Frag} {a : Addr} {us : List Value} {xs : List V} (h : tupAt K a = some us) (r : Vals xs us) (H : Hp) : SqT K H a xs := by
  unfold tupAt at h
  split at h
  · rename_i c od its n sl hk
    split at h
    · rename_i q
      obtain ⟨rfl, q2⟩ := q
      obtain rfl := Option.some.inj h
      exact .inr ⟨_, its, n, hk, rfl, rfl, q2, r⟩
    · cases h
  · cases h
def isInts : List Value → List Int → Bool
  | [], [] => true
  | .int i _ :: us, j :: js => decide (i = j) && isInts us js
  | _, _ => false
theorem isInts_vals : ∀ {us : List Value} {ns : List Int}, isInts us ns = true → Vals (ns.map V.int) us
  | [], [], _ => .nil
  | [], _ :: _, h => by cases h
  | u :: us, [], h => by cases u <;> cases h
  | u :: us, n :: ns, h => by
    cases u with
    | int i t =>
      obtain ⟨h1, h2⟩ := Bool.and_eq_true_iff.mp (show (decide (i = n) && isInts us ns) = true from h)
      obtain rfl := of_decide_eq_true h1
      exact .cons ⟨t, rfl⟩ (isInts_vals h2)
    | _ => cases h
/-- v is a tuple of these ints -/
def isTupI (K : PySem.W.Frag) (v : Value) (ns : List Int) : Bool := match v with
  | .ref a => (match tupAt K a with
    | some us => isInts us ns
    | none => false)
  | _ => false
theorem isTupI_ok {K : PySem.W.Frag} {v : Value} {ns : List Int} (h : isTupI K v ns = true) : ∃ a, v = .ref a ∧ ∀ H, SqT K H a (ns.map V.int) := by
  cases v with
  | ref a =>
    have h : (match tupAt K a with | some us => isInts us ns | none => false) = true := h
    cases q : tupAt K a with
    | none => rw [q] at h; cases h
    | some us => rw [q] at h; exact ⟨a, rfl, fun H => tupAt_sq q (isInts_vals h) H⟩
  | _ => cases h
def isTupTs (K : PySem.W.Frag) : List Value → List (List Int) → Bool
  | [], [] => true
  | u :: us, n :: ns => isTupI K u n && isTupTs K us ns
  | _, _ => false
/-- the tuple at a holds tuples of ints -/
def TupTs (K : PySem.W.Frag) (a : Addr) (L : List (List Int)) : Prop := ∃ bs : List Addr, bs.length = L.length ∧ (∀ H, SqT K H a (bs.map V.ref)) ∧ ∀ (i : Nat) (b : Addr) (ns : List Int), bs[i]? = some b → L[i]? = some ns → ∀ H, SqT K H b (ns.map V.int)
theorem isTupTs_ok {K : PySem.W.Frag} : ∀ {us : List Value} {L : List (List Int)}, isTupTs K us L = true → ∃ bs : List Addr, bs.length = L.length ∧ Vals (bs.map V.ref) us ∧ ∀ (i : Nat) (b : Addr) (ns : List Int), bs[i]? = some b → L[i]? = some ns → ∀ H, SqT K H b (ns.map V.int)
  | [], [], _ => ⟨[], rfl, .nil, fun i b ns h => by simp at h⟩
  | [], _ :: _, h => by cases h
  | _ :: _, [], h => by cases h
  | u :: us, n :: L, h => by
    obtain ⟨h1, h2⟩ := Bool.and_eq_true_iff.mp (show (isTupI K u n && isTupTs K us L) = true from h)
    obtain ⟨a, rfl, k⟩ := isTupI_ok h1
    obtain ⟨bs, e1, e2, e3⟩ := isTupTs_ok h2
    refine ⟨a :: bs, by simp [e1], .cons rfl e2, fun i b ns q1 q2 => ?_⟩
    cases i with
    | zero =>
      obtain rfl : a = b := Option.some.inj q1
      obtain rfl : n = ns := Option.some.inj q2
      exact k
    | succ i => exact e3 i b ns q1 q2
def isRngs (K : PySem.W.Frag) : List Value → List (List (List Int)) → Bool
  | [], [] => true
  | .ref a :: us, n :: ns => (match tupAt K a with
    | some vs => isTupTs K vs n
    | none => false) && isRngs K us ns
  | _, _ => false
theorem isRngs_ok {K : PySem.W.Frag} : ∀ {us : List Value} {L : List (List (List Int))}, isRngs K us L = true → ∃ bs : List Addr, bs.length = L.length ∧ Vals (bs.map V.ref) us ∧ ∀ (i : Nat) (b : Addr) (M : List (List Int)), bs[i]? = some b → L[i]? = some M → TupTs K b M
  | [], [], _ => ⟨[], rfl, .nil, fun i b ns h => by simp at h⟩
  | [], _ :: _, h => by cases h
  | u :: us, [], h => by cases u <;> cases h
  | u :: us, n :: L, h => by
    cases u with
    | ref a =>
      obtain ⟨h1, h2⟩ := Bool.and_eq_true_iff.mp (show ((match tupAt K a with | some vs => isTupTs K vs n | none => false) && isRngs K us L) = true from h)
      obtain ⟨bs, e1, e2, e3⟩ := isRngs_ok h2
      cases q : tupAt K a with
      | none => rw [q] at h1; cases h1
      | some vs =>
        rw [q] at h1
        obtain ⟨cs, c1, c2, c3⟩ := isTupTs_ok h1
        refine ⟨a :: bs, by simp [e1], .cons rfl e2, fun i b ns q1 q2 => ?_⟩
        cases i with
        | zero =>
          obtain rfl : a = b := Option.some.inj q1
          obtain rfl : n = ns := Option.some.inj q2
          exact ⟨cs, c1, fun H => tupAt_sq q c2 H, c3⟩
        | succ i => exact e3 i b ns q1 q2
    | _ => cases h
def isRefs : List Value → List Addr → Bool
  | [], [] => true
  | .ref a :: us, b :: bs => decide (a = b) && isRefs us bs
  | _, _ => false
theorem isRefs_vals : ∀ {us : List Value} {ns : List Addr}, isRefs us ns = true → Vals (ns.map V.ref) us
  | [], [], _ => .nil
  | [], _ :: _, h => by cases h
  | u :: us, [], h => by cases u <;> cases h
  | u :: us, n :: ns, h => by
    cases u with
    | ref a =>
      obtain ⟨h1, h2⟩ := Bool.and_eq_true_iff.mp (show (decide (a = n) && isRefs us ns) = true from h)
      obtain rfl := of_decide_eq_true h1
      exact .cons rfl (isRefs_vals h2)
    | _ => cases h
def RANGESm : List (List (List Int)) := [[[2, 12]], [[0, 1]], [[0, 1]], [], [[1, 12], [1, 12]], [[1, 11], [1, 12], [1, 12], [-768, 768]], [], [[1, 12], [1, 12]], [], [], [[-768, 768]], [[-20000, 20000]], [[2, 12]], [], [[1, 12]], [[1, 11]]]
def LIMITSm : List Int := [20, 50, 90, 130, 170, 220, 270, 320, 370, 430, 500, 600, 750, 900, 1100, 1300, 1500, 1750, 2000, 2250, 2500, 3000, 3500, 4000]
def ANSm : List Str := ["answer_teams", "answer_pair", "answer_draw", "answer_own", "answer_match", "answer_result", "answer_standing", "answer_met", "answer_left", "answer_check", "answer_points", "answer_units", "answer_knock", "answer_row", "answer_win", "answer_round_of"]
def rowsB (K : PySem.W.Frag) : Bool := match kInts K (He.ga K "ROWS") with
  | some [(3, u), (4, v), (9, w)] => isTupI K u [0, 12, 1, 12] && (isTupI K v [2, 64, -10000, 10000] && isTupI K w [0, 12, 1, 12])
  | _ => false
def ex (K : PySem.W.Frag) : Bool := isTupI K (.ref (He.ga K "LIMITS")) LIMITSm && (isTupI K (.ref (He.ga K "WITHOUT_TEAMS")) [0, 10, 11] && (rowsB K && ((match tupAt K (He.ga K "RANGES") with
  | some us => isRngs K us RANGESm
  | none => false) && match tupAt K (He.ga K "ANSWERING") with
  | some us => isRefs us (ANSm.map fun x => He.ga K x)
  | none => false)))
def tf : List He.Defn := [("Event", some "standing")]
/-! ### what the end leans on -/
/-- the table of standing's code object and the lambda's name -/
def LamT (K : PySem.W.Frag) : List (Addr × Str) := [((He.cT K ("Event", some "standing")).2, ("Event.standing.<locals>." : Str) ++ ("<lambda>" : Str))]
structure Txt (w : World) (K : PySem.W.Frag) (mg : Str → Option Value) (base : Heap) : Prop where
  d : He.SaysD fa fn K
  more : ex K = true
  g : ∀ (i : Nat) (x : Str), fa[i]? = some (.glo x) → mg x = some (.ref (He.ga K x))
  n : ∀ (i : Nat) (x : Str), fa[i]? = some (.free x) → mg x = none
  v : ∀ (i : Nat) (x : Str) (z : Int), fa[i]? = some (.int x z) → ∃ u, mg x = some u ∧ RelV (.int z) u
  tb : LamX.TabB base mg (He.cT K ("Event", some "standing")).1 (He.cT K ("Event", some "standing")).2
section
variable {w : World} {K : PySem.W.Frag} {mg : Str → Option Value} {base : Heap}
theorem Txt.g_is_row_in_range (T : Txt w K mg base) : mg "is_row_in_range" = some (.ref (He.ga K "is_row_in_range")) := T.g 0 _ rfl
theorem Txt.g_by_twos (T : Txt w K mg base) : mg "by_twos" = some (.ref (He.ga K "by_twos")) := T.g 1 _ rfl
theorem Txt.g_split_calls (T : Txt w K mg base) : mg "split_calls" = some (.ref (He.ga K "split_calls")) := T.g 2 _ rfl
theorem Txt.g_seed_row (T : Txt w K mg base) : mg "seed_row" = some (.ref (He.ga K "seed_row")) := T.g 3 _ rfl
theorem Txt.g_board_units (T : Txt w K mg base) : mg "board_units" = some (.ref (He.ga K "board_units")) := T.g 4 _ rfl
theorem Txt.g_match_units (T : Txt w K mg base) : mg "match_units" = some (.ref (He.ga K "match_units")) := T.g 5 _ rfl
theorem Txt.g_match_points (T : Txt w K mg base) : mg "match_points" = some (.ref (He.ga K "match_points")) := T.g 6 _ rfl
theorem Txt.g_add_round (T : Txt w K mg base) : mg "add_round" = some (.ref (He.ga K "add_round")) := T.g 7 _ rfl
theorem Txt.g_next_round (T : Txt w K mg base) : mg "next_round" = some (.ref (He.ga K "next_round")) := T.g 8 _ rfl
theorem Txt.g_pairings_left (T : Txt w K mg base) : mg "pairings_left" = some (.ref (He.ga K "pairings_left")) := T.g 9 _ rfl
theorem Txt.g_may_sit_out (T : Txt w K mg base) : mg "may_sit_out" = some (.ref (He.ga K "may_sit_out")) := T.g 10 _ rfl
theorem Txt.g_teams_without (T : Txt w K mg base) : mg "teams_without" = some (.ref (He.ga K "teams_without")) := T.g 11 _ rfl
theorem Txt.g_pair_costs (T : Txt w K mg base) : mg "pair_costs" = some (.ref (He.ga K "pair_costs")) := T.g 12 _ rfl
theorem Txt.g_pair_cost (T : Txt w K mg base) : mg "pair_cost" = some (.ref (He.ga K "pair_cost")) := T.g 13 _ rfl
theorem Txt.g_cheapest (T : Txt w K mg base) : mg "cheapest" = some (.ref (He.ga K "cheapest")) := T.g 14 _ rfl
theorem Txt.g_count_pairings (T : Txt w K mg base) : mg "count_pairings" = some (.ref (He.ga K "count_pairings")) := T.g 15 _ rfl
theorem Txt.g_fault (T : Txt w K mg base) : mg "fault" = some (.ref (He.ga K "fault")) := T.g 16 _ rfl
theorem Txt.g_row_cost (T : Txt w K mg base) : mg "row_cost" = some (.ref (He.ga K "row_cost")) := T.g 17 _ rfl
theorem Txt.g_not_named (T : Txt w K mg base) : mg "not_named" = some (.ref (He.ga K "not_named")) := T.g 18 _ rfl
theorem Txt.g_answer_teams (T : Txt w K mg base) : mg "answer_teams" = some (.ref (He.ga K "answer_teams")) := T.g 19 _ rfl
theorem Txt.g_answer_pair (T : Txt w K mg base) : mg "answer_pair" = some (.ref (He.ga K "answer_pair")) := T.g 20 _ rfl
theorem Txt.g_answer_draw (T : Txt w K mg base) : mg "answer_draw" = some (.ref (He.ga K "answer_draw")) := T.g 21 _ rfl
theorem Txt.g_answer_own (T : Txt w K mg base) : mg "answer_own" = some (.ref (He.ga K "answer_own")) := T.g 22 _ rfl
theorem Txt.g_answer_match (T : Txt w K mg base) : mg "answer_match" = some (.ref (He.ga K "answer_match")) := T.g 23 _ rfl
theorem Txt.g_answer_result (T : Txt w K mg base) : mg "answer_result" = some (.ref (He.ga K "answer_result")) := T.g 24 _ rfl
theorem Txt.g_answer_standing (T : Txt w K mg base) : mg "answer_standing" = some (.ref (He.ga K "answer_standing")) := T.g 25 _ rfl
theorem Txt.g_answer_met (T : Txt w K mg base) : mg "answer_met" = some (.ref (He.ga K "answer_met")) := T.g 26 _ rfl
theorem Txt.g_answer_left (T : Txt w K mg base) : mg "answer_left" = some (.ref (He.ga K "answer_left")) := T.g 27 _ rfl
theorem Txt.g_answer_check (T : Txt w K mg base) : mg "answer_check" = some (.ref (He.ga K "answer_check")) := T.g 28 _ rfl
theorem Txt.g_answer_points (T : Txt w K mg base) : mg "answer_points" = some (.ref (He.ga K "answer_points")) := T.g 29 _ rfl
theorem Txt.g_answer_units (T : Txt w K mg base) : mg "answer_units" = some (.ref (He.ga K "answer_units")) := T.g 30 _ rfl
theorem Txt.g_answer_knock (T : Txt w K mg base) : mg "answer_knock" = some (.ref (He.ga K "answer_knock")) := T.g 31 _ rfl
theorem Txt.g_answer_row (T : Txt w K mg base) : mg "answer_row" = some (.ref (He.ga K "answer_row")) := T.g 32 _ rfl
theorem Txt.g_answer_win (T : Txt w K mg base) : mg "answer_win" = some (.ref (He.ga K "answer_win")) := T.g 33 _ rfl
theorem Txt.g_answer_round_of (T : Txt w K mg base) : mg "answer_round_of" = some (.ref (He.ga K "answer_round_of")) := T.g 34 _ rfl
theorem Txt.g_answer_call (T : Txt w K mg base) : mg "answer_call" = some (.ref (He.ga K "answer_call")) := T.g 35 _ rfl
theorem Txt.g_answers (T : Txt w K mg base) : mg "answers" = some (.ref (He.ga K "answers")) := T.g 36 _ rfl
theorem Txt.g_Call (T : Txt w K mg base) : mg "Call" = some (.ref (He.ga K "Call")) := T.g 37 _ rfl
theorem Txt.g_KnockOut (T : Txt w K mg base) : mg "KnockOut" = some (.ref (He.ga K "KnockOut")) := T.g 38 _ rfl
theorem Txt.g_Match (T : Txt w K mg base) : mg "Match" = some (.ref (He.ga K "Match")) := T.g 39 _ rfl
theorem Txt.g_Round (T : Txt w K mg base) : mg "Round" = some (.ref (He.ga K "Round")) := T.g 40 _ rfl
theorem Txt.g_Place (T : Txt w K mg base) : mg "Place" = some (.ref (He.ga K "Place")) := T.g 41 _ rfl
theorem Txt.g_Event (T : Txt w K mg base) : mg "Event" = some (.ref (He.ga K "Event")) := T.g 42 _ rfl
theorem Txt.g_RANGES (T : Txt w K mg base) : mg "RANGES" = some (.ref (He.ga K "RANGES")) := T.g 43 _ rfl
theorem Txt.g_ROWS (T : Txt w K mg base) : mg "ROWS" = some (.ref (He.ga K "ROWS")) := T.g 44 _ rfl
theorem Txt.g_LIMITS (T : Txt w K mg base) : mg "LIMITS" = some (.ref (He.ga K "LIMITS")) := T.g 45 _ rfl
theorem Txt.g_ANSWERING (T : Txt w K mg base) : mg "ANSWERING" = some (.ref (He.ga K "ANSWERING")) := T.g 46 _ rfl
theorem Txt.g_WITHOUT_TEAMS (T : Txt w K mg base) : mg "WITHOUT_TEAMS" = some (.ref (He.ga K "WITHOUT_TEAMS")) := T.g 47 _ rfl
theorem Txt.v_EVEN_POINTS (T : Txt w K mg base) : ∃ u, mg "EVEN_POINTS" = some u ∧ RelV (.int (10)) u := T.v 48 _ _ rfl
theorem Txt.v_SIT_OUT_POINTS (T : Txt w K mg base) : ∃ u, mg "SIT_OUT_POINTS" = some u ∧ RelV (.int (12)) u := T.v 49 _ _ rfl
theorem Txt.v_MOST_ROUNDS (T : Txt w K mg base) : ∃ u, mg "MOST_ROUNDS" = some u ∧ RelV (.int (11)) u := T.v 50 _ _ rfl
theorem Txt.v_OUT_OF_RANGE (T : Txt w K mg base) : ∃ u, mg "OUT_OF_RANGE" = some u ∧ RelV (.int (-1)) u := T.v 51 _ _ rfl
theorem Txt.v_NO_TEAMS (T : Txt w K mg base) : ∃ u, mg "NO_TEAMS" = some u ∧ RelV (.int (-2)) u := T.v 52 _ _ rfl
theorem Txt.v_NOT_WHOLE (T : Txt w K mg base) : ∃ u, mg "NOT_WHOLE" = some u ∧ RelV (.int (-3)) u := T.v 53 _ _ rfl
theorem Txt.v_NO_KNOCK_OUT (T : Txt w K mg base) : ∃ u, mg "NO_KNOCK_OUT" = some u ∧ RelV (.int (-4)) u := T.v 54 _ _ rfl
theorem Txt.v_NOT_THERE (T : Txt w K mg base) : ∃ u, mg "NOT_THERE" = some u ∧ RelV (.int (-5)) u := T.v 55 _ _ rfl
theorem Txt.v_MAY_NOT_BE (T : Txt w K mg base) : ∃ u, mg "MAY_NOT_BE" = some u ∧ RelV (.int (-6)) u := T.v 56 _ _ rfl
theorem Txt.v_NO_PAIRING (T : Txt w K mg base) : ∃ u, mg "NO_PAIRING" = some u ∧ RelV (.int (-7)) u := T.v 57 _ _ rfl
theorem Txt.v_FULL (T : Txt w K mg base) : ∃ u, mg "FULL" = some u ∧ RelV (.int (-8)) u := T.v 58 _ _ rfl
theorem Txt.n_len (T : Txt w K mg base) : mg "len" = none := T.n 59 _ rfl
theorem Txt.n_zip (T : Txt w K mg base) : mg "zip" = none := T.n 60 _ rfl
theorem Txt.n_all (T : Txt w K mg base) : mg "all" = none := T.n 61 _ rfl
theorem Txt.n_any (T : Txt w K mg base) : mg "any" = none := T.n 62 _ rfl
theorem Txt.n_sum (T : Txt w K mg base) : mg "sum" = none := T.n 63 _ rfl
theorem Txt.n_max (T : Txt w K mg base) : mg "max" = none := T.n 64 _ rfl
theorem Txt.n_range (T : Txt w K mg base) : mg "range" = none := T.n 65 _ rfl
theorem Txt.n_abs (T : Txt w K mg base) : mg "abs" = none := T.n 66 _ rfl
theorem Txt.n_sorted (T : Txt w K mg base) : mg "sorted" = none := T.n 67 _ rfl
theorem Txt.n_reversed (T : Txt w K mg base) : mg "reversed" = none := T.n 68 _ rfl
theorem Txt.n_enumerate (T : Txt w K mg base) : mg "enumerate" = none := T.n 69 _ rfl
theorem Txt.n_tuple (T : Txt w K mg base) : mg "tuple" = none := T.n 70 _ rfl
theorem Txt.n_set (T : Txt w K mg base) : mg "set" = none := T.n 71 _ rfl
theorem Txt.c_Call (T : Txt w K mg base) : Cls K (He.ga K "Call") := He.cls_ok (T.d.fact 72 (f := .cls "Call") rfl)
theorem Txt.c_KnockOut (T : Txt w K mg base) : Cls K (He.ga K "KnockOut") := He.cls_ok (T.d.fact 73 (f := .cls "KnockOut") rfl)
theorem Txt.c_Match (T : Txt w K mg base) : Cls K (He.ga K "Match") := He.cls_ok (T.d.fact 74 (f := .cls "Match") rfl)
theorem Txt.c_Round (T : Txt w K mg base) : Cls K (He.ga K "Round") := He.cls_ok (T.d.fact 75 (f := .cls "Round") rfl)
theorem Txt.c_Place (T : Txt w K mg base) : Cls K (He.ga K "Place") := He.cls_ok (T.d.fact 76 (f := .cls "Place") rfl)
theorem Txt.c_Event (T : Txt w K mg base) : Cls K (He.ga K "Event") := He.cls_ok (T.d.fact 77 (f := .cls "Event") rfl)
theorem Txt.mk_Call (T : Txt w K mg base) : Mk K (He.ga K "Call") (He.ma K (He.ga K "Call") "__init__") := He.mkr_ok (T.d.fact 78 (f := .mkr "Call") rfl)
theorem Txt.mk_KnockOut (T : Txt w K mg base) : Mk K (He.ga K "KnockOut") (He.ma K (He.ga K "KnockOut") "__init__") := He.mkr_ok (T.d.fact 79 (f := .mkr "KnockOut") rfl)
theorem Txt.mk_Match (T : Txt w K mg base) : Mk K (He.ga K "Match") (He.ma K (He.ga K "Match") "__init__") := He.mkr_ok (T.d.fact 80 (f := .mkr "Match") rfl)
theorem Txt.mk_Round (T : Txt w K mg base) : Mk K (He.ga K "Round") (He.ma K (He.ga K "Round") "__init__") := He.mkr_ok (T.d.fact 81 (f := .mkr "Round") rfl)
theorem Txt.mk_Place (T : Txt w K mg base) : Mk K (He.ga K "Place") (He.ma K (He.ga K "Place") "__init__") := He.mkr_ok (T.d.fact 82 (f := .mkr "Place") rfl)
theorem Txt.mk_Event (T : Txt w K mg base) : Mk K (He.ga K "Event") (He.ma K (He.ga K "Event") "__init__") := He.mkr_ok (T.d.fact 83 (f := .mkr "Event") rfl)
theorem Txt.na_Call_kind (T : Txt w K mg base) : NoAttr K (He.ga K "Call") "kind" := He.noat_ok (T.d.fact 84 (f := .noat "Call" "kind") rfl)
theorem Txt.na_Call_numbers (T : Txt w K mg base) : NoAttr K (He.ga K "Call") "numbers" := He.noat_ok (T.d.fact 85 (f := .noat "Call" "numbers") rfl)
theorem Txt.na_Call_row (T : Txt w K mg base) : NoAttr K (He.ga K "Call") "row" := He.noat_ok (T.d.fact 86 (f := .noat "Call" "row") rfl)
theorem Txt.na_KnockOut_row (T : Txt w K mg base) : NoAttr K (He.ga K "KnockOut") "row" := He.noat_ok (T.d.fact 87 (f := .noat "KnockOut" "row") rfl)
theorem Txt.na_KnockOut_won (T : Txt w K mg base) : NoAttr K (He.ga K "KnockOut") "won" := He.noat_ok (T.d.fact 88 (f := .noat "KnockOut" "won") rfl)
theorem Txt.na_Match_first (T : Txt w K mg base) : NoAttr K (He.ga K "Match") "first" := He.noat_ok (T.d.fact 89 (f := .noat "Match" "first") rfl)
theorem Txt.na_Match_second (T : Txt w K mg base) : NoAttr K (He.ga K "Match") "second" := He.noat_ok (T.d.fact 90 (f := .noat "Match" "second") rfl)
theorem Txt.na_Match_units (T : Txt w K mg base) : NoAttr K (He.ga K "Match") "units" := He.noat_ok (T.d.fact 91 (f := .noat "Match" "units") rfl)
theorem Txt.na_Round_matches (T : Txt w K mg base) : NoAttr K (He.ga K "Round") "matches" := He.noat_ok (T.d.fact 92 (f := .noat "Round" "matches") rfl)
theorem Txt.na_Round_sits_out (T : Txt w K mg base) : NoAttr K (He.ga K "Round") "sits_out" := He.noat_ok (T.d.fact 93 (f := .noat "Round" "sits_out") rfl)
theorem Txt.na_Place_team (T : Txt w K mg base) : NoAttr K (He.ga K "Place") "team" := He.noat_ok (T.d.fact 94 (f := .noat "Place" "team") rfl)
theorem Txt.na_Place_points (T : Txt w K mg base) : NoAttr K (He.ga K "Place") "points" := He.noat_ok (T.d.fact 95 (f := .noat "Place" "points") rfl)
theorem Txt.na_Place_units (T : Txt w K mg base) : NoAttr K (He.ga K "Place") "units" := He.noat_ok (T.d.fact 96 (f := .noat "Place" "units") rfl)
theorem Txt.na_Place_sat_out (T : Txt w K mg base) : NoAttr K (He.ga K "Place") "sat_out" := He.noat_ok (T.d.fact 97 (f := .noat "Place" "sat_out") rfl)
theorem Txt.na_Event_size (T : Txt w K mg base) : NoAttr K (He.ga K "Event") "size" := He.noat_ok (T.d.fact 98 (f := .noat "Event" "size") rfl)
theorem Txt.na_Event_rounds (T : Txt w K mg base) : NoAttr K (He.ga K "Event") "rounds" := He.noat_ok (T.d.fact 99 (f := .noat "Event" "rounds") rfl)
theorem Txt.na_Event_knock_out (T : Txt w K mg base) : NoAttr K (He.ga K "Event") "knock_out" := He.noat_ok (T.d.fact 100 (f := .noat "Event" "knock_out") rfl)
theorem Txt.m_Call_is_in_range (T : Txt w K mg base) : Meth K (He.ga K "Call") "is_in_range" (He.ma K (He.ga K "Call") "is_in_range") := He.meth_ok (T.d.fact 101 (f := .meth "Call" "is_in_range") rfl)
theorem Txt.m_KnockOut_pairs (T : Txt w K mg base) : Meth K (He.ga K "KnockOut") "pairs" (He.ma K (He.ga K "KnockOut") "pairs") := He.meth_ok (T.d.fact 102 (f := .meth "KnockOut" "pairs") rfl)
theorem Txt.m_KnockOut_decided_for (T : Txt w K mg base) : Meth K (He.ga K "KnockOut") "decided_for" (He.ma K (He.ga K "KnockOut") "decided_for") := He.meth_ok (T.d.fact 103 (f := .meth "KnockOut" "decided_for") rfl)
theorem Txt.m_KnockOut_may_win (T : Txt w K mg base) : Meth K (He.ga K "KnockOut") "may_win" (He.ma K (He.ga K "KnockOut") "may_win") := He.meth_ok (T.d.fact 104 (f := .meth "KnockOut" "may_win") rfl)
theorem Txt.m_KnockOut_win (T : Txt w K mg base) : Meth K (He.ga K "KnockOut") "win" (He.ma K (He.ga K "KnockOut") "win") := He.meth_ok (T.d.fact 105 (f := .meth "KnockOut" "win") rfl)
theorem Txt.m_KnockOut_go_on (T : Txt w K mg base) : Meth K (He.ga K "KnockOut") "go_on" (He.ma K (He.ga K "KnockOut") "go_on") := He.meth_ok (T.d.fact 106 (f := .meth "KnockOut" "go_on") rfl)
theorem Txt.m_Match_is_of (T : Txt w K mg base) : Meth K (He.ga K "Match") "is_of" (He.ma K (He.ga K "Match") "is_of") := He.meth_ok (T.d.fact 107 (f := .meth "Match" "is_of") rfl)
theorem Txt.m_Match_tell (T : Txt w K mg base) : Meth K (He.ga K "Match") "tell" (He.ma K (He.ga K "Match") "tell") := He.meth_ok (T.d.fact 108 (f := .meth "Match" "tell") rfl)
theorem Txt.m_Round_is_whole (T : Txt w K mg base) : Meth K (He.ga K "Round") "is_whole" (He.ma K (He.ga K "Round") "is_whole") := He.meth_ok (T.d.fact 109 (f := .meth "Round" "is_whole") rfl)
theorem Txt.m_Round_match_of (T : Txt w K mg base) : Meth K (He.ga K "Round") "match_of" (He.ma K (He.ga K "Round") "match_of") := He.meth_ok (T.d.fact 110 (f := .meth "Round" "match_of") rfl)
theorem Txt.m_Place_play (T : Txt w K mg base) : Meth K (He.ga K "Place") "play" (He.ma K (He.ga K "Place") "play") := He.meth_ok (T.d.fact 111 (f := .meth "Place" "play") rfl)
theorem Txt.m_Place_sit_out (T : Txt w K mg base) : Meth K (He.ga K "Place") "sit_out" (He.ma K (He.ga K "Place") "sit_out") := He.meth_ok (T.d.fact 112 (f := .meth "Place" "sit_out") rfl)
theorem Txt.m_Event_begin (T : Txt w K mg base) : Meth K (He.ga K "Event") "begin" (He.ma K (He.ga K "Event") "begin") := He.meth_ok (T.d.fact 113 (f := .meth "Event" "begin") rfl)
theorem Txt.m_Event_is_whole (T : Txt w K mg base) : Meth K (He.ga K "Event") "is_whole" (He.ma K (He.ga K "Event") "is_whole") := He.meth_ok (T.d.fact 114 (f := .meth "Event" "is_whole") rfl)
theorem Txt.m_Event_is_full (T : Txt w K mg base) : Meth K (He.ga K "Event") "is_full" (He.ma K (He.ga K "Event") "is_full") := He.meth_ok (T.d.fact 115 (f := .meth "Event" "is_full") rfl)
theorem Txt.m_Event_round_of (T : Txt w K mg base) : Meth K (He.ga K "Event") "round_of" (He.ma K (He.ga K "Event") "round_of") := He.meth_ok (T.d.fact 116 (f := .meth "Event" "round_of") rfl)
theorem Txt.m_Event_match_of (T : Txt w K mg base) : Meth K (He.ga K "Event") "match_of" (He.ma K (He.ga K "Event") "match_of") := He.meth_ok (T.d.fact 117 (f := .meth "Event" "match_of") rfl)
theorem Txt.m_Event_met_in (T : Txt w K mg base) : Meth K (He.ga K "Event") "met_in" (He.ma K (He.ga K "Event") "met_in") := He.meth_ok (T.d.fact 118 (f := .meth "Event" "met_in") rfl)
theorem Txt.m_Event_has_sat_out (T : Txt w K mg base) : Meth K (He.ga K "Event") "has_sat_out" (He.ma K (He.ga K "Event") "has_sat_out") := He.meth_ok (T.d.fact 119 (f := .meth "Event" "has_sat_out") rfl)
theorem Txt.m_Event_standing (T : Txt w K mg base) : Meth K (He.ga K "Event") "standing" (He.ma K (He.ga K "Event") "standing") := He.meth_ok (T.d.fact 120 (f := .meth "Event" "standing") rfl)
theorem Txt.f_Call_init (T : Txt w K mg base) : ∃ fd, FunD K "__init__" "Call.__init__" (defArgs s_Call_init) (defBody s_Call_init) (defScope s_Call_init) [] [] (He.ma K (He.ga K "Call") "__init__") fd := T.d.def_ 0 (d := dd_Call_init) rfl
theorem Txt.f_Call_is_in_range (T : Txt w K mg base) : ∃ fd, FunD K "is_in_range" "Call.is_in_range" (defArgs s_Call_is_in_range) (defBody s_Call_is_in_range) (defScope s_Call_is_in_range) [] [] (He.ma K (He.ga K "Call") "is_in_range") fd := T.d.def_ 1 (d := dd_Call_is_in_range) rfl
theorem Txt.f_is_row_in_range (T : Txt w K mg base) : ∃ fd, FunD K "is_row_in_range" "is_row_in_range" (defArgs s_is_row_in_range) (defBody s_is_row_in_range) (defScope s_is_row_in_range) [] [] (He.ga K "is_row_in_range") fd := T.d.def_ 2 (d := dd_is_row_in_range) rfl
theorem Txt.f_by_twos (T : Txt w K mg base) : ∃ fd, FunD K "by_twos" "by_twos" (defArgs s_by_twos) (defBody s_by_twos) (defScope s_by_twos) [] [] (He.ga K "by_twos") fd := T.d.def_ 3 (d := dd_by_twos) rfl
theorem Txt.f_split_calls (T : Txt w K mg base) : ∃ fd, FunD K "split_calls" "split_calls" (defArgs s_split_calls) (defBody s_split_calls) (defScope s_split_calls) [] [] (He.ga K "split_calls") fd := T.d.def_ 4 (d := dd_split_calls) rfl
theorem Txt.f_KnockOut_init (T : Txt w K mg base) : ∃ fd, FunD K "__init__" "KnockOut.__init__" (defArgs s_KnockOut_init) (defBody s_KnockOut_init) (defScope s_KnockOut_init) [] [] (He.ma K (He.ga K "KnockOut") "__init__") fd := T.d.def_ 5 (d := dd_KnockOut_init) rfl
theorem Txt.f_KnockOut_pairs (T : Txt w K mg base) : ∃ fd, FunD K "pairs" "KnockOut.pairs" (defArgs s_KnockOut_pairs) (defBody s_KnockOut_pairs) (defScope s_KnockOut_pairs) [] [] (He.ma K (He.ga K "KnockOut") "pairs") fd := T.d.def_ 6 (d := dd_KnockOut_pairs) rfl
theorem Txt.f_KnockOut_decided_for (T : Txt w K mg base) : ∃ fd, FunD K "decided_for" "KnockOut.decided_for" (defArgs s_KnockOut_decided_for) (defBody s_KnockOut_decided_for) (defScope s_KnockOut_decided_for) [] [] (He.ma K (He.ga K "KnockOut") "decided_for") fd := T.d.def_ 7 (d := dd_KnockOut_decided_for) rfl
theorem Txt.f_KnockOut_may_win (T : Txt w K mg base) : ∃ fd, FunD K "may_win" "KnockOut.may_win" (defArgs s_KnockOut_may_win) (defBody s_KnockOut_may_win) (defScope s_KnockOut_may_win) [] [] (He.ma K (He.ga K "KnockOut") "may_win") fd := T.d.def_ 8 (d := dd_KnockOut_may_win) rfl
theorem Txt.f_KnockOut_win (T : Txt w K mg base) : ∃ fd, FunD K "win" "KnockOut.win" (defArgs s_KnockOut_win) (defBody s_KnockOut_win) (defScope s_KnockOut_win) [] [] (He.ma K (He.ga K "KnockOut") "win") fd := T.d.def_ 9 (d := dd_KnockOut_win) rfl
theorem Txt.f_KnockOut_go_on (T : Txt w K mg base) : ∃ fd, FunD K "go_on" "KnockOut.go_on" (defArgs s_KnockOut_go_on) (defBody s_KnockOut_go_on) (defScope s_KnockOut_go_on) [] [] (He.ma K (He.ga K "KnockOut") "go_on") fd := T.d.def_ 10 (d := dd_KnockOut_go_on) rfl
theorem Txt.f_seed_row (T : Txt w K mg base) : ∃ fd, FunD K "seed_row" "seed_row" (defArgs s_seed_row) (defBody s_seed_row) (defScope s_seed_row) [] [] (He.ga K "seed_row") fd := T.d.def_ 11 (d := dd_seed_row) rfl
theorem Txt.f_board_units (T : Txt w K mg base) : ∃ fd, FunD K "board_units" "board_units" (defArgs s_board_units) (defBody s_board_units) (defScope s_board_units) [] [] (He.ga K "board_units") fd := T.d.def_ 12 (d := dd_board_units) rfl
theorem Txt.f_match_units (T : Txt w K mg base) : ∃ fd, FunD K "match_units" "match_units" (defArgs s_match_units) (defBody s_match_units) (defScope s_match_units) [] [] (He.ga K "match_units") fd := T.d.def_ 13 (d := dd_match_units) rfl
theorem Txt.f_match_points (T : Txt w K mg base) : ∃ fd, FunD K "match_points" "match_points" (defArgs s_match_points) (defBody s_match_points) (defScope s_match_points) [] [] (He.ga K "match_points") fd := T.d.def_ 14 (d := dd_match_points) rfl
theorem Txt.f_Match_init (T : Txt w K mg base) : ∃ fd, FunD K "__init__" "Match.__init__" (defArgs s_Match_init) (defBody s_Match_init) (defScope s_Match_init) [] [] (He.ma K (He.ga K "Match") "__init__") fd := T.d.def_ 15 (d := dd_Match_init) rfl
theorem Txt.f_Match_is_of (T : Txt w K mg base) : ∃ fd, FunD K "is_of" "Match.is_of" (defArgs s_Match_is_of) (defBody s_Match_is_of) (defScope s_Match_is_of) [] [] (He.ma K (He.ga K "Match") "is_of") fd := T.d.def_ 16 (d := dd_Match_is_of) rfl
theorem Txt.f_Match_tell (T : Txt w K mg base) : ∃ fd, FunD K "tell" "Match.tell" (defArgs s_Match_tell) (defBody s_Match_tell) (defScope s_Match_tell) [] [] (He.ma K (He.ga K "Match") "tell") fd := T.d.def_ 17 (d := dd_Match_tell) rfl
theorem Txt.f_Round_init (T : Txt w K mg base) : ∃ fd, FunD K "__init__" "Round.__init__" (defArgs s_Round_init) (defBody s_Round_init) (defScope s_Round_init) [] [] (He.ma K (He.ga K "Round") "__init__") fd := T.d.def_ 18 (d := dd_Round_init) rfl
theorem Txt.f_Round_is_whole (T : Txt w K mg base) : ∃ fd, FunD K "is_whole" "Round.is_whole" (defArgs s_Round_is_whole) (defBody s_Round_is_whole) (defScope s_Round_is_whole) [] [] (He.ma K (He.ga K "Round") "is_whole") fd := T.d.def_ 19 (d := dd_Round_is_whole) rfl
theorem Txt.f_Round_match_of (T : Txt w K mg base) : ∃ fd, FunD K "match_of" "Round.match_of" (defArgs s_Round_match_of) (defBody s_Round_match_of) (defScope s_Round_match_of) [] [] (He.ma K (He.ga K "Round") "match_of") fd := T.d.def_ 20 (d := dd_Round_match_of) rfl
theorem Txt.f_Place_init (T : Txt w K mg base) : ∃ fd, FunD K "__init__" "Place.__init__" (defArgs s_Place_init) (defBody s_Place_init) (defScope s_Place_init) [] [] (He.ma K (He.ga K "Place") "__init__") fd := T.d.def_ 21 (d := dd_Place_init) rfl
theorem Txt.f_Place_play (T : Txt w K mg base) : ∃ fd, FunD K "play" "Place.play" (defArgs s_Place_play) (defBody s_Place_play) (defScope s_Place_play) [] [] (He.ma K (He.ga K "Place") "play") fd := T.d.def_ 22 (d := dd_Place_play) rfl
theorem Txt.f_Place_sit_out (T : Txt w K mg base) : ∃ fd, FunD K "sit_out" "Place.sit_out" (defArgs s_Place_sit_out) (defBody s_Place_sit_out) (defScope s_Place_sit_out) [] [] (He.ma K (He.ga K "Place") "sit_out") fd := T.d.def_ 23 (d := dd_Place_sit_out) rfl
theorem Txt.f_Event_init (T : Txt w K mg base) : ∃ fd, FunD K "__init__" "Event.__init__" (defArgs s_Event_init) (defBody s_Event_init) (defScope s_Event_init) [] [] (He.ma K (He.ga K "Event") "__init__") fd := T.d.def_ 24 (d := dd_Event_init) rfl
theorem Txt.f_Event_begin (T : Txt w K mg base) : ∃ fd, FunD K "begin" "Event.begin" (defArgs s_Event_begin) (defBody s_Event_begin) (defScope s_Event_begin) [] [] (He.ma K (He.ga K "Event") "begin") fd := T.d.def_ 25 (d := dd_Event_begin) rfl
theorem Txt.f_Event_is_whole (T : Txt w K mg base) : ∃ fd, FunD K "is_whole" "Event.is_whole" (defArgs s_Event_is_whole) (defBody s_Event_is_whole) (defScope s_Event_is_whole) [] [] (He.ma K (He.ga K "Event") "is_whole") fd := T.d.def_ 26 (d := dd_Event_is_whole) rfl
theorem Txt.f_Event_is_full (T : Txt w K mg base) : ∃ fd, FunD K "is_full" "Event.is_full" (defArgs s_Event_is_full) (defBody s_Event_is_full) (defScope s_Event_is_full) [] [] (He.ma K (He.ga K "Event") "is_full") fd := T.d.def_ 27 (d := dd_Event_is_full) rfl
theorem Txt.f_Event_round_of (T : Txt w K mg base) : ∃ fd, FunD K "round_of" "Event.round_of" (defArgs s_Event_round_of) (defBody s_Event_round_of) (defScope s_Event_round_of) [] [] (He.ma K (He.ga K "Event") "round_of") fd := T.d.def_ 28 (d := dd_Event_round_of) rfl
theorem Txt.f_Event_match_of (T : Txt w K mg base) : ∃ fd, FunD K "match_of" "Event.match_of" (defArgs s_Event_match_of) (defBody s_Event_match_of) (defScope s_Event_match_of) [] [] (He.ma K (He.ga K "Event") "match_of") fd := T.d.def_ 29 (d := dd_Event_match_of) rfl
theorem Txt.f_Event_met_in (T : Txt w K mg base) : ∃ fd, FunD K "met_in" "Event.met_in" (defArgs s_Event_met_in) (defBody s_Event_met_in) (defScope s_Event_met_in) [] [] (He.ma K (He.ga K "Event") "met_in") fd := T.d.def_ 30 (d := dd_Event_met_in) rfl
theorem Txt.f_Event_has_sat_out (T : Txt w K mg base) : ∃ fd, FunD K "has_sat_out" "Event.has_sat_out" (defArgs s_Event_has_sat_out) (defBody s_Event_has_sat_out) (defScope s_Event_has_sat_out) [] [] (He.ma K (He.ga K "Event") "has_sat_out") fd := T.d.def_ 31 (d := dd_Event_has_sat_out) rfl
theorem Txt.f_Event_standing (T : Txt w K mg base) : ∃ fd, FunD K "standing" "Event.standing" (defArgs s_Event_standing) (defBody s_Event_standing) (defScope s_Event_standing) [] [] (He.ma K (He.ga K "Event") "standing") fd := T.d.def_ 32 (d := dd_Event_standing) rfl
theorem Txt.f_add_round (T : Txt w K mg base) : ∃ fd, FunD K "add_round" "add_round" (defArgs s_add_round) (defBody s_add_round) (defScope s_add_round) [] [] (He.ga K "add_round") fd := T.d.def_ 33 (d := dd_add_round) rfl
theorem Txt.f_next_round (T : Txt w K mg base) : ∃ fd, FunD K "next_round" "next_round" (defArgs s_next_round) (defBody s_next_round) (defScope s_next_round) [] [] (He.ga K "next_round") fd := T.d.def_ 34 (d := dd_next_round) rfl
theorem Txt.f_pairings_left (T : Txt w K mg base) : ∃ fd, FunD K "pairings_left" "pairings_left" (defArgs s_pairings_left) (defBody s_pairings_left) (defScope s_pairings_left) [] [] (He.ga K "pairings_left") fd := T.d.def_ 35 (d := dd_pairings_left) rfl
theorem Txt.f_may_sit_out (T : Txt w K mg base) : ∃ fd, FunD K "may_sit_out" "may_sit_out" (defArgs s_may_sit_out) (defBody s_may_sit_out) (defScope s_may_sit_out) [] [] (He.ga K "may_sit_out") fd := T.d.def_ 36 (d := dd_may_sit_out) rfl
theorem Txt.f_teams_without (T : Txt w K mg base) : ∃ fd, FunD K "teams_without" "teams_without" (defArgs s_teams_without) (defBody s_teams_without) (defScope s_teams_without) [] [] (He.ga K "teams_without") fd := T.d.def_ 37 (d := dd_teams_without) rfl
theorem Txt.f_pair_costs (T : Txt w K mg base) : ∃ fd, FunD K "pair_costs" "pair_costs" (defArgs s_pair_costs) (defBody s_pair_costs) (defScope s_pair_costs) [] [] (He.ga K "pair_costs") fd := T.d.def_ 38 (d := dd_pair_costs) rfl
theorem Txt.f_pair_cost (T : Txt w K mg base) : ∃ fd, FunD K "pair_cost" "pair_cost" (defArgs s_pair_cost) (defBody s_pair_cost) (defScope s_pair_cost) [] [] (He.ga K "pair_cost") fd := T.d.def_ 39 (d := dd_pair_cost) rfl
theorem Txt.f_cheapest (T : Txt w K mg base) : ∃ fd, FunD K "cheapest" "cheapest" (defArgs s_cheapest) (defBody s_cheapest) (defScope s_cheapest) [] [] (He.ga K "cheapest") fd := T.d.def_ 40 (d := dd_cheapest) rfl
theorem Txt.f_count_pairings (T : Txt w K mg base) : ∃ fd, FunD K "count_pairings" "count_pairings" (defArgs s_count_pairings) (defBody s_count_pairings) (defScope s_count_pairings) [] [] (He.ga K "count_pairings") fd := T.d.def_ 41 (d := dd_count_pairings) rfl
theorem Txt.f_fault (T : Txt w K mg base) : ∃ fd, FunD K "fault" "fault" (defArgs s_fault) (defBody s_fault) (defScope s_fault) [] [] (He.ga K "fault") fd := T.d.def_ 42 (d := dd_fault) rfl
theorem Txt.f_row_cost (T : Txt w K mg base) : ∃ fd, FunD K "row_cost" "row_cost" (defArgs s_row_cost) (defBody s_row_cost) (defScope s_row_cost) [] [] (He.ga K "row_cost") fd := T.d.def_ 43 (d := dd_row_cost) rfl
theorem Txt.f_not_named (T : Txt w K mg base) : ∃ fd, FunD K "not_named" "not_named" (defArgs s_not_named) (defBody s_not_named) (defScope s_not_named) [] [] (He.ga K "not_named") fd := T.d.def_ 44 (d := dd_not_named) rfl
theorem Txt.f_answer_teams (T : Txt w K mg base) : ∃ fd, FunD K "answer_teams" "answer_teams" (defArgs s_answer_teams) (defBody s_answer_teams) (defScope s_answer_teams) [] [] (He.ga K "answer_teams") fd := T.d.def_ 45 (d := dd_answer_teams) rfl
theorem Txt.f_answer_pair (T : Txt w K mg base) : ∃ fd, FunD K "answer_pair" "answer_pair" (defArgs s_answer_pair) (defBody s_answer_pair) (defScope s_answer_pair) [] [] (He.ga K "answer_pair") fd := T.d.def_ 46 (d := dd_answer_pair) rfl
theorem Txt.f_answer_draw (T : Txt w K mg base) : ∃ fd, FunD K "answer_draw" "answer_draw" (defArgs s_answer_draw) (defBody s_answer_draw) (defScope s_answer_draw) [] [] (He.ga K "answer_draw") fd := T.d.def_ 47 (d := dd_answer_draw) rfl
theorem Txt.f_answer_own (T : Txt w K mg base) : ∃ fd, FunD K "answer_own" "answer_own" (defArgs s_answer_own) (defBody s_answer_own) (defScope s_answer_own) [] [] (He.ga K "answer_own") fd := T.d.def_ 48 (d := dd_answer_own) rfl
theorem Txt.f_answer_match (T : Txt w K mg base) : ∃ fd, FunD K "answer_match" "answer_match" (defArgs s_answer_match) (defBody s_answer_match) (defScope s_answer_match) [] [] (He.ga K "answer_match") fd := T.d.def_ 49 (d := dd_answer_match) rfl
theorem Txt.f_answer_result (T : Txt w K mg base) : ∃ fd, FunD K "answer_result" "answer_result" (defArgs s_answer_result) (defBody s_answer_result) (defScope s_answer_result) [] [] (He.ga K "answer_result") fd := T.d.def_ 50 (d := dd_answer_result) rfl
theorem Txt.f_answer_standing (T : Txt w K mg base) : ∃ fd, FunD K "answer_standing" "answer_standing" (defArgs s_answer_standing) (defBody s_answer_standing) (defScope s_answer_standing) [] [] (He.ga K "answer_standing") fd := T.d.def_ 51 (d := dd_answer_standing) rfl
theorem Txt.f_answer_met (T : Txt w K mg base) : ∃ fd, FunD K "answer_met" "answer_met" (defArgs s_answer_met) (defBody s_answer_met) (defScope s_answer_met) [] [] (He.ga K "answer_met") fd := T.d.def_ 52 (d := dd_answer_met) rfl
theorem Txt.f_answer_left (T : Txt w K mg base) : ∃ fd, FunD K "answer_left" "answer_left" (defArgs s_answer_left) (defBody s_answer_left) (defScope s_answer_left) [] [] (He.ga K "answer_left") fd := T.d.def_ 53 (d := dd_answer_left) rfl
theorem Txt.f_answer_check (T : Txt w K mg base) : ∃ fd, FunD K "answer_check" "answer_check" (defArgs s_answer_check) (defBody s_answer_check) (defScope s_answer_check) [] [] (He.ga K "answer_check") fd := T.d.def_ 54 (d := dd_answer_check) rfl
theorem Txt.f_answer_points (T : Txt w K mg base) : ∃ fd, FunD K "answer_points" "answer_points" (defArgs s_answer_points) (defBody s_answer_points) (defScope s_answer_points) [] [] (He.ga K "answer_points") fd := T.d.def_ 55 (d := dd_answer_points) rfl
theorem Txt.f_answer_units (T : Txt w K mg base) : ∃ fd, FunD K "answer_units" "answer_units" (defArgs s_answer_units) (defBody s_answer_units) (defScope s_answer_units) [] [] (He.ga K "answer_units") fd := T.d.def_ 56 (d := dd_answer_units) rfl
theorem Txt.f_answer_knock (T : Txt w K mg base) : ∃ fd, FunD K "answer_knock" "answer_knock" (defArgs s_answer_knock) (defBody s_answer_knock) (defScope s_answer_knock) [] [] (He.ga K "answer_knock") fd := T.d.def_ 57 (d := dd_answer_knock) rfl
theorem Txt.f_answer_row (T : Txt w K mg base) : ∃ fd, FunD K "answer_row" "answer_row" (defArgs s_answer_row) (defBody s_answer_row) (defScope s_answer_row) [] [] (He.ga K "answer_row") fd := T.d.def_ 58 (d := dd_answer_row) rfl
theorem Txt.f_answer_win (T : Txt w K mg base) : ∃ fd, FunD K "answer_win" "answer_win" (defArgs s_answer_win) (defBody s_answer_win) (defScope s_answer_win) [] [] (He.ga K "answer_win") fd := T.d.def_ 59 (d := dd_answer_win) rfl
theorem Txt.f_answer_round_of (T : Txt w K mg base) : ∃ fd, FunD K "answer_round_of" "answer_round_of" (defArgs s_answer_round_of) (defBody s_answer_round_of) (defScope s_answer_round_of) [] [] (He.ga K "answer_round_of") fd := T.d.def_ 60 (d := dd_answer_round_of) rfl
theorem Txt.f_answer_call (T : Txt w K mg base) : ∃ fd, FunD K "answer_call" "answer_call" (defArgs s_answer_call) (defBody s_answer_call) (defScope s_answer_call) [] [] (He.ga K "answer_call") fd := T.d.def_ 61 (d := dd_answer_call) rfl
theorem Txt.f_answers (T : Txt w K mg base) : ∃ fd, FunD K "answers" "answers" (defArgs s_answers) (defBody s_answers) (defScope s_answers) [] [] (He.ga K "answers") fd := T.d.def_ 62 (d := dd_answers) rfl
end
end TR

set_option Elab.async false
set_option linter.all false
set_option maxRecDepth 100000
set_option maxHeartbeats 0
namespace TR
open PySem PySem.W PySem.Calls PyProof.Rows
abbrev RW : OpenSpec := PySem.Challenge.rw_teamrounds_s01_answers
abbrev qv : Program := view RW.prog [64]
def nm1 : List PySem.Str := ["RANGES", "ROWS", "Call", "is_row_in_range", "by_twos", "split_calls", "KnockOut", "seed_row", "LIMITS", "EVEN_POINTS", "SIT_OUT_POINTS", "board_units", "match_units", "match_points", "MOST_ROUNDS", "Match", "Round", "Place", "Event", "add_round"]
def nm2 : List PySem.Str := ["next_round", "pairings_left", "may_sit_out", "teams_without", "pair_costs", "pair_cost", "cheapest", "count_pairings", "fault", "row_cost", "not_named", "OUT_OF_RANGE", "NO_TEAMS", "NOT_WHOLE", "NO_KNOCK_OUT", "NOT_THERE", "MAY_NOT_BE", "NO_PAIRING", "FULL"]
def nm3 : List PySem.Str := ["answer_teams", "answer_pair", "answer_draw", "answer_own", "answer_match", "answer_result", "answer_standing", "answer_met", "answer_left", "answer_check", "answer_points", "answer_units", "answer_knock", "answer_row", "answer_win", "answer_round_of", "ANSWERING", "WITHOUT_TEAMS", "answer_call"]
def names : List PySem.Str := nm1 ++ (nm2 ++ nm3)
abbrev hk : Hook := He.hookX 4 fa fn [] tf ex
def ob (s : SharedT) : He.AlX := He.obsX 4 fa fn [] tf ex (HandSHeadRun.getT s)
theorem ob_eq (s : SharedT) : ob s = hk.obs s.abs := He.obsX_eq (HandSHeadRun.getT_eq s)
theorem run_f (w : World) : HandSHeadRun.RunEqS RW qv hk ob 4000 names (w.withFollow "special-get-raises" false) := by
  intro os
  kernel_rfl
theorem run_t (w : World) : HandSHeadRun.RunEqS RW qv hk ob 4000 names (w.withFollow "special-get-raises" true) := by
  intro os
  kernel_rfl
theorem run (w : World) : HandSHeadRun.RunEqS RW qv hk ob 4000 names w := byRow2 "special-get-raises" run_f run_t w
end TR

set_option Elab.async false
set_option linter.all false
set_option maxRecDepth 100000
set_option maxHeartbeats 4000000
namespace TR
open PySem PySem.Spec PyProof.Rows L2
theorem pe_fldK {X : Cx} {K : PySem.W.Frag} {e : Expr} {f : Str} {pos : Pos} {ta : TE} (hK : X.K = K) (he : PE X e ta) (hb : attributeBase e f X.env (eval e X.env) = eval e X.env) : PE X (.Attribute e f pos) (tFld K ta f) := by
  subst hK
  exact pe_fld he hb
/-! ### promises -/
abbrev rLenS (K : PySem.W.Frag) : List V → Hp → VK → Prop := fun xs H Q => ∃ p ys, xs = [.ref p] ∧ (SqL K H p ys ∨ SqT K H p ys) ∧ Q (.int ys.length) H
def Sp1 (b : V → Hp → VK → Prop) : Sp := fun vs H Q _ => ∃ x, vs = [x] ∧ b x H Q
def Sp2 (b : V → V → Hp → VK → Prop) : Sp := fun vs H Q _ => ∃ x y, vs = [x, y] ∧ b x y H Q
def Sp3 (b : V → V → V → Hp → VK → Prop) : Sp := fun vs H Q _ => ∃ x y z, vs = [x, y, z] ∧ b x y z H Q
def Sp4 (b : V → V → V → V → Hp → VK → Prop) : Sp := fun vs H Q _ => ∃ x y z u, vs = [x, y, z, u] ∧ b x y z u H Q
structure OkF (P : Program) (w : World) (K : PySem.W.Frag) (mg : Str → Option Value) (base : Heap) (k : Nat) (f : Addr) (ps : List Str) (sp : Sp) : Prop where
  ex : ∃ fd, FnOk P w K mg base L2.CX0 k f fd ps sp ∧ Binds K fd ps []
  kp : PySem.W.keepIn K (.ref f) = true
section
variable {P : Program} {w : World} {K : PySem.W.Frag} {mg : Str → Option Value} {base : Heap} {x qual : Str} {params : Arguments} {body : List Stmt} {scope : Scope} {f : Addr} {fd : FuncData} {k : Nat} {N : List Str}
theorem ok1 {a : Str} {sp : V → Hp → VK → Prop} (F : FunD K x qual params body scope [] [] f fd) (S : FnScope N [a] scope)
    (hb : ∀ (kV doc pm : Value) (an : Option Addr) (cdv ct u : Value), bindArgs (PySem.W.fnOf x qual params body scope .none kV doc pm an cdv ct) ⟨[u], []⟩ = pure [(a, u)])
    (hbody : ∀ (cdv : Value) (A : Around) (outer : List Env) (s : Shared) (H : Hp) (y : V) (Q : VK), Room k (A.deeper (envOfC qual scope s.heap.objs.size f cdv)) → sp y H Q →
      ∃ t, PSs (cxOf L2.CX0 P w K mg base N qual scope f cdv A outer s H L2.E0).nox body t ∧ t { nx := fun _ H' => Q .non H', rt := Q } (start N [y]) H) : OkF P w K mg base (k + 1) f [a] (Sp1 sp) := by
  refine ⟨⟨fd, F.ok S (fun vs H Q E h => ?_) (fun cdv A outer s H vs Q E hr h => ?_), F.bindsN fun kV doc pm an cdv ct us hl => match us, hl with | [u], _ => hb kV doc pm an cdv ct u⟩, F.kp⟩
  · obtain ⟨y, rfl, _⟩ := h
    rfl
  · obtain ⟨y, rfl, h⟩ := h
    obtain ⟨t, h1, h2⟩ := hbody cdv A outer s H y Q hr h
    exact ⟨t, h1.nox, h2⟩
theorem ok2 {a b : Str} {sp : V → V → Hp → VK → Prop} (F : FunD K x qual params body scope [] [] f fd) (S : FnScope N [a, b] scope)
    (hb : ∀ (kV doc pm : Value) (an : Option Addr) (cdv ct u v : Value), bindArgs (PySem.W.fnOf x qual params body scope .none kV doc pm an cdv ct) ⟨[u, v], []⟩ = pure [(a, u), (b, v)])
    (hbody : ∀ (cdv : Value) (A : Around) (outer : List Env) (s : Shared) (H : Hp) (y z : V) (Q : VK), Room k (A.deeper (envOfC qual scope s.heap.objs.size f cdv)) → sp y z H Q →
      ∃ t, PSs (cxOf L2.CX0 P w K mg base N qual scope f cdv A outer s H L2.E0).nox body t ∧ t { nx := fun _ H' => Q .non H', rt := Q } (start N [y, z]) H) : OkF P w K mg base (k + 1) f [a, b] (Sp2 sp) := by
  refine ⟨⟨fd, F.ok S (fun vs H Q E h => ?_) (fun cdv A outer s H vs Q E hr h => ?_), F.bindsN fun kV doc pm an cdv ct us hl => match us, hl with | [u, v], _ => hb kV doc pm an cdv ct u v⟩, F.kp⟩
  · obtain ⟨y, z, rfl, _⟩ := h
    rfl
  · obtain ⟨y, z, rfl, h⟩ := h
    obtain ⟨t, h1, h2⟩ := hbody cdv A outer s H y z Q hr h
    exact ⟨t, h1.nox, h2⟩
theorem ok3 {a b c : Str} {sp : V → V → V → Hp → VK → Prop} (F : FunD K x qual params body scope [] [] f fd) (S : FnScope N [a, b, c] scope)
    (hb : ∀ (kV doc pm : Value) (an : Option Addr) (cdv ct u v z : Value), bindArgs (PySem.W.fnOf x qual params body scope .none kV doc pm an cdv ct) ⟨[u, v, z], []⟩ = pure [(a, u), (b, v), (c, z)])
    (hbody : ∀ (cdv : Value) (A : Around) (outer : List Env) (s : Shared) (H : Hp) (y z u : V) (Q : VK), Room k (A.deeper (envOfC qual scope s.heap.objs.size f cdv)) → sp y z u H Q →
      ∃ t, PSs (cxOf L2.CX0 P w K mg base N qual scope f cdv A outer s H L2.E0).nox body t ∧ t { nx := fun _ H' => Q .non H', rt := Q } (start N [y, z, u]) H) : OkF P w K mg base (k + 1) f [a, b, c] (Sp3 sp) := by
  refine ⟨⟨fd, F.ok S (fun vs H Q E h => ?_) (fun cdv A outer s H vs Q E hr h => ?_), F.bindsN fun kV doc pm an cdv ct us hl => match us, hl with | [u, v, z], _ => hb kV doc pm an cdv ct u v z⟩, F.kp⟩
  · obtain ⟨y, z, u, rfl, _⟩ := h
    rfl
  · obtain ⟨y, z, u, rfl, h⟩ := h
    obtain ⟨t, h1, h2⟩ := hbody cdv A outer s H y z u Q hr h
    exact ⟨t, h1.nox, h2⟩
theorem ok4 {a b c d : Str} {sp : V → V → V → V → Hp → VK → Prop} (F : FunD K x qual params body scope [] [] f fd) (S : FnScope N [a, b, c, d] scope)
    (hb : ∀ (kV doc pm : Value) (an : Option Addr) (cdv ct u v z y : Value), bindArgs (PySem.W.fnOf x qual params body scope .none kV doc pm an cdv ct) ⟨[u, v, z, y], []⟩ = pure [(a, u), (b, v), (c, z), (d, y)])
    (hbody : ∀ (cdv : Value) (A : Around) (outer : List Env) (s : Shared) (H : Hp) (y z u v : V) (Q : VK), Room k (A.deeper (envOfC qual scope s.heap.objs.size f cdv)) → sp y z u v H Q →
      ∃ t, PSs (cxOf L2.CX0 P w K mg base N qual scope f cdv A outer s H L2.E0).nox body t ∧ t { nx := fun _ H' => Q .non H', rt := Q } (start N [y, z, u, v]) H) : OkF P w K mg base (k + 1) f [a, b, c, d] (Sp4 sp) := by
  refine ⟨⟨fd, F.ok S (fun vs H Q E h => ?_) (fun cdv A outer s H vs Q E hr h => ?_), F.bindsN fun kV doc pm an cdv ct us hl => match us, hl with | [u, v, z, y], _ => hb kV doc pm an cdv ct u v z y⟩, F.kp⟩
  · obtain ⟨y, z, u, v, rfl, _⟩ := h
    rfl
  · obtain ⟨y, z, u, v, rfl, h⟩ := h
    obtain ⟨t, h1, h2⟩ := hbody cdv A outer s H y z u v Q hr h
    exact ⟨t, h1.nox, h2⟩
end
/-! ### the tables of the top, read -/
section
variable {w : World} {K : PySem.W.Frag} {mg : Str → Option Value} {base : Heap}
theorem Txt.parts (T : Txt w K mg base) : isTupI K (.ref (He.ga K "LIMITS")) LIMITSm = true ∧ isTupI K (.ref (He.ga K "WITHOUT_TEAMS")) [0, 10, 11] = true ∧ rowsB K = true ∧
    (match tupAt K (He.ga K "RANGES") with | some us => isRngs K us RANGESm | none => false) = true ∧ (match tupAt K (He.ga K "ANSWERING") with | some us => isRefs us (ANSm.map fun x => He.ga K x) | none => false) = true := by
  obtain ⟨h1, h⟩ := Bool.and_eq_true_iff.mp T.more
  obtain ⟨h2, h⟩ := Bool.and_eq_true_iff.mp h
  obtain ⟨h3, h⟩ := Bool.and_eq_true_iff.mp h
  obtain ⟨h4, h5⟩ := Bool.and_eq_true_iff.mp h
  exact ⟨h1, h2, h3, h4, h5⟩
theorem Txt.limits (T : Txt w K mg base) (H : Hp) : SqT K H (He.ga K "LIMITS") (LIMITSm.map V.int) := by
  obtain ⟨a, e, q⟩ := isTupI_ok T.parts.1
  cases e
  exact q H
theorem Txt.without (T : Txt w K mg base) (H : Hp) : SqT K H (He.ga K "WITHOUT_TEAMS") ([0, 10, 11].map V.int) := by
  obtain ⟨a, e, q⟩ := isTupI_ok T.parts.2.1
  cases e
  exact q H
theorem Txt.ranges (T : Txt w K mg base) : ∃ bs : List Addr, bs.length = 16 ∧ (∀ H, SqT K H (He.ga K "RANGES") (bs.map V.ref)) ∧ ∀ (i : Nat) (b : Addr) (M : List (List Int)), bs[i]? = some b → RANGESm[i]? = some M → TupTs K b M := by
  have h := T.parts.2.2.2.1
  cases q : tupAt K (He.ga K "RANGES") with
  | none => rw [q] at h; cases h
  | some us =>
    rw [q] at h
    obtain ⟨bs, e1, e2, e3⟩ := isRngs_ok h
    exact ⟨bs, e1, fun H => tupAt_sq q e2 H, e3⟩
theorem Txt.answering (T : Txt w K mg base) (H : Hp) : SqT K H (He.ga K "ANSWERING") ((ANSm.map fun x => He.ga K x).map V.ref) := by
  have h := T.parts.2.2.2.2
  cases q : tupAt K (He.ga K "ANSWERING") with
  | none => rw [q] at h; cases h
  | some us =>
    rw [q] at h
    exact tupAt_sq q (isRefs_vals h) H
theorem Txt.rows (T : Txt w K mg base) : ∃ kvs : List (Int × Value), kInts K (He.ga K "ROWS") = some kvs ∧ ∃ u v z : Addr, kvs = [(3, .ref u), (4, .ref v), (9, .ref z)] ∧ ∀ H, SqT K H u ([0, 12, 1, 12].map V.int) ∧ SqT K H v ([2, 64, -10000, 10000].map V.int) ∧ SqT K H z ([0, 12, 1, 12].map V.int) := by
  have h := T.parts.2.2.1
  unfold rowsB at h
  split at h
  · rename_i u v z q
    obtain ⟨h1, h⟩ := Bool.and_eq_true_iff.mp h
    obtain ⟨h2, h3⟩ := Bool.and_eq_true_iff.mp h
    obtain ⟨a, rfl, k1⟩ := isTupI_ok h1
    obtain ⟨b, rfl, k2⟩ := isTupI_ok h2
    obtain ⟨c, rfl, k3⟩ := isTupI_ok h3
    exact ⟨_, q, a, b, c, rfl, fun H => ⟨k1 H, k2 H, k3 H⟩⟩
  · cases h
end
end TR

set_option Elab.async false
set_option linter.all false
set_option maxRecDepth 100000
set_option maxHeartbeats 4000000
namespace TR
open PySem PySem.Spec PyProof.Rows L2
/-! ### instances by their fields -/
theorem lk_here {k : Str} {v : V} {r : List (Str × V)} : List.lookup k ((k, v) :: r) = some v := by
  have e : (k == k) = true := beq_self_eq_true k
  simp only [List.lookup, e]
theorem lk_past {k g : Str} {v : V} {r : List (Str × V)} (h : (k == g) = false) : List.lookup k ((g, v) :: r) = List.lookup k r := by
  simp only [List.lookup, h]
theorem put_here {f : Str} {v x : V} {r : List (Str × V)} : putF f v ((f, x) :: r) = (f, v) :: r := if_pos rfl
theorem put_past {f g : Str} {v x : V} {r : List (Str × V)} (h : ¬ g = f) : putF f v ((g, x) :: r) = (g, x) :: putF f v r := if_neg h
def cF (v0 v1 v2 : V) : List (Str × V) := [("kind", v0), ("numbers", v1), ("row", v2)]
section
variable (v0 v1 v2 : V)
theorem cF_kind : (cF v0 v1 v2).lookup ("kind" : Str) = some v0 := lk_here
theorem cF_put_kind (y : V) : putF "kind" y (cF v0 v1 v2) = cF y v1 v2 := put_here
theorem cF_numbers : (cF v0 v1 v2).lookup ("numbers" : Str) = some v1 := (lk_past (by decide +kernel)).trans (lk_here)
theorem cF_put_numbers (y : V) : putF "numbers" y (cF v0 v1 v2) = cF v0 y v2 := (put_past (by decide +kernel)).trans (congrArg _ (put_here))
theorem cF_row : (cF v0 v1 v2).lookup ("row" : Str) = some v2 := (lk_past (by decide +kernel)).trans ((lk_past (by decide +kernel)).trans (lk_here))
theorem cF_put_row (y : V) : putF "row" y (cF v0 v1 v2) = cF v0 v1 y := (put_past (by decide +kernel)).trans (congrArg _ ((put_past (by decide +kernel)).trans (congrArg _ (put_here))))
theorem cF_new : (putF "row" v2 (putF "numbers" v1 (putF "kind" v0 ([] : List (Str × V))))) = cF v0 v1 v2 := by
  first | rfl | decide +kernel | (simp only [putF]; rfl)
theorem cF_no_is_in_range : (cF v0 v1 v2).lookup ("is_in_range" : Str) = none := (lk_past (by decide +kernel)).trans ((lk_past (by decide +kernel)).trans ((lk_past (by decide +kernel)).trans (rfl)))
end
def kF (v0 v1 : V) : List (Str × V) := [("row", v0), ("won", v1)]
section
variable (v0 v1 : V)
theorem kF_row : (kF v0 v1).lookup ("row" : Str) = some v0 := lk_here
theorem kF_put_row (y : V) : putF "row" y (kF v0 v1) = kF y v1 := put_here
theorem kF_won : (kF v0 v1).lookup ("won" : Str) = some v1 := (lk_past (by decide +kernel)).trans (lk_here)
theorem kF_put_won (y : V) : putF "won" y (kF v0 v1) = kF v0 y := (put_past (by decide +kernel)).trans (congrArg _ (put_here))
theorem kF_new : (putF "won" v1 (putF "row" v0 ([] : List (Str × V)))) = kF v0 v1 := by
  first | rfl | decide +kernel | (simp only [putF]; rfl)
theorem kF_no_pairs : (kF v0 v1).lookup ("pairs" : Str) = none := (lk_past (by decide +kernel)).trans ((lk_past (by decide +kernel)).trans (rfl))
theorem kF_no_decided_for : (kF v0 v1).lookup ("decided_for" : Str) = none := (lk_past (by decide +kernel)).trans ((lk_past (by decide +kernel)).trans (rfl))
theorem kF_no_may_win : (kF v0 v1).lookup ("may_win" : Str) = none := (lk_past (by decide +kernel)).trans ((lk_past (by decide +kernel)).trans (rfl))
theorem kF_no_win : (kF v0 v1).lookup ("win" : Str) = none := (lk_past (by decide +kernel)).trans ((lk_past (by decide +kernel)).trans (rfl))
theorem kF_no_go_on : (kF v0 v1).lookup ("go_on" : Str) = none := (lk_past (by decide +kernel)).trans ((lk_past (by decide +kernel)).trans (rfl))
end
def mF (v0 v1 v2 : V) : List (Str × V) := [("first", v0), ("second", v1), ("units", v2)]
section
variable (v0 v1 v2 : V)
theorem mF_first : (mF v0 v1 v2).lookup ("first" : Str) = some v0 := lk_here
theorem mF_put_first (y : V) : putF "first" y (mF v0 v1 v2) = mF y v1 v2 := put_here
theorem mF_second : (mF v0 v1 v2).lookup ("second" : Str) = some v1 := (lk_past (by decide +kernel)).trans (lk_here)
theorem mF_put_second (y : V) : putF "second" y (mF v0 v1 v2) = mF v0 y v2 := (put_past (by decide +kernel)).trans (congrArg _ (put_here))
theorem mF_units : (mF v0 v1 v2).lookup ("units" : Str) = some v2 := (lk_past (by decide +kernel)).trans ((lk_past (by decide +kernel)).trans (lk_here))
theorem mF_put_units (y : V) : putF "units" y (mF v0 v1 v2) = mF v0 v1 y := (put_past (by decide +kernel)).trans (congrArg _ ((put_past (by decide +kernel)).trans (congrArg _ (put_here))))
theorem mF_new : (putF "units" v2 (putF "second" v1 (putF "first" v0 ([] : List (Str × V))))) = mF v0 v1 v2 := by
  first | rfl | decide +kernel | (simp only [putF]; rfl)
theorem mF_no_is_of : (mF v0 v1 v2).lookup ("is_of" : Str) = none := (lk_past (by decide +kernel)).trans ((lk_past (by decide +kernel)).trans ((lk_past (by decide +kernel)).trans (rfl)))
theorem mF_no_tell : (mF v0 v1 v2).lookup ("tell" : Str) = none := (lk_past (by decide +kernel)).trans ((lk_past (by decide +kernel)).trans ((lk_past (by decide +kernel)).trans (rfl)))
end
def rF (v0 v1 : V) : List (Str × V) := [("matches", v0), ("sits_out", v1)]
section
variable (v0 v1 : V)
theorem rF_matches : (rF v0 v1).lookup ("matches" : Str) = some v0 := lk_here
theorem rF_put_matches (y : V) : putF "matches" y (rF v0 v1) = rF y v1 := put_here
theorem rF_sits_out : (rF v0 v1).lookup ("sits_out" : Str) = some v1 := (lk_past (by decide +kernel)).trans (lk_here)
theorem rF_put_sits_out (y : V) : putF "sits_out" y (rF v0 v1) = rF v0 y := (put_past (by decide +kernel)).trans (congrArg _ (put_here))
theorem rF_new : (putF "sits_out" v1 (putF "matches" v0 ([] : List (Str × V)))) = rF v0 v1 := by
  first | rfl | decide +kernel | (simp only [putF]; rfl)
theorem rF_no_is_whole : (rF v0 v1).lookup ("is_whole" : Str) = none := (lk_past (by decide +kernel)).trans ((lk_past (by decide +kernel)).trans (rfl))
theorem rF_no_match_of : (rF v0 v1).lookup ("match_of" : Str) = none := (lk_past (by decide +kernel)).trans ((lk_past (by decide +kernel)).trans (rfl))
end
def pF (v0 v1 v2 v3 : V) : List (Str × V) := [("team", v0), ("points", v1), ("units", v2), ("sat_out", v3)]
section
variable (v0 v1 v2 v3 : V)
theorem pF_team : (pF v0 v1 v2 v3).lookup ("team" : Str) = some v0 := lk_here
theorem pF_put_team (y : V) : putF "team" y (pF v0 v1 v2 v3) = pF y v1 v2 v3 := put_here
theorem pF_points : (pF v0 v1 v2 v3).lookup ("points" : Str) = some v1 := (lk_past (by decide +kernel)).trans (lk_here)
theorem pF_put_points (y : V) : putF "points" y (pF v0 v1 v2 v3) = pF v0 y v2 v3 := (put_past (by decide +kernel)).trans (congrArg _ (put_here))
theorem pF_units : (pF v0 v1 v2 v3).lookup ("units" : Str) = some v2 := (lk_past (by decide +kernel)).trans ((lk_past (by decide +kernel)).trans (lk_here))
theorem pF_put_units (y : V) : putF "units" y (pF v0 v1 v2 v3) = pF v0 v1 y v3 := (put_past (by decide +kernel)).trans (congrArg _ ((put_past (by decide +kernel)).trans (congrArg _ (put_here))))
theorem pF_sat_out : (pF v0 v1 v2 v3).lookup ("sat_out" : Str) = some v3 := (lk_past (by decide +kernel)).trans ((lk_past (by decide +kernel)).trans ((lk_past (by decide +kernel)).trans (lk_here)))
theorem pF_put_sat_out (y : V) : putF "sat_out" y (pF v0 v1 v2 v3) = pF v0 v1 v2 y := (put_past (by decide +kernel)).trans (congrArg _ ((put_past (by decide +kernel)).trans (congrArg _ ((put_past (by decide +kernel)).trans (congrArg _ (put_here))))))
theorem pF_new : (putF "sat_out" v3 (putF "units" v2 (putF "points" v1 (putF "team" v0 ([] : List (Str × V)))))) = pF v0 v1 v2 v3 := by
  first | rfl | decide +kernel | (simp only [putF]; rfl)
theorem pF_no_play : (pF v0 v1 v2 v3).lookup ("play" : Str) = none := (lk_past (by decide +kernel)).trans ((lk_past (by decide +kernel)).trans ((lk_past (by decide +kernel)).trans ((lk_past (by decide +kernel)).trans (rfl))))
theorem pF_no_sit_out : (pF v0 v1 v2 v3).lookup ("sit_out" : Str) = none := (lk_past (by decide +kernel)).trans ((lk_past (by decide +kernel)).trans ((lk_past (by decide +kernel)).trans ((lk_past (by decide +kernel)).trans (rfl))))
end
def eF (v0 v1 v2 : V) : List (Str × V) := [("size", v0), ("rounds", v1), ("knock_out", v2)]
section
variable (v0 v1 v2 : V)
theorem eF_size : (eF v0 v1 v2).lookup ("size" : Str) = some v0 := lk_here
theorem eF_put_size (y : V) : putF "size" y (eF v0 v1 v2) = eF y v1 v2 := put_here
theorem eF_rounds : (eF v0 v1 v2).lookup ("rounds" : Str) = some v1 := (lk_past (by decide +kernel)).trans (lk_here)
theorem eF_put_rounds (y : V) : putF "rounds" y (eF v0 v1 v2) = eF v0 y v2 := (put_past (by decide +kernel)).trans (congrArg _ (put_here))
theorem eF_knock_out : (eF v0 v1 v2).lookup ("knock_out" : Str) = some v2 := (lk_past (by decide +kernel)).trans ((lk_past (by decide +kernel)).trans (lk_here))
theorem eF_put_knock_out (y : V) : putF "knock_out" y (eF v0 v1 v2) = eF v0 v1 y := (put_past (by decide +kernel)).trans (congrArg _ ((put_past (by decide +kernel)).trans (congrArg _ (put_here))))
theorem eF_new : (putF "knock_out" v2 (putF "rounds" v1 (putF "size" v0 ([] : List (Str × V))))) = eF v0 v1 v2 := by
  first | rfl | decide +kernel | (simp only [putF]; rfl)
theorem eF_no_begin : (eF v0 v1 v2).lookup ("begin" : Str) = none := (lk_past (by decide +kernel)).trans ((lk_past (by decide +kernel)).trans ((lk_past (by decide +kernel)).trans (rfl)))
theorem eF_no_is_whole : (eF v0 v1 v2).lookup ("is_whole" : Str) = none := (lk_past (by decide +kernel)).trans ((lk_past (by decide +kernel)).trans ((lk_past (by decide +kernel)).trans (rfl)))
theorem eF_no_is_full : (eF v0 v1 v2).lookup ("is_full" : Str) = none := (lk_past (by decide +kernel)).trans ((lk_past (by decide +kernel)).trans ((lk_past (by decide +kernel)).trans (rfl)))
theorem eF_no_round_of : (eF v0 v1 v2).lookup ("round_of" : Str) = none := (lk_past (by decide +kernel)).trans ((lk_past (by decide +kernel)).trans ((lk_past (by decide +kernel)).trans (rfl)))
theorem eF_no_match_of : (eF v0 v1 v2).lookup ("match_of" : Str) = none := (lk_past (by decide +kernel)).trans ((lk_past (by decide +kernel)).trans ((lk_past (by decide +kernel)).trans (rfl)))
theorem eF_no_met_in : (eF v0 v1 v2).lookup ("met_in" : Str) = none := (lk_past (by decide +kernel)).trans ((lk_past (by decide +kernel)).trans ((lk_past (by decide +kernel)).trans (rfl)))
theorem eF_no_has_sat_out : (eF v0 v1 v2).lookup ("has_sat_out" : Str) = none := (lk_past (by decide +kernel)).trans ((lk_past (by decide +kernel)).trans ((lk_past (by decide +kernel)).trans (rfl)))
theorem eF_no_standing : (eF v0 v1 v2).lookup ("standing" : Str) = none := (lk_past (by decide +kernel)).trans ((lk_past (by decide +kernel)).trans ((lk_past (by decide +kernel)).trans (rfl)))
end
/-- an instance at p -/
def InsAt (K : PySem.W.Frag) (H : Hp) (p : Addr) (C : Str) (fs : List (Str × V)) : Prop := ∃ dx, H p = some (.ins (He.ga K C) dx fs)
theorem InsAt.same {K : PySem.W.Frag} {H H' : Hp} {p : Addr} {C : Str} {fs : List (Str × V)} (h : InsAt K H p C fs) (s : Same H H') : InsAt K H' p C fs := let ⟨dx, e⟩ := h; ⟨dx, s _ _ e⟩
/-- all but what stands at p stays -/
def But (p : Addr) (H H' : Hp) : Prop := ∀ b, b ≠ p → H' b = H b
theorem But.upd {p : Addr} {H : Hp} {o : HO} : But p H (upd H p o) := fun b hb => upd_ne hb
theorem But.trans {p : Addr} {H H1 H2 : Hp} (a : But p H H1) (b : But p H1 H2) : But p H H2 := fun c hc => (b c hc).trans (a c hc)
theorem small20 {fs : List (Str × V)} (h : fs.length ≤ 20) : fs.length < 1000 := by omega
end TR

set_option Elab.async false
set_option linter.all false
set_option maxRecDepth 100000
set_option maxHeartbeats 4000000
namespace TR
open PySem PySem.Spec PyProof.Rows L2
/-! ### lists, a turn more -/
theorem take_one {α : Type} {l : List α} {i : Nat} {x : α} (h : l[i]? = some x) : l.take (i + 1) = l.take i ++ [x] := by
  rw [List.take_add_one, h]
  rfl
theorem same_up {H : Hp} {p : Addr} {o : HO} (h : H p = none) : Same H (upd H p o) := fun b x e => by
  rw [upd_ne (ne_of_none e h)]
  exact e
theorem map_int_at {ns : List Int} {i : Nat} {x : V} (h : (ns.map V.int)[i]? = some x) : ∃ z, ns[i]? = some z ∧ x = V.int z := by
  rw [List.getElem?_map] at h
  obtain ⟨z, e, rfl⟩ := Option.map_eq_some_iff.mp h
  exact ⟨z, e, rfl⟩
theorem line_lt {n : Nat} (h : n ≤ 20000) : n < sizeLine := Nat.lt_of_le_of_lt h (by decide)
theorem abs_int (d : Int) : (if d < 0 then -d else d) = (d.natAbs : Int) := by
  split <;> omega
/-- lists of pairs of ints -/
def twosI : List Int → List (Int × Int)
  | a :: b :: r => (a, b) :: twosI r
  | _ => []
structure PairsAt (H : Hp) (ts : List Addr) (ps : List (Int × Int)) : Prop where
  len : ts.length = ps.length
  at_ : ∀ (i : Nat) (t : Addr) (p : Int × Int), ts[i]? = some t → ps[i]? = some p → H t = some (.tup [.int p.1, .int p.2])
theorem PairsAt.same {H H' : Hp} {ts : List Addr} {ps : List (Int × Int)} (h : PairsAt H ts ps) (s : Same H H') : PairsAt H' ts ps := ⟨h.len, fun i t p e1 e2 => s _ _ (h.at_ i t p e1 e2)⟩
theorem PairsAt.get {H : Hp} {ts : List Addr} {ps : List (Int × Int)} (h : PairsAt H ts ps) {i : Nat} {x : V} (hx : (ts.map V.ref)[i]? = some x) : ∃ t p, x = .ref t ∧ ts[i]? = some t ∧ ps[i]? = some p ∧ H t = some (.tup [.int p.1, .int p.2]) := by
  rw [List.getElem?_map] at hx
  obtain ⟨t, e, rfl⟩ := Option.map_eq_some_iff.mp hx
  have hi : i < ps.length := by
    rw [← h.len]
    exact (List.getElem?_eq_some_iff.mp e).1
  exact ⟨t, ps[i], rfl, e, List.getElem?_eq_getElem hi, h.at_ i t _ e (List.getElem?_eq_getElem hi)⟩
theorem at_int {ns : List Int} {i : Int} {z : Int} (j : Nat) (e : i = (j : Int)) (h : ns[j]? = some z) : atI (ns.map V.int) i = some (.int z) := by
  subst e
  refine atI_nat ?_
  rw [List.getElem?_map, h]
  rfl
theorem at_ref {ts : List Addr} {i : Int} {t : Addr} (j : Nat) (e : i = (j : Int)) (h : ts[j]? = some t) : atI (ts.map V.ref) i = some (.ref t) := by
  subst e
  refine atI_nat ?_
  rw [List.getElem?_map, h]
  rfl
theorem twos_len : ∀ ns : List Int, (twosI ns).length = ns.length / 2
  | [] => rfl
  | [_] => by show 0 = 1 / 2; omega
  | a :: b :: r => by
    show (twosI r).length + 1 = (r.length + 2) / 2
    rw [twos_len r]
    omega
theorem twos_get : ∀ (ns : List Int) (i : Nat) (h : 2 * i + 1 < ns.length), (twosI ns)[i]? = some (ns[2 * i], ns[2 * i + 1])
  | [], i, h => by simp at h
  | [_], i, h => by simp at h
  | a :: b :: r, 0, h => rfl
  | a :: b :: r, i + 1, h => by
    have h2 : 2 * i + 1 < r.length := by simp only [List.length_cons] at h; omega
    have e := twos_get r i h2
    show (twosI r)[i]? = _
    rw [e]
    rfl
theorem rg_twos (n : Nat) (h : n ≤ 1000) : RgC 0 ((2 * n : Nat) : Int) 2 n := by
  have e : Builtin.Range.rangeSize 0 ((2 * n : Nat) : Int) 2 = n := by
    unfold Builtin.Range.rangeSize
    rw [if_pos (by decide)]
    split <;> omega
  refine ⟨by decide, by decide, ?_, e⟩
  have ok : ∀ i : Int, 0 ≤ i → i ≤ 5000 → Builtin.Range.rangeFitsLong i = true := fun i h1 h2 => by
    unfold Builtin.Range.rangeFitsLong
    rw [decide_eq_true (by omega), decide_eq_true (by omega)]
    rfl
  unfold Builtin.Range.small
  rw [e, if_pos (by decide), ok 0 (by omega) (by omega), ok 2 (by omega) (by omega), ok ((2 * n : Nat) : Int) (by omega) (by omega), ok (n : Int) (by omega) (by omega), ok (((2 * n : Nat) : Int) + (2 - 1)) (by omega) (by omega)]
  simp
theorem snoc_pairs {H H' : Hp} {ts : List Addr} {L : List (Int × Int)} {i : Nat} {t : Addr} {p : Int × Int} (h : PairsAt H ts (L.take i)) (s : Same H H') (hp : L[i]? = some p) (ht : H' t = some (.tup [.int p.1, .int p.2])) : PairsAt H' (ts ++ [t]) (L.take (i + 1)) := by
  rw [take_one hp]
  have hl := h.len
  refine ⟨by rw [List.length_append, List.length_append, hl]; rfl, fun j u q e1 e2 => ?_⟩
  rcases Nat.lt_trichotomy j ts.length with c | c | c
  · rw [List.getElem?_append_left c] at e1
    rw [List.getElem?_append_left (by omega)] at e2
    exact s _ _ (h.at_ j u q e1 e2)
  · rw [c, List.getElem?_append_right (Nat.le_refl _), Nat.sub_self] at e1
    rw [c, hl, List.getElem?_append_right (Nat.le_refl _), Nat.sub_self] at e2
    cases e1
    cases e2
    exact ht
  · rw [List.getElem?_eq_none (by rw [List.length_append, List.length_singleton]; omega)] at e1
    cases e1
/-! ### readings grow with what is wished -/
def Mono (t : TE) : Prop := ∀ σ H (Q Q' : VK), (∀ v H1, Q v H1 → Q' v H1) → t σ H Q → t σ H Q'
theorem mono_var (i : Nat) : Mono (tVar i) := fun σ H Q Q' k ⟨v, e, q⟩ => ⟨v, e, k _ _ q⟩
theorem mono_c (v : V) : Mono (tC v) := fun σ H Q Q' k q => k _ _ q
theorem mono_op {r : R2} {ta tb : TE} (hr : ∀ x y H (Q Q' : VK), (∀ v H1, Q v H1 → Q' v H1) → r x y H Q → r x y H Q') (ha : Mono ta) (hb : Mono tb) : Mono (tOp r ta tb) := fun σ H Q Q' k q =>
  ha σ H _ _ (fun x H1 q1 => hb σ H1 _ _ (fun y H2 q2 => hr x y H2 Q Q' k q2) q1) q
theorem mono_rI0 {g : Int → Int → V} : ∀ x y H (Q Q' : VK), (∀ v H1, Q v H1 → Q' v H1) → rI0 g x y H Q → rI0 g x y H Q' := fun x y H Q Q' k ⟨i, j, e1, e2, q⟩ => ⟨i, j, e1, e2, k _ _ q⟩
theorem mono_rI {C : Int → Int → Prop} {g : Int → Int → V} : ∀ x y H (Q Q' : VK), (∀ v H1, Q v H1 → Q' v H1) → rI C g x y H Q → rI C g x y H Q' := fun x y H Q Q' k ⟨i, j, e1, e2, c, q⟩ => ⟨i, j, e1, e2, c, k _ _ q⟩
theorem mono_test {t : TE} (h : Mono t) : ∀ σ H (Q Q' : Bool → Hp → Prop), (∀ b H1, Q b H1 → Q' b H1) → tTest t σ H Q → tTest t σ H Q' := fun σ H Q Q' k q => h σ H _ _ (fun v H1 ⟨b, e, z⟩ => ⟨b, e, k _ _ z⟩) q
theorem mono_and {A B : TT} (ha : ∀ σ H (Q Q' : Bool → Hp → Prop), (∀ b H1, Q b H1 → Q' b H1) → A σ H Q → A σ H Q') (hb : ∀ σ H (Q Q' : Bool → Hp → Prop), (∀ b H1, Q b H1 → Q' b H1) → B σ H Q → B σ H Q') :
    ∀ σ H (Q Q' : Bool → Hp → Prop), (∀ b H1, Q b H1 → Q' b H1) → tAnd A B σ H Q → tAnd A B σ H Q' := fun σ H Q Q' k q => ha σ H _ _ (fun b H1 z => by
  split
  · rename_i e
    rw [if_pos e] at z
    exact hb σ H1 _ _ k z
  · rename_i e
    rw [if_neg e] at z
    exact k _ _ z) q
section
variable {P : Program} {w : World} {K : PySem.W.Frag} {mg : Str → Option Value} {base : Heap}
def sp_board_units (K : PySem.W.Frag) : Sp := Sp1 fun x H Q => ∃ d : Int, x = .int d ∧ ∀ H', Same H H' → Q (.int (Vbbral.imp d)) H'
theorem ok_board_units (T : Txt w K mg base) : OkF P w K mg base 1 (He.ga K "board_units") ["apart"] (sp_board_units K) := by
  obtain ⟨fd, F⟩ := T.f_board_units
  refine ok1 F sc_board_units (fun _ _ _ _ _ _ _ => rfl) (fun cdv A outer s H x0 Q hr h => ?_)
  refine ⟨_, (pss_cons (ps_setLc (i := 1) (own := [("limit", 2)]) (g := gName 2) (by rfl) sc_board_units.nd rfl rfl (sw_true rfl rfl rfl (by decide +kernel)) (pi_tup (pe_glob (v := .ref (He.ga K "LIMITS")) (by rfl) T.g_LIMITS rfl)) (blkOk_by (own := [("limit", 2)]) (N := ["apart", "reached", "limit"]) (sc := defScope s_board_units) (by decide +kernel)) (fun _ _ _ _ _ => pg_name (i := 2) sc_board_units.nd rfl (Or.inl rfl)) (fun _ _ _ _ _ => pts_one (pt_cmpR op_le (pv 2) (pe_callB call_abs (by rfl) T.n_abs PyProof.Rows.boot_abs (pa_cons (pv 0) pa_nil)) (nomark _))) (fun _ _ _ _ _ => (pv 2)))
      (pss_one (ps_ret (pe_ifExp (pt_cmpR op_ge (pv 0) pe_int (nomark _)) (pe_callB (r := rLenS K) call_len_seq (by rfl) T.n_len PySem.boot_len (pa_cons (pv 1) pa_nil)) (pe_un un_neg (pe_callB (r := rLenS K) call_len_seq (by rfl) T.n_len PySem.boot_len (pa_cons (pv 1) pa_nil))))))), ?_⟩
  obtain ⟨d, rfl, q⟩ := h
  refine ⟨_, rfl, ⟨_, T.limits H⟩, fun D nD => lc_tup (xs := LIMITSm.map V.int) (fun i H' => Same H H' ∧ H' D = some (.lst (((LIMITSm.take i).filter fun l => decide (l ≤ (d.natAbs : Int))).map V.int))) ⟨same_up nD, upd_same⟩ (fun i H' _ _ => T.limits H') ?_ ?_⟩
  · rintro i x H' hx ⟨sm, eD⟩
    obtain ⟨z, hz, rfl⟩ := map_int_at hx
    refine ⟨rfl, _, rfl, _, rfl, _, rfl, _, _, rfl, rfl, _, rfl, ?_⟩
    rw [abs_int]
    have e2 := take_one hz
    refine ite2 (fun c => ?_) (fun c => ?_)
    · refine ⟨_, rfl, _, eD, ?_, fun b o e => ?_, ?_⟩
      · rw [List.length_map]
        exact line_lt (Nat.le_trans (List.length_filter_le ..) (Nat.le_trans (List.length_take_le' ..) (by decide)))
      · rw [upd_ne (ne_of_none e nD)]
        exact sm b o e
      · rw [upd_same, e2, List.filter_append, List.map_append, List.filter_cons_of_pos (by simpa using c)]
        rfl
    · refine ⟨sm, ?_⟩
      rw [eD, e2, List.filter_append, List.filter_cons_of_neg (by simpa using c)]
      simp
  · rintro H' ⟨sm, eD⟩
    rw [List.length_map, List.take_length] at eD
    have hl : (((LIMITSm.filter fun l => decide (l ≤ (d.natAbs : Int))).map V.int).length : Int) = ((Vbbral.STEPS.filter fun s => decide (s ≤ d.natAbs)).length : Int) := by
      rw [List.length_map, show LIMITSm = Vbbral.STEPS.map (fun n : Nat => (n : Int)) from rfl, List.filter_map, List.length_map]
      exact congrArg (fun l : List Nat => ((l.length : Nat) : Int)) (List.filter_congr fun n _ => by simp)
    have e := imp_int d
    refine ⟨_, rfl, _, _, rfl, rfl, _, rfl, ite2 (fun c => ?_) (fun c => ?_)⟩
    · have c := of_decide_eq_true c
      rw [if_pos (by omega)] at e
      refine ⟨_, rfl, D, _, rfl, .inl (SqL.of eD), ?_⟩
      rw [hl, ← e]
      exact q H' sm
    · have c : ¬ (0 ≤ d) := fun z => c (decide_eq_true z)
      rw [if_neg (by omega)] at e
      refine ⟨_, rfl, D, _, rfl, .inl (SqL.of eD), _, rfl, ?_⟩
      show Q (.int (-((((LIMITSm.filter fun l => decide (l ≤ (d.natAbs : Int))).map V.int).length : Nat) : Int))) H'
      rw [hl, ← e]
      exact q H' sm
def sp_match_points (K : PySem.W.Frag) : Sp := Sp1 fun x H Q => ∃ d : Int, x = .int d ∧ Q (.int (Vbbral.vp d)) H
theorem ok_match_points (T : Txt w K mg base) : OkF P w K mg base 1 (He.ga K "match_points") ["units"] (sp_match_points K) := by
  obtain ⟨fd, F⟩ := T.f_match_points
  refine ok1 F sc_match_points (fun _ _ _ _ _ _ _ => rfl) (fun cdv A outer s H x0 Q hr h => ?_)
  refine ⟨_, (pss_cons (ps_set (i := 1) sc_match_points.nd rfl (Or.inl rfl) pe_int)
      (pss_cons (ps_while PassesOwn.never (PW.pt (pw_and (pt_cmpR op_lt (pv 1) (C8.pe_gc (by rfl) T.v_EVEN_POINTS) (nomark _)) (pw_and1 (pt_cmpR op_le (pe_op op_mul (pe_op op_add (pv 1) pe_int) (pe_op op_add (pv 1) pe_int)) (pe_op op_mul pe_int (pe_callB call_abs (by rfl) T.n_abs PyProof.Rows.boot_abs (pa_cons (pv 0) pa_nil))) (nomark _))))) (pss_one (ps_aug (i := 1) sc_match_points.nd rfl (Or.inl rfl) pe_int ip_add)))
      (pss_one (ps_ret (pe_ifExp (pt_cmpR op_ge (pv 0) pe_int (nomark _)) (pe_op op_add (C8.pe_gc (by rfl) T.v_EVEN_POINTS) (pv 1)) (pe_op op_sub (C8.pe_gc (by rfl) T.v_EVEN_POINTS) (pv 1))))))), ?_⟩
  obtain ⟨d, rfl, q⟩ := h
  refine while_by (fun σ H' => H' = H ∧ ∃ m : Nat, σ = [some (.int d), some (.int m)] ∧ m ≤ Vbbral.marginOf d.natAbs) (fun σ _ => match σ with | [_, some (.int m)] => (11 - m).toNat | _ => 0) ⟨rfl, 0, rfl, Nat.zero_le _⟩ ?_ ?_
  · rintro σ H' ⟨rfl, m, rfl, hm⟩
    have h10 := margin_le d.natAbs
    have fin : ¬ (m < 10 ∧ (m + 1) * (m + 1) ≤ 4 * d.natAbs) → Q (.int (Vbbral.vp d)) H' → (tRet (tIf (tTest (tOp (rI0 fun i j => .bl (decide (j ≤ i))) (tVar 0) (tC (.int 0)))) (tOp (rI0 fun i j => .int (i + j)) (tC (.int 10)) (tVar 1)) (tOp (rI0 fun i j => .int (i - j)) (tC (.int 10)) (tVar 1)))) { nx := fun _ H' => Q .non H', rt := Q } [some (.int d), some (.int m)] H' := fun z q => by
      have e := margin_stop hm z
      have e2 := vp_int d
      refine ⟨_, rfl, _, _, rfl, rfl, _, rfl, ite2 (fun c => ?_) (fun c => ?_)⟩
      · have c := of_decide_eq_true c
        rw [if_pos (by omega), ← e] at e2
        refine ⟨_, rfl, _, _, rfl, rfl, ?_⟩
        show Q (.int (10 + (m : Int))) H'
        rw [← e2]
        exact q
      · have c : ¬ (0 ≤ d) := fun z => c (decide_eq_true z)
        rw [if_neg (by omega), ← e] at e2
        refine ⟨_, rfl, _, _, rfl, rfl, ?_⟩
        show Q (.int (10 - (m : Int))) H'
        rw [← e2]
        exact q
    refine ⟨_, rfl, _, _, rfl, rfl, _, rfl, ite2 (fun c => ?_) (fun c => ?_)⟩
    · have c : m < 10 := by
        have := of_decide_eq_true c
        omega
      refine ⟨_, rfl, _, _, rfl, rfl, _, rfl, _, _, rfl, rfl, _, _, rfl, rfl, ?_, _, rfl, _, rfl, ?_⟩
      · exact .inl ⟨by show -(2 ^ 64) < (m : Int) + 1; omega, by show (m : Int) + 1 < 2 ^ 64; omega⟩
      · refine ⟨_, _, rfl, rfl, .inl ⟨by decide, by decide⟩, _, _, rfl, rfl, _, rfl, ?_⟩
        rw [abs_int]
        refine ite2 (fun c2 => ?_) (fun c2 => ?_)
        · have c2 : (m + 1) * (m + 1) ≤ 4 * d.natAbs := by
            have z := of_decide_eq_true c2
            exact_mod_cast z
          refine ⟨_, rfl, _, _, rfl, rfl, ⟨rfl, m + 1, rfl, margin_step c c2⟩, ?_⟩
          show (11 - ((m : Int) + 1)).toNat < (11 - (m : Int)).toNat
          omega
        · refine fin (fun z => c2 (decide_eq_true ?_)) q
          exact_mod_cast z.2
    · refine iteF (fin (fun z => c (decide_eq_true (by omega))) q)
  · exact mono_and (mono_test (mono_op mono_rI0 (mono_var _) (mono_c _))) (mono_test (mono_op mono_rI0 (mono_op mono_rI (mono_op mono_rI0 (mono_var _) (mono_c _)) (mono_op mono_rI0 (mono_var _) (mono_c _))) (mono_op mono_rI (mono_c _) (fun σ H Q Q' k ⟨v, e, i, e2, q⟩ => ⟨v, e, i, e2, k _ _ q⟩))))
def sp_by_twos (K : PySem.W.Frag) : Sp := Sp1 fun x H Q => ∃ (a : Addr) (ns : List Int), x = .ref a ∧ SqL K H a (ns.map V.int) ∧ ns.length % 2 = 0 ∧ ns.length ≤ 1000 ∧
  ∀ (H' : Hp) (p : Addr) (ts : List Addr), Same H H' → H p = none → H' p = some (.lst (ts.map V.ref)) → PairsAt H' ts (twosI ns) → Q (.ref p) H'
theorem ok_by_twos (T : Txt w K mg base) : OkF P w K mg base 1 (He.ga K "by_twos") ["row"] (sp_by_twos K) := by
  obtain ⟨fd, F⟩ := T.f_by_twos
  refine ok1 F sc_by_twos (fun _ _ _ _ _ _ _ => rfl) (fun cdv A outer s H x0 Q hr h => ?_)
  refine ⟨_, (pss_one (ps_ret (pe_lc (own := [("at", 1)]) (g := gName 1) (by rfl) sc_by_twos.nd (pi_range3 (by rfl) T.n_range (pa_cons pe_int (pa_cons (pe_callB (r := rLenS K) call_len_seq (by rfl) T.n_len PySem.boot_len (pa_cons (pv 0) pa_nil)) (pa_cons pe_int pa_nil)))) (blkOk_by (own := [("at", 1)]) (N := ["row", "at"]) (sc := defScope s_by_twos) (by decide +kernel)) (fun _ _ _ _ _ => pg_name (i := 1) sc_by_twos.nd rfl (Or.inl rfl)) (fun _ _ _ _ _ => pts_nil) (fun _ _ _ _ _ => (pe_tup (pa_cons (pe_ix (r := rIxL K) ix_list (pv 0) (pv 1) (fun _ _ => rfl)) (pa_cons (pe_ix (r := rIxL K) ix_list (pv 0) (pe_op op_add (pv 1) pe_int) (fun _ _ => rfl)) pa_nil))))))), ?_⟩
  obtain ⟨a, ns, rfl, hS, he, hl, q⟩ := h
  obtain ⟨n, hn⟩ : ∃ n, ns.length = 2 * n := ⟨ns.length / 2, by omega⟩
  have tl : (twosI ns).length = n := by rw [twos_len, hn]; omega
  refine ⟨_, rfl, a, _, rfl, .inl hS, 0, _, 2, n, rfl, by rw [List.length_map, hn]; exact rg_twos n (by omega), fun D nD => lc_it walk_rangeC (fun i H' => i ≤ n ∧ Same H H' ∧ ∃ ts : List Addr, H' D = some (.lst (ts.map V.ref)) ∧ PairsAt H' ts ((twosI ns).take i))
    ⟨Nat.zero_le _, same_up nD, [], upd_same, rfl, fun i t p e => by simp at e⟩ (fun _ _ _ _ => True.intro) ?_ ?_⟩
  · rintro i x H1 H' hi ⟨_, sm, ts, eD, hP⟩ ⟨rfl, rfl⟩
    have g := twos_get ns i (by omega)
    have z1 : ns[2 * i]? = some ns[2 * i] := List.getElem?_eq_getElem (by omega)
    have z2 : ns[2 * i + 1]? = some ns[2 * i + 1] := List.getElem?_eq_getElem (by omega)
    refine ⟨rfl, _, rfl, _, rfl, a, _, _, _, rfl, rfl, sm.seq hS, at_int (2 * i) (by omega) z1, _, rfl, _, rfl, _, _, rfl, rfl, a, _, _, _, rfl, rfl, sm.seq hS, at_int (2 * i + 1) (by omega) z2, by show 2 ≤ sizeLine; decide, fun p np => ?_⟩
    have np2 : p ≠ D := (ne_of_none eD np).symm
    have nD2 : ∀ b o, H b = some o → b ≠ D := fun b o e => ne_of_none e nD
    refine ⟨ts.map V.ref, by rw [upd_ne np2.symm]; exact eD, ?_, by omega, fun b o e => ?_, ts ++ [p], ?_, ?_⟩
    · rw [List.length_map, hP.len]
      exact line_lt (Nat.le_trans (List.length_take_le' ..) (by omega))
    · rw [upd_ne (nD2 b o e), upd_ne (ne_of_none (sm b o e) np)]
      exact sm b o e
    · rw [upd_same, List.map_append]
      rfl
    · have hP2 : PairsAt (upd (upd H' p (.tup [.int ns[2 * i], .int ns[2 * i + 1]])) D (.lst (ts.map V.ref ++ [.ref p]))) ts ((twosI ns).take i) := ⟨hP.len, fun j t r e1 e2 => by
        have z := hP.at_ j t r e1 e2
        rw [upd_ne (ne_of z eD (by intro w; cases w)), upd_ne (ne_of_none z np)]
        exact z⟩
      refine snoc_pairs hP2 (Same.refl _) g ?_
      rw [upd_ne np2, upd_same]
  · rintro H' ⟨_, sm, ts, eD, hP⟩
    rw [← tl, List.take_length] at hP
    exact q H' D ts sm nD eD hP
def sp_match_units (K : PySem.W.Frag) : Sp := Sp1 fun x H Q => ∃ (a : Addr) (ts : List Addr) (ps : List (Int × Int)), x = .ref a ∧ SqL K H a (ts.map V.ref) ∧ PairsAt H ts ps ∧ ps.length ≤ 1000 ∧
  ∀ H', Same H H' → Q (.int ((ps.map fun p => Vbbral.imp (p.1 - p.2)).sum)) H'
theorem ok_match_units (T : Txt w K mg base) : OkF P w K mg base 2 (He.ga K "match_units") ["boards"] (sp_match_units K) := by
  obtain ⟨⟨fd_board_units, G_board_units, b_board_units⟩, k_board_units⟩ := ok_board_units (P := P) T
  obtain ⟨fd, F⟩ := T.f_match_units
  refine ok1 F sc_match_units (fun _ _ _ _ _ _ _ => rfl) (fun cdv A outer s H x0 Q hr h => ?_)
  refine ⟨_, (pss_one (ps_ret (pe_callB (cr_sum rfl) (by rfl) T.n_sum PyProof.Rows.boot_sum (pa_cons (pe_lc (own := [("board", 1)]) (g := gName 1) (by rfl) sc_match_units.nd (pi_list (pv 0)) (blkOk_by (own := [("board", 1)]) (N := ["boards", "board"]) (sc := defScope s_match_units) (by decide +kernel)) (fun _ _ _ _ _ => pg_name (i := 1) sc_match_units.nd rfl (Or.inl rfl)) (fun _ _ _ _ _ => pts_nil) (fun _ _ _ _ _ => (pe_call G_board_units (hr.mono (by decide)) (by rfl) T.g_board_units k_board_units b_board_units .nil pass0 (pa_cons (pe_op op_sub (pe_ix (r := rIxT K) ix_tup (pv 1) pe_int (fun _ _ => rfl)) (pe_ix (r := rIxT K) ix_tup (pv 1) pe_int (fun _ _ => rfl))) pa_nil)))) pa_nil)))), ?_⟩
  obtain ⟨a, ts, ps, rfl, hS, hP, hl, q⟩ := h
  refine ⟨_, rfl, a, rfl, ⟨_, hS⟩, fun D nD => lc_list (K := K) (a := a) (xs := ts.map V.ref) (fun i H' => Same H H' ∧ H' D = some (.lst (((ps.take i).map fun p => Vbbral.imp (p.1 - p.2)).map V.int))) ⟨same_up nD, upd_same⟩ (fun i H' _ z => z.1.seq hS) ?_ ?_⟩
  · rintro i x H' hx ⟨sm, eD⟩
    obtain ⟨t, p, rfl, e1, e2, e3⟩ := hP.get hx
    have st : SqT K H' t [.int p.1, .int p.2] := SqT.of (sm _ _ e3)
    refine ⟨rfl, _, rfl, t, _, 0, .int p.1, rfl, rfl, st, atI_nat (j := 0) rfl, _, rfl, t, _, 1, .int p.2, rfl, rfl, st, atI_nat (j := 1) rfl, _, _, rfl, rfl, _, rfl, _, rfl, fun H2 s2 => ?_⟩
    refine ⟨_, s2 _ _ eD, ?_, fun b o e => ?_, ?_⟩
    · rw [List.length_map, List.length_map]
      exact line_lt (Nat.le_trans (List.length_take_le' ..) (by omega))
    · rw [upd_ne (ne_of_none e nD)]
      exact s2 _ _ (sm b o e)
    · rw [upd_same, take_one e2, List.map_append, List.map_append]
      rfl
  · rintro H' ⟨sm, eD⟩
    rw [List.length_map, hP.len, List.take_length] at eD
    exact ⟨D, _, rfl, SqL.of eD, q H' sm⟩
end
end TR

set_option Elab.async false
set_option linter.all false
set_option maxRecDepth 100000
set_option maxHeartbeats 4000000
namespace TR
open PySem PySem.Spec PyProof.Rows L2
theorem same_made {H H1 : Hp} {x dx : Addr} {o : HO} (nx : H x = none) (nd : H dx = none) (b : But x (upd (upd H dx (.own x)) x o) H1) : Same H H1 := fun c u e => by
  rw [b c (ne_of_none e nx), upd_ne (ne_of_none e nx), upd_ne (ne_of_none e nd)]
  exact e
theorem made_at {H H1 : Hp} {x dx : Addr} {o : HO} (ne : dx ≠ x) (b : But x (upd (upd H dx (.own x)) x o) H1) : ∀ c, c ≠ x → c ≠ dx → H1 c = H c := fun c h1 h2 => by
  rw [b c h1, upd_ne h1, upd_ne h2]
/-! ### rounds in the heap -/
structure RL where
  r : Addr
  l : Addr
  ms : List Addr
def gU (g : Vbbral.Game) : V := if g.done = true then .int g.diff else .non
def MatchG (K : PySem.W.Frag) (H : Hp) (m : Addr) (g : Vbbral.Game) : Prop := InsAt K H m "Match" (mF (.int g.a) (.int g.b) (gU g))
structure RoundAt (K : PySem.W.Frag) (H : Hp) (y : RL) (r : Vbbral.Round) : Prop where
  ins : InsAt K H y.r "Round" (rF (.ref y.l) (.int r.bye))
  lst : H y.l = some (.lst (y.ms.map V.ref))
  len : y.ms.length = r.games.length
  at_ : ∀ (i : Nat) (m : Addr) (g : Vbbral.Game), y.ms[i]? = some m → r.games[i]? = some g → MatchG K H m g
theorem RoundAt.same {K : PySem.W.Frag} {H H' : Hp} {y : RL} {r : Vbbral.Round} (h : RoundAt K H y r) (s : Same H H') : RoundAt K H' y r := ⟨h.ins.same s, s _ _ h.lst, h.len, fun i m g e1 e2 => (h.at_ i m g e1 e2).same s⟩
theorem RoundAt.get {K : PySem.W.Frag} {H : Hp} {y : RL} {r : Vbbral.Round} (h : RoundAt K H y r) {i : Nat} {x : V} (hx : (y.ms.map V.ref)[i]? = some x) : ∃ m g, x = .ref m ∧ y.ms[i]? = some m ∧ r.games[i]? = some g ∧ MatchG K H m g := by
  rw [List.getElem?_map] at hx
  obtain ⟨m, e, rfl⟩ := Option.map_eq_some_iff.mp hx
  have hi : i < r.games.length := by
    rw [← h.len]
    exact (List.getElem?_eq_some_iff.mp e).1
  exact ⟨m, r.games[i], rfl, e, List.getElem?_eq_getElem hi, h.at_ i m _ e (List.getElem?_eq_getElem hi)⟩
def isOf (g : Vbbral.Game) (a b : Int) : Bool := (decide ((g.a : Int) = a) && decide ((g.b : Int) = b)) || (decide ((g.a : Int) = b) && decide ((g.b : Int) = a))
theorem gU_non (g : Vbbral.Game) : (!decide (gU g = V.non)) = g.done := by
  unfold gU
  by_cases h : g.done = true
  · rw [if_pos h, h, decide_eq_false (by intro z; cases z)]
    rfl
  · rw [if_neg h, Bool.eq_false_iff.mpr h, decide_eq_true rfl]
    rfl
theorem dec_int (a b : Int) : decide (V.int a = V.int b) = decide (a = b) := by
  by_cases h : a = b
  · subst h; simp
  · rw [decide_eq_false h, decide_eq_false (fun z => h (V.int.inj z))]
/-! ### places in the heap -/
structure PlaceM where
  team : Int
  pts : Int
  units : Int
  sat : Bool
def PlaceM.play (u : Int) (s : PlaceM) : PlaceM := { s with pts := s.pts + (Vbbral.vp u : Int), units := s.units + u }
def PlaceM.sitOut (s : PlaceM) : PlaceM := { s with pts := s.pts + 12, sat := true }
def PlaceAt (K : PySem.W.Frag) (H : Hp) (q : Addr) (s : PlaceM) : Prop := InsAt K H q "Place" (pF (.int s.team) (.int s.pts) (.int s.units) (.bl s.sat))
structure PlacesAt (K : PySem.W.Frag) (H : Hp) (qs : List Addr) (st : List PlaceM) : Prop where
  len : qs.length = st.length
  at_ : ∀ (i : Nat) (q : Addr) (s : PlaceM), qs[i]? = some q → st[i]? = some s → PlaceAt K H q s
theorem PlacesAt.same {K : PySem.W.Frag} {H H' : Hp} {qs : List Addr} {st : List PlaceM} (h : PlacesAt K H qs st) (s : Same H H') : PlacesAt K H' qs st := ⟨h.len, fun i q p e1 e2 => (h.at_ i q p e1 e2).same s⟩
theorem PlacesAt.get {K : PySem.W.Frag} {H : Hp} {qs : List Addr} {st : List PlaceM} (h : PlacesAt K H qs st) {i : Nat} {x : V} (hx : (qs.map V.ref)[i]? = some x) : ∃ q s, x = .ref q ∧ qs[i]? = some q ∧ st[i]? = some s ∧ PlaceAt K H q s := by
  rw [List.getElem?_map] at hx
  obtain ⟨m, e, rfl⟩ := Option.map_eq_some_iff.mp hx
  have hi : i < st.length := by
    rw [← h.len]
    exact (List.getElem?_eq_some_iff.mp e).1
  exact ⟨m, st[i], rfl, e, List.getElem?_eq_getElem hi, h.at_ i m _ e (List.getElem?_eq_getElem hi)⟩
/-- one of them changed -/
theorem PlacesAt.set {K : PySem.W.Frag} {H H' : Hp} {qs : List Addr} {st : List PlaceM} {i : Nat} {q : Addr} {s : PlaceM} (h : PlacesAt K H qs st) (nd : qs.Nodup) (hq : qs[i]? = some q) (hs : PlaceAt K H' q s) (b : But q H H') : PlacesAt K H' qs (st.set i s) := by
  refine ⟨by rw [List.length_set]; exact h.len, fun j p t e1 e2 => ?_⟩
  by_cases c : i = j
  · subst c
    rw [hq] at e1
    cases e1
    have hi : i < st.length := by
      rw [← h.len]
      exact (List.getElem?_eq_some_iff.mp hq).1
    rw [List.getElem?_set_self hi] at e2
    cases e2
    exact hs
  · rw [List.getElem?_set_ne c] at e2
    obtain ⟨dx, e⟩ := h.at_ j p t e1 e2
    refine ⟨dx, ?_⟩
    rw [b p fun z => ?_]
    · exact e
    · subst z
      obtain ⟨h1, g1⟩ := List.getElem?_eq_some_iff.mp hq
      obtain ⟨h2, g2⟩ := List.getElem?_eq_some_iff.mp e1
      exact c ((List.getElem_inj nd).mp (g1.trans g2.symm))
/-- no place -/
def NotPlace : HO → Prop
  | .ins _ _ fs => ¬ fs.map (·.1) = (["team", "points", "units", "sat_out"] : List Str)
  | _ => True
theorem np_r (C dx : Addr) (a b : V) : NotPlace (.ins C dx (rF a b)) := by
  show ¬ ((["matches", "sits_out"] : List Str) = (["team", "points", "units", "sat_out"] : List Str))
  decide +kernel
theorem np_m (C dx : Addr) (a b c : V) : NotPlace (.ins C dx (mF a b c)) := by
  show ¬ ((["first", "second", "units"] : List Str) = (["team", "points", "units", "sat_out"] : List Str))
  decide +kernel
theorem keep_np {K : PySem.W.Frag} {H H' : Hp} {qs : List Addr} {st : List PlaceM} (hP : PlacesAt K H qs st) (ot : ∀ b, b ∉ qs → H' b = H b) {b : Addr} {o : HO} (e : H b = some o) (n : NotPlace o) : H' b = some o := by
  by_cases c : b ∈ qs
  · obtain ⟨j, hj, ej⟩ := List.mem_iff_getElem.mp c
    have hj2 : j < st.length := by rw [← hP.len]; exact hj
    obtain ⟨d, z⟩ := hP.at_ j b st[j] (by rw [List.getElem?_eq_getElem hj, ej]) (List.getElem?_eq_getElem hj2)
    rw [e] at z
    cases z
    exact absurd rfl n
  · rw [ot b c]
    exact e
theorem RoundAt.stayP {K : PySem.W.Frag} {H H' : Hp} {y : RL} {r : Vbbral.Round} {p : HO → Prop} (h : RoundAt K H y r) (k : ∀ b o, H b = some o → p o → H' b = some o) (pl : ∀ xs, p (.lst xs)) (pr : ∀ C dx a b, p (.ins C dx (rF a b))) (pm : ∀ C dx a b c, p (.ins C dx (mF a b c))) : RoundAt K H' y r :=
  ⟨let ⟨d, e⟩ := h.ins; ⟨d, k _ _ e (pr _ _ _ _)⟩, k _ _ h.lst (pl _), h.len, fun i m g e1 e2 => let ⟨d, e⟩ := h.at_ i m g e1 e2; ⟨d, k _ _ e (pm _ _ _ _ _)⟩⟩
theorem sq_stay {K : PySem.W.Frag} {H H' : Hp} {a : Addr} {xs : List V} {p : HO → Prop} (k : ∀ b o, H b = some o → p o → H' b = some o) (pl : ∀ xs, p (.lst xs)) (pf : ∀ o u, p (.frz o u)) (h : SqL K H a xs) : SqL K H' a xs := by
  rcases h with (h | ⟨o, h⟩) | h
  · exact .inl (.inl (k _ _ h (pl _)))
  · exact .inl (.inr ⟨o, k _ _ h (pf _ _)⟩)
  · exact .inr h
def modAt (f : PlaceM → PlaceM) (i : Nat) (st : List PlaceM) : List PlaceM := match st[i]? with
  | some s => st.set i (f s)
  | none => st
theorem modAt_some {f : PlaceM → PlaceM} {i : Nat} {st : List PlaceM} {s : PlaceM} (h : st[i]? = some s) : modAt f i st = st.set i (f s) := by
  unfold modAt
  rw [h]
def playG (st : List PlaceM) (g : Vbbral.Game) : List PlaceM := if g.done = true then modAt (PlaceM.play (-g.diff)) (g.b - 1) (modAt (PlaceM.play g.diff) (g.a - 1) st) else st
def addRound (r : Vbbral.Round) (st : List PlaceM) : List PlaceM := r.games.foldl playG (if r.bye = 0 then st else modAt PlaceM.sitOut (r.bye - 1) st)
theorem modAt_len (f : PlaceM → PlaceM) (i : Nat) (st : List PlaceM) : (modAt f i st).length = st.length := by
  unfold modAt
  split
  · rw [List.length_set]
  · rfl
theorem playG_len (st : List PlaceM) (g : Vbbral.Game) : (playG st g).length = st.length := by
  unfold playG
  split
  · rw [modAt_len, modAt_len]
  · rfl
theorem fold_len : ∀ (l : List Vbbral.Game) (st : List PlaceM), (l.foldl playG st).length = st.length
  | [], _ => rfl
  | g :: l, st => by rw [List.foldl_cons, fold_len l, playG_len]
theorem addRound_len (r : Vbbral.Round) (st : List PlaceM) : (addRound r st).length = st.length := by
  unfold addRound
  rw [fold_len]
  split
  · rfl
  · exact modAt_len ..
theorem fold_more {l : List Vbbral.Game} {i : Nat} {g : Vbbral.Game} (st : List PlaceM) (h : l[i]? = some g) : (l.take (i + 1)).foldl playG st = playG ((l.take i).foldl playG st) g := by
  rw [take_one h, List.foldl_append]
  rfl
section
variable {P : Program} {w : World} {K : PySem.W.Frag} {mg : Str → Option Value} {base : Heap}
def sp_Match_init (K : PySem.W.Frag) : Sp := Sp3 fun x v1 v2 H Q => ∃ (p dx : Addr), x = .ref p ∧ H p = some (.ins (He.ga K "Match") dx []) ∧ ∀ H' : Hp, But p H H' → H' p = some (.ins (He.ga K "Match") dx (mF v1 v2 .non)) → Q .non H'
theorem ok_Match_init (T : Txt w K mg base) : OkF P w K mg base 1 (He.ma K (He.ga K "Match") "__init__") ["self", "first", "second"] (sp_Match_init K) := by
  obtain ⟨fd, F⟩ := T.f_Match_init
  refine ok3 F sc_Match_init (fun _ _ _ _ _ _ _ _ _ => rfl) (fun cdv A outer s H x0 x1 x2 Q hr h => ?_)
  refine ⟨_, (pss_cons (ps_fld (pv 0) (pv 1) rfl)
      (pss_cons (ps_fld (pv 0) (pv 2) rfl)
      (pss_one (ps_fld (pv 0) pe_non rfl)))), ?_⟩
  obtain ⟨p, dx, rfl, hp, q⟩ := h
  refine ⟨_, rfl, _, rfl, p, _, dx, [], rfl, hp, T.c_Match, T.na_Match_first, (by decide), ?_⟩
  refine ⟨_, rfl, _, rfl, p, _, dx, _, rfl, upd_same, T.c_Match, T.na_Match_second, (by show 1 < 1000; decide), ?_⟩
  refine ⟨_, rfl, p, _, dx, _, rfl, upd_same, T.c_Match, T.na_Match_units, (by show 2 < 1000; decide), ?_⟩
  exact q _ ((But.upd.trans But.upd).trans But.upd) (upd_same.trans (congrArg (fun z => some (HO.ins _ dx z)) (mF_new x1 x2 .non)))
def sp_Match_is_of (K : PySem.W.Frag) : Sp := Sp3 fun x v1 v2 H Q => ∃ (p : Addr) (g : Vbbral.Game) (a b : Int), x = .ref p ∧ v1 = .int a ∧ v2 = .int b ∧ MatchG K H p g ∧ Q (.bl (isOf g a b)) H
theorem ok_Match_is_of (T : Txt w K mg base) : OkF P w K mg base 1 (He.ma K (He.ga K "Match") "is_of") ["self", "a", "b"] (sp_Match_is_of K) := by
  obtain ⟨fd, F⟩ := T.f_Match_is_of
  refine ok3 F sc_Match_is_of (fun _ _ _ _ _ _ _ _ _ => rfl) (fun cdv A outer s H x0 x1 x2 Q hr h => ?_)
  refine ⟨_, (pss_one (ps_ret (pe_or (pe_and (pe_cmpR op_eq (pe_fldK (K := K) rfl (pv 0) rfl) (pv 1) (nomark _)) (pe_one (pe_cmpR op_eq (pe_fldK (K := K) rfl (pv 0) rfl) (pv 2) (nomark _)))) (pe_one (pe_and (pe_cmpR op_eq (pe_fldK (K := K) rfl (pv 0) rfl) (pv 2) (nomark _)) (pe_one (pe_cmpR op_eq (pe_fldK (K := K) rfl (pv 0) rfl) (pv 1) (nomark _)))))))), ?_⟩
  obtain ⟨p, g, a, b, rfl, rfl, rfl, ⟨dx, hp⟩, q⟩ := h
  unfold isOf at q
  rw [← dec_int, ← dec_int, ← dec_int, ← dec_int] at q
  refine ⟨_, rfl, p, _, dx, _, _, rfl, hp, T.c_Match, T.na_Match_first, mF_first .., _, rfl, rfl, _, rfl, ite2 (fun c => ?_) (fun c => ?_)⟩
  · refine ⟨_, rfl, p, _, dx, _, _, rfl, hp, T.c_Match, T.na_Match_second, mF_second .., _, rfl, rfl, _, rfl, ite2 (fun c2 => ?_) (fun c2 => ?_)⟩
    · rw [c, c2] at q
      exact q
    · have c2 := Bool.eq_false_iff.mpr c2
      rw [c, c2] at q
      refine ⟨_, rfl, p, _, dx, _, _, rfl, hp, T.c_Match, T.na_Match_first, mF_first .., _, rfl, rfl, _, rfl, ite2 (fun c3 => ?_) (fun c3 => ?_)⟩
      · rw [c3] at q
        exact ⟨_, rfl, p, _, dx, _, _, rfl, hp, T.c_Match, T.na_Match_second, mF_second .., _, rfl, rfl, q⟩
      · rw [Bool.eq_false_iff.mpr c3] at q
        exact q
  · have c := Bool.eq_false_iff.mpr c
    rw [c] at q
    refine ⟨_, rfl, _, rfl, p, _, dx, _, _, rfl, hp, T.c_Match, T.na_Match_first, mF_first .., _, rfl, rfl, _, rfl, ite2 (fun c3 => ?_) (fun c3 => ?_)⟩
    · rw [c3] at q
      exact ⟨_, rfl, p, _, dx, _, _, rfl, hp, T.c_Match, T.na_Match_second, mF_second .., _, rfl, rfl, q⟩
    · rw [Bool.eq_false_iff.mpr c3] at q
      exact q
def sp_Match_tell (K : PySem.W.Frag) : Sp := Sp3 fun x v1 v2 H Q => ∃ (p : Addr) (g : Vbbral.Game) (a d : Int), x = .ref p ∧ v1 = .int a ∧ v2 = .int d ∧ MatchG K H p g ∧
  ∀ H' : Hp, But p H H' → MatchG K H' p ⟨g.a, g.b, true, if a = (g.a : Int) then d else -d⟩ → Q .non H'
theorem ok_Match_tell (T : Txt w K mg base) : OkF P w K mg base 1 (He.ma K (He.ga K "Match") "tell") ["self", "a", "units"] (sp_Match_tell K) := by
  obtain ⟨fd, F⟩ := T.f_Match_tell
  refine ok3 F sc_Match_tell (fun _ _ _ _ _ _ _ _ _ => rfl) (fun cdv A outer s H x0 x1 x2 Q hr h => ?_)
  refine ⟨_, (pss_one (ps_fld (pv 0) (pe_ifExp (pt_cmpR op_eq (pv 1) (pe_fldK (K := K) rfl (pv 0) rfl) (nomark _)) (pv 2) (pe_un un_neg (pv 2))) rfl)), ?_⟩
  obtain ⟨p, g, a, d, rfl, rfl, rfl, ⟨dx, hp⟩, q⟩ := h
  refine ⟨_, rfl, _, rfl, p, _, dx, _, _, rfl, hp, T.c_Match, T.na_Match_first, mF_first .., rfl, _, rfl, ?_⟩
  rw [dec_int]
  have fin : ∀ z : Int, z = (if a = (g.a : Int) then d else -d) → Q .non (upd H p (.ins (He.ga K "Match") dx (putF "units" (.int z) (mF (.int g.a) (.int g.b) (gU g))))) := fun z e => by
    refine q _ But.upd ⟨dx, ?_⟩
    rw [upd_same, mF_put_units, e]
    rfl
  refine ite2 (fun c => ?_) (fun c => ?_)
  · have c := of_decide_eq_true c
    refine ⟨_, rfl, _, rfl, p, _, dx, _, rfl, hp, T.c_Match, T.na_Match_units, (by show 3 < 1000; decide), ?_⟩
    exact fin d (by rw [if_pos c])
  · have c : ¬ a = (g.a : Int) := fun z => c (decide_eq_true z)
    refine ⟨_, rfl, _, rfl, _, rfl, p, _, dx, _, rfl, hp, T.c_Match, T.na_Match_units, (by show 3 < 1000; decide), ?_⟩
    exact fin (-d) (by rw [if_neg c])
def sp_Place_init (K : PySem.W.Frag) : Sp := Sp2 fun x v1 H Q => ∃ (p dx : Addr) (t : Int), x = .ref p ∧ v1 = .int t ∧ H p = some (.ins (He.ga K "Place") dx []) ∧ ∀ H' : Hp, But p H H' → PlaceAt K H' p ⟨t, 0, 0, false⟩ → Q .non H'
theorem ok_Place_init (T : Txt w K mg base) : OkF P w K mg base 1 (He.ma K (He.ga K "Place") "__init__") ["self", "team"] (sp_Place_init K) := by
  obtain ⟨fd, F⟩ := T.f_Place_init
  refine ok2 F sc_Place_init (fun _ _ _ _ _ _ _ _ => rfl) (fun cdv A outer s H x0 x1 Q hr h => ?_)
  refine ⟨_, (pss_cons (ps_fld (pv 0) (pv 1) rfl)
      (pss_cons (ps_fld (pv 0) pe_int rfl)
      (pss_cons (ps_fld (pv 0) pe_int rfl)
      (pss_one (ps_fld (pv 0) pe_bl rfl))))), ?_⟩
  obtain ⟨p, dx, t, rfl, rfl, hp, q⟩ := h
  refine ⟨_, rfl, _, rfl, p, _, dx, [], rfl, hp, T.c_Place, T.na_Place_team, (by decide), ?_⟩
  refine ⟨_, rfl, p, _, dx, _, rfl, upd_same, T.c_Place, T.na_Place_points, (by show 1 < 1000; decide), ?_⟩
  refine ⟨_, rfl, p, _, dx, _, rfl, upd_same, T.c_Place, T.na_Place_units, (by show 2 < 1000; decide), ?_⟩
  refine ⟨_, rfl, p, _, dx, _, rfl, upd_same, T.c_Place, T.na_Place_sat_out, (by show 3 < 1000; decide), ?_⟩
  exact q _ (((But.upd.trans But.upd).trans But.upd).trans But.upd) ⟨dx, upd_same.trans (congrArg (fun z => some (HO.ins _ dx z)) (pF_new (.int t) (.int 0) (.int 0) (.bl false)))⟩
def sp_Place_play (K : PySem.W.Frag) : Sp := Sp2 fun x v1 H Q => ∃ (p : Addr) (s : PlaceM) (d : Int), x = .ref p ∧ v1 = .int d ∧ PlaceAt K H p s ∧ ∀ H' : Hp, But p H H' → PlaceAt K H' p (s.play d) → Q .non H'
theorem ok_Place_play (T : Txt w K mg base) : OkF P w K mg base 2 (He.ma K (He.ga K "Place") "play") ["self", "units"] (sp_Place_play K) := by
  obtain ⟨⟨fd_match_points, G_match_points, b_match_points⟩, k_match_points⟩ := ok_match_points (P := P) T
  obtain ⟨fd, F⟩ := T.f_Place_play
  refine ok2 F sc_Place_play (fun _ _ _ _ _ _ _ _ => rfl) (fun cdv A outer s H x0 x1 Q hr h => ?_)
  refine ⟨_, (pss_cons (ps_fldaug (pv 0) (pe_call G_match_points (hr.mono (by decide)) (by rfl) T.g_match_points k_match_points b_match_points .nil pass0 (pa_cons (pv 1) pa_nil)) in_add)
      (pss_one (ps_fldaug (pv 0) (pv 1) in_add))), ?_⟩
  obtain ⟨p, s', d, rfl, rfl, ⟨dx, hp⟩, q⟩ := h
  refine ⟨_, rfl, p, _, dx, _, _, rfl, hp, T.c_Place, T.na_Place_points, pF_points .., _, rfl, _, rfl, d, rfl, _, _, rfl, rfl, dx, _, hp, (by show 4 < 1000; decide), ?_⟩
  rw [pF_put_points]
  refine ⟨_, rfl, p, _, dx, _, _, rfl, upd_same, T.c_Place, T.na_Place_units, pF_units .., _, rfl, _, _, rfl, rfl, dx, _, upd_same, (by show 4 < 1000; decide), ?_⟩
  rw [pF_put_units]
  exact q _ (But.upd.trans But.upd) ⟨dx, upd_same⟩
def sp_Place_sit_out (K : PySem.W.Frag) : Sp := Sp1 fun x H Q => ∃ (p : Addr) (s : PlaceM), x = .ref p ∧ PlaceAt K H p s ∧ ∀ H' : Hp, But p H H' → PlaceAt K H' p s.sitOut → Q .non H'
theorem ok_Place_sit_out (T : Txt w K mg base) : OkF P w K mg base 1 (He.ma K (He.ga K "Place") "sit_out") ["self"] (sp_Place_sit_out K) := by
  obtain ⟨fd, F⟩ := T.f_Place_sit_out
  refine ok1 F sc_Place_sit_out (fun _ _ _ _ _ _ _ => rfl) (fun cdv A outer s H x0 Q hr h => ?_)
  refine ⟨_, (pss_cons (ps_fldaug (pv 0) (C8.pe_gc (by rfl) T.v_SIT_OUT_POINTS) in_add)
      (pss_one (ps_fld (pv 0) pe_bl rfl))), ?_⟩
  obtain ⟨p, s', rfl, ⟨dx, hp⟩, q⟩ := h
  refine ⟨_, rfl, p, _, dx, _, _, rfl, hp, T.c_Place, T.na_Place_points, pF_points .., _, _, rfl, rfl, dx, _, hp, (by show 4 < 1000; decide), ?_⟩
  rw [pF_put_points]
  refine ⟨_, rfl, p, _, dx, _, rfl, upd_same, T.c_Place, T.na_Place_sat_out, (by show 4 < 1000; decide), ?_⟩
  rw [pF_put_sat_out]
  exact q _ (But.upd.trans But.upd) ⟨dx, upd_same⟩
def sp_Round_init (K : PySem.W.Frag) : Sp := Sp3 fun x v1 v2 H Q => ∃ (p dx a : Addr) (ts : List Addr) (ps : List (Int × Int)) (so : Int), x = .ref p ∧ v1 = .ref a ∧ v2 = .int so ∧ H p = some (.ins (He.ga K "Round") dx []) ∧
  SqL K H a (ts.map V.ref) ∧ PairsAt H ts ps ∧ ps.length ≤ 1000 ∧
  ∀ (H' : Hp) (l : Addr) (ms : List Addr), (∀ b o, H b = some o → b ≠ p → H' b = some o) → InsAt K H' p "Round" (rF (.ref l) (.int so)) → H l = none → H' l = some (.lst (ms.map V.ref)) → ms.length = ps.length → ms.Nodup → (∀ m ∈ ms, H m = none) →
    (∀ (j : Nat) (m : Addr) (q : Int × Int), ms[j]? = some m → ps[j]? = some q → InsAt K H' m "Match" (mF (.int q.1) (.int q.2) .non)) → Q .non H'
theorem ok_Round_init (T : Txt w K mg base) : OkF P w K mg base 3 (He.ma K (He.ga K "Round") "__init__") ["self", "pairs", "sits_out"] (sp_Round_init K) := by
  obtain ⟨⟨fd_Match_init, G_Match_init, b_Match_init⟩, k_Match_init⟩ := ok_Match_init (P := P) T
  obtain ⟨fd, F⟩ := T.f_Round_init
  refine ok3 F sc_Round_init (fun _ _ _ _ _ _ _ _ _ => rfl) (fun cdv A outer s H x0 x1 x2 Q hr h => ?_)
  refine ⟨_, (pss_cons (ps_fld (pv 0) (pe_lc (own := [("pair", 3)]) (g := gName 3) (by rfl) sc_Round_init.nd (pi_list (pv 1)) (blkOk_by (own := [("pair", 3)]) (N := ["self", "pairs", "sits_out", "pair"]) (sc := defScope s_Round_init) (by decide +kernel)) (fun _ _ _ _ _ => pg_name (i := 3) sc_Round_init.nd rfl (Or.inl rfl)) (fun _ _ _ _ _ => pts_nil) (fun _ _ _ _ _ => (pe_make T.mk_Match G_Match_init (hr.mono (by decide)) (by rfl) T.g_Match b_Match_init .nil pass0 (pa_cons (pe_ix (r := rIxT K) ix_tup (pv 3) pe_int (fun _ _ => rfl)) (pa_cons (pe_ix (r := rIxT K) ix_tup (pv 3) pe_int (fun _ _ => rfl)) pa_nil))))) rfl)
      (pss_one (ps_fld (pv 0) (pv 2) rfl))), ?_⟩
  obtain ⟨p, dx, a, ts, ps, so, rfl, rfl, rfl, hp, hS, hP, hl, q⟩ := h
  refine ⟨_, rfl, a, rfl, ⟨_, hS⟩, fun D nD => lc_list (K := K) (a := a) (xs := ts.map V.ref) (fun i H' => Same H H' ∧ ∃ ms : List Addr, H' D = some (.lst (ms.map V.ref)) ∧ ms.length = i ∧ ms.Nodup ∧ (∀ m ∈ ms, H m = none ∧ m ≠ D) ∧
      ∀ (j : Nat) (m : Addr) (q : Int × Int), ms[j]? = some m → ps[j]? = some q → InsAt K H' m "Match" (mF (.int q.1) (.int q.2) .non))
    ⟨same_up nD, [], upd_same, rfl, List.nodup_nil, fun m hm => absurd hm (by simp), fun j m q e => by simp at e⟩ (fun i H' _ z => z.1.seq hS) ?_ ?_⟩
  · rintro i x H' hx ⟨sm, ms, eD, el, nd, fr, at_⟩
    obtain ⟨t, pp, rfl, e1, e2, e3⟩ := hP.get hx
    have st : SqT K H' t [.int pp.1, .int pp.2] := SqT.of (sm _ _ e3)
    refine ⟨rfl, _, rfl, t, _, 0, .int pp.1, rfl, rfl, st, atI_nat (j := 0) rfl, _, rfl, t, _, 1, .int pp.2, rfl, rfl, st, atI_nat (j := 1) rfl, fun m dm nm ndm ne => ⟨_, _, _, rfl, m, dm, rfl, upd_same, fun H2 bt at2 => ⟨rfl, ?_⟩⟩⟩
    have s2 := same_made nm ndm bt
    have mD : m ≠ D := (ne_of_none eD nm).symm
    refine ⟨_, s2 _ _ eD, ?_, fun b o e => ?_, ms ++ [m], ?_, by rw [List.length_append, el]; rfl, ?_, fun m' hm' => ?_, fun j m' r f1 f2 => ?_⟩
    · rw [List.length_map, el]
      have := (List.getElem?_eq_some_iff.mp e2).1
      exact line_lt (by omega)
    · rw [upd_ne (ne_of_none e nD)]
      exact s2 _ _ (sm b o e)
    · rw [upd_same, List.map_append]
      rfl
    · rw [List.nodup_append]
      refine ⟨nd, by simp, fun x hx y hy => ?_⟩
      rw [List.mem_singleton.mp hy]
      intro z
      subst z
      obtain ⟨j, hj, ej⟩ := List.mem_iff_getElem.mp hx
      have hj2 : j < ps.length := by
        have := (List.getElem?_eq_some_iff.mp e2).1
        omega
      obtain ⟨d, z⟩ := at_ j x ps[j] (by rw [List.getElem?_eq_getElem hj, ej]) (List.getElem?_eq_getElem hj2)
      rw [nm] at z
      cases z
    · rcases List.mem_append.mp hm' with z | z
      · exact fr m' z
      · rw [List.mem_singleton.mp z]
        exact ⟨sm.free nm, mD⟩
    · have key : InsAt K H2 m' "Match" (mF (.int r.1) (.int r.2) .non) := by
        rcases Nat.lt_trichotomy j ms.length with c | c | c
        · rw [List.getElem?_append_left c] at f1
          exact (at_ j m' r f1 f2).same s2
        · rw [c, List.getElem?_append_right (Nat.le_refl _), Nat.sub_self] at f1
          rw [c, el, e2] at f2
          cases f1
          cases f2
          exact ⟨dm, at2⟩
        · rw [List.getElem?_eq_none (by rw [List.length_append, List.length_singleton]; omega)] at f1
          cases f1
      obtain ⟨d, z⟩ := key
      exact ⟨d, by rw [upd_ne (ne_of z (s2 _ _ eD) (by intro w; cases w))]; exact z⟩
  · rintro H' ⟨sm, ms, eD, el, nd, fr, at_⟩
    rw [List.length_map, hP.len] at el
    have hp' := sm _ _ hp
    have pD : D ≠ p := ne_of eD hp' (by intro w; cases w)
    refine ⟨_, rfl, p, _, dx, [], rfl, hp', T.c_Round, T.na_Round_matches, (by decide), ?_⟩
    refine ⟨_, rfl, _, rfl, p, _, dx, _, rfl, upd_same, T.c_Round, T.na_Round_sits_out, (by show 1 < 1000; decide), ?_⟩
    have ot : ∀ b, b ≠ p → upd (upd H' p (.ins (He.ga K "Round") dx (putF "matches" (.ref D) []))) p (.ins (He.ga K "Round") dx (putF "sits_out" (.int so) (putF "matches" (.ref D) []))) b = H' b := fun b hb => by rw [upd_ne hb, upd_ne hb]
    refine q _ D ms (fun b o e hb => by rw [ot b hb]; exact sm b o e) ⟨dx, upd_same.trans (congrArg (fun z => some (HO.ins _ dx z)) (rF_new (.ref D) (.int so)))⟩ nD (by rw [ot D pD]; exact eD) el nd (fun m hm => (fr m hm).1) (fun j m r f1 f2 => ?_)
    obtain ⟨d, z⟩ := at_ j m r f1 f2
    refine ⟨d, ?_⟩
    rw [ot m (ne_of z hp' (by intro w; injection w with w1 w2 w3; cases w3))]
    exact z
def sp_Round_is_whole (K : PySem.W.Frag) : Sp := Sp1 fun x H Q => ∃ (y : RL) (r : Vbbral.Round), x = .ref y.r ∧ RoundAt K H y r ∧ r.games.length ≤ 1000 ∧ ∀ H', Same H H' → Q (.bl (r.games.all fun g => g.done)) H'
theorem ok_Round_is_whole (T : Txt w K mg base) : OkF P w K mg base 1 (He.ma K (He.ga K "Round") "is_whole") ["self"] (sp_Round_is_whole K) := by
  obtain ⟨fd, F⟩ := T.f_Round_is_whole
  refine ok1 F sc_Round_is_whole (fun _ _ _ _ _ _ _ => rfl) (fun cdv A outer s H x0 Q hr h => ?_)
  refine ⟨_, (pss_one (ps_ret (pe_callB (cr_all rfl) (by rfl) T.n_all PyProof.Rows.boot_all (pa_cons (pe_lc (own := [("one", 1)]) (g := gName 1) (by rfl) sc_Round_is_whole.nd (pi_list (pe_fldK (K := K) rfl (pv 0) rfl)) (blkOk_by (own := [("one", 1)]) (N := ["self", "one"]) (sc := defScope s_Round_is_whole) (by decide +kernel)) (fun _ _ _ _ _ => pg_name (i := 1) sc_Round_is_whole.nd rfl (Or.inl rfl)) (fun _ _ _ _ _ => pts_nil) (fun _ _ _ _ _ => (pe_cmpR op_notN (pe_fldK (K := K) rfl (pv 1) rfl) pe_non (nomark _)))) pa_nil)))), ?_⟩
  obtain ⟨y, r, rfl, hR, hl, q⟩ := h
  obtain ⟨dx, hp⟩ := hR.ins
  refine ⟨_, rfl, y.r, _, dx, _, _, rfl, hp, T.c_Round, T.na_Round_matches, rF_matches .., y.l, rfl, ⟨_, SqL.of hR.lst⟩, fun D nD => lc_list (K := K) (a := y.l) (xs := y.ms.map V.ref) (fun i H' => Same H H' ∧ H' D = some (.lst (((r.games.take i).map fun g => g.done).map V.bl))) ⟨same_up nD, upd_same⟩ (fun i H' _ z => z.1.seq (SqL.of hR.lst)) ?_ ?_⟩
  · rintro i x H' hx ⟨sm, eD⟩
    obtain ⟨m, g, rfl, e1, e2, dm, e3⟩ := hR.get hx
    refine ⟨rfl, _, rfl, m, _, dm, _, _, rfl, sm _ _ e3, T.c_Match, T.na_Match_units, mF_units .., rfl, _, eD, ?_, fun b o e => ?_, ?_⟩
    · rw [List.length_map, List.length_map]
      exact line_lt (Nat.le_trans (List.length_take_le' ..) (by omega))
    · rw [upd_ne (ne_of_none e nD)]
      exact sm b o e
    · rw [upd_same, take_one e2, List.map_append, List.map_append]
      rw [gU_non]
      rfl
  · rintro H' ⟨sm, eD⟩
    rw [List.length_map, hR.len, List.take_length] at eD
    refine ⟨D, _, rfl, SqL.of eD, ?_⟩
    rw [List.all_map]
    exact q H' sm
def sp_Round_match_of (K : PySem.W.Frag) : Sp := Sp3 fun x v1 v2 H Q => ∃ (y : RL) (r : Vbbral.Round) (a b : Int), x = .ref y.r ∧ v1 = .int a ∧ v2 = .int b ∧ RoundAt K H y r ∧
  (∀ (i : Nat) (m : Addr) (g : Vbbral.Game), y.ms[i]? = some m → r.games[i]? = some g → isOf g a b = true → (∀ j g', j < i → r.games[j]? = some g' → isOf g' a b = false) → Q (.ref m) H) ∧
  ((∀ g ∈ r.games, isOf g a b = false) → Q .non H)
theorem ok_Round_match_of (T : Txt w K mg base) : OkF P w K mg base 2 (He.ma K (He.ga K "Round") "match_of") ["self", "a", "b"] (sp_Round_match_of K) := by
  obtain ⟨⟨fd_Match_is_of, G_Match_is_of, b_Match_is_of⟩, k_Match_is_of⟩ := ok_Match_is_of (P := P) T
  obtain ⟨fd, F⟩ := T.f_Round_match_of
  refine ok3 F sc_Round_match_of (fun _ _ _ _ _ _ _ _ _ => rfl) (fun cdv A outer s H x0 x1 x2 Q hr h => ?_)
  refine ⟨_, (pss_cons (ps_for PassesOwn.never rfl (pi_list (pe_fldK (K := K) rfl (pv 0) rfl)) (pg_name (i := 3) sc_Round_match_of.nd rfl (Or.inl rfl)) (pss_one (ps_if (pt_val (pe_meth (pv 3) T.c_Match T.m_Match_is_of G_Match_is_of (hr.mono (by decide)) b_Match_is_of .nil pass0 (pa_cons (pv 1) (pa_cons (pv 2) pa_nil)))) (pss_one (ps_ret (pv 3))) pss_nil)))
      (pss_one (ps_ret pe_non))), ?_⟩
  obtain ⟨y, r, a, b, rfl, rfl, rfl, hR, q1, q2⟩ := h
  obtain ⟨dx, hp⟩ := hR.ins
  refine ⟨_, rfl, y.r, _, dx, _, _, rfl, hp, T.c_Round, T.na_Round_matches, rF_matches .., y.l, rfl, ⟨_, SqL.of hR.lst⟩, for_list (K := K) (a := y.l) (xs := y.ms.map V.ref) (fun i σ H' => H' = H ∧ (∃ v, σ = [some (.ref y.r), some (.int a), some (.int b), v]) ∧ ∀ j g', j < i → r.games[j]? = some g' → isOf g' a b = false) ⟨rfl, ⟨none, rfl⟩, fun j g' hj => absurd hj (by omega)⟩ (fun i σ H' _ z => by rw [z.1]; exact SqL.of hR.lst) ?_ ?_⟩
  · rintro i x σ H' hx ⟨rfl, ⟨v, rfl⟩, no⟩
    obtain ⟨m, g, rfl, e1, e2, e3⟩ := hR.get hx
    obtain ⟨dm, em⟩ := id e3
    refine ⟨_, rfl, m, dm, _, rfl, em, mF_no_is_of .., _, rfl, _, rfl, _, _, _, rfl, m, g, a, b, rfl, rfl, rfl, e3, _, rfl, ite2 (fun c => ?_) (fun c => ?_)⟩
    · exact ⟨_, rfl, q1 i m g e1 e2 c no⟩
    · refine ⟨rfl, ⟨_, rfl⟩, fun j g' hj hg => ?_⟩
      by_cases z : j = i
      · subst z
        rw [e2] at hg
        cases hg
        exact Bool.eq_false_iff.mpr c
      · exact no j g' (by omega) hg
  · rintro σ H' ⟨rfl, _, no⟩
    refine q2 fun g hg => ?_
    obtain ⟨j, hj, e⟩ := List.mem_iff_getElem.mp hg
    exact no j g (by rw [List.length_map, hR.len]; exact hj) (by rw [List.getElem?_eq_getElem hj, e])
def sp_add_round (K : PySem.W.Frag) : Sp := Sp2 fun x v1 H Q => ∃ (a : Addr) (qs : List Addr) (st : List PlaceM) (y : RL) (r : Vbbral.Round), x = .ref a ∧ v1 = .ref y.r ∧ SqL K H a (qs.map V.ref) ∧ PlacesAt K H qs st ∧ qs.Nodup ∧ RoundAt K H y r ∧ r.bye ≤ st.length ∧
  (∀ g ∈ r.games, 1 ≤ g.a ∧ g.a ≤ st.length ∧ 1 ≤ g.b ∧ g.b ≤ st.length) ∧ ∀ H' : Hp, (∀ b, b ∉ qs → H' b = H b) → PlacesAt K H' qs (addRound r st) → Q .non H'
theorem ok_add_round (T : Txt w K mg base) : OkF P w K mg base 3 (He.ga K "add_round") ["places", "one"] (sp_add_round K) := by
  obtain ⟨⟨fd_Place_play, G_Place_play, b_Place_play⟩, k_Place_play⟩ := ok_Place_play (P := P) T
  obtain ⟨⟨fd_Place_sit_out, G_Place_sit_out, b_Place_sit_out⟩, k_Place_sit_out⟩ := ok_Place_sit_out (P := P) T
  obtain ⟨fd, F⟩ := T.f_add_round
  refine ok2 F sc_add_round (fun _ _ _ _ _ _ _ _ => rfl) (fun cdv A outer s H x0 x1 Q hr h => ?_)
  refine ⟨_, (pss_cons (ps_if (pt_cmpR op_ne (pe_fldK (K := K) rfl (pv 1) rfl) pe_int (nomark _)) (pss_one (ps_expr (pe_meth0 (pe_ix (r := rIxL K) ix_list (pv 0) (pe_op op_sub (pe_fldK (K := K) rfl (pv 1) rfl) pe_int) (fun _ _ => rfl)) T.c_Place T.m_Place_sit_out G_Place_sit_out (hr.mono (by decide)) b_Place_sit_out .nil pass0))) pss_nil)
      (pss_one (ps_for PassesOwn.never rfl (pi_list (pe_fldK (K := K) rfl (pv 1) rfl)) (pg_name (i := 2) sc_add_round.nd rfl (Or.inl rfl)) (pss_one (ps_if (pt_cmpR op_notN (pe_fldK (K := K) rfl (pv 2) rfl) pe_non (nomark _)) (pss_cons (ps_expr (pe_meth (pe_ix (r := rIxL K) ix_list (pv 0) (pe_op op_sub (pe_fldK (K := K) rfl (pv 2) rfl) pe_int) (fun _ _ => rfl)) T.c_Place T.m_Place_play G_Place_play (hr.mono (by decide)) b_Place_play .nil pass0 (pa_cons (pe_fldK (K := K) rfl (pv 2) rfl) pa_nil)))
      (pss_one (ps_expr (pe_meth (pe_ix (r := rIxL K) ix_list (pv 0) (pe_op op_sub (pe_fldK (K := K) rfl (pv 2) rfl) pe_int) (fun _ _ => rfl)) T.c_Place T.m_Place_play G_Place_play (hr.mono (by decide)) b_Place_play .nil pass0 (pa_cons (pe_un un_neg (pe_fldK (K := K) rfl (pv 2) rfl)) pa_nil))))) pss_nil))))), ?_⟩
  obtain ⟨a, qs, st, y, r, rfl, rfl, hS, hP, nd, hR, hb, hg, q⟩ := h
  obtain ⟨dx, hp⟩ := hR.ins
  have kR : ∀ H', (∀ b, b ∉ qs → H' b = H b) → RoundAt K H' y r ∧ SqL K H' a (qs.map V.ref) := fun H' ot =>
    ⟨hR.stayP (fun b o e n => keep_np hP ot e n) (fun _ => True.intro) np_r np_m, sq_stay (fun b o e n => keep_np hP ot e n) (fun _ => True.intro) (fun _ _ => True.intro) hS⟩
  have subP : ∀ {H1 H2 : Hp} {i : Nat} {p : Addr} , qs[i]? = some p → But p H1 H2 → (∀ b, b ∉ qs → H1 b = H b) → ∀ b, b ∉ qs → H2 b = H b := fun {H1 H2 i p} hi bt ot b hb => by
    rw [bt b fun z => hb (by rw [z]; exact List.mem_of_getElem? hi)]
    exact ot b hb
  -- the matches
  have loop : ∀ H1 : Hp, ∀ st1 : List PlaceM, st1.length = st.length → (∀ b, b ∉ qs → H1 b = H b) → PlacesAt K H1 qs st1 → r.games.foldl playG st1 = addRound r st →
      (tFor (iList K (tFld K (tVar 1) "matches")) (gName 2) (tIfS (tTest (tOp (fun x y H Q => y = .non ∧ Q (.bl (!decide (x = .non))) H) (tFld K (tVar 2) "units") (tC .non)))
        (tSeq (tDrop (tMeth (He.ga K "Place") "play" (sp_Place_play K) [] L2.E0 (tOp (rIxL K) (tVar 0) (tOp (rI0 fun i j => .int (i - j)) (tFld K (tVar 2) "first") (tC (.int 1)))) (tCons (tFld K (tVar 2) "units") tNil)))
          (tDrop (tMeth (He.ga K "Place") "play" (sp_Place_play K) [] L2.E0 (tOp (rIxL K) (tVar 0) (tOp (rI0 fun i j => .int (i - j)) (tFld K (tVar 2) "second") (tC (.int 1)))) (tCons (tUn (rU fun i => .int (-i)) (tFld K (tVar 2) "units")) tNil)))) tNext))
        { nx := fun _ H' => Q .non H', rt := Q } [some (.ref a), some (.ref y.r), none] H1 := by
    intro H1 st1 hl1 ot1 hP1 ef
    obtain ⟨hR1, hS1⟩ := kR H1 ot1
    obtain ⟨dx1, hp1⟩ := hR1.ins
    refine ⟨_, rfl, y.r, _, dx1, _, _, rfl, hp1, T.c_Round, T.na_Round_matches, rF_matches .., y.l, rfl, ⟨_, SqL.of hR1.lst⟩, for_list (K := K) (a := y.l) (xs := y.ms.map V.ref) (fun i σ H' => (∃ v, σ = [some (.ref a), some (.ref y.r), v]) ∧ (∀ b, b ∉ qs → H' b = H b) ∧ PlacesAt K H' qs ((r.games.take i).foldl playG st1))
      ⟨⟨none, rfl⟩, ot1, hP1⟩ (fun i σ H' _ z => SqL.of (kR H' z.2.1).1.lst) ?_ ?_⟩
    · rintro i x σ H' hx ⟨⟨v, rfl⟩, ot, hP'⟩
      obtain ⟨hR', hS'⟩ := kR H' ot
      obtain ⟨m, g, rfl, e1, e2, dm, em⟩ := hR'.get hx
      have hm := fold_more st1 e2
      obtain ⟨ga1, ga2, gb1, gb2⟩ := hg g (List.mem_of_getElem? e2)
      refine ⟨_, rfl, m, _, dm, _, _, rfl, em, T.c_Match, T.na_Match_units, mF_units .., rfl, _, rfl, ?_⟩
      rw [gU_non]
      refine ite2 (fun c => ?_) (fun c => ?_)
      · have len' : ((r.games.take i).foldl playG st1).length = st.length := by rw [fold_len, hl1]
        have ql : qs.length = st.length := by rw [hP'.len, len']
        obtain ⟨p1, hp1⟩ : ∃ p, qs[g.a - 1]? = some p := ⟨_, List.getElem?_eq_getElem (by omega)⟩
        obtain ⟨s1, hs1⟩ : ∃ p, ((r.games.take i).foldl playG st1)[g.a - 1]? = some p := ⟨_, List.getElem?_eq_getElem (by rw [len']; omega)⟩
        obtain ⟨dp, hpp⟩ := hP'.at_ _ _ _ hp1 hs1
        have eU : gU g = .int g.diff := if_pos c
        refine ⟨_, rfl, _, rfl, m, _, dm, _, _, rfl, em, T.c_Match, T.na_Match_first, mF_first .., _, _, rfl, rfl, a, _, _, _, rfl, rfl, hS', at_ref (g.a - 1) (by omega) hp1, p1, dp, _, rfl, hpp, pF_no_play .., _, rfl, m, _, dm, _, _, rfl, em, T.c_Match, T.na_Match_units, mF_units .., _, _, rfl, p1, s1, g.diff, rfl, eU, ⟨dp, hpp⟩, fun H2 bt2 at2 => ?_⟩
        have ot2 := subP hp1 bt2 ot
        have hP2 : PlacesAt K H2 qs (modAt (PlaceM.play g.diff) (g.a - 1) ((r.games.take i).foldl playG st1)) := by
          rw [modAt_some hs1]
          exact hP'.set nd hp1 at2 bt2
        obtain ⟨hR2, hS2⟩ := kR H2 ot2
        obtain ⟨dm2, em2⟩ := hR2.at_ i m g e1 e2
        obtain ⟨p2, hp2⟩ : ∃ p, qs[g.b - 1]? = some p := ⟨_, List.getElem?_eq_getElem (by omega)⟩
        obtain ⟨s2, hs2⟩ : ∃ p, (modAt (PlaceM.play g.diff) (g.a - 1) ((r.games.take i).foldl playG st1))[g.b - 1]? = some p := ⟨_, List.getElem?_eq_getElem (by rw [modAt_len, len']; omega)⟩
        obtain ⟨dp2, hpp2⟩ := hP2.at_ _ _ _ hp2 hs2
        refine ⟨_, rfl, _, rfl, m, _, dm2, _, _, rfl, em2, T.c_Match, T.na_Match_second, mF_second .., _, _, rfl, rfl, a, _, _, _, rfl, rfl, hS2, at_ref (g.b - 1) (by omega) hp2, p2, dp2, _, rfl, hpp2, pF_no_play .., _, rfl, m, _, dm2, _, _, rfl, em2, T.c_Match, T.na_Match_units, mF_units .., g.diff, eU, _, _, rfl, p2, s2, -g.diff, rfl, rfl, ⟨dp2, hpp2⟩, fun H3 bt3 at3 => ?_⟩
        refine ⟨⟨_, rfl⟩, subP hp2 bt3 ot2, ?_⟩
        rw [hm, show playG ((r.games.take i).foldl playG st1) g = modAt (PlaceM.play (-g.diff)) (g.b - 1) (modAt (PlaceM.play g.diff) (g.a - 1) ((r.games.take i).foldl playG st1)) from if_pos c, modAt_some hs2]
        exact hP2.set nd hp2 at3 bt3
      · refine ⟨⟨_, rfl⟩, ot, ?_⟩
        rw [hm, show playG ((r.games.take i).foldl playG st1) g = (r.games.take i).foldl playG st1 from if_neg c]
        exact hP'
    · rintro σ H' ⟨_, ot, hP'⟩
      rw [List.length_map, hR.len, List.take_length, ef] at hP'
      exact q H' ot hP'
  refine ⟨_, rfl, y.r, _, dx, _, _, rfl, hp, T.c_Round, T.na_Round_sits_out, rF_sits_out .., rfl, _, rfl, ?_⟩
  by_cases c : r.bye = 0
  · have e : (!decide (V.int (r.bye : Int) = V.int 0)) = false := by rw [c]; rfl
    rw [e]
    refine iteF ?_
    exact loop H st rfl (fun _ _ => rfl) hP (by unfold addRound; rw [if_pos c])
  · have e : (!decide (V.int (r.bye : Int) = V.int 0)) = true := by
      rw [dec_int, decide_eq_false (by omega)]
      rfl
    rw [e]
    refine iteT ?_
    obtain ⟨p1, hp1⟩ : ∃ p, qs[r.bye - 1]? = some p := ⟨_, List.getElem?_eq_getElem (by rw [hP.len]; omega)⟩
    obtain ⟨s1, hs1⟩ : ∃ p, st[r.bye - 1]? = some p := ⟨_, List.getElem?_eq_getElem (by omega)⟩
    obtain ⟨dp, hpp⟩ := hP.at_ _ _ _ hp1 hs1
    refine ⟨_, rfl, _, rfl, y.r, _, dx, _, _, rfl, hp, T.c_Round, T.na_Round_sits_out, rF_sits_out .., _, _, rfl, rfl, a, _, _, _, rfl, rfl, hS, at_ref (r.bye - 1) (by omega) hp1, p1, dp, _, rfl, hpp, pF_no_sit_out .., _, rfl, p1, s1, rfl, ⟨dp, hpp⟩, fun H2 bt2 at2 => ?_⟩
    refine loop H2 (modAt PlaceM.sitOut (r.bye - 1) st) (modAt_len ..) (subP hp1 bt2 fun _ _ => rfl) ?_ (by unfold addRound; rw [if_neg c])
    rw [modAt_some hs1]
    exact hP.set nd hp1 at2 bt2
end
end TR

set_option Elab.async false
set_option linter.all false
set_option maxRecDepth 100000
set_option maxHeartbeats 4000000
namespace TR
open PySem PySem.Spec PyProof.Rows L2
structure EvAt (K : PySem.W.Frag) (H : Hp) (e er : Addr) (L : List RL) (kv : V) (n : Nat) (rs : List Vbbral.Round) : Prop where
  ev : InsAt K H e "Event" (eF (.int n) (.ref er) kv)
  er : H er = some (.lst ((L.map RL.r).map V.ref))
  len : L.length = rs.length
  at_ : ∀ (i : Nat) (y : RL) (r : Vbbral.Round), L[i]? = some y → rs[i]? = some r → RoundAt K H y r
theorem EvAt.same {K : PySem.W.Frag} {H H' : Hp} {e er : Addr} {L : List RL} {kv : V} {n : Nat} {rs : List Vbbral.Round} (h : EvAt K H e er L kv n rs) (s : Same H H') : EvAt K H' e er L kv n rs := ⟨h.ev.same s, s _ _ h.er, h.len, fun i y r e1 e2 => (h.at_ i y r e1 e2).same s⟩
theorem EvAt.get {K : PySem.W.Frag} {H : Hp} {e er : Addr} {L : List RL} {kv : V} {n : Nat} {rs : List Vbbral.Round} (h : EvAt K H e er L kv n rs) {i : Nat} {x : V} (hx : ((L.map RL.r).map V.ref)[i]? = some x) : ∃ y r, x = .ref y.r ∧ L[i]? = some y ∧ rs[i]? = some r ∧ RoundAt K H y r := by
  rw [List.getElem?_map, List.getElem?_map] at hx
  obtain ⟨a, e1, rfl⟩ := Option.map_eq_some_iff.mp hx
  obtain ⟨y, e2, rfl⟩ := Option.map_eq_some_iff.mp e1
  have hi : i < rs.length := by
    rw [← h.len]
    exact (List.getElem?_eq_some_iff.mp e2).1
  exact ⟨y, rs[i], rfl, e2, List.getElem?_eq_getElem hi, h.at_ i y _ e2 (List.getElem?_eq_getElem hi)⟩
theorem EvAt.nth {K : PySem.W.Frag} {H : Hp} {e er : Addr} {L : List RL} {kv : V} {n : Nat} {rs : List Vbbral.Round} (h : EvAt K H e er L kv n rs) {i : Nat} (hi : i < rs.length) : ∃ y, L[i]? = some y ∧ RoundAt K H y rs[i] := by
  have hi2 : i < L.length := by rw [h.len]; exact hi
  exact ⟨L[i], List.getElem?_eq_getElem hi2, h.at_ i _ _ (List.getElem?_eq_getElem hi2) (List.getElem?_eq_getElem hi)⟩
def wholeR (rs : List Vbbral.Round) : Bool := match rs.getLast? with
  | none => true
  | some r => r.games.all fun g => g.done
def metIn (rs : List Vbbral.Round) (a b : Int) : Nat := match rs.findIdx? fun r => r.games.any fun g => isOf g a b with
  | none => 0
  | some i => i + 1
theorem any_no {l : List Vbbral.Game} {a b : Int} : (l.any fun g => isOf g a b) = false ↔ ∀ g ∈ l, isOf g a b = false := by
  rw [List.any_eq_false]
  exact ⟨fun h g hg => Bool.eq_false_iff.mpr (h g hg), fun h g hg => Bool.eq_false_iff.mp (h g hg)⟩
theorem findIdx_at {α : Type} {p : α → Bool} : ∀ {l : List α} {i : Nat} {x : α}, l[i]? = some x → p x = true → (∀ j y, j < i → l[j]? = some y → p y = false) → l.findIdx? p = some i
  | [], i, x, h, _, _ => by simp at h
  | a :: l, 0, x, h, hp, _ => by
    obtain rfl : a = x := Option.some.inj h
    rw [List.findIdx?_cons, if_pos hp]
  | a :: l, i + 1, x, h, hp, no => by
    have h0 := no 0 a (by omega) rfl
    rw [List.findIdx?_cons, if_neg (by rw [h0]; decide), findIdx_at (l := l) (i := i) h hp fun j y hj hy => no (j + 1) y (by omega) hy]
    rfl
theorem findIdx_no {α : Type} {p : α → Bool} {l : List α} (no : ∀ (j : Nat) (y : α), l[j]? = some y → p y = false) : l.findIdx? p = none := by
  rw [List.findIdx?_eq_none_iff]
  intro x hx
  obtain ⟨j, hj, e⟩ := List.mem_iff_getElem.mp hx
  exact no j x (by rw [List.getElem?_eq_getElem hj, e])
section
variable {P : Program} {w : World} {K : PySem.W.Frag} {mg : Str → Option Value} {base : Heap}
def sp_Event_init (K : PySem.W.Frag) : Sp := Sp1 fun x H Q => ∃ (p dx : Addr), x = .ref p ∧ H p = some (.ins (He.ga K "Event") dx []) ∧ ∀ (H' : Hp) (er : Addr), (∀ b o, H b = some o → b ≠ p → H' b = some o) → H er = none → EvAt K H' p er [] .non 0 [] → Q .non H'
theorem ok_Event_init (T : Txt w K mg base) : OkF P w K mg base 1 (He.ma K (He.ga K "Event") "__init__") ["self"] (sp_Event_init K) := by
  obtain ⟨fd, F⟩ := T.f_Event_init
  refine ok1 F sc_Event_init (fun _ _ _ _ _ _ _ => rfl) (fun cdv A outer s H x0 Q hr h => ?_)
  refine ⟨_, (pss_cons (ps_fld (pv 0) pe_int rfl)
      (pss_cons (ps_fld (pv 0) (pe_lst pa_nil) rfl)
      (pss_one (ps_fld (pv 0) pe_non rfl)))), ?_⟩
  obtain ⟨p, dx, rfl, hp, q⟩ := h
  refine ⟨_, rfl, p, _, dx, [], rfl, hp, T.c_Event, T.na_Event_size, (by decide), ?_⟩
  refine ⟨Nat.zero_le _, fun er ner => ?_⟩
  have pe : p ≠ er := ne_of_none upd_same ner
  have ner' : H er = none := by rw [upd_ne pe.symm] at ner; exact ner
  refine ⟨_, rfl, p, _, dx, _, rfl, by rw [upd_ne pe, upd_same], T.c_Event, T.na_Event_rounds, (by show 1 < 1000; decide), ?_⟩
  refine ⟨_, rfl, p, _, dx, _, rfl, upd_same, T.c_Event, T.na_Event_knock_out, (by show 2 < 1000; decide), ?_⟩
  refine q _ er (fun b o e hb => ?_) ner' ⟨⟨dx, upd_same.trans (congrArg (fun z => some (HO.ins _ dx z)) (eF_new (.int 0) (.ref er) .non))⟩, ?_, rfl, fun i y r e => by simp at e⟩
  · rw [upd_ne hb, upd_ne hb, upd_ne (ne_of_none e ner'), upd_ne hb]
    exact e
  · rw [upd_ne pe.symm, upd_ne pe.symm, upd_same]
    rfl
def sp_Event_begin (K : PySem.W.Frag) : Sp := Sp2 fun x v1 H Q => ∃ (e er : Addr) (L : List RL) (kv : V) (n m : Nat) (rs : List Vbbral.Round), x = .ref e ∧ v1 = .int m ∧ EvAt K H e er L kv n rs ∧ ∀ (H' : Hp) (er : Addr), (∀ b o, H b = some o → b ≠ e → H' b = some o) → H er = none → EvAt K H' e er [] .non m [] → Q .non H'
theorem ok_Event_begin (T : Txt w K mg base) : OkF P w K mg base 1 (He.ma K (He.ga K "Event") "begin") ["self", "size"] (sp_Event_begin K) := by
  obtain ⟨fd, F⟩ := T.f_Event_begin
  refine ok2 F sc_Event_begin (fun _ _ _ _ _ _ _ _ => rfl) (fun cdv A outer s H x0 x1 Q hr h => ?_)
  refine ⟨_, (pss_cons (ps_fld (pv 0) (pv 1) rfl)
      (pss_cons (ps_fld (pv 0) (pe_lst pa_nil) rfl)
      (pss_one (ps_fld (pv 0) pe_non rfl)))), ?_⟩
  obtain ⟨p, er0, L, kv, n, m, rs, rfl, rfl, hE, q⟩ := h
  obtain ⟨dx, hp⟩ := hE.ev
  refine ⟨_, rfl, _, rfl, p, _, dx, _, rfl, hp, T.c_Event, T.na_Event_size, (by show 3 < 1000; decide), ?_⟩
  rw [eF_put_size]
  refine ⟨Nat.zero_le _, fun er ner => ?_⟩
  have pe : p ≠ er := ne_of_none upd_same ner
  have ner' : H er = none := by rw [upd_ne pe.symm] at ner; exact ner
  refine ⟨_, rfl, p, _, dx, _, rfl, by rw [upd_ne pe, upd_same], T.c_Event, T.na_Event_rounds, (by show 3 < 1000; decide), ?_⟩
  rw [eF_put_rounds]
  refine ⟨_, rfl, p, _, dx, _, rfl, upd_same, T.c_Event, T.na_Event_knock_out, (by show 3 < 1000; decide), ?_⟩
  rw [eF_put_knock_out]
  refine q _ er (fun b o e hb => ?_) ner' ⟨⟨dx, upd_same⟩, ?_, rfl, fun i y r e => by simp at e⟩
  · rw [upd_ne hb, upd_ne hb, upd_ne (ne_of_none e ner'), upd_ne hb]
    exact e
  · rw [upd_ne pe.symm, upd_ne pe.symm, upd_same]
    rfl
def sp_Event_is_whole (K : PySem.W.Frag) : Sp := Sp1 fun x H Q => ∃ (e er : Addr) (L : List RL) (kv : V) (n : Nat) (rs : List Vbbral.Round), x = .ref e ∧ EvAt K H e er L kv n rs ∧ (∀ r ∈ rs, r.games.length ≤ 1000) ∧ ∀ H', Same H H' → Q (.bl (wholeR rs)) H'
theorem ok_Event_is_whole (T : Txt w K mg base) : OkF P w K mg base 2 (He.ma K (He.ga K "Event") "is_whole") ["self"] (sp_Event_is_whole K) := by
  obtain ⟨⟨fd_Round_is_whole, G_Round_is_whole, b_Round_is_whole⟩, k_Round_is_whole⟩ := ok_Round_is_whole (P := P) T
  obtain ⟨fd, F⟩ := T.f_Event_is_whole
  refine ok1 F sc_Event_is_whole (fun _ _ _ _ _ _ _ => rfl) (fun cdv A outer s H x0 Q hr h => ?_)
  refine ⟨_, (pss_one (ps_ret (pe_or (pe_cmpR op_eq (pe_callB (r := rLenS K) call_len_seq (by rfl) T.n_len PySem.boot_len (pa_cons (pe_fldK (K := K) rfl (pv 0) rfl) pa_nil)) pe_int (nomark _)) (pe_one (pe_meth0 (pe_ix (r := rIxL K) ix_list (pe_fldK (K := K) rfl (pv 0) rfl) (pe_un un_neg pe_int) (fun _ _ => rfl)) T.c_Round T.m_Round_is_whole G_Round_is_whole (hr.mono (by decide)) b_Round_is_whole .nil pass0))))), ?_⟩
  obtain ⟨e, er, L, kv, n, rs, rfl, hE, hg, q⟩ := h
  obtain ⟨dx, hp⟩ := hE.ev
  refine ⟨_, rfl, e, _, dx, _, _, rfl, hp, T.c_Event, T.na_Event_rounds, eF_rounds .., _, _, rfl, .inl (SqL.of hE.er), rfl, _, rfl, ?_⟩
  rw [dec_int, List.length_map, List.length_map, hE.len]
  refine ite2 (fun c => ?_) (fun c => ?_)
  · have c := of_decide_eq_true c
    have e0 : rs = [] := List.eq_nil_of_length_eq_zero (by omega)
    subst e0
    exact q H (Same.refl H)
  · have c : ¬ ((rs.length : Nat) : Int) = 0 := fun z => c (decide_eq_true z)
    obtain ⟨y, hy, hR⟩ := hE.nth (i := rs.length - 1) (by omega)
    have ix : atI ((L.map RL.r).map V.ref) (-1) = some (.ref y.r) := by
      have hL : L ≠ [] := fun z => by rw [z] at hy; simp at hy
      have e1 : L = L.dropLast ++ [y] := by
        have ey : L.getLast hL = y := by
          rw [List.getLast_eq_getElem]
          have hp := List.length_pos_iff.mpr hL
          have hy' : L[L.length - 1]? = some y := by rw [hE.len]; exact hy
          rw [List.getElem?_eq_getElem (by omega)] at hy'
          exact Option.some.inj hy'
        rw [← ey]
        exact (List.dropLast_concat_getLast hL).symm
      rw [e1, List.map_append, List.map_append]
      exact atI_last _ _
    have hw : wholeR rs = rs[rs.length - 1].games.all fun g => g.done := by
      unfold wholeR
      rw [List.getLast?_eq_getElem?, List.getElem?_eq_getElem (by omega)]
    obtain ⟨dy, hy2⟩ := hR.ins
    refine ⟨_, rfl, e, _, dx, _, _, rfl, hp, T.c_Event, T.na_Event_rounds, eF_rounds .., _, rfl, er, _, -1, _, rfl, rfl, SqL.of hE.er, ix, y.r, dy, _, rfl, hy2, rF_no_is_whole .., _, rfl, y, _, rfl, hR, hg _ (List.getElem_mem _), fun H' sm => ?_⟩
    rw [← hw]
    exact q H' sm
def sp_Event_is_full (K : PySem.W.Frag) : Sp := Sp1 fun x H Q => ∃ (e er : Addr) (L : List RL) (kv : V) (n : Nat) (rs : List Vbbral.Round), x = .ref e ∧ EvAt K H e er L kv n rs ∧ Q (.bl (decide (rs.length = 11))) H
theorem ok_Event_is_full (T : Txt w K mg base) : OkF P w K mg base 1 (He.ma K (He.ga K "Event") "is_full") ["self"] (sp_Event_is_full K) := by
  obtain ⟨fd, F⟩ := T.f_Event_is_full
  refine ok1 F sc_Event_is_full (fun _ _ _ _ _ _ _ => rfl) (fun cdv A outer s H x0 Q hr h => ?_)
  refine ⟨_, (pss_one (ps_ret (pe_cmpR op_eq (pe_callB (r := rLenS K) call_len_seq (by rfl) T.n_len PySem.boot_len (pa_cons (pe_fldK (K := K) rfl (pv 0) rfl) pa_nil)) (C8.pe_gc (by rfl) T.v_MOST_ROUNDS) (nomark _)))), ?_⟩
  obtain ⟨e, er, L, kv, n, rs, rfl, hE, q⟩ := h
  obtain ⟨dx, hp⟩ := hE.ev
  refine ⟨_, rfl, e, _, dx, _, _, rfl, hp, T.c_Event, T.na_Event_rounds, eF_rounds .., _, _, rfl, .inl (SqL.of hE.er), rfl, ?_⟩
  rw [dec_int, List.length_map, List.length_map, hE.len]
  rw [show decide (((rs.length : Nat) : Int) = 11) = decide (rs.length = 11) from decide_eq_decide.mpr (by omega)]
  exact q
def sp_Event_round_of (K : PySem.W.Frag) : Sp := Sp2 fun x v1 H Q => ∃ (e er : Addr) (L : List RL) (kv : V) (n : Nat) (rs : List Vbbral.Round) (k : Int), x = .ref e ∧ v1 = .int k ∧ EvAt K H e er L kv n rs ∧
  (∀ (i : Nat) (y : RL), k = (i : Int) + 1 → L[i]? = some y → Q (.ref y.r) H) ∧ ((k < 1 ∨ k > rs.length) → Q .non H)
theorem ok_Event_round_of (T : Txt w K mg base) : OkF P w K mg base 1 (He.ma K (He.ga K "Event") "round_of") ["self", "number"] (sp_Event_round_of K) := by
  obtain ⟨fd, F⟩ := T.f_Event_round_of
  refine ok2 F sc_Event_round_of (fun _ _ _ _ _ _ _ _ => rfl) (fun cdv A outer s H x0 x1 Q hr h => ?_)
  refine ⟨_, (pss_cons (ps_if (PW.pt (pw_or (pt_cmpR op_lt (pv 1) pe_int (nomark _)) (pw_or1 (pt_cmpR op_gt (pv 1) (pe_callB (r := rLenS K) call_len_seq (by rfl) T.n_len PySem.boot_len (pa_cons (pe_fldK (K := K) rfl (pv 0) rfl) pa_nil)) (nomark _))))) (pss_one (ps_ret pe_non)) pss_nil)
      (pss_one (ps_ret (pe_ix (r := rIxL K) ix_list (pe_fldK (K := K) rfl (pv 0) rfl) (pe_op op_sub (pv 1) pe_int) (fun _ _ => rfl))))), ?_⟩
  obtain ⟨e, er, L, kv, n, rs, k, rfl, rfl, hE, q1, q2⟩ := h
  obtain ⟨dx, hp⟩ := hE.ev
  refine ⟨_, rfl, _, _, rfl, rfl, _, rfl, ite2 (fun c => ?_) (fun c => ?_)⟩
  · exact iteT (q2 (.inl (of_decide_eq_true c)))
  · refine ⟨_, rfl, _, rfl, e, _, dx, _, _, rfl, hp, T.c_Event, T.na_Event_rounds, eF_rounds .., _, _, rfl, .inl (SqL.of hE.er), _, _, rfl, rfl, _, rfl, ?_⟩
    rw [List.length_map, List.length_map, hE.len]
    have c : ¬ k < 1 := fun z => c (decide_eq_true z)
    refine ite2 (fun c2 => ?_) (fun c2 => ?_)
    · exact q2 (.inr (of_decide_eq_true c2))
    · have c2 : ¬ (rs.length : Int) < k := fun z => c2 (decide_eq_true z)
      obtain ⟨i, hi⟩ : ∃ i : Nat, k = (i : Int) + 1 := ⟨(k - 1).toNat, by omega⟩
      obtain ⟨y, hy, _⟩ := hE.nth (i := i) (by omega)
      exact ⟨_, rfl, e, _, dx, _, _, rfl, hp, T.c_Event, T.na_Event_rounds, eF_rounds .., _, rfl, _, _, rfl, rfl, er, _, _, _, rfl, rfl, SqL.of hE.er, at_ref i (by omega) (by rw [List.getElem?_map, hy]; rfl), q1 i y hi hy⟩
def sp_Event_match_of (K : PySem.W.Frag) : Sp := Sp4 fun x v1 v2 v3 H Q => ∃ (e er : Addr) (L : List RL) (kv : V) (n : Nat) (rs : List Vbbral.Round) (k a b : Int), x = .ref e ∧ v1 = .int k ∧ v2 = .int a ∧ v3 = .int b ∧ EvAt K H e er L kv n rs ∧
  (∀ (i : Nat) (y : RL) (r : Vbbral.Round) (j : Nat) (m : Addr) (g : Vbbral.Game), k = (i : Int) + 1 → L[i]? = some y → rs[i]? = some r → y.ms[j]? = some m → r.games[j]? = some g → isOf g a b = true → (∀ j' g', j' < j → r.games[j']? = some g' → isOf g' a b = false) → Q (.ref m) H) ∧
  ((∀ (i : Nat) (r : Vbbral.Round), k = (i : Int) + 1 → rs[i]? = some r → ∀ g ∈ r.games, isOf g a b = false) → Q .non H)
theorem ok_Event_match_of (T : Txt w K mg base) : OkF P w K mg base 3 (He.ma K (He.ga K "Event") "match_of") ["self", "number", "a", "b"] (sp_Event_match_of K) := by
  obtain ⟨⟨fd_Round_match_of, G_Round_match_of, b_Round_match_of⟩, k_Round_match_of⟩ := ok_Round_match_of (P := P) T
  obtain ⟨⟨fd_Event_round_of, G_Event_round_of, b_Event_round_of⟩, k_Event_round_of⟩ := ok_Event_round_of (P := P) T
  obtain ⟨fd, F⟩ := T.f_Event_match_of
  refine ok4 F sc_Event_match_of (fun _ _ _ _ _ _ _ _ _ _ => rfl) (fun cdv A outer s H x0 x1 x2 x3 Q hr h => ?_)
  refine ⟨_, (pss_cons (ps_set (i := 4) sc_Event_match_of.nd rfl (Or.inl rfl) (pe_meth (pv 0) T.c_Event T.m_Event_round_of G_Event_round_of (hr.mono (by decide)) b_Event_round_of .nil pass0 (pa_cons (pv 1) pa_nil)))
      (pss_one (ps_ret (pe_ifExp (pt_cmpR op_isN (pv 4) pe_non (nomark _)) pe_non (pe_meth (pv 4) T.c_Round T.m_Round_match_of G_Round_match_of (hr.mono (by decide)) b_Round_match_of .nil pass0 (pa_cons (pv 2) (pa_cons (pv 3) pa_nil))))))), ?_⟩
  obtain ⟨e, er, L, kv, n, rs, k, a, b, rfl, rfl, rfl, rfl, hE, q1, q2⟩ := h
  obtain ⟨dx, hp⟩ := hE.ev
  refine ⟨_, rfl, e, dx, _, rfl, hp, eF_no_round_of .., _, rfl, _, _, rfl, e, er, L, kv, n, rs, k, rfl, rfl, hE, fun i y hk hy => ?_, fun out => ?_⟩
  · have hi : i < rs.length := by
      rw [← hE.len]
      exact (List.getElem?_eq_some_iff.mp hy).1
    have hr' := List.getElem?_eq_getElem hi
    have hR := hE.at_ i y _ hy hr'
    obtain ⟨dy, hy2⟩ := hR.ins
    refine ⟨_, rfl, rfl, _, rfl, iteF ⟨_, rfl, y.r, dy, _, rfl, hy2, rF_no_match_of .., _, rfl, _, rfl, _, _, _, rfl, y, _, a, b, rfl, rfl, rfl, hR, fun j m g f1 f2 f3 f4 => ?_, fun no => ?_⟩⟩
    · exact q1 i y _ j m g hk hy hr' f1 f2 f3 f4
    · refine q2 fun i' r' hk' hr2 => ?_
      obtain rfl : i' = i := by omega
      rw [hr'] at hr2
      cases hr2
      exact no
  · refine ⟨_, rfl, rfl, _, rfl, iteT (q2 fun i r hk hr' => ?_)⟩
    have := (List.getElem?_eq_some_iff.mp hr').1
    omega
def sp_Event_has_sat_out (K : PySem.W.Frag) : Sp := Sp2 fun x v1 H Q => ∃ (e er : Addr) (L : List RL) (kv : V) (n : Nat) (rs : List Vbbral.Round) (t : Int), x = .ref e ∧ v1 = .int t ∧ EvAt K H e er L kv n rs ∧ rs.length ≤ 1000 ∧ ∀ H', Same H H' → Q (.bl (rs.any fun r => decide ((r.bye : Int) = t))) H'
theorem ok_Event_has_sat_out (T : Txt w K mg base) : OkF P w K mg base 1 (He.ma K (He.ga K "Event") "has_sat_out") ["self", "team"] (sp_Event_has_sat_out K) := by
  obtain ⟨fd, F⟩ := T.f_Event_has_sat_out
  refine ok2 F sc_Event_has_sat_out (fun _ _ _ _ _ _ _ _ => rfl) (fun cdv A outer s H x0 x1 Q hr h => ?_)
  refine ⟨_, (pss_one (ps_ret (pe_callB (cr_any rfl) (by rfl) T.n_any PyProof.Rows.boot_any (pa_cons (pe_lc (own := [("one", 2)]) (g := gName 2) (by rfl) sc_Event_has_sat_out.nd (pi_list (pe_fldK (K := K) rfl (pv 0) rfl)) (blkOk_by (own := [("one", 2)]) (N := ["self", "team", "one"]) (sc := defScope s_Event_has_sat_out) (by decide +kernel)) (fun _ _ _ _ _ => pg_name (i := 2) sc_Event_has_sat_out.nd rfl (Or.inl rfl)) (fun _ _ _ _ _ => pts_nil) (fun _ _ _ _ _ => (pe_cmpR op_eq (pe_fldK (K := K) rfl (pv 2) rfl) (pv 1) (nomark _)))) pa_nil)))), ?_⟩
  obtain ⟨e, er, L, kv, n, rs, t, rfl, rfl, hE, hl, q⟩ := h
  obtain ⟨dx, hp⟩ := hE.ev
  refine ⟨_, rfl, e, _, dx, _, _, rfl, hp, T.c_Event, T.na_Event_rounds, eF_rounds .., er, rfl, ⟨_, SqL.of hE.er⟩, fun D nD => lc_list (K := K) (a := er) (xs := (L.map RL.r).map V.ref) (fun i H' => Same H H' ∧ H' D = some (.lst (((rs.take i).map fun r => decide ((r.bye : Int) = t)).map V.bl))) ⟨same_up nD, upd_same⟩ (fun i H' _ z => z.1.seq (SqL.of hE.er)) ?_ ?_⟩
  · rintro i x H' hx ⟨sm, eD⟩
    obtain ⟨y, r, rfl, e1, e2, hR⟩ := hE.get hx
    obtain ⟨dy, hy⟩ := hR.ins
    refine ⟨rfl, _, rfl, y.r, _, dy, _, _, rfl, sm _ _ hy, T.c_Round, T.na_Round_sits_out, rF_sits_out .., _, rfl, rfl, _, eD, ?_, fun b o e => ?_, ?_⟩
    · rw [List.length_map, List.length_map]
      exact line_lt (Nat.le_trans (List.length_take_le' ..) (by omega))
    · rw [upd_ne (ne_of_none e nD)]
      exact sm b o e
    · rw [upd_same, take_one e2, List.map_append, List.map_append, dec_int]
      rfl
  · rintro H' ⟨sm, eD⟩
    rw [List.length_map, List.length_map, hE.len, List.take_length] at eD
    refine ⟨D, _, rfl, SqL.of eD, ?_⟩
    rw [List.any_map]
    exact q H' sm
def sp_Event_met_in (K : PySem.W.Frag) : Sp := Sp3 fun x v1 v2 H Q => ∃ (e er : Addr) (L : List RL) (kv : V) (n : Nat) (rs : List Vbbral.Round) (a b : Int), x = .ref e ∧ v1 = .int a ∧ v2 = .int b ∧ EvAt K H e er L kv n rs ∧ ∀ H', Same H H' → Q (.int (metIn rs a b)) H'
theorem ok_Event_met_in (T : Txt w K mg base) : OkF P w K mg base 3 (He.ma K (He.ga K "Event") "met_in") ["self", "a", "b"] (sp_Event_met_in K) := by
  obtain ⟨⟨fd_Round_match_of, G_Round_match_of, b_Round_match_of⟩, k_Round_match_of⟩ := ok_Round_match_of (P := P) T
  obtain ⟨fd, F⟩ := T.f_Event_met_in
  refine ok3 F sc_Event_met_in (fun _ _ _ _ _ _ _ _ _ => rfl) (fun cdv A outer s H x0 x1 x2 Q hr h => ?_)
  refine ⟨_, (pss_cons (ps_for PassesOwn.never rfl (pi_en (by rfl) T.n_enumerate (pa_cons (pe_fldK (K := K) rfl (pv 0) rfl) pa_nil) (by decide) (by decide)) (pg_tup (by rfl) (pgs_cons (pg_name (i := 3) sc_Event_met_in.nd rfl (Or.inl rfl)) (pgs_cons (pg_name (i := 4) sc_Event_met_in.nd rfl (Or.inl rfl)) pgs_nil))) (pss_one (ps_if (pt_cmpR op_notN (pe_meth (pv 4) T.c_Round T.m_Round_match_of G_Round_match_of (hr.mono (by decide)) b_Round_match_of .nil pass0 (pa_cons (pv 1) (pa_cons (pv 2) pa_nil))) pe_non (nomark _)) (pss_one (ps_ret (pv 3))) pss_nil)))
      (pss_one (ps_ret pe_int))), ?_⟩
  obtain ⟨e, er, L, kv, n, rs, a, b, rfl, rfl, rfl, hE, q⟩ := h
  obtain ⟨dx, hp⟩ := hE.ev
  refine ⟨_, rfl, e, _, dx, _, _, rfl, hp, T.c_Event, T.na_Event_rounds, eF_rounds .., er, _, rfl, SqL.of hE.er, for_it walk_en (fun i σ H' => Same H H' ∧ (∃ v v2, σ = [some (.ref e), some (.int a), some (.int b), v, v2]) ∧ ∀ j r, j < i → rs[j]? = some r → (r.games.any fun g => isOf g a b) = false)
    ⟨Same.refl H, ⟨none, none, rfl⟩, fun j r hj => absurd hj (by omega)⟩ (fun i σ H' _ z => z.1.seq (SqL.of hE.er)) ?_ ?_⟩
  · rintro i x σ H' H2 hi ⟨sm, ⟨v, v2, rfl⟩, no⟩ ⟨t, x1, x2, rfl, nt, rfl, ex1, ex2⟩
    cases ex1
    obtain ⟨y, r, rfl, e1, e2, hR⟩ := hE.get ex2
    have s2 : Same H (upd H' t (.tup [.int (1 + (i : Nat)), .ref y.r])) := sm.trans (same_up nt)
    have hR2 := hR.same s2
    obtain ⟨dy, hy⟩ := hR2.ins
    refine ⟨t, _, rfl, SqT.of upd_same, rfl, _, _, rfl, _, _, rfl, rfl, _, rfl, y.r, dy, _, rfl, hy, rF_no_match_of .., _, rfl, _, rfl, _, _, _, rfl, y, r, a, b, rfl, rfl, rfl, hR2, fun j m g f1 f2 f3 f4 => ?_, fun none' => ?_⟩
    · refine ⟨rfl, _, rfl, iteT ⟨_, rfl, ?_⟩⟩
      have hm : metIn rs a b = i + 1 := by
        unfold metIn
        rw [findIdx_at e2 (List.any_eq_true.mpr ⟨g, List.mem_of_getElem? f2, f3⟩) no]
      have z := q _ s2
      rw [hm] at z
      rw [show (1 : Int) + (i : Nat) = ((i + 1 : Nat) : Int) by omega] at z ⊢
      exact z
    · refine ⟨rfl, _, rfl, iteF ⟨s2, ⟨_, _, rfl⟩, fun j r' hj hr' => ?_⟩⟩
      by_cases z : j = i
      · subst z
        rw [e2] at hr'
        cases hr'
        exact any_no.mpr none'
      · exact no j r' (by omega) hr'
  · rintro σ H' ⟨sm, _, no⟩
    have hm : metIn rs a b = 0 := by
      unfold metIn
      rw [findIdx_no fun j r hr' => no j r (by rw [List.length_map, List.length_map, hE.len]; exact (List.getElem?_eq_some_iff.mp hr').1) hr']
    have z := q H' sm
    rw [hm] at z
    exact z
end
/-! ### the standing -/
def start0 (n : Nat) : List PlaceM := (List.range n).map fun i : Nat => ⟨((i : Nat) : Int) + 1, 0, 0, false⟩
def tallied (n : Nat) (rs : List Vbbral.Round) : List PlaceM := rs.foldl (fun st r => addRound r st) (start0 n)
theorem tallied_more {n : Nat} {rs : List Vbbral.Round} {i : Nat} {r : Vbbral.Round} (h : rs[i]? = some r) : tallied n (rs.take (i + 1)) = addRound r (tallied n (rs.take i)) := by
  unfold tallied
  rw [take_one h, List.foldl_append]
  rfl
theorem tallied_len (n : Nat) (rs : List Vbbral.Round) : (tallied n rs).length = n := by
  unfold tallied
  have : ∀ (rs : List Vbbral.Round) (st : List PlaceM), (rs.foldl (fun st r => addRound r st) st).length = st.length := fun rs => by
    induction rs with
    | nil => intro st; rfl
    | cons r rs ih => intro st; rw [List.foldl_cons, ih, addRound_len]
  rw [this]
  unfold start0
  rw [List.length_map, List.length_range]
/-- the key of a place -/
def keyP (s : PlaceM) : I3 := (-s.pts, -s.units, s.team)
def okR (n : Nat) (r : Vbbral.Round) : Prop := r.bye ≤ n ∧ ∀ g ∈ r.games, 1 ≤ g.a ∧ g.a ≤ n ∧ 1 ≤ g.b ∧ g.b ≤ n
def lamOf : Expr → Expr
  | .Call _ _ [⟨_, e, _⟩] _ => e
  | _ => .Constant .none 0 ⟨0, 0, 0, 0⟩
def retOf : Stmt → Expr
  | .Return (some e) _ => e
  | _ => .Constant .none 0 ⟨0, 0, 0, 0⟩
def scLam : Scope := match lamOf (retOf ((defBody s_Event_standing).getD 2 (.Pass ⟨0, 0, 0, 0⟩))) with
  | .Lambda _ _ sc _ => sc
  | _ => defScope s_by_twos
theorem sc_lam : FnScope ["place"] ["place"] scLam := ⟨rfl, rfl, rfl, by decide +kernel, rfl, by decide +kernel, by decide +kernel⟩
/-- the tuple of the key -/
def tKey (K : PySem.W.Frag) : TE := tTup (tCons (tUn (rU fun i => .int (-i)) (tFld K (tVar 0) "points")) (tCons (tUn (rU fun i => .int (-i)) (tFld K (tVar 0) "units")) (tCons (tFld K (tVar 0) "team") tNil)))
theorem key_read {w : World} {K : PySem.W.Frag} {mg : Str → Option Value} {base : Heap} (T : Txt w K mg base) {H : Hp} {q : Addr} {s : PlaceM} (h : PlaceAt K H q s) : tKey K (L2.start ["place"] [.ref q]) H fun u H' => (∀ b o, H b = some o → H' b = some o) ∧ ∃ t, u = .ref t ∧ H' t = some (.tup [.int (keyP s).1, .int (keyP s).2.1, .int (keyP s).2.2]) := by
  obtain ⟨dx, hp⟩ := h
  exact ⟨_, rfl, q, _, dx, _, _, rfl, hp, T.c_Place, T.na_Place_points, pF_points .., _, rfl, _, rfl, q, _, dx, _, _, rfl, hp, T.c_Place, T.na_Place_units, pF_units .., _, rfl, _, rfl, q, _, dx, _, _, rfl, hp, T.c_Place, T.na_Place_team, pF_team .., by show 3 ≤ sizeLine; decide, fun t nt => ⟨fun b o e => by rw [upd_ne (ne_of_none e nt)]; exact e, t, rfl, upd_same⟩⟩
def sp_Event_standing (K : PySem.W.Frag) : Sp := Sp1 fun x H Q => ∃ (e er : Addr) (L : List RL) (kv : V) (n : Nat) (rs : List Vbbral.Round), x = .ref e ∧ EvAt K H e er L kv n rs ∧ n ≤ 1000 ∧ (∀ r ∈ rs, okR n r) ∧ LamX.Tabs (LamT K) H ∧
  ∀ (H' : Hp) (p : Addr) (qs : List Addr) (st : List PlaceM), LamX.ExtN H H' → LamX.Tabs (LamT K) H' → H' p = some (.lst (qs.map V.ref)) → PlacesAt K H' qs st → st.Perm (tallied n rs) → st.Pairwise (fun a b => lex3 (keyP b) (keyP a) = false) → Q (.ref p) H'
theorem lam_name {K : PySem.W.Frag} : (LamT K) = [((He.cT K ("Event", some "standing")).2, (("Event.standing" : Str) ++ ".<locals>.") ++ "<lambda>")] := by
  unfold LamT
  have e : (("Event.standing.<locals>." : Str) ++ ("<lambda>" : Str)) = ((("Event.standing" : Str) ++ ".<locals>.") ++ "<lambda>") := by decide +kernel
  rw [e]
theorem perm_map_out {α β : Type} {f : α → β} {l : List β} {m : List α} (h : l.Perm (m.map f)) : ∃ m' : List α, m'.Perm m ∧ l = m'.map f := by
  have key : ∀ (l k : List β), l.Perm k → ∀ m : List α, k = m.map f → ∃ m' : List α, m'.Perm m ∧ l = m'.map f := by
    intro l k hlk
    induction hlk with
    | nil => exact fun m e => ⟨m, List.Perm.refl _, e⟩
    | cons x _ ih =>
      intro m e
      cases m with
      | nil => cases e
      | cons y ys =>
        rw [List.map_cons] at e
        injection e with e1 e2
        obtain ⟨m', q1, q2⟩ := ih ys e2
        exact ⟨y :: m', q1.cons y, by rw [List.map_cons, e1, q2]⟩
    | swap x y l =>
      intro m e
      cases m with
      | nil => cases e
      | cons y1 ys =>
        cases ys with
        | nil => simp at e
        | cons y2 ys =>
          simp only [List.map_cons, List.cons.injEq] at e
          obtain ⟨e1, e2, e3⟩ := e
          exact ⟨y2 :: y1 :: ys, List.Perm.swap .., by simp only [List.map_cons, e1, e2, e3]⟩
    | trans _ _ ih1 ih2 =>
      intro m e
      obtain ⟨m1, q1, q2⟩ := ih2 m e
      obtain ⟨m2, z1, z2⟩ := ih1 m1 q2
      exact ⟨m2, z1.trans q1, z2⟩
  exact key l _ h m rfl
theorem InsAt.ext {K : PySem.W.Frag} {H H' : Hp} {p : Addr} {C : Str} {fs : List (Str × V)} (h : InsAt K H p C fs) (s : LamX.ExtN H H') : InsAt K H' p C fs := let ⟨d, e⟩ := h; ⟨d, s _ _ e fun _ z => nomatch z⟩
theorem RoundAt.ext {K : PySem.W.Frag} {H H' : Hp} {y : RL} {r : Vbbral.Round} (h : RoundAt K H y r) (s : LamX.ExtN H H') : RoundAt K H' y r := h.stayP (p := fun o => ∀ ps, o ≠ .tbl ps) s (fun _ _ z => nomatch z) (fun _ _ _ _ _ z => nomatch z) (fun _ _ _ _ _ _ z => nomatch z)
theorem EvAt.ext {K : PySem.W.Frag} {H H' : Hp} {e er : Addr} {L : List RL} {kv : V} {n : Nat} {rs : List Vbbral.Round} (h : EvAt K H e er L kv n rs) (s : LamX.ExtN H H') : EvAt K H' e er L kv n rs := ⟨h.ev.ext s, s _ _ h.er (fun _ z => nomatch z), h.len, fun i y r e1 e2 => (h.at_ i y r e1 e2).ext s⟩
theorem PlacesAt.ext {K : PySem.W.Frag} {H H' : Hp} {qs : List Addr} {st : List PlaceM} (h : PlacesAt K H qs st) (s : LamX.ExtN H H') : PlacesAt K H' qs st := ⟨h.len, fun i q p e1 e2 => InsAt.ext (h.at_ i q p e1 e2) s⟩
theorem SqL_ext {K : PySem.W.Frag} {H H' : Hp} {a : Addr} {xs : List V} (h : SqL K H a xs) (s : LamX.ExtN H H') : SqL K H' a xs := sq_stay (p := fun o => ∀ ps, o ≠ .tbl ps) s (fun _ _ z => nomatch z) (fun _ _ _ z => nomatch z) h
section
variable {P : Program} {w : World} {K : PySem.W.Frag} {mg : Str → Option Value} {base : Heap}
theorem ok_Event_standing (T : Txt w K mg base) : OkF P w K mg base 4 (He.ma K (He.ga K "Event") "standing") ["self"] (sp_Event_standing K) := by
  obtain ⟨⟨fd_Place_init, G_Place_init, b_Place_init⟩, k_Place_init⟩ := ok_Place_init (P := P) T
  obtain ⟨⟨fd_add_round, G_add_round, b_add_round⟩, k_add_round⟩ := ok_add_round (P := P) T
  obtain ⟨fd, F⟩ := T.f_Event_standing
  obtain ⟨oc, od, dV, kV, doc, pm, an, cdv, ct, osl, rfl, lk, hcd, _, _⟩ := F.ex
  obtain ⟨c, rfl⟩ := He.codeIn_ref hcd
  have hc : c = (He.cT K ("Event", some "standing")).1 := (He.codeOf_eq (p := ("Event", some "standing")) lk rfl).symm
  refine ⟨⟨_, fn_of lk hcd sc_Event_standing (fun vs H Q E h => ?_) (fun A outer s H vs Q E hr h => ?_), F.bindsN fun kV doc pm an cdv ct us hl => match us, hl with | [u], _ => rfl⟩, F.kp⟩
  · obtain ⟨y, rfl, _⟩ := h
    rfl
  · obtain ⟨y, rfl, e, er, L, kv, n, rs, rfl, hE, hn, hok, hT, q⟩ := h
    refine ⟨_, PSs.nox (pss_cons (ps_setLc (i := 1) (own := [("team", 3)]) (g := gName 3) (by rfl) sc_Event_standing.nd rfl rfl (sw_true rfl rfl rfl (by decide +kernel)) (pi_range2 (by rfl) T.n_range (pa_cons pe_int (pa_cons (pe_op op_add (pe_fldK (K := K) rfl (pv 0) rfl) pe_int) pa_nil))) (blkOk_by (own := [("team", 3)]) (N := ["self", "places", "one", "team"]) (sc := defScope s_Event_standing) (by decide +kernel)) (fun _ _ _ _ _ => pg_name (i := 3) sc_Event_standing.nd rfl (Or.inl rfl)) (fun _ _ _ _ _ => pts_nil) (fun _ _ _ _ _ => (pe_make T.mk_Place G_Place_init (hr.mono (by decide)) (by rfl) T.g_Place b_Place_init .nil pass0 (pa_cons (pv 3) pa_nil))))
      (pss_cons (ps_for PassesOwn.never rfl (pi_list (pe_fldK (K := K) rfl (pv 0) rfl)) (pg_name (i := 2) sc_Event_standing.nd rfl (Or.inl rfl)) (pss_one (ps_expr (pe_call G_add_round (hr.mono (by decide)) (by rfl) T.g_add_round k_add_round b_add_round .nil pass0 (pa_cons (pv 1) (pa_cons (pv 2) pa_nil))))))
      (pss_one (ps_ret (pe_sortK (T := LamT K) (c := c) (P := (He.cT K ("Event", some "standing")).2) (k := 0) (N := ["place"]) (x := "place") (tb := tKey K) (by rfl) T.n_sorted (pa_cons (pv 1) pa_nil) (by rw [hc]; exact T.tb) rfl
        (by rw [lam_name]; exact List.mem_cons_self ..) (fun p hp _ => by rw [lam_name] at hp; rw [List.mem_singleton.mp hp]; rfl) (hr.mono (by decide)) rfl sc_lam rfl rfl (fun _ _ _ _ _ => rfl)
        (fun A outer s H f c' hr2 => pe_tup (pa_cons (pe_un un_neg (pe_fldK (K := K) rfl (pv 0) rfl)) (pa_cons (pe_un un_neg (pe_fldK (K := K) rfl (pv 0) rfl)) (pa_cons (pe_fldK (K := K) rfl (pv 0) rfl) pa_nil)))) ))))), ?_⟩
    obtain ⟨dx, hp⟩ := hE.ev
    have nn : ((n : Int) + 1 - 1).toNat = n := by omega
    refine ⟨_, rfl, e, _, dx, _, _, rfl, hp, T.c_Event, T.na_Event_size, eF_size .., _, _, rfl, rfl, 1, _, rfl, ⟨by decide, by decide, by omega, by omega⟩, ?_⟩
    rw [nn]
    refine fun D nD => lc_it walk_range (fun i H' => i ≤ n ∧ Same H H' ∧ ∃ qs : List Addr, H' D = some (.lst (qs.map V.ref)) ∧ qs.length = i ∧ qs.Nodup ∧ (∀ q ∈ qs, H q = none ∧ q ≠ D) ∧ ∀ (j : Nat) (q : Addr), qs[j]? = some q → PlaceAt K H' q ⟨(j : Int) + 1, 0, 0, false⟩)
      ⟨Nat.zero_le _, same_up nD, [], upd_same, rfl, List.nodup_nil, fun m hm => absurd hm (by simp), fun j q e => by simp at e⟩ (fun _ _ _ _ => True.intro) ?_ ?_
    · rintro i x H' H2 hi ⟨_, sm, qs, eD, el, nd, fr, at_⟩ ⟨rfl, rfl⟩
      refine ⟨rfl, _, rfl, fun m dm nm ndm ne => ⟨_, _, rfl, m, dm, _, rfl, rfl, upd_same, fun H2 bt at2 => ⟨rfl, ?_⟩⟩⟩
      have s2 := same_made nm ndm bt
      have mD : m ≠ D := (ne_of_none eD nm).symm
      refine ⟨_, s2 _ _ eD, ?_, by omega, fun b o e => ?_, qs ++ [m], ?_, by rw [List.length_append, el]; rfl, ?_, fun m' hm' => ?_, fun j m' f1 => ?_⟩
      · rw [List.length_map, el]
        exact line_lt (by omega)
      · rw [upd_ne (ne_of_none e nD)]
        exact s2 _ _ (sm b o e)
      · rw [upd_same, List.map_append]
        rfl
      · rw [List.nodup_append]
        refine ⟨nd, by simp, fun x hx y hy => ?_⟩
        rw [List.mem_singleton.mp hy]
        intro z
        subst z
        obtain ⟨j, hj, ej⟩ := List.mem_iff_getElem.mp hx
        obtain ⟨d, z⟩ := at_ j x (by rw [List.getElem?_eq_getElem hj, ej])
        rw [nm] at z
        cases z
      · rcases List.mem_append.mp hm' with z | z
        · exact fr m' z
        · rw [List.mem_singleton.mp z]
          exact ⟨sm.free nm, mD⟩
      · have key : PlaceAt K H2 m' ⟨(j : Int) + 1, 0, 0, false⟩ := by
          rcases Nat.lt_trichotomy j qs.length with c | c | c
          · rw [List.getElem?_append_left c] at f1
            exact InsAt.same (at_ j m' f1) s2
          · rw [c, List.getElem?_append_right (Nat.le_refl _), Nat.sub_self] at f1
            cases f1
            rw [c, el, Int.add_comm]
            exact at2
          · rw [List.getElem?_eq_none (by rw [List.length_append, List.length_singleton]; omega)] at f1
            cases f1
        obtain ⟨d, z⟩ := key
        exact ⟨d, by rw [upd_ne (ne_of z (s2 _ _ eD) (by intro w; cases w))]; exact z⟩
    · rintro H1 ⟨_, sm, qs, eD, el, nd, fr, at_⟩
      have hP1 : PlacesAt K H1 qs (tallied n []) := ⟨by rw [tallied_len, el], fun j q s e1 e2 => by
        have hj : j < n := by
          rw [← el]
          exact (List.getElem?_eq_some_iff.mp e1).1
        have e3 : (tallied n [])[j]? = some ⟨(j : Int) + 1, 0, 0, false⟩ := by
          show (start0 n)[j]? = _
          unfold start0
          rw [List.getElem?_map, List.getElem?_range hj]
          rfl
        rw [e3] at e2
        cases e2
        exact at_ j q e1⟩
      have keep : ∀ H2 : Hp, (∀ b, b ∉ qs → H2 b = H1 b) → Same H H2 ∧ H2 D = some (.lst (qs.map V.ref)) := fun H2 ot =>
        ⟨fun b o e => by rw [ot b fun z => by rw [(fr b z).1] at e; cases e]; exact sm b o e, by rw [ot D fun z => (fr D z).2 rfl]; exact eD⟩
      have hE1 := hE.same sm
      obtain ⟨dx1, hp1⟩ := hE1.ev
      refine ⟨_, rfl, e, _, dx1, _, _, rfl, hp1, T.c_Event, T.na_Event_rounds, eF_rounds .., er, rfl, ⟨_, SqL.of hE1.er⟩, for_list (K := K) (a := er) (xs := (L.map RL.r).map V.ref) (fun i σ H' => (∃ v v2, σ = [some (.ref e), some (.ref D), v, v2]) ∧ (∀ b, b ∉ qs → H' b = H1 b) ∧ PlacesAt K H' qs (tallied n (rs.take i)))
        ⟨⟨_, _, rfl⟩, fun _ _ => rfl, hP1⟩ (fun i σ H' _ z => (keep H' z.2.1).1.seq (SqL.of hE.er)) ?_ ?_⟩
      · rintro i x σ H' hx ⟨⟨v, v2, rfl⟩, ot, hP⟩
        obtain ⟨y, r, rfl, e1, e2, hR⟩ := hE.get hx
        obtain ⟨sm', eD'⟩ := keep H' ot
        obtain ⟨o1, o2⟩ := hok r (List.mem_of_getElem? e2)
        refine ⟨_, rfl, _, rfl, _, _, rfl, D, qs, _, y, r, rfl, rfl, SqL.of eD', hP, nd, hR.same sm', by rw [tallied_len]; exact o1, fun g hg => by rw [tallied_len]; exact o2 g hg, fun H2 ot2 hP2 => ?_⟩
        exact ⟨⟨_, _, rfl⟩, fun b hb => (ot2 b hb).trans (ot b hb), by rw [tallied_more e2]; exact hP2⟩
      · rintro σ H' ⟨⟨v, v2, rfl⟩, ot, hP⟩
        rw [List.length_map, List.length_map, hE.len, List.take_length] at hP
        obtain ⟨sm', eD'⟩ := keep H' ot
        refine ⟨_, rfl, D, qs.map V.ref, (tallied n rs).map keyP, rfl, SqL.of eD', by rw [List.length_map, List.length_map, hP.len], hT.ext sm', fun H2 eN T2 => ⟨fun i x k H3 hx hk kp => ?_, fun H3 p ps kp np pm sp => ?_⟩⟩
        · obtain ⟨q0, s0, rfl, w1, w2, w3⟩ := hP.get hx
          rw [List.getElem?_map, w2] at hk
          cases hk
          exact key_read T (InsAt.same (InsAt.ext w3 eN) kp)
        · have ez : ((tallied n rs).map keyP).zip (qs.map V.ref) = ((tallied n rs).zip qs).map fun z => (keyP z.1, V.ref z.2) := by
            rw [List.zip_map]
            rfl
          rw [ez] at pm
          obtain ⟨l, pm2, rfl⟩ := perm_map_out pm
          have memz : ∀ z ∈ l, PlaceAt K H' z.2 z.1 := fun z hz => by
            obtain ⟨j, hj, ej⟩ := List.mem_iff_getElem.mp (pm2.mem_iff.mp hz)
            have ej2 : ((tallied n rs).zip qs)[j]? = some z := by rw [List.getElem?_eq_getElem hj, ej]
            rw [List.getElem?_zip_eq_some] at ej2
            exact hP.at_ j z.2 z.1 ej2.2 ej2.1
          have e3 : LamX.ExtN H' (upd H3 p (.lst ((l.map fun z => (keyP z.1, V.ref z.2)).map (·.2)))) := ((eN.trans (.of kp))).trans (.of fun b o e => by rw [upd_ne (ne_of_none e np)]; exact e)
          refine q _ p (l.map (·.2)) (l.map (·.1)) (LamX.ExtN.trans (.of sm') e3) ((T2.ext kp).ext fun b o e => by rw [upd_ne (ne_of_none e np)]; exact e) ?_ ⟨by rw [List.length_map, List.length_map], fun j q0 s0 w1 w2 => ?_⟩ ?_ ?_
          · rw [upd_same, List.map_map, List.map_map]
            rfl
          · rw [List.getElem?_map] at w1 w2
            obtain ⟨z, z1, rfl⟩ := Option.map_eq_some_iff.mp w1
            rw [z1] at w2
            cases w2
            exact InsAt.ext (memz z (List.mem_of_getElem? z1)) e3
          · have := pm2.map (·.1)
            rw [List.map_fst_zip (by have := hP.len; omega)] at this
            exact this
          · exact List.pairwise_map.mpr (List.pairwise_map.mp sp)
end

section
variable {P : Program} {w : World} {K : PySem.W.Frag} {mg : Str → Option Value} {base : Heap}
end
end TR

set_option Elab.async false
set_option linter.all false
set_option maxRecDepth 100000
namespace TR
open Vbbral
/-! ### sums -/
theorem sum_acc : ∀ (l : List Int) (a : Int), l.foldl (fun a b => a + b) a = a + Vbbral.sum l
  | [], a => by show a = a + 0; omega
  | x :: l, a => by
    unfold Vbbral.sum
    rw [List.foldl_cons, List.foldl_cons, sum_acc l, sum_acc l]
    omega
theorem sum_nil : Vbbral.sum [] = 0 := rfl
theorem sum_cons (x : Int) (l : List Int) : Vbbral.sum (x :: l) = x + Vbbral.sum l := by
  show (x :: l).foldl (fun a b => a + b) 0 = _
  rw [List.foldl_cons, sum_acc]
  omega
theorem sum_append (l m : List Int) : Vbbral.sum (l ++ m) = Vbbral.sum l + Vbbral.sum m := by
  induction l with
  | nil => rw [List.nil_append, sum_nil]; omega
  | cons x l ih => rw [List.cons_append, sum_cons, sum_cons, ih]; omega
/-! ### a team's place -/
def placeOf (s : State) (t : Nat) : PlaceM := ⟨t, points s t, impsOf s t, hadBye s t⟩
def okG (n : Nat) (g : Game) : Prop := 1 ≤ g.a ∧ g.a ≤ n ∧ 1 ≤ g.b ∧ g.b ≤ n ∧ g.a ≠ g.b
def okR2 (n : Nat) (r : Round) : Prop := r.bye ≤ n ∧ ∀ g ∈ r.games, okG n g
theorem okR2.ok {n : Nat} {r : Round} (h : okR2 n r) : okR n r := ⟨h.1, fun g hg => let ⟨a, b, c, d, _⟩ := h.2 g hg; ⟨a, b, c, d⟩⟩
def playT (t : Nat) (s : PlaceM) (g : Game) : PlaceM := if g.done = true then (if g.a = t then s.play g.diff else if g.b = t then s.play (-g.diff) else s) else s
theorem modAt_get (f : PlaceM → PlaceM) (j : Nat) (st : List PlaceM) (i : Nat) : (modAt f j st)[i]? = if i = j then st[i]?.map f else st[i]? := by
  unfold modAt
  split
  · rename_i s hs
    have hj := (List.getElem?_eq_some_iff.mp hs).1
    by_cases c : i = j
    · subst c
      rw [if_pos rfl, List.getElem?_set_self hj, hs]
      rfl
    · rw [if_neg c, List.getElem?_set_ne (fun z => c z.symm)]
  · rename_i hs
    by_cases c : i = j
    · subst c
      rw [if_pos rfl, hs]
      rfl
    · rw [if_neg c]
theorem playG_get {n : Nat} {g : Game} (h : okG n g) (st : List PlaceM) (i : Nat) : (playG st g)[i]? = st[i]?.map fun s => playT (i + 1) s g := by
  obtain ⟨h1, _, h2, _, h3⟩ := h
  unfold playG playT
  by_cases c : g.done = true
  · simp only [c, if_true]
    rw [modAt_get, modAt_get]
    by_cases c1 : g.a = i + 1
    · rw [if_neg (by omega), if_pos (by omega)]
      simp only [c1, if_true]
    · by_cases c2 : g.b = i + 1
      · rw [if_pos (by omega), if_neg (by omega)]
        simp only [c2, if_true, if_neg c1]
      · rw [if_neg (by omega), if_neg (by omega)]
        simp only [if_neg c1, if_neg c2]
        rw [Option.map_id']
  · simp only [if_neg c]
    rw [Option.map_id']
theorem fold_get {n : Nat} : ∀ (l : List Game) (h : ∀ g ∈ l, okG n g) (st : List PlaceM) (i : Nat), (l.foldl playG st)[i]? = st[i]?.map fun s => l.foldl (playT (i + 1)) s
  | [], _, st, i => by
    show st[i]? = st[i]?.map fun s => s
    rw [Option.map_id']
  | g :: l, h, st, i => by
    rw [List.foldl_cons, fold_get l (fun x hx => h x (List.mem_cons_of_mem _ hx)), playG_get (h g (List.mem_cons_self ..)), Option.map_map]
    rfl
theorem play_eq (t : Nat) (s : PlaceM) (g : Game) : playT t s g = ⟨s.team, s.pts + (gamePoints t g : Nat), s.units + gameImps t g, s.sat⟩ := by
  unfold playT gamePoints gameImps
  cases c : g.done with
  | false => simp
  | true =>
    simp only [if_true, Bool.true_eq_false, if_false]
    split
    · rfl
    · split
      · rfl
      · show s = ⟨s.team, s.pts + ((0 : Nat) : Int), s.units + 0, s.sat⟩
        rw [Int.add_zero, Int.natCast_zero, Int.add_zero]
theorem foldT (t : Nat) : ∀ (l : List Game) (s : PlaceM), l.foldl (playT t) s = ⟨s.team, s.pts + (total (l.map (gamePoints t)) : Nat), s.units + Vbbral.sum (l.map (gameImps t)), s.sat⟩
  | [], s => by
    show s = ⟨s.team, s.pts + ((0 : Nat) : Int), s.units + 0, s.sat⟩
    rw [Int.add_zero, Int.natCast_zero, Int.add_zero]
  | g :: l, s => by
    rw [List.foldl_cons, foldT t l, play_eq, List.map_cons, List.map_cons, total_cons, sum_cons]
    congr 1
    · show s.pts + _ + _ = s.pts + _
      omega
    · show s.units + _ + _ = s.units + _
      omega
theorem addRound_get {n : Nat} {r : Round} (h : okR2 n r) (st : List PlaceM) (i : Nat) : (addRound r st)[i]? = st[i]?.map fun s =>
    ⟨s.team, s.pts + ((if r.bye = i + 1 then BYE else 0) + total (r.games.map (gamePoints (i + 1))) : Nat), s.units + Vbbral.sum (r.games.map (gameImps (i + 1))), s.sat || r.bye == i + 1⟩ := by
  have e : (if r.bye = 0 then st else modAt PlaceM.sitOut (r.bye - 1) st)[i]? = st[i]?.map fun s => (if r.bye = i + 1 then s.sitOut else s) := by
    by_cases c : r.bye = 0
    · rw [if_pos c]
      rw [show (fun s : PlaceM => if r.bye = i + 1 then s.sitOut else s) = fun s => s from funext fun s => if_neg (by omega)]
      rw [Option.map_id']
    · rw [if_neg c, modAt_get]
      by_cases c2 : r.bye = i + 1
      · rw [if_pos (by omega)]
        simp only [c2, if_true]
      · rw [if_neg (by omega)]
        simp only [if_neg c2]
        rw [Option.map_id']
  unfold addRound
  rw [fold_get r.games h.2, e, Option.map_map]
  congr 1
  funext s
  show List.foldl (playT (i + 1)) (if r.bye = i + 1 then s.sitOut else s) r.games = _
  rw [foldT]
  by_cases c : r.bye = i + 1
  · rw [if_pos c, if_pos c]
    congr 1
    · show s.pts + 12 + _ = s.pts + ((12 + _ : Nat) : Int)
      omega
    · show true = (s.sat || r.bye == i + 1)
      rw [c, beq_self_eq_true, Bool.or_true]
  · rw [if_neg c, if_neg c]
    congr 1
    · omega
    · rw [beq_eq_false_iff_ne.mpr c, Bool.or_false]
theorem placeOf_more (n : Nat) (rs : List Round) (r : Round) (k k' : Option Knock) (t : Nat) : placeOf ⟨n, rs ++ [r], k⟩ t = ⟨(placeOf ⟨n, rs, k'⟩ t).team, (placeOf ⟨n, rs, k'⟩ t).pts + ((if r.bye = t then BYE else 0) + total (r.games.map (gamePoints t)) : Nat), (placeOf ⟨n, rs, k'⟩ t).units + Vbbral.sum (r.games.map (gameImps t)), (placeOf ⟨n, rs, k'⟩ t).sat || r.bye == t⟩ := by
  unfold placeOf
  congr 1
  · unfold points
    rw [List.map_append, total_append, List.map_cons, List.map_nil, total_cons, total_nil]
    simp only
    omega
  · unfold impsOf
    rw [List.map_append, sum_append, List.map_cons, List.map_nil, sum_cons, sum_nil]
    simp only
    omega
  · unfold hadBye
    rw [List.any_append, List.any_cons, List.any_nil, Bool.or_false]
theorem take_all_of {α : Type} {P : List α → Prop} (l : List α) (h0 : P []) (h1 : ∀ (i : Nat) (x : α), l[i]? = some x → P (l.take i) → P (l.take (i + 1))) : P l := by
  have : ∀ i, i ≤ l.length → P (l.take i) := by
    intro i
    induction i with
    | zero => intro _; exact h0
    | succ i ih =>
      intro hi
      exact h1 i l[i] (List.getElem?_eq_getElem (by omega)) (ih (by omega))
  have z := this l.length (Nat.le_refl _)
  rw [List.take_length] at z
  exact z
theorem tallied_get (s : State) (h : ∀ r ∈ s.rounds, okR2 s.teams r) : tallied s.teams s.rounds = (List.range s.teams).map fun i => placeOf s (i + 1) := by
  obtain ⟨n, rs, k⟩ := s
  show tallied n rs = (List.range n).map fun i => placeOf ⟨n, rs, k⟩ (i + 1)
  replace h : ∀ r ∈ rs, okR2 n r := h
  refine take_all_of (P := fun rs => tallied n rs = (List.range n).map fun i => placeOf ⟨n, rs, k⟩ (i + 1)) rs ?_ ?_
  · show start0 n = _
    unfold start0
    refine List.map_congr_left fun i hi => ?_
    show _ = (⟨((i + 1 : Nat) : Int), ((total [] : Nat) : Int), Vbbral.sum [], false⟩ : PlaceM)
    congr 1
  · intro i r hr ih
    rw [tallied_more hr, ih, take_one hr]
    refine List.ext_getElem? fun j => ?_
    rw [addRound_get (h r (List.mem_of_getElem? hr))]
    by_cases hj : j < n
    · rw [List.getElem?_map, List.getElem?_map, List.getElem?_range hj]
      show some _ = some (placeOf ⟨n, rs.take i ++ [r], k⟩ (j + 1))
      rw [placeOf_more n _ r k k]
    · rw [List.getElem?_eq_none (by rw [List.length_map, List.length_range]; omega), List.getElem?_eq_none (by rw [List.length_map, List.length_range]; omega)]
      rfl
/-! ### the ranking -/
theorem before_lex (s : State) (x y : Nat) : before s x y = lex3 (keyP (placeOf s x)) (keyP (placeOf s y)) := by
  rw [Bool.eq_iff_iff, lex3_iff]
  show before s x y = true ↔ (-((points s x : Nat) : Int) < -((points s y : Nat) : Int) ∨ (-((points s x : Nat) : Int) = -((points s y : Nat) : Int) ∧ (-impsOf s x < -impsOf s y ∨ (-impsOf s x = -impsOf s y ∧ (x : Int) < (y : Int)))))
  unfold before
  split
  · split
    · rw [decide_eq_true_iff]
      omega
    · rw [decide_eq_true_iff]
      omega
  · rw [decide_eq_true_iff]
    omega
theorem place_perm (s : State) (x : Nat) : ∀ l : List Nat, (place s x l).Perm (x :: l)
  | [] => List.Perm.refl _
  | y :: r => by
    unfold place
    split
    · exact List.Perm.refl _
    · exact ((place_perm s x r).cons y).trans (List.Perm.swap ..)
theorem rank_perm_of (s : State) : ∀ l : List Nat, (l.foldr (place s) []).Perm l
  | [] => List.Perm.refl _
  | x :: l => by
    rw [List.foldr_cons]
    exact (place_perm s x _).trans ((rank_perm_of s l).cons x)
theorem place_sorted (s : State) (x : Nat) : ∀ l : List Nat, l.Pairwise (fun a b => before s b a = false) → (place s x l).Pairwise (fun a b => before s b a = false)
  | [], _ => by simp [place]
  | y :: r, h => by
    obtain ⟨h1, h2⟩ := List.pairwise_cons.mp h
    unfold place
    split
    · rename_i c
      refine List.pairwise_cons.mpr ⟨fun z hz => ?_, h⟩
      rw [before_lex] at c ⊢
      rcases List.mem_cons.mp hz with rfl | hz
      · have c := lex3_iff.mp c
        exact lex3_no.mpr (by omega)
      · have w := h1 z hz
        rw [before_lex] at w
        have w := lex3_no.mp w
        have c := lex3_iff.mp c
        exact lex3_no.mpr (by omega)
    · rename_i c
      refine List.pairwise_cons.mpr ⟨fun z hz => ?_, place_sorted s x r h2⟩
      rcases List.mem_cons.mp ((place_perm s x r).mem_iff.mp hz) with rfl | hz
      · exact Bool.eq_false_iff.mpr c
      · exact h1 z hz
theorem rank_sorted (s : State) : (ranking s).Pairwise (fun a b => before s b a = false) := by
  unfold ranking
  generalize (List.range s.teams).map (fun i => i + 1) = l
  induction l with
  | nil => exact List.Pairwise.nil
  | cons x l ih =>
    rw [List.foldr_cons]
    exact place_sorted s x _ ih
theorem rank_perm (s : State) : (ranking s).Perm ((List.range s.teams).map fun i => i + 1) := rank_perm_of s _
theorem rank_nodup (s : State) : (ranking s).Nodup := (rank_perm s).nodup_iff.mpr (by
  refine List.Pairwise.map _ (fun a b h => ?_) List.nodup_range
  omega)
theorem rank_len (s : State) : (ranking s).length = s.teams := by
  rw [(rank_perm s).length_eq, List.length_map, List.length_range]
theorem rank_mem {s : State} {t : Nat} : t ∈ ranking s ↔ 1 ≤ t ∧ t ≤ s.teams := by
  rw [(rank_perm s).mem_iff, List.mem_map]
  constructor
  · rintro ⟨i, hi, rfl⟩
    have := List.mem_range.mp hi
    omega
  · intro h
    exact ⟨t - 1, List.mem_range.mpr (by omega), by omega⟩
def stand (s : State) : List PlaceM := (ranking s).map (placeOf s)
theorem stand_eq {s : State} (h : ∀ r ∈ s.rounds, okR2 s.teams r) {st : List PlaceM} (hp : st.Perm (tallied s.teams s.rounds)) (hs : st.Pairwise (fun a b => lex3 (keyP b) (keyP a) = false)) : st = stand s := by
  rw [tallied_get s h] at hp
  have p2 : (stand s).Perm ((List.range s.teams).map fun i => placeOf s (i + 1)) := by
    unfold stand
    have := (rank_perm s).map (placeOf s)
    rw [List.map_map] at this
    exact this
  have s2 : (stand s).Pairwise (fun a b => lex3 (keyP b) (keyP a) = false) := by
    unfold stand
    refine List.pairwise_map.mpr ((rank_sorted s).imp fun {a b} z => ?_)
    rw [before_lex] at z
    exact z
  refine List.Perm.eq_of_pairwise (le := fun a b => lex3 (keyP b) (keyP a) = false) ?_ hs s2 (hp.trans p2.symm)
  intro a b ha hb w1 w2
  obtain ⟨i, _, rfl⟩ := List.mem_map.mp (hp.mem_iff.mp ha)
  obtain ⟨j, _, rfl⟩ := List.mem_map.mp (p2.mem_iff.mp hb)
  have w1 := lex3_no.mp w1
  have w2 := lex3_no.mp w2
  have e : (keyP (placeOf s (i + 1))).2.2 = (keyP (placeOf s (j + 1))).2.2 := by omega
  have e : ((i + 1 : Nat) : Int) = ((j + 1 : Nat) : Int) := e
  rw [show i + 1 = j + 1 by omega]
end TR

set_option Elab.async false
set_option linter.all false
set_option maxRecDepth 100000
set_option maxHeartbeats 4000000
namespace TR
open PySem PySem.Spec PyProof.Rows L2
theorem fil1 {α : Type} (p : α → Bool) {l : List α} {i : Nat} {x : α} (h : l[i]? = some x) (hp : p x = true) : (l.take (i + 1)).filter p = (l.take i).filter p ++ [x] := by
  rw [take_one h, List.filter_append, List.filter_cons_of_pos hp]
  rfl
theorem fil0 {α : Type} (p : α → Bool) {l : List α} {i : Nat} {x : α} (h : l[i]? = some x) (hp : ¬ p x = true) : (l.take (i + 1)).filter p = (l.take i).filter p := by
  rw [take_one h, List.filter_append, List.filter_cons_of_neg hp, List.filter_nil, List.append_nil]
theorem putL {κ : Type} [DecidableEq κ] (c : List (κ × V)) (k : κ) (x : V) : (putK c k x).length ≤ c.length + 1 := by
  unfold putK
  split
  · rw [List.length_map]
    omega
  · rw [List.length_append]
    exact Nat.le_refl _
theorem cut_from (xs : List V) (k : Nat) : cutV xs (some (k : Int)) none = xs.drop k := by
  unfold cutV
  rw [HT.sIx_nat, HT.sIx_none]
  rcases Nat.le_total k xs.length with c | c
  · rw [Nat.min_eq_left c, List.take_of_length_le (by rw [List.length_drop]; exact Nat.le_refl _)]
  · rw [Nat.min_eq_right c, List.drop_length, List.drop_of_length_le c, List.take_nil]
theorem cut_to (xs : List V) (k : Nat) : cutV xs none (some (k : Int)) = xs.take k := by
  unfold cutV
  rw [HT.sIx_nat, HT.sIx_none, List.drop_zero, Nat.sub_zero]
  rcases Nat.le_total k xs.length with c | c
  · rw [Nat.min_eq_left c]
  · rw [Nat.min_eq_right c, List.take_of_length_le (Nat.le_refl _), List.take_of_length_le c]
def sitI (st : List PlaceM) : List Int := if st.length % 2 = 0 then [0] else (st.reverse.filter fun s => !s.sat).map fun s => s.team
def without (st : List PlaceM) (b : Int) : List Int := (st.filter fun s => !decide (s.team = b)).map fun s => s.team
def costVal (rs : List Vbbral.Round) (mode : Int) (s t : PlaceM) : Option V := if metIn rs s.team t.team = 0 then some (.int (if mode = 1 then (s.pts - t.pts) * (s.pts - t.pts) else 0)) else none
def CostT (rs : List Vbbral.Round) (mode : Int) (st : List PlaceM) (kvs : List (List Key × V)) : Prop := ∀ (i j : Nat) (s t : PlaceM), i < j → st[i]? = some s → st[j]? = some t → valV kvs [.inl s.team, .inl t.team] = costVal rs mode s t
section
variable {P : Program} {w : World} {K : PySem.W.Frag} {mg : Str → Option Value} {base : Heap}
def sp_may_sit_out (K : PySem.W.Frag) : Sp := Sp1 fun x H Q => ∃ (a : Addr) (qs : List Addr) (st : List PlaceM), x = .ref a ∧ SqL K H a (qs.map V.ref) ∧ PlacesAt K H qs st ∧ st.length ≤ 1000 ∧ ∀ (H' : Hp) (p : Addr), Same H H' → H p = none → H' p = some (.lst ((sitI st).map V.int)) → Q (.ref p) H'
theorem ok_may_sit_out (T : Txt w K mg base) : OkF P w K mg base 1 (He.ga K "may_sit_out") ["places"] (sp_may_sit_out K) := by
  obtain ⟨fd, F⟩ := T.f_may_sit_out
  refine ok1 F sc_may_sit_out (fun _ _ _ _ _ _ _ => rfl) (fun cdv A outer s H x0 Q hr h => ?_)
  refine ⟨_, (pss_cons (ps_if (pt_cmpR op_eq (pe_op op_mod (pe_callB (r := rLenS K) call_len_seq (by rfl) T.n_len PySem.boot_len (pa_cons (pv 0) pa_nil)) pe_int) pe_int (nomark _)) (pss_one (ps_ret (pe_lst (pa_cons pe_int pa_nil)))) pss_nil)
      (pss_one (ps_ret (pe_lc (own := [("place", 1)]) (g := gName 1) (by rfl) sc_may_sit_out.nd (pi_reversed (by rfl) T.n_reversed (pa_cons (pv 0) pa_nil)) (blkOk_by (own := [("place", 1)]) (N := ["places", "place"]) (sc := defScope s_may_sit_out) (by decide +kernel)) (fun _ _ _ _ _ => pg_name (i := 1) sc_may_sit_out.nd rfl (Or.inl rfl)) (fun _ _ _ _ _ => pts_one (pt_not (pt_val (pe_fldK (K := K) rfl (pv 1) rfl)))) (fun _ _ _ _ _ => (pe_fldK (K := K) rfl (pv 1) rfl)))))), ?_⟩
  obtain ⟨a, qs, st, rfl, hS, hP, hl, q⟩ := h
  refine ⟨_, rfl, a, _, rfl, .inl hS, _, 2, rfl, rfl, (show (0 : Int) < 2 by decide), rfl, _, rfl, ?_⟩
  rw [dec_int, List.length_map, hP.len]
  refine ite2 (fun c => ?_) (fun c => ?_)
  · have c : st.length % 2 = 0 := by
      have := of_decide_eq_true c
      omega
    refine ⟨by show 1 ≤ sizeLine; decide, fun p np => ?_⟩
    show Q (.ref p) (upd H p (.lst [.int 0]))
    refine q _ p (same_up np) np ?_
    rw [upd_same]
    unfold sitI
    rw [if_pos c]
    rfl
  · have c : ¬ st.length % 2 = 0 := fun w => c (decide_eq_true (by omega))
    refine ⟨_, rfl, a, _, rfl, hS, fun D nD => lc_it walk_rev (fun i H' => Same H H' ∧ H' D = some (.lst ((((st.reverse.take i).filter fun s => !s.sat).map fun s => s.team).map V.int))) ⟨same_up nD, upd_same⟩ (fun i H' _ z => z.1.seq hS) ?_ ?_⟩
    · rintro i x H1 H' hi ⟨sm, eD⟩ ⟨rfl, hx⟩
      obtain ⟨p, s', rfl, e1, e2, dp, e3⟩ := hP.get hx
      rw [List.length_map] at hi e2
      have e4 : st.reverse[i]? = some s' := by
        rw [List.getElem?_reverse (by rw [← hP.len]; exact hi), ← hP.len]
        exact e2
      have e5 := take_one e4
      refine ⟨rfl, _, rfl, p, _, dp, _, _, rfl, sm _ _ e3, T.c_Place, T.na_Place_sat_out, pF_sat_out .., _, rfl, ?_⟩
      refine ite2 (fun c => ?_) (fun c => ?_)
      · refine ⟨_, rfl, p, _, dp, _, _, rfl, sm _ _ e3, T.c_Place, T.na_Place_team, pF_team .., _, eD, ?_, fun b o e => ?_, ?_⟩
        · rw [List.length_map, List.length_map]
          exact line_lt (Nat.le_trans (List.length_filter_le ..) (Nat.le_trans (List.length_take_le' ..) (by rw [List.length_reverse]; omega)))
        · rw [upd_ne (ne_of_none e nD)]
          exact sm b o e
        · rw [upd_same, fil1 (fun s => !s.sat) e4 c, List.map_append, List.map_append]
          rfl
      · refine ⟨sm, ?_⟩
        rw [eD, fil0 (fun s => !s.sat) e4 c]
    · rintro H' ⟨sm, eD⟩
      rw [List.length_map, hP.len, ← List.length_reverse, List.take_length] at eD
      refine q H' D sm nD ?_
      unfold sitI
      rw [if_neg c]
      exact eD
def sp_teams_without (K : PySem.W.Frag) : Sp := Sp2 fun x v1 H Q => ∃ (a : Addr) (b : Int) (qs : List Addr) (st : List PlaceM), x = .ref a ∧ v1 = .int b ∧ SqL K H a (qs.map V.ref) ∧ PlacesAt K H qs st ∧ st.length ≤ 1000 ∧ ∀ (H' : Hp) (p : Addr), Same H H' → H p = none → H' p = some (.lst ((without st b).map V.int)) → Q (.ref p) H'
theorem ok_teams_without (T : Txt w K mg base) : OkF P w K mg base 1 (He.ga K "teams_without") ["places", "sits_out"] (sp_teams_without K) := by
  obtain ⟨fd, F⟩ := T.f_teams_without
  refine ok2 F sc_teams_without (fun _ _ _ _ _ _ _ _ => rfl) (fun cdv A outer s H x0 x1 Q hr h => ?_)
  refine ⟨_, (pss_one (ps_ret (pe_lc (own := [("place", 2)]) (g := gName 2) (by rfl) sc_teams_without.nd (pi_list (pv 0)) (blkOk_by (own := [("place", 2)]) (N := ["places", "sits_out", "place"]) (sc := defScope s_teams_without) (by decide +kernel)) (fun _ _ _ _ _ => pg_name (i := 2) sc_teams_without.nd rfl (Or.inl rfl)) (fun _ _ _ _ _ => pts_one (pt_cmpR op_ne (pe_fldK (K := K) rfl (pv 2) rfl) (pv 1) (nomark _))) (fun _ _ _ _ _ => (pe_fldK (K := K) rfl (pv 2) rfl))))), ?_⟩
  obtain ⟨a, b, qs, st, rfl, rfl, hS, hP, hl, q⟩ := h
  refine ⟨_, rfl, a, rfl, ⟨_, hS⟩, fun D nD => lc_list (K := K) (a := a) (xs := qs.map V.ref) (fun i H' => Same H H' ∧ H' D = some (.lst ((without (st.take i) b).map V.int))) ⟨same_up nD, upd_same⟩ (fun i H' _ z => z.1.seq hS) ?_ ?_⟩
  · rintro i x H' hx ⟨sm, eD⟩
    obtain ⟨p, s', rfl, e1, e2, dp, e3⟩ := hP.get hx
    have e5 := take_one e2
    refine ⟨rfl, _, rfl, p, _, dp, _, _, rfl, sm _ _ e3, T.c_Place, T.na_Place_team, pF_team .., _, rfl, rfl, _, rfl, ?_⟩
    rw [dec_int]
    unfold without at eD ⊢
    refine ite2 (fun c => ?_) (fun c => ?_)
    · refine ⟨_, rfl, p, _, dp, _, _, rfl, sm _ _ e3, T.c_Place, T.na_Place_team, pF_team .., _, eD, ?_, fun b o e => ?_, ?_⟩
      · rw [List.length_map, List.length_map]
        exact line_lt (Nat.le_trans (List.length_filter_le ..) (Nat.le_trans (List.length_take_le' ..) (by omega)))
      · rw [upd_ne (ne_of_none e nD)]
        exact sm b o e
      · rw [upd_same, fil1 (fun s => !decide (s.team = b)) e2 c, List.map_append, List.map_append]
        rfl
    · refine ⟨sm, ?_⟩
      rw [eD, fil0 (fun s => !decide (s.team = b)) e2 c]
  · rintro H' ⟨sm, eD⟩
    rw [List.length_map, hP.len, List.take_length] at eD
    exact q H' D sm nD eD
def sp_pair_cost (K : PySem.W.Frag) : Sp := Sp2 fun x v1 H Q => ∃ (a b : Int), x = .int a ∧ v1 = .int b ∧ (-1000000 ≤ a - b ∧ a - b ≤ 1000000) ∧ Q (.int ((a - b) * (a - b))) H
theorem ok_pair_cost (T : Txt w K mg base) : OkF P w K mg base 1 (He.ga K "pair_cost") ["points", "other_points"] (sp_pair_cost K) := by
  obtain ⟨fd, F⟩ := T.f_pair_cost
  refine ok2 F sc_pair_cost (fun _ _ _ _ _ _ _ _ => rfl) (fun cdv A outer s H x0 x1 Q hr h => ?_)
  refine ⟨_, (pss_cons (ps_set (i := 2) sc_pair_cost.nd rfl (Or.inl rfl) (pe_op op_sub (pv 0) (pv 1)))
      (pss_one (ps_ret (pe_op op_mul (pv 2) (pv 2))))), ?_⟩
  obtain ⟨a, b, rfl, rfl, hb, q⟩ := h
  exact ⟨_, rfl, _, rfl, _, _, rfl, rfl, _, rfl, _, rfl, _, _, rfl, rfl, .inl ⟨by omega, by omega⟩, q⟩
def sp_pair_costs (K : PySem.W.Frag) : Sp := Sp3 fun x v1 v2 H Q => ∃ (e er : Addr) (L : List RL) (kv : V) (n : Nat) (rs : List Vbbral.Round) (a : Addr) (qs : List Addr) (st : List PlaceM) (mode : Int), x = .ref e ∧ v1 = .ref a ∧ v2 = .int mode ∧ EvAt K H e er L kv n rs ∧ SqL K H a (qs.map V.ref) ∧ PlacesAt K H qs st ∧ st.length ≤ 100 ∧ (st.map fun s => s.team).Nodup ∧ (∀ s ∈ st, 0 ≤ s.pts ∧ s.pts ≤ 1000000) ∧
  ∀ (H' : Hp) (p : Addr) (kvs : List (List Key × V)), Same H H' → H p = none → H' p = some (.dT kvs) → CostT rs mode st kvs → Q (.ref p) H'
theorem ok_pair_costs (T : Txt w K mg base) : OkF P w K mg base 4 (He.ga K "pair_costs") ["event", "places", "mode"] (sp_pair_costs K) := by
  obtain ⟨⟨fd_Event_met_in, G_Event_met_in, b_Event_met_in⟩, k_Event_met_in⟩ := ok_Event_met_in (P := P) T
  obtain ⟨⟨fd_pair_cost, G_pair_cost, b_pair_cost⟩, k_pair_cost⟩ := ok_pair_cost (P := P) T
  obtain ⟨fd, F⟩ := T.f_pair_costs
  refine ok3 F sc_pair_costs (fun _ _ _ _ _ _ _ _ _ => rfl) (fun cdv A outer s H x0 x1 x2 Q hr h => ?_)
  refine ⟨_, (pss_cons (ps_set (i := 3) sc_pair_costs.nd rfl (Or.inl rfl) pe_dnewT)
      (pss_cons (ps_for PassesOwn.never rfl (pi_enum (by rfl) T.n_enumerate (pa_cons (pv 1) pa_nil)) (pg_tup (by rfl) (pgs_cons (pg_name (i := 4) sc_pair_costs.nd rfl (Or.inl rfl)) (pgs_cons (pg_name (i := 5) sc_pair_costs.nd rfl (Or.inl rfl)) pgs_nil))) (pss_one (ps_for PassesOwn.never rfl (pi_list (pe_slice sl_list (pv 1) (po_some (pe_op op_add (pv 4) pe_int)) po_none)) (pg_name (i := 6) sc_pair_costs.nd rfl (Or.inl rfl)) (pss_one (ps_if (pt_cmpR op_eq (pe_meth (pv 0) T.c_Event T.m_Event_met_in G_Event_met_in (hr.mono (by decide)) b_Event_met_in .nil pass0 (pa_cons (pe_fldK (K := K) rfl (pv 5) rfl) (pa_cons (pe_fldK (K := K) rfl (pv 6) rfl) pa_nil))) pe_int (nomark _)) (pss_one (ps_dput (hu_of hr) (pv 3) (pe_tup (pa_cons (pe_fldK (K := K) rfl (pv 5) rfl) (pa_cons (pe_fldK (K := K) rfl (pv 6) rfl) pa_nil))) (pe_ifExp (pt_cmpR op_eq (pv 2) pe_int (nomark _)) (pe_call G_pair_cost (hr.mono (by decide)) (by rfl) T.g_pair_cost k_pair_cost b_pair_cost .nil pass0 (pa_cons (pe_fldK (K := K) rfl (pv 5) rfl) (pa_cons (pe_fldK (K := K) rfl (pv 6) rfl) pa_nil))) pe_int) rfl)) pss_nil)))))
      (pss_one (ps_ret (pv 3))))), ?_⟩
  obtain ⟨e, er, L, kv, n, rs, a, qs, st, mode, rfl, rfl, rfl, hE, hS, hP, hl, nd, hb, q⟩ := h
  refine fun D nD => ⟨_, rfl, a, _, rfl, (Same.seq (same_up nD) hS), for_it walk_enum (fun i σ H' => (∃ v v2 v3, σ = [some (.ref e), some (.ref a), some (.int mode), some (.ref D), v, v2, v3]) ∧ Same H H' ∧ ∃ kvs, H' D = some (.dT kvs) ∧ kvs.length ≤ i * 100 ∧ ∀ (p j : Nat) (s t : PlaceM), p < j → st[p]? = some s → st[j]? = some t → valV kvs [.inl s.team, .inl t.team] = if p < i then costVal rs mode s t else none)
    ⟨⟨_, _, _, rfl⟩, same_up nD, [], upd_same, Nat.zero_le _, fun _ _ _ _ _ _ _ => rfl⟩ (fun i σ H' _ z => z.2.1.seq hS) ?_ ?_⟩
  · rintro i x σ H' H2 hi ⟨⟨v, v2, v3, rfl⟩, sm, kvs, eD, kl, hk⟩ ⟨t, x1, x2, rfl, nt, rfl, ex1, ex2⟩
    cases ex1
    obtain ⟨q1, s1, rfl, e1, e2, d1, e3⟩ := hP.get ex2
    have sT : Same H' (upd H' t (.tup [.int (i : Nat), .ref q1])) := same_up nt
    refine ⟨t, _, rfl, SqT.of upd_same, rfl, _, _, rfl, _, _, rfl, rfl, _, rfl, _, rfl, _, _, rfl, rfl, _, rfl, a, _, rfl, (sm.trans sT).seq hS, fun u nu => ?_⟩
    rw [show (i : Int) + 1 = ((i + 1 : Nat) : Int) by omega, cut_from]
    have sU : Same H' (upd (upd H' t (.tup [.int (i : Nat), .ref q1])) u (.lst ((qs.map V.ref).drop (i + 1)))) := sT.trans (same_up nu)
    have iD : i < st.length := (List.getElem?_eq_some_iff.mp e2).1
    have uD : u ≠ D := (ne_of_none (sT _ _ eD) nu).symm
    refine ⟨u, rfl, ⟨_, SqL.of upd_same⟩, for_list (K := K) (a := u) (xs := (qs.map V.ref).drop (i + 1)) (fun j σ H2 => (∃ v, σ = [some (.ref e), some (.ref a), some (.int mode), some (.ref D), some (.int (i : Nat)), some (.ref q1), v]) ∧ (∀ b o, H' b = some o → b ≠ D → H2 b = some o) ∧ H2 u = some (.lst ((qs.map V.ref).drop (i + 1))) ∧ ∃ kvs, H2 D = some (.dT kvs) ∧ kvs.length ≤ i * 100 + j ∧ ∀ (p k : Nat) (s t : PlaceM), p < k → st[p]? = some s → st[k]? = some t → valV kvs [.inl s.team, .inl t.team] = if p < i ∨ (p = i ∧ k < i + 1 + j) then costVal rs mode s t else none)
      ⟨⟨_, rfl⟩, fun b o e _ => sU b o e, upd_same, kvs, sU _ _ eD, kl, fun p k s t h1 h2 h3 => ?_⟩ (fun j σ H' _ z => SqL.of z.2.2.1) ?_ ?_⟩
    · rw [hk p k s t h1 h2 h3]
      by_cases c : p < i
      · rw [if_pos c, if_pos (.inl c)]
      · rw [if_neg c, if_neg (by omega)]
    · rintro j x σ H2 hx ⟨⟨v, rfl⟩, kp, eu, kvs, eD2, kl2, hk2⟩
      rw [List.getElem?_drop] at hx
      obtain ⟨q2, s2, rfl, f1, f2, d2, f3⟩ := hP.get hx
      have kH : ∀ b o, H b = some o → H2 b = some o := fun b o e => kp b o (sm b o e) (ne_of_none e nD)
      have sH : Same H H2 := kH
      have g1 := kH _ _ e3
      have g2 := kH _ _ f3
      obtain ⟨de, hpe⟩ := (hE.same sH).ev
      have jl : i + 1 + j < st.length := (List.getElem?_eq_some_iff.mp f2).1
      -- the next dict
      have nxt : ∀ (kvs' : List (List Key × V)), kvs'.length ≤ i * 100 + (j + 1) → (∀ (p k : Nat) (s t : PlaceM), p < k → st[p]? = some s → st[k]? = some t → valV kvs' [.inl s.team, .inl t.team] = if p = i ∧ k = i + 1 + j then costVal rs mode s t else valV kvs [.inl s.team, .inl t.team]) →
          kvs'.length ≤ i * 100 + (j + 1) ∧ ∀ (p k : Nat) (s t : PlaceM), p < k → st[p]? = some s → st[k]? = some t → valV kvs' [.inl s.team, .inl t.team] = if p < i ∨ (p = i ∧ k < i + 1 + (j + 1)) then costVal rs mode s t else none := fun kvs' l1 l2 => ⟨l1, fun p k s t h1 h2 h3 => by
        rw [l2 p k s t h1 h2 h3, hk2 p k s t h1 h2 h3]
        by_cases c : p = i ∧ k = i + 1 + j
        · rw [if_pos c, if_pos (.inr (by omega))]
        · rw [if_neg c]
          by_cases c2 : p < i ∨ (p = i ∧ k < i + 1 + j)
          · rw [if_pos c2, if_pos (by omega)]
          · rw [if_neg c2, if_neg (by omega)]⟩
      have key : ∀ (p k : Nat) (s t : PlaceM), st[p]? = some s → st[k]? = some t → ([.inl s.team, .inl t.team] : List Key) = [.inl s1.team, .inl s2.team] → p = i ∧ k = i + 1 + j := fun p k s t h2 h3 z => by
        injection z with z1 z2
        injection z2 with z2 _
        have z1 : s.team = s1.team := Sum.inl.inj z1
        have z2 : t.team = s2.team := Sum.inl.inj z2
        have at_ : ∀ (p i : Nat) (s s1 : PlaceM), st[p]? = some s → st[i]? = some s1 → s.team = s1.team → p = i := fun p i s s1 w1 w2 w3 => by
          have w1' : (st.map fun s => s.team)[p]? = some s.team := by rw [List.getElem?_map, w1]; rfl
          have w2' : (st.map fun s => s.team)[i]? = some s.team := by rw [List.getElem?_map, w2, w3]; rfl
          obtain ⟨b1, b2⟩ := List.getElem?_eq_some_iff.mp w1'
          obtain ⟨c1, c2⟩ := List.getElem?_eq_some_iff.mp w2'
          exact (List.getElem_inj nd).mp (b2.trans c2.symm)
        exact ⟨at_ _ _ _ _ h2 e2 z1, at_ _ _ _ _ h3 f2 z2⟩
      refine ⟨_, rfl, e, de, _, rfl, hpe, eF_no_met_in .., _, rfl, q1, _, d1, _, _, rfl, g1, T.c_Place, T.na_Place_team, pF_team .., _, rfl, q2, _, d2, _, _, rfl, g2, T.c_Place, T.na_Place_team, pF_team .., _, _, _, rfl, e, er, L, kv, n, rs, s1.team, s2.team, rfl, rfl, rfl, hE.same sH, fun H3 s3 => ⟨rfl, _, rfl, ?_⟩⟩
      rw [dec_int]
      have eD3 := s3 _ _ eD2
      have g1 := s3 _ _ g1
      have g2 := s3 _ _ g2
      refine ite2 (fun c => ?_) (fun c => ?_)
      · have c : metIn rs s1.team s2.team = 0 := by
          have := of_decide_eq_true c
          omega
        have b1 := hb s1 (List.mem_of_getElem? e2)
        have b2 := hb s2 (List.mem_of_getElem? f2)
        have putd : ∀ z : Int, z = (if mode = 1 then (s1.pts - s2.pts) * (s1.pts - s2.pts) else 0) → ∀ b, H3 b = none → ∃ H4, DPut (upd H3 b (.tup [.int s1.team, .int s2.team])) D (.ref b) (.int z) H4 ∧ (∀ b o, H' b = some o → b ≠ D → H4 b = some o) ∧ H4 u = some (.lst ((qs.map V.ref).drop (i + 1))) ∧ ∃ kvs, H4 D = some (.dT kvs) ∧ kvs.length ≤ i * 100 + (j + 1) ∧ ∀ (p k : Nat) (s t : PlaceM), p < k → st[p]? = some s → st[k]? = some t → valV kvs [.inl s.team, .inl t.team] = if p < i ∨ (p = i ∧ k < i + 1 + (j + 1)) then costVal rs mode s t else none := fun z ez b nb => by
          have bD : b ≠ D := (ne_of_none eD3 nb).symm
          have l3 : kvs.length < sizeLine := line_lt (by omega)
          refine ⟨_, .inr ⟨kvs, [.inl s1.team, .inl s2.team], b, by rw [upd_ne bD.symm]; exact eD3, rfl, upd_same, l3, rfl⟩, fun b' o w1 w2 => ?_, ?_, _, upd_same, nxt _ (Nat.le_trans (putL kvs _ _) (by omega)) fun p k s t h1 h2 h3 => ?_⟩
          · have w3 := s3 _ _ (kp b' o w1 w2)
            rw [upd_ne w2, upd_ne (ne_of_none w3 nb)]
            exact w3
          · have w3 := s3 _ _ eu
            rw [upd_ne uD, upd_ne (ne_of_none w3 nb)]
            exact w3
          · rw [valV_put]
            by_cases w : p = i ∧ k = i + 1 + j
            · rw [if_pos w]
              obtain ⟨w1, w2⟩ := w
              rw [w1, e2] at h2
              rw [w2, f2] at h3
              cases h2
              cases h3
              rw [if_pos rfl]
              unfold costVal
              rw [if_pos c, ez]
            · rw [if_neg w, if_neg fun z => w (key p k s t h2 h3 z)]
        refine ⟨_, rfl, rfl, _, rfl, ?_⟩
        rw [dec_int]
        refine ite2 (fun m => ?_) (fun m => ?_)
        · have m := of_decide_eq_true m
          refine ⟨_, rfl, q1, _, d1, _, _, rfl, g1, T.c_Place, T.na_Place_points, pF_points .., _, rfl, q2, _, d2, _, _, rfl, g2, T.c_Place, T.na_Place_points, pF_points .., _, _, rfl, s1.pts, s2.pts, rfl, rfl, ⟨by omega, by omega⟩, _, rfl, _, rfl, q1, _, d1, _, _, rfl, g1, T.c_Place, T.na_Place_team, pF_team .., _, rfl, q2, _, d2, _, _, rfl, g2, T.c_Place, T.na_Place_team, pF_team .., by show 2 ≤ sizeLine; decide, fun b nb => ?_⟩
          obtain ⟨H4, p1, p2⟩ := putd ((s1.pts - s2.pts) * (s1.pts - s2.pts)) (by rw [if_pos m]) b nb
          exact ⟨D, H4, rfl, p1, ⟨_, rfl⟩, p2⟩
        · have m : ¬ mode = 1 := fun w => m (decide_eq_true w)
          refine ⟨_, rfl, _, rfl, q1, _, d1, _, _, rfl, g1, T.c_Place, T.na_Place_team, pF_team .., _, rfl, q2, _, d2, _, _, rfl, g2, T.c_Place, T.na_Place_team, pF_team .., by show 2 ≤ sizeLine; decide, fun b nb => ?_⟩
          obtain ⟨H4, p1, p2⟩ := putd 0 (by rw [if_neg m]) b nb
          exact ⟨D, H4, rfl, p1, ⟨_, rfl⟩, p2⟩
      · have c : ¬ metIn rs s1.team s2.team = 0 := fun w => c (decide_eq_true (by omega))
        refine ⟨⟨_, rfl⟩, fun b o e hb => s3 _ _ (kp b o e hb), s3 _ _ eu, kvs, eD3, nxt kvs (by omega) fun p k s t h1 h2 h3 => ?_⟩
        by_cases w : p = i ∧ k = i + 1 + j
        · obtain ⟨rfl, rfl⟩ := w
          rw [if_pos ⟨rfl, rfl⟩, hk2 p _ s t h1 h2 h3, if_neg (by omega)]
          rw [e2] at h2
          rw [f2] at h3
          cases h2
          cases h3
          unfold costVal
          rw [if_neg c]
        · rw [if_neg w]
    · rintro σ H2 ⟨⟨v, rfl⟩, kp, eu, kvs, eD2, kl2, hk2⟩
      rw [List.length_drop, List.length_map, hP.len] at kl2 hk2
      refine ⟨⟨_, _, _, rfl⟩, fun b o e => kp b o (sm b o e) (ne_of_none e nD), kvs, eD2, by omega, fun p k s t h1 h2 h3 => ?_⟩
      rw [hk2 p k s t h1 h2 h3]
      have := (List.getElem?_eq_some_iff.mp h3).1
      by_cases c : p < i + 1
      · rw [if_pos c, if_pos (by omega)]
      · rw [if_neg c, if_neg (by omega)]
  · rintro σ H' ⟨⟨v, v2, v3, rfl⟩, sm, kvs, eD, kl, hk⟩
    rw [List.length_map, hP.len] at hk
    refine ⟨_, rfl, q H' D kvs sm nD eD fun p j s t h1 h2 h3 => ?_⟩
    rw [hk p j s t h1 h2 h3, if_pos (List.getElem?_eq_some_iff.mp h2).1]
end
end TR

set_option Elab.async false
set_option linter.all false
set_option maxRecDepth 100000
set_option maxHeartbeats 4000000
namespace TR
open PySem PySem.Spec PyProof.Rows L2
section
variable {P : Program} {w : World} {K : PySem.W.Frag} {mg : Str → Option Value} {base : Heap}
end
/-! ### what is known of pairings -/
def kN (l : List Nat) : List Key := l.map fun n : Nat => .inl (n : Int)
def vN (l : List Nat) : List V := l.map fun n : Nat => V.int (n : Int)
theorem kN_map (l : List Nat) : (kN l).map kV = vN l := by
  unfold kN vN
  rw [List.map_map]
  rfl
theorem kN_inj {l m : List Nat} (h : kN l = kN m) : l = m := by
  refine List.map_inj_right (f := fun n : Nat => (.inl (n : Int) : Key)) (fun a b z => ?_) |>.mp h
  have : (a : Int) = (b : Int) := Sum.inl.inj z
  omega
theorem vN_at {l : List Nat} {i : Nat} {x : V} (h : (vN l)[i]? = some x) : ∃ n, l[i]? = some n ∧ x = .int (n : Int) := by
  unfold vN at h
  rw [List.getElem?_map] at h
  obtain ⟨z, e, rfl⟩ := Option.map_eq_some_iff.mp h
  exact ⟨z, e, rfl⟩
theorem vN_len (l : List Nat) : (vN l).length = l.length := List.length_map ..
def subs : List Nat → List (List Nat)
  | [] => [[]]
  | a :: l => subs l ++ (subs l).map (a :: ·)
theorem subs_len : ∀ l : List Nat, (subs l).length = 2 ^ l.length
  | [] => rfl
  | a :: l => by
    show (subs l ++ (subs l).map (a :: ·)).length = 2 ^ (l.length + 1)
    rw [List.length_append, List.length_map, subs_len l, Nat.pow_succ]
    omega
theorem subs_mem {l m : List Nat} (h : l.Sublist m) : l ∈ subs m := by
  induction h with
  | slnil => exact List.mem_singleton.mpr rfl
  | cons a _ ih => exact List.mem_append_left _ ih
  | cons_cons a _ ih => exact List.mem_append_right _ (List.mem_map_of_mem ih)
/-- all but the dict at d stays -/
def ExtD (d : Addr) (H H' : Hp) : Prop := ∀ b o, H b = some o → b ≠ d → H' b = some o
theorem ExtD.refl (d : Addr) (H : Hp) : ExtD d H H := fun _ _ e _ => e
theorem ExtD.trans {d : Addr} {H H1 H2 : Hp} (a : ExtD d H H1) (b : ExtD d H1 H2) : ExtD d H H2 := fun c o e n => b c o (a c o e n) n
theorem ExtD.of {d : Addr} {H H' : Hp} (s : Same H H') : ExtD d H H' := fun b o e _ => s b o e
theorem ExtD.put {d : Addr} {H : Hp} {o : HO} : ExtD d H (upd H d o) := fun b u e n => by rw [upd_ne n]; exact e
def PairsN (H : Hp) (ts : List Addr) (ps : List (Nat × Nat)) : Prop := PairsAt H ts (ps.map fun p => ((p.1 : Int), (p.2 : Int)))
def FoundAt (H : Hp) (v : V) : Fnd → Prop
  | none => v = .non
  | some m => ∃ (t pl : Addr) (ts : List Addr), v = .ref t ∧ H t = some (.tup [.int (m.1 : Nat), .ref pl]) ∧ H pl = some (.lst (ts.map V.ref)) ∧ PairsN H ts m.2
theorem FoundAt.step {d : Addr} {kvs : List (List Key × V)} {H H' : Hp} {v : V} {b : Fnd} (h : FoundAt H v b) (hd : H d = some (.dT kvs)) (e : ExtD d H H') : FoundAt H' v b := by
  cases b with
  | none => exact h
  | some m =>
    obtain ⟨t, pl, ts, h1, h2, h3, h4⟩ := h
    exact ⟨t, pl, ts, h1, e _ _ h2 (ne_of h2 hd (by intro z; cases z)), e _ _ h3 (ne_of h3 hd (by intro z; cases z)), h4.len, fun i t p e1 e2 => e _ _ (h4.at_ i t p e1 e2) (ne_of (h4.at_ i t p e1 e2) hd (by intro z; cases z))⟩
theorem val_mem {κ : Type} [DecidableEq κ] {kvs : List (κ × V)} {k : κ} {v : V} (h : valV kvs k = some v) : (k, v) ∈ kvs := by
  unfold valV at h
  obtain ⟨p, h1, rfl⟩ := Option.map_eq_some_iff.mp h
  have h2 := List.find?_some h1
  have h3 : p.1 = k := of_decide_eq_true h2
  rw [← h3]
  exact List.mem_of_find?_eq_some h1
theorem put_mem {κ : Type} [DecidableEq κ] {kvs : List (κ × V)} {k k' : κ} {v v' : V} (h : (k', v') ∈ putK kvs k v) : (k' = k ∧ v' = v) ∨ (k', v') ∈ kvs := by
  unfold putK at h
  split at h
  · obtain ⟨p, h1, h2⟩ := List.mem_map.mp h
    split at h2
    · rename_i c
      injection h2 with h2 h3
      exact .inl ⟨by rw [← h2, c], h3.symm⟩
    · rw [← h2]
      exact .inr h1
  · rcases List.mem_append.mp h with z | z
    · exact .inr z
    · have z := List.mem_singleton.mp z
      injection z with z1 z2
      exact .inl ⟨z1, z2⟩
theorem put_nodup {κ : Type} [DecidableEq κ] {kvs : List (κ × V)} {k : κ} {v : V} (h : (kvs.map (·.1)).Nodup) : ((putK kvs k v).map (·.1)).Nodup := by
  unfold putK
  split
  · rw [List.map_map]
    have e : ((fun p : κ × V => p.1) ∘ fun kv : κ × V => if kv.1 = k then (kv.1, v) else kv) = fun p => p.1 := by
      funext p
      show (if p.1 = k then (p.1, v) else p).1 = p.1
      split <;> rfl
    rw [e]
    exact h
  · rename_i c
    rw [List.map_append, List.nodup_append]
    refine ⟨h, by simp, fun a ha b hb z => c ?_⟩
    obtain rfl : b = k := List.mem_singleton.mp hb
    subst z
    obtain ⟨p, hp, e⟩ := List.mem_map.mp ha
    exact List.any_eq_true.mpr ⟨p, hp, decide_eq_true e⟩
/-- a dict whose values are right: Ok tells what a value must be for a sublist of R -/
structure KnownAt (Ok : Hp → V → List Nat → Prop) (R : List Nat) (H : Hp) (d : Addr) (kvs : List (List Key × V)) : Prop where
  at_ : H d = some (.dT kvs)
  nd : (kvs.map (·.1)).Nodup
  ok : ∀ k v, (k, v) ∈ kvs → ∃ l : List Nat, l.Sublist R ∧ k = kN l ∧ Ok H v l
theorem KnownAt.len {Ok : Hp → V → List Nat → Prop} {R : List Nat} {H : Hp} {d : Addr} {kvs : List (List Key × V)} (h : KnownAt Ok R H d kvs) (hR : R.length ≤ 12) : kvs.length ≤ 4096 := by
  have e : (kvs.map (·.1)).length ≤ ((subs R).map kN).length := h.nd.length_le_of_subset fun k hk => by
    obtain ⟨p, hp, rfl⟩ := List.mem_map.mp hk
    obtain ⟨l, h1, h2, _⟩ := h.ok p.1 p.2 hp
    rw [h2]
    exact List.mem_map_of_mem (subs_mem h1)
  rw [List.length_map, List.length_map, subs_len] at e
  exact Nat.le_trans e (Nat.pow_le_pow_right (by decide : 0 < 2) hR)
theorem KnownAt.get {Ok : Hp → V → List Nat → Prop} {R : List Nat} {H : Hp} {d : Addr} {kvs : List (List Key × V)} (h : KnownAt Ok R H d kvs) {l : List Nat} {v : V} (e : valV kvs (kN l) = some v) : Ok H v l := by
  obtain ⟨l', _, h2, h3⟩ := h.ok _ _ (val_mem e)
  rw [kN_inj h2]
  exact h3
theorem KnownAt.step {Ok : Hp → V → List Nat → Prop} {R : List Nat} {H H' : Hp} {d : Addr} {kvs : List (List Key × V)} (h : KnownAt Ok R H d kvs) (s : Same H H') (st : ∀ v l, Ok H v l → Ok H' v l) : KnownAt Ok R H' d kvs :=
  ⟨s _ _ h.at_, h.nd, fun k v hk => let ⟨l, a, b, c⟩ := h.ok k v hk; ⟨l, a, b, st v l c⟩⟩
theorem KnownAt.put {Ok : Hp → V → List Nat → Prop} {R : List Nat} {H : Hp} {d : Addr} {kvs : List (List Key × V)} (h : KnownAt Ok R H d kvs) {l : List Nat} {v : V} (hl : l.Sublist R) (st : ∀ o v l, Ok H v l → Ok (upd H d o) v l) (hv : Ok H v l) : KnownAt Ok R (upd H d (.dT (putK kvs (kN l) v))) d (putK kvs (kN l) v) :=
  ⟨upd_same, put_nodup h.nd, fun k u hk => by
    rcases put_mem hk with ⟨rfl, rfl⟩ | z
    · exact ⟨l, hl, rfl, st _ _ _ hv⟩
    · obtain ⟨m, a, b, c⟩ := h.ok k u z
      exact ⟨m, a, b, st _ _ _ c⟩⟩
def Costs (may : Nat → Nat → Bool) (w : Nat → Nat → Nat) (R : List Nat) (kvs : List (List Key × V)) : Prop := ∀ x y, [x, y].Sublist R → valV kvs [.inl (x : Int), .inl (y : Int)] = if may x y = true then some (.int (w x y : Nat)) else none
theorem pair_sub {x y : Nat} {r R : List Nat} (h : (x :: r).Sublist R) (hy : y ∈ r) : [x, y].Sublist R := ((List.singleton_sublist.mpr hy).cons_cons x).trans h
theorem filter_pair {x y : Nat} {r : List Nat} (nd : (x :: r).Nodup) : ((x :: r).filter fun t : Nat => !inV (.int (t : Int)) [.int (x : Int), .int (y : Int)]) = r.filter (· != y) := by
  have hx : x ∉ r := (List.nodup_cons.mp nd).1
  have e : ∀ t : Nat, inV (.int (t : Int)) [.int (x : Int), .int (y : Int)] = (decide (x = t) || decide (y = t)) := fun t => by
    show ((x : Int) == (t : Int) || (((y : Int) == (t : Int)) || false)) = _
    rw [Bool.or_false]
    congr 1
    · rw [Bool.eq_iff_iff, beq_iff_eq, decide_eq_true_iff]
      omega
    · rw [Bool.eq_iff_iff, beq_iff_eq, decide_eq_true_iff]
      omega
  rw [List.filter_cons_of_neg (by rw [e]; simp)]
  refine List.filter_congr fun t ht => ?_
  have : ¬ x = t := fun z => hx (z ▸ ht)
  rw [e, decide_eq_false this, Bool.false_or, Bool.eq_iff_iff]
  simp
  exact ⟨fun a b => a b.symm, fun a b => a b.symm⟩
/-! ### the cheapest -/
theorem best_len {may : Nat → Nat → Bool} {w : Nat → Nat → Nat} {l : List Nat} (nd : l.Nodup) {m : Nat × Vbbral.Pairs} (h : best may w l = some m) : m.2.length ≤ l.length := by
  have z := (wy_mem l.length l (Nat.le_refl _) nd m.2 (best_mem h)).2.2
  omega
def OkB (may : Nat → Nat → Bool) (w : Nat → Nat → Nat) (H : Hp) (v : V) (l : List Nat) : Prop := FoundAt H v (best may w l)
def sp_cheapest (K : PySem.W.Frag) (n : Nat) : Sp := Sp3 fun x v1 v2 H Q => ∃ (a c d : Addr) (l R : List Nat) (may : Nat → Nat → Bool) (wt : Nat → Nat → Nat) (ck kk : List (List Key × V)), x = .ref a ∧ v1 = .ref c ∧ v2 = .ref d ∧ SqL K H a (vN l) ∧ l.length < 2 * n ∧ l.Sublist R ∧ R.Nodup ∧ R.length ≤ 12 ∧
  H c = some (.dT ck) ∧ Costs may wt R ck ∧ c ≠ d ∧ KnownAt (OkB may wt) R H d kk ∧
  ∀ (H' : Hp) (v : V) (kk' : List (List Key × V)), ExtD d H H' → KnownAt (OkB may wt) R H' d kk' → FoundAt H' v (best may wt l) → Q v H'
theorem SqL_extD {K : PySem.W.Frag} {d : Addr} {kvs : List (List Key × V)} {H H' : Hp} {a : Addr} {xs : List V} (h : SqL K H a xs) (hd : H d = some (.dT kvs)) (e : ExtD d H H') : SqL K H' a xs :=
  sq_stay (p := fun o => ∀ kvs, o ≠ .dT kvs) (fun b o w n => e b o w (ne_of w hd (n kvs))) (fun _ _ z => nomatch z) (fun _ _ _ z => nomatch z) h
section
variable {P : Program} {w : World} {K : PySem.W.Frag} {mg : Str → Option Value} {base : Heap}
theorem ok_cheapest_no (T : Txt w K mg base) : OkF P w K mg base 1 (He.ga K "cheapest") ["teams", "costs", "known"] (sp_cheapest K 0) := by
  obtain ⟨fd, F⟩ := T.f_cheapest
  refine ok3 F sc_cheapest (fun _ _ _ _ _ _ _ _ _ => rfl) (fun cdv A outer s H x0 x1 x2 Q hr h => ?_)
  obtain ⟨_, _, _, _, _, _, _, _, _, _, _, _, _, h, _⟩ := h
  exact absurd h (by omega)
theorem ok_cheapest_step (T : Txt w K mg base) (n : Nat) (ih : OkF P w K mg base (n + 1) (He.ga K "cheapest") ["teams", "costs", "known"] (sp_cheapest K n)) : OkF P w K mg base (n + 2) (He.ga K "cheapest") ["teams", "costs", "known"] (sp_cheapest K (n + 1)) := by
  obtain ⟨⟨fd_cheapest, G_cheapest, b_cheapest⟩, k_cheapest⟩ := ih
  obtain ⟨fd, F⟩ := T.f_cheapest
  refine ok3 F sc_cheapest (fun _ _ _ _ _ _ _ _ _ => rfl) (fun cdv A outer s H x0 x1 x2 Q hr h => ?_)
  refine ⟨_, (pss_cons (ps_if (pt_cmpR op_eq (pe_callB (r := rLenS K) call_len_seq (by rfl) T.n_len PySem.boot_len (pa_cons (pv 0) pa_nil)) pe_int (nomark _)) (pss_one (ps_ret (pe_tup (pa_cons pe_int (pa_cons (pe_lst pa_nil) pa_nil))))) pss_nil)
      (pss_cons (ps_set (i := 3) sc_cheapest.nd rfl (Or.inl rfl) (pe_callTy call_tuple_of (by rfl) T.n_tuple PyProof.Rows.boot_tuple (pa_cons (pv 0) pa_nil)))
      (pss_cons (ps_if (pt_cmp (pc_din (hu_of hr) (pv 3) (pv 2))) (pss_one (ps_ret (pe_dget (hu_of hr) (pv 2) (pv 3) (fun _ _ => rfl)))) pss_nil)
      (pss_cons (ps_set (i := 4) sc_cheapest.nd rfl (Or.inl rfl) pe_non)
      (pss_cons (ps_for PassesOwn.never rfl (pi_list (pe_slice sl_list (pv 0) (po_some pe_int) po_none)) (pg_name (i := 5) sc_cheapest.nd rfl (Or.inl rfl)) (pss_cons (ps_set (i := 6) sc_cheapest.nd rfl (Or.inr rfl) (pe_tup (pa_cons (pe_ix (r := rIxL K) ix_list (pv 0) pe_int (fun _ _ => rfl)) (pa_cons (pv 5) pa_nil))))
      (pss_cons (ps_if (pt_cmp (pc_dnotin (hu_of hr) (pv 6) (pv 1))) (pss_one ps_continue) pss_nil)
      (pss_cons (ps_set (i := 7) sc_cheapest.nd rfl (Or.inl rfl) (pe_call G_cheapest hr (by rfl) T.g_cheapest k_cheapest b_cheapest .nil pass0 (pa_cons (pe_lc (own := [("team", 9)]) (g := gName 9) (by rfl) sc_cheapest.nd (pi_list (pv 0)) (blkOk_by (own := [("team", 9)]) (N := ["teams", "costs", "known", "key", "best", "partner", "pair", "rest", "cost", "team"]) (sc := defScope s_cheapest) (by decide +kernel)) (fun _ _ _ _ _ => pg_name (i := 9) sc_cheapest.nd rfl (Or.inl rfl)) (fun _ _ _ _ _ => pts_one (pt_cmpR (r := rIn K true) op_notIn_seq (pv 9) (pv 6) (by rfl))) (fun _ _ _ _ _ => (pv 9))) (pa_cons (pv 1) (pa_cons (pv 2) pa_nil)))))
      (pss_cons (ps_if (pt_cmpR op_isN (pv 7) pe_non (nomark _)) (pss_one ps_continue) pss_nil)
      (pss_cons (ps_set (i := 8) sc_cheapest.nd rfl (Or.inl rfl) (pe_op op_add (pe_dget (hu_of hr) (pv 1) (pv 6) (fun _ _ => rfl)) (pe_ix (r := rIxT K) ix_tup (pv 7) pe_int (fun _ _ => rfl))))
      (pss_one (ps_if (PW.pt (pw_or (pt_cmpR op_isN (pv 4) pe_non (nomark _)) (pw_or1 (pt_cmpR op_lt (pv 8) (pe_ix (r := rIxT K) ix_tup (pv 4) pe_int (fun _ _ => rfl)) (nomark _))))) (pss_one (ps_set (i := 4) sc_cheapest.nd rfl (Or.inl rfl) (pe_tup (pa_cons (pv 8) (pa_cons (pe_op op_cat (pe_lst (pa_cons (pv 6) pa_nil)) (pe_ix (r := rIxT K) ix_tup (pv 7) pe_int (fun _ _ => rfl))) pa_nil))))) pss_nil))))))))
      (pss_cons (ps_dput (hu_of hr) (pv 2) (pv 3) (pv 4) rfl)
      (pss_one (ps_ret (pv 4))))))))), ?_⟩
  obtain ⟨a, c, d, l, R, may, wt, ck, kk, rfl, rfl, rfl, hS, hl, hsub, ndR, lR, hC, hco, cd, hK, q⟩ := h
  refine ⟨_, rfl, a, _, rfl, .inl hS, rfl, _, rfl, ?_⟩
  rw [dec_int, vN_len]
  cases l with
  | nil =>
    refine iteT ⟨by show 0 ≤ sizeLine; decide, fun p np => ⟨by show 2 ≤ sizeLine; decide, fun t nt => ?_⟩⟩
    have pt : p ≠ t := ne_of_none upd_same nt
    have np' : H t = none := by rw [upd_ne pt.symm] at nt; exact nt
    have sm : Same H (upd (upd H p (.lst [])) t (.tup [.int 0, .ref p])) := (same_up np).trans (same_up nt)
    refine q _ _ kk (.of sm) (hK.step sm fun v l h => h.step hK.at_ (.of sm)) ⟨t, p, [], rfl, upd_same, by rw [upd_ne pt, upd_same]; rfl, rfl, fun i t p e => by simp at e⟩
  | cons x r =>
    have nd : (x :: r).Nodup := List.Nodup.sublist hsub ndR
    have hll : (x :: r).length ≤ 12 := Nat.le_trans hsub.length_le lR
    have hl' : r.length + 1 < 2 * (n + 1) := hl
    rw [decide_eq_false (show ¬ (((x :: r).length : Nat) : Int) = 0 by rw [List.length_cons]; omega)]
    refine iteF ⟨_, rfl, a, _, rfl, .inl ⟨hS, fun t nt => ?_⟩⟩
    have sm1 : Same H (upd H t (.tup (vN (x :: r)))) := same_up nt
    have hK1 := hK.step sm1 fun v l h => h.step hK.at_ (.of sm1)
    have key1 : (upd H t (.tup (vN (x :: r)))) t = some (.tup ((kN (x :: r)).map kV)) := by rw [kN_map]; exact upd_same
    refine ⟨_, rfl, _, rfl, d, valV kk (kN (x :: r)), rfl, .inr ⟨kk, kN (x :: r), t, .inl hK1.at_, rfl, key1, rfl⟩, _, rfl, ?_⟩
    cases ek : valV kk (kN (x :: r)) with
    | some v => exact iteT ⟨_, rfl, _, rfl, d, v, rfl, .inr ⟨kk, kN (x :: r), t, .inl hK1.at_, rfl, key1, ek.symm⟩, q _ v kk (.of sm1) hK1 (hK1.get ek)⟩
    | none =>
    refine iteF ⟨_, rfl, _, rfl, a, _, rfl, sm1.seq hS, fun u nu => ?_⟩
    rw [show cutV (vN (x :: r)) (some 1) none = vN r from cut_from _ 1]
    generalize hH1 : upd H t (.tup (vN (x :: r))) = H1 at *
    have smU : Same H1 (upd H1 u (.lst (vN r))) := same_up nu
    have ud : u ≠ d := (ne_of_none hK1.at_ nu).symm
    have td : t ≠ d := ne_of key1 hK1.at_ (by intro z; cases z)
    refine ⟨u, rfl, ⟨_, SqL.of upd_same⟩, for_list (K := K) (a := u) (xs := vN r) (fun i σ H2 => (∃ vb v5 v6 v7 v8 v9, σ = [some (.ref a), some (.ref c), some (.ref d), some (.ref t), some vb, v5, v6, v7, v8, v9] ∧ FoundAt H2 vb ((r.take i).foldl (bstep may wt x r) none)) ∧ ExtD d H1 H2 ∧ H2 u = some (.lst (vN r)) ∧ ∃ kk', KnownAt (OkB may wt) R H2 d kk')
      ⟨⟨_, _, _, _, _, _, rfl, rfl⟩, .of smU, upd_same, kk, hK1.step smU fun v l h => h.step hK1.at_ (.of smU)⟩ (fun i σ H' _ z => SqL.of z.2.2.1) ?_ ?_⟩
    · rintro i x' σ H2 hx ⟨⟨vb, v5, v6, v7, v8, v9, rfl, fb⟩, x1, eu, kk2, hK2⟩
      obtain ⟨y, ey, rfl⟩ := vN_at hx
      have hy : y ∈ r := List.mem_of_getElem? ey
      have bs : (r.take (i + 1)).foldl (bstep may wt x r) none = bstep may wt x r ((r.take i).foldl (bstep may wt x r) none) y := by
        rw [take_one ey, List.foldl_append]
        rfl
      have x02 : ExtD d H H2 := (ExtD.of sm1).trans x1
      have hS2 : SqL K H2 a (vN (x :: r)) := SqL_extD hS hK.at_ x02
      have hC2 : H2 c = some (.dT ck) := x02 _ _ hC cd
      refine ⟨_, rfl, a, _, 0, _, rfl, rfl, hS2, atI_nat (j := 0) rfl, _, rfl, by show 2 ≤ sizeLine; decide, fun p6 n6 => ?_⟩
      have sm3 : Same H2 (upd H2 p6 (.tup [.int (x : Int), .int (y : Int)])) := same_up n6
      have e6 : (upd H2 p6 (.tup [.int (x : Int), .int (y : Int)])) p6 = some (.tup [.int (x : Int), .int (y : Int)]) := upd_same
      generalize hH3 : upd H2 p6 (.tup [.int (x : Int), .int (y : Int)]) = H3 at *
      have hK3 := hK2.step sm3 fun v l h => h.step hK2.at_ (.of sm3)
      have hC3 := sm3 _ _ hC2
      refine ⟨_, rfl, _, rfl, c, valV ck [.inl (x : Int), .inl (y : Int)], rfl, .inr ⟨ck, [.inl (x : Int), .inl (y : Int)], p6, .inl hC3, rfl, e6, rfl⟩, _, rfl, ?_⟩
      have hcv := hco x y (pair_sub hsub hy)
      rw [hcv]
      by_cases m : ¬ may x y = true
      · rw [if_neg m]
        refine iteT ⟨⟨_, _, _, _, _, _, rfl, ?_⟩, x1.trans (.of sm3), sm3 _ _ eu, kk2, hK3⟩
        rw [bs]
        unfold bstep
        rw [if_neg m]
        exact fb.step hK2.at_ (.of sm3)
      have m : may x y = true := Decidable.not_not.mp m
      rw [if_pos m] at hcv ⊢
      refine iteF ⟨_, rfl, a, rfl, ⟨_, sm3.seq hS2⟩, fun D nD => lc_list (K := K) (a := a) (xs := vN (x :: r)) (fun j H' => Same H3 H' ∧ H' D = some (.lst (vN (((x :: r).take j).filter fun t : Nat => !inV (.int (t : Int)) [.int (x : Int), .int (y : Int)])))) ⟨same_up nD, upd_same⟩ (fun j H' _ z => z.1.seq (sm3.seq hS2)) ?_ ?_⟩
      · rintro j x'' H' hx' ⟨sm, eD⟩
        obtain ⟨z, ez, rfl⟩ := vN_at hx'
        refine ⟨rfl, _, rfl, _, rfl, p6, _, rfl, .inr (SqT.of (sm _ _ e6)), rfl, rfl, _, rfl, ?_⟩
        refine ite2 (fun c => ?_) (fun c => ?_)
        · refine ⟨_, rfl, _, eD, ?_, fun b o e => ?_, ?_⟩
          · rw [vN_len]
            exact line_lt (Nat.le_trans (List.length_filter_le ..) (Nat.le_trans (List.length_take_le' ..) (by omega)))
          · rw [upd_ne (ne_of_none e nD)]
            exact sm b o e
          · rw [upd_same, fil1 _ ez c]
            unfold vN
            rw [List.map_append]
            rfl
        · refine ⟨sm, ?_⟩
          rw [eD, fil0 _ ez c]
      rintro H4 ⟨sm4, eD⟩
      rw [vN_len, List.take_length, filter_pair nd] at eD
      have hK4 := hK3.step sm4 fun v l h => h.step hK3.at_ (.of sm4)
      have hsub4 : (r.filter (· != y)).Sublist R := (List.filter_sublist.trans (List.sublist_cons_self x r)).trans hsub
      have len4 : (r.filter (· != y)).length + 1 ≤ r.length := by
        have z : (r.filter (· != y)).length < r.length := by
          refine List.length_filter_lt_length_iff_exists.mpr ⟨y, hy, by simp⟩
        omega
      refine ⟨_, rfl, _, rfl, _, _, _, rfl, D, c, d, r.filter (· != y), R, may, wt, ck, kk2, rfl, rfl, rfl, SqL.of eD, by omega, hsub4, ndR, lR, sm4 _ _ hC3, hco, cd, hK4, fun H5 v kk5 e5 hK5 fd => ?_⟩
      have x35 : ExtD d H3 H5 := (ExtD.of sm4).trans e5
      have x25 : ExtD d H2 H5 := (ExtD.of sm3).trans x35
      have fb5 := fb.step hK2.at_ x25
      have e6' : H5 p6 = some (.tup [.int (x : Int), .int (y : Int)]) := x35 _ _ e6 (ne_of e6 hK3.at_ (by intro z; cases z))
      have eu5 := x25 _ _ eu ud
      have hC5 : H5 c = some (.dT ck) := x35 _ _ hC3 cd
      refine ⟨_, rfl, rfl, _, rfl, ?_⟩
      cases eb : best may wt (r.filter (· != y)) with
      | none =>
        rw [eb] at fd
        obtain rfl : v = .non := fd
        refine iteT ⟨⟨_, _, _, _, _, _, rfl, ?_⟩, x1.trans x25, eu5, kk5, hK5⟩
        rw [bs]
        unfold bstep
        rw [if_pos m, eb]
        show FoundAt H5 vb (mg2 _ none)
        rw [mg2_none_r]
        exact fb5
      | some mm =>
        rw [eb] at fd
        obtain ⟨t7, pl, ts, rfl, e7, epl, ps⟩ := fd
        have ml : mm.2.length ≤ 12 := by
          have := best_len (List.Nodup.sublist hsub4 ndR) eb
          have hll2 : r.length + 1 ≤ 12 := hll
          omega
        refine iteF ⟨_, rfl, _, rfl, c, _, rfl, .inr ⟨ck, [.inl (x : Int), .inl (y : Int)], p6, .inl hC5, rfl, e6', hcv.symm⟩, _, rfl, t7, _, 0, _, rfl, rfl, SqT.of e7, atI_nat (j := 0) rfl, _, _, rfl, rfl, ?_⟩
        have fin : ∀ b0 : Fnd, FoundAt H5 vb b0 → b0 = (r.take i).foldl (bstep may wt x r) none → mg2 b0 (some (wt x y + mm.1, (x, y) :: mm.2)) = (r.take (i + 1)).foldl (bstep may wt x r) none := fun b0 _ e => by
          rw [bs, e]
          unfold bstep
          rw [if_pos m, eb]
          rfl
        generalize hb0 : (r.take i).foldl (bstep may wt x r) none = b0 at *
        have fin := fin b0 fb5 rfl
        have new : mg2 b0 (some (wt x y + mm.1, (x, y) :: mm.2)) = some (wt x y + mm.1, (x, y) :: mm.2) → ∀ l, H5 l = none → ∀ l2, (upd H5 l (.lst [.ref p6])) l2 = none → ∀ tt, (upd (upd H5 l (.lst [.ref p6])) l2 (.lst ([.ref p6] ++ ts.map V.ref))) tt = none →
            FoundAt (upd (upd (upd H5 l (.lst [.ref p6])) l2 (.lst ([.ref p6] ++ ts.map V.ref))) tt (.tup [.int (((wt x y : Nat) : Int) + ((mm.1 : Nat) : Int)), .ref l2])) (.ref tt) ((r.take (i + 1)).foldl (bstep may wt x r) none) ∧
            Same H5 (upd (upd (upd H5 l (.lst [.ref p6])) l2 (.lst ([.ref p6] ++ ts.map V.ref))) tt (.tup [.int (((wt x y : Nat) : Int) + ((mm.1 : Nat) : Int)), .ref l2])) := fun hm l nl l2 nl2 tt ntt => by
          have sA : Same H5 (upd H5 l (.lst [.ref p6])) := same_up nl
          have sB := sA.trans (same_up (o := .lst ([.ref p6] ++ ts.map V.ref)) nl2)
          have sC := sB.trans (same_up (o := .tup [.int (((wt x y : Nat) : Int) + ((mm.1 : Nat) : Int)), .ref l2]) ntt)
          rw [← fin, hm]
          refine ⟨⟨tt, l2, p6 :: ts, rfl, ?_, ?_, ?_⟩, sC⟩
          · rw [upd_same]
            rfl
          · rw [upd_ne (ne_of_none upd_same ntt), upd_same]
            rfl
          · refine ⟨by show ts.length + 1 = (mm.2.map _).length + 1; rw [← ps.len], fun k p' pr w1 w2 => ?_⟩
            cases k with
            | zero =>
              cases w1
              cases w2
              exact sC _ _ e6'
            | succ k => exact sC _ _ (ps.at_ k p' pr w1 w2)
        have stay : ∀ b1, b0 = some b1 → ¬ wt x y + mm.1 < b1.1 → FoundAt H5 vb ((r.take (i + 1)).foldl (bstep may wt x r) none) := fun b1 e hm => by
          rw [← fin]
          subst e
          show FoundAt H5 vb (if wt x y + mm.1 < b1.1 then _ else _)
          rw [if_neg hm]
          exact fb5
        have szo : ([V.ref p6] : List V).length + (ts.map V.ref).length ≤ sizeLine := by
          have z := ps.len
          rw [List.length_map] at z ⊢
          show 1 + ts.length ≤ sizeLine
          exact Nat.le_of_lt (line_lt (by omega))
        cases b0 with
        | none =>
          obtain rfl : vb = .non := fb5
          refine ⟨_, rfl, rfl, _, rfl, iteT (iteT ⟨_, rfl, _, rfl, by show 1 ≤ sizeLine; decide, fun l nl => ⟨_, rfl, t7, _, 1, _, rfl, rfl, SqT.of (same_up nl _ _ e7), atI_nat (j := 1) rfl, l, pl, [.ref p6], ts.map V.ref, rfl, rfl, upd_same, same_up nl _ _ epl, szo, fun l2 nl2 => ⟨by show 2 ≤ sizeLine; decide, fun tt ntt => ?_⟩⟩⟩)⟩
          obtain ⟨n1, n2⟩ := new rfl l nl l2 nl2 tt ntt
          exact ⟨⟨_, _, _, _, _, _, rfl, n1⟩, x1.trans (x25.trans (.of n2)), n2 _ _ eu5, kk5, hK5.step n2 fun v l h => h.step hK5.at_ (.of n2)⟩
        | some b1 =>
          obtain ⟨tb, plb, tsb, rfl, eb7, _, _⟩ := id fb5
          refine ⟨_, rfl, rfl, _, rfl, iteF ⟨_, rfl, _, rfl, tb, _, 0, _, rfl, rfl, SqT.of eb7, atI_nat (j := 0) rfl, _, _, rfl, rfl, _, rfl, ite2 (fun cc => ⟨_, rfl, _, rfl, by show 1 ≤ sizeLine; decide, fun l nl => ⟨_, rfl, t7, _, 1, _, rfl, rfl, SqT.of (same_up nl _ _ e7), atI_nat (j := 1) rfl, l, pl, [.ref p6], ts.map V.ref, rfl, rfl, upd_same, same_up nl _ _ epl, szo, fun l2 nl2 => ⟨by show 2 ≤ sizeLine; decide, fun tt ntt => ?_⟩⟩⟩) (fun cc => ⟨⟨_, _, _, _, _, _, rfl, stay b1 rfl ?_⟩, x1.trans x25, eu5, kk5, hK5⟩)⟩⟩
          · have cc : wt x y + mm.1 < b1.1 := by
              have := of_decide_eq_true cc
              omega
            obtain ⟨n1, n2⟩ := new (if_pos cc) l nl l2 nl2 tt ntt
            exact ⟨⟨_, _, _, _, _, _, rfl, n1⟩, x1.trans (x25.trans (.of n2)), n2 _ _ eu5, kk5, hK5.step n2 fun v l h => h.step hK5.at_ (.of n2)⟩
          · intro z
            exact cc (decide_eq_true (by omega))
    · rintro σ H2 ⟨⟨vb, v5, v6, v7, v8, v9, rfl, fb⟩, x1, eu, kk2, hK2⟩
      rw [vN_len, List.take_length, ← best_cons (List.nodup_cons.mp nd).2] at fb
      have key2 : H2 t = some (.tup ((kN (x :: r)).map kV)) := x1 _ _ key1 td
      refine ⟨_, rfl, _, rfl, _, rfl, d, _, rfl, .inr ⟨kk2, kN (x :: r), t, hK2.at_, rfl, key2, line_lt (Nat.le_trans (hK2.len lR) (by decide)), rfl⟩, _, rfl, ?_⟩
      exact q _ vb _ (((ExtD.of sm1).trans x1).trans .put) (hK2.put hsub (fun o v l h => h.step hK2.at_ .put) fb) (fb.step hK2.at_ .put)
theorem ok_cheapest_at (T : Txt w K mg base) : ∀ n, OkF P w K mg base (n + 1) (He.ga K "cheapest") ["teams", "costs", "known"] (sp_cheapest K n)
  | 0 => ok_cheapest_no T
  | n + 1 => ok_cheapest_step T n (ok_cheapest_at T n)
end

section
variable {P : Program} {w : World} {K : PySem.W.Frag} {mg : Str → Option Value} {base : Heap}
end
end TR

set_option Elab.async false
set_option linter.all false
set_option maxRecDepth 100000
set_option maxHeartbeats 4000000
namespace TR
open PySem PySem.Spec PyProof.Rows L2
section
variable {P : Program} {w : World} {K : PySem.W.Frag} {mg : Str → Option Value} {base : Heap}
end
/-! ### how many pairings -/
theorem dec_bne (z y : Nat) : (!decide ((z : Int) = (y : Int))) = (z != y) := by
  by_cases h : z = y
  · subst h
    simp
  · rw [decide_eq_false (by omega), bne_iff_ne.mpr h]
    rfl
def OkC (may : Nat → Nat → Bool) (H : Hp) (v : V) (l : List Nat) : Prop := v = .int (cnt may l : Nat)
def sp_count_pairings (K : PySem.W.Frag) (n : Nat) : Sp := Sp3 fun x v1 v2 H Q => ∃ (a c d : Addr) (l R : List Nat) (may : Nat → Nat → Bool) (wt : Nat → Nat → Nat) (ck kk : List (List Key × V)), x = .ref a ∧ v1 = .ref c ∧ v2 = .ref d ∧ SqL K H a (vN l) ∧ l.length < 2 * n ∧ l.Sublist R ∧ R.Nodup ∧ R.length ≤ 12 ∧
  H c = some (.dT ck) ∧ Costs may wt R ck ∧ c ≠ d ∧ KnownAt (OkC may) R H d kk ∧
  ∀ (H' : Hp) (kk' : List (List Key × V)), ExtD d H H' → KnownAt (OkC may) R H' d kk' → Q (.int (cnt may l : Nat)) H'
section
variable {P : Program} {w : World} {K : PySem.W.Frag} {mg : Str → Option Value} {base : Heap}
theorem ok_count_no (T : Txt w K mg base) : OkF P w K mg base 1 (He.ga K "count_pairings") ["teams", "costs", "known"] (sp_count_pairings K 0) := by
  obtain ⟨fd, F⟩ := T.f_count_pairings
  refine ok3 F sc_count_pairings (fun _ _ _ _ _ _ _ _ _ => rfl) (fun cdv A outer s H x0 x1 x2 Q hr h => ?_)
  obtain ⟨_, _, _, _, _, _, _, _, _, _, _, _, _, h, _⟩ := h
  exact absurd h (by omega)
theorem ok_count_step (T : Txt w K mg base) (n : Nat) (ih : OkF P w K mg base (n + 1) (He.ga K "count_pairings") ["teams", "costs", "known"] (sp_count_pairings K n)) : OkF P w K mg base (n + 2) (He.ga K "count_pairings") ["teams", "costs", "known"] (sp_count_pairings K (n + 1)) := by
  obtain ⟨⟨fd_count_pairings, G_count_pairings, b_count_pairings⟩, k_count_pairings⟩ := ih
  obtain ⟨fd, F⟩ := T.f_count_pairings
  refine ok3 F sc_count_pairings (fun _ _ _ _ _ _ _ _ _ => rfl) (fun cdv A outer s H x0 x1 x2 Q hr h => ?_)
  refine ⟨_, (pss_cons (ps_if (pt_cmpR op_eq (pe_callB (r := rLenS K) call_len_seq (by rfl) T.n_len PySem.boot_len (pa_cons (pv 0) pa_nil)) pe_int (nomark _)) (pss_one (ps_ret pe_int)) pss_nil)
      (pss_cons (ps_set (i := 3) sc_count_pairings.nd rfl (Or.inl rfl) (pe_callTy call_tuple_of (by rfl) T.n_tuple PyProof.Rows.boot_tuple (pa_cons (pv 0) pa_nil)))
      (pss_cons (ps_if (pt_cmp (pc_din (hu_of hr) (pv 3) (pv 2))) (pss_one (ps_ret (pe_dget (hu_of hr) (pv 2) (pv 3) (fun _ _ => rfl)))) pss_nil)
      (pss_cons (ps_set (i := 4) sc_count_pairings.nd rfl (Or.inl rfl) pe_int)
      (pss_cons (ps_for PassesOwn.never rfl (pi_list (pe_slice sl_list (pv 0) (po_some pe_int) po_none)) (pg_name (i := 5) sc_count_pairings.nd rfl (Or.inr rfl)) (pss_one (ps_if (pt_cmp (pc_din (hu_of hr) (pe_tup (pa_cons (pe_ix (r := rIxL K) ix_list (pv 0) pe_int (fun _ _ => rfl)) (pa_cons (pv 5) pa_nil))) (pv 1))) (pss_one (ps_aug (i := 4) sc_count_pairings.nd rfl (Or.inl rfl) (pe_call G_count_pairings hr (by rfl) T.g_count_pairings k_count_pairings b_count_pairings .nil pass0 (pa_cons (pe_lc (own := [("team", 6)]) (g := gName 6) (by rfl) sc_count_pairings.nd (pi_list (pe_slice sl_list (pv 0) (po_some pe_int) po_none)) (blkOk_by (own := [("team", 6)]) (N := ["teams", "costs", "known", "key", "count", "partner", "team"]) (sc := defScope s_count_pairings) (by decide +kernel)) (fun _ _ _ _ _ => pg_name (i := 6) sc_count_pairings.nd rfl (Or.inl rfl)) (fun _ _ _ _ _ => pts_one (pt_cmpR op_ne (pv 6) (pv 5) (nomark _))) (fun _ _ _ _ _ => (pv 6))) (pa_cons (pv 1) (pa_cons (pv 2) pa_nil)))) ip_add)) pss_nil)))
      (pss_cons (ps_dput (hu_of hr) (pv 2) (pv 3) (pv 4) rfl)
      (pss_one (ps_ret (pv 4))))))))), ?_⟩
  obtain ⟨a, c, d, l, R, may, wt, ck, kk, rfl, rfl, rfl, hS, hl, hsub, ndR, lR, hC, hco, cd, hK, q⟩ := h
  refine ⟨_, rfl, a, _, rfl, .inl hS, rfl, _, rfl, ?_⟩
  rw [dec_int, vN_len]
  cases l with
  | nil => exact iteT (q H kk (.refl d H) hK)
  | cons x r =>
    have nd : (x :: r).Nodup := List.Nodup.sublist hsub ndR
    have hll : r.length + 1 ≤ 12 := Nat.le_trans hsub.length_le lR
    have hl' : r.length + 1 < 2 * (n + 1) := hl
    rw [decide_eq_false (show ¬ (((x :: r).length : Nat) : Int) = 0 by rw [List.length_cons]; omega)]
    refine iteF ⟨_, rfl, a, _, rfl, .inl ⟨hS, fun t nt => ?_⟩⟩
    have sm1 : Same H (upd H t (.tup (vN (x :: r)))) := same_up nt
    have hK1 := hK.step sm1 fun v l h => h
    have key1 : (upd H t (.tup (vN (x :: r)))) t = some (.tup ((kN (x :: r)).map kV)) := by rw [kN_map]; exact upd_same
    refine ⟨_, rfl, _, rfl, d, valV kk (kN (x :: r)), rfl, .inr ⟨kk, kN (x :: r), t, .inl hK1.at_, rfl, key1, rfl⟩, _, rfl, ?_⟩
    cases ek : valV kk (kN (x :: r)) with
    | some v =>
      obtain rfl : v = .int (cnt may (x :: r) : Nat) := hK1.get ek
      exact iteT ⟨_, rfl, _, rfl, d, _, rfl, .inr ⟨kk, kN (x :: r), t, .inl hK1.at_, rfl, key1, ek.symm⟩, q _ kk (.of sm1) hK1⟩
    | none =>
    refine iteF ⟨_, rfl, _, rfl, a, _, rfl, sm1.seq hS, fun u nu => ?_⟩
    have cf : cutV (vN (x :: r)) (some 1) none = vN r := cut_from _ 1
    rw [cf]
    generalize hH1 : upd H t (.tup (vN (x :: r))) = H1 at *
    have smU : Same H1 (upd H1 u (.lst (vN r))) := same_up nu
    have ud : u ≠ d := (ne_of_none hK1.at_ nu).symm
    have td : t ≠ d := ne_of key1 hK1.at_ (by intro z; cases z)
    refine ⟨u, rfl, ⟨_, SqL.of upd_same⟩, for_list (K := K) (a := u) (xs := vN r) (fun i σ H2 => (∃ v5 v6, σ = [some (.ref a), some (.ref c), some (.ref d), some (.ref t), some (.int ((r.take i).foldl (cstep may x r) 0 : Nat)), v5, v6]) ∧ ExtD d H1 H2 ∧ H2 u = some (.lst (vN r)) ∧ ∃ kk', KnownAt (OkC may) R H2 d kk')
      ⟨⟨_, _, rfl⟩, .of smU, upd_same, kk, hK1.step smU fun v l h => h⟩ (fun i σ H' _ z => SqL.of z.2.2.1) ?_ ?_⟩
    · rintro i x' σ H2 hx ⟨⟨v5, v6, rfl⟩, x1, eu, kk2, hK2⟩
      obtain ⟨y, ey, rfl⟩ := vN_at hx
      have hy : y ∈ r := List.mem_of_getElem? ey
      have bs : (r.take (i + 1)).foldl (cstep may x r) 0 = cstep may x r ((r.take i).foldl (cstep may x r) 0) y := by
        rw [take_one ey, List.foldl_append]
        rfl
      have x02 : ExtD d H H2 := (ExtD.of sm1).trans x1
      have hS2 : SqL K H2 a (vN (x :: r)) := SqL_extD hS hK.at_ x02
      have hC2 : H2 c = some (.dT ck) := x02 _ _ hC cd
      refine ⟨_, rfl, a, _, 0, _, rfl, rfl, hS2, atI_nat (j := 0) rfl, _, rfl, by show 2 ≤ sizeLine; decide, fun p6 n6 => ?_⟩
      have sm3 : Same H2 (upd H2 p6 (.tup [.int (x : Int), .int (y : Int)])) := same_up n6
      have e6 : (upd H2 p6 (.tup [.int (x : Int), .int (y : Int)])) p6 = some (.tup [.int (x : Int), .int (y : Int)]) := upd_same
      generalize hH3 : upd H2 p6 (.tup [.int (x : Int), .int (y : Int)]) = H3 at *
      have hK3 := hK2.step sm3 fun v l h => h
      have hC3 := sm3 _ _ hC2
      have hS3 := sm3.seq hS2
      refine ⟨_, rfl, c, valV ck [.inl (x : Int), .inl (y : Int)], rfl, .inr ⟨ck, [.inl (x : Int), .inl (y : Int)], p6, .inl hC3, rfl, e6, rfl⟩, _, rfl, ?_⟩
      rw [hco x y (pair_sub hsub hy)]
      by_cases m : ¬ may x y = true
      · rw [if_neg m]
        refine iteF ⟨⟨some (.int (y : Int)), v6, ?_⟩, x1.trans (.of sm3), sm3 _ _ eu, kk2, hK3⟩
        rw [bs]
        unfold cstep
        rw [if_neg m]
        rfl
      have m : may x y = true := Decidable.not_not.mp m
      rw [if_pos m]
      refine iteT ⟨_, rfl, _, rfl, _, rfl, a, _, rfl, hS3, fun u2 nu2 => ?_⟩
      rw [cf]
      have smV : Same H3 (upd H3 u2 (.lst (vN r))) := same_up nu2
      refine ⟨u2, rfl, ⟨_, SqL.of upd_same⟩, fun D nD => lc_list (K := K) (a := u2) (xs := vN r) (fun j H' => Same (upd H3 u2 (.lst (vN r))) H' ∧ H' D = some (.lst (vN ((r.take j).filter (· != y))))) ⟨same_up nD, upd_same⟩ (fun j H' _ z => SqL.of (z.1 _ _ upd_same)) ?_ ?_⟩
      · rintro j x'' H' hx' ⟨sm, eD⟩
        obtain ⟨z, ez, rfl⟩ := vN_at hx'
        refine ⟨rfl, _, rfl, _, rfl, rfl, _, rfl, ?_⟩
        rw [dec_int, dec_bne]
        refine ite2 (fun c => ?_) (fun c => ?_)
        · refine ⟨_, rfl, _, eD, ?_, fun b o e => ?_, ?_⟩
          · rw [vN_len]
            exact line_lt (Nat.le_trans (List.length_filter_le ..) (Nat.le_trans (List.length_take_le' ..) (by omega)))
          · rw [upd_ne (ne_of_none e nD)]
            exact sm b o e
          · rw [upd_same, fil1 _ ez c]
            unfold vN
            rw [List.map_append]
            rfl
        · refine ⟨sm, ?_⟩
          rw [eD, fil0 _ ez c]
      rintro H4 ⟨sm4, eD⟩
      rw [vN_len, List.take_length] at eD
      have sm4 : Same H3 H4 := smV.trans sm4
      have hK4 := hK3.step sm4 fun v l h => h
      have hsub4 : (r.filter (· != y)).Sublist R := (List.filter_sublist.trans (List.sublist_cons_self x r)).trans hsub
      have len4 : (r.filter (· != y)).length + 1 ≤ r.length := by
        have z : (r.filter (· != y)).length < r.length := by
          refine List.length_filter_lt_length_iff_exists.mpr ⟨y, hy, by simp⟩
        omega
      refine ⟨_, rfl, _, rfl, _, _, _, rfl, D, c, d, r.filter (· != y), R, may, wt, ck, kk2, rfl, rfl, rfl, SqL.of eD, by omega, hsub4, ndR, lR, sm4 _ _ hC3, hco, cd, hK4, fun H5 kk5 e5 hK5 => ⟨_, _, rfl, rfl, ?_⟩⟩
      have x25 : ExtD d H2 H5 := (ExtD.of (sm3.trans sm4)).trans e5
      refine ⟨⟨some (.int (y : Int)), v6, ?_⟩, x1.trans x25, x25 _ _ eu ud, kk5, hK5⟩
      rw [bs]
      unfold cstep
      rw [if_pos m]
      rfl
    · rintro σ H2 ⟨⟨v5, v6, rfl⟩, x1, eu, kk2, hK2⟩
      rw [vN_len, List.take_length, ← cnt_cons (List.nodup_cons.mp nd).2]
      have key2 : H2 t = some (.tup ((kN (x :: r)).map kV)) := x1 _ _ key1 td
      refine ⟨_, rfl, _, rfl, _, rfl, d, _, rfl, .inr ⟨kk2, kN (x :: r), t, hK2.at_, rfl, key2, line_lt (Nat.le_trans (hK2.len lR) (by decide)), rfl⟩, _, rfl, ?_⟩
      exact q _ _ (((ExtD.of sm1).trans x1).trans .put) (hK2.put hsub (fun o v l h => h) rfl)
theorem ok_count_at (T : Txt w K mg base) : ∀ n, OkF P w K mg base (n + 1) (He.ga K "count_pairings") ["teams", "costs", "known"] (sp_count_pairings K n)
  | 0 => ok_count_no T
  | n + 1 => ok_count_step T n (ok_count_at T n)
end

section
variable {P : Program} {w : World} {K : PySem.W.Frag} {mg : Str → Option Value} {base : Heap}
end
end TR

set_option Elab.async false
set_option linter.all false
set_option maxRecDepth 100000
namespace TR
open Vbbral
theorem total_le {k : Nat} : ∀ l : List Nat, (∀ x ∈ l, x ≤ k) → total l ≤ l.length * k
  | [], _ => by simp [total_nil]
  | x :: l, h => by
    rw [total_cons, List.length_cons, Nat.succ_mul]
    have := total_le l fun y hy => h y (List.mem_cons_of_mem _ hy)
    have := h x (List.mem_cons_self ..)
    omega
def flatG (r : Round) : List Nat := r.games.flatMap fun g => [g.a, g.b]
/-- what holds of the rounds of a state that calls lead to -/
structure Good (s : State) : Prop where
  teams : s.teams ≤ 12
  rounds : s.rounds.length ≤ 11
  ok : ∀ r ∈ s.rounds, okR2 s.teams r
  games : ∀ r ∈ s.rounds, r.games.length ≤ 6
  undone : ∀ r ∈ s.rounds, ∀ g ∈ r.games, g.done = false → g.diff = 0
  apart : ∀ r ∈ s.rounds, (flatG r).Nodup
theorem gp_le (t : Nat) (g : Game) : gamePoints t g ≤ 20 := by
  unfold gamePoints
  split
  · omega
  · split
    · exact vp_le _
    · split
      · exact vp_le _
      · omega
theorem points_le {s : State} (G : Good s) (t : Nat) : points s t ≤ 1452 := by
  unfold points
  have h := total_le (k := 132) (s.rounds.map fun r => (if r.bye = t then BYE else 0) + total (r.games.map (gamePoints t))) fun x hx => by
    obtain ⟨r, hr, rfl⟩ := List.mem_map.mp hx
    have h1 := total_le (k := 20) (r.games.map (gamePoints t)) fun y hy => by
      obtain ⟨g, _, rfl⟩ := List.mem_map.mp hy
      exact gp_le t g
    rw [List.length_map] at h1
    have h2 := G.games r hr
    have h3 : (if r.bye = t then BYE else 0) ≤ 12 := by
      split
      · exact Nat.le_refl _
      · omega
    omega
  rw [List.length_map] at h
  have := G.rounds
  omega
/-! ### who has met whom -/
theorem isOf_nat (g : Game) (x y : Nat) : isOf g (x : Int) (y : Int) = ((g.a == x && g.b == y) || (g.a == y && g.b == x)) := by
  unfold isOf
  have e : ∀ a b : Nat, decide ((a : Int) = (b : Int)) = (a == b) := fun a b => by
    rw [Bool.eq_iff_iff, decide_eq_true_iff, beq_iff_eq]
    omega
  rw [e, e, e, e]
theorem any_isOf (r : Round) (x y : Nat) : (r.games.any fun g => isOf g (x : Int) (y : Int)) = hasGame x y r := by
  unfold hasGame
  congr 1
  funext g
  exact isOf_nat g x y
theorem metIn_eq (s : State) (x y : Nat) : metIn s.rounds (x : Int) (y : Int) = match s.rounds.findIdx? (hasGame x y) with
  | none => 0
  | some i => i + 1 := by
  unfold metIn
  rw [show (fun r : Round => r.games.any fun g => isOf g (x : Int) (y : Int)) = hasGame x y from funext fun r => any_isOf r x y]
  all_goals (cases s.rounds.findIdx? (hasGame x y) <;> rfl)
theorem met_zero (s : State) (x y : Nat) : metIn s.rounds (x : Int) (y : Int) = 0 ↔ mayMeet s x y = true := by
  rw [metIn_eq]
  unfold mayMeet met
  have e : (s.rounds.any fun r => r.games.any fun g => (g.a == x && g.b == y) || (g.a == y && g.b == x)) = s.rounds.any (hasGame x y) := rfl
  rw [e]
  cases h : s.rounds.findIdx? (hasGame x y) with
  | none =>
    rw [List.findIdx?_eq_none_iff] at h
    have : s.rounds.any (hasGame x y) = false := List.any_eq_false.mpr fun r hr => Bool.eq_false_iff.mp (h r hr)
    rw [this]
    simp
  | some i =>
    have : s.rounds.any (hasGame x y) = true := by
      obtain ⟨h1, h2, _⟩ := List.findIdx?_eq_some_iff_getElem.mp h
      exact List.any_eq_true.mpr ⟨s.rounds[i], List.getElem_mem _, h2⟩
    rw [this]
    simp
theorem bye_any (s : State) (t : Nat) : (s.rounds.any fun r => decide ((r.bye : Int) = (t : Int))) = hadBye s t := by
  unfold hadBye
  congr 1
  funext r
  rw [Bool.eq_iff_iff, decide_eq_true_iff, beq_iff_eq]
  omega
/-! ### the teams by their places -/
theorem stand_len (s : State) : (stand s).length = s.teams := by
  unfold stand
  rw [List.length_map, rank_len]
theorem stand_teams (s : State) : ((stand s).map fun p => p.team) = (ranking s).map fun t : Nat => (t : Int) := by
  unfold stand
  rw [List.map_map]
  rfl
theorem stand_nodup (s : State) : ((stand s).map fun p => p.team).Nodup := by
  rw [stand_teams]
  exact List.Pairwise.map _ (fun a b h z => h (by omega)) (rank_nodup s)
theorem stand_pts {s : State} (G : Good s) : ∀ p ∈ stand s, 0 ≤ p.pts ∧ p.pts ≤ 1000000 := fun p hp => by
  obtain ⟨t, _, rfl⟩ := List.mem_map.mp hp
  have := points_le G t
  show 0 ≤ ((points s t : Nat) : Int) ∧ ((points s t : Nat) : Int) ≤ 1000000
  omega
theorem without_eq (s : State) (b : Nat) : without (stand s) (b : Int) = ((ranking s).filter (· != b)).map fun t : Nat => (t : Int) := by
  unfold without stand
  rw [List.filter_map, List.map_map]
  congr 1
  exact List.filter_congr fun t _ => dec_bne t b
def sitters (s : State) : List Nat := if s.teams % 2 = 0 then [0] else (ranking s).reverse.filter fun t => !hadBye s t
theorem sitI_eq (s : State) : sitI (stand s) = (sitters s).map fun t : Nat => (t : Int) := by
  unfold sitI sitters
  rw [stand_len]
  by_cases c : s.teams % 2 = 0
  · rw [if_pos c, if_pos c]
    rfl
  · rw [if_neg c, if_neg c]
    unfold stand
    rw [← List.map_reverse, List.filter_map, List.map_map]
    rfl
theorem filter_all_ne (s : State) : (ranking s).filter (· != 0) = ranking s := List.filter_eq_self.mpr fun t ht => by
  have := (rank_mem.mp ht).1
  simp
  omega
theorem byes_eq (s : State) : byes s = (sitters s).map fun b => (b, ways s ((ranking s).filter (· != b))) := by
  unfold byes sitters
  by_cases c : s.teams % 2 = 0
  · simp only [c, if_true]
    rw [List.map_cons, List.map_nil, filter_all_ne]
  · simp only [if_neg c]
/-! ### what is found -/
def wtOf (s : State) (mode : Nat) (x y : Nat) : Nat := if mode = 1 then gap (table s) x y * gap (table s) x y else 0
theorem table_get {s : State} {t : Nat} (h : t ≤ s.teams) : (table s).getD t 0 = points s t := by
  unfold table
  rw [List.getD_eq_getElem?_getD, List.getElem?_map, List.getElem?_range (by omega)]
  rfl
theorem gap_int {s : State} {x y : Nat} (hx : x ≤ s.teams) (hy : y ≤ s.teams) : ((gap (table s) x y * gap (table s) x y : Nat) : Int) = (((points s x : Nat) : Int) - ((points s y : Nat) : Int)) * (((points s x : Nat) : Int) - ((points s y : Nat) : Int)) := by
  unfold gap
  rw [table_get hx, table_get hy, Int.natCast_mul]
  split
  · rename_i h
    have : ((points s y - points s x : Nat) : Int) = -(((points s x : Nat) : Int) - ((points s y : Nat) : Int)) := by omega
    rw [this, Int.neg_mul_neg]
  · rename_i h
    have : ((points s x - points s y : Nat) : Int) = ((points s x : Nat) : Int) - ((points s y : Nat) : Int) := by omega
    rw [this]
theorem pair_idx {x y : Nat} : ∀ {R : List Nat}, [x, y].Sublist R → ∃ i j : Nat, i < j ∧ R[i]? = some x ∧ R[j]? = some y
  | [], h => by cases h
  | a :: R, h => by
    cases h with
    | cons _ h =>
      obtain ⟨i, j, h1, h2, h3⟩ := pair_idx h
      exact ⟨i + 1, j + 1, by omega, h2, h3⟩
    | cons_cons _ h =>
      have := List.singleton_sublist.mp h
      obtain ⟨j, hj, e⟩ := List.mem_iff_getElem.mp this
      exact ⟨0, j + 1, by omega, rfl, by show R[j]? = some y; rw [List.getElem?_eq_getElem hj, e]⟩
open L2 in
theorem costs_of {s : State} {mode : Nat} {kvs : List (List L2.Key × L2.V)} (h : CostT s.rounds (mode : Int) (stand s) kvs) : Costs (mayMeet s) (wtOf s mode) (ranking s) kvs := fun x y hxy => by
  obtain ⟨i, j, h1, h2, h3⟩ := pair_idx hxy
  have mx := (rank_mem.mp (List.mem_of_getElem? h2)).2
  have my := (rank_mem.mp (List.mem_of_getElem? h3)).2
  have z := h i j (placeOf s x) (placeOf s y) h1 (by unfold stand; rw [List.getElem?_map, h2]; rfl) (by unfold stand; rw [List.getElem?_map, h3]; rfl)
  refine z.trans ?_
  unfold costVal
  show (if metIn s.rounds (x : Int) (y : Int) = 0 then _ else _) = _
  by_cases c : mayMeet s x y = true
  · rw [if_pos ((met_zero s x y).mpr c), if_pos c]
    unfold wtOf
    by_cases m : mode = 1
    · rw [if_pos (by omega), if_pos m, gap_int mx my]
      rfl
    · rw [if_neg (by omega), if_neg m]
      rfl
  · rw [if_neg fun w => c ((met_zero s x y).mp w), if_neg c]
def bestOf (s : State) (mode b : Nat) : Fnd := best (mayMeet s) (wtOf s mode) ((ranking s).filter (· != b))
theorem best_sel (s : State) (mode : Nat) (hm : mode ≤ 1) (l : List Nat) : (best (mayMeet s) (wtOf s mode) l).map (·.2) = if mode = 0 then (ways s l).head? else (cheapest (table s) (ways s l) none).map fun y => y.2 := by
  unfold best
  show (chp _ (ways s l) none).map _ = _
  by_cases m : mode = 0
  · rw [if_pos m, chp_zero fun l => ?_]
    · cases (ways s l).head? <;> rfl
    · unfold costW wtOf
      rw [m]
      induction l with
      | nil => rfl
      | cons p l ih => rw [List.map_cons, total_cons, ih]; rfl
  · rw [if_neg m, cheapest_eq]
    have e : costW (wtOf s mode) = costBy (table s) := by
      funext l
      unfold costW costBy wtOf
      simp only [show mode = 1 by omega, if_true]
    rw [e]
theorem pick_eq (f : Nat → List Pairs) (sel : List Pairs → Option Pairs) (bst : Nat → Fnd) (h1 : ∀ b, bst b = none ↔ f b = []) (h2 : ∀ b, (bst b).map (·.2) = sel (f b)) : ∀ L : List Nat,
    (match (L.map fun b => (b, f b)).find? fun x => !x.2.isEmpty with
      | none => none
      | some x => match sel x.2 with
        | none => none
        | some l => some (x.1, l)) = L.findSome? fun b => (bst b).map fun m => (b, m.2)
  | [] => rfl
  | b :: L => by
    rw [List.map_cons, List.findSome?_cons]
    cases hb : bst b with
    | none =>
      rw [List.find?_cons_of_neg (by show ¬ (!(f b).isEmpty) = true; rw [(h1 b).mp hb]; decide)]
      exact pick_eq f sel bst h1 h2 L
    | some m =>
      have ne : (f b).isEmpty = false := by
        cases hf : f b with
        | nil =>
          rw [(h1 b).mpr hf] at hb
          cases hb
        | cons _ _ => rfl
      rw [List.find?_cons_of_pos (by show (!(f b).isEmpty) = true; rw [ne]; rfl)]
      have := h2 b
      rw [hb] at this
      show (match sel (f b) with
        | none => none
        | some l => some (b, l)) = some (b, m.2)
      rw [← this]
      rfl
theorem pairing_eq (s : State) (mode : Nat) (hm : mode ≤ 1) : pairing s mode = (sitters s).findSome? fun b => (bestOf s mode b).map fun m => (b, m.2) := by
  unfold pairing
  rw [byes_eq]
  refine pick_eq (fun b => ways s ((ranking s).filter (· != b))) (fun W => if mode = 0 then W.head? else (cheapest (table s) W none).map fun y => y.2) (bestOf s mode) (fun b => ?_) (fun b => ?_) (sitters s)
  · exact best_none
  · exact best_sel s mode hm _
theorem findSome_at {α β : Type} {f : α → Option β} : ∀ {l : List α} {i : Nat} {x : α} {y : β}, l[i]? = some x → f x = some y → (∀ j z, j < i → l[j]? = some z → f z = none) → l.findSome? f = some y
  | [], i, x, y, h, _, _ => by simp at h
  | a :: l, 0, x, y, h, hp, _ => by
    obtain rfl : a = x := Option.some.inj h
    rw [List.findSome?_cons, hp]
  | a :: l, i + 1, x, y, h, hp, no => by
    have h0 := no 0 a (by omega) rfl
    rw [List.findSome?_cons, h0]
    exact findSome_at (l := l) (i := i) h hp fun j z hj hz => no (j + 1) z (by omega) hz
theorem findSome_no {α β : Type} {f : α → Option β} {l : List α} (no : ∀ (j : Nat) (z : α), l[j]? = some z → f z = none) : l.findSome? f = none := by
  rw [List.findSome?_eq_none_iff]
  intro x hx
  obtain ⟨j, hj, e⟩ := List.mem_iff_getElem.mp hx
  exact no j x (by rw [List.getElem?_eq_getElem hj, e])
theorem sit_len {s : State} : (sitters s).length ≤ s.teams + 1 := by
  unfold sitters
  split
  · show 1 ≤ _
    omega
  · refine Nat.le_trans (List.length_filter_le ..) ?_
    rw [List.length_reverse, rank_len]
    omega
theorem total_sum (l : List Nat) : ((total l : Nat) : Int) = (l.map fun n : Nat => (n : Int)).sum := by
  induction l with
  | nil => rfl
  | cons x l ih =>
    rw [total_cons, List.map_cons, List.sum_cons, ← ih]
    omega
theorem left_eq (s : State) : ((total ((byes s).map fun x => x.2.length) : Nat) : Int) = ((sitters s).map fun b : Nat => ((cnt (mayMeet s) ((ranking s).filter (· != b)) : Nat) : Int)).sum := by
  rw [byes_eq, total_sum, List.map_map, List.map_map]
  rfl
end TR

set_option Elab.async false
set_option linter.all false
set_option maxRecDepth 100000
set_option maxHeartbeats 4000000
namespace TR
open PySem PySem.Spec PyProof.Rows L2
section
variable {P : Program} {w : World} {K : PySem.W.Frag} {mg : Str → Option Value} {base : Heap}
end
structure FreshR (H : Hp) (y : RL) : Prop where
  all : ∀ b o, H b = some o → (∀ ps, o ≠ .tbl ps) → b ≠ y.r ∧ b ≠ y.l ∧ b ∉ y.ms
section
variable {P : Program} {w : World} {K : PySem.W.Frag} {mg : Str → Option Value} {base : Heap}
theorem ok_cheapest (T : Txt w K mg base) : OkF P w K mg base 8 (He.ga K "cheapest") ["teams", "costs", "known"] (sp_cheapest K 7) := ok_cheapest_at T 7
theorem ok_count_pairings (T : Txt w K mg base) : OkF P w K mg base 8 (He.ga K "count_pairings") ["teams", "costs", "known"] (sp_count_pairings K 7) := ok_count_at T 7
end

section
variable {P : Program} {w : World} {K : PySem.W.Frag} {mg : Str → Option Value} {base : Heap}
def sp_next_round (K : PySem.W.Frag) : Sp := Sp2 fun x v1 H Q => ∃ (e er : Addr) (L : List RL) (kv : V) (s : Vbbral.State) (mode : Nat), x = .ref e ∧ v1 = .int mode ∧ mode ≤ 1 ∧ EvAt K H e er L kv s.teams s.rounds ∧ Good s ∧ LamX.Tabs (LamT K) H ∧
  (∀ H', LamX.ExtN H H' → LamX.Tabs (LamT K) H' → Vbbral.pairing s mode = none → Q .non H') ∧
  (∀ (H' : Hp) (y : RL) (b : Nat) (ps : Vbbral.Pairs), LamX.ExtN H H' → LamX.Tabs (LamT K) H' → Vbbral.pairing s mode = some (b, ps) → RoundAt K H' y (Vbbral.roundOf b ps) → y.ms.Nodup → FreshR H y → Q (.ref y.r) H')
theorem ok_next_round (T : Txt w K mg base) : OkF P w K mg base 9 (He.ga K "next_round") ["event", "mode"] (sp_next_round K) := by
  obtain ⟨⟨fd_may_sit_out, G_may_sit_out, b_may_sit_out⟩, k_may_sit_out⟩ := ok_may_sit_out (P := P) T
  obtain ⟨⟨fd_Round_init, G_Round_init, b_Round_init⟩, k_Round_init⟩ := ok_Round_init (P := P) T
  obtain ⟨⟨fd_cheapest, G_cheapest, b_cheapest⟩, k_cheapest⟩ := ok_cheapest (P := P) T
  obtain ⟨⟨fd_teams_without, G_teams_without, b_teams_without⟩, k_teams_without⟩ := ok_teams_without (P := P) T
  obtain ⟨⟨fd_pair_costs, G_pair_costs, b_pair_costs⟩, k_pair_costs⟩ := ok_pair_costs (P := P) T
  obtain ⟨⟨fd_Event_standing, G_Event_standing, b_Event_standing⟩, k_Event_standing⟩ := ok_Event_standing (P := P) T
  obtain ⟨fd, F⟩ := T.f_next_round
  refine ok2 F sc_next_round (fun _ _ _ _ _ _ _ _ => rfl) (fun cdv A outer s H x0 x1 Q hr h => ?_)
  refine ⟨_, (pss_cons (ps_set (i := 2) sc_next_round.nd rfl (Or.inl rfl) (pe_meth0 (pv 0) T.c_Event T.m_Event_standing G_Event_standing (hr.mono (by decide)) b_Event_standing .nil pass0))
      (pss_cons (ps_set (i := 3) sc_next_round.nd rfl (Or.inl rfl) (pe_call G_pair_costs (hr.mono (by decide)) (by rfl) T.g_pair_costs k_pair_costs b_pair_costs .nil pass0 (pa_cons (pv 0) (pa_cons (pv 2) (pa_cons (pv 1) pa_nil)))))
      (pss_cons (ps_set (i := 4) sc_next_round.nd rfl (Or.inl rfl) pe_dnewT)
      (pss_cons (ps_for PassesOwn.never rfl (pi_list (pe_call G_may_sit_out (hr.mono (by decide)) (by rfl) T.g_may_sit_out k_may_sit_out b_may_sit_out .nil pass0 (pa_cons (pv 2) pa_nil))) (pg_name (i := 5) sc_next_round.nd rfl (Or.inl rfl)) (pss_cons (ps_set (i := 6) sc_next_round.nd rfl (Or.inl rfl) (pe_call G_cheapest (hr.mono (by decide)) (by rfl) T.g_cheapest k_cheapest b_cheapest .nil pass0 (pa_cons (pe_call G_teams_without (hr.mono (by decide)) (by rfl) T.g_teams_without k_teams_without b_teams_without .nil pass0 (pa_cons (pv 2) (pa_cons (pv 5) pa_nil))) (pa_cons (pv 3) (pa_cons (pv 4) pa_nil)))))
      (pss_one (ps_if (pt_cmpR op_notN (pv 6) pe_non (nomark _)) (pss_one (ps_ret (pe_make T.mk_Round G_Round_init (hr.mono (by decide)) (by rfl) T.g_Round b_Round_init .nil pass0 (pa_cons (pe_ix (r := rIxT K) ix_tup (pv 6) pe_int (fun _ _ => rfl)) (pa_cons (pv 5) pa_nil))))) pss_nil))))
      (pss_one (ps_ret pe_non)))))), ?_⟩
  obtain ⟨e, er, L, kv, s0, mode, rfl, rfl, hm, hE, G, hT, q1, q2⟩ := h
  obtain ⟨dx, hp⟩ := hE.ev
  have hl12 := G.teams
  refine ⟨_, rfl, e, dx, _, rfl, hp, eF_no_standing .., _, rfl, e, er, L, kv, _, _, rfl, hE, by omega, fun r hr => (G.ok r hr).ok, hT, fun H1 p qs st eN T1 ep hP pm srt => ?_⟩
  obtain rfl := stand_eq G.ok pm srt
  have hE1 := hE.ext eN
  have sl := stand_len s0
  refine ⟨_, rfl, _, rfl, _, rfl, _, _, _, rfl, e, er, L, kv, _, _, p, qs, _, mode, rfl, rfl, rfl, hE1, SqL.of ep, hP, by omega, stand_nodup s0, stand_pts G, fun H2 c kvs s2 nc ec hc => ?_⟩
  have hco := costs_of hc
  refine fun d nd => ?_
  have s3 : Same H2 (upd H2 d (.dT [])) := same_up nd
  have cd : c ≠ d := ne_of_none ec nd
  have hK3 : KnownAt (OkB (Vbbral.mayMeet s0) (wtOf s0 mode)) (Vbbral.ranking s0) (upd H2 d (.dT [])) d [] := ⟨upd_same, List.nodup_nil, fun k v z => by cases z⟩
  generalize hH3 : upd H2 d (.dT []) = H3 at *
  refine ⟨_, rfl, _, rfl, p, qs, _, rfl, (s2.trans s3).seq (SqL.of ep), hP.same (s2.trans s3), by omega, fun H4 l s4 nl el => ?_⟩
  rw [sitI_eq] at el
  have s14 : Same H1 H4 := (s2.trans s3).trans s4
  have hK4 := hK3.step s4 fun v l h => h.step hK3.at_ (.of s4)
  have x1 : ∀ H', ExtD d H4 H' → Same H1 H' := fun H' x b o w => x _ _ (s14 _ _ w) (ne_of_none (s2 _ _ w) nd)
  have ld : l ≠ d := ne_of el hK4.at_ (by intro z; cases z)
  have nR : (Vbbral.ranking s0).Nodup := rank_nodup s0
  have lR : (Vbbral.ranking s0).length ≤ 12 := by rw [rank_len]; exact hl12
  refine ⟨l, rfl, ⟨_, SqL.of el⟩, for_list (K := K) (a := l) (xs := ((sitters s0).map fun t : Nat => (t : Int)).map V.int) (fun i σ H' => (∃ v5 v6, σ = [some (.ref e), some (.int (mode : Nat)), some (.ref p), some (.ref c), some (.ref d), v5, v6]) ∧ ExtD d H4 H' ∧ (∃ kk, KnownAt (OkB (Vbbral.mayMeet s0) (wtOf s0 mode)) (Vbbral.ranking s0) H' d kk) ∧ ∀ (j b : Nat), j < i → (sitters s0)[j]? = some b → bestOf s0 mode b = none)
    ⟨⟨_, _, rfl⟩, .refl d H4, ⟨[], hK4⟩, fun j b hj => absurd hj (by omega)⟩ (fun i σ H' _ z => SqL.of (z.2.1 _ _ el ld)) ?_ ?_⟩
  · rintro i x' σ H5 hx ⟨⟨v5, v6, rfl⟩, x5, ⟨kk, hK5⟩, no⟩
    rw [List.map_map, List.getElem?_map] at hx
    obtain ⟨b, eb, rfl⟩ := Option.map_eq_some_iff.mp hx
    have s15 := x1 _ x5
    refine ⟨_, rfl, _, rfl, _, _, rfl, p, (b : Int), qs, _, rfl, rfl, s15.seq (SqL.of ep), hP.same s15, by omega, fun H6 l2 s6 nl2 el2 => ?_⟩
    rw [without_eq, List.map_map] at el2
    have hK6 := hK5.step s6 fun v l h => h.step hK5.at_ (.of s6)
    have fl : ((Vbbral.ranking s0).filter (· != b)).length ≤ (Vbbral.ranking s0).length := List.length_filter_le ..
    refine ⟨_, rfl, _, rfl, _, _, _, rfl, l2, c, d, (Vbbral.ranking s0).filter (· != b), _, _, _, kvs, kk, rfl, rfl, rfl, SqL.of el2, by omega, List.filter_sublist, nR, lR, s6 _ _ (x5 _ _ (s4 _ _ (s3 _ _ ec)) cd), hco, cd, hK6, fun H7 v kk7 e7 hK7 fd => ?_⟩
    have x7 : ExtD d H4 H7 := (x5.trans (.of s6)).trans e7
    have s17 := x1 _ x7
    refine ⟨_, rfl, rfl, _, rfl, ?_⟩
    have fd : FoundAt H7 v (bestOf s0 mode b) := fd
    cases hb : bestOf s0 mode b with
    | none =>
      rw [hb] at fd
      obtain rfl : v = .non := fd
      refine iteF ⟨⟨_, _, rfl⟩, x7, ⟨kk7, hK7⟩, fun j b' hj hj2 => ?_⟩
      by_cases z : j = i
      · subst z
        rw [eb] at hj2
        cases hj2
        exact hb
      · exact no j b' (by omega) hj2
    | some m =>
      rw [hb] at fd
      obtain ⟨t7, pl, ts, rfl, et7, epl, ps⟩ := fd
      have ml : m.2.length ≤ 12 := by
        have := best_len (List.Nodup.sublist List.filter_sublist nR) hb
        omega
      refine iteT ⟨_, rfl, t7, _, 1, _, rfl, rfl, SqT.of et7, atI_nat (j := 1) rfl, _, rfl, fun r dr nr ndr ne => ?_⟩
      have s8 : Same H7 (upd (upd H7 dr (.own r)) r (.ins (He.ga K "Round") dr [])) := same_made nr ndr (fun _ _ => rfl)
      have psl : (m.2.map fun p => ((p.1 : Int), (p.2 : Int))).length ≤ 1000 := by rw [List.length_map]; omega
      refine ⟨_, _, _, rfl, r, dr, pl, ts, m.2.map fun p => ((p.1 : Int), (p.2 : Int)), (b : Int), rfl, rfl, rfl, upd_same, SqL.of (s8 _ _ epl), ps.same s8, psl, fun H9 l9 ms kp ins nl9 el9 lm ndm frm mats => ⟨rfl, ?_⟩⟩
      have s9 : Same H7 H9 := fun b o w => kp b o (s8 _ _ w) (ne_of_none w nr)
      have s19 : Same H1 H9 := s17.trans s9
      refine q2 H9 ⟨r, l9, ms⟩ b m.2 (eN.trans (.of s19)) (T1.ext s19) ?_ ⟨ins, el9, ?_, fun i m' g w1 w2 => ?_⟩ ndm ⟨fun b' o w1 w2 => ?_⟩
      · rw [pairing_eq s0 mode hm]
        exact findSome_at eb (by rw [hb]; rfl) fun j z hj hz => by rw [no j z hj hz]; rfl
      · rw [lm, List.length_map]
        show _ = (m.2.map _).length
        rw [List.length_map]
      · have w2 : (m.2.map fun p => (⟨p.1, p.2, false, 0⟩ : Vbbral.Game))[i]? = some g := w2
        rw [List.getElem?_map] at w2
        obtain ⟨pr, w3, rfl⟩ := Option.map_eq_some_iff.mp w2
        exact mats i m' (_, _) w1 (by rw [List.getElem?_map, w3]; rfl)
      · have w3 := s17 _ _ (eN _ _ w1 w2)
        have w4 := s8 _ _ w3
        exact ⟨ne_of_none w3 nr, ne_of_none w4 nl9, fun hm' => by rw [frm b' hm'] at w4; cases w4⟩
  · rintro σ H5 ⟨⟨v5, v6, rfl⟩, x5, _, no⟩
    refine q1 H5 (eN.trans (.of (x1 _ x5))) (T1.ext (x1 _ x5)) ?_
    rw [pairing_eq s0 mode hm]
    exact findSome_no fun j z hz => by
      rw [no j z (by rw [List.length_map, List.length_map]; exact (List.getElem?_eq_some_iff.mp hz).1) hz]
      rfl
def sp_pairings_left (K : PySem.W.Frag) : Sp := Sp1 fun x H Q => ∃ (e er : Addr) (L : List RL) (kv : V) (s : Vbbral.State), x = .ref e ∧ EvAt K H e er L kv s.teams s.rounds ∧ Good s ∧ LamX.Tabs (LamT K) H ∧
  (∀ H', LamX.ExtN H H' → LamX.Tabs (LamT K) H' → Q (.int (Vbbral.total ((Vbbral.byes s).map fun x => x.2.length) : Nat)) H')
theorem ok_pairings_left (T : Txt w K mg base) : OkF P w K mg base 9 (He.ga K "pairings_left") ["event"] (sp_pairings_left K) := by
  obtain ⟨⟨fd_may_sit_out, G_may_sit_out, b_may_sit_out⟩, k_may_sit_out⟩ := ok_may_sit_out (P := P) T
  obtain ⟨⟨fd_count_pairings, G_count_pairings, b_count_pairings⟩, k_count_pairings⟩ := ok_count_pairings (P := P) T
  obtain ⟨⟨fd_teams_without, G_teams_without, b_teams_without⟩, k_teams_without⟩ := ok_teams_without (P := P) T
  obtain ⟨⟨fd_pair_costs, G_pair_costs, b_pair_costs⟩, k_pair_costs⟩ := ok_pair_costs (P := P) T
  obtain ⟨⟨fd_Event_standing, G_Event_standing, b_Event_standing⟩, k_Event_standing⟩ := ok_Event_standing (P := P) T
  obtain ⟨fd, F⟩ := T.f_pairings_left
  refine ok1 F sc_pairings_left (fun _ _ _ _ _ _ _ => rfl) (fun cdv A outer s H x0 Q hr h => ?_)
  refine ⟨_, (pss_cons (ps_set (i := 1) sc_pairings_left.nd rfl (Or.inr rfl) (pe_meth0 (pv 0) T.c_Event T.m_Event_standing G_Event_standing (hr.mono (by decide)) b_Event_standing .nil pass0))
      (pss_cons (ps_set (i := 2) sc_pairings_left.nd rfl (Or.inr rfl) (pe_call G_pair_costs (hr.mono (by decide)) (by rfl) T.g_pair_costs k_pair_costs b_pair_costs .nil pass0 (pa_cons (pv 0) (pa_cons (pv 1) (pa_cons pe_int pa_nil)))))
      (pss_cons (ps_set (i := 3) sc_pairings_left.nd rfl (Or.inr rfl) pe_dnewT)
      (pss_one (ps_ret (pe_callB (cr_sum rfl) (by rfl) T.n_sum PyProof.Rows.boot_sum (pa_cons (pe_lc (own := [("sits_out", 4)]) (g := gName 4) (by rfl) sc_pairings_left.nd (pi_list (pe_call G_may_sit_out (hr.mono (by decide)) (by rfl) T.g_may_sit_out k_may_sit_out b_may_sit_out .nil pass0 (pa_cons (pv 1) pa_nil))) (blkOk_by (own := [("sits_out", 4)]) (N := ["event", "places", "costs", "known", "sits_out"]) (sc := defScope s_pairings_left) (by decide +kernel)) (fun _ _ _ _ _ => pg_name (i := 4) sc_pairings_left.nd rfl (Or.inl rfl)) (fun _ _ _ _ _ => pts_nil) (fun _ _ _ _ _ => (pe_call G_count_pairings (hr.mono (by decide)) (by rfl) T.g_count_pairings k_count_pairings b_count_pairings .nil pass0 (pa_cons (pe_call G_teams_without (hr.mono (by decide)) (by rfl) T.g_teams_without k_teams_without b_teams_without .nil pass0 (pa_cons (pv 1) (pa_cons (pv 4) pa_nil))) (pa_cons (pv 2) (pa_cons (pv 3) pa_nil)))))) pa_nil))))))), ?_⟩
  obtain ⟨e, er, L, kv, s0, rfl, hE, G, hT, q1⟩ := h
  obtain ⟨dx, hp⟩ := hE.ev
  have hl12 := G.teams
  refine ⟨_, rfl, e, dx, _, rfl, hp, eF_no_standing .., _, rfl, e, er, L, kv, _, _, rfl, hE, by omega, fun r hr => (G.ok r hr).ok, hT, fun H1 p qs st eN T1 ep hP pm srt => ?_⟩
  obtain rfl := stand_eq G.ok pm srt
  have hE1 := hE.ext eN
  have sl := stand_len s0
  refine ⟨_, rfl, _, rfl, _, _, _, rfl, e, er, L, kv, _, _, p, qs, _, ((0 : Nat) : Int), rfl, rfl, rfl, hE1, SqL.of ep, hP, by omega, stand_nodup s0, stand_pts G, fun H2 c kvs s2 nc ec hc => ?_⟩
  have hco := costs_of hc
  refine fun d nd => ?_
  have s3 : Same H2 (upd H2 d (.dT [])) := same_up nd
  have cd : c ≠ d := ne_of_none ec nd
  have hK3 : KnownAt (OkC (Vbbral.mayMeet s0)) (Vbbral.ranking s0) (upd H2 d (.dT [])) d [] := ⟨upd_same, List.nodup_nil, fun k v z => by cases z⟩
  generalize hH3 : upd H2 d (.dT []) = H3 at *
  refine ⟨_, rfl, _, rfl, p, qs, _, rfl, (s2.trans s3).seq (SqL.of ep), hP.same (s2.trans s3), by omega, fun H4 l s4 nl el => ?_⟩
  rw [sitI_eq] at el
  have s14 : Same H1 H4 := (s2.trans s3).trans s4
  have hK4 := hK3.step s4 fun v l h => h
  have x1 : ∀ H', ExtD d H4 H' → Same H1 H' := fun H' x b o w => x _ _ (s14 _ _ w) (ne_of_none (s2 _ _ w) nd)
  have ld : l ≠ d := ne_of el hK4.at_ (by intro z; cases z)
  have nR : (Vbbral.ranking s0).Nodup := rank_nodup s0
  have lR : (Vbbral.ranking s0).length ≤ 12 := by rw [rank_len]; exact hl12
  refine ⟨l, rfl, ⟨_, SqL.of el⟩, fun D nD => lc_list (K := K) (a := l) (xs := ((sitters s0).map fun t : Nat => (t : Int)).map V.int) (fun i H' => ExtD d H4 H' ∧ H' D = some (.lst ((((sitters s0).take i).map fun b : Nat => ((cnt (Vbbral.mayMeet s0) ((Vbbral.ranking s0).filter (· != b)) : Nat) : Int)).map V.int)) ∧ ∃ kk, KnownAt (OkC (Vbbral.mayMeet s0)) (Vbbral.ranking s0) H' d kk)
    ⟨.of (same_up nD), upd_same, [], hK4.step (same_up nD) fun v l h => h⟩ (fun i H' _ z => SqL.of (z.1 _ _ el ld)) ?_ ?_⟩
  · rintro i x' H5 hx ⟨x5, eD, kk, hK5⟩
    rw [List.map_map, List.getElem?_map] at hx
    obtain ⟨b, eb, rfl⟩ := Option.map_eq_some_iff.mp hx
    have s15 := x1 _ x5
    have Dd : D ≠ d := (ne_of_none hK4.at_ nD).symm
    refine ⟨rfl, _, rfl, _, rfl, _, _, rfl, p, (b : Int), qs, _, rfl, rfl, s15.seq (SqL.of ep), hP.same s15, by omega, fun H6 l2 s6 nl2 el2 => ?_⟩
    rw [without_eq, List.map_map] at el2
    have hK6 := hK5.step s6 fun v l h => h
    have fl : ((Vbbral.ranking s0).filter (· != b)).length ≤ (Vbbral.ranking s0).length := List.length_filter_le ..
    refine ⟨_, rfl, _, rfl, _, _, _, rfl, l2, c, d, (Vbbral.ranking s0).filter (· != b), _, _, _, kvs, kk, rfl, rfl, rfl, SqL.of el2, by omega, List.filter_sublist, nR, lR, s6 _ _ (x5 _ _ (s4 _ _ (s3 _ _ ec)) cd), hco, cd, hK6, fun H7 kk7 e7 hK7 => ?_⟩
    have x7 : ExtD d H4 H7 := (x5.trans (.of s6)).trans e7
    have x57 : ExtD d H5 H7 := (ExtD.of s6).trans e7
    refine ⟨_, x57 _ _ eD Dd, ?_, fun b' o w1 w2 => ?_, ?_, kk7, ?_⟩
    · rw [List.length_map, List.length_map]
      exact line_lt (Nat.le_trans (List.length_take_le' ..) (by have := sit_len (s := s0); omega))
    · rw [upd_ne (ne_of_none w1 nD)]
      exact x7 _ _ w1 w2
    · rw [upd_same, take_one eb, List.map_append, List.map_append]
      rfl
    · exact ⟨by rw [upd_ne Dd.symm]; exact hK7.at_, hK7.nd, hK7.ok⟩
  · rintro H5 ⟨x5, eD, _⟩
    rw [List.length_map, List.length_map, List.take_length] at eD
    refine ⟨D, _, rfl, SqL.of eD, ?_⟩
    have z := q1 H5 (eN.trans (.of (x1 _ x5))) (T1.ext (x1 _ x5))
    rw [left_eq] at z
    exact z
end
end TR

set_option Elab.async false
set_option linter.all false
set_option maxRecDepth 100000
namespace TR
open Vbbral
/-! ### rows of teams -/
def iN (l : List Nat) : List Int := l.map fun n : Nat => (n : Int)
theorem vN_int (l : List Nat) : vN l = (iN l).map L2.V.int := by
  unfold vN iN
  rw [List.map_map]
  rfl
theorem iN_len (l : List Nat) : (iN l).length = l.length := by unfold iN; rw [List.length_map]
theorem iN_nodup {l : List Nat} : (iN l).Nodup ↔ l.Nodup := by
  unfold iN List.Nodup
  rw [List.pairwise_map]
  constructor
  · intro h
    exact h.imp fun {a b} z w => z (by rw [w])
  · intro h
    exact h.imp fun {a b} z w => z (by omega)
theorem iN_mem {l : List Nat} {z : Int} : z ∈ iN l ↔ ∃ t, t ∈ l ∧ (t : Int) = z := List.mem_map
def pairsN (l : List Nat) : Pairs := twos (iN l)
theorem pairsN_cons (a b : Nat) (r : List Nat) : pairsN (a :: b :: r) = (a, b) :: pairsN r := by
  show ((a : Int).toNat, (b : Int).toNat) :: twos (iN r) = _
  rw [Int.toNat_natCast, Int.toNat_natCast]
  rfl
theorem twosI_iN : ∀ l : List Nat, twosI (iN l) = (pairsN l).map fun p => ((p.1 : Int), (p.2 : Int))
  | [] => rfl
  | [_] => rfl
  | a :: b :: r => by
    rw [pairsN_cons]
    show ((a : Int), (b : Int)) :: twosI (iN r) = _
    rw [twosI_iN r]
    rfl
theorem names_pairs : ∀ l : List Nat, l.length % 2 = 0 → namesOf (pairsN l) = l
  | [], _ => rfl
  | [_], h => by simp at h
  | a :: b :: r, h => by
    rw [pairsN_cons]
    show [a, b] ++ namesOf (pairsN r) = _
    rw [names_pairs r (by simp only [List.length_cons] at h; omega)]
    rfl
theorem pairsN_len (l : List Nat) : (pairsN l).length = l.length / 2 := by
  have h := twosI_iN l
  have h2 := congrArg List.length h
  rw [twos_len, iN_len, List.length_map] at h2
  exact h2.symm
theorem noneTwice_iff : ∀ l : List Nat, noneTwice l = true ↔ l.Nodup
  | [] => by simp [noneTwice]
  | x :: r => by
    unfold noneTwice
    rw [Bool.and_eq_true, List.nodup_cons, noneTwice_iff r]
    simp
def sitterN (n : Nat) (l : List Nat) : Nat := (((List.range n).map fun i => i + 1).find? fun t => !l.contains t).getD 0
theorem sitter_eq (s : State) {l : List Nat} (h : l.length % 2 = 0) : sitter s (pairsN l) = sitterN s.teams l := by
  unfold sitter sitterN
  rw [names_pairs l h]
theorem fault_eq (s : State) {l : List Nat} (he : l.length % 2 = 0) (h1 : ∀ t ∈ l, 1 ≤ t) : fault s (pairsN l) =
    if ¬ l.Nodup ∨ ¬ l.length = s.teams / 2 * 2 then 1 else if ∃ t ∈ l, s.teams < t then 1
    else if ¬ sitterN s.teams l = 0 ∧ hadBye s (sitterN s.teams l) = true then 2
    else if (pairsN l).any (fun p => !mayMeet s p.1 p.2) = true then 3 else 0 := by
  unfold fault
  rw [sitter_eq s he, names_pairs l he, pairsN_len]
  have e1 : (noneTwice l && (l.all (fun t => decide (1 ≤ t) && decide (t ≤ s.teams)) && l.length / 2 == s.teams / 2)) = false ↔ ((¬ l.Nodup ∨ ¬ l.length = s.teams / 2 * 2) ∨ ∃ t ∈ l, s.teams < t) := by
    rw [← Bool.not_eq_true, Bool.and_eq_true, Bool.and_eq_true, noneTwice_iff, beq_iff_eq, List.all_eq_true]
    constructor
    · intro h
      by_cases a : l.Nodup
      · by_cases b : l.length = s.teams / 2 * 2
        · refine .inr ?_
          refine Classical.byContradiction fun c => h ⟨a, fun t ht => ?_, by omega⟩
          rw [Bool.and_eq_true, decide_eq_true_iff, decide_eq_true_iff]
          refine ⟨h1 t ht, Nat.le_of_not_lt fun z => c ⟨t, ht, z⟩⟩
        · exact .inl (.inr b)
      · exact .inl (.inl a)
    · rintro ((h | h) | ⟨t, ht, h⟩) ⟨a, b, c⟩
      · exact h a
      · exact h (by omega)
      · have := b t ht
        rw [Bool.and_eq_true, decide_eq_true_iff, decide_eq_true_iff] at this
        omega
  have e2 : ((sitterN s.teams l != 0 && hadBye s (sitterN s.teams l)) = true) ↔ (¬ sitterN s.teams l = 0 ∧ hadBye s (sitterN s.teams l) = true) := by
    rw [Bool.and_eq_true, bne_iff_ne]
  have e3 : ((pairsN l).all fun p => mayMeet s p.1 p.2) = false ↔ (pairsN l).any (fun p => !mayMeet s p.1 p.2) = true := by
    rw [List.any_eq_true, List.all_eq_false]
    constructor
    · rintro ⟨x, h1, h2⟩
      exact ⟨x, h1, by rw [Bool.eq_false_iff.mpr h2]; rfl⟩
    · rintro ⟨x, h1, h2⟩
      exact ⟨x, h1, by intro z; rw [z] at h2; cases h2⟩
  by_cases a : ¬ l.Nodup ∨ ¬ l.length = s.teams / 2 * 2
  · rw [if_pos a, if_pos (e1.mpr (.inl a))]
  · rw [if_neg a]
    by_cases b : ∃ t ∈ l, s.teams < t
    · rw [if_pos b, if_pos (e1.mpr (.inr b))]
    · rw [if_neg b, if_neg fun z => (e1.mp z).elim a b]
      by_cases c : ¬ sitterN s.teams l = 0 ∧ hadBye s (sitterN s.teams l) = true
      · rw [if_pos c, if_pos (e2.mpr c)]
      · rw [if_neg c, if_neg fun z => c (e2.mp z)]
        by_cases d : (pairsN l).any (fun p => !mayMeet s p.1 p.2) = true
        · rw [if_pos d, if_pos (e3.mpr d)]
        · rw [if_neg d, if_neg fun z => d (e3.mp z)]
theorem find_at {α : Type} {p : α → Bool} : ∀ {l : List α} {i : Nat} {x : α}, l[i]? = some x → p x = true → (∀ j y, j < i → l[j]? = some y → p y = false) → l.find? p = some x
  | [], i, x, h, _, _ => by simp at h
  | a :: l, 0, x, h, hp, _ => by
    obtain rfl : a = x := Option.some.inj h
    rw [List.find?_cons_of_pos hp]
  | a :: l, i + 1, x, h, hp, no => by
    have h0 := no 0 a (by omega) rfl
    rw [List.find?_cons_of_neg (by rw [h0]; decide)]
    exact find_at (l := l) (i := i) h hp fun j y hj hy => no (j + 1) y (by omega) hy
theorem sitterN_at {n i : Nat} {l : List Nat} (hi : i < n) (h : l.contains (i + 1) = false) (no : ∀ j, j < i → l.contains (j + 1) = true) : sitterN n l = i + 1 := by
  unfold sitterN
  rw [find_at (i := i) (x := i + 1) (by rw [List.getElem?_map, List.getElem?_range hi]; rfl) (by show (!l.contains (i + 1)) = true; rw [h]; rfl) fun j y hj hy => ?_]
  · rfl
  · rw [List.getElem?_map, List.getElem?_range (by omega)] at hy
    cases hy
    show (!l.contains (j + 1)) = false
    rw [no j hj]
    rfl
theorem sitterN_no {n : Nat} {l : List Nat} (no : ∀ j, j < n → l.contains (j + 1) = true) : sitterN n l = 0 := by
  unfold sitterN
  rw [List.find?_eq_none.mpr fun x hx => ?_]
  · rfl
  · obtain ⟨j, hj, rfl⟩ := List.mem_map.mp hx
    show ¬ (!l.contains (j + 1)) = true
    rw [no j (List.mem_range.mp hj)]
    decide
open L2 in
theorem inV_N (l : List Nat) (t : Nat) : inV (.int (t : Int)) (vN l) = l.contains t := by
  induction l with
  | nil => rfl
  | cons x l ih =>
    show (((x : Int) == (t : Int)) || inV (.int (t : Int)) (vN l)) = _
    rw [ih, List.contains_cons]
    congr 1
    rw [Bool.eq_iff_iff, beq_iff_eq, beq_iff_eq]
    omega
open L2 in
theorem flat_N (l : List Nat) : (vN l).all flatV = true := by
  unfold vN
  rw [List.all_map, List.all_eq_true]
  exact fun _ _ => rfl
end TR

set_option Elab.async false
set_option linter.all false
set_option maxRecDepth 100000
set_option maxHeartbeats 4000000
namespace TR
open PySem PySem.Spec PyProof.Rows L2
theorem met_any (s : Vbbral.State) (l : List Nat) : ((pairsN l).map fun p => !decide (metIn s.rounds (p.1 : Int) (p.2 : Int) = 0)).any id = (pairsN l).any fun p => !Vbbral.mayMeet s p.1 p.2 := by
  rw [List.any_map]
  congr 1
  funext p
  show (!decide _) = (!_)
  congr 1
  rw [Bool.eq_iff_iff, decide_eq_true_iff]
  exact met_zero s p.1 p.2
theorem pairs_get {H : Hp} {ts : List Addr} {l : List Nat} (h : PairsAt H ts (twosI (iN l))) {i : Nat} {x : V} (hx : (ts.map V.ref)[i]? = some x) : ∃ t p, x = .ref t ∧ (pairsN l)[i]? = some p ∧ H t = some (.tup [.int (p.1 : Nat), .int (p.2 : Nat)]) := by
  obtain ⟨t, p, rfl, e1, e2, e3⟩ := h.get hx
  rw [twosI_iN, List.getElem?_map] at e2
  obtain ⟨q, e4, rfl⟩ := Option.map_eq_some_iff.mp e2
  exact ⟨t, q, rfl, e4, e3⟩
theorem pairs_len {H : Hp} {ts : List Addr} {l : List Nat} (h : PairsAt H ts (twosI (iN l))) : ts.length = (pairsN l).length := by
  rw [h.len, twosI_iN, List.length_map]
theorem pairsN_mem : ∀ {l : List Nat} {p : Nat × Nat}, p ∈ pairsN l → p.1 ∈ l ∧ p.2 ∈ l
  | [], p, h => by cases h
  | [_], p, h => by cases h
  | a :: b :: r, p, h => by
    rw [pairsN_cons] at h
    rcases List.mem_cons.mp h with rfl | h
    · exact ⟨List.mem_cons_self .., List.mem_cons_of_mem _ (List.mem_cons_self ..)⟩
    · have := pairsN_mem h
      exact ⟨List.mem_cons_of_mem _ (List.mem_cons_of_mem _ this.1), List.mem_cons_of_mem _ (List.mem_cons_of_mem _ this.2)⟩
def costI (s : Vbbral.State) (p : Nat × Nat) : Int := (((Vbbral.points s p.1 : Nat) : Int) - ((Vbbral.points s p.2 : Nat) : Int)) * (((Vbbral.points s p.1 : Nat) : Int) - ((Vbbral.points s p.2 : Nat) : Int))
theorem cost_eq (s : Vbbral.State) (L : Vbbral.Pairs) (h : ∀ p ∈ L, p.1 ≤ s.teams ∧ p.2 ≤ s.teams) : ((Vbbral.cost s L : Nat) : Int) = (L.map (costI s)).sum := by
  unfold Vbbral.cost Vbbral.costBy
  rw [total_sum, List.map_map]
  congr 1
  exact List.map_congr_left fun p hp => gap_int (h p hp).1 (h p hp).2
section
variable {P : Program} {w : World} {K : PySem.W.Frag} {mg : Str → Option Value} {base : Heap}
def sp_not_named (K : PySem.W.Frag) : Sp := Sp2 fun x v1 H Q => ∃ (e er : Addr) (L : List RL) (kv : V) (n : Nat) (rs : List Vbbral.Round) (a : Addr) (l : List Nat), x = .ref e ∧ v1 = .ref a ∧ EvAt K H e er L kv n rs ∧ SqL K H a (vN l) ∧ n ≤ 1000 ∧ Q (.int (sitterN n l : Nat)) H
theorem ok_not_named (T : Txt w K mg base) : OkF P w K mg base 1 (He.ga K "not_named") ["event", "row"] (sp_not_named K) := by
  obtain ⟨fd, F⟩ := T.f_not_named
  refine ok2 F sc_not_named (fun _ _ _ _ _ _ _ _ => rfl) (fun cdv A outer s H x0 x1 Q hr h => ?_)
  refine ⟨_, (pss_cons (ps_for PassesOwn.never rfl (pi_range2 (by rfl) T.n_range (pa_cons pe_int (pa_cons (pe_op op_add (pe_fldK (K := K) rfl (pv 0) rfl) pe_int) pa_nil))) (pg_name (i := 2) sc_not_named.nd rfl (Or.inl rfl)) (pss_one (ps_if (pt_cmpR (r := rIn K true) op_notIn_seq (pv 2) (pv 1) (by rfl)) (pss_one (ps_ret (pv 2))) pss_nil)))
      (pss_one (ps_ret pe_int))), ?_⟩
  obtain ⟨e, er, L, kv, n, rs, a, l, rfl, rfl, hE, hS, hn, q⟩ := h
  obtain ⟨dx, hp⟩ := hE.ev
  have nn : ((n : Int) + 1 - 1).toNat = n := by omega
  refine ⟨_, rfl, e, _, dx, _, _, rfl, hp, T.c_Event, T.na_Event_size, eF_size .., _, _, rfl, rfl, 1, _, rfl, ⟨by decide, by decide, by omega, by omega⟩, ?_⟩
  rw [nn]
  refine for_it walk_range (fun i σ H' => (∃ v, σ = [some (.ref e), some (.ref a), v]) ∧ H' = H ∧ ∀ j, j < i → l.contains (j + 1) = true) ⟨⟨_, rfl⟩, rfl, fun j hj => absurd hj (by omega)⟩ (fun _ _ _ _ _ => True.intro) ?_ ?_
  · rintro i x σ H' H2 hi ⟨⟨v, rfl⟩, rfl, no⟩ ⟨rfl, rfl⟩
    have e1 : (1 : Int) + (i : Nat) = ((i + 1 : Nat) : Int) := by omega
    refine ⟨_, rfl, _, rfl, a, _, rfl, .inl hS, rfl, flat_N l, _, rfl, ?_⟩
    show if (!inV (.int (1 + (i : Nat))) (vN l)) = true then _ else _
    rw [e1, inV_N]
    refine ite2 (fun c => ?_) (fun c => ?_)
    · have c : l.contains (i + 1) = false := by
        cases h : l.contains (i + 1) with
        | false => rfl
        | true => rw [h] at c; cases c
      rw [sitterN_at hi c no, ← e1] at q
      exact ⟨_, rfl, q⟩
    · have c : l.contains (i + 1) = true := by
        cases h : l.contains (i + 1) with
        | true => rfl
        | false => rw [h] at c; exact absurd rfl c
      refine ⟨⟨_, rfl⟩, rfl, fun j hj => ?_⟩
      by_cases z : j = i
      · rw [z]; exact c
      · exact no j (by omega)
  · rintro σ H' ⟨_, rfl, no⟩
    rw [sitterN_no no] at q
    exact q
def sp_fault (K : PySem.W.Frag) : Sp := Sp2 fun x v1 H Q => ∃ (e er : Addr) (L : List RL) (kv : V) (s : Vbbral.State) (a : Addr) (l : List Nat), x = .ref e ∧ v1 = .ref a ∧ EvAt K H e er L kv s.teams s.rounds ∧ SqL K H a (vN l) ∧ Good s ∧ 2 ≤ s.teams ∧ l.length % 2 = 0 ∧ l.length ≤ 12 ∧ (∀ t ∈ l, 1 ≤ t) ∧ ∀ H', Same H H' → Q (.int (Vbbral.fault s (pairsN l) : Nat)) H'
theorem ok_fault (T : Txt w K mg base) : OkF P w K mg base 4 (He.ga K "fault") ["event", "row"] (sp_fault K) := by
  obtain ⟨⟨fd_by_twos, G_by_twos, b_by_twos⟩, k_by_twos⟩ := ok_by_twos (P := P) T
  obtain ⟨⟨fd_Event_met_in, G_Event_met_in, b_Event_met_in⟩, k_Event_met_in⟩ := ok_Event_met_in (P := P) T
  obtain ⟨⟨fd_Event_has_sat_out, G_Event_has_sat_out, b_Event_has_sat_out⟩, k_Event_has_sat_out⟩ := ok_Event_has_sat_out (P := P) T
  obtain ⟨⟨fd_not_named, G_not_named, b_not_named⟩, k_not_named⟩ := ok_not_named (P := P) T
  obtain ⟨fd, F⟩ := T.f_fault
  refine ok2 F sc_fault (fun _ _ _ _ _ _ _ _ => rfl) (fun cdv A outer s H x0 x1 Q hr h => ?_)
  refine ⟨_, (pss_cons (ps_if (PW.pt (pw_or (pt_cmpR op_ne (pe_lenSet' rfl (by rfl) T.n_len (by rfl) T.n_set (pv 1)) (pe_callB (r := rLenS K) call_len_seq (by rfl) T.n_len PySem.boot_len (pa_cons (pv 1) pa_nil)) (nomark _)) (pw_or1 (pt_cmpR op_ne (pe_callB (r := rLenS K) call_len_seq (by rfl) T.n_len PySem.boot_len (pa_cons (pv 1) pa_nil)) (pe_op op_mul (pe_op op_fdiv (pe_fldK (K := K) rfl (pv 0) rfl) pe_int) pe_int) (nomark _))))) (pss_one (ps_ret pe_int)) pss_nil)
      (pss_cons (ps_if (pt_cmpR op_gt (pe_callB (cr_max rfl) (by rfl) T.n_max PyProof.Rows.boot_max (pa_cons (pv 1) pa_nil)) (pe_fldK (K := K) rfl (pv 0) rfl) (nomark _)) (pss_one (ps_ret pe_int)) pss_nil)
      (pss_cons (ps_set (i := 2) sc_fault.nd rfl (Or.inl rfl) (pe_call G_not_named (hr.mono (by decide)) (by rfl) T.g_not_named k_not_named b_not_named .nil pass0 (pa_cons (pv 0) (pa_cons (pv 1) pa_nil))))
      (pss_cons (ps_if (PW.pt (pw_and (pt_cmpR op_ne (pv 2) pe_int (nomark _)) (pw_and1 (pt_val (pe_meth (pv 0) T.c_Event T.m_Event_has_sat_out G_Event_has_sat_out (hr.mono (by decide)) b_Event_has_sat_out .nil pass0 (pa_cons (pv 2) pa_nil)))))) (pss_one (ps_ret pe_int)) pss_nil)
      (pss_cons (ps_if (pt_val (pe_callB (cr_any rfl) (by rfl) T.n_any PyProof.Rows.boot_any (pa_cons (pe_lc (own := [("pair", 3)]) (g := gName 3) (by rfl) sc_fault.nd (pi_list (pe_call G_by_twos (hr.mono (by decide)) (by rfl) T.g_by_twos k_by_twos b_by_twos .nil pass0 (pa_cons (pv 1) pa_nil))) (blkOk_by (own := [("pair", 3)]) (N := ["event", "row", "sits_out", "pair"]) (sc := defScope s_fault) (by decide +kernel)) (fun _ _ _ _ _ => pg_name (i := 3) sc_fault.nd rfl (Or.inl rfl)) (fun _ _ _ _ _ => pts_nil) (fun _ _ _ _ _ => (pe_cmpR op_ne (pe_meth (pv 0) T.c_Event T.m_Event_met_in G_Event_met_in (hr.mono (by decide)) b_Event_met_in .nil pass0 (pa_cons (pe_ix (r := rIxT K) ix_tup (pv 3) pe_int (fun _ _ => rfl)) (pa_cons (pe_ix (r := rIxT K) ix_tup (pv 3) pe_int (fun _ _ => rfl)) pa_nil))) pe_int (nomark _)))) pa_nil))) (pss_one (ps_ret pe_int)) pss_nil)
      (pss_one (ps_ret pe_int))))))), ?_⟩
  obtain ⟨e, er, L, kv, s0, a, l, rfl, rfl, hE, hS, G, h2, he, hl, h1, q⟩ := h
  obtain ⟨dx, hp⟩ := hE.ev
  have hl12 := G.teams
  have hS' := hS
  rw [vN_int] at hS'
  have ll : ((iN l).map V.int).length = l.length := by rw [List.length_map, iN_len]
  rw [fault_eq s0 he h1] at q
  refine ⟨_, rfl, a, iN l, rfl, hS', by rw [iN_len]; omega, fun ns hns => ?_⟩
  rw [iN_len, iN_nodup] at hns
  refine ⟨_, rfl, a, _, rfl, .inl hS, rfl, _, rfl, ?_⟩
  rw [dec_int, vN_len]
  have dv : ((s0.teams : Nat) : Int) / 2 * 2 = ((s0.teams / 2 * 2 : Nat) : Int) := by omega
  refine ite2 (fun c => ?_) (fun c => ?_)
  · have c : ¬ l.Nodup := fun z => by
      rw [hns.mpr z, decide_eq_true rfl] at c
      cases c
    rw [if_pos (.inl c)] at q
    exact iteT (q H (Same.refl H))
  · have c : l.Nodup := hns.mp (by
      refine Classical.byContradiction fun z => c ?_
      rw [decide_eq_false (by omega)]
      rfl)
    refine ⟨_, rfl, a, _, rfl, .inl hS, _, rfl, e, _, dx, _, _, rfl, hp, T.c_Event, T.na_Event_size, eF_size .., _, 2, rfl, rfl, ⟨by decide, by decide⟩, _, 2, rfl, rfl, .inl ⟨by omega, by omega⟩, rfl, _, rfl, ?_⟩
    show if (!decide (V.int (((vN l).length : Nat) : Int) = V.int (((s0.teams : Nat) : Int) / 2 * 2))) = true then _ else _
    rw [dv, dec_int, vN_len]
    refine ite2 (fun c2 => ?_) (fun c2 => ?_)
    · have c2 : ¬ l.length = s0.teams / 2 * 2 := fun z => by
        rw [decide_eq_true (by omega)] at c2
        cases c2
      rw [if_pos (.inr c2)] at q
      exact q H (Same.refl H)
    have c2 : l.length = s0.teams / 2 * 2 := by
      refine Classical.byContradiction fun z => c2 ?_
      rw [decide_eq_false (by omega)]
      rfl
    rw [if_neg (fun z => z.elim (fun z => z c) fun z => z c2)] at q
    refine ⟨_, rfl, a, iN l, rfl, hS', by rw [iN_len]; omega, fun m hm hmx => ?_⟩
    obtain ⟨tm, htm, rfl⟩ := iN_mem.mp hm
    refine ⟨_, rfl, e, _, dx, _, _, rfl, hp, T.c_Event, T.na_Event_size, eF_size .., _, _, rfl, rfl, _, rfl, ite2 (fun c3 => ?_) (fun c3 => ?_)⟩
    · have c3 := of_decide_eq_true c3
      rw [if_pos ⟨tm, htm, by omega⟩] at q
      exact q H (Same.refl H)
    have c3 : ¬ ∃ t ∈ l, s0.teams < t := fun ⟨t, ht, hlt⟩ => by
      have := hmx _ (iN_mem.mpr ⟨t, ht, rfl⟩)
      exact c3 (decide_eq_true (by omega))
    rw [if_neg c3] at q
    refine ⟨_, rfl, _, rfl, _, _, rfl, e, er, L, kv, _, _, a, l, rfl, rfl, hE, hS, by omega, ?_⟩
    refine ⟨_, rfl, rfl, _, rfl, ?_⟩
    rw [dec_int]
    have third : ∀ (H1 : Hp), Same H H1 → (∀ H', Same H H' → Q (.int ((if (pairsN l).any (fun p => !Vbbral.mayMeet s0 p.1 p.2) = true then 3 else 0 : Nat) : Nat)) H') →
        tSeq (tIfS (tB (tCB (rAny K) (tCons (tLc (iList K (tCall (sp_by_twos K) [] L2.E0 (tCons (tVar 1) tNil))) (gName 3) tYes (tOp rNe (tMeth (He.ga K "Event") "met_in" (sp_Event_met_in K) [] L2.E0 (tVar 0) (tCons (tOp (rIxT K) (tVar 3) (tC (V.int 0))) (tCons (tOp (rIxT K) (tVar 3) (tC (V.int 1))) tNil))) (tC (V.int 0))) [3]) tNil))) (tRet (tC (V.int 3))) tNext) (tRet (tC (V.int 0)))
          { nx := fun _ H' => Q V.non H', rt := Q } [some (.ref e), some (.ref a), some (.int (sitterN s0.teams l : Nat)), none] H1 := fun H1 s1 q => by
      obtain ⟨dx1, hp1⟩ := (hE.same s1).ev
      have hS1 := s1.seq hS'
      refine ⟨_, rfl, _, rfl, a, iN l, rfl, hS1, by rw [iN_len]; exact he, by rw [iN_len]; omega, fun H2 p ts s2 np ep hP => ?_⟩
      have pl := pairs_len hP
      have pm : (pairsN l).length ≤ 12 := by rw [pairsN_len]; omega
      refine ⟨p, rfl, ⟨_, SqL.of ep⟩, fun D nD => lc_list (K := K) (a := p) (xs := ts.map V.ref) (fun i H' => Same H2 H' ∧ H' D = some (.lst ((((pairsN l).take i).map fun p => !decide (metIn s0.rounds (p.1 : Int) (p.2 : Int) = 0)).map V.bl))) ⟨same_up nD, upd_same⟩ (fun i H' _ z => SqL.of (z.1 _ _ ep)) ?_ ?_⟩
      · rintro i x H' hx ⟨sm, eD⟩
        obtain ⟨t, pr, rfl, e1, e3⟩ := pairs_get hP hx
        have sH := (s1.trans s2).trans sm
        obtain ⟨de, hpe⟩ := (hE.same sH).ev
        have st := SqT.of (K := K) (sm _ _ e3)
        refine ⟨rfl, _, rfl, e, de, _, rfl, hpe, eF_no_met_in .., _, rfl, t, _, 0, _, rfl, rfl, st, atI_nat (j := 0) rfl, _, rfl, t, _, 1, _, rfl, rfl, st, atI_nat (j := 1) rfl, _, _, _, rfl, e, er, L, kv, _, _, _, _, rfl, rfl, rfl, hE.same sH, fun H3 s3 => ?_⟩
        refine ⟨rfl, _, s3 _ _ eD, ?_, fun b o w => ?_, ?_⟩
        · rw [List.length_map, List.length_map]
          exact line_lt (Nat.le_trans (List.length_take_le' ..) (by omega))
        · rw [upd_ne (ne_of_none w nD)]
          exact s3 _ _ (sm b o w)
        · rw [upd_same, take_one e1, List.map_append, List.map_append, dec_int]
          show some (HO.lst (_ ++ [V.bl (!decide ((((metIn s0.rounds (pr.1 : Int) (pr.2 : Int)) : Nat) : Int) = 0))])) = some (HO.lst (_ ++ [V.bl (!decide (metIn s0.rounds (pr.1 : Int) (pr.2 : Int) = 0))]))
          rw [show decide ((((metIn s0.rounds (pr.1 : Int) (pr.2 : Int)) : Nat) : Int) = 0) = decide (metIn s0.rounds (pr.1 : Int) (pr.2 : Int) = 0) from decide_eq_decide.mpr (by omega)]
      · rintro H' ⟨sm, eD⟩
        rw [List.length_map, pl, List.take_length] at eD
        refine ⟨D, _, rfl, SqL.of eD, _, rfl, ?_⟩
        rw [met_any]
        have q := q H' ((s1.trans s2).trans sm)
        refine ite2 (fun c5 => ?_) (fun c5 => ?_)
        · rw [if_pos c5] at q
          exact q
        · rw [if_neg c5] at q
          exact q
    refine ite2 (fun c4 => ?_) (fun c4 => ?_)
    · have c4 : ¬ sitterN s0.teams l = 0 := fun z => by
        rw [z] at c4
        cases c4
      refine ⟨_, rfl, e, dx, _, rfl, hp, eF_no_has_sat_out .., _, rfl, _, _, rfl, e, er, L, kv, _, _, _, rfl, rfl, hE, by have := G.rounds; omega, fun H1 s1 => ?_⟩
      rw [bye_any]
      refine ⟨_, rfl, ite2 (fun c5 => ?_) (fun c5 => ?_)⟩
      · rw [if_pos ⟨c4, c5⟩] at q
        exact q H1 s1
      · rw [if_neg fun z => c5 z.2] at q
        exact third H1 s1 q
    · have c4 : sitterN s0.teams l = 0 := by
        refine Classical.byContradiction fun z => c4 ?_
        rw [decide_eq_false (by omega)]
        rfl
      rw [if_neg fun z => z.1 c4] at q
      exact iteF (third H (Same.refl H) q)
def sp_row_cost (K : PySem.W.Frag) : Sp := Sp2 fun x v1 H Q => ∃ (e er : Addr) (L : List RL) (kv : V) (s : Vbbral.State) (a : Addr) (l : List Nat), x = .ref e ∧ v1 = .ref a ∧ EvAt K H e er L kv s.teams s.rounds ∧ SqL K H a (vN l) ∧ Good s ∧ LamX.Tabs (LamT K) H ∧ l.length % 2 = 0 ∧ l.length ≤ 12 ∧ (∀ t ∈ l, 1 ≤ t ∧ t ≤ s.teams) ∧ ∀ H', LamX.ExtN H H' → LamX.Tabs (LamT K) H' → Q (.int (Vbbral.cost s (pairsN l) : Nat)) H'
theorem ok_row_cost (T : Txt w K mg base) : OkF P w K mg base 5 (He.ga K "row_cost") ["event", "row"] (sp_row_cost K) := by
  obtain ⟨⟨fd_by_twos, G_by_twos, b_by_twos⟩, k_by_twos⟩ := ok_by_twos (P := P) T
  obtain ⟨⟨fd_pair_cost, G_pair_cost, b_pair_cost⟩, k_pair_cost⟩ := ok_pair_cost (P := P) T
  obtain ⟨⟨fd_Event_standing, G_Event_standing, b_Event_standing⟩, k_Event_standing⟩ := ok_Event_standing (P := P) T
  obtain ⟨fd, F⟩ := T.f_row_cost
  refine ok2 F sc_row_cost (fun _ _ _ _ _ _ _ _ => rfl) (fun cdv A outer s H x0 x1 Q hr h => ?_)
  refine ⟨_, (pss_cons (ps_set (i := 2) sc_row_cost.nd rfl (Or.inr rfl) pe_dnewK)
      (pss_cons (ps_for PassesOwn.never rfl (pi_list (pe_meth0 (pv 0) T.c_Event T.m_Event_standing G_Event_standing (hr.mono (by decide)) b_Event_standing .nil pass0)) (pg_name (i := 3) sc_row_cost.nd rfl (Or.inl rfl)) (pss_one (ps_dput (hu_of hr) (pv 2) (pe_fldK (K := K) rfl (pv 3) rfl) (pe_fldK (K := K) rfl (pv 3) rfl) rfl)))
      (pss_one (ps_ret (pe_callB (cr_sum rfl) (by rfl) T.n_sum PyProof.Rows.boot_sum (pa_cons (pe_lc (own := [("pair", 4)]) (g := gName 4) (by rfl) sc_row_cost.nd (pi_list (pe_call G_by_twos (hr.mono (by decide)) (by rfl) T.g_by_twos k_by_twos b_by_twos .nil pass0 (pa_cons (pv 1) pa_nil))) (blkOk_by (own := [("pair", 4)]) (N := ["event", "row", "points", "place", "pair"]) (sc := defScope s_row_cost) (by decide +kernel)) (fun _ _ _ _ _ => pg_name (i := 4) sc_row_cost.nd rfl (Or.inl rfl)) (fun _ _ _ _ _ => pts_nil) (fun _ _ _ _ _ => (pe_call G_pair_cost (hr.mono (by decide)) (by rfl) T.g_pair_cost k_pair_cost b_pair_cost .nil pass0 (pa_cons (pe_dget (hu_of hr) (pv 2) (pe_ix (r := rIxT K) ix_tup (pv 4) pe_int (fun _ _ => rfl)) (fun _ _ => rfl)) (pa_cons (pe_dget (hu_of hr) (pv 2) (pe_ix (r := rIxT K) ix_tup (pv 4) pe_int (fun _ _ => rfl)) (fun _ _ => rfl)) pa_nil))))) pa_nil)))))), ?_⟩
  obtain ⟨e, er, L, kv, s0, a, l, rfl, rfl, hE, hS, G, hT, he, hl, h1, q⟩ := h
  have hl12 := G.teams
  have hS' := hS
  rw [vN_int] at hS'
  refine fun d nd => ?_
  have s1 : Same H (upd H d (.dK [])) := same_up nd
  have d1 : (upd H d (.dK [])) d = some (.dK []) := upd_same
  generalize hH1 : upd H d (.dK []) = H1 at *
  have hE1 := hE.same s1
  obtain ⟨dx, hp⟩ := hE1.ev
  refine ⟨_, rfl, e, dx, _, rfl, hp, eF_no_standing .., _, rfl, e, er, L, kv, _, _, rfl, hE1, by omega, fun r hr => (G.ok r hr).ok, hT.ext s1, fun H2 p qs st eN T2 ep hP pm srt => ?_⟩
  obtain rfl := stand_eq G.ok pm srt
  have sl := stand_len s0
  have d2 : H2 d = some (.dK []) := eN _ _ d1 (fun _ z => nomatch z)
  have pd : p ≠ d := ne_of ep d2 (by intro z; cases z)
  refine ⟨p, rfl, ⟨_, SqL.of ep⟩, for_list (K := K) (a := p) (xs := qs.map V.ref) (fun i σ H' => (∃ v v4, σ = [some (.ref e), some (.ref a), some (.ref d), v, v4]) ∧ ExtD d H2 H' ∧ ∃ kvs, H' d = some (.dK kvs) ∧ kvs.length ≤ i ∧ ∀ (j t : Nat), j < i → (Vbbral.ranking s0)[j]? = some t → valV kvs (.inl (t : Int)) = some (.int (Vbbral.points s0 t : Nat)))
    ⟨⟨_, _, rfl⟩, .refl d H2, [], d2, Nat.le_refl _, fun j t hj => absurd hj (by omega)⟩ (fun i σ H' _ z => SqL.of (z.2.1 _ _ ep pd)) ?_ ?_⟩
  · rintro i x σ H' hx ⟨⟨v, v4, rfl⟩, x2, kvs, ed, kl, hk⟩
    obtain ⟨q0, s', rfl, e1, e2, dq, e3⟩ := hP.get hx
    have e3' := x2 _ _ e3 (ne_of e3 d2 (by intro z; cases z))
    unfold stand at e2
    rw [List.getElem?_map] at e2
    obtain ⟨t, et, rfl⟩ := Option.map_eq_some_iff.mp e2
    have il : i < qs.length := (List.getElem?_eq_some_iff.mp e1).1
    have ql := hP.len
    refine ⟨_, rfl, q0, _, dq, _, _, rfl, e3', T.c_Place, T.na_Place_points, pF_points .., _, rfl, _, rfl, q0, _, dq, _, _, rfl, e3', T.c_Place, T.na_Place_team, pF_team .., d, _, rfl, .inl ⟨kvs, .inl (t : Int), ed, rfl, line_lt (by omega), rfl⟩, ⟨_, _, rfl⟩, x2.trans .put, _, upd_same, Nat.le_trans (putL _ _ _) (by omega), fun j t' hj ht' => ?_⟩
    rw [valV_put]
    by_cases z : j = i
    · subst z
      rw [et] at ht'
      cases ht'
      rw [if_pos rfl]
      rfl
    · rw [if_neg, hk j t' (by omega) ht']
      intro w
      have w : (t' : Int) = (t : Int) := Sum.inl.inj w
      obtain ⟨b1, b2⟩ := List.getElem?_eq_some_iff.mp ht'
      obtain ⟨c1, c2⟩ := List.getElem?_eq_some_iff.mp et
      exact z ((List.getElem_inj (rank_nodup s0)).mp (b2.trans ((show t' = t by omega).trans c2.symm)))
  · rintro σ H3 ⟨⟨v, v4, rfl⟩, x2, kvs, ed, kl, hk⟩
    rw [List.length_map, hP.len, sl] at hk
    have val : ∀ t ∈ l, valV kvs (.inl (t : Int)) = some (.int (Vbbral.points s0 t : Nat)) := fun t ht => by
      obtain ⟨j, hj, ej⟩ := List.mem_iff_getElem.mp (rank_mem.mpr (h1 t ht))
      exact hk j t (by rw [rank_len] at hj; exact hj) (by rw [List.getElem?_eq_getElem hj, ej])
    have hS3 : SqL K H3 a ((iN l).map V.int) := sq_stay (p := fun o => ∀ kvs, o ≠ .dK kvs) (fun b o w n => x2 b o w (ne_of w d2 (n []))) (fun _ _ z => nomatch z) (fun _ _ _ z => nomatch z) (SqL_ext (s1.seq hS') eN)
    have xN : LamX.ExtN H H3 := fun b o w n => x2 _ _ (eN _ _ (s1 _ _ w) n) (ne_of_none w nd)
    have TN : ∀ H', Same H3 H' → LamX.Tabs (LamT K) H' := fun H' s4 pp hpp => by
      obtain ⟨ps, t1, t2, t3⟩ := T2 pp hpp
      refine ⟨ps, s4 _ _ (x2 _ _ t1 (ne_of t1 d2 (by intro z; cases z))), t2, fun pos cv hcv => ?_⟩
      obtain ⟨c, c1, c2⟩ := t3 pos cv hcv
      exact ⟨c, c1, s4 _ _ (x2 _ _ c2 (ne_of c2 d2 (by intro z; cases z)))⟩
    refine ⟨_, rfl, _, rfl, a, iN l, rfl, hS3, by rw [iN_len]; exact he, by rw [iN_len]; omega, fun H4 pp ts s4 np epp hPP => ?_⟩
    have pl := pairs_len hPP
    have pm : (pairsN l).length ≤ 12 := by rw [pairsN_len]; omega
    refine ⟨pp, rfl, ⟨_, SqL.of epp⟩, fun D nD => lc_list (K := K) (a := pp) (xs := ts.map V.ref) (fun i H' => Same H4 H' ∧ H' D = some (.lst ((((pairsN l).take i).map (costI s0)).map V.int))) ⟨same_up nD, upd_same⟩ (fun i H' _ z => SqL.of (z.1 _ _ epp)) ?_ ?_⟩
    · rintro i x H' hx ⟨sm, eD⟩
      obtain ⟨t, pr, rfl, e1, e3⟩ := pairs_get hPP hx
      have st := SqT.of (K := K) (sm _ _ e3)
      have mm := pairsN_mem (List.mem_of_getElem? e1)
      have ed' := sm _ _ (s4 _ _ ed)
      have b1 := points_le G pr.1
      have b2 := points_le G pr.2
      refine ⟨rfl, _, rfl, _, rfl, t, _, 0, _, rfl, rfl, st, atI_nat (j := 0) rfl, d, _, rfl, .inl ⟨kvs, .inl (pr.1 : Int), .inl ed', rfl, (val _ mm.1).symm⟩, _, rfl, _, rfl, t, _, 1, _, rfl, rfl, st, atI_nat (j := 1) rfl, d, _, rfl, .inl ⟨kvs, .inl (pr.2 : Int), .inl ed', rfl, (val _ mm.2).symm⟩, _, _, rfl, _, _, rfl, rfl, ⟨by omega, by omega⟩, _, eD, ?_, fun b o w => ?_, ?_⟩
      · rw [List.length_map, List.length_map]
        exact line_lt (Nat.le_trans (List.length_take_le' ..) (by omega))
      · rw [upd_ne (ne_of_none w nD)]
        exact sm b o w
      · rw [upd_same, take_one e1, List.map_append, List.map_append]
        rfl
    · rintro H' ⟨sm, eD⟩
      rw [List.length_map, pl, List.take_length] at eD
      have z := q H' (xN.trans (.of (s4.trans sm))) (TN H' (s4.trans sm))
      rw [cost_eq s0 _ fun p hp => ⟨(h1 _ (pairsN_mem hp).1).2, (h1 _ (pairsN_mem hp).2).2⟩] at z
      exact ⟨D, _, rfl, SqL.of eD, z⟩
end
end TR

set_option Elab.async false
set_option linter.all false
set_option maxRecDepth 100000
namespace TR
/-! ### calls in one list of numbers -/
structure CallM where
  kind : Nat
  nums : List Int
  row : List Int
def arity (k : Nat) : Nat := (RANGESm.getD k []).length
def hasRow (k : Nat) : Bool := k == 3 || (k == 4 || k == 9)
def cM (c : List (List Int)) : CallM := match c with
  | (p :: xs) :: rows => ⟨p.toNat, xs, rows.headD []⟩
  | _ => ⟨0, [], []⟩
theorem shape_eq {p : Int} {n k : Nat} (h : PyVbbral.shape p = some (n, k)) : p.toNat < 16 ∧ p = (p.toNat : Int) ∧ n = arity p.toNat ∧ k = if hasRow p.toNat = true then 1 else 0 := by
  by_cases e0 : p = 0
  · subst e0
    have e : PyVbbral.shape 0 = some (1, 0) := by decide +kernel
    rw [e] at h
    cases h
    decide +kernel
  by_cases e1 : p = 1
  · subst e1
    have e : PyVbbral.shape 1 = some (1, 0) := by decide +kernel
    rw [e] at h
    cases h
    decide +kernel
  by_cases e2 : p = 2
  · subst e2
    have e : PyVbbral.shape 2 = some (1, 0) := by decide +kernel
    rw [e] at h
    cases h
    decide +kernel
  by_cases e3 : p = 3
  · subst e3
    have e : PyVbbral.shape 3 = some (0, 1) := by decide +kernel
    rw [e] at h
    cases h
    decide +kernel
  by_cases e4 : p = 4
  · subst e4
    have e : PyVbbral.shape 4 = some (2, 1) := by decide +kernel
    rw [e] at h
    cases h
    decide +kernel
  by_cases e5 : p = 5
  · subst e5
    have e : PyVbbral.shape 5 = some (4, 0) := by decide +kernel
    rw [e] at h
    cases h
    decide +kernel
  by_cases e6 : p = 6
  · subst e6
    have e : PyVbbral.shape 6 = some (0, 0) := by decide +kernel
    rw [e] at h
    cases h
    decide +kernel
  by_cases e7 : p = 7
  · subst e7
    have e : PyVbbral.shape 7 = some (2, 0) := by decide +kernel
    rw [e] at h
    cases h
    decide +kernel
  by_cases e8 : p = 8
  · subst e8
    have e : PyVbbral.shape 8 = some (0, 0) := by decide +kernel
    rw [e] at h
    cases h
    decide +kernel
  by_cases e9 : p = 9
  · subst e9
    have e : PyVbbral.shape 9 = some (0, 1) := by decide +kernel
    rw [e] at h
    cases h
    decide +kernel
  by_cases e10 : p = 10
  · subst e10
    have e : PyVbbral.shape 10 = some (1, 0) := by decide +kernel
    rw [e] at h
    cases h
    decide +kernel
  by_cases e11 : p = 11
  · subst e11
    have e : PyVbbral.shape 11 = some (1, 0) := by decide +kernel
    rw [e] at h
    cases h
    decide +kernel
  by_cases e12 : p = 12
  · subst e12
    have e : PyVbbral.shape 12 = some (1, 0) := by decide +kernel
    rw [e] at h
    cases h
    decide +kernel
  by_cases e13 : p = 13
  · subst e13
    have e : PyVbbral.shape 13 = some (0, 0) := by decide +kernel
    rw [e] at h
    cases h
    decide +kernel
  by_cases e14 : p = 14
  · subst e14
    have e : PyVbbral.shape 14 = some (1, 0) := by decide +kernel
    rw [e] at h
    cases h
    decide +kernel
  by_cases e15 : p = 15
  · subst e15
    have e : PyVbbral.shape 15 = some (1, 0) := by decide +kernel
    rw [e] at h
    cases h
    decide +kernel
  unfold PyVbbral.shape at h
  rw [if_neg e0, if_neg e1, if_neg e2, if_neg e3, if_neg e4, if_neg e5, if_neg e6, if_neg e7, if_neg e8, if_neg e9, if_neg e10, if_neg e11, if_neg e12, if_neg e13, if_neg e14, if_neg e15] at h
  cases h
theorem call_parse {p : Int} {r : List Int} {c : List (List Int)} {t : List Int} (h : PyFlat.call PyVbbral.shape (p :: r) = some (c, t)) : p.toNat < 16 ∧ p = (p.toNat : Int) ∧ arity p.toNat ≤ r.length ∧
    ((hasRow p.toNat = false ∧ c = [p :: r.take (arity p.toNat)] ∧ t = r.drop (arity p.toNat)) ∨
     (hasRow p.toNat = true ∧ ∃ (m : Nat) (r2 : List Int), r.drop (arity p.toNat) = (m : Int) :: r2 ∧ m ≤ r2.length ∧ c = [p :: r.take (arity p.toNat), r2.take m] ∧ t = r2.drop m)) := by
  simp only [PyFlat.call] at h
  cases hs : PyVbbral.shape p with
  | none => rw [hs] at h; cases h
  | some nk =>
    obtain ⟨n, k⟩ := nk
    obtain ⟨h1, h2, h3, h4⟩ := shape_eq hs
    rw [hs] at h
    simp only at h
    split at h
    · cases h
    rename_i hl
    refine ⟨h1, h2, by omega, ?_⟩
    cases hh : hasRow p.toNat with
    | false =>
      rw [hh] at h4
      have h4 : k = 0 := h4
      subst h4
      simp only [PyFlat.rows] at h
      cases h
      exact .inl ⟨rfl, by rw [h3], by rw [h3]⟩
    | true =>
      rw [hh] at h4
      have h4 : k = 1 := h4
      subst h4
      simp only [PyFlat.rows] at h
      refine .inr ⟨rfl, ?_⟩
      rw [← h3]
      cases hd : r.drop n with
      | nil => rw [hd] at h; cases h
      | cons m r2 =>
        rw [hd] at h
        simp only [PyFlat.row] at h
        by_cases hm : 0 ≤ m ∧ m.toNat ≤ r2.length
        · rw [if_pos hm] at h
          cases h
          exact ⟨m.toNat, r2, by rw [Int.toNat_of_nonneg hm.1], hm.2, rfl, rfl⟩
        · rw [if_neg hm] at h
          cases h
theorem calls_cons {f : Nat} {p : Int} {r : List Int} {cs : List (List (List Int))} (h : PyFlat.calls PyVbbral.shape f (p :: r) = some cs) : ∃ (f' : Nat) (c : List (List Int)) (t : List Int) (cs' : List (List (List Int))), PyFlat.call PyVbbral.shape (p :: r) = some (c, t) ∧ PyFlat.calls PyVbbral.shape f' t = some cs' ∧ cs = c :: cs' := by
  cases f with
  | zero => cases h
  | succ f =>
    unfold PyFlat.calls at h
    cases hc : PyFlat.call PyVbbral.shape (p :: r) with
    | none => rw [hc] at h; cases h
    | some ct =>
      obtain ⟨c, t⟩ := ct
      rw [hc] at h
      simp only at h
      cases hr : PyFlat.calls PyVbbral.shape f t with
      | none => rw [hr] at h; cases h
      | some cs' =>
        rw [hr] at h
        cases h
        exact ⟨f, c, t, cs', rfl, hr, rfl⟩
theorem calls_nil {f : Nat} {cs : List (List (List Int))} (h : PyFlat.calls PyVbbral.shape f [] = some cs) : cs = [] := by
  cases f <;> (cases h; rfl)
/-! ### ranges -/
def rowLim (k : Nat) : Option (List Int) := if k = 3 then some [0, 12, 1, 12] else if k = 4 then some [2, 64, -10000, 10000] else if k = 9 then some [0, 12, 1, 12] else none
def rowOk (lims : List Int) (ns : List Int) : Bool := match lims with
  | [a, b, lo, hi] => !(ns.length % 2 == 1 || (decide ((ns.length : Int) < a) || decide ((ns.length : Int) > b))) && ns.all fun n => decide (lo ≤ n) && decide (n ≤ hi)
  | _ => false
def numOk (n : Int) (l : List Int) : Bool := match l with
  | [lo, hi] => decide (lo ≤ n) && decide (n ≤ hi)
  | _ => false
def inR (m : CallM) : Bool := ((m.nums.zip (RANGESm.getD m.kind [])).all fun x => numOk x.1 x.2) && match rowLim m.kind with
  | none => true
  | some lims => rowOk lims m.row
theorem rowLim_has (k : Nat) : (rowLim k).isSome = hasRow k := by
  unfold rowLim hasRow
  by_cases a : k = 3
  · subst a; rfl
  · by_cases b : k = 4
    · subst b; rfl
    · by_cases c : k = 9
      · subst c; rfl
      · rw [if_neg a, if_neg b, if_neg c]
        simp [a, b, c]
end TR

set_option Elab.async false
set_option linter.all false
set_option maxRecDepth 100000
set_option maxHeartbeats 4000000
namespace TR
open PySem PySem.Spec PyProof.Rows L2
structure CL where
  c : Addr
  nl : Addr
  rl : Addr
structure CallAt (K : PySem.W.Frag) (H : Hp) (y : CL) (m : CallM) : Prop where
  ins : InsAt K H y.c "Call" (cF (.int m.kind) (.ref y.nl) (.ref y.rl))
  nums : H y.nl = some (.lst (m.nums.map V.int))
  row : H y.rl = some (.lst (m.row.map V.int))
theorem CallAt.same {K : PySem.W.Frag} {H H' : Hp} {y : CL} {m : CallM} (h : CallAt K H y m) (s : Same H H') : CallAt K H' y m := ⟨h.ins.same s, s _ _ h.nums, s _ _ h.row⟩
structure CallsAt (K : PySem.W.Frag) (H : Hp) (cs : List CL) (ms : List CallM) : Prop where
  len : cs.length = ms.length
  at_ : ∀ (i : Nat) (y : CL) (m : CallM), cs[i]? = some y → ms[i]? = some m → CallAt K H y m
theorem CallsAt.same {K : PySem.W.Frag} {H H' : Hp} {cs : List CL} {ms : List CallM} (h : CallsAt K H cs ms) (s : Same H H') : CallsAt K H' cs ms := ⟨h.len, fun i y m e1 e2 => (h.at_ i y m e1 e2).same s⟩
theorem CallsAt.get {K : PySem.W.Frag} {H : Hp} {cs : List CL} {ms : List CallM} (h : CallsAt K H cs ms) {i : Nat} {x : V} (hx : ((cs.map CL.c).map V.ref)[i]? = some x) : ∃ y m, x = .ref y.c ∧ cs[i]? = some y ∧ ms[i]? = some m ∧ CallAt K H y m := by
  rw [List.getElem?_map, List.getElem?_map] at hx
  obtain ⟨a, e1, rfl⟩ := Option.map_eq_some_iff.mp hx
  obtain ⟨y, e2, rfl⟩ := Option.map_eq_some_iff.mp e1
  have hi : i < ms.length := by
    rw [← h.len]
    exact (List.getElem?_eq_some_iff.mp e2).1
  exact ⟨y, ms[i], rfl, e2, List.getElem?_eq_getElem hi, h.at_ i y _ e2 (List.getElem?_eq_getElem hi)⟩
theorem CallsAt.snoc {K : PySem.W.Frag} {H : Hp} {cs : List CL} {ms : List CallM} {y : CL} {m : CallM} (h : CallsAt K H cs ms) (n : CallAt K H y m) : CallsAt K H (cs ++ [y]) (ms ++ [m]) := by
  refine ⟨by rw [List.length_append, List.length_append, h.len]; rfl, fun j y' m' e1 e2 => ?_⟩
  have hl := h.len
  rcases Nat.lt_trichotomy j cs.length with c | c | c
  · rw [List.getElem?_append_left c] at e1
    rw [List.getElem?_append_left (by omega)] at e2
    exact h.at_ j y' m' e1 e2
  · rw [c, List.getElem?_append_right (Nat.le_refl _), Nat.sub_self] at e1
    rw [c, hl, List.getElem?_append_right (Nat.le_refl _), Nat.sub_self] at e2
    cases e1
    cases e2
    exact n
  · rw [List.getElem?_eq_none (by rw [List.length_append, List.length_singleton]; omega)] at e1
    cases e1
theorem cut_mid (xs : List V) {a b : Nat} (h1 : a ≤ b) (h2 : b ≤ xs.length) : cutV xs (some (a : Int)) (some (b : Int)) = (xs.drop a).take (b - a) := by
  unfold cutV
  rw [HT.sIx_nat, HT.sIx_nat, Nat.min_eq_left h2, Nat.min_eq_left (by omega)]
def lim4 (l : List Int) : Int × Int × Int × Int := match l with
  | [a, b, c, d] => (a, b, c, d)
  | _ => (0, 0, 0, 0)
theorem lim_at {lims : List Int} {k : Nat} (h : rowLim k = some lims) : lims = [(lim4 lims).1, (lim4 lims).2.1, (lim4 lims).2.2.1, (lim4 lims).2.2.2] := by
  unfold rowLim at h
  split at h
  · cases h; rfl
  · split at h
    · cases h; rfl
    · split at h
      · cases h; rfl
      · cases h
theorem look_row {u v z : Addr} (k : Nat) : (([(3, .ref u), (4, .ref v), (9, .ref z)] : List (Int × Value)).lookup (k : Int)).isSome = hasRow k := by
  unfold hasRow
  by_cases a : k = 3
  · subst a; rfl
  · by_cases b : k = 4
    · subst b; rfl
    · by_cases c : k = 9
      · subst c; rfl
      · have n : ∀ j : Nat, k ≠ j → ((k : Int) == (j : Int)) = false := fun j h => beq_eq_false_iff_ne.mpr (by omega)
        have n3 : ((k : Int) == 3) = false := n 3 a
        have n4 : ((k : Int) == 4) = false := n 4 b
        have n9 : ((k : Int) == 9) = false := n 9 c
        simp only [List.lookup, n3, n4, n9]
        simp [a, b, c]
theorem rng_two {k : Nat} {M : List (List Int)} (h : RANGESm[k]? = some M) {ns : List Int} (hn : ns ∈ M) : ∃ lo hi, ns = [lo, hi] := by
  have e : (RANGESm.all fun M => M.all fun l => l.length == 2) = true := by decide +kernel
  have e2 := (List.all_eq_true.mp ((List.all_eq_true.mp e) M (List.mem_of_getElem? h))) ns hn
  have e2 : ns.length = 2 := beq_iff_eq.mp e2
  match ns, e2 with
  | [lo, hi], _ => exact ⟨lo, hi, rfl⟩
theorem rng_at {k : Nat} (hk : k < 16) : RANGESm[k]? = some (RANGESm.getD k []) := by
  rw [List.getD_eq_getElem?_getD, List.getElem?_eq_getElem (show k < RANGESm.length from hk)]
  rfl
section
variable {P : Program} {w : World} {K : PySem.W.Frag} {mg : Str → Option Value} {base : Heap}
def sp_Call_init (K : PySem.W.Frag) : Sp := Sp4 fun x v1 v2 v3 H Q => ∃ (p dx : Addr), x = .ref p ∧ H p = some (.ins (He.ga K "Call") dx []) ∧ ∀ H' : Hp, But p H H' → H' p = some (.ins (He.ga K "Call") dx (cF v1 v2 v3)) → Q .non H'
theorem ok_Call_init (T : Txt w K mg base) : OkF P w K mg base 1 (He.ma K (He.ga K "Call") "__init__") ["self", "kind", "numbers", "row"] (sp_Call_init K) := by
  obtain ⟨fd, F⟩ := T.f_Call_init
  refine ok4 F sc_Call_init (fun _ _ _ _ _ _ _ _ _ _ => rfl) (fun cdv A outer s H x0 x1 x2 x3 Q hr h => ?_)
  refine ⟨_, (pss_cons (ps_fld (pv 0) (pv 1) rfl)
      (pss_cons (ps_fld (pv 0) (pv 2) rfl)
      (pss_one (ps_fld (pv 0) (pv 3) rfl)))), ?_⟩
  obtain ⟨p, dx, rfl, hp, q⟩ := h
  refine ⟨_, rfl, _, rfl, p, _, dx, [], rfl, hp, T.c_Call, T.na_Call_kind, (by decide), ?_⟩
  refine ⟨_, rfl, _, rfl, p, _, dx, _, rfl, upd_same, T.c_Call, T.na_Call_numbers, (by show 1 < 1000; decide), ?_⟩
  refine ⟨_, rfl, _, rfl, p, _, dx, _, rfl, upd_same, T.c_Call, T.na_Call_row, (by show 2 < 1000; decide), ?_⟩
  exact q _ ((But.upd.trans But.upd).trans But.upd) (upd_same.trans (congrArg (fun z => some (HO.ins _ dx z)) (cF_new x1 x2 x3)))
def sp_is_row_in_range (K : PySem.W.Frag) : Sp := Sp2 fun x v1 H Q => ∃ (a : Addr) (ns : List Int) (k : Nat) (lims : List Int), x = .ref a ∧ v1 = .int k ∧ SqL K H a (ns.map V.int) ∧ rowLim k = some lims ∧ ns.length ≤ 20000 ∧ ∀ H', Same H H' → Q (.bl (rowOk lims ns)) H'
theorem ok_is_row_in_range (T : Txt w K mg base) : OkF P w K mg base 1 (He.ga K "is_row_in_range") ["row", "kind"] (sp_is_row_in_range K) := by
  obtain ⟨fd, F⟩ := T.f_is_row_in_range
  refine ok2 F sc_is_row_in_range (fun _ _ _ _ _ _ _ _ => rfl) (fun cdv A outer s H x0 x1 Q hr h => ?_)
  refine ⟨_, (pss_cons (ps_set (i := 2) sc_is_row_in_range.nd rfl (Or.inr rfl) (pe_kget T.rows.choose_spec.1 (pe_glob (v := .ref (He.ga K "ROWS")) (by rfl) T.g_ROWS rfl) (pv 1) (fun _ _ => rfl)))
      (pss_cons (ps_if (PW.pt (pw_or (pt_cmpR op_eq (pe_op op_mod (pe_callB (r := rLenS K) call_len_seq (by rfl) T.n_len PySem.boot_len (pa_cons (pv 0) pa_nil)) pe_int) pe_int (nomark _)) (pw_or (pt_cmpR op_lt (pe_callB (r := rLenS K) call_len_seq (by rfl) T.n_len PySem.boot_len (pa_cons (pv 0) pa_nil)) (pe_ix (r := rIxT K) ix_tup (pv 2) pe_int (fun _ _ => rfl)) (nomark _)) (pw_or1 (pt_cmpR op_gt (pe_callB (r := rLenS K) call_len_seq (by rfl) T.n_len PySem.boot_len (pa_cons (pv 0) pa_nil)) (pe_ix (r := rIxT K) ix_tup (pv 2) pe_int (fun _ _ => rfl)) (nomark _)))))) (pss_one (ps_ret pe_bl)) pss_nil)
      (pss_one (ps_ret (pe_callB (cr_all rfl) (by rfl) T.n_all PyProof.Rows.boot_all (pa_cons (pe_lc (own := [("number", 3)]) (g := gName 3) (by rfl) sc_is_row_in_range.nd (pi_list (pv 0)) (blkOk_by (own := [("number", 3)]) (N := ["row", "kind", "limits", "number"]) (sc := defScope s_is_row_in_range) (by decide +kernel)) (fun _ _ _ _ _ => pg_name (i := 3) sc_is_row_in_range.nd rfl (Or.inl rfl)) (fun _ _ _ _ _ => pts_nil) (fun _ _ _ _ _ => (pe_chain op_le op_le (pe_ix (r := rIxT K) ix_tup (pv 2) pe_int (fun _ _ => rfl)) (pv 3) (pe_ix (r := rIxT K) ix_tup (pv 2) pe_int (fun _ _ => rfl))))) pa_nil)))))), ?_⟩
  obtain ⟨a, ns, k, lims, rfl, rfl, hS, hl, hn, q⟩ := h
  obtain ⟨u1, u2, u3, ek, hu⟩ := T.rows.choose_spec.2
  have tl : ∃ u : Addr, T.rows.choose.lookup (k : Int) = some (.ref u) ∧ ∀ H, SqT K H u (lims.map V.int) := by
    rw [ek]
    unfold rowLim at hl
    split at hl
    · rename_i z
      subst z
      cases hl
      exact ⟨u1, rfl, fun H => (hu H).1⟩
    · split at hl
      · rename_i z
        subst z
        cases hl
        exact ⟨u2, rfl, fun H => (hu H).2.1⟩
      · split at hl
        · rename_i z
          subst z
          cases hl
          exact ⟨u3, rfl, fun H => (hu H).2.2⟩
        · cases hl
  obtain ⟨u, lk, hT⟩ := tl
  have el := lim_at hl
  generalize lim4 lims = LL at el
  obtain ⟨l0, l1, l2, l3⟩ := LL
  subst el
  replace q : ∀ H', Same H H' → Q (.bl (!(ns.length % 2 == 1 || (decide ((ns.length : Int) < l0) || decide ((ns.length : Int) > l1))) && ns.all fun n => decide (l2 ≤ n) && decide (n ≤ l3))) H' := q
  refine ⟨_, rfl, rfl, (k : Int), _, .ref u, rfl, lk, rfl, ?_⟩
  refine ⟨_, rfl, a, _, rfl, .inl hS, _, 2, rfl, rfl, (show (0 : Int) < 2 by decide), rfl, _, rfl, ?_⟩
  rw [dec_int, List.length_map]
  have bad : (ns.length % 2 == 1 || (decide ((ns.length : Int) < l0) || decide ((ns.length : Int) > l1))) = true → Q (.bl false) H := fun b => by
    rw [b] at q
    exact q H (Same.refl H)
  refine ite2 (fun c => ?_) (fun c => ?_)
  · have c := of_decide_eq_true c
    exact iteT (bad (by rw [Bool.or_eq_true, beq_iff_eq]; exact .inl (by omega)))
  have c : ¬ ns.length % 2 = 1 := fun z => c (decide_eq_true (by omega))
  refine ⟨_, rfl, a, _, rfl, .inl hS, _, rfl, u, _, 0, _, rfl, rfl, hT H, atI_nat (j := 0) rfl, _, _, rfl, rfl, _, rfl, ?_⟩
  rw [List.length_map]
  refine ite2 (fun c2 => ?_) (fun c2 => ?_)
  · exact iteT (bad (by rw [Bool.or_eq_true, Bool.or_eq_true]; exact .inr (.inl c2)))
  refine ⟨_, rfl, a, _, rfl, .inl hS, _, rfl, u, _, 1, _, rfl, rfl, hT H, atI_nat (j := 1) rfl, _, _, rfl, rfl, _, rfl, ?_⟩
  rw [List.length_map]
  refine ite2 (fun c3 => ?_) (fun c3 => ?_)
  · exact bad (by rw [Bool.or_eq_true, Bool.or_eq_true]; exact .inr (.inr c3))
  have good : (ns.length % 2 == 1 || (decide ((ns.length : Int) < l0) || decide ((ns.length : Int) > l1))) = false := by
    rw [Bool.eq_false_iff, Ne, Bool.or_eq_true, Bool.or_eq_true, beq_iff_eq]
    rintro (z | z | z)
    · exact c z
    · exact c2 z
    · exact c3 z
  rw [good] at q
  refine ⟨_, rfl, a, rfl, ⟨_, hS⟩, fun D nD => lc_list (K := K) (a := a) (xs := ns.map V.int) (fun i H' => Same H H' ∧ H' D = some (.lst (((ns.take i).map fun n => decide (l2 ≤ n) && decide (n ≤ l3)).map V.bl))) ⟨same_up nD, upd_same⟩ (fun i H' _ z => z.1.seq hS) ?_ ?_⟩
  · rintro i x H' hx ⟨sm, eD⟩
    obtain ⟨z, ez, rfl⟩ := map_int_at hx
    have fin : ∀ b : Bool, b = (decide (l2 ≤ z) && decide (z ≤ l3)) → ∃ acc, H' D = some (HO.lst acc) ∧ acc.length < sizeLine ∧ (Same H (upd H' D (HO.lst (acc ++ [V.bl b]))) ∧ (upd H' D (HO.lst (acc ++ [V.bl b]))) D = some (.lst (((ns.take (i + 1)).map fun n => decide (l2 ≤ n) && decide (n ≤ l3)).map V.bl))) := fun b eb => by
      refine ⟨_, eD, ?_, fun b o w => ?_, ?_⟩
      · rw [List.length_map, List.length_map]
        exact line_lt (Nat.le_trans (List.length_take_le' ..) (by omega))
      · rw [upd_ne (ne_of_none w nD)]
        exact sm b o w
      · rw [upd_same, take_one ez, List.map_append, List.map_append, eb]
        rfl
    refine ⟨rfl, _, rfl, u, _, 2, _, rfl, rfl, hT H', atI_nat (j := 2) rfl, _, rfl, _, _, rfl, rfl, _, rfl, ite2 (fun d1 => ?_) (fun d1 => ?_)⟩
    · refine ⟨_, rfl, u, _, 3, _, rfl, rfl, hT H', atI_nat (j := 3) rfl, _, _, rfl, rfl, fin _ ?_⟩
      have d1 : decide (l2 ≤ z) = true := d1
      rw [d1]
      rfl
    · refine fin _ ?_
      have d1 : decide (l2 ≤ z) = false := Bool.eq_false_iff.mpr d1
      rw [d1]
      rfl
  · rintro H' ⟨sm, eD⟩
    rw [List.length_map, List.take_length] at eD
    refine ⟨D, _, rfl, SqL.of eD, ?_⟩
    rw [List.all_map]
    exact q H' sm
def sp_Call_is_in_range (K : PySem.W.Frag) : Sp := Sp1 fun x H Q => ∃ (y : CL) (m : CallM), x = .ref y.c ∧ CallAt K H y m ∧ m.kind < 16 ∧ m.nums.length = arity m.kind ∧ m.row.length ≤ 20000 ∧ ∀ H', Same H H' → Q (.bl (inR m)) H'
theorem ok_Call_is_in_range (T : Txt w K mg base) : OkF P w K mg base 2 (He.ma K (He.ga K "Call") "is_in_range") ["self"] (sp_Call_is_in_range K) := by
  obtain ⟨⟨fd_is_row_in_range, G_is_row_in_range, b_is_row_in_range⟩, k_is_row_in_range⟩ := ok_is_row_in_range (P := P) T
  obtain ⟨fd, F⟩ := T.f_Call_is_in_range
  refine ok1 F sc_Call_is_in_range (fun _ _ _ _ _ _ _ => rfl) (fun cdv A outer s H x0 Q hr h => ?_)
  refine ⟨_, (pss_cons (ps_for PassesOwn.never rfl (pi_zm (by rfl) T.n_zip (pa_cons (pe_fldK (K := K) rfl (pv 0) rfl) (pa_cons (pe_ix (r := rIxT K) ix_tup (pe_glob (v := .ref (He.ga K "RANGES")) (by rfl) T.g_RANGES rfl) (pe_fldK (K := K) rfl (pv 0) rfl) (fun _ _ => rfl)) pa_nil))) (pg_tup (by rfl) (pgs_cons (pg_name (i := 1) sc_Call_is_in_range.nd rfl (Or.inl rfl)) (pgs_cons (pg_name (i := 2) sc_Call_is_in_range.nd rfl (Or.inl rfl)) pgs_nil))) (pss_one (ps_if (PW.pt (pw_or (pt_cmpR op_lt (pv 1) (pe_ix (r := rIxT K) ix_tup (pv 2) pe_int (fun _ _ => rfl)) (nomark _)) (pw_or1 (pt_cmpR op_gt (pv 1) (pe_ix (r := rIxT K) ix_tup (pv 2) pe_int (fun _ _ => rfl)) (nomark _))))) (pss_one (ps_ret pe_bl)) pss_nil)))
      (pss_one (ps_ret (pe_or (pe_cmpR (op_notIn_ki T.rows.choose_spec.1) (pe_fldK (K := K) rfl (pv 0) rfl) (pe_glob (v := .ref (He.ga K "ROWS")) (by rfl) T.g_ROWS rfl) (by rfl)) (pe_one (pe_call G_is_row_in_range (hr.mono (by decide)) (by rfl) T.g_is_row_in_range k_is_row_in_range b_is_row_in_range .nil pass0 (pa_cons (pe_fldK (K := K) rfl (pv 0) rfl) (pa_cons (pe_fldK (K := K) rfl (pv 0) rfl) pa_nil)))))))), ?_⟩
  obtain ⟨y, m, rfl, hC, hk, ha, hr', q⟩ := h
  obtain ⟨bs, bl, bR, bM⟩ := T.ranges
  have kb : m.kind < bs.length := by omega
  obtain ⟨b, eb⟩ : ∃ b, bs[m.kind]? = some b := ⟨_, List.getElem?_eq_getElem kb⟩
  have hM := rng_at hk
  obtain ⟨cs, cl, cR, cM⟩ := bM _ _ _ eb hM
  have ha : m.nums.length = (RANGESm.getD m.kind []).length := ha
  unfold inR at q
  generalize hMM : RANGESm.getD m.kind [] = M at *
  obtain ⟨dx, hp⟩ := hC.ins
  have lkr := look_row (u := T.rows.choose_spec.2.choose) (v := T.rows.choose_spec.2.choose_spec.choose) (z := T.rows.choose_spec.2.choose_spec.choose_spec.choose) m.kind
  rw [← T.rows.choose_spec.2.choose_spec.choose_spec.choose_spec.1] at lkr
  refine ⟨_, rfl, y.c, _, dx, _, _, rfl, hp, T.c_Call, T.na_Call_numbers, cF_numbers .., _, rfl, y.c, _, dx, _, _, rfl, hp, T.c_Call, T.na_Call_kind, cF_kind .., _, _, _, _, rfl, rfl, bR H, at_ref m.kind rfl eb, y.nl, b, m.nums.map V.int, cs.map V.ref, rfl, SqL.of hC.nums, cR H, ?_⟩
  refine for_it (walk_zm (by rw [List.length_map, List.length_map]; omega)) (fun i σ H' => (∃ v v2, σ = [some (.ref y.c), v, v2]) ∧ Same H H' ∧ ∀ j n l, j < i → m.nums[j]? = some n → M[j]? = some l → numOk n l = true) ⟨⟨_, _, rfl⟩, Same.refl H, fun j n l hj => absurd hj (by omega)⟩ (fun i σ H' _ z => ⟨z.2.1.seq (SqL.of hC.nums), cR H'⟩) ?_ ?_
  · rintro i x σ H' H2 hi ⟨⟨v, v2, rfl⟩, sm, ok⟩ ⟨t, x1, x2, rfl, nt, rfl, ex1, ex2⟩
    obtain ⟨n, en, rfl⟩ := map_int_at ex1
    replace ex2 : (cs.map V.ref)[i]? = some x2 := ex2
    rw [List.getElem?_map] at ex2
    obtain ⟨c, ec, rfl⟩ := Option.map_eq_some_iff.mp ex2
    have il : i < M.length := by rw [← cl]; exact (List.getElem?_eq_some_iff.mp ec).1
    obtain ⟨l, el⟩ : ∃ l, M[i]? = some l := ⟨_, List.getElem?_eq_getElem il⟩
    have hc := cM _ _ _ ec el
    obtain ⟨lo, hi', rfl⟩ := rng_two hM (List.mem_of_getElem? el)
    have sT : Same H (upd H' t (.tup [.int n, .ref c])) := sm.trans (same_up nt)
    have bad : numOk n [lo, hi'] = false → ∀ H', Same H H' → Q (.bl false) H' := fun b => by
      have : ((m.nums.zip M).all fun x => numOk x.1 x.2) = false := by
        rw [List.all_eq_false]
        exact ⟨(n, [lo, hi']), List.mem_of_getElem? (i := i) (List.getElem?_zip_eq_some.mpr ⟨en, el⟩), by rw [b]; decide⟩
      rw [this] at q
      exact q
    refine ⟨t, _, rfl, SqT.of upd_same, rfl, _, _, rfl, _, _, rfl, rfl, _, rfl, _, rfl, c, _, 0, _, rfl, rfl, hc _, atI_nat (j := 0) rfl, _, _, rfl, rfl, _, rfl, ite2 (fun c1 => ?_) (fun c1 => ?_)⟩
    · have c1 := of_decide_eq_true c1
      refine iteT (bad ?_ _ sT)
      show (decide (lo ≤ n) && decide (n ≤ hi')) = false
      rw [decide_eq_false (by omega)]
      rfl
    refine ⟨_, rfl, _, rfl, c, _, 1, _, rfl, rfl, hc _, atI_nat (j := 1) rfl, _, _, rfl, rfl, _, rfl, ite2 (fun c2 => ?_) (fun c2 => ?_)⟩
    · have c2 := of_decide_eq_true c2
      refine bad ?_ _ sT
      show (decide (lo ≤ n) && decide (n ≤ hi')) = false
      rw [decide_eq_false (show ¬ n ≤ hi' by omega), Bool.and_false]
    refine ⟨⟨_, _, rfl⟩, sT, fun j n' l' hj e1 e2 => ?_⟩
    by_cases z : j = i
    · subst z
      rw [en] at e1
      rw [el] at e2
      cases e1
      cases e2
      have c1 : ¬ n < lo := fun z => c1 (decide_eq_true z)
      have c2 : ¬ n > hi' := fun z => c2 (decide_eq_true z)
      show (decide (lo ≤ n) && decide (n ≤ hi')) = true
      rw [decide_eq_true (by omega), decide_eq_true (by omega)]
      rfl
    · exact ok j n' l' (by omega) e1 e2
  · rintro σ H' ⟨⟨v, v2, rfl⟩, sm, ok⟩
    have all : ((m.nums.zip M).all fun x => numOk x.1 x.2) = true := List.all_eq_true.mpr fun x hx => by
      obtain ⟨j, hj, ej⟩ := List.mem_iff_getElem.mp hx
      have ej2 : (m.nums.zip M)[j]? = some x := by rw [List.getElem?_eq_getElem hj, ej]
      rw [List.getElem?_zip_eq_some] at ej2
      exact ok j x.1 x.2 (by rw [List.length_map]; exact (List.getElem?_eq_some_iff.mp ej2.1).1) ej2.1 ej2.2
    rw [all] at q
    have hp' := sm _ _ hp
    have rh := rowLim_has m.kind
    rw [← lkr] at rh
    refine ⟨_, rfl, y.c, _, dx, _, _, rfl, hp', T.c_Call, T.na_Call_kind, cF_kind .., (m.kind : Int), rfl, rfl, _, rfl, ?_⟩
    rw [← rh]
    cases hl : rowLim m.kind with
    | none =>
      rw [hl] at q
      exact iteT (q H' sm)
    | some lims =>
      rw [hl] at q
      refine iteF ⟨_, rfl, y.c, _, dx, _, _, rfl, hp', T.c_Call, T.na_Call_row, cF_row .., _, rfl, y.c, _, dx, _, _, rfl, hp', T.c_Call, T.na_Call_kind, cF_kind .., _, _, rfl, y.rl, m.row, m.kind, lims, rfl, rfl, SqL.of (sm _ _ hC.row), hl, hr', fun H2 s2 => q H2 (sm.trans s2)⟩
def sp_split_calls (K : PySem.W.Frag) : Sp := Sp1 fun x H Q => ∃ (a : Addr) (l : List Int) (raw : List (List (List Int))), x = .ref a ∧ SqL K H a (l.map V.int) ∧ l.length ≤ 17000 ∧ PyFlat.calls PyVbbral.shape l.length l = some raw ∧
  ∀ (H' : Hp) (p : Addr) (cs : List CL), Same H H' → H' p = some (.lst ((cs.map CL.c).map V.ref)) → CallsAt K H' cs (raw.map cM) → (∀ y ∈ cs, H y.nl = none ∧ H y.rl = none) → H p = none → Q (.ref p) H'
theorem ok_split_calls (T : Txt w K mg base) : OkF P w K mg base 3 (He.ga K "split_calls") ["calls"] (sp_split_calls K) := by
  obtain ⟨⟨fd_Call_init, G_Call_init, b_Call_init⟩, k_Call_init⟩ := ok_Call_init (P := P) T
  obtain ⟨fd, F⟩ := T.f_split_calls
  refine ok1 F sc_split_calls (fun _ _ _ _ _ _ _ => rfl) (fun cdv A outer s H x0 Q hr h => ?_)
  refine ⟨_, (pss_cons (ps_set (i := 1) sc_split_calls.nd rfl (Or.inl rfl) (pe_lst pa_nil))
      (pss_cons (ps_set (i := 2) sc_split_calls.nd rfl (Or.inl rfl) pe_int)
      (pss_cons (ps_while PassesOwn.never (pt_cmpR op_lt (pv 2) (pe_callB (r := rLenS K) call_len_seq (by rfl) T.n_len PySem.boot_len (pa_cons (pv 0) pa_nil)) (nomark _)) (pss_cons (ps_set (i := 3) sc_split_calls.nd rfl (Or.inl rfl) (pe_ix (r := rIxL K) ix_list (pv 0) (pv 2) (fun _ _ => rfl)))
      (pss_cons (ps_set (i := 4) sc_split_calls.nd rfl (Or.inl rfl) (pe_op op_add (pe_op op_add (pv 2) pe_int) (pe_callB (r := rLenS K) call_len_seq (by rfl) T.n_len PySem.boot_len (pa_cons (pe_ix (r := rIxT K) ix_tup (pe_glob (v := .ref (He.ga K "RANGES")) (by rfl) T.g_RANGES rfl) (pv 3) (fun _ _ => rfl)) pa_nil))))
      (pss_cons (ps_set (i := 5) sc_split_calls.nd rfl (Or.inl rfl) (pe_slice sl_list (pv 0) (po_some (pe_op op_add (pv 2) pe_int)) (po_some (pv 4))))
      (pss_cons (ps_set (i := 6) sc_split_calls.nd rfl (Or.inl rfl) (pe_lst pa_nil))
      (pss_cons (ps_if (pt_cmpR (op_in_ki T.rows.choose_spec.1) (pv 3) (pe_glob (v := .ref (He.ga K "ROWS")) (by rfl) T.g_ROWS rfl) (by rfl)) (pss_cons (ps_set (i := 7) sc_split_calls.nd rfl (Or.inl rfl) (pe_op op_add (pv 4) pe_int))
      (pss_cons (ps_set (i := 4) sc_split_calls.nd rfl (Or.inl rfl) (pe_op op_add (pv 7) (pe_ix (r := rIxL K) ix_list (pv 0) (pv 4) (fun _ _ => rfl))))
      (pss_one (ps_set (i := 6) sc_split_calls.nd rfl (Or.inl rfl) (pe_slice sl_list (pv 0) (po_some (pv 7)) (po_some (pv 4))))))) pss_nil)
      (pss_cons (ps_expr (pe_bm PySem.F.plainAttrs_list PySem.F.slot_list_append PySem.F.type_list_append mt_append (pv 1) (pa_cons (pe_make T.mk_Call G_Call_init (hr.mono (by decide)) (by rfl) T.g_Call b_Call_init .nil pass0 (pa_cons (pv 3) (pa_cons (pv 5) (pa_cons (pv 6) pa_nil)))) pa_nil)))
      (pss_one (ps_set (i := 2) sc_split_calls.nd rfl (Or.inl rfl) (pv 4))))))))))
      (pss_one (ps_ret (pv 1)))))), ?_⟩
  obtain ⟨a, l, raw, rfl, hS, hl, hp, q⟩ := h
  obtain ⟨bs, bl, bR, bM⟩ := T.ranges
  obtain ⟨u1, u2, u3, ekk, hu⟩ := T.rows.choose_spec.2
  refine ⟨by show 0 ≤ sizeLine; decide, fun p np => ?_⟩
  have s0 : Same H (upd H p (.lst [])) := same_up np
  refine while_by (fun σ H' => ∃ (at_ : Nat) (v3 v4 v5 v6 v7 : Option V) (cs : List CL) (dn rest : List (List (List Int))) (f : Nat), σ = [some (.ref a), some (.ref p), some (.int (at_ : Nat)), v3, v4, v5, v6, v7] ∧ Same H H' ∧ H' p = some (.lst ((cs.map CL.c).map V.ref)) ∧ CallsAt K H' cs (dn.map cM) ∧ (∀ y ∈ cs, (H y.nl = none ∧ H y.rl = none) ∧ y.nl ≠ p ∧ y.rl ≠ p) ∧ raw = dn ++ rest ∧ PyFlat.calls PyVbbral.shape f (l.drop at_) = some rest ∧ at_ ≤ l.length ∧ dn.length ≤ at_)
    (fun σ _ => match σ with | [_, _, some (.int m), _, _, _, _, _] => (l.length - m).toNat | _ => 0)
    ⟨0, none, none, none, none, none, [], [], raw, l.length, rfl, s0, upd_same, ⟨rfl, fun i y m e => by simp at e⟩, (fun y hy => by cases hy), rfl, hp, Nat.zero_le _, Nat.zero_le _⟩ ?_ ?_
  · rintro σ H1 ⟨at_, v3, v4, v5, v6, v7, cs, dn, rest, f, rfl, sm, ep, hC, fr, er, hc, hat, hdn⟩
    refine ⟨_, rfl, _, rfl, a, _, rfl, .inl (sm.seq hS), _, _, rfl, rfl, _, rfl, ?_⟩
    rw [List.length_map]
    refine ite2 (fun c => ?_) (fun c => ?_)
    · have c : at_ < l.length := by
        have := of_decide_eq_true c
        omega
      obtain ⟨pk, r, hd⟩ : ∃ pk r, l.drop at_ = pk :: r := by
        cases h : l.drop at_ with
        | nil =>
          have := congrArg List.length h
          rw [List.length_drop, List.length_nil] at this
          omega
        | cons x r => exact ⟨x, r, rfl⟩
      rw [hd] at hc
      obtain ⟨f', cc, t, rest', h1, h2, rfl⟩ := calls_cons hc
      obtain ⟨k16, ek, kl, alt⟩ := call_parse h1
      generalize hk : pk.toNat = k at *
      subst ek
      have rl' : r.length + 1 = l.length - at_ := by
        have := congrArg List.length hd
        rw [List.length_drop, List.length_cons] at this
        omega
      have dropr : ∀ j, l.drop (at_ + 1 + j) = r.drop j := fun j => by
        rw [Nat.add_assoc, ← List.drop_drop, hd, Nat.add_comm 1 j]
        rfl
      have atk : l[at_]? = some (k : Int) := by
        have := congrArg (fun z => z[0]?) hd
        simpa [List.getElem?_drop] using this
      obtain ⟨b, eb⟩ : ∃ b, bs[k]? = some b := ⟨_, List.getElem?_eq_getElem (show k < bs.length by omega)⟩
      obtain ⟨bc, bcl, bcR, _⟩ := bM _ _ _ eb (rng_at k16)
      have hS1 := sm.seq hS
      refine ⟨_, rfl, _, rfl, a, _, _, _, rfl, rfl, hS1, at_int at_ rfl atk, ?_⟩
      refine ⟨_, rfl, _, _, rfl, rfl, _, rfl, _, _, _, _, rfl, rfl, bR H1, at_ref k rfl eb, b, _, rfl, .inr (bcR H1), _, _, rfl, rfl, ?_⟩
      have e1 : (((at_ : Nat) : Int) + 1 + (((bc.map V.ref).length : Nat) : Int)) = ((at_ + 1 + arity k : Nat) : Int) := by
        rw [List.length_map, bcl]
        show _ + 1 + ((arity k : Nat) : Int) = _
        omega
      dsimp only
      rw [e1]
      refine ⟨_, rfl, _, rfl, _, _, rfl, rfl, _, rfl, _, rfl, _, rfl, a, _, rfl, hS1, fun nl nnl => ?_⟩
      have ecut : cutV (l.map V.int) (some (((at_ : Nat) : Int) + 1)) (some ((at_ + 1 + arity k : Nat) : Int)) = (r.take (arity k)).map V.int := by
        rw [show ((at_ : Nat) : Int) + 1 = ((at_ + 1 : Nat) : Int) by omega, cut_mid _ (by omega) (by rw [List.length_map]; omega), ← List.map_drop, dropr 0, ← List.map_take]
        congr 2
        omega
      rw [ecut]
      have sN : Same H1 (upd H1 nl (.lst ((r.take (arity k)).map V.int))) := same_up nnl
      have eN : (upd H1 nl (.lst ((r.take (arity k)).map V.int))) nl = some (.lst ((r.take (arity k)).map V.int)) := upd_same
      generalize hH2 : upd H1 nl (.lst ((r.take (arity k)).map V.int)) = H2 at *
      have nlp : nl ≠ p := (ne_of_none ep nnl).symm
      -- the end of a turn
      have tail : ∀ (H3 : Hp) (rl : Addr) (mrow : List Int) (en : Nat) (v7 : Option V) (D : Ends), Same H2 H3 → H3 rl = some (.lst (mrow.map V.int)) → H2 rl = none →
          (∀ (c : Addr) (H' : Hp), Same H H' → H' p = some (.lst ((((cs ++ [CL.mk c nl rl]).map CL.c)).map V.ref)) → CallsAt K H' (cs ++ [CL.mk c nl rl]) (dn.map cM ++ [CallM.mk k (r.take (arity k)) mrow]) → (∀ y ∈ cs ++ [CL.mk c nl rl], (H y.nl = none ∧ H y.rl = none) ∧ y.nl ≠ p ∧ y.rl ≠ p) →
            D.nx [some (.ref a), some (.ref p), some (.int (en : Nat)), some (.int (k : Nat)), some (.int (en : Nat)), some (.ref nl), some (.ref rl), v7] H') →
          tSeq (tDrop (tBM K "list" rAppend (tVar 1) (tCons (tMake (He.ga K "Call") (sp_Call_init K) [] L2.E0 (tCons (tVar 3) (tCons (tVar 5) (tCons (tVar 6) tNil)))) tNil))) (tAsg (tVar 4) (gName 2)) D [some (.ref a), some (.ref p), some (.int (at_ : Nat)), some (.int (k : Nat)), some (.int (en : Nat)), some (.ref nl), some (.ref rl), v7] H3 := fun H3 rl mrow en v7 D s3 erl nrl nx => by
        have s13 : Same H1 H3 := sN.trans s3
        have ep3 := s13 _ _ ep
        have rlp : rl ≠ p := (ne_of_none (sN _ _ ep) nrl).symm
        refine ⟨_, rfl, .inl ⟨rfl, _, SqL.of ep3⟩, _, rfl, _, rfl, _, rfl, fun c dc nc ndc ne => ⟨_, _, _, _, rfl, c, dc, rfl, upd_same, fun H4 bt at4 => ⟨rfl, ?_⟩⟩⟩
        have s4 : Same H3 H4 := same_made nc ndc bt
        have cp : c ≠ p := (ne_of_none ep3 nc).symm
        have ep4 := s4 _ _ ep3
        refine ⟨p, _, .ref c, rfl, rfl, ep4, ?_, _, rfl, nx c _ (fun b o w => ?_) ?_ (CallsAt.snoc ⟨?_, fun i y m w1 w2 => ?_⟩ ?_) fun y hy => ?_⟩
        · have := hC.len
          rw [List.length_map] at this
          rw [List.length_map, List.length_map, this]
          exact line_lt (by omega)
        · have w4 := s4 _ _ (s13 _ _ (sm _ _ w))
          rw [upd_ne (ne_of_none w np)]
          exact w4
        · rw [upd_same, List.map_append, List.map_append]
          rfl
        · exact hC.len
        · have hy := hC.at_ i y m w1 w2
          have fy := fr y (List.mem_of_getElem? w1)
          obtain ⟨d, w3⟩ := hy.ins
          have g : ∀ {b : Addr} {o : HO}, H1 b = some o → b ≠ p → upd H4 p (.lst ((cs.map CL.c).map V.ref ++ [V.ref c])) b = some o := fun {b o} w3 hb => by
            rw [upd_ne hb]
            exact s4 _ _ (s13 _ _ w3)
          exact ⟨⟨d, g w3 (ne_of w3 ep (by intro z; cases z))⟩, g hy.nums fy.2.1, g hy.row fy.2.2⟩
        · refine ⟨⟨dc, by rw [upd_ne cp]; exact at4⟩, ?_, ?_⟩
          · rw [upd_ne nlp]
            exact s4 _ _ (s3 _ _ eN)
          · rw [upd_ne rlp]
            exact s4 _ _ erl
        · rcases List.mem_append.mp hy with z | z
          · exact fr y z
          · obtain rfl := List.mem_singleton.mp z
            exact ⟨⟨sm.free nnl, (sm.trans sN).free nrl⟩, nlp, rlp⟩
      refine ⟨by show 0 ≤ sizeLine; decide, fun rl nrl => ?_⟩
      have sR : Same H2 (upd H2 rl (.lst [])) := same_up nrl
      refine ⟨_, rfl, (k : Int), rfl, rfl, _, rfl, ?_⟩
      rw [ekk, look_row k]
      have tmap : ∀ x, (dn ++ [x]).map cM = dn.map cM ++ [cM x] := fun x => by rw [List.map_append]; rfl
      rcases alt with ⟨hr, rfl, rfl⟩ | ⟨hr, m, r2, hd2, hm, rfl, rfl⟩
      · rw [hr]
        refine iteF (tail _ rl [] (at_ + 1 + arity k) v7 _ sR upd_same nrl fun c H' w1 w2 w3 w4 => ⟨⟨at_ + 1 + arity k, _, _, _, _, _, _, dn ++ [[(k : Int) :: r.take (arity k)]], rest', f', rfl, w1, w2, ?_, w4, ?_, ?_, by omega, ?_⟩, ?_⟩)
        · rw [tmap]
          exact w3
        · rw [er, List.append_assoc]
          rfl
        · rw [dropr]
          exact h2
        · rw [List.length_append]
          show dn.length + 1 ≤ _
          omega
        · show (((l.length : Nat) : Int) - ((at_ + 1 + arity k : Nat) : Int)).toNat < (((l.length : Nat) : Int) - ((at_ : Nat) : Int)).toNat
          omega
      · rw [hr]
        have hS3 := (sN.trans sR).seq hS1
        have lr2 : r.length = arity k + 1 + r2.length := by
          have := congrArg List.length hd2
          rw [List.length_drop, List.length_cons] at this
          omega
        have atm : l[at_ + 1 + arity k]? = some (m : Int) := by
          have := congrArg (fun z => z[0]?) (dropr (arity k))
          rw [hd2] at this
          simpa [List.getElem?_drop] using this
        have e2 : ((at_ + 1 + arity k : Nat) : Int) + 1 = ((at_ + 1 + arity k + 1 : Nat) : Int) := by omega
        refine iteT ⟨_, rfl, _, _, rfl, rfl, ?_⟩
        dsimp only
        rw [e2]
        refine ⟨_, rfl, _, rfl, _, rfl, a, _, _, _, rfl, rfl, hS3, at_int (at_ + 1 + arity k) rfl atm, _, _, rfl, rfl, ?_⟩
        dsimp only
        rw [show ((at_ + 1 + arity k + 1 : Nat) : Int) + ((m : Nat) : Int) = ((at_ + 1 + arity k + 1 + m : Nat) : Int) by omega]
        refine ⟨_, rfl, _, rfl, _, rfl, _, rfl, _, rfl, a, _, rfl, hS3, fun rl2 nrl2 => ?_⟩
        have d2 : l.drop (at_ + 1 + arity k + 1) = r2 := by
          have := dropr (arity k + 1)
          rw [show at_ + 1 + (arity k + 1) = at_ + 1 + arity k + 1 by omega] at this
          rw [this, ← List.drop_drop, hd2]
          rfl
        have ecut2 : cutV (l.map V.int) (some ((at_ + 1 + arity k + 1 : Nat) : Int)) (some ((at_ + 1 + arity k + 1 + m : Nat) : Int)) = (r2.take m).map V.int := by
          rw [cut_mid _ (by omega) (by rw [List.length_map]; omega), ← List.map_drop, d2, ← List.map_take]
          congr 2
          omega
        rw [ecut2]
        have sR2 := sR.trans (same_up (o := .lst ((r2.take m).map V.int)) nrl2)
        refine tail _ rl2 (r2.take m) (at_ + 1 + arity k + 1 + m) _ _ sR2 upd_same (sR.free nrl2) fun c H' w1 w2 w3 w4 => ⟨⟨at_ + 1 + arity k + 1 + m, _, _, _, _, _, _, dn ++ [[(k : Int) :: r.take (arity k), r2.take m]], rest', f', rfl, w1, w2, ?_, w4, ?_, ?_, by omega, ?_⟩, ?_⟩
        · rw [tmap]
          exact w3
        · rw [er, List.append_assoc]
          rfl
        · rw [← List.drop_drop, d2]
          exact h2
        · rw [List.length_append]
          show dn.length + 1 ≤ _
          omega
        · show (((l.length : Nat) : Int) - ((at_ + 1 + arity k + 1 + m : Nat) : Int)).toNat < (((l.length : Nat) : Int) - ((at_ : Nat) : Int)).toNat
          omega
    · have c : ¬ at_ < l.length := fun z => c (decide_eq_true (by omega))
      rw [List.drop_of_length_le (by omega)] at hc
      obtain rfl := calls_nil hc
      rw [List.append_nil] at er
      subst er
      exact ⟨_, rfl, q H1 p cs sm ep hC (fun y hy => (fr y hy).1) np⟩
  · exact mono_test (mono_op mono_rI0 (mono_var _) (fun σ H Q Q' k ⟨v, e, p, xs, e2, hs, q⟩ => ⟨v, e, p, xs, e2, hs, k _ _ q⟩))
end
end TR

set_option Elab.async false
set_option linter.all false
set_option maxRecDepth 100000
namespace TR
open Vbbral
/-! ### knock-outs -/
theorem matches_eq : ∀ l : List Nat, matches_ l = pairsN l
  | [] => rfl
  | [_] => rfl
  | a :: b :: r => by
    rw [pairsN_cons]
    show (a, b) :: matches_ r = _
    rw [matches_eq r]
theorem seeds_len : ∀ n, (seeds n).length = 2 ^ n
  | 0 => rfl
  | n + 1 => by
    unfold seeds
    rw [List.length_flatMap]
    have : ∀ l : List Nat, (l.map fun x => ([x, 2 * 2 ^ n + 1 - x] : List Nat).length).sum = 2 * l.length := fun l => by
      induction l with
      | nil => rfl
      | cons x l ih =>
        rw [List.map_cons, List.sum_cons, ih]
        show 2 + 2 * l.length = 2 * (l.length + 1)
        omega
    rw [this, seeds_len n, Nat.pow_succ]
    omega
theorem seeds_le (n : Nat) : ∀ x ∈ seeds n, 1 ≤ x ∧ x ≤ 2 ^ n := by
  induction n with
  | zero =>
    intro x hx
    have hx : x = 1 := List.mem_singleton.mp hx
    omega
  | succ n ih =>
    intro x hx
    unfold seeds at hx
    obtain ⟨y, hy, hx⟩ := List.mem_flatMap.mp hx
    have := ih y hy
    rw [Nat.pow_succ]
    rcases List.mem_cons.mp hx with rfl | hx
    · omega
    · have hx := List.mem_singleton.mp hx
      omega
theorem doublings_at {k j : Nat} (hj : j < 5) (h1 : k ≤ 2 ^ j) (h2 : ∀ i, i < j → 2 ^ i < k) : doublings k = j := by
  unfold doublings
  rw [find_at (i := j) (x := j) (List.getElem?_range hj) (decide_eq_true h1) fun i y hi hy => ?_]
  · rfl
  · rw [List.getElem?_range (by omega)] at hy
    cases hy
    exact decide_eq_false (by have := h2 i hi; omega)
theorem bracket_len (l : List Nat) : (bracket l).length = 2 ^ doublings l.length := by
  unfold bracket
  rw [List.length_map, seeds_len]
theorem pow_even {n : Nat} : 2 ^ n = 1 ∨ (2 ^ n) % 2 = 0 := by
  cases n with
  | zero => exact .inl rfl
  | succ n => exact .inr (by rw [Nat.pow_succ]; omega)
/-- what holds of a knock-out that calls lead to -/
structure GoodK (k : Knock) : Prop where
  pow : ∃ n, n ≤ 4 ∧ k.now.length = 2 ^ n
theorem GoodK.even {k : Knock} (h : GoodK k) : k.now.length = 1 ∨ k.now.length % 2 = 0 := by
  obtain ⟨n, _, e⟩ := h.pow
  rw [e]
  exact pow_even
theorem GoodK.le {k : Knock} (h : GoodK k) : k.now.length ≤ 16 := by
  obtain ⟨n, hn, e⟩ := h.pow
  rw [e]
  exact Nat.le_trans (Nat.pow_le_pow_right (by decide) hn) (by decide)
theorem settle_len {k : Knock} (h : GoodK k) : GoodK (settle k) := by
  obtain ⟨n, hn, e⟩ := h.pow
  unfold settle
  simp only
  split
  · rename_i c
    refine ⟨n - 1, by omega, ?_⟩
    show ((matches_ k.now).map _).length = _
    rw [List.length_map, matches_eq, pairsN_len, e]
    cases n with
    | zero =>
      rw [e] at c
      exact absurd c.1 (by decide)
    | succ n =>
      rw [Nat.pow_succ]
      show 2 ^ n * 2 / 2 = 2 ^ n
      omega
  · exact h
theorem settle_wins (k : Knock) : (settle k).wins.length ≤ k.wins.length := by
  unfold settle
  simp only
  split
  · exact Nat.zero_le _
  · exact Nat.le_refl _
theorem bracket_good {l : List Nat} {w : List Nat} : GoodK ⟨bracket l, w⟩ := by
  refine ⟨doublings l.length, ?_, bracket_len l⟩
  unfold doublings
  cases h : (List.range 5).find? fun n => decide (l.length ≤ 2 ^ n) with
  | none => exact Nat.le_refl _
  | some n =>
    have := List.mem_range.mp (List.mem_of_find?_eq_some h)
    show n ≤ 4
    omega
theorem winner_zero (wins : List Nat) (p : Nat × Nat) (h : p.1 = 0 ∨ p.2 = 0) : ((winnerOf wins p : Nat) : Int) = if (p.2 : Int) > (p.1 : Int) then (p.2 : Int) else (p.1 : Int) := by
  unfold winnerOf
  by_cases a : p.1 = 0
  · rw [if_pos a, a]
    split
    · rfl
    · omega
  · rw [if_neg a, if_pos (by omega), if_neg (by omega)]
theorem winner_first {wins : List Nat} {p : Nat × Nat} (h : ¬ p.1 = 0) (h2 : ¬ p.2 = 0) (c : wins.contains p.1 = true) : winnerOf wins p = p.1 := by
  unfold winnerOf
  rw [if_neg h, if_neg h2, if_pos c]
theorem winner_second {wins : List Nat} {p : Nat × Nat} (h : ¬ p.1 = 0) (h2 : ¬ p.2 = 0) (c : wins.contains p.1 = false) (d : wins.contains p.2 = true) : winnerOf wins p = p.2 := by
  unfold winnerOf
  rw [if_neg h, if_neg h2, c, if_neg (by decide), if_pos d]
theorem winner_none {wins : List Nat} {p : Nat × Nat} (h : ¬ p.1 = 0) (h2 : ¬ p.2 = 0) (c : wins.contains p.1 = false) (d : wins.contains p.2 = false) : winnerOf wins p = 0 := by
  unfold winnerOf
  rw [if_neg h, if_neg h2, c, d, if_neg (by decide), if_neg (by decide)]
end TR

set_option Elab.async false
set_option linter.all false
set_option maxRecDepth 100000
set_option maxHeartbeats 4000000
namespace TR
open PySem PySem.Spec PyProof.Rows L2
structure KnockAt (K : PySem.W.Frag) (H : Hp) (ka rw wl : Addr) (k : Vbbral.Knock) : Prop where
  ins : InsAt K H ka "KnockOut" (kF (.ref rw) (.ref wl))
  row : H rw = some (.lst (vN k.now))
  won : H wl = some (.lst (vN k.wins))
theorem KnockAt.same {K : PySem.W.Frag} {H H' : Hp} {ka rw wl : Addr} {k : Vbbral.Knock} (h : KnockAt K H ka rw wl k) (s : Same H H') : KnockAt K H' ka rw wl k := ⟨h.ins.same s, s _ _ h.row, s _ _ h.won⟩
theorem KnockAt.ext {K : PySem.W.Frag} {H H' : Hp} {ka rw wl : Addr} {k : Vbbral.Knock} (h : KnockAt K H ka rw wl k) (s : LamX.ExtN H H') : KnockAt K H' ka rw wl k := ⟨h.ins.ext s, s _ _ h.row (fun _ z => nomatch z), s _ _ h.won (fun _ z => nomatch z)⟩
def pairsOf (k : Vbbral.Knock) : Vbbral.Pairs := pairsN k.now
theorem pairs_one {k : Vbbral.Knock} (h : GoodK k) (c : ¬ 1 < k.now.length) : pairsOf k = [] := by
  unfold pairsOf
  have := pairsN_len k.now
  exact List.eq_nil_of_length_eq_zero (by omega)
section
variable {P : Program} {w : World} {K : PySem.W.Frag} {mg : Str → Option Value} {base : Heap}
def sp_KnockOut_pairs (K : PySem.W.Frag) : Sp := Sp1 fun x H Q => ∃ (ka rw wl : Addr) (k : Vbbral.Knock), x = .ref ka ∧ KnockAt K H ka rw wl k ∧ GoodK k ∧
  ∀ (H' : Hp) (p : Addr) (ts : List Addr), Same H H' → H' p = some (.lst (ts.map V.ref)) → PairsN H' ts (pairsOf k) → Q (.ref p) H'
theorem ok_KnockOut_pairs (T : Txt w K mg base) : OkF P w K mg base 2 (He.ma K (He.ga K "KnockOut") "pairs") ["self"] (sp_KnockOut_pairs K) := by
  obtain ⟨⟨fd_by_twos, G_by_twos, b_by_twos⟩, k_by_twos⟩ := ok_by_twos (P := P) T
  obtain ⟨fd, F⟩ := T.f_KnockOut_pairs
  refine ok1 F sc_KnockOut_pairs (fun _ _ _ _ _ _ _ => rfl) (fun cdv A outer s H x0 Q hr h => ?_)
  refine ⟨_, (pss_one (ps_ret (pe_ifExp (pt_cmpR op_gt (pe_callB (r := rLenS K) call_len_seq (by rfl) T.n_len PySem.boot_len (pa_cons (pe_fldK (K := K) rfl (pv 0) rfl) pa_nil)) pe_int (nomark _)) (pe_call G_by_twos (hr.mono (by decide)) (by rfl) T.g_by_twos k_by_twos b_by_twos .nil pass0 (pa_cons (pe_fldK (K := K) rfl (pv 0) rfl) pa_nil)) (pe_lst pa_nil)))), ?_⟩
  obtain ⟨ka, rw', wl, k, rfl, hK, G, q⟩ := h
  obtain ⟨dx, hp⟩ := hK.ins
  refine ⟨_, rfl, ka, _, dx, _, _, rfl, hp, T.c_KnockOut, T.na_KnockOut_row, kF_row .., rw', _, rfl, .inl (SqL.of hK.row), _, _, rfl, rfl, _, rfl, ?_⟩
  rw [vN_len]
  refine ite2 (fun c => ?_) (fun c => ?_)
  · have c := of_decide_eq_true c
    have ev := G.even
    have le := G.le
    have hr' := hK.row
    rw [vN_int] at hr'
    refine ⟨_, rfl, ka, _, dx, _, _, rfl, hp, T.c_KnockOut, T.na_KnockOut_row, kF_row .., _, rfl, rw', iN k.now, rfl, SqL.of hr', by rw [iN_len]; omega, by rw [iN_len]; omega, fun H2 p ts s2 np ep hP => q H2 p ts s2 ep ?_⟩
    unfold PairsN pairsOf
    rw [← twosI_iN]
    exact hP
  · have c : ¬ 1 < k.now.length := fun z => c (decide_eq_true (by omega))
    refine ⟨by show 0 ≤ sizeLine; decide, fun p np => q _ p [] (same_up np) upd_same ?_⟩
    rw [pairs_one G c]
    exact ⟨rfl, fun i t p e => by simp at e⟩
def sp_KnockOut_decided_for (K : PySem.W.Frag) : Sp := Sp2 fun x v1 H Q => ∃ (ka rw wl t : Addr) (k : Vbbral.Knock) (p : Nat × Nat), x = .ref ka ∧ v1 = .ref t ∧ KnockAt K H ka rw wl k ∧ H t = some (.tup [.int (p.1 : Nat), .int (p.2 : Nat)]) ∧ Q (.int (Vbbral.winnerOf k.wins p : Nat)) H
theorem ok_KnockOut_decided_for (T : Txt w K mg base) : OkF P w K mg base 1 (He.ma K (He.ga K "KnockOut") "decided_for") ["self", "pair"] (sp_KnockOut_decided_for K) := by
  obtain ⟨fd, F⟩ := T.f_KnockOut_decided_for
  refine ok2 F sc_KnockOut_decided_for (fun _ _ _ _ _ _ _ _ => rfl) (fun cdv A outer s H x0 x1 Q hr h => ?_)
  refine ⟨_, (pss_cons (ps_if (pt_cmpR (r := rIn K false) op_in_seq pe_int (pv 1) (by rfl)) (pss_one (ps_ret (pe_callB (cr_maxP rfl) (by rfl) T.n_max PyProof.Rows.boot_max (pa_cons (pv 1) pa_nil)))) pss_nil)
      (pss_cons (ps_for PassesOwn.never rfl (pi_tup (pv 1)) (pg_name (i := 2) sc_KnockOut_decided_for.nd rfl (Or.inl rfl)) (pss_one (ps_if (pt_cmpR (r := rIn K false) op_in_seq (pv 2) (pe_fldK (K := K) rfl (pv 0) rfl) (by rfl)) (pss_one (ps_ret (pv 2))) pss_nil)))
      (pss_one (ps_ret pe_int)))), ?_⟩
  obtain ⟨ka, rw', wl, t, k, p, rfl, rfl, hK, ht, q⟩ := h
  obtain ⟨dx, hp⟩ := hK.ins
  have e0 : inV (.int 0) [.int (p.1 : Nat), .int (p.2 : Nat)] = [p.1, p.2].contains 0 := inV_N [p.1, p.2] 0
  refine ⟨_, rfl, t, _, rfl, .inr (SqT.of ht), rfl, rfl, _, rfl, ?_⟩
  show if inV (.int 0) [.int (p.1 : Nat), .int (p.2 : Nat)] = true then _ else _
  rw [e0]
  refine ite2 (fun c => ?_) (fun c => ?_)
  · have c : p.1 = 0 ∨ p.2 = 0 := by
      rw [List.contains_iff_mem] at c
      rcases List.mem_cons.mp c with z | z
      · exact .inl z.symm
      · exact .inr (List.mem_singleton.mp z).symm
    rw [winner_zero k.wins p c] at q
    exact ⟨_, rfl, t, _, _, rfl, SqT.of ht, q⟩
  · have c1 : ¬ p.1 = 0 := fun z => c (by rw [List.contains_iff_mem, z]; exact List.mem_cons_self ..)
    have c2 : ¬ p.2 = 0 := fun z => c (by rw [List.contains_iff_mem, z]; exact List.mem_cons_of_mem _ (List.mem_cons_self ..))
    refine ⟨_, rfl, t, rfl, ⟨_, SqT.of ht⟩, for_tup (K := K) (a := t) (xs := vN [p.1, p.2]) (fun i σ H' => (∃ v, σ = [some (.ref ka), some (.ref t), v]) ∧ H' = H ∧ ∀ j x, j < i → [p.1, p.2][j]? = some x → k.wins.contains x = false) ⟨⟨_, rfl⟩, rfl, fun j x hj => absurd hj (by omega)⟩ (fun i σ H' _ z => by rw [z.2.1]; exact SqT.of ht) ?_ ?_⟩
    · rintro i x σ H' hx ⟨⟨v, rfl⟩, rfl, no⟩
      obtain ⟨y, ey, rfl⟩ := vN_at hx
      refine ⟨_, rfl, _, rfl, ka, _, dx, _, _, rfl, hp, T.c_KnockOut, T.na_KnockOut_won, kF_won .., wl, _, rfl, .inl (SqL.of hK.won), rfl, flat_N _, _, rfl, ?_⟩
      show if inV (.int (y : Nat)) (vN k.wins) = true then _ else _
      rw [inV_N]
      refine ite2 (fun d => ?_) (fun d => ?_)
      · refine ⟨_, rfl, ?_⟩
        have w : Vbbral.winnerOf k.wins p = y := by
          match i, ey with
          | 0, ey =>
            cases ey
            exact winner_first c1 c2 d
          | 1, ey =>
            cases ey
            exact winner_second c1 c2 (no 0 p.1 (by omega) rfl) d
        rw [w] at q
        exact q
      · refine ⟨⟨_, rfl⟩, rfl, fun j x' hj hx' => ?_⟩
        by_cases z : j = i
        · rw [z, ey] at hx'
          cases hx'
          exact Bool.eq_false_iff.mpr d
        · exact no j x' (by omega) hx'
    · rintro σ H' ⟨⟨v, rfl⟩, rfl, no⟩
      rw [winner_none c1 c2 (no 0 p.1 (by show 0 < 2; omega) rfl) (no 1 p.2 (by show 1 < 2; omega) rfl)] at q
      exact q
def sp_KnockOut_go_on (K : PySem.W.Frag) : Sp := Sp1 fun x H Q => ∃ (ka rw wl : Addr) (k : Vbbral.Knock), x = .ref ka ∧ KnockAt K H ka rw wl k ∧ GoodK k ∧
  ∀ (H' : Hp) (rw' wl' : Addr), (∀ b o, H b = some o → b ≠ ka → H' b = some o) → KnockAt K H' ka rw' wl' (Vbbral.settle k) → ((wl' = wl ∧ rw' = rw) ∨ (H wl' = none ∧ H rw' = none ∧ rw' ≠ wl')) → Q .non H'
theorem ok_KnockOut_go_on (T : Txt w K mg base) : OkF P w K mg base 3 (He.ma K (He.ga K "KnockOut") "go_on") ["self"] (sp_KnockOut_go_on K) := by
  obtain ⟨⟨fd_KnockOut_pairs, G_KnockOut_pairs, b_KnockOut_pairs⟩, k_KnockOut_pairs⟩ := ok_KnockOut_pairs (P := P) T
  obtain ⟨⟨fd_KnockOut_decided_for, G_KnockOut_decided_for, b_KnockOut_decided_for⟩, k_KnockOut_decided_for⟩ := ok_KnockOut_decided_for (P := P) T
  obtain ⟨fd, F⟩ := T.f_KnockOut_go_on
  refine ok1 F sc_KnockOut_go_on (fun _ _ _ _ _ _ _ => rfl) (fun cdv A outer s H x0 Q hr h => ?_)
  refine ⟨_, (pss_cons (ps_setLc (i := 1) (own := [("pair", 2)]) (g := gName 2) (by rfl) sc_KnockOut_go_on.nd rfl rfl (sw_true rfl rfl rfl (by decide +kernel)) (pi_list (pe_meth0 (pv 0) T.c_KnockOut T.m_KnockOut_pairs G_KnockOut_pairs (hr.mono (by decide)) b_KnockOut_pairs .nil pass0)) (blkOk_by (own := [("pair", 2)]) (N := ["self", "winners", "pair"]) (sc := defScope s_KnockOut_go_on) (by decide +kernel)) (fun _ _ _ _ _ => pg_name (i := 2) sc_KnockOut_go_on.nd rfl (Or.inl rfl)) (fun _ _ _ _ _ => pts_nil) (fun _ _ _ _ _ => (pe_meth (pv 0) T.c_KnockOut T.m_KnockOut_decided_for G_KnockOut_decided_for (hr.mono (by decide)) b_KnockOut_decided_for .nil pass0 (pa_cons (pv 2) pa_nil))))
      (pss_one (ps_if (PW.pt (pw_and (pt_cmpR op_gt (pe_callB (r := rLenS K) call_len_seq (by rfl) T.n_len PySem.boot_len (pa_cons (pv 1) pa_nil)) pe_int (nomark _)) (pw_and1 (pt_cmpR (r := rIn K true) op_notIn_seq pe_int (pv 1) (by rfl))))) (pss_cons (ps_fld (pv 0) (pv 1) rfl)
      (pss_one (ps_fld (pv 0) (pe_lst pa_nil) rfl))) pss_nil))), ?_⟩
  obtain ⟨ka, rw', wl, k, rfl, hK, G, q⟩ := h
  obtain ⟨dx, hp⟩ := hK.ins
  have le := G.le
  have plen : (pairsOf k).length ≤ 16 := by
    unfold pairsOf
    rw [pairsN_len]
    omega
  refine ⟨_, rfl, ka, dx, _, rfl, hp, kF_no_pairs .., _, rfl, ka, rw', wl, k, rfl, hK, G, fun H2 p ts s2 ep hP => ?_⟩
  have tl : ts.length = (pairsOf k).length := by rw [hP.len, List.length_map]
  refine ⟨p, rfl, ⟨_, SqL.of ep⟩, fun D nD => lc_list (K := K) (a := p) (xs := ts.map V.ref) (fun i H' => Same H2 H' ∧ H' D = some (.lst (vN (((pairsOf k).take i).map (Vbbral.winnerOf k.wins))))) ⟨same_up nD, upd_same⟩ (fun i H' _ z => SqL.of (z.1 _ _ ep)) ?_ ?_⟩
  · rintro i x H' hx ⟨sm, eD⟩
    obtain ⟨t, pr, rfl, e1, e2, e3⟩ := hP.get hx
    rw [List.getElem?_map] at e2
    obtain ⟨pn, e4, rfl⟩ := Option.map_eq_some_iff.mp e2
    have hp' := sm _ _ (s2 _ _ hp)
    refine ⟨rfl, _, rfl, ka, dx, _, rfl, hp', kF_no_decided_for .., _, rfl, _, _, rfl, ka, rw', wl, t, k, pn, rfl, rfl, hK.same (s2.trans sm), sm _ _ e3, _, eD, ?_, fun b o w => ?_, ?_⟩
    · rw [vN_len, List.length_map]
      exact line_lt (Nat.le_trans (List.length_take_le' ..) (by omega))
    · rw [upd_ne (ne_of_none w nD)]
      exact sm b o w
    · rw [upd_same, take_one e4, List.map_append]
      unfold vN
      rw [List.map_append]
      rfl
  · rintro H3 ⟨sm, eD⟩
    rw [List.length_map, tl, List.take_length] at eD
    generalize hW : (pairsOf k).map (Vbbral.winnerOf k.wins) = W at *
    have wlen : W.length = (pairsOf k).length := by rw [← hW, List.length_map]
    have s13 := s2.trans sm
    have hK3 := hK.same s13
    have hp3 := s13 _ _ hp
    have set_eq : Vbbral.settle k = if 1 < k.now.length ∧ W.all (fun t => t != 0) = true then ⟨W, []⟩ else k := by
      unfold Vbbral.settle
      have hW2 : (pairsN k.now).map (Vbbral.winnerOf k.wins) = W := hW
      rw [matches_eq, hW2]
    have lenW : 0 < W.length ↔ 1 < k.now.length := by
      rw [wlen]
      unfold pairsOf
      rw [pairsN_len]
      have ev := G.even
      omega
    have no : ¬ (1 < k.now.length ∧ W.all (fun t => t != 0) = true) → Q .non H3 := fun z => by
      rw [if_neg z] at set_eq
      refine q H3 rw' wl (fun b o e _ => s13 b o e) ?_ (.inl ⟨rfl, rfl⟩)
      rw [set_eq]
      exact hK3
    refine ⟨_, rfl, D, _, rfl, .inl (SqL.of eD), _, _, rfl, rfl, _, rfl, ?_⟩
    rw [vN_len]
    refine ite2 (fun c => ?_) (fun c => ?_)
    · have c : 1 < k.now.length := lenW.mp (by have := of_decide_eq_true c; omega)
      refine ⟨_, rfl, D, _, rfl, .inl (SqL.of eD), rfl, flat_N _, _, rfl, ?_⟩
      show if (!inV (.int ((0 : Nat) : Int)) (vN W)) = true then _ else _
      rw [inV_N]
      have alleq : (!W.contains 0) = W.all (fun t => t != 0) := by
        rw [Bool.eq_iff_iff, Bool.not_eq_true', List.all_eq_true]
        constructor
        · intro h t ht
          rw [bne_iff_ne]
          intro z
          rw [z] at ht
          rw [List.contains_iff_mem.mpr ht] at h
          cases h
        · intro h
          refine Bool.eq_false_iff.mpr fun z => ?_
          have := h 0 (List.contains_iff_mem.mp z)
          cases this
      rw [alleq]
      refine ite2 (fun d => ?_) (fun d => ?_)
      · rw [if_pos ⟨c, d⟩] at set_eq
        refine ⟨_, rfl, _, rfl, ka, _, dx, _, rfl, hp3, T.c_KnockOut, T.na_KnockOut_row, (by show 2 < 1000; decide), ?_⟩
        rw [kF_put_row]
        refine ⟨Nat.zero_le _, fun w nw => ?_⟩
        have kw : ka ≠ w := ne_of_none upd_same nw
        have nw3 : H3 w = none := by rw [upd_ne kw.symm] at nw; exact nw
        have Dk : D ≠ ka := ne_of eD hp3 (by intro z; cases z)
        have Dw : D ≠ w := ne_of_none eD nw3
        refine ⟨_, rfl, ka, _, dx, _, rfl, by rw [upd_ne kw, upd_same], T.c_KnockOut, T.na_KnockOut_won, (by show 2 < 1000; decide), ?_⟩
        rw [kF_put_won]
        refine q _ D w (fun b o e hb => ?_) ?_ (.inr ⟨s13.free nw3, s2.free nD, Dw⟩)
        · have e3 := s13 _ _ e
          rw [upd_ne hb, upd_ne (ne_of_none e3 nw3), upd_ne hb]
          exact e3
        · rw [set_eq]
          refine ⟨⟨dx, upd_same⟩, ?_, ?_⟩
          · rw [upd_ne Dk, upd_ne Dw, upd_ne Dk]
            exact eD
          · rw [upd_ne kw.symm, upd_same]
            rfl
      · exact no fun z => d z.2
    · exact iteF (no fun z => c (decide_eq_true (by have := lenW.mpr z.1; omega)))
def sp_KnockOut_may_win (K : PySem.W.Frag) : Sp := Sp2 fun x v1 H Q => ∃ (ka rw wl : Addr) (k : Vbbral.Knock) (t : Nat), x = .ref ka ∧ v1 = .int t ∧ KnockAt K H ka rw wl k ∧ GoodK k ∧ ∀ H', Same H H' → Q (.bl ((Vbbral.openIn k).any fun p => p.1 == t || p.2 == t)) H'
theorem ok_KnockOut_may_win (T : Txt w K mg base) : OkF P w K mg base 3 (He.ma K (He.ga K "KnockOut") "may_win") ["self", "team"] (sp_KnockOut_may_win K) := by
  obtain ⟨⟨fd_KnockOut_pairs, G_KnockOut_pairs, b_KnockOut_pairs⟩, k_KnockOut_pairs⟩ := ok_KnockOut_pairs (P := P) T
  obtain ⟨⟨fd_KnockOut_decided_for, G_KnockOut_decided_for, b_KnockOut_decided_for⟩, k_KnockOut_decided_for⟩ := ok_KnockOut_decided_for (P := P) T
  obtain ⟨fd, F⟩ := T.f_KnockOut_may_win
  refine ok2 F sc_KnockOut_may_win (fun _ _ _ _ _ _ _ _ => rfl) (fun cdv A outer s H x0 x1 Q hr h => ?_)
  refine ⟨_, (pss_one (ps_ret (pe_callB (cr_any rfl) (by rfl) T.n_any PyProof.Rows.boot_any (pa_cons (pe_lc (own := [("pair", 2)]) (g := gName 2) (by rfl) sc_KnockOut_may_win.nd (pi_list (pe_meth0 (pv 0) T.c_KnockOut T.m_KnockOut_pairs G_KnockOut_pairs (hr.mono (by decide)) b_KnockOut_pairs .nil pass0)) (blkOk_by (own := [("pair", 2)]) (N := ["self", "team", "pair"]) (sc := defScope s_KnockOut_may_win) (by decide +kernel)) (fun _ _ _ _ _ => pg_name (i := 2) sc_KnockOut_may_win.nd rfl (Or.inl rfl)) (fun _ _ _ _ _ => pts_nil) (fun _ _ _ _ _ => (pe_and (pe_cmpR (r := rIn K false) op_in_seq (pv 1) (pv 2) (by rfl)) (pe_one (pe_cmpR op_eq (pe_meth (pv 0) T.c_KnockOut T.m_KnockOut_decided_for G_KnockOut_decided_for (hr.mono (by decide)) b_KnockOut_decided_for .nil pass0 (pa_cons (pv 2) pa_nil)) pe_int (nomark _)))))) pa_nil)))), ?_⟩
  obtain ⟨ka, rw', wl, k, t, rfl, rfl, hK, G, q⟩ := h
  obtain ⟨dx, hp⟩ := hK.ins
  have le := G.le
  have plen : (pairsOf k).length ≤ 16 := by
    unfold pairsOf
    rw [pairsN_len]
    omega
  have eq : ((Vbbral.openIn k).any fun p => p.1 == t || p.2 == t) = (((pairsOf k).map fun p => [p.1, p.2].contains t && decide (Vbbral.winnerOf k.wins p = 0)).any id) := by
    unfold Vbbral.openIn
    rw [matches_eq, List.any_filter, List.any_map]
    show (pairsOf k).any _ = (pairsOf k).any _
    congr 1
    funext p
    show (Vbbral.winnerOf k.wins p == 0 && (p.1 == t || p.2 == t)) = ([p.1, p.2].contains t && decide (Vbbral.winnerOf k.wins p = 0))
    rw [Bool.and_comm]
    congr 1
    rw [Bool.eq_iff_iff, Bool.or_eq_true, beq_iff_eq, beq_iff_eq, List.contains_iff_mem]
    simp [eq_comm]
  rw [eq] at q
  refine ⟨_, rfl, ka, dx, _, rfl, hp, kF_no_pairs .., _, rfl, ka, rw', wl, k, rfl, hK, G, fun H2 p ts s2 ep hP => ?_⟩
  have tl : ts.length = (pairsOf k).length := by rw [hP.len, List.length_map]
  refine ⟨p, rfl, ⟨_, SqL.of ep⟩, fun D nD => lc_list (K := K) (a := p) (xs := ts.map V.ref) (fun i H' => Same H2 H' ∧ H' D = some (.lst ((((pairsOf k).take i).map fun p => [p.1, p.2].contains t && decide (Vbbral.winnerOf k.wins p = 0)).map V.bl))) ⟨same_up nD, upd_same⟩ (fun i H' _ z => SqL.of (z.1 _ _ ep)) ?_ ?_⟩
  · rintro i x H' hx ⟨sm, eD⟩
    obtain ⟨tt, pr, rfl, e1, e2, e3⟩ := hP.get hx
    rw [List.getElem?_map] at e2
    obtain ⟨pn, e4, rfl⟩ := Option.map_eq_some_iff.mp e2
    have hp' := sm _ _ (s2 _ _ hp)
    have e3' := sm _ _ e3
    have fin : ∀ b : Bool, b = ([pn.1, pn.2].contains t && decide (Vbbral.winnerOf k.wins pn = 0)) → ∃ acc, H' D = some (HO.lst acc) ∧ acc.length < sizeLine ∧ (Same H2 (upd H' D (HO.lst (acc ++ [V.bl b]))) ∧ (upd H' D (HO.lst (acc ++ [V.bl b]))) D = some (.lst ((((pairsOf k).take (i + 1)).map fun p => [p.1, p.2].contains t && decide (Vbbral.winnerOf k.wins p = 0)).map V.bl))) := fun b eb => by
      refine ⟨_, eD, ?_, fun b o w => ?_, ?_⟩
      · rw [List.length_map, List.length_map]
        exact line_lt (Nat.le_trans (List.length_take_le' ..) (by omega))
      · rw [upd_ne (ne_of_none w nD)]
        exact sm b o w
      · rw [upd_same, take_one e4, List.map_append, List.map_append, eb]
        rfl
    have ec : inV (.int (t : Nat)) [.int (pn.1 : Nat), .int (pn.2 : Nat)] = [pn.1, pn.2].contains t := inV_N [pn.1, pn.2] t
    refine ⟨rfl, _, rfl, _, rfl, tt, _, rfl, .inr (SqT.of e3'), rfl, rfl, _, rfl, ?_⟩
    show if inV (.int (t : Nat)) [.int (pn.1 : Nat), .int (pn.2 : Nat)] = true then _ else _
    rw [ec]
    refine ite2 (fun c => ?_) (fun c => ?_)
    · refine ⟨_, rfl, ka, dx, _, rfl, hp', kF_no_decided_for .., _, rfl, _, _, rfl, ka, rw', wl, tt, k, pn, rfl, rfl, hK.same (s2.trans sm), e3', rfl, fin _ ?_⟩
      rw [c, dec_int, Bool.true_and]
      exact decide_eq_decide.mpr (by omega)
    · refine fin _ ?_
      rw [Bool.eq_false_iff.mpr c]
      rfl
  · rintro H3 ⟨sm, eD⟩
    rw [List.length_map, tl, List.take_length] at eD
    exact ⟨D, _, rfl, SqL.of eD, q H3 (s2.trans sm)⟩
def sp_KnockOut_win (K : PySem.W.Frag) : Sp := Sp2 fun x v1 H Q => ∃ (ka rw wl : Addr) (k : Vbbral.Knock) (t : Nat), x = .ref ka ∧ v1 = .int t ∧ KnockAt K H ka rw wl k ∧ rw ≠ wl ∧ GoodK k ∧ k.wins.length ≤ 10000 ∧
  ∀ (H' : Hp) (rw' wl' : Addr), (∀ b o, H b = some o → b ≠ ka → b ≠ wl → H' b = some o) → KnockAt K H' ka rw' wl' (Vbbral.settle ⟨k.now, k.wins ++ [t]⟩) → (∃ o, H' wl = some o) → ((wl' = wl ∧ rw' = rw) ∨ (H wl' = none ∧ H rw' = none ∧ rw' ≠ wl')) → Q .non H'
theorem ok_KnockOut_win (T : Txt w K mg base) : OkF P w K mg base 4 (He.ma K (He.ga K "KnockOut") "win") ["self", "team"] (sp_KnockOut_win K) := by
  obtain ⟨⟨fd_KnockOut_go_on, G_KnockOut_go_on, b_KnockOut_go_on⟩, k_KnockOut_go_on⟩ := ok_KnockOut_go_on (P := P) T
  obtain ⟨fd, F⟩ := T.f_KnockOut_win
  refine ok2 F sc_KnockOut_win (fun _ _ _ _ _ _ _ _ => rfl) (fun cdv A outer s H x0 x1 Q hr h => ?_)
  refine ⟨_, (pss_cons (ps_expr (pe_bm PySem.F.plainAttrs_list PySem.F.slot_list_append PySem.F.type_list_append mt_append (pe_fldK (K := K) rfl (pv 0) rfl) (pa_cons (pv 1) pa_nil)))
      (pss_one (ps_expr (pe_meth0 (pv 0) T.c_KnockOut T.m_KnockOut_go_on G_KnockOut_go_on (hr.mono (by decide)) b_KnockOut_go_on .nil pass0)))), ?_⟩
  obtain ⟨ka, rw', wl, k, t, rfl, rfl, hK, nrw, G, hl, q⟩ := h
  obtain ⟨dx, hp⟩ := hK.ins
  have kw : ka ≠ wl := ne_of hp hK.won (by intro z; cases z)
  have eW : vN k.wins ++ [V.int (t : Nat)] = vN (k.wins ++ [t]) := by
    unfold vN
    rw [List.map_append]
    rfl
  refine ⟨_, rfl, ka, _, dx, _, _, rfl, hp, T.c_KnockOut, T.na_KnockOut_won, kF_won .., .inl ⟨rfl, _, SqL.of hK.won⟩, _, rfl, wl, _, _, rfl, rfl, hK.won, by rw [vN_len]; exact line_lt (by omega), ?_⟩
  rw [eW]
  have hp1 : (upd H wl (.lst (vN (k.wins ++ [t])))) ka = some (.ins (He.ga K "KnockOut") dx (kF (.ref rw') (.ref wl))) := by
    rw [upd_ne kw]
    exact hp
  refine ⟨_, rfl, ka, dx, _, rfl, hp1, kF_no_go_on .., _, rfl, ka, rw', wl, ⟨k.now, k.wins ++ [t]⟩, rfl, ⟨⟨dx, hp1⟩, by rw [upd_ne nrw]; exact hK.row, upd_same⟩, ⟨G.pow⟩, fun H2 r2 w2 kp hK2 alt => ?_⟩
  refine q H2 r2 w2 (fun b o e h1 h2 => kp b o (by rw [upd_ne h2]; exact e) h1) hK2 ⟨_, kp wl _ upd_same kw.symm⟩ ?_
  rcases alt with z | ⟨z1, z2, z3⟩
  · exact .inl z
  · refine .inr ⟨?_, ?_, z3⟩
    · by_cases z : w2 = wl
      · rw [z, upd_same] at z1
        cases z1
      · rw [upd_ne z] at z1
        exact z1
    · by_cases z : r2 = wl
      · rw [z, upd_same] at z2
        cases z2
      · rw [upd_ne z] at z2
        exact z2
end
end TR

set_option Elab.async false
set_option linter.all false
set_option maxRecDepth 100000
set_option maxHeartbeats 4000000
namespace TR
open PySem PySem.Spec PyProof.Rows L2
section
variable {P : Program} {w : World} {K : PySem.W.Frag} {mg : Str → Option Value} {base : Heap}
def sp_seed_row (K : PySem.W.Frag) : Sp := Sp1 fun x H Q => ∃ k : Nat, x = .int k ∧ k ≤ 16 ∧ ∀ (H' : Hp) (p : Addr), Same H H' → H p = none → H' p = some (.lst (vN (Vbbral.seeds (Vbbral.doublings k)))) → Q (.ref p) H'
theorem ok_seed_row (T : Txt w K mg base) : OkF P w K mg base 1 (He.ga K "seed_row") ["least"] (sp_seed_row K) := by
  obtain ⟨fd, F⟩ := T.f_seed_row
  refine ok1 F sc_seed_row (fun _ _ _ _ _ _ _ => rfl) (fun cdv A outer s H x0 Q hr h => ?_)
  refine ⟨_, (pss_cons (ps_set (i := 1) sc_seed_row.nd rfl (Or.inl rfl) (pe_lst (pa_cons pe_int pa_nil)))
      (pss_cons (ps_while PassesOwn.never (pt_cmpR op_lt (pe_callB (r := rLenS K) call_len_seq (by rfl) T.n_len PySem.boot_len (pa_cons (pv 1) pa_nil)) (pv 0) (nomark _)) (pss_cons (ps_set (i := 2) sc_seed_row.nd rfl (Or.inl rfl) (pe_op op_add (pe_op op_mul pe_int (pe_callB (r := rLenS K) call_len_seq (by rfl) T.n_len PySem.boot_len (pa_cons (pv 1) pa_nil))) pe_int))
      (pss_cons (ps_set (i := 3) sc_seed_row.nd rfl (Or.inl rfl) (pe_lst pa_nil))
      (pss_cons (ps_for PassesOwn.never rfl (pi_list (pv 1)) (pg_name (i := 4) sc_seed_row.nd rfl (Or.inl rfl)) (pss_one (ps_expr (pe_bm PySem.F.plainAttrs_list PySem.F.slot_list_extend PySem.F.type_list_extend mt_extend (pv 3) (pa_cons (pe_lst (pa_cons (pv 4) (pa_cons (pe_op op_sub (pv 2) (pv 4)) pa_nil))) pa_nil)))))
      (pss_one (ps_set (i := 1) sc_seed_row.nd rfl (Or.inl rfl) (pv 3)))))))
      (pss_one (ps_ret (pv 1))))), ?_⟩
  obtain ⟨k, rfl, hk, q⟩ := h
  refine ⟨by show 1 ≤ sizeLine; decide, fun p np => ?_⟩
  refine while_by (fun σ H' => ∃ (j : Nat) (p : Addr) (v2 v3 v4 : Option V), σ = [some (.int (k : Nat)), some (.ref p), v2, v3, v4] ∧ Same H H' ∧ H p = none ∧ H' p = some (.lst (vN (Vbbral.seeds j))) ∧ j ≤ 4 ∧ ∀ i, i < j → 2 ^ i < k)
    (fun σ H' => match σ with | [_, some (.ref p), _, _, _] => (match H' p with | some (.lst xs) => 16 - xs.length | _ => 0) | _ => 0)
    ⟨0, p, none, none, none, rfl, same_up np, np, upd_same, by omega, fun i hi => absurd hi (by omega)⟩ ?_ ?_
  · rintro σ H1 ⟨j, p, v2, v3, v4, rfl, sm, np, ep, hj, hlt⟩
    have sl := Vbbral.seeds j |>.length
    have sll := seeds_len j
    have p16 : 2 ^ j ≤ 16 := Nat.le_trans (Nat.pow_le_pow_right (by decide) hj) (by decide)
    refine ⟨_, rfl, p, _, rfl, .inl (SqL.of ep), _, rfl, _, _, rfl, rfl, _, rfl, ?_⟩
    rw [vN_len, sll]
    refine ite2 (fun c => ?_) (fun c => ?_)
    · have c : 2 ^ j < k := by
        have := of_decide_eq_true c
        omega
      have hj4 : j < 4 := Nat.lt_of_le_of_ne hj fun z => by
        rw [z] at c
        have : (2 : Nat) ^ 4 = 16 := by decide
        omega
      refine ⟨_, rfl, p, _, rfl, .inl (SqL.of ep), 2, _, rfl, rfl, .inl ⟨by decide, by decide⟩, _, _, rfl, rfl, ?_⟩
      have e1 : (2 : Int) * (((vN (Vbbral.seeds j)).length : Nat) : Int) + 1 = ((2 * 2 ^ j + 1 : Nat) : Int) := by
        rw [vN_len, sll]
        omega
      dsimp only
      rw [e1]
      refine ⟨by show 0 ≤ sizeLine; decide, fun w nw => ?_⟩
      have sW : Same H1 (upd H1 w (.lst [])) := same_up nw
      have wp : w ≠ p := (ne_of_none ep nw).symm
      refine ⟨_, rfl, p, rfl, ⟨_, SqL.of (sW _ _ ep)⟩, for_list (K := K) (a := p) (xs := vN (Vbbral.seeds j)) (fun i σ H' => (∃ v, σ = [some (.int (k : Nat)), some (.ref p), some (.int ((2 * 2 ^ j + 1 : Nat) : Int)), some (.ref w), v]) ∧ Same H1 H' ∧ H' w = some (.lst (vN (((Vbbral.seeds j).take i).flatMap fun x => [x, 2 * 2 ^ j + 1 - x]))))
        ⟨⟨_, rfl⟩, sW, upd_same⟩ (fun i σ H' _ z => SqL.of (z.2.1 _ _ ep)) ?_ ?_⟩
      · rintro i x σ H2 hx ⟨⟨v, rfl⟩, s2, ew⟩
        obtain ⟨y, ey, rfl⟩ := vN_at hx
        have ly := (seeds_le j y (List.mem_of_getElem? ey)).2
        refine ⟨_, rfl, .inl ⟨rfl, _, SqL.of ew⟩, _, rfl, _, rfl, _, rfl, _, _, rfl, rfl, by show 2 ≤ sizeLine; decide, fun t nt => ?_⟩
        have wt : w ≠ t := ne_of_none ew nt
        refine ⟨w, t, _, _, rfl, rfl, by rw [upd_ne wt]; exact ew, upd_same, ?_, ⟨_, rfl⟩, fun b o e => ?_, ?_⟩
        · rw [vN_len, List.length_flatMap]
          have : ∀ l : List Nat, (l.map fun x => ([x, 2 * 2 ^ j + 1 - x] : List Nat).length).sum = 2 * l.length := fun l => by
            induction l with
            | nil => rfl
            | cons x l ih =>
              rw [List.map_cons, List.sum_cons, ih]
              show 2 + 2 * l.length = 2 * (l.length + 1)
              omega
          rw [this]
          have : ((Vbbral.seeds j).take i).length ≤ 16 := Nat.le_trans (List.length_take_le' ..) (by omega)
          show 2 * _ + 2 ≤ sizeLine
          exact Nat.le_of_lt (line_lt (by omega))
        · have e2 := s2 _ _ e
          rw [upd_ne (ne_of_none e nw), upd_ne (ne_of_none e2 nt)]
          exact e2
        · rw [upd_same, take_one ey, List.flatMap_append]
          unfold vN
          rw [List.map_append]
          show some (HO.lst (_ ++ [V.int (y : Nat), V.int (((2 * 2 ^ j + 1 : Nat) : Int) - ((y : Nat) : Int))])) = some (HO.lst (_ ++ [V.int ((y : Nat) : Int), V.int ((2 * 2 ^ j + 1 - y : Nat) : Int)]))
          rw [show ((2 * 2 ^ j + 1 : Nat) : Int) - ((y : Nat) : Int) = ((2 * 2 ^ j + 1 - y : Nat) : Int) by omega]
      · rintro σ H2 ⟨⟨v, rfl⟩, s2, ew⟩
        rw [vN_len, List.take_length] at ew
        have ew : H2 w = some (.lst (vN (Vbbral.seeds (j + 1)))) := ew
        refine ⟨_, rfl, ⟨j + 1, w, _, _, _, rfl, sm.trans s2, sm.free nw, ew, by omega, fun i hi => ?_⟩, ?_⟩
        · by_cases z : i = j
          · rw [z]; exact c
          · exact hlt i (by omega)
        · show (match H2 w with | some (.lst xs) => 16 - xs.length | _ => 0) < (match H1 p with | some (.lst xs) => 16 - xs.length | _ => 0)
          rw [ew, ep]
          show 16 - (vN (Vbbral.seeds (j + 1))).length < 16 - (vN (Vbbral.seeds j)).length
          rw [vN_len, vN_len, seeds_len, seeds_len, Nat.pow_succ]
          have : 2 ^ j ≤ 8 := Nat.le_trans (Nat.pow_le_pow_right (by decide) (show j ≤ 3 by omega)) (by decide)
          have := Nat.two_pow_pos j
          omega
    · have c : k ≤ 2 ^ j := by
        refine Nat.le_of_not_lt fun z => c (decide_eq_true ?_)
        omega
      rw [doublings_at (by omega) c hlt] at q
      exact ⟨_, rfl, q H1 p sm np ep⟩
  · exact mono_test (mono_op mono_rI0 (fun σ H Q Q' k ⟨v, e, p, xs, e2, hs, q⟩ => ⟨v, e, p, xs, e2, hs, k _ _ q⟩) (mono_var _))
def sp_KnockOut_init (K : PySem.W.Frag) : Sp := Sp2 fun x v1 H Q => ∃ (ka dx a : Addr) (l : List Nat), x = .ref ka ∧ v1 = .ref a ∧ H ka = some (.ins (He.ga K "KnockOut") dx []) ∧ SqL K H a (vN l) ∧ l.length ≤ 12 ∧
  ∀ (H' : Hp) (rw wl : Addr), (∀ b o, H b = some o → b ≠ ka → H' b = some o) → KnockAt K H' ka rw wl (Vbbral.settle ⟨Vbbral.bracket l, []⟩) → H rw = none → H wl = none → rw ≠ wl → Q .non H'
theorem ok_KnockOut_init (T : Txt w K mg base) : OkF P w K mg base 4 (He.ma K (He.ga K "KnockOut") "__init__") ["self", "teams"] (sp_KnockOut_init K) := by
  obtain ⟨⟨fd_KnockOut_go_on, G_KnockOut_go_on, b_KnockOut_go_on⟩, k_KnockOut_go_on⟩ := ok_KnockOut_go_on (P := P) T
  obtain ⟨⟨fd_seed_row, G_seed_row, b_seed_row⟩, k_seed_row⟩ := ok_seed_row (P := P) T
  obtain ⟨fd, F⟩ := T.f_KnockOut_init
  refine ok2 F sc_KnockOut_init (fun _ _ _ _ _ _ _ _ => rfl) (fun cdv A outer s H x0 x1 Q hr h => ?_)
  refine ⟨_, (pss_cons (ps_fld (pv 0) (pe_lc (own := [("seed", 2)]) (g := gName 2) (by rfl) sc_KnockOut_init.nd (pi_list (pe_call G_seed_row (hr.mono (by decide)) (by rfl) T.g_seed_row k_seed_row b_seed_row .nil pass0 (pa_cons (pe_callB (r := rLenS K) call_len_seq (by rfl) T.n_len PySem.boot_len (pa_cons (pv 1) pa_nil)) pa_nil))) (blkOk_by (own := [("seed", 2)]) (N := ["self", "teams", "seed"]) (sc := defScope s_KnockOut_init) (by decide +kernel)) (fun _ _ _ _ _ => pg_name (i := 2) sc_KnockOut_init.nd rfl (Or.inl rfl)) (fun _ _ _ _ _ => pts_nil) (fun _ _ _ _ _ => (pe_ifExp (pt_cmpR op_le (pv 2) (pe_callB (r := rLenS K) call_len_seq (by rfl) T.n_len PySem.boot_len (pa_cons (pv 1) pa_nil)) (nomark _)) (pe_ix (r := rIxL K) ix_list (pv 1) (pe_op op_sub (pv 2) pe_int) (fun _ _ => rfl)) pe_int))) rfl)
      (pss_cons (ps_fld (pv 0) (pe_lst pa_nil) rfl)
      (pss_one (ps_expr (pe_meth0 (pv 0) T.c_KnockOut T.m_KnockOut_go_on G_KnockOut_go_on (hr.mono (by decide)) b_KnockOut_go_on .nil pass0))))), ?_⟩
  obtain ⟨ka, dx, a, l, rfl, rfl, hp, hS, hl, q⟩ := h
  refine ⟨_, rfl, a, _, rfl, .inl hS, _, rfl, ?_⟩
  dsimp only
  rw [vN_len]
  refine ⟨l.length, rfl, by omega, fun H1 p s1 np ep => ?_⟩
  have bl : (Vbbral.seeds (Vbbral.doublings l.length)).length ≤ 16 := by
    have := (bracket_good (l := l) (w := [])).le
    rw [bracket_len] at this
    rw [seeds_len]
    exact this
  refine ⟨p, rfl, ⟨_, SqL.of ep⟩, fun D nD => lc_list (K := K) (a := p) (xs := vN (Vbbral.seeds (Vbbral.doublings l.length))) (fun i H' => Same H1 H' ∧ H' D = some (.lst (vN (((Vbbral.seeds (Vbbral.doublings l.length)).take i).map fun x => l.getD (x - 1) 0)))) ⟨same_up nD, upd_same⟩ (fun i H' _ z => SqL.of (z.1 _ _ ep)) ?_ ?_⟩
  · rintro i x H' hx ⟨sm, eD⟩
    obtain ⟨y, ey, rfl⟩ := vN_at hx
    have ly := seeds_le _ y (List.mem_of_getElem? ey)
    have hS' := (s1.trans sm).seq hS
    have fin : ∀ z : Nat, z = l.getD (y - 1) 0 → ∃ acc, H' D = some (HO.lst acc) ∧ acc.length < sizeLine ∧ (Same H1 (upd H' D (HO.lst (acc ++ [V.int (z : Nat)]))) ∧ (upd H' D (HO.lst (acc ++ [V.int (z : Nat)]))) D = some (.lst (vN (((Vbbral.seeds (Vbbral.doublings l.length)).take (i + 1)).map fun x => l.getD (x - 1) 0)))) := fun z ez => by
      refine ⟨_, eD, ?_, fun b o w => ?_, ?_⟩
      · rw [vN_len, List.length_map]
        exact line_lt (Nat.le_trans (List.length_take_le' ..) (by omega))
      · rw [upd_ne (ne_of_none w nD)]
        exact sm b o w
      · rw [upd_same, take_one ey, List.map_append, ez]
        unfold vN
        rw [List.map_append]
        rfl
    refine ⟨rfl, _, rfl, _, rfl, a, _, rfl, .inl hS', _, _, rfl, rfl, _, rfl, ?_⟩
    rw [vN_len]
    refine ite2 (fun c => ?_) (fun c => ?_)
    · have c : y ≤ l.length := by
        have := of_decide_eq_true c
        omega
      have ez : l[y - 1]? = some l[y - 1] := List.getElem?_eq_getElem (by omega)
      refine ⟨_, rfl, _, rfl, _, _, rfl, rfl, a, _, _, _, rfl, rfl, hS', ?_, fin l[y - 1] ?_⟩
      · rw [show ((y : Nat) : Int) - 1 = ((y - 1 : Nat) : Int) by omega]
        refine atI_nat ?_
        unfold vN
        rw [List.getElem?_map, ez]
        rfl
      · rw [List.getD_eq_getElem?_getD, ez]
        rfl
    · have c : ¬ y ≤ l.length := fun z => c (decide_eq_true (by omega))
      refine fin 0 ?_
      rw [List.getD_eq_getElem?_getD, List.getElem?_eq_none (by omega)]
      rfl
  · rintro H2 ⟨sm, eD⟩
    rw [vN_len, List.take_length] at eD
    have s12 := s1.trans sm
    have hp2 := s12 _ _ hp
    have Dk : D ≠ ka := ne_of eD hp2 (by intro z; cases z)
    refine ⟨_, rfl, ka, _, dx, [], rfl, hp2, T.c_KnockOut, T.na_KnockOut_row, (by decide), ?_⟩
    refine ⟨Nat.zero_le _, fun w nw => ?_⟩
    have kw : ka ≠ w := ne_of_none upd_same nw
    have nw2 : H2 w = none := by rw [upd_ne kw.symm] at nw; exact nw
    have Dw : D ≠ w := ne_of_none eD nw2
    refine ⟨_, rfl, ka, _, dx, _, rfl, by rw [upd_ne kw, upd_same], T.c_KnockOut, T.na_KnockOut_won, (by show 1 < 1000; decide), ?_⟩
    have hp3 := upd_same (H := upd (upd H2 ka (.ins (He.ga K "KnockOut") dx (putF "row" (.ref D) []))) w (.lst [])) (a := ka) (o := HO.ins (He.ga K "KnockOut") dx (putF "won" (.ref w) (putF "row" (.ref D) [])))
    rw [kF_new] at hp3 ⊢
    refine ⟨_, rfl, ka, dx, _, rfl, hp3, kF_no_go_on .., _, rfl, ka, D, w, ⟨Vbbral.bracket l, []⟩, rfl, ⟨⟨dx, hp3⟩, ?_, ?_⟩, bracket_good, fun H4 r4 w4 kp hK4 alt => ?_⟩
    · rw [upd_ne Dk, upd_ne Dw, upd_ne Dk]
      exact eD
    · rw [upd_ne kw.symm, upd_same]
      rfl
    · have keep : ∀ b o, H b = some o → b ≠ ka → H4 b = some o := fun b o e hb => kp b o (by
        have e2 := s12 _ _ e
        rw [upd_ne hb, upd_ne (ne_of_none e2 nw2), upd_ne hb]
        exact e2) hb
      have fr : ∀ z : Addr, z ≠ ka → (upd (upd (upd H2 ka (.ins (He.ga K "KnockOut") dx (putF "row" (.ref D) []))) w (.lst [])) ka (.ins (He.ga K "KnockOut") dx (kF (.ref D) (.ref w)))) z = none → H z = none := fun z zk e => by
        rw [upd_ne zk] at e
        by_cases zw : z = w
        · rw [zw, upd_same] at e
          cases e
        · rw [upd_ne zw, upd_ne zk] at e
          exact s12.free e
      have ka4 := hp3
      rcases alt with ⟨z1, z2⟩ | ⟨z1, z2, z3⟩
      · rw [z1, z2] at hK4
        exact q H4 D w keep hK4 (s1.free nD) (s12.free nw2) Dw
      · exact q H4 r4 w4 keep hK4 (fr r4 (fun z => by rw [z, ka4] at z2; cases z2) z2) (fr w4 (fun z => by rw [z, ka4] at z1; cases z1) z1) z3
end
end TR

set_option Elab.async false
set_option linter.all false
set_option maxRecDepth 100000
namespace TR
open Vbbral
/-! ### a call by its place -/
def opt (m : CallM) : Option Vbbral.Call := match m.kind, m.nums with
  | 0, [n] => some (.teams n)
  | 1, [a] => some (.pair a)
  | 2, [a] => some (.draw a)
  | 3, [] => some (.own m.row)
  | 4, [a, b] => some (.game a b m.row)
  | 5, [r, a, b, d] => some (.result r a b d)
  | 6, [] => some .standings
  | 7, [a, b] => some (.met a b)
  | 8, [] => some .left
  | 9, [] => some (.check m.row)
  | 10, [d] => some (.vp d)
  | 11, [d] => some (.imp d)
  | 12, [k] => some (.knock k)
  | 13, [] => some .round
  | 14, [a] => some (.win a)
  | 15, [r] => some (.told r)
  | _, _ => none
theorem inR_num {m : CallM} (h : inR m = true) {i : Nat} {x : Int} {l : List Int} (e1 : m.nums[i]? = some x) (e2 : (RANGESm.getD m.kind [])[i]? = some l) : numOk x l = true := by
  unfold inR at h
  have h := (Bool.and_eq_true_iff.mp h).1
  exact List.all_eq_true.mp h (x, l) (List.mem_of_getElem? (i := i) (List.getElem?_zip_eq_some.mpr ⟨e1, e2⟩))
theorem inR_row {m : CallM} (h : inR m = true) {lims : List Int} (e : rowLim m.kind = some lims) : rowOk lims m.row = true := by
  unfold inR at h
  have h := (Bool.and_eq_true_iff.mp h).2
  rw [e] at h
  exact h
theorem isPairs_eq (l : List Int) : rowOk [0, 12, 1, 12] l = isPairs l := by
  show (!(l.length % 2 == 1 || (decide ((l.length : Int) < 0) || decide ((l.length : Int) > 12))) && l.all fun n => decide (1 ≤ n) && decide (n ≤ 12)) = (decide (l.length ≤ 12) && (l.length % 2 == 0 && l.all isTeam))
  have e : (l.all fun n => decide (1 ≤ n) && decide (n ≤ 12)) = l.all isTeam := rfl
  rw [e]
  have e2 : (!(l.length % 2 == 1 || (decide ((l.length : Int) < 0) || decide ((l.length : Int) > 12)))) = (decide (l.length ≤ 12) && l.length % 2 == 0) := by
    rw [Bool.eq_iff_iff, Bool.not_eq_true', Bool.or_eq_false_iff, Bool.or_eq_false_iff, beq_eq_false_iff_ne, decide_eq_false_iff_not, decide_eq_false_iff_not, Bool.and_eq_true, decide_eq_true_iff, beq_iff_eq]
    omega
  rw [e2, Bool.and_assoc]
theorem isPairs_nat {l : List Int} (h : isPairs l = true) : l.length ≤ 12 ∧ l.length % 2 = 0 ∧ ∃ r : List Nat, l = iN r ∧ ∀ t ∈ r, 1 ≤ t ∧ t ≤ 12 := by
  unfold isPairs at h
  obtain ⟨h1, h⟩ := Bool.and_eq_true_iff.mp h
  obtain ⟨h2, h3⟩ := Bool.and_eq_true_iff.mp h
  have hx : ∀ x ∈ l, 1 ≤ x ∧ x ≤ 12 := fun x hx => by
    have := List.all_eq_true.mp h3 x hx
    unfold isTeam within at this
    rw [Bool.and_eq_true, decide_eq_true_iff, decide_eq_true_iff] at this
    exact this
  refine ⟨of_decide_eq_true h1, beq_iff_eq.mp h2, l.map Int.toNat, ?_, ?_⟩
  · unfold iN
    rw [List.map_map]
    have : l.map ((fun n : Nat => (n : Int)) ∘ Int.toNat) = l.map fun x => x := List.map_congr_left fun x h => by
      have := hx x h
      show ((x.toNat : Nat) : Int) = x
      omega
    rw [this, List.map_id']
  · intro t ht
    obtain ⟨x, h, rfl⟩ := List.mem_map.mp ht
    have := hx x h
    omega
/-! ### a round in its place -/
theorem setRound_eq (s : State) (i : Nat) (f : Round → Round) {r : Round} (h : s.rounds[i]? = some r) : setRound s i f = ⟨s.teams, s.rounds.set i (f r), s.knock⟩ := by
  unfold setRound
  congr 1
  refine List.ext_getElem? fun j => ?_
  rw [List.getElem?_map, List.getElem?_zipIdx]
  by_cases c : i = j
  · subst c
    rw [h, List.getElem?_set_self (List.getElem?_eq_some_iff.mp h).1]
    show some (if 0 + i = i then f r else r) = some (f r)
    rw [if_pos (by omega)]
  · rw [List.getElem?_set_ne c]
    cases h2 : s.rounds[j]? with
    | none => rfl
    | some r2 =>
      show some (if 0 + j = i then f r2 else r2) = some r2
      rw [if_neg (by omega)]
def sameTeams (g : Game) (a b : Nat) : Prop := (g.a = a ∧ g.b = b) ∨ (g.a = b ∧ g.b = a)
theorem isOf_same (g : Game) (a b : Nat) : isOf g (a : Int) (b : Int) = true ↔ sameTeams g a b := by
  rw [isOf_nat, Bool.or_eq_true, Bool.and_eq_true, Bool.and_eq_true, beq_iff_eq, beq_iff_eq, beq_iff_eq, beq_iff_eq]
  rfl
theorem setGame_no {g : Game} {a b : Nat} {d : Int} (h : ¬ sameTeams g a b) : setGame a b d g = g := by
  unfold setGame
  rw [if_neg fun z => h (.inl z), if_neg fun z => h (.inr z)]
theorem setGame_yes {g : Game} {a b : Nat} {d : Int} (h : sameTeams g a b) (n : g.a ≠ g.b) : setGame a b d g = ⟨g.a, g.b, true, if a = g.a then d else -d⟩ := by
  unfold setGame
  rcases h with ⟨h1, h2⟩ | ⟨h1, h2⟩
  · rw [if_pos ⟨h1, h2⟩, if_pos h1.symm, h1, h2]
  · rw [if_neg (by omega), if_pos ⟨h1, h2⟩, if_neg (by omega), h1, h2]
theorem setGame_teams (g : Game) (a b : Nat) (d : Int) : (setGame a b d g).a = g.a ∧ (setGame a b d g).b = g.b := by
  unfold setGame
  split
  · rename_i h
    exact ⟨h.1.symm, h.2.symm⟩
  · split
    · rename_i h
      exact ⟨h.1.symm, h.2.symm⟩
    · exact ⟨rfl, rfl⟩
/-- two matches of a round have no team in common -/
theorem apart_one {l : List Game} (h : (l.flatMap fun g => [g.a, g.b]).Nodup) {a b : Nat} : ∀ {i j : Nat} {g g2 : Game}, l[i]? = some g → l[j]? = some g2 → sameTeams g a b → sameTeams g2 a b → i = j := by
  induction l with
  | nil => intro i j g g2 e; simp at e
  | cons x l ih =>
    rw [List.flatMap_cons, List.nodup_append] at h
    obtain ⟨_, h2, h3⟩ := h
    have key : ∀ (k : Nat) (g2 : Game), l[k]? = some g2 → sameTeams x a b → sameTeams g2 a b → False := fun k g2 e s1 s2 => by
      have m : g2.a ∈ l.flatMap fun g => [g.a, g.b] := List.mem_flatMap.mpr ⟨g2, List.mem_of_getElem? e, List.mem_cons_self ..⟩
      rcases s1 with ⟨p, q⟩ | ⟨p, q⟩ <;> rcases s2 with ⟨p', q'⟩ | ⟨p', q'⟩
      · exact h3 x.a (List.mem_cons_self ..) g2.a m (by omega)
      · exact h3 x.b (List.mem_cons_of_mem _ (List.mem_cons_self ..)) g2.a m (by omega)
      · exact h3 x.b (List.mem_cons_of_mem _ (List.mem_cons_self ..)) g2.a m (by omega)
      · exact h3 x.a (List.mem_cons_self ..) g2.a m (by omega)
    intro i j g g2 e1 e2 s1 s2
    match i, j with
    | 0, 0 => rfl
    | 0, j + 1 =>
      cases e1
      exact (key j g2 e2 s1 s2).elim
    | i + 1, 0 =>
      cases e2
      exact (key i g e1 s2 s1).elim
    | i + 1, j + 1 =>
      have := ih h2 (i := i) (j := j) e1 e2 s1 s2
      omega
theorem map_set {l : List Game} (h : (l.flatMap fun g => [g.a, g.b]).Nodup) {a b : Nat} {d : Int} {i : Nat} {g : Game} (e : l[i]? = some g) (n : g.a ≠ g.b) (hs : sameTeams g a b) : l.map (setGame a b d) = l.set i ⟨g.a, g.b, true, if a = g.a then d else -d⟩ := by
  refine List.ext_getElem? fun j => ?_
  rw [List.getElem?_map]
  by_cases c : i = j
  · subst c
    rw [e, List.getElem?_set_self (List.getElem?_eq_some_iff.mp e).1]
    show some (setGame a b d g) = _
    rw [setGame_yes hs n]
  · rw [List.getElem?_set_ne c]
    cases h2 : l[j]? with
    | none => rfl
    | some g2 =>
      show some (setGame a b d g2) = some g2
      rw [setGame_no fun z => c (apart_one h e h2 hs z)]
theorem hasGame_iff (r : Round) (a b : Nat) : hasGame a b r = true ↔ ∃ g ∈ r.games, sameTeams g a b := by
  rw [← any_isOf, List.any_eq_true]
  constructor
  · rintro ⟨g, h1, h2⟩
    exact ⟨g, h1, (isOf_same g a b).mp h2⟩
  · rintro ⟨g, h1, h2⟩
    exact ⟨g, h1, (isOf_same g a b).mpr h2⟩
/-! ### what stays true -/
structure InvS (B : Nat) (s : State) : Prop where
  good : Good s
  two : s.teams = 0 ∨ 2 ≤ s.teams
  none : s.teams = 0 → s.rounds = []
  kn : ∀ k, s.knock = some k → GoodK k ∧ k.wins.length ≤ B
theorem InvS.up {B : Nat} {s : State} (h : InvS B s) : InvS (B + 1) s := ⟨h.good, h.two, h.none, fun k hk => ⟨(h.kn k hk).1, Nat.le_succ_of_le (h.kn k hk).2⟩⟩
theorem inv_start : InvS 0 start := ⟨⟨by show 0 ≤ 12; omega, by show 0 ≤ 11; omega, fun r hr => by (cases hr), fun r hr => by (cases hr), fun r hr => by (cases hr), fun r hr => by (cases hr)⟩, .inl rfl, fun _ => rfl, fun k hk => by cases hk⟩
theorem flat_pairs (ps : Pairs) : (ps.map fun p => (⟨p.1, p.2, false, 0⟩ : Game)).flatMap (fun g => [g.a, g.b]) = namesOf ps := by
  unfold namesOf
  rw [flatMap_map']
theorem good_add {s : State} (G : Good s) {b : Nat} {ps : Pairs} (hr : s.rounds.length < 11) (hb : b ≤ s.teams) (hn : (namesOf ps).Nodup) (hm : ∀ t ∈ namesOf ps, 1 ≤ t ∧ t ≤ s.teams) (hl : ps.length ≤ 6) (k : Option Knock) : Good ⟨s.teams, s.rounds ++ [roundOf b ps], k⟩ := by
  have mem : ∀ {P : Round → Prop}, (∀ r ∈ s.rounds, P r) → P (roundOf b ps) → ∀ r ∈ s.rounds ++ [roundOf b ps], P r := fun h1 h2 r hr => by
    rcases List.mem_append.mp hr with z | z
    · exact h1 r z
    · rw [List.mem_singleton.mp z]
      exact h2
  refine ⟨G.teams, ?_, mem G.ok ⟨hb, fun g hg => ?_⟩, mem G.games ?_, mem G.undone fun g hg _ => ?_, mem G.apart ?_⟩
  · show (s.rounds ++ [roundOf b ps]).length ≤ 11
    rw [List.length_append]
    show s.rounds.length + 1 ≤ 11
    omega
  · obtain ⟨p, hp, rfl⟩ := List.mem_map.mp hg
    have m1 := hm p.1 (List.mem_flatMap.mpr ⟨p, hp, List.mem_cons_self ..⟩)
    have m2 := hm p.2 (List.mem_flatMap.mpr ⟨p, hp, List.mem_cons_of_mem _ (List.mem_cons_self ..)⟩)
    refine ⟨m1.1, m1.2, m2.1, m2.2, fun z => ?_⟩
    have z : p.1 = p.2 := z
    have sub : [p.1, p.2].Sublist (namesOf ps) := by
      obtain ⟨l1, l2, rfl⟩ := List.append_of_mem hp
      unfold namesOf
      rw [List.flatMap_append, List.flatMap_cons]
      exact (List.sublist_append_left _ _).trans (List.sublist_append_right _ _)
    have nd := List.Nodup.sublist sub hn
    rw [z] at nd
    simp at nd
  · show (ps.map _).length ≤ 6
    rw [List.length_map]
    exact hl
  · obtain ⟨p, hp, rfl⟩ := List.mem_map.mp hg
    rfl
  · show (flatG (roundOf b ps)).Nodup
    unfold flatG
    show ((ps.map fun p => (⟨p.1, p.2, false, 0⟩ : Game)).flatMap fun g => [g.a, g.b]).Nodup
    rw [flat_pairs]
    exact hn
theorem good_set {s : State} (G : Good s) {i a b : Nat} {d : Int} : Good (enter s i a b d) := by
  unfold enter
  cases h : s.rounds[i]? with
  | none =>
    have e : setRound s i (fun r => ⟨r.bye, r.games.map (setGame a b d)⟩) = s := by
      unfold setRound
      have : s.rounds.zipIdx.map (fun x => if x.2 = i then (⟨x.1.bye, x.1.games.map (setGame a b d)⟩ : Round) else x.1) = s.rounds := by
        refine List.ext_getElem? fun j => ?_
        rw [List.getElem?_map, List.getElem?_zipIdx]
        cases h2 : s.rounds[j]? with
        | none => rfl
        | some r2 =>
          have : j ≠ i := fun z => by rw [z, h] at h2; cases h2
          show some (if 0 + j = i then _ else r2) = some r2
          rw [if_neg (by omega)]
      rw [this]
    rw [e]
    exact G
  | some r =>
    rw [setRound_eq s i _ h]
    have hr := List.mem_of_getElem? h
    have mem : ∀ {P : Round → Prop}, (∀ r ∈ s.rounds, P r) → P ⟨r.bye, r.games.map (setGame a b d)⟩ → ∀ q ∈ s.rounds.set i ⟨r.bye, r.games.map (setGame a b d)⟩, P q := fun h1 h2 q hq => by
      rcases List.mem_or_eq_of_mem_set hq with z | rfl
      · exact h1 q z
      · exact h2
    refine ⟨G.teams, ?_, mem G.ok ⟨(G.ok r hr).1, fun g hg => ?_⟩, mem G.games ?_, mem G.undone fun g hg hd => ?_, mem G.apart ?_⟩
    · show (s.rounds.set i _).length ≤ 11
      rw [List.length_set]
      exact G.rounds
    · obtain ⟨g', hg', rfl⟩ := List.mem_map.mp hg
      have := (G.ok r hr).2 g' hg'
      unfold okG at this ⊢
      rw [(setGame_teams g' a b d).1, (setGame_teams g' a b d).2]
      exact this
    · show (r.games.map _).length ≤ 6
      rw [List.length_map]
      exact G.games r hr
    · obtain ⟨g', hg', rfl⟩ := List.mem_map.mp hg
      unfold setGame at hd ⊢
      split at hd
      · cases hd
      · rename_i c
        split at hd
        · cases hd
        · rename_i c2
          rw [if_neg c, if_neg c2]
          exact G.undone r hr g' hg' hd
    · show ((r.games.map (setGame a b d)).flatMap fun g => [g.a, g.b]).Nodup
      rw [flatMap_map', show (fun x => [(setGame a b d x).a, (setGame a b d x).b]) = fun g : Game => [g.a, g.b] from funext fun g => by rw [(setGame_teams g a b d).1, (setGame_teams g a b d).2]]
      exact G.apart r hr
theorem pairing_facts {s : State} (G : Good s) {mode b : Nat} {ps : Pairs} (hm : mode ≤ 1) (h : pairing s mode = some (b, ps)) : b ≤ s.teams ∧ (namesOf ps).Nodup ∧ (∀ t ∈ namesOf ps, 1 ≤ t ∧ t ≤ s.teams) ∧ ps.length ≤ 6 := by
  rw [pairing_eq s mode hm] at h
  obtain ⟨x, hx, h⟩ := List.exists_of_findSome?_eq_some h
  cases hb : bestOf s mode x with
  | none => rw [hb] at h; cases h
  | some m =>
    rw [hb] at h
    have h : some (x, m.2) = some (b, ps) := h
    cases h
    have nd : ((ranking s).filter (· != b)).Nodup := List.Nodup.sublist List.filter_sublist (rank_nodup s)
    obtain ⟨w1, _, w3⟩ := wy_mem _ _ (Nat.le_refl _) nd m.2 (best_mem hb)
    have w1 : (namesOf m.2).Perm ((ranking s).filter (· != b)) := w1
    refine ⟨?_, w1.nodup_iff.mpr nd, fun t ht => rank_mem.mp (List.mem_filter.mp (w1.mem_iff.mp ht)).1, ?_⟩
    · unfold sitters at hx
      split at hx
      · have := List.mem_singleton.mp hx
        omega
      · exact (rank_mem.mp (List.mem_reverse.mp (List.mem_filter.mp hx).1)).2
    · have : ((ranking s).filter (· != b)).length ≤ (ranking s).length := List.length_filter_le ..
      rw [rank_len] at this
      have := G.teams
      omega
theorem sitterN_le (n : Nat) (l : List Nat) : sitterN n l ≤ n := by
  unfold sitterN
  cases h : ((List.range n).map fun i => i + 1).find? fun t => !l.contains t with
  | none => exact Nat.zero_le _
  | some x =>
    obtain ⟨i, hi, rfl⟩ := List.mem_map.mp (List.mem_of_find?_eq_some h)
    have := List.mem_range.mp hi
    show i + 1 ≤ n
    omega
theorem fault_zero {s : State} {l : List Nat} (he : l.length % 2 = 0) (h1 : ∀ t ∈ l, 1 ≤ t) (h : fault s (pairsN l) = 0) : l.Nodup ∧ l.length = s.teams / 2 * 2 ∧ ∀ t ∈ l, t ≤ s.teams := by
  rw [fault_eq s he h1] at h
  split at h
  · cases h
  · rename_i a
    split at h
    · cases h
    · rename_i b
      refine ⟨Classical.byContradiction fun z => a (.inl z), Classical.byContradiction fun z => a (.inr z), fun t ht => Nat.le_of_not_lt fun z => b ⟨t, ht, z⟩⟩
end TR

set_option Elab.async false
set_option linter.all false
set_option maxRecDepth 100000
set_option maxHeartbeats 4000000
namespace TR
open PySem PySem.Spec PyProof.Rows L2
structure Lay where
  er : Addr
  L : List RL
  kn : Option (Addr × Addr × Addr)
def Lay.kv (y : Lay) : V := match y.kn with
  | none => .non
  | some t => .ref t.1
def Lay.wl (y : Lay) : Option Addr := y.kn.map fun t => t.2.2
def KnAt (K : PySem.W.Frag) (H : Hp) (er : Addr) : Option (Addr × Addr × Addr) → Option Vbbral.Knock → Prop
  | none, none => True
  | some t, some k => KnockAt K H t.1 t.2.1 t.2.2 k ∧ t.2.1 ≠ t.2.2 ∧ t.2.2 ≠ er ∧ t.2.1 ≠ er
  | _, _ => False
structure StAt (K : PySem.W.Frag) (H : Hp) (e : Addr) (y : Lay) (s : Vbbral.State) : Prop where
  ev : EvAt K H e y.er y.L y.kv s.teams s.rounds
  kn : KnAt K H y.er y.kn s.knock
  apL : ∀ r ∈ y.L, r.l ≠ y.er ∧ some r.l ≠ y.wl
  apM : (y.L.flatMap RL.ms).Nodup
/-- what an answer leaves as it is, but for the event's own lists -/
def KeepO : HO → Prop
  | .ins _ _ fs => fs.map (·.1) = (["kind", "numbers", "row"] : List Str)
  | .lst _ => True
  | .tup _ => True
  | .frz _ _ => True
  | _ => False
theorem KeepO.nt {o : HO} (h : KeepO o) : ∀ ps, o ≠ .tbl ps := fun ps z => by rw [z] at h; exact h
def Lay.has (y : Lay) (b : Addr) : Prop := (∃ r, r ∈ y.L ∧ b = r.l) ∨ ∃ t, y.kn = some t ∧ b = t.2.1
structure Fr (H H' : Hp) (y y' : Lay) : Prop where
  keep : ∀ b o, H b = some o → KeepO o → b ≠ y.er → some b ≠ y.wl → H' b = some o
  er : y'.er = y.er ∨ ∀ o, H y'.er = some o → ¬ KeepO o
  wl : y'.wl = y.wl ∨ ∀ w, y'.wl = some w → ∀ o, H w = some o → ¬ KeepO o
  ls : ∀ b o, H b = some o → KeepO o → ¬ y.has b → ¬ y'.has b
theorem KnAt.ext {K : PySem.W.Frag} {H H' : Hp} {er : Addr} {kn : Option (Addr × Addr × Addr)} {k : Option Vbbral.Knock} (h : KnAt K H er kn k) (s : LamX.ExtN H H') : KnAt K H' er kn k := by
  cases kn with
  | none => cases k with
    | none => exact h
    | some k => exact h
  | some t => cases k with
    | none => exact h
    | some k => exact ⟨h.1.ext s, h.2⟩
theorem StAt.ext {K : PySem.W.Frag} {H H' : Hp} {e : Addr} {y : Lay} {s : Vbbral.State} (h : StAt K H e y s) (x : LamX.ExtN H H') : StAt K H' e y s := ⟨h.ev.ext x, h.kn.ext x, h.apL, h.apM⟩
theorem Fr.ext {H H' : Hp} {y : Lay} (x : LamX.ExtN H H') : Fr H H' y y := ⟨fun b o e k _ _ => x b o e k.nt, .inl rfl, .inl rfl, fun _ _ _ _ h => h⟩
def sp_A (K : PySem.W.Frag) (n : Nat) : Sp := Sp2 fun x v1 H Q => ∃ (e : Addr) (y : Lay) (s : Vbbral.State) (c : CL) (m : CallM) (cl : Vbbral.Call) (B : Nat), x = .ref e ∧ v1 = .ref c.c ∧ m.kind = n ∧ opt m = some cl ∧ inR m = true ∧ (s.teams = 0 → n = 0 ∨ n = 10 ∨ n = 11) ∧ InvS B s ∧ B ≤ 9999 ∧ StAt K H e y s ∧ CallAt K H c m ∧ LamX.Tabs (LamT K) H ∧
  ∀ (H' : Hp) (p : Addr) (y' : Lay), StAt K H' e y' (Vbbral.step s cl).1 → Fr H H' y y' → LamX.Tabs (LamT K) H' → H' p = some (.lst ((Vbbral.step s cl).2.map V.int)) → (∀ o, H p = some o → ¬ KeepO o) → Q (.ref p) H'
theorem fin_same {K : PySem.W.Frag} {H H1 H2 : Hp} {e p : Addr} {y : Lay} {s : Vbbral.State} {cl : Vbbral.Call} {l : List Int} {Q : VK} (q : ∀ (H' : Hp) (p : Addr) (y' : Lay), StAt K H' e y' (Vbbral.step s cl).1 → Fr H H' y y' → LamX.Tabs (LamT K) H' → H' p = some (.lst ((Vbbral.step s cl).2.map V.int)) → (∀ o, H p = some o → ¬ KeepO o) → Q (.ref p) H')
    (hS : StAt K H e y s) (es : Vbbral.step s cl = (s, l)) (x : LamX.ExtN H H1) (t : LamX.Tabs (LamT K) H1) (sm : Same H1 H2) (hp : H2 p = some (.lst (l.map V.int))) (nf : ∀ o, H p = some o → ¬ KeepO o) : Q (.ref p) H2 := by
  rw [es] at q
  have x2 : LamX.ExtN H H2 := x.trans (.of sm)
  exact q H2 p y (hS.ext x2) (.ext x2) (t.ext sm) hp nf
theorem fin_new {K : PySem.W.Frag} {H H1 : Hp} {e p : Addr} {y : Lay} {s : Vbbral.State} {cl : Vbbral.Call} {l : List Int} {Q : VK} (q : ∀ (H' : Hp) (p : Addr) (y' : Lay), StAt K H' e y' (Vbbral.step s cl).1 → Fr H H' y y' → LamX.Tabs (LamT K) H' → H' p = some (.lst ((Vbbral.step s cl).2.map V.int)) → (∀ o, H p = some o → ¬ KeepO o) → Q (.ref p) H')
    (hS : StAt K H e y s) (es : Vbbral.step s cl = (s, l)) (x : LamX.ExtN H H1) (t : LamX.Tabs (LamT K) H1) (np : H1 p = none) : Q (.ref p) (upd H1 p (.lst (l.map V.int))) :=
  fin_same q hS es x t (same_up np) upd_same fun o w k => by rw [x _ _ w k.nt] at np; cases np
theorem yes_eq (s : Vbbral.State) (l : List Int) : Vbbral.yes s l = (s, 0 :: l) := rfl
theorem numOk_two (x lo hi : Int) : numOk x [lo, hi] = Vbbral.within x lo hi := rfl
section
variable {P : Program} {w : World} {K : PySem.W.Frag} {mg : Str → Option Value} {base : Heap}
def sp_answer_points (K : PySem.W.Frag) : Sp := sp_A K 10
theorem ok_answer_points (T : Txt w K mg base) : OkF P w K mg base 2 (He.ga K "answer_points") ["event", "call"] (sp_answer_points K) := by
  obtain ⟨⟨fd_match_points, G_match_points, b_match_points⟩, k_match_points⟩ := ok_match_points (P := P) T
  obtain ⟨fd, F⟩ := T.f_answer_points
  refine ok2 F sc_answer_points (fun _ _ _ _ _ _ _ _ => rfl) (fun cdv A outer s H x0 x1 Q hr h => ?_)
  refine ⟨_, (pss_cons (ps_set (i := 2) sc_answer_points.nd rfl (Or.inl rfl) (pe_ix (r := rIxL K) ix_list (pe_fldK (K := K) rfl (pv 1) rfl) pe_int (fun _ _ => rfl)))
      (pss_one (ps_ret (pe_lst (pa_cons pe_int (pa_cons (pe_call G_match_points (hr.mono (by decide)) (by rfl) T.g_match_points k_match_points b_match_points .nil pass0 (pa_cons (pv 2) pa_nil)) (pa_cons (pe_call G_match_points (hr.mono (by decide)) (by rfl) T.g_match_points k_match_points b_match_points .nil pass0 (pa_cons (pe_un un_neg (pv 2)) pa_nil)) pa_nil))))))), ?_⟩
  obtain ⟨e, y, s0, c, m, cl, B, rfl, rfl, hk, ho, hin, h0, hI, hB, hS, hC, hT, q⟩ := h
  obtain ⟨k, nums, row⟩ := m
  obtain rfl : k = 10 := hk
  obtain ⟨d, rfl, rfl⟩ : ∃ d, nums = [d] ∧ cl = .vp d := by
    match nums, ho with
    | [d], ho => cases ho; exact ⟨d, rfl, rfl⟩
  have h1 : Vbbral.within d (-768) 768 = true := inR_num (i := 0) hin rfl rfl
  have es : Vbbral.step s0 (.vp d) = (s0, [0, (Vbbral.vp d : Int), (Vbbral.vp (-d) : Int)]) := by
    show (if Vbbral.within d (-768) 768 = false then _ else _) = _
    rw [if_neg (by rw [h1]; decide)]
    rfl
  obtain ⟨dc, hc⟩ := hC.ins
  refine ⟨_, rfl, c.c, _, dc, _, _, rfl, hc, T.c_Call, T.na_Call_numbers, cF_numbers .., c.nl, _, 0, _, rfl, rfl, SqL.of hC.nums, at_int 0 rfl rfl, ?_⟩
  refine ⟨_, rfl, _, rfl, d, rfl, _, rfl, _, rfl, _, rfl, -d, rfl, by show 3 ≤ sizeLine; decide, fun p np => ?_⟩
  exact fin_new q hS es (.refl H) hT np
def sp_answer_units (K : PySem.W.Frag) : Sp := sp_A K 11
theorem ok_answer_units (T : Txt w K mg base) : OkF P w K mg base 2 (He.ga K "answer_units") ["event", "call"] (sp_answer_units K) := by
  obtain ⟨⟨fd_board_units, G_board_units, b_board_units⟩, k_board_units⟩ := ok_board_units (P := P) T
  obtain ⟨fd, F⟩ := T.f_answer_units
  refine ok2 F sc_answer_units (fun _ _ _ _ _ _ _ _ => rfl) (fun cdv A outer s H x0 x1 Q hr h => ?_)
  refine ⟨_, (pss_one (ps_ret (pe_lst (pa_cons pe_int (pa_cons (pe_call G_board_units (hr.mono (by decide)) (by rfl) T.g_board_units k_board_units b_board_units .nil pass0 (pa_cons (pe_ix (r := rIxL K) ix_list (pe_fldK (K := K) rfl (pv 1) rfl) pe_int (fun _ _ => rfl)) pa_nil)) pa_nil))))), ?_⟩
  obtain ⟨e, y, s0, c, m, cl, B, rfl, rfl, hk, ho, hin, h0, hI, hB, hS, hC, hT, q⟩ := h
  obtain ⟨k, nums, row⟩ := m
  obtain rfl : k = 11 := hk
  obtain ⟨d, rfl, rfl⟩ : ∃ d, nums = [d] ∧ cl = .imp d := by
    match nums, ho with
    | [d], ho => cases ho; exact ⟨d, rfl, rfl⟩
  have h1 : Vbbral.within d (-20000) 20000 = true := inR_num (i := 0) hin rfl rfl
  have es : Vbbral.step s0 (.imp d) = (s0, [0, Vbbral.imp d]) := by
    show (if Vbbral.within d (-20000) 20000 = false then _ else _) = _
    rw [if_neg (by rw [h1]; decide)]
    rfl
  obtain ⟨dc, hc⟩ := hC.ins
  refine ⟨_, rfl, c.c, _, dc, _, _, rfl, hc, T.c_Call, T.na_Call_numbers, cF_numbers .., c.nl, _, 0, _, rfl, rfl, SqL.of hC.nums, at_int 0 rfl rfl, _, rfl, d, rfl, fun H1 s1 => ⟨by show 2 ≤ sizeLine; decide, fun p np => ?_⟩⟩
  exact fin_new q hS es (.of s1) (hT.ext s1) np
def sp_answer_met (K : PySem.W.Frag) : Sp := sp_A K 7
theorem ok_answer_met (T : Txt w K mg base) : OkF P w K mg base 4 (He.ga K "answer_met") ["event", "call"] (sp_answer_met K) := by
  obtain ⟨⟨fd_Event_met_in, G_Event_met_in, b_Event_met_in⟩, k_Event_met_in⟩ := ok_Event_met_in (P := P) T
  obtain ⟨fd, F⟩ := T.f_answer_met
  refine ok2 F sc_answer_met (fun _ _ _ _ _ _ _ _ => rfl) (fun cdv A outer s H x0 x1 Q hr h => ?_)
  refine ⟨_, (pss_one (ps_ret (pe_lst (pa_cons pe_int (pa_cons (pe_meth (pv 0) T.c_Event T.m_Event_met_in G_Event_met_in (hr.mono (by decide)) b_Event_met_in .nil pass0 (pa_cons (pe_ix (r := rIxL K) ix_list (pe_fldK (K := K) rfl (pv 1) rfl) pe_int (fun _ _ => rfl)) (pa_cons (pe_ix (r := rIxL K) ix_list (pe_fldK (K := K) rfl (pv 1) rfl) pe_int (fun _ _ => rfl)) pa_nil))) pa_nil))))), ?_⟩
  obtain ⟨e, y, s0, c, m, cl, B, rfl, rfl, hk, ho, hin, h0, hI, hB, hS, hC, hT, q⟩ := h
  obtain ⟨k, nums, row⟩ := m
  obtain rfl : k = 7 := hk
  obtain ⟨a, b, rfl, rfl⟩ : ∃ a b, nums = [a, b] ∧ cl = .met a b := by
    match nums, ho with
    | [a, b], ho => cases ho; exact ⟨a, b, rfl, rfl⟩
  have h1 : Vbbral.within a 1 12 = true := inR_num (i := 0) hin rfl rfl
  have h2 : Vbbral.within b 1 12 = true := inR_num (i := 1) hin rfl rfl
  have ht : ¬ s0.teams = 0 := fun z => by have := h0 z; omega
  obtain ⟨a1, a2⟩ := Bool.and_eq_true_iff.mp h1
  obtain ⟨b1, b2⟩ := Bool.and_eq_true_iff.mp h2
  obtain ⟨an, rfl⟩ : ∃ n : Nat, a = n := ⟨a.toNat, by have := of_decide_eq_true a1; omega⟩
  obtain ⟨bn, rfl⟩ : ∃ n : Nat, b = n := ⟨b.toNat, by have := of_decide_eq_true b1; omega⟩
  have es : Vbbral.step s0 (.met an bn) = (s0, [0, ((metIn s0.rounds an bn : Nat) : Int)]) := by
    show (if (Vbbral.within an 1 12 && Vbbral.within bn 1 12) = false then _ else _) = _
    rw [h1, h2, if_neg (by decide), if_neg ht, metIn_eq]
    rw [Int.toNat_natCast, Int.toNat_natCast]
    show (s0, _) = (s0, _)
    congr 1
    cases s0.rounds.findIdx? (Vbbral.hasGame an bn) with
    | none => rfl
    | some i => rfl
  obtain ⟨dc, hc⟩ := hC.ins
  obtain ⟨dx, hp⟩ := hS.ev.ev
  refine ⟨_, rfl, e, dx, _, rfl, hp, eF_no_met_in .., _, rfl, c.c, _, dc, _, _, rfl, hc, T.c_Call, T.na_Call_numbers, cF_numbers .., c.nl, _, 0, _, rfl, rfl, SqL.of hC.nums, at_int 0 rfl rfl, _, rfl, c.c, _, dc, _, _, rfl, hc, T.c_Call, T.na_Call_numbers, cF_numbers .., c.nl, _, 1, _, rfl, rfl, SqL.of hC.nums, at_int 1 rfl rfl, _, _, _, rfl, e, y.er, y.L, y.kv, _, _, _, _, rfl, rfl, rfl, hS.ev, fun H1 s1 => ⟨by show 2 ≤ sizeLine; decide, fun p np => ?_⟩⟩
  exact fin_new q hS es (.of s1) (hT.ext s1) np
def sp_answer_left (K : PySem.W.Frag) : Sp := sp_A K 8
theorem ok_answer_left (T : Txt w K mg base) : OkF P w K mg base 10 (He.ga K "answer_left") ["event", "call"] (sp_answer_left K) := by
  obtain ⟨⟨fd_pairings_left, G_pairings_left, b_pairings_left⟩, k_pairings_left⟩ := ok_pairings_left (P := P) T
  obtain ⟨fd, F⟩ := T.f_answer_left
  refine ok2 F sc_answer_left (fun _ _ _ _ _ _ _ _ => rfl) (fun cdv A outer s H x0 x1 Q hr h => ?_)
  refine ⟨_, (pss_one (ps_ret (pe_lst (pa_cons pe_int (pa_cons (pe_call G_pairings_left (hr.mono (by decide)) (by rfl) T.g_pairings_left k_pairings_left b_pairings_left .nil pass0 (pa_cons (pv 0) pa_nil)) pa_nil))))), ?_⟩
  obtain ⟨e, y, s0, c, m, cl, B, rfl, rfl, hk, ho, hin, h0, hI, hB, hS, hC, hT, q⟩ := h
  obtain ⟨k, nums, row⟩ := m
  obtain rfl : k = 8 := hk
  obtain ⟨rfl, rfl⟩ : nums = [] ∧ cl = .left := by
    match nums, ho with
    | [], ho => cases ho; exact ⟨rfl, rfl⟩
  have ht : ¬ s0.teams = 0 := fun z => by have := h0 z; omega
  have es : Vbbral.step s0 .left = (s0, [0, ((Vbbral.total ((Vbbral.byes s0).map fun x => x.2.length) : Nat) : Int)]) := by
    show (if s0.teams = 0 then _ else _) = _
    rw [if_neg ht]
    rfl
  refine ⟨_, rfl, _, rfl, e, y.er, y.L, y.kv, s0, rfl, hS.ev, hI.good, hT, fun H1 x1 T1 => ⟨by show 2 ≤ sizeLine; decide, fun p np => ?_⟩⟩
  exact fin_new q hS es x1 T1 np
def sp_answer_check (K : PySem.W.Frag) : Sp := sp_A K 9
theorem ok_answer_check (T : Txt w K mg base) : OkF P w K mg base 6 (He.ga K "answer_check") ["event", "call"] (sp_answer_check K) := by
  obtain ⟨⟨fd_row_cost, G_row_cost, b_row_cost⟩, k_row_cost⟩ := ok_row_cost (P := P) T
  obtain ⟨⟨fd_fault, G_fault, b_fault⟩, k_fault⟩ := ok_fault (P := P) T
  obtain ⟨fd, F⟩ := T.f_answer_check
  refine ok2 F sc_answer_check (fun _ _ _ _ _ _ _ _ => rfl) (fun cdv A outer s H x0 x1 Q hr h => ?_)
  refine ⟨_, (pss_cons (ps_set (i := 2) sc_answer_check.nd rfl (Or.inl rfl) (pe_call G_fault (hr.mono (by decide)) (by rfl) T.g_fault k_fault b_fault .nil pass0 (pa_cons (pv 0) (pa_cons (pe_fldK (K := K) rfl (pv 1) rfl) pa_nil))))
      (pss_one (ps_ret (pe_lst (pa_cons pe_int (pa_cons (pv 2) (pa_cons (pe_ifExp (pt_cmpR op_eq (pv 2) pe_int (nomark _)) (pe_call G_row_cost (hr.mono (by decide)) (by rfl) T.g_row_cost k_row_cost b_row_cost .nil pass0 (pa_cons (pv 0) (pa_cons (pe_fldK (K := K) rfl (pv 1) rfl) pa_nil))) pe_int) pa_nil))))))), ?_⟩
  obtain ⟨e, y, s0, c, m, cl, B, rfl, rfl, hk, ho, hin, h0, hI, hB, hS, hC, hT, q⟩ := h
  obtain ⟨k, nums, row⟩ := m
  obtain rfl : k = 9 := hk
  obtain ⟨rfl, rfl⟩ : nums = [] ∧ cl = .check row := by
    match nums, ho with
    | [], ho => cases ho; exact ⟨rfl, rfl⟩
  have ht : ¬ s0.teams = 0 := fun z => by have := h0 z; omega
  have h2 : 2 ≤ s0.teams := hI.two.resolve_left ht
  have h1 : Vbbral.isPairs row = true := by
    rw [← isPairs_eq]
    exact inR_row hin rfl
  obtain ⟨r1, r2, r, rfl, r3⟩ := isPairs_nat h1
  rw [iN_len] at r1 r2
  have er : (iN r).map V.int = vN r := (vN_int r).symm
  have es : Vbbral.step s0 (.check (iN r)) = (s0, [0, ((Vbbral.fault s0 (pairsN r) : Nat) : Int), if Vbbral.fault s0 (pairsN r) = 0 then ((Vbbral.cost s0 (pairsN r) : Nat) : Int) else 0]) := by
    show (if Vbbral.isPairs (iN r) = false then _ else _) = _
    rw [h1, if_neg (by decide), if_neg ht]
    rfl
  obtain ⟨dc, hc⟩ := hC.ins
  have hrow : H c.rl = some (.lst (vN r)) := by rw [← er]; exact hC.row
  refine ⟨_, rfl, _, rfl, c.c, _, dc, _, _, rfl, hc, T.c_Call, T.na_Call_row, cF_row .., _, _, rfl, e, y.er, y.L, y.kv, s0, c.rl, r, rfl, rfl, hS.ev, SqL.of hrow, hI.good, h2, r2, r1, fun t ht => (r3 t ht).1, fun H1 s1 => ?_⟩
  refine ⟨_, rfl, _, rfl, rfl, _, rfl, ?_⟩
  rw [dec_int]
  have hc1 := s1 _ _ hc
  refine ite2 (fun d => ?_) (fun d => ?_)
  · have d : Vbbral.fault s0 (pairsN r) = 0 := by
      have := of_decide_eq_true d
      omega
    obtain ⟨f1, f2, f3⟩ := fault_zero r2 (fun t ht => (r3 t ht).1) d
    rw [if_pos d] at es
    refine ⟨_, rfl, _, rfl, c.c, _, dc, _, _, rfl, hc1, T.c_Call, T.na_Call_row, cF_row .., _, _, rfl, e, y.er, y.L, y.kv, s0, c.rl, r, rfl, rfl, hS.ev.same s1, SqL.of (s1 _ _ hrow), hI.good, hT.ext s1, r2, r1, fun t ht => ⟨(r3 t ht).1, f3 t ht⟩, fun H2 x2 T2 => ⟨by show 3 ≤ sizeLine; decide, fun p np => ?_⟩⟩
    exact fin_new q hS es ((LamX.ExtN.of s1).trans x2) T2 np
  · have d : ¬ Vbbral.fault s0 (pairsN r) = 0 := fun z => d (decide_eq_true (by omega))
    rw [if_neg d] at es
    refine ⟨by show 3 ≤ sizeLine; decide, fun p np => ?_⟩
    exact fin_new q hS es (.of s1) (hT.ext s1) np
def sp_answer_standing (K : PySem.W.Frag) : Sp := sp_A K 6
theorem ok_answer_standing (T : Txt w K mg base) : OkF P w K mg base 5 (He.ga K "answer_standing") ["event", "call"] (sp_answer_standing K) := by
  obtain ⟨⟨fd_Event_standing, G_Event_standing, b_Event_standing⟩, k_Event_standing⟩ := ok_Event_standing (P := P) T
  obtain ⟨fd, F⟩ := T.f_answer_standing
  refine ok2 F sc_answer_standing (fun _ _ _ _ _ _ _ _ => rfl) (fun cdv A outer s H x0 x1 Q hr h => ?_)
  refine ⟨_, (pss_cons (ps_set (i := 2) sc_answer_standing.nd rfl (Or.inl rfl) (pe_lst (pa_cons pe_int (pa_cons (pe_fldK (K := K) rfl (pv 0) rfl) pa_nil))))
      (pss_cons (ps_for PassesOwn.never rfl (pi_list (pe_meth0 (pv 0) T.c_Event T.m_Event_standing G_Event_standing (hr.mono (by decide)) b_Event_standing .nil pass0)) (pg_name (i := 3) sc_answer_standing.nd rfl (Or.inl rfl)) (pss_one (ps_expr (pe_bm PySem.F.plainAttrs_list PySem.F.slot_list_extend PySem.F.type_list_extend mt_extend (pv 2) (pa_cons (pe_lst (pa_cons (pe_fldK (K := K) rfl (pv 3) rfl) (pa_cons (pe_fldK (K := K) rfl (pv 3) rfl) (pa_cons (pe_fldK (K := K) rfl (pv 3) rfl) (pa_cons (pe_ifExp (pt_val (pe_fldK (K := K) rfl (pv 3) rfl)) pe_int pe_int) pa_nil))))) pa_nil)))))
      (pss_one (ps_ret (pv 2))))), ?_⟩
  obtain ⟨e, y, s0, c, m, cl, B, rfl, rfl, hk, ho, hin, h0, hI, hB, hS, hC, hT, q⟩ := h
  obtain ⟨k, nums, row⟩ := m
  obtain rfl : k = 6 := hk
  obtain ⟨rfl, rfl⟩ : nums = [] ∧ cl = .standings := by
    match nums, ho with
    | [], ho => cases ho; exact ⟨rfl, rfl⟩
  have ht : ¬ s0.teams = 0 := fun z => by have := h0 z; omega
  have hl12 := hI.good.teams
  have es : Vbbral.step s0 .standings = (s0, 0 :: (s0.teams : Int) :: (Vbbral.ranking s0).flatMap fun t : Nat => [(t : Int), (Vbbral.points s0 t : Int), Vbbral.impsOf s0 t, Vbbral.bit (Vbbral.hadBye s0 t)]) := by
    show (if s0.teams = 0 then _ else _) = _
    rw [if_neg ht]
    rfl
  obtain ⟨dx, hp⟩ := hS.ev.ev
  refine ⟨_, rfl, e, _, dx, _, _, rfl, hp, T.c_Event, T.na_Event_size, eF_size .., by show 2 ≤ sizeLine; decide, fun t nt => ?_⟩
  have sT : Same H (upd H t (.lst [.int 0, .int s0.teams])) := same_up nt
  have eT : (upd H t (.lst [.int 0, .int s0.teams])) t = some (.lst [.int 0, .int s0.teams]) := upd_same
  generalize hH1 : upd H t (.lst [.int 0, .int s0.teams]) = H1 at *
  have hE1 := hS.ev.same sT
  have hp1 := sT _ _ hp
  refine ⟨_, rfl, e, dx, _, rfl, hp1, eF_no_standing .., _, rfl, e, y.er, y.L, y.kv, _, _, rfl, hE1, by omega, fun r hr => (hI.good.ok r hr).ok, hT.ext sT, fun H2 p qs st eN T2 ep hP pm srt => ?_⟩
  obtain rfl := stand_eq hI.good.ok pm srt
  have eT2 := eN _ _ eT (fun _ z => nomatch z)
  have pt : p ≠ t := fun z => by
    rw [z, eT2] at ep
    cases qs <;> simp at ep
  have sl := stand_len s0
  have keep0 : ∀ H', (∀ b o, H2 b = some o → b ≠ t → H' b = some o) → LamX.ExtN H H' ∧ LamX.Tabs (LamT K) H' := fun H' k => by
    refine ⟨fun b o w1 w2 => ?_, fun pp hpp => ?_⟩
    · exact k _ _ (eN _ _ (sT _ _ w1) w2) (ne_of_none w1 nt)
    · obtain ⟨ps, t1, t2, t3⟩ := T2 pp hpp
      refine ⟨ps, k _ _ t1 (ne_of t1 eT2 (by intro z; cases z)), t2, fun pos cv hcv => ?_⟩
      obtain ⟨c', c1, c2⟩ := t3 pos cv hcv
      exact ⟨c', c1, k _ _ c2 (ne_of c2 eT2 (by intro z; cases z))⟩
  refine ⟨p, rfl, ⟨_, SqL.of ep⟩, for_list (K := K) (a := p) (xs := qs.map V.ref) (fun i σ H' => (∃ v, σ = [some (.ref e), some (.ref c.c), some (.ref t), v]) ∧ (∀ b o, H2 b = some o → b ≠ t → H' b = some o) ∧ H' t = some (.lst ((0 :: (s0.teams : Int) :: ((Vbbral.ranking s0).take i).flatMap fun t : Nat => [(t : Int), (Vbbral.points s0 t : Int), Vbbral.impsOf s0 t, Vbbral.bit (Vbbral.hadBye s0 t)]).map V.int)))
    ⟨⟨_, rfl⟩, fun b o w _ => w, eT2⟩ (fun i σ H' _ z => SqL.of (z.2.1 _ _ ep pt)) ?_ ?_⟩
  · rintro i x σ H' hx ⟨⟨v, rfl⟩, kp, ew⟩
    obtain ⟨q0, s', rfl, e1, e2, dq, e3⟩ := hP.get hx
    unfold stand at e2
    rw [List.getElem?_map] at e2
    obtain ⟨tt, et, rfl⟩ := Option.map_eq_some_iff.mp e2
    have h3 := kp _ _ e3 (ne_of e3 eT2 (by intro z; cases z))
    have lenB : ((((0 :: (s0.teams : Int) :: ((Vbbral.ranking s0).take i).flatMap fun t : Nat => [(t : Int), (Vbbral.points s0 t : Int), Vbbral.impsOf s0 t, Vbbral.bit (Vbbral.hadBye s0 t)]).map V.int)).length) + 4 ≤ sizeLine := by
      rw [List.length_map, List.length_cons, List.length_cons, List.length_flatMap]
      have : ∀ l : List Nat, (l.map fun t : Nat => ([(t : Int), (Vbbral.points s0 t : Int), Vbbral.impsOf s0 t, Vbbral.bit (Vbbral.hadBye s0 t)] : List Int).length).sum = 4 * l.length := fun l => by
        induction l with
        | nil => rfl
        | cons x l ih =>
          rw [List.map_cons, List.sum_cons, ih]
          show 4 + 4 * l.length = 4 * (l.length + 1)
          omega
      rw [this]
      have : ((Vbbral.ranking s0).take i).length ≤ 12 := Nat.le_trans (List.length_take_le' ..) (by rw [rank_len]; exact hl12)
      exact Nat.le_of_lt (line_lt (by omega))
    have done : ∀ z : Int, z = Vbbral.bit (Vbbral.hadBye s0 tt) → ∀ u, H' u = none → ∃ l b xs zs, (V.ref t) = .ref l ∧ [V.ref u] = [.ref b] ∧ (upd H' u (.lst [.int (tt : Int), .int (Vbbral.points s0 tt : Nat), .int (Vbbral.impsOf s0 tt), .int z])) l = some (.lst xs) ∧ (upd H' u (.lst [.int (tt : Int), .int (Vbbral.points s0 tt : Nat), .int (Vbbral.impsOf s0 tt), .int z])) b = some (.lst zs) ∧ xs.length + zs.length ≤ sizeLine ∧
        ((∃ v, [some (.ref e), some (.ref c.c), some (.ref t), some (V.ref q0)] = [some (.ref e), some (.ref c.c), some (.ref t), v]) ∧ (∀ b o, H2 b = some o → b ≠ t → (upd (upd H' u (.lst [.int (tt : Int), .int (Vbbral.points s0 tt : Nat), .int (Vbbral.impsOf s0 tt), .int z])) l (.lst (xs ++ zs))) b = some o) ∧ (upd (upd H' u (.lst [.int (tt : Int), .int (Vbbral.points s0 tt : Nat), .int (Vbbral.impsOf s0 tt), .int z])) l (.lst (xs ++ zs))) t = some (.lst ((0 :: (s0.teams : Int) :: ((Vbbral.ranking s0).take (i + 1)).flatMap fun t : Nat => [(t : Int), (Vbbral.points s0 t : Int), Vbbral.impsOf s0 t, Vbbral.bit (Vbbral.hadBye s0 t)]).map V.int))) := fun z ez u nu => by
      have tu : t ≠ u := ne_of_none ew nu
      refine ⟨t, u, _, _, rfl, rfl, by rw [upd_ne tu]; exact ew, upd_same, lenB, ⟨_, rfl⟩, fun b o w1 w2 => ?_, ?_⟩
      · have w3 := kp _ _ w1 w2
        rw [upd_ne w2, upd_ne (ne_of_none w3 nu)]
        exact w3
      · rw [upd_same, take_one et, List.flatMap_append, ez]
        show some (HO.lst (_ ++ List.map V.int [(tt : Int), (Vbbral.points s0 tt : Nat), Vbbral.impsOf s0 tt, Vbbral.bit (Vbbral.hadBye s0 tt)])) = _
        rw [← List.map_append]
        rfl
    refine ⟨_, rfl, .inl ⟨rfl, _, SqL.of ew⟩, _, rfl, q0, _, dq, _, _, rfl, h3, T.c_Place, T.na_Place_team, pF_team .., _, rfl, q0, _, dq, _, _, rfl, h3, T.c_Place, T.na_Place_points, pF_points .., _, rfl, q0, _, dq, _, _, rfl, h3, T.c_Place, T.na_Place_units, pF_units .., _, rfl, q0, _, dq, _, _, rfl, h3, T.c_Place, T.na_Place_sat_out, pF_sat_out .., _, rfl, ?_⟩
    refine ite2 (fun d => ?_) (fun d => ?_)
    · refine ⟨by show 4 ≤ sizeLine; decide, fun u nu => done 1 ?_ u nu⟩
      have d : Vbbral.hadBye s0 tt = true := d
      rw [d]
      rfl
    · refine ⟨by show 4 ≤ sizeLine; decide, fun u nu => done 0 ?_ u nu⟩
      have d : Vbbral.hadBye s0 tt = false := Bool.eq_false_iff.mpr d
      rw [d]
      rfl
  · rintro σ H' ⟨⟨v, rfl⟩, kp, ew⟩
    rw [List.length_map, hP.len, sl, List.take_of_length_le (by rw [rank_len]; exact Nat.le_refl _)] at ew
    obtain ⟨x1, T1⟩ := keep0 H' kp
    exact ⟨_, rfl, fin_same q hS es x1 T1 (Same.refl H') ew fun o w _ => by rw [nt] at w; cases w⟩
def sp_answer_row (K : PySem.W.Frag) : Sp := sp_A K 13
theorem ok_answer_row (T : Txt w K mg base) : OkF P w K mg base 1 (He.ga K "answer_row") ["event", "call"] (sp_answer_row K) := by
  obtain ⟨fd, F⟩ := T.f_answer_row
  refine ok2 F sc_answer_row (fun _ _ _ _ _ _ _ _ => rfl) (fun cdv A outer s H x0 x1 Q hr h => ?_)
  refine ⟨_, (pss_cons (ps_set (i := 2) sc_answer_row.nd rfl (Or.inl rfl) (pe_fldK (K := K) rfl (pv 0) rfl))
      (pss_cons (ps_if (pt_cmpR op_isN (pv 2) pe_non (nomark _)) (pss_one (ps_ret (pe_lst (pa_cons (C8.pe_gc (by rfl) T.v_NO_KNOCK_OUT) pa_nil)))) pss_nil)
      (pss_one (ps_ret (pe_op op_cat (pe_op op_cat (pe_op op_cat (pe_lst (pa_cons pe_int (pa_cons (pe_callB (r := rLenS K) call_len_seq (by rfl) T.n_len PySem.boot_len (pa_cons (pe_fldK (K := K) rfl (pv 2) rfl) pa_nil)) pa_nil))) (pe_fldK (K := K) rfl (pv 2) rfl)) (pe_lst (pa_cons (pe_callB (r := rLenS K) call_len_seq (by rfl) T.n_len PySem.boot_len (pa_cons (pe_fldK (K := K) rfl (pv 2) rfl) pa_nil)) pa_nil))) (pe_fldK (K := K) rfl (pv 2) rfl)))))), ?_⟩
  obtain ⟨e, y, s0, c, m, cl, B, rfl, rfl, hk, ho, hin, h0, hI, hB, hS, hC, hT, q⟩ := h
  obtain ⟨k, nums, row⟩ := m
  obtain rfl : k = 13 := hk
  obtain ⟨rfl, rfl⟩ : nums = [] ∧ cl = .round := by
    match nums, ho with
    | [], ho => cases ho; exact ⟨rfl, rfl⟩
  have ht : ¬ s0.teams = 0 := fun z => by have := h0 z; omega
  obtain ⟨dx, hp⟩ := hS.ev.ev
  have hkn := hS.kn
  have kve : y.kv = match y.kn with | none => V.non | some t => V.ref t.1 := rfl
  refine ⟨_, rfl, e, _, dx, _, _, rfl, hp, T.c_Event, T.na_Event_knock_out, eF_knock_out .., ?_⟩
  rw [kve]
  cases hy : y.kn with
  | none =>
    rw [hy] at hkn
    cases hs : s0.knock with
    | some k => rw [hs] at hkn; exact hkn.elim
    | none =>
      have es : Vbbral.step s0 .round = (s0, [-4]) := by
        show (if s0.teams = 0 then _ else match s0.knock with | none => Vbbral.no s0 4 | some k => _) = _
        rw [if_neg ht, hs]
        rfl
      refine ⟨_, rfl, rfl, _, rfl, iteT ⟨by show 1 ≤ sizeLine; decide, fun p np => ?_⟩⟩
      exact fin_new q hS es (.refl H) hT np
  | some t =>
    rw [hy] at hkn
    cases hs : s0.knock with
    | none => rw [hs] at hkn; exact hkn.elim
    | some k =>
      rw [hs] at hkn
      obtain ⟨ka, rw', wl⟩ := t
      obtain ⟨hK, _⟩ := hkn
      have es : Vbbral.step s0 .round = (s0, 0 :: (k.now.length : Int) :: ((k.now.map fun t : Nat => (t : Int)) ++ ((k.wins.length : Int) :: k.wins.map fun t : Nat => (t : Int)))) := by
        show (if s0.teams = 0 then _ else match s0.knock with | none => _ | some k => _) = _
        rw [if_neg ht, hs]
        rfl
      have kl := (hI.kn k hs).1.le
      have wle := (hI.kn k hs).2
      obtain ⟨dk, hkk⟩ := hK.ins
      have hK : KnockAt K H ka rw' wl k := hK
      refine ⟨_, rfl, rfl, _, rfl, iteF ?_⟩
      refine ⟨_, rfl, ka, _, dk, _, _, rfl, hkk, T.c_KnockOut, T.na_KnockOut_row, kF_row .., rw', _, rfl, .inl (SqL.of hK.row), by show 2 ≤ sizeLine; decide, fun p1 np1 => ?_⟩
      have s1 : Same H (upd H p1 (.lst [.int 0, .int ((vN k.now).length : Nat)])) := same_up np1
      have e1 : (upd H p1 (.lst [.int 0, .int ((vN k.now).length : Nat)])) p1 = some (.lst [.int 0, .int ((vN k.now).length : Nat)]) := upd_same
      generalize hH1 : upd H p1 (.lst [.int 0, .int ((vN k.now).length : Nat)]) = H1 at *
      refine ⟨_, rfl, ka, _, dk, _, _, rfl, s1 _ _ hkk, T.c_KnockOut, T.na_KnockOut_row, kF_row .., p1, rw', _, _, rfl, rfl, e1, s1 _ _ hK.row, by rw [vN_len]; show 2 + _ ≤ sizeLine; exact Nat.le_of_lt (line_lt (by omega)), fun p2 np2 => ?_⟩
      have s2 : Same H1 (upd H1 p2 (.lst ([.int 0, .int ((vN k.now).length : Nat)] ++ vN k.now))) := same_up np2
      have e2 : (upd H1 p2 (.lst ([.int 0, .int ((vN k.now).length : Nat)] ++ vN k.now))) p2 = some (.lst ([.int 0, .int ((vN k.now).length : Nat)] ++ vN k.now)) := upd_same
      generalize hH2 : upd H1 p2 (.lst ([.int 0, .int ((vN k.now).length : Nat)] ++ vN k.now)) = H2 at *
      have s12 := s1.trans s2
      refine ⟨_, rfl, ka, _, dk, _, _, rfl, s12 _ _ hkk, T.c_KnockOut, T.na_KnockOut_won, kF_won .., wl, _, rfl, .inl (SqL.of (s12 _ _ hK.won)), by show 1 ≤ sizeLine; decide, fun p3 np3 => ?_⟩
      have p23 : p2 ≠ p3 := ne_of_none e2 np3
      refine ⟨p2, p3, _, _, rfl, rfl, by rw [upd_ne p23]; exact e2, upd_same, by rw [List.length_append, vN_len]; show 2 + _ + 1 ≤ sizeLine; exact Nat.le_of_lt (line_lt (by omega)), fun p4 np4 => ?_⟩
      have s3 : Same H2 (upd H2 p3 (.lst [.int ((vN k.wins).length : Nat)])) := same_up np3
      generalize hH3 : upd H2 p3 (.lst [.int ((vN k.wins).length : Nat)]) = H3 at *
      have s4 : Same H3 (upd H3 p4 (.lst ([.int 0, .int ((vN k.now).length : Nat)] ++ vN k.now ++ [.int ((vN k.wins).length : Nat)]))) := same_up np4
      have s14 := (s12.trans s3).trans s4
      refine ⟨_, rfl, ka, _, dk, _, _, rfl, s14 _ _ hkk, T.c_KnockOut, T.na_KnockOut_won, kF_won .., p4, wl, _, _, rfl, rfl, upd_same, s14 _ _ hK.won, by rw [List.length_append, List.length_append, vN_len, vN_len]; show 2 + _ + 1 + _ ≤ sizeLine; exact Nat.le_of_lt (line_lt (by omega)), fun p5 np5 => ?_⟩
      refine fin_same q hS es (.of s14) (hT.ext s14) (same_up np5) ?_ (fun o w k => by rw [s14 _ _ w] at np5; cases np5)
      rw [upd_same, vN_len, vN_len]
      have e5 : ∀ l : List Nat, vN l = (l.map fun t : Nat => (t : Int)).map V.int := vN_int
      rw [e5, e5, List.map_cons, List.map_cons, List.map_append, List.map_cons, List.append_assoc, List.append_assoc]
      rfl
def sp_answer_round_of (K : PySem.W.Frag) : Sp := sp_A K 15
theorem ok_answer_round_of (T : Txt w K mg base) : OkF P w K mg base 2 (He.ga K "answer_round_of") ["event", "call"] (sp_answer_round_of K) := by
  obtain ⟨⟨fd_Event_round_of, G_Event_round_of, b_Event_round_of⟩, k_Event_round_of⟩ := ok_Event_round_of (P := P) T
  obtain ⟨fd, F⟩ := T.f_answer_round_of
  refine ok2 F sc_answer_round_of (fun _ _ _ _ _ _ _ _ => rfl) (fun cdv A outer s H x0 x1 Q hr h => ?_)
  refine ⟨_, (pss_cons (ps_set (i := 2) sc_answer_round_of.nd rfl (Or.inl rfl) (pe_meth (pv 0) T.c_Event T.m_Event_round_of G_Event_round_of (hr.mono (by decide)) b_Event_round_of .nil pass0 (pa_cons (pe_ix (r := rIxL K) ix_list (pe_fldK (K := K) rfl (pv 1) rfl) pe_int (fun _ _ => rfl)) pa_nil)))
      (pss_cons (ps_if (pt_cmpR op_isN (pv 2) pe_non (nomark _)) (pss_one (ps_ret (pe_lst (pa_cons (C8.pe_gc (by rfl) T.v_NOT_THERE) pa_nil)))) pss_nil)
      (pss_cons (ps_set (i := 3) sc_answer_round_of.nd rfl (Or.inl rfl) (pe_lst (pa_cons pe_int (pa_cons (pe_fldK (K := K) rfl (pv 2) rfl) (pa_cons (pe_callB (r := rLenS K) call_len_seq (by rfl) T.n_len PySem.boot_len (pa_cons (pe_fldK (K := K) rfl (pv 2) rfl) pa_nil)) pa_nil)))))
      (pss_cons (ps_for PassesOwn.never rfl (pi_list (pe_fldK (K := K) rfl (pv 2) rfl)) (pg_name (i := 4) sc_answer_round_of.nd rfl (Or.inl rfl)) (pss_cons (ps_expr (pe_bm PySem.F.plainAttrs_list PySem.F.slot_list_extend PySem.F.type_list_extend mt_extend (pv 3) (pa_cons (pe_lst (pa_cons (pe_fldK (K := K) rfl (pv 4) rfl) (pa_cons (pe_fldK (K := K) rfl (pv 4) rfl) pa_nil))) pa_nil)))
      (pss_one (ps_expr (pe_bm PySem.F.plainAttrs_list PySem.F.slot_list_extend PySem.F.type_list_extend mt_extend (pv 3) (pa_cons (pe_ifExp (pt_cmpR op_isN (pe_fldK (K := K) rfl (pv 4) rfl) pe_non (nomark _)) (pe_lst (pa_cons pe_int (pa_cons pe_int pa_nil))) (pe_lst (pa_cons pe_int (pa_cons (pe_fldK (K := K) rfl (pv 4) rfl) pa_nil)))) pa_nil))))))
      (pss_one (ps_ret (pv 3))))))), ?_⟩
  obtain ⟨e, y, s0, c, m, cl, B, rfl, rfl, hk, ho, hin, h0, hI, hB, hS, hC, hT, q⟩ := h
  obtain ⟨k, nums, row⟩ := m
  obtain rfl : k = 15 := hk
  obtain ⟨r0, rfl, rfl⟩ : ∃ a, nums = [a] ∧ cl = .told a := by
    match nums, ho with
    | [a], ho => cases ho; exact ⟨a, rfl, rfl⟩
  have h1 : Vbbral.within r0 1 11 = true := inR_num (i := 0) hin rfl rfl
  obtain ⟨a1, a2⟩ := Bool.and_eq_true_iff.mp h1
  have a1 := of_decide_eq_true a1
  have ht : ¬ s0.teams = 0 := fun z => by have := h0 z; omega
  have st : Vbbral.step s0 (.told r0) = match s0.rounds[r0.toNat - 1]? with
      | none => Vbbral.no s0 5
      | some x => Vbbral.yes s0 ((x.bye : Int) :: (x.games.length : Int) :: x.games.flatMap fun g => [(g.a : Int), (g.b : Int), Vbbral.bit g.done, g.diff]) := by
    show (if Vbbral.within r0 1 11 = false then _ else _) = _
    rw [if_neg (by rw [h1]; decide), if_neg ht]
    cases s0.rounds[r0.toNat - 1]? <;> rfl
  obtain ⟨dc, hc⟩ := hC.ins
  obtain ⟨dx, hp⟩ := hS.ev.ev
  refine ⟨_, rfl, e, dx, _, rfl, hp, eF_no_round_of .., _, rfl, c.c, _, dc, _, _, rfl, hc, T.c_Call, T.na_Call_numbers, cF_numbers .., c.nl, _, 0, _, rfl, rfl, SqL.of hC.nums, at_int 0 rfl rfl, _, _, rfl, e, y.er, y.L, y.kv, _, _, r0, rfl, rfl, hS.ev, fun i yr hi hyr => ?_, fun out => ?_⟩
  · have hl := hS.ev.len
    have il : i < s0.rounds.length := by
      rw [← hl]
      exact (List.getElem?_eq_some_iff.mp hyr).1
    have er : s0.rounds[i]? = some s0.rounds[i] := List.getElem?_eq_getElem il
    have hR := hS.ev.at_ i yr _ hyr er
    have hG := hI.good.games _ (List.getElem_mem il)
    have hU := hI.good.undone _ (List.getElem_mem il)
    rw [show r0.toNat - 1 = i by omega, er] at st
    generalize s0.rounds[i] = rr at *
    obtain ⟨dr, hrr⟩ := hR.ins
    refine ⟨_, rfl, rfl, _, rfl, iteF ⟨_, rfl, yr.r, _, dr, _, _, rfl, hrr, T.c_Round, T.na_Round_sits_out, rF_sits_out .., _, rfl, yr.r, _, dr, _, _, rfl, hrr, T.c_Round, T.na_Round_matches, rF_matches .., yr.l, _, rfl, .inl (SqL.of hR.lst), by show 3 ≤ sizeLine; decide, fun t nt => ?_⟩⟩
    dsimp only
    rw [List.length_map, hR.len]
    have s1 : Same H (upd H t (.lst [.int 0, .int rr.bye, .int rr.games.length])) := same_up nt
    have e1 : (upd H t (.lst [.int 0, .int rr.bye, .int rr.games.length])) t = some (.lst [.int 0, .int rr.bye, .int rr.games.length]) := upd_same
    generalize hH1 : upd H t (.lst [.int 0, .int rr.bye, .int rr.games.length]) = H1 at *
    have gl : ∀ l : List Vbbral.Game, (l.flatMap fun g => [(g.a : Int), (g.b : Int), Vbbral.bit g.done, g.diff]).length = 4 * l.length := fun l => by
      induction l with
      | nil => rfl
      | cons x l ih =>
        rw [List.flatMap_cons, List.length_append, ih]
        show 4 + 4 * l.length = 4 * (l.length + 1)
        omega
    refine ⟨_, rfl, yr.r, _, dr, _, _, rfl, s1 _ _ hrr, T.c_Round, T.na_Round_matches, rF_matches .., yr.l, rfl, ⟨_, SqL.of (s1 _ _ hR.lst)⟩, for_list (K := K) (a := yr.l) (xs := yr.ms.map V.ref) (fun i σ H' => (∃ v, σ = [some (.ref e), some (.ref c.c), some (.ref yr.r), some (.ref t), v]) ∧ Same H H' ∧ H' t = some (.lst ((0 :: (rr.bye : Int) :: (rr.games.length : Int) :: (rr.games.take i).flatMap fun g => [(g.a : Int), (g.b : Int), Vbbral.bit g.done, g.diff]).map V.int)))
      ⟨⟨_, rfl⟩, s1, e1⟩ (fun i σ H' _ z => SqL.of (z.2.1 _ _ hR.lst)) ?_ ?_⟩
    · rintro j x σ H2 hx ⟨⟨v, rfl⟩, sm, ew⟩
      obtain ⟨mm, g, rfl, f1, f2, dm, f3⟩ := hR.get hx
      have h3 := sm _ _ f3
      have tl : ((rr.games.take j).flatMap fun g => [(g.a : Int), (g.b : Int), Vbbral.bit g.done, g.diff]).length ≤ 24 := by
        rw [gl]
        have : (rr.games.take j).length ≤ 6 := Nat.le_trans (List.length_take_le' ..) hG
        omega
      refine ⟨_, rfl, .inl ⟨rfl, _, SqL.of ew⟩, _, rfl, mm, _, dm, _, _, rfl, h3, T.c_Match, T.na_Match_first, mF_first .., _, rfl, mm, _, dm, _, _, rfl, h3, T.c_Match, T.na_Match_second, mF_second .., by show 2 ≤ sizeLine; decide, fun u nu => ?_⟩
      have tu : t ≠ u := ne_of_none ew nu
      refine ⟨t, u, _, _, rfl, rfl, by rw [upd_ne tu]; exact ew, upd_same, ?_, ?_⟩
      · rw [List.length_map, List.length_cons, List.length_cons, List.length_cons]
        exact Nat.le_of_lt (line_lt (by show _ + 2 ≤ 20000; omega))
      have h4 : (upd (upd H2 u (.lst [.int (g.a : Nat), .int (g.b : Nat)])) t (.lst ((0 :: (rr.bye : Int) :: (rr.games.length : Int) :: (rr.games.take j).flatMap fun g => [(g.a : Int), (g.b : Int), Vbbral.bit g.done, g.diff]).map V.int ++ [.int (g.a : Nat), .int (g.b : Nat)]))) mm = some (.ins (He.ga K "Match") dm (mF (.int g.a) (.int g.b) (gU g))) := by
        rw [upd_ne (ne_of h3 ew (by intro z; cases z)), upd_ne (ne_of_none h3 nu)]
        exact h3
      have kp : Same H (upd (upd H2 u (.lst [.int (g.a : Nat), .int (g.b : Nat)])) t (.lst ((0 :: (rr.bye : Int) :: (rr.games.length : Int) :: (rr.games.take j).flatMap fun g => [(g.a : Int), (g.b : Int), Vbbral.bit g.done, g.diff]).map V.int ++ [.int (g.a : Nat), .int (g.b : Nat)]))) := fun b o w => by
        have w2 := sm _ _ w
        rw [upd_ne (ne_of_none w nt), upd_ne (ne_of_none w2 nu)]
        exact w2
      have et : (upd (upd H2 u (.lst [.int (g.a : Nat), .int (g.b : Nat)])) t (.lst ((0 :: (rr.bye : Int) :: (rr.games.length : Int) :: (rr.games.take j).flatMap fun g => [(g.a : Int), (g.b : Int), Vbbral.bit g.done, g.diff]).map V.int ++ [.int (g.a : Nat), .int (g.b : Nat)]))) t = some (.lst ((0 :: (rr.bye : Int) :: (rr.games.length : Int) :: (rr.games.take j).flatMap fun g => [(g.a : Int), (g.b : Int), Vbbral.bit g.done, g.diff]).map V.int ++ [.int (g.a : Nat), .int (g.b : Nat)])) := upd_same
      generalize hH3 : upd (upd H2 u (.lst [.int (g.a : Nat), .int (g.b : Nat)])) t (.lst ((0 :: (rr.bye : Int) :: (rr.games.length : Int) :: (rr.games.take j).flatMap fun g => [(g.a : Int), (g.b : Int), Vbbral.bit g.done, g.diff]).map V.int ++ [.int (g.a : Nat), .int (g.b : Nat)])) = H3 at *
      have done : ∀ (bz dz : Int), bz = Vbbral.bit g.done → dz = g.diff → ∀ u2, H3 u2 = none → ∃ l b xs zs, (V.ref t) = .ref l ∧ [V.ref u2] = [.ref b] ∧ (upd H3 u2 (.lst [.int bz, .int dz])) l = some (.lst xs) ∧ (upd H3 u2 (.lst [.int bz, .int dz])) b = some (.lst zs) ∧ xs.length + zs.length ≤ sizeLine ∧
          ((∃ v, [some (.ref e), some (.ref c.c), some (.ref yr.r), some (.ref t), some (V.ref mm)] = [some (.ref e), some (.ref c.c), some (.ref yr.r), some (.ref t), v]) ∧ Same H (upd (upd H3 u2 (.lst [.int bz, .int dz])) l (.lst (xs ++ zs))) ∧ (upd (upd H3 u2 (.lst [.int bz, .int dz])) l (.lst (xs ++ zs))) t = some (.lst ((0 :: (rr.bye : Int) :: (rr.games.length : Int) :: (rr.games.take (j + 1)).flatMap fun g => [(g.a : Int), (g.b : Int), Vbbral.bit g.done, g.diff]).map V.int))) := fun bz dz eb ed u2 nu2 => by
        have tu2 : t ≠ u2 := ne_of_none et nu2
        refine ⟨t, u2, _, _, rfl, rfl, by rw [upd_ne tu2]; exact et, upd_same, ?_, ⟨_, rfl⟩, fun b o w => ?_, ?_⟩
        · rw [List.length_append, List.length_map, List.length_cons, List.length_cons, List.length_cons]
          exact Nat.le_of_lt (line_lt (by show _ + 2 + 2 ≤ 20000; omega))
        · have w2 := kp _ _ w
          rw [upd_ne (ne_of_none w nt), upd_ne (ne_of_none w2 nu2)]
          exact w2
        · rw [upd_same, take_one f2, List.flatMap_append, eb, ed, List.append_assoc]
          show some (HO.lst (_ ++ List.map V.int [(g.a : Int), (g.b : Int), Vbbral.bit g.done, g.diff])) = _
          rw [← List.map_append]
          rfl
      refine ⟨_, rfl, .inl ⟨rfl, _, SqL.of et⟩, _, rfl, mm, _, dm, _, _, rfl, h4, T.c_Match, T.na_Match_units, mF_units .., rfl, _, rfl, ?_⟩
      by_cases gd : g.done = true
      · have gu : gU g = .int g.diff := if_pos gd
        rw [gu]
        refine iteF ⟨_, rfl, mm, _, dm, _, _, rfl, h4, T.c_Match, T.na_Match_units, mF_units .., by show 2 ≤ sizeLine; decide, fun u2 nu2 => ?_⟩
        rw [gu] at *
        exact done 1 g.diff (by rw [gd]; rfl) rfl u2 nu2
      · have gd : g.done = false := Bool.eq_false_iff.mpr gd
        have gu : gU g = .non := if_neg (by rw [gd]; decide)
        rw [gu]
        refine iteT ⟨by show 2 ≤ sizeLine; decide, fun u2 nu2 => ?_⟩
        exact done 0 0 (by rw [gd]; rfl) (hU g (List.mem_of_getElem? f2) gd).symm u2 nu2
    · rintro σ H2 ⟨⟨v, rfl⟩, sm, ew⟩
      rw [List.length_map, hR.len, List.take_length] at ew
      exact ⟨_, rfl, fin_same q hS st (.of sm) (hT.ext sm) (Same.refl H2) ew fun o w _ => by rw [nt] at w; cases w⟩
  · have hn : s0.rounds[r0.toNat - 1]? = none := List.getElem?_eq_none (by omega)
    rw [hn] at st
    refine ⟨_, rfl, rfl, _, rfl, iteT ⟨by show 1 ≤ sizeLine; decide, fun p np => ?_⟩⟩
    exact fin_new q hS st (.refl H) hT np
end
end TR

set_option Elab.async false
set_option linter.all false
set_option maxRecDepth 100000
set_option maxHeartbeats 4000000
namespace TR
open PySem PySem.Spec PyProof.Rows L2
theorem whole_eq (s : Vbbral.State) : wholeR s.rounds = Vbbral.whole s := rfl
theorem St_no {K : PySem.W.Frag} {H : Hp} {e : Addr} {y : Lay} {s : Vbbral.State} (h : StAt K H e y s) {b : Addr} {o : HO} (w : H b = some o) (n : ∀ xs, o ≠ .lst xs) : b ≠ y.er := fun z => by
  rw [z, h.ev.er] at w
  cases w
  exact n _ rfl
/-- a round more -/
theorem StAt.add {K : PySem.W.Frag} {H H2 : Hp} {e : Addr} {y : Lay} {s : Vbbral.State} (h : StAt K H e y s) (x : LamX.ExtN H H2) {yr : RL} {r : Vbbral.Round} (hR : RoundAt K H2 yr r) (nd : yr.ms.Nodup) (fr : FreshR H yr) :
    StAt K (upd H2 y.er (.lst ((y.L.map RL.r).map V.ref ++ [.ref yr.r]))) e ⟨y.er, y.L ++ [yr], y.kn⟩ ⟨s.teams, s.rounds ++ [r], s.knock⟩ := by
  have h2 := h.ext x
  have her := h2.ev.er
  have nl : ∀ {b : Addr} {C dx : Addr} {fs : List (Str × V)}, H2 b = some (.ins C dx fs) → upd H2 y.er (.lst ((y.L.map RL.r).map V.ref ++ [.ref yr.r])) b = some (.ins C dx fs) := fun {b C dx fs} w => by
    rw [upd_ne (ne_of w her (by intro z; cases z))]
    exact w
  have nli : ∀ {b : Addr} {C : Str} {fs : List (Str × V)}, InsAt K H2 b C fs → InsAt K (upd H2 y.er (.lst ((y.L.map RL.r).map V.ref ++ [.ref yr.r]))) b C fs := fun ⟨d, w⟩ => ⟨d, nl w⟩
  have ylr : yr.l ≠ y.er := ((fr.all _ _ h.ev.er (fun _ z => nomatch z)).2.1).symm
  have lenL := h2.ev.len
  have rnd : ∀ {q : RL} {r : Vbbral.Round}, RoundAt K H2 q r → q.l ≠ y.er → RoundAt K (upd H2 y.er (.lst ((y.L.map RL.r).map V.ref ++ [.ref yr.r]))) q r := fun hq hl => ⟨nli hq.ins, by rw [upd_ne hl]; exact hq.lst, hq.len, fun i m g e1 e2 => nli (hq.at_ i m g e1 e2)⟩
  refine ⟨⟨nli h2.ev.ev, ?_, ?_, fun i q r' e1 e2 => ?_⟩, ?_, fun q hq => ?_, ?_⟩
  · rw [upd_same]
    show some (HO.lst ((y.L.map RL.r).map V.ref ++ [.ref yr.r])) = some (HO.lst (((y.L ++ [yr]).map RL.r).map V.ref))
    rw [List.map_append, List.map_append]
    rfl
  · show (y.L ++ [yr]).length = (s.rounds ++ [r]).length
    rw [List.length_append, List.length_append, lenL]
    rfl
  · have e1 : (y.L ++ [yr])[i]? = some q := e1
    have e2 : (s.rounds ++ [r])[i]? = some r' := e2
    rcases Nat.lt_trichotomy i y.L.length with c | c | c
    · rw [List.getElem?_append_left c] at e1
      rw [List.getElem?_append_left (by omega)] at e2
      exact rnd (h2.ev.at_ i q r' e1 e2) (h.apL q (List.mem_of_getElem? e1)).1
    · rw [c, List.getElem?_append_right (Nat.le_refl _), Nat.sub_self] at e1
      rw [c, lenL, List.getElem?_append_right (Nat.le_refl _), Nat.sub_self] at e2
      cases e1
      cases e2
      exact rnd hR ylr
    · rw [List.getElem?_eq_none (by rw [List.length_append, List.length_singleton]; omega)] at e1
      cases e1
  · have hk := h2.kn
    show KnAt K _ y.er y.kn s.knock
    cases hy : y.kn with
    | none =>
      rw [hy] at hk
      cases hs : s.knock with
      | none => exact True.intro
      | some k => rw [hs] at hk; exact hk.elim
    | some t =>
      rw [hy] at hk
      cases hs : s.knock with
      | none => rw [hs] at hk; exact hk.elim
      | some k =>
        rw [hs] at hk
        obtain ⟨k1, k2, k3, k4⟩ := hk
        exact ⟨⟨nli k1.ins, by rw [upd_ne k4]; exact k1.row, by rw [upd_ne k3]; exact k1.won⟩, k2, k3, k4⟩
  · have hq : q ∈ y.L ++ [yr] := hq
    rcases List.mem_append.mp hq with z | z
    · exact h.apL q z
    · rw [List.mem_singleton.mp z]
      refine ⟨ylr, ?_⟩
      show some yr.l ≠ y.kn.map fun t => t.2.2
      have hk := h.kn
      cases hy : y.kn with
      | none => exact fun z => by cases z
      | some t =>
        rw [hy] at hk
        cases hs : s.knock with
        | none => rw [hs] at hk; exact hk.elim
        | some k =>
          rw [hs] at hk
          have := (fr.all _ _ hk.1.won (fun _ z => nomatch z)).2.1
          exact fun z => this (Option.some.inj z).symm
  · show ((y.L ++ [yr]).flatMap RL.ms).Nodup
    rw [List.flatMap_append, List.nodup_append]
    refine ⟨h.apM, by rw [List.flatMap_cons, List.flatMap_nil, List.append_nil]; exact nd, fun a ha b hb z => ?_⟩
    rw [List.flatMap_cons, List.flatMap_nil, List.append_nil] at hb
    obtain ⟨q, hq, hm⟩ := List.mem_flatMap.mp ha
    obtain ⟨i, hi, ei⟩ := List.mem_iff_getElem.mp hq
    obtain ⟨j, hj, ej⟩ := List.mem_iff_getElem.mp hm
    have lenL' := h.ev.len
    have hR' := h.ev.at_ i q s.rounds[i] (by rw [List.getElem?_eq_getElem hi, ei]) (List.getElem?_eq_getElem (by omega))
    have lm := hR'.len
    obtain ⟨d, w⟩ := hR'.at_ j a s.rounds[i].games[j] (by rw [List.getElem?_eq_getElem hj, ej]) (List.getElem?_eq_getElem (by omega))
    exact (fr.all _ _ w (fun _ z => nomatch z)).2.2 (z ▸ hb)
theorem Fr.add {H H2 : Hp} {y : Lay} (x : LamX.ExtN H H2) {o : HO} {yr : RL} (fr : FreshR H yr) : Fr H (upd H2 y.er o) y ⟨y.er, y.L ++ [yr], y.kn⟩ := ⟨fun b o e k n _ => by rw [upd_ne n]; exact x b o e k.nt, .inl rfl, .inl rfl, fun b o e k h z => by
  rcases z with ⟨r, hr, z⟩ | z
  · rcases List.mem_append.mp hr with w | w
    · exact h (.inl ⟨r, w, z⟩)
    · rw [List.mem_singleton.mp w] at z
      exact (fr.all b o e k.nt).2.1 z
  · exact h (.inr z)⟩
theorem Tabs.upd_lst {K : PySem.W.Frag} {H : Hp} {a : Addr} {xs : List V} {o : HO} (t : LamX.Tabs (LamT K) H) (h : H a = some (.lst xs)) : LamX.Tabs (LamT K) (upd H a o) := fun pp hpp => by
  obtain ⟨ps, t1, t2, t3⟩ := t pp hpp
  refine ⟨ps, by rw [upd_ne (ne_of t1 h (by intro z; cases z))]; exact t1, t2, fun pos cv hcv => ?_⟩
  obtain ⟨c', c1, c2⟩ := t3 pos cv hcv
  exact ⟨c', c1, by rw [upd_ne (ne_of c2 h (by intro z; cases z))]; exact c2⟩
theorem upd_some {H H2 : Hp} {a : Addr} {u : HO} (h : ∀ b o, H b = some o → KeepO o → H2 b = some o) : ∀ b o, H b = some o → KeepO o → ∃ o', upd H2 a u b = some o' := fun b o w k => by
  by_cases c : b = a
  · rw [c]
    exact ⟨_, upd_same⟩
  · exact ⟨o, by rw [upd_ne c]; exact h b o w k⟩
theorem fin_to {K : PySem.W.Frag} {H H1 : Hp} {e p : Addr} {y y' : Lay} {s s' : Vbbral.State} {cl : Vbbral.Call} {l : List Int} {Q : VK} (q : ∀ (H' : Hp) (p : Addr) (y' : Lay), StAt K H' e y' (Vbbral.step s cl).1 → Fr H H' y y' → LamX.Tabs (LamT K) H' → H' p = some (.lst ((Vbbral.step s cl).2.map V.int)) → (∀ o, H p = some o → ¬ KeepO o) → Q (.ref p) H')
    (es : Vbbral.step s cl = (s', l)) (hS : StAt K H1 e y' s') (f : Fr H H1 y y') (t : LamX.Tabs (LamT K) H1) (np : H1 p = none) (nf : ∀ b o, H b = some o → KeepO o → ∃ o', H1 b = some o') : Q (.ref p) (upd H1 p (.lst (l.map V.int))) := by
  rw [es] at q
  have sm : Same H1 (upd H1 p (.lst (l.map V.int))) := same_up np
  exact q _ p y' (hS.ext (.of sm)) ⟨fun b o e1 k n1 n2 => sm _ _ (f.keep b o e1 k n1 n2), f.er, f.wl, f.ls⟩ (t.ext sm) upd_same fun o w k => by
    obtain ⟨o', z⟩ := nf p o w k
    rw [np] at z
    cases z
section
variable {P : Program} {w : World} {K : PySem.W.Frag} {mg : Str → Option Value} {base : Heap}
def sp_answer_pair (K : PySem.W.Frag) : Sp := sp_A K 1
theorem ok_answer_pair (T : Txt w K mg base) : OkF P w K mg base 10 (He.ga K "answer_pair") ["event", "call"] (sp_answer_pair K) := by
  obtain ⟨⟨fd_next_round, G_next_round, b_next_round⟩, k_next_round⟩ := ok_next_round (P := P) T
  obtain ⟨⟨fd_Event_is_whole, G_Event_is_whole, b_Event_is_whole⟩, k_Event_is_whole⟩ := ok_Event_is_whole (P := P) T
  obtain ⟨fd, F⟩ := T.f_answer_pair
  refine ok2 F sc_answer_pair (fun _ _ _ _ _ _ _ _ => rfl) (fun cdv A outer s H x0 x1 Q hr h => ?_)
  refine ⟨_, (pss_cons (ps_if (pt_not (pt_val (pe_meth0 (pv 0) T.c_Event T.m_Event_is_whole G_Event_is_whole (hr.mono (by decide)) b_Event_is_whole .nil pass0))) (pss_one (ps_ret (pe_lst (pa_cons (C8.pe_gc (by rfl) T.v_NOT_WHOLE) pa_nil)))) pss_nil)
      (pss_cons (ps_set (i := 2) sc_answer_pair.nd rfl (Or.inl rfl) (pe_call G_next_round (hr.mono (by decide)) (by rfl) T.g_next_round k_next_round b_next_round .nil pass0 (pa_cons (pv 0) (pa_cons (pe_ix (r := rIxL K) ix_list (pe_fldK (K := K) rfl (pv 1) rfl) pe_int (fun _ _ => rfl)) pa_nil))))
      (pss_cons (ps_if (pt_cmpR op_isN (pv 2) pe_non (nomark _)) (pss_one (ps_ret (pe_lst (pa_cons (C8.pe_gc (by rfl) T.v_NO_PAIRING) pa_nil)))) pss_nil)
      (pss_cons (ps_set (i := 3) sc_answer_pair.nd rfl (Or.inl rfl) (pe_lst (pa_cons pe_int (pa_cons (pe_fldK (K := K) rfl (pv 2) rfl) (pa_cons (pe_callB (r := rLenS K) call_len_seq (by rfl) T.n_len PySem.boot_len (pa_cons (pe_fldK (K := K) rfl (pv 2) rfl) pa_nil)) pa_nil)))))
      (pss_cons (ps_for PassesOwn.never rfl (pi_list (pe_fldK (K := K) rfl (pv 2) rfl)) (pg_name (i := 4) sc_answer_pair.nd rfl (Or.inl rfl)) (pss_one (ps_expr (pe_bm PySem.F.plainAttrs_list PySem.F.slot_list_extend PySem.F.type_list_extend mt_extend (pv 3) (pa_cons (pe_lst (pa_cons (pe_fldK (K := K) rfl (pv 4) rfl) (pa_cons (pe_fldK (K := K) rfl (pv 4) rfl) pa_nil))) pa_nil)))))
      (pss_one (ps_ret (pv 3)))))))), ?_⟩
  obtain ⟨e, y, s0, c, m, cl, B, rfl, rfl, hk, ho, hin, h0, hI, hB, hS, hC, hT, q⟩ := h
  obtain ⟨k, nums, row⟩ := m
  obtain rfl : k = 1 := hk
  obtain ⟨r0, rfl, rfl⟩ : ∃ a, nums = [a] ∧ cl = .pair a := by
    match nums, ho with
    | [a], ho => cases ho; exact ⟨a, rfl, rfl⟩
  have h1 : Vbbral.within r0 0 1 = true := inR_num (i := 0) hin rfl rfl
  obtain ⟨a1, a2⟩ := Bool.and_eq_true_iff.mp h1
  have a1 := of_decide_eq_true a1
  have a2 := of_decide_eq_true a2
  obtain ⟨mode, rfl⟩ : ∃ n : Nat, r0 = n := ⟨r0.toNat, by omega⟩
  have hm : mode ≤ 1 := by omega
  have ht : ¬ s0.teams = 0 := fun z => by have := h0 z; omega
  have st : Vbbral.step s0 (.pair mode) = if Vbbral.whole s0 = false then Vbbral.no s0 3 else match Vbbral.pairing s0 mode with
      | none => Vbbral.no s0 7
      | some x => Vbbral.yes s0 ((x.1 : Int) :: (x.2.length : Int) :: Vbbral.flat x.2) := by
    show (if Vbbral.within mode 0 1 = false then _ else _) = _
    rw [if_neg (by rw [h1]; decide), if_neg ht, Int.toNat_natCast]
    cases Vbbral.pairing s0 mode <;> rfl
  obtain ⟨dc, hc⟩ := hC.ins
  obtain ⟨dx, hp⟩ := hS.ev.ev
  refine ⟨_, rfl, e, dx, _, rfl, hp, eF_no_is_whole .., _, rfl, e, y.er, y.L, y.kv, _, _, rfl, hS.ev, fun r hr => by have := hI.good.games r hr; omega, fun H1 s1 => ⟨_, rfl, ?_⟩⟩
  rw [whole_eq]
  refine ite2 (fun d => ?_) (fun d => ?_)
  · have d : Vbbral.whole s0 = false := by
      cases h : Vbbral.whole s0 with
      | false => rfl
      | true => rw [h] at d; cases d
    rw [if_pos d] at st
    refine ⟨by show 1 ≤ sizeLine; decide, fun p np => ?_⟩
    exact fin_new q hS st (.of s1) (hT.ext s1) np
  have d : ¬ Vbbral.whole s0 = false := fun z => d (by rw [z]; rfl)
  rw [if_neg d] at st
  have hc1 := s1 _ _ hc
  refine ⟨_, rfl, _, rfl, c.c, _, dc, _, _, rfl, hc1, T.c_Call, T.na_Call_numbers, cF_numbers .., c.nl, _, 0, _, rfl, rfl, SqL.of (s1 _ _ hC.nums), at_int 0 rfl rfl, _, _, rfl, e, y.er, y.L, y.kv, s0, mode, rfl, rfl, hm, hS.ev.same s1, hI.good, hT.ext s1, fun H2 x2 T2 pn => ?_, fun H2 yr b ps x2 T2 pn hR nd fr => ?_⟩
  · rw [pn] at st
    refine ⟨_, rfl, rfl, _, rfl, iteT ⟨by show 1 ≤ sizeLine; decide, fun p np => ?_⟩⟩
    exact fin_new q hS st ((LamX.ExtN.of s1).trans x2) T2 np
  · rw [pn] at st
    obtain ⟨f1, f2, f3, f4⟩ := pairing_facts hI.good hm pn
    obtain ⟨dr, hrr⟩ := hR.ins
    have gl : (Vbbral.roundOf b ps).games.length = ps.length := List.length_map ..
    refine ⟨_, rfl, rfl, _, rfl, iteF ⟨_, rfl, yr.r, _, dr, _, _, rfl, hrr, T.c_Round, T.na_Round_sits_out, rF_sits_out .., _, rfl, yr.r, _, dr, _, _, rfl, hrr, T.c_Round, T.na_Round_matches, rF_matches .., yr.l, _, rfl, .inl (SqL.of hR.lst), by show 3 ≤ sizeLine; decide, fun t nt => ?_⟩⟩
    dsimp only
    rw [List.length_map, hR.len, gl]
    have s3 : Same H2 (upd H2 t (.lst [.int 0, .int (Vbbral.roundOf b ps).bye, .int ps.length])) := same_up nt
    have e1 : (upd H2 t (.lst [.int 0, .int (Vbbral.roundOf b ps).bye, .int ps.length])) t = some (.lst [.int 0, .int (Vbbral.roundOf b ps).bye, .int ps.length]) := upd_same
    generalize hH1 : upd H2 t (.lst [.int 0, .int (Vbbral.roundOf b ps).bye, .int ps.length]) = H3 at *
    have fl : ∀ l : Vbbral.Pairs, (Vbbral.flat l).length = 2 * l.length := fun l => by
      induction l with
      | nil => rfl
      | cons x l ih =>
        unfold Vbbral.flat at *
        rw [List.flatMap_cons, List.length_append, ih]
        show 2 + 2 * l.length = 2 * (l.length + 1)
        omega
    refine ⟨_, rfl, yr.r, _, dr, _, _, rfl, s3 _ _ hrr, T.c_Round, T.na_Round_matches, rF_matches .., yr.l, rfl, ⟨_, SqL.of (s3 _ _ hR.lst)⟩, for_list (K := K) (a := yr.l) (xs := yr.ms.map V.ref) (fun i σ H' => (∃ v, σ = [some (.ref e), some (.ref c.c), some (.ref yr.r), some (.ref t), v]) ∧ Same H2 H' ∧ H' t = some (.lst ((0 :: (b : Int) :: (ps.length : Int) :: Vbbral.flat (ps.take i)).map V.int)))
      ⟨⟨_, rfl⟩, s3, e1⟩ (fun i σ H' _ z => SqL.of (z.2.1 _ _ hR.lst)) ?_ ?_⟩
    · rintro j x σ H4 hx ⟨⟨v, rfl⟩, sm, ew⟩
      obtain ⟨mm, g, rfl, g1, g2, dm, g3⟩ := hR.get hx
      have g2 : (ps.map fun p => (⟨p.1, p.2, false, 0⟩ : Vbbral.Game))[j]? = some g := g2
      rw [List.getElem?_map] at g2
      obtain ⟨pr, g4, rfl⟩ := Option.map_eq_some_iff.mp g2
      have h3 := sm _ _ g3
      have tl : (Vbbral.flat (ps.take j)).length ≤ 12 := by
        rw [fl]
        have : (ps.take j).length ≤ 6 := Nat.le_trans (List.length_take_le' ..) f4
        omega
      refine ⟨_, rfl, .inl ⟨rfl, _, SqL.of ew⟩, _, rfl, mm, _, dm, _, _, rfl, h3, T.c_Match, T.na_Match_first, mF_first .., _, rfl, mm, _, dm, _, _, rfl, h3, T.c_Match, T.na_Match_second, mF_second .., by show 2 ≤ sizeLine; decide, fun u nu => ?_⟩
      have tu : t ≠ u := ne_of_none ew nu
      refine ⟨t, u, _, _, rfl, rfl, by rw [upd_ne tu]; exact ew, upd_same, ?_, ⟨_, rfl⟩, fun b' o w => ?_, ?_⟩
      · rw [List.length_map, List.length_cons, List.length_cons, List.length_cons]
        exact Nat.le_of_lt (line_lt (by show _ + 2 ≤ 20000; omega))
      · have w2 := sm _ _ w
        rw [upd_ne (ne_of_none w nt), upd_ne (ne_of_none w2 nu)]
        exact w2
      · rw [upd_same, take_one g4]
        unfold Vbbral.flat
        rw [List.flatMap_append]
        show some (HO.lst (_ ++ List.map V.int [(pr.1 : Int), (pr.2 : Int)])) = _
        rw [← List.map_append]
        rfl
    · rintro σ H4 ⟨⟨v, rfl⟩, sm, ew⟩
      rw [List.length_map, hR.len, gl, List.take_length] at ew
      exact ⟨_, rfl, fin_same q hS st (((LamX.ExtN.of s1).trans x2).trans (.of sm)) (T2.ext sm) (Same.refl H4) ew fun o w k => by rw [((LamX.ExtN.of s1).trans x2) _ _ w k.nt] at nt; cases nt⟩
def sp_answer_draw (K : PySem.W.Frag) : Sp := sp_A K 2
theorem ok_answer_draw (T : Txt w K mg base) : OkF P w K mg base 10 (He.ga K "answer_draw") ["event", "call"] (sp_answer_draw K) := by
  obtain ⟨⟨fd_next_round, G_next_round, b_next_round⟩, k_next_round⟩ := ok_next_round (P := P) T
  obtain ⟨⟨fd_Event_is_full, G_Event_is_full, b_Event_is_full⟩, k_Event_is_full⟩ := ok_Event_is_full (P := P) T
  obtain ⟨⟨fd_Event_is_whole, G_Event_is_whole, b_Event_is_whole⟩, k_Event_is_whole⟩ := ok_Event_is_whole (P := P) T
  obtain ⟨fd, F⟩ := T.f_answer_draw
  refine ok2 F sc_answer_draw (fun _ _ _ _ _ _ _ _ => rfl) (fun cdv A outer s H x0 x1 Q hr h => ?_)
  refine ⟨_, (pss_cons (ps_if (pt_not (pt_val (pe_meth0 (pv 0) T.c_Event T.m_Event_is_whole G_Event_is_whole (hr.mono (by decide)) b_Event_is_whole .nil pass0))) (pss_one (ps_ret (pe_lst (pa_cons (C8.pe_gc (by rfl) T.v_NOT_WHOLE) pa_nil)))) pss_nil)
      (pss_cons (ps_if (pt_val (pe_meth0 (pv 0) T.c_Event T.m_Event_is_full G_Event_is_full (hr.mono (by decide)) b_Event_is_full .nil pass0)) (pss_one (ps_ret (pe_lst (pa_cons (C8.pe_gc (by rfl) T.v_FULL) pa_nil)))) pss_nil)
      (pss_cons (ps_set (i := 2) sc_answer_draw.nd rfl (Or.inl rfl) (pe_call G_next_round (hr.mono (by decide)) (by rfl) T.g_next_round k_next_round b_next_round .nil pass0 (pa_cons (pv 0) (pa_cons (pe_ix (r := rIxL K) ix_list (pe_fldK (K := K) rfl (pv 1) rfl) pe_int (fun _ _ => rfl)) pa_nil))))
      (pss_cons (ps_if (pt_cmpR op_isN (pv 2) pe_non (nomark _)) (pss_one (ps_ret (pe_lst (pa_cons (C8.pe_gc (by rfl) T.v_NO_PAIRING) pa_nil)))) pss_nil)
      (pss_cons (ps_expr (pe_bm PySem.F.plainAttrs_list PySem.F.slot_list_append PySem.F.type_list_append mt_append (pe_fldK (K := K) rfl (pv 0) rfl) (pa_cons (pv 2) pa_nil)))
      (pss_one (ps_ret (pe_lst (pa_cons pe_int (pa_cons (pe_callB (r := rLenS K) call_len_seq (by rfl) T.n_len PySem.boot_len (pa_cons (pe_fldK (K := K) rfl (pv 0) rfl) pa_nil)) pa_nil)))))))))), ?_⟩
  obtain ⟨e, y, s0, c, m, cl, B, rfl, rfl, hk, ho, hin, h0, hI, hB, hS, hC, hT, q⟩ := h
  obtain ⟨k, nums, row⟩ := m
  obtain rfl : k = 2 := hk
  obtain ⟨r0, rfl, rfl⟩ : ∃ a, nums = [a] ∧ cl = .draw a := by
    match nums, ho with
    | [a], ho => cases ho; exact ⟨a, rfl, rfl⟩
  have h1 : Vbbral.within r0 0 1 = true := inR_num (i := 0) hin rfl rfl
  obtain ⟨a1, a2⟩ := Bool.and_eq_true_iff.mp h1
  have a1 := of_decide_eq_true a1
  have a2 := of_decide_eq_true a2
  obtain ⟨mode, rfl⟩ : ∃ n : Nat, r0 = n := ⟨r0.toNat, by omega⟩
  have hm : mode ≤ 1 := by omega
  have ht : ¬ s0.teams = 0 := fun z => by have := h0 z; omega
  have hr11 := hI.good.rounds
  have st : Vbbral.step s0 (.draw mode) = if Vbbral.whole s0 = false then Vbbral.no s0 3 else if 11 ≤ s0.rounds.length then Vbbral.no s0 8 else match Vbbral.pairing s0 mode with
      | none => Vbbral.no s0 7
      | some x => Vbbral.yes ⟨s0.teams, s0.rounds ++ [Vbbral.roundOf x.1 x.2], s0.knock⟩ [(s0.rounds.length : Int) + 1] := by
    show (if Vbbral.within mode 0 1 = false then _ else _) = _
    rw [if_neg (by rw [h1]; decide), if_neg ht, Int.toNat_natCast]
    cases Vbbral.pairing s0 mode <;> rfl
  obtain ⟨dc, hc⟩ := hC.ins
  obtain ⟨dx, hp⟩ := hS.ev.ev
  refine ⟨_, rfl, e, dx, _, rfl, hp, eF_no_is_whole .., _, rfl, e, y.er, y.L, y.kv, _, _, rfl, hS.ev, fun r hr => by have := hI.good.games r hr; omega, fun H1 s1 => ⟨_, rfl, ?_⟩⟩
  rw [whole_eq]
  refine ite2 (fun d => ?_) (fun d => ?_)
  · have d : Vbbral.whole s0 = false := by
      cases h : Vbbral.whole s0 with
      | false => rfl
      | true => rw [h] at d; cases d
    rw [if_pos d] at st
    refine ⟨by show 1 ≤ sizeLine; decide, fun p np => ?_⟩
    exact fin_new q hS st (.of s1) (hT.ext s1) np
  have d : ¬ Vbbral.whole s0 = false := fun z => d (by rw [z]; rfl)
  rw [if_neg d] at st
  have hc1 := s1 _ _ hc
  have hp1 := s1 _ _ hp
  refine ⟨_, rfl, e, dx, _, rfl, hp1, eF_no_is_full .., _, rfl, e, y.er, y.L, y.kv, _, _, rfl, hS.ev.same s1, _, rfl, ?_⟩
  refine ite2 (fun d2 => ?_) (fun d2 => ?_)
  · rw [if_pos (by have := of_decide_eq_true d2; omega)] at st
    refine ⟨by show 1 ≤ sizeLine; decide, fun p np => ?_⟩
    exact fin_new q hS st (.of s1) (hT.ext s1) np
  have d2 : ¬ s0.rounds.length = 11 := fun z => d2 (decide_eq_true z)
  rw [if_neg (by omega)] at st
  refine ⟨_, rfl, _, rfl, c.c, _, dc, _, _, rfl, hc1, T.c_Call, T.na_Call_numbers, cF_numbers .., c.nl, _, 0, _, rfl, rfl, SqL.of (s1 _ _ hC.nums), at_int 0 rfl rfl, _, _, rfl, e, y.er, y.L, y.kv, s0, mode, rfl, rfl, hm, hS.ev.same s1, hI.good, hT.ext s1, fun H2 x2 T2 pn => ?_, fun H2 yr b ps x2 T2 pn hR nd fr => ?_⟩
  · rw [pn] at st
    refine ⟨_, rfl, rfl, _, rfl, iteT ⟨by show 1 ≤ sizeLine; decide, fun p np => ?_⟩⟩
    exact fin_new q hS st ((LamX.ExtN.of s1).trans x2) T2 np
  · rw [pn] at st
    have x12 := (LamX.ExtN.of s1).trans x2
    have fr0 : FreshR H yr := ⟨fun b o w n => fr.all b o (s1 _ _ w) n⟩
    have S3 := hS.add x12 hR nd fr0
    have S2 := hS.ext x12
    obtain ⟨dx2, hp2⟩ := S2.ev.ev
    obtain ⟨dx3, hp3⟩ := S3.ev.ev
    have lL := hS.ev.len
    refine ⟨_, rfl, rfl, _, rfl, iteF ⟨_, rfl, e, _, dx2, _, _, rfl, hp2, T.c_Event, T.na_Event_rounds, eF_rounds .., .inl ⟨rfl, _, SqL.of S2.ev.er⟩, _, rfl, y.er, _, .ref yr.r, rfl, rfl, S2.ev.er, ?_, ?_⟩⟩
    · rw [List.length_map, List.length_map, lL]
      exact line_lt (by omega)
    · refine ⟨_, rfl, e, _, dx3, _, _, rfl, hp3, T.c_Event, T.na_Event_rounds, eF_rounds .., y.er, _, rfl, .inl (SqL.of upd_same), by show 2 ≤ sizeLine; decide, fun p np => ?_⟩
      dsimp only
      rw [List.length_append, List.length_map, List.length_map, lL]
      exact fin_to q st S3 (.add x12 fr0) (Tabs.upd_lst T2 S2.ev.er) np (upd_some fun b o w k => x12 b o w k.nt)
end
end TR

set_option Elab.async false
set_option linter.all false
set_option maxRecDepth 100000
set_option maxHeartbeats 4000000
namespace TR
open PySem PySem.Spec PyProof.Rows L2
theorem nodup_at : ∀ {L : List RL}, (L.flatMap RL.ms).Nodup → ∀ {i i' j j' : Nat} {y y' : RL} {m : Addr}, L[i]? = some y → L[i']? = some y' → y.ms[j]? = some m → y'.ms[j']? = some m → i = i' ∧ j = j'
  | [], _, i, i', j, j', y, y', m, e, _, _, _ => by simp at e
  | x :: L, h, i, i', j, j', y, y', m, e1, e2, f1, f2 => by
    rw [List.flatMap_cons, List.nodup_append] at h
    obtain ⟨h1, h2, h3⟩ := h
    have cross : ∀ {k a b : Nat} {z : RL}, L[k]? = some z → x.ms[a]? = some m → z.ms[b]? = some m → False := fun ek ea eb =>
      h3 m (List.mem_of_getElem? ea) m (List.mem_flatMap.mpr ⟨_, List.mem_of_getElem? ek, List.mem_of_getElem? eb⟩) rfl
    match i, i' with
    | 0, 0 =>
      cases e1
      cases e2
      obtain ⟨b1, b2⟩ := List.getElem?_eq_some_iff.mp f1
      obtain ⟨c1, c2⟩ := List.getElem?_eq_some_iff.mp f2
      exact ⟨rfl, (List.getElem_inj h1).mp (b2.trans c2.symm)⟩
    | 0, k + 1 =>
      cases e1
      exact (cross e2 f1 f2).elim
    | k + 1, 0 =>
      cases e2
      exact (cross e1 f2 f1).elim
    | k + 1, k' + 1 =>
      obtain ⟨a, b⟩ := nodup_at h2 (i := k) (i' := k') e1 e2 f1 f2
      exact ⟨by omega, b⟩
/-- a result told -/
theorem StAt.tell {K : PySem.W.Frag} {H H' : Hp} {e : Addr} {y : Lay} {s : Vbbral.State} (h : StAt K H e y s) {i j : Nat} {yr : RL} {r : Vbbral.Round} {m : Addr} {g g' : Vbbral.Game}
    (e1 : y.L[i]? = some yr) (e2 : s.rounds[i]? = some r) (f1 : yr.ms[j]? = some m) (f2 : r.games[j]? = some g) (b : But m H H') (hg : MatchG K H' m g') : StAt K H' e y ⟨s.teams, s.rounds.set i ⟨r.bye, r.games.set j g'⟩, s.knock⟩ := by
  obtain ⟨dm, hm⟩ := (h.ev.at_ i yr r e1 e2).at_ j m g f1 f2
  have kl : ∀ {a : Addr} {xs : List V}, H a = some (.lst xs) → H' a = some (.lst xs) := fun {a xs} w => by
    rw [b a (ne_of w hm (by intro z; cases z))]
    exact w
  have ki : ∀ {a : Addr} {C : Str} {fs : List (Str × V)}, InsAt K H a C fs → ¬ fs.map (·.1) = (["first", "second", "units"] : List Str) → InsAt K H' a C fs := fun {a C fs} ⟨d, w⟩ n => ⟨d, by
    rw [b a (ne_of w hm (by
      intro z
      injection z with z1 z2 z3
      exact n (by rw [z3]; rfl)))]
    exact w⟩
  have ne : ∀ {l : List Str}, l ≠ (["first", "second", "units"] : List Str) → ¬ l = (["first", "second", "units"] : List Str) := fun h => h
  have her := kl h.ev.er
  have il := (List.getElem?_eq_some_iff.mp e2).1
  refine ⟨⟨ki h.ev.ev (by show ¬ ((["size", "rounds", "knock_out"] : List Str) = _); decide +kernel), her, by rw [List.length_set]; exact h.ev.len, fun i' q r' w1 w2 => ?_⟩, ?_, h.apL, h.apM⟩
  · have gen : ∀ {q : RL} {rr rr' : Vbbral.Round}, RoundAt K H q rr → rr'.bye = rr.bye → rr'.games.length = rr.games.length → (∀ (k : Nat) (m' : Addr) (g2 : Vbbral.Game), q.ms[k]? = some m' → rr'.games[k]? = some g2 → MatchG K H' m' g2) → RoundAt K H' q rr' := fun hq hb hl hm2 =>
      ⟨by rw [hb]; exact ki hq.ins (by show ¬ ((["matches", "sits_out"] : List Str) = _); decide +kernel), kl hq.lst, by rw [hl]; exact hq.len, hm2⟩
    have keep : ∀ {q : RL} {rr : Vbbral.Round} {i' k : Nat} {m' : Addr} {g2 : Vbbral.Game}, y.L[i']? = some q → q.ms[k]? = some m' → ¬ (i = i' ∧ j = k) → MatchG K H m' g2 → MatchG K H' m' g2 := fun {q rr i' k m' g2} w1 w3 n ⟨d, w⟩ => ⟨d, by
      rw [b m' fun z => n (nodup_at h.apM e1 w1 f1 (z ▸ w3))]
      exact w⟩
    by_cases c : i = i'
    · subst c
      rw [e1] at w1
      rw [List.getElem?_set_self il] at w2
      cases w1
      cases w2
      have hR := h.ev.at_ i yr r e1 e2
      refine gen hR rfl (by show (r.games.set j g').length = _; rw [List.length_set]) fun k m' g2 w3 w4 => ?_
      have w4 : (r.games.set j g')[k]? = some g2 := w4
      by_cases ck : j = k
      · subst ck
        rw [f1] at w3
        rw [List.getElem?_set_self (List.getElem?_eq_some_iff.mp f2).1] at w4
        cases w3
        cases w4
        exact hg
      · rw [List.getElem?_set_ne ck] at w4
        exact keep (rr := r) e1 w3 (fun z => ck z.2) (hR.at_ k m' g2 w3 w4)
    · rw [List.getElem?_set_ne c] at w2
      have hR := h.ev.at_ i' q r' w1 w2
      exact gen hR rfl rfl fun k m' g2 w3 w4 => keep (rr := r) w1 w3 (fun z => c z.1) (hR.at_ k m' g2 w3 w4)
  · have hk := h.kn
    show KnAt K H' y.er y.kn s.knock
    cases hy : y.kn with
    | none =>
      rw [hy] at hk
      cases hs : s.knock with
      | none => exact True.intro
      | some k => rw [hs] at hk; exact hk.elim
    | some t =>
      rw [hy] at hk
      cases hs : s.knock with
      | none => rw [hs] at hk; exact hk.elim
      | some k =>
        rw [hs] at hk
        obtain ⟨k1, k2⟩ := hk
        exact ⟨⟨ki k1.ins (by show ¬ ((["row", "won"] : List Str) = _); decide +kernel), kl k1.row, kl k1.won⟩, k2⟩
theorem Fr.tell {K : PySem.W.Frag} {H H1 H' : Hp} {y : Lay} {m : Addr} {g : Vbbral.Game} (s : Same H H1) (hm : MatchG K H m g) (b : But m H1 H') : Fr H H' y y := ⟨fun a o e k _ _ => by
  obtain ⟨d, w⟩ := hm
  rw [b a (ne_of e w (by
    intro z
    rw [z] at k
    have k : (["first", "second", "units"] : List Str) = (["kind", "numbers", "row"] : List Str) := k
    revert k
    decide +kernel))]
  exact s _ _ e, .inl rfl, .inl rfl, fun _ _ _ _ h => h⟩
theorem Tabs.but {K : PySem.W.Frag} {H H' : Hp} {m : Addr} {g : Vbbral.Game} (t : LamX.Tabs (LamT K) H) (hm : MatchG K H m g) (b : But m H H') : LamX.Tabs (LamT K) H' := fun pp hpp => by
  obtain ⟨d, w⟩ := hm
  obtain ⟨ps, t1, t2, t3⟩ := t pp hpp
  refine ⟨ps, by rw [b _ (ne_of t1 w (by intro z; cases z))]; exact t1, t2, fun pos cv hcv => ?_⟩
  obtain ⟨c', c1, c2⟩ := t3 pos cv hcv
  exact ⟨c', c1, by rw [b _ (ne_of c2 w (by intro z; cases z))]; exact c2⟩
theorem imps_sum : ∀ l : List Int, ((twosI l).map fun p => Vbbral.imp (p.1 - p.2)).sum = Vbbral.imps l
  | [] => rfl
  | [_] => rfl
  | a :: b :: r => by
    show (List.map (fun p : Int × Int => Vbbral.imp (p.1 - p.2)) ((a, b) :: twosI r)).sum = Vbbral.imp (a - b) + Vbbral.imps r
    rw [List.map_cons, List.sum_cons, imps_sum r]
theorem rowOk4 (l : List Int) (h : rowOk [2, 64, -10000, 10000] l = true) : (decide (2 ≤ l.length) && (decide (l.length ≤ 64) && (l.length % 2 == 0 && l.all fun x => Vbbral.within x (-10000) 10000))) = true := by
  have h : (!(l.length % 2 == 1 || (decide ((l.length : Int) < 2) || decide ((l.length : Int) > 64))) && l.all fun n => decide (-10000 ≤ n) && decide (n ≤ 10000)) = true := h
  obtain ⟨h1, h2⟩ := Bool.and_eq_true_iff.mp h
  rw [Bool.not_eq_true', Bool.or_eq_false_iff, Bool.or_eq_false_iff, beq_eq_false_iff_ne, decide_eq_false_iff_not, decide_eq_false_iff_not] at h1
  rw [Bool.and_eq_true, Bool.and_eq_true, Bool.and_eq_true, decide_eq_true_iff, decide_eq_true_iff, beq_iff_eq]
  exact ⟨by omega, by omega, by omega, h2⟩
section
variable {P : Program} {w : World} {K : PySem.W.Frag} {mg : Str → Option Value} {base : Heap}
def sp_answer_own (K : PySem.W.Frag) : Sp := sp_A K 3
theorem ok_answer_own (T : Txt w K mg base) : OkF P w K mg base 5 (He.ga K "answer_own") ["event", "call"] (sp_answer_own K) := by
  obtain ⟨⟨fd_Round_init, G_Round_init, b_Round_init⟩, k_Round_init⟩ := ok_Round_init (P := P) T
  obtain ⟨⟨fd_not_named, G_not_named, b_not_named⟩, k_not_named⟩ := ok_not_named (P := P) T
  obtain ⟨⟨fd_by_twos, G_by_twos, b_by_twos⟩, k_by_twos⟩ := ok_by_twos (P := P) T
  obtain ⟨⟨fd_fault, G_fault, b_fault⟩, k_fault⟩ := ok_fault (P := P) T
  obtain ⟨⟨fd_Event_is_full, G_Event_is_full, b_Event_is_full⟩, k_Event_is_full⟩ := ok_Event_is_full (P := P) T
  obtain ⟨⟨fd_Event_is_whole, G_Event_is_whole, b_Event_is_whole⟩, k_Event_is_whole⟩ := ok_Event_is_whole (P := P) T
  obtain ⟨fd, F⟩ := T.f_answer_own
  refine ok2 F sc_answer_own (fun _ _ _ _ _ _ _ _ => rfl) (fun cdv A outer s H x0 x1 Q hr h => ?_)
  refine ⟨_, (pss_cons (ps_if (pt_not (pt_val (pe_meth0 (pv 0) T.c_Event T.m_Event_is_whole G_Event_is_whole (hr.mono (by decide)) b_Event_is_whole .nil pass0))) (pss_one (ps_ret (pe_lst (pa_cons (C8.pe_gc (by rfl) T.v_NOT_WHOLE) pa_nil)))) pss_nil)
      (pss_cons (ps_if (pt_val (pe_meth0 (pv 0) T.c_Event T.m_Event_is_full G_Event_is_full (hr.mono (by decide)) b_Event_is_full .nil pass0)) (pss_one (ps_ret (pe_lst (pa_cons (C8.pe_gc (by rfl) T.v_FULL) pa_nil)))) pss_nil)
      (pss_cons (ps_if (pt_cmpR op_ne (pe_call G_fault (hr.mono (by decide)) (by rfl) T.g_fault k_fault b_fault .nil pass0 (pa_cons (pv 0) (pa_cons (pe_fldK (K := K) rfl (pv 1) rfl) pa_nil))) pe_int (nomark _)) (pss_one (ps_ret (pe_lst (pa_cons (C8.pe_gc (by rfl) T.v_MAY_NOT_BE) pa_nil)))) pss_nil)
      (pss_cons (ps_expr (pe_bm PySem.F.plainAttrs_list PySem.F.slot_list_append PySem.F.type_list_append mt_append (pe_fldK (K := K) rfl (pv 0) rfl) (pa_cons (pe_make T.mk_Round G_Round_init (hr.mono (by decide)) (by rfl) T.g_Round b_Round_init .nil pass0 (pa_cons (pe_call G_by_twos (hr.mono (by decide)) (by rfl) T.g_by_twos k_by_twos b_by_twos .nil pass0 (pa_cons (pe_fldK (K := K) rfl (pv 1) rfl) pa_nil)) (pa_cons (pe_call G_not_named (hr.mono (by decide)) (by rfl) T.g_not_named k_not_named b_not_named .nil pass0 (pa_cons (pv 0) (pa_cons (pe_fldK (K := K) rfl (pv 1) rfl) pa_nil))) pa_nil))) pa_nil)))
      (pss_one (ps_ret (pe_lst (pa_cons pe_int (pa_cons (pe_callB (r := rLenS K) call_len_seq (by rfl) T.n_len PySem.boot_len (pa_cons (pe_fldK (K := K) rfl (pv 0) rfl) pa_nil)) pa_nil))))))))), ?_⟩
  obtain ⟨e, y, s0, c, m, cl, B, rfl, rfl, hk, ho, hin, h0, hI, hB, hS, hC, hT, q⟩ := h
  obtain ⟨k, nums, row⟩ := m
  obtain rfl : k = 3 := hk
  obtain ⟨rfl, rfl⟩ : nums = [] ∧ cl = .own row := by
    match nums, ho with
    | [], ho => cases ho; exact ⟨rfl, rfl⟩
  have ht : ¬ s0.teams = 0 := fun z => by have := h0 z; omega
  have h2 : 2 ≤ s0.teams := hI.two.resolve_left ht
  have h1 : Vbbral.isPairs row = true := by
    rw [← isPairs_eq]
    exact inR_row hin rfl
  obtain ⟨r1, r2, r, rfl, r3⟩ := isPairs_nat h1
  rw [iN_len] at r1 r2
  have er : (iN r).map V.int = vN r := (vN_int r).symm
  have hr11 := hI.good.rounds
  have ht12 := hI.good.teams
  have st : Vbbral.step s0 (.own (iN r)) = if Vbbral.whole s0 = false then Vbbral.no s0 3 else if 11 ≤ s0.rounds.length then Vbbral.no s0 8 else if Vbbral.fault s0 (pairsN r) ≠ 0 then Vbbral.no s0 6 else
      Vbbral.yes ⟨s0.teams, s0.rounds ++ [Vbbral.roundOf (sitterN s0.teams r) (pairsN r)], s0.knock⟩ [(s0.rounds.length : Int) + 1] := by
    show (if Vbbral.isPairs (iN r) = false then _ else _) = _
    rw [h1, if_neg (by decide), if_neg ht, ← sitter_eq s0 r2]
    rfl
  obtain ⟨dc, hc⟩ := hC.ins
  obtain ⟨dx, hp⟩ := hS.ev.ev
  have hrow : H c.rl = some (.lst (vN r)) := by rw [← er]; exact hC.row
  refine ⟨_, rfl, e, dx, _, rfl, hp, eF_no_is_whole .., _, rfl, e, y.er, y.L, y.kv, _, _, rfl, hS.ev, fun r hr => by have := hI.good.games r hr; omega, fun H1 s1 => ⟨_, rfl, ?_⟩⟩
  rw [whole_eq]
  refine ite2 (fun d => ?_) (fun d => ?_)
  · have d : Vbbral.whole s0 = false := by
      cases h : Vbbral.whole s0 with
      | false => rfl
      | true => rw [h] at d; cases d
    rw [if_pos d] at st
    refine ⟨by show 1 ≤ sizeLine; decide, fun p np => ?_⟩
    exact fin_new q hS st (.of s1) (hT.ext s1) np
  have d : ¬ Vbbral.whole s0 = false := fun z => d (by rw [z]; rfl)
  rw [if_neg d] at st
  have hc1 := s1 _ _ hc
  have hp1 := s1 _ _ hp
  refine ⟨_, rfl, e, dx, _, rfl, hp1, eF_no_is_full .., _, rfl, e, y.er, y.L, y.kv, _, _, rfl, hS.ev.same s1, _, rfl, ?_⟩
  refine ite2 (fun d2 => ?_) (fun d2 => ?_)
  · rw [if_pos (by have := of_decide_eq_true d2; omega)] at st
    refine ⟨by show 1 ≤ sizeLine; decide, fun p np => ?_⟩
    exact fin_new q hS st (.of s1) (hT.ext s1) np
  have d2 : ¬ s0.rounds.length = 11 := fun z => d2 (decide_eq_true z)
  rw [if_neg (by omega)] at st
  refine ⟨_, rfl, _, rfl, c.c, _, dc, _, _, rfl, hc1, T.c_Call, T.na_Call_row, cF_row .., _, _, rfl, e, y.er, y.L, y.kv, s0, c.rl, r, rfl, rfl, hS.ev.same s1, SqL.of (s1 _ _ hrow), hI.good, h2, r2, r1, fun t ht => (r3 t ht).1, fun H2 s2 => ⟨rfl, _, rfl, ?_⟩⟩
  rw [dec_int]
  have s12 := s1.trans s2
  refine ite2 (fun d3 => ?_) (fun d3 => ?_)
  · rw [if_pos (fun z => by rw [z] at d3; cases d3)] at st
    refine ⟨by show 1 ≤ sizeLine; decide, fun p np => ?_⟩
    exact fin_new q hS st (.of s12) (hT.ext s12) np
  have d3 : Vbbral.fault s0 (pairsN r) = 0 := by
    refine Classical.byContradiction fun z => d3 ?_
    rw [decide_eq_false (by omega)]
    rfl
  rw [if_neg (fun z => z d3)] at st
  have hc2 := s2 _ _ hc1
  have hp2 := s2 _ _ hp1
  have S2 := hS.ext (.of s12)
  have hrow2 : H2 c.rl = some (.lst ((iN r).map V.int)) := by rw [er]; exact s12 _ _ hrow
  refine ⟨_, rfl, e, _, dx, _, _, rfl, hp2, T.c_Event, T.na_Event_rounds, eF_rounds .., .inl ⟨rfl, _, SqL.of S2.ev.er⟩, _, rfl, c.c, _, dc, _, _, rfl, hc2, T.c_Call, T.na_Call_row, cF_row .., _, rfl, c.rl, iN r, rfl, SqL.of hrow2, by rw [iN_len]; exact r2, by rw [iN_len]; omega, fun H3 pp ts s3 npp epp hPP => ?_⟩
  have s13 := s12.trans s3
  have S3 := hS.ext (.of s13)
  have hrow3 : H3 c.rl = some (.lst (vN r)) := s13 _ _ hrow
  refine ⟨_, rfl, _, rfl, c.c, _, dc, _, _, rfl, s3 _ _ hc2, T.c_Call, T.na_Call_row, cF_row .., _, _, rfl, e, y.er, y.L, y.kv, _, _, c.rl, r, rfl, rfl, S3.ev, SqL.of hrow3, by omega, fun rr dr nr ndr ne => ?_⟩
  have s4 : Same H3 (upd (upd H3 dr (.own rr)) rr (.ins (He.ga K "Round") dr [])) := same_made nr ndr (fun _ _ => rfl)
  have plen : (twosI (iN r)).length ≤ 1000 := by rw [twosI_iN, List.length_map, pairsN_len]; omega
  refine ⟨_, _, _, rfl, rr, dr, pp, ts, twosI (iN r), ((sitterN s0.teams r : Nat) : Int), rfl, rfl, rfl, upd_same, SqL.of (s4 _ _ epp), hPP.same s4, plen, fun H5 l9 ms kp ins nl9 el9 lm ndm frm mats => ⟨rfl, ?_⟩⟩
  have s5 : Same H3 H5 := fun b o w => kp b o (s4 _ _ w) (ne_of_none w nr)
  have s15 := s13.trans s5
  have S5 := hS.ext (.of s15)
  have hR5 : RoundAt K H5 (RL.mk rr l9 ms) (Vbbral.roundOf (sitterN s0.teams r) (pairsN r)) := by
    refine ⟨ins, el9, ?_, fun i m' g w1 w2 => ?_⟩
    · rw [lm, twosI_iN, List.length_map]
      show _ = ((pairsN r).map _).length
      rw [List.length_map]
    · have w2 : ((pairsN r).map fun p => (⟨p.1, p.2, false, 0⟩ : Vbbral.Game))[i]? = some g := w2
      rw [List.getElem?_map] at w2
      obtain ⟨pr, w3, rfl⟩ := Option.map_eq_some_iff.mp w2
      exact mats i m' (_, _) w1 (by rw [twosI_iN, List.getElem?_map, w3]; rfl)
  have fr0 : FreshR H (RL.mk rr l9 ms) := ⟨fun b o w n => by
    have w3 := s13 _ _ w
    have w4 := s4 _ _ w3
    exact ⟨ne_of_none w3 nr, ne_of_none w4 nl9, fun hm' => by rw [frm b hm'] at w4; cases w4⟩⟩
  have S6 := hS.add (.of s15) hR5 ndm fr0
  obtain ⟨dx3, hp3⟩ := S6.ev.ev
  have lL := hS.ev.len
  refine ⟨y.er, _, .ref rr, rfl, rfl, S5.ev.er, ?_, ?_⟩
  · rw [List.length_map, List.length_map, lL]
    exact line_lt (by omega)
  · refine ⟨_, rfl, e, _, dx3, _, _, rfl, hp3, T.c_Event, T.na_Event_rounds, eF_rounds .., y.er, _, rfl, .inl (SqL.of upd_same), by show 2 ≤ sizeLine; decide, fun p np => ?_⟩
    dsimp only
    rw [List.length_append, List.length_map, List.length_map, lL]
    exact fin_to q st S6 (.add (.of s15) fr0) (Tabs.upd_lst (hT.ext s15) S5.ev.er) np (upd_some fun b o w _ => s15 b o w)
def sp_answer_teams (K : PySem.W.Frag) : Sp := sp_A K 0
theorem ok_answer_teams (T : Txt w K mg base) : OkF P w K mg base 2 (He.ga K "answer_teams") ["event", "call"] (sp_answer_teams K) := by
  obtain ⟨⟨fd_Event_begin, G_Event_begin, b_Event_begin⟩, k_Event_begin⟩ := ok_Event_begin (P := P) T
  obtain ⟨fd, F⟩ := T.f_answer_teams
  refine ok2 F sc_answer_teams (fun _ _ _ _ _ _ _ _ => rfl) (fun cdv A outer s H x0 x1 Q hr h => ?_)
  refine ⟨_, (pss_cons (ps_expr (pe_meth (pv 0) T.c_Event T.m_Event_begin G_Event_begin (hr.mono (by decide)) b_Event_begin .nil pass0 (pa_cons (pe_ix (r := rIxL K) ix_list (pe_fldK (K := K) rfl (pv 1) rfl) pe_int (fun _ _ => rfl)) pa_nil)))
      (pss_one (ps_ret (pe_lst (pa_cons pe_int pa_nil))))), ?_⟩
  obtain ⟨e, y, s0, c, m, cl, B, rfl, rfl, hk, ho, hin, h0, hI, hB, hS, hC, hT, q⟩ := h
  obtain ⟨k, nums, row⟩ := m
  obtain rfl : k = 0 := hk
  obtain ⟨r0, rfl, rfl⟩ : ∃ a, nums = [a] ∧ cl = .teams a := by
    match nums, ho with
    | [a], ho => cases ho; exact ⟨a, rfl, rfl⟩
  have h1 : Vbbral.within r0 2 12 = true := inR_num (i := 0) hin rfl rfl
  obtain ⟨a1, a2⟩ := Bool.and_eq_true_iff.mp h1
  have a1 := of_decide_eq_true a1
  obtain ⟨n, rfl⟩ : ∃ n : Nat, r0 = n := ⟨r0.toNat, by omega⟩
  have st : Vbbral.step s0 (.teams n) = (⟨n, [], none⟩, [0]) := by
    show (if Vbbral.within n 2 12 = false then _ else Vbbral.yes ⟨(n : Int).toNat, [], none⟩ []) = _
    rw [if_neg (by rw [h1]; decide), Int.toNat_natCast]
    rfl
  obtain ⟨dc, hc⟩ := hC.ins
  obtain ⟨dx, hp⟩ := hS.ev.ev
  refine ⟨_, rfl, e, dx, _, rfl, hp, eF_no_begin .., _, rfl, c.c, _, dc, _, _, rfl, hc, T.c_Call, T.na_Call_numbers, cF_numbers .., c.nl, _, 0, _, rfl, rfl, SqL.of hC.nums, at_int 0 rfl rfl, _, _, rfl, e, y.er, y.L, y.kv, _, n, _, rfl, rfl, hS.ev, fun H1 er' kp ner hE1 => ?_⟩
  refine ⟨by show 1 ≤ sizeLine; decide, fun p np => ?_⟩
  have nt : ∀ b o, H b = some o → KeepO o → b ≠ e := fun b o w k => ne_of w hp (by
    intro z
    rw [z] at k
    have k : (["size", "rounds", "knock_out"] : List Str) = (["kind", "numbers", "row"] : List Str) := k
    revert k
    decide +kernel)
  refine fin_to (y' := ⟨er', [], none⟩) (s' := ⟨n, [], none⟩) q st ⟨hE1, True.intro, fun r hr => by (cases hr), List.nodup_nil⟩ ⟨fun b o w k _ _ => kp b o w (nt b o w k), .inr fun o w => (by rw [ner] at w; cases w), .inr fun w hw => (by cases hw), fun b o w k h z => by
    rcases z with ⟨r, hr, _⟩ | ⟨t, ht', _⟩
    · cases hr
    · cases ht'⟩ (fun pp hpp => ?_) np (fun b o w k => ⟨o, kp b o w (nt b o w k)⟩)
  obtain ⟨ps, t1, t2, t3⟩ := hT pp hpp
  refine ⟨ps, kp _ _ t1 (ne_of t1 hp (by intro z; cases z)), t2, fun pos cv hcv => ?_⟩
  obtain ⟨c', c1, c2⟩ := t3 pos cv hcv
  exact ⟨c', c1, kp _ _ c2 (ne_of c2 hp (by intro z; cases z))⟩
end
end TR

set_option Elab.async false
set_option linter.all false
set_option maxRecDepth 100000
set_option maxHeartbeats 4000000
namespace TR
open PySem PySem.Spec PyProof.Rows L2
theorem tell_keep {K : PySem.W.Frag} {H H1 H' : Hp} {m : Addr} {g : Vbbral.Game} (s : Same H H1) (hm : MatchG K H m g) (b : But m H1 H') : ∀ a o, H a = some o → KeepO o → H' a = some o := fun a o e k => by
  obtain ⟨d, w⟩ := hm
  rw [b a (ne_of e w (by
    intro z
    rw [z] at k
    have k : (["first", "second", "units"] : List Str) = (["kind", "numbers", "row"] : List Str) := k
    revert k
    decide +kernel))]
  exact s _ _ e
theorem last_at {s : Vbbral.State} : s.rounds.getLast? = s.rounds[s.rounds.length - 1]? := List.getLast?_eq_getElem?
/-- what a told result makes of the spec's state -/
theorem enter_eq {s : Vbbral.State} (G : Good s) {i j a b : Nat} {d : Int} {r : Vbbral.Round} {g : Vbbral.Game} (e2 : s.rounds[i]? = some r) (f2 : r.games[j]? = some g) (hs : sameTeams g a b) :
    Vbbral.enter s i a b d = ⟨s.teams, s.rounds.set i ⟨r.bye, r.games.set j ⟨g.a, g.b, true, if (a : Int) = (g.a : Int) then d else -d⟩⟩, s.knock⟩ := by
  have hr := List.mem_of_getElem? e2
  have hg := (G.ok r hr).2 g (List.mem_of_getElem? f2)
  unfold Vbbral.enter
  rw [setRound_eq s i _ e2, map_set (G.apart r hr) f2 hg.2.2.2.2 hs]
  have : (if (a : Int) = (g.a : Int) then d else -d) = if a = g.a then d else -d := by
    by_cases c : a = g.a
    · rw [if_pos c, if_pos (by omega)]
    · rw [if_neg c, if_neg (by omega)]
  rw [this]
theorem has_no {r : Vbbral.Round} {a b : Nat} (h : ∀ g ∈ r.games, isOf g (a : Int) (b : Int) = false) : Vbbral.hasGame a b r = false := by
  rw [← any_isOf]
  exact any_no.mpr h
theorem has_yes {r : Vbbral.Round} {a b j : Nat} {g : Vbbral.Game} (f : r.games[j]? = some g) (h : isOf g (a : Int) (b : Int) = true) : Vbbral.hasGame a b r = true := by
  rw [← any_isOf]
  exact List.any_eq_true.mpr ⟨g, List.mem_of_getElem? f, h⟩
section
variable {P : Program} {w : World} {K : PySem.W.Frag} {mg : Str → Option Value} {base : Heap}
def sp_answer_result (K : PySem.W.Frag) : Sp := sp_A K 5
theorem ok_answer_result (T : Txt w K mg base) : OkF P w K mg base 4 (He.ga K "answer_result") ["event", "call"] (sp_answer_result K) := by
  obtain ⟨⟨fd_match_points, G_match_points, b_match_points⟩, k_match_points⟩ := ok_match_points (P := P) T
  obtain ⟨⟨fd_Match_tell, G_Match_tell, b_Match_tell⟩, k_Match_tell⟩ := ok_Match_tell (P := P) T
  obtain ⟨⟨fd_Event_match_of, G_Event_match_of, b_Event_match_of⟩, k_Event_match_of⟩ := ok_Event_match_of (P := P) T
  obtain ⟨fd, F⟩ := T.f_answer_result
  refine ok2 F sc_answer_result (fun _ _ _ _ _ _ _ _ => rfl) (fun cdv A outer s H x0 x1 Q hr h => ?_)
  refine ⟨_, (pss_cons (ps_set (i := 2) sc_answer_result.nd rfl (Or.inl rfl) (pe_meth (pv 0) T.c_Event T.m_Event_match_of G_Event_match_of (hr.mono (by decide)) b_Event_match_of .nil pass0 (pa_cons (pe_ix (r := rIxL K) ix_list (pe_fldK (K := K) rfl (pv 1) rfl) pe_int (fun _ _ => rfl)) (pa_cons (pe_ix (r := rIxL K) ix_list (pe_fldK (K := K) rfl (pv 1) rfl) pe_int (fun _ _ => rfl)) (pa_cons (pe_ix (r := rIxL K) ix_list (pe_fldK (K := K) rfl (pv 1) rfl) pe_int (fun _ _ => rfl)) pa_nil)))))
      (pss_cons (ps_if (pt_cmpR op_isN (pv 2) pe_non (nomark _)) (pss_one (ps_ret (pe_lst (pa_cons (C8.pe_gc (by rfl) T.v_NOT_THERE) pa_nil)))) pss_nil)
      (pss_cons (ps_set (i := 3) sc_answer_result.nd rfl (Or.inl rfl) (pe_ix (r := rIxL K) ix_list (pe_fldK (K := K) rfl (pv 1) rfl) pe_int (fun _ _ => rfl)))
      (pss_cons (ps_expr (pe_meth (pv 2) T.c_Match T.m_Match_tell G_Match_tell (hr.mono (by decide)) b_Match_tell .nil pass0 (pa_cons (pe_ix (r := rIxL K) ix_list (pe_fldK (K := K) rfl (pv 1) rfl) pe_int (fun _ _ => rfl)) (pa_cons (pv 3) pa_nil))))
      (pss_one (ps_ret (pe_lst (pa_cons pe_int (pa_cons (pe_call G_match_points (hr.mono (by decide)) (by rfl) T.g_match_points k_match_points b_match_points .nil pass0 (pa_cons (pv 3) pa_nil)) (pa_cons (pe_call G_match_points (hr.mono (by decide)) (by rfl) T.g_match_points k_match_points b_match_points .nil pass0 (pa_cons (pe_un un_neg (pv 3)) pa_nil)) pa_nil)))))))))), ?_⟩
  obtain ⟨e, y, s0, c, m, cl, B, rfl, rfl, hk, ho, hin, h0, hI, hB, hS, hC, hT, q⟩ := h
  obtain ⟨k, nums, row⟩ := m
  obtain rfl : k = 5 := hk
  obtain ⟨r0, a, b, d, rfl, rfl⟩ : ∃ r a b d, nums = [r, a, b, d] ∧ cl = .result r a b d := by
    match nums, ho with
    | [r, a, b, d], ho => cases ho; exact ⟨r, a, b, d, rfl, rfl⟩
  have h1 : Vbbral.within r0 1 11 = true := inR_num (i := 0) hin rfl rfl
  have h2 : Vbbral.within a 1 12 = true := inR_num (i := 1) hin rfl rfl
  have h3 : Vbbral.within b 1 12 = true := inR_num (i := 2) hin rfl rfl
  have h4 : Vbbral.within d (-768) 768 = true := inR_num (i := 3) hin rfl rfl
  have r1 := of_decide_eq_true (Bool.and_eq_true_iff.mp h1).1
  have a1 := of_decide_eq_true (Bool.and_eq_true_iff.mp h2).1
  have b1 := of_decide_eq_true (Bool.and_eq_true_iff.mp h3).1
  obtain ⟨an, rfl⟩ : ∃ n : Nat, a = n := ⟨a.toNat, by omega⟩
  obtain ⟨bn, rfl⟩ : ∃ n : Nat, b = n := ⟨b.toNat, by omega⟩
  have ht : ¬ s0.teams = 0 := fun z => by have := h0 z; omega
  have st : Vbbral.step s0 (.result r0 an bn d) = match s0.rounds[r0.toNat - 1]? with
      | none => Vbbral.no s0 5
      | some x => if Vbbral.hasGame an bn x = false then Vbbral.no s0 5 else Vbbral.yes (Vbbral.enter s0 (r0.toNat - 1) an bn d) [(Vbbral.vp d : Int), (Vbbral.vp (-d) : Int)] := by
    show (if (Vbbral.within r0 1 11 && (Vbbral.within an 1 12 && (Vbbral.within bn 1 12 && Vbbral.within d (-768) 768))) = false then _ else _) = _
    rw [if_neg (by rw [h1, h2, h3, h4]; decide), if_neg ht, Int.toNat_natCast, Int.toNat_natCast]
    cases s0.rounds[r0.toNat - 1]? <;> rfl
  obtain ⟨dc, hc⟩ := hC.ins
  obtain ⟨dx, hp⟩ := hS.ev.ev
  refine ⟨_, rfl, e, dx, _, rfl, hp, eF_no_match_of .., _, rfl, c.c, _, dc, _, _, rfl, hc, T.c_Call, T.na_Call_numbers, cF_numbers .., c.nl, _, 0, _, rfl, rfl, SqL.of hC.nums, at_int 0 rfl rfl, _, rfl, c.c, _, dc, _, _, rfl, hc, T.c_Call, T.na_Call_numbers, cF_numbers .., c.nl, _, 1, _, rfl, rfl, SqL.of hC.nums, at_int 1 rfl rfl, _, rfl, c.c, _, dc, _, _, rfl, hc, T.c_Call, T.na_Call_numbers, cF_numbers .., c.nl, _, 2, _, rfl, rfl, SqL.of hC.nums, at_int 2 rfl rfl,
    _, _, _, _, rfl, e, y.er, y.L, y.kv, _, _, r0, (an : Int), (bn : Int), rfl, rfl, rfl, rfl, hS.ev, fun i yr r j mm g hi hyr hr' hm hg is no => ?_, fun out => ?_⟩
  · rw [show r0.toNat - 1 = i by omega, hr'] at st
    have st : Vbbral.step s0 (.result r0 an bn d) = if Vbbral.hasGame an bn r = false then Vbbral.no s0 5 else Vbbral.yes (Vbbral.enter s0 i an bn d) [(Vbbral.vp d : Int), (Vbbral.vp (-d) : Int)] := st
    rw [has_yes hg is, if_neg (by decide), enter_eq hI.good hr' hg ((isOf_same g an bn).mp is)] at st
    obtain ⟨dm, hmm⟩ := (hS.ev.at_ i yr r hyr hr').at_ j mm g hm hg
    refine ⟨_, rfl, rfl, _, rfl, iteF ⟨_, rfl, c.c, _, dc, _, _, rfl, hc, T.c_Call, T.na_Call_numbers, cF_numbers .., c.nl, _, 3, _, rfl, rfl, SqL.of hC.nums, at_int 3 rfl rfl, ?_⟩⟩
    refine ⟨_, rfl, mm, dm, _, rfl, hmm, mF_no_tell .., _, rfl, c.c, _, dc, _, _, rfl, hc, T.c_Call, T.na_Call_numbers, cF_numbers .., c.nl, _, 1, _, rfl, rfl, SqL.of hC.nums, at_int 1 rfl rfl, _, rfl, _, _, _, rfl, mm, g, (an : Int), d, rfl, rfl, rfl, ⟨dm, hmm⟩, fun H4 bt hm4 => ?_⟩
    refine ⟨_, rfl, _, rfl, d, rfl, _, rfl, _, rfl, _, rfl, -d, rfl, by show 3 ≤ sizeLine; decide, fun p np => ?_⟩
    exact fin_to q st (hS.tell hyr hr' hm hg bt hm4) (.tell (Same.refl H) ⟨dm, hmm⟩ bt) (Tabs.but hT ⟨dm, hmm⟩ bt) np (fun b o w k => ⟨o, tell_keep (Same.refl H) ⟨dm, hmm⟩ bt b o w k⟩)
  · have st : Vbbral.step s0 (.result r0 an bn d) = Vbbral.no s0 5 := by
      cases hr' : s0.rounds[r0.toNat - 1]? with
      | none => rw [hr'] at st; exact st
      | some r =>
        rw [hr'] at st
        have hn := has_no (out (r0.toNat - 1) r (by omega) hr')
        have st : Vbbral.step s0 (.result r0 an bn d) = if Vbbral.hasGame an bn r = false then Vbbral.no s0 5 else _ := st
        rw [if_pos hn] at st
        exact st
    refine ⟨_, rfl, rfl, _, rfl, iteT ⟨by show 1 ≤ sizeLine; decide, fun p np => ?_⟩⟩
    exact fin_new q hS st (.refl H) hT np
def sp_answer_match (K : PySem.W.Frag) : Sp := sp_A K 4
theorem ok_answer_match (T : Txt w K mg base) : OkF P w K mg base 4 (He.ga K "answer_match") ["event", "call"] (sp_answer_match K) := by
  obtain ⟨⟨fd_match_points, G_match_points, b_match_points⟩, k_match_points⟩ := ok_match_points (P := P) T
  obtain ⟨⟨fd_Match_tell, G_Match_tell, b_Match_tell⟩, k_Match_tell⟩ := ok_Match_tell (P := P) T
  obtain ⟨⟨fd_match_units, G_match_units, b_match_units⟩, k_match_units⟩ := ok_match_units (P := P) T
  obtain ⟨⟨fd_by_twos, G_by_twos, b_by_twos⟩, k_by_twos⟩ := ok_by_twos (P := P) T
  obtain ⟨⟨fd_Event_match_of, G_Event_match_of, b_Event_match_of⟩, k_Event_match_of⟩ := ok_Event_match_of (P := P) T
  obtain ⟨fd, F⟩ := T.f_answer_match
  refine ok2 F sc_answer_match (fun _ _ _ _ _ _ _ _ => rfl) (fun cdv A outer s H x0 x1 Q hr h => ?_)
  refine ⟨_, (pss_cons (ps_set (i := 2) sc_answer_match.nd rfl (Or.inl rfl) (pe_meth (pv 0) T.c_Event T.m_Event_match_of G_Event_match_of (hr.mono (by decide)) b_Event_match_of .nil pass0 (pa_cons (pe_callB (r := rLenS K) call_len_seq (by rfl) T.n_len PySem.boot_len (pa_cons (pe_fldK (K := K) rfl (pv 0) rfl) pa_nil)) (pa_cons (pe_ix (r := rIxL K) ix_list (pe_fldK (K := K) rfl (pv 1) rfl) pe_int (fun _ _ => rfl)) (pa_cons (pe_ix (r := rIxL K) ix_list (pe_fldK (K := K) rfl (pv 1) rfl) pe_int (fun _ _ => rfl)) pa_nil)))))
      (pss_cons (ps_if (pt_cmpR op_isN (pv 2) pe_non (nomark _)) (pss_one (ps_ret (pe_lst (pa_cons (C8.pe_gc (by rfl) T.v_NOT_THERE) pa_nil)))) pss_nil)
      (pss_cons (ps_set (i := 3) sc_answer_match.nd rfl (Or.inl rfl) (pe_call G_match_units (hr.mono (by decide)) (by rfl) T.g_match_units k_match_units b_match_units .nil pass0 (pa_cons (pe_call G_by_twos (hr.mono (by decide)) (by rfl) T.g_by_twos k_by_twos b_by_twos .nil pass0 (pa_cons (pe_fldK (K := K) rfl (pv 1) rfl) pa_nil)) pa_nil)))
      (pss_cons (ps_expr (pe_meth (pv 2) T.c_Match T.m_Match_tell G_Match_tell (hr.mono (by decide)) b_Match_tell .nil pass0 (pa_cons (pe_ix (r := rIxL K) ix_list (pe_fldK (K := K) rfl (pv 1) rfl) pe_int (fun _ _ => rfl)) (pa_cons (pv 3) pa_nil))))
      (pss_one (ps_ret (pe_lst (pa_cons pe_int (pa_cons (pv 3) (pa_cons (pe_call G_match_points (hr.mono (by decide)) (by rfl) T.g_match_points k_match_points b_match_points .nil pass0 (pa_cons (pv 3) pa_nil)) (pa_cons (pe_call G_match_points (hr.mono (by decide)) (by rfl) T.g_match_points k_match_points b_match_points .nil pass0 (pa_cons (pe_un un_neg (pv 3)) pa_nil)) pa_nil))))))))))), ?_⟩
  obtain ⟨e, y, s0, c, m, cl, B, rfl, rfl, hk, ho, hin, h0, hI, hB, hS, hC, hT, q⟩ := h
  obtain ⟨k, nums, row⟩ := m
  obtain rfl : k = 4 := hk
  obtain ⟨a, b, rfl, rfl⟩ : ∃ a b, nums = [a, b] ∧ cl = .game a b row := by
    match nums, ho with
    | [a, b], ho => cases ho; exact ⟨a, b, rfl, rfl⟩
  have h2 : Vbbral.within a 1 12 = true := inR_num (i := 0) hin rfl rfl
  have h3 : Vbbral.within b 1 12 = true := inR_num (i := 1) hin rfl rfl
  have h4 := rowOk4 row (inR_row hin rfl)
  have a1 := of_decide_eq_true (Bool.and_eq_true_iff.mp h2).1
  have b1 := of_decide_eq_true (Bool.and_eq_true_iff.mp h3).1
  obtain ⟨an, rfl⟩ : ∃ n : Nat, a = n := ⟨a.toNat, by omega⟩
  obtain ⟨bn, rfl⟩ : ∃ n : Nat, b = n := ⟨b.toNat, by omega⟩
  have ht : ¬ s0.teams = 0 := fun z => by have := h0 z; omega
  have st : Vbbral.step s0 (.game an bn row) = match s0.rounds[s0.rounds.length - 1]? with
      | none => Vbbral.no s0 5
      | some x => if Vbbral.hasGame an bn x = false then Vbbral.no s0 5 else Vbbral.yes (Vbbral.enter s0 (s0.rounds.length - 1) an bn (Vbbral.imps row)) [Vbbral.imps row, (Vbbral.vp (Vbbral.imps row) : Int), (Vbbral.vp (-Vbbral.imps row) : Int)] := by
    show (if (Vbbral.within an 1 12 && (Vbbral.within bn 1 12 && (decide (2 ≤ row.length) && (decide (row.length ≤ 64) && (row.length % 2 == 0 && row.all fun x => Vbbral.within x (-10000) 10000))))) = false then _ else _) = _
    rw [if_neg (by rw [h2, h3, h4]; decide), if_neg ht, Int.toNat_natCast, Int.toNat_natCast, ← last_at]
    cases s0.rounds.getLast? <;> rfl
  have rl : row.length ≤ 64 ∧ row.length % 2 = 0 := by
    obtain ⟨_, z⟩ := Bool.and_eq_true_iff.mp h4
    obtain ⟨z1, z⟩ := Bool.and_eq_true_iff.mp z
    obtain ⟨z2, _⟩ := Bool.and_eq_true_iff.mp z
    exact ⟨of_decide_eq_true z1, beq_iff_eq.mp z2⟩
  obtain ⟨dc, hc⟩ := hC.ins
  obtain ⟨dx, hp⟩ := hS.ev.ev
  have lL := hS.ev.len
  refine ⟨_, rfl, e, dx, _, rfl, hp, eF_no_match_of .., _, rfl, e, _, dx, _, _, rfl, hp, T.c_Event, T.na_Event_rounds, eF_rounds .., y.er, _, rfl, .inl (SqL.of hS.ev.er), _, rfl, c.c, _, dc, _, _, rfl, hc, T.c_Call, T.na_Call_numbers, cF_numbers .., c.nl, _, 0, _, rfl, rfl, SqL.of hC.nums, at_int 0 rfl rfl, _, rfl, c.c, _, dc, _, _, rfl, hc, T.c_Call, T.na_Call_numbers, cF_numbers .., c.nl, _, 1, _, rfl, rfl, SqL.of hC.nums, at_int 1 rfl rfl,
    _, _, _, _, rfl, e, y.er, y.L, y.kv, _, _, _, (an : Int), (bn : Int), rfl, rfl, rfl, rfl, hS.ev, fun i yr r j mm g hi hyr hr' hm hg is no => ?_, fun out => ?_⟩
  · rw [List.length_map, List.length_map, lL] at hi
    have hi : s0.rounds.length - 1 = i := by omega
    rw [hi, hr'] at st
    have st : Vbbral.step s0 (.game an bn row) = if Vbbral.hasGame an bn r = false then Vbbral.no s0 5 else Vbbral.yes (Vbbral.enter s0 i an bn (Vbbral.imps row)) [Vbbral.imps row, (Vbbral.vp (Vbbral.imps row) : Int), (Vbbral.vp (-Vbbral.imps row) : Int)] := st
    rw [has_yes hg is, if_neg (by decide), enter_eq hI.good hr' hg ((isOf_same g an bn).mp is)] at st
    have hR := hS.ev.at_ i yr r hyr hr'
    refine ⟨_, rfl, rfl, _, rfl, iteF ⟨_, rfl, c.c, _, dc, _, _, rfl, hc, T.c_Call, T.na_Call_row, cF_row .., _, rfl, c.rl, row, rfl, SqL.of hC.row, rl.2, by omega, fun H2 pp ts s2 npp epp hPP => ?_⟩⟩
    refine ⟨_, rfl, pp, ts, twosI row, rfl, SqL.of epp, hPP, by rw [twos_len]; omega, fun H3 s3 => ?_⟩
    rw [imps_sum]
    have s13 := s2.trans s3
    obtain ⟨dm, hmm⟩ := (hR.same s13).at_ j mm g hm hg
    have hc3 := s13 _ _ hc
    refine ⟨_, rfl, mm, dm, _, rfl, hmm, mF_no_tell .., _, rfl, c.c, _, dc, _, _, rfl, hc3, T.c_Call, T.na_Call_numbers, cF_numbers .., c.nl, _, 0, _, rfl, rfl, SqL.of (s13 _ _ hC.nums), at_int 0 rfl rfl, _, rfl, _, _, _, rfl, mm, g, (an : Int), Vbbral.imps row, rfl, rfl, rfl, ⟨dm, hmm⟩, fun H4 bt hm4 => ?_⟩
    refine ⟨_, rfl, _, rfl, _, rfl, Vbbral.imps row, rfl, _, rfl, _, rfl, _, rfl, -Vbbral.imps row, rfl, by show 4 ≤ sizeLine; decide, fun p np => ?_⟩
    exact fin_to q st ((hS.ext (.of s13)).tell hyr hr' hm hg bt hm4) (.tell s13 (hR.at_ j mm g hm hg) bt) (Tabs.but (hT.ext s13) ⟨dm, hmm⟩ bt) np (fun b o w k => ⟨o, tell_keep s13 (hR.at_ j mm g hm hg) bt b o w k⟩)
  · have st : Vbbral.step s0 (.game an bn row) = Vbbral.no s0 5 := by
      cases hr' : s0.rounds[s0.rounds.length - 1]? with
      | none => rw [hr'] at st; exact st
      | some r =>
        rw [hr'] at st
        have il := (List.getElem?_eq_some_iff.mp hr').1
        have hn := has_no (out (s0.rounds.length - 1) r (by rw [List.length_map, List.length_map, lL]; omega) hr')
        have st : Vbbral.step s0 (.game an bn row) = if Vbbral.hasGame an bn r = false then Vbbral.no s0 5 else _ := st
        rw [if_pos hn] at st
        exact st
    refine ⟨_, rfl, rfl, _, rfl, iteT ⟨by show 1 ≤ sizeLine; decide, fun p np => ?_⟩⟩
    exact fin_new q hS st (.refl H) hT np
end
end TR

set_option Elab.async false
set_option linter.all false
set_option maxRecDepth 100000
set_option maxHeartbeats 4000000
namespace TR
open PySem PySem.Spec PyProof.Rows L2
theorem ins_keep {C dx : Addr} {fs : List (Str × V)} {l : List Str} (h : fs.map (·.1) = l) (n : ¬ l = (["kind", "numbers", "row"] : List Str)) : ¬ KeepO (.ins C dx fs) := fun k => by
  have k : fs.map (·.1) = (["kind", "numbers", "row"] : List Str) := k
  exact n (h.symm.trans k)
theorem ev_keep {C dx : Addr} {a b c : V} : ¬ KeepO (.ins C dx (eF a b c)) := ins_keep (l := ["size", "rounds", "knock_out"]) rfl (by decide +kernel)
theorem kn_keep {C dx : Addr} {a b : V} : ¬ KeepO (.ins C dx (kF a b)) := ins_keep (l := ["row", "won"]) rfl (by decide +kernel)
theorem Tabs.put {K : PySem.W.Frag} {H : Hp} {a C dx : Addr} {fs : List (Str × V)} {o : HO} (t : LamX.Tabs (LamT K) H) (h : H a = some (.ins C dx fs)) : LamX.Tabs (LamT K) (upd H a o) := fun pp hpp => by
  obtain ⟨ps, t1, t2, t3⟩ := t pp hpp
  refine ⟨ps, by rw [upd_ne (ne_of t1 h (by intro z; cases z))]; exact t1, t2, fun pos cv hcv => ?_⟩
  obtain ⟨c', c1, c2⟩ := t3 pos cv hcv
  exact ⟨c', c1, by rw [upd_ne (ne_of c2 h (by intro z; cases z))]; exact c2⟩
/-- rounds under all but the event's own instance -/
theorem EvAt.kv {K : PySem.W.Frag} {H : Hp} {e er : Addr} {L : List RL} {kv kv' : V} {n : Nat} {rs : List Vbbral.Round} (h : EvAt K H e er L kv n rs) {dx : Addr} (hp : H e = some (.ins (He.ga K "Event") dx (eF (.int n) (.ref er) kv))) :
    EvAt K (upd H e (.ins (He.ga K "Event") dx (eF (.int n) (.ref er) kv'))) e er L kv' n rs := by
  have kl : ∀ {a : Addr} {xs : List V}, H a = some (.lst xs) → (upd H e (.ins (He.ga K "Event") dx (eF (.int n) (.ref er) kv'))) a = some (.lst xs) := fun {a xs} w => by
    rw [upd_ne (ne_of w hp (by intro z; cases z))]
    exact w
  have ki : ∀ {a : Addr} {C : Str} {fs : List (Str × V)}, InsAt K H a C fs → ¬ fs.map (·.1) = (["size", "rounds", "knock_out"] : List Str) → InsAt K (upd H e (.ins (He.ga K "Event") dx (eF (.int n) (.ref er) kv'))) a C fs := fun {a C fs} ⟨d, w⟩ nn => ⟨d, by
    rw [upd_ne (ne_of w hp (by
      intro z
      injection z with z1 z2 z3
      exact nn (by rw [z3]; rfl)))]
    exact w⟩
  refine ⟨⟨dx, upd_same⟩, kl h.er, h.len, fun i y r e1 e2 => ?_⟩
  have hR := h.at_ i y r e1 e2
  exact ⟨ki hR.ins (by show ¬ ((["matches", "sits_out"] : List Str) = _); decide +kernel), kl hR.lst, hR.len, fun j m g f1 f2 => ki (hR.at_ j m g f1 f2) (by show ¬ ((["first", "second", "units"] : List Str) = _); decide +kernel)⟩
theorem KnockAt.ev {K : PySem.W.Frag} {H : Hp} {e ka rw wl C dx : Addr} {a b c : V} {o : HO} {k : Vbbral.Knock} (h : KnockAt K H ka rw wl k) (hp : H e = some (.ins C dx (eF a b c))) : KnockAt K (upd H e o) ka rw wl k := by
  have kl : ∀ {a : Addr} {xs : List V}, H a = some (.lst xs) → (upd H e o) a = some (.lst xs) := fun {a xs} w => by
    rw [upd_ne (ne_of w hp (by intro z; cases z))]
    exact w
  obtain ⟨d, w⟩ := h.ins
  refine ⟨⟨d, ?_⟩, kl h.row, kl h.won⟩
  rw [upd_ne (ne_of w hp (by
    intro z
    injection z with z1 z2 z3
    have z4 : (["row", "won"] : List Str) = (["size", "rounds", "knock_out"] : List Str) := congrArg (fun l : List (Str × V) => l.map fun x : Str × V => x.1) z3
    revert z4
    decide +kernel))]
  exact w
section
variable {P : Program} {w : World} {K : PySem.W.Frag} {mg : Str → Option Value} {base : Heap}
def sp_answer_knock (K : PySem.W.Frag) : Sp := sp_A K 12
theorem ok_answer_knock (T : Txt w K mg base) : OkF P w K mg base 6 (He.ga K "answer_knock") ["event", "call"] (sp_answer_knock K) := by
  obtain ⟨⟨fd_KnockOut_init, G_KnockOut_init, b_KnockOut_init⟩, k_KnockOut_init⟩ := ok_KnockOut_init (P := P) T
  obtain ⟨⟨fd_Event_standing, G_Event_standing, b_Event_standing⟩, k_Event_standing⟩ := ok_Event_standing (P := P) T
  obtain ⟨fd, F⟩ := T.f_answer_knock
  refine ok2 F sc_answer_knock (fun _ _ _ _ _ _ _ _ => rfl) (fun cdv A outer s H x0 x1 Q hr h => ?_)
  refine ⟨_, (pss_cons (ps_set (i := 2) sc_answer_knock.nd rfl (Or.inl rfl) (pe_ix (r := rIxL K) ix_list (pe_fldK (K := K) rfl (pv 1) rfl) pe_int (fun _ _ => rfl)))
      (pss_cons (ps_if (pt_cmpR op_gt (pv 2) (pe_fldK (K := K) rfl (pv 0) rfl) (nomark _)) (pss_one (ps_ret (pe_lst (pa_cons (C8.pe_gc (by rfl) T.v_NOT_THERE) pa_nil)))) pss_nil)
      (pss_cons (ps_fld (pv 0) (pe_make T.mk_KnockOut G_KnockOut_init (hr.mono (by decide)) (by rfl) T.g_KnockOut b_KnockOut_init .nil pass0 (pa_cons (pe_lc (own := [("place", 3)]) (g := gName 3) (by rfl) sc_answer_knock.nd (pi_list (pe_slice sl_list (pe_meth0 (pv 0) T.c_Event T.m_Event_standing G_Event_standing (hr.mono (by decide)) b_Event_standing .nil pass0) po_none (po_some (pv 2)))) (blkOk_by (own := [("place", 3)]) (N := ["event", "call", "size", "place"]) (sc := defScope s_answer_knock) (by decide +kernel)) (fun _ _ _ _ _ => pg_name (i := 3) sc_answer_knock.nd rfl (Or.inl rfl)) (fun _ _ _ _ _ => pts_nil) (fun _ _ _ _ _ => (pe_fldK (K := K) rfl (pv 3) rfl))) pa_nil)) rfl)
      (pss_one (ps_ret (pe_lst (pa_cons pe_int (pa_cons (pe_callB (r := rLenS K) call_len_seq (by rfl) T.n_len PySem.boot_len (pa_cons (pe_fldK (K := K) rfl (pe_fldK (K := K) rfl (pv 0) rfl) rfl) pa_nil)) pa_nil)))))))), ?_⟩
  obtain ⟨e, y, s0, c, m, cl, B, rfl, rfl, hk, ho, hin, h0, hI, hB, hS, hC, hT, q⟩ := h
  obtain ⟨k, nums, row⟩ := m
  obtain rfl : k = 12 := hk
  obtain ⟨r0, rfl, rfl⟩ : ∃ a, nums = [a] ∧ cl = .knock a := by
    match nums, ho with
    | [a], ho => cases ho; exact ⟨a, rfl, rfl⟩
  have h1 : Vbbral.within r0 2 12 = true := inR_num (i := 0) hin rfl rfl
  have a1 := of_decide_eq_true (Bool.and_eq_true_iff.mp h1).1
  have a2 := of_decide_eq_true (Bool.and_eq_true_iff.mp h1).2
  obtain ⟨n, rfl⟩ : ∃ n : Nat, r0 = n := ⟨r0.toNat, by omega⟩
  have ht : ¬ s0.teams = 0 := fun z => by have := h0 z; omega
  have ht12 := hI.good.teams
  have st : Vbbral.step s0 (.knock n) = if s0.teams < n then Vbbral.no s0 5 else Vbbral.yes ⟨s0.teams, s0.rounds, some (Vbbral.settle ⟨Vbbral.bracket ((Vbbral.ranking s0).take n), []⟩)⟩ [((Vbbral.settle ⟨Vbbral.bracket ((Vbbral.ranking s0).take n), []⟩).now.length : Int)] := by
    show (if Vbbral.within n 2 12 = false then _ else _) = _
    rw [if_neg (by rw [h1]; decide), if_neg ht, Int.toNat_natCast]
  obtain ⟨dc, hc⟩ := hC.ins
  obtain ⟨dx, hp⟩ := hS.ev.ev
  refine ⟨_, rfl, c.c, _, dc, _, _, rfl, hc, T.c_Call, T.na_Call_numbers, cF_numbers .., c.nl, _, 0, _, rfl, rfl, SqL.of hC.nums, at_int 0 rfl rfl, ?_⟩
  refine ⟨_, rfl, _, rfl, e, _, dx, _, _, rfl, hp, T.c_Event, T.na_Event_size, eF_size .., _, _, rfl, rfl, _, rfl, ite2 (fun d => ?_) (fun d => ?_)⟩
  · have d := of_decide_eq_true d
    rw [if_pos (by omega)] at st
    refine ⟨by show 1 ≤ sizeLine; decide, fun p np => ?_⟩
    exact fin_new q hS st (.refl H) hT np
  have d : ¬ s0.teams < n := fun z => d (decide_eq_true (by omega))
  rw [if_neg d] at st
  generalize hk' : Vbbral.settle ⟨Vbbral.bracket ((Vbbral.ranking s0).take n), []⟩ = kk at *
  refine ⟨_, rfl, e, dx, _, rfl, hp, eF_no_standing .., _, rfl, e, y.er, y.L, y.kv, _, _, rfl, hS.ev, by omega, fun r hr => (hI.good.ok r hr).ok, hT, fun H1 p qs stt eN T1 ep hP pm srt => ?_⟩
  obtain rfl := stand_eq hI.good.ok pm srt
  have sl := stand_len s0
  refine ⟨_, rfl, _, rfl, p, _, rfl, SqL.of ep, fun u nu => ?_⟩
  rw [cut_to]
  have s1 : Same H1 (upd H1 u (.lst ((qs.map V.ref).take n))) := same_up nu
  refine ⟨u, rfl, ⟨_, SqL.of upd_same⟩, fun D nD => lc_list (K := K) (a := u) (xs := (qs.map V.ref).take n) (fun i H' => Same (upd H1 u (.lst ((qs.map V.ref).take n))) H' ∧ H' D = some (.lst (vN (((Vbbral.ranking s0).take n).take i)))) ⟨same_up nD, upd_same⟩ (fun i H' _ z => SqL.of (z.1 _ _ upd_same)) ?_ ?_⟩
  · rintro i x H' hx ⟨sm, eD⟩
    rw [List.getElem?_take] at hx
    by_cases il : i < n
    · rw [if_pos il] at hx
      obtain ⟨q0, s', rfl, e1, e2, dq, e3⟩ := hP.get hx
      unfold stand at e2
      rw [List.getElem?_map] at e2
      obtain ⟨t, et, rfl⟩ := Option.map_eq_some_iff.mp e2
      have e3' := sm _ _ (s1 _ _ e3)
      have et2 : ((Vbbral.ranking s0).take n)[i]? = some t := by rw [List.getElem?_take, if_pos il]; exact et
      refine ⟨rfl, _, rfl, q0, _, dq, _, _, rfl, e3', T.c_Place, T.na_Place_team, pF_team .., _, eD, ?_, fun b o w => ?_, ?_⟩
      · rw [vN_len]
        exact line_lt (Nat.le_trans (List.length_take_le' ..) (Nat.le_trans (List.length_take_le' ..) (by rw [rank_len]; omega)))
      · rw [upd_ne (ne_of_none w nD)]
        exact sm b o w
      · rw [upd_same, take_one et2]
        unfold vN
        rw [List.map_append]
        rfl
    · rw [if_neg il] at hx
      cases hx
  rintro H3 ⟨sm, eD⟩
  have ql := hP.len
  rw [List.length_take, List.length_map, ql, sl, Nat.min_eq_left (by omega), List.take_of_length_le (by rw [List.length_take, rank_len]; omega)] at eD
  have s13 : Same H1 H3 := s1.trans sm
  refine fun ka dk nka ndk ne => ?_
  have s4 : Same H3 (upd (upd H3 dk (.own ka)) ka (.ins (He.ga K "KnockOut") dk [])) := same_made nka ndk (fun _ _ => rfl)
  refine ⟨_, _, rfl, ka, dk, D, (Vbbral.ranking s0).take n, rfl, rfl, upd_same, SqL.of (s4 _ _ eD), by rw [List.length_take, rank_len]; omega, fun H5 rw' wl kp hK nrw nwl nrwl => ⟨rfl, ?_⟩⟩
  rw [hk'] at hK
  have s5 : Same H3 H5 := fun b o w => kp b o (s4 _ _ w) (ne_of_none w nka)
  have x15 : LamX.ExtN H H5 := eN.trans (.of (s13.trans s5))
  have S5 := hS.ext x15
  have T5 := T1.ext (s13.trans s5)
  obtain ⟨dx5, hp5⟩ := S5.ev.ev
  have old : ∀ b o, H b = some o → (∀ ps, o ≠ .tbl ps) → b ≠ rw' ∧ b ≠ wl := fun b o w nn => by
    have w4 := s4 _ _ (s13 _ _ (eN _ _ w nn))
    exact ⟨ne_of_none w4 nrw, ne_of_none w4 nwl⟩
  refine ⟨_, rfl, e, _, dx5, _, rfl, hp5, T.c_Event, T.na_Event_knock_out, (by show 3 < 1000; decide), ?_⟩
  rw [eF_put_knock_out]
  have hE6 := S5.ev.kv (kv' := .ref ka) hp5
  have hK6 : KnockAt K (upd H5 e (.ins (He.ga K "Event") dx5 (eF (.int s0.teams) (.ref y.er) (.ref ka)))) ka rw' wl kk := hK.ev hp5
  have T6 : LamX.Tabs (LamT K) (upd H5 e (.ins (He.ga K "Event") dx5 (eF (.int s0.teams) (.ref y.er) (.ref ka)))) := Tabs.put T5 hp5
  have eold := old _ _ hS.ev.er (fun _ z => nomatch z)
  have S6 : StAt K (upd H5 e (.ins (He.ga K "Event") dx5 (eF (.int s0.teams) (.ref y.er) (.ref ka)))) e ⟨y.er, y.L, some (ka, rw', wl)⟩ ⟨s0.teams, s0.rounds, some kk⟩ := by
    refine ⟨hE6, ⟨hK6, nrwl, eold.2.symm, eold.1.symm⟩, fun r hr => ⟨(hS.apL r hr).1, ?_⟩, hS.apM⟩
    obtain ⟨i, hi, ei⟩ := List.mem_iff_getElem.mp hr
    have lL := hS.ev.len
    have hi : i < y.L.length := hi
    have hR := hS.ev.at_ i r s0.rounds[i] (by rw [List.getElem?_eq_getElem hi, ei]) (List.getElem?_eq_getElem (by omega))
    have := (old _ _ hR.lst (fun _ z => nomatch z)).2
    exact fun z => this (Option.some.inj z)
  have F6 : Fr H (upd H5 e (.ins (He.ga K "Event") dx5 (eF (.int s0.teams) (.ref y.er) (.ref ka)))) y ⟨y.er, y.L, some (ka, rw', wl)⟩ := by
    refine ⟨fun b o w k _ _ => ?_, .inl rfl, .inr fun w hw o ww kk => ?_, fun b o w k h z => ?_⟩
    · rw [upd_ne (ne_of w hp (by intro z; rw [z] at k; exact ev_keep k))]
      exact x15 b o w k.nt
    · have hw : some wl = some w := hw
      cases hw
      exact (old _ _ ww kk.nt).2 rfl
    · rcases z with z | ⟨t, ht', z⟩
      · exact h (.inl z)
      · have ht' : some (ka, rw', wl) = some t := ht'
        cases ht'
        exact (old _ _ w k.nt).1 z
  obtain ⟨d6, hp6⟩ := S6.ev.ev
  obtain ⟨dk6, hk6⟩ := hK6.ins
  refine ⟨_, rfl, e, _, d6, _, _, rfl, hp6, T.c_Event, T.na_Event_knock_out, eF_knock_out .., ka, _, dk6, _, _, rfl, hk6, T.c_KnockOut, T.na_KnockOut_row, kF_row .., rw', _, rfl, .inl (SqL.of hK6.row), by show 2 ≤ sizeLine; decide, fun p np => ?_⟩
  dsimp only
  rw [vN_len]
  exact fin_to q st S6 F6 T6 np (upd_some fun b o w k => x15 b o w k.nt)
def sp_answer_win (K : PySem.W.Frag) : Sp := sp_A K 14
theorem ok_answer_win (T : Txt w K mg base) : OkF P w K mg base 5 (He.ga K "answer_win") ["event", "call"] (sp_answer_win K) := by
  obtain ⟨⟨fd_KnockOut_win, G_KnockOut_win, b_KnockOut_win⟩, k_KnockOut_win⟩ := ok_KnockOut_win (P := P) T
  obtain ⟨⟨fd_KnockOut_may_win, G_KnockOut_may_win, b_KnockOut_may_win⟩, k_KnockOut_may_win⟩ := ok_KnockOut_may_win (P := P) T
  obtain ⟨fd, F⟩ := T.f_answer_win
  refine ok2 F sc_answer_win (fun _ _ _ _ _ _ _ _ => rfl) (fun cdv A outer s H x0 x1 Q hr h => ?_)
  refine ⟨_, (pss_cons (ps_set (i := 2) sc_answer_win.nd rfl (Or.inl rfl) (pe_fldK (K := K) rfl (pv 0) rfl))
      (pss_cons (ps_if (pt_cmpR op_isN (pv 2) pe_non (nomark _)) (pss_one (ps_ret (pe_lst (pa_cons (C8.pe_gc (by rfl) T.v_NO_KNOCK_OUT) pa_nil)))) pss_nil)
      (pss_cons (ps_if (pt_not (pt_val (pe_meth (pv 2) T.c_KnockOut T.m_KnockOut_may_win G_KnockOut_may_win (hr.mono (by decide)) b_KnockOut_may_win .nil pass0 (pa_cons (pe_ix (r := rIxL K) ix_list (pe_fldK (K := K) rfl (pv 1) rfl) pe_int (fun _ _ => rfl)) pa_nil)))) (pss_one (ps_ret (pe_lst (pa_cons (C8.pe_gc (by rfl) T.v_NOT_THERE) pa_nil)))) pss_nil)
      (pss_cons (ps_expr (pe_meth (pv 2) T.c_KnockOut T.m_KnockOut_win G_KnockOut_win (hr.mono (by decide)) b_KnockOut_win .nil pass0 (pa_cons (pe_ix (r := rIxL K) ix_list (pe_fldK (K := K) rfl (pv 1) rfl) pe_int (fun _ _ => rfl)) pa_nil)))
      (pss_one (ps_ret (pe_lst (pa_cons pe_int (pa_cons (pe_callB (r := rLenS K) call_len_seq (by rfl) T.n_len PySem.boot_len (pa_cons (pe_fldK (K := K) rfl (pv 2) rfl) pa_nil)) (pa_cons (pe_ifExp (pt_cmpR op_eq (pe_callB (r := rLenS K) call_len_seq (by rfl) T.n_len PySem.boot_len (pa_cons (pe_fldK (K := K) rfl (pv 2) rfl) pa_nil)) pe_int (nomark _)) (pe_ix (r := rIxL K) ix_list (pe_fldK (K := K) rfl (pv 2) rfl) pe_int (fun _ _ => rfl)) pe_int) pa_nil)))))))))), ?_⟩
  obtain ⟨e, y, s0, c, m, cl, B, rfl, rfl, hk, ho, hin, h0, hI, hB, hS, hC, hT, q⟩ := h
  obtain ⟨k, nums, row⟩ := m
  obtain rfl : k = 14 := hk
  obtain ⟨r0, rfl, rfl⟩ : ∃ a, nums = [a] ∧ cl = .win a := by
    match nums, ho with
    | [a], ho => cases ho; exact ⟨a, rfl, rfl⟩
  have h1 : Vbbral.within r0 1 12 = true := inR_num (i := 0) hin rfl rfl
  have a1 := of_decide_eq_true (Bool.and_eq_true_iff.mp h1).1
  obtain ⟨n, rfl⟩ : ∃ n : Nat, r0 = n := ⟨r0.toNat, by omega⟩
  have ht : ¬ s0.teams = 0 := fun z => by have := h0 z; omega
  have st0 : Vbbral.step s0 (.win n) = match s0.knock with
      | none => Vbbral.no s0 4
      | some k => if ((Vbbral.openIn k).any fun p => p.1 == n || p.2 == n) = false then Vbbral.no s0 5 else
        Vbbral.yes ⟨s0.teams, s0.rounds, some (Vbbral.settle ⟨k.now, k.wins ++ [n]⟩)⟩ [((Vbbral.settle ⟨k.now, k.wins ++ [n]⟩).now.length : Int), if (Vbbral.settle ⟨k.now, k.wins ++ [n]⟩).now.length = 1 then (((Vbbral.settle ⟨k.now, k.wins ++ [n]⟩).now.headD 0 : Nat) : Int) else 0] := by
    show (if Vbbral.within n 1 12 = false then _ else _) = _
    rw [if_neg (by rw [h1]; decide), if_neg ht, Int.toNat_natCast]
    cases s0.knock <;> rfl
  obtain ⟨dc, hc⟩ := hC.ins
  obtain ⟨dx, hp⟩ := hS.ev.ev
  have hkn := hS.kn
  have kve : y.kv = match y.kn with | none => V.non | some t => V.ref t.1 := rfl
  refine ⟨_, rfl, e, _, dx, _, _, rfl, hp, T.c_Event, T.na_Event_knock_out, eF_knock_out .., ?_⟩
  rw [kve]
  cases hy : y.kn with
  | none =>
    rw [hy] at hkn
    cases hs : s0.knock with
    | some k => rw [hs] at hkn; exact hkn.elim
    | none =>
      rw [hs] at st0
      refine ⟨_, rfl, rfl, _, rfl, iteT ⟨by show 1 ≤ sizeLine; decide, fun p np => ?_⟩⟩
      exact fin_new q hS st0 (.refl H) hT np
  | some t =>
    rw [hy] at hkn
    cases hs : s0.knock with
    | none => rw [hs] at hkn; exact hkn.elim
    | some k =>
      rw [hs] at hkn
      obtain ⟨ka, rw', wl⟩ := t
      obtain ⟨hK, n1, n2, n3⟩ := hkn
      have hK : KnockAt K H ka rw' wl k := hK
      have n1 : rw' ≠ wl := n1
      have n2 : wl ≠ y.er := n2
      have n3 : rw' ≠ y.er := n3
      rw [hs] at st0
      have st : Vbbral.step s0 (.win n) = if ((Vbbral.openIn k).any fun p => p.1 == n || p.2 == n) = false then Vbbral.no s0 5 else
        Vbbral.yes ⟨s0.teams, s0.rounds, some (Vbbral.settle ⟨k.now, k.wins ++ [n]⟩)⟩ [((Vbbral.settle ⟨k.now, k.wins ++ [n]⟩).now.length : Int), if (Vbbral.settle ⟨k.now, k.wins ++ [n]⟩).now.length = 1 then (((Vbbral.settle ⟨k.now, k.wins ++ [n]⟩).now.headD 0 : Nat) : Int) else 0] := st0
      obtain ⟨gk, kb⟩ := hI.kn k hs
      obtain ⟨dk, hkk⟩ := hK.ins
      refine ⟨_, rfl, rfl, _, rfl, iteF ⟨_, rfl, ka, dk, _, rfl, hkk, kF_no_may_win .., _, rfl, c.c, _, dc, _, _, rfl, hc, T.c_Call, T.na_Call_numbers, cF_numbers .., c.nl, _, 0, _, rfl, rfl, SqL.of hC.nums, at_int 0 rfl rfl, _, _, rfl, ka, rw', wl, k, n, rfl, rfl, hK, gk, fun H1 s1 => ⟨_, rfl, ?_⟩⟩⟩
      refine ite2 (fun d => ?_) (fun d => ?_)
      · have d : ((Vbbral.openIn k).any fun p => p.1 == n || p.2 == n) = false := by
          cases h : (Vbbral.openIn k).any fun p => p.1 == n || p.2 == n with
          | false => rfl
          | true => rw [h] at d; cases d
        rw [if_pos d] at st
        refine ⟨by show 1 ≤ sizeLine; decide, fun p np => ?_⟩
        exact fin_new q hS st (.of s1) (hT.ext s1) np
      have d : ¬ ((Vbbral.openIn k).any fun p => p.1 == n || p.2 == n) = false := fun z => d (by rw [z]; rfl)
      rw [if_neg d] at st
      have hc1 := s1 _ _ hc
      have hk1 := s1 _ _ hkk
      have S1 := hS.ext (.of s1)
      have hK1 := hK.same s1
      refine ⟨_, rfl, ka, dk, _, rfl, hk1, kF_no_win .., _, rfl, c.c, _, dc, _, _, rfl, hc1, T.c_Call, T.na_Call_numbers, cF_numbers .., c.nl, _, 0, _, rfl, rfl, SqL.of (s1 _ _ hC.nums), at_int 0 rfl rfl, _, _, rfl, ka, rw', wl, k, n, rfl, rfl, hK1, n1, gk, by omega, fun H2 r2 w2 kp hK2 kw2 alt => ?_⟩
      have gk2 : GoodK (Vbbral.settle ⟨k.now, k.wins ++ [n]⟩) := settle_len ⟨gk.pow⟩
      generalize hkk2 : Vbbral.settle ⟨k.now, k.wins ++ [n]⟩ = k2 at *
      have won1 := hK1.won
      have kvr : y.kv = .ref ka := by rw [kve, hy]
      have ywl : y.wl = some wl := by
        show y.kn.map (fun t => t.2.2) = _
        rw [hy]
        rfl
      have kl : ∀ {a : Addr} {xs : List V}, H1 a = some (.lst xs) → a ≠ wl → H2 a = some (.lst xs) := fun {a xs} w nw => kp _ _ w (ne_of w hk1 (by intro z; cases z)) nw
      have ki : ∀ {a : Addr} {C : Str} {fs : List (Str × V)}, InsAt K H1 a C fs → ¬ fs.map (·.1) = (["row", "won"] : List Str) → InsAt K H2 a C fs := fun {a C fs} ⟨d', w⟩ nn => ⟨d', kp _ _ w (ne_of w hk1 (by
        intro z
        injection z with z1 z2 z3
        exact nn (by rw [z3]; rfl))) (ne_of w won1 (by intro z; cases z))⟩
      have hE2 : EvAt K H2 e y.er y.L (.ref ka) s0.teams s0.rounds := by
        have h := S1.ev
        rw [kvr] at h
        refine ⟨ki h.ev (by show ¬ ((["size", "rounds", "knock_out"] : List Str) = _); decide +kernel), kl h.er n2.symm, h.len, fun i yr r e1 e2 => ?_⟩
        have hR := h.at_ i yr r e1 e2
        have nl : yr.l ≠ wl := fun z => (hS.apL yr (List.mem_of_getElem? e1)).2 (by rw [ywl, z])
        exact ⟨ki hR.ins (by show ¬ ((["matches", "sits_out"] : List Str) = _); decide +kernel), kl hR.lst nl, hR.len, fun j m g f1 f2 => ki (hR.at_ j m g f1 f2) (by show ¬ ((["first", "second", "units"] : List Str) = _); decide +kernel)⟩
      have sep : r2 ≠ w2 ∧ w2 ≠ y.er ∧ r2 ≠ y.er ∧ ∀ r ∈ y.L, some r.l ≠ some w2 := by
        rcases alt with ⟨z1, z2⟩ | ⟨z1, z2, z3⟩
        · rw [z1, z2]
          exact ⟨n1, n2, n3, fun r hr z => (hS.apL r hr).2 (by rw [ywl]; exact z)⟩
        · refine ⟨z3, fun z => ?_, fun z => ?_, fun r hr z => ?_⟩
          · rw [z, S1.ev.er] at z1; cases z1
          · rw [z, S1.ev.er] at z2; cases z2
          · obtain ⟨i, hi, ei⟩ := List.mem_iff_getElem.mp hr
            have lL := hS.ev.len
            have hR := S1.ev.at_ i r s0.rounds[i] (by rw [List.getElem?_eq_getElem hi, ei]) (List.getElem?_eq_getElem (by omega))
            have w := hR.lst
            rw [Option.some.inj z, z1] at w
            cases w
      have S2 : StAt K H2 e ⟨y.er, y.L, some (ka, r2, w2)⟩ ⟨s0.teams, s0.rounds, some k2⟩ := ⟨hE2, ⟨hK2, sep.1, sep.2.1, sep.2.2.1⟩, fun r hr => ⟨(hS.apL r hr).1, sep.2.2.2 r hr⟩, hS.apM⟩
      have F2 : Fr H H2 y ⟨y.er, y.L, some (ka, r2, w2)⟩ := by
        refine ⟨fun b o w kk _ nw => kp _ _ (s1 _ _ w) (ne_of w hkk (by intro z; rw [z] at kk; exact kn_keep kk)) (fun z => nw (by rw [z, ywl])), .inl rfl, ?_, fun b o w kk h z => ?_⟩
        rcases alt with ⟨z1, z2⟩ | ⟨z1, z2, z3⟩
        · refine .inl ?_
          rw [ywl, ← z1]
          rfl
        · refine .inr fun w hw o ww kk => ?_
          have hw : some w2 = some w := hw
          cases hw
          rw [s1 _ _ ww] at z1
          cases z1
        · rcases z with z | ⟨t, ht', z⟩
          · exact h (.inl z)
          · have ht' : some (ka, r2, w2) = some t := ht'
            cases ht'
            have z : b = r2 := z
            rcases alt with ⟨z1, z2⟩ | ⟨z1, z2, z3⟩
            · exact h (.inr ⟨_, hy, by rw [z, z2]⟩)
            · rw [z] at w
              rw [s1 _ _ w] at z2
              cases z2
      have nf2 : ∀ b o, H b = some o → KeepO o → ∃ o', H2 b = some o' := fun b o w kk => by
        by_cases z : b = wl
        · rw [z]
          rcases alt with ⟨z1, z2⟩ | ⟨z1, z2, z3⟩
          · exact ⟨_, by rw [← z1]; exact hK2.won⟩
          · exact kw2
        · exact ⟨o, kp _ _ (s1 _ _ w) (ne_of w hkk (by intro z; rw [z] at kk; exact kn_keep kk)) z⟩
      have T2 : LamX.Tabs (LamT K) H2 := fun pp hpp => by
        obtain ⟨ps, t1, t2, t3⟩ := (hT.ext s1) pp hpp
        refine ⟨ps, kp _ _ t1 (ne_of t1 hk1 (by intro z; cases z)) (ne_of t1 won1 (by intro z; cases z)), t2, fun pos cv hcv => ?_⟩
        obtain ⟨c', c1, c2⟩ := t3 pos cv hcv
        exact ⟨c', c1, kp _ _ c2 (ne_of c2 hk1 (by intro z; cases z)) (ne_of c2 won1 (by intro z; cases z))⟩
      obtain ⟨dk2, hkk2'⟩ := hK2.ins
      refine ⟨_, rfl, ka, _, dk2, _, _, rfl, hkk2', T.c_KnockOut, T.na_KnockOut_row, kF_row .., r2, _, rfl, .inl (SqL.of hK2.row), _, rfl, ka, _, dk2, _, _, rfl, hkk2', T.c_KnockOut, T.na_KnockOut_row, kF_row .., r2, _, rfl, .inl (SqL.of hK2.row), rfl, _, rfl, ?_⟩
      rw [dec_int, vN_len]
      refine ite2 (fun d3 => ?_) (fun d3 => ?_)
      · have d3 : k2.now.length = 1 := by
          have := of_decide_eq_true d3
          omega
        rw [if_pos d3] at st
        have e0 : k2.now[0]? = some (k2.now.headD 0) := by
          match h : k2.now, d3 with
          | [x], _ => rfl
        refine ⟨_, rfl, ka, _, dk2, _, _, rfl, hkk2', T.c_KnockOut, T.na_KnockOut_row, kF_row .., r2, _, 0, _, rfl, rfl, SqL.of hK2.row, atI_nat (j := 0) (by unfold vN; rw [List.getElem?_map, e0]; rfl), by show 3 ≤ sizeLine; decide, fun p np => ?_⟩
        exact fin_to q st S2 F2 T2 np nf2
      · have d3 : ¬ k2.now.length = 1 := fun z => d3 (decide_eq_true (by omega))
        rw [if_neg d3] at st
        refine ⟨by show 3 ≤ sizeLine; decide, fun p np => ?_⟩
        exact fin_to q st S2 F2 T2 np nf2
end
end TR

set_option Elab.async false
set_option linter.all false
set_option maxRecDepth 100000
namespace TR
open Vbbral
def condC : Vbbral.Call → Bool
  | .teams n => within n 2 12
  | .pair m => within m 0 1
  | .draw m => within m 0 1
  | .own l => isPairs l
  | .game a b l => isTeam a && (isTeam b && (decide (2 ≤ l.length) && (decide (l.length ≤ 64) && (l.length % 2 == 0 && l.all fun x => within x (-10000) 10000))))
  | .result r a b d => within r 1 11 && (isTeam a && (isTeam b && within d (-768) 768))
  | .standings => true
  | .met a b => isTeam a && isTeam b
  | .left => true
  | .check l => isPairs l
  | .vp d => within d (-768) 768
  | .imp d => within d (-20000) 20000
  | .knock k => within k 2 12
  | .round => true
  | .win a => isTeam a
  | .told r => within r 1 11
theorem nf {b : Bool} (h : b = true) : ¬ b = false := by rw [h]; decide
def kindC : Vbbral.Call → Nat
  | .teams _ => 0
  | .pair _ => 1
  | .draw _ => 2
  | .own _ => 3
  | .game _ _ _ => 4
  | .result _ _ _ _ => 5
  | .standings => 6
  | .met _ _ => 7
  | .left => 8
  | .check _ => 9
  | .vp _ => 10
  | .imp _ => 11
  | .knock _ => 12
  | .round => 13
  | .win _ => 14
  | .told _ => 15
theorem rowOk4_eq (l : List Int) : rowOk [2, 64, -10000, 10000] l = (decide (2 ≤ l.length) && (decide (l.length ≤ 64) && (l.length % 2 == 0 && l.all fun x => within x (-10000) 10000))) := by
  rw [Bool.eq_iff_iff]
  refine ⟨rowOk4 l, fun h => ?_⟩
  rw [Bool.and_eq_true, Bool.and_eq_true, Bool.and_eq_true, decide_eq_true_iff, decide_eq_true_iff, beq_iff_eq] at h
  obtain ⟨h1, h2, h3, h4⟩ := h
  show (!(l.length % 2 == 1 || (decide ((l.length : Int) < 2) || decide ((l.length : Int) > 64))) && l.all fun n => decide (-10000 ≤ n) && decide (n ≤ 10000)) = true
  rw [Bool.and_eq_true, Bool.not_eq_true', Bool.or_eq_false_iff, Bool.or_eq_false_iff, beq_eq_false_iff_ne, decide_eq_false_iff_not, decide_eq_false_iff_not]
  exact ⟨by omega, h4⟩
theorem opt_inv {m : CallM} {cl : Vbbral.Call} (h : opt m = some cl) : inR m = condC cl ∧ m.kind = kindC cl := by
  obtain ⟨k, nums, row⟩ := m
  by_cases e0 : k = 0
  · subst e0
    match nums, h with
    | [a], h =>
      cases h
      refine ⟨?_, rfl⟩
      show ((within a (2) (12) && true) && true) = _
      rw [Bool.and_true, Bool.and_true]
      rfl
  by_cases e1 : k = 1
  · subst e1
    match nums, h with
    | [a], h =>
      cases h
      refine ⟨?_, rfl⟩
      show ((within a (0) (1) && true) && true) = _
      rw [Bool.and_true, Bool.and_true]
      rfl
  by_cases e2 : k = 2
  · subst e2
    match nums, h with
    | [a], h =>
      cases h
      refine ⟨?_, rfl⟩
      show ((within a (0) (1) && true) && true) = _
      rw [Bool.and_true, Bool.and_true]
      rfl
  by_cases e3 : k = 3
  · subst e3
    match nums, h with
    | [], h =>
      cases h
      refine ⟨?_, rfl⟩
      show ((true : Bool) && rowOk [0, 12, 1, 12] row) = isPairs row
      rw [Bool.true_and, isPairs_eq]
  by_cases e4 : k = 4
  · subst e4
    match nums, h with
    | [a, b], h =>
      cases h
      refine ⟨?_, rfl⟩
      show ((within a 1 12 && (within b 1 12 && true)) && rowOk [2, 64, -10000, 10000] row) = _
      rw [rowOk4_eq, Bool.and_true, Bool.and_assoc]
      rfl
  by_cases e5 : k = 5
  · subst e5
    match nums, h with
    | [a, b, c, d], h =>
      cases h
      refine ⟨?_, rfl⟩
      show ((within a (1) (11) && (within b (1) (12) && (within c (1) (12) && (within d (-768) (768) && true)))) && true) = _
      rw [Bool.and_true, Bool.and_true]
      rfl
  by_cases e6 : k = 6
  · subst e6
    match nums, h with
    | [], h =>
      cases h
      refine ⟨?_, rfl⟩
      rfl
  by_cases e7 : k = 7
  · subst e7
    match nums, h with
    | [a, b], h =>
      cases h
      refine ⟨?_, rfl⟩
      show ((within a (1) (12) && (within b (1) (12) && true)) && true) = _
      rw [Bool.and_true, Bool.and_true]
      rfl
  by_cases e8 : k = 8
  · subst e8
    match nums, h with
    | [], h =>
      cases h
      refine ⟨?_, rfl⟩
      rfl
  by_cases e9 : k = 9
  · subst e9
    match nums, h with
    | [], h =>
      cases h
      refine ⟨?_, rfl⟩
      show ((true : Bool) && rowOk [0, 12, 1, 12] row) = isPairs row
      rw [Bool.true_and, isPairs_eq]
  by_cases e10 : k = 10
  · subst e10
    match nums, h with
    | [a], h =>
      cases h
      refine ⟨?_, rfl⟩
      show ((within a (-768) (768) && true) && true) = _
      rw [Bool.and_true, Bool.and_true]
      rfl
  by_cases e11 : k = 11
  · subst e11
    match nums, h with
    | [a], h =>
      cases h
      refine ⟨?_, rfl⟩
      show ((within a (-20000) (20000) && true) && true) = _
      rw [Bool.and_true, Bool.and_true]
      rfl
  by_cases e12 : k = 12
  · subst e12
    match nums, h with
    | [a], h =>
      cases h
      refine ⟨?_, rfl⟩
      show ((within a (2) (12) && true) && true) = _
      rw [Bool.and_true, Bool.and_true]
      rfl
  by_cases e13 : k = 13
  · subst e13
    match nums, h with
    | [], h =>
      cases h
      refine ⟨?_, rfl⟩
      rfl
  by_cases e14 : k = 14
  · subst e14
    match nums, h with
    | [a], h =>
      cases h
      refine ⟨?_, rfl⟩
      show ((within a (1) (12) && true) && true) = _
      rw [Bool.and_true, Bool.and_true]
      rfl
  by_cases e15 : k = 15
  · subst e15
    match nums, h with
    | [a], h =>
      cases h
      refine ⟨?_, rfl⟩
      show ((within a (1) (11) && true) && true) = _
      rw [Bool.and_true, Bool.and_true]
      rfl
  unfold opt at h
  simp only at h
  split at h
  · exact absurd rfl e0
  · exact absurd rfl e1
  · exact absurd rfl e2
  · exact absurd rfl e3
  · exact absurd rfl e4
  · exact absurd rfl e5
  · exact absurd rfl e6
  · exact absurd rfl e7
  · exact absurd rfl e8
  · exact absurd rfl e9
  · exact absurd rfl e10
  · exact absurd rfl e11
  · exact absurd rfl e12
  · exact absurd rfl e13
  · exact absurd rfl e14
  · exact absurd rfl e15
  · cases h
theorem step_out {s : State} {cl : Vbbral.Call} (h : condC cl = false) : step s cl = no s 1 := by
  cases cl with
  | teams x => exact if_pos h
  | pair x => exact if_pos h
  | draw x => exact if_pos h
  | own x => exact if_pos h
  | game x y z => exact if_pos h
  | result x y z w => exact if_pos h
  | standings => cases h
  | met x y => exact if_pos h
  | left => cases h
  | check x => exact if_pos h
  | vp x => exact if_pos h
  | imp x => exact if_pos h
  | knock x => exact if_pos h
  | round => cases h
  | win x => exact if_pos h
  | told x => exact if_pos h
theorem step_zero {s : State} {cl : Vbbral.Call} (h : condC cl = true) (z0 : s.teams = 0) (n : ¬ (kindC cl = 0 ∨ kindC cl = 10 ∨ kindC cl = 11)) : step s cl = no s 2 := by
  cases cl with
  | teams x => exact absurd (by show (0 = 0 ∨ 0 = 10 ∨ 0 = 11); decide) n
  | pair x => exact (if_neg (nf h)).trans (if_pos z0)
  | draw x => exact (if_neg (nf h)).trans (if_pos z0)
  | own x => exact (if_neg (nf h)).trans (if_pos z0)
  | game x y z => exact (if_neg (nf h)).trans (if_pos z0)
  | result x y z w => exact (if_neg (nf h)).trans (if_pos z0)
  | standings => exact if_pos z0
  | met x y => exact (if_neg (nf h)).trans (if_pos z0)
  | left => exact if_pos z0
  | check x => exact (if_neg (nf h)).trans (if_pos z0)
  | vp x => exact absurd (by show (10 = 0 ∨ 10 = 10 ∨ 10 = 11); decide) n
  | imp x => exact absurd (by show (11 = 0 ∨ 11 = 10 ∨ 11 = 11); decide) n
  | knock x => exact (if_neg (nf h)).trans (if_pos z0)
  | round => exact if_pos z0
  | win x => exact (if_neg (nf h)).trans (if_pos z0)
  | told x => exact (if_neg (nf h)).trans (if_pos z0)
theorem InvS.same {B : Nat} {s s' : State} (h : InvS B s) (e : s' = s) : InvS (B + 1) s' := e ▸ h.up
theorem inv_add {B : Nat} {s : State} (h : InvS B s) {b : Nat} {ps : Pairs} (ht : ¬ s.teams = 0) (hr : s.rounds.length < 11) (hb : b ≤ s.teams) (hn : (namesOf ps).Nodup) (hm : ∀ t ∈ namesOf ps, 1 ≤ t ∧ t ≤ s.teams) (hl : ps.length ≤ 6) : InvS (B + 1) ⟨s.teams, s.rounds ++ [roundOf b ps], s.knock⟩ :=
  ⟨good_add h.good hr hb hn hm hl s.knock, h.two, fun z => absurd z ht, fun k hk => h.up.kn k hk⟩
theorem enter_shape (s : State) (i a b : Nat) (d : Int) : (enter s i a b d).teams = s.teams ∧ (enter s i a b d).knock = s.knock := ⟨rfl, rfl⟩
theorem inv_enter {B : Nat} {s : State} (h : InvS B s) (ht : ¬ s.teams = 0) (i a b : Nat) (d : Int) : InvS (B + 1) (enter s i a b d) :=
  ⟨good_set h.good, h.two, fun z => absurd z ht, fun k hk => h.up.kn k hk⟩
theorem step_inv {B : Nat} {s : State} (h : InvS B s) (cl : Vbbral.Call) : InvS (B + 1) (step s cl).1 := by
  by_cases hc : condC cl = false
  · rw [step_out hc]
    exact h.up
  have hc : condC cl = true := Bool.not_eq_false _ ▸ hc
  by_cases hz : s.teams = 0 ∧ ¬ (kindC cl = 0 ∨ kindC cl = 10 ∨ kindC cl = 11)
  · rw [step_zero hc hz.1 hz.2]
    exact h.up
  cases cl with
  | teams n =>
    have hc : within n 2 12 = true := hc
    have e : step s (.teams n) = yes ⟨n.toNat, [], none⟩ [] := if_neg (by rw [hc]; decide)
    rw [e]
    have a1 := of_decide_eq_true (Bool.and_eq_true_iff.mp hc).1
    have a2 := of_decide_eq_true (Bool.and_eq_true_iff.mp hc).2
    refine ⟨⟨by show n.toNat ≤ 12; omega, by show 0 ≤ 11; omega, fun r hr => by (cases hr), fun r hr => by (cases hr), fun r hr => by (cases hr), fun r hr => by (cases hr)⟩, .inr (by show 2 ≤ n.toNat; omega), fun _ => rfl, fun k hk => by cases hk⟩
  | pair m =>
    have ht : ¬ s.teams = 0 := fun z => hz ⟨z, by show ¬ (1 = 0 ∨ 1 = 10 ∨ 1 = 11); decide⟩
    have hc : within m 0 1 = true := hc
    have e : step s (.pair m) = _ := (if_neg (by rw [hc]; decide)).trans (if_neg ht)
    rw [e]
    refine h.same ?_
    by_cases w : whole s = false
    · rw [if_pos w]; rfl
    · rw [if_neg w]
      cases pairing s m.toNat <;> rfl
  | draw m =>
    have ht : ¬ s.teams = 0 := fun z => hz ⟨z, by show ¬ (2 = 0 ∨ 2 = 10 ∨ 2 = 11); decide⟩
    have hc : within m 0 1 = true := hc
    have a2 := of_decide_eq_true (Bool.and_eq_true_iff.mp hc).2
    have e : step s (.draw m) = _ := (if_neg (by rw [hc]; decide)).trans (if_neg ht)
    rw [e]
    by_cases w : whole s = false
    · rw [if_pos w]; exact h.up
    · rw [if_neg w]
      by_cases w2 : ROUNDS ≤ s.rounds.length
      · rw [if_pos w2]; exact h.up
      · rw [if_neg w2]
        have w2 : ¬ 11 ≤ s.rounds.length := w2
        cases hp : pairing s m.toNat with
        | none => exact h.up
        | some x =>
          obtain ⟨b, ps⟩ := x
          obtain ⟨f1, f2, f3, f4⟩ := pairing_facts h.good (by omega) hp
          exact inv_add h ht (by omega) f1 f2 f3 f4
  | own l =>
    have ht : ¬ s.teams = 0 := fun z => hz ⟨z, by show ¬ (3 = 0 ∨ 3 = 10 ∨ 3 = 11); decide⟩
    have hc : isPairs l = true := hc
    have e : step s (.own l) = _ := (if_neg (by rw [hc]; decide)).trans (if_neg ht)
    rw [e]
    by_cases w : whole s = false
    · rw [if_pos w]; exact h.up
    · rw [if_neg w]
      by_cases w2 : ROUNDS ≤ s.rounds.length
      · rw [if_pos w2]; exact h.up
      · rw [if_neg w2]
        have w2 : ¬ 11 ≤ s.rounds.length := w2
        by_cases w3 : fault s (twos l) ≠ 0
        · rw [if_pos w3]; exact h.up
        · rw [if_neg w3]
          have w3 : fault s (twos l) = 0 := Decidable.not_not.mp w3
          obtain ⟨r1, r2, r, rfl, r3⟩ := isPairs_nat hc
          rw [iN_len] at r1 r2
          obtain ⟨g1, g2, g3⟩ := fault_zero r2 (fun t ht => (r3 t ht).1) w3
          have nm := names_pairs r r2
          refine inv_add h ht (by omega) ?_ ?_ ?_ ?_
          · show sitter s (pairsN r) ≤ s.teams
            rw [sitter_eq s r2]
            exact sitterN_le _ _
          · show (namesOf (pairsN r)).Nodup
            rw [nm]
            exact g1
          · show ∀ t ∈ namesOf (pairsN r), _
            rw [nm]
            exact fun t ht => ⟨(r3 t ht).1, g3 t ht⟩
          · show (pairsN r).length ≤ 6
            rw [pairsN_len]
            omega
  | game a b l =>
    have ht : ¬ s.teams = 0 := fun z => hz ⟨z, by show ¬ (4 = 0 ∨ 4 = 10 ∨ 4 = 11); decide⟩
    have e : step s (.game a b l) = _ := (if_neg (nf hc)).trans (if_neg ht)
    rw [e]
    cases hr : s.rounds.getLast? with
    | none => exact h.up
    | some r =>
      show InvS (B + 1) (if hasGame a.toNat b.toNat r = false then no s 5 else _).1
      by_cases w : hasGame a.toNat b.toNat r = false
      · rw [if_pos w]; exact h.up
      · rw [if_neg w]; exact inv_enter h ht _ _ _ _
  | result r0 a b d =>
    have ht : ¬ s.teams = 0 := fun z => hz ⟨z, by show ¬ (5 = 0 ∨ 5 = 10 ∨ 5 = 11); decide⟩
    have e : step s (.result r0 a b d) = _ := (if_neg (nf hc)).trans (if_neg ht)
    rw [e]
    cases hr : s.rounds[r0.toNat - 1]? with
    | none => exact h.up
    | some r =>
      show InvS (B + 1) (if hasGame a.toNat b.toNat r = false then no s 5 else _).1
      by_cases w : hasGame a.toNat b.toNat r = false
      · rw [if_pos w]; exact h.up
      · rw [if_neg w]; exact inv_enter h ht _ _ _ _
  | standings =>
    have ht : ¬ s.teams = 0 := fun z => hz ⟨z, by show ¬ (6 = 0 ∨ 6 = 10 ∨ 6 = 11); decide⟩
    have e : step s .standings = _ := if_neg ht
    rw [e]
    exact h.up
  | met a b =>
    have ht : ¬ s.teams = 0 := fun z => hz ⟨z, by show ¬ (7 = 0 ∨ 7 = 10 ∨ 7 = 11); decide⟩
    have e : step s (.met a b) = _ := (if_neg (nf hc)).trans (if_neg ht)
    rw [e]
    exact h.up
  | left =>
    have ht : ¬ s.teams = 0 := fun z => hz ⟨z, by show ¬ (8 = 0 ∨ 8 = 10 ∨ 8 = 11); decide⟩
    have e : step s .left = _ := if_neg ht
    rw [e]
    exact h.up
  | check l =>
    have ht : ¬ s.teams = 0 := fun z => hz ⟨z, by show ¬ (9 = 0 ∨ 9 = 10 ∨ 9 = 11); decide⟩
    have e : step s (.check l) = _ := (if_neg (nf hc)).trans (if_neg ht)
    rw [e]
    exact h.up
  | vp d =>
    have e : step s (.vp d) = _ := if_neg (nf hc)
    rw [e]
    exact h.up
  | imp d =>
    have e : step s (.imp d) = _ := if_neg (nf hc)
    rw [e]
    exact h.up
  | knock k =>
    have ht : ¬ s.teams = 0 := fun z => hz ⟨z, by show ¬ (12 = 0 ∨ 12 = 10 ∨ 12 = 11); decide⟩
    have e : step s (.knock k) = _ := (if_neg (nf hc)).trans (if_neg ht)
    rw [e]
    by_cases w : s.teams < k.toNat
    · rw [if_pos w]; exact h.up
    · rw [if_neg w]
      have G := h.good
      refine ⟨⟨G.teams, G.rounds, G.ok, G.games, G.undone, G.apart⟩, h.two, h.none, fun kk hk => ?_⟩
      have hk : some (settle ⟨bracket ((ranking s).take k.toNat), []⟩) = some kk := hk
      cases hk
      exact ⟨settle_len bracket_good, Nat.le_trans (settle_wins _) (Nat.zero_le _)⟩
  | round =>
    have ht : ¬ s.teams = 0 := fun z => hz ⟨z, by show ¬ (13 = 0 ∨ 13 = 10 ∨ 13 = 11); decide⟩
    have e : step s .round = _ := if_neg ht
    rw [e]
    refine h.same ?_
    cases s.knock <;> rfl
  | win a =>
    have ht : ¬ s.teams = 0 := fun z => hz ⟨z, by show ¬ (14 = 0 ∨ 14 = 10 ∨ 14 = 11); decide⟩
    have e : step s (.win a) = _ := (if_neg (nf hc)).trans (if_neg ht)
    rw [e]
    cases hk : s.knock with
    | none => exact h.up
    | some k =>
      show InvS (B + 1) (if ((openIn k).any fun p => p.1 == a.toNat || p.2 == a.toNat) = false then no s 5 else _).1
      by_cases w : ((openIn k).any fun p => p.1 == a.toNat || p.2 == a.toNat) = false
      · rw [if_pos w]; exact h.up
      · rw [if_neg w]
        have G := h.good
        obtain ⟨g1, g2⟩ := h.kn k hk
        refine ⟨⟨G.teams, G.rounds, G.ok, G.games, G.undone, G.apart⟩, h.two, h.none, fun kk hkk => ?_⟩
        have hkk : some (settle ⟨k.now, k.wins ++ [a.toNat]⟩) = some kk := hkk
        cases hkk
        refine ⟨settle_len ⟨g1.pow⟩, Nat.le_trans (settle_wins _) ?_⟩
        show (k.wins ++ [a.toNat]).length ≤ B + 1
        rw [List.length_append]
        show k.wins.length + 1 ≤ B + 1
        omega
  | told r0 =>
    have ht : ¬ s.teams = 0 := fun z => hz ⟨z, by show ¬ (15 = 0 ∨ 15 = 10 ∨ 15 = 11); decide⟩
    have e : step s (.told r0) = _ := (if_neg (nf hc)).trans (if_neg ht)
    rw [e]
    refine h.same ?_
    cases s.rounds[r0.toNat - 1]? <;> rfl
theorem opt_ok {k : Nat} (hk : k < 16) {xs row : List Int} (hl : xs.length = arity k) {c : List (List Int)} (hc : c = if hasRow k = true then [(k : Int) :: xs, row] else [(k : Int) :: xs]) : ∃ cl, opt (cM c) = some cl ∧ callOf (PyVbbral.whole c) = some cl := by
  by_cases e0 : k = 0
  · subst e0
    match xs, hl with
    | [a], _ =>
      have hc : c = [[0, a]] := hc
      rw [hc]
      exact ⟨_, rfl, rfl⟩
  by_cases e1 : k = 1
  · subst e1
    match xs, hl with
    | [a], _ =>
      have hc : c = [[1, a]] := hc
      rw [hc]
      exact ⟨_, rfl, rfl⟩
  by_cases e2 : k = 2
  · subst e2
    match xs, hl with
    | [a], _ =>
      have hc : c = [[2, a]] := hc
      rw [hc]
      exact ⟨_, rfl, rfl⟩
  by_cases e3 : k = 3
  · subst e3
    match xs, hl with
    | [], _ =>
      have hc : c = [[3], row] := hc
      rw [hc]
      exact ⟨_, rfl, rfl⟩
  by_cases e4 : k = 4
  · subst e4
    match xs, hl with
    | [a, b], _ =>
      have hc : c = [[4, a, b], row] := hc
      rw [hc]
      exact ⟨_, rfl, rfl⟩
  by_cases e5 : k = 5
  · subst e5
    match xs, hl with
    | [a, b, u, v], _ =>
      have hc : c = [[5, a, b, u, v]] := hc
      rw [hc]
      exact ⟨_, rfl, rfl⟩
  by_cases e6 : k = 6
  · subst e6
    match xs, hl with
    | [], _ =>
      have hc : c = [[6]] := hc
      rw [hc]
      exact ⟨_, rfl, rfl⟩
  by_cases e7 : k = 7
  · subst e7
    match xs, hl with
    | [a, b], _ =>
      have hc : c = [[7, a, b]] := hc
      rw [hc]
      exact ⟨_, rfl, rfl⟩
  by_cases e8 : k = 8
  · subst e8
    match xs, hl with
    | [], _ =>
      have hc : c = [[8]] := hc
      rw [hc]
      exact ⟨_, rfl, rfl⟩
  by_cases e9 : k = 9
  · subst e9
    match xs, hl with
    | [], _ =>
      have hc : c = [[9], row] := hc
      rw [hc]
      exact ⟨_, rfl, rfl⟩
  by_cases e10 : k = 10
  · subst e10
    match xs, hl with
    | [a], _ =>
      have hc : c = [[10, a]] := hc
      rw [hc]
      exact ⟨_, rfl, rfl⟩
  by_cases e11 : k = 11
  · subst e11
    match xs, hl with
    | [a], _ =>
      have hc : c = [[11, a]] := hc
      rw [hc]
      exact ⟨_, rfl, rfl⟩
  by_cases e12 : k = 12
  · subst e12
    match xs, hl with
    | [a], _ =>
      have hc : c = [[12, a]] := hc
      rw [hc]
      exact ⟨_, rfl, rfl⟩
  by_cases e13 : k = 13
  · subst e13
    match xs, hl with
    | [], _ =>
      have hc : c = [[13]] := hc
      rw [hc]
      exact ⟨_, rfl, rfl⟩
  by_cases e14 : k = 14
  · subst e14
    match xs, hl with
    | [a], _ =>
      have hc : c = [[14, a]] := hc
      rw [hc]
      exact ⟨_, rfl, rfl⟩
  by_cases e15 : k = 15
  · subst e15
    match xs, hl with
    | [a], _ =>
      have hc : c = [[15, a]] := hc
      rw [hc]
      exact ⟨_, rfl, rfl⟩
  omega
end TR

set_option Elab.async false
set_option linter.all false
set_option maxRecDepth 100000
namespace TR
open Vbbral
/-! ### the whole line -/
def played (s : State) : List Vbbral.Call → List (List Int)
  | [] => []
  | c :: r => (step s c).2 :: played (step s c).1 r
def stateAt (s : State) (cs : List Vbbral.Call) : State := cs.foldl (fun s c => (step s c).1) s
theorem played_snoc : ∀ (cs : List Vbbral.Call) (s : State) (c : Vbbral.Call), played s (cs ++ [c]) = played s cs ++ [(step (stateAt s cs) c).2]
  | [], s, c => rfl
  | d :: cs, s, c => by
    show (step s d).2 :: played (step s d).1 (cs ++ [c]) = (step s d).2 :: (played (step s d).1 cs ++ [(step (stateAt (step s d).1 cs) c).2])
    rw [played_snoc cs]
theorem state_snoc (cs : List Vbbral.Call) (s : State) (c : Vbbral.Call) : stateAt s (cs ++ [c]) = (step (stateAt s cs) c).1 := by
  unfold stateAt
  rw [List.foldl_append]
  rfl
theorem state_inv : ∀ (cs : List Vbbral.Call) (s : State) (B : Nat), InvS B s → InvS (B + cs.length) (stateAt s cs)
  | [], s, B, h => h
  | c :: cs, s, B, h => by
    have z := state_inv cs _ _ (step_inv h c)
    show InvS (B + (cs.length + 1)) (stateAt (step s c).1 cs)
    rw [show B + (cs.length + 1) = B + 1 + cs.length by omega]
    exact z
structure RawOk (n : Nat) (c : List (List Int)) (cl : Vbbral.Call) : Prop where
  opt : opt (cM c) = some cl
  due : callOf (PyVbbral.whole c) = some cl
  nums : (cM c).nums.length = arity (cM c).kind
  row : (cM c).row.length ≤ n
theorem raw_one {p : Int} {r : List Int} {c : List (List Int)} {t : List Int} (h : PyFlat.call PyVbbral.shape (p :: r) = some (c, t)) : (∃ cl, RawOk r.length c cl) ∧ t.length ≤ r.length := by
  obtain ⟨h1, h2, h3, alt⟩ := call_parse h
  generalize hk : p.toNat = k at *
  subst h2
  have kk : ((k : Int)).toNat = k := Int.toNat_natCast k
  have lt : (r.take (arity k)).length = arity k := by rw [List.length_take]; omega
  rcases alt with ⟨a1, a2, a3⟩ | ⟨a1, m, r2, a2, a3, a4, a5⟩
  · obtain ⟨cl, o1, o2⟩ := opt_ok h1 (xs := r.take (arity k)) (row := []) lt (c := c) (by rw [a1, if_neg (by decide)]; exact a2)
    refine ⟨⟨cl, o1, o2, ?_, ?_⟩, by rw [a3, List.length_drop]; omega⟩
    · rw [a2]
      show (r.take (arity k)).length = arity ((k : Int)).toNat
      rw [kk, lt]
    · rw [a2]
      exact Nat.zero_le _
  · obtain ⟨cl, o1, o2⟩ := opt_ok h1 (xs := r.take (arity k)) (row := r2.take m) lt (c := c) (by rw [a1, if_pos rfl]; exact a4)
    have l2 : r2.length + 1 ≤ r.length := by
      have := congrArg List.length a2
      rw [List.length_drop, List.length_cons] at this
      omega
    refine ⟨⟨cl, o1, o2, ?_, ?_⟩, by rw [a5, List.length_drop]; omega⟩
    · rw [a4]
      show (r.take (arity k)).length = arity ((k : Int)).toNat
      rw [kk, lt]
    · rw [a4]
      show (r2.take m).length ≤ r.length
      rw [List.length_take]
      omega
theorem raw_all : ∀ (f : Nat) (l : List Int) (raw : List (List (List Int))) (n : Nat), l.length ≤ n → PyFlat.calls PyVbbral.shape f l = some raw → ∃ cls : List Vbbral.Call, cls.length = raw.length ∧ (∀ (i : Nat) (c : List (List Int)) (cl : Vbbral.Call), raw[i]? = some c → cls[i]? = some cl → RawOk n c cl) ∧ ∀ s, PyFlat.played VbbralNeutral.step s (raw.map PyVbbral.whole) = played s cls
  | f, [], raw, n, _, h => by
    obtain rfl := calls_nil h
    exact ⟨[], rfl, fun i c cl e => by simp at e, fun s => rfl⟩
  | 0, p :: r, raw, n, _, h => by cases h
  | f + 1, p :: r, raw, n, hn, h => by
    unfold PyFlat.calls at h
    cases hc : PyFlat.call PyVbbral.shape (p :: r) with
    | none => rw [hc] at h; cases h
    | some ct =>
      obtain ⟨c, t⟩ := ct
      rw [hc] at h
      simp only at h
      cases hr : PyFlat.calls PyVbbral.shape f t with
      | none => rw [hr] at h; cases h
      | some cs' =>
        rw [hr] at h
        cases h
        obtain ⟨⟨cl, ok⟩, lt⟩ := raw_one hc
        have hn' : r.length + 1 ≤ n := hn
        obtain ⟨cls, e1, e2, e3⟩ := raw_all f t cs' n (by omega) hr
        refine ⟨cl :: cls, by rw [List.length_cons, List.length_cons, e1], fun i c' cl' w1 w2 => ?_, fun s => ?_⟩
        · cases i with
          | zero =>
            cases w1
            cases w2
            exact ⟨ok.opt, ok.due, ok.nums, Nat.le_trans ok.row (by omega)⟩
          | succ i => exact e2 i c' cl' w1 w2
        · show (VbbralNeutral.step s (PyVbbral.whole c)).2 :: PyFlat.played VbbralNeutral.step (VbbralNeutral.step s (PyVbbral.whole c)).1 (cs'.map PyVbbral.whole) = (step s cl).2 :: played (step s cl).1 cls
          have es : VbbralNeutral.step s (PyVbbral.whole c) = step s cl := by
            unfold VbbralNeutral.step stepRows
            rw [ok.due]
          rw [es, e3]
theorem due_eq {l : List Int} {raw : List (List (List Int))} {cls : List Vbbral.Call} (h : PyFlat.calls PyVbbral.shape l.length l = some raw) (e : ∀ s, PyFlat.played VbbralNeutral.step s (raw.map PyVbbral.whole) = played s cls) : PyVbbral.answers l = PyFlat.told (played start cls) := by
  unfold PyVbbral.answers PyVbbral.calls
  rw [h]
  show PyFlat.told (PyFlat.played VbbralNeutral.step start (raw.map PyVbbral.whole)) = _
  rw [e]
theorem told_append (a b : List (List Int)) : PyFlat.told (a ++ b) = PyFlat.told a ++ PyFlat.told b := by
  unfold PyFlat.told
  rw [List.flatMap_append]
theorem played_take (cls : List Vbbral.Call) (s : State) (i : Nat) : (PyFlat.told (played s (cls.take i))).length ≤ (PyFlat.told (played s cls)).length := by
  have e : ∀ (a b : List Vbbral.Call) (s : State), played s (a ++ b) = played s a ++ played (stateAt s a) b := fun a => by
    induction a with
    | nil => intro b s; rfl
    | cons c a ih =>
      intro b s
      show (step s c).2 :: played (step s c).1 (a ++ b) = (step s c).2 :: (played (step s c).1 a ++ played (stateAt (step s c).1 a) b)
      rw [ih]
  have := congrArg (fun l => (PyFlat.told l).length) (e (cls.take i) (cls.drop i) s)
  rw [List.take_append_drop] at this
  rw [this]
  show _ ≤ (PyFlat.told (_ ++ _)).length
  rw [told_append, List.length_append]
  omega
end TR

set_option Elab.async false
set_option linter.all false
set_option maxRecDepth 100000
set_option maxHeartbeats 4000000
namespace TR
open PySem PySem.Spec PyProof.Rows L2
theorem held_of {P : Program} {w : World} {K : PySem.W.Frag} {mg : Str → Option Value} {base : Heap} {k j : Nat} {f : Addr} {ps : List Str} {sp : Sp} (h : OkF P w K mg base k f ps sp) (hj : k ≤ j) : Held P w K mg base j f sp := by
  obtain ⟨⟨fd, G, b⟩, kp⟩ := h
  exact ⟨fd, ps, G.mono hj, kp, b⟩
section
variable {P : Program} {w : World} {K : PySem.W.Frag} {mg : Str → Option Value} {base : Heap}
theorem held_all (T : Txt w K mg base) (k : Nat) (hk : k < 16) : ∃ f, ((ANSm.map fun x => He.ga K x))[k]? = some f ∧ Held P w K mg base 10 f (sp_A K k) := by
  match k, hk with
  | 0, _ => exact ⟨_, rfl, held_of (ok_answer_teams T) (by decide)⟩
  | 1, _ => exact ⟨_, rfl, held_of (ok_answer_pair T) (by decide)⟩
  | 2, _ => exact ⟨_, rfl, held_of (ok_answer_draw T) (by decide)⟩
  | 3, _ => exact ⟨_, rfl, held_of (ok_answer_own T) (by decide)⟩
  | 4, _ => exact ⟨_, rfl, held_of (ok_answer_match T) (by decide)⟩
  | 5, _ => exact ⟨_, rfl, held_of (ok_answer_result T) (by decide)⟩
  | 6, _ => exact ⟨_, rfl, held_of (ok_answer_standing T) (by decide)⟩
  | 7, _ => exact ⟨_, rfl, held_of (ok_answer_met T) (by decide)⟩
  | 8, _ => exact ⟨_, rfl, held_of (ok_answer_left T) (by decide)⟩
  | 9, _ => exact ⟨_, rfl, held_of (ok_answer_check T) (by decide)⟩
  | 10, _ => exact ⟨_, rfl, held_of (ok_answer_points T) (by decide)⟩
  | 11, _ => exact ⟨_, rfl, held_of (ok_answer_units T) (by decide)⟩
  | 12, _ => exact ⟨_, rfl, held_of (ok_answer_knock T) (by decide)⟩
  | 13, _ => exact ⟨_, rfl, held_of (ok_answer_row T) (by decide)⟩
  | 14, _ => exact ⟨_, rfl, held_of (ok_answer_win T) (by decide)⟩
  | 15, _ => exact ⟨_, rfl, held_of (ok_answer_round_of T) (by decide)⟩
  | n + 16, h => exact absurd h (by omega)
end
theorem kind_lt (cl : Vbbral.Call) : kindC cl < 16 := by
  cases cl <;> simp [kindC]
theorem without_in {k : Nat} : inV (.int (k : Int)) ([0, 10, 11].map V.int) = true ↔ k = 0 ∨ k = 10 ∨ k = 11 := by
  have e : inV (.int (k : Int)) (vN [0, 10, 11]) = [0, 10, 11].contains k := inV_N [0, 10, 11] k
  show inV (.int (k : Int)) (vN [0, 10, 11]) = true ↔ _
  rw [e, List.contains_iff_mem]
  simp
theorem StAt.off {K : PySem.W.Frag} {H H' : Hp} {e t : Addr} {y : Lay} {s : Vbbral.State} (h : StAt K H e y s) (k : ∀ b, b ≠ t → H' b = H b) {xs : List V} (ht : H t = some (.lst xs)) (n1 : t ≠ y.er) (n2 : some t ≠ y.wl) (n3 : ¬ y.has t) : StAt K H' e y s := by
  have ki : ∀ {a : Addr} {C : Str} {fs : List (Str × V)}, InsAt K H a C fs → InsAt K H' a C fs := fun {a C fs} ⟨d, w⟩ => ⟨d, by rw [k a (ne_of w ht (by intro z; cases z))]; exact w⟩
  have kl : ∀ {a : Addr} {u : List V}, H a = some (.lst u) → a ≠ t → H' a = some (.lst u) := fun {a u} w n => by rw [k a n]; exact w
  refine ⟨⟨ki h.ev.ev, kl h.ev.er n1.symm, h.ev.len, fun i q r e1 e2 => ?_⟩, ?_, h.apL, h.apM⟩
  · have hR := h.ev.at_ i q r e1 e2
    exact ⟨ki hR.ins, kl hR.lst fun z => n3 (.inl ⟨q, List.mem_of_getElem? e1, z.symm⟩), hR.len, fun j m g f1 f2 => ki (hR.at_ j m g f1 f2)⟩
  · have hk := h.kn
    cases hy : y.kn with
    | none =>
      rw [hy] at hk
      cases hs : s.knock with
      | none => exact True.intro
      | some kk => rw [hs] at hk; exact hk.elim
    | some u =>
      rw [hy] at hk
      cases hs : s.knock with
      | none => rw [hs] at hk; exact hk.elim
      | some kk =>
        rw [hs] at hk
        obtain ⟨k1, k2⟩ := hk
        exact ⟨⟨ki k1.ins, kl k1.row fun z => n3 (.inr ⟨u, hy, z.symm⟩), kl k1.won fun z => n2 (by show _ = y.kn.map _; rw [hy, ← z]; rfl)⟩, k2⟩
section
variable {P : Program} {w : World} {K : PySem.W.Frag} {mg : Str → Option Value} {base : Heap}
def sp_answer_call (K : PySem.W.Frag) : Sp := Sp2 fun x v1 H Q => ∃ (e : Addr) (y : Lay) (s : Vbbral.State) (c : CL) (m : CallM) (cl : Vbbral.Call) (B : Nat), x = .ref e ∧ v1 = .ref c.c ∧ opt m = some cl ∧ m.nums.length = arity m.kind ∧ m.row.length ≤ 20000 ∧ InvS B s ∧ B ≤ 9999 ∧ StAt K H e y s ∧ CallAt K H c m ∧ LamX.Tabs (LamT K) H ∧
  ∀ (H' : Hp) (p : Addr) (y' : Lay), StAt K H' e y' (Vbbral.step s cl).1 → Fr H H' y y' → LamX.Tabs (LamT K) H' → H' p = some (.lst ((Vbbral.step s cl).2.map V.int)) → (∀ o, H p = some o → ¬ KeepO o) → Q (.ref p) H'
theorem ok_answer_call (T : Txt w K mg base) : OkF P w K mg base 11 (He.ga K "answer_call") ["event", "call"] (sp_answer_call K) := by
  obtain ⟨⟨fd_Call_is_in_range, G_Call_is_in_range, b_Call_is_in_range⟩, k_Call_is_in_range⟩ := ok_Call_is_in_range (P := P) T
  obtain ⟨fd, F⟩ := T.f_answer_call
  refine ok2 F sc_answer_call (fun _ _ _ _ _ _ _ _ => rfl) (fun cdv A outer s H x0 x1 Q hr h => ?_)
  refine ⟨_, (pss_cons (ps_if (pt_not (pt_val (pe_meth0 (pv 1) T.c_Call T.m_Call_is_in_range G_Call_is_in_range (hr.mono (by decide)) b_Call_is_in_range .nil pass0))) (pss_one (ps_ret (pe_lst (pa_cons (C8.pe_gc (by rfl) T.v_OUT_OF_RANGE) pa_nil)))) pss_nil)
      (pss_cons (ps_if (PW.pt (pw_and (pt_cmpR op_eq (pe_fldK (K := K) rfl (pv 0) rfl) pe_int (nomark _)) (pw_and1 (pt_cmpR (r := rIn K true) op_notIn_seq (pe_fldK (K := K) rfl (pv 1) rfl) (pe_glob (v := .ref (He.ga K "WITHOUT_TEAMS")) (by rfl) T.g_WITHOUT_TEAMS rfl) (by rfl))))) (pss_one (ps_ret (pe_lst (pa_cons (C8.pe_gc (by rfl) T.v_NO_TEAMS) pa_nil)))) pss_nil)
      (pss_cons (ps_set (i := 2) sc_answer_call.nd rfl (Or.inl rfl) (pe_ix (r := rIxT K) ix_tup (pe_glob (v := .ref (He.ga K "ANSWERING")) (by rfl) T.g_ANSWERING rfl) (pe_fldK (K := K) rfl (pv 1) rfl) (fun _ _ => rfl)))
      (pss_one (ps_ret (pe_callH (k := 10) (i := 2) (hr.mono (by decide)) (by rfl) (by first | exact .inl rfl | exact .inr (.inl rfl)) (pa_cons (pv 0) (pa_cons (pv 1) pa_nil)))))))), ?_⟩
  obtain ⟨e, y, s0, c, m, cl, B, rfl, rfl, ho, hn, hr', hI, hB, hS, hC, hT, q⟩ := h
  obtain ⟨i1, i2⟩ := opt_inv ho
  have hk : m.kind < 16 := by rw [i2]; exact kind_lt cl
  obtain ⟨dc, hc⟩ := hC.ins
  obtain ⟨dx, hp⟩ := hS.ev.ev
  refine ⟨_, rfl, c.c, dc, _, rfl, hc, cF_no_is_in_range .., _, rfl, c, m, rfl, hC, hk, hn, hr', fun H1 s1 => ⟨_, rfl, ?_⟩⟩
  have hc1 := s1 _ _ hc
  have hp1 := s1 _ _ hp
  refine ite2 (fun d => ?_) (fun d => ?_)
  · have d : condC cl = false := by
      rw [← i1]
      cases h : inR m with
      | false => rfl
      | true => rw [h] at d; cases d
    refine ⟨by show 1 ≤ sizeLine; decide, fun p np => ?_⟩
    exact fin_new q hS (step_out d) (.of s1) (hT.ext s1) np
  have d : inR m = true := by
    cases h : inR m with
    | true => rfl
    | false => rw [h] at d; exact absurd rfl d
  refine ⟨_, rfl, e, _, dx, _, _, rfl, hp1, T.c_Event, T.na_Event_size, eF_size .., rfl, _, rfl, ?_⟩
  rw [dec_int]
  have go : (s0.teams = 0 → kindC cl = 0 ∨ kindC cl = 10 ∨ kindC cl = 11) → ∀ H2, Same H1 H2 → ∀ f, ((ANSm.map fun x => He.ga K x))[m.kind]? = some f → Held P w K mg base 10 f (sp_A K m.kind) → ∃ f' sp, ([some (.ref e), some (.ref c.c), some (.ref f)] : L2.St)[2]? = some (some (V.ref f')) ∧ Held P w K mg base 10 f' sp ∧ tCons (tVar 0) (tCons (tVar 1) tNil) [some (.ref e), some (.ref c.c), some (.ref f)] H2 fun vs H3 => sp vs H3 Q (fun _ _ _ => False) := fun hz H2 s2 f ef hf => by
    refine ⟨f, _, rfl, hf, _, rfl, _, rfl, _, _, rfl, e, y, s0, c, m, cl, B, rfl, rfl, rfl, ho, d, fun z => by rw [i2]; exact hz z, hI, hB, hS.ext (.of (s1.trans s2)), hC.same (s1.trans s2), hT.ext (s1.trans s2), fun H' p y' a1 a2 a3 a4 a5 => q H' p y' a1 ⟨fun b o w1 w2 w3 w4 => a2.keep b o (s2 _ _ (s1 _ _ w1)) w2 w3 w4, ?_, ?_, fun b o w => a2.ls b o (s2 _ _ (s1 _ _ w))⟩ a3 a4 fun o w => a5 o (s2 _ _ (s1 _ _ w))⟩
    · rcases a2.er with z | z
      · exact .inl z
      · exact .inr fun o w1 w2 => z o (s2 _ _ (s1 _ _ w1)) w2
    · rcases a2.wl with z | z
      · exact .inl z
      · exact .inr fun w hw o w1 w2 => z w hw o (s2 _ _ (s1 _ _ w1)) w2
  obtain ⟨f, ef, hf⟩ := held_all (P := P) T m.kind hk
  have at_f : atI ((ANSm.map fun x => He.ga K x).map V.ref) (m.kind : Int) = some (.ref f) := at_ref m.kind rfl ef
  refine ite2 (fun z => ?_) (fun z => ?_)
  · have z : s0.teams = 0 := by
      have := of_decide_eq_true z
      omega
    refine ⟨_, rfl, c.c, _, dc, _, _, rfl, hc1, T.c_Call, T.na_Call_kind, cF_kind .., _, _, rfl, .inr (T.without H1), rfl, rfl, _, rfl, ?_⟩
    refine ite2 (fun w => ?_) (fun w => ?_)
    · have w : ¬ (kindC cl = 0 ∨ kindC cl = 10 ∨ kindC cl = 11) := fun v => by
        rw [← i2] at v
        have w : (!inV (.int (m.kind : Int)) ([0, 10, 11].map V.int)) = true := w
        rw [without_in.mpr v] at w
        cases w
      refine ⟨by show 1 ≤ sizeLine; decide, fun p np => ?_⟩
      exact fin_new q hS (step_zero (i1 ▸ d) z w) (.of s1) (hT.ext s1) np
    · have w : kindC cl = 0 ∨ kindC cl = 10 ∨ kindC cl = 11 := by
        rw [← i2]
        refine without_in.mp ?_
        cases h : inV (.int (m.kind : Int)) ([0, 10, 11].map V.int) with
        | true => rfl
        | false => exact absurd (show (!inV (.int (m.kind : Int)) ([0, 10, 11].map V.int)) = true by rw [h]; rfl) w
      exact ⟨_, rfl, c.c, _, dc, _, _, rfl, hc1, T.c_Call, T.na_Call_kind, cF_kind .., _, _, _, _, rfl, rfl, T.answering H1, at_f, go (fun _ => w) H1 (Same.refl H1) f ef hf⟩
  · have z : ¬ s0.teams = 0 := fun v => z (decide_eq_true (by omega))
    exact iteF ⟨_, rfl, c.c, _, dc, _, _, rfl, hc1, T.c_Call, T.na_Call_kind, cF_kind .., _, _, _, _, rfl, rfl, T.answering H1, at_f, go (fun v => absurd v z) H1 (Same.refl H1) f ef hf⟩
def sp_answers (K : PySem.W.Frag) : Sp := Sp1 fun x H Q => ∃ (a : Addr) (l : List Int) (raw : List (List (List Int))), x = .ref a ∧ SqL K H a (l.map V.int) ∧ l.length ≤ 17000 ∧ PyFlat.calls PyVbbral.shape l.length l = some raw ∧ raw.length ≤ 200 ∧ (PyVbbral.answers l).length ≤ 10000000 ∧ LamX.Tabs (LamT K) H ∧
  ∀ (H' : Hp) (p : Addr), H' p = some (.lst ((PyVbbral.answers l).map V.int)) → Q (.ref p) H'
theorem ok_answers (T : Txt w K mg base) : OkF P w K mg base 12 (He.ga K "answers") ["calls"] (sp_answers K) := by
  obtain ⟨⟨fd_split_calls, G_split_calls, b_split_calls⟩, k_split_calls⟩ := ok_split_calls (P := P) T
  obtain ⟨⟨fd_answer_call, G_answer_call, b_answer_call⟩, k_answer_call⟩ := ok_answer_call (P := P) T
  obtain ⟨⟨fd_Event_init, G_Event_init, b_Event_init⟩, k_Event_init⟩ := ok_Event_init (P := P) T
  obtain ⟨fd, F⟩ := T.f_answers
  refine ok1 F sc_answers (fun _ _ _ _ _ _ _ => rfl) (fun cdv A outer s H x0 Q hr h => ?_)
  refine ⟨_, (pss_cons (ps_set (i := 1) sc_answers.nd rfl (Or.inl rfl) (pe_make0 T.mk_Event G_Event_init (hr.mono (by decide)) (by rfl) T.g_Event b_Event_init .nil pass0))
      (pss_cons (ps_set (i := 2) sc_answers.nd rfl (Or.inl rfl) (pe_lst pa_nil))
      (pss_cons (ps_for PassesOwn.never rfl (pi_list (pe_call G_split_calls (hr.mono (by decide)) (by rfl) T.g_split_calls k_split_calls b_split_calls .nil pass0 (pa_cons (pv 0) pa_nil))) (pg_name (i := 3) sc_answers.nd rfl (Or.inl rfl)) (pss_cons (ps_set (i := 4) sc_answers.nd rfl (Or.inl rfl) (pe_call G_answer_call (hr.mono (by decide)) (by rfl) T.g_answer_call k_answer_call b_answer_call .nil pass0 (pa_cons (pv 1) (pa_cons (pv 3) pa_nil))))
      (pss_cons (ps_expr (pe_bm PySem.F.plainAttrs_list PySem.F.slot_list_append PySem.F.type_list_append mt_append (pv 2) (pa_cons (pe_callB (r := rLenS K) call_len_seq (by rfl) T.n_len PySem.boot_len (pa_cons (pv 4) pa_nil)) pa_nil)))
      (pss_one (ps_expr (pe_bm PySem.F.plainAttrs_list PySem.F.slot_list_extend PySem.F.type_list_extend mt_extend (pv 2) (pa_cons (pv 4) pa_nil)))))))
      (pss_one (ps_ret (pv 2)))))), ?_⟩
  obtain ⟨a, l, raw, rfl, hS, hl, hraw, h200, hbig, hT, q⟩ := h
  obtain ⟨cls, cl1, cl2, cl3⟩ := raw_all l.length l raw l.length (Nat.le_refl _) hraw
  rw [due_eq hraw cl3] at q hbig
  have pref := played_take cls Vbbral.start
  refine fun e de ne0 nde ned => ⟨_, rfl, e, de, rfl, upd_same, fun H1 er0 kp ner hE => ⟨rfl, ?_⟩⟩
  have s1 : Same H H1 := fun b o w => kp b o (same_made ne0 nde (fun _ _ => rfl) _ _ w) (ne_of_none w ne0)
  refine ⟨by show 0 ≤ sizeLine; decide, fun t nt => ?_⟩
  have s2 : Same H1 (upd H1 t (.lst [])) := same_up nt
  have et : (upd H1 t (.lst [])) t = some (.lst []) := upd_same
  generalize hH2 : upd H1 t (.lst []) = H2 at *
  have s12 := s1.trans s2
  have hE2 := hE.same s2
  have t_er : t ≠ er0 := (ne_of_none hE.er nt).symm
  refine ⟨_, rfl, _, rfl, a, l, raw, rfl, s12.seq hS, hl, hraw, fun H3 p cs s3 ep hC fr np => ?_⟩
  have hE3 := hE2.same s3
  have et3 := s3 _ _ et
  have p_er : p ≠ er0 := (ne_of_none hE2.er np).symm
  have p_t : p ≠ t := (ne_of_none et np).symm
  have lenC := hC.len
  rw [List.length_map] at lenC
  have prot : ∀ y ∈ cs, (y.nl ≠ er0 ∧ y.nl ≠ t) ∧ y.rl ≠ er0 ∧ y.rl ≠ t := fun y hy => by
    obtain ⟨f1, f2⟩ := fr y hy
    exact ⟨⟨(ne_of_none hE2.er f1).symm, (ne_of_none et f1).symm⟩, (ne_of_none hE2.er f2).symm, (ne_of_none et f2).symm⟩
  refine ⟨p, rfl, ⟨_, SqL.of ep⟩, for_list (K := K) (a := p) (xs := (cs.map CL.c).map V.ref) (fun i σ H' => ∃ (y : Lay) (v3 v4 : Option V), σ = [some (.ref a), some (.ref e), some (.ref t), v3, v4] ∧ StAt K H' e y (stateAt Vbbral.start (cls.take i)) ∧ LamX.Tabs (LamT K) H' ∧
      H' t = some (.lst ((PyFlat.told (played Vbbral.start (cls.take i))).map V.int)) ∧ ((t ≠ y.er ∧ some t ≠ y.wl) ∧ ¬ y.has t) ∧ (∀ b o, H3 b = some o → KeepO o → b ≠ er0 → b ≠ t → H' b = some o ∧ b ≠ y.er ∧ some b ≠ y.wl))
    ⟨⟨er0, [], none⟩, none, none, rfl, ⟨hE3, True.intro, fun r hr => by (cases hr), List.nodup_nil⟩, hT.ext (s12.trans s3), et3, ⟨⟨t_er, fun z => by cases z⟩, fun z => by
      rcases z with ⟨r, hr, _⟩ | ⟨u, hu, _⟩
      · cases hr
      · cases hu⟩, fun b o w _ h1 _ => ⟨w, h1, fun z => by cases z⟩⟩
    (fun i σ H' _ z => by
      obtain ⟨y, v3, v4, _, _, _, _, _, z6⟩ := z
      exact SqL.of (z6 _ _ ep True.intro p_er p_t).1) ?_ ?_⟩
  · rintro i x σ H4 hx ⟨y, v3, v4, rfl, S4, T4, et4, ⟨⟨ty1, ty2⟩, ty3⟩, pr⟩
    obtain ⟨c, m, rfl, e1, e2, hCm⟩ := hC.get hx
    rw [List.getElem?_map] at e2
    obtain ⟨rc, e3, rfl⟩ := Option.map_eq_some_iff.mp e2
    have ir := (List.getElem?_eq_some_iff.mp e3).1
    obtain ⟨cl, e4⟩ : ∃ cl, cls[i]? = some cl := ⟨_, List.getElem?_eq_getElem (by omega)⟩
    have ok := cl2 i rc cl e3 e4
    have pc := prot c (List.mem_of_getElem? e1)
    obtain ⟨dcc, hcc⟩ := hCm.ins
    have C4 : CallAt K H4 c (cM rc) := ⟨⟨dcc, (pr _ _ hcc rfl (ne_of hcc hE3.er (by intro z; cases z)) (ne_of hcc et3 (by intro z; cases z))).1⟩, (pr _ _ hCm.nums True.intro pc.1.1 pc.1.2).1, (pr _ _ hCm.row True.intro pc.2.1 pc.2.2).1⟩
    have inv := state_inv (cls.take i) Vbbral.start 0 inv_start
    have tk : (cls.take i).length ≤ 200 := Nat.le_trans (List.length_take_le' ..) (by omega)
    have tmore := take_one e4
    have pl : played Vbbral.start (cls.take (i + 1)) = played Vbbral.start (cls.take i) ++ [(Vbbral.step (stateAt Vbbral.start (cls.take i)) cl).2] := by rw [tmore, played_snoc]
    have sm : stateAt Vbbral.start (cls.take (i + 1)) = (Vbbral.step (stateAt Vbbral.start (cls.take i)) cl).1 := by rw [tmore, state_snoc]
    have pi := pref (i + 1)
    rw [pl, told_append, List.length_append] at pi
    have one : PyFlat.told [(Vbbral.step (stateAt Vbbral.start (cls.take i)) cl).2] = (((Vbbral.step (stateAt Vbbral.start (cls.take i)) cl).2.length : Nat) : Int) :: (Vbbral.step (stateAt Vbbral.start (cls.take i)) cl).2 := by
      unfold PyFlat.told
      rw [List.flatMap_cons, List.flatMap_nil, List.append_nil]
    rw [one, List.length_cons] at pi
    rw [sm, pl, told_append, one]
    refine ⟨_, rfl, _, rfl, _, _, rfl, e, y, stateAt Vbbral.start (cls.take i), c, cM rc, cl, 0 + (cls.take i).length, rfl, rfl, ok.opt, ok.nums, by have := ok.row; omega, inv, by omega, S4, C4, T4, fun H5 p5 y5 S5 F5 T5 e5 nf => ?_⟩
    generalize (Vbbral.step (stateAt Vbbral.start (cls.take i)) cl).2 = ans at *
    generalize (Vbbral.step (stateAt Vbbral.start (cls.take i)) cl).1 = s5 at *
    have p5t : p5 ≠ t := fun z => nf (.lst _) (by rw [z]; exact et4) True.intro
    have et5 := F5.keep t _ et4 True.intro ty1 ty2
    have ty3' := F5.ls t _ et4 True.intro ty3
    have ty1' : t ≠ y5.er := by
      rcases F5.er with z | z
      · rw [z]; exact ty1
      · exact fun w => z (.lst _) (by rw [← w]; exact et4) True.intro
    have ty2' : some t ≠ y5.wl := by
      rcases F5.wl with z | z
      · rw [z]; exact ty2
      · exact fun w => z t w.symm _ et4 True.intro
    refine ⟨_, rfl, .inl ⟨rfl, _, SqL.of et5⟩, _, rfl, p5, _, rfl, .inl (SqL.of e5), t, _, _, rfl, rfl, et5, by rw [List.length_map]; exact Nat.lt_of_le_of_lt (m := 10000000) (by omega) (by decide), ?_⟩
    have et6 : (upd H5 t (.lst ((PyFlat.told (played Vbbral.start (cls.take i))).map V.int ++ [.int ((ans.map V.int).length : Nat)]))) t = some (.lst ((PyFlat.told (played Vbbral.start (cls.take i))).map V.int ++ [.int ((ans.map V.int).length : Nat)])) := upd_same
    refine ⟨_, rfl, .inl ⟨rfl, _, SqL.of et6⟩, _, rfl, t, p5, _, _, rfl, rfl, et6, by rw [upd_ne p5t]; exact e5, by rw [List.length_append, List.length_map, List.length_map]; exact Nat.le_of_lt (Nat.lt_of_le_of_lt (m := 10000001) (by show _ + 1 + _ ≤ _; omega) (by decide)), ?_⟩
    have at7 : ∀ b, b ≠ t → ∀ xs ys, (upd (upd H5 t (.lst xs)) t (.lst ys)) b = H5 b := fun b hb xs ys => by rw [upd_ne hb, upd_ne hb]
    refine ⟨y5, _, _, rfl, S5.off (at7 · · _ _) et5 ty1' ty2' ty3', ?_, ?_, ⟨⟨ty1', ty2'⟩, ty3'⟩, fun b o w k n1 n2 => ?_⟩
    · exact Tabs.upd_lst (Tabs.upd_lst T5 et5) et6
    · rw [upd_same, List.map_append, List.map_cons, List.append_assoc, List.length_map]
      rfl
    · obtain ⟨w1, w2, w3⟩ := pr b o w k n1 n2
      refine ⟨by rw [at7 b n2]; exact F5.keep b o w1 k w2 w3, ?_, ?_⟩
      · rcases F5.er with z | z
        · rw [z]; exact w2
        · exact fun v => z o (by rw [← v]; exact w1) k
      · rcases F5.wl with z | z
        · rw [z]; exact w3
        · exact fun v => z b v.symm o w1 k
  · rintro σ H4 ⟨y, v3, v4, rfl, S4, T4, et4, _, pr⟩
    rw [List.length_map, List.length_map, lenC, ← cl1, List.take_length] at et4
    exact ⟨_, rfl, q H4 t et4⟩
end
end TR

set_option Elab.async false
set_option linter.all false
set_option maxRecDepth 100000
set_option maxHeartbeats 4000000
namespace TR
open PySem PySem.Spec PyProof.Rows L2
abbrev StD : He.Defn := ("Event", some "standing")
theorem txt_of {w : World} {K : PySem.W.Frag} {h base : Heap} {mg : Str → Option Value} (c : He.SaysX fa fn [] tf ex w h K) (X : K.In base) (G : base.Ns mainGlobals mg) (TB : LamX.TabB base mg (He.cT K StD).1 (He.cT K StD).2) : Txt w K mg base :=
  ⟨c.t.d, c.more, fun i x e => He.glo_ok X G (c.t.d.fact i e), fun i x e => He.free_ok X G (c.t.d.fact i e), fun i x z e => let ⟨t, q⟩ := He.int_ok X G (c.t.d.fact i e); ⟨_, q, t, rfl⟩, TB⟩
theorem vals_well {Pm : Params} {h : Heap} : ∀ {ns : List Int} {vs : List Value}, PySem.W.WellAll Pm h vs (ns.map PySem.W.WData.int) → Vals (ns.map V.int) vs
  | [], _, x => by
    cases x
    exact .nil
  | n :: ns, _, x => by
    obtain ⟨v, vs, rfl, x1, x2⟩ := well_cons x
    cases x1 with
    | int _ => exact .cons ⟨_, rfl⟩ (vals_well x2)
/-- what is tracked at the start: the argument, the table of the lambda's maker -/
def H0 (K : PySem.W.Frag) (a q : Addr) (ob : Obj) (xs : List V) : Hp := fun b => if b = q then some (.tbl #[]) else if b = a ∧ K.lookup a = none then some (.frz ob (.lst xs)) else none
section
variable {K : PySem.W.Frag} {a q : Addr} {ob : Obj} {xs : List V}
theorem H0_q : H0 K a q ob xs q = some (.tbl #[]) := if_pos rfl
theorem H0_a (n : a ≠ q) (k : K.lookup a = none) : H0 K a q ob xs a = some (.frz ob (.lst xs)) := (if_neg n).trans (if_pos ⟨rfl, k⟩)
theorem H0_is {b : Addr} {u : HO} (e : H0 K a q ob xs b = some u) : (b = q ∧ u = .tbl #[]) ∨ (b ≠ q ∧ b = a ∧ K.lookup a = none ∧ u = .frz ob (.lst xs)) := by
  unfold H0 at e
  by_cases c : b = q
  · rw [if_pos c] at e
    cases e
    exact .inl ⟨c, rfl⟩
  · rw [if_neg c] at e
    by_cases d : b = a ∧ K.lookup a = none
    · rw [if_pos d] at e
      cases e
      exact .inr ⟨c, d.1, d.2, rfl⟩
    · rw [if_neg d] at e
      cases e
end
theorem end_call {P : Program} {w : World} {K : PySem.W.Frag} {mg mb : Str → Option Value} {s₁ : Shared} {R : PySem.W.WRecords} {cl : Str → Option Addr} (KX : K.In s₁.heap) (G1 : s₁.heap.Ns mainGlobals mg) (G2 : s₁.heap.Ns builtinsNs mb)
    (G3 : ∀ x : Str, x ≠ "__name__" → mb x = bootBuiltins x) (G4 : s₁.heap.NoLimit) (G5 : s₁.gens = #[]) (G6 : ∃ (bm : Addr) (o : Obj), mg "__builtins__" = some (.ref bm) ∧ bm ≠ builtinsNs ∧ s₁.heap.get? bm = some o ∧ o.cls = .type "module" ∧ o.dict = some builtinsNs ∧ o.data = .plain)
    (c : He.SaysX fa fn [] tf ex w s₁.heap K) {a f : Addr} {vs : List Value} {ns : List Int} (ha : s₁.heap.get? a = some { cls := .type "list", data := .seq vs.toArray }) (hv : Vals (ns.map V.int) vs) (hn : ns.length ≤ 17000)
    {raw : List (List (List Int))} (hraw : PyFlat.calls PyVbbral.shape ns.length ns = some raw) (h200 : raw.length ≤ 200) (hbig : (PyVbbral.answers ns).length ≤ 10000000) (hmg : mg "answers" = some (.ref f)) :
    codeAny (model P w) callerA (.call (.ref f) ⟨[.ref a], []⟩) (fun r s' => ∃ u as, r = .ok (.ret u) ∧ PySem.W.ReadsW R cl s'.heap u (.list ((PyVbbral.answers ns).map PySem.W.WData.int)) as ∧ OldK s₁.heap s'.heap ∧ s'.os = s₁.os ∧ AllBare s'.gens) s₁ := by
  have mem : StD ∈ tf := List.mem_singleton.mpr rfl
  have hq := c.empty _ mem
  have nq := c.out _ mem
  have CH := PySem.W.codeHd_of_K KX (c.hd _ mem)
  have hga : f = He.ga K "answers" := by
    have e := hmg.symm.trans (He.glo_ok KX G1 (c.t.d.fact 36 (f := .glo "answers") rfl))
    cases e
    rfl
  subst hga
  generalize hcq : (He.cT K StD).2 = q at hq nq CH
  have naq : a ≠ q := fun z => by
    rw [z, hq] at ha
    cases ha
  have vl := hv.length
  rw [List.length_map] at vl
  -- the start
  have start_ok : HOk P w (H0 K a q { cls := .type "list", data := .seq vs.toArray } (ns.map V.int)) s₁.heap := fun b u e => by
    rcases H0_is e with ⟨rfl, rfl⟩ | ⟨_, rfl, _, rfl⟩
    · exact hq
    · exact ⟨ha, by rw [List.length_map]; exact Nat.le_of_lt (line_lt (by omega)), vs, _, hv, ha⟩
  have start_a : SqL K (H0 K a q { cls := .type "list", data := .seq vs.toArray } (ns.map V.int)) a (ns.map V.int) := by
    cases hk : K.lookup a with
    | none => exact .inl (.inr ⟨_, H0_a naq hk⟩)
    | some o =>
      have e := KX a o hk
      rw [ha] at e
      cases e
      exact .inr ⟨_, vs.toArray, _, hk, rfl, rfl, rfl, by rw [List.size_toArray, ← vl]; exact Nat.le_of_lt (line_lt (by omega)), by simpa using hv⟩
  have untracked : ∀ {b : Addr} {o : Obj}, s₁.heap.get? b = some o → (∀ l n, o.data ≠ .seq l n) → o.data ≠ .fields #[] → H0 K a q { cls := .type "list", data := .seq vs.toArray } (ns.map V.int) b = none := fun {b o} e n1 n2 => by
    cases z : H0 K a q { cls := .type "list", data := .seq vs.toArray } (ns.map V.int) b with
    | none => rfl
    | some u =>
      rcases H0_is z with ⟨rfl, _⟩ | ⟨_, rfl, _, _⟩
      · rw [hq] at e
        cases e
        exact absurd rfl n2
      · rw [ha] at e
        cases e
        exact absurd rfl (n1 _ _)
  have inK : ∀ b o, K.lookup b = some o → H0 K a q { cls := .type "list", data := .seq vs.toArray } (ns.map V.int) b = none := fun b o e => by
    cases z : H0 K a q { cls := .type "list", data := .seq vs.toArray } (ns.map V.int) b with
    | none => rfl
    | some u =>
      rcases H0_is z with ⟨rfl, _⟩ | ⟨_, rfl, k, _⟩
      · rw [nq] at e; cases e
      · rw [k] at e; cases e
  generalize hH : H0 K a q { cls := .type "list", data := .seq vs.toArray } (ns.map V.int) = H at start_ok start_a untracked inK
  have Hq : H q = some (.tbl #[]) := by rw [← hH]; exact H0_q
  have down : ∀ {b : Addr} {o : Obj}, s₁.heap.get? b = some o → H b = none → (hidT s₁.heap H).get? b = some o := fun e n => hidT_get e n
  have downN : ∀ {b : Addr} {m : Str → Option Value}, s₁.heap.Ns b m → (hidT s₁.heap H).Ns b m := fun {b m} ⟨o, es, ep, e, d, r⟩ => ⟨o, es, ep, down e (untracked e (fun l n z => by rw [d] at z; cases z) fun z => by rw [d] at z; cases z), d, r⟩
  have KB : K.In (hidT s₁.heap H) := fun b o e => down (KX b o e) (inK b o e)
  have NB := downN G1
  have M : L2.Mod K mg (hidT s₁.heap H) := ⟨KB, NB, ⟨mb, downN G2, G3⟩, let ⟨mc, z1, z2⟩ := G4; ⟨mc, downN z1, z2⟩⟩
  have TB : LamX.TabB (hidT s₁.heap H) mg (He.cT K StD).1 (He.cT K StD).2 := by
    rw [hcq]
    refine ⟨?_, ?_, fun z => ?_⟩
    · obtain ⟨o, us, file, x1, flags, x2, inF, text, x3, e1, r1, r2, r3, r4⟩ := CH
      refine ⟨o, us, file, x1, flags, x2, inF, text, x3, down e1 (untracked e1 (fun l n z => by rw [r2] at z; cases z) fun z => ?_), r1, r2, r3, r4⟩
      rw [r2] at z
      cases z
      simp at r3
    · obtain ⟨bm, o, b1, b2, b3, b4, b5, b6⟩ := G6
      refine ⟨bm, o, b1, b2, fun z => ?_, fun z => ?_, down b3 (untracked b3 (fun l n z => by rw [b6] at z; cases z) fun z => by rw [b6] at z; cases z), b4, b5, b6⟩
      · obtain ⟨o', es, ep, e, d, _⟩ := G1
        rw [z, e] at b3
        cases b3
        rw [d] at b6
        cases b6
      · rw [z, hq] at b3
        cases b3
        cases b6
    · obtain ⟨o', es, ep, e, d, _⟩ := G1
      rw [z, hq] at e
      cases e
      cases d
  have T := txt_of c KB NB TB
  obtain ⟨⟨fd, F, hb⟩, kp⟩ := ok_answers (P := P) T
  have E0 : Env0 P w K mg (hidT s₁.heap H) callerA [] s₁ H := ⟨rfl, M, fun b o e => of_hidT e, Nat.le_of_eq (hidT_size _ _), trivial, fun b z => absurd (show b ∈ ([] : List Addr) from z) (by simp), start_ok, .of_eq G5⟩
  have tabs : LamX.Tabs (LamT K) H := fun p hp => by
    have hp := List.mem_singleton.mp hp
    subst hp
    exact LamX.TabS.nil (by show H (He.cT K StD).2 = _; rw [hcq]; exact Hq)
  refine codeAny_mono (F.run callerA [] s₁ H ⟨[.ref a], []⟩ [.ref a] [.ref a] (fun v H' => Dw K H' v (.list ((PyVbbral.answers ns).map PySem.W.WData.int))) (fun _ _ _ => False) ⟨rfl, by decide, by decide⟩ E0 (hb s₁ [.ref a] KX rfl) (.cons rfl .nil) ⟨_, rfl, a, ns, raw, rfl, start_a, hn, hraw, h200, hbig, tabs, fun H' p e => .lst (SqL.of e) (dw_ints _)⟩) fun r s' z => ?_
  match r, z with
  | .error _, z => exact False.elim z
  | .ok .next, z => exact False.elim z
  | .ok .brk, z => exact False.elim z
  | .ok .cont, z => exact False.elim z
  | .ok (.ret u), z =>
    obtain ⟨v, H', z1, z2, un, ok', rv, due⟩ := z
    have same : ∀ b o, b ≠ q → s₁.heap.get? b = some o → s'.heap.get? b = some o := fun b o nb e => by
      cases t : H b with
      | none => exact un.keep b o e t (fun i => absurd (show b ∈ ([] : List Addr) from i) (by simp)) (by simp)
      | some x =>
        have t0 := t
        rw [← hH] at t0
        rcases H0_is t0 with ⟨i, _⟩ | ⟨_, _, _, rfl⟩
        · exact absurd i nb
        · obtain ⟨e1, _⟩ := start_ok b _ t
          obtain ⟨e2, _⟩ := ok' b _ (un.frzs b _ _ t)
          rw [e] at e1
          cases e1
          exact e2
    obtain ⟨more, tq⟩ := un.tbls q #[] Hq
    have grown := ok' q _ tq
    have K2 : K.In s'.heap := fun b o e => same b o (fun i => by rw [i, nq] at e; cases e) (KX b o e)
    obtain ⟨as, rd⟩ := Dw.reads (R := R) (cl := cl) ok' K2 _ v u due rv
    refine ⟨u, as, rfl, rd, ⟨fun b o e => ?_, fun b o e => ?_⟩, z1, z2⟩
    · by_cases i : b = q
      · rw [i] at e ⊢
        rw [hq] at e
        cases e
        exact .inr (.inl ⟨(CH.tab hq).isCodeTable, rfl, #[], _, rfl, by rw [Array.empty_append]; exact grown⟩)
      · exact .inl (same b o i e)
    · by_cases i : b = q
      · rw [i]
        exact ⟨_, grown⟩
      · exact ⟨o, same b o i e⟩
end TR

set_option Elab.async false
set_option linter.all false
set_option maxRecDepth 100000
set_option maxHeartbeats 0
namespace TR
open PySem PySem.W PySem.Calls PyProof.Rows
theorem asked_in {l : List Int} (h : PyVbbral.answers_asked l = true) : ∃ raw, PyFlat.calls PyVbbral.shape l.length l = some raw ∧ raw.length ≤ 200 ∧ (PyVbbral.answers l).length ≤ 10000000 := by
  unfold PyVbbral.answers_asked at h
  cases hc : PyFlat.calls PyVbbral.shape l.length l with
  | none => rw [hc] at h; cases h
  | some raw =>
    rw [hc] at h
    simp only [Bool.and_eq_true] at h
    obtain ⟨⟨⟨⟨_, h1⟩, _⟩, _⟩, h2⟩ := h
    exact ⟨raw, rfl, of_decide_eq_true h1, of_decide_eq_true h2⟩
def dLast : DefRec := HandSHeadRun.topDef RW.prog 64
theorem the_call (hwell : RW.wellSaid = true) : WalkOS qv names (XL qv []) hk.says RW dLast [] (fun f vs => PySem.call f vs) := by
  intro w s₀ s₁ mg mb G Y f o pm cd doc dV kV ho hd hcd hD hmg hg args vals as hpre hlay hrd hwl hlo
  obtain ⟨K, KX, c⟩ := Y
  obtain ⟨a, e1, e2⟩ := os_pre_some hpre
  obtain ⟨e3, hwi⟩ := Codec.encAll_of_decAll RW.args args a e1
  subst e3
  have q0 : ((Codec.inLen 0 17000 a.1 && a.1.all (Codec.inInt (Int.negSucc 999999999999999999) (Int.ofNat 1000000000000000000))) && true) = true := hwi
  rw [Bool.and_eq_true, Bool.and_eq_true] at q0
  have len := (Codec.inNat_iff.mp q0.1.1).2
  have ask : PyVbbral.answers_asked a.1 = true := e2
  obtain ⟨raw, hraw, h200, hbig⟩ := asked_in ask
  have hwl1 : WellAll w.params s₁.heap vals [.list (a.1.map WData.int)] := hwl
  obtain ⟨v, vs0, rfl, x1, x2⟩ := L2.well_cons hwl1
  cases x2
  obtain ⟨p, vs, rfl, hp, hvs⟩ := L2.well_list x1
  have hm : mg ("answers" : PySem.Str) = some (.ref f) := by
    have e : dLast.name = ("answers" : PySem.Str) := by kernel_rfl
    rw [← e]
    exact hmg
  refine enter_call (codeAny_mono (end_call (P := RW.prog) (R := []) (cl := classAt s₀.heap) KX G.T.g G.T.b G.T.builtins G.T.nolimit hg G.T.bmain c hp (vals_well hvs) len hraw h200 hbig hm) fun r s' z => ?_)
  obtain ⟨u, as', rfl, z1, z2, z3, z4⟩ := z
  exact ⟨.inl ⟨u, _, as', rfl, fun _ => rfl, z1, (OpenSpec.post_iff hwell hwi _ _).mpr rfl, fun i => Bool.noConfusion (show false = true from i)⟩, z2, z3, z4⟩
end TR
open PySem PySem.W PySem.Calls PyProof.Rows
theorem PySem.Challenge.cw_teamrounds_s01_answers_holds : PySem.Challenge.rw_teamrounds_s01_answers.Holds := by
  refine HandSHeadRun.head_spec (r := TR.RW) (q := TR.qv) (H := TR.hk) (ob := TR.ob) (M := 4000) (loose := TR.names) (d := TR.dLast) (kwd := []) TR.ob_eq (by kernel_rfl) (fun s => by kernel_rfl) TR.run (by kernel_rfl) (by kernel_rfl) (by kernel_rfl) ?hsh ?hwell ?hok ⟨rfl, rfl, rfl, rfl, rfl, by decide +kernel⟩ ?hw ?hc
  case hsh => exact os_shapes
  case hwell => decide +kernel
  case hok => decide +kernel
  case hw => exact ⟨[.list [.int 10, .int 0]], by decide +kernel, by decide +kernel⟩
  case hc => exact TR.the_call (by decide +kernel)

