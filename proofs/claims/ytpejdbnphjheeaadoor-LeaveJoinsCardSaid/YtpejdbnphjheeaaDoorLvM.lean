/-
  What is proved: plain facts on a year's acts: the order in which they are sorted, what they make of a balance, and what all years make of it. Conditions: as each says.
-/
import Derived.Test.YtpejdbnphjheeaaDoorLvE
namespace Go.Proofs.YtpejdbnphjheeaaDoor
open Go Go.RowKit Go.Proofs Go.Proofs.YtpejdbnphjheeaaDoor.Cv
set_option linter.unusedVariables false

theorem good_unique {r f h : Nat → Nat} {n : Nat} (a : Ss.Good r f 0 n) (b : Ss.Good r h 0 n) : ∀ i, i < n → f i = h i := by
  intro i
  induction i using Nat.strongRecOn with
  | ind i ih =>
    intro hi
    obtain ⟨k, -, k1, k2⟩ := a.2.2 (h i) (by omega) (b.2.1 i (by omega) hi).2
    obtain ⟨l, -, l1, l2⟩ := b.2.2 (f i) (by omega) (a.2.1 i (by omega) hi).2
    have ki : i ≤ k := by
      by_cases c : k < i
      · have e := ih k c k1
        have := b.1 k i (by omega) c hi
        rw [← e, k2] at this
        exact absurd this Ss.bef_irr
      · omega
    have li : i ≤ l := by
      by_cases c : l < i
      · have e := ih l c l1
        have := a.1 l i (by omega) c hi
        rw [e, l2] at this
        exact absurd this Ss.bef_irr
      · omega
    by_cases c : k = i
    · rw [← k2, c]
    · by_cases c2 : l = i
      · rw [← l2, c2]
      · have x := a.1 i k (by omega) (by omega) k1
        have y := b.1 i l (by omega) (by omega) l1
        rw [k2] at x
        rw [l2] at y
        exact absurd y (Ss.bef_not x)

/-- How the acts stand behind the sort. -/
def perm (t e k : Nat) (i : Nat) : Nat := if i < t then i else if i < t + k then i + e else if i < t + k + e then t else i
theorem perm_good {r : Nat → Nat} {dd : Nat → Int} {t e k m : Nat} {D : Nat → Int} {s1 sE : Int} (ht : t ≤ 1) (he : e ≤ 1) (hk : k ≤ m) (hr : ∀ x y, x < t + e + m → y < t + e + m → (r y < r x ↔ dd x < dd y) ∧ (r x = r y ↔ dd x = dd y))
    (h1 : t = 1 → dd 0 = s1) (h2 : e = 1 → dd t = sE) (h3 : ∀ j, j < m → dd (t + e + j) = D j) (m1 : t = 1 → e = 1 → s1 ≤ sE) (m2 : t = 1 → ∀ j, j < m → s1 ≤ D j) (m3 : ∀ i j, i ≤ j → j < m → D i ≤ D j) (m4 : e = 1 → ∀ j, j < k → D j < sE) (m5 : e = 1 → ∀ j, k ≤ j → j < m → sE ≤ D j) (m6 : e = 0 → k = m) :
    Ss.Good r (perm t e k) 0 (t + e + m) := by
  have bef : ∀ x y, x < t + e + m → y < t + e + m → (dd x < dd y ∨ (dd x = dd y ∧ x < y)) → Ss.bef r x y := fun x y hx hy h => by
    obtain ⟨a, b⟩ := hr x y hx hy
    rcases h with h | ⟨h, h'⟩
    · exact .inl (a.2 h)
    · exact .inr ⟨b.2 h, h'⟩
  have bnd : ∀ i, i < t + e + m → perm t e k i < t + e + m := fun i hi => by unfold perm; split; omega; split; omega; split <;> omega
  refine ⟨fun i j _ hij hj => ?_, fun i _ hi => ⟨by omega, bnd i hi⟩, fun v _ hv => ?_⟩
  · have kind : ∀ i, i < t + e + m → (i < t ∧ t = 1 ∧ i = 0 ∧ perm t e k i = 0 ∧ dd (perm t e k i) = s1) ∨ (∃ q, q < k ∧ i = t + q ∧ perm t e k i = t + e + q ∧ dd (perm t e k i) = D q) ∨ (e = 1 ∧ i = t + k ∧ perm t e k i = t ∧ dd (perm t e k i) = sE) ∨ (∃ q, k ≤ q ∧ q < m ∧ i = t + e + q ∧ perm t e k i = t + e + q ∧ dd (perm t e k i) = D q) := fun i hi => by
      by_cases c1 : i < t
      · left
        have e0 : i = 0 := by omega
        subst e0
        have hp : perm t e k 0 = 0 := by unfold perm; rw [if_pos c1]
        exact ⟨c1, by omega, rfl, hp, by rw [hp]; exact h1 (by omega)⟩
      · right
        by_cases c2 : i < t + k
        · left
          have hp : perm t e k i = t + e + (i - t) := by unfold perm; rw [if_neg c1, if_pos c2]; omega
          exact ⟨i - t, by omega, by omega, hp, by rw [hp]; exact h3 _ (by omega)⟩
        · right
          by_cases c3 : i < t + k + e
          · left
            have hp : perm t e k i = t := by unfold perm; rw [if_neg c1, if_neg c2, if_pos c3]
            exact ⟨by omega, by omega, hp, by rw [hp]; exact h2 (by omega)⟩
          · right
            have hp : perm t e k i = t + e + (i - t - e) := by unfold perm; rw [if_neg c1, if_neg c2, if_neg c3]; omega
            exact ⟨i - t - e, by omega, by omega, by omega, hp, by rw [hp]; exact h3 _ (by omega)⟩
    refine bef _ _ (bnd i (by omega)) (bnd j hj) ?_
    rcases kind i (by omega) with ⟨a1, a2, a3, a4, a5⟩ | ⟨q, a1, a2, a3, a4⟩ | ⟨a1, a2, a3, a4⟩ | ⟨q, a1, a2, a3, a4, a5⟩ <;> rcases kind j hj with ⟨b1, b2, b3, b4, b5⟩ | ⟨q', b1, b2, b3, b4⟩ | ⟨b1, b2, b3, b4⟩ | ⟨q', b1, b2, b3, b4, b5⟩
    · omega
    · have := m2 a2 q' (by omega); omega
    · have := m1 a2 b1; omega
    · have := m2 a2 q' b2; omega
    · omega
    · have := m3 q q' (by omega) (by omega); omega
    · have := m4 b1 q a1; omega
    · have := m3 q q' (by omega) b2; omega
    · omega
    · omega
    · omega
    · have := m5 a1 q' b1 b2; omega
    · omega
    · omega
    · omega
    · have := m3 q q' (by omega) b2; omega
  · by_cases c1 : v < t
    · exact ⟨v, by omega, by omega, by unfold perm; rw [if_pos c1]⟩
    · by_cases c2 : v < t + e
      · exact ⟨t + k, by omega, by omega, by unfold perm; rw [if_neg (by omega), if_neg (by omega), if_pos (by omega)]; omega⟩
      · by_cases c3 : v < t + e + k
        · exact ⟨v - e, by omega, by omega, by unfold perm; rw [if_neg (by omega), if_pos (by omega)]; omega⟩
        · exact ⟨v, by omega, by omega, by unfold perm; rw [if_neg (by omega), if_neg (by omega), if_neg (by omega)]⟩

/-- What an act makes of a balance up to a day. -/
def stepE (until_ c : Int) (b : Bal) (e : Ev) : Bal := if e.day ≤ until_ then e.act c b else b
def applyE (until_ c : Int) (b : Bal) (es : List Ev) : Bal := es.foldl (stepE until_ c) b
theorem applyE_app (u c : Int) (b : Bal) (x y : List Ev) : applyE u c b (x ++ y) = applyE u c (applyE u c b x) y := List.foldl_append ..
/-- A year's acts in their order, of moves in theirs. -/
def canonE (Y0 Ex y : Int) (m : Nat) (D G T : Nat → Int) (k : Nat) : List Ev :=
  (if Y0 < y then [.turn (mstart y 1)] else []) ++ (List.range k).map (fun j => .mv (D j) (G j) (T j)) ++ (if Ex < 12 then [.exp (mstart y (1 + Ex))] else []) ++ (List.range (m - k)).map (fun j => .mv (D (k + j)) (G (k + j)) (T (k + j)))
theorem getD_mid {α : Type} (a b : List α) (d : α) (j : Nat) : (a ++ b).getD (a.length + j) d = b.getD j d := by
  rw [List.getD_eq_getElem?_getD, List.getD_eq_getElem?_getD, List.getElem?_append_right (by omega), Nat.add_sub_cancel_left]
theorem getD_map_range {α : Type} (f : Nat → α) (m j : Nat) (d : α) (h : j < m) : ((List.range m).map f).getD j d = f j := by
  rw [List.getD_eq_getElem?_getD, List.getElem?_map, List.getElem?_range h]; rfl
theorem range_getD {α : Type} (d : α) : ∀ (l : List α), (List.range l.length).map (fun i => l.getD i d) = l := fun l => by
  apply List.ext_getElem?
  intro i
  rw [List.getElem?_map]
  by_cases h : i < l.length
  · rw [List.getElem?_range h, Option.map_some, List.getD_eq_getElem?_getD, List.getElem?_eq_getElem h]; rfl
  · rw [List.getElem?_eq_none (by simpa using h), List.getElem?_eq_none (by omega)]; rfl
/-- The sorted acts of a year are these. -/
theorem sorted_is {Y0 Ex y : Int} {m : Nat} {D G T : Nat → Int} {k : Nat} (hk : k ≤ m) (y1 : 1900 ≤ y) (y2 : y ≤ 2199) (x1 : 0 ≤ Ex) (m2 : ∀ j, j < m → mstart y 1 ≤ D j) (m3 : ∀ i j, i ≤ j → j < m → D i ≤ D j) (m4 : Ex < 12 → ∀ j, j < k → D j < mstart y (1 + Ex)) (m5 : Ex < 12 → ∀ j, k ≤ j → j < m → mstart y (1 + Ex) ≤ D j) (m6 : ¬ Ex < 12 → k = m)
    (hD : ∀ j, j < m → D j ≤ 84006) {r f : Nat → Nat} {N : Nat} (hN : N = (evsOf Y0 Ex y m D G T).length) (hr : ∀ x, x < N → r x = (1000000 - ((evsOf Y0 Ex y m D G T).getD x (.exp 0)).day).toNat) (hf : Ss.Good r f 0 N) :
    (List.range N).map (fun i => (evsOf Y0 Ex y m D G T).getD (f i) (.exp 0)) = canonE Y0 Ex y m D G T k := by
  obtain ⟨A, hA⟩ : ∃ A : List Ev, A = (if Y0 < y then [.turn (mstart y 1)] else []) := ⟨_, rfl⟩
  obtain ⟨B, hB⟩ : ∃ B : List Ev, B = (if Ex < 12 then [.exp (mstart y (1 + Ex))] else []) := ⟨_, rfl⟩
  have hA1 : A = [] ∨ A = [.turn (mstart y 1)] := by rw [hA]; split <;> simp
  have hB1 : (B = [] ∧ ¬ Ex < 12) ∨ (B = [.exp (mstart y (1 + Ex))] ∧ Ex < 12) := by rw [hB]; split <;> simp_all
  have ht : A.length ≤ 1 := by rcases hA1 with h | h <;> rw [h] <;> simp
  have he : B.length ≤ 1 := by rcases hB1 with ⟨h, -⟩ | ⟨h, -⟩ <;> rw [h] <;> simp
  have hev : evsOf Y0 Ex y m D G T = A ++ B ++ (List.range m).map (fun j => .mv (D j) (G j) (T j)) := by rw [hA, hB]; rfl
  have hcn : canonE Y0 Ex y m D G T k = A ++ (List.range k).map (fun j => .mv (D j) (G j) (T j)) ++ B ++ (List.range (m - k)).map (fun j => .mv (D (k + j)) (G (k + j)) (T (k + j))) := by rw [hA, hB]; rfl
  rw [hev] at hN hr
  rw [hev, hcn]
  clear hA hB hev hcn
  have hNl : N = A.length + B.length + m := by rw [hN]; simp; omega
  have gM : ∀ j, j < m → (A ++ B ++ (List.range m).map (fun j => Ev.mv (D j) (G j) (T j))).getD (A.length + B.length + j) (.exp 0) = .mv (D j) (G j) (T j) := fun j hj => by
    rw [show A.length + B.length + j = (A ++ B).length + j by simp, getD_mid, getD_map_range _ _ _ _ hj]
  have gA : A.length = 1 → (A ++ B ++ (List.range m).map (fun j => Ev.mv (D j) (G j) (T j))).getD 0 (.exp 0) = .turn (mstart y 1) := fun h => by
    rcases hA1 with e | e
    · rw [e] at h; cases h
    · rw [e]; rfl
  have gB : B.length = 1 → (A ++ B ++ (List.range m).map (fun j => Ev.mv (D j) (G j) (T j))).getD A.length (.exp 0) = .exp (mstart y (1 + Ex)) := fun h => by
    rcases hB1 with ⟨e, -⟩ | ⟨e, -⟩
    · rw [e] at h; cases h
    · have := getD_mid A (B ++ (List.range m).map (fun j => Ev.mv (D j) (G j) (T j))) (.exp 0) 0
      rw [← List.append_assoc] at this
      rw [Nat.add_zero] at this
      rw [this, e]; rfl
  obtain ⟨Z, hZ⟩ : ∃ Z, Z = A ++ B ++ (List.range m).map (fun j => Ev.mv (D j) (G j) (T j)) := ⟨_, rfl⟩
  rw [← hZ] at hr gM gA gB ⊢
  have hx12 : B.length = 1 → Ex < 12 := fun h => by
    rcases hB1 with ⟨e, -⟩ | ⟨-, e⟩
    · rw [e] at h; cases h
    · exact e
  have hday : ∀ x, x < N → (Z.getD x (.exp 0)).day ≤ 84006 := fun x hx => by
    by_cases c1 : x < A.length
    · have e0 : x = 0 := by omega
      rw [e0, gA (by omega)]; exact mstart_le y1 y2 (by omega) (by omega)
    · by_cases c2 : x < A.length + B.length
      · have e0 : x = A.length := by omega
        have hb1 : B.length = 1 := by omega
        rw [e0, gB hb1]; exact mstart_le y1 y2 (by omega) (by have := hx12 hb1; omega)
      · rw [show x = A.length + B.length + (x - A.length - B.length) by omega, gM _ (by omega)]
        exact hD _ (by omega)
  have hG2 : Ss.Good r (perm A.length B.length k) 0 (A.length + B.length + m) := by
    refine perm_good (dd := fun x => (Z.getD x (.exp 0)).day) (D := D) (s1 := mstart y 1) (sE := mstart y (1 + Ex)) ht he hk (fun x z hx hz => ?_) (fun h => ?_) (fun h => ?_) (fun j hj => ?_) (fun _ h => ?_) (fun _ => m2) m3 (fun h => m4 (hx12 h)) (fun h => m5 (hx12 h)) (fun h => m6 (fun c => ?_))
    · rw [hr x (by omega), hr z (by omega)]
      have := hday x (by omega)
      have := hday z (by omega)
      constructor <;> constructor <;> intro h <;> omega
    · show (Z.getD 0 _).day = _; rw [gA h]; rfl
    · show (Z.getD A.length _).day = _; rw [gB h]; rfl
    · show (Z.getD _ _).day = _; rw [gM j hj]; rfl
    · have hx := hx12 h
      unfold mstart
      have := cum_bd y (1 + Ex)
      rw [cum_one]
      omega
    · rcases hB1 with ⟨-, e⟩ | ⟨e, -⟩
      · exact e c
      · rw [e] at h; cases h
  rw [hNl] at hf ⊢
  apply List.ext_getElem?
  intro i
  rw [List.getElem?_map]
  by_cases hi : i < A.length + B.length + m
  · rw [List.getElem?_range hi, Option.map_some, good_unique hf hG2 i hi]
    unfold perm
    by_cases c1 : i < A.length
    · rw [if_pos c1, hZ, List.append_assoc, List.append_assoc, List.append_assoc, getD_l _ _ _ c1, List.getElem?_append_left c1, List.getD_eq_getElem?_getD, List.getElem?_eq_getElem c1]; rfl
    · rw [if_neg c1]
      by_cases c2 : i < A.length + k
      · rw [if_pos c2, show i + B.length = A.length + B.length + (i - A.length) by omega, gM _ (by omega), List.append_assoc, List.append_assoc, List.getElem?_append_right (by omega), List.getElem?_append_left (by simp; omega), List.getElem?_map, List.getElem?_range (by omega)]; rfl
      · rw [if_neg c2]
        by_cases c3 : i < A.length + k + B.length
        · have hb1 : B.length = 1 := by omega
          rw [if_pos c3, gB hb1]
          rcases hB1 with ⟨e, -⟩ | ⟨e, -⟩
          · rw [e] at hb1; cases hb1
          · rw [List.append_assoc, List.getElem?_append_right (by simp; omega), List.getElem?_append_left (by rw [e]; simp; omega), e, show i - (A ++ (List.range k).map (fun j => Ev.mv (D j) (G j) (T j))).length = 0 by simp; omega]; rfl
        · rw [if_neg c3, show i = A.length + B.length + (k + (i - A.length - k - B.length)) by omega, gM _ (by omega), List.getElem?_append_right (by simp; omega), List.getElem?_map, List.getElem?_range (by simp; omega)]
          simp only [Option.map_some, List.length_append, List.length_map, List.length_range]
          rw [show k + (A.length + B.length + (k + (i - A.length - k - B.length)) - (A.length + k + B.length)) = k + (i - A.length - k - B.length) by omega]
  · rw [List.getElem?_eq_none (by simpa using hi), List.getElem?_eq_none (by simp; omega)]; rfl

/-! The years. -/
abbrev Mv := Int × Int × Int
def mvE (x : Mv) : Ev := .mv x.1 x.2.1 x.2.2
def inY (a b : Int) (x : Mv) : Bool := decide (a ≤ x.1) && decide (x.1 < b)
/-- The acts of a year, in their order, of all moves. -/
def yearL (Y0 Ex : Int) (l : List Mv) (y : Int) : List Ev :=
  (if Y0 < y then [.turn (mstart y 1)] else []) ++ (if Ex < 12 then (l.filter (inY (mstart y 1) (mstart y (1 + Ex)))).map mvE ++ .exp (mstart y (1 + Ex)) :: (l.filter (inY (mstart y (1 + Ex)) (jan (y + 1)))).map mvE else (l.filter (inY (mstart y 1) (jan (y + 1)))).map mvE)
/-- What so many years make of a balance. -/
def yearsE (Y0 Ca Ex u : Int) (l : List Mv) : Nat → Bal
  | 0 => ⟨0, 0, 0, 0, 0⟩
  | i + 1 => applyE u Ca (yearsE Y0 Ca Ex u l i) (yearL Y0 Ex l (Y0 + (i : Int)))
theorem filter_none {α : Type} {p : α → Bool} {l : List α} (h : ∀ x ∈ l, p x = false) : l.filter p = [] := List.filter_eq_nil_iff.2 (fun x hx => by rw [h x hx]; exact Bool.false_ne_true)
theorem filter_all {α : Type} {p : α → Bool} {l : List α} (h : ∀ x ∈ l, p x = true) : l.filter p = l := List.filter_eq_self.2 h
/-- A filter that takes just a range of places. -/
theorem filter_range {α : Type} (f : Nat → α) (p : α → Bool) (a b n : Nat) (hab : a ≤ b) (hbn : b ≤ n) (h : ∀ j, j < n → (p (f j) = true ↔ a ≤ j ∧ j < b)) : ((List.range n).map f).filter p = (List.range (b - a)).map (fun j => f (a + j)) := by
  have e : (List.range n).map f = (List.range a).map f ++ ((List.range (b - a)).map (fun j => f (a + j)) ++ (List.range (n - b)).map (fun j => f (b + j))) := by
    have e1 : List.range n = List.range (a + ((b - a) + (n - b))) := by congr 1; omega
    rw [e1, List.range_add, List.range_add]
    simp only [List.map_append, List.map_map]
    congr 2
    apply List.map_congr_left
    intro j _
    show f (a + ((b - a) + j)) = f (b + j)
    congr 1; omega
  rw [e, List.filter_append, List.filter_append, filter_none, filter_all, filter_none]
  · simp
  · intro x hx
    obtain ⟨j, hj, rfl⟩ := List.mem_map.1 hx
    rw [List.mem_range] at hj
    cases hp : p (f (b + j))
    · rfl
    · have := (h (b + j) (by omega)).1 hp; omega
  · intro x hx
    obtain ⟨j, hj, rfl⟩ := List.mem_map.1 hx
    rw [List.mem_range] at hj
    exact (h (a + j) (by omega)).2 ⟨by omega, by omega⟩
  · intro x hx
    obtain ⟨j, hj, rfl⟩ := List.mem_map.1 hx
    rw [List.mem_range] at hj
    cases hp : p (f j)
    · rfl
    · have := (h j (by omega)).1 hp; omega
/-- All moves as a list. -/
def mvL (n : Nat) (D G T : Nat → Int) : List Mv := (List.range n).map (fun j => (D j, G j, T j))
/-- A year's acts of its own moves are those of all moves. -/
theorem canon_is {Y0 Ex y : Int} {n j0 m k : Nat} {D G T : Nat → Int} (hk : k ≤ m) (hm : j0 + m ≤ n) (x1 : 0 ≤ Ex) (h1 : ∀ j, j < j0 → D j < mstart y 1) (h2 : ∀ j, j0 ≤ j → j < j0 + m → mstart y 1 ≤ D j ∧ D j < jan (y + 1)) (h3 : ∀ j, j0 + m ≤ j → j < n → jan (y + 1) ≤ D j)
    (m4 : Ex < 12 → ∀ j, j < k → D (j0 + j) < mstart y (1 + Ex)) (m5 : Ex < 12 → ∀ j, k ≤ j → j < m → mstart y (1 + Ex) ≤ D (j0 + j)) (m6 : ¬ Ex < 12 → k = m) (hEx : Ex < 12 → mstart y 1 ≤ mstart y (1 + Ex) ∧ mstart y (1 + Ex) ≤ jan (y + 1)) :
    canonE Y0 Ex y m (fun j => D (j0 + j)) (fun j => G (j0 + j)) (fun j => T (j0 + j)) k = yearL Y0 Ex (mvL n D G T) y := by
  unfold canonE yearL mvL
  by_cases hx : Ex < 12
  · obtain ⟨e1, e2⟩ := hEx hx
    rw [if_pos hx, if_pos hx]
    have a4 := m4 hx
    have a5 := m5 hx
    rw [filter_range _ _ j0 (j0 + k) n (by omega) (by omega) (fun j hj => ?_), filter_range _ _ (j0 + k) (j0 + m) n (by omega) (by omega) (fun j hj => ?_)]
    · rw [show j0 + k - j0 = k by omega, show j0 + m - (j0 + k) = m - k by omega]
      simp only [List.append_assoc, List.map_map, List.singleton_append, Nat.add_assoc]
      rfl
    · simp only [inY, Bool.and_eq_true, decide_eq_true_eq]
      constructor
      · rintro ⟨q1, q2⟩
        refine ⟨?_, ?_⟩
        · by_cases c : j < j0
          · have := h1 j c; omega
          · by_cases c2 : j < j0 + k
            · have := a4 (j - j0) (by omega); rw [show j0 + (j - j0) = j by omega] at this; omega
            · omega
        · by_cases c : j < j0 + m
          · exact c
          · have := h3 j (by omega) hj; omega
      · rintro ⟨q1, q2⟩
        have := a5 (j - j0) (by omega) (by omega)
        rw [show j0 + (j - j0) = j by omega] at this
        exact ⟨this, (h2 j (by omega) q2).2⟩
    · simp only [inY, Bool.and_eq_true, decide_eq_true_eq]
      constructor
      · rintro ⟨q1, q2⟩
        refine ⟨?_, ?_⟩
        · by_cases c : j < j0
          · have := h1 j c; omega
          · omega
        · by_cases c : j < j0 + k
          · exact c
          · by_cases c2 : j < j0 + m
            · have := a5 (j - j0) (by omega) (by omega); rw [show j0 + (j - j0) = j by omega] at this; omega
            · have := h3 j (by omega) hj; omega
      · rintro ⟨q1, q2⟩
        have := a4 (j - j0) (by omega)
        rw [show j0 + (j - j0) = j by omega] at this
        exact ⟨(h2 j q1 (by omega)).1, this⟩
  · have e := m6 hx
    subst e
    rw [if_neg hx, if_neg hx, filter_range _ _ j0 (j0 + k) n (by omega) (by omega) (fun j hj => ?_)]
    · rw [show j0 + k - j0 = k by omega, Nat.sub_self]
      simp only [List.append_nil, List.map_map, List.range_zero, List.map_nil]
      rfl
    · simp only [inY, Bool.and_eq_true, decide_eq_true_eq]
      constructor
      · rintro ⟨q1, q2⟩
        refine ⟨?_, ?_⟩
        · by_cases c : j < j0
          · have := h1 j c; omega
          · omega
        · by_cases c : j < j0 + k
          · exact c
          · have := h3 j (by omega) hj; omega
      · rintro ⟨q1, q2⟩
        exact h2 j q1 q2

/-! What is settled stays. -/
theorem stepE_mono {u c : Int} {b : Bal} {e : Ev} (h : 0 ≤ b.ca) (hc : 0 ≤ c) (he : e.ok) : 0 ≤ (stepE u c b e).ca ∧ b.lo ≤ (stepE u c b e).lo ∧ b.gr ≤ (stepE u c b e).gr ∧ b.ta ≤ (stepE u c b e).ta := by
  unfold stepE
  split
  · cases e with
    | turn d => simp only [Ev.act, Bal.turn]; omega
    | exp d => simp only [Ev.act, Bal.exp]; omega
    | mv d g t => simp only [Ev.ok] at he; simp only [Ev.act, Bal.mv]; omega
  · exact ⟨h, Int.le_refl _, Int.le_refl _, Int.le_refl _⟩
theorem applyE_mono {u c : Int} (hc : 0 ≤ c) : ∀ (es : List Ev) (b : Bal), (∀ e ∈ es, e.ok) → 0 ≤ b.ca → 0 ≤ (applyE u c b es).ca ∧ b.lo ≤ (applyE u c b es).lo ∧ b.gr ≤ (applyE u c b es).gr ∧ b.ta ≤ (applyE u c b es).ta
  | [], b, _, h => ⟨h, Int.le_refl _, Int.le_refl _, Int.le_refl _⟩
  | e :: r, b, he, h => by
    obtain ⟨a1, a2, a3, a4⟩ := stepE_mono (u := u) h hc (he e (by simp))
    obtain ⟨b1, b2, b3, b4⟩ := applyE_mono hc r (stepE u c b e) (fun x hx => he x (by simp [hx])) a1
    show 0 ≤ (applyE u c (stepE u c b e) r).ca ∧ _
    exact ⟨b1, Int.le_trans a2 b2, Int.le_trans a3 b3, Int.le_trans a4 b4⟩
def Ev.isTurn : Ev → Bool | .turn _ => true | _ => false
theorem applyE_same {u c : Int} (hc : 0 ≤ c) : ∀ (es : List Ev) (b : Bal), (∀ e ∈ es, e.ok ∧ e.isTurn = false) → 0 ≤ b.ca → (applyE u c b es).lo = b.lo → (applyE u c b es).gr = b.gr → (applyE u c b es).ta = b.ta → applyE u c b es = b
  | [], b, _, _, _, _, _ => rfl
  | e :: r, b, he, h, k1, k2, k3 => by
    obtain ⟨ok, tu⟩ := he e (by simp)
    obtain ⟨a1, a2, a3, a4⟩ := stepE_mono (u := u) h hc ok
    obtain ⟨b1, b2, b3, b4⟩ := applyE_mono (u := u) hc r (stepE u c b e) (fun x hx => (he x (by simp [hx])).1) a1
    have k1' : (applyE u c (stepE u c b e) r).lo = b.lo := k1
    have k2' : (applyE u c (stepE u c b e) r).gr = b.gr := k2
    have k3' : (applyE u c (stepE u c b e) r).ta = b.ta := k3
    have q1 : (stepE u c b e).lo = b.lo := by omega
    have q2 : (stepE u c b e).gr = b.gr := by omega
    have q3 : (stepE u c b e).ta = b.ta := by omega
    have hs : stepE u c b e = b := by
      revert q1 q2 q3
      unfold stepE
      split
      · cases e with
        | turn d => cases tu
        | exp d =>
          intro q1 _ _
          simp only [Ev.act, Bal.exp] at q1
          exact Bal.ext' rfl (by simp only [Ev.act, Bal.exp]; omega) rfl rfl q1
        | mv d g t =>
          intro _ q2 q3
          simp only [Ev.act, Bal.mv] at q2 q3
          exact Bal.ext' (by simp only [Ev.act, Bal.mv]; omega) (by simp only [Ev.act, Bal.mv]; omega) q2 q3 rfl
      · intros; rfl
    show applyE u c (stepE u c b e) r = b
    rw [hs]
    exact applyE_same hc r b (fun x hx => he x (by simp [hx])) h (by rw [← hs]; rw [hs]; rw [← k1', hs]) (by rw [← k2', hs]) (by rw [← k3', hs])

theorem yearL_ok {Y0 Ex y : Int} {l : List Mv} (hY : 1900 ≤ y) (hy : y ≤ 2199) (x1 : 0 ≤ Ex) (hl : ∀ x ∈ l, (mvE x).ok) : ∀ e ∈ yearL Y0 Ex l y, e.ok := by
  have hm : ∀ (p : Mv → Bool) (e : Ev), e ∈ (l.filter p).map mvE → e.ok := fun p e he => by
    obtain ⟨x, hx, rfl⟩ := List.mem_map.1 he
    exact hl x (List.mem_filter.1 hx).1
  intro e he
  unfold yearL at he
  rcases List.mem_append.1 he with he | he
  · split at he
    · rw [List.mem_singleton] at he; subst he; exact mstart_le hY hy (by omega) (by omega)
    · cases he
  · split at he
    · rcases List.mem_append.1 he with he | he
      · exact hm _ e he
      · rcases List.mem_cons.1 he with he | he
        · subst he; exact mstart_le hY hy (by omega) (by omega)
        · exact hm _ e he
    · exact hm _ e he
/-- What a year is without its turn. -/
def restL (Ex : Int) (l : List Mv) (y : Int) : List Ev := if Ex < 12 then (l.filter (inY (mstart y 1) (mstart y (1 + Ex)))).map mvE ++ .exp (mstart y (1 + Ex)) :: (l.filter (inY (mstart y (1 + Ex)) (jan (y + 1)))).map mvE else (l.filter (inY (mstart y 1) (jan (y + 1)))).map mvE
theorem yearL_eq (Y0 Ex : Int) (l : List Mv) (y : Int) : yearL Y0 Ex l y = (if Y0 < y then [.turn (mstart y 1)] else []) ++ restL Ex l y := rfl
theorem restL_ok {Ex y : Int} {l : List Mv} (hY : 1900 ≤ y) (hy : y ≤ 2199) (x1 : 0 ≤ Ex) (hl : ∀ x ∈ l, (mvE x).ok) : ∀ e ∈ restL Ex l y, e.ok ∧ e.isTurn = false := by
  intro e he
  refine ⟨yearL_ok (Y0 := y) hY hy x1 hl e (by rw [yearL_eq]; exact List.mem_append_right _ he), ?_⟩
  have hm : ∀ (p : Mv → Bool) (e : Ev), e ∈ (l.filter p).map mvE → e.isTurn = false := fun p e he => by
    obtain ⟨x, hx, rfl⟩ := List.mem_map.1 he
    rfl
  unfold restL at he
  split at he
  · rcases List.mem_append.1 he with he | he
    · exact hm _ e he
    · rcases List.mem_cons.1 he with he | he
      · subst he; rfl
      · exact hm _ e he
  · exact hm _ e he
/-- Nothing that a year could touch. -/
def Settled (b : Bal) : Prop := b.ca = 0 ∧ b.fr ≤ 0
theorem settles {Y0 Ca Ex u y : Int} {l : List Mv} {b : Bal} (c1 : 0 ≤ Ca) (hY : 1900 ≤ y) (hy : y ≤ 2199) (x1 : 0 ≤ Ex) (hl : ∀ x ∈ l, (mvE x).ok) (h : 0 ≤ b.ca) (hlt : Y0 < y) (hu : mstart y 1 ≤ u) (e : applyE u Ca b (yearL Y0 Ex l y) = b) : Settled b := by
  rw [yearL_eq, if_pos hlt, List.singleton_append] at e
  have e' : applyE u Ca (b.turn Ca) (restL Ex l y) = b := by
    have : stepE u Ca b (.turn (mstart y 1)) = b.turn Ca := by unfold stepE; rw [if_pos (by exact hu)]; rfl
    rw [← this]; exact e
  have a := stepE_mono (u := u) (e := .turn (mstart y 1)) h c1 (mstart_le hY hy (by omega) (by omega))
  have hs : stepE u Ca b (.turn (mstart y 1)) = b.turn Ca := by unfold stepE; rw [if_pos (by exact hu)]; rfl
  rw [hs] at a
  obtain ⟨a1, a2, a3, a4⟩ := a
  obtain ⟨b1, b2, b3, b4⟩ := applyE_mono (u := u) c1 (restL Ex l y) (b.turn Ca) (fun x hx => (restL_ok hY hy x1 hl x hx).1) a1
  rw [e'] at b2 b3 b4
  have hsame := applyE_same (u := u) c1 (restL Ex l y) (b.turn Ca) (restL_ok hY hy x1 hl) a1 (by rw [e']; omega) (by rw [e']; omega) (by rw [e']; omega)
  rw [e'] at hsame
  have f1 := congrArg Bal.fr hsame
  have f2 := congrArg Bal.ca hsame
  simp only [Bal.turn] at f1 f2
  unfold Settled
  omega
theorem settled_stays {Y0 Ca Ex u y : Int} {l : List Mv} {b : Bal} (c1 : 0 ≤ Ca) (h : Settled b) (hn : ∀ x ∈ l, x.1 < mstart y 1) (hmm : mstart y 1 ≤ mstart y (1 + Ex)) : applyE u Ca b (yearL Y0 Ex l y) = b := by
  obtain ⟨h1, h2⟩ := h
  have t : ∀ d, stepE u Ca b (.turn d) = b := fun d => by
    unfold stepE; split
    · exact Bal.ext' (by simp only [Ev.act, Bal.turn]; omega) (by simp only [Ev.act, Bal.turn]; omega) rfl rfl (by simp only [Ev.act, Bal.turn]; omega)
    · rfl
  have x : ∀ d, stepE u Ca b (.exp d) = b := fun d => by
    unfold stepE; split
    · exact Bal.ext' rfl (by simp only [Ev.act, Bal.exp]; omega) rfl rfl (by simp only [Ev.act, Bal.exp]; omega)
    · rfl
  have f : ∀ a c, mstart y 1 ≤ a → l.filter (inY a c) = [] := fun a c ha => filter_none (fun z hz => by
    have := hn z hz
    simp only [inY, Bool.and_eq_false_iff, decide_eq_false_iff_not]
    omega)
  rw [yearL_eq]
  unfold restL
  rw [f _ _ (Int.le_refl _), f _ _ (Int.le_refl _), f _ _ hmm]
  by_cases hlt : Y0 < y
  · rw [if_pos hlt]
    split
    · show stepE u Ca (stepE u Ca b _) _ = b; rw [t, x]
    · show stepE u Ca b _ = b; rw [t]
  · rw [if_neg hlt]
    split
    · show stepE u Ca b _ = b; rw [x]
    · rfl
theorem mstart_up {y Ex : Int} (x1 : 0 ≤ Ex) : mstart y 1 ≤ mstart y (1 + Ex) := by
  unfold mstart
  have := cum_bd y (1 + Ex)
  rw [cum_one]
  omega
theorem mstart_jan (y : Int) : mstart y 1 = jan y := by unfold mstart; rw [cum_one]; omega
theorem mstart_dn {y Ex : Int} (x1 : 0 ≤ Ex) (x2 : Ex < 12) : mstart y (1 + Ex) ≤ jan (y + 1) := by
  unfold mstart
  have h := cum_mono y (1 + Ex) 13 (by omega) (by omega) (by omega)
  rw [cum_end] at h
  have := dim_bd y (1 + Ex)
  rw [jan_succ]
  omega
theorem years_stay {Y0 Ca Ex u : Int} {l : List Mv} {i : Nat} (c1 : 0 ≤ Ca) (x1 : 0 ≤ Ex) (h : Settled (yearsE Y0 Ca Ex u l i)) (hn : ∀ x ∈ l, x.1 < jan (Y0 + (i : Int))) : ∀ k, yearsE Y0 Ca Ex u l (i + k) = yearsE Y0 Ca Ex u l i
  | 0 => rfl
  | k + 1 => by
    have ih := years_stay c1 x1 h hn k
    show applyE u Ca (yearsE Y0 Ca Ex u l (i + k)) _ = _
    rw [ih]
    refine settled_stays c1 h (fun z hz => ?_) (mstart_up x1)
    have := hn z hz
    have := jan_mono (Y0 + (i : Int)) (Y0 + ((i + k : Nat) : Int)) (by omega)
    show z.1 < mstart (Y0 + ((i + k : Nat) : Int)) 1
    rw [mstart_jan]
    omega
theorem inv_step {N : Int} {u c : Int} {b : Bal} {e : Ev} (h : Inv N b) (hN : 0 ≤ N) (hc : 0 ≤ c) (he : e.ok) : Inv (N + 1000000) (stepE u c b e) := by
  unfold stepE
  split
  · cases e with
    | turn d => exact (h.turn hc).mono (by omega)
    | exp d => exact h.exp.mono (by omega)
    | mv d g t => exact (h.mv he.2.1 he.2.2.2.1).mono (by simp only [Ev.ok] at he; omega)
  · exact h.mono (by omega)

end Go.Proofs.YtpejdbnphjheeaaDoor
