/-
  What is proved: plain facts on rows of numbers that are put in an order: swaps, ranges that change places, rotations, and merging two sorted ranges by them. Conditions: none.
-/
namespace Go.Proofs.YtpejdbnphjheeaaDoor.Ss

/-- The place x comes ahead of y: by the greater rest, of alike ones by the lesser place. -/
def bef (r : Nat → Nat) (x y : Nat) : Prop := r y < r x ∨ (r x = r y ∧ x < y)
theorem bef_trans {r : Nat → Nat} {x y z : Nat} (h : bef r x y) (k : bef r y z) : bef r x z := by unfold bef at *; omega
theorem bef_irr {r : Nat → Nat} {x : Nat} : ¬ bef r x x := by unfold bef; omega
theorem bef_or {r : Nat → Nat} {x y : Nat} (h : x ≠ y) : bef r x y ∨ bef r y x := by unfold bef; omega
theorem bef_not {r : Nat → Nat} {x y : Nat} (h : bef r x y) : ¬ bef r y x := fun k => bef_irr (bef_trans h k)

def SortedOn (r f : Nat → Nat) (a b : Nat) : Prop := ∀ i j, a ≤ i → i < j → j < b → bef r (f i) (f j)
/-- The values of a range are the same, those outside stay. -/
def PermOn (a b : Nat) (f g : Nat → Nat) : Prop := (∀ i, a ≤ i → i < b → ∃ j, a ≤ j ∧ j < b ∧ g i = f j) ∧ (∀ j, a ≤ j → j < b → ∃ i, a ≤ i ∧ i < b ∧ g i = f j) ∧ (∀ i, (i < a ∨ b ≤ i) → g i = f i)

theorem PermOn.refl (a b : Nat) (f : Nat → Nat) : PermOn a b f f := ⟨fun i h k => ⟨i, h, k, rfl⟩, fun i h k => ⟨i, h, k, rfl⟩, fun _ _ => rfl⟩
theorem PermOn.trans {a b : Nat} {f g h : Nat → Nat} (p : PermOn a b f g) (q : PermOn a b g h) : PermOn a b f h := by
  refine ⟨fun i hi hj => ?_, fun i hi hj => ?_, fun i hi => (q.2.2 i hi).trans (p.2.2 i hi)⟩
  · obtain ⟨j, a1, a2, e⟩ := q.1 i hi hj
    obtain ⟨k, b1, b2, e'⟩ := p.1 j a1 a2
    exact ⟨k, b1, b2, e.trans e'⟩
  · obtain ⟨j, a1, a2, e⟩ := p.2.1 i hi hj
    obtain ⟨k, b1, b2, e'⟩ := q.2.1 j a1 a2
    exact ⟨k, b1, b2, e'.trans e⟩
theorem PermOn.wide {a b a' b' : Nat} {f g : Nat → Nat} (p : PermOn a b f g) (h1 : a' ≤ a) (h2 : b ≤ b') : PermOn a' b' f g := by
  refine ⟨fun i hi hj => ?_, fun i hi hj => ?_, fun i hi => p.2.2 i (by omega)⟩
  · by_cases hc : a ≤ i ∧ i < b
    · obtain ⟨j, a1, a2, e⟩ := p.1 i hc.1 hc.2
      exact ⟨j, by omega, by omega, e⟩
    · exact ⟨i, hi, hj, p.2.2 i (by omega)⟩
  · by_cases hc : a ≤ i ∧ i < b
    · obtain ⟨j, a1, a2, e⟩ := p.2.1 i hc.1 hc.2
      exact ⟨j, by omega, by omega, e⟩
    · exact ⟨i, hi, hj, p.2.2 i (by omega)⟩

/-- A value put at a place. -/
def putF (f : Nat → Nat) (p v : Nat) : Nat → Nat := fun j => if j = p then v else f j
/-- Two places changed about. -/
def swp (f : Nat → Nat) (i j : Nat) : Nat → Nat := fun k => if k = i then f j else if k = j then f i else f k
theorem put_put (f : Nat → Nat) (i j : Nat) : putF (putF f i (f j)) j (f i) = swp f i j := by
  funext k; unfold putF swp
  by_cases h1 : k = j <;> by_cases h2 : k = i
  · subst h1; subst h2; simp
  · simp [h1]
    intro h; omega
  · subst h2; simp; intro h; omega
  · simp [h1, h2]
theorem put_put' (f : Nat → Nat) (i j : Nat) : putF (putF f j (f i)) i (f j) = swp f i j := by
  funext k; unfold putF swp
  by_cases h1 : k = i <;> by_cases h2 : k = j <;> simp [h1, h2]
theorem swp_comm (f : Nat → Nat) (i j : Nat) : swp f i j = swp f j i := by
  funext k; unfold swp
  by_cases h1 : k = i <;> by_cases h2 : k = j
  · subst h1; subst h2; rfl
  · simp [h1]; intro h; omega
  · simp [h2]; intro h; omega
  · simp [h1, h2]
theorem swp_perm {a b i j : Nat} (f : Nat → Nat) (h1 : a ≤ i) (h2 : i < b) (h3 : a ≤ j) (h4 : j < b) : PermOn a b f (swp f i j) := by
  have key : ∀ k, ∃ k', (k' = i ∨ k' = j ∨ k' = k) ∧ swp f i j k = f k' := fun k => by
    unfold swp
    by_cases e1 : k = i
    · exact ⟨j, by simp, by rw [if_pos e1]⟩
    · by_cases e2 : k = j
      · exact ⟨i, by simp, by rw [if_neg e1, if_pos e2]⟩
      · exact ⟨k, by simp, by rw [if_neg e1, if_neg e2]⟩
  refine ⟨fun k hk hl => ?_, fun k hk hl => ?_, fun k hk => ?_⟩
  · obtain ⟨k', hk', e⟩ := key k
    exact ⟨k', by omega, by omega, e⟩
  · by_cases e1 : k = i
    · refine ⟨j, h3, h4, ?_⟩
      unfold swp
      by_cases e : j = i
      · rw [if_pos e, e1, e]
      · rw [if_neg e, if_pos rfl, e1]
    · by_cases e2 : k = j
      · exact ⟨i, h1, h2, by unfold swp; rw [if_pos rfl, e2]⟩
      · exact ⟨k, hk, hl, by unfold swp; rw [if_neg e1, if_neg e2]⟩
  · unfold swp; rw [if_neg (by omega), if_neg (by omega)]

/-- Two ranges of one length changed about. -/
def swR (f : Nat → Nat) (a b n : Nat) : Nat → Nat := fun k => if a ≤ k ∧ k < a + n then f (k - a + b) else if b ≤ k ∧ k < b + n then f (k - b + a) else f k
theorem swR_zero (f : Nat → Nat) (a b : Nat) : swR f a b 0 = f := by
  funext k; unfold swR; rw [if_neg (by omega), if_neg (by omega)]
theorem swR_succ (f : Nat → Nat) (a b n : Nat) (h : a + n < b) : swp (swR f a b n) (a + n) (b + n) = swR f a b (n + 1) := by
  funext k
  unfold swp
  by_cases e1 : k = a + n
  · subst e1
    rw [if_pos rfl]; unfold swR
    rw [if_neg (by omega), if_neg (by omega), if_pos (by omega)]
    exact congrArg f (by omega)
  · by_cases e2 : k = b + n
    · subst e2
      rw [if_neg (by omega), if_pos rfl]; unfold swR
      rw [if_neg (by omega), if_neg (by omega), if_neg (by omega), if_pos (by omega)]
      exact congrArg f (by omega)
    · rw [if_neg e1, if_neg e2]; unfold swR
      by_cases c1 : a ≤ k ∧ k < a + n
      · rw [if_pos c1, if_pos (by omega)]
      · rw [if_neg c1]
        by_cases c2 : b ≤ k ∧ k < b + n
        · rw [if_pos c2, if_neg (by omega), if_pos (by omega)]
        · rw [if_neg c2, if_neg (by omega), if_neg (by omega)]

/-- Two neighbouring ranges changed about. -/
def rotF (f : Nat → Nat) (a m b : Nat) : Nat → Nat := fun k => if a ≤ k ∧ k < a + (b - m) then f (k + (m - a)) else if a + (b - m) ≤ k ∧ k < b then f (k - (b - m)) else f k
theorem rot_more (f : Nat → Nat) (m i j : Nat) (hm : i ≤ m) (h : j < i) : rotF (swR f (m - i) m j) (m - (i - j)) m (m + j) = rotF f (m - i) m (m + j) := by
  funext k
  unfold rotF
  by_cases c1 : m - i ≤ k ∧ k < m - i + (m + j - m)
  · rw [if_neg (by omega), if_neg (by omega), if_pos c1]
    unfold swR
    rw [if_pos (by omega)]
    exact congrArg f (by omega)
  · by_cases c2 : m - i + (m + j - m) ≤ k ∧ k < m + j
    · rw [if_neg c1, if_pos c2]
      by_cases c3 : m - (i - j) ≤ k ∧ k < m - (i - j) + (m + j - m)
      · rw [if_pos c3]; unfold swR
        rw [if_neg (by omega), if_pos (by omega)]
        exact congrArg f (by omega)
      · rw [if_neg c3, if_pos (by omega)]; unfold swR
        rw [if_neg (by omega), if_neg (by omega)]
    · rw [if_neg c1, if_neg c2, if_neg (by omega), if_neg (by omega)]; unfold swR
      rw [if_neg (by omega), if_neg (by omega)]
theorem rot_less (f : Nat → Nat) (m i j : Nat) (hm : i ≤ m) (h : i < j) : rotF (swR f (m - i) (m + j - i) i) (m - i) m (m + (j - i)) = rotF f (m - i) m (m + j) := by
  funext k
  unfold rotF
  by_cases c1 : m - i ≤ k ∧ k < m - i + (m + j - m)
  · rw [if_pos c1]
    by_cases c3 : m - i ≤ k ∧ k < m - i + (m + (j - i) - m)
    · rw [if_pos c3]; unfold swR
      rw [if_neg (by omega), if_neg (by omega)]
    · rw [if_neg c3]
      by_cases c4 : m - i + (m + (j - i) - m) ≤ k ∧ k < m + (j - i)
      · rw [if_pos c4]; unfold swR
        rw [if_pos (by omega)]
        exact congrArg f (by omega)
      · omega
  · by_cases c2 : m - i + (m + j - m) ≤ k ∧ k < m + j
    · rw [if_neg c1, if_pos c2, if_neg (by omega), if_neg (by omega)]; unfold swR
      rw [if_neg (by omega), if_pos (by omega)]
      exact congrArg f (by omega)
    · rw [if_neg c1, if_neg c2, if_neg (by omega), if_neg (by omega)]; unfold swR
      rw [if_neg (by omega), if_neg (by omega)]
theorem rot_same (f : Nat → Nat) (m i : Nat) (hm : i ≤ m) : swR f (m - i) m i = rotF f (m - i) m (m + i) := by
  funext k
  unfold rotF swR
  by_cases c1 : m - i ≤ k ∧ k < m - i + i
  · rw [if_pos c1, if_pos (by omega)]
    exact congrArg f (by omega)
  · by_cases c2 : m ≤ k ∧ k < m + i
    · rw [if_neg c1, if_pos c2, if_neg (by omega), if_pos (by omega)]
      exact congrArg f (by omega)
    · rw [if_neg c1, if_neg c2, if_neg (by omega), if_neg (by omega)]
theorem rot_none (f : Nat → Nat) (a m b : Nat) (h : a = m ∨ m = b) (h1 : a ≤ m) (h2 : m ≤ b) : rotF f a m b = f := by
  funext k; unfold rotF
  rcases h with rfl | rfl
  · by_cases c : a ≤ k ∧ k < a + (b - a)
    · rw [if_pos c]; exact congrArg f (by omega)
    · rw [if_neg c, if_neg (by omega)]
  · rw [if_neg (by omega)]
    by_cases c : a + (m - m) ≤ k ∧ k < m
    · rw [if_pos c]; exact congrArg f (by omega)
    · rw [if_neg c]
theorem rot_perm (f : Nat → Nat) (a m b : Nat) (h1 : a ≤ m) (h2 : m ≤ b) : PermOn a b f (rotF f a m b) := by
  refine ⟨fun i hi hj => ?_, fun i hi hj => ?_, fun i hi => ?_⟩
  · unfold rotF
    by_cases c : a ≤ i ∧ i < a + (b - m)
    · rw [if_pos c]; exact ⟨_, by omega, by omega, rfl⟩
    · rw [if_neg c, if_pos (by omega)]; exact ⟨_, by omega, by omega, rfl⟩
  · by_cases c : i < m
    · refine ⟨i + (b - m), by omega, by omega, ?_⟩
      unfold rotF
      rw [if_neg (by omega), if_pos (by omega)]
      exact congrArg f (by omega)
    · refine ⟨i - (m - a), by omega, by omega, ?_⟩
      unfold rotF
      rw [if_pos (by omega)]
      exact congrArg f (by omega)
  · unfold rotF; rw [if_neg (by omega), if_neg (by omega)]
theorem rot_lo (f : Nat → Nat) (a m b k : Nat) (h1 : a ≤ k) (h2 : k < a + (b - m)) : rotF f a m b k = f (k + (m - a)) := by unfold rotF; rw [if_pos ⟨h1, h2⟩]
theorem rot_hi (f : Nat → Nat) (a m b k : Nat) (h1 : a + (b - m) ≤ k) (h2 : k < b) : rotF f a m b k = f (k - (b - m)) := by unfold rotF; rw [if_neg (by omega), if_pos ⟨h1, h2⟩]
theorem rot_out (f : Nat → Nat) (a m b k : Nat) (h : k < a ∨ b ≤ k) (h2 : m ≤ b) (h1 : a ≤ m) : rotF f a m b k = f k := by unfold rotF; rw [if_neg (by omega), if_neg (by omega)]
/-- One step of moving the first one up. -/
theorem rot_up (f : Nat → Nat) (a k : Nat) (h : a ≤ k) : swp (rotF f a (a + 1) (k + 1)) k (k + 1) = rotF f a (a + 1) (k + 2) := by
  funext t
  unfold swp
  by_cases e1 : t = k
  · subst e1
    rw [if_pos rfl, rot_out _ _ _ _ _ (by omega) (by omega) (by omega), rot_lo _ _ _ _ _ h (by omega)]
    exact congrArg f (by omega)
  · by_cases e2 : t = k + 1
    · subst e2
      rw [if_neg (by omega), if_pos rfl, rot_hi _ _ _ _ (k + 1) (by omega) (by omega), rot_hi _ _ _ _ k (by omega) (by omega)]
      exact congrArg f (by omega)
    · rw [if_neg e1, if_neg e2]
      by_cases c : a ≤ t ∧ t < k
      · rw [rot_lo _ _ _ _ t c.1 (by omega), rot_lo _ _ _ _ t c.1 (by omega)]
      · rw [rot_out _ _ _ _ t (by omega) (by omega) (by omega), rot_out _ _ _ _ t (by omega) (by omega) (by omega)]
/-- One step of moving the last one down. -/
theorem rot_down (f : Nat → Nat) (k m : Nat) (h : k + 1 ≤ m) : swp (rotF f (k + 1) m (m + 1)) (k + 1) k = rotF f k m (m + 1) := by
  funext t
  unfold swp
  by_cases e1 : t = k + 1
  · subst e1
    rw [if_pos rfl, rot_out _ _ _ _ k (by omega) (by omega) (by omega), rot_hi _ _ _ _ _ (by omega) (by omega)]
    exact congrArg f (by omega)
  · by_cases e2 : t = k
    · subst e2
      rw [if_neg (by omega), if_pos rfl, rot_lo _ _ _ _ _ (by omega) (by omega), rot_lo _ _ _ _ _ (by omega) (by omega)]
      exact congrArg f (by omega)
    · rw [if_neg e1, if_neg e2]
      by_cases c : k + 1 < t ∧ t < m + 1
      · rw [rot_hi _ _ _ _ t (by omega) (by omega), rot_hi _ _ _ _ t (by omega) (by omega)]
      · rw [rot_out _ _ _ _ t (by omega) (by omega) (by omega), rot_out _ _ _ _ t (by omega) (by omega) (by omega)]

/-- Two sorted ranges, all places of the first one ahead of those of the second one. -/
def TwoOn (r f : Nat → Nat) (a m b : Nat) : Prop := SortedOn r f a m ∧ SortedOn r f m b ∧ ∀ i j, a ≤ i → i < m → m ≤ j → j < b → f i < f j
theorem bef_low {r : Nat → Nat} {x y : Nat} (h : x < y) : bef r y x ↔ r x < r y := by unfold bef; omega

/-- Where the first one goes. -/
theorem one_up {r f : Nat → Nat} {a m b i : Nat} (h : TwoOn r f a m b) (hm : m = a + 1) (h1 : m ≤ i) (h2 : i ≤ b) (lo : ∀ k, m ≤ k → k < i → r (f a) < r (f k)) (hi : ∀ k, i ≤ k → k < b → ¬ r (f a) < r (f k)) : PermOn a b f (rotF f a m i) ∧ SortedOn r (rotF f a m i) a b := by
  refine ⟨(rot_perm f a m i (by omega) h1).wide (Nat.le_refl _) h2, fun p q hp hpq hq => ?_⟩
  have lo' : ∀ k, m ≤ k → k < i → bef r (f k) (f a) := fun k k1 k2 => (bef_low (h.2.2 a k (Nat.le_refl _) (by omega) k1 (by omega))).2 (lo k k1 k2)
  have hi' : ∀ k, i ≤ k → k < b → bef r (f a) (f k) := fun k k1 k2 => by
    have hlt := h.2.2 a k (Nat.le_refl _) (by omega) (by omega) k2
    rcases bef_or (r := r) (x := f a) (y := f k) (by omega) with e | e
    · exact e
    · exact absurd ((bef_low hlt).1 e) (hi k k1 k2)
  have val : ∀ t, a ≤ t → t < b → (t + 1 < i ∧ rotF f a m i t = f (t + 1)) ∨ (t + 1 = i ∧ rotF f a m i t = f a) ∨ (i ≤ t ∧ rotF f a m i t = f t) := fun t t1 t2 => by
    by_cases c : t + 1 < i
    · left; refine ⟨c, ?_⟩
      rw [rot_lo _ _ _ _ _ t1 (by omega)]; exact congrArg f (by omega)
    · right
      by_cases c2 : t + 1 = i
      · left; refine ⟨c2, ?_⟩
        rw [rot_hi _ _ _ _ _ (by omega) (by omega)]; exact congrArg f (by omega)
      · right; exact ⟨by omega, rot_out _ _ _ _ _ (by omega) (by omega) (by omega)⟩
  rcases val p hp (by omega) with ⟨c, e⟩ | ⟨c, e⟩ | ⟨c, e⟩ <;> rcases val q (by omega) hq with ⟨c', e'⟩ | ⟨c', e'⟩ | ⟨c', e'⟩ <;> rw [e, e']
  · exact h.2.1 _ _ (by omega) (by omega) (by omega)
  · exact lo' _ (by omega) (by omega)
  · exact bef_trans (lo' (p + 1) (by omega) c) (hi' q c' hq)
  · omega
  · omega
  · exact hi' q c' hq
  · omega
  · omega
  · exact h.2.1 _ _ (by omega) hpq hq
/-- Where the last one goes. -/
theorem one_down {r f : Nat → Nat} {a m b i : Nat} (h : TwoOn r f a m b) (hb : b = m + 1) (h1 : a ≤ i) (h2 : i ≤ m) (lo : ∀ k, a ≤ k → k < i → ¬ r (f k) < r (f m)) (hi : ∀ k, i ≤ k → k < m → r (f k) < r (f m)) : PermOn a b f (rotF f i m b) ∧ SortedOn r (rotF f i m b) a b := by
  refine ⟨(rot_perm f i m b h2 (by omega)).wide h1 (Nat.le_refl _), fun p q hp hpq hq => ?_⟩
  have hi' : ∀ k, i ≤ k → k < m → bef r (f m) (f k) := fun k k1 k2 => (bef_low (h.2.2 k m (by omega) k2 (Nat.le_refl _) (by omega))).2 (hi k k1 k2)
  have lo' : ∀ k, a ≤ k → k < i → bef r (f k) (f m) := fun k k1 k2 => by
    have hlt := h.2.2 k m k1 (by omega) (Nat.le_refl _) (by omega)
    rcases bef_or (r := r) (x := f k) (y := f m) (by omega) with e | e
    · exact e
    · exact absurd ((bef_low hlt).1 e) (lo k k1 k2)
  have val : ∀ t, a ≤ t → t < b → (t < i ∧ rotF f i m b t = f t) ∨ (t = i ∧ rotF f i m b t = f m) ∨ (i < t ∧ rotF f i m b t = f (t - 1)) := fun t t1 t2 => by
    by_cases c : t < i
    · left; exact ⟨c, rot_out _ _ _ _ _ (by omega) (by omega) (by omega)⟩
    · right
      by_cases c2 : t = i
      · left; refine ⟨c2, ?_⟩
        rw [rot_lo _ _ _ _ _ (by omega) (by omega)]; exact congrArg f (by omega)
      · right; refine ⟨by omega, ?_⟩
        rw [rot_hi _ _ _ _ _ (by omega) (by omega)]; exact congrArg f (by omega)
  rcases val p hp (by omega) with ⟨c, e⟩ | ⟨c, e⟩ | ⟨c, e⟩ <;> rcases val q (by omega) hq with ⟨c', e'⟩ | ⟨c', e'⟩ | ⟨c', e'⟩ <;> rw [e, e']
  · exact h.1 _ _ hp hpq (by omega)
  · exact lo' p hp c
  · exact bef_trans (lo' p hp c) (hi' (q - 1) (by omega) (by omega))
  · omega
  · omega
  · exact hi' _ (by omega) (by omega)
  · omega
  · omega
  · exact h.1 _ _ (by omega) (by omega) (by omega)

/-- Where two ranges are parted, each half holds what belongs there. -/
theorem parted {r f : Nat → Nat} {a m b mid s e : Nat} (h : TwoOn r f a m b) (ha : a ≤ s) (hs : s ≤ m) (hm : m ≤ e) (he : e ≤ b) (hn : s + e = mid + m)
    (lo : a < s → e < b → ¬ r (f (s - 1)) < r (f e)) (hi : m < e → s < m → r (f s) < r (f (e - 1))) :
    PermOn a b f (rotF f s m e) ∧ (a < s → s < mid → TwoOn r (rotF f s m e) a s mid) ∧ (mid < e → e < b → TwoOn r (rotF f s m e) mid e b)
      ∧ (¬ (a < s ∧ s < mid) → SortedOn r (rotF f s m e) a mid) ∧ (¬ (mid < e ∧ e < b) → SortedOn r (rotF f s m e) mid b)
      ∧ ∀ i j, a ≤ i → i < mid → mid ≤ j → j < b → bef r (rotF f s m e i) (rotF f s m e j) := by
  have v1 : ∀ t, t < s → rotF f s m e t = f t := fun t h => rot_out _ _ _ _ _ (by omega) (by omega) (by omega)
  have v2 : ∀ t, s ≤ t → t < mid → rotF f s m e t = f (t + (m - s)) := fun t h k => rot_lo _ _ _ _ _ h (by omega)
  have v3 : ∀ t, mid ≤ t → t < e → rotF f s m e t = f (t - (e - m)) := fun t h k => rot_hi _ _ _ _ _ (by omega) k
  have v4 : ∀ t, e ≤ t → rotF f s m e t = f t := fun t h => rot_out _ _ _ _ _ (by omega) (by omega) (by omega)
  have x14 : ∀ i j, a ≤ i → i < s → e ≤ j → j < b → bef r (f i) (f j) := fun i j i1 i2 j1 j2 => by
    have l := lo (by omega) (by omega)
    have hlt := h.2.2 (s - 1) e (by omega) (by omega) hm (by omega)
    have k : bef r (f (s - 1)) (f e) := by
      rcases bef_or (r := r) (x := f (s - 1)) (y := f e) (by omega) with e | e
      · exact e
      · exact absurd ((bef_low hlt).1 e) l
    have k1 : bef r (f i) (f e) := by
      by_cases c : i = s - 1
      · rw [c]; exact k
      · exact bef_trans (h.1 i (s - 1) i1 (by omega) (by omega)) k
    by_cases c : j = e
    · rw [c]; exact k1
    · exact bef_trans k1 (h.2.1 e j hm (by omega) j2)
  have x23 : ∀ i j, m ≤ i → i < e → s ≤ j → j < m → bef r (f i) (f j) := fun i j i1 i2 j1 j2 => by
    have l := hi (by omega) (by omega)
    have hlt := h.2.2 s (e - 1) (by omega) (by omega) (by omega) (by omega)
    have k : bef r (f (e - 1)) (f s) := (bef_low hlt).2 l
    have k1 : bef r (f i) (f s) := by
      by_cases c : i = e - 1
      · rw [c]; exact k
      · exact bef_trans (h.2.1 i (e - 1) i1 (by omega) (by omega)) k
    by_cases c : j = s
    · rw [c]; exact k1
    · exact bef_trans k1 (h.1 s j ha (by omega) j2)
  have sL1 : SortedOn r (rotF f s m e) a s := fun p q hp hpq hq => by rw [v1 p (by omega), v1 q (by omega)]; exact h.1 p q hp hpq (by omega)
  have sL2 : SortedOn r (rotF f s m e) s mid := fun p q hp hpq hq => by rw [v2 p hp (by omega), v2 q (by omega) hq]; exact h.2.1 _ _ (by omega) (by omega) (by omega)
  have sR1 : SortedOn r (rotF f s m e) mid e := fun p q hp hpq hq => by rw [v3 p hp (by omega), v3 q (by omega) hq]; exact h.1 _ _ (by omega) (by omega) (by omega)
  have sR2 : SortedOn r (rotF f s m e) e b := fun p q hp hpq hq => by rw [v4 p hp, v4 q (by omega)]; exact h.2.1 _ _ (by omega) hpq hq
  refine ⟨(rot_perm f s m e hs hm).wide ha he, fun _ _ => ⟨sL1, sL2, fun i j i1 i2 j1 j2 => ?_⟩, fun _ _ => ⟨sR1, sR2, fun i j i1 i2 j1 j2 => ?_⟩, fun hc => ?_, fun hc => ?_, fun i j i1 i2 j1 j2 => ?_⟩
  · rw [v1 i i2, v2 j j1 j2]; exact h.2.2 _ _ i1 (by omega) (by omega) (by omega)
  · rw [v3 i i1 i2, v4 j j1]; exact h.2.2 _ _ (by omega) (by omega) (by omega) j2
  · by_cases c : a < s
    · rw [show mid = s by omega]; exact sL1
    · rw [show a = s by omega]; exact sL2
  · by_cases c : mid < e
    · rw [show b = e by omega]; exact sR1
    · rw [show mid = e by omega]; exact sR2
  · by_cases c1 : i < s <;> by_cases c2 : j < e
    · rw [v1 i c1, v3 j j1 c2]; exact h.1 _ _ i1 (by omega) (by omega)
    · rw [v1 i c1, v4 j (by omega)]; exact x14 i j i1 c1 (by omega) j2
    · rw [v2 i (by omega) i2, v3 j j1 c2]; exact x23 _ _ (by omega) (by omega) (by omega) (by omega)
    · rw [v2 i (by omega) i2, v4 j (by omega)]; exact h.2.1 _ _ (by omega) (by omega) j2
/-- Both halves, each sorted, are sorted. -/
theorem halves {r g g1 g2 : Nat → Nat} {a b mid : Nat} (h1 : a ≤ mid) (h2 : mid ≤ b) (p1 : PermOn a mid g g1) (s1 : SortedOn r g1 a mid) (p2 : PermOn mid b g1 g2) (s2 : SortedOn r g2 mid b) (x : ∀ i j, a ≤ i → i < mid → mid ≤ j → j < b → bef r (g i) (g j)) : PermOn a b g g2 ∧ SortedOn r g2 a b := by
  refine ⟨(p1.wide (Nat.le_refl _) h2).trans (p2.wide h1 (Nat.le_refl _)), fun i j hi hij hj => ?_⟩
  by_cases c1 : j < mid
  · rw [p2.2.2 i (by omega), p2.2.2 j (by omega)]; exact s1 i j hi hij c1
  · by_cases c2 : mid ≤ i
    · exact s2 i j c2 hij hj
    · rw [p2.2.2 i (by omega)]
      obtain ⟨i', a1, a2, e⟩ := p1.1 i hi (by omega)
      obtain ⟨j', b1, b2, e'⟩ := p2.1 j (by omega) hj
      rw [e, e', p1.2.2 j' (by omega)]
      exact x i' j' a1 a2 b1 b2

/-- A range is a sorted arrangement of its own places. -/
def Good (r f : Nat → Nat) (a b : Nat) : Prop := SortedOn r f a b ∧ (∀ i, a ≤ i → i < b → a ≤ f i ∧ f i < b) ∧ ∀ v, a ≤ v → v < b → ∃ i, a ≤ i ∧ i < b ∧ f i = v
theorem Good.two {r f : Nat → Nat} {a m b : Nat} (h : Good r f a m) (k : Good r f m b) : TwoOn r f a m b := ⟨h.1, k.1, fun i j i1 i2 j1 j2 => by have := h.2.1 i i1 i2; have := k.2.1 j j1 j2; omega⟩
theorem Good.join {r f g : Nat → Nat} {a m b : Nat} (h : Good r f a m) (k : Good r f m b) (h1 : a ≤ m) (h2 : m ≤ b) (p : PermOn a b f g) (s : SortedOn r g a b) : Good r g a b := by
  refine ⟨s, fun i i1 i2 => ?_, fun v v1 v2 => ?_⟩
  · obtain ⟨j, j1, j2, e⟩ := p.1 i i1 i2
    rw [e]
    by_cases c : j < m
    · have := h.2.1 j j1 c; omega
    · have := k.2.1 j (by omega) j2; omega
  · obtain ⟨j, j1, j2, e⟩ : ∃ j, a ≤ j ∧ j < b ∧ f j = v := by
      by_cases c : v < m
      · obtain ⟨j, j1, j2, e⟩ := h.2.2 v v1 c; exact ⟨j, j1, by omega, e⟩
      · obtain ⟨j, j1, j2, e⟩ := k.2.2 v (by omega) v2; exact ⟨j, by omega, j2, e⟩
    obtain ⟨i, i1, i2, e'⟩ := p.2.1 j j1 j2
    exact ⟨i, i1, i2, e'.trans e⟩
theorem Good.far {r f g : Nat → Nat} {a b : Nat} (h : Good r f a b) (e : ∀ i, a ≤ i → i < b → g i = f i) : Good r g a b := by
  refine ⟨fun i j i1 i2 i3 => by rw [e i i1 (by omega), e j (by omega) i3]; exact h.1 i j i1 i2 i3, fun i i1 i2 => by rw [e i i1 i2]; exact h.2.1 i i1 i2, fun v v1 v2 => ?_⟩
  obtain ⟨i, i1, i2, e'⟩ := h.2.2 v v1 v2
  exact ⟨i, i1, i2, (e i i1 i2).trans e'⟩

end Go.Proofs.YtpejdbnphjheeaaDoor.Ss
