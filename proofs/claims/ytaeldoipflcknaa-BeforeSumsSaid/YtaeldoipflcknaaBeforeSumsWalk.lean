/-
  What is proved: the walk of the statement BeforeSums: the call returns true. Conditions: what came in is as the frame says.
-/
import Derived.Test.YtaeldoipflcknaaBeforeTakesWalk
namespace Go.Proofs.Ytaeldoipflcknaa
open Go Go.RowKit Go.Lib Go.Proofs
set_option linter.unusedVariables false

/-- A row of the call's own that has the amounts of items. -/
def OwnN (w : World) (base : Nat) (v : Value) (L : Ti) : Prop := w.ownsRow base 22 1 v L.length ((amt L).map (Value.int .i64))
theorem n_arm {B : Nat} {w0 w : World} {v : Value} {L : Ti} (hown : OwnN w B v L) (hb : Below B w0 w) (hB : B ≤ w.heap.size) (hn : L.length + 1 ≤ 1000000) (s : ByteArray) (c : Int)
    {ops : Array Oper} {rest : List Oper} {o : Oper} {a : Act} {Q : Exit → Act → World → Prop} (hgd : o.guard = none) (sO xO : Operand) (ho : o.op = .call { callee := .builtin .append, args := #[sO, xO], argTypes := #[56, 56] }) (hv : a.eval sO = v) (hx : a.eval xO = .slice (some ⟨w.heap.size, 0, none⟩) 1 1)
    (h : ∀ v' w', OwnN w' B v' (L ++ [(s, c)]) → Below B w0 w' → wpList Try.prog ops Q rest (a.put o.dst v') w') : wpList Try.prog ops Q (o :: rest) a (w.alloc (.cells #[.int .i64 c] 22)) := by
  obtain ⟨v', w', hr, h2, h3, -⟩ := app_new Try.underlying56 infoCents rfl (by omega) (by omega) B o.type w v L.length _ hown 1 [.int .i64 c] rfl (fun u hu => by simp at hu; rcases hu with rfl; rfl) hn hB
  refine Lib.wpList_append_run _ hgd sO xO _ _ ho v _ hv hx v' w' hr (h v' w' ?_ ?_)
  · unfold OwnN
    rw [List.length_append]
    simpa [amt] using h2
  · exact grown_below (hb.alloc hB _) h3 (by simp; omega) (fun k hk => (hown.lt k hk).1)
theorem OwnN.row {w : World} {B : Nat} {v : Value} {L : Ti} (h : OwnN w B v L) (hn : L.length ≤ maxLen) : Ce.Row w v (amt L) := by
  have hl : (amt L).length = L.length := by simp [amt]
  rcases h.2 with ⟨h1, h2⟩ | ⟨g, c, cur, h1, h2, h3, h4, -⟩
  · have h0 : L.length = 0 := by omega
    exact ⟨none, 0, by rw [hl, h1, h0], by rw [hl]; exact hn, .inl (by rw [← List.length_eq_zero_iff, hl, h0])⟩
  · refine ⟨some ⟨g, 0, none⟩, c, by rw [hl, h1], by rw [hl]; exact hn, .inr ⟨g, 0, rfl, fun i x hx => ?_⟩⟩
    have := World.ownsRow.cells h (g := g) (by rw [h1]; rfl) i (.int .i64 x) (by rw [List.getElem?_map, hx]; rfl)
    rwa [Go.WideShapes.add_plain] at this

set_option maxHeartbeats 8000000 in
set_option maxRecDepth 100000 in
theorem walkBeforeSums (p : Option Addr) (n cp : Nat) (W : Ti) (w : World) (hW : ItArg w p n W) :
    Calls Try.prog 8 #[.slice p n cp] w fun e w' => e = .returned (.bool true) ∧ Below w.heap.size w w' := by
  obtain ⟨rfl, hm, hz, hit⟩ := hW
  unfold maxLen at hm
  by_cases hn : W.length ≤ 200
  case neg =>
    have i1 : (200 : Int) < (W.length : Int) := by omega
    clear hit
    go_enter Try.func8, Try.ntmps8
    go_wp2_with fail
    refine (awake_any _).mono ?_
    rintro e w6 ⟨rfl, hb6⟩
    go_wp2
    go_ret
    exact ⟨rfl, hb6⟩
  case pos =>
  have i1 : ¬ (200 : Int) < (W.length : Int) := by omega
  have HIt := Lib.hid hit
  have HT0 : Hid (OwnN w w.heap.size (.slice none 0 0) (W.take 0)) := Lib.hid (World.ownsRow_nil _ _ _ _)
  clear hit
  go_enter Try.func8, Try.ntmps8
  go_wp2
  go_loopw [3, 4] (fun v iv wr => ∃ k : Nat, ∃ vv : Value, vv = v ∧ k ≤ W.length ∧ iv = .int .i64 k ∧ Hid (OwnN wr w.heap.size vv (W.take k)) ∧ Hid (Below w.heap.size w wr)) (fun _ iv _ => W.length - (RowKit.intOf iv).toNat)
  case atStart => exact ⟨0, _, rfl, Nat.zero_le _, rfl, HT0, Lib.hid (Below.refl _ _)⟩
  case round =>
    clear HT0
    rename World => wq
    obtain ⟨k, v, rfl, hk, rfl, HO, HB⟩ := hrel
    by_cases hlt : k < W.length
    · obtain ⟨b, o, rfl, hb, c0, c1⟩ := ItIn.at HIt.out hlt
      replace c1 := (HB.out.cell (p := ⟨b, o + k * 2 + 1, none⟩) hb).trans c1
      have hta := take_at W d0 hlt
      have hlen : (W.take k).length + 1 ≤ 1000000 := by simp; omega
      generalize W.getD k d0 = it at c1 hta
      obtain ⟨s, c⟩ := it
      dsimp only at c1
      have HTA := Lib.hid hta
      have i2 : (k : Int) < (W.length : Int) := by omega
      clear hta c0
      go_wp2_with (at_builtin; refine n_arm HO.out HB.out HB.out.size hlen s c rfl _ _ rfl rfl rfl ?_; intro v' w6 ho hb6; have HO6 := Lib.hid ho; have HB6 := Lib.hid hb6; clear ho hb6)
      have HO7 : Hid (OwnN w6 w.heap.size v' (W.take (k + 1))) := Lib.hid (by rw [HTA.out]; exact HO6.out)
      exact ⟨⟨k + 1, v', rfl, by omega, by go_num, HO7, HB6⟩, by simp [RowKit.intOf]; omega⟩
    · obtain rfl : k = W.length := by omega
      have HO2 : Hid (OwnN wq w.heap.size v W) := Lib.hid (by have := HO.out; rwa [List.take_length] at this)
      have HS1 := Lib.hid (bSum_any p cp W wq (by omega) (HIt.out.below HB.out))
      have HS2 := Lib.hid (fun V (hV : Below wq.heap.size wq V) => Ce.sum_row v (amt W) V ((HO2.out.row (by unfold maxLen; omega)).below hV))
      clear HO HO2
      generalize Ce.sumVE 0 (amt W) = R at HS1 HS2
      obtain ⟨r1, r2⟩ := R
      dsimp only at HS1 HS2
      go_wp2_with fail
      refine (HS1.out).mono ?_
      rintro e w3 ⟨rfl, hb3⟩
      have HS3 := Lib.hid (HS2.out w3 hb3)
      have HB3 := Lib.hid (s_trans HB.out hb3)
      clear HS1 HS2 hb3
      go_wp2_with fail
      refine (HS3.out).mono ?_
      rintro e w4 ⟨rfl, rfl⟩
      go_wp2_with fail
      refine (awake_any _).mono ?_
      rintro e w11 ⟨rfl, hb11⟩
      have HB11 := Lib.hid (s_trans HB3.out hb11)
      clear hb11
      go_wp2
      go_ret
      exact ⟨rfl, HB11.out⟩

end Go.Proofs.Ytaeldoipflcknaa
