/-
  What the document's New makes. Its condition: 1 to 1026 sectors.
-/
import Derived.Test.YthomjcndaddbbaaRwr
namespace Go.Proofs.Ythomjcndaddbbaa
open Go.RowKit
section
variable {w : World} {q : Nat} {vl vp vt : Value} {r : Rk}
/-- A sector more. -/
theorem RDisk.pushL {w0 w1 : World} {g cap : Nat} {s : ByteArray} (h : RDisk w q vl vp vt r) (hg0 : w.grownBy w0 none) (hgrow : w0.grownBy w1 vl.ownBlock) (hat : vl.ownBlock = some g ∨ w.heap.size ≤ g)
    (hown : w1.ownsRow 0 9 1 (.slice (some ⟨g, 0, none⟩) (r.L.length + 1) cap) (r.L.length + 1) (strs r.L ++ [.string s])) :
    RDisk (w1.setCell ⟨q, 0, none⟩ (.slice (some ⟨g, 0, none⟩) (r.L.length + 1) cap)) q (.slice (some ⟨g, 0, none⟩) (r.L.length + 1) cap) vp vt { r with L := r.L ++ [s] } ∧
    Fr (RFoot q vl vp vt) w (w1.setCell ⟨q, 0, none⟩ (.slice (some ⟨g, 0, none⟩) (r.L.length + 1) cap)) ∧ Sub (RFoot q vl vp vt) (RFoot q (.slice (some ⟨g, 0, none⟩) (r.L.length + 1) cap) vp vt) w := by
  have hk : ∀ k, k < w.heap.size → some k ≠ vl.ownBlock → w1.heap[k]? = w.heap[k]? := fun k hk hv => (hgrow.block k (by have := hg0.size; omega) hv).trans (hg0.block k hk (by simp))
  have hgq : g ≠ q := by
    rcases hat with e | e
    · intro e2; exact h.ql (by rw [e, e2])
    · have := h.lt; omega
  have hset : ∀ k, k ≠ q → (w1.setCell ⟨q, 0, none⟩ (.slice (some ⟨g, 0, none⟩) (r.L.length + 1) cap)).heap[k]? = w1.heap[k]? := fun k hk => Below.heap_setCell _ _ _ _ hk
  have hall : ∀ k, k < w.heap.size → some k ≠ vl.ownBlock → k ≠ q → (w1.setCell ⟨q, 0, none⟩ (.slice (some ⟨g, 0, none⟩) (r.L.length + 1) cap)).heap[k]? = w.heap[k]? := fun k a b c => (hset k c).trans (hk k a b)
  refine ⟨⟨?_, ?_, ?_, ?_, ?_⟩, ⟨hgrow.os.trans hg0.os, hgrow.tape.trans hg0.tape, hgrow.output.trans hg0.output, ?_, ?_⟩, ?_⟩
  · rw [heap_set _ ((hk _ h.lt h.ql).trans h.head)]; rfl
  · have e : (r.L ++ [s]).length = r.L.length + 1 := by simp
    show World.ownsRow _ 0 9 1 _ (r.L ++ [s]).length (strs (r.L ++ [s]))
    rw [e, show strs (r.L ++ [s]) = strs r.L ++ [.string s] from by simp [strs]]
    refine ownsRow_of hown fun k hk2 => hset k ?_
    have : g = k := by simpa [Value.ownBlock] using hk2
    rw [← this]; exact hgq
  · refine ownsRow_of h.rowP fun k hk2 => hall k (owned_lt h.rowP hk2) (h.pt hk2).2 (fun e => h.qp (by rw [hk2, e]))
  · refine ownsRow_of h.rowT fun k hk2 => hall k (owned_lt h.rowT hk2) (fun e => h.apart k e.symm hk2) (fun e => h.qt (by rw [hk2, e]))
  · intro k hk2 e
    have ek : g = k := by simpa [Value.ownBlock] using hk2
    rcases hat with e2 | e2
    · exact h.apart k (by rw [e2, ek]) e
    · have := owned_lt h.rowT e; omega
  · simp [World.setCell]; exact Nat.le_trans hg0.size hgrow.size
  · intro k hk2 hF
    exact hall k hk2 (fun e => hF (.inr (.inl e))) (fun e => hF (.inl e))
  · rintro k (e | e | e | e)
    · exact .inl (.inl e)
    · have ek : k = g := by simpa [Value.ownBlock] using e
      rcases hat with e2 | e2
      · exact .inl (.inr (.inl (by rw [ek, e2])))
      · right; omega
    · exact .inl (.inr (.inr (.inl e)))
    · exact .inl (.inr (.inr (.inr e)))
end

set_option maxHeartbeats 400000 in
theorem rnew_no (n : Int) (w : World) (hn : n < 1 ∨ 1026 < n) : Calls Try.prog 10 #[.int .i64 n] w fun e w' => e = .returned (.pointer none) ∧ w = w' := by
  by_cases h1 : n < 1
  · clear hn
    go_enter Try.func10, Try.ntmps10
    go_wp2
    go_ret
    exact ⟨rfl, rfl⟩
  · have h2 : 1026 < n := by omega
    clear hn
    go_enter Try.func10, Try.ntmps10
    go_wp2
    go_ret
    exact ⟨rfl, rfl⟩

def RNewTo (n : Nat) (w : World) (e : Ending) (w' : World) : Prop :=
  ∃ (q : Nat) (F : Nat → Prop), e = .returned (.pointer (some ⟨q, 0, none⟩)) ∧ RDk w' q F (Rk.of (Dk.new n) 0) ∧ Below w.heap.size w w' ∧ (∀ k, F k → w.heap.size ≤ k)

set_option maxRecDepth 100000 in
set_option maxHeartbeats 1000000 in
theorem rnew_any (n : Nat) (w : World) (h1 : 1 ≤ n) (hn : n ≤ 1026) : Calls Try.prog 10 #[.int .i64 n] w (RNewTo n w) := by
  obtain ⟨i9, hi9, hz90, hz91, hz92⟩ := info_parts info9'
  obtain ⟨z, hz⟩ : ∃ z, z = full ⟨#[]⟩ := ⟨_, rfl⟩
  have HZ := Lib.hid hz
  clear hz
  obtain ⟨q, hq⟩ : ∃ q, q = w.heap.size := ⟨_, rfl⟩
  have HQ := Lib.hid hq
  clear hq
  go_enter Try.func10, Try.ntmps10
  go_wp2
  rw [← HQ.out]
  go_loopw [4] (fun i wr => ∃ k : Nat, k ≤ n ∧ i = .int .i64 k ∧ ∃ vl, RDisk wr q vl (.slice none 0 0) (.slice none 0 0) ⟨List.replicate k z, [], [], 0, 0, false, 0, 0⟩ ∧ Below w.heap.size w wr ∧ ∀ x, vl.ownBlock = some x → w.heap.size ≤ x) (fun i _ => n - (intOf i).toNat)
  case atStart =>
    refine ⟨0, Nat.zero_le _, rfl, .slice none 0 0, ⟨?_, World.ownsRow_nil _ _ _ _, World.ownsRow_nil _ _ _ _, World.ownsRow_nil _ _ _ _, by intro g e; simp [Value.ownBlock] at e⟩, (Below.refl _ _).alloc (Nat.le_refl _) _, by intro x e; simp [Value.ownBlock] at e⟩
    rw [HQ.out]; exact heap_alloc_new w _
  case round =>
    obtain ⟨k, hk, rfl, vl, hR, hB, hv⟩ := hrel
    have HR := Lib.hid hR
    have HB := Lib.hid hB
    have HV := Lib.hid hv
    have k0 := hR.cells.1
    have kf := hR.free 0
    have kql := hR.ql
    have klt := hR.lt
    have hLo := hR.rowL
    simp only [List.length_replicate] at hLo
    clear hR hB hv
    by_cases hlt : k < n
    · have hsz0 : ByteArray.size ⟨#[]⟩ ≤ 256 := by decide
      go_wp2
      go_region_law (first
        | (refine step_append_lies _ (by rfl) _ _ _ (by rfl) 0 9 i9 _ 1 16 Try.underlying41 hi9 hz90 hz91 hz92 rfl (by omega) vl _ _ (by rfl) ((ownsRow_of hLo (fun g hg => hB3.block g (owned_lt hLo hg))).alloc _)
            ⟨w3.heap.size, 0, none⟩ 1 1 [.string z] (by rfl) (by rfl) (World.news_of_block (cs := #[.string z]) (t := 9) (fr := (0, 0)) (heap_alloc_new w3 _)) (by simp [Value.oneCell'])
            (by omega) (by unfold maxLen; omega) (by omega) (by simp) (w3.heap.size + 1) (by simp) ?_; intro g cap w6 hown1 hgrow hat hglt; have hfw : w6.frozen? ⟨q, 0, none⟩ = false := (hgrow.frozen_far _ (by simp; omega) kql).trans ((World.frozen?_alloc_past _ _ _ kl3).trans kf3); have hcw : w6.cell? ⟨q, 0, none⟩ = some vl := (hgrow.cell_far _ (by simp; omega) kql).trans ((World.cell?_alloc_past _ _ _ kl3).trans kc3))
        | (go_simp; go_at_call 25; refine (refFull_any ⟨#[]⟩ _ hsz0).mono ?_; rintro e w3 ⟨rfl, hB3⟩; rw [← HZ.out]; have kc3 : w3.cell? ⟨q, 0, none⟩ = some vl := (hB3.cell (p := ⟨q, 0, none⟩) klt).trans k0; have kf3 : w3.frozen? ⟨q, 0, none⟩ = false := (hB3.frozen (p := ⟨q, 0, none⟩) klt).trans kf; have kl3 : q < w3.heap.size := by (have := hB3.size; simp at this; omega)))
      all_goals
        have hR3 := HR.out.drew.below hB3
        have hT3 := hR3.pushL (s := z) (World.grownBy_alloc w3 _ none) hgrow (hat.imp id (fun e => by omega)) (by simp only [List.length_replicate]; exact hown1)
        simp only [List.length_replicate] at hT3
        obtain ⟨hR4, hF4, hS4⟩ := hT3
        have HR4 := Lib.hid hR4
        have hsz3 : wr.heap.size ≤ w3.heap.size := hB3.size
        have HB4 : Hid (Below w.heap.size w (w6.setCell ⟨q, 0, none⟩ (.slice (some ⟨g, 0, none⟩) (k + 1) cap))) := Lib.hid (by
          have hb1 : Below w.heap.size w w3 := HB.out.trans ((((Below.refl _ _).drew).trans hB3).mono HB.out.size)
          refine ⟨hF4.os.trans hb1.os, hF4.tape.trans hb1.tape, hF4.output.trans hb1.output, Nat.le_trans hb1.size hF4.size, fun j hj => ?_⟩
          refine (hF4.block j (by have := hb1.size; omega) ?_).trans (hb1.block j hj)
          rintro (e | e | e | e)
          · have := HQ.out; omega
          · have := HV.out j e.symm; omega
          · simp [Value.ownBlock] at e
          · simp [Value.ownBlock] at e)
        have HV4 : Hid (∀ x, Value.ownBlock (.slice (some ⟨g, 0, none⟩) (k + 1) cap) = some x → w.heap.size ≤ x) := Lib.hid (by
          intro x hx
          have ek : g = x := by simpa [Value.ownBlock] using hx
          rcases hat with e | e
          · exact HV.out x (by rw [e, ek])
          · have := HB.out.size; omega)
        clear hR3 hR4 hF4 hS4 hown1 hgrow hat hglt hfw hcw hB3 kc3 kf3 kl3 k0 kf kql klt hLo
        go_wp2
        go_roundw
        case rel => exact ⟨k + 1, by omega, by go_num, _, by rw [List.replicate_succ']; exact HR4.out, HB4.out, HV4.out⟩
        case measure => simp [intOf]; omega
    · obtain rfl : k = n := by omega
      go_wp2
      go_ret
      refine ⟨q, RFoot q vl (.slice none 0 0) (.slice none 0 0), rfl, ⟨vl, .slice none 0 0, .slice none 0 0, ?_, rfl⟩, HB.out, ?_⟩
      · have := HR.out
        rw [HZ.out] at this
        exact this
      · rintro x (e | e | e | e)
        · have := HQ.out; omega
        · exact HV.out x e.symm
        · simp [Value.ownBlock] at e
        · simp [Value.ownBlock] at e
end Go.Proofs.Ythomjcndaddbbaa
