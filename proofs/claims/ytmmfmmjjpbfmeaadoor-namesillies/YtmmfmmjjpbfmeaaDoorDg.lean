/-
  A number's digits: the document's Decimal, and Silly. Their conditions: the number is no less than 0 (Decimal), an int; the table of powers is laid.
-/
import Derived.Test.YtmmfmmjjpbfmeaaDoorCw
import Derived.Deep.RegionWith
import Derived.Deep.RegionHeld3
import Derived.Laws.IdiomStrings
import Derived.Lib.ItoaMem
namespace Go.Proofs.YtmmfmmjjpbfmeaaDoor
open Go.RowKit
def dec (u : Nat) : ByteArray := bs (Lib.decDigits u)
theorem dec_small (u : Nat) (h : u < 10) : dec u = ⟨#[UInt8.ofNat (48 + u)]⟩ := by
  unfold dec
  rw [Lib.decDigits_one h]
  rfl
theorem dec_big (u : Nat) (h : ¬ u < 10) : dec u = dec (u / 10) ++ ⟨#[UInt8.ofNat (48 + u % 10)]⟩ := by
  unfold dec
  conv => lhs; rw [Lib.decDigits, dif_neg h, bs_append]
  rfl
def val (l : List UInt8) : Nat := l.foldl (fun a c => 10 * a + (c.toNat - 48)) 0
theorem val_dec : ∀ u : Nat, val (Lib.decDigits u) = u := by
  intro u
  induction u using Nat.strongRecOn with
  | _ u ih =>
    by_cases h : u < 10
    · rw [Lib.decDigits_one h]
      show 10 * 0 + ((UInt8.ofNat (48 + u)).toNat - 48) = u
      rw [UInt8.toNat_ofNat']
      omega
    · rw [Lib.decDigits, dif_neg h]
      unfold val at ih ⊢
      rw [List.foldl_append, ih (u / 10) (by omega)]
      show 10 * (u / 10) + ((UInt8.ofNat (48 + u % 10)).toNat - 48) = u
      rw [UInt8.toNat_ofNat']
      omega
theorem dec_inj {u v : Nat} (h : Lib.decDigits u = Lib.decDigits v) : u = v := by rw [← val_dec u, h, val_dec v]
theorem dec_range : ∀ (u : Nat) (c : UInt8), c ∈ Lib.decDigits u → 48 ≤ c.toNat ∧ c.toNat ≤ 57 := by
  intro u
  induction u using Nat.strongRecOn with
  | _ u ih =>
    intro c hc
    by_cases h : u < 10
    · rw [Lib.decDigits_one h] at hc
      simp only [List.mem_singleton] at hc
      subst hc
      rw [UInt8.toNat_ofNat']
      omega
    · rw [Lib.decDigits, dif_neg h] at hc
      rcases List.mem_append.1 hc with hc | hc
      · exact ih (u / 10) (by omega) c hc
      · simp only [List.mem_singleton] at hc
        subst hc
        rw [UInt8.toNat_ofNat']
        omega
theorem dec_len : ∀ (k u : Nat), u < 10 ^ (k + 1) → (Lib.decDigits u).length ≤ k + 1
  | 0, u, h => by rw [Lib.decDigits_one (by omega)]; exact Nat.le_refl 1
  | k + 1, u, h => by
    by_cases h10 : u < 10
    · rw [Lib.decDigits_one h10]; simp
    · rw [Lib.decDigits, dif_neg h10, List.length_append]
      have := dec_len k (u / 10) (by rw [Nat.pow_succ] at h; omega)
      simp only [List.length_cons, List.length_nil]
      omega
theorem dec_size (u : Nat) (h : u ≤ 9223372036854775807) : (dec u).size ≤ 19 := by
  unfold dec
  rw [size_bs]
  exact dec_len 18 u (by omega)
/-- The name that Silly makes. -/
def nfs (a b : Nat) : ByteArray := ⟨#[46, 110, 102, 115]⟩ ++ dec a ++ ⟨#[45]⟩ ++ dec b
theorem nfs_data (a b : Nat) : (nfs a b).data.toList = [46, 110, 102, 115] ++ Lib.decDigits a ++ [45] ++ Lib.decDigits b := by
  unfold nfs dec
  simp only [ByteArray.data_append, Array.toList_append, data_bs]
theorem nfs_inj {a b c d : Nat} (h : nfs a b = nfs c d) : a = c ∧ b = d := by
  have h1 : (nfs a b).data.toList = (nfs c d).data.toList := by rw [h]
  rw [nfs_data, nfs_data] at h1
  simp only [List.append_assoc] at h1
  have h2 := List.append_cancel_left h1
  have key : ∀ (x y r s : List UInt8), (45 : UInt8) ∉ x → (45 : UInt8) ∉ y → x ++ ([45] ++ r) = y ++ ([45] ++ s) → x = y ∧ r = s := by
    intro x
    induction x with
    | nil =>
      intro y r s _ hy e
      cases y with
      | nil => simp at e; exact ⟨rfl, e⟩
      | cons c y => simp at e; exact absurd (by simp [e.1]) hy
    | cons c x ih =>
      intro y r s hx hy e
      cases y with
      | nil => simp at e; exact absurd (by simp [e.1]) hx
      | cons d y =>
        simp only [List.cons_append, List.cons.injEq] at e
        obtain ⟨k1, k2⟩ := ih y r s (fun h => hx (List.mem_cons_of_mem _ h)) (fun h => hy (List.mem_cons_of_mem _ h)) e.2
        exact ⟨by rw [e.1, k1], k2⟩
  have no : ∀ u, (45 : UInt8) ∉ Lib.decDigits u := fun u hu => by
    have := (dec_range u _ hu).1
    exact absurd this (by decide)
  obtain ⟨k1, k2⟩ := key _ _ _ _ (no a) (no c) h2
  exact ⟨dec_inj k1, dec_inj k2⟩
theorem nfs_ck (a b : Nat) (ha : a ≤ 9223372036854775807) (hb : b ≤ 9223372036854775807) : ck (nfs a b) = 0 := by
  have hs : (nfs a b).size ≤ 64 := by
    have h1 := dec_size a ha
    have h2 := dec_size b hb
    unfold nfs
    rw [size_append, size_append, size_append, show (⟨#[46, 110, 102, 115]⟩ : ByteArray).size = 4 from rfl, show (⟨#[45]⟩ : ByteArray).size = 1 from rfl]
    omega
  unfold ck
  rw [if_neg (by omega), if_neg]
  rw [Lib.toList_data, nfs_data]
  rintro (h | h | h | h)
  · cases h
  · simp at h
  · simp at h
  · unfold bad at h
    rw [List.any_eq_true] at h
    obtain ⟨c, hc, hb⟩ := h
    have hdig : ∀ u, c ∈ Lib.decDigits u → False := fun u hu => by
      have := dec_range u c hu
      rw [Bool.or_eq_true, beq_iff_eq, beq_iff_eq] at hb
      rcases hb with rfl | rfl
      · exact absurd this.1 (by decide)
      · exact absurd this.1 (by decide)
    simp only [List.mem_append, List.mem_cons, List.mem_nil_iff, or_false] at hc
    rcases hc with ((hc | hc) | hc) | hc
    · rcases hc with rfl | rfl | rfl | rfl <;> exact absurd hb (by decide)
    · exact hdig a hc
    · subst hc; exact absurd hb (by decide)
    · exact hdig b hc
theorem conv_one (c : UInt8) {w : World} {B : Nat} (h : w.cell? ⟨B, 0, none⟩ = some (.int .u8 (c.toNat : Int))) : (convert 38 9 (.slice (some ⟨B, 0, none⟩) 1 1)).run Tryd.prog w = .ok (.string ⟨#[c]⟩) w := by
  exact run_convert_bytes_back (P := Tryd.prog) w 38 9 5 ⟨B, 0, none⟩ 1 [c] Tryd.underlying38 Tryd.underlying5 Tryd.underlying9 (by
    intro j hj
    have : j = 0 := by simpa using hj
    subst this
    rw [show (⟨B, 0, none⟩ : Addr).add 0 = ⟨B, 0, none⟩ from by unfold Addr.add; split <;> simp_all, h]
    rfl)
theorem kept_one (c : UInt8) {w w2 : World} (hb : Below (w.drew.alloc (.cells #[.int .u8 (c.toNat : Int)] 5)).heap.size (w.drew.alloc (.cells #[.int .u8 (c.toNat : Int)] 5)) w2) : (convert 38 9 (.slice (some ⟨w.heap.size, 0, none⟩) 1 1)).run Tryd.prog w2 = .ok (.string ⟨#[c]⟩) w2 := by
  refine conv_one c ?_
  have h1 : (w.drew.alloc (.cells #[.int .u8 (c.toNat : Int)] 5)).cell? ⟨w.drew.heap.size, 0, none⟩ = some (.int .u8 (c.toNat : Int)) := World.cell?_alloc_at _ _ _ _ (by simp)
  have h2 : w.drew.heap.size < (w.drew.alloc (.cells #[.int .u8 (c.toNat : Int)] 5)).heap.size := by simp
  exact (hb.cell (p := ⟨w.drew.heap.size, 0, none⟩) h2).trans h1
theorem kept_two (c : UInt8) {w w2 : World} (hb : Below (w.alloc (.cells #[.int .u8 (c.toNat : Int)] 5)).drew.heap.size (w.alloc (.cells #[.int .u8 (c.toNat : Int)] 5)).drew w2) : (convert 38 9 (.slice (some ⟨w.heap.size, 0, none⟩) 1 1)).run Tryd.prog w2 = .ok (.string ⟨#[c]⟩) w2 := by
  refine conv_one c ?_
  have h1 : (w.alloc (.cells #[.int .u8 (c.toNat : Int)] 5)).cell? ⟨w.heap.size, 0, none⟩ = some (.int .u8 (c.toNat : Int)) := World.cell?_alloc_at _ _ _ _ (by simp)
  have h2 : w.heap.size < (w.alloc (.cells #[.int .u8 (c.toNat : Int)] 5)).heap.size := by simp
  exact (hb.cell (p := ⟨w.heap.size, 0, none⟩) h2).trans h1
theorem bA {w w2 : World} {o : Obj} (hb : Below w.drew.heap.size w.drew w2) : Below w.heap.size w (w2.alloc o) := ((Below.refl w.heap.size w).drew.trans hb).alloc hb.size _
theorem bB {w w2 : World} {o : Obj} (hb : Below (w.alloc o).drew.heap.size (w.alloc o).drew w2) : Below w.heap.size w w2 :=
  (((Below.refl w.heap.size w).alloc (Nat.le_refl _) o).drew).trans (hb.mono (by show w.heap.size ≤ (w.alloc o).heap.size; simp))
set_option maxRecDepth 100000 in
set_option maxHeartbeats 1000000 in
theorem decimal_any : ∀ (N u : Nat) (w : World), u < N → u ≤ 9223372036854775807 → Calls Tryd.prog 14 #[.int .i64 (u : Int)] w fun e w' => e = .returned (.string (dec u)) ∧ Below w.heap.size w w' := by
  intro N
  induction N with
  | zero => intro u w h; exact absurd h (Nat.not_lt_zero _)
  | succ N ih =>
    intro u w hu hmax
    by_cases h : u < 10
    · have hz : (u : Int) < 10 := by omega
      have hw : IntKind.u8.wrap (48 + (u : Int)) = ((UInt8.ofNat (48 + u)).toNat : Int) := by rw [UInt8.toNat_ofNat', IntKind.wrap_u8]; omega
      have hcv := fun w' h => conv_one (UInt8.ofNat (48 + u)) (w := w') (B := w.heap.size) h
      rw [dec_small u h]
      have hnew : (w.alloc (.cells #[.int .u8 ((UInt8.ofNat (48 + u)).toNat : Int)] 5)).cell? ⟨w.heap.size, 0, none⟩ = some (.int .u8 ((UInt8.ofNat (48 + u)).toNat : Int)) := World.cell?_alloc_at _ _ _ _ (by simp)
      have hc2 := hcv _ hnew
      clear hcv hnew h
      generalize UInt8.ofNat (48 + u) = c at *
      go_enter Tryd.func14, Tryd.ntmps14
      go_wp2_with fail
      go_ret
      exact ⟨rfl, (Below.refl _ _).alloc (Nat.le_refl _) _⟩
    · have hz : ¬ ((u : Int) < 10) := by omega
      rw [dec_big u h]
      have hs := dec_size (u / 10) (by omega)
      have hw : IntKind.u8.wrap (48 + ((u % 10 : Nat) : Int)) = ((UInt8.ofNat (48 + u % 10)).toNat : Int) := by rw [UInt8.toNat_ofNat', IntKind.wrap_u8]; omega
      have hw1 : IntKind.i64.wrap (48 + ((u % 10 : Nat) : Int)) = 48 + ((u % 10 : Nat) : Int) := by rw [IntKind.wrap_i64]; omega
      have hm : (u : Int).tmod 10 = ((u % 10 : Nat) : Int) := by rw [Int.tmod_eq_emod_of_nonneg (by omega)]; omega
      have hq : (u : Int) / 10 = ((u / 10 : Nat) : Int) := by omega
      have hwv : IntKind.i64.wrap ((u / 10 : Nat) : Int) = ((u / 10 : Nat) : Int) := by rw [IntKind.wrap_i64]; omega
      have hih := fun w => ih (u / 10) w (by omega) (by omega)
      clear h ih
      generalize UInt8.ofNat (48 + u % 10) = c at *
      generalize u / 10 = v at *
      generalize u % 10 = m at *
      generalize dec v = D at *
      go_enter Tryd.func14, Tryd.ntmps14
      go_wp2_with fail
      have hcA : ∀ W : World, (convert 38 9 (.slice (some ⟨W.heap.size, 0, none⟩) 1 1)).run Tryd.prog (W.alloc (.cells #[.int .u8 (c.toNat : Int)] 5)) = .ok (.string ⟨#[c]⟩) (W.alloc (.cells #[.int .u8 (c.toNat : Int)] 5)) := fun W => conv_one c (World.cell?_alloc_at _ _ _ _ (by simp))
      have hcB : (convert 38 9 (.slice (some ⟨w.heap.size, 0, none⟩) 1 1)).run Tryd.prog (w.drew.alloc (.cells #[.int .u8 (c.toNat : Int)] 5)) = .ok (.string ⟨#[c]⟩) (w.drew.alloc (.cells #[.int .u8 (c.toNat : Int)] 5)) := hcA w.drew
      have hcD : (convert 38 9 (.slice (some ⟨w.heap.size, 0, none⟩) 1 1)).run Tryd.prog (w.alloc (.cells #[.int .u8 (c.toNat : Int)] 5)).drew = .ok (.string ⟨#[c]⟩) (w.alloc (.cells #[.int .u8 (c.toNat : Int)] 5)).drew := conv_one c (show (w.alloc (.cells #[.int .u8 (c.toNat : Int)] 5)).cell? ⟨w.heap.size, 0, none⟩ = _ from World.cell?_alloc_at _ _ _ _ (by simp))
      have hlen : (9223372036854775807 < D.size + 1) = False := by simp; omega
      go_region_with ((go_at_call 14; refine (hih _).mono ?_; rintro e w2 ⟨rfl, hb2⟩; (try have hk2 := kept_one c hb2); (try have hk3 := kept_two c hb2)))
      all_goals go_wp2
      all_goals go_ret
      all_goals refine ⟨rfl, ?_⟩
      all_goals first | exact bA hb2 | exact bB hb2
end Go.Proofs.YtmmfmmjjpbfmeaaDoor
