/-
  The document's Check tells the same forms as the program's; SchemaChecks' walk. No condition.
-/
import Derived.Test.YtjogcdkebplcpaaGreatDoorAr
namespace Go.Proofs.YtjogcdkebplcpaaGreatDoor
open Go.RowKit Sch
theorem ArC.mono {T : List UInt8} {M M' n : Nat} (h : ArC T M n) (hM : M' ≤ M) : ArC T M' n := fun a w h1 h2 => h a w h1 (by omega)
theorem skip_all (T : List UInt8) (hT : T.length ≤ 1000) : ∀ (N n : Nat), n ≤ 17 → SkC T N n
  | 0, n, hn => by
    by_cases h : n = 17
    · subst h; exact skip_deep T 0
    · exact skip_of T hT 0 n (by omega) (fun h => absurd h (by omega)) (fun h => absurd h (by omega))
  | N + 1, n, hn => by
    by_cases h : n = 17
    · subst h; exact skip_deep T (N + 1)
    · exact skip_of T hT (N + 1) n (by omega) (fun _ => skip_all T hT N (n + 1) (by omega)) (fun _ => (arms_of T hT N (n + 1) (by omega) (skip_all T hT N (n + 1) (by omega))).mono (by omega))
theorem form_pl (t : List UInt8) (h : t.length ≤ 1000) : (pl t (Gn 0 t) == (t.length : Int)) = (form num6 t).isSome := by
  unfold form Gn
  rw [if_neg (by omega), if_neg (by omega)]
  cases hp : pG num6 (t.length + 1) true 0 [] t with
  | none =>
    simp only [Option.map_none, pl, Option.isSome_none]
    rw [beq_eq_false_iff_ne]
    omega
  | some y =>
    obtain ⟨r, t'⟩ := y
    have hl := pG_le num6_short _ _ _ _ _ _ _ hp
    simp only [Option.map_some, pl]
    cases t' with
    | nil => simp
    | cons c t2 =>
      simp only [List.length_cons] at hl ⊢
      simp only [Option.isSome_none]
      rw [beq_eq_false_iff_ne]
      omega
set_option maxRecDepth 100000 in
set_option maxHeartbeats 1000000 in
theorem refCheck_any (F : ByteArray) (w : World) : Calls Tryz.prog 16 #[.string F] w fun r w' => r = .returned (.bool (form num6 F.data.toList).isSome) ∧ Below w.heap.size w w' := by
  have hsz : F.data.toList.length = F.size := by simp
  by_cases hl : F.size ≤ 1000
  · have hf := form_pl F.data.toList (by omega)
    rw [hsz] at hf
    have hsk := skip_all F.data.toList (by omega) F.data.toList.length 0 (by omega) 0 w (by omega) (by omega)
    have e : (⟨F.data.toList.toArray⟩ : ByteArray) = F := by simp
    rw [e, List.drop_zero] at hsk
    obtain ⟨z, hz⟩ : ∃ z, z = pl F.data.toList (Gn 0 F.data.toList) := ⟨_, rfl⟩
    rw [← hz] at hf hsk
    obtain ⟨b, hb⟩ : ∃ b, b = (form num6 F.data.toList).isSome := ⟨_, rfl⟩
    rw [← hb] at hf ⊢
    have HSK := Lib.hid hsk
    clear hsk hz hb e hsz
    go_enter Tryz.func16, Tryz.ntmps16
    go_wp2_with fail
    refine HSK.out.mono ?_
    rintro r w1 ⟨rfl, hB1⟩
    have HB1 := Lib.hid hB1
    clear hB1
    go_wp2
    go_ret
    exact ⟨rfl, HB1.out⟩
  · have hf : (form num6 F.data.toList).isSome = false := by unfold form; rw [if_pos (by omega)]; rfl
    rw [hf]
    clear hf hsz
    go_enter Tryz.func16, Tryz.ntmps16
    go_wp2
    go_ret
    exact ⟨rfl, Below.refl _ _⟩
end Go.Proofs.YtjogcdkebplcpaaGreatDoor
