/-
  A short form written out. Its condition: its signs are of ASCII, and not many.
-/
import Derived.Test.YtnfmpbcbppdkgaaDoorSf
import Derived.Test.YtnfmpbcbppdkgaaDoorBd
import Derived.Laws.Runes
import Derived.Lib.IndexBytes
namespace Go.Proofs.YtnfmpbcbppdkgaaDoor
open Go.RowKit
def bs (l : List UInt8) : ByteArray := ⟨l.toArray⟩
theorem data_bs (l : List UInt8) : (bs l).data.toList = l := by simp [bs]
set_option maxRecDepth 100000 in
theorem form_any (w : World) : Calls Tryd.prog 30 #[] w fun e w' => e = .returned (.tuple #[.string (bs [117, 117, 117, 117, 117, 113, 113, 117, 117, 113, 113, 117, 117, 117, 117, 117, 117]), .string (bs [63, 40, 117, 41, 63, 40, 117, 41, 63, 40, 117, 41, 63, 40, 113, 41, 60, 48, 58, 44, 49, 58, 44, 50, 58, 117, 117, 62, 60, 48, 58, 44, 49, 58, 44, 50, 58, 117, 117, 62])]) ∧ w' = w := by
  go_enter Tryd.func30, Tryd.ntmps30
  go_wp2
  go_ret2
  exact ⟨rfl, rfl⟩
theorem shs_far (c : UInt8) (h : c ≠ 72 ∧ c ≠ 78 ∧ c ≠ 65 ∧ c ≠ 83 ∧ c ≠ 80 ∧ c ≠ 87 ∧ c ≠ 84 ∧ c ≠ 68) : signB c = [c] := by
  obtain ⟨h1, h2, h3, h4, h5, h6, h7, h8⟩ := h
  unfold signB
  rw [if_neg h1, if_neg h2, if_neg h3, if_neg h4, if_neg h5, if_neg h6, if_neg h7, if_neg h8]
set_option maxRecDepth 100000 in
theorem shs_72 (w : World) : Calls Tryd.prog 21 #[.int .u8 72] w fun e w' => e = .returned (.string (bs (signB 72))) ∧ w' = w := by
  go_enter Tryd.func21, Tryd.ntmps21
  go_wp2_with fail
  refine (form_any _).mono ?_
  rintro e w1 ⟨rfl, rfl⟩
  go_wp2
  go_ret
  exact ⟨rfl, rfl⟩
set_option maxRecDepth 100000 in
theorem shs_78 (w : World) : Calls Tryd.prog 21 #[.int .u8 78] w fun e w' => e = .returned (.string (bs (signB 78))) ∧ w' = w := by
  go_enter Tryd.func21, Tryd.ntmps21
  go_wp2_with fail
  refine (form_any _).mono ?_
  rintro e w1 ⟨rfl, rfl⟩
  go_wp2
  go_ret
  exact ⟨rfl, rfl⟩
set_option maxRecDepth 100000 in
theorem shs_65 (w : World) : Calls Tryd.prog 21 #[.int .u8 65] w fun e w' => e = .returned (.string (bs (signB 65))) ∧ w' = w := by
  go_enter Tryd.func21, Tryd.ntmps21
  go_wp2_with fail
  refine (form_any _).mono ?_
  rintro e w1 ⟨rfl, rfl⟩
  go_wp2
  go_ret
  exact ⟨rfl, rfl⟩
set_option maxRecDepth 100000 in
theorem shs_83 (w : World) : Calls Tryd.prog 21 #[.int .u8 83] w fun e w' => e = .returned (.string (bs (signB 83))) ∧ w' = w := by
  go_enter Tryd.func21, Tryd.ntmps21
  go_wp2_with fail
  refine (form_any _).mono ?_
  rintro e w1 ⟨rfl, rfl⟩
  go_wp2
  go_ret
  exact ⟨rfl, rfl⟩
set_option maxRecDepth 100000 in
theorem shs_80 (w : World) : Calls Tryd.prog 21 #[.int .u8 80] w fun e w' => e = .returned (.string (bs (signB 80))) ∧ w' = w := by
  go_enter Tryd.func21, Tryd.ntmps21
  go_wp2_with fail
  refine (form_any _).mono ?_
  rintro e w1 ⟨rfl, rfl⟩
  go_wp2
  go_ret
  exact ⟨rfl, rfl⟩
set_option maxRecDepth 100000 in
theorem shs_84 (w : World) : Calls Tryd.prog 21 #[.int .u8 84] w fun e w' => e = .returned (.string (bs (signB 84))) ∧ w' = w := by
  go_enter Tryd.func21, Tryd.ntmps21
  go_wp2_with fail
  refine (form_any _).mono ?_
  rintro e w1 ⟨rfl, rfl⟩
  go_wp2
  go_ret
  exact ⟨rfl, rfl⟩
set_option maxRecDepth 100000 in
theorem shs_68 (w : World) : Calls Tryd.prog 21 #[.int .u8 68] w fun e w' => e = .returned (.string (bs (signB 68))) ∧ w' = w := by
  go_enter Tryd.func21, Tryd.ntmps21
  go_wp2_with fail
  refine (form_any _).mono ?_
  rintro e w1 ⟨rfl, rfl⟩
  go_wp2
  go_ret
  exact ⟨rfl, rfl⟩
set_option maxRecDepth 100000 in
theorem shs_87 (w : World) : Calls Tryd.prog 21 #[.int .u8 87] w fun e w' => e = .returned (.string (bs (signB 87))) ∧ w' = w := by
  go_enter Tryd.func21, Tryd.ntmps21
  go_wp2_with fail
  refine (form_any _).mono ?_
  rintro e w1 ⟨rfl, rfl⟩
  go_wp2_with fail
  refine (shs_80 _).mono ?_
  rintro e w1 ⟨rfl, rfl⟩
  go_wp2
  go_ret
  exact ⟨rfl, rfl⟩
set_option maxRecDepth 100000 in
theorem shs_other (c : UInt8) (hc : c.toNat < 128) (h : c ≠ 72 ∧ c ≠ 78 ∧ c ≠ 65 ∧ c ≠ 83 ∧ c ≠ 80 ∧ c ≠ 87 ∧ c ≠ 84 ∧ c ≠ 68) (w : World) : Calls Tryd.prog 21 #[.int .u8 (c.toNat : Int)] w fun e w' => e = .returned (.string (bs (signB c))) ∧ w' = w := by
  rw [shs_far c h]
  have ne : ∀ d : UInt8, c ≠ d → ((c.toNat : Int) == (d.toNat : Int)) = false := fun d hd => beq_eq_false_iff_ne.2 (fun e => hd (UInt8.toNat_inj.1 (by omega)))
  obtain ⟨h1, h2, h3, h4, h5, h6, h7, h8⟩ := h
  have k1 : ((c.toNat : Int) == 72) = false := ne 72 h1
  have k2 : ((c.toNat : Int) == 78) = false := ne 78 h2
  have k3 : ((c.toNat : Int) == 65) = false := ne 65 h3
  have k4 : ((c.toNat : Int) == 83) = false := ne 83 h4
  have k5 : ((c.toNat : Int) == 80) = false := ne 80 h5
  have k6 : ((c.toNat : Int) == 87) = false := ne 87 h6
  have k7 : ((c.toNat : Int) == 84) = false := ne 84 h7
  have k8 : ((c.toNat : Int) == 68) = false := ne 68 h8
  have hcv : ∀ w, (convert 5 9 (.int .u8 (c.toNat : Int))).run Tryd.prog w = .ok (.string (bs [c])) w := fun w => by
    rw [run_convert_int_string w 5 9 .u8 _ (by kernel_rfl) Tryd.underlying9]
    have hv : Utf8.valid (c.toNat : Int) = true := by
      unfold Utf8.valid
      simp only [Bool.or_eq_true, Bool.and_eq_true, decide_eq_true_eq]
      omega
    have he : Utf8.encode (c.toNat : Int) = bs [c] := by
      unfold Utf8.encode
      simp only [hv, if_true, Int.toNat_natCast]
      rw [if_pos hc]
      rw [show UInt8.ofNat c.toNat = c from by simp]
      rfl
    rw [he]
  clear h1 h2 h3 h4 h5 h6 h7 h8 ne
  go_enter Tryd.func21, Tryd.ntmps21
  go_wp2_with fail
  refine (form_any _).mono ?_
  rintro e w1 ⟨rfl, rfl⟩
  go_wp2
  go_ret
  exact ⟨rfl, rfl⟩
theorem shs_any (c : UInt8) (hc : c.toNat < 128) (w : World) : Calls Tryd.prog 21 #[.int .u8 (c.toNat : Int)] w fun e w' => e = .returned (.string (bs (signB c))) ∧ w' = w := by
  by_cases h1 : c = 72
  · subst h1; exact shs_72 w
  by_cases h2 : c = 78
  · subst h2; exact shs_78 w
  by_cases h3 : c = 65
  · subst h3; exact shs_65 w
  by_cases h4 : c = 83
  · subst h4; exact shs_83 w
  by_cases h5 : c = 80
  · subst h5; exact shs_80 w
  by_cases h6 : c = 87
  · subst h6; exact shs_87 w
  by_cases h7 : c = 84
  · subst h7; exact shs_84 w
  by_cases h8 : c = 68
  · subst h8; exact shs_68 w
  exact shs_other c hc ⟨h1, h2, h3, h4, h5, h6, h7, h8⟩ w
theorem shs_len (c : UInt8) : (signB c).length ≤ 40 := by
  unfold signB
  repeat' split
  all_goals first | decide | (simp)
theorem wo_len (l : List UInt8) : (wo l).length ≤ 40 * l.length := by
  induction l with
  | nil => simp [wo]
  | cons c l ih =>
    unfold wo at ih ⊢
    rw [List.flatMap_cons, List.length_append, List.length_cons]
    have := shs_len c
    omega
set_option maxRecDepth 100000 in
set_option maxHeartbeats 1000000 in
theorem written_any (l : List UInt8) (hl : l.length ≤ 100) (ha : ∀ c ∈ l, c.toNat < 128) (w : World) : Calls Tryd.prog 10 #[.string (bs l)] w fun e w' => e = .returned (.string (bs (wo l))) ∧ Below w.heap.size w w' := by
  have hsz : (bs l).size = l.length := by simp [bs, ByteArray.size]
  have HZ := Lib.hid hsz
  clear hsz
  generalize hs : bs l = s at *
  have HS := Lib.hid hs
  clear hs
  have hnew : BIs w.heap.size w.heap.size [] (w.alloc (.cells #[.pointer none, .slice none 0 0] 54)) := .inl ⟨Nat.le_refl _, .slice none 0 0, heap_alloc_new w _, ⟨rfl, .inl ⟨rfl, rfl⟩⟩, by simp [Value.ownBlock]⟩
  have HNew := Lib.hid hnew
  have HB0 := Lib.hid ((Below.refl w.heap.size w).alloc (Nat.le_refl _) (.cells #[.pointer none, .slice none 0 0] 54))
  clear hnew
  go_enter Tryd.func10, Tryd.ntmps10
  go_wp2_with fail
  generalize w.alloc (.cells #[.pointer none, .slice none 0 0] 54) = W at *
  go_loopg [7] l.length (fun g v wx => ∃ i : Nat, i + g = l.length ∧ v = .int .i64 i ∧ BIs w.heap.size w.heap.size (wo (l.take i)) wx ∧ Below w.heap.size w wx)
  case atStart => exact ⟨0, by omega, rfl, HNew.out, HB0.out⟩
  case round =>
    obtain ⟨i, hig, rfl, hb, hlow⟩ := hrel
    have HBs := Lib.hid hb
    have HLo := Lib.hid hlow
    clear hb hlow HNew HB0
    cases gk with
    | zero =>
      obtain rfl : i = l.length := by omega
      have hiz : ¬ ((l.length : Int) < (s.size : Int)) := by rw [HZ.out]; omega
      rw [List.take_length] at HBs
      go_wp2_with fail
      refine (Tryd.Builder_String_any w.heap.size w.heap.size (wo l) _ HBs.out HLo.out.size).mono ?_
      rintro e w2 ⟨rfl, hb2⟩
      have HL2 := Lib.hid (HLo.out.trans hb2)
      clear hb2
      go_wp2
      go_ret
      exact ⟨rfl, HL2.out⟩
    | succ g =>
      have hi : i < l.length := by omega
      have his : i < s.size := by rw [HZ.out]; exact hi
      have hiz : (i : Int) < (s.size : Int) := by omega
      obtain ⟨c, hc⟩ : ∃ c, s[i]'his = c := ⟨_, rfl⟩
      have hcl : l[i] = c := by
        have h1 : s.data.toList[i]? = some c := by rw [← hc]; exact Lib.data_getElem? s i his
        rw [← HS.out, data_bs, List.getElem?_eq_getElem hi] at h1
        exact Option.some.inj h1
      have hca : c.toNat < 128 := by rw [← hcl]; exact ha _ (List.getElem_mem hi)
      have hlen : (wo (l.take i)).length + (bs (signB c)).size ≤ 1000000 := by
        have h1 := wo_len (l.take i)
        have h2 := shs_len c
        have h3 : (l.take i).length ≤ l.length := by rw [List.length_take]; omega
        have h4 : (bs (signB c)).size = (signB c).length := by simp [bs, ByteArray.size]
        omega
      have HE := Lib.hid (show wo (l.take (i + 1)) = wo (l.take i) ++ (bs (signB c)).data.toList from by
        rw [data_bs, ← List.take_append_getElem hi, hcl]
        unfold wo
        rw [List.flatMap_append, List.flatMap_singleton])
      have HLen := Lib.hid hlen
      have HCA := Lib.hid hca
      clear hcl hca hlen
      go_wp2_with fail
      refine (shs_any c HCA.out _).mono ?_
      rintro e w3 ⟨rfl, rfl⟩
      go_wp2_with fail
      refine (write_text w.heap.size w.heap.size (wo (l.take i)) (bs (signB c)) _ HBs.out HLen.out HLo.out.size).mono ?_
      rintro e w4 ⟨⟨v, rfl⟩, hb4, hlow4⟩
      have HB4 := Lib.hid hb4
      have HL4 := Lib.hid (HLo.out.trans hlow4)
      clear hb4 hlow4
      go_wp2
      go_roundg g
      case measure => omega
      case rel => exact ⟨i + 1, by omega, by first | rfl | simp, by rw [HE.out]; exact HB4.out, HL4.out⟩
end Go.Proofs.YtnfmpbcbppdkgaaDoor
