/-
  The document's GetReply tries each verdict: the reply that bytes would be, by their verdict. No condition.
-/
import Derived.Test.YtkbjimbnbocfpaaAp
import Derived.Test.YtkbjimbnbocfpaaRs
namespace Go.Proofs.Ytkbjimbnbocfpaa
open Go.RowKit
/-- These bytes are that reply's. -/
def Good (R : Rp) (s : ByteArray) : Prop := R.ok = true ∧ restC R.head R.body = 0 ∧ restS R.head R.body = s
def atR (k : Int) : Nat := if 5 < k then 16 else 24
/-- The reply that bytes would be by the verdict k. -/
def candR (s : ByteArray) (k : Int) : Rp :=
  ⟨(numR 4 s.data.toList 0).1, k, (ifR (loB k) (s.data.toList.drop (atR k)) 0).1,
    (ifR (hiB k) (ifR (loB k) (s.data.toList.drop (atR k)) 0).2.1 (ifR (loB k) (s.data.toList.drop (atR k)) 0).2.2).1, if k = 0 then s.extract 24 s.size else ⟨#[]⟩⟩
theorem good_take {R : Rp} {s : ByteArray} (h : Good R s) : takeR s.data.toList = R := by
  obtain ⟨h1, h2, h3⟩ := h
  obtain ⟨d1, d2, _⟩ := restS_data h2 h3
  rw [d1]
  exact takeR_back R h1 d2
theorem good_size {R : Rp} {s : ByteArray} (h : Good R s) : s.size ≤ 65536 := by
  obtain ⟨d1, _, d3⟩ := restS_data h.2.1 h.2.2
  have : s.size = s.data.toList.length := by simp
  rw [this, d1, List.length_append, Array.length_toList]
  exact d3
theorem good_get {R : Rp} {s : ByteArray} (h : Good R s) : getR s = (R, 0) := by
  have h1 := good_size h
  unfold getR
  rw [if_neg (by omega), good_take h]
  exact if_pos h
theorem none_get {s : ByteArray} (h : ∀ R, ¬ Good R s) : getR s = (⟨0, 0, 0, 0, ⟨#[]⟩⟩, if 65536 < s.size then 2 else 4) := by
  unfold getR
  by_cases c : 65536 < s.size
  · rw [if_pos c, if_pos c]
  · rw [if_neg c, if_neg c]
    exact if_neg (fun g => h _ g)
theorem drop_nb (n : Int) (l : List UInt8) (k : Nat) : (numBytes n 4 ++ l).drop (k + 4) = l.drop k := by
  rw [List.drop_append, List.drop_of_length_le (by rw [numBytes_length]; omega), numBytes_length]
  simp
theorem ext_drop (s : ByteArray) (a : Nat) : s.extract a s.size = ⟨(s.data.toList.drop a).toArray⟩ := by
  apply ByteArray.ext
  apply Array.ext'
  have hl : s.data.toList.length = s.size := by simp
  rw [ByteArray.data_extract, Array.toList_extract, List.extract_eq_take_drop, List.take_of_length_le (by rw [List.length_drop, hl]; omega)]
theorem good_cand {R : Rp} {s : ByteArray} (hg : Good R s) : candR s R.v = R ∧ atR R.v ≤ s.size ∧ 0 ≤ R.v ∧ R.v ≤ 7 := by
  obtain ⟨h, h2, h3⟩ := hg
  obtain ⟨d1, d2, d3⟩ := restS_data h2 h3
  have hsz : s.size = s.data.toList.length := by simp
  obtain ⟨xid, v, low, high, body⟩ := R
  simp only [Rp.ok, Bool.and_eq_true, decide_eq_true_eq, areU, List.all_cons, List.all_nil, and_true] at h
  obtain ⟨⟨⟨⟨⟨h0, h7⟩, hx, hl, hh⟩, h3⟩, h5⟩, h6⟩ := h
  unfold Rp.head Rp.mid at d1
  simp only [putU, List.flatMap_cons, List.flatMap_nil, List.append_nil, opq_empty, List.append_assoc] at d1
  have key : candR s v = ⟨xid, v, low, high, body⟩ ∧ atR v ≤ s.size := by
    rw [hsz]
    unfold candR
    rw [d1, nR xid hx, ext_drop, d1]
    by_cases c6 : v = 6
    · subst c6
      have hb := bytes_nil (show body.toList.isEmpty = true from by simpa [boB] using h6)
      subst hb
      simp only [show atR 6 = 0 + 4 + 4 + 4 + 4 from rfl, if_true, List.append_assoc, drop_nb, List.drop_zero, show loB 6 = true from rfl, show hiB 6 = true from rfl, ifR_yes low hl, ifR_yes high hh]
      exact ⟨rfl, by simp only [List.length_append, numBytes_length]; omega⟩
    · by_cases c7 : v = 7
      · subst c7
        have hb := bytes_nil (show body.toList.isEmpty = true from by simpa [boB] using h6)
        subst hb
        have e0 : high = 0 := by simpa [hiB] using h5
        subst e0
        simp only [show atR 7 = 0 + 4 + 4 + 4 + 4 from rfl, if_neg c6, if_true, List.append_assoc, drop_nb, List.drop_zero, show loB 7 = true from rfl, show hiB 7 = false from rfl, ifR_yes low hl, ifR_no]
        exact ⟨rfl, by simp only [List.length_append, numBytes_length]; omega⟩
      · have ha : atR v = 0 + 4 + 4 + 4 + 4 + 4 + 4 := by unfold atR; rw [if_neg (by omega)]
        simp only [ha, if_neg c6, if_neg c7, List.append_assoc, show 24 = 0 + 4 + 4 + 4 + 4 + 4 + 4 from rfl, drop_nb, List.drop_zero]
        refine ⟨?_, by simp only [List.length_append, numBytes_length]; omega⟩
        by_cases c2 : v = 2
        · subst c2
          have hb := bytes_nil (show body.toList.isEmpty = true from by simpa [boB] using h6)
          subst hb
          simp only [show loB 2 = true from rfl, show hiB 2 = true from rfl, if_true, ifR_yes low hl, ifR_yes high hh]
          rfl
        · have e1 : hiB v = false := by simp [hiB, c2, c6]
          have e2 : loB v = false := by simp [loB, e1, c7]
          have el : low = 0 := by simpa [e2] using h3
          have eh : high = 0 := by simpa [e1] using h5
          subst el eh
          simp only [e1, e2, Bool.false_eq_true, if_false, List.nil_append, ifR_no]
          by_cases c0 : v = 0
          · subst c0
            simp
          · have e3 : boB v = false := by simp [boB, c0]
            have hb := bytes_nil (show body.toList.isEmpty = true from by simpa [e3] using h6)
            subst hb
            simp [c0]
  exact ⟨key.1, key.2, h0, h7⟩
end Go.Proofs.Ytkbjimbnbocfpaa
