/-
  The bytes of a reply are that reply's alone; so are a plain call's. Its conditions: the reply can be laid out; the call can be.
-/
import Derived.Test.YtkbjimbnbocfpaaTr
import Derived.Test.YtkbjimbnbocfpaaCt
import Derived.Test.YtkbjimbnbocfpaaSk
namespace Go.Proofs.Ytkbjimbnbocfpaa
open Go.RowKit
theorem opq_empty : opaqueOf ⟨#[]⟩ = numBytes 0 4 := by decide +kernel
theorem ifR_yes (n : Int) (hn : isU n = true) (rest : List UInt8) : ifR true (numBytes n 4 ++ rest) 0 = (n, rest, 0) := nR n hn rest 0
theorem ifR_no (rest : List UInt8) : ifR false rest 0 = (0, rest, 0) := rfl
theorem tv6 (rest : List UInt8) : tvR (numBytes 1 4 ++ (numBytes 0 4 ++ rest)) 0 = (6, rest, 0) := by
  unfold tvR
  simp only [nR 1 (by decide), nR 0 (by decide)]
  simp
theorem tv7 (rest : List UInt8) : tvR (numBytes 1 4 ++ (numBytes 1 4 ++ rest)) 0 = (7, rest, 0) := by
  unfold tvR
  simp only [nR 1 (by decide)]
  simp
theorem tvN (v : Int) (hv : isU v = true) (rest : List UInt8) : tvR (numBytes 0 4 ++ (numBytes 0 4 ++ (numBytes 0 4 ++ (numBytes v 4 ++ rest)))) 0 = (v, rest, 0) := by
  unfold tvR
  simp only [nR 0 (by decide), oNone 0 (by decide), nR v hv]
  simp
theorem fix_all (A : List UInt8) (h : A.length % 4 = 0) : fixR (A.length : Int) A 0 = (⟨A.toArray⟩, [], 0) := by
  have hp : pad A.length = 0 := by unfold pad; omega
  rw [fixR_nat, hp, if_neg (by omega)]
  simp
theorem bytes_nil {b : ByteArray} (h : b.toList.isEmpty = true) : b = ⟨#[]⟩ := by
  have h1 : b.toList = [] := List.isEmpty_iff.1 h
  apply ByteArray.ext
  apply Array.ext'
  simpa [ByteArray.toList_eq] using h1
theorem takeR_back (R : Rp) (h : R.ok = true) (h4 : R.body.size % 4 = 0) : takeR (R.head ++ R.body.data.toList) = R := by
  obtain ⟨xid, v, low, high, body⟩ := R
  simp only [Rp.ok, Bool.and_eq_true, decide_eq_true_eq, areU, List.all_cons, List.all_nil, and_true] at h
  obtain ⟨⟨⟨⟨⟨h0, h7⟩, hx, hl, hh⟩, h3⟩, h5⟩, h6⟩ := h
  have h4' : body.data.toList.length % 4 = 0 := by rw [Array.length_toList]; exact h4
  have hv : isU v = true := by unfold isU; simp; omega
  unfold Rp.head Rp.mid takeR
  simp only [putU, List.flatMap_cons, List.flatMap_nil, List.append_nil, opq_empty, List.append_assoc, nR xid hx, nR 1 (by decide)]
  by_cases c6 : v = 6
  · subst c6
    have hb := bytes_nil (show body.toList.isEmpty = true from by simpa [boB] using h6)
    subst hb
    simp only [if_true, List.append_assoc, tv6]
    unfold trR
    simp only [show loB 6 = true from rfl, show hiB 6 = true from rfl, show boB 6 = false from rfl, if_true, ifR_yes low hl, ifR_yes high hh]
    rfl
  · by_cases c7 : v = 7
    · subst c7
      have hb := bytes_nil (show body.toList.isEmpty = true from by simpa [boB] using h6)
      subst hb
      have e0 : high = 0 := by simpa [hiB] using h5
      subst e0
      simp only [if_neg c6, if_true, List.append_assoc, tv7]
      unfold trR
      simp only [show loB 7 = true from rfl, show hiB 7 = false from rfl, show boB 7 = false from rfl, if_true, ifR_yes low hl, ifR_no]
      rfl
    · simp only [if_neg c6, if_neg c7, List.append_assoc, tvN v hv]
      unfold trR
      by_cases c2 : v = 2
      · subst c2
        have hb := bytes_nil (show body.toList.isEmpty = true from by simpa [boB] using h6)
        subst hb
        simp only [show loB 2 = true from rfl, show hiB 2 = true from rfl, show boB 2 = false from rfl, if_true, ifR_yes low hl, ifR_yes high hh]
        rfl
      · have e1 : hiB v = false := by simp [hiB, c2, c6]
        have e2 : loB v = false := by simp [loB, e1, c7]
        have el : low = 0 := by simpa [e2] using h3
        have eh : high = 0 := by simpa [e1] using h5
        subst el eh
        simp only [e1, e2, Bool.false_eq_true, if_false, List.nil_append, ifR_no]
        by_cases c0 : v = 0
        · subst c0
          simp only [show boB 0 = true from rfl, if_true, fix_all _ h4']
        · have e3 : boB v = false := by simp [boB, c0]
          have hb := bytes_nil (show body.toList.isEmpty = true from by simpa [e3] using h6)
          subst hb
          simp [e3]
theorem restS_data {hd : List UInt8} {b s : ByteArray} (hc : restC hd b = 0) (hs : restS hd b = s) : s.data.toList = hd ++ b.data.toList ∧ b.size % 4 = 0 ∧ hd.length + b.size ≤ 65536 := by
  unfold restC at hc
  split at hc
  · omega
  · rename_i hr
    have hr' : b.size % 4 = 0 ∧ hd.length + b.size ≤ 65536 := by omega
    unfold restS at hs
    rw [if_neg hr] at hs
    subst hs
    exact ⟨by simp, hr'⟩
/-- What GetReply makes of a reply that was put. -/
theorem getR_back (R : Rp) (h : R.ok = true) (hc : restC R.head R.body = 0) : getR (restS R.head R.body) = (R, 0) := by
  obtain ⟨h1, h2, h3⟩ := restS_data hc rfl
  have hz : (restS R.head R.body).size ≤ 65536 := by
    have : (restS R.head R.body).size = (restS R.head R.body).data.toList.length := by simp
    rw [this, h1, List.length_append, Array.length_toList]
    exact h3
  unfold getR
  rw [if_neg (by omega), h1, takeR_back R h h2, if_pos ⟨h, hc, rfl⟩]
theorem rp_apart {R S : Rp} (h1 : R.ok = true) (h2 : S.ok = true) (c1 : restC R.head R.body = 0) (c2 : restC S.head S.body = 0) (h : restS R.head R.body = restS S.head S.body) : R = S := by
  have a := getR_back R h1 c1
  rw [h, getR_back S h2 c2] at a
  exact (Prod.mk.inj a).1.symm
theorem cl_apart {c d : Cl} (hc : c.unix = false) (hd : d.unix = false) (h1 : c.ok = true) (h2 : d.ok = true) (c1 : restC c.headP c.args = 0) (c2 : restC d.headP d.args = 0) (h : restS c.headP c.args = restS d.headP d.args) :
    c.xid = d.xid ∧ c.prog = d.prog ∧ c.vers = d.vers ∧ c.proc = d.proc ∧ c.args = d.args := by
  obtain ⟨k1, k2, k3⟩ := restS_data c1 rfl
  obtain ⟨m1, m2, m3⟩ := restS_data c2 rfl
  rw [h, m1] at k1
  simp only [Cl.ok, hc, hd, areU, Bool.and_eq_true, List.all_cons, List.all_nil, and_true] at h1 h2
  have q1 : c.args.data.toList.length = c.args.size := by simp
  have q2 : d.args.data.toList.length = d.args.size := by simp
  rw [headP_length] at k3 m3
  have a := get_whole c c.args.data.toList h1.1.1 h1.1.2.1 h1.1.2.2.1 h1.1.2.2.2 (by omega) (by omega)
  have b := get_whole d d.args.data.toList h2.1.1 h2.1.2.1 h2.1.2.2.1 h2.1.2.2.2 (by omega) (by omega)
  rw [← k1, b] at a
  simp only [Gco.ok.injEq] at a
  obtain ⟨a1, a2, a3, a4, _, _, _, _, _, _, a5⟩ := a
  refine ⟨a1.symm, a2.symm, a3.symm, a4.symm, ?_⟩
  apply ByteArray.ext
  simpa using a5.symm
end Go.Proofs.Ytkbjimbnbocfpaa
