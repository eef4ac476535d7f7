/-
  What GetCall makes of a call that was put. Its condition: the call can be laid out.
-/
import Derived.Test.YtkbjimbnbocfpaaIv
import Derived.Test.YtkbjimbnbocfpaaPv
namespace Go.Proofs.Ytkbjimbnbocfpaa
open Go.RowKit
theorem opq_put (m : Int) (hm : m ≤ 1000000) (b : ByteArray) (hb : (b.size : Int) ≤ m) (l : List UInt8) : opqR m (opaqueOf b ++ l) 0 = (b, l, 0) := by
  have hl : b.data.toList.length = b.size := by simp
  unfold opqR
  rw [opaque_cons, List.append_assoc, nR (b.size : Int) (by unfold isU; rw [decide_eq_true_eq]; omega)]
  dsimp only
  rw [if_neg (by split <;> omega), fixR_nat]
  have hf : fixedOf b ++ l = b.data.toList ++ (List.replicate (pad b.size) 0 ++ l) := by unfold fixedOf; simp
  rw [hf]
  have t1 : (b.data.toList ++ (List.replicate (pad b.size) 0 ++ l)).take b.size = b.data.toList := by
    rw [List.take_append, List.take_of_length_le (by omega), hl]; simp
  have t2 : (b.data.toList ++ (List.replicate (pad b.size) 0 ++ l)).drop b.size = List.replicate (pad b.size) 0 ++ l := by
    rw [List.drop_append, List.drop_of_length_le (by omega), hl]; simp
  have t3 : (b.data.toList ++ (List.replicate (pad b.size) 0 ++ l)).drop (b.size + pad b.size) = l := by
    rw [← List.drop_drop, t2, List.drop_append]
    simp
  rw [if_neg (by simp only [List.length_append, List.length_replicate, hl]; omega), t1, t2, t3]
  rw [if_pos (by rw [List.take_append]; simp)]
theorem putU_cons (n : Int) (G : List Int) : putU (n :: G) = numBytes n 4 ++ putU G := rfl
theorem grp_put (l : List UInt8) : ∀ (G : List Int) (_ : areU G = true) (k : Nat) (_ : k ≤ G.length), grpR (putU G ++ l) 0 k = (G.take k, putU (G.drop k) ++ l, 0)
  | G, _, 0, _ => by simp [grpR]
  | G, hG, k + 1, hk => by
    have ih := grp_put l G hG k (by omega)
    have hd : G.drop k = G[k] :: G.drop (k + 1) := List.drop_eq_getElem_cons (by omega)
    have hu : isU G[k] = true := List.all_eq_true.1 hG _ (List.getElem_mem _)
    show (_, _, _) = _
    rw [ih]
    dsimp only
    rw [hd, putU_cons, List.append_assoc, nR _ hu]
    rw [List.take_succ_eq_append_getElem (show k < G.length by omega)]
theorem unix_put (c : Cl) (hs : isU c.stamp = true) (hu : isU c.uid = true) (hg : isU c.gid = true) (hm : c.mach.size ≤ 255) (hG : c.groups.length ≤ 16) (hA : areU c.groups = true) : unixO ⟨c.cred.toArray⟩ = some (c.stamp, c.mach, c.uid, c.gid, c.groups) := by
  have e : (⟨c.cred.toArray⟩ : ByteArray).data.toList = numBytes c.stamp 4 ++ (opaqueOf c.mach ++ (numBytes c.uid 4 ++ (numBytes c.gid 4 ++ (numBytes (c.groups.length : Int) 4 ++ putU c.groups)))) := by
    unfold Cl.cred
    simp [putU]
  have hn : isU (c.groups.length : Int) = true := by unfold isU; rw [decide_eq_true_eq]; omega
  have hgp := grp_put [] c.groups hA c.groups.length (Nat.le_refl _)
  simp only [List.append_nil, List.take_length, List.drop_length] at hgp
  unfold unixO
  rw [e]
  simp only [nR c.stamp hs, opq_put 255 (by decide) c.mach (by omega), nR c.uid hu, nR c.gid hg, nR _ hn, Int.toNat_natCast, hgp]
  rw [if_pos (by simp [hG, endR, putU])]
theorem tail_put (A : List UInt8) (f : ByteArray → Tc) (h : A.length % 4 = 0) : tailO (numBytes 0 4 ++ (opaqueOf ⟨#[]⟩ ++ A)) 0 f = f ⟨A.toArray⟩ := by
  rw [opq_empty]; exact tail_ok A f h
/-- A call that was put is taken as it was. -/
theorem getO_put (c : Cl) (ho : c.ok = true) (hc : restC c.head c.args = 0) : getO (restS c.head c.args) = .ok c.xid c.prog c.vers c.proc c.unix c.stamp c.mach c.uid c.gid c.groups c.args := by
  obtain ⟨d1, d2, d3⟩ := restS_data hc rfl
  have hsz : (restS c.head c.args).size ≤ 65536 := by
    have : (restS c.head c.args).size = (restS c.head c.args).data.toList.length := by simp
    rw [this, d1, List.length_append, Array.length_toList]
    exact d3
  have hal : c.args.data.toList.length % 4 = 0 := by rw [Array.length_toList]; exact d2
  generalize restS c.head c.args = s at *
  obtain ⟨xid, prog, vers, proc, unix, st, m, uid, gid, G, args⟩ := c
  dsimp only at *
  cases unix with
  | false =>
    simp only [Cl.ok, areU, Bool.and_eq_true, List.all_cons, List.all_nil, and_true, Bool.false_eq_true, if_false, Cl.zero, beq_iff_eq, List.isEmpty_iff] at ho
    obtain ⟨⟨u1, u2, u3, u4⟩, ⟨⟨⟨z1, z2⟩, z3⟩, z4⟩, z5⟩ := ho
    have hm := bytes_nil (b := m) (by rw [z2]; rfl)
    subst z1 z3 z4 z5 hm
    have e : s.data.toList = numBytes xid 4 ++ (numBytes 0 4 ++ (numBytes 2 4 ++ (numBytes prog 4 ++ (numBytes vers 4 ++ (numBytes proc 4 ++ (numBytes 0 4 ++ (opaqueOf ⟨#[]⟩ ++ (numBytes 0 4 ++ (opaqueOf ⟨#[]⟩ ++ args.data.toList))))))))) := by
      rw [d1]; simp [Cl.head, putU]
    rw [getO_eq hsz (by rw [e]; exact nR xid u1 _ 0) (nR 0 (by decide) _ 0), if_neg (by simp),
      takeO_eq (nR 2 (by decide) _ 0) (nR prog u2 _ 0) (nR vers u3 _ 0) (nR proc u4 _ 0) (nR 0 (by decide) _ 0) (opq_put 400 (by decide) ⟨#[]⟩ (by decide) _)]
    rw [if_neg (by simp), if_neg (by simp), if_neg (by decide), if_neg (by decide), if_neg (by decide +kernel), tail_put _ _ hal]
  | true =>
    simp only [Cl.ok, areU, Bool.and_eq_true, List.all_cons, List.all_nil, and_true, if_true, decide_eq_true_eq] at ho
    obtain ⟨⟨u1, u2, u3, u4⟩, ⟨⟨⟨v1, v2, v3⟩, hm⟩, hG⟩, hA⟩ := ho
    have hcl := cred_length (Cl.mk xid prog vers proc true st m uid gid G args) hm hG
    have hcs : (⟨(Cl.mk xid prog vers proc true st m uid gid G args).cred.toArray⟩ : ByteArray).size = (Cl.mk xid prog vers proc true st m uid gid G args).cred.length := by show (Cl.cred _).toArray.size = _; simp
    have e : s.data.toList = numBytes xid 4 ++ (numBytes 0 4 ++ (numBytes 2 4 ++ (numBytes prog 4 ++ (numBytes vers 4 ++ (numBytes proc 4 ++ (numBytes 1 4 ++ (opaqueOf ⟨(Cl.mk xid prog vers proc true st m uid gid G args).cred.toArray⟩ ++ (numBytes 0 4 ++ (opaqueOf ⟨#[]⟩ ++ args.data.toList))))))))) := by
      rw [d1]; simp [Cl.head, putU]
    have hux := unix_put (Cl.mk xid prog vers proc true st m uid gid G args) v1 v2 v3 hm hG hA
    rw [getO_eq hsz (by rw [e]; exact nR xid u1 _ 0) (nR 0 (by decide) _ 0), if_neg (by simp),
      takeO_eq (nR 2 (by decide) _ 0) (nR prog u2 _ 0) (nR vers u3 _ 0) (nR proc u4 _ 0) (nR 1 (by decide) _ 0) (opq_put 400 (by decide) _ (by omega) _)]
    rw [if_neg (by simp), if_neg (by simp), if_neg (by decide), if_pos rfl, hux]
    dsimp only
    rw [tail_put _ _ hal]
end Go.Proofs.Ytkbjimbnbocfpaa
