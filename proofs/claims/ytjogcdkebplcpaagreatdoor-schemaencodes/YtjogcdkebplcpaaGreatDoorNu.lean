/-
  What the parser's number takes: one to five digits. No condition but that it is a parser.
-/
import Derived.Test.YtjogcdkebplcpaaGreatDoorPa
namespace Go.Proofs.YtjogcdkebplcpaaGreatDoor
open Go.RowKit Sch

theorem dig_val {c : UInt8} (h : isDig c = true) : 48 ≤ c.toNat ∧ c.toNat ≤ 57 := by
  unfold isDig at h
  simp only [Bool.and_eq_true, decide_eq_true_eq, UInt8.le_iff_toNat_le] at h
  exact h
theorem decOf_snoc (d : List UInt8) (c : UInt8) : decOf (d ++ [c]) = 10 * decOf d + (c.toNat - 48) := by simp [decOf]
theorem decOf_lt : ∀ d : List UInt8, (∀ c ∈ d, isDig c = true) → decOf d < 10 ^ d.length := by
  intro d
  have gen : ∀ (d : List UInt8) (a k : Nat), (∀ c ∈ d, isDig c = true) → a < 10 ^ k → d.foldl (fun n c => 10 * n + (c.toNat - 48)) a < 10 ^ (k + d.length) := by
    intro d
    induction d with
    | nil => intro a k _ h; simpa using h
    | cons c d ih =>
      intro a k hd ha
      have hc := dig_val (hd c (by simp))
      have := ih (10 * a + (c.toNat - 48)) (k + 1) (fun x hx => hd x (by simp [hx])) (by rw [Nat.pow_succ]; omega)
      simp only [List.foldl_cons, List.length_cons]
      rw [show k + (d.length + 1) = k + 1 + d.length from by omega]
      exact this
  intro h
  have := gen d 0 0 h (by simp)
  simpa [decOf] using this

theorem ret_tup {a b : Int} (h : a = b) : Ending.returned (.tuple #[.int .i64 a, .nilIface]) = .returned (.tuple #[.int .i64 b, .nilIface]) := by rw [h]
theorem dat_at (s : ByteArray) (j : Nat) (h : j < s.size) : s.data.toList[j]'(by rw [Array.length_toList]; exact h) = s[j] := rfl

set_option maxRecDepth 100000 in
set_option maxHeartbeats 1000000 in
theorem iatoi_any (s : ByteArray) (w : World) (h0 : 0 < s.size) (h5 : s.size ≤ 5) (hd : ∀ c ∈ s.data.toList, isDig c = true) :
    Calls Tryz.prog 86 #[.string s] w fun r w' => r = .returned (.tuple #[.int .i64 (decOf s.data.toList), .nilIface]) ∧ Below w.heap.size w w' := by
  have hcv := run_bytes_of_string (P := Tryz.prog) w 9 54 5 s Tryz.underlying9 Tryz.underlying54 Tryz.underlying5
  have hb : ∀ j (hj : j < s.size), 48 ≤ (s[j]).toNat ∧ (s[j]).toNat ≤ 57 := by
    intro j hj
    rw [← dat_at s j hj]
    exact dig_val (hd _ (List.getElem_mem _))
  have hc := hb 0 h0
  have h45 : (((s[0]'h0).toNat : Int) == 45) = false := by rw [beq_eq_false_iff_ne]; omega
  have h43 : (((s[0]'h0).toNat : Int) == 43) = false := by rw [beq_eq_false_iff_ne]; omega
  have hrow : ∀ j (hj : j < s.size), (w.drew.alloc (.cells (bytesRow s (grownCap w s.size 0 5)) 5 ((bytesRow s (grownCap w s.size 0 5)).size, (bytesRow s (grownCap w s.size 0 5)).size + 1))).cell? ⟨w.heap.size, j, none⟩ = some (.int .u8 ((s[j]).toNat : Int)) := by
    intro j hj
    rw [cell_of_row _ w.heap.size j _ _ _ (heap_alloc_new w.drew _), bytesRow_at _ _ j hj]
    rfl
  have hB := ((Below.refl w.heap.size w).drew).alloc (Nat.le_refl _) (.cells (bytesRow s (grownCap w s.size 0 5)) 5 ((bytesRow s (grownCap w s.size 0 5)).size, (bytesRow s (grownCap w s.size 0 5)).size + 1))
  generalize w.drew.alloc (.cells (bytesRow s (grownCap w s.size 0 5)) 5 ((bytesRow s (grownCap w s.size 0 5)).size, (bytesRow s (grownCap w s.size 0 5)).size + 1)) = W at hcv hrow hB
  have HR := Lib.hid hrow
  have HB := Lib.hid hB
  have HD := Lib.hid hd
  have HBB := Lib.hid hb
  clear hrow hB hd hb
  go_enter Tryz.func86, Tryz.ntmps86
  go_wp2
  clear hcv
  go_loop [6, 49] (fun a i => ∃ k : Nat, k ≤ s.size ∧ i = .int .i64 k ∧ a = .int .i64 (decOf (s.data.toList.take k))) (fun _ i => s.size - (intOf i).toNat)
  case atStart => exact ⟨0, Nat.zero_le _, rfl, rfl⟩
  case round =>
    obtain ⟨k, hk, rfl, rfl⟩ := hrel
    have hbd : decOf (s.data.toList.take k) < 100000 := by
      have h1 := decOf_lt (s.data.toList.take k) (fun c hc => HD.out c (List.mem_of_mem_take hc))
      have h2 : (s.data.toList.take k).length ≤ 5 := by simp; omega
      have h3 : 10 ^ (s.data.toList.take k).length ≤ 10 ^ 5 := Nat.pow_le_pow_right (by omega) h2
      omega
    by_cases hlt : k < s.size
    · have hcell := HR.out k hlt
      have hdk := HBB.out k hlt
      have HT := Lib.hid (show decOf (s.data.toList.take (k + 1)) = 10 * decOf (s.data.toList.take k) + ((s[k]).toNat - 48) by
        rw [List.take_succ_eq_append_getElem (by rw [Array.length_toList]; exact hlt), decOf_snoc]; rfl)
      generalize hV : decOf (s.data.toList.take k) = V at *
      clear hV
      go_wp2
      go_round
      case rel =>
        refine ⟨k + 1, by omega, by go_num, ?_⟩
        rw [HT.out]
        go_num
      case measure => simp [intOf]; omega
    · go_wp2
      go_ret2
      exact ⟨ret_tup (by rw [List.take_of_length_le (by rw [Array.length_toList]; show s.size ≤ k; omega)]), HB.out⟩

set_option maxHeartbeats 400000 in
theorem atoi_any (s : ByteArray) (w : World) (h0 : 0 < s.size) (h5 : s.size ≤ 5) (hd : ∀ c ∈ s.data.toList, isDig c = true) :
    Calls Tryz.prog 73 #[.string s] w fun r w' => r = .returned (.tuple #[.int .i64 (decOf s.data.toList), .nilIface]) ∧ Below w.heap.size w w' := by
  go_enter Tryz.func73, Tryz.ntmps73
  go_wp2_with fail
  refine (iatoi_any s w h0 h5 hd).mono ?_
  rintro r w1 ⟨rfl, hB⟩
  have HB := Lib.hid hB
  clear hB hd
  go_wp2
  go_ret2
  exact ⟨rfl, HB.out⟩

/-- How many digits stand ahead, five at the most. -/
theorem digs_spec (t : List UInt8) (k : Nat) (hk : k ≤ t.length) (h5 : k ≤ 5) (hd : ∀ j (h : j < k), isDig (t[j]'(by omega)) = true) (hend : k = 5 ∨ k = t.length ∨ ∃ h : k < t.length, isDig t[k] = false) : digs t = t.take k := by
  unfold digs
  have e1 : t.take 5 = t.take k ++ (t.drop k).take (5 - k) := by
    rw [← List.take_add, show k + (5 - k) = 5 from by omega]
  rw [e1, List.takeWhile_append_of_pos]
  · have e2 : ((t.drop k).take (5 - k)).takeWhile isDig = [] := by
      rcases hend with rfl | rfl | ⟨h, hf⟩
      · simp
      · simp
      · rw [List.drop_eq_getElem_cons h]
        by_cases h6 : k = 5
        · subst h6; simp
        · rw [show 5 - k = (4 - k) + 1 from by omega, List.take_succ_cons, List.takeWhile_cons, hf]; rfl
    rw [e2, List.append_nil]
  · intro a ha
    obtain ⟨j, hj, rfl⟩ := List.mem_take_iff_getElem.1 ha
    exact hd j (by omega)

/-- What a call of the parser leaves: refused, or a value and what is left. -/
def PPost {α : Type} (p : Nat) (w : World) (n : Nat) (x : Option (α × List UInt8)) (R : α → Value → World → Prop) (r : Ending) (w' : World) : Prop :=
  FrP p w w' ∧ match x with
    | none => r = Bad 1
    | some (a, t') => ∃ v, r = .returned v ∧ R a v w' ∧ Pa w' p t' n

theorem ext_take (t : List UInt8) (k : Nat) : (({ data := t.toArray } : ByteArray).extract 0 k) = ⟨(t.take k).toArray⟩ := by
  apply ByteArray.ext; apply Array.ext'
  rw [ByteArray.data_extract, Array.toList_extract]; simp
theorem ext_drop (t : List UInt8) (k : Nat) : (({ data := t.toArray } : ByteArray).extract k ({ data := t.toArray } : ByteArray).size) = ⟨(t.drop k).toArray⟩ := by
  have hsz : ({ data := t.toArray } : ByteArray).size = t.length := by show t.toArray.size = _; simp
  apply ByteArray.ext; apply Array.ext'
  rw [ByteArray.data_extract, Array.toList_extract, hsz]; simp [List.take_of_length_le]

set_option maxRecDepth 100000 in
set_option maxHeartbeats 2000000 in
theorem number_any (p : Nat) (t : List UInt8) (n : Nat) (w : World) (h : Pa w p t n) (ht : t.length ≤ 2000) :
    Calls Tryz.prog 52 #[.pointer (some ⟨p, 0, none⟩)] w (PPost p w n (num5 t) (fun k v _ => v = .int .i64 (k : Nat))) := by
  obtain ⟨c0, c1, f0, f1⟩ := h.cells
  obtain ⟨S, hS⟩ : ∃ S : ByteArray, S = ⟨t.toArray⟩ := ⟨_, rfl⟩
  have hsz : S.size = t.length := by rw [hS]; show t.toArray.size = _; simp
  have hat : ∀ j (hj : j < S.size) (hj2 : j < t.length), S[j] = t[j] := by
    intro j hj hj2; subst hS; rfl
  have hx1 : ∀ k, S.extract 0 k = ⟨(t.take k).toArray⟩ := by intro k; rw [hS]; exact ext_take t k
  have hx2 : ∀ k, S.extract k S.size = ⟨(t.drop k).toArray⟩ := by intro k; rw [hS]; exact ext_drop t k
  rw [← hS] at c0
  have H := Lib.hid h
  have HS := Lib.hid hS
  have HA := Lib.hid hat
  have HSZ := Lib.hid hsz
  have HX1 := Lib.hid hx1
  have HX2 := Lib.hid hx2
  have hs2 : S.size ≤ 2000 := by omega
  clear h hS hat hsz hx1 hx2
  go_enter Tryz.func52, Tryz.ntmps52
  go_wp2
  go_loop [3] (fun i => ∃ k : Nat, k ≤ S.size ∧ k ≤ 5 ∧ i = .int .i64 k ∧ ∀ j (h : j < k) (h2 : j < S.size), isDig (S[j]) = true) (fun i => 6 - (intOf i).toNat)
  case atStart => exact ⟨0, Nat.zero_le _, by omega, rfl, fun j h => absurd h (by omega)⟩
  case round =>
    obtain ⟨k, hk, hk5, rfl, hdg⟩ := hrel
    have HDG := Lib.hid hdg
    clear hdg
    by_cases hgo : k < S.size ∧ k < 5 ∧ ∃ h : k < S.size, isDig S[k] = true
    · obtain ⟨hks, hk4, _, hdk⟩ := hgo
      have hv := dig_val hdk
      have hv1 : (48 : Int) ≤ ((S[k]'hks).toNat : Int) := by omega
      have hv2 : ((S[k]'hks).toNat : Int) ≤ 57 := by omega
      have HDK := Lib.hid hdk
      clear hdk
      go_wp2
      go_round
      case rel =>
        refine ⟨k + 1, by omega, by omega, by go_num, fun j h h2 => ?_⟩
        by_cases e : j = k
        · subst e; exact HDK.out
        · exact HDG.out j (by omega) h2
      case measure => simp [intOf]; omega
    · have hz1 : S.size ≤ t.length := Nat.le_of_eq HSZ.out
      have hz2 : t.length ≤ S.size := Nat.le_of_eq HSZ.out.symm
      have hend : k = 5 ∨ k = t.length ∨ ∃ h : k < t.length, isDig t[k] = false := by
        by_cases e1 : k < S.size
        · by_cases e2 : k < 5
          · right; right
            refine ⟨by omega, ?_⟩
            rw [← HA.out k e1 (by omega)]
            cases hd : isDig S[k] with
            | false => rfl
            | true => exact absurd ⟨e1, e2, e1, hd⟩ hgo
          · left; omega
        · right; left; omega
      have hdd : ∀ j (h : j < k), isDig (t[j]'(by omega)) = true := fun j h => by
        rw [← HA.out j (by omega) (by omega)]; exact HDG.out j h (by omega)
      have hdigs := digs_spec t k (by omega) hk5 hdd hend
      have hlen : (t.take k).length = k := by simp; omega
      obtain ⟨D, hD⟩ : ∃ D, S.extract 0 k = D := ⟨_, rfl⟩
      have hDe : D = ⟨(t.take k).toArray⟩ := by rw [← hD]; exact HX1.out k
      have hDs : D.size = k := by rw [hDe]; show (t.take k).toArray.size = _; simp; omega
      have hDl : D.data.toList = t.take k := by rw [hDe]
      have hD0 : ∀ (h : 0 < D.size) (h2 : 0 < t.length), D[0] = t[0] := by
        intro h h2
        have e1 := dat_at D 0 h
        rw [← e1]
        simp [hDl]
      have HN := Lib.hid (show num5 t = if k = 0 ∨ (1 < k ∧ t.head? = some 48) then none else some (decOf (t.take k), t.drop k) by
        unfold num5
        rw [hdigs, hlen]
        by_cases e : k = 0
        · subst e; simp
        · have : ¬ t.take k = [] := by intro e2; rw [e2] at hlen; simp at hlen; omega
          simp [e, this])
      have hx2 : S.extract k S.size = ⟨(t.drop k).toArray⟩ := HX2.out k
      have HDD := Lib.hid (show ∀ c ∈ D.data.toList, isDig c = true by
        rw [hDl]; intro c hc
        obtain ⟨j, hj, rfl⟩ := List.mem_take_iff_getElem.1 hc
        exact hdd j (by omega))
      have HDL := Lib.hid hDl
      have HDs := Lib.hid hDs
      have hexit : k = S.size ∨ (k < S.size ∧ k = 5) ∨ (k < 5 ∧ ∃ h : k < S.size, (((S[k]).toNat : Int) < 48 ∨ 57 < ((S[k]).toNat : Int))) := by
        by_cases e1 : k < S.size
        · by_cases e2 : k < 5
          · right; right
            refine ⟨e2, e1, ?_⟩
            by_cases e3 : isDig S[k] = true
            · exact absurd ⟨e1, e2, e1, e3⟩ hgo
            · unfold isDig at e3
              simp only [Bool.and_eq_true, decide_eq_true_eq, UInt8.le_iff_toNat_le] at e3
              have h48 : (48 : UInt8).toNat = 48 := rfl
              have h57 : (57 : UInt8).toNat = 57 := rfl
              omega
          · right; left; omega
        · left; omega
      clear hgo hend hdd hdigs hlen hDe hDl
      by_cases o1 : k = 0
      · have HF := Lib.hid (HN.out.trans (if_pos (Or.inl o1)))
        subst o1
        clear HN hDs hD0 HDD HDL HDs
        rcases hexit with e | ⟨e1, e2⟩ | ⟨e1, e2, e3 | e3⟩
        · have e' : ¬ 0 < S.size := by omega
          clear e
          go_wp2_with fail
          refine (refuse_any 1 _).mono ?_
          rintro r w' ⟨rfl, rfl⟩
          go_wp2
          exact ⟨rfl, by rw [HF.out]; exact ⟨FrP.refl _ _, rfl⟩⟩
        · omega
        all_goals
          go_wp2_with fail
          refine (refuse_any 1 _).mono ?_
          rintro r w' ⟨rfl, rfl⟩
          go_wp2
          exact ⟨rfl, by rw [HF.out]; exact ⟨FrP.refl _ _, rfl⟩⟩
      · have ht0 : 0 < t.length := by omega
        have hd0 : 0 < D.size := by omega
        have hhd : t.head? = some t[0] := by rw [List.head?_eq_getElem?, List.getElem?_eq_getElem ht0]
        have hk0 : 0 < k := by omega
        have hkb : ((k : Int) == 0) = false := by rw [beq_eq_false_iff_ne]; omega
        have e0 := hD0 hd0 ht0
        by_cases o2 : 1 < k ∧ t[0] = 48
        · obtain ⟨o3, o4⟩ := o2
          have HF := Lib.hid (HN.out.trans (if_pos (Or.inr ⟨o3, by rw [hhd, o4]⟩)))
          have hz0 : (((D[0]'hd0).toNat : Int) == 48) = true := by rw [e0, o4]; rfl
          clear HN hDs hD0 HDD HDL HDs e0 o4 hhd o1
          rcases hexit with e | ⟨e1, e2⟩ | ⟨e1, e2, e3 | e3⟩
          · have e' : ¬ k < S.size := by omega
            clear e
            go_wp2_with fail
            refine (refuse_any 1 _).mono ?_
            rintro r w' ⟨rfl, rfl⟩
            go_wp2
            exact ⟨rfl, by rw [HF.out]; exact ⟨FrP.refl _ _, rfl⟩⟩
          · have e' : ¬ k < 5 := by omega
            clear e2
            go_wp2_with fail
            refine (refuse_any 1 _).mono ?_
            rintro r w' ⟨rfl, rfl⟩
            go_wp2
            exact ⟨rfl, by rw [HF.out]; exact ⟨FrP.refl _ _, rfl⟩⟩
          all_goals
            go_wp2_with fail
            refine (refuse_any 1 _).mono ?_
            rintro r w' ⟨rfl, rfl⟩
            go_wp2
            exact ⟨rfl, by rw [HF.out]; exact ⟨FrP.refl _ _, rfl⟩⟩
        · have HF := Lib.hid (HN.out.trans (if_neg (by
            intro hh
            rcases hh with hh | ⟨hh1, hh2⟩
            · exact o1 hh
            · rw [hhd] at hh2; exact o2 ⟨hh1, by simpa using hh2⟩)))
          have hz0 : 1 < k → (((D[0]'hd0).toNat : Int) == 48) = false := by
            intro h1
            rw [beq_eq_false_iff_ne]
            intro h2
            apply o2
            refine ⟨h1, ?_⟩
            rw [e0] at h2
            apply UInt8.toNat_inj.1
            have : (48 : UInt8).toNat = 48 := rfl
            omega
          have hfin : ∀ (r : Ending) (w' : World), r = .returned (.int .i64 (decOf D.data.toList : Nat)) → Pa w' p (t.drop k) n → FrP p w w' → PPost p w n (num5 t) (fun k v _ => v = .int .i64 (k : Nat)) r w' := by
            intro r w' hr hp hf
            rw [HF.out]
            exact ⟨hf, _, hr, by rw [HDL.out], hp⟩
          have HFin := Lib.hid hfin
          have hDs5 : D.size ≤ 5 := by omega
          clear HN hDs hD0 HDL e0 hhd o1 o2 hfin HF
          rcases hexit with e | ⟨e1, e2⟩ | ⟨e1, e2, e3 | e3⟩
          · have e' : ¬ k < S.size := by omega
            clear e
            by_cases ok1 : 1 < k
            all_goals
              first
                | (have hz1 := hz0 ok1; clear hz0)
                | clear hz0
              go_wp2_with fail
              refine (atoi_any D _ hd0 hDs5 HDD.out).mono ?_
              rintro r w1 ⟨rfl, hB⟩
              have HB := Lib.hid hB
              clear hB
              go_wp2
              go_ret
              have hP := (H.out.set0 (t.drop k))
              exact HFin.out _ _ rfl (by have := HB.out; exact (this.block p (by simp [World.setCell]; exact H.out.lt)).trans hP) (((FrP.refl p w).set 0 _).trans (FrP.of_below HB.out))
          · have e' : ¬ k < 5 := by omega
            clear e2
            have ok1 : 1 < k := by omega
            have hz1 := hz0 ok1
            clear hz0
            go_wp2_with fail
            refine (atoi_any D _ hd0 hDs5 HDD.out).mono ?_
            rintro r w1 ⟨rfl, hB⟩
            have HB := Lib.hid hB
            clear hB
            go_wp2
            go_ret
            have hP := (H.out.set0 (t.drop k))
            exact HFin.out _ _ rfl (by have := HB.out; exact (this.block p (by simp [World.setCell]; exact H.out.lt)).trans hP) (((FrP.refl p w).set 0 _).trans (FrP.of_below HB.out))
          all_goals
            by_cases ok1 : 1 < k
            all_goals
              first
                | (have hz1 := hz0 ok1; clear hz0)
                | clear hz0
              go_wp2_with fail
              refine (atoi_any D _ hd0 hDs5 HDD.out).mono ?_
              rintro r w1 ⟨rfl, hB⟩
              have HB := Lib.hid hB
              clear hB
              go_wp2
              go_ret
              have hP := (H.out.set0 (t.drop k))
              exact HFin.out _ _ rfl (by have := HB.out; exact (this.block p (by simp [World.setCell]; exact H.out.lt)).trans hP) (((FrP.refl p w).set 0 _).trans (FrP.of_below HB.out))
end Go.Proofs.YtjogcdkebplcpaaGreatDoor
