/-
  The document's number: six digits are none. No condition but the form's length.
-/
import Derived.Test.YtjogcdkebplcpaaGreatDoorCk
namespace Go.Proofs.YtjogcdkebplcpaaGreatDoor
open Go.RowKit Sch

theorem headDig_drop (t : List UInt8) (k : Nat) : headDig (t.drop k) = if h : k < t.length then isDig t[k] else false := by
  by_cases h : k < t.length
  · rw [List.drop_eq_getElem_cons h, dif_pos h]; rfl
  · rw [List.drop_eq_nil_of_le (by omega), dif_neg h]; rfl
theorem num6_scan (t : List UInt8) (k : Nat) (hk : k ≤ t.length) (h6 : k ≤ 6) (hd : ∀ j (h : j < k), isDig (t[j]'(by omega)) = true) (hend : k = 6 ∨ k = t.length ∨ ∃ h : k < t.length, isDig t[k] = false) :
    num6 t = if k = 0 ∨ 5 < k ∨ (t.head? = some 48 ∧ 1 < k) then none else some (decOf (t.take k), t.drop k) := by
  by_cases e6 : k = 6
  · subst e6
    have e1 : digs t = t.take 5 := digs_spec t 5 (by omega) (by omega) (fun j h => hd j (by omega)) (.inl rfl)
    have e2 : (t.take 5).length = 5 := by simp; omega
    rw [if_pos (by omega)]
    unfold num6 num5
    rw [e1, e2]
    by_cases h0 : t.take 5 = [] ∨ 1 < 5 ∧ t.head? = some 48
    · rw [if_pos h0]
    · rw [if_neg h0]
      simp only
      rw [headDig_drop, dif_pos (by omega), hd 5 (by omega), if_pos rfl]
  · have e1 : digs t = t.take k := by
      refine digs_spec t k hk (by omega) hd ?_
      rcases hend with e | e | e
      · exact absurd e e6
      · exact .inr (.inl e)
      · exact .inr (.inr e)
    have e2 : (t.take k).length = k := by simp; omega
    have e3 : headDig (t.drop k) = false := by
      rw [headDig_drop]
      rcases hend with e | e | ⟨e, e'⟩
      · exact absurd e e6
      · rw [dif_neg (by omega)]
      · rw [dif_pos e, e']
    have e4 : t.take k = [] ↔ k = 0 := by
      constructor
      · intro h; rw [h] at e2; simpa using e2.symm
      · rintro rfl; rfl
    unfold num6 num5
    rw [e1, e2]
    by_cases h0 : k = 0 ∨ 5 < k ∨ (t.head? = some 48 ∧ 1 < k)
    · rw [if_pos h0]
      rw [if_pos (by rcases h0 with h | h | h; exact .inl (e4.2 h); omega; exact .inr ⟨h.2, h.1⟩)]
    · rw [if_neg h0, if_neg (by rintro (h | h); exact h0 (.inl (e4.1 h)); exact h0 (.inr (.inr ⟨h.2, h.1⟩)))]
      simp only [e3]
      rfl

/-- What digits answers. -/
def DPost (T : List UInt8) (x : Option (Nat × List UInt8)) (w : World) (r : Ending) (w' : World) : Prop :=
  w = w' ∧ match x with
    | none => ∃ k : Nat, r = .returned (.tuple #[.int .i64 (-1), .int .i64 k])
    | some (n, t') => r = .returned (.tuple #[.int .i64 (n : Nat), .int .i64 ((T.length - t'.length : Nat) : Int)])
theorem DPost.none {T : List UInt8} {x : Option (Nat × List UInt8)} {w : World} {r : Ending} {w' : World} (hx : x = none) (hw : w = w') (k : Nat) (hr : r = .returned (.tuple #[.int .i64 (-1), .int .i64 k])) : DPost T x w r w' := by
  subst hx; exact ⟨hw, k, hr⟩
theorem DPost.some {T : List UInt8} {x : Option (Nat × List UInt8)} {w : World} {r : Ending} {w' : World} {n : Nat} {t' : List UInt8} (hx : x = some (n, t')) (hw : w = w') (hr : r = .returned (.tuple #[.int .i64 (n : Nat), .int .i64 ((T.length - t'.length : Nat) : Int)])) : DPost T x w r w' := by
  subst hx; exact ⟨hw, hr⟩

set_option maxRecDepth 100000 in
set_option maxHeartbeats 2000000 in
theorem digits_any (T : List UInt8) (a : Nat) (w : World) (hT : T.length ≤ 1000) (ha : a ≤ T.length) :
    Calls Tryz.prog 30 #[.string ⟨T.toArray⟩, .int .i64 a] w (DPost T (num6 (T.drop a)) w) := by
  obtain ⟨S, hS⟩ : ∃ S : ByteArray, S = ⟨T.toArray⟩ := ⟨_, rfl⟩
  have hsz : S.size = T.length := by rw [hS]; show T.toArray.size = _; simp
  have hat : ∀ j (hj : j < S.size) (hj2 : j < T.length), S[j] = T[j] := by
    intro j hj hj2; subst hS; rfl
  rw [← hS]
  obtain ⟨x0, hx0⟩ : ∃ x0, x0 = num6 (T.drop a) := ⟨_, rfl⟩
  rw [← hx0]
  have HA := Lib.hid hat
  have HS := Lib.hid hS
  have HSZ := Lib.hid hsz
  have HX0 := Lib.hid hx0
  have hs1 : S.size ≤ 1000 := by omega
  have hs2 : a ≤ S.size := by omega
  clear hat hS hsz hx0
  go_enter Tryz.func30, Tryz.ntmps30
  go_wp2
  go_loop [6, 7] (fun v i => ∃ k : Nat, a ≤ k ∧ k ≤ S.size ∧ k ≤ a + 6 ∧ i = .int .i64 k ∧ v = .int .i64 (decOf ((T.drop a).take (k - a)) : Nat) ∧ ∀ j (_ : j < k) (h2 : j < S.size), a ≤ j → isDig (S[j]) = true) (fun _ i => a + 7 - (intOf i).toNat)
  case atStart => exact ⟨a, Nat.le_refl _, hs2, by omega, rfl, by simp [decOf], fun j h _ h2 => absurd h (by omega)⟩
  case round =>
    obtain ⟨k, hak, hk, hk6, rfl, rfl, hdg⟩ := hrel
    have HDG := Lib.hid hdg
    have hdt : ∀ j (hj : j < k - a), isDig ((T.drop a)[j]'(by have := HSZ.out; simp; omega)) = true := fun j hj => by
      have h1 := HSZ.out
      rw [List.getElem_drop, ← HA.out (a + j) (by omega) (by omega)]
      exact hdg (a + j) (by omega) (by omega) (by omega)
    have hbd : decOf ((T.drop a).take (k - a)) < 1000000 := by
      have h1 := decOf_lt ((T.drop a).take (k - a)) (fun c hc => by
        obtain ⟨j, hj, rfl⟩ := List.mem_take_iff_getElem.1 hc
        exact hdt j (by omega))
      have h2 : ((T.drop a).take (k - a)).length ≤ 6 := by simp; omega
      have h3 : 10 ^ ((T.drop a).take (k - a)).length ≤ 10 ^ 6 := Nat.pow_le_pow_right (by omega) h2
      omega
    have HDT := Lib.hid hdt
    clear hdg hdt
    by_cases hgo : k < S.size ∧ k < a + 6 ∧ ∃ h : k < S.size, isDig S[k] = true
    · obtain ⟨hks, hk4, _, hdk⟩ := hgo
      have hv := dig_val hdk
      have hv1 : (48 : Int) ≤ ((S[k]'hks).toNat : Int) := by omega
      have hv2 : ((S[k]'hks).toNat : Int) ≤ 57 := by omega
      have HDK := Lib.hid hdk
      have HT := Lib.hid (show decOf ((T.drop a).take (k + 1 - a)) = 10 * decOf ((T.drop a).take (k - a)) + ((S[k]).toNat - 48) by
        have h1 := HSZ.out
        rw [show k + 1 - a = (k - a) + 1 by omega, List.take_succ_eq_append_getElem (by simp; omega), decOf_snoc, List.getElem_drop, HA.out k hks (by omega)]
        simp only [show a + (k - a) = k by omega])
      generalize hV : decOf ((T.drop a).take (k - a)) = V at *
      clear hdk hV
      go_wp2
      go_round
      case rel =>
        refine ⟨k + 1, by omega, by omega, by omega, by go_num, ?_, fun j h h2 h3 => ?_⟩
        · rw [HT.out]; go_num
        · by_cases e : j = k
          · subst e; exact HDK.out
          · exact HDG.out j (by omega) h2 h3
      case measure => simp [intOf]; omega
    · have h1 := HSZ.out
      have hend : k - a = 6 ∨ k - a = (T.drop a).length ∨ ∃ h : k - a < (T.drop a).length, isDig (T.drop a)[k - a] = false := by
        by_cases e1 : k < S.size
        · by_cases e2 : k < a + 6
          · right; right
            refine ⟨by simp; omega, ?_⟩
            rw [List.getElem_drop]
            simp only [show a + (k - a) = k by omega]
            rw [← HA.out k e1 (by omega)]
            cases hd : isDig S[k] with
            | false => rfl
            | true => exact absurd ⟨e1, e2, e1, hd⟩ hgo
          · left; omega
        · right; left; simp; omega
      have hsc := num6_scan (T.drop a) (k - a) (by simp; omega) (by omega) HDT.out hend
      have HSC := Lib.hid hsc
      clear hsc hend h1
      have hexit : ¬ k < S.size ∨ (∃ h : k < S.size, ((S[k]).toNat : Int) < 48) ∨ (∃ h : k < S.size, (48 : Int) ≤ (S[k]).toNat ∧ (57 : Int) < (S[k]).toNat) ∨ (∃ h : k < S.size, (48 : Int) ≤ (S[k]).toNat ∧ ((S[k]).toNat : Int) ≤ 57 ∧ k = a + 6) := by
        by_cases e1 : k < S.size
        · by_cases e2 : ((S[k]).toNat : Int) < 48
          · exact .inr (.inl ⟨e1, e2⟩)
          · by_cases e3 : (57 : Int) < (S[k]).toNat
            · exact .inr (.inr (.inl ⟨e1, by omega, e3⟩))
            · refine .inr (.inr (.inr ⟨e1, by omega, by omega, ?_⟩))
              have hdd : isDig S[k] = true := by
                unfold isDig
                simp only [Bool.and_eq_true, decide_eq_true_eq, UInt8.le_iff_toNat_le]
                exact ⟨by show 48 ≤ _; omega, by show _ ≤ 57; omega⟩
              have : ¬ k < a + 6 := fun e => hgo ⟨e1, e, e1, hdd⟩
              omega
        · exact .inl e1
      have hhead : ∀ (h : a < S.size), (T.drop a).head? = some S[a] := fun h => by
        have h1 := HSZ.out
        rw [List.head?_drop, List.getElem?_eq_getElem (by omega), HA.out a h (by omega)]
      have hnone : ∀ r, (k = a ∨ k = a + 6 ∨ (∃ h : a < S.size, S[a] = 48 ∧ a + 1 < k)) → r = Ending.returned (.tuple #[.int .i64 (-1), .int .i64 k]) → DPost T x0 w r w := by
        intro r hc hr
        refine DPost.none ?_ rfl k hr
        rw [HX0.out, HSC.out, if_pos]
        rcases hc with e | e | ⟨h, e, e'⟩
        · left; omega
        · right; left; omega
        · right; right; exact ⟨by rw [hhead h, e], by omega⟩
      have hsome : ∀ r, a < k → k ≤ a + 5 → (∀ h : a < S.size, S[a] = 48 → k ≤ a + 1) → r = Ending.returned (.tuple #[.int .i64 (decOf ((T.drop a).take (k - a)) : Nat), .int .i64 k]) → DPost T x0 w r w := by
        intro r h1 h2 h3 hr
        have hz := HSZ.out
        have hx : num6 (T.drop a) = some (decOf ((T.drop a).take (k - a)), (T.drop a).drop (k - a)) := by
          rw [HSC.out, if_neg]
          rintro (e | e | ⟨e, e'⟩)
          · omega
          · omega
          · rw [hhead (by omega)] at e
            have := h3 (by omega) (by simpa using e)
            omega
        refine DPost.some (HX0.out.trans hx) rfl ?_
        rw [hr, show T.length - ((T.drop a).drop (k - a)).length = k by simp; omega]
      have HNO := Lib.hid hnone
      have HSO := Lib.hid hsome
      clear hnone hsome hhead hgo HDG HDT HSC
      generalize hV : decOf ((T.drop a).take (k - a)) = V at *
      clear hV
      by_cases q1 : k = a
      · subst q1
        rcases hexit with e | ⟨e1, e2⟩ | ⟨e1, e2, e3⟩ | ⟨e1, e2, e3, e4⟩
        · go_wp2
          go_ret2
          exact HNO.out _ (by simp) rfl
        · go_wp2
          go_ret2
          exact HNO.out _ (by simp) rfl
        · go_wp2
          go_ret2
          exact HNO.out _ (by simp) rfl
        · omega
      · by_cases q2 : k = a + 6
        · subst q2
          rcases hexit with e | ⟨e1, e2⟩ | ⟨e1, e2, e3⟩ | ⟨e1, e2, e3, e4⟩
          · go_wp2
            go_ret2
            exact HNO.out _ (by simp) (by first | rfl | simp)
          · go_wp2
            go_ret2
            exact HNO.out _ (by simp) (by first | rfl | simp)
          · go_wp2
            go_ret2
            exact HNO.out _ (by simp) (by first | rfl | simp)
          · go_wp2
            go_ret2
            exact HNO.out _ (by simp) (by first | rfl | simp)
        · have hak2 : a < k := by omega
          have has : a < S.size := by omega
          have hka : ((k : Int) == (a : Int)) = false := by rw [beq_eq_false_iff_ne]; omega
          by_cases q3 : S[a] = 48
          · have q4 : ((((S[a]'has).toNat : Int)) == 48) = true := by rw [q3]; rfl
            by_cases q5 : a + 1 < k
            · have HQ := Lib.hid q3
              clear q3
              rcases hexit with e | ⟨e1, e2⟩ | ⟨e1, e2, e3⟩ | ⟨e1, e2, e3, e4⟩
              · go_wp2
                go_ret2
                exact HNO.out _ (.inr (.inr ⟨has, HQ.out, q5⟩)) rfl
              · go_wp2
                go_ret2
                exact HNO.out _ (.inr (.inr ⟨has, HQ.out, q5⟩)) rfl
              · go_wp2
                go_ret2
                exact HNO.out _ (.inr (.inr ⟨has, HQ.out, q5⟩)) rfl
              · omega
            · have q6 : k ≤ a + 1 := by omega
              clear q3
              rcases hexit with e | ⟨e1, e2⟩ | ⟨e1, e2, e3⟩ | ⟨e1, e2, e3, e4⟩
              · go_wp2
                all_goals
                  go_ret2
                  first | exact HSO.out _ (by omega) (by omega) (fun _ _ => q6) rfl | (exfalso; omega)
              · go_wp2
                all_goals
                  go_ret2
                  first | exact HSO.out _ (by omega) (by omega) (fun _ _ => q6) rfl | (exfalso; omega)
              · go_wp2
                all_goals
                  go_ret2
                  first | exact HSO.out _ (by omega) (by omega) (fun _ _ => q6) rfl | (exfalso; omega)
              · omega
          · have q4 : ((((S[a]'has).toNat : Int)) == 48) = false := by
              rw [beq_eq_false_iff_ne]
              intro e
              exact q3 (UInt8.toNat_inj.1 (by show _ = 48; omega))
            have HQ := Lib.hid q3
            clear q3
            rcases hexit with e | ⟨e1, e2⟩ | ⟨e1, e2, e3⟩ | ⟨e1, e2, e3, e4⟩
            · go_wp2
              go_ret2
              exact HSO.out _ (by omega) (by omega) (fun _ e => absurd e HQ.out) rfl
            · go_wp2
              go_ret2
              exact HSO.out _ (by omega) (by omega) (fun _ e => absurd e HQ.out) rfl
            · go_wp2
              go_ret2
              exact HSO.out _ (by omega) (by omega) (fun _ e => absurd e HQ.out) rfl
            · omega
end Go.Proofs.YtjogcdkebplcpaaGreatDoor
