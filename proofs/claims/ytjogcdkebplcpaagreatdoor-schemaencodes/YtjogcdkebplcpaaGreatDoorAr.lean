/-
  The document's arms, as long as shorter rows are told. No condition but the form's length.
-/
import Derived.Test.YtjogcdkebplcpaaGreatDoorSk
import Derived.Test.YtjogcdkebplcpaaGreatDoorTn
import Derived.Deep.DeepCutAuto
import Derived.Deep.LoopGhost
namespace Go.Proofs.YtjogcdkebplcpaaGreatDoor
open Go.RowKit Sch

theorem armsF_key {F : List UInt8 → Option (List UInt8)} {f : Nat} {seen : List Int} {t : List UInt8} (h : key num6 t = none) : armsF F (f + 1) seen t = none := by
  unfold armsF; rw [h]
theorem armsF_dup {F : List UInt8 → Option (List UInt8)} {f : Nat} {seen : List Int} {t : List UInt8} (h : ∀ k t1, key num6 t = some (k, t1) → k ∈ seen) : armsF F (f + 1) seen t = none := by
  unfold armsF
  cases hk : key num6 t with
  | none => rfl
  | some y =>
    have := h y.1 y.2 hk
    simp only
    cases F y.2 with
    | none => rfl
    | some t1 =>
      cases t1 with
      | nil => rfl
      | cons d t2 => simp [this]
theorem armsF_row {F : List UInt8 → Option (List UInt8)} {f : Nat} {seen : List Int} {t t1 : List UInt8} {k : Int} (h : key num6 t = some (k, t1)) (h2 : F t1 = none ∨ F t1 = some []) : armsF F (f + 1) seen t = none := by
  unfold armsF
  rw [h]
  simp only
  rcases h2 with e | e
  · rw [e]
  · rw [e]
theorem armsF_step {F : List UInt8 → Option (List UInt8)} {f : Nat} {seen : List Int} {t t1 t4 : List UInt8} {k : Int} {e : UInt8} (h : key num6 t = some (k, t1)) (h2 : F t1 = some (e :: t4)) (hs : ¬ (k ∈ seen ∨ (-1 : Int) ∈ seen)) : armsF F (f + 1) seen t = if e = 44 then armsF F f (seen ++ [k]) t4 else if e = 62 then some t4 else none := by
  conv => lhs; unfold armsF
  rw [h]
  simp only
  rw [h2]
  simp only [if_neg hs]
theorem key6_dash (t1 : List UInt8) : key num6 (45 :: t1) = col (-1) t1 := by
  simp only [key, if_true]; cases t1 <;> rfl
theorem key6_none (t : List UInt8) (hm : t.head? ≠ some 45) (h : num6 t = none) : key num6 t = none := by
  cases t with
  | nil => rfl
  | cons c t1 =>
    have hc : c ≠ 45 := by simpa using hm
    simp [key, if_neg hc, h]
theorem key6_some (t : List UInt8) (hm : t.head? ≠ some 45) (k : Nat) (t1 : List UInt8) (h : num6 t = some (k, t1)) : key num6 t = col k t1 := by
  cases t with
  | nil => simp [num6, num5, digs] at h
  | cons c t2 =>
    have hc : c ≠ 45 := by simpa using hm
    simp only [key, if_neg hc, h]
    cases t1 <;> rfl


theorem owns_sliceA {w : World} {B e sz : Nat} {v : Value} {n : Nat} {xs : List Value} (h : w.ownsRow B e sz v n xs) : ∃ o c, v = .slice o n c := by
  rcases h.2 with ⟨e, e2⟩ | ⟨g, cap, cur, e, _⟩
  · exact ⟨none, 0, by rw [e, e2]⟩
  · exact ⟨_, _, e⟩
theorem num5_leA {t : List UInt8} {n : Nat} {r : List UInt8} (h : num5 t = some (n, r)) : n ≤ 99999 := by
  unfold num5 at h
  split at h
  · cases h
  · simp only [Option.some.injEq, Prod.mk.injEq] at h
    obtain ⟨rfl, _⟩ := h
    have h1 := decOf_lt (digs t) (fun c hc => by unfold digs at hc; exact (List.all_eq_true.1 (List.all_takeWhile (l := t.take 5) (p := isDig))) c hc)
    have h2 : (digs t).length ≤ 5 := by
      unfold digs
      have h3 := (List.takeWhile_sublist (p := isDig) (l := t.take 5)).length_le
      simp at h3
      omega
    have h4 : 10 ^ (digs t).length ≤ 10 ^ 5 := Nat.pow_le_pow_right (by decide) h2
    omega
theorem owns_ltB {w : World} {B e sz : Nat} {v : Value} {n : Nat} {xs : List Value} (h : w.ownsRow B e sz v n xs) {g : Nat} (hg : v.ownBlock = some g) : g < w.heap.size := by
  obtain ⟨_, cur, hc⟩ := ownsB_type h hg
  exact (Array.getElem?_eq_some_iff.1 hc).1
theorem num6_drop {T : List UInt8} {b k : Nat} {t1 : List UInt8} (h : num6 (T.drop b) = some (k, t1)) : T.drop (T.length - t1.length) = t1 ∧ b < T.length - t1.length ∧ T.length - t1.length ≤ T.length := by
  have h1 := num6_ends _ _ _ h
  have h2 := num6_short _ _ _ h
  rw [List.length_drop] at h2
  exact ⟨ends_drop (ends_of_drop h1), by omega, by omega⟩
set_option maxRecDepth 100000 in
set_option maxHeartbeats 4000000 in
theorem arms_of (T : List UInt8) (hT : T.length ≤ 1000) (N n : Nat) (hn : n ≤ 17) (HSK : SkC T N n) : ArC T (N + 1) n := by
  intro a w ha hN
  obtain ⟨S, hS⟩ : ∃ S : ByteArray, S = ⟨T.toArray⟩ := ⟨_, rfl⟩
  have hsz : S.size = T.length := by rw [hS]; show T.toArray.size = _; simp
  have hat : ∀ j (hj : j < S.size) (hj2 : j < T.length), S[j] = T[j] := by
    intro j hj hj2; subst hS; rfl
  have hdig : ∀ (a : Nat) (w : World), a ≤ T.length → Calls Tryz.prog 30 #[.string S, .int .i64 a] w (DPost T (num6 (T.drop a)) w) := fun a w h => by rw [hS]; exact digits_any T a w hT h
  have hsk : ∀ (a : Nat) (w : World), a ≤ T.length → T.length - a ≤ N → Calls Tryz.prog 26 #[.string S, .int .i64 a, .int .i64 n] w fun r w' => r = .returned (.int .i64 (pl T (Gn n (T.drop a)))) ∧ Below w.heap.size w w' := fun a w h1 h2 => by rw [hS]; exact HSK a w h1 h2
  rw [← hS]
  obtain ⟨g0, hg0⟩ : ∃ g0, g0 = pl T (armsF (Gn n) (T.length - a + 1) [] (T.drop a)) := ⟨_, rfl⟩
  rw [← hg0]
  have HA := Lib.hid hat
  have HG0 := Lib.hid hg0
  have HDI := Lib.hid hdig
  have HSKC := Lib.hid hsk
  have hs1 : S.size ≤ 1000 := by omega
  have hs2 : a ≤ S.size := by omega
  have HST := Lib.hid hsz
  have HNN : Hid (S.size - a ≤ N + 1) := Lib.hid (by omega)
  clear hat hS hsz hg0 hdig hsk HSK ha hN hT
  obtain ⟨i0, hi, hz0, hz1, hz2⟩ := info_parts info3
  go_enter Tryz.func48, Tryz.ntmps48
  go_wp2
  go_loopg [1, 7] (S.size - a + 1) (fun k i v wr => ∃ (b : Nat) (seen : List Int), b ≤ S.size ∧ i = .int .i64 b ∧ S.size - b < k ∧ S.size - b ≤ N + 1 ∧ seen.length + S.size ≤ 2000 + b ∧ (-1 : Int) ∉ seen ∧ wr.ownsRow w.heap.size 3 1 v seen.length (ints seen) ∧ g0 = pl T (armsF (Gn n) (T.length - b + 1) seen (T.drop b)) ∧ Below w.heap.size w wr)
  case atStart => exact ⟨a, [], hs2, rfl, by omega, HNN.out, by simp; omega, by simp, ⟨rfl, .inl ⟨rfl, rfl⟩⟩, HG0.out, Below.refl _ _⟩
  case round =>
    rename World => wq
    rename Nat => kk
    obtain ⟨b, seen, hb, rfl, hk, hbN, hsl, hm1, hown, hgb, hB⟩ := hrel
    have HGB := Lib.hid hgb
    have HB := Lib.hid hB
    have HOW := Lib.hid hown
    have HM1 := Lib.hid hm1
    have hsB := hB.size
    obtain ⟨so, sc, rfl⟩ := owns_sliceA hown
    clear hgb hB hown hm1
    obtain ⟨any, hany⟩ : ∃ any : Bool, any = decide ((T.drop b).head? = some 45) := ⟨_, rfl⟩
    have HANY := Lib.hid hany
    clear hany
    go_upto_region 2 with (fail)
    go_cut [8] (fun p wc => p = .bool any ∧ wq = wc)
    case first =>
      have hsz := HST.out
      by_cases hbs : b < S.size
      · have hbT : b < T.length := by omega
        have hh : (T.drop b).head? = some T[b] := by rw [drop_at hbT]; rfl
        by_cases hc : T[b] = 45
        · have hat : S[b] = 45 := by rw [HA.out b hbs hbT]; exact hc
          have ha : any = true := by rw [HANY.out, hh, hc]; rfl
          subst ha
          clear hh hc hsz
          go_wp2
          go_meet
          exact ⟨rfl, rfl⟩
        · have q1 : (((S[b]).toNat : Int) == 45) = false := by
            rw [beq_eq_false_iff_ne, HA.out b hbs hbT]; intro q; exact hc (UInt8.toNat_inj.1 (by show _ = 45; omega))
          have ha : any = false := by rw [HANY.out, hh]; simpa using hc
          subst ha
          clear hh hc hsz
          go_wp2
          go_meet
          exact ⟨rfl, rfl⟩
      · have ha : any = false := by rw [HANY.out, List.drop_eq_nil_of_le (by omega)]; rfl
        subst ha
        clear hsz
        go_wp2
        go_meet
        exact ⟨rfl, rfl⟩
    case rest =>
      obtain ⟨rfl, rfl⟩ := hcut
      go_upto_if 22 with (fail)
      go_cut [1, 7] (fun i v wc => ∃ (b1 : Nat) (seen1 : List Int) (k : Int), i = .int .i64 b1 ∧ b < b1 ∧ b1 ≤ S.size ∧ key num6 (T.drop b) = col k (T.drop b1) ∧ ¬ (k ∈ seen ∨ (-1 : Int) ∈ seen) ∧ (any = true → k = -1) ∧ (any = false → k ≠ -1 ∧ seen1 = seen ++ [k]) ∧ wc.ownsRow w.heap.size 3 1 v seen1.length (ints seen1) ∧ Below w.heap.size w wc)
      case first =>
        cases any with
        | true =>
          have hd : (T.drop b).head? = some 45 := by simpa using HANY.out.symm
          have hsz := HST.out
          have hbT : b < T.length := by
            rcases Nat.lt_or_ge b T.length with e | e
            · exact e
            · rw [List.drop_eq_nil_of_le e] at hd; cases hd
          have hcT : T[b] = 45 := by rw [drop_at hbT] at hd; exact Option.some.inj hd
          have hky : key num6 (T.drop b) = col (-1) (T.drop (b + 1)) := by rw [drop_at hbT, hcT]; exact key6_dash _
          have HKY := Lib.hid hky
          have HBS : Hid (b + 1 ≤ S.size) := Lib.hid (by omega)
          clear hd hcT hky hsz hbT
          go_wp2
          go_meet
          exact ⟨b + 1, seen, -1, by go_num, by omega, HBS.out, HKY.out, fun q => q.elim HM1.out HM1.out, fun _ => rfl, (fun h => by cases h), HOW.out, HB.out⟩
        | false =>
          have hd : (T.drop b).head? ≠ some 45 := by simpa using HANY.out.symm
          have HD := Lib.hid hd
          clear hd
          go_wp2_with fail
          refine (HDI.out b wq (by have := HST.out; omega)).mono ?_
          rintro r w2 ⟨rfl, hr⟩
          generalize hx : num6 (T.drop b) = x at hr
          have HX := Lib.hid hx
          clear hx
          cases x with
          | none =>
            obtain ⟨k0, rfl⟩ := hr
            have hg1 : g0 = -1 := by rw [HGB.out, armsF_key (key6_none _ HD.out HX.out)]; rfl
            have HG1 := Lib.hid hg1
            clear hg1
            go_wp2
            go_ret
            exact ⟨by rw [HG1.out]; rfl, HB.out⟩
          | some y =>
            obtain ⟨k, t1⟩ := y
            simp only at hr
            subst hr
            obtain ⟨d1, d2, d3⟩ := num6_drop HX.out
            have hky : key num6 (T.drop b) = col k (T.drop (T.length - t1.length)) := by rw [d1]; exact key6_some _ HD.out k t1 HX.out
            obtain ⟨b1, hb1⟩ : ∃ b1, b1 = T.length - t1.length := ⟨_, rfl⟩
            rw [← hb1] at hky d2 ⊢
            have HKY := Lib.hid hky
            have HBS : Hid (b < b1 ∧ b1 ≤ S.size) := Lib.hid ⟨d2, by have := HST.out; omega⟩
            clear d1 d2 d3 hky hb1
            have hk5 : k ≤ 99999 := num5_leA ((num6_of HX.out).1)
            go_wp2
            go_loopg [11] seen.length (fun gg x wi => ∃ j : Nat, j + gg = seen.length ∧ x = .int .i64 j ∧ wq = wi ∧ ∀ j' (hj : j' < seen.length), j' < j → seen[j'] ≠ k)
            case atStart => exact ⟨0, by omega, rfl, rfl, fun j' hj h0 => by omega⟩
            case round =>
              obtain ⟨j, hj, rfl, rfl, hne⟩ := hrel
              have HNE := Lib.hid hne
              clear hne
              by_cases hjl : j < seen.length
              · obtain ⟨g, cap, hv, _, hgl⟩ := HOW.out.form (by omega)
                have hao : so = some ⟨g, 0, none⟩ := by injection hv
                subst hao
                clear hv
                obtain ⟨kj, hkj⟩ : ∃ kj, kj = seen[j] := ⟨_, rfl⟩
                have dd : wq.cell? ⟨g, j, none⟩ = some (.int .i64 kj) := cellAt0 HOW.out _ _ (by simp [ints, List.getElem?_eq_getElem hjl, hkj])
                have HKJ := Lib.hid hkj
                clear hkj
                by_cases hkk : kj = k
                · have hbq : (kj == (k : Int)) = true := by simpa using hkk
                  have hg1 : g0 = -1 := by
                    rw [HGB.out, armsF_dup]
                    · rfl
                    · intro k' t' hk'
                      rw [HKY.out] at hk'
                      have : k' = (k : Int) := by
                        unfold col at hk'
                        split at hk'
                        · cases hk'
                        · split at hk'
                          · simp only [Option.some.injEq, Prod.mk.injEq] at hk'; exact hk'.1.symm
                          · cases hk'
                      rw [this, ← hkk, HKJ.out]
                      exact List.getElem_mem _
                  have HG1 := Lib.hid hg1
                  clear hg1 hkk
                  go_wp2
                  go_ret
                  exact ⟨by rw [HG1.out]; rfl, HB.out⟩
                · have hbq : (kj == (k : Int)) = false := by simpa using hkk
                  go_wp2
                  go_roundg (seen.length - (j + 1))
                  case measure => omega
                  case rel =>
                    refine ⟨j + 1, by omega, by go_num, rfl, fun j' hj' hlt => ?_⟩
                    rcases Nat.lt_or_ge j' j with e | e
                    · exact HNE.out j' hj' e
                    · have e2 : j' = j := by omega
                      subst e2
                      rw [← HKJ.out]; exact hkk
              · have HNK : Hid (¬ ((k : Int) ∈ seen ∨ (-1 : Int) ∈ seen)) := Lib.hid (by
                  rintro (e | e)
                  · obtain ⟨j', hj', e2⟩ := List.getElem_of_mem e
                    exact HNE.out j' hj' (by omega) e2
                  · exact HM1.out e)
                have hown := HOW.out
                go_wp2_with (at_builtin; refine wpList_append_lies _ rfl (.tmp 45) (.tmp 47) 23 rfl w.heap.size 3 i0 _ 1 8 Tryz.underlying23 hi hz0 hz1 hz2 rfl (by omega) (.slice so seen.length sc) _ _ rfl (hown.alloc _) ⟨wq.heap.size, 0, none⟩ 1 1 [.int .i64 k] rfl rfl (World.news_of_block (cs := #[.int .i64 k]) (t := 3) (fr := (0, 0)) (heap_alloc_new wq _)) (by simp [Value.oneCell']) (by omega) (by unfold maxLen; omega) (by omega) (by simp; omega) (wq.heap.size + 1) (by simp) ?_; intro g cap w1 hown1 hgrow hat hglt)
                go_meet
                refine ⟨b1, seen ++ [(k : Int)], k, rfl, HBS.out.1, HBS.out.2, HKY.out, HNK.out, (fun h => by cases h), fun _ => ⟨by omega, rfl⟩, ?_, ?_⟩
                · rw [ints_app, List.length_append]; exact hown1
                · exact (HB.out.alloc hsB _).grown hgrow (by simp; omega) (fun q hq => (ownsB_type hown hq).1)
      case rest =>
        obtain ⟨b1, seen1, k, rfl, hbb, hb1s, hky, hns, hka, hks, hown1, hB1⟩ := hcut
        have HKY := Lib.hid hky
        have HNS := Lib.hid hns
        have HKA := Lib.hid hka
        have HKS := Lib.hid hks
        have HOW1 := Lib.hid hown1
        have HB1 := Lib.hid hB1
        obtain ⟨so1, sc1, rfl⟩ := owns_sliceA hown1
        clear hky hns hka hks hown1 hB1 HOW HB
        have hsz := HST.out
        by_cases h1 : b1 < S.size
        · have h1T : b1 < T.length := by omega
          obtain ⟨d, hdT⟩ : ∃ d, d = T[b1] := ⟨_, rfl⟩
          have hat1 : S[b1] = d := by rw [hdT]; exact HA.out b1 h1 h1T
          have hdr1 : T.drop b1 = d :: T.drop (b1 + 1) := by rw [hdT]; exact drop_at h1T
          have hk2 : key num6 (T.drop b) = if d = 58 then some (k, T.drop (b1 + 1)) else none := by rw [HKY.out, hdr1]; rfl
          have HK2 := Lib.hid hk2
          clear hdT hdr1 hk2 hsz
          by_cases hd : d = 58
          · subst hd
            have hk3 : key num6 (T.drop b) = some (k, T.drop (b1 + 1)) := by rw [HK2.out, if_pos rfl]
            have HK3 := Lib.hid hk3
            clear hk3
            go_wp2_with fail
            refine (HSKC.out (b1 + 1) _ (by have := HST.out; omega) (by have := HST.out; omega)).mono ?_
            rintro r w2 ⟨rfl, hB2⟩
            have HBB := Lib.hid (HB1.out.trans (below_le hB2 HB1.out.size))
            have HOW2 := Lib.hid (ownsB_kept HOW1.out fun q hq => hB2.block q (owns_ltB HOW1.out hq))
            clear hB2
            generalize hx : Gn n (T.drop (b1 + 1)) = x
            have HX := Lib.hid hx
            clear hx
            cases x with
            | none =>
              simp only [pl]
              have hg1 : g0 = -1 := by rw [HGB.out]; rw [armsF_row HK3.out (.inl HX.out)]; rfl
              have HG1 := Lib.hid hg1
              clear hg1
              go_wp2
              all_goals
                go_ret
                exact ⟨by rw [HG1.out]; rfl, HBB.out⟩
            | some t3 =>
              simp only [pl]
              have hsz := HST.out
              have hle := Gn_le HX.out
              simp only [List.length_drop] at hle
              have hen := ends_drop (ends_of_drop (Gn_ends HX.out))
              have HEN := Lib.hid hen
              clear hen
              obtain ⟨b2, hb2⟩ : ∃ b2, b2 = T.length - t3.length := ⟨_, rfl⟩
              rw [← hb2]
              have hb3 : b1 + 1 ≤ b2 := by omega
              have hb4 : b2 ≤ S.size := by omega
              have HB2 := Lib.hid hb2
              have HLE := Lib.hid hle
              clear hb2 hle
              cases t3 with
              | nil =>
                have hb5 : ¬ b2 < S.size := by have := HB2.out; simp at this; omega
                clear hsz
                have hg1 : g0 = -1 := by rw [HGB.out]; rw [armsF_row HK3.out (.inr HX.out)]; rfl
                have HG1 := Lib.hid hg1
                clear hg1
                go_wp2
                all_goals
                  go_ret
                  exact ⟨by rw [HG1.out]; rfl, HBB.out⟩
              | cons e t4 =>
                have hb5 : b2 < S.size := by have := HB2.out; have := HLE.out; simp only [List.length_cons] at *; omega
                have hdr2 : T.drop b2 = e :: t4 := by rw [HB2.out]; exact HEN.out
                have hb5T : b2 < T.length := by omega
                have hat2 : S[b2] = e := by
                  rw [HA.out b2 hb5 hb5T]
                  rw [drop_at hb5T] at hdr2
                  exact (List.cons.inj hdr2).1
                have hdr3 : T.drop (b2 + 1) = t4 := by
                  rw [drop_at hb5T] at hdr2
                  exact (List.cons.inj hdr2).2
                have HDR3 := Lib.hid hdr3
                have hl4 : b2 + 1 + t4.length = T.length := by have := HB2.out; have := HLE.out; simp only [List.length_cons] at *; omega
                have HL4 := Lib.hid hl4
                have hst : g0 = pl T (if e = 44 then armsF (Gn n) (T.length - b) (seen ++ [k]) t4 else if e = 62 then some t4 else none) := by rw [HGB.out, armsF_step HK3.out HX.out HNS.out]
                have HS2 := Lib.hid hst
                clear hst hdr2 hdr3 hl4 hsz hb5T
                by_cases he : e = 62
                · subst he
                  have hg1 : g0 = (b2 : Int) + 1 := by rw [HS2.out, if_neg (by decide), if_pos rfl]; simp only [pl]; have := HL4.out; omega
                  have HG1 := Lib.hid hg1
                  clear hg1
                  go_wp2
                  go_ret
                  exact ⟨by rw [HG1.out]; rfl, HBB.out⟩
                · have q1 : (((S[b2]).toNat : Int) == 62) = false := by
                    rw [beq_eq_false_iff_ne, hat2]; intro q; exact he (UInt8.toNat_inj.1 (by show _ = 62; omega))
                  by_cases he4 : e = 44
                  · subst he4
                    clear he
                    cases any with
                    | true =>
                      have hg1 : g0 = -1 := by rw [HS2.out, if_pos rfl, armsF_seen _ _ _ _ (by simp [HKA.out rfl])]; rfl
                      have HG1 := Lib.hid hg1
                      clear hg1
                      go_wp2
                      all_goals
                        go_ret
                        exact ⟨by rw [HG1.out]; rfl, HBB.out⟩
                    | false =>
                      obtain ⟨hk1, hs1e⟩ := HKS.out rfl
                      have hg1 : g0 = pl T (armsF (Gn n) (T.length - (b2 + 1) + 1) seen1 (T.drop (b2 + 1))) := by rw [HS2.out, if_pos rfl, HDR3.out, hs1e, armsF_fuel n hn (T.length - b) (T.length - (b2 + 1) + 1) _ t4 (by have := HL4.out; omega) (by have := HL4.out; omega)]
                      have HG1 := Lib.hid hg1
                      have hm2 : (-1 : Int) ∉ seen1 := by rw [hs1e]; intro q; rcases List.mem_append.1 q with q | q; exact HM1.out q; simp at q; omega
                      have HM2 := Lib.hid hm2
                      have hln : seen1.length = seen.length + 1 := by rw [hs1e]; simp
                      have HLN := Lib.hid hln
                      clear hg1 hm2 hs1e hk1 hln
                      go_wp2
                      have hln := HLN.out
                      go_roundg (S.size - b2)
                      case measure => omega
                      case rel => exact ⟨b2 + 1, seen1, by omega, by go_num, by omega, by omega, by omega, HM2.out, HOW2.out, HG1.out, HBB.out⟩
                  · have q2 : (((S[b2]).toNat : Int) == 44) = false := by
                      rw [beq_eq_false_iff_ne, hat2]; intro q; exact he4 (UInt8.toNat_inj.1 (by show _ = 44; omega))
                    have q3 : (((S[b2]).toNat : Int) != 44) = true := by simp only [bne, q2]; rfl
                    have hg1 : g0 = -1 := by rw [HS2.out, if_neg he4, if_neg he]; rfl
                    have HG1 := Lib.hid hg1
                    clear hg1 he he4 hat2
                    go_wp2
                    all_goals
                      go_ret
                      exact ⟨by rw [HG1.out]; rfl, HBB.out⟩
          · have q1 : (((S[b1]).toNat : Int) == 58) = false := by
              rw [beq_eq_false_iff_ne, hat1]; intro q; exact hd (UInt8.toNat_inj.1 (by show _ = 58; omega))
            have q2 : (((S[b1]).toNat : Int) != 58) = true := by simp only [bne, q1]; rfl
            have hk3 : key num6 (T.drop b) = none := by rw [HK2.out, if_neg hd]
            have HK3 := Lib.hid hk3
            clear hk3 hd hat1
            have hg1 : g0 = -1 := by rw [HGB.out]; rw [armsF_key HK3.out]; rfl
            have HG1 := Lib.hid hg1
            clear hg1
            go_wp2
            all_goals
              go_ret
              exact ⟨by rw [HG1.out]; rfl, HB1.out⟩
        · have hk3 : key num6 (T.drop b) = none := by rw [HKY.out, List.drop_eq_nil_of_le (by omega)]; rfl
          have HK3 := Lib.hid hk3
          clear hk3 hsz
          have hg1 : g0 = -1 := by rw [HGB.out]; rw [armsF_key HK3.out]; rfl
          have HG1 := Lib.hid hg1
          clear hg1
          go_wp2
          all_goals
            go_ret
            exact ⟨by rw [HG1.out]; rfl, HB1.out⟩
end Go.Proofs.YtjogcdkebplcpaaGreatDoor
