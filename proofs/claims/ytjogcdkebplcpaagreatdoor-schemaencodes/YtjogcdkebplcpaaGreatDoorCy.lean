/-
  The document's choose: the arm of a number, and the end of a choice. No condition but the form's length.
-/
import Derived.Test.YtjogcdkebplcpaaGreatDoorPl
import Derived.Test.YtjogcdkebplcpaaGreatDoorRk
namespace Go.Proofs.YtjogcdkebplcpaaGreatDoor
open Go.RowKit Sch

/-- Where the row of a choice's arm begins: what choose answers. -/
def Arm2 (F : List UInt8) (n : Nat) (a : Nat) (t' : List UInt8) (x : Option Row) (fd : Int) : Prop :=
  match x with
  | none => fd = -1
  | some i => ∃ (b : Nat) (d : UInt8) (t2 : List UInt8), fd = (b : Int) ∧ a < b ∧ b ≤ F.length ∧ Pn n (F.drop b) = some (i, d :: t2) ∧ t'.length ≤ t2.length
theorem col_some2 {k k' : Int} {e : UInt8} {t3 t1 : List UInt8} (h : col k (e :: t3) = some (k', t1)) : k = k' ∧ t3 = t1 := by
  have h2 : (if e = 58 then some (k, t3) else none) = some (k', t1) := h
  by_cases he : e = 58
  · rw [if_pos he] at h2
    simpa using h2
  · rw [if_neg he] at h2; cases h2

set_option maxRecDepth 100000 in
set_option maxHeartbeats 4000000 in
theorem choose2_any (F : List UInt8) (hF : F.length ≤ 1000) (n : Nat) (s : List Int) (a : Nat) (m : Int) (R : Row) (t' : List UInt8) (w : World) (ha : a ≤ F.length) (hp : Pz n s (F.drop a) = some (R, t')) :
    Calls Tryz.prog 33 #[.string ⟨F.toArray⟩, .int .i64 a, .int .i64 m] w fun e w' => ∃ fd, e = .returned (.tuple #[.int .i64 fd, .int .i64 ((F.length - t'.length : Nat) : Int)]) ∧ Below w.heap.size w w' ∧ Arm2 F n a t' (armOf m R) fd := by
  obtain ⟨S, hS⟩ : ∃ S : ByteArray, S = ⟨F.toArray⟩ := ⟨_, rfl⟩
  have hsz : S.size = F.length := by rw [hS]; show F.toArray.size = _; simp
  have hat : ∀ j (hj : j < S.size) (hj2 : j < F.length), S[j] = F[j] := by
    intro j hj hj2; subst hS; rfl
  have hdig : ∀ (a : Nat) (w : World), a ≤ F.length → Calls Tryz.prog 30 #[.string S, .int .i64 a] w (DPost F (num6 (F.drop a)) w) := fun a w h => by rw [hS]; exact digits_any F a w hF h
  have hsk : ∀ (a : Nat) (w : World), a ≤ F.length → Calls Tryz.prog 26 #[.string S, .int .i64 a, .int .i64 0] w fun r w' => r = .returned (.int .i64 (pl F (Gn 0 (F.drop a)))) ∧ Below w.heap.size w w' := fun a w h1 => by rw [hS]; exact skip_all F hF F.length 0 (by omega) a w h1 (by omega)
  rw [← hS]
  have HA := Lib.hid hat
  have HDI := Lib.hid hdig
  have HSKC := Lib.hid hsk
  have HP := Lib.hid hp
  obtain ⟨pk, hpk⟩ : ∃ pk, pk = armOf m R := ⟨_, rfl⟩
  rw [← hpk]
  have HPK := Lib.hid hpk
  obtain ⟨en, hen⟩ : ∃ en : Nat, en = F.length - t'.length := ⟨_, rfl⟩
  rw [← hen]
  have HEN := Lib.hid hen
  have hs1 : S.size ≤ 1000 := by omega
  have hs2 : a ≤ S.size := by omega
  have hs3 : F.length ≤ S.size := by omega
  have hs4 : S.size ≤ F.length := by omega
  clear hat hS hsz hdig hsk hp hpk hen
  go_enter Tryz.func33, Tryz.ntmps33
  go_wp2
  go_loopg [1, 8] (S.size - a + 1) (fun k i v wr => ∃ (b : Nat) (fd : Int) (r : Row) (s : List Int), b ≤ S.size ∧ a ≤ b ∧ i = .int .i64 b ∧ v = .int .i64 fd ∧ S.size - b < k ∧ Pz n s (F.drop b) = some (r, t') ∧ ((fd = -1 ∧ pk = armOf m r) ∨ (0 ≤ fd ∧ Arm2 F n a t' pk fd)) ∧ Below w.heap.size w wr)
  case atStart => exact ⟨a, -1, R, s, hs2, Nat.le_refl _, rfl, rfl, by omega, HP.out, .inl ⟨rfl, HPK.out⟩, Below.refl _ _⟩
  case round =>
    obtain ⟨b, fd, r, s, hb, hab, rfl, rfl, hk, hpz, hfd, hB⟩ := hrel
    have HB := Lib.hid hB
    clear hB HP HPK
    obtain ⟨k, t1, i, d, t2, hky, hpn, hl1, hl2, hdd⟩ := Pz_arm hpz
    have HDD := Lib.hid hdd
    have HTL : Hid (t'.length ≤ t2.length) := Lib.hid (by
      rcases hdd with ⟨_, _, e⟩ | ⟨_, r2, _, e⟩
      · rw [e]; exact Nat.le_refl _
      · exact (Pz_ends e).length_le)
    have HPN := Lib.hid hpn
    have HFD := Lib.hid hfd
    have hsk0 := Pn_skip hpn
    have HSK := Lib.hid hsk0
    simp only [List.length_drop] at hl2
    have hbs : b < S.size := by omega
    have hbF : b < F.length := by omega
    have hen1 := ends_drop (ends_of_drop (key_ends num6_ends hky))
    have hen2 : F.drop (F.length - (d :: t2).length) = d :: t2 := ends_drop ((Pn_ends hpn).trans (ends_of_drop (key_ends num6_ends hky)))
    obtain ⟨b2, hb2⟩ : ∃ b2, b2 = F.length - (d :: t2).length := ⟨_, rfl⟩
    rw [← hb2] at hen2
    have hl3 : t2.length + 1 ≤ F.length := by omega
    have hb2' : b2 + t2.length + 1 = F.length := by rw [hb2, List.length_cons]; omega
    have HB2 := Lib.hid hb2
    have hb2s : b2 < S.size := by omega
    have hb2F : b2 < F.length := by omega
    have hG2 : F[b2]'hb2F = d := by
      have h := hen2
      rw [drop_at hb2F] at h
      exact (List.cons.inj h).1
    have hD2 : F.drop (b2 + 1) = t2 := by
      have h := hen2
      rw [drop_at hb2F] at h
      exact (List.cons.inj h).2
    have HG2 := Lib.hid hG2
    have HD2 := Lib.hid hD2
    have ht1 : F.drop (F.length - t1.length) = t1 := hen1
    obtain ⟨b1, hb1⟩ : ∃ b1, b1 + 1 = F.length - t1.length := ⟨F.length - t1.length - 1, by omega⟩
    rw [← hb1] at ht1
    have HD1 := Lib.hid ht1
    have hb1s : b1 < S.size := by omega
    have hbb1 : b ≤ b1 := by omega
    have hb12 : b1 < b2 := by omega
    have hdr : F.drop b = F[b] :: F.drop (b + 1) := drop_at hbF
    clear hpz hpn hdd hsk0 hen1 hen2 hb2 hG2 hD2 ht1 hfd
    by_cases hany : F[b] = 45
    · have hat : S[b] = 45 := by rw [HA.out b hbs hbF]; exact hany
      have hk1 : k = -1 ∧ b1 = b + 1 := by
        rw [hdr, hany, key6_dash] at hky
        cases hc : F.drop (b + 1) with
        | nil => rw [hc] at hky; cases hky
        | cons e t3 =>
          rw [hc] at hky
          have hky := col_some2 hky
          refine ⟨hky.1.symm, ?_⟩
          have h3 := congrArg List.length hc
          rw [List.length_drop, List.length_cons, hky.2] at h3
          omega
      obtain ⟨rfl, rfl⟩ := hk1
      clear hky hdr hany hb1
      rcases HFD.out with ⟨rfl, hpk⟩ | ⟨hpos, harm⟩
      · have harm : Arm2 F n a t' pk ((b : Int) + 1 + 1) := by
          rw [hpk]
          have e : armOf m r = some i := by rcases HDD.out with ⟨_, e, _⟩ | ⟨_, r2, e, _⟩ <;> (rw [e]; simp [armOf])
          rw [e]
          exact ⟨b + 1 + 1, d, t2, by omega, by omega, by omega, by rw [HD1.out]; exact HPN.out, HTL.out⟩
        have HAR := Lib.hid harm
        clear hpk harm HFD
        go_wp2_with fail
        refine (HSKC.out ((b + 1) + 1) wr (by omega)).mono ?_
        rintro r0 w1 ⟨rfl, hB1⟩
        rw [show F.drop ((b + 1) + 1) = t1 from HD1.out, HSK.out]
        simp only [pl]
        rw [← HB2.out]
        have HBB := Lib.hid (HB.out.trans (below_le hB1 HB.out.size))
        clear hB1
        rcases HDD.out with ⟨hd62, hr62, ht62⟩ | ⟨hd44, r2, hr44, hp44⟩
        · have hat2 : S[b2] = 62 := by rw [HA.out b2 hb2s hb2F, HG2.out, hd62]
          have HH := Lib.hid (And.intro hr62 ht62)
          clear hd62 hr62 ht62
          go_wp2
          go_ret2
          have hne : ((b2 : Int) + 1) = (en : Int) := by have h := HEN.out; rw [HH.out.2] at h; omega
          refine ⟨_, by rw [← hne]; rfl, HBB.out, ?_⟩
          exact HAR.out
        · have hat2 : S[b2] = 44 := by rw [HA.out b2 hb2s hb2F, HG2.out, hd44]
          have HH := Lib.hid (And.intro hr44 hp44)
          clear hd44 hr44 hp44
          go_wp2
          go_roundg (S.size - b2)
          case measure => omega
          case rel => exact ⟨b2 + 1, _, r2, _, by omega, by omega, by go_num, rfl, by omega, by rw [HD2.out]; exact HH.out.2, .inr ⟨by omega, HAR.out⟩, HBB.out⟩
      · have hlt : ¬ fd < 0 := by omega
        have HAR := Lib.hid harm
        clear harm HFD
        go_wp2_with fail
        refine (HSKC.out ((b + 1) + 1) wr (by omega)).mono ?_
        rintro r0 w1 ⟨rfl, hB1⟩
        rw [show F.drop ((b + 1) + 1) = t1 from HD1.out, HSK.out]
        simp only [pl]
        rw [← HB2.out]
        have HBB := Lib.hid (HB.out.trans (below_le hB1 HB.out.size))
        clear hB1
        rcases HDD.out with ⟨hd62, hr62, ht62⟩ | ⟨hd44, r2, hr44, hp44⟩
        · have hat2 : S[b2] = 62 := by rw [HA.out b2 hb2s hb2F, HG2.out, hd62]
          have HH := Lib.hid (And.intro hr62 ht62)
          clear hd62 hr62 ht62
          go_wp2
          go_ret2
          have hne : ((b2 : Int) + 1) = (en : Int) := by have h := HEN.out; rw [HH.out.2] at h; omega
          refine ⟨_, by rw [← hne]; rfl, HBB.out, ?_⟩
          exact HAR.out
        · have hat2 : S[b2] = 44 := by rw [HA.out b2 hb2s hb2F, HG2.out, hd44]
          have HH := Lib.hid (And.intro hr44 hp44)
          clear hd44 hr44 hp44
          go_wp2
          go_roundg (S.size - b2)
          case measure => omega
          case rel => exact ⟨b2 + 1, _, r2, _, by omega, by omega, by go_num, rfl, by omega, by rw [HD2.out]; exact HH.out.2, .inr ⟨hpos, HAR.out⟩, HBB.out⟩
    · have q1 : (((S[b]).toNat : Int) == 45) = false := by
        rw [beq_eq_false_iff_ne, HA.out b hbs hbF]; intro q; exact hany (UInt8.toNat_inj.1 (by show _ = 45; omega))
      have hk1 : ∃ kk : Nat, k = (kk : Int) ∧ num6 (F.drop b) = some (kk, F.drop b1) := by
        have hh : (F.drop b).head? ≠ some 45 := by rw [hdr, List.head?_cons]; exact fun e => hany (Option.some.inj e)
        cases hx : num6 (F.drop b) with
        | none => rw [key6_none _ hh hx] at hky; cases hky
        | some y =>
          obtain ⟨kk, t0⟩ := y
          rw [key6_some _ hh kk t0 hx] at hky
          cases t0 with
          | nil => cases hky
          | cons e t3 =>
            have hky := col_some2 hky
            refine ⟨kk, hky.1.symm, ?_⟩
            have h4 := num6_drop hx
            have h5 : b1 = F.length - (e :: t3).length := by rw [List.length_cons, hky.2]; omega
            rw [h5, h4.1]
      obtain ⟨kk, rfl, hx⟩ := hk1
      have hkk : kk ≤ 99999 := num5_leA ((num6_of hx).1)
      have HX := Lib.hid hx
      clear hky hdr hx
      go_wp2_with fail
      refine (HDI.out b wr (by omega)).mono ?_
      rintro r0 w2 ⟨rfl, hr0⟩
      rw [HX.out] at hr0
      simp only at hr0
      subst hr0
      have hbl : F.length - (F.drop b1).length = b1 := by rw [List.length_drop]; omega
      rw [hbl]
      have HANY := Lib.hid hany
      clear hbl hany hb1
      rcases HFD.out with ⟨rfl, hpk⟩ | ⟨hpos, harm⟩
      · by_cases hkm : (kk : Int) = m
        · have harm : Arm2 F n a t' pk ((b1 : Int) + 1) := by
            rw [hpk]
            have e : armOf m r = some i := by rcases HDD.out with ⟨_, e, _⟩ | ⟨_, r2, e, _⟩ <;> (rw [e]; simp [armOf, hkm])
            rw [e]
            exact ⟨b1 + 1, d, t2, by omega, by omega, by omega, by rw [HD1.out]; exact HPN.out, HTL.out⟩
          have HAR := Lib.hid harm
          have hbq : ((kk : Int) == m) = true := by simpa using hkm
          clear hpk harm HFD hkm
          go_wp2_with fail
          refine (HSKC.out (b1 + 1) wr (by omega)).mono ?_
          rintro r0 w1 ⟨rfl, hB1⟩
          rw [show F.drop (b1 + 1) = t1 from HD1.out, HSK.out]
          simp only [pl]
          rw [← HB2.out]
          have HBB := Lib.hid (HB.out.trans (below_le hB1 HB.out.size))
          clear hB1
          rcases HDD.out with ⟨hd62, hr62, ht62⟩ | ⟨hd44, r2, hr44, hp44⟩
          · have hat2 : S[b2] = 62 := by rw [HA.out b2 hb2s hb2F, HG2.out, hd62]
            have HH := Lib.hid (And.intro hr62 ht62)
            clear hd62 hr62 ht62
            go_wp2
            go_ret2
            have hne : ((b2 : Int) + 1) = (en : Int) := by have h := HEN.out; rw [HH.out.2] at h; omega
            refine ⟨_, by rw [← hne]; rfl, HBB.out, ?_⟩
            exact HAR.out
          · have hat2 : S[b2] = 44 := by rw [HA.out b2 hb2s hb2F, HG2.out, hd44]
            have HH := Lib.hid (And.intro hr44 hp44)
            clear hd44 hr44 hp44
            go_wp2
            go_roundg (S.size - b2)
            case measure => omega
            case rel => exact ⟨b2 + 1, _, r2, _, by omega, by omega, by go_num, rfl, by omega, by rw [HD2.out]; exact HH.out.2, .inr ⟨by omega, HAR.out⟩, HBB.out⟩
        · have hpk2 : ∀ r2, r = .arm kk i r2 → pk = armOf m r2 := by
            intro r2 e
            rw [hpk, e]
            simp only [armOf]
            rw [if_neg (by omega)]
          have HPK2 := Lib.hid hpk2
          have hbq : ((kk : Int) == m) = false := by simpa using hkm
          clear hpk hpk2 HFD hkm
          go_wp2_with fail
          refine (HSKC.out (b1 + 1) wr (by omega)).mono ?_
          rintro r0 w1 ⟨rfl, hB1⟩
          rw [show F.drop (b1 + 1) = t1 from HD1.out, HSK.out]
          simp only [pl]
          rw [← HB2.out]
          have HBB := Lib.hid (HB.out.trans (below_le hB1 HB.out.size))
          clear hB1
          rcases HDD.out with ⟨hd62, hr62, ht62⟩ | ⟨hd44, r2, hr44, hp44⟩
          · have hat2 : S[b2] = 62 := by rw [HA.out b2 hb2s hb2F, HG2.out, hd62]
            have HH := Lib.hid (And.intro hr62 ht62)
            clear hd62 hr62 ht62
            go_wp2
            go_ret2
            have hne : ((b2 : Int) + 1) = (en : Int) := by have h := HEN.out; rw [HH.out.2] at h; omega
            refine ⟨_, by rw [← hne]; rfl, HBB.out, ?_⟩
            rw [HPK2.out .nil HH.out.1]; exact rfl
          · have hat2 : S[b2] = 44 := by rw [HA.out b2 hb2s hb2F, HG2.out, hd44]
            have HH := Lib.hid (And.intro hr44 hp44)
            clear hd44 hr44 hp44
            go_wp2
            go_roundg (S.size - b2)
            case measure => omega
            case rel => exact ⟨b2 + 1, _, r2, _, by omega, by omega, by go_num, rfl, by omega, by rw [HD2.out]; exact HH.out.2, .inl ⟨rfl, HPK2.out r2 HH.out.1⟩, HBB.out⟩
      · have hlt : ¬ fd < 0 := by omega
        have HAR := Lib.hid harm
        clear harm HFD
        go_wp2_with fail
        refine (HSKC.out (b1 + 1) wr (by omega)).mono ?_
        rintro r0 w1 ⟨rfl, hB1⟩
        rw [show F.drop (b1 + 1) = t1 from HD1.out, HSK.out]
        simp only [pl]
        rw [← HB2.out]
        have HBB := Lib.hid (HB.out.trans (below_le hB1 HB.out.size))
        clear hB1
        rcases HDD.out with ⟨hd62, hr62, ht62⟩ | ⟨hd44, r2, hr44, hp44⟩
        · have hat2 : S[b2] = 62 := by rw [HA.out b2 hb2s hb2F, HG2.out, hd62]
          have HH := Lib.hid (And.intro hr62 ht62)
          clear hd62 hr62 ht62
          go_wp2
          go_ret2
          have hne : ((b2 : Int) + 1) = (en : Int) := by have h := HEN.out; rw [HH.out.2] at h; omega
          refine ⟨_, by rw [← hne]; rfl, HBB.out, ?_⟩
          exact HAR.out
        · have hat2 : S[b2] = 44 := by rw [HA.out b2 hb2s hb2F, HG2.out, hd44]
          have HH := Lib.hid (And.intro hr44 hp44)
          clear hd44 hr44 hp44
          go_wp2
          go_roundg (S.size - b2)
          case measure => omega
          case rel => exact ⟨b2 + 1, _, r2, _, by omega, by omega, by go_num, rfl, by omega, by rw [HD2.out]; exact HH.out.2, .inr ⟨hpos, HAR.out⟩, HBB.out⟩
end Go.Proofs.YtjogcdkebplcpaaGreatDoor
