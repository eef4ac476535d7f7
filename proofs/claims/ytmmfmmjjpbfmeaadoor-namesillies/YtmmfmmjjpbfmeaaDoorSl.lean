/-
  Split: the names of a path. No condition.
-/
import Derived.Test.YtmmfmmjjpbfmeaaDoorCk
namespace Go.Proofs.YtmmfmmjjpbfmeaaDoor
open Go.RowKit

/-- A list of texts in the world w. -/
def StrAt (w : World) (ao : Option Addr) (L : List ByteArray) : Prop := ∀ i (_ : i < L.length), ∃ g, ao = some ⟨g, 0, none⟩ ∧ g < w.heap.size ∧ w.cell? ⟨g, i, none⟩ = some (.string L[i])
theorem StrAt.below {w w' : World} {ao : Option Addr} {L : List ByteArray} (h : StrAt w ao L) (hb : Below w.heap.size w w') : StrAt w' ao L := by
  intro i hi
  obtain ⟨g, e1, e2, e3⟩ := h i hi
  have := hb.size
  exact ⟨g, e1, by omega, (hb.cell (p := ⟨g, i, none⟩) e2).trans e3⟩
theorem StrAt.nil (w : World) (ao : Option Addr) : StrAt w ao [] := fun i hi => absurd hi (by simp)
theorem StrAt.new (w : World) (L : List ByteArray) (t : TypeId) : StrAt (w.alloc (.cells (L.map Value.string).toArray t)) (some ⟨w.heap.size, 0, none⟩) L := by
  intro i hi
  refine ⟨w.heap.size, rfl, by simp, ?_⟩
  rw [World.cell?_alloc_at _ _ _ _ (by simp)]
  simp [hi]
theorem index_B (x : ByteArray) : Lib.indexB x ⟨#[47]⟩ = Lib.indexByte x.data.toList 47 := Lib.index_one x.data.toList 47
set_option maxRecDepth 100000 in
set_option maxHeartbeats 2000000 in
/-- strings.Split at slashes. -/
theorem split_any (t : ByteArray) (w : World) (hs : t.size < 4294967281) :
    Calls Tryd.prog 17 #[.string t, .string ⟨#[47]⟩] w fun e w' => e = .returned (.slice (some ⟨w.heap.size, 0, none⟩) ((pcs [] t.data.toList).map bs).length ((pcs [] t.data.toList).map bs).length) ∧ StrAt w' (some ⟨w.heap.size, 0, none⟩) ((pcs [] t.data.toList).map bs) ∧ Below w.heap.size w w' := by
  have hle := Lib.countB_le ⟨#[47]⟩ (by decide) t.size t (Nat.le_refl _)
  have hlen := Lib.splitB_all ⟨#[47]⟩ (by decide) 0 _ t rfl
  have c := Any.strings_genSplit_core (ρ := Tryd.laysM146_ren) { Tryd.laysM146 with } Tryd.laysM146.i9 t ⟨#[47]⟩ 0 (-1) (Lib.countB t ⟨#[47]⟩ + 1) w hs (by decide) (Nat.zero_le _)
    (fun x c hx => (Tryd.strings_Index_one x 47 _).mono fun e w' ⟨he, hw⟩ => ⟨by rw [he, index_B], hw⟩)
    ((Tryd.strings_Count_one t 47 w).mono fun e w' ⟨he, hw⟩ => ⟨by rw [he]; exact congrArg (fun n : Nat => Ending.returned (.int .i64 (n : Int))) (Lib.count_one 47 t.data.toList).symm, hw⟩)
    (by decide) (by decide) (by rw [if_pos (by decide)]; omega)
  rw [Nat.add_sub_cancel, hlen] at c
  have e2 : Lib.cellsOf (Lib.splitB ⟨#[47]⟩ 0 (Lib.countB t ⟨#[47]⟩) t) (Lib.countB t ⟨#[47]⟩ + 1) = (((pcs [] t.data.toList).map bs).map Value.string).toArray := by rw [← hlen, Lib.cellsOf_full, splitB_pcs]
  have e3 : Lib.countB t ⟨#[47]⟩ + 1 = ((pcs [] t.data.toList).map bs).length := by rw [← hlen, splitB_pcs]
  rw [e2, e3] at c
  have HC := Lib.hid c
  clear c e2 e3 hlen hle
  generalize (pcs [] t.data.toList).map bs = L at *
  go_enter Tryd.func17, Tryd.ntmps17
  go_wp2_with fail
  refine (HC.out).mono ?_
  rintro e w' ⟨rfl, rfl⟩
  go_wp2
  go_ret
  exact ⟨rfl, StrAt.new _ _ _, (Below.refl _ _).alloc (Nat.le_refl _) _⟩
theorem drop_one (p : ByteArray) : (p.extract 1 p.size).data.toList = p.data.toList.drop 1 := by
  exact Lib.extract_to_end p 1
set_option maxRecDepth 100000 in
set_option maxHeartbeats 4000000 in
theorem nsplit_any (p : ByteArray) (w : World) : Calls Tryd.prog 10 #[.string p] w fun e w' => ∃ ao cap, e = .returned (.tuple #[.slice ao (spO p).1.length cap, .int .i64 (spO p).2]) ∧ StrAt w' ao (spO p).1 ∧ Below w.heap.size w w' := by
  by_cases h : 256 < p.size
  · have hz : ((256 : Int) < (p.size : Int)) := by omega
    have he : spO p = ([], 22) := by unfold spO; rw [if_pos (.inl h)]
    rw [he]
    clear he h
    go_enter Tryd.func10, Tryd.ntmps10
    go_wp2
    go_ret2
    exact ⟨none, 0, rfl, StrAt.nil _ _, Below.refl _ _⟩
  have hz : ¬ ((256 : Int) < (p.size : Int)) := by omega
  cases hp : Lib.hasPrefix p.data.toList [47] with
  | false =>
    have he : spO p = ([], 22) := by unfold spO; rw [if_pos (.inr hp)]
    rw [he]
    clear he h
    have HP := Lib.hid hp
    clear hp
    go_enter Tryd.func10, Tryd.ntmps10
    go_wp2_with fail
    refine (Tryd.strings_HasPrefix p ⟨#[47]⟩ _).mono ?_
    rintro e w1 ⟨rfl, rfl⟩
    rw [show Lib.hasPrefix p.data.toList (⟨#[47]⟩ : ByteArray).data.toList = false from HP.out]
    go_wp2
    go_ret2
    exact ⟨none, 0, rfl, StrAt.nil _ _, Below.refl _ _⟩
  | true =>
    by_cases h1 : p = ⟨#[47]⟩
    · have he : spO p = ([], 0) := by unfold spO; rw [if_neg (by rw [hp]; simp [h]), if_pos h1]
      rw [he]
      subst h1
      go_enter Tryd.func10, Tryd.ntmps10
      go_wp2_with fail
      refine (Tryd.strings_HasPrefix _ ⟨#[47]⟩ _).mono ?_
      rintro e w1 ⟨rfl, rfl⟩
      rw [show Lib.hasPrefix (⟨#[47]⟩ : ByteArray).data.toList (⟨#[47]⟩ : ByteArray).data.toList = true from hp]
      go_wp2
      go_ret2
      exact ⟨none, 0, rfl, StrAt.nil _ _, Below.refl _ _⟩
    have h1s : 1 ≤ p.size := by
      rcases Nat.eq_zero_or_pos p.size with h0 | h0
      · have : p.data.toList = [] := List.length_eq_zero_iff.1 (by rw [← Lib.size_eq]; exact h0)
        rw [this] at hp
        cases hp
      · exact h0
    have hb1 : (p.toList == [47]) = false := by
      rw [Lib.toList_data]
      simp only [beq_eq_false_iff_ne, ne_eq]
      intro e
      exact h1 (by rw [← bs_data p, e]; rfl)
    have HS : Hid (spO p = if 16 < (nms p).length then ([], 22) else if stat (nms p) = 0 then (nms p, 0) else ([], stat (nms p))) := Lib.hid (by
      conv => lhs; unfold spO
      rw [if_neg (by rw [hp]; simp [h]), if_neg h1])
    have HP := Lib.hid hp
    have HH := Lib.hid h
    clear h1 hp h
    have hq1 : ((1 : Int) ≤ (p.size : Int)) := by omega
    have hle : ((p.size : Int)) ≤ 256 := by omega
    have hsx : (p.extract 1 p.size).size < 4294967281 := by rw [ByteArray.size_extract]; omega
    go_enter Tryd.func10, Tryd.ntmps10
    go_wp2_with fail
    refine (Tryd.strings_HasPrefix p ⟨#[47]⟩ _).mono ?_
    rintro e w1 ⟨rfl, rfl⟩
    rw [show Lib.hasPrefix p.data.toList (⟨#[47]⟩ : ByteArray).data.toList = true from HP.out]
    go_wp2_with fail
    refine (split_any _ _ hsx).mono ?_
    rintro e w2 ⟨rfl, hS, hB⟩
    rw [drop_one] at hS ⊢
    rw [show (pcs [] (p.data.toList.drop 1)).map bs = nms p from rfl] at hS ⊢
    have HB2 := Lib.hid hB
    have HS2 := Lib.hid hS
    clear hB hS hsx
    obtain ⟨L, hL⟩ : ∃ L, nms p = L := ⟨_, rfl⟩
    rw [hL] at HS HS2 ⊢
    clear hL
    by_cases h16 : 16 < L.length
    · have hlz : ((16 : Int) < (L.length : Int)) := by omega
      have H16 := Lib.hid h16
      clear h16
      go_wp2
      go_ret2
      exact ⟨none, 0, by rw [HS.out, if_pos H16.out]; rfl, by rw [HS.out, if_pos H16.out]; exact StrAt.nil _ _, HB2.out⟩
    have hlz : ¬ ((16 : Int) < (L.length : Int)) := by omega
    have hll : L.length ≤ 16 := by omega
    have HS3 : Hid (spO p = if stat L = 0 then (L, 0) else ([], stat L)) := Lib.hid (by rw [HS.out, if_neg h16])
    clear h16 HS
    go_wp2_with fail
    go_loopg [26] L.length (fun g v wx => ∃ i : Nat, i + g = L.length ∧ v = .int .i64 i ∧ StrAt wx (some ⟨w1.heap.size, 0, none⟩) L ∧ Below w1.heap.size w1 wx ∧ stat L = stat (L.drop i))
    case atStart => exact ⟨0, by omega, rfl, HS2.out, HB2.out, rfl⟩
    case round =>
      obtain ⟨i, hig, rfl, hS, hB, hst⟩ := hrel
      have HS4 := Lib.hid hS
      have HB4 := Lib.hid hB
      have HT := Lib.hid hst
      clear hS hB hst HS2 HB2
      cases gk with
      | zero =>
        obtain rfl : i = L.length := by omega
        have hiz : ¬ ((L.length : Int) < (L.length : Int)) := by omega
        have h0 : stat L = 0 := by rw [HT.out, List.drop_length]; rfl
        rw [h0, if_pos rfl] at HS3
        clear h0
        go_wp2
        go_ret2
        exact ⟨some ⟨w1.heap.size, 0, none⟩, ⟨L.length, by rw [HS3.out]; rfl⟩, by rw [HS3.out]; exact HS4.out, HB4.out⟩
      | succ g =>
        have hi : i < L.length := by omega
        have hiz : (i : Int) < (L.length : Int) := by omega
        obtain ⟨g', e1, e2, e3⟩ := HS4.out i hi
        injection e1 with e1
        injection e1 with e1
        subst e1
        have hd : stat (L.drop i) = if ck L[i] = 0 then stat (L.drop (i + 1)) else ck L[i] := by
          rw [List.drop_eq_getElem_cons hi]; rfl
        rw [hd] at HT
        clear hd e2
        generalize L[i] = s at *
        obtain ⟨c, hc⟩ : ∃ c, ck s = c := ⟨_, rfl⟩
        rw [hc] at HT
        go_wp2_with fail
        refine (check_any s _).mono ?_
        rintro e w4 ⟨rfl, hb4⟩
        rw [hc]
        have HB5 := Lib.hid (HB4.out.trans (hb4.mono HB4.out.size))
        have HS5 := Lib.hid (HS4.out.below hb4)
        clear hb4 hc HB4 HS4 e3
        by_cases h0 : c = 0
        · subst h0
          rw [if_pos rfl] at HT
          go_wp2
          go_roundg g
          case measure => omega
          case rel => exact ⟨i + 1, by omega, by first | rfl | simp, HS5.out, HB5.out, HT.out⟩
        · have hcz : (c != 0) = true := by simpa using h0
          rw [if_neg h0] at HT
          have H0 := Lib.hid h0
          clear h0
          go_wp2
          go_ret2
          exact ⟨none, 0, by rw [HS3.out, HT.out, if_neg H0.out]; rfl, by rw [HS3.out, HT.out, if_neg H0.out]; exact StrAt.nil _ _, HB5.out⟩
/-- What Parent answers. -/
def paO (p : ByteArray) : ByteArray × ByteArray × Int :=
  if (spO p).2 = 0 then
    (match (spO p).1.getLast? with
    | none => (⟨#[]⟩, ⟨#[]⟩, 22)
    | some s => (if p.extract 0 (p.size - 1 - s.size) = ⟨#[]⟩ then ⟨#[47]⟩ else p.extract 0 (p.size - 1 - s.size), s, 0))
  else (⟨#[]⟩, ⟨#[]⟩, (spO p).2)
/-- The names of a path, each with a slash ahead, are the path. -/
theorem nms_flat (p : ByteArray) (h : Lib.hasPrefix p.data.toList [47] = true) : ((nms p).flatMap fun s => 47 :: s.data.toList) = p.data.toList := by
  unfold nms
  rw [List.flatMap_map]
  have e : (fun a : List UInt8 => 47 :: (bs a).data.toList) = fun a => 47 :: a := by funext a; rw [data_bs]
  rw [e, pcs_flat]
  cases hp : p.data.toList with
  | nil => rw [hp] at h; cases h
  | cons c r =>
    rw [hp] at h
    have : c = 47 := by
      simp [Lib.hasPrefix, List.isPrefixOf] at h
      exact h.symm
    subst this
    rfl
theorem spO_ok {p : ByteArray} (h : (spO p).2 = 0) : (p = ⟨#[47]⟩ ∧ (spO p).1 = []) ∨ ((spO p).1 = nms p ∧ Lib.hasPrefix p.data.toList [47] = true ∧ p.size ≤ 256 ∧ (nms p).length ≤ 16 ∧ stat (nms p) = 0) := by
  unfold spO at h ⊢
  split at h
  · cases h
  · rename_i h1
    rw [if_neg h1]
    have h2 : ¬ 256 < p.size := fun h => h1 (.inl h)
    have h3 : Lib.hasPrefix p.data.toList [47] = true := by
      cases hb : Lib.hasPrefix p.data.toList [47] with
      | true => rfl
      | false => exact absurd (.inr hb) h1
    split at h
    · rename_i h4
      rw [if_pos h4]
      exact .inl ⟨h4, rfl⟩
    · rename_i h4
      rw [if_neg h4]
      split at h
      · cases h
      · rename_i h5
        rw [if_neg h5]
        split at h
        · rename_i h6
          rw [if_pos h6]
          exact .inr ⟨rfl, h3, by omega, by omega, h6⟩
        · rename_i h6
          exact absurd h h6
theorem last_size {L : List ByteArray} {s : ByteArray} (h : L.getLast? = some s) : ∃ I, L = I ++ [s] := by
  obtain ⟨I, hI⟩ := List.getLast?_eq_some_iff.1 h
  exact ⟨I, hI⟩
set_option maxRecDepth 100000 in
set_option maxHeartbeats 4000000 in
theorem parent_any (p : ByteArray) (w : World) : Calls Tryd.prog 12 #[.string p] w fun e w' => e = .returned (.tuple #[.string (paO p).1, .string (paO p).2.1, .int .i64 (paO p).2.2]) ∧ Below w.heap.size w w' := by
  obtain ⟨r, hr⟩ : ∃ r, paO p = r := ⟨_, rfl⟩
  rw [hr]
  unfold paO at hr
  have HR := Lib.hid hr
  clear hr
  go_enter Tryd.func12, Tryd.ntmps12
  go_wp2_with fail
  refine (nsplit_any p w).mono ?_
  rintro e w1 ⟨ao, cap, rfl, hS, hB⟩
  have HB := Lib.hid hB
  have HS := Lib.hid hS
  clear hB hS
  have HO := Lib.hid (@spO_ok p)
  generalize hsp : spO p = x at *
  obtain ⟨L, c⟩ := x
  clear hsp
  by_cases hc : c = 0
  · subst hc
    cases L with
    | nil =>
      clear HO
      go_wp2
      go_ret3
      exact ⟨by rw [← HR.out]; rfl, HB.out⟩
    | cons a R =>
      obtain ⟨I, s, hI⟩ : ∃ I s, a :: R = I ++ [s] := ⟨(a :: R).dropLast, (a :: R).getLast (by simp), (List.dropLast_concat_getLast (by simp)).symm⟩
      obtain ⟨n, hn⟩ : ∃ n, I.length = n := ⟨_, rfl⟩
      have hL : (a :: R).length = n + 1 := by rw [hI, List.length_append, hn]; rfl
      have hlast : (a :: R).getLast? = some s := by rw [hI]; simp
      obtain ⟨k1, k2, k3, k4, _⟩ := (HO.out rfl).resolve_left (fun h => by cases h.2)
      simp only at k1
      have hfl := nms_flat p k2
      rw [← k1, hI, List.flatMap_append, List.flatMap_singleton] at hfl
      have hsz : s.size + 1 ≤ p.size := by
        have := congrArg List.length hfl
        rw [List.length_append, List.length_cons, ← Lib.size_eq, ← Lib.size_eq] at this
        omega
      have hn16 : n ≤ 16 := by rw [← k1, hL] at k4; omega
      obtain ⟨g, e1, e2, e3⟩ := HS.out n (by rw [show (a :: R, (0 : Int)).1 = a :: R from rfl, hL]; omega)
      subst e1
      have e4 : (a :: R)[n]'(by rw [hL]; omega) = s := by
        simp only [hI]
        rw [List.getElem_append_right (by omega)]
        simp [hn]
      rw [show ((a :: R, (0 : Int)).1[n]'(by rw [show (a :: R, (0 : Int)).1 = a :: R from rfl, hL]; omega)) = s from e4] at e3
      have HR2 : Hid (r = (if p.extract 0 (p.size - 1 - s.size) = ⟨#[]⟩ then ⟨#[47]⟩ else p.extract 0 (p.size - 1 - s.size), s, 0)) := Lib.hid (by
        rw [← HR.out, if_pos rfl]
        simp only [hlast])
      rw [show (a :: R, (0 : Int)).1.length = n + 1 from hL, show (a :: R, (0 : Int)).2 = 0 from rfl]
      have i1 : ((n : Int) + 1 - 1).toNat = n := by omega
      have i2 : (((n + 1 : Nat) : Int) - 1).toNat = n := by omega
      have i3 : ((p.size : Int) - 1 - (s.size : Int)).toNat = p.size - 1 - s.size := by omega
      have hp256 : p.size ≤ 256 := k3
      have hs256 : s.size ≤ 256 := by omega
      clear HR HO HS hI hL hlast k1 k2 k3 k4 hfl e2 e4 hn
      by_cases hem : p.extract 0 (p.size - 1 - s.size) = ⟨#[]⟩
      · have hb : (p.extract 0 (p.size - 1 - s.size)).toList.isEmpty = true := by rw [hem, Lib.toList_data]; rfl
        have HE := Lib.hid hem
        clear hem
        go_wp2_with fail
        go_ret3
        exact ⟨by rw [HR2.out, if_pos HE.out]; rfl, HB.out⟩
      · have hb : (p.extract 0 (p.size - 1 - s.size)).toList.isEmpty = false := by
          rw [Lib.toList_data, List.isEmpty_eq_false_iff]
          intro e
          exact hem (by rw [← bs_data (p.extract _ _), e]; rfl)
        have HE := Lib.hid hem
        clear hem
        go_wp2_with fail
        go_ret3
        exact ⟨by rw [HR2.out, if_neg HE.out]; rfl, HB.out⟩
  · have hcz : (c != 0) = true := by simpa using hc
    have H0 := Lib.hid hc
    clear hc HO
    go_wp2
    go_ret3
    exact ⟨by rw [← HR.out, if_neg H0.out]; rfl, HB.out⟩
theorem pa_speaks : paO ⟨#[47, 97, 47, 98]⟩ = (⟨#[47, 97]⟩, ⟨#[98]⟩, 0) := by kernel_rfl
set_option maxRecDepth 100000 in
theorem speaks_any (w : World) : Calls Tryd.prog 7 #[] w fun e w' => e = .returned (.bool true) ∧ Below w.heap.size w w' := by
  go_enter Tryd.func7, Tryd.ntmps7
  go_wp2_with fail
  refine (parent_any _ w).mono ?_
  rintro e w1 ⟨rfl, hB⟩
  rw [pa_speaks]
  have HB := Lib.hid hB
  clear hB
  go_wp2
  go_ret
  exact ⟨rfl, HB.out⟩
end Go.Proofs.YtmmfmmjjpbfmeaaDoor
