/-
  The arm that is chosen, and the taker's times, as long as the row in it is told. Their conditions: the arms lie in memory; there is room.
-/
import Derived.Test.YtjogcdkebplcpaaGreatDoorTc
namespace Go.Proofs.YtjogcdkebplcpaaGreatDoor
open Go.RowKit Sch
def wf : Bool → Row → Prop
  | true, .nil => True
  | true, .one c r => isOne c = true ∧ wf true r
  | true, .num c n r => isNum c = true ∧ n ≤ 99999 ∧ wf true r
  | true, .opt c i r => isOpt c = true ∧ wf true i ∧ wf true r
  | true, .ch a r => wf false a ∧ wf true r
  | false, .nil => True
  | false, .arm _ i r => wf true i ∧ wf false r
  | _, _ => False
abbrev Lo (B : Nat) : Nat → Prop := fun k => k < B
theorem SlR.low {w w' : World} {B e sz : Nat} {v : Value} {r : Row} (h : SlR w (Lo B) e sz v r) (hb : Below B w w') : SlR w' (Lo B) e sz v r := h.kept (fun _ h => h) fun k hk _ => hb.block k hk
theorem cellAt0 {w : World} {B e sz : Nat} {g n cap : Nat} {xs : List Value} (h : w.ownsRow B e sz (.slice (some ⟨g, 0, none⟩) n cap) n xs) (j : Nat) (u : Value) (hu : xs[j]? = some u) : w.cell? ⟨g, j, none⟩ = some u := by
  have := h.cells (g := g) rfl j u hu
  by_cases h0 : j = 0
  · subst h0; simpa [Addr.add] using this
  · simpa [Addr.add, h0] using this
set_option maxRecDepth 100000 in
set_option maxHeartbeats 1000000 in
theorem chosen_any (B : Nat) (v : Value) (a : Row) (n : Int) (w : World) (h : SlR w (Lo B) 114 2 v a) (ha : wf false a) (hB : B ≤ w.heap.size) (hl : a.len ≤ 1000000) :
    Calls Tryz.prog 63 #[v, .int .i64 n] w fun r w' => Below w.heap.size w w' ∧ match pick n a with
      | none => r = Bad 4
      | some i => ∃ u, r = .returned u ∧ SlR w' (Lo B) 92 4 u i ∧ wf true i ∧ i.sz ≤ a.sz := by
  obtain ⟨zs, o1, o2, o3⟩ := h
  obtain ⟨ao, ac, rfl⟩ : ∃ o c, v = .slice o a.len c := SlR.slice ⟨zs, o1, o2, o3⟩
  have O1 := Lib.hid o1
  have O2 := Lib.hid o2
  have O3 := Lib.hid o3
  have HA := Lib.hid ha
  clear o1 o2 o3 ha
  obtain ⟨x, hx⟩ : ∃ x, pick n a = x := ⟨_, rfl⟩
  rw [hx]
  have HX := Lib.hid hx
  clear hx
  go_enter Tryz.func63, Tryz.ntmps63
  go_wp2
  go_loopw [9] (fun x9 wr => ∃ (j : Nat) (b : Row) (ys : List Value), x9 = .int .i64 j ∧ j + b.len = a.len ∧ zs.drop (2 * j) = ys ∧ cellsL w (Lo B) b ys ∧ pick n b = x ∧ wf false b ∧ b.sz ≤ a.sz ∧ Below w.heap.size w wr) (fun x9 _ => a.len - (intOf x9).toNat)
  case atStart => exact ⟨0, a, zs, rfl, by omega, by simp, O2.out, HX.out, HA.out, Nat.le_refl _, Below.refl _ _⟩
  case round =>
    obtain ⟨j, b, ys, rfl, hj, hys, hc, hp, hw, hsz, hb⟩ := hrel
    have HB := Lib.hid hb
    have hsb := hb.size
    clear hb
    cases b with
    | nil =>
      have hjl : ¬ j < a.len := by simp [Row.len] at hj; omega
      have hxn : x = none := by rw [← hp]; rfl
      subst hxn
      clear hp hc hys hw
      go_wp2_with fail
      refine (refuse_any 4 _).mono ?_
      rintro r w' ⟨rfl, rfl⟩
      go_wp2
      exact ⟨rfl, HB.out, rfl⟩
    | arm k i b =>
      obtain ⟨u, us, zs2, e1, ⟨u1, u2, u3⟩, hc2⟩ := hc
      have hjl : j < a.len := by simp [Row.len] at hj; omega
      obtain ⟨g, cap, hv, _, hgl⟩ := O1.out.form (by omega)
      have hao : ao = some ⟨g, 0, none⟩ := by injection hv
      subst hao
      clear hv
      have hbl : wr.heap[g]? = w.heap[g]? := HB.out.block g hgl
      obtain ⟨so, sc, rfl⟩ : ∃ o c, u = .slice o i.len c := SlR.slice (w := w) (A := Lo B) (e := 92) (sz := 4) ⟨us, u1, u2, u3⟩
      have z0 : zs[j * 2]? = some (.int .i64 k) := by
        have : (zs.drop (2 * j))[0]? = some (.int .i64 k) := by rw [hys, e1]; rfl
        simpa [List.getElem?_drop, Nat.mul_comm] using this
      have z1 : zs[j * 2 + 1]? = some (.slice so i.len sc) := by
        have : (zs.drop (2 * j))[1]? = some (.slice so i.len sc) := by rw [hys, e1]; rfl
        simpa [List.getElem?_drop, Nat.mul_comm] using this
      have d1 : wr.cell? ⟨g, j * 2, none⟩ = some (.int .i64 k) := (World.cell?_of_block hbl).trans (cellAt0 O1.out _ _ z0)
      have d2 : wr.cell? ⟨g, j * 2 + 1, none⟩ = some (.slice so i.len sc) := (World.cell?_of_block hbl).trans (cellAt0 O1.out _ _ z1)
      have HU := Lib.hid (And.intro u1 (And.intro u2 u3))
      have HC2 := Lib.hid hc2
      have hd : zs.drop (2 * (j + 1)) = zs2 := by
        have : (zs.drop (2 * j)).drop 2 = zs2 := by rw [hys, e1]; rfl
        rwa [List.drop_drop, show 2 * j + 2 = 2 * (j + 1) by omega] at this
      have HD := Lib.hid hd
      have HW := Lib.hid hw
      have HP := Lib.hid hp
      have HSZ := Lib.hid hsz
      clear u1 u2 u3 hc2 hd hw hp hys e1 z0 z1 hbl hsz
      have hgB : B ≤ wr.heap.size := by omega
      by_cases hk1 : k = n
      · subst hk1
        have hx := HP.out
        simp only [pick, true_or, if_true] at hx
        subst hx
        go_wp2
        go_ret
        refine ⟨HB.out.alloc hsb _, ?_⟩
        exact ⟨_, rfl, (SlR.low (w := w) ⟨us, HU.out⟩ ((HB.out.mono hB).alloc hgB _)), HW.out.1, by have := HSZ.out; simp only [Sch.Row.sz] at this; omega⟩
      · by_cases hk2 : k = -1
        · subst hk2
          have hx := HP.out
          simp only [pick, or_true, if_true] at hx
          subst hx
          have hb1 : ((-1 : Int) == n) = false := by simpa using hk1
          go_wp2
          go_ret
          refine ⟨HB.out.alloc hsb _, ?_⟩
          exact ⟨_, rfl, (SlR.low (w := w) ⟨us, HU.out⟩ ((HB.out.mono hB).alloc hgB _)), HW.out.1, by have := HSZ.out; simp only [Sch.Row.sz] at this; omega⟩
        · have hb1 : (k == n) = false := by simp [hk1]
          have hb2 : (k == -1) = false := by simp [hk2]
          go_wp2
          go_roundw
          case rel =>
            refine ⟨j + 1, b, zs2, by go_num, by simp [Row.len] at hj; omega, HD.out, HC2.out, ?_, HW.out.2, by have := HSZ.out; simp only [Sch.Row.sz] at this; omega, HB.out.alloc hsb _⟩
            rw [← HP.out]
            simp [pick, hk1, hk2]
          case measure => simp [intOf]; omega
    | one c b => exact absurd hw (by simp [wf])
    | num c m b => exact absurd hw (by simp [wf])
    | opt c i b => exact absurd hw (by simp [wf])
    | ch c b => exact absurd hw (by simp [wf])
end Go.Proofs.YtjogcdkebplcpaaGreatDoor
