import Derived.Test.YtfockjlegpbooaaGreatDoorMnSet
import Derived.Laws.CopyOwn
import Derived.OwnWalk
/-
  THE WALK over (*mean.ground).along.
-/
namespace Go.Proofs.YtfockjlegpbooaaGreatDoor
open Go.RowKit Go.Shelf Go.Lib
namespace Mn
theorem boInfo : (Tryz.prog.info? 4).map (fun i => (i.zero, i.size, i.bytes)) = some (some (.bool false), 1, 1) := by kernel_rfl
theorem bcs_len (l : List Bool) : (bcs l).length = l.length := by simp [bcs]
theorem made_false (n : Nat) : (madeCells #[Value.bool false] n).toList = bcs (List.replicate n false) := by
  unfold madeCells bcs
  apply List.ext_getElem?
  intro i
  simp only [Array.toList_map, Array.toList_range, List.getElem?_map, List.map_replicate]
  by_cases hi : i < n
  · rw [List.getElem?_range hi, List.getElem?_replicate_of_lt hi]
    show some ((#[Value.bool false] : Array Value)[i % 1]!) = _
    rw [Nat.mod_one]
    rfl
  · rw [List.getElem?_eq_none (by simpa using hi), List.getElem?_eq_none (by simpa using hi)]
    rfl
def parN (l : List Sp) (i : Nat) : Nat := (nth l i).par.toNat
/-- along: behind so many rounds -/
def alS (l : List Sp) (a : Int) (fr : List Bool) : Nat → List Bool
  | 0 => if a = 3 ∨ a = 2 then fr else List.replicate fr.length false
  | c + 1 => if nb fr (parN l (c + 1)) || (decide (a ≠ 0) && nb (alS l a fr c) (parN l (c + 1))) then (alS l a fr c).set (c + 1) true else alS l a fr c
def alongB (l : List Sp) (a : Int) (fr : List Bool) : List Bool := if a = 3 then fr else alS l a fr (fr.length - 1)
theorem alS_len (l : List Sp) (a : Int) (fr : List Bool) : ∀ c, (alS l a fr c).length = fr.length
  | 0 => by unfold alS; split <;> simp
  | c + 1 => by unfold alS; split <;> simp [alS_len l a fr c]
theorem bcs_set (bs : List Bool) (i : Nat) (b : Bool) : (bcs bs).set i (.bool b) = bcs (bs.set i b) := by simp [bcs, List.map_set]
theorem SetR.put {W : World} {M q n cap i : Nat} {bs : List Bool} (h : SetR W M (.slice (some ⟨q, 0, none⟩) n cap) bs) (hn : bs.length = n) (b : Bool) : SetR (W.setCell ⟨q, i, none⟩ (.bool b)) M (.slice (some ⟨q, 0, none⟩) n cap) (bs.set i b) := by
  subst hn
  have h1 : W.ownsRow M 4 1 (.slice (some ⟨q, 0, none⟩) bs.length cap) bs.length (bcs bs) := h
  have h2 := (h1.stored i (.bool b)).1
  unfold SetR
  rw [List.length_set, ← bcs_set]
  exact h2
theorem full_heap {w : World} {B g n : Nat} {t : TypeId} {xs : List Value} (h : w.ownsRow B t 1 (.slice (some ⟨g, 0, none⟩) n n) n xs) : w.heap[g]? = some (.cells xs.toArray t (0, 0)) := by
  rcases h.2 with ⟨e, _⟩ | ⟨g', cap, cur, e, _, hg, _, _, hcs, htake⟩
  · cases e
  · cases e
    rw [hg]
    have : cur.toList = xs := by
      rw [← htake, List.take_of_length_le (by simp; omega)]
    rw [← this]
theorem full_owns {w : World} {B g n : Nat} {t : TypeId} {xs : List Value} (h : w.heap[g]? = some (.cells xs.toArray t (0, 0))) (hB : B ≤ g) (hx : xs.length = n) (hm : n ≤ maxLen) : w.ownsRow B t 1 (.slice (some ⟨g, 0, none⟩) n n) n xs :=
  ⟨by omega, .inr ⟨g, n, xs.toArray, rfl, hB, h, Nat.le_refl _, hm, by simp [hx], by rw [List.take_of_length_le (by simp; omega)]⟩⟩
theorem splice_all {α : Type} (L cs : List α) (h : cs.length = L.length) : splice L 0 cs = cs := by
  unfold splice
  rw [List.take_zero, List.nil_append, Nat.zero_add, h, List.drop_length, List.append_nil]
theorem bcs_one (l : List Bool) : ∀ u ∈ bcs l, u.oneCell' = true := by
  intro u hu
  obtain ⟨j, _, rfl⟩ := List.mem_map.1 hu
  rfl
end Mn
set_option maxRecDepth 100000 in
set_option maxHeartbeats 4000000 in
theorem mnAlong (W : World) (M G : Nat) (k : Int) (tx : ByteArray) (gv : Value) (l : List Mn.Sp) (hg : Mn.GR W M G k tx gv l) (hp : ∀ i, 0 < i → i < l.length → 0 ≤ (Mn.nth l i).par ∧ (Mn.nth l i).par < l.length) (a : Int) (M2 : Nat) (v : Value) (fr : List Bool) (h : Mn.SetR W M2 v fr) (hl : fr.length = l.length) (h0 : 0 < l.length) (hn : l.length ≤ 1048578) :
    Calls Tryz.prog 65 #[.pointer (some ⟨G, 0, none⟩), .int .i64 a, v] W fun r w' => (∃ u, r = .returned u ∧ Mn.SetR w' W.heap.size u (Mn.alongB l a fr)) ∧ Below W.heap.size W w' := by
  obtain ⟨p, cap, rfl, h1, h2, h3⟩ := h.cells
  obtain ⟨i0, hi0, hz0, hz1, hz2⟩ := info_parts Mn.boInfo
  obtain ⟨q, rfl, -, hq, hc⟩ := h3 (by omega)
  rw [hl] at h1 hc ⊢
  obtain ⟨n, hnn⟩ : ∃ n, l.length = n := ⟨_, rfl⟩
  rw [hnn] at h1 hc hn h0 hl hp ⊢
  have HC := hide' hc
  have HG := hide' hg
  have HP := hide' hp
  have HL := hide' hl
  have HN := hide' hnn
  have HF := hide' h
  clear hc hg hp hl hnn h h3
  go_enter Tryz.func65, Tryz.ntmps65
  go_wp2_with (at_make; refine wpList_make_full _ rfl _ _ 90 rfl W.heap.size 4 i0 (.bool false) 1 Tryz.underlying90 hi0 hz0 hz1 .i64 .i64 n n n rfl rfl rfl rfl ?m1 ?m2 ?m3 ?_)
  case m1 => rw [hz2]; omega
  case m2 => unfold maxLen; omega
  case m3 => exact Nat.le_refl _
  intro w1 hown1 hg1
  rw [Mn.made_false] at hown1
  have hb1 : Below W.heap.size W w1 := (Below.refl _ _).grown hg1 (Nat.le_refl _) (fun g e => by cases e)
  have hh1 := Mn.full_heap hown1
  have HB1 := hide' hb1
  have HH1 := hide' hh1
  have HO1 := hide' hown1
  clear hown1 hg1 hb1 hh1
  by_cases h3 : a = 3
  · subst h3
    go_wp2_with (refine wpList_copy_splice rfl _ _ 90 90 rfl 4 Tryz.underlying90 ?s1 _ _ n n n cap rfl rfl W.heap.size 0 (Mn.bcs (List.replicate n false)) 4 HH1.out (Mn.bcs fr) ?s0 ?s2 ?s3 (Mn.bcs_one fr) W.heap.size W HB1.out (Nat.le_refl _) ?_)
    case s1 => kernel_rfl
    case s0 => rw [Mn.bcs_len, HL.out]; exact (Nat.min_self n).symm
    case s2 =>
      intro _ j v hj
      have hjn : j < fr.length := by
        have := (List.getElem?_eq_some_iff.1 hj).1
        rwa [Mn.bcs_len] at this
      have e : v = .bool (Mn.nb fr j) := by
        unfold Mn.bcs at hj
        rw [List.getElem?_map, Mn.nb_some hjn] at hj
        exact (Option.some.inj hj).symm
      rw [e]
      exact (HB1.out.cell (p := ⟨q, j, none⟩) hq).trans (HC.out j (by have := HL.out; omega)).1
    case s3 => rw [Mn.bcs_len, Mn.bcs_len, HL.out]; simp
    intro w2 HH2 hb2
    have HS2 : Hid (Mn.SetR w2 W.heap.size (.slice (some ⟨W.heap.size, 0, none⟩) n n) fr) := by
      have h1 := HH2.out
      rw [Mn.splice_all _ _ (by rw [Mn.bcs_len, Mn.bcs_len, HL.out]; simp)] at h1
      have h2 := Mn.full_owns (n := n) h1 (Nat.le_refl _) (by rw [Mn.bcs_len]; exact HL.out) (by unfold maxLen; omega)
      show w2.ownsRow _ _ _ _ _ _
      rw [HL.out]
      exact h2
    have HB2 := hide' hb2
    clear HH2 HH1 HB1 HO1 hb2
    go_wp2_with fail
    go_ret
    exact ⟨⟨_, rfl, HS2.out⟩, HB2.out⟩
  by_cases h4 : a = 2
  · subst h4
    go_wp2_with (refine wpList_copy_splice rfl _ _ 90 90 rfl 4 Tryz.underlying90 ?s1 _ _ n n n cap rfl rfl W.heap.size 0 (Mn.bcs (List.replicate n false)) 4 HH1.out (Mn.bcs fr) ?s0 ?s2 ?s3 (Mn.bcs_one fr) W.heap.size W HB1.out (Nat.le_refl _) ?_)
    case s1 => kernel_rfl
    case s0 => rw [Mn.bcs_len, HL.out]; exact (Nat.min_self n).symm
    case s2 =>
      intro _ j v hj
      have hjn : j < fr.length := by
        have := (List.getElem?_eq_some_iff.1 hj).1
        rwa [Mn.bcs_len] at this
      have e : v = .bool (Mn.nb fr j) := by
        unfold Mn.bcs at hj
        rw [List.getElem?_map, Mn.nb_some hjn] at hj
        exact (Option.some.inj hj).symm
      rw [e]
      exact (HB1.out.cell (p := ⟨q, j, none⟩) hq).trans (HC.out j (by have := HL.out; omega)).1
    case s3 => rw [Mn.bcs_len, Mn.bcs_len, HL.out]; simp
    intro w2 HH2 hb2
    have HS2 : Hid (Mn.SetR w2 W.heap.size (.slice (some ⟨W.heap.size, 0, none⟩) n n) fr) := by
      have h1 := HH2.out
      rw [Mn.splice_all _ _ (by rw [Mn.bcs_len, Mn.bcs_len, HL.out]; simp)] at h1
      have h2 := Mn.full_owns (n := n) h1 (Nat.le_refl _) (by rw [Mn.bcs_len]; exact HL.out) (by unfold maxLen; omega)
      show w2.ownsRow _ _ _ _ _ _
      rw [HL.out]
      exact h2
    have HB2 := hide' hb2
    clear HH2 HH1 HB1 hb2
    go_wp2_with fail
    go_loopw [8] (fun v wr => ∃ c : Nat, v = .int .i64 ((c : Int) + 1) ∧ c ≤ n - 1 ∧ Hid (Below W.heap.size W wr) ∧ Hid (Mn.SetR wr W.heap.size (.slice (some ⟨W.heap.size, 0, none⟩) n n) (Mn.alS l 2 fr c))) (fun v _ => n - (RowKit.intOf v).toNat)
    case atStart => exact ⟨0, rfl, Nat.zero_le _, HB2, HS2⟩
    case round =>
      clear HS2 HB2
      obtain ⟨c, rfl, hc, HB, HS⟩ := hrel
      by_cases hlt : c < n - 1
      · obtain ⟨-, -, g2, gp, gc, rfl, -, -, grow⟩ := (HG.out.below HB.out).cells
        obtain ⟨gq, rfl, -, gcel⟩ := grow (by have := HN.out; omega)
        have k4 := (gcel (c + 1) (by have := HN.out; omega)).c4
        have hpar := HP.out (c + 1) (by omega) (by omega)
        obtain ⟨j, hj⟩ : ∃ j : Nat, (Mn.nth l (c + 1)).par = (j : Int) := ⟨(Mn.nth l (c + 1)).par.toNat, by omega⟩
        rw [hj] at k4 hpar
        have hpn : Mn.parN l (c + 1) = j := by unfold Mn.parN; rw [hj, Int.toNat_natCast]
        have hlo : (Mn.alS l 2 fr c).length = n := by rw [Mn.alS_len]; exact HL.out
        obtain ⟨op, oc, oe, -, -, orow⟩ := HS.out.cells
        obtain ⟨oq, rfl, -, -, ocel⟩ := orow (by omega)
        obtain rfl : W.heap.size = oq := by cases oe; rfl
        have o1 := (ocel j (by omega)).1
        have o2 := (ocel (c + 1) (by omega)).1
        have o3 := (ocel (c + 1) (by omega)).2
        have f1 := (HB.out.cell (p := ⟨q, j, none⟩) hq).trans (HC.out j (by omega)).1
        rw [HN.out] at g2
        have t1 : (c : Int) + 1 < (n : Int) := by omega
        have t2 : (0 : Int) ≤ (c : Int) + 1 := by omega
        have t3 : (j : Int) < (n : Int) := by omega
        have t4 : (0 : Int) ≤ (j : Int) := by omega
        have e1 : ((c : Int) + 1).toNat = c + 1 := by omega
        have tw : IntKind.i64.wrap ((c : Int) + 1 + 1) = (c : Int) + 1 + 1 := by rw [IntKind.wrap_i64]; omega
        clear gcel grow ocel orow oe hj hpar HC HG HP HF HO1
        cases hb1 : Mn.nb fr j
        · rw [hb1] at f1
          cases hb2 : Mn.nb (Mn.alS l 2 fr c) j
          · rw [hb2] at o1
            have HY := hide' (And.intro hb1 hb2)
            clear hb1 hb2
            have HPUT : Hid (Mn.SetR wr W.heap.size (.slice (some ⟨W.heap.size, 0, none⟩) n n) (Mn.alS l 2 fr (c + 1))) := by
              show Mn.SetR _ _ _ (if _ then _ else _)
              rw [if_neg (by rw [hpn]; simp [HY.out])]
              exact HS.out
            clear HS HY hlo hpn
            go_wp2
            exact ⟨⟨c + 1, by simp, by omega, HB, HPUT⟩, by simp [RowKit.intOf]; omega⟩
          · rw [hb2] at o1
            have HY := hide' (And.intro hb1 hb2)
            clear hb1 hb2
            have HPUT : Hid (Mn.SetR (wr.setCell ⟨W.heap.size, c + 1, none⟩ (.bool true)) W.heap.size (.slice (some ⟨W.heap.size, 0, none⟩) n n) (Mn.alS l 2 fr (c + 1))) := by
              show Mn.SetR _ _ _ (if _ then _ else _)
              rw [if_pos (by rw [hpn]; simp [HY.out])]
              exact HS.out.put hlo true
            have HBP : Hid (Below W.heap.size W (wr.setCell ⟨W.heap.size, c + 1, none⟩ (.bool true))) := HB.out.setCell (p := ⟨W.heap.size, c + 1, none⟩) (Nat.le_refl _) _
            clear HS HB HY hlo hpn
            go_wp2
            exact ⟨⟨c + 1, by simp, by omega, HBP, HPUT⟩, by simp [RowKit.intOf]; omega⟩
        · rw [hb1] at f1
          have HY := hide' hb1
          clear hb1
          have HPUT : Hid (Mn.SetR (wr.setCell ⟨W.heap.size, c + 1, none⟩ (.bool true)) W.heap.size (.slice (some ⟨W.heap.size, 0, none⟩) n n) (Mn.alS l 2 fr (c + 1))) := by
            show Mn.SetR _ _ _ (if _ then _ else _)
            rw [if_pos (by rw [hpn]; simp [HY.out])]
            exact HS.out.put hlo true
          have HBP : Hid (Below W.heap.size W (wr.setCell ⟨W.heap.size, c + 1, none⟩ (.bool true))) := HB.out.setCell (p := ⟨W.heap.size, c + 1, none⟩) (Nat.le_refl _) _
          clear HS HB HY hlo hpn
          go_wp2
          exact ⟨⟨c + 1, by simp, by omega, HBP, HPUT⟩, by simp [RowKit.intOf]; omega⟩
      · have t1 : ¬ (c : Int) + 1 < (n : Int) := by omega
        obtain rfl : c = n - 1 := by omega
        clear HC HG HP HF
        go_wp2
        all_goals
          go_ret
          refine ⟨⟨_, rfl, ?_⟩, HB.out⟩
          unfold Mn.alongB
          rw [if_neg (by first | decide | exact h3), HL.out]
          exact HS.out
  have HS2 : Hid (Mn.SetR w1 W.heap.size (.slice (some ⟨W.heap.size, 0, none⟩) n n) (Mn.alS l a fr 0)) := by
    unfold Mn.alS
    rw [if_neg (by omega), HL.out]
    show w1.ownsRow _ _ _ _ _ _
    rw [List.length_replicate]
    exact HO1.out
  have HB2 := HB1
  have b3 : (a == 3) = false := by simpa using h3
  have b4 : (a == 2) = false := by simpa using h4
  clear HH1 HB1
  go_wp2_with fail
  go_loopw [8] (fun v wr => ∃ c : Nat, v = .int .i64 ((c : Int) + 1) ∧ c ≤ n - 1 ∧ Hid (Below W.heap.size W wr) ∧ Hid (Mn.SetR wr W.heap.size (.slice (some ⟨W.heap.size, 0, none⟩) n n) (Mn.alS l a fr c))) (fun v _ => n - (RowKit.intOf v).toNat)
  case atStart => exact ⟨0, rfl, Nat.zero_le _, HB2, HS2⟩
  case round =>
    clear HS2 HB2
    obtain ⟨c, rfl, hc, HB, HS⟩ := hrel
    by_cases hlt : c < n - 1
    · obtain ⟨-, -, g2, gp, gc, rfl, -, -, grow⟩ := (HG.out.below HB.out).cells
      obtain ⟨gq, rfl, -, gcel⟩ := grow (by have := HN.out; omega)
      have k4 := (gcel (c + 1) (by have := HN.out; omega)).c4
      have hpar := HP.out (c + 1) (by omega) (by omega)
      obtain ⟨j, hj⟩ : ∃ j : Nat, (Mn.nth l (c + 1)).par = (j : Int) := ⟨(Mn.nth l (c + 1)).par.toNat, by omega⟩
      rw [hj] at k4 hpar
      have hpn : Mn.parN l (c + 1) = j := by unfold Mn.parN; rw [hj, Int.toNat_natCast]
      have hlo : (Mn.alS l a fr c).length = n := by rw [Mn.alS_len]; exact HL.out
      obtain ⟨op, oc, oe, -, -, orow⟩ := HS.out.cells
      obtain ⟨oq, rfl, -, -, ocel⟩ := orow (by omega)
      obtain rfl : W.heap.size = oq := by cases oe; rfl
      have o1 := (ocel j (by omega)).1
      have o2 := (ocel (c + 1) (by omega)).1
      have o3 := (ocel (c + 1) (by omega)).2
      have f1 := (HB.out.cell (p := ⟨q, j, none⟩) hq).trans (HC.out j (by omega)).1
      rw [HN.out] at g2
      have t1 : (c : Int) + 1 < (n : Int) := by omega
      have t2 : (0 : Int) ≤ (c : Int) + 1 := by omega
      have t3 : (j : Int) < (n : Int) := by omega
      have t4 : (0 : Int) ≤ (j : Int) := by omega
      have e1 : ((c : Int) + 1).toNat = c + 1 := by omega
      have tw : IntKind.i64.wrap ((c : Int) + 1 + 1) = (c : Int) + 1 + 1 := by rw [IntKind.wrap_i64]; omega
      clear gcel grow ocel orow oe hj hpar HC HG HP HF HO1
      cases hb1 : Mn.nb fr j
      · rw [hb1] at f1
        by_cases ha0 : a = 0
        · subst ha0
          have HY := hide' hb1
          clear hb1
          have HPUT : Hid (Mn.SetR wr W.heap.size (.slice (some ⟨W.heap.size, 0, none⟩) n n) (Mn.alS l 0 fr (c + 1))) := by
            show Mn.SetR _ _ _ (if _ then _ else _)
            rw [if_neg (by rw [hpn]; simp [HY.out])]
            exact HS.out
          clear HS HY hlo hpn
          go_wp2
          exact ⟨⟨c + 1, by simp, by omega, HB, HPUT⟩, by simp [RowKit.intOf]; omega⟩
        have ha1 : (a != 0) = true := by simpa using ha0
        cases hb2 : Mn.nb (Mn.alS l a fr c) j
        · rw [hb2] at o1
          have HY := hide' (And.intro hb1 (And.intro hb2 ha0))
          clear hb1 hb2
          have HPUT : Hid (Mn.SetR wr W.heap.size (.slice (some ⟨W.heap.size, 0, none⟩) n n) (Mn.alS l a fr (c + 1))) := by
            show Mn.SetR _ _ _ (if _ then _ else _)
            rw [if_neg (by rw [hpn]; simp [HY.out])]
            exact HS.out
          clear HS HY hlo hpn
          go_wp2
          exact ⟨⟨c + 1, by simp, by omega, HB, HPUT⟩, by simp [RowKit.intOf]; omega⟩
        · rw [hb2] at o1
          have HY := hide' (And.intro hb1 (And.intro hb2 ha0))
          clear hb1 hb2
          have HPUT : Hid (Mn.SetR (wr.setCell ⟨W.heap.size, c + 1, none⟩ (.bool true)) W.heap.size (.slice (some ⟨W.heap.size, 0, none⟩) n n) (Mn.alS l a fr (c + 1))) := by
            show Mn.SetR _ _ _ (if _ then _ else _)
            rw [if_pos (by rw [hpn]; simp [HY.out])]
            exact HS.out.put hlo true
          have HBP : Hid (Below W.heap.size W (wr.setCell ⟨W.heap.size, c + 1, none⟩ (.bool true))) := HB.out.setCell (p := ⟨W.heap.size, c + 1, none⟩) (Nat.le_refl _) _
          clear HS HB HY hlo hpn
          go_wp2
          exact ⟨⟨c + 1, by simp, by omega, HBP, HPUT⟩, by simp [RowKit.intOf]; omega⟩
      · rw [hb1] at f1
        have HY := hide' hb1
        clear hb1
        have HPUT : Hid (Mn.SetR (wr.setCell ⟨W.heap.size, c + 1, none⟩ (.bool true)) W.heap.size (.slice (some ⟨W.heap.size, 0, none⟩) n n) (Mn.alS l a fr (c + 1))) := by
          show Mn.SetR _ _ _ (if _ then _ else _)
          rw [if_pos (by rw [hpn]; simp [HY.out])]
          exact HS.out.put hlo true
        have HBP : Hid (Below W.heap.size W (wr.setCell ⟨W.heap.size, c + 1, none⟩ (.bool true))) := HB.out.setCell (p := ⟨W.heap.size, c + 1, none⟩) (Nat.le_refl _) _
        clear HS HB HY hlo hpn
        go_wp2
        exact ⟨⟨c + 1, by simp, by omega, HBP, HPUT⟩, by simp [RowKit.intOf]; omega⟩
    · have t1 : ¬ (c : Int) + 1 < (n : Int) := by omega
      obtain rfl : c = n - 1 := by omega
      clear HC HG HP HF
      go_wp2
      all_goals
        go_ret
        refine ⟨⟨_, rfl, ?_⟩, HB.out⟩
        unfold Mn.alongB
        rw [if_neg (by first | decide | exact h3), HL.out]
        exact HS.out
end Go.Proofs.YtfockjlegpbooaaGreatDoor
/-
  THE WALK over (*mean.ground).keepMeeting at a step without predicates.
-/
namespace Go.Proofs.YtfockjlegpbooaaGreatDoor
open Go.RowKit Go.Shelf Go.Lib
namespace Mn
/-- keepMeeting's tests: behind so many rounds -/
def keepB (l : List Sp) (test : Int) (nm : ByteArray) (bs : List Bool) : Nat → List Bool
  | 0 => bs
  | c + 1 => (keepB l test nm bs c).set c (nb (keepB l test nm bs c) c && meetB (nth l c) test nm)
theorem keepB_len (l : List Sp) (test : Int) (nm : ByteArray) (bs : List Bool) : ∀ c, (keepB l test nm bs c).length = bs.length
  | 0 => rfl
  | c + 1 => by unfold keepB; simp [keepB_len l test nm bs c]
theorem GR.but {W W' : World} {M G M2 : Nat} {k : Int} {tx : ByteArray} {gv v : Value} {l : List Sp} {bs : List Bool} (h : GR W M G k tx gv l) (hs : SetR W M2 v bs) (hb : ButR W v W') : GR W' M G k tx gv l := by
  have hty : ∀ j, v.ownBlock = some j → ∃ cur, W.heap[j]? = some (.cells cur 4 (0, 0)) := fun j e => by
    have hs : W.ownsRow M2 4 1 v bs.length (bcs bs) := hs
    rcases hs.2 with ⟨rfl, _⟩ | ⟨g', cap, cur, rfl, _, hh, _⟩
    · cases e
    · cases e
      exact ⟨cur, hh⟩
  refine ⟨(hb.same _ (Array.getElem?_eq_some_iff.1 h.blk).1 (fun e => ?_)).trans h.blk, Tr.owns_block h.row (fun g e hg => hb.same g hg (fun e2 => ?_)), h.lt⟩
  · obtain ⟨cur, hc⟩ := hty _ e
    rw [h.blk] at hc
    have := Option.some.inj hc
    injection this with _ h2 _
    exact absurd h2 (by decide)
  · obtain ⟨cur, hc⟩ := hty _ e2
    rcases h.row.2 with ⟨rfl, _⟩ | ⟨g', cap, cur', rfl, _, hh, _⟩
    · cases e
    · cases e
      rw [hh] at hc
      have := Option.some.inj hc
      injection this with _ h2 _
      exact absurd h2 (by decide)
theorem ButR.trans {W W1 W2 : World} {v : Value} (h : ButR W v W1) (k : ButR W1 v W2) : ButR W v W2 :=
  ⟨k.os.trans h.os, k.tape.trans h.tape, k.output.trans h.output, Nat.le_trans h.size k.size, fun j h1 h2 => (k.same j (Nat.lt_of_lt_of_le h1 h.size) h2).trans (h.same j h1 h2)⟩
theorem ButR.of_below {W W' : World} {v : Value} (h : Below W.heap.size W W') : ButR W v W' := ⟨h.os, h.tape, h.output, h.size, fun j h1 _ => h.block j h1⟩
end Mn
set_option maxRecDepth 100000 in
set_option maxHeartbeats 4000000 in
theorem mnKeep (W : World) (M G : Nat) (k : Int) (tx : ByteArray) (gv : Value) (l : List Mn.Sp) (hg : Mn.GR W M G k tx gv l) (ax test : Int) (nm : ByteArray) (pw : Option Addr) (cw : Nat) (M2 : Nat) (v : Value) (bs : List Bool) (h : Mn.SetR W M2 v bs) (hl : bs.length = l.length) (h0 : 0 < l.length) (hn : l.length ≤ 1048578) :
    Calls Tryz.prog 66 #[.pointer (some ⟨G, 0, none⟩), v, .agg #[.int .i64 ax, .int .i64 test, .string nm, .slice pw 0 cw]] W fun r w' => (∃ u, r = .returned u) ∧ Mn.SetR w' M2 v (Mn.keepB l test nm bs bs.length) ∧ Mn.ButR W v w' := by
  obtain ⟨p, cap, rfl, h1, h2, h3⟩ := h.cells
  obtain ⟨q, rfl, -, hq, -⟩ := h3 (by omega)
  rw [hl] at h1 ⊢
  obtain ⟨n, hnn⟩ : ∃ n, l.length = n := ⟨_, rfl⟩
  rw [hnn] at h1 hn h0 hl ⊢
  have HG := hide' hg
  have HL := hide' hl
  have HN := hide' hnn
  have HF : Hid (Mn.SetR W M2 (.slice (some ⟨q, 0, none⟩) n cap) bs) := by rw [hl] at h; exact h
  clear hg hl hnn h h3
  go_enter Tryz.func66, Tryz.ntmps66
  go_wp2_with fail
  obtain ⟨W1, hW1⟩ : ∃ W1, W.alloc (.cells #[.int .i64 ax, .int .i64 test, .string nm, .slice pw 0 cw] 64) = W1 := ⟨_, rfl⟩
  have hb1 : Below W.heap.size W W1 := by rw [← hW1]; exact (Below.refl _ _).alloc (Nat.le_refl _) _
  have hst : W1.heap[W.heap.size]? = some (.cells #[.int .i64 ax, .int .i64 test, .string nm, .slice pw 0 cw] 64 (0, 0)) := by rw [← hW1]; exact heap_alloc_new W _
  rw [hW1]
  have HB1 := hide' hb1
  have HST := hide' hst
  clear hW1 hb1 hst
  go_loopw [12] (fun v wr => ∃ c : Nat, v = .int .i64 c ∧ c ≤ n ∧ Hid (Mn.ButR W1 (.slice (some ⟨q, 0, none⟩) n cap) wr) ∧ Hid (Mn.SetR wr M2 (.slice (some ⟨q, 0, none⟩) n cap) (Mn.keepB l test nm bs c))) (fun v _ => n - (RowKit.intOf v).toNat)
  case atStart => exact ⟨0, rfl, Nat.zero_le _, Mn.ButR.refl _ _, HF.out.below HB1.out⟩
  case round =>
    obtain ⟨c, rfl, hc, HB, HS⟩ := hrel
    have hlo : (Mn.keepB l test nm bs c).length = n := by rw [Mn.keepB_len]; exact HL.out
    have HGr : Hid (Mn.GR wr M G k tx gv l) := (HG.out.below HB1.out).but (HF.out.below HB1.out) HB.out
    have hstw : wr.heap[W.heap.size]? = some (.cells #[.int .i64 ax, .int .i64 test, .string nm, .slice pw 0 cw] 64 (0, 0)) := (HB.out.same _ (Array.getElem?_eq_some_iff.1 HST.out).1 (fun e => by have e2 : q = W.heap.size := Option.some.inj e; omega)).trans HST.out
    by_cases hlt : c < n
    · obtain ⟨-, -, g2, gp, gc, rfl, -, -, grow⟩ := HGr.out.cells
      obtain ⟨gq, rfl, -, gcel⟩ := grow (by have := HN.out; omega)
      have hsp := gcel c (by have := HN.out; omega)
      rw [HN.out] at g2
      obtain ⟨op, oc, oe, -, -, orow⟩ := HS.out.cells
      obtain ⟨oq, rfl, -, hoq, ocel⟩ := orow (by omega)
      obtain rfl : q = oq := by cases oe; rfl
      have o1 := (ocel c (by omega)).1
      have o2 := (ocel c (by omega)).2
      have t1 : (c : Int) < (n : Int) := by omega
      have t0 : (0 : Int) ≤ (c : Int) := by omega
      have tw : IntKind.i64.wrap ((c : Int) + 1) = (c : Int) + 1 := by rw [IntKind.wrap_i64]; omega
      obtain ⟨mb, hmb⟩ : ∃ mb, Mn.meetB (Mn.nth l c) test nm = mb := ⟨_, rfl⟩
      have HPUT : Hid (∀ m b, b = (Mn.nb (Mn.keepB l test nm bs c) c && mb) → Mn.SetR ((wr.drewN m).setCell ⟨q, c, none⟩ (.bool b)) M2 (.slice (some ⟨q, 0, none⟩) n cap) (Mn.keepB l test nm bs (c + 1))) := fun m b e => by
        show Mn.SetR _ _ _ (List.set _ _ _)
        rw [hmb, ← e]
        exact (HS.out.below (below_drewN (Below.refl _ _) m)).put hlo b
      have HBUT : Hid (∀ m x, Mn.ButR W1 (.slice (some ⟨q, 0, none⟩) n cap) ((wr.drewN m).setCell ⟨q, c, none⟩ x)) := fun m x => (HB.out.drew m).put rfl x
      cases hb : Mn.nb (Mn.keepB l test nm bs c) c
      · rw [hb] at o1 HPUT
        clear gcel grow ocel orow oe hb HG HF HB HS HGr hsp hmb hstw hlo
        go_wp2
        go_region
        go_wp2
        exact ⟨⟨c + 1, rfl, by omega, HBUT.out 1 _, HPUT.out 1 _ rfl⟩, by simp [RowKit.intOf]; omega⟩
      · rw [hb] at o1 HPUT
        have CM : Hid (Calls Tryz.prog 92 #[.pointer (some ⟨gq, c * 7, none⟩), .int .i64 test, .string nm] wr.drew fun r w' => r = .returned (.bool mb) ∧ w' = wr.drew) := by
          rw [← hmb]
          exact mnMeets wr.drew gq c (Mn.nth l c) test nm ⟨hsp.c0, hsp.c1, hsp.c2, hsp.c3, hsp.c4, hsp.c5, hsp.c6, hsp.f6⟩
        obtain ⟨S, hSd⟩ : ∃ S : World → Prop, S = fun W' => W'.cell? ⟨G, 2, none⟩ = some (.slice (some ⟨gq, 0, none⟩) n gc) ∧ W'.cell? ⟨W.heap.size, 1, none⟩ = some (.int .i64 test) ∧ W'.cell? ⟨W.heap.size, 2, none⟩ = some (.string nm) := ⟨_, rfl⟩
        have HSO : Hid (∀ W', S W' → W'.cell? ⟨G, 2, none⟩ = some (.slice (some ⟨gq, 0, none⟩) n gc) ∧ W'.cell? ⟨W.heap.size, 1, none⟩ = some (.int .i64 test) ∧ W'.cell? ⟨W.heap.size, 2, none⟩ = some (.string nm)) := fun W' h => by rw [hSd] at h; exact h
        have hs1 : wr.cell? ⟨W.heap.size, 1, none⟩ = some (.int .i64 test) := by rw [Lib.cell_of_heap hstw]; rfl
        have hs2 : wr.cell? ⟨W.heap.size, 2, none⟩ = some (.string nm) := by rw [Lib.cell_of_heap hstw]; rfl
        have hS0 : S wr.drew := by rw [hSd]; exact ⟨g2, hs1, hs2⟩
        have hGq : G ≠ q := by
          have hbk := HGr.out.blk
          intro e
          rw [e] at hbk
          have h2 : wr.ownsRow M2 4 1 (.slice (some ⟨q, 0, none⟩) n cap) (Mn.keepB l test nm bs c).length (Mn.bcs (Mn.keepB l test nm bs c)) := HS.out
          rcases h2.2 with ⟨e2, _⟩ | ⟨g', cap', cur, e2, _, hh, _⟩
          · cases e2
          · cases e2
            rw [hbk] at hh
            have := Option.some.inj hh
            injection this with _ h3 _
            exact absurd h3 (by decide)
        have HS2 : Hid (S ((wr.drew).setCell ⟨q, c, none⟩ (.bool mb))) := by
          show S _
          rw [hSd]
          exact ⟨(World.cell?_of_block (a := ⟨G, 2, none⟩) (Below.heap_setCell wr.drew ⟨q, c, none⟩ _ G hGq)).trans g2, (World.cell?_of_block (a := ⟨W.heap.size, 1, none⟩) (Below.heap_setCell wr.drew ⟨q, c, none⟩ _ W.heap.size (by show W.heap.size ≠ q; omega))).trans hs1, (World.cell?_of_block (a := ⟨W.heap.size, 2, none⟩) (Below.heap_setCell wr.drew ⟨q, c, none⟩ _ W.heap.size (by show W.heap.size ≠ q; omega))).trans hs2⟩
        clear gcel grow ocel orow oe hb HG HF HB HS HGr hsp hmb hstw hlo hSd hs1 hs2 g2
        go_wp2
        refine wp_region_held_drew (S := S) (by kernel_rfl) hS0 (fun hHeld => ?_)
        simp only [List.size_toArray, List.length_cons, List.length_nil, Nat.reduceAdd]
        refine wpAnyH_take (i := 0) (v := .slice (some ⟨q, 0, none⟩) n cap) rfl (by kernel_rfl) (by kernel_rfl) (by kernel_rfl) (fun _ _ _ h => h) (Or.inl ⟨by rfl, ?y0⟩) (by assumption) ?_
        case y0 => (intro w' hSw; obtain ⟨q1, q2, q3⟩ := HSO.out w' hSw; go_simp)
        try simp only [List.getElem_toArray, List.getElem_cons_zero, Act.put, List.setIfInBounds_toArray, List.set_cons_zero, List.set_cons_succ]
        refine wpAnyH_take (i := 1) (v := .int .i64 (c : Nat)) rfl (by kernel_rfl) (by kernel_rfl) (by kernel_rfl) (fun _ _ _ h => h) (Or.inl ⟨by rfl, ?y1⟩) (by assumption) ?_
        case y1 => (intro w' hSw; obtain ⟨q1, q2, q3⟩ := HSO.out w' hSw; go_simp)
        try simp only [List.getElem_toArray, List.getElem_cons_zero, List.getElem_cons_succ, Act.put, List.setIfInBounds_toArray, List.set_cons_zero, List.set_cons_succ]
        refine wpAnyH_take (i := 2) (v := .bool true) rfl (by kernel_rfl) (by kernel_rfl) (by kernel_rfl) (fun _ _ _ h => h) (Or.inl ⟨by rfl, ?y2⟩) (by assumption) ?_
        case y2 => (intro w' hSw; obtain ⟨q1, q2, q3⟩ := HSO.out w' hSw; go_simp)
        try simp only [List.getElem_toArray, List.getElem_cons_zero, List.getElem_cons_succ, Act.put, List.setIfInBounds_toArray, List.set_cons_zero, List.set_cons_succ]
        refine wpAnyH_take (i := 3) (v := .bool true) rfl (by kernel_rfl) (by kernel_rfl) (by kernel_rfl) (fun _ _ _ h => h) (Or.inl ⟨by rfl, ?y3⟩) (by assumption) ?_
        case y3 => (intro w' hSw; obtain ⟨q1, q2, q3⟩ := HSO.out w' hSw; go_simp)
        try simp only [List.getElem_toArray, List.getElem_cons_zero, List.getElem_cons_succ, Act.put, List.setIfInBounds_toArray, List.set_cons_zero, List.set_cons_succ]
        refine wpAnyH_take (i := 4) (v := .pointer (some ⟨G, 0, none⟩)) rfl (by kernel_rfl) (by kernel_rfl) (by kernel_rfl) (fun _ _ _ h => h) (Or.inl ⟨by rfl, ?y4⟩) (by assumption) ?_
        case y4 => (intro w' hSw; obtain ⟨q1, q2, q3⟩ := HSO.out w' hSw; go_simp)
        try simp only [List.getElem_toArray, List.getElem_cons_zero, List.getElem_cons_succ, Act.put, List.setIfInBounds_toArray, List.set_cons_zero, List.set_cons_succ]
        refine wpAnyH_take (i := 5) (v := .pointer (some ⟨G, 0, none⟩)) rfl (by kernel_rfl) (by kernel_rfl) (by kernel_rfl) (fun _ _ _ h => h) (Or.inl ⟨by rfl, ?y5⟩) (by assumption) ?_
        case y5 => (intro w' hSw; obtain ⟨q1, q2, q3⟩ := HSO.out w' hSw; go_simp)
        try simp only [List.getElem_toArray, List.getElem_cons_zero, List.getElem_cons_succ, Act.put, List.setIfInBounds_toArray, List.set_cons_zero, List.set_cons_succ]
        refine wpAnyH_take (i := 6) (v := .pointer (some ⟨G, 2, none⟩)) rfl (by kernel_rfl) (by kernel_rfl) (by kernel_rfl) (fun _ _ _ h => h) (Or.inl ⟨by rfl, ?y6⟩) (by assumption) ?_
        case y6 => (intro w' hSw; obtain ⟨q1, q2, q3⟩ := HSO.out w' hSw; go_simp)
        try simp only [List.getElem_toArray, List.getElem_cons_zero, List.getElem_cons_succ, Act.put, List.setIfInBounds_toArray, List.set_cons_zero, List.set_cons_succ]
        refine wpAnyH_take (i := 7) (v := .slice (some ⟨gq, 0, none⟩) n gc) rfl (by kernel_rfl) (by kernel_rfl) (by kernel_rfl) (fun _ _ _ h => h) (Or.inl ⟨by rfl, ?y7⟩) (by assumption) ?_
        case y7 => (intro w' hSw; obtain ⟨q1, q2, q3⟩ := HSO.out w' hSw; go_simp)
        try simp only [List.getElem_toArray, List.getElem_cons_zero, List.getElem_cons_succ, Act.put, List.setIfInBounds_toArray, List.set_cons_zero, List.set_cons_succ]
        refine wpAnyH_take (i := 8) (v := .int .i64 (c : Nat)) rfl (by kernel_rfl) (by kernel_rfl) (by kernel_rfl) (fun _ _ _ h => h) (Or.inl ⟨by rfl, ?y8⟩) (by assumption) ?_
        case y8 => (intro w' hSw; obtain ⟨q1, q2, q3⟩ := HSO.out w' hSw; go_simp)
        try simp only [List.getElem_toArray, List.getElem_cons_zero, List.getElem_cons_succ, Act.put, List.setIfInBounds_toArray, List.set_cons_zero, List.set_cons_succ]
        refine wpAnyH_take (i := 9) (v := .pointer (some ⟨gq, c * 7, none⟩)) rfl (by kernel_rfl) (by kernel_rfl) (by kernel_rfl) (fun _ _ _ h => h) (Or.inl ⟨by rfl, ?y9⟩) (by assumption) ?_
        case y9 => (intro w' hSw; obtain ⟨q1, q2, q3⟩ := HSO.out w' hSw; go_simp)
        try simp only [List.getElem_toArray, List.getElem_cons_zero, List.getElem_cons_succ, Act.put, List.setIfInBounds_toArray, List.set_cons_zero, List.set_cons_succ]
        refine wpAnyH_take (i := 10) (v := .pointer (some ⟨W.heap.size, 1, none⟩)) rfl (by kernel_rfl) (by kernel_rfl) (by kernel_rfl) (fun _ _ _ h => h) (Or.inl ⟨by rfl, ?y10⟩) (by assumption) ?_
        case y10 => (intro w' hSw; obtain ⟨q1, q2, q3⟩ := HSO.out w' hSw; go_simp)
        try simp only [List.getElem_toArray, List.getElem_cons_zero, List.getElem_cons_succ, Act.put, List.setIfInBounds_toArray, List.set_cons_zero, List.set_cons_succ]
        refine wpAnyH_take (i := 11) (v := .int .i64 test) rfl (by kernel_rfl) (by kernel_rfl) (by kernel_rfl) (fun _ _ _ h => h) (Or.inl ⟨by rfl, ?y11⟩) (by assumption) ?_
        case y11 => (intro w' hSw; obtain ⟨q1, q2, q3⟩ := HSO.out w' hSw; go_simp)
        try simp only [List.getElem_toArray, List.getElem_cons_zero, List.getElem_cons_succ, Act.put, List.setIfInBounds_toArray, List.set_cons_zero, List.set_cons_succ]
        refine wpAnyH_take (i := 12) (v := .pointer (some ⟨W.heap.size, 2, none⟩)) rfl (by kernel_rfl) (by kernel_rfl) (by kernel_rfl) (fun _ _ _ h => h) (Or.inl ⟨by rfl, ?y12⟩) (by assumption) ?_
        case y12 => (intro w' hSw; obtain ⟨q1, q2, q3⟩ := HSO.out w' hSw; go_simp)
        try simp only [List.getElem_toArray, List.getElem_cons_zero, List.getElem_cons_succ, Act.put, List.setIfInBounds_toArray, List.set_cons_zero, List.set_cons_succ]
        refine wpAnyH_take (i := 13) (v := .string nm) rfl (by kernel_rfl) (by kernel_rfl) (by kernel_rfl) (fun _ _ _ h => h) (Or.inl ⟨by rfl, ?y13⟩) (by assumption) ?_
        case y13 => (intro w' hSw; obtain ⟨q1, q2, q3⟩ := HSO.out w' hSw; go_simp)
        try simp only [List.getElem_toArray, List.getElem_cons_zero, List.getElem_cons_succ, Act.put, List.setIfInBounds_toArray, List.set_cons_zero, List.set_cons_succ]
        refine wpAnyH_ready (rs := [14]) (by kernel_rfl) (by simp) ?_
        refine AllReadyH.cons rfl (fun K hK => ?_) AllReadyH.nil
        try simp only [List.getElem_toArray, List.getElem_cons_zero, List.getElem_cons_succ]
        go_simp
        refine CM.out.mono ?_
        rintro e Wz ⟨rfl, rfl⟩
        refine hK.out _ _ hS0 (fun hHeld9 => ?_)
        clear hK K
        try simp only [List.getElem_toArray, List.getElem_cons_zero, List.getElem_cons_succ, Act.put, List.setIfInBounds_toArray, List.set_cons_zero, List.set_cons_succ]
        refine wpAnyH_take (i := 15) (v := .bool mb) rfl (by kernel_rfl) (by kernel_rfl) (by kernel_rfl) (fun _ _ _ h => h) (Or.inl ⟨by rfl, ?y15⟩) (by assumption) ?_
        case y15 => (intro w' hSw; obtain ⟨q1, q2, q3⟩ := HSO.out w' hSw; go_simp)
        try simp only [List.getElem_toArray, List.getElem_cons_zero, List.getElem_cons_succ, Act.put, List.setIfInBounds_toArray, List.set_cons_zero, List.set_cons_succ]
        refine wpAnyH_take (i := 16) (v := .pointer (some ⟨q, c, none⟩)) rfl (by kernel_rfl) (by kernel_rfl) (by kernel_rfl) (fun _ _ _ h => h) (Or.inl ⟨by rfl, ?y16⟩) (by assumption) ?_
        case y16 => (intro w' hSw; obtain ⟨q1, q2, q3⟩ := HSO.out w' hSw; go_simp)
        try simp only [List.getElem_toArray, List.getElem_cons_zero, List.getElem_cons_succ, Act.put, List.setIfInBounds_toArray, List.set_cons_zero, List.set_cons_succ]
        refine wpAnyH_ready (rs := [17]) (by kernel_rfl) (by simp) ?_
        refine AllReadyH.cons rfl (fun K hK => ?_) AllReadyH.nil
        try simp only [List.getElem_toArray, List.getElem_cons_zero, List.getElem_cons_succ]
        go_simp
        refine hK.out _ _ HS2.out (fun hHeld9 => ?_)
        clear hK K
        try simp only [List.getElem_toArray, List.getElem_cons_zero, List.getElem_cons_succ, Act.put, List.setIfInBounds_toArray, List.set_cons_zero, List.set_cons_succ]
        refine wpAnyH_done (by kernel_rfl) ?_ _
        go_wp2
        exact ⟨⟨c + 1, rfl, by omega, HBUT.out 1 _, HPUT.out 1 _ (by simp)⟩, by simp [RowKit.intOf]; omega⟩
    · have t1 : ¬ (c : Int) < (n : Int) := by omega
      obtain rfl : c = n := by omega
      have w3 : wr.cell? ⟨W.heap.size, 3, none⟩ = some (.slice pw 0 cw) := by rw [Lib.cell_of_heap hstw]; rfl
      have HFIN : Hid (Mn.ButR W (.slice (some ⟨q, 0, none⟩) c cap) wr) := (Mn.ButR.of_below HB1.out).trans HB.out
      clear HG HF HB1 HB HGr hstw HST hlo
      go_wp2
      obtain ⟨wq, rfl⟩ : ∃ wq, wq = wr := ⟨_, rfl⟩
      clear w3
      go_loopw [38] (fun v wr => v = .int .i64 0 ∧ wr = wq) (fun _ _ => 0)
      case atStart => exact ⟨rfl, rfl⟩
      case round =>
        obtain ⟨rfl, rfl⟩ := hrel
        have t9 : ¬ (0 : Int) < 0 := by omega
        go_wp2
        go_end0
        exact ⟨⟨_, rfl⟩, HS.out, HFIN.out⟩
end Go.Proofs.YtfockjlegpbooaaGreatDoor
/-
  THE WALK over (*mean.ground).reached at a path of one step without predicates.
-/
namespace Go.Proofs.YtfockjlegpbooaaGreatDoor
open Go.RowKit Go.Shelf Go.Lib
namespace Mn
def start (n : Nat) : List Bool := (List.replicate n false).set 0 true
theorem start_len (n : Nat) : (start n).length = n := by simp [start]
def reach1 (l : List Sp) (ax test : Int) (nm : ByteArray) : List Bool := keepB l test nm (alongB l ax (start l.length)) l.length
theorem alongB_len (l : List Sp) (a : Int) (fr : List Bool) : (alongB l a fr).length = fr.length := by
  unfold alongB
  split
  · rfl
  · exact alS_len _ _ _ _
theorem reach1_len (l : List Sp) (ax test : Int) (nm : ByteArray) : (reach1 l ax test nm).length = l.length := by
  unfold reach1
  rw [keepB_len, alongB_len, start_len]
/-- a step in memory -/
def StepC (W : World) (b : Nat) (ax test : Int) (nm : ByteArray) (wv : Value) : Prop := ∃ cur, W.heap[b]? = some (.cells cur 64 (0, 0)) ∧ cur = #[.int .i64 ax, .int .i64 test, .string nm, wv]
/-- between two rounds of reached -/
structure RI (W : World) (l : List Sp) (ax test : Int) (nm : ByteArray) (i : Nat) (u : Value) (wr : World) : Prop where
  bel : Below W.heap.size W wr
  set : SetR wr W.heap.size u (if i = 0 then start l.length else reach1 l ax test nm)
theorem ButR.below {W W' : World} {v : Value} {B : Nat} (h : ButR W v W') (hv : ∀ j, v.ownBlock = some j → B ≤ j) (hB : B ≤ W.heap.size) : Below B W W' :=
  ⟨h.os, h.tape, h.output, h.size, fun j hj => h.same j (by omega) (fun e => by have := hv j e; omega)⟩
end Mn
set_option maxRecDepth 100000 in
set_option maxHeartbeats 4000000 in
theorem mnReach1 (W : World) (M G : Nat) (k : Int) (tx : ByteArray) (gv : Value) (l : List Mn.Sp) (hg : Mn.GR W M G k tx gv l) (hp : ∀ i, 0 < i → i < l.length → 0 ≤ (Mn.nth l i).par ∧ (Mn.nth l i).par < l.length) (ax test : Int) (nm : ByteArray) (pw : Option Addr) (cw b : Nat) (hst : W.heap[b]? = some (.cells #[.int .i64 ax, .int .i64 test, .string nm, .slice pw 0 cw] 64 (0, 0))) (h0 : 0 < l.length) (hn : l.length ≤ 1048578) :
    Calls Tryz.prog 35 #[.pointer (some ⟨G, 0, none⟩), .agg #[.slice (some ⟨b, 0, none⟩) 1 1]] W fun r w' => (∃ u, r = .returned u ∧ Mn.SetR w' W.heap.size u (Mn.reach1 l ax test nm)) ∧ Below W.heap.size W w' := by
  obtain ⟨i0, hi0, hz0, hz1, hz2⟩ := info_parts Mn.boInfo
  obtain ⟨-, -, g2, gp, gc, rfl, -, -, -⟩ := hg.cells
  obtain ⟨n, hnn⟩ : ∃ n, l.length = n := ⟨_, rfl⟩
  have HG := hide' hg
  have HP := hide' hp
  have HST := hide' hst
  rw [hnn] at g2 h0 hn
  have HN := hide' hnn
  clear hg hp hst hnn
  obtain ⟨W1, hW1⟩ : ∃ W1, W.alloc (.cells #[.slice (some ⟨b, 0, none⟩) 1 1] 25) = W1 := ⟨_, rfl⟩
  have hb1 : Below W.heap.size W W1 := by rw [← hW1]; exact (Below.refl _ _).alloc (Nat.le_refl _) _
  have hpa : W1.heap[W.heap.size]? = some (.cells #[.slice (some ⟨b, 0, none⟩) 1 1] 25 (0, 0)) := by rw [← hW1]; exact heap_alloc_new W _
  have g2 := (hb1.cell (p := ⟨G, 2, none⟩) (block_lt_of_cell g2)).trans g2
  have hz1' : W1.heap.size = W.heap.size + 1 := by rw [← hW1]; simp
  have HB1 := hide' hb1
  have HPA := hide' hpa
  have HZ1 := hide' hz1'
  have HW1 := hide' hW1
  rw [← hW1] at g2
  clear hb1 hpa hz1' hW1
  go_enter Tryz.func35, Tryz.ntmps35
  go_wp2_with (at_make; refine wpList_make_full _ rfl _ _ 90 rfl W.heap.size 4 i0 (.bool false) 1 Tryz.underlying90 hi0 hz0 hz1 .i64 .i64 n n n rfl rfl rfl rfl ?m1 ?m2 ?m3 ?_)
  case m1 => rw [hz2]; omega
  case m2 => unfold maxLen; omega
  case m3 => simp
  intro w1 hown1 hg1
  rw [show (W.alloc (.cells #[.slice (some ⟨b, 0, none⟩) 1 1] 25)) = W1 from HW1.out] at hg1 g2
  rw [Mn.made_false] at hown1
  have hb2 : Below W1.heap.size W1 w1 := (Below.refl _ _).grown hg1 (Nat.le_refl _) (fun g e => by cases e)
  have hS1 : Mn.SetR w1 W.heap.size (.slice (some ⟨W.heap.size + 1, 0, none⟩) n n) (List.replicate n false) := by
    show w1.ownsRow _ _ _ _ _ _
    rw [List.length_replicate]
    simpa using hown1
  obtain ⟨op, oc, oe, -, -, orow⟩ := hS1.cells
  obtain ⟨oq, rfl, -, -, ocel⟩ := orow (by simpa using h0)
  obtain rfl : W.heap.size + 1 = oq := by injection oe with e1 _ _; injection e1 with e1; injection e1
  have o1 := (ocel 0 (by simpa using h0)).1
  have o2 := (ocel 0 (by simpa using h0)).2
  have hS2 : Mn.SetR (w1.setCell ⟨W.heap.size + 1, 0, none⟩ (.bool true)) W.heap.size (.slice (some ⟨W.heap.size + 1, 0, none⟩) n n) (Mn.start n) := hS1.put (by simp) true
  have HS2 := hide' hS2
  have HB2 := hide' hb2
  have t1 : (0 : Int) < (n : Int) := by omega
  obtain ⟨Wz, hWz⟩ : ∃ Wz, w1.setCell ⟨W.heap.size + 1, 0, none⟩ (.bool true) = Wz := ⟨_, rfl⟩
  have hz1 := HZ1.out
  have hbz : Below W1.heap.size W1 Wz := by rw [← hWz]; exact hb2.setCell (p := ⟨W.heap.size + 1, 0, none⟩) (by show W1.heap.size ≤ W.heap.size + 1; omega) _
  have hpz : Wz.cell? ⟨W.heap.size, 0, none⟩ = some (.slice (some ⟨b, 0, none⟩) 1 1) := by rw [Lib.cell_of_heap ((hbz.block _ (by omega)).trans HPA.out)]; rfl
  have HRI : Hid (Mn.RI W l ax test nm 0 (.slice (some ⟨W.heap.size + 1, 0, none⟩) n n) Wz) := ⟨HB1.out.trans (hbz.mono HB1.out.size), by rw [if_pos rfl, HN.out, ← hWz]; exact hS2⟩
  have HWZ := hide' hWz
  rw [← hWz] at hpz
  clear hown1 hg1 hb2 hS1 hS2 ocel orow oe hWz hbz HS2 HB2 hz1
  go_wp2_with fail
  rw [HWZ.out]
  clear hpz o1 o2 g2 HWZ HPA HW1 HB1 HZ1
  go_loopw [5, 7, 19] (fun u _ v wr => ∃ i : Nat, v = .int .i64 i ∧ i ≤ 1 ∧ Hid (Mn.RI W l ax test nm i u wr)) (fun _ _ v _ => 1 - (RowKit.intOf v).toNat)
  case atStart => exact ⟨0, rfl, by omega, HRI⟩
  case round =>
    clear HRI
    obtain ⟨i, rfl, hi, HR⟩ := hrel
    by_cases hi0 : i = 0
    · subst hi0
      have hs := (HR.out.bel.block _ (Array.getElem?_eq_some_iff.1 HST.out).1).trans HST.out
      have s0 : wr.cell? ⟨b, 0, none⟩ = some (.int .i64 ax) := by rw [Lib.cell_of_heap hs]; rfl
      have s1 : wr.cell? ⟨b, 1, none⟩ = some (.int .i64 test) := by rw [Lib.cell_of_heap hs]; rfl
      have s2 : wr.cell? ⟨b, 2, none⟩ = some (.string nm) := by rw [Lib.cell_of_heap hs]; rfl
      have s3 : wr.cell? ⟨b, 3, none⟩ = some (.slice pw 0 cw) := by rw [Lib.cell_of_heap hs]; rfl
      obtain ⟨W2, hW2⟩ : ∃ W2, wr.alloc (.cells #[.int .i64 ax, .int .i64 test, .string nm, .slice pw 0 cw] 64) = W2 := ⟨_, rfl⟩
      have hb2 : Below wr.heap.size wr W2 := by rw [← hW2]; exact (Below.refl _ _).alloc (Nat.le_refl _) _
      have hz2' : W2.heap.size = wr.heap.size + 1 := by rw [← hW2]; simp
      have hst2 : W2.heap[wr.heap.size]? = some (.cells #[.int .i64 ax, .int .i64 test, .string nm, .slice pw 0 cw] 64 (0, 0)) := by rw [← hW2]; exact heap_alloc_new wr _
      have hset := HR.out.set
      rw [if_pos rfl] at hset
      have hgr2 := (HG.out.below HR.out.bel).below hb2
      have hWr : W.heap.size ≤ wr.heap.size := HR.out.bel.size
      have CA := hide' (mnAlong W2 M G k tx _ l hgr2 HP.out ax W.heap.size u5 (Mn.start l.length) (hset.below hb2) (Mn.start_len _) (by have := HN.out; omega) (by have := HN.out; omega))
      have HB2 := hide' (HR.out.bel.trans (hb2.mono HR.out.bel.size))
      have HW2 := hide' hW2
      have HZ2 := hide' hz2'
      have HST2 := hide' hst2
      have HGR2 := hide' hgr2
      clear hb2 hz2' hst2 hset hgr2 hW2 hs HR
      go_wp2_with fail
      rw [HW2.out]
      refine CA.out.mono ?_
      rintro e w3 ⟨⟨u2, rfl, hset3⟩, hb3⟩
      have hz2 := HZ2.out
      have hst3 : w3.heap[wr.heap.size]? = some (.cells #[.int .i64 ax, .int .i64 test, .string nm, .slice pw 0 cw] 64 (0, 0)) := (hb3.block _ (by omega)).trans HST2.out
      have c0 : w3.cell? ⟨wr.heap.size, 0, none⟩ = some (.int .i64 ax) := by rw [Lib.cell_of_heap hst3]; rfl
      have c1 : w3.cell? ⟨wr.heap.size, 1, none⟩ = some (.int .i64 test) := by rw [Lib.cell_of_heap hst3]; rfl
      have c2 : w3.cell? ⟨wr.heap.size, 2, none⟩ = some (.string nm) := by rw [Lib.cell_of_heap hst3]; rfl
      have c3 : w3.cell? ⟨wr.heap.size, 3, none⟩ = some (.slice pw 0 cw) := by rw [Lib.cell_of_heap hst3]; rfl
      have hal : (Mn.alongB l ax (Mn.start l.length)).length = l.length := by rw [Mn.alongB_len, Mn.start_len]
      have CK := hide' (mnKeep w3 M G k tx _ l (HGR2.out.below hb3) ax test nm pw cw W2.heap.size u2 _ hset3 hal (by have := HN.out; omega) (by have := HN.out; omega))
      have hvr : ∀ j, u2.ownBlock = some j → W2.heap.size ≤ j := fun j e => (World.ownsRow.lt (show w3.ownsRow _ _ _ _ _ _ from hset3) j e).1
      have HVR := hide' hvr
      have HB3 := hide' (HB2.out.trans (hb3.mono HB2.out.size))
      have HS3 : Hid (W2.heap.size ≤ w3.heap.size) := hb3.size
      clear hst3 hset3 hb3 CA HST2 HGR2 hvr hz2 s0 s1 s2 s3 HB2
      go_wp2_with fail
      refine CK.out.mono ?_
      rintro e w4 ⟨⟨uu, rfl⟩, hset4, hbut⟩
      rw [hal] at hset4
      have hset4 : Mn.SetR w4 W2.heap.size u2 (Mn.reach1 l ax test nm) := hset4
      have CE := hide' (mnIsEmpty w4 W2.heap.size u2 _ hset4 (by rw [Mn.reach1_len]; have := HN.out; omega))
      have HRF : Hid (Mn.RI W l ax test nm 1 u2 w4) := ⟨HB3.out.trans ((hbut.below HVR.out HS3.out).mono (by have := HZ2.out; omega)), by rw [if_neg (by decide)]; exact Tr.owns_base hset4 (by have := HZ2.out; omega)⟩
      clear hset4 hbut CK HB3 HS3 HVR c0 c1 c2 c3
      go_wp2_with fail
      refine CE.out.mono ?_
      rintro e w5 ⟨rfl, rfl⟩
      clear CE
      cases hem : decide (true ∈ Mn.reach1 l ax test nm)
      · clear hem
        go_wp2
        go_ret
        refine ⟨⟨_, rfl, ?_⟩, HRF.out.bel⟩
        have := HRF.out.set
        rwa [if_neg (by decide)] at this
      · clear hem
        go_wp2
        exact ⟨⟨1, rfl, by omega, HRF⟩, by simp [RowKit.intOf]⟩
    · obtain rfl : i = 1 := by omega
      have t9 : ¬ (1 : Int) < 1 := by omega
      go_wp2
      go_ret
      refine ⟨⟨_, rfl, ?_⟩, HR.out.bel⟩
      have := HR.out.set
      rwa [if_neg (by decide)] at this
end Go.Proofs.YtfockjlegpbooaaGreatDoor
