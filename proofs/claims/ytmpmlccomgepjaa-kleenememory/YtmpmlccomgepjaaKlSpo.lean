/-
  THE WALK over gimletlaw14.spoil.
-/
import Derived.Test.YtmpmlccomgepjaaKlSpoM
namespace Go.Proofs.Ytmpmlccomgepjaa
open Go.RowKit Go.Lib Go.Sort
set_option maxRecDepth 100000 in
set_option maxHeartbeats 40000000 in
theorem klSpoil1 (o v m mark : Int) (p : Option Addr) (c : Nat) (l : List Kl.Fv) (w : World) (B O : Nat) (hb : ∃ cur t, w.heap[B]? = some (.cells cur t (0, 0)) ∧ O + 4 ≤ cur.size) (hr : w.rangeAt B O (Kl.Fv.mk o v m p c l).enc)
    (hd : Kl.Dp w (.mk o v m p c l)) (hB : B ∉ Kl.fp (.mk o v m p c l)) (h0 : 0 ≤ mark) (h1 : mark + l.length ≤ 2000000)
    (ih : ∀ y ∈ l, ∀ (w : World) (B O : Nat), (∃ cur t, w.heap[B]? = some (.cells cur t (0, 0)) ∧ O + 4 ≤ cur.size) → w.rangeAt B O y.enc → Kl.Dp w y → B ∉ Kl.fp y → Calls Try.prog 10 #[.pointer (some ⟨B, O, none⟩), .int .i64 (mark + 1)] w fun r w' => (∃ u, r = .returned u) ∧ Kl.SpE w B O (Kl.fp y) w') :
    Calls Try.prog 10 #[.pointer (some ⟨B, O, none⟩), .int .i64 mark] w fun r w' => (∃ u, r = .returned u) ∧ Kl.SpE w B O (Kl.fp (.mk o v m p c l)) w' := by
  obtain ⟨q0, q1, q2, q3⟩ := Kl.cells4 hr
  have fz : ∀ o, w.frozen? ⟨B, o, none⟩ = false := fun o => by
    obtain ⟨cur, t, h1, _⟩ := hb
    exact Lib.frozen_of_heap h1 o
  obtain ⟨n, hn⟩ : ∃ n, l.length = n := ⟨_, rfl⟩
  rw [hn] at q3 h1
  have w1e : wrap64 (mark + 1) = mark + 1 := by unfold wrap64; omega
  have HN := hide' hn
  have HD := hide' hd
  have HB := hide' hB
  have HBL := hide' hb
  have IH := hide' ih
  have HTW0 := hide' (fun q W => Kl.two (W := W) hr q)
  have I1 := hide' (show (Try.prog.info? 26).map (·.size) = some 4 by kernel_rfl)
  clear hd hB hb ih hr
  simp only [hn] at HTW0
  clear hn
  go_enter Try.func10, Try.ntmps10
  go_wp2_with fail
  obtain ⟨q, hq⟩ : ∃ q, wrap64 (m + mark) = q := ⟨_, rfl⟩
  rw [hq]
  clear hq
  have HTW := hide' (HTW0.out q)
  clear HTW0
  obtain ⟨W, hW⟩ : ∃ W, (w.setCell ⟨B, O + 2, none⟩ (.int .i64 q)).setCell ⟨B, O + 1, none⟩ (.int .i64 9) = W := ⟨_, rfl⟩
  obtain ⟨k1, k2, k3, k4⟩ := HTW.out W hW
  have HCW := hide' k1
  have HBW := hide' k2
  have HQ := hide' k3
  have HFW := hide' k4
  clear k1 k2 k3 k4
  rw [hW]
  have HDW : Hid (Kl.Dp W (.mk o v m p c l)) := HCW.out.dp HD.out fun b hb hc => by simp at hc; exact HB.out (hc ▸ hb)
  have HLW : Hid (B < W.heap.size) := by
    obtain ⟨cur, t, h, _⟩ := HBL.out
    have := (Array.getElem?_eq_some_iff.1 h).1
    have := HCW.out.size
    show B < _
    omega
  clear hW q0 q1 q2 q3 fz HD HTW
  go_loopw [21] (fun z wr => ∃ i : Nat, z = .int .i64 i ∧ i ≤ n ∧ Hid (Kl.SpL W (.mk o v m p c l) p n c i l wr)) (fun z _ => n - (RowKit.intOf z).toNat)
  case atStart => exact ⟨0, rfl, Nat.zero_le _, by have := Kl.SpL.start HDW.out; rw [HN.out] at this; exact this⟩
  case round =>
    obtain ⟨i, rfl, hi, HR⟩ := hrel
    have hcB := HR.out.ch.block B HLW.out HB.out
    have q3 := (World.cell?_of_block (a := ⟨B, O + 3, none⟩) hcB).trans HQ.out.2.2.2
    have HCB := hide' hcB
    clear hcB
    by_cases hlt : i < n
    · have t1 : (i : Int) < (n : Int) := by omega
      have t0 : (0 : Int) ≤ (i : Int) := by omega
      obtain ⟨y, hy⟩ := Kl.some_of (l := l) (i := i) (by rw [HN.out]; exact hlt)
      have HY := hide' hy
      obtain ⟨g, rfl, b1, b2, b3, b4, b5, b6⟩ := Kl.SpL.at (by rw [HN.out]; exact HR.out) HDW.out hy
      have ci := IH.out y (List.mem_of_getElem? hy) wr g (i * 4) b1 b2 b3 b4
      have CI := hide' ci
      clear hy b1 b2 b3 b4 IH ci
      go_wp2_with (go_at_call 10; refine CI.out.mono ?_; rintro r w2 ⟨⟨u, rfl⟩, hs⟩; have HS := hide' hs; clear hs)
      refine ⟨⟨i + 1, rfl, by omega, ?_⟩, by simp [RowKit.intOf]; omega⟩
      have := Kl.SpL.step (by rw [HN.out]; exact HR.out) HDW.out HY.out HS.out
      rw [HN.out] at this
      exact this
    · have t1 : ¬ (i : Int) < (n : Int) := by omega
      obtain rfl : i = n := by omega
      clear IH HCB w1e
      obtain ⟨zs, hz, ho, hr9⟩ := HR.out.row
      have HO := hide' ho
      have HZ := hide' hz
      have HCR := hide' HR.out.ch
      clear hz ho hr9 HR
      have hiN : i ≤ 2000000 := by omega
      have hiB := hide' hiN
      have u0 : (0 : Int) ≤ (i : Int) := by omega
      have u1 : (i : Int) < ((i + 3 : Nat) : Int) := by omega
      have u2 : ((i + 1 : Nat) : Int) < ((i + 3 : Nat) : Int) := by omega
      have u3 : ((i + 2 : Nat) : Int) < ((i + 3 : Nat) : Int) := by omega
      have u6 : (0 : Int) ≤ (i : Int) + 2 := by omega
      have u7 : ((i : Int) + 2).toNat = i + 2 := by omega
      have u4 : wrap64 ((i : Int) + 1) = ((i + 1 : Nat) : Int) := by unfold wrap64; omega
      have u5 : wrap64 ((i : Int) + 2) = ((i + 2 : Nat) : Int) := by unfold wrap64; omega
      clear h1 hi hlt
      go_wp2_with fail
      rename_i aK
      clear aK
      have hl1 : B < wr.heap.size := block_lt_of_cell q3
      have hl2 : ¬ wr.heap.size = B := by omega
      have hl3 : ¬ B = wr.heap.size := by omega
      have q4 : ∀ ob, (wr.drew.alloc ob).cell? ⟨B, O + 3, none⟩ = some (.slice p i c) := fun ob => (World.cell?_alloc_some wr.drew ⟨B, O + 3, none⟩ ob (by show (wr.cell? _).isSome = true; rw [q3]; rfl)).trans q3
      refine wp_region_held_drew (S := fun _ => True) (by kernel_rfl) trivial (fun _ => ?_)
      simp only [List.size_toArray, List.length_cons, List.length_nil, Nat.reduceAdd]
      refine wpAnyH_take (i := 0) (v := .pointer (some ⟨B, O, none⟩)) rfl (by kernel_rfl) (by kernel_rfl) (by kernel_rfl) (fun _ _ _ h => h) (Or.inl ⟨by rfl, ?y0⟩) trivial ?_
      case y0 => (intro w' _; go_simp)
      try simp only [Kl.pts1]
      refine wpAnyH_take (i := 1) (v := .pointer (some ⟨B, O, none⟩)) rfl (by kernel_rfl) (by kernel_rfl) (by kernel_rfl) (fun _ _ _ h => h) (Or.inl ⟨by rfl, ?y1⟩) trivial ?_
      case y1 => (intro w' _; go_simp)
      try simp only [Kl.pts1]
      refine wpAnyH_take (i := 2) (v := .pointer (some ⟨B, O + 3, none⟩)) rfl (by kernel_rfl) (by kernel_rfl) (by kernel_rfl) (fun _ _ _ h => h) (Or.inl ⟨by rfl, ?y2⟩) trivial ?_
      case y2 => (intro w' _; go_simp)
      try simp only [Kl.pts1]
      refine wpAnyH_take (i := 4) (v := .agg #[.int .i64 9, .int .i64 0, .int .i64 0, .slice none 0 0]) rfl (by kernel_rfl) (by kernel_rfl) (by kernel_rfl) (fun _ _ _ h => h) (Or.inl ⟨by rfl, ?y4⟩) trivial ?_
      case y4 => (intro w' _; go_simp)
      try simp only [Kl.pts1]
      refine wpAnyH_take (i := 5) (v := .agg #[.int .i64 9, .int .i64 0, .int .i64 0, .slice none 0 0]) rfl (by kernel_rfl) (by kernel_rfl) (by kernel_rfl) (fun _ _ _ h => h) (Or.inl ⟨by rfl, ?y5⟩) trivial ?_
      case y5 => (intro w' _; go_simp)
      try simp only [Kl.pts1]
      refine wpAnyH_take (i := 6) (v := .agg #[.int .i64 9, .int .i64 0, .int .i64 0, .slice none 0 0]) rfl (by kernel_rfl) (by kernel_rfl) (by kernel_rfl) (fun _ _ _ h => h) (Or.inl ⟨by rfl, ?y6⟩) trivial ?_
      case y6 => (intro w' _; go_simp)
      try simp only [Kl.pts1]
      refine wpAnyH_ready (rs := [3, 8]) (by kernel_rfl) (by simp) ?_
      refine AllReadyH.cons rfl (fun K hK => ?_) (AllReadyH.cons rfl (fun K hK => ?_) AllReadyH.nil)
      · skip
        try simp only [Kl.pts1]
        go_simp
        refine hK.out _ _ trivial (fun _ => ?_)
        clear hK K
        try simp only [Kl.pts1]
        refine wpAnyH_take (i := 7) (v := .int .i64 (i : Nat)) rfl (by kernel_rfl) (by kernel_rfl) (by kernel_rfl) (fun _ _ _ h => h) (Or.inl ⟨by rfl, ?y7⟩) trivial ?_
        case y7 => (intro w' _; go_simp)
        try simp only [Kl.pts1]
        refine wpAnyH_take (i := 12) (v := .int .i64 ((i + 1 : Nat) : Int)) rfl (by kernel_rfl) (by kernel_rfl) (by kernel_rfl) (fun _ _ _ h => h) (Or.inl ⟨by rfl, ?y12⟩) trivial ?_
        case y12 => (intro w' _; go_simp; first | exact wrap_small _ (by omega) (by omega) | (rw [IntKind.wrap_i64]; omega) | (unfold IntKind.wrap; simp [IntKind.bits, IntKind.signed]; omega))
        try simp only [Kl.pts1]
        refine wpAnyH_take (i := 15) (v := .int .i64 ((i + 2 : Nat) : Int)) rfl (by kernel_rfl) (by kernel_rfl) (by kernel_rfl) (fun _ _ _ h => h) (Or.inl ⟨by rfl, ?y15⟩) trivial ?_
        case y15 => (intro w' _; go_simp; first | exact wrap_small _ (by omega) (by omega) | (rw [IntKind.wrap_i64]; omega) | (unfold IntKind.wrap; simp [IntKind.bits, IntKind.signed]; omega))
        try simp only [Kl.pts1]
        refine wpAnyH_ready (rs := [8]) (by kernel_rfl) (by simp) ?_
        refine AllReadyH.cons rfl (fun K hK => ?_) AllReadyH.nil
        try simp only [Kl.pts1]
        go_simp
        refine hK.out _ _ trivial (fun _ => ?_)
        clear hK K
        try simp only [Kl.pts1]
        refine wpAnyH_ready (rs := [9]) (by kernel_rfl) (by simp) ?_
        refine AllReadyH.cons rfl (fun K hK => ?_) AllReadyH.nil
        rw [if_pos]
        rotate_left
        exact rfl
        refine Kl.wp_app (.tmp 37) (.tmp 42) rfl (.slice p i c) (.slice (some ⟨wr.heap.size, 0, none⟩) 3 3) zs [Kl.z0, Kl.z0, Kl.z0] rfl rfl ?a1 ?a2 ?a3 ?_
        case a1 => exact HO.out.keep fun b _ hb => ((Below.refl wr.heap.size wr).drew.alloc (Nat.le_refl _) _).block b hb
        case a2 => exact Kl.src3 (t := 26) (heap_alloc_new wr.drew _)
        case a3 => rw [HZ.out]; simp; have := hiB.out; omega
        intro v' w2 ap gb hat
        obtain ⟨L, hL⟩ : ∃ L, zs ++ [Kl.z0, Kl.z0, Kl.z0] = L := ⟨_, rfl⟩
        have HLN : Hid (L.length = i + 3) := by show L.length = _; rw [← hL, List.length_append, HZ.out]; rfl
        rw [hL] at ap
        obtain ⟨g', c', rfl, hrw⟩ : ∃ g' c', v' = .slice (some ⟨g', 0, none⟩) (i + 3) c' ∧ Kl.Rw w2 g' c' (i + 3) (Kl.nth L) := by
          rcases ap with ⟨_, e⟩ | ⟨g', c', e, h⟩
          · have := HLN.out; rw [e] at this; simp at this
          · rw [HLN.out] at e h; exact ⟨g', c', e, h⟩
        have HM := hide' (Kl.spoMid (g' := g') (Kl.own_fp HDW.out (n := i)) HB.out HLW.out HCR.out ((Below.refl wr.heap.size wr).drew.alloc (Nat.le_refl _) _) gb (by simpa [Value.ownBlock] using hat))
        have T := hide' (Kl.Tl.start (O := O) (.slice (some ⟨g', 0, none⟩) (i + 3) c') hrw HM.out.1 HM.out.2.1)
        have HBL2 : Hid (∃ cur t, w2.heap[B]? = some (.cells cur t (0, 0)) ∧ O + 4 ≤ cur.size) := by
          obtain ⟨cur, t, h, h2⟩ := HBL.out
          obtain ⟨cur', h3, h4⟩ := HBW.out cur t h
          exact ⟨cur', t, HM.out.2.2.1.trans h3, by omega⟩
        clear ap gb hat hrw hL
        refine hK.out _ _ trivial (fun _ => ?_)
        clear hK K
        try simp only [Kl.pts1]
        refine wpAnyH_take (i := 10) (v := .pointer (some ⟨g', i * 4, none⟩)) rfl (by kernel_rfl) (by kernel_rfl) (by kernel_rfl) (fun _ _ _ h => h) (Or.inl ⟨by rfl, ?y10⟩) trivial ?_
        case y10 => (intro w' _; go_simp; try (intro hh; exfalso; omega))
        try simp only [Kl.pts1]
        refine wpAnyH_take (i := 18) (v := .pointer (some ⟨B, O, none⟩)) rfl (by kernel_rfl) (by kernel_rfl) (by kernel_rfl) (fun _ _ _ h => h) (Or.inl ⟨by rfl, ?y18⟩) trivial ?_
        case y18 => (intro w' _; go_simp)
        try simp only [Kl.pts1]
        refine wpAnyH_take (i := 19) (v := .pointer (some ⟨B, O + 3, none⟩)) rfl (by kernel_rfl) (by kernel_rfl) (by kernel_rfl) (fun _ _ _ h => h) (Or.inl ⟨by rfl, ?y19⟩) trivial ?_
        case y19 => (intro w' _; go_simp)
        try simp only [Kl.pts1]
        refine wpAnyH_ready (rs := [11, 20]) (by kernel_rfl) (by simp) ?_
        refine AllReadyH.cons rfl (fun K hK => ?_) (AllReadyH.cons rfl (fun K hK => ?_) AllReadyH.nil)
        · skip
          rw [if_pos]
          rotate_left
          exact rfl
          refine wp_store_mid 26 (.tmp 44) (.tmp 38) rfl g' (i * 4) #[.int .i64 9, .int .i64 0, .int .i64 0, .slice none 0 0] rfl rfl (T.out.there (by omega)) I1.out (by simp [Value.oneCell']) ?_
          have T : Hid (Kl.Tl w2 B O g' c' (i + 3) (.slice (some ⟨g', 0, none⟩) (i + 3) c') false (w2.setCells g' (i * 4) #[.int .i64 9, .int .i64 0, .int .i64 0, .slice none 0 0].toList)) := T.out.elem (j := i) (by omega) Kl.z9
          generalize w2.setCells g' (i * 4) #[.int .i64 9, .int .i64 0, .int .i64 0, .slice none 0 0].toList = x3 at T ⊢
          refine hK.out _ _ trivial (fun _ => ?_)
          clear hK K
          try simp only [Kl.pts1]
          refine wpAnyH_take (i := 13) (v := .pointer (some ⟨g', (i + 1) * 4, none⟩)) rfl (by kernel_rfl) (by kernel_rfl) (by kernel_rfl) (fun _ _ _ h => h) (Or.inl ⟨by rfl, ?y13⟩) trivial ?_
          case y13 => (intro w' _; go_simp; try (intro hh; exfalso; omega))
          try simp only [Kl.pts1]
          refine wpAnyH_ready (rs := [14, 20]) (by kernel_rfl) (by simp) ?_
          refine AllReadyH.cons rfl (fun K hK => ?_) (AllReadyH.cons rfl (fun K hK => ?_) AllReadyH.nil)
          · skip
            rw [if_pos]
            rotate_left
            exact rfl
            refine wp_store_mid 26 (.tmp 46) (.tmp 39) rfl g' ((i + 1) * 4) #[.int .i64 9, .int .i64 0, .int .i64 0, .slice none 0 0] rfl rfl (T.out.there (by omega)) I1.out (by simp [Value.oneCell']) ?_
            have T : Hid (Kl.Tl w2 B O g' c' (i + 3) (.slice (some ⟨g', 0, none⟩) (i + 3) c') false (x3.setCells g' ((i + 1) * 4) #[.int .i64 9, .int .i64 0, .int .i64 0, .slice none 0 0].toList)) := T.out.elem (j := (i + 1)) (by omega) Kl.z9
            generalize x3.setCells g' ((i + 1) * 4) #[.int .i64 9, .int .i64 0, .int .i64 0, .slice none 0 0].toList = x4 at T ⊢
            refine hK.out _ _ trivial (fun _ => ?_)
            clear hK K
            try simp only [Kl.pts1]
            refine wpAnyH_take (i := 16) (v := .pointer (some ⟨g', (i + 2) * 4, none⟩)) rfl (by kernel_rfl) (by kernel_rfl) (by kernel_rfl) (fun _ _ _ h => h) (Or.inl ⟨by rfl, ?y16⟩) trivial ?_
            case y16 => (intro w' _; go_simp; try (intro hh; exfalso; omega))
            try simp only [Kl.pts1]
            refine wpAnyH_ready (rs := [17, 20]) (by kernel_rfl) (by simp) ?_
            refine AllReadyH.cons rfl (fun K hK => ?_) (AllReadyH.cons rfl (fun K hK => ?_) AllReadyH.nil)
            · skip
              rw [if_pos]
              rotate_left
              exact rfl
              refine wp_store_mid 26 (.tmp 48) (.tmp 40) rfl g' ((i + 2) * 4) #[.int .i64 9, .int .i64 0, .int .i64 0, .slice none 0 0] rfl rfl (T.out.there (by omega)) I1.out (by simp [Value.oneCell']) ?_
              have T : Hid (Kl.Tl w2 B O g' c' (i + 3) (.slice (some ⟨g', 0, none⟩) (i + 3) c') false (x4.setCells g' ((i + 2) * 4) #[.int .i64 9, .int .i64 0, .int .i64 0, .slice none 0 0].toList)) := T.out.elem (j := (i + 2)) (by omega) Kl.z9
              generalize x4.setCells g' ((i + 2) * 4) #[.int .i64 9, .int .i64 0, .int .i64 0, .slice none 0 0].toList = x5 at T ⊢
              refine hK.out _ _ trivial (fun _ => ?_)
              clear hK K
              try simp only [Kl.pts1]
              refine wpAnyH_ready (rs := [20]) (by kernel_rfl) (by simp) ?_
              refine AllReadyH.cons rfl (fun K hK => ?_) AllReadyH.nil
              obtain ⟨hs, hf⟩ := T.out.cell HBL2.out
              obtain ⟨u, hu⟩ := Option.isSome_iff_exists.1 hs
              have T := hide' (T.out.field hs)
              clear hs
              try simp only [Kl.pts1]
              go_simp
              clear hu hf
              generalize x5.setCell ⟨B, O + 3, none⟩ (.slice (some ⟨g', 0, none⟩) (i + 3) c') = x6 at T ⊢
              refine hK.out _ _ trivial (fun _ => ?_)
              clear hK K
              try simp only [Kl.pts1]
              refine wpAnyH_done (by kernel_rfl) ?_ _
              go_wp2_with fail
              go_end0
              exact ⟨⟨_, rfl⟩, Kl.spoDone HCW.out HBW.out HQ.out HFW.out HM.out (by rw [HLN.out]) (by rw [HLN.out]; exact T.out)⟩
            · skip
              obtain ⟨hs, hf⟩ := T.out.cell HBL2.out
              obtain ⟨u, hu⟩ := Option.isSome_iff_exists.1 hs
              have T := hide' (T.out.field hs)
              clear hs
              try simp only [Kl.pts1]
              go_simp
              clear hu hf
              generalize x4.setCell ⟨B, O + 3, none⟩ (.slice (some ⟨g', 0, none⟩) (i + 3) c') = x7 at T ⊢
              refine hK.out _ _ trivial (fun _ => ?_)
              clear hK K
              try simp only [Kl.pts1]
              refine wpAnyH_ready (rs := [17]) (by kernel_rfl) (by simp) ?_
              refine AllReadyH.cons rfl (fun K hK => ?_) AllReadyH.nil
              rw [if_pos]
              rotate_left
              exact rfl
              refine wp_store_mid 26 (.tmp 48) (.tmp 40) rfl g' ((i + 2) * 4) #[.int .i64 9, .int .i64 0, .int .i64 0, .slice none 0 0] rfl rfl (T.out.there (by omega)) I1.out (by simp [Value.oneCell']) ?_
              have T : Hid (Kl.Tl w2 B O g' c' (i + 3) (.slice (some ⟨g', 0, none⟩) (i + 3) c') true (x7.setCells g' ((i + 2) * 4) #[.int .i64 9, .int .i64 0, .int .i64 0, .slice none 0 0].toList)) := T.out.elem (j := (i + 2)) (by omega) Kl.z9
              generalize x7.setCells g' ((i + 2) * 4) #[.int .i64 9, .int .i64 0, .int .i64 0, .slice none 0 0].toList = x8 at T ⊢
              refine hK.out _ _ trivial (fun _ => ?_)
              clear hK K
              try simp only [Kl.pts1]
              refine wpAnyH_done (by kernel_rfl) ?_ _
              go_wp2_with fail
              go_end0
              exact ⟨⟨_, rfl⟩, Kl.spoDone HCW.out HBW.out HQ.out HFW.out HM.out (by rw [HLN.out]) (by rw [HLN.out]; exact T.out)⟩
          · skip
            obtain ⟨hs, hf⟩ := T.out.cell HBL2.out
            obtain ⟨u, hu⟩ := Option.isSome_iff_exists.1 hs
            have T := hide' (T.out.field hs)
            clear hs
            try simp only [Kl.pts1]
            go_simp
            clear hu hf
            generalize x3.setCell ⟨B, O + 3, none⟩ (.slice (some ⟨g', 0, none⟩) (i + 3) c') = x9 at T ⊢
            refine hK.out _ _ trivial (fun _ => ?_)
            clear hK K
            try simp only [Kl.pts1]
            refine wpAnyH_ready (rs := [14]) (by kernel_rfl) (by simp) ?_
            refine AllReadyH.cons rfl (fun K hK => ?_) AllReadyH.nil
            rw [if_pos]
            rotate_left
            exact rfl
            refine wp_store_mid 26 (.tmp 46) (.tmp 39) rfl g' ((i + 1) * 4) #[.int .i64 9, .int .i64 0, .int .i64 0, .slice none 0 0] rfl rfl (T.out.there (by omega)) I1.out (by simp [Value.oneCell']) ?_
            have T : Hid (Kl.Tl w2 B O g' c' (i + 3) (.slice (some ⟨g', 0, none⟩) (i + 3) c') true (x9.setCells g' ((i + 1) * 4) #[.int .i64 9, .int .i64 0, .int .i64 0, .slice none 0 0].toList)) := T.out.elem (j := (i + 1)) (by omega) Kl.z9
            generalize x9.setCells g' ((i + 1) * 4) #[.int .i64 9, .int .i64 0, .int .i64 0, .slice none 0 0].toList = x10 at T ⊢
            refine hK.out _ _ trivial (fun _ => ?_)
            clear hK K
            try simp only [Kl.pts1]
            refine wpAnyH_take (i := 16) (v := .pointer (some ⟨g', (i + 2) * 4, none⟩)) rfl (by kernel_rfl) (by kernel_rfl) (by kernel_rfl) (fun _ _ _ h => h) (Or.inl ⟨by rfl, ?y16⟩) trivial ?_
            case y16 => (intro w' _; go_simp; try (intro hh; exfalso; omega))
            try simp only [Kl.pts1]
            refine wpAnyH_ready (rs := [17]) (by kernel_rfl) (by simp) ?_
            refine AllReadyH.cons rfl (fun K hK => ?_) AllReadyH.nil
            rw [if_pos]
            rotate_left
            exact rfl
            refine wp_store_mid 26 (.tmp 48) (.tmp 40) rfl g' ((i + 2) * 4) #[.int .i64 9, .int .i64 0, .int .i64 0, .slice none 0 0] rfl rfl (T.out.there (by omega)) I1.out (by simp [Value.oneCell']) ?_
            have T : Hid (Kl.Tl w2 B O g' c' (i + 3) (.slice (some ⟨g', 0, none⟩) (i + 3) c') true (x10.setCells g' ((i + 2) * 4) #[.int .i64 9, .int .i64 0, .int .i64 0, .slice none 0 0].toList)) := T.out.elem (j := (i + 2)) (by omega) Kl.z9
            generalize x10.setCells g' ((i + 2) * 4) #[.int .i64 9, .int .i64 0, .int .i64 0, .slice none 0 0].toList = x11 at T ⊢
            refine hK.out _ _ trivial (fun _ => ?_)
            clear hK K
            try simp only [Kl.pts1]
            refine wpAnyH_done (by kernel_rfl) ?_ _
            go_wp2_with fail
            go_end0
            exact ⟨⟨_, rfl⟩, Kl.spoDone HCW.out HBW.out HQ.out HFW.out HM.out (by rw [HLN.out]) (by rw [HLN.out]; exact T.out)⟩
        · skip
          obtain ⟨hs, hf⟩ := T.out.cell HBL2.out
          obtain ⟨u, hu⟩ := Option.isSome_iff_exists.1 hs
          have T := hide' (T.out.field hs)
          clear hs
          try simp only [Kl.pts1]
          go_simp
          clear hu hf
          generalize w2.setCell ⟨B, O + 3, none⟩ (.slice (some ⟨g', 0, none⟩) (i + 3) c') = x12 at T ⊢
          refine hK.out _ _ trivial (fun _ => ?_)
          clear hK K
          try simp only [Kl.pts1]
          refine wpAnyH_ready (rs := [11]) (by kernel_rfl) (by simp) ?_
          refine AllReadyH.cons rfl (fun K hK => ?_) AllReadyH.nil
          rw [if_pos]
          rotate_left
          exact rfl
          refine wp_store_mid 26 (.tmp 44) (.tmp 38) rfl g' (i * 4) #[.int .i64 9, .int .i64 0, .int .i64 0, .slice none 0 0] rfl rfl (T.out.there (by omega)) I1.out (by simp [Value.oneCell']) ?_
          have T : Hid (Kl.Tl w2 B O g' c' (i + 3) (.slice (some ⟨g', 0, none⟩) (i + 3) c') true (x12.setCells g' (i * 4) #[.int .i64 9, .int .i64 0, .int .i64 0, .slice none 0 0].toList)) := T.out.elem (j := i) (by omega) Kl.z9
          generalize x12.setCells g' (i * 4) #[.int .i64 9, .int .i64 0, .int .i64 0, .slice none 0 0].toList = x13 at T ⊢
          refine hK.out _ _ trivial (fun _ => ?_)
          clear hK K
          try simp only [Kl.pts1]
          refine wpAnyH_take (i := 13) (v := .pointer (some ⟨g', (i + 1) * 4, none⟩)) rfl (by kernel_rfl) (by kernel_rfl) (by kernel_rfl) (fun _ _ _ h => h) (Or.inl ⟨by rfl, ?y13⟩) trivial ?_
          case y13 => (intro w' _; go_simp; try (intro hh; exfalso; omega))
          try simp only [Kl.pts1]
          refine wpAnyH_ready (rs := [14]) (by kernel_rfl) (by simp) ?_
          refine AllReadyH.cons rfl (fun K hK => ?_) AllReadyH.nil
          rw [if_pos]
          rotate_left
          exact rfl
          refine wp_store_mid 26 (.tmp 46) (.tmp 39) rfl g' ((i + 1) * 4) #[.int .i64 9, .int .i64 0, .int .i64 0, .slice none 0 0] rfl rfl (T.out.there (by omega)) I1.out (by simp [Value.oneCell']) ?_
          have T : Hid (Kl.Tl w2 B O g' c' (i + 3) (.slice (some ⟨g', 0, none⟩) (i + 3) c') true (x13.setCells g' ((i + 1) * 4) #[.int .i64 9, .int .i64 0, .int .i64 0, .slice none 0 0].toList)) := T.out.elem (j := (i + 1)) (by omega) Kl.z9
          generalize x13.setCells g' ((i + 1) * 4) #[.int .i64 9, .int .i64 0, .int .i64 0, .slice none 0 0].toList = x14 at T ⊢
          refine hK.out _ _ trivial (fun _ => ?_)
          clear hK K
          try simp only [Kl.pts1]
          refine wpAnyH_take (i := 16) (v := .pointer (some ⟨g', (i + 2) * 4, none⟩)) rfl (by kernel_rfl) (by kernel_rfl) (by kernel_rfl) (fun _ _ _ h => h) (Or.inl ⟨by rfl, ?y16⟩) trivial ?_
          case y16 => (intro w' _; go_simp; try (intro hh; exfalso; omega))
          try simp only [Kl.pts1]
          refine wpAnyH_ready (rs := [17]) (by kernel_rfl) (by simp) ?_
          refine AllReadyH.cons rfl (fun K hK => ?_) AllReadyH.nil
          rw [if_pos]
          rotate_left
          exact rfl
          refine wp_store_mid 26 (.tmp 48) (.tmp 40) rfl g' ((i + 2) * 4) #[.int .i64 9, .int .i64 0, .int .i64 0, .slice none 0 0] rfl rfl (T.out.there (by omega)) I1.out (by simp [Value.oneCell']) ?_
          have T : Hid (Kl.Tl w2 B O g' c' (i + 3) (.slice (some ⟨g', 0, none⟩) (i + 3) c') true (x14.setCells g' ((i + 2) * 4) #[.int .i64 9, .int .i64 0, .int .i64 0, .slice none 0 0].toList)) := T.out.elem (j := (i + 2)) (by omega) Kl.z9
          generalize x14.setCells g' ((i + 2) * 4) #[.int .i64 9, .int .i64 0, .int .i64 0, .slice none 0 0].toList = x15 at T ⊢
          refine hK.out _ _ trivial (fun _ => ?_)
          clear hK K
          try simp only [Kl.pts1]
          refine wpAnyH_done (by kernel_rfl) ?_ _
          go_wp2_with fail
          go_end0
          exact ⟨⟨_, rfl⟩, Kl.spoDone HCW.out HBW.out HQ.out HFW.out HM.out (by rw [HLN.out]) (by rw [HLN.out]; exact T.out)⟩
      · skip
        try simp only [Kl.pts1]
        go_simp
        refine hK.out _ _ trivial (fun _ => ?_)
        clear hK K
        try simp only [Kl.pts1]
        refine wpAnyH_ready (rs := [3]) (by kernel_rfl) (by simp) ?_
        refine AllReadyH.cons rfl (fun K hK => ?_) AllReadyH.nil
        try simp only [Kl.pts1]
        go_simp
        refine hK.out _ _ trivial (fun _ => ?_)
        clear hK K
        try simp only [Kl.pts1]
        refine wpAnyH_take (i := 7) (v := .int .i64 (i : Nat)) rfl (by kernel_rfl) (by kernel_rfl) (by kernel_rfl) (fun _ _ _ h => h) (Or.inl ⟨by rfl, ?y7⟩) trivial ?_
        case y7 => (intro w' _; go_simp)
        try simp only [Kl.pts1]
        refine wpAnyH_take (i := 12) (v := .int .i64 ((i + 1 : Nat) : Int)) rfl (by kernel_rfl) (by kernel_rfl) (by kernel_rfl) (fun _ _ _ h => h) (Or.inl ⟨by rfl, ?y12⟩) trivial ?_
        case y12 => (intro w' _; go_simp; first | exact wrap_small _ (by omega) (by omega) | (rw [IntKind.wrap_i64]; omega) | (unfold IntKind.wrap; simp [IntKind.bits, IntKind.signed]; omega))
        try simp only [Kl.pts1]
        refine wpAnyH_take (i := 15) (v := .int .i64 ((i + 2 : Nat) : Int)) rfl (by kernel_rfl) (by kernel_rfl) (by kernel_rfl) (fun _ _ _ h => h) (Or.inl ⟨by rfl, ?y15⟩) trivial ?_
        case y15 => (intro w' _; go_simp; first | exact wrap_small _ (by omega) (by omega) | (rw [IntKind.wrap_i64]; omega) | (unfold IntKind.wrap; simp [IntKind.bits, IntKind.signed]; omega))
        try simp only [Kl.pts1]
        refine wpAnyH_ready (rs := [9]) (by kernel_rfl) (by simp) ?_
        refine AllReadyH.cons rfl (fun K hK => ?_) AllReadyH.nil
        rw [if_pos]
        rotate_left
        exact rfl
        refine Kl.wp_app (.tmp 37) (.tmp 42) rfl (.slice p i c) (.slice (some ⟨wr.heap.size, 0, none⟩) 3 3) zs [Kl.z0, Kl.z0, Kl.z0] rfl rfl ?a1 ?a2 ?a3 ?_
        case a1 => exact HO.out.keep fun b _ hb => ((Below.refl wr.heap.size wr).drew.alloc (Nat.le_refl _) _).block b hb
        case a2 => exact Kl.src3 (t := 26) (heap_alloc_new wr.drew _)
        case a3 => rw [HZ.out]; simp; have := hiB.out; omega
        intro v' w2 ap gb hat
        obtain ⟨L, hL⟩ : ∃ L, zs ++ [Kl.z0, Kl.z0, Kl.z0] = L := ⟨_, rfl⟩
        have HLN : Hid (L.length = i + 3) := by show L.length = _; rw [← hL, List.length_append, HZ.out]; rfl
        rw [hL] at ap
        obtain ⟨g', c', rfl, hrw⟩ : ∃ g' c', v' = .slice (some ⟨g', 0, none⟩) (i + 3) c' ∧ Kl.Rw w2 g' c' (i + 3) (Kl.nth L) := by
          rcases ap with ⟨_, e⟩ | ⟨g', c', e, h⟩
          · have := HLN.out; rw [e] at this; simp at this
          · rw [HLN.out] at e h; exact ⟨g', c', e, h⟩
        have HM := hide' (Kl.spoMid (g' := g') (Kl.own_fp HDW.out (n := i)) HB.out HLW.out HCR.out ((Below.refl wr.heap.size wr).drew.alloc (Nat.le_refl _) _) gb (by simpa [Value.ownBlock] using hat))
        have T := hide' (Kl.Tl.start (O := O) (.slice (some ⟨g', 0, none⟩) (i + 3) c') hrw HM.out.1 HM.out.2.1)
        have HBL2 : Hid (∃ cur t, w2.heap[B]? = some (.cells cur t (0, 0)) ∧ O + 4 ≤ cur.size) := by
          obtain ⟨cur, t, h, h2⟩ := HBL.out
          obtain ⟨cur', h3, h4⟩ := HBW.out cur t h
          exact ⟨cur', t, HM.out.2.2.1.trans h3, by omega⟩
        clear ap gb hat hrw hL
        refine hK.out _ _ trivial (fun _ => ?_)
        clear hK K
        try simp only [Kl.pts1]
        refine wpAnyH_take (i := 10) (v := .pointer (some ⟨g', i * 4, none⟩)) rfl (by kernel_rfl) (by kernel_rfl) (by kernel_rfl) (fun _ _ _ h => h) (Or.inl ⟨by rfl, ?y10⟩) trivial ?_
        case y10 => (intro w' _; go_simp; try (intro hh; exfalso; omega))
        try simp only [Kl.pts1]
        refine wpAnyH_take (i := 18) (v := .pointer (some ⟨B, O, none⟩)) rfl (by kernel_rfl) (by kernel_rfl) (by kernel_rfl) (fun _ _ _ h => h) (Or.inl ⟨by rfl, ?y18⟩) trivial ?_
        case y18 => (intro w' _; go_simp)
        try simp only [Kl.pts1]
        refine wpAnyH_take (i := 19) (v := .pointer (some ⟨B, O + 3, none⟩)) rfl (by kernel_rfl) (by kernel_rfl) (by kernel_rfl) (fun _ _ _ h => h) (Or.inl ⟨by rfl, ?y19⟩) trivial ?_
        case y19 => (intro w' _; go_simp)
        try simp only [Kl.pts1]
        refine wpAnyH_ready (rs := [11, 20]) (by kernel_rfl) (by simp) ?_
        refine AllReadyH.cons rfl (fun K hK => ?_) (AllReadyH.cons rfl (fun K hK => ?_) AllReadyH.nil)
        · skip
          rw [if_pos]
          rotate_left
          exact rfl
          refine wp_store_mid 26 (.tmp 44) (.tmp 38) rfl g' (i * 4) #[.int .i64 9, .int .i64 0, .int .i64 0, .slice none 0 0] rfl rfl (T.out.there (by omega)) I1.out (by simp [Value.oneCell']) ?_
          have T : Hid (Kl.Tl w2 B O g' c' (i + 3) (.slice (some ⟨g', 0, none⟩) (i + 3) c') false (w2.setCells g' (i * 4) #[.int .i64 9, .int .i64 0, .int .i64 0, .slice none 0 0].toList)) := T.out.elem (j := i) (by omega) Kl.z9
          generalize w2.setCells g' (i * 4) #[.int .i64 9, .int .i64 0, .int .i64 0, .slice none 0 0].toList = x16 at T ⊢
          refine hK.out _ _ trivial (fun _ => ?_)
          clear hK K
          try simp only [Kl.pts1]
          refine wpAnyH_take (i := 13) (v := .pointer (some ⟨g', (i + 1) * 4, none⟩)) rfl (by kernel_rfl) (by kernel_rfl) (by kernel_rfl) (fun _ _ _ h => h) (Or.inl ⟨by rfl, ?y13⟩) trivial ?_
          case y13 => (intro w' _; go_simp; try (intro hh; exfalso; omega))
          try simp only [Kl.pts1]
          refine wpAnyH_ready (rs := [14, 20]) (by kernel_rfl) (by simp) ?_
          refine AllReadyH.cons rfl (fun K hK => ?_) (AllReadyH.cons rfl (fun K hK => ?_) AllReadyH.nil)
          · skip
            rw [if_pos]
            rotate_left
            exact rfl
            refine wp_store_mid 26 (.tmp 46) (.tmp 39) rfl g' ((i + 1) * 4) #[.int .i64 9, .int .i64 0, .int .i64 0, .slice none 0 0] rfl rfl (T.out.there (by omega)) I1.out (by simp [Value.oneCell']) ?_
            have T : Hid (Kl.Tl w2 B O g' c' (i + 3) (.slice (some ⟨g', 0, none⟩) (i + 3) c') false (x16.setCells g' ((i + 1) * 4) #[.int .i64 9, .int .i64 0, .int .i64 0, .slice none 0 0].toList)) := T.out.elem (j := (i + 1)) (by omega) Kl.z9
            generalize x16.setCells g' ((i + 1) * 4) #[.int .i64 9, .int .i64 0, .int .i64 0, .slice none 0 0].toList = x17 at T ⊢
            refine hK.out _ _ trivial (fun _ => ?_)
            clear hK K
            try simp only [Kl.pts1]
            refine wpAnyH_take (i := 16) (v := .pointer (some ⟨g', (i + 2) * 4, none⟩)) rfl (by kernel_rfl) (by kernel_rfl) (by kernel_rfl) (fun _ _ _ h => h) (Or.inl ⟨by rfl, ?y16⟩) trivial ?_
            case y16 => (intro w' _; go_simp; try (intro hh; exfalso; omega))
            try simp only [Kl.pts1]
            refine wpAnyH_ready (rs := [17, 20]) (by kernel_rfl) (by simp) ?_
            refine AllReadyH.cons rfl (fun K hK => ?_) (AllReadyH.cons rfl (fun K hK => ?_) AllReadyH.nil)
            · skip
              rw [if_pos]
              rotate_left
              exact rfl
              refine wp_store_mid 26 (.tmp 48) (.tmp 40) rfl g' ((i + 2) * 4) #[.int .i64 9, .int .i64 0, .int .i64 0, .slice none 0 0] rfl rfl (T.out.there (by omega)) I1.out (by simp [Value.oneCell']) ?_
              have T : Hid (Kl.Tl w2 B O g' c' (i + 3) (.slice (some ⟨g', 0, none⟩) (i + 3) c') false (x17.setCells g' ((i + 2) * 4) #[.int .i64 9, .int .i64 0, .int .i64 0, .slice none 0 0].toList)) := T.out.elem (j := (i + 2)) (by omega) Kl.z9
              generalize x17.setCells g' ((i + 2) * 4) #[.int .i64 9, .int .i64 0, .int .i64 0, .slice none 0 0].toList = x18 at T ⊢
              refine hK.out _ _ trivial (fun _ => ?_)
              clear hK K
              try simp only [Kl.pts1]
              refine wpAnyH_ready (rs := [20]) (by kernel_rfl) (by simp) ?_
              refine AllReadyH.cons rfl (fun K hK => ?_) AllReadyH.nil
              obtain ⟨hs, hf⟩ := T.out.cell HBL2.out
              obtain ⟨u, hu⟩ := Option.isSome_iff_exists.1 hs
              have T := hide' (T.out.field hs)
              clear hs
              try simp only [Kl.pts1]
              go_simp
              clear hu hf
              generalize x18.setCell ⟨B, O + 3, none⟩ (.slice (some ⟨g', 0, none⟩) (i + 3) c') = x19 at T ⊢
              refine hK.out _ _ trivial (fun _ => ?_)
              clear hK K
              try simp only [Kl.pts1]
              refine wpAnyH_done (by kernel_rfl) ?_ _
              go_wp2_with fail
              go_end0
              exact ⟨⟨_, rfl⟩, Kl.spoDone HCW.out HBW.out HQ.out HFW.out HM.out (by rw [HLN.out]) (by rw [HLN.out]; exact T.out)⟩
            · skip
              obtain ⟨hs, hf⟩ := T.out.cell HBL2.out
              obtain ⟨u, hu⟩ := Option.isSome_iff_exists.1 hs
              have T := hide' (T.out.field hs)
              clear hs
              try simp only [Kl.pts1]
              go_simp
              clear hu hf
              generalize x17.setCell ⟨B, O + 3, none⟩ (.slice (some ⟨g', 0, none⟩) (i + 3) c') = x20 at T ⊢
              refine hK.out _ _ trivial (fun _ => ?_)
              clear hK K
              try simp only [Kl.pts1]
              refine wpAnyH_ready (rs := [17]) (by kernel_rfl) (by simp) ?_
              refine AllReadyH.cons rfl (fun K hK => ?_) AllReadyH.nil
              rw [if_pos]
              rotate_left
              exact rfl
              refine wp_store_mid 26 (.tmp 48) (.tmp 40) rfl g' ((i + 2) * 4) #[.int .i64 9, .int .i64 0, .int .i64 0, .slice none 0 0] rfl rfl (T.out.there (by omega)) I1.out (by simp [Value.oneCell']) ?_
              have T : Hid (Kl.Tl w2 B O g' c' (i + 3) (.slice (some ⟨g', 0, none⟩) (i + 3) c') true (x20.setCells g' ((i + 2) * 4) #[.int .i64 9, .int .i64 0, .int .i64 0, .slice none 0 0].toList)) := T.out.elem (j := (i + 2)) (by omega) Kl.z9
              generalize x20.setCells g' ((i + 2) * 4) #[.int .i64 9, .int .i64 0, .int .i64 0, .slice none 0 0].toList = x21 at T ⊢
              refine hK.out _ _ trivial (fun _ => ?_)
              clear hK K
              try simp only [Kl.pts1]
              refine wpAnyH_done (by kernel_rfl) ?_ _
              go_wp2_with fail
              go_end0
              exact ⟨⟨_, rfl⟩, Kl.spoDone HCW.out HBW.out HQ.out HFW.out HM.out (by rw [HLN.out]) (by rw [HLN.out]; exact T.out)⟩
          · skip
            obtain ⟨hs, hf⟩ := T.out.cell HBL2.out
            obtain ⟨u, hu⟩ := Option.isSome_iff_exists.1 hs
            have T := hide' (T.out.field hs)
            clear hs
            try simp only [Kl.pts1]
            go_simp
            clear hu hf
            generalize x16.setCell ⟨B, O + 3, none⟩ (.slice (some ⟨g', 0, none⟩) (i + 3) c') = x22 at T ⊢
            refine hK.out _ _ trivial (fun _ => ?_)
            clear hK K
            try simp only [Kl.pts1]
            refine wpAnyH_ready (rs := [14]) (by kernel_rfl) (by simp) ?_
            refine AllReadyH.cons rfl (fun K hK => ?_) AllReadyH.nil
            rw [if_pos]
            rotate_left
            exact rfl
            refine wp_store_mid 26 (.tmp 46) (.tmp 39) rfl g' ((i + 1) * 4) #[.int .i64 9, .int .i64 0, .int .i64 0, .slice none 0 0] rfl rfl (T.out.there (by omega)) I1.out (by simp [Value.oneCell']) ?_
            have T : Hid (Kl.Tl w2 B O g' c' (i + 3) (.slice (some ⟨g', 0, none⟩) (i + 3) c') true (x22.setCells g' ((i + 1) * 4) #[.int .i64 9, .int .i64 0, .int .i64 0, .slice none 0 0].toList)) := T.out.elem (j := (i + 1)) (by omega) Kl.z9
            generalize x22.setCells g' ((i + 1) * 4) #[.int .i64 9, .int .i64 0, .int .i64 0, .slice none 0 0].toList = x23 at T ⊢
            refine hK.out _ _ trivial (fun _ => ?_)
            clear hK K
            try simp only [Kl.pts1]
            refine wpAnyH_take (i := 16) (v := .pointer (some ⟨g', (i + 2) * 4, none⟩)) rfl (by kernel_rfl) (by kernel_rfl) (by kernel_rfl) (fun _ _ _ h => h) (Or.inl ⟨by rfl, ?y16⟩) trivial ?_
            case y16 => (intro w' _; go_simp; try (intro hh; exfalso; omega))
            try simp only [Kl.pts1]
            refine wpAnyH_ready (rs := [17]) (by kernel_rfl) (by simp) ?_
            refine AllReadyH.cons rfl (fun K hK => ?_) AllReadyH.nil
            rw [if_pos]
            rotate_left
            exact rfl
            refine wp_store_mid 26 (.tmp 48) (.tmp 40) rfl g' ((i + 2) * 4) #[.int .i64 9, .int .i64 0, .int .i64 0, .slice none 0 0] rfl rfl (T.out.there (by omega)) I1.out (by simp [Value.oneCell']) ?_
            have T : Hid (Kl.Tl w2 B O g' c' (i + 3) (.slice (some ⟨g', 0, none⟩) (i + 3) c') true (x23.setCells g' ((i + 2) * 4) #[.int .i64 9, .int .i64 0, .int .i64 0, .slice none 0 0].toList)) := T.out.elem (j := (i + 2)) (by omega) Kl.z9
            generalize x23.setCells g' ((i + 2) * 4) #[.int .i64 9, .int .i64 0, .int .i64 0, .slice none 0 0].toList = x24 at T ⊢
            refine hK.out _ _ trivial (fun _ => ?_)
            clear hK K
            try simp only [Kl.pts1]
            refine wpAnyH_done (by kernel_rfl) ?_ _
            go_wp2_with fail
            go_end0
            exact ⟨⟨_, rfl⟩, Kl.spoDone HCW.out HBW.out HQ.out HFW.out HM.out (by rw [HLN.out]) (by rw [HLN.out]; exact T.out)⟩
        · skip
          obtain ⟨hs, hf⟩ := T.out.cell HBL2.out
          obtain ⟨u, hu⟩ := Option.isSome_iff_exists.1 hs
          have T := hide' (T.out.field hs)
          clear hs
          try simp only [Kl.pts1]
          go_simp
          clear hu hf
          generalize w2.setCell ⟨B, O + 3, none⟩ (.slice (some ⟨g', 0, none⟩) (i + 3) c') = x25 at T ⊢
          refine hK.out _ _ trivial (fun _ => ?_)
          clear hK K
          try simp only [Kl.pts1]
          refine wpAnyH_ready (rs := [11]) (by kernel_rfl) (by simp) ?_
          refine AllReadyH.cons rfl (fun K hK => ?_) AllReadyH.nil
          rw [if_pos]
          rotate_left
          exact rfl
          refine wp_store_mid 26 (.tmp 44) (.tmp 38) rfl g' (i * 4) #[.int .i64 9, .int .i64 0, .int .i64 0, .slice none 0 0] rfl rfl (T.out.there (by omega)) I1.out (by simp [Value.oneCell']) ?_
          have T : Hid (Kl.Tl w2 B O g' c' (i + 3) (.slice (some ⟨g', 0, none⟩) (i + 3) c') true (x25.setCells g' (i * 4) #[.int .i64 9, .int .i64 0, .int .i64 0, .slice none 0 0].toList)) := T.out.elem (j := i) (by omega) Kl.z9
          generalize x25.setCells g' (i * 4) #[.int .i64 9, .int .i64 0, .int .i64 0, .slice none 0 0].toList = x26 at T ⊢
          refine hK.out _ _ trivial (fun _ => ?_)
          clear hK K
          try simp only [Kl.pts1]
          refine wpAnyH_take (i := 13) (v := .pointer (some ⟨g', (i + 1) * 4, none⟩)) rfl (by kernel_rfl) (by kernel_rfl) (by kernel_rfl) (fun _ _ _ h => h) (Or.inl ⟨by rfl, ?y13⟩) trivial ?_
          case y13 => (intro w' _; go_simp; try (intro hh; exfalso; omega))
          try simp only [Kl.pts1]
          refine wpAnyH_ready (rs := [14]) (by kernel_rfl) (by simp) ?_
          refine AllReadyH.cons rfl (fun K hK => ?_) AllReadyH.nil
          rw [if_pos]
          rotate_left
          exact rfl
          refine wp_store_mid 26 (.tmp 46) (.tmp 39) rfl g' ((i + 1) * 4) #[.int .i64 9, .int .i64 0, .int .i64 0, .slice none 0 0] rfl rfl (T.out.there (by omega)) I1.out (by simp [Value.oneCell']) ?_
          have T : Hid (Kl.Tl w2 B O g' c' (i + 3) (.slice (some ⟨g', 0, none⟩) (i + 3) c') true (x26.setCells g' ((i + 1) * 4) #[.int .i64 9, .int .i64 0, .int .i64 0, .slice none 0 0].toList)) := T.out.elem (j := (i + 1)) (by omega) Kl.z9
          generalize x26.setCells g' ((i + 1) * 4) #[.int .i64 9, .int .i64 0, .int .i64 0, .slice none 0 0].toList = x27 at T ⊢
          refine hK.out _ _ trivial (fun _ => ?_)
          clear hK K
          try simp only [Kl.pts1]
          refine wpAnyH_take (i := 16) (v := .pointer (some ⟨g', (i + 2) * 4, none⟩)) rfl (by kernel_rfl) (by kernel_rfl) (by kernel_rfl) (fun _ _ _ h => h) (Or.inl ⟨by rfl, ?y16⟩) trivial ?_
          case y16 => (intro w' _; go_simp; try (intro hh; exfalso; omega))
          try simp only [Kl.pts1]
          refine wpAnyH_ready (rs := [17]) (by kernel_rfl) (by simp) ?_
          refine AllReadyH.cons rfl (fun K hK => ?_) AllReadyH.nil
          rw [if_pos]
          rotate_left
          exact rfl
          refine wp_store_mid 26 (.tmp 48) (.tmp 40) rfl g' ((i + 2) * 4) #[.int .i64 9, .int .i64 0, .int .i64 0, .slice none 0 0] rfl rfl (T.out.there (by omega)) I1.out (by simp [Value.oneCell']) ?_
          have T : Hid (Kl.Tl w2 B O g' c' (i + 3) (.slice (some ⟨g', 0, none⟩) (i + 3) c') true (x27.setCells g' ((i + 2) * 4) #[.int .i64 9, .int .i64 0, .int .i64 0, .slice none 0 0].toList)) := T.out.elem (j := (i + 2)) (by omega) Kl.z9
          generalize x27.setCells g' ((i + 2) * 4) #[.int .i64 9, .int .i64 0, .int .i64 0, .slice none 0 0].toList = x28 at T ⊢
          refine hK.out _ _ trivial (fun _ => ?_)
          clear hK K
          try simp only [Kl.pts1]
          refine wpAnyH_done (by kernel_rfl) ?_ _
          go_wp2_with fail
          go_end0
          exact ⟨⟨_, rfl⟩, Kl.spoDone HCW.out HBW.out HQ.out HFW.out HM.out (by rw [HLN.out]) (by rw [HLN.out]; exact T.out)⟩
end Go.Proofs.Ytmpmlccomgepjaa
