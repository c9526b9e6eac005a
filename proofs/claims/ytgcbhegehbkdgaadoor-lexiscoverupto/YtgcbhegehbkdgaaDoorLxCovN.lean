/-
  LexisCover: a round at a number.
-/
import Derived.Test.YtgcbhegehbkdgaaDoorLxCovD
namespace Go.Proofs.YtgcbhegehbkdgaaDoor
open Go.RowKit Go.Lib
set_option maxRecDepth 1000000 in
set_option maxHeartbeats 16000000 in
theorem cover_num {f : Nat → Nat} {n : Nat} {L : List (Nat × Lx.Wd)} {W : World} {Q0 : Exit → Act → World → Prop} (hx : Lx.Cx W Q0) (V : World) (hbV : Below W.heap.size W V) (at_ i : Nat) (p : Nat) (x : Lx.Wd) (b o cap g cw : Nat) (hp : Bytes V b o n f) (hf : ∀ j, f j < 256) (hc : n ≤ cap) (hm : cap ≤ 9223372036854775807) (hbig : n ≤ 1099511627776) (hi : i < L.length) (hlen : L.length ≤ n) (hcw : L.length ≤ cw) (hcm : cw ≤ 9223372036854775807) (hap : at_ ≤ p) (hpn : p < n) (hbl : ∀ j, at_ ≤ j → j < p → Lx.bl (f j)) (hle : p + x.wd ≤ n) (hpos : 0 < x.wd) (hrest : Lx.Cov f n (p + x.wd) (L.drop (i + 1))) (k0 : V.cell? ⟨g, i * 7, none⟩ = some (.int .i64 (x.k : Nat))) (k1 : V.cell? ⟨g, i * 7 + 1, none⟩ = some (.string x.tx)) (k3 : V.cell? ⟨g, i * 7 + 3, none⟩ = some (.int .i64 (p : Nat))) (hk : x.k = 2) (hdg : ∀ j, j < x.wd → 48 ≤ f (p + j) ∧ f (p + j) ≤ 57) (hend : p + x.wd < n → ¬ (48 ≤ f (p + x.wd) ∧ f (p + x.wd) ≤ 57)) (u1 u2 u4 u7 u8 u9 u10 u11 u12 u13 u14 u15 u16 u17 u18 u19 u20 u21 u22 u23 u24 u25 u26 u27 u28 u29 u30 u31 u32 u33 u34 u35 u36 u37 u38 u39 u40 u41 u42 u43 u44 u45 u46 u47 u48 u49 u50 u51 u52 u53 u54 u55 u56 u57 u58 u59 u60 u61 u62 u63 u64 u65 u66 u67 u68 u69 u70 u71 u72 u73 u74 u75 u76 u77 u78 u79 u80 u81 u82 u83 u84 u85 u86 u87 u88 u89 u90 u91 u92 u93 u94 u95 u96 u97 u98 u99 u100 u101 u102 u103 u104 u105 u106 u107 u108 u109 u110 u111 u112 u113 u114 u115 u116 u117 u118 u119 u120 u121 u122 u123 u124 u125 u126 u127 u128 u129 u130 u131 u132 u133 u134 u135 u136 u137 u138 u139 u140 u141 u142 u143 u144 u145 u146 u147 u148 u149 u150 u151 u152 u153 u154 u155 u156 u157 u158 u159 u160 u161 u162 u163 u164 u165 u166 u167 u168 u169 u170 u171 u172 u173 u174 u175 u176 u177 u178 u179 u180 u181 u182 u183 u184 u185 u186 u187 u188 u189 u190 u191 u192 u193 u194 u195 u196 u197 u198 u199 u200 u201 u202 u203 u204 u205 u206 u207 u208 : Value) :
    Code.wp Tryd.prog ((Tryd.f6.body.bind Lx.lp).getD .skip) (Exit.then (fun a' w' => Lx.CI (.slice (some ⟨b, o, none⟩) n cap) (.slice (some ⟨g, 0, none⟩) L.length cw) f n L W a' w' ∧ Lx.Cmu L.length a' w' < Lx.Cmu L.length ⟨(.slice (some ⟨b, o, none⟩) n cap :: u1 :: u2 :: .slice (some ⟨g, 0, none⟩) L.length cw :: u4 :: .int .i64 (at_ : Nat) :: .int .i64 (i : Nat) :: u7 :: u8 :: u9 :: u10 :: u11 :: u12 :: u13 :: u14 :: u15 :: u16 :: u17 :: u18 :: u19 :: u20 :: u21 :: u22 :: u23 :: u24 :: u25 :: u26 :: u27 :: u28 :: u29 :: u30 :: u31 :: u32 :: u33 :: u34 :: u35 :: u36 :: u37 :: u38 :: u39 :: u40 :: u41 :: u42 :: u43 :: u44 :: u45 :: u46 :: u47 :: u48 :: u49 :: u50 :: u51 :: u52 :: u53 :: u54 :: u55 :: u56 :: u57 :: u58 :: u59 :: u60 :: u61 :: u62 :: u63 :: u64 :: u65 :: u66 :: u67 :: u68 :: u69 :: u70 :: u71 :: u72 :: u73 :: u74 :: u75 :: u76 :: u77 :: u78 :: u79 :: u80 :: u81 :: u82 :: u83 :: u84 :: u85 :: u86 :: u87 :: u88 :: u89 :: u90 :: u91 :: u92 :: u93 :: u94 :: u95 :: u96 :: u97 :: u98 :: u99 :: u100 :: u101 :: u102 :: u103 :: u104 :: u105 :: u106 :: u107 :: u108 :: u109 :: u110 :: u111 :: u112 :: u113 :: u114 :: u115 :: u116 :: u117 :: u118 :: u119 :: u120 :: u121 :: u122 :: u123 :: u124 :: u125 :: u126 :: u127 :: u128 :: u129 :: u130 :: u131 :: u132 :: u133 :: u134 :: u135 :: u136 :: u137 :: u138 :: u139 :: u140 :: u141 :: u142 :: u143 :: u144 :: u145 :: u146 :: u147 :: u148 :: u149 :: u150 :: u151 :: u152 :: u153 :: u154 :: u155 :: u156 :: u157 :: u158 :: u159 :: u160 :: u161 :: u162 :: u163 :: u164 :: u165 :: u166 :: u167 :: u168 :: u169 :: u170 :: u171 :: u172 :: u173 :: u174 :: u175 :: u176 :: u177 :: u178 :: u179 :: u180 :: u181 :: u182 :: u183 :: u184 :: u185 :: u186 :: u187 :: u188 :: u189 :: u190 :: u191 :: u192 :: u193 :: u194 :: u195 :: u196 :: u197 :: u198 :: u199 :: u200 :: u201 :: u202 :: u203 :: u204 :: u205 :: u206 :: u207 :: u208 :: []).toArray, []⟩ V) Q0) ⟨(.slice (some ⟨b, o, none⟩) n cap :: u1 :: u2 :: .slice (some ⟨g, 0, none⟩) L.length cw :: u4 :: .int .i64 (at_ : Nat) :: .int .i64 (i : Nat) :: u7 :: u8 :: u9 :: u10 :: u11 :: u12 :: u13 :: u14 :: u15 :: u16 :: u17 :: u18 :: u19 :: u20 :: u21 :: u22 :: u23 :: u24 :: u25 :: u26 :: u27 :: u28 :: u29 :: u30 :: u31 :: u32 :: u33 :: u34 :: u35 :: u36 :: u37 :: u38 :: u39 :: u40 :: u41 :: u42 :: u43 :: u44 :: u45 :: u46 :: u47 :: u48 :: u49 :: u50 :: u51 :: u52 :: u53 :: u54 :: u55 :: u56 :: u57 :: u58 :: u59 :: u60 :: u61 :: u62 :: u63 :: u64 :: u65 :: u66 :: u67 :: u68 :: u69 :: u70 :: u71 :: u72 :: u73 :: u74 :: u75 :: u76 :: u77 :: u78 :: u79 :: u80 :: u81 :: u82 :: u83 :: u84 :: u85 :: u86 :: u87 :: u88 :: u89 :: u90 :: u91 :: u92 :: u93 :: u94 :: u95 :: u96 :: u97 :: u98 :: u99 :: u100 :: u101 :: u102 :: u103 :: u104 :: u105 :: u106 :: u107 :: u108 :: u109 :: u110 :: u111 :: u112 :: u113 :: u114 :: u115 :: u116 :: u117 :: u118 :: u119 :: u120 :: u121 :: u122 :: u123 :: u124 :: u125 :: u126 :: u127 :: u128 :: u129 :: u130 :: u131 :: u132 :: u133 :: u134 :: u135 :: u136 :: u137 :: u138 :: u139 :: u140 :: u141 :: u142 :: u143 :: u144 :: u145 :: u146 :: u147 :: u148 :: u149 :: u150 :: u151 :: u152 :: u153 :: u154 :: u155 :: u156 :: u157 :: u158 :: u159 :: u160 :: u161 :: u162 :: u163 :: u164 :: u165 :: u166 :: u167 :: u168 :: u169 :: u170 :: u171 :: u172 :: u173 :: u174 :: u175 :: u176 :: u177 :: u178 :: u179 :: u180 :: u181 :: u182 :: u183 :: u184 :: u185 :: u186 :: u187 :: u188 :: u189 :: u190 :: u191 :: u192 :: u193 :: u194 :: u195 :: u196 :: u197 :: u198 :: u199 :: u200 :: u201 :: u202 :: u203 :: u204 :: u205 :: u206 :: u207 :: u208 :: []).toArray, []⟩ V := by
  unfold Lx.Cx at hx
  have _v := And.intro hx (And.intro hlen (And.intro hpos (And.intro hf (And.intro hc hm))))
  clear _v
  have HB := hide' hbl
  have HR := hide' hrest
  clear hbl hrest
  have j1 : (i : Int) < L.length := by omega
  have j2 : (i : Int) ≤ L.length := by omega
  have j3 : ¬ (i : Int) = L.length := by omega
  have j4 : ((i : Int) == L.length) = false := by simp; omega
  have j5 : ¬ (p : Int) < at_ := by omega
  have j6 : ¬ (n : Int) < p := by omega
  have j7 : (L.length : Int) ≤ cw := by omega
  conv => arg 2; whnf
  go_wp2
  go_loopw [5] (fun v wx => ∃ a : Nat, v = .int .i64 (a : Nat) ∧ at_ ≤ a ∧ a ≤ p ∧ wx = V) (fun v _ => p - (RowKit.intOf v).toNat)
  case atStart => exact ⟨at_, rfl, Nat.le_refl _, by omega, rfl⟩
  case round =>
    obtain ⟨a, rfl, ha1, ha2, rfl⟩ := hrel
    by_cases hlt : a < p
    · have g1 : (a : Int) < p := by omega
      have g2 : (a : Int) < n := by omega
      have cb := hp a (by omega)
      have hb := HB.out a ha1 hlt
      have g3 : (0 : Int) ≤ a := by omega
      obtain ⟨y, hy⟩ : ∃ y, f a = y := ⟨_, rfl⟩
      rw [hy] at cb hb
      clear hp hy k0 k1 k3
      rcases hb with rfl | rfl | rfl | rfl
      all_goals
        go_wp2
        exact ⟨⟨a + 1, by go_num, by omega, by omega, by first | rfl | trivial⟩, by simp [RowKit.intOf]; omega⟩
    · obtain rfl : a = p := by omega
      have g1 : ¬ (a : Int) < a := by omega
      have k0' := k0
      rw [hk] at k0'
      have HD := hide' hdg
      have HEN := hide' hend
      have HP := hide' hp
      have hK0 := hide' (fun (wx : World) (hb : Below wr.heap.size wr wx) => (hb.cell (p := ⟨g, i * 7, none⟩) (block_lt_of_cell k0')).trans k0')
      clear hp HB hk k0 hdg hend
      obtain ⟨wq, rfl⟩ : ∃ wq, wq = wr := ⟨_, rfl⟩
      go_wp2
      go_loopw [8] (fun v wx => ∃ t : Nat, v = .int .i64 (t : Nat) ∧ t ≤ x.wd ∧ Below wq.heap.size wq wx) (fun v _ => x.wd - (RowKit.intOf v).toNat)
      case atStart => exact ⟨0, rfl, Nat.zero_le _, Below.refl _ _⟩
      case round =>
        obtain ⟨t, rfl, ht, hbx⟩ := hrel
        have k9 := hK0.out wr hbx
        have hpx := HP.out.below hbx (Nat.le_refl _)
        have t1 : (0 : Int) ≤ (a : Int) + t := by omega
        have t2 : ((a : Int) + t).toNat = a + t := by omega
        clear k0' k1 k3
        by_cases hlt2 : t < x.wd
        · have cb := hpx (a + t) (by omega)
          obtain ⟨d1, d2⟩ := HD.out t hlt2
          obtain ⟨y, hy⟩ : ∃ y, f (a + t) = y := ⟨_, rfl⟩
          rw [hy] at cb d1 d2
          have s1 : (a : Int) + t < n := by omega
          have s2 : (48 : Int) ≤ y := by omega
          have s3 : (y : Int) ≤ 57 := by omega
          have s4 : decide ((a : Int) + t < n) = true := decide_eq_true s1
          have s5 : decide ((48 : Int) ≤ y) = true := decide_eq_true s2
          have s6 : a + t < n := by omega
          have hBx := hide' hbx
          clear hpx hy hbx hbV k9
          go_wp2
          exact ⟨⟨t + 1, by go_num, by omega, hBx.out⟩, by simp [RowKit.intOf]; omega⟩
        · obtain rfl : t = x.wd := by omega
          have hb2 := hide' (hbV.trans (hbx.mono hbV.size))
          have q3 : ((x.wd : Int) == 0) = false := by simp; omega
          have q17 : (x.wd == 0) = false := by simp; omega
          have q4 : ¬ (n : Int) < (a : Int) + x.wd := by omega
          have q14 : decide ((n : Int) < (a : Int) + x.wd) = false := decide_eq_false q4
          have q15 : decide (n < a + x.wd) = false := decide_eq_false (by omega)
          by_cases hin : a + x.wd < n
          · have cb := hpx (a + x.wd) hin
            have hno := HEN.out hin
            obtain ⟨y, hy⟩ : ∃ y, f (a + x.wd) = y := ⟨_, rfl⟩
            rw [hy] at cb hno
            have s1 : (a : Int) + x.wd < n := by omega
            have s4 : decide ((a : Int) + x.wd < n) = true := decide_eq_true s1
            clear hpx hy hbx hbV
            by_cases h48 : 48 ≤ y
            · have s2 : (48 : Int) ≤ y := by omega
              have s3 : ¬ (y : Int) ≤ 57 := by omega
              have s5 : decide ((48 : Int) ≤ y) = true := decide_eq_true s2
              clear hno
              go_wp2
              go_quiet (fail)
              have hb3 := hide' (below_drewN hb2.out nq)
              clear hb2
              go_wp2
              refine ⟨⟨_, _, _, _, _, _, _, _, _, _, _, _, _, _, _, _, _, _, _, _, _, _, _, _, _, _, _, _, _, _, _, _, _, _, _, _, _, _, _, _, _, _, _, _, _, _, _, _, _, _, _, _, _, _, _, _, _, _, _, _, _, _, _, _, _, _, _, _, _, _, _, _, _, _, _, _, _, _, _, _, _, _, _, _, _, _, _, _, _, _, _, _, _, _, _, _, _, _, _, _, _, _, _, _, _, _, _, _, _, _, _, _, _, _, _, _, _, _, _, _, _, _, _, _, _, _, _, _, _, _, _, _, _, _, _, _, _, _, _, _, _, _, _, _, _, _, _, _, _, _, _, _, _, _, _, _, _, _, _, _, _, _, _, _, _, _, _, _, _, _, _, _, _, _, _, _, _, _, _, _, _, _, _, _, _, _, _, _, _, _, _, _, _, _, _, _, _, _, _, _, _, _, _, _, _, _, _, _, _, ⟨hb3.out, rfl, rfl, a + x.wd, i + 1, by go_num, by go_num, by omega, HR.out⟩, rfl⟩, ?_⟩
              show L.length + 1 - (RowKit.intOf _).toNat < L.length + 1 - (RowKit.intOf _).toNat
              simp [RowKit.intOf]
              omega
            · have s2 : ¬ (48 : Int) ≤ y := by omega
              have s5 : decide ((48 : Int) ≤ y) = false := decide_eq_false s2
              clear hno
              go_wp2
              go_quiet (fail)
              have hb3 := hide' (below_drewN hb2.out nq)
              clear hb2
              go_wp2
              refine ⟨⟨_, _, _, _, _, _, _, _, _, _, _, _, _, _, _, _, _, _, _, _, _, _, _, _, _, _, _, _, _, _, _, _, _, _, _, _, _, _, _, _, _, _, _, _, _, _, _, _, _, _, _, _, _, _, _, _, _, _, _, _, _, _, _, _, _, _, _, _, _, _, _, _, _, _, _, _, _, _, _, _, _, _, _, _, _, _, _, _, _, _, _, _, _, _, _, _, _, _, _, _, _, _, _, _, _, _, _, _, _, _, _, _, _, _, _, _, _, _, _, _, _, _, _, _, _, _, _, _, _, _, _, _, _, _, _, _, _, _, _, _, _, _, _, _, _, _, _, _, _, _, _, _, _, _, _, _, _, _, _, _, _, _, _, _, _, _, _, _, _, _, _, _, _, _, _, _, _, _, _, _, _, _, _, _, _, _, _, _, _, _, _, _, _, _, _, _, _, _, _, _, _, _, _, _, _, _, _, _, _, ⟨hb3.out, rfl, rfl, a + x.wd, i + 1, by go_num, by go_num, by omega, HR.out⟩, rfl⟩, ?_⟩
              show L.length + 1 - (RowKit.intOf _).toNat < L.length + 1 - (RowKit.intOf _).toNat
              simp [RowKit.intOf]
              omega
          · have s1 : ¬ (a : Int) + x.wd < n := by omega
            have s4 : decide ((a : Int) + x.wd < n) = false := decide_eq_false s1
            have s7 : decide (a + x.wd < n) = false := decide_eq_false hin
            clear hpx hbx hbV
            go_wp2
            go_quiet (fail)
            have hb3 := hide' (below_drewN hb2.out nq)
            clear hb2
            go_wp2
            refine ⟨⟨_, _, _, _, _, _, _, _, _, _, _, _, _, _, _, _, _, _, _, _, _, _, _, _, _, _, _, _, _, _, _, _, _, _, _, _, _, _, _, _, _, _, _, _, _, _, _, _, _, _, _, _, _, _, _, _, _, _, _, _, _, _, _, _, _, _, _, _, _, _, _, _, _, _, _, _, _, _, _, _, _, _, _, _, _, _, _, _, _, _, _, _, _, _, _, _, _, _, _, _, _, _, _, _, _, _, _, _, _, _, _, _, _, _, _, _, _, _, _, _, _, _, _, _, _, _, _, _, _, _, _, _, _, _, _, _, _, _, _, _, _, _, _, _, _, _, _, _, _, _, _, _, _, _, _, _, _, _, _, _, _, _, _, _, _, _, _, _, _, _, _, _, _, _, _, _, _, _, _, _, _, _, _, _, _, _, _, _, _, _, _, _, _, _, _, _, _, _, _, _, _, _, _, _, _, _, _, _, _, ⟨hb3.out, rfl, rfl, a + x.wd, i + 1, by go_num, by go_num, by omega, HR.out⟩, rfl⟩, ?_⟩
            show L.length + 1 - (RowKit.intOf _).toNat < L.length + 1 - (RowKit.intOf _).toNat
            simp [RowKit.intOf]
            omega
end Go.Proofs.YtgcbhegehbkdgaaDoor
