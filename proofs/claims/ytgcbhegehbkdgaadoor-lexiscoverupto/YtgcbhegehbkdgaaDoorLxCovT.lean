/-
  LexisCover: a round at a text.
-/
import Derived.Test.YtgcbhegehbkdgaaDoorLxCovD
namespace Go.Proofs.YtgcbhegehbkdgaaDoor
open Go.RowKit Go.Lib
set_option maxRecDepth 1000000 in
set_option maxHeartbeats 16000000 in
theorem cover_text {f : Nat → Nat} {n : Nat} {L : List (Nat × Lx.Wd)} {W : World} {Q0 : Exit → Act → World → Prop} (hx : Lx.Cx W Q0) (V : World) (hbV : Below W.heap.size W V) (at_ i : Nat) (p : Nat) (x : Lx.Wd) (b o cap g cw : Nat) (hp : Bytes V b o n f) (hf : ∀ j, f j < 256) (hc : n ≤ cap) (hm : cap ≤ 9223372036854775807) (hbig : n ≤ 1099511627776) (hi : i < L.length) (hlen : L.length ≤ n) (hcw : L.length ≤ cw) (hcm : cw ≤ 9223372036854775807) (hap : at_ ≤ p) (hpn : p < n) (hbl : ∀ j, at_ ≤ j → j < p → Lx.bl (f j)) (hle : p + x.wd ≤ n) (hpos : 0 < x.wd) (hrest : Lx.Cov f n (p + x.wd) (L.drop (i + 1))) (k0 : V.cell? ⟨g, i * 7, none⟩ = some (.int .i64 (x.k : Nat))) (k1 : V.cell? ⟨g, i * 7 + 1, none⟩ = some (.string x.tx)) (k3 : V.cell? ⟨g, i * 7 + 3, none⟩ = some (.int .i64 (p : Nat))) (hk : x.k = 1) (h2 : 2 ≤ x.wd) (htx : x.tx = Rn.arr (Rn.off f (p + 1)) (x.wd - 2)) (hqt : f p = f (p + x.wd - 1)) (u1 u2 u4 u7 u8 u9 u10 u11 u12 u13 u14 u15 u16 u17 u18 u19 u20 u21 u22 u23 u24 u25 u26 u27 u28 u29 u30 u31 u32 u33 u34 u35 u36 u37 u38 u39 u40 u41 u42 u43 u44 u45 u46 u47 u48 u49 u50 u51 u52 u53 u54 u55 u56 u57 u58 u59 u60 u61 u62 u63 u64 u65 u66 u67 u68 u69 u70 u71 u72 u73 u74 u75 u76 u77 u78 u79 u80 u81 u82 u83 u84 u85 u86 u87 u88 u89 u90 u91 u92 u93 u94 u95 u96 u97 u98 u99 u100 u101 u102 u103 u104 u105 u106 u107 u108 u109 u110 u111 u112 u113 u114 u115 u116 u117 u118 u119 u120 u121 u122 u123 u124 u125 u126 u127 u128 u129 u130 u131 u132 u133 u134 u135 u136 u137 u138 u139 u140 u141 u142 u143 u144 u145 u146 u147 u148 u149 u150 u151 u152 u153 u154 u155 u156 u157 u158 u159 u160 u161 u162 u163 u164 u165 u166 u167 u168 u169 u170 u171 u172 u173 u174 u175 u176 u177 u178 u179 u180 u181 u182 u183 u184 u185 u186 u187 u188 u189 u190 u191 u192 u193 u194 u195 u196 u197 u198 u199 u200 u201 u202 u203 u204 u205 u206 u207 u208 : Value) :
    Code.wp Tryd.prog ((Tryd.f6.body.bind Lx.lp).getD .skip) (Exit.then (fun a' w' => Lx.CI (.slice (some ⟨b, o, none⟩) n cap) (.slice (some ⟨g, 0, none⟩) L.length cw) f n L W a' w' ∧ Lx.Cmu L.length a' w' < Lx.Cmu L.length ⟨(.slice (some ⟨b, o, none⟩) n cap :: u1 :: u2 :: .slice (some ⟨g, 0, none⟩) L.length cw :: u4 :: .int .i64 (at_ : Nat) :: .int .i64 (i : Nat) :: u7 :: u8 :: u9 :: u10 :: u11 :: u12 :: u13 :: u14 :: u15 :: u16 :: u17 :: u18 :: u19 :: u20 :: u21 :: u22 :: u23 :: u24 :: u25 :: u26 :: u27 :: u28 :: u29 :: u30 :: u31 :: u32 :: u33 :: u34 :: u35 :: u36 :: u37 :: u38 :: u39 :: u40 :: u41 :: u42 :: u43 :: u44 :: u45 :: u46 :: u47 :: u48 :: u49 :: u50 :: u51 :: u52 :: u53 :: u54 :: u55 :: u56 :: u57 :: u58 :: u59 :: u60 :: u61 :: u62 :: u63 :: u64 :: u65 :: u66 :: u67 :: u68 :: u69 :: u70 :: u71 :: u72 :: u73 :: u74 :: u75 :: u76 :: u77 :: u78 :: u79 :: u80 :: u81 :: u82 :: u83 :: u84 :: u85 :: u86 :: u87 :: u88 :: u89 :: u90 :: u91 :: u92 :: u93 :: u94 :: u95 :: u96 :: u97 :: u98 :: u99 :: u100 :: u101 :: u102 :: u103 :: u104 :: u105 :: u106 :: u107 :: u108 :: u109 :: u110 :: u111 :: u112 :: u113 :: u114 :: u115 :: u116 :: u117 :: u118 :: u119 :: u120 :: u121 :: u122 :: u123 :: u124 :: u125 :: u126 :: u127 :: u128 :: u129 :: u130 :: u131 :: u132 :: u133 :: u134 :: u135 :: u136 :: u137 :: u138 :: u139 :: u140 :: u141 :: u142 :: u143 :: u144 :: u145 :: u146 :: u147 :: u148 :: u149 :: u150 :: u151 :: u152 :: u153 :: u154 :: u155 :: u156 :: u157 :: u158 :: u159 :: u160 :: u161 :: u162 :: u163 :: u164 :: u165 :: u166 :: u167 :: u168 :: u169 :: u170 :: u171 :: u172 :: u173 :: u174 :: u175 :: u176 :: u177 :: u178 :: u179 :: u180 :: u181 :: u182 :: u183 :: u184 :: u185 :: u186 :: u187 :: u188 :: u189 :: u190 :: u191 :: u192 :: u193 :: u194 :: u195 :: u196 :: u197 :: u198 :: u199 :: u200 :: u201 :: u202 :: u203 :: u204 :: u205 :: u206 :: u207 :: u208 :: []).toArray, []⟩ V) Q0) ⟨(.slice (some ⟨b, o, none⟩) n cap :: u1 :: u2 :: .slice (some ⟨g, 0, none⟩) L.length cw :: u4 :: .int .i64 (at_ : Nat) :: .int .i64 (i : Nat) :: u7 :: u8 :: u9 :: u10 :: u11 :: u12 :: u13 :: u14 :: u15 :: u16 :: u17 :: u18 :: u19 :: u20 :: u21 :: u22 :: u23 :: u24 :: u25 :: u26 :: u27 :: u28 :: u29 :: u30 :: u31 :: u32 :: u33 :: u34 :: u35 :: u36 :: u37 :: u38 :: u39 :: u40 :: u41 :: u42 :: u43 :: u44 :: u45 :: u46 :: u47 :: u48 :: u49 :: u50 :: u51 :: u52 :: u53 :: u54 :: u55 :: u56 :: u57 :: u58 :: u59 :: u60 :: u61 :: u62 :: u63 :: u64 :: u65 :: u66 :: u67 :: u68 :: u69 :: u70 :: u71 :: u72 :: u73 :: u74 :: u75 :: u76 :: u77 :: u78 :: u79 :: u80 :: u81 :: u82 :: u83 :: u84 :: u85 :: u86 :: u87 :: u88 :: u89 :: u90 :: u91 :: u92 :: u93 :: u94 :: u95 :: u96 :: u97 :: u98 :: u99 :: u100 :: u101 :: u102 :: u103 :: u104 :: u105 :: u106 :: u107 :: u108 :: u109 :: u110 :: u111 :: u112 :: u113 :: u114 :: u115 :: u116 :: u117 :: u118 :: u119 :: u120 :: u121 :: u122 :: u123 :: u124 :: u125 :: u126 :: u127 :: u128 :: u129 :: u130 :: u131 :: u132 :: u133 :: u134 :: u135 :: u136 :: u137 :: u138 :: u139 :: u140 :: u141 :: u142 :: u143 :: u144 :: u145 :: u146 :: u147 :: u148 :: u149 :: u150 :: u151 :: u152 :: u153 :: u154 :: u155 :: u156 :: u157 :: u158 :: u159 :: u160 :: u161 :: u162 :: u163 :: u164 :: u165 :: u166 :: u167 :: u168 :: u169 :: u170 :: u171 :: u172 :: u173 :: u174 :: u175 :: u176 :: u177 :: u178 :: u179 :: u180 :: u181 :: u182 :: u183 :: u184 :: u185 :: u186 :: u187 :: u188 :: u189 :: u190 :: u191 :: u192 :: u193 :: u194 :: u195 :: u196 :: u197 :: u198 :: u199 :: u200 :: u201 :: u202 :: u203 :: u204 :: u205 :: u206 :: u207 :: u208 :: []).toArray, []⟩ V := by
  unfold Lx.Cx at hx
  have _v := And.intro hx (And.intro hlen (And.intro hpos (And.intro hf (And.intro hc hm))))
  clear _v
  have HB := hide' hbl
  have HR := hide' hrest
  clear hbl hrest
  have j1 : (i : Int) < L.length := by omega
  have j2 : (i : Int) ≤ L.length := by omega
  have j3 : ¬ (i : Int) = L.length := by omega
  have j4 : ((i : Int) == L.length) = false := by simp; omega
  have j5 : ¬ (p : Int) < at_ := by omega
  have j6 : ¬ (n : Int) < p := by omega
  have j7 : (L.length : Int) ≤ cw := by omega
  conv => arg 2; whnf
  go_wp2
  go_loopw [5] (fun v wx => ∃ a : Nat, v = .int .i64 (a : Nat) ∧ at_ ≤ a ∧ a ≤ p ∧ wx = V) (fun v _ => p - (RowKit.intOf v).toNat)
  case atStart => exact ⟨at_, rfl, Nat.le_refl _, by omega, rfl⟩
  case round =>
    obtain ⟨a, rfl, ha1, ha2, rfl⟩ := hrel
    by_cases hlt : a < p
    · have g1 : (a : Int) < p := by omega
      have g2 : (a : Int) < n := by omega
      have cb := hp a (by omega)
      have hb := HB.out a ha1 hlt
      have g3 : (0 : Int) ≤ a := by omega
      obtain ⟨y, hy⟩ : ∃ y, f a = y := ⟨_, rfl⟩
      rw [hy] at cb hb
      clear hp hy k0 k1 k3
      rcases hb with rfl | rfl | rfl | rfl
      all_goals
        go_wp2
        exact ⟨⟨a + 1, by go_num, by omega, by omega, by first | rfl | trivial⟩, by simp [RowKit.intOf]; omega⟩
    · obtain rfl : a = p := by omega
      have g1 : ¬ (a : Int) < a := by omega
      have hts : x.tx.size = x.wd - 2 := by rw [htx, Rn.arr_size]
      have hcv : ∀ k, (convert 22 9 (.slice (some ⟨b, o + (a + 1), none⟩) (x.wd - 2 : Nat) (cap - (a + 1) : Nat))).run Tryd.prog (wr.drewN k) = .ok (.string x.tx) (wr.drewN k) := fun k => by rw [htx]; exact bytes_string _ b (o + (a + 1)) (x.wd - 2) (cap - (a + 1)) (Rn.off f (a + 1)) (fun _ => hf _) (((hp.below (below_drewN (Below.refl wr.heap.size wr) k) (Nat.le_refl _)).off (k := a + 1) (by omega)).le (by omega))
      obtain ⟨z, hz⟩ : ∃ z, f a = z := ⟨_, rfl⟩
      obtain ⟨t, ht⟩ : ∃ t, x.wd = t + 2 := ⟨x.wd - 2, by omega⟩
      have b0 : wr.cell? ⟨b, o + a, none⟩ = some (.int .u8 z) := by rw [← hz]; exact hp a (by omega)
      have b1 : wr.cell? ⟨b, o + (a + t + 1), none⟩ = some (.int .u8 z) := by rw [← hz, hqt, show a + x.wd - 1 = a + t + 1 by omega]; exact hp _ (by omega)
      have k0' := k0
      rw [hk] at k0'
      rw [ht, Nat.add_sub_cancel] at hts hcv
      have HT := hide' ht
      have hle' : a + t + 2 ≤ n := by omega
      have q3 : ((t : Int) + 2 == 0) = false := by simp; omega
      have q4 : ¬ (n : Int) < (a : Int) + ((t : Int) + 2) := by omega
      have q14 : decide ((n : Int) < (a : Int) + ((t : Int) + 2)) = false := decide_eq_false q4
      have q15 : decide (n < a + (t + 2)) = false := decide_eq_false (by omega)
      have r1 : (a : Int) + ((t : Int) + 2) - 1 = ((a + t + 1 : Nat) : Int) := by omega
      have r2 : ((a + t + 1 : Nat) : Int) < n := by omega
      have r3 : (a : Int) < n := by omega
      have r4 : (a : Int) + 1 ≤ ((a + t + 1 : Nat) : Int) := by omega
      have r5 : ((a + t + 1 : Nat) : Int) ≤ cap := by omega
      have r6 : ((a + t + 1 : Nat) : Int) - ((a : Int) + 1) = (t : Int) := by omega
      have r7 : ¬ cap = a + 1 := by omega
      have r8 : ¬ cap - (a + 1) = 0 := by omega
      have r9 : (0 : Int) ≤ (a : Int) + 1 := by omega
      have r10 : ((a : Int) + 1).toNat = a + 1 := by omega
      have r11 : a + t + 1 - (a + 1) = t := by omega
      have r12 : (cap : Int) - ((a : Int) + 1) = ((cap - (a + 1) : Nat) : Int) := by omega
      clear hp HB htx hk hqt hz k0 ht h2
      go_wp2
      go_quiet (fail)
      have hb2 := hide' (below_drewN hbV nq)
      clear hbV hcv
      go_wp2
      refine ⟨⟨_, _, _, _, _, _, _, _, _, _, _, _, _, _, _, _, _, _, _, _, _, _, _, _, _, _, _, _, _, _, _, _, _, _, _, _, _, _, _, _, _, _, _, _, _, _, _, _, _, _, _, _, _, _, _, _, _, _, _, _, _, _, _, _, _, _, _, _, _, _, _, _, _, _, _, _, _, _, _, _, _, _, _, _, _, _, _, _, _, _, _, _, _, _, _, _, _, _, _, _, _, _, _, _, _, _, _, _, _, _, _, _, _, _, _, _, _, _, _, _, _, _, _, _, _, _, _, _, _, _, _, _, _, _, _, _, _, _, _, _, _, _, _, _, _, _, _, _, _, _, _, _, _, _, _, _, _, _, _, _, _, _, _, _, _, _, _, _, _, _, _, _, _, _, _, _, _, _, _, _, _, _, _, _, _, _, _, _, _, _, _, _, _, _, _, _, _, _, _, _, _, _, _, _, _, _, _, _, _, ⟨hb2.out, rfl, rfl, a + x.wd, i + 1, by rw [HT.out]; go_num, by go_num, by omega, HR.out⟩, rfl⟩, ?_⟩
      show L.length + 1 - (RowKit.intOf _).toNat < L.length + 1 - (RowKit.intOf _).toNat
      simp [RowKit.intOf]
      omega
end Go.Proofs.YtgcbhegehbkdgaaDoor
