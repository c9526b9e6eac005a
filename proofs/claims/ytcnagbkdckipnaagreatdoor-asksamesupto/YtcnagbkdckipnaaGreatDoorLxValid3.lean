import Derived.Test.YtcnagbkdckipnaaGreatDoorLxValid1
/-
  THE WALK over utf8.Valid: one case of its round.
-/
namespace Go.Proofs.YtcnagbkdckipnaaGreatDoor
open Go.RowKit Go.Lib

set_option maxRecDepth 1000000 in
set_option maxHeartbeats 16000000 in
theorem valid_h2 {f : Nat → Nat} {n b o : Nat} {w : World} {ANS : Bool} {Q0 : Exit → Act → World → Prop} (hT : Lib.Utf8Tabs 1 2 w) (hf : ∀ j, f j < 256) (hp : Bytes w b o n f) (hx : Lx.Vx w ANS Q0)
    (k m : Nat) (wr : World) (hkm : k + m = n) (h0 : 0 < m) (hv : Lx.V f n k = ANS) (hbw : Below w.heap.size w wr) (u1 u2 u3 u4 u5 u6 u7 u8 u9 u10 u11 u12 u13 u14 u15 u16 u17 u18 u19 u20 u21 u22 u23 u24 u25 u26 u27 u28 u29 u30 u31 u32 u33 u34 u35 u36 u37 u38 u39 u40 u41 u42 u43 u44 u45 u46 u47 u48 u49 u50 u51 u52 u53 u54 u55 u56 u57 u58 u59 u60 u61 u62 u63 u64 u65 u66 u67 u68 u69 u70 u71 u72 u73 u74 u75 u76 u77 u78 u79 u80 u81 u82 u83 u84 u85 u86 u87 u88 u89 u90 u91 u92 u93 u94 u95 u96 u97 u98 u99 u100 u101 u102 u103 u104 u105 u106 u107 u108 u109 u110 u111 u112 u113 u114 u115 u116 u117 u118 u119 u120 u121 u122 u123 u124 u125 u126 u127 u128 u129 u130 u131 u132 u133 u134 u135 u136 u137 u138 u139 u140 u141 u142 u143 u144 u145 u146 u147 u148 u149 u150 u151 u152 u153 u154 u155 u156 u157 u158 u159 u160 u161 u162 u163 u164 u165 u166 u167 u168 u169 u170 u171 u172 u173 u174 u175 u176 u177 u178 u179 u180 u181 u182 u183 u184 u185 u186 u187 : Value) (hlow : ¬ f k < 128) (s2 : Lib.firstT (f k) % 8 = 2) :
    Code.wp Tryz.prog ((Tryz.f32.body.bind Lx.lp).getD .skip) (Exit.then (fun a' w' => Lx.VI w b o n f ANS a' w' ∧ Lx.Vmu a' w' < Lx.Vmu ⟨(.slice (some ⟨b, o + k, none⟩) m m :: u1 :: u2 :: u3 :: u4 :: u5 :: u6 :: u7 :: u8 :: u9 :: u10 :: u11 :: u12 :: u13 :: u14 :: u15 :: u16 :: u17 :: u18 :: u19 :: u20 :: u21 :: u22 :: u23 :: u24 :: u25 :: u26 :: u27 :: u28 :: u29 :: u30 :: u31 :: u32 :: u33 :: u34 :: u35 :: u36 :: u37 :: u38 :: u39 :: u40 :: u41 :: u42 :: u43 :: u44 :: u45 :: u46 :: u47 :: u48 :: u49 :: u50 :: u51 :: u52 :: u53 :: u54 :: u55 :: u56 :: u57 :: u58 :: u59 :: u60 :: u61 :: u62 :: u63 :: u64 :: u65 :: u66 :: u67 :: u68 :: u69 :: u70 :: u71 :: u72 :: u73 :: u74 :: u75 :: u76 :: u77 :: u78 :: u79 :: u80 :: u81 :: u82 :: u83 :: u84 :: u85 :: u86 :: u87 :: u88 :: u89 :: u90 :: u91 :: u92 :: u93 :: u94 :: u95 :: u96 :: u97 :: u98 :: u99 :: u100 :: u101 :: u102 :: u103 :: u104 :: u105 :: u106 :: u107 :: u108 :: u109 :: u110 :: u111 :: u112 :: u113 :: u114 :: u115 :: u116 :: u117 :: u118 :: u119 :: u120 :: u121 :: u122 :: u123 :: u124 :: u125 :: u126 :: u127 :: u128 :: u129 :: u130 :: u131 :: u132 :: u133 :: u134 :: u135 :: u136 :: u137 :: u138 :: u139 :: u140 :: u141 :: u142 :: u143 :: u144 :: u145 :: u146 :: u147 :: u148 :: u149 :: u150 :: u151 :: u152 :: u153 :: u154 :: u155 :: u156 :: u157 :: u158 :: u159 :: u160 :: u161 :: u162 :: u163 :: u164 :: u165 :: u166 :: u167 :: u168 :: u169 :: u170 :: u171 :: u172 :: u173 :: u174 :: u175 :: u176 :: u177 :: u178 :: u179 :: u180 :: u181 :: u182 :: u183 :: u184 :: u185 :: u186 :: u187 :: []).toArray, []⟩ wr) Q0) ⟨(.slice (some ⟨b, o + k, none⟩) m m :: u1 :: u2 :: u3 :: u4 :: u5 :: u6 :: u7 :: u8 :: u9 :: u10 :: u11 :: u12 :: u13 :: u14 :: u15 :: u16 :: u17 :: u18 :: u19 :: u20 :: u21 :: u22 :: u23 :: u24 :: u25 :: u26 :: u27 :: u28 :: u29 :: u30 :: u31 :: u32 :: u33 :: u34 :: u35 :: u36 :: u37 :: u38 :: u39 :: u40 :: u41 :: u42 :: u43 :: u44 :: u45 :: u46 :: u47 :: u48 :: u49 :: u50 :: u51 :: u52 :: u53 :: u54 :: u55 :: u56 :: u57 :: u58 :: u59 :: u60 :: u61 :: u62 :: u63 :: u64 :: u65 :: u66 :: u67 :: u68 :: u69 :: u70 :: u71 :: u72 :: u73 :: u74 :: u75 :: u76 :: u77 :: u78 :: u79 :: u80 :: u81 :: u82 :: u83 :: u84 :: u85 :: u86 :: u87 :: u88 :: u89 :: u90 :: u91 :: u92 :: u93 :: u94 :: u95 :: u96 :: u97 :: u98 :: u99 :: u100 :: u101 :: u102 :: u103 :: u104 :: u105 :: u106 :: u107 :: u108 :: u109 :: u110 :: u111 :: u112 :: u113 :: u114 :: u115 :: u116 :: u117 :: u118 :: u119 :: u120 :: u121 :: u122 :: u123 :: u124 :: u125 :: u126 :: u127 :: u128 :: u129 :: u130 :: u131 :: u132 :: u133 :: u134 :: u135 :: u136 :: u137 :: u138 :: u139 :: u140 :: u141 :: u142 :: u143 :: u144 :: u145 :: u146 :: u147 :: u148 :: u149 :: u150 :: u151 :: u152 :: u153 :: u154 :: u155 :: u156 :: u157 :: u158 :: u159 :: u160 :: u161 :: u162 :: u163 :: u164 :: u165 :: u166 :: u167 :: u168 :: u169 :: u170 :: u171 :: u172 :: u173 :: u174 :: u175 :: u176 :: u177 :: u178 :: u179 :: u180 :: u181 :: u182 :: u183 :: u184 :: u185 :: u186 :: u187 :: []).toArray, []⟩ wr := by
  have h0z : (0 : Int) < m := by omega
  have hb0 : wr.cell? ⟨b, o + k, none⟩ = some (.int .u8 (f k)) := (hp.below hbw (Nat.le_refl _)) k (by omega)
  obtain ⟨hx1, hx2⟩ := hx
  conv => arg 2; whnf
  have hge : 128 ≤ f k := by omega
  have hlz : ¬ (f k : Int) < 128 := by omega
  have hTr := tabs_below hT hbw (Nat.le_refl _)
  have k256 : f k < 256 := hf k
  have k256z : (f k : Int) < 256 := by omega
  have hc0 := hTr.1 (f k) (hf k)
  have HC : Hid (∀ ob j, j < m → ∀ y, f (k + j) = y → (wr.alloc ob).cell? ⟨b, o + k + j, none⟩ = some (.int .u8 y)) := hide' (fun ob j hj y hy => by
    have := ((hp.below hbw (Nat.le_refl _)).below ((Below.refl wr.heap.size wr).alloc (Nat.le_refl _) ob) (Nat.le_refl _)) (k + j) (by omega)
    rw [← Nat.add_assoc] at this
    rw [← hy]
    exact this)
  have hXlt := Lx.first_lt (f k)
  obtain ⟨X, hX⟩ : ∃ X, Lib.firstT (f k) = X := ⟨_, rfl⟩
  rw [hX] at hc0 hXlt
  have h7 := Lx.and_seven ⟨X, hXlt⟩
  simp only at h7
  have ha0 : wr.cell? ⟨2, X / 16 * 2, none⟩ = some (.int .u8 (Lib.accLo (X / 16))) := by rw [Nat.mul_comm]; exact (hTr.2 (X / 16) (by omega)).1
  have ha1 : wr.cell? ⟨2, X / 16 * 2 + 1, none⟩ = some (.int .u8 (Lib.accHi (X / 16))) := by rw [Nat.mul_comm]; exact (hTr.2 (X / 16) (by omega)).2
  obtain ⟨LO, hLO⟩ : ∃ LO, Lib.accLo (X / 16) = LO := ⟨_, rfl⟩
  obtain ⟨HI, hHI⟩ : ∃ HI, Lib.accHi (X / 16) = HI := ⟨_, rfl⟩
  rw [hLO] at ha0
  rw [hHI] at ha1
  obtain ⟨y1, hy1⟩ : ∃ y, f (k + 1) = y := ⟨_, rfl⟩
  obtain ⟨y2, hy2⟩ : ∃ y, f (k + 2) = y := ⟨_, rfl⟩
  obtain ⟨y3, hy3⟩ : ∃ y, f (k + 3) = y := ⟨_, rfl⟩
  have m1 := hf (k + 1)
  have m2 := hf (k + 2)
  have m3 := hf (k + 3)
  rw [hy1] at m1
  rw [hy2] at m2
  rw [hy3] at m3
  have HX := hide' hX
  have HLO := hide' hLO
  have HHI := hide' hHI
  have HY1 := hide' hy1
  have HY2 := hide' hy2
  have HY3 := hide' hy3
  clear hTr hT hX hLO hHI hy1 hy2 hy3 hp
  have s2 : X % 8 = 2 := by rw [← HX.out]; exact s2
  have hSZ : (X : Int) % 8 = 2 := by omega
  have hlead : Lx.V f n k = if (m < 2 ∨ y1 < LO ∨ HI < y1) then false else Lx.V f n (k + 2) := by
    have := Lx.V_two hf (show k < n by omega) (show 128 ≤ f k by omega) (by rw [HX.out]; exact s2)
    rw [HX.out, HLO.out, HHI.out, show n - k = m by omega, HY1.out] at this
    exact this
  rw [hv] at hlead
  have HL := hide' hlead
  clear hlead hv s2
  go_upto_region 18 with fail
  go_cut [103] from 85 to 103 (fun c wx => c = .bool (decide (m < 2 ∨ y1 < LO ∨ HI < y1)) ∧ Below w.heap.size w wx)
  case first =>
    by_cases q0 : m < 2
    · have r0 : (m : Int) < 2 := by omega
      go_quiet (fail)
      go_wp2
      go_meet
      exact ⟨congrArg Value.bool (decide_eq_true (p := m < 2 ∨ y1 < LO ∨ HI < y1) (by omega)).symm, below_drewN (hbw.alloc hbw.size _) _⟩
    · have r0 : ¬ (m : Int) < 2 := by omega
      have z1 : (1 : Int) < (m : Int) := by omega
      have d1 : ∀ ob, (wr.alloc ob).cell? ⟨b, o + k + 1, none⟩ = some (.int .u8 y1) := fun ob => HC.out ob 1 (by omega) y1 HY1.out
      by_cases q1 : y1 < LO
      · have r1 : (y1 : Int) < (LO : Int) := by omega
        go_quiet (fail)
        go_wp2
        go_meet
        exact ⟨congrArg Value.bool (decide_eq_true (p := m < 2 ∨ y1 < LO ∨ HI < y1) (by omega)).symm, below_drewN (hbw.alloc hbw.size _) _⟩
      · have r1 : ¬ (y1 : Int) < (LO : Int) := by omega
        by_cases q2 : HI < y1
        · have r2 : (HI : Int) < (y1 : Int) := by omega
          go_quiet (fail)
          go_wp2
          go_meet
          exact ⟨congrArg Value.bool (decide_eq_true (p := m < 2 ∨ y1 < LO ∨ HI < y1) (by omega)).symm, below_drewN (hbw.alloc hbw.size _) _⟩
        · have r2 : ¬ (HI : Int) < (y1 : Int) := by omega
          go_quiet (fail)
          go_wp2
          go_meet
          exact ⟨congrArg Value.bool (decide_eq_false (p := m < 2 ∨ y1 < LO ∨ HI < y1) (by omega)).symm, below_drewN (hbw.alloc hbw.size _) _⟩
  case rest =>
    obtain ⟨rfl, hbc⟩ := hcut
    have hlead := HL.out
    clear HL
    by_cases hb : m < 2 ∨ y1 < LO ∨ HI < y1
    · have hbd : decide (m < 2 ∨ y1 < LO ∨ HI < y1) = true := decide_eq_true hb
      rw [if_pos hb] at hlead
      subst hlead
      go_wp2
      apply hx2
      · exact hbc
      · first | rfl | trivial
    · have hbd : decide (m < 2 ∨ y1 < LO ∨ HI < y1) = false := decide_eq_false hb
      rw [if_neg hb] at hlead
      have HLL := hide' hlead
      clear hlead
      have sz1 : (2 : Int) ≤ (m : Int) := by omega
      have esz : (m : Int) - 2 = ((m - 2 : Nat) : Int) := by omega
      by_cases me : m = 2
      · subst me
        go_wp2
        refine ⟨⟨_, _, _, _, _, _, _, _, _, _, _, _, _, _, _, _, _, _, _, _, _, _, _, _, _, _, _, _, _, _, _, _, _, _, _, _, _, _, _, _, _, _, _, _, _, _, _, _, _, _, _, _, _, _, _, _, _, _, _, _, _, _, _, _, _, _, _, _, _, _, _, _, _, _, _, _, _, _, _, _, _, _, _, _, _, _, _, _, _, _, _, _, _, _, _, _, _, _, _, _, _, _, _, _, _, _, _, _, _, _, _, _, _, _, _, _, _, _, _, _, _, _, _, _, _, _, _, _, _, _, _, _, _, _, _, _, _, _, _, _, _, _, _, _, _, _, _, _, _, _, _, _, _, _, _, _, _, _, _, _, _, _, _, _, _, _, _, _, _, _, _, _, _, _, _, _, _, _, _, _, _, _, _, _, _, _, _, _, ?_, rfl⟩, ?_⟩
        · exact ⟨k + 2, o + k, 0, rfl, by omega, fun h => by omega, HLL.out.symm, hbc⟩
        · exact (by show 0 < 2; omega)
      · have me' : ¬ m - 2 = 0 := by omega
        go_wp2
        refine ⟨⟨_, _, _, _, _, _, _, _, _, _, _, _, _, _, _, _, _, _, _, _, _, _, _, _, _, _, _, _, _, _, _, _, _, _, _, _, _, _, _, _, _, _, _, _, _, _, _, _, _, _, _, _, _, _, _, _, _, _, _, _, _, _, _, _, _, _, _, _, _, _, _, _, _, _, _, _, _, _, _, _, _, _, _, _, _, _, _, _, _, _, _, _, _, _, _, _, _, _, _, _, _, _, _, _, _, _, _, _, _, _, _, _, _, _, _, _, _, _, _, _, _, _, _, _, _, _, _, _, _, _, _, _, _, _, _, _, _, _, _, _, _, _, _, _, _, _, _, _, _, _, _, _, _, _, _, _, _, _, _, _, _, _, _, _, _, _, _, _, _, _, _, _, _, _, _, _, _, _, _, _, _, _, _, _, _, _, _, _, ?_, rfl⟩, ?_⟩
        · exact ⟨k + 2, o + k + 2, m - 2, rfl, by omega, fun _ => by omega, HLL.out.symm, hbc⟩
        · exact (by show m - 2 < m; omega)
end Go.Proofs.YtcnagbkdckipnaaGreatDoor
/-
  THE WALK over utf8.Valid: one case of its round.
-/
namespace Go.Proofs.YtcnagbkdckipnaaGreatDoor
open Go.RowKit Go.Lib

set_option maxRecDepth 1000000 in
set_option maxHeartbeats 16000000 in
theorem valid_h3 {f : Nat → Nat} {n b o : Nat} {w : World} {ANS : Bool} {Q0 : Exit → Act → World → Prop} (hT : Lib.Utf8Tabs 1 2 w) (hf : ∀ j, f j < 256) (hp : Bytes w b o n f) (hx : Lx.Vx w ANS Q0)
    (k m : Nat) (wr : World) (hkm : k + m = n) (h0 : 0 < m) (hv : Lx.V f n k = ANS) (hbw : Below w.heap.size w wr) (u1 u2 u3 u4 u5 u6 u7 u8 u9 u10 u11 u12 u13 u14 u15 u16 u17 u18 u19 u20 u21 u22 u23 u24 u25 u26 u27 u28 u29 u30 u31 u32 u33 u34 u35 u36 u37 u38 u39 u40 u41 u42 u43 u44 u45 u46 u47 u48 u49 u50 u51 u52 u53 u54 u55 u56 u57 u58 u59 u60 u61 u62 u63 u64 u65 u66 u67 u68 u69 u70 u71 u72 u73 u74 u75 u76 u77 u78 u79 u80 u81 u82 u83 u84 u85 u86 u87 u88 u89 u90 u91 u92 u93 u94 u95 u96 u97 u98 u99 u100 u101 u102 u103 u104 u105 u106 u107 u108 u109 u110 u111 u112 u113 u114 u115 u116 u117 u118 u119 u120 u121 u122 u123 u124 u125 u126 u127 u128 u129 u130 u131 u132 u133 u134 u135 u136 u137 u138 u139 u140 u141 u142 u143 u144 u145 u146 u147 u148 u149 u150 u151 u152 u153 u154 u155 u156 u157 u158 u159 u160 u161 u162 u163 u164 u165 u166 u167 u168 u169 u170 u171 u172 u173 u174 u175 u176 u177 u178 u179 u180 u181 u182 u183 u184 u185 u186 u187 : Value) (hlow : ¬ f k < 128) (s3 : Lib.firstT (f k) % 8 = 3) :
    Code.wp Tryz.prog ((Tryz.f32.body.bind Lx.lp).getD .skip) (Exit.then (fun a' w' => Lx.VI w b o n f ANS a' w' ∧ Lx.Vmu a' w' < Lx.Vmu ⟨(.slice (some ⟨b, o + k, none⟩) m m :: u1 :: u2 :: u3 :: u4 :: u5 :: u6 :: u7 :: u8 :: u9 :: u10 :: u11 :: u12 :: u13 :: u14 :: u15 :: u16 :: u17 :: u18 :: u19 :: u20 :: u21 :: u22 :: u23 :: u24 :: u25 :: u26 :: u27 :: u28 :: u29 :: u30 :: u31 :: u32 :: u33 :: u34 :: u35 :: u36 :: u37 :: u38 :: u39 :: u40 :: u41 :: u42 :: u43 :: u44 :: u45 :: u46 :: u47 :: u48 :: u49 :: u50 :: u51 :: u52 :: u53 :: u54 :: u55 :: u56 :: u57 :: u58 :: u59 :: u60 :: u61 :: u62 :: u63 :: u64 :: u65 :: u66 :: u67 :: u68 :: u69 :: u70 :: u71 :: u72 :: u73 :: u74 :: u75 :: u76 :: u77 :: u78 :: u79 :: u80 :: u81 :: u82 :: u83 :: u84 :: u85 :: u86 :: u87 :: u88 :: u89 :: u90 :: u91 :: u92 :: u93 :: u94 :: u95 :: u96 :: u97 :: u98 :: u99 :: u100 :: u101 :: u102 :: u103 :: u104 :: u105 :: u106 :: u107 :: u108 :: u109 :: u110 :: u111 :: u112 :: u113 :: u114 :: u115 :: u116 :: u117 :: u118 :: u119 :: u120 :: u121 :: u122 :: u123 :: u124 :: u125 :: u126 :: u127 :: u128 :: u129 :: u130 :: u131 :: u132 :: u133 :: u134 :: u135 :: u136 :: u137 :: u138 :: u139 :: u140 :: u141 :: u142 :: u143 :: u144 :: u145 :: u146 :: u147 :: u148 :: u149 :: u150 :: u151 :: u152 :: u153 :: u154 :: u155 :: u156 :: u157 :: u158 :: u159 :: u160 :: u161 :: u162 :: u163 :: u164 :: u165 :: u166 :: u167 :: u168 :: u169 :: u170 :: u171 :: u172 :: u173 :: u174 :: u175 :: u176 :: u177 :: u178 :: u179 :: u180 :: u181 :: u182 :: u183 :: u184 :: u185 :: u186 :: u187 :: []).toArray, []⟩ wr) Q0) ⟨(.slice (some ⟨b, o + k, none⟩) m m :: u1 :: u2 :: u3 :: u4 :: u5 :: u6 :: u7 :: u8 :: u9 :: u10 :: u11 :: u12 :: u13 :: u14 :: u15 :: u16 :: u17 :: u18 :: u19 :: u20 :: u21 :: u22 :: u23 :: u24 :: u25 :: u26 :: u27 :: u28 :: u29 :: u30 :: u31 :: u32 :: u33 :: u34 :: u35 :: u36 :: u37 :: u38 :: u39 :: u40 :: u41 :: u42 :: u43 :: u44 :: u45 :: u46 :: u47 :: u48 :: u49 :: u50 :: u51 :: u52 :: u53 :: u54 :: u55 :: u56 :: u57 :: u58 :: u59 :: u60 :: u61 :: u62 :: u63 :: u64 :: u65 :: u66 :: u67 :: u68 :: u69 :: u70 :: u71 :: u72 :: u73 :: u74 :: u75 :: u76 :: u77 :: u78 :: u79 :: u80 :: u81 :: u82 :: u83 :: u84 :: u85 :: u86 :: u87 :: u88 :: u89 :: u90 :: u91 :: u92 :: u93 :: u94 :: u95 :: u96 :: u97 :: u98 :: u99 :: u100 :: u101 :: u102 :: u103 :: u104 :: u105 :: u106 :: u107 :: u108 :: u109 :: u110 :: u111 :: u112 :: u113 :: u114 :: u115 :: u116 :: u117 :: u118 :: u119 :: u120 :: u121 :: u122 :: u123 :: u124 :: u125 :: u126 :: u127 :: u128 :: u129 :: u130 :: u131 :: u132 :: u133 :: u134 :: u135 :: u136 :: u137 :: u138 :: u139 :: u140 :: u141 :: u142 :: u143 :: u144 :: u145 :: u146 :: u147 :: u148 :: u149 :: u150 :: u151 :: u152 :: u153 :: u154 :: u155 :: u156 :: u157 :: u158 :: u159 :: u160 :: u161 :: u162 :: u163 :: u164 :: u165 :: u166 :: u167 :: u168 :: u169 :: u170 :: u171 :: u172 :: u173 :: u174 :: u175 :: u176 :: u177 :: u178 :: u179 :: u180 :: u181 :: u182 :: u183 :: u184 :: u185 :: u186 :: u187 :: []).toArray, []⟩ wr := by
  have h0z : (0 : Int) < m := by omega
  have hb0 : wr.cell? ⟨b, o + k, none⟩ = some (.int .u8 (f k)) := (hp.below hbw (Nat.le_refl _)) k (by omega)
  obtain ⟨hx1, hx2⟩ := hx
  conv => arg 2; whnf
  have hge : 128 ≤ f k := by omega
  have hlz : ¬ (f k : Int) < 128 := by omega
  have hTr := tabs_below hT hbw (Nat.le_refl _)
  have k256 : f k < 256 := hf k
  have k256z : (f k : Int) < 256 := by omega
  have hc0 := hTr.1 (f k) (hf k)
  have HC : Hid (∀ ob j, j < m → ∀ y, f (k + j) = y → (wr.alloc ob).cell? ⟨b, o + k + j, none⟩ = some (.int .u8 y)) := hide' (fun ob j hj y hy => by
    have := ((hp.below hbw (Nat.le_refl _)).below ((Below.refl wr.heap.size wr).alloc (Nat.le_refl _) ob) (Nat.le_refl _)) (k + j) (by omega)
    rw [← Nat.add_assoc] at this
    rw [← hy]
    exact this)
  have hXlt := Lx.first_lt (f k)
  obtain ⟨X, hX⟩ : ∃ X, Lib.firstT (f k) = X := ⟨_, rfl⟩
  rw [hX] at hc0 hXlt
  have h7 := Lx.and_seven ⟨X, hXlt⟩
  simp only at h7
  have ha0 : wr.cell? ⟨2, X / 16 * 2, none⟩ = some (.int .u8 (Lib.accLo (X / 16))) := by rw [Nat.mul_comm]; exact (hTr.2 (X / 16) (by omega)).1
  have ha1 : wr.cell? ⟨2, X / 16 * 2 + 1, none⟩ = some (.int .u8 (Lib.accHi (X / 16))) := by rw [Nat.mul_comm]; exact (hTr.2 (X / 16) (by omega)).2
  obtain ⟨LO, hLO⟩ : ∃ LO, Lib.accLo (X / 16) = LO := ⟨_, rfl⟩
  obtain ⟨HI, hHI⟩ : ∃ HI, Lib.accHi (X / 16) = HI := ⟨_, rfl⟩
  rw [hLO] at ha0
  rw [hHI] at ha1
  obtain ⟨y1, hy1⟩ : ∃ y, f (k + 1) = y := ⟨_, rfl⟩
  obtain ⟨y2, hy2⟩ : ∃ y, f (k + 2) = y := ⟨_, rfl⟩
  obtain ⟨y3, hy3⟩ : ∃ y, f (k + 3) = y := ⟨_, rfl⟩
  have m1 := hf (k + 1)
  have m2 := hf (k + 2)
  have m3 := hf (k + 3)
  rw [hy1] at m1
  rw [hy2] at m2
  rw [hy3] at m3
  have HX := hide' hX
  have HLO := hide' hLO
  have HHI := hide' hHI
  have HY1 := hide' hy1
  have HY2 := hide' hy2
  have HY3 := hide' hy3
  clear hTr hT hX hLO hHI hy1 hy2 hy3 hp
  have s3 : X % 8 = 3 := by rw [← HX.out]; exact s3
  have hSZ : (X : Int) % 8 = 3 := by omega
  have hlead : Lx.V f n k = if (m < 3 ∨ y1 < LO ∨ HI < y1 ∨ y2 < 128 ∨ 191 < y2) then false else Lx.V f n (k + 3) := by
    have := Lx.V_three hf (show k < n by omega) (show 128 ≤ f k by omega) (by rw [HX.out]; exact s3)
    rw [HX.out, HLO.out, HHI.out, show n - k = m by omega, HY1.out, HY2.out] at this
    exact this
  rw [hv] at hlead
  have HL := hide' hlead
  clear hlead hv s3
  go_upto_region 22 with fail
  go_cut [138] from 108 to 138 (fun c wx => c = .bool (decide (m < 3 ∨ y1 < LO ∨ HI < y1 ∨ y2 < 128 ∨ 191 < y2)) ∧ Below w.heap.size w wx)
  case first =>
    by_cases q0 : m < 3
    · have r0 : (m : Int) < 3 := by omega
      go_quiet (fail)
      go_wp2
      go_meet
      exact ⟨congrArg Value.bool (decide_eq_true (p := m < 3 ∨ y1 < LO ∨ HI < y1 ∨ y2 < 128 ∨ 191 < y2) (by omega)).symm, below_drewN (hbw.alloc hbw.size _) _⟩
    · have r0 : ¬ (m : Int) < 3 := by omega
      have z1 : (1 : Int) < (m : Int) := by omega
      have d1 : ∀ ob, (wr.alloc ob).cell? ⟨b, o + k + 1, none⟩ = some (.int .u8 y1) := fun ob => HC.out ob 1 (by omega) y1 HY1.out
      have z2 : (2 : Int) < (m : Int) := by omega
      have d2 : ∀ ob, (wr.alloc ob).cell? ⟨b, o + k + 2, none⟩ = some (.int .u8 y2) := fun ob => HC.out ob 2 (by omega) y2 HY2.out
      by_cases q1 : y1 < LO
      · have r1 : (y1 : Int) < (LO : Int) := by omega
        go_quiet (fail)
        go_wp2
        go_meet
        exact ⟨congrArg Value.bool (decide_eq_true (p := m < 3 ∨ y1 < LO ∨ HI < y1 ∨ y2 < 128 ∨ 191 < y2) (by omega)).symm, below_drewN (hbw.alloc hbw.size _) _⟩
      · have r1 : ¬ (y1 : Int) < (LO : Int) := by omega
        by_cases q2 : HI < y1
        · have r2 : (HI : Int) < (y1 : Int) := by omega
          go_quiet (fail)
          go_wp2
          go_meet
          exact ⟨congrArg Value.bool (decide_eq_true (p := m < 3 ∨ y1 < LO ∨ HI < y1 ∨ y2 < 128 ∨ 191 < y2) (by omega)).symm, below_drewN (hbw.alloc hbw.size _) _⟩
        · have r2 : ¬ (HI : Int) < (y1 : Int) := by omega
          by_cases q3 : y2 < 128
          · have r3 : (y2 : Int) < 128 := by omega
            go_quiet (fail)
            go_wp2
            go_meet
            exact ⟨congrArg Value.bool (decide_eq_true (p := m < 3 ∨ y1 < LO ∨ HI < y1 ∨ y2 < 128 ∨ 191 < y2) (by omega)).symm, below_drewN (hbw.alloc hbw.size _) _⟩
          · have r3 : ¬ (y2 : Int) < 128 := by omega
            by_cases q4 : 191 < y2
            · have r4 : (191 : Int) < (y2 : Int) := by omega
              go_quiet (fail)
              go_wp2
              go_meet
              exact ⟨congrArg Value.bool (decide_eq_true (p := m < 3 ∨ y1 < LO ∨ HI < y1 ∨ y2 < 128 ∨ 191 < y2) (by omega)).symm, below_drewN (hbw.alloc hbw.size _) _⟩
            · have r4 : ¬ (191 : Int) < (y2 : Int) := by omega
              go_quiet (fail)
              go_wp2
              go_meet
              exact ⟨congrArg Value.bool (decide_eq_false (p := m < 3 ∨ y1 < LO ∨ HI < y1 ∨ y2 < 128 ∨ 191 < y2) (by omega)).symm, below_drewN (hbw.alloc hbw.size _) _⟩
  case rest =>
    obtain ⟨rfl, hbc⟩ := hcut
    have hlead := HL.out
    clear HL
    by_cases hb : m < 3 ∨ y1 < LO ∨ HI < y1 ∨ y2 < 128 ∨ 191 < y2
    · have hbd : decide (m < 3 ∨ y1 < LO ∨ HI < y1 ∨ y2 < 128 ∨ 191 < y2) = true := decide_eq_true hb
      rw [if_pos hb] at hlead
      subst hlead
      go_wp2
      apply hx2
      · exact hbc
      · first | rfl | trivial
    · have hbd : decide (m < 3 ∨ y1 < LO ∨ HI < y1 ∨ y2 < 128 ∨ 191 < y2) = false := decide_eq_false hb
      rw [if_neg hb] at hlead
      have HLL := hide' hlead
      clear hlead
      have sz1 : (3 : Int) ≤ (m : Int) := by omega
      have esz : (m : Int) - 3 = ((m - 3 : Nat) : Int) := by omega
      by_cases me : m = 3
      · subst me
        go_wp2
        refine ⟨⟨_, _, _, _, _, _, _, _, _, _, _, _, _, _, _, _, _, _, _, _, _, _, _, _, _, _, _, _, _, _, _, _, _, _, _, _, _, _, _, _, _, _, _, _, _, _, _, _, _, _, _, _, _, _, _, _, _, _, _, _, _, _, _, _, _, _, _, _, _, _, _, _, _, _, _, _, _, _, _, _, _, _, _, _, _, _, _, _, _, _, _, _, _, _, _, _, _, _, _, _, _, _, _, _, _, _, _, _, _, _, _, _, _, _, _, _, _, _, _, _, _, _, _, _, _, _, _, _, _, _, _, _, _, _, _, _, _, _, _, _, _, _, _, _, _, _, _, _, _, _, _, _, _, _, _, _, _, _, _, _, _, _, _, _, _, _, _, _, _, _, _, _, _, _, _, _, _, _, _, _, _, _, _, _, _, _, _, _, ?_, rfl⟩, ?_⟩
        · exact ⟨k + 3, o + k, 0, rfl, by omega, fun h => by omega, HLL.out.symm, hbc⟩
        · exact (by show 0 < 3; omega)
      · have me' : ¬ m - 3 = 0 := by omega
        go_wp2
        refine ⟨⟨_, _, _, _, _, _, _, _, _, _, _, _, _, _, _, _, _, _, _, _, _, _, _, _, _, _, _, _, _, _, _, _, _, _, _, _, _, _, _, _, _, _, _, _, _, _, _, _, _, _, _, _, _, _, _, _, _, _, _, _, _, _, _, _, _, _, _, _, _, _, _, _, _, _, _, _, _, _, _, _, _, _, _, _, _, _, _, _, _, _, _, _, _, _, _, _, _, _, _, _, _, _, _, _, _, _, _, _, _, _, _, _, _, _, _, _, _, _, _, _, _, _, _, _, _, _, _, _, _, _, _, _, _, _, _, _, _, _, _, _, _, _, _, _, _, _, _, _, _, _, _, _, _, _, _, _, _, _, _, _, _, _, _, _, _, _, _, _, _, _, _, _, _, _, _, _, _, _, _, _, _, _, _, _, _, _, _, _, ?_, rfl⟩, ?_⟩
        · exact ⟨k + 3, o + k + 3, m - 3, rfl, by omega, fun _ => by omega, HLL.out.symm, hbc⟩
        · exact (by show m - 3 < m; omega)
end Go.Proofs.YtcnagbkdckipnaaGreatDoor
