import Derived.Test.YteiiepjegdlbeaaDoorScShelf
import Derived.Test.YteiiepjegdlbeaaDoorRnAt
import Derived.Test.YteiiepjegdlbeaaDoorRnCat
import Derived.Lib.IndexAny
import Derived.Laws.Runes
import Derived.BigQuiet
import Derived.WalkMore
set_option maxHeartbeats 4000000
set_option maxRecDepth 100000
namespace Go.Proofs.YteiiepjegdlbeaaDoor
open Go.RowKit Go.Lib
namespace Sc
theorem validRune_any (r:Nat) (hr:Rn.scal r) (w:World) :
 Calls Tryd.prog 88 #[.int .i32 r] w fun e w' => e = .returned (.bool true) /\ w'=w:=by
 obtain ⟨h1,h2⟩:=hr
 by_cases c:r < 55296
 . have i1:(0:Int) <= r:=by omega
   have i2:(r:Int) < 55296:=by omega
   go_enter Tryd.func88,Tryd.ntmps88
   go_wp2
   go_ret
   exact ⟨rfl,rfl⟩
 . have i1:(0:Int) <= r:=by omega
   have i2 : ¬ (r:Int) < 55296:=by omega
   have i3:(57343:Int) < r:=by omega
   have i4:(r:Int) <= 1114111:=by omega
   go_enter Tryd.func88,Tryd.ntmps88
   go_wp2
   go_ret
   exact ⟨rfl,rfl⟩
theorem indexRune_high (l:List UInt8) (hl : ∀ b ∈ l,b.toNat < 128) (r:Nat) (hr:Rn.scal r) (h0:128 <= r) (h1:r ≠ 65533) (w:World) :
 Calls Tryd.prog 74 #[.string ⟨l.toArray⟩, .int .i32 r] w fun e w' => e = .returned (.int .i64 (-1)) /\ Below w.heap.size w w':=by
 have cV:=validRune_any r hr w
 have hv:Utf8.valid (r:Int)=true:=by
  obtain ⟨h1,h2⟩:=hr
  unfold Utf8.valid
  simp
  omega
 obtain ⟨e1,e2,e3⟩:=encode_facts (r:Int) hv (by omega)
 have i0 : ¬ (r:Int) < 128:=by omega
 have i1:(0:Int) <= r:=by omega
 have i2:((r:Int) == 65533)=false:=by simp; omega
 obtain ⟨m,hm⟩ : ∃ m,(Utf8.encode (r:Int)).size=m + 1:=⟨(Utf8.encode (r:Int)).size - 1,by omega⟩
 have hconv:=fun (W:World) => run_convert_int_string (P:=Tryd.prog) W 21 9 .i32 (r:Int) (by rw [Tryd.underlying21]; rfl) Tryd.underlying9
 generalize Utf8.encode (r:Int)=E at *
 go_enter Tryd.func74,Tryd.ntmps74
 go_wp2_with fail
 refine cV.mono ?_
 rintro e w1 ⟨rfl,rfl⟩
 obtain ⟨b,hb⟩ : ∃ b:UInt8,E[E.size - 1]? = some b /\ 128 <= b.toNat:=⟨E[E.size - 1]'(by omega),by simp,e3 (by omega)⟩
 clear cV e3
 go_wp2_with fail
 go_step3
 go_wp2_with fail
 go_loopw [9] (fun i wr => i = .int .i64 ((m:Int)) /\ wr=w1) (fun _ _ => 0)
 case atStart => exact ⟨rfl,rfl⟩
 case round =>
  obtain ⟨rfl,rfl⟩:=hrel
  by_cases hlt:m < l.length
  . have k1:(m:Int) < l.length:=by omega
    have k0:(0:Int) <= (m:Int):=by omega
    have k2:(m:Int).toNat=m:=by omega
    obtain ⟨c,hc⟩ : ∃ c:UInt8,l[m]? = some c /\ c.toNat < 128:=⟨l[m],by simp [hlt],hl _ (List.getElem_mem hlt)⟩
    have x1 : ∀ W:World,(Instr.index 9 (.string ⟨l.toArray⟩) (.int .i64 ((m:Int)))).run Tryd.prog W = .ok (.int .u8 (c.toNat:Nat)) W:=by
     intro W
     rw [run_index_string W 9 _ .i64 _ Tryd.underlying9]
     have hs:(⟨l.toArray⟩ : ByteArray).size=l.length:=by simp [ByteArray.size]
     rw [dif_pos ⟨k0,by rw [hs]; exact k1⟩]
     have:(⟨l.toArray⟩ : ByteArray)[(m:Int).toNat]'(by rw [hs]; omega)=c:=by
      have h2:=hc.1
      rw [List.getElem?_eq_getElem hlt] at h2
      have h3:=Option.some.inj h2
      rw [<- h3]
      simp only [k2]
      rfl
     rw [this]
    have x2 : ∀ W:World,(Instr.index 9 (.string E) (.int .i64 ((m:Int)))).run Tryd.prog W = .ok (.int .u8 (b.toNat:Nat)) W:=by
     intro W
     rw [run_index_string W 9 _ .i64 _ Tryd.underlying9]
     rw [dif_pos ⟨k0,by omega⟩]
     have:E[(m:Int).toNat]'(by omega)=b:=by
      have h2:=hb.1
      rw [ByteArray.getElem?_lt' E _ (by omega)] at h2
      have h3:=Option.some.inj h2
      rw [<- h3]
      simp only [k2,hm,Nat.add_sub_cancel]
     rw [this]
    have x3:((c.toNat:Int) == (b.toNat:Int))=false:=by
     have:=hc.2
     have:=hb.2
     simp
     omega
    have HB:=hide' hb
    have HC:=hide' hc
    have HM:=hide' hm
    have HL:=hide' hl
    have HLT:=hide' hlt
    have HE2:=hide' e2
    clear hb hc hm e1 e2 hconv hl hr h0 h1 hv k2 hlt i0 i1 i2
    go_wp2_with fail
    go_step3
    go_wp2_with fail
    go_quiet (fail)
    clear x1 k0 k1
    have HBel:Hid (Below wr.heap.size wr (wr.drewN nq)):=below_drewN (Below.refl _ _) _
    generalize wr.drewN nq=W1 at HBel ⊢
    go_wp2_with fail
    have y1:(m:Int) + 1 <= (l.length:Int):=by have:=HLT.out; omega
    have y2:(0:Int) <= (m:Int) + 1:=by omega
    have y3:((m:Int) + 1).toNat=m + 1:=by omega
    have y4:IntKind.i64.wrap ((m:Int) + 1)=(m:Int) + 1:=by
     have h1:=HE2.out
     have h2:=HM.out
     rw [IntKind.wrap_i64]
     omega
    have cIB : ∀ (x:ByteArray) (W:World),(∀ z ∈ x.data.toList,z ∈ l) -> Calls Tryd.prog 70 #[.string x, .int .u8 (b.toNat:Nat)] W fun e w' => e = .returned (.int .i64 (-1)) /\ w'=W:=by
     intro x W hx
     refine (Tryd.strings_IndexByte x (b.toNat:Nat) W).mono ?_
     rintro e w' ⟨rfl,rfl⟩
     have:Lib.indexByte x.data.toList ((b.toNat:Int)).toNat.toUInt8 = -1:=by
      rcases Int.lt_or_le (Lib.indexByte x.data.toList ((b.toNat:Int)).toNat.toUInt8) 0 with h | h
      . have:=Lib.indexByte_ge x.data.toList ((b.toNat:Int)).toNat.toUInt8
        omega
      . exfalso
        have h2:=(Lib.contains_iff_indexByte x.data.toList ((b.toNat:Int)).toNat.toUInt8)
        rw [decide_eq_true h] at h2
        have h3:((b.toNat:Int)).toNat.toUInt8 ∈ x.data.toList:=by simpa using h2
        have h4:=HL.out _ (hx _ h3)
        have h5:=HB.out.2
        simp at h4
        omega
     rw [this]
     exact ⟨rfl,rfl⟩
    have hx : ∀ z ∈ ((⟨l.toArray⟩ : ByteArray).extract (m + 1) l.length).data.toList,z ∈ l:=by
     intro z hz
     rw [ByteArray.data_extract] at hz
     simp only [Array.toList_extract,List.extract_eq_take_drop,List.toList_toArray] at hz
     exact List.mem_of_mem_drop (List.mem_of_mem_take hz)
    have cI2:=fun W => cIB _ W hx
    clear cIB hx
    go_quiet (first | (go_at_call 70; exact Calls.quiet_of_same (cI2 _)))
    go_wp2_with fail
    show bodyPost Tryd.prog Tryd.f74 (fun e w' => e=Ending.returned (Value.int IntKind.i64 (-1)) /\ Below wr.heap.size wr w') Exit.ret _ _
    refine bodyPost_ret (v := .int .i64 (-1)) (by simp [results,Tryd.results74,go_sem]) rfl ?_
    exact ⟨rfl,HBel.out.trans (below_drewN (Below.refl _ _) _)⟩
  . have k1 : ¬ (m:Int) < l.length:=by omega
    clear hb hm e1 e2 hconv hl hr h0 h1 hv hlt i0 i1 i2
    go_wp2_with fail
    go_ret
    exact ⟨rfl,Below.refl _ _⟩
theorem dec_low (f:Nat -> Nat) (n:Nat) (hf : ∀ j,f j < 256) (hn:0 < n) (h:f 0 < 128) : Rn.dec f n=(f 0,1):=by
 have e:=encodeRuneZ_one (r:=(f 0:Int)) (by omega) (by omega)
 have h1:Rn.el ((f 0:Nat) : Int)=1:=by simp [Rn.el,e]
 have h2:=Rn.dec_enc (f 0) (by unfold Rn.scal; omega) f n hf (by omega) (fun j hj => by
  obtain rfl:j=0:=by omega
  simp [Rn.eb,e])
 rw [h1] at h2
 exact h2
theorem indexRune_bad (l:List UInt8) (hl : ∀ b ∈ l,b.toNat < 128) (w:World) :
 Calls Tryd.prog 74 #[.string ⟨l.toArray⟩, .int .i32 65533] w fun e w' => e = .returned (.int .i64 (-1)) /\ Below w.heap.size w w':=by
 rw [<- Rn.arr_lf l]
 have hf : ∀ j,Rn.lf l j < 256:=Rn.lf_lt l
 have hlow : ∀ j,j < l.length -> Rn.lf l j < 128:=fun j hj => by
  have:=hl (l[j]) (List.getElem_mem hj)
  simp [Rn.lf,hj]
  exact this
 generalize Rn.lf l=f at *
 generalize l.length=n at *
 clear hl
 go_enter Tryd.func74,Tryd.ntmps74
 go_wp2_with fail
 go_loopw [] (fun wr => ∃ pos,pos <= n /\ wr=w.alloc (.stringIter (Rn.arr f n) pos)) (fun wr => n - wr.iterPos w.heap.size)
 case atStart => exact ⟨0,Nat.zero_le _,rfl⟩
 case round =>
  obtain ⟨pos,hpos,rfl⟩:=hrel
  by_cases hlt:pos < n
  . have hnx:=fun ty => next_alloc w _ rfl f n pos hf hlt ty
    have h128:f pos < 128:=hlow pos hlt
    rw [dec_low (Rn.off f pos) (n - pos) (fun j => hf _) (by omega) (by show f (pos + 0) < 128; rw [Nat.add_zero]; exact h128)] at hnx
    have hof:Rn.off f pos 0=f pos:=rfl
    simp only [hof] at hnx
    have i1:((f pos:Int) == 65533)=false:=by simp; omega
    have HL:=hide' hlt
    clear hlow hof hlt h128
    go_wp2_with fail
    go_roundw
    case rel => exact ⟨pos + 1,by have:=HL.out; omega,rfl⟩
    case measure =>
     rw [iterPos_alloc _ _ _ _ rfl,iterPos_alloc _ _ _ _ rfl]
     have:=HL.out
     omega
  . have hnx:=fun ty => next_alloc_end w _ rfl f n pos hlt ty
    clear hlow hlt
    go_wp2_with fail
    go_ret
    exact ⟨rfl,(Below.refl _ _).alloc (Nat.le_refl _) _⟩
theorem containsRune_none (sg:List UInt8) (r:Nat) (hr:Rn.scal r) (hs : ∀ b ∈ sg,b.toNat < 128) (h:128 <= r) (w:World) :
 Calls Tryd.prog 63 #[.string ⟨sg.toArray⟩, .int .i32 r] w fun e w' => e = .returned (.bool false) /\ Below w.heap.size w w':=by
 have cI:Calls Tryd.prog 74 #[.string ⟨sg.toArray⟩, .int .i32 r] w fun e w' => e = .returned (.int .i64 (-1)) /\ Below w.heap.size w w':=by
  by_cases e:r=65533
  . subst e
    exact indexRune_bad sg hs w
  . exact indexRune_high sg hs r hr h e w
 clear hs hr h
 go_enter Tryd.func63,Tryd.ntmps63
 go_wp2_with fail
 refine cI.mono ?_
 rintro e w1 ⟨rfl,hb⟩
 clear cI
 go_wp2_with fail
 go_ret
 exact ⟨rfl,hb⟩
end Sc
end Go.Proofs.YteiiepjegdlbeaaDoor
