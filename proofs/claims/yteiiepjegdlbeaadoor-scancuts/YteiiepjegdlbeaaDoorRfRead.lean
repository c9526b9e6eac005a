import Derived.Test.YteiiepjegdlbeaaDoorChTab
import Derived.Test.YteiiepjegdlbeaaDoorRnAt
import Derived.Lib.ConvBytes
import Derived.Shelf.Strings.BuilderRune
import Derived.Shelf.Strings.BuilderK
import Derived.Maps.RangeWalk
import Derived.BigQuiet
import Derived.Sort.KeysCollected
import Derived.Lib.SlBytesConst
set_option maxHeartbeats 2000000
set_option maxRecDepth 100000
namespace Go.Proofs.YteiiepjegdlbeaaDoor
open Go.RowKit Go.Lib
namespace Rf
def dv (x:Nat) : Nat:=if 97 <= x then x - 97 + 10 else if 65 <= x then x - 65 + 10 else x - 48
def isD (c:Nat) (x:Nat) : Bool:=Ch.isT Ch.tab (c:Int) (x:Int)
theorem isD_dv : ∀ x:Fin 256,(isD 4 x=true -> 48 <= x.val /\ dv x < 10) /\ (isD 5 x=true -> 48 <= x.val /\ dv x < 16):=by decide +kernel
def rn (f:Nat -> Nat) (base c:Nat) : Nat -> Nat -> Nat -> Nat × Nat × Nat
 | 0,_,_ => (0,0,1)
 | k + 1,at',v => if isD c (f at')=true then (if 1114111 < v * base + dv (f at') then (0,at',2) else rn f base c k (at' + 1) (v * base + dv (f at'))) else if f at'=59 /\ Ch.isT Ch.tab 0 (v:Int)=true then (v,at' + 1,0) else (0,at',2)
theorem rn_succ (f:Nat -> Nat) (base c k a v:Nat) : rn f base c (k + 1) a v=if isD c (f a)=true then (if 1114111 < v * base + dv (f a) then (0,a,2) else rn f base c k (a + 1) (v * base + dv (f a))) else if f a=59 /\ Ch.isT Ch.tab 0 (v:Int)=true then (v,a + 1,0) else (0,a,2):=rfl
def Bas (base c:Nat) : Prop:=(base=10 /\ c=4) \/ (base=16 /\ c=5)
theorem Bas.dig {base c x:Nat} (h:Bas base c) (hx:x < 256) (hd:isD c x=true) : 48 <= x /\ dv x < base:=by
 have:=isD_dv ⟨x,hx⟩
 rcases h with ⟨rfl,rfl⟩ | ⟨rfl,rfl⟩
 . exact this.1 hd
 . exact this.2 hd
def rdV (x:Nat × Nat × Nat) : Value := .tuple #[.int .i32 x.1, .int .i64 x.2.1, .int .i64 x.2.2]
end Rf
theorem digit_any (x:Nat) (w:World) (h1:48 <= x) (h2:x < 256) :
 Calls Tryd.prog 97 #[.int .u8 x] w fun e w' => e = .returned (.int .i32 (Rf.dv x)) /\ w'=w:=by
 by_cases a:97 <= x
 . have e:Rf.dv x=x - 97 + 10:=by unfold Rf.dv; rw [if_pos a]
   rw [e]
   obtain ⟨y,rfl⟩ : ∃ y,x=97 + y:=⟨x - 97,by omega⟩
   have g1:(97:Int) <= (97 + y:Nat):=by omega
   have g2:IntKind.u8.wrap (((97 + y:Nat) : Int) - 97)=(y:Int):=by rw [IntKind.wrap_u8]; omega
   have g3:IntKind.i32.wrap ((y:Int) + 10)=(y:Int) + 10:=by rw [IntKind.wrap_i32]; omega
   rw [show 97 + y - 97 + 10=y + 10 by omega]
   clear e
   go_enter Tryd.func97,Tryd.ntmps97
   go_wp2
   go_ret
   exact ⟨by simp; omega,rfl⟩
 . by_cases b : 65 ≤ x
   . have e:Rf.dv x=x - 65 + 10:=by unfold Rf.dv; rw [if_neg a,if_pos b]
     rw [e]
     obtain ⟨y,rfl⟩ : ∃ y,x=65 + y:=⟨x - 65,by omega⟩
     have g0 : ¬ (97:Int) <= (65 + y:Nat):=by omega
     have g1:(65:Int) <= (65 + y:Nat):=by omega
     have g2:IntKind.u8.wrap (((65 + y:Nat) : Int) - 65)=(y:Int):=by rw [IntKind.wrap_u8]; omega
     have g3:IntKind.i32.wrap ((y:Int) + 10)=(y:Int) + 10:=by rw [IntKind.wrap_i32]; omega
     rw [show 65 + y - 65 + 10=y + 10 by omega]
     clear e
     go_enter Tryd.func97,Tryd.ntmps97
     go_wp2
     go_ret
     exact ⟨by simp; omega,rfl⟩
   . have e:Rf.dv x=x - 48:=by unfold Rf.dv; rw [if_neg a,if_neg b]
     rw [e]
     obtain ⟨y,rfl⟩ : ∃ y,x=48 + y:=⟨x - 48,by omega⟩
     have g0 : ¬ (97:Int) <= (48 + y:Nat):=by omega
     have g1 : ¬ (65:Int) <= (48 + y:Nat):=by omega
     have g2:IntKind.u8.wrap (((48 + y:Nat) : Int) - 48)=(y:Int):=by rw [IntKind.wrap_u8]; omega
     rw [show 48 + y - 48=y by omega]
     clear e
     go_enter Tryd.func97,Tryd.ntmps97
     go_wp2
     go_ret
     exact ⟨by simp; omega,rfl⟩
theorem readNumber_any (f:Nat -> Nat) (pa:Option Addr) (n cap at0 base c:Nat) (w:World) (hS:Spans w) (hf : ∀ j,f j < 256) (hn:n <= 9223372036854775806) (hb:Rf.Bas base c) (hat:at0 <= n)
 (hpa:0 < n -> ∃ b o,pa=some ⟨b,o,none⟩ /\ Bytes w b o n f /\ b < w.heap.size) :
 Calls Tryd.prog 81 #[.slice pa n cap, .int .i64 at0, .int .i32 base, .int .i64 c] w fun e w' => e = .returned (Rf.rdV (Rf.rn f base c (n - at0) at0 0)) /\ Below w.heap.size w w':=by
 have hb16:base <= 16:=by rcases hb with ⟨rfl,_⟩ | ⟨rfl,_⟩ <;> decide
 have HS:=hide' hS
 have HPA:=hide' hpa
 clear hS hpa
 go_enter Tryd.func81,Tryd.ntmps81
 go_wp2
 go_loopw [1,11] (fun a v wr => ∃ a' v':Nat,a = .int .i64 a' /\ v = .int .i32 v' /\ a' <= n /\ v' <= 1114111 /\ Rf.rn f base c (n - a') a' v'=Rf.rn f base c (n - at0) at0 0 /\ Below w.heap.size w wr) (fun a _ _ => n - (RowKit.intOf a).toNat)
 case atStart => exact ⟨at0,0,rfl,rfl,hat,by omega,rfl,Below.refl _ _⟩
 case round =>
  obtain ⟨a,v,rfl,rfl,ha,hv,hr,hB⟩:=hrel
  by_cases hlt:a < n
  . have g1:(a:Int) < n:=by omega
    obtain ⟨b,o,rfl,hby,hbl⟩:=HPA.out (by omega)
    have hx:=hby.below hB (Nat.le_refl _) a hlt
    obtain ⟨k,hk⟩ : ∃ k,n - a=k + 1:=⟨n - a - 1,by omega⟩
    have hfa:=hf a
    have hk2:k=n - (a + 1):=by omega
    rw [hk] at hr
    rw [Rf.rn_succ] at hr
    rw [hk2] at hr
    have cI:=is_any (c:Int) ((f a:Nat) : Int) wr (HS.out.below hB (Nat.le_refl _))
    clear hk hk2 hby
    by_cases hd:Rf.isD c (f a)=true
    . rw [if_pos hd] at hr
      obtain ⟨d1,d2⟩:=hb.dig hfa hd
      unfold Rf.isD at hd
      rw [hd] at cI
      have cD:=fun W => digit_any (f a) W d1 hfa
      generalize hx0:f a=x at *
      generalize hy0:Rf.dv x=y at *
      have hm:v * base <= 1114111 * 16:=Nat.mul_le_mul hv hb16
      obtain ⟨z,hz⟩ : ∃ z,v * base=z:=⟨_,rfl⟩
      rw [hz] at hr hm
      have hz2:(v:Int) * (base:Int)=(z:Int):=by rw [<- hz]; simp
      have HR:=hide' hr
      have HB:=hide' hB
      clear hr hB hx0 hy0 hz hd HPA
      go_wp2_with fail
      refine cI.mono ?_
      rintro e w1 ⟨rfl,hb1⟩
      have hx1:=(hb1.cell (p:=⟨b,o + a,none⟩) (block_lt_of_cell hx)).trans hx
      have cD1:=cD w1
      clear cI cD hx
      go_wp2_with fail
      refine cD1.mono ?_
      rintro e w2 ⟨rfl,rfl⟩
      have hB2:=HB.out.trans (hb1.mono HB.out.size)
      clear cD1
      by_cases hg:1114111 < z + y
      . have g2:(1114111:Int) < (z:Int) + (y:Int):=by omega
        go_wp2
        refine bodyPost_ret (v:=Rf.rdV (0,a,2)) (by simp [Rf.rdV,results,Tryd.results81,go_sem]) rfl ⟨?_,hB2⟩
        rw [<- HR.out,if_pos hg]
      . have g2 : ¬ (1114111:Int) < (z:Int) + (y:Int):=by omega
        go_wp2
        go_roundw
        case rel => exact ⟨a + 1,z + y,by go_num,by go_num,by omega,by omega,by rw [<- HR.out,if_neg hg],hB2⟩
        case measure => simp [RowKit.intOf]; omega
    . rw [if_neg hd] at hr
      have hd':Ch.isT Ch.tab (c:Int) ((f a:Nat) : Int)=false:=by simpa [Rf.isD] using hd
      rw [hd'] at cI
      have hxn : ¬ (a:Int)=n:=by omega
      generalize hx0:f a=x at *
      have HR:=hide' hr
      have HB:=hide' hB
      clear hr hB hx0 hd hd' HPA
      go_wp2_with fail
      refine cI.mono ?_
      rintro e w1 ⟨rfl,hb1⟩
      have hx1:=(hb1.cell (p:=⟨b,o + a,none⟩) (block_lt_of_cell hx)).trans hx
      have hB1:=HB.out.trans (hb1.mono HB.out.size)
      have cA:=is_any 0 (v:Int) w1 (HS.out.below hB1 (Nat.le_refl _))
      clear cI hx hb1
      by_cases h59:x=59
      . subst h59
        cases hall:Ch.isT Ch.tab 0 (v:Int)
        . rw [hall] at cA
          have HR2:=hide' HR.out
          rw [if_neg (by simp [hall])] at HR2
          go_wp2_with fail
          refine cA.mono ?_
          rintro e w2 ⟨rfl,hb2⟩
          go_wp2
          refine bodyPost_ret (v:=Rf.rdV (0,a,2)) (by simp [Rf.rdV,results,Tryd.results81,go_sem]) rfl ⟨?_,hB1.trans (hb2.mono hB1.size)⟩
          rw [<- HR2.out]
        . rw [hall] at cA
          have HR2:=hide' HR.out
          rw [if_pos ⟨rfl,hall⟩] at HR2
          go_wp2_with fail
          refine cA.mono ?_
          rintro e w2 ⟨rfl,hb2⟩
          go_wp2
          refine bodyPost_ret (v:=Rf.rdV (v,a + 1,0)) (by simp [Rf.rdV,results,Tryd.results81,go_sem]) rfl ⟨?_,hB1.trans (hb2.mono hB1.size)⟩
          rw [<- HR2.out]
      . have g5:((x:Int) == 59)=false:=by simp; omega
        have HR2:=hide' HR.out
        rw [if_neg (fun h => h59 h.1)] at HR2
        go_wp2
        refine bodyPost_ret (v:=Rf.rdV (0,a,2)) (by simp [Rf.rdV,results,Tryd.results81,go_sem]) rfl ⟨?_,hB1⟩
        rw [<- HR2.out]
  . obtain rfl:a=n:=by omega
    have g1 : ¬ (a:Int) < a:=by omega
    rw [Nat.sub_self] at hr
    have HR:=hide' hr
    clear hr HPA
    go_wp2
    refine bodyPost_ret (v:=Rf.rdV (0,0,1)) (by simp [Rf.rdV,results,Tryd.results81,go_sem]) rfl ⟨?_,hB⟩
    rw [<- HR.out]
    rfl
end Go.Proofs.YteiiepjegdlbeaaDoor
namespace Go.Proofs.YteiiepjegdlbeaaDoor
open Go.RowKit Go.Lib
theorem sizeBuilder:(Tryd.prog.info? 74).map (·.size)=some 2:=by kernel_rfl
theorem liesBuilder:liesAt Tryd.prog Tryd.prog.depth 74 (2 / Tryd.prog.cellsOf 74) 0 74 1=true:=by kernel_rfl
theorem copyCheck_used (b:Nat) (w:World) (h0:w.cell? ⟨b,0,none⟩ = some (.pointer (some ⟨b,0,none⟩))) :
 Calls Tryd.prog 61 #[.pointer (some ⟨b,0,none⟩)] w fun e w' => e = .returned (.tuple #[]) /\ w'=w:=by
 obtain ⟨j,hj,_⟩:=Option.map_eq_some_iff.1 sizeBuilder
 go_enter Tryd.func61,Tryd.ntmps61
 go_wp2
 rw [Lib.run_neq_ptr_same w _ Tryd.underlying72 hj]
 go_wp2
 go_end0
 exact ⟨rfl,rfl⟩
theorem copyCheck_fresh (b:Nat) (w:World) (h0:w.cell? ⟨b,0,none⟩ = some (.pointer none)) (hsh:w.shape? b=some (74,2)) (hfz:w.frozen? ⟨b,0,none⟩ = false) :
 Calls Tryd.prog 61 #[.pointer (some ⟨b,0,none⟩)] w fun e w' => e = .returned (.tuple #[]) /\ w'=w.setCell ⟨b,0,none⟩ (.pointer (some ⟨b,0,none⟩)):=by
 obtain ⟨j,hj,hjs⟩:=Option.map_eq_some_iff.1 sizeBuilder
 go_enter Tryd.func61,Tryd.ntmps61
 go_wp2
 rw [Lib.run_to_unsafe w ⟨b,0,none⟩ Tryd.underlying72 Tryd.underlying112 hj (by rw [hjs]; decide) hsh (Nat.zero_lt_succ 1)]
 simp only [Result.andThen]
 rw [Oper.upon_value]
 go_wp2
 rw [run_callFunc_extern Tryd.func71 (by kernel_rfl) (by kernel_rfl) (by kernel_rfl) (e:=Extern.AbiNoEscape.same) (by kernel_rfl)]
 rw [Lib.run_noEscape]
 simp only [Result.andThen]
 rw [Oper.upon_value]
 go_wp2
 rw [Lib.run_from_unsafe w ⟨b,0,none⟩ Tryd.underlying112 Tryd.underlying72 hj hsh liesBuilder]
 simp only [Result.andThen]
 rw [Oper.upon_value]
 go_wp2
 go_end0
 exact ⟨rfl,rfl⟩
theorem copyCheck_k (B b:Nat) (bs:List Value) (w:World) (h:Lib.IsBuilderF 74 5 B b bs w) :
 Calls Tryd.prog 61 #[.pointer (some ⟨b,0,none⟩)] w fun e w' => e = .returned (.tuple #[]) /\ (Lib.BuilderAtF 74 5 B b (.pointer (some ⟨b,0,none⟩)) bs w' /\ Below B w w' /\ Lib.OthersKept 5 (some b) w w'):=by
 rcases h with h | h
 . refine (copyCheck_fresh b w h.cell0 h.shape h.frozen0).mono ?_
   rintro e w' ⟨rfl,rfl⟩
   exact ⟨rfl,h.used _,(Below.refl B w).setCell (p:=⟨b,0,none⟩) h.1 _,(Lib.OthersKept.refl _ _ w).setCell ⟨b,0,none⟩ rfl _⟩
 . refine (copyCheck_used b w h.cell0).mono ?_
   rintro e w' ⟨rfl,rfl⟩
   exact ⟨rfl,h,Below.refl B _,Lib.OthersKept.refl _ _ _⟩
namespace Rn
end Rn
theorem below_bytesWorld (w:World) (e:TypeId) (s:ByteArray) : Below w.heap.size w (Lib.bytesWorld w e s) :=
 ⟨rfl,rfl,rfl,by rw [Lib.bytesWorld_size]; omega,fun k hk => Lib.bytesWorld_at_old w e s k hk⟩
theorem bytes_bytesWorld (w:World) (e:TypeId) (f:Nat -> Nat) (m:Nat) (hf : ∀ j,f j < 256) : Bytes (Lib.bytesWorld w e (Rn.arr f m)) w.heap.size 0 m f:=by
 intro j hj
 have h:=Lib.bytesWorld_cell w e (Rn.arr f m) j (by rw [Rn.arr_size]; exact hj)
 rw [Nat.zero_add,h]
 have e1:(((Rn.arr f m).data.toList.getD j 0).toNat:Nat)=f j:=by
  have:=hf j
  simp [Rn.arr,List.getD,hj]
  omega
 rw [e1]
end Go.Proofs.YteiiepjegdlbeaaDoor
namespace Go.Proofs.YteiiepjegdlbeaaDoor
open Go.RowKit Go.Lib
theorem infoB8:(Tryd.prog.info? 5).map (fun i => (i.zero,i.size,i.bytes))=some (some (.int .u8 0),1,1):=by kernel_rfl
theorem writeString_k (B b:Nat) (bs:List Value) (s:ByteArray) (w:World) (h:Lib.IsBuilderF 74 5 B b bs w) (hlen:bs.length + s.size <= 140737488355328) (hBw:B <= w.heap.size) :
 Calls Tryd.prog 42 #[.pointer (some ⟨b,0,none⟩), .string s] w fun e w' => e = .returned (.tuple #[.int .i64 s.size, .nilIface]) /\ (Lib.BuilderAtF 74 5 B b (.pointer (some ⟨b,0,none⟩)) (bs ++ Lib.strCells s) w' /\ Below B w w' /\ Lib.OthersKept 5 (some b) w w'):=by
 obtain ⟨i0,hi,hz0,hz1,hz2⟩:=info_parts infoB8
 go_enter Tryd.func42,Tryd.ntmps42
 go_wp2_with fail
 refine (copyCheck_k B b bs _ h).mono ?_
 rintro e w1 ⟨rfl,h1,hb1,hk1⟩
 obtain ⟨hB,v,hbk,hown,hne⟩:=h1
 have c0:w1.cell? ⟨b,0,none⟩ = some (.pointer (some ⟨b,0,none⟩)):=by rw [Lib.cell_of_heap hbk]; rfl
 have c1:w1.cell? ⟨b,1,none⟩ = some v:=by rw [Lib.cell_of_heap hbk]; rfl
 go_wp2_with (at_builtin; refine Lib.wpList_append_own_stringF _ rfl _ _ 22 9 rfl B 5 i0 Tryd.underlying22 Tryd.underlying9 hi hz0 hz1 hz2 _ _ _ rfl hown s rfl ?c3 ?c4 ?c5 ?_)
 case c3 => unfold maxLen; omega
 case c4 => omega
 case c5 => have:=hb1.size; omega
 intro v' w2 hown' hgrow _
 have hlt:b < w1.heap.size:=by
  rcases Nat.lt_or_ge b w1.heap.size with h' | h'
  . exact h'
  . simp [Array.getElem?_eq_none h'] at hbk
 have hb2:w2.heap[b]? = some (.cells #[.pointer (some ⟨b,0,none⟩),v] 74 (0,0)):=by
  rw [hgrow.block b hlt (fun e => hne e.symm)]
  exact hbk
 have d0:w2.cell? ⟨b,0,none⟩ = some (.pointer (some ⟨b,0,none⟩)):=by rw [Lib.cell_of_heap hb2]; rfl
 have d1:w2.cell? ⟨b,1,none⟩ = some v:=by rw [Lib.cell_of_heap hb2]; rfl
 have f1:w2.frozen? ⟨b,1,none⟩ = false:=Lib.frozen_of_heap hb2 1
 obtain ⟨ao,n',cap,rfl⟩ : ∃ ao n' cap,v' = .slice ao n' cap:=by
  rcases hown'.2 with ⟨hv,_⟩ | ⟨g,cap,cur,fz,hv,_⟩
  . exact ⟨_,_,_,hv⟩
  . exact ⟨_,_,_,hv⟩
 go_wp2
 go_ret2
 refine ⟨rfl, ?_, ?_,(hk1.grown hgrow (Lib.ownsRowF_kind hown)).setCell ⟨b,1,none⟩ rfl _⟩
 . exact Lib.BuilderAtF.put (T:=74) (e:=5) hB hb2 (bs':=bs ++ Lib.strCells s) (by simpa [Lib.strCells_length] using hown') (by decide)
 . exact (hb1.grown hgrow (by have:=hb1.size; omega) (fun k hk => (hown.lt k hk).1)).setCell (p:=⟨b,1,none⟩) hB _
end Go.Proofs.YteiiepjegdlbeaaDoor
namespace Go.Proofs.YteiiepjegdlbeaaDoor
open Go.RowKit Go.Lib
namespace Rf
def inT (x:Nat) : List UInt8:=if x=38 then [38,97,109,112,59] else if x=60 then [38,108,116,59] else if x=62 then [38,103,116,59] else if x=13 then [38,35,120,68,59] else []
def inV (x:Nat) : List UInt8:=if x=38 then [38,97,109,112,59] else if x=60 then [38,108,116,59] else if x=34 then [38,113,117,111,116,59] else if x=9 then [38,35,120,57,59] else if x=10 then [38,35,120,65,59] else if x=13 then [38,35,120,68,59] else []
theorem inT_le (x : Nat) : (inT x).length ≤ 6 := by unfold inT; repeat' split
                                                    all_goals decide
theorem inV_le (x : Nat) : (inV x).length ≤ 6 := by unfold inV; repeat' split
                                                    all_goals decide
def one (form:Nat -> List UInt8) (x:UInt8) : List UInt8:=if form x.toNat = [] then [x] else form x.toNat
def esc (form:Nat -> List UInt8) (l:List UInt8) : List UInt8:=l.flatMap (one form)
theorem esc_append (form:Nat -> List UInt8) (a b:List UInt8) : esc form (a ++ b)=esc form a ++ esc form b:=by simp [esc]
theorem esc_take (form:Nat -> List UInt8) (l:List UInt8) (k:Nat) (h:k < l.length) : esc form (l.take (k + 1))=esc form (l.take k) ++ one form l[k]:=by
 rw [List.take_succ_eq_append_getElem h,esc_append]
 simp [esc]
theorem esc_le (form:Nat -> List UInt8) (hf : ∀ x,(form x).length <= 6) (l:List UInt8) : (esc form l).length <= 6 * l.length:=by
 induction l with
 | nil => simp [esc]
 | cons a l ih =>
   have e:esc form (a :: l)=one form a ++ esc form l:=by simp [esc]
   have h6:(one form a).length <= 6:=by
    unfold one
    split
    . simp
    . exact hf _
   rw [e,List.length_append,List.length_cons]
   omega
end Rf
theorem inText_any (x:Nat) (w:World) : Calls Tryd.prog 27 #[.int .u8 x] w fun e w' => e = .returned (.string ⟨(Rf.inT x).toArray⟩) /\ w'=w:=by
 by_cases h38:x=38
 . have e38:((x:Int) == 38)=true:=by simp; omega
   have eF:Rf.inT x = [38,97,109,112,59]:=by unfold Rf.inT; rw [if_pos h38]
   rw [eF]
   clear h38
   go_enter Tryd.func27,Tryd.ntmps27
   go_wp2
   go_ret
   exact ⟨rfl,rfl⟩
 by_cases h60:x=60
 . have e38:((x:Int) == 38)=false:=by simp; omega
   have e60:((x:Int) == 60)=true:=by simp; omega
   have eF:Rf.inT x = [38,108,116,59]:=by unfold Rf.inT; rw [if_neg h38,if_pos h60]
   rw [eF]
   clear h38
   clear h60
   go_enter Tryd.func27,Tryd.ntmps27
   go_wp2
   go_ret
   exact ⟨rfl,rfl⟩
 by_cases h62:x=62
 . have e38:((x:Int) == 38)=false:=by simp; omega
   have e60:((x:Int) == 60)=false:=by simp; omega
   have e62:((x:Int) == 62)=true:=by simp; omega
   have eF:Rf.inT x = [38,103,116,59]:=by unfold Rf.inT; rw [if_neg h38,if_neg h60,if_pos h62]
   rw [eF]
   clear h38
   clear h60
   clear h62
   go_enter Tryd.func27,Tryd.ntmps27
   go_wp2
   go_ret
   exact ⟨rfl,rfl⟩
 by_cases h13:x=13
 . have e38:((x:Int) == 38)=false:=by simp; omega
   have e60:((x:Int) == 60)=false:=by simp; omega
   have e62:((x:Int) == 62)=false:=by simp; omega
   have e13:((x:Int) == 13)=true:=by simp; omega
   have eF:Rf.inT x = [38,35,120,68,59]:=by unfold Rf.inT; rw [if_neg h38,if_neg h60,if_neg h62,if_pos h13]
   rw [eF]
   clear h38
   clear h60
   clear h62
   clear h13
   go_enter Tryd.func27,Tryd.ntmps27
   go_wp2
   go_ret
   exact ⟨rfl,rfl⟩
 have e38:((x:Int) == 38)=false:=by simp; omega
 have e60:((x:Int) == 60)=false:=by simp; omega
 have e62:((x:Int) == 62)=false:=by simp; omega
 have e13:((x:Int) == 13)=false:=by simp; omega
 have eF:Rf.inT x = []:=by unfold Rf.inT; rw [if_neg h38,if_neg h60,if_neg h62,if_neg h13]
 rw [eF]
 clear h38
 clear h60
 clear h62
 clear h13
 go_enter Tryd.func27,Tryd.ntmps27
 go_wp2
 go_ret
 exact ⟨rfl,rfl⟩
theorem inValue_any (x:Nat) (w:World) : Calls Tryd.prog 28 #[.int .u8 x] w fun e w' => e = .returned (.string ⟨(Rf.inV x).toArray⟩) /\ w'=w:=by
 by_cases h38:x=38
 . have e38:((x:Int) == 38)=true:=by simp; omega
   have eF:Rf.inV x = [38,97,109,112,59]:=by unfold Rf.inV; rw [if_pos h38]
   rw [eF]
   clear h38
   go_enter Tryd.func28,Tryd.ntmps28
   go_wp2
   go_ret
   exact ⟨rfl,rfl⟩
 by_cases h60:x=60
 . have e38:((x:Int) == 38)=false:=by simp; omega
   have e60:((x:Int) == 60)=true:=by simp; omega
   have eF:Rf.inV x = [38,108,116,59]:=by unfold Rf.inV; rw [if_neg h38,if_pos h60]
   rw [eF]
   clear h38
   clear h60
   go_enter Tryd.func28,Tryd.ntmps28
   go_wp2
   go_ret
   exact ⟨rfl,rfl⟩
 by_cases h34:x=34
 . have e38:((x:Int) == 38)=false:=by simp; omega
   have e60:((x:Int) == 60)=false:=by simp; omega
   have e34:((x:Int) == 34)=true:=by simp; omega
   have eF:Rf.inV x = [38,113,117,111,116,59]:=by unfold Rf.inV; rw [if_neg h38,if_neg h60,if_pos h34]
   rw [eF]
   clear h38
   clear h60
   clear h34
   go_enter Tryd.func28,Tryd.ntmps28
   go_wp2
   go_ret
   exact ⟨rfl,rfl⟩
 by_cases h9:x=9
 . have e38:((x:Int) == 38)=false:=by simp; omega
   have e60:((x:Int) == 60)=false:=by simp; omega
   have e34:((x:Int) == 34)=false:=by simp; omega
   have e9:((x:Int) == 9)=true:=by simp; omega
   have eF:Rf.inV x = [38,35,120,57,59]:=by unfold Rf.inV; rw [if_neg h38,if_neg h60,if_neg h34,if_pos h9]
   rw [eF]
   clear h38
   clear h60
   clear h34
   clear h9
   go_enter Tryd.func28,Tryd.ntmps28
   go_wp2
   go_ret
   exact ⟨rfl,rfl⟩
 by_cases h10:x=10
 . have e38:((x:Int) == 38)=false:=by simp; omega
   have e60:((x:Int) == 60)=false:=by simp; omega
   have e34:((x:Int) == 34)=false:=by simp; omega
   have e9:((x:Int) == 9)=false:=by simp; omega
   have e10:((x:Int) == 10)=true:=by simp; omega
   have eF:Rf.inV x = [38,35,120,65,59]:=by unfold Rf.inV; rw [if_neg h38,if_neg h60,if_neg h34,if_neg h9,if_pos h10]
   rw [eF]
   clear h38
   clear h60
   clear h34
   clear h9
   clear h10
   go_enter Tryd.func28,Tryd.ntmps28
   go_wp2
   go_ret
   exact ⟨rfl,rfl⟩
 by_cases h13:x=13
 . have e38:((x:Int) == 38)=false:=by simp; omega
   have e60:((x:Int) == 60)=false:=by simp; omega
   have e34:((x:Int) == 34)=false:=by simp; omega
   have e9:((x:Int) == 9)=false:=by simp; omega
   have e10:((x:Int) == 10)=false:=by simp; omega
   have e13:((x:Int) == 13)=true:=by simp; omega
   have eF:Rf.inV x = [38,35,120,68,59]:=by unfold Rf.inV; rw [if_neg h38,if_neg h60,if_neg h34,if_neg h9,if_neg h10,if_pos h13]
   rw [eF]
   clear h38
   clear h60
   clear h34
   clear h9
   clear h10
   clear h13
   go_enter Tryd.func28,Tryd.ntmps28
   go_wp2
   go_ret
   exact ⟨rfl,rfl⟩
 have e38:((x:Int) == 38)=false:=by simp; omega
 have e60:((x:Int) == 60)=false:=by simp; omega
 have e34:((x:Int) == 34)=false:=by simp; omega
 have e9:((x:Int) == 9)=false:=by simp; omega
 have e10:((x:Int) == 10)=false:=by simp; omega
 have e13:((x:Int) == 13)=false:=by simp; omega
 have eF:Rf.inV x = []:=by unfold Rf.inV; rw [if_neg h38,if_neg h60,if_neg h34,if_neg h9,if_neg h10,if_neg h13]
 rw [eF]
 clear h38
 clear h60
 clear h34
 clear h9
 clear h10
 clear h13
 go_enter Tryd.func28,Tryd.ntmps28
 go_wp2
 go_ret
 exact ⟨rfl,rfl⟩
theorem strCells_mk (m:List UInt8) : Lib.strCells ⟨m.toArray⟩ = Lib.byteCells m:=rfl
theorem strIndex (l:List UInt8) (k:Nat) (hk:k < l.length) (y:UInt8) (hy:l[k]'hk=y) (h:k < (ByteArray.mk l.toArray).size) : (ByteArray.mk l.toArray)[k]'h=y:=hy
theorem strExtract (l:List UInt8) (a b:Nat) : (ByteArray.mk l.toArray).extract a b=⟨((l.drop a).take (b - a)).toArray⟩:=by
 have e:((ByteArray.mk l.toArray).extract a b).data=((l.drop a).take (b - a)).toArray:=by
  rw [ByteArray.data_extract]
  apply Array.ext'
  simp [List.extract_eq_take_drop]
 exact congrArg ByteArray.mk e
theorem escape_any (F:Nat) (form:Nat -> List UInt8) (hle : ∀ x,(form x).length <= 6) (hF : ∀ (x:Nat) w,Calls Tryd.prog F #[.int .u8 x] w fun e w' => e = .returned (.string ⟨(form x).toArray⟩) /\ w'=w) (hEn : ∀ args w,(callFunc F args).run Tryd.prog w = .ok (.enter F args) w)
 (l:List UInt8) (w:World) (hn:6 * l.length <= 140737488355328) :
 Calls Tryd.prog 26 #[.string ⟨l.toArray⟩, .func (.func F) #[] #[]] w fun e w' => e = .returned (.string ⟨(Rf.esc form l).toArray⟩) /\ Below w.heap.size w w':=by
 have hsz:(ByteArray.mk l.toArray).size=l.length:=by simp [ByteArray.size]
 have hI0:Lib.IsBuilderF 74 5 w.heap.size w.heap.size (Lib.byteCells (Rf.esc form (l.take 0))) (w.alloc (.cells #[.pointer none, .slice none 0 0] 74)):=Lib.IsBuilderF.of (Lib.fresh_isBuilder 74 5 w)
 have hB0:Below w.heap.size w (w.alloc (.cells #[.pointer none, .slice none 0 0] 74)):=(Below.refl _ _).alloc (Nat.le_refl _) _
 obtain ⟨n,hln⟩ : ∃ n,l.length=n:=⟨_,rfl⟩
 have HSZ:=hide' hsz
 have hel:=fun k => Rf.esc_le form hle (l.take k)
 go_enter Tryd.func26,Tryd.ntmps26
 go_wp2
 go_loopw [6,11] (fun d a wr => ∃ d' a':Nat,d = .int .i64 d' /\ a = .int .i64 a' /\ d' <= a' /\ a' <= n /\ Hid (Rf.esc form (l.take a')=Rf.esc form (l.take d') ++ (l.drop d').take (a' - d')) /\ Lib.IsBuilderF 74 5 w.heap.size w.heap.size (Lib.byteCells (Rf.esc form (l.take d'))) wr /\ Below w.heap.size w wr) (fun _ a _ => n - (RowKit.intOf a).toNat)
 case atStart => exact ⟨0,0,rfl,rfl,Nat.le_refl _,Nat.zero_le _,(by show _=_; simp),hI0,hB0⟩
 case round =>
  obtain ⟨d,a,rfl,rfl,hda,han,hE,hI,hB⟩:=hrel
  clear hI0 hB0
  have hsw:=hB.size
  by_cases hlt:a < n
  . have g1:(a:Int) < n:=by omega
    have hal:a < l.length:=by omega
    have hstep:=Rf.esc_take form l a hal
    obtain ⟨y,hy⟩ : ∃ y,l[a]'hal=y:=⟨_,rfl⟩
    have hix : ∀ h:a < (ByteArray.mk l.toArray).size,(ByteArray.mk l.toArray)[a]'h=y:=fun h => strIndex l a hal y hy h
    rw [hy] at hstep
    have cF:=hF y.toNat wr
    have hex:(ByteArray.mk l.toArray).extract d a=⟨((l.drop d).take (a - d)).toArray⟩:=strExtract l d a
    have hl1:((l.drop d).take (a - d)).length=a - d:=by simp; omega
    have hld:=hel d
    have hla:=hel a
    have hl6:=hle y.toNat
    simp only [List.length_take] at hld hla
    obtain ⟨fo,hfo⟩ : ∃ fo,form y.toNat=fo:=⟨_,rfl⟩
    unfold Rf.one at hstep
    rw [hfo] at cF hl6 hstep
    clear hy hfo
    by_cases h0:fo = []
    . subst h0
      rw [if_pos rfl] at hstep
      have HST:=hide' hstep
      have HI:=hide' hI
      clear hstep hI hex hel
      go_wp2_with fail
      refine cF.mono ?_
      rintro e w1 ⟨rfl,rfl⟩
      clear cF
      go_wp2
      go_roundw
      case rel =>
       refine ⟨d,a + 1,by go_num,by go_num,by omega,by omega, ?_,HI.out,hB⟩
       show _=_
       rw [HST.out,hE.out,List.append_assoc]
       congr 1
       rw [show a + 1 - d=(a - d) + 1 by omega,List.take_succ_eq_append_getElem (by simp; omega)]
       congr 1
       have hx2:=hix (by rw [HSZ.out]; exact hal)
       simp only [List.getElem_drop]
       rw [<- hx2]
       simp only [show d + (a - d)=a by omega]
       rfl
      case measure => simp [RowKit.intOf]; omega
    . rw [if_neg h0] at hstep
      have HST:=hide' hstep
      have hwl:(ByteArray.mk ((l.drop d).take (a - d)).toArray).size=a - d:=by rw [<- hl1]; simp [ByteArray.size]
      have cW:=writeString_k w.heap.size w.heap.size (Lib.byteCells (Rf.esc form (l.take d))) ⟨((l.drop d).take (a - d)).toArray⟩ wr hI (by rw [Lib.byteCells_length,hwl]; omega) hsw
      have hfl:(ByteArray.mk fo.toArray).size=fo.length:=by simp [ByteArray.size]
      have hne:fo.isEmpty=false:=by simpa using h0
      rw [strCells_mk, <- Lib.byteCells_append, <- hE.out] at cW
      have HE:=hide' hE.out
      have HH:=hide' hwl
      have HF2:=hide' hfl
      have s1:(0:Int) <= (d:Int):=by omega
      have s2:(d:Int) <= (a:Int):=by omega
      clear hstep hI hel hE hwl hfl
      go_wp2_with fail
      refine cF.mono ?_
      rintro e w1 ⟨rfl,rfl⟩
      clear cF
      go_wp2_with fail
      refine cW.mono ?_
      rintro e w2 ⟨rfl,hI2,hb2, -⟩
      have hB2:=hB.trans hb2
      have cV:=writeString_k w.heap.size w.heap.size (Lib.byteCells (Rf.esc form (l.take a))) ⟨fo.toArray⟩ w2 (.inr hI2) (by rw [Lib.byteCells_length,HF2.out]; omega) hB2.size
      rw [strCells_mk, <- Lib.byteCells_append, <- HST.out] at cV
      have HB2:=hide' hB2
      clear cW hI2 hb2 hB2 hB
      go_wp2_with fail
      refine cV.mono ?_
      rintro e w3 ⟨rfl,hI3,hb3, -⟩
      have HI3:=hide' hI3
      clear cV hI3
      go_wp2
      go_roundw
      case rel => exact ⟨a + 1,a + 1,by go_num,by go_num,Nat.le_refl _,by omega,(by show _=_; simp), .inr HI3.out,HB2.out.trans hb3⟩
      case measure => simp [RowKit.intOf]; omega
  . obtain rfl:a=n:=by omega
    have g1 : ¬ (a:Int) < a:=by omega
    have hex:(ByteArray.mk l.toArray).extract d a=⟨((l.drop d).take (a - d)).toArray⟩:=strExtract l d a
    have hl1:((l.drop d).take (a - d)).length=a - d:=by simp; omega
    have hwl:(ByteArray.mk ((l.drop d).take (a - d)).toArray).size=a - d:=by rw [<- hl1]; simp [ByteArray.size]
    have hld:=hel d
    simp only [List.length_take] at hld
    have cW:=writeString_k w.heap.size w.heap.size (Lib.byteCells (Rf.esc form (l.take d))) ⟨((l.drop d).take (a - d)).toArray⟩ wr hI (by rw [Lib.byteCells_length,hwl]; omega) hsw
    rw [strCells_mk, <- Lib.byteCells_append, <- hE.out,show l.take a=l by rw [<- hln]; simp] at cW
    have HH:=hide' hwl
    have s1:(0:Int) <= (d:Int):=by omega
    have s2:(d:Int) <= (a:Int):=by omega
    clear hI hel hE hwl
    go_wp2_with fail
    refine cW.mono ?_
    rintro e w2 ⟨rfl,hI2,hb2, -⟩
    have hB2:=hB.trans hb2
    have cS:=Tryd.Builder_String_any_k w.heap.size w.heap.size (Rf.esc form l) w2 (.inr hI2) hB2.size
    have HB2:=hide' hB2
    clear cW hI2 hb2 hB2 hB
    go_wp2_with fail
    refine cS.mono ?_
    rintro e w3 ⟨rfl, -,hb3, -⟩
    clear cS
    go_wp2
    go_ret
    exact ⟨rfl,HB2.out.trans hb3⟩
theorem rfText_any (l:List UInt8) (w:World) (hn:6 * l.length <= 140737488355328) :
 Calls Tryd.prog 19 #[.string ⟨l.toArray⟩] w fun e w' => e = .returned (.string ⟨(Rf.esc Rf.inT l).toArray⟩) /\ Below w.heap.size w w':=by
 have c:=escape_any 27 Rf.inT Rf.inT_le inText_any (enters_of Tryd.func27 (by kernel_rfl) rfl) l w hn
 go_enter Tryd.func19,Tryd.ntmps19
 go_wp2_with fail
 refine c.mono ?_
 rintro e w1 ⟨rfl,hb1⟩
 go_wp2
 go_ret
 exact ⟨rfl,hb1⟩
theorem rfValue_any (l:List UInt8) (w:World) (hn:6 * l.length <= 140737488355328) :
 Calls Tryd.prog 20 #[.string ⟨l.toArray⟩] w fun e w' => e = .returned (.string ⟨(Rf.esc Rf.inV l).toArray⟩) /\ Below w.heap.size w w':=by
 have c:=escape_any 28 Rf.inV Rf.inV_le inValue_any (enters_of Tryd.func28 (by kernel_rfl) rfl) l w hn
 go_enter Tryd.func20,Tryd.ntmps20
 go_wp2_with fail
 refine c.mono ?_
 rintro e w1 ⟨rfl,hb1⟩
 go_wp2
 go_ret
 exact ⟨rfl,hb1⟩
end Go.Proofs.YteiiepjegdlbeaaDoor
namespace Go.Proofs.YteiiepjegdlbeaaDoor
open Go.RowKit Go.Lib
namespace Rf
def cp (f:Nat -> Nat) (n:Nat) : List UInt8 -> Nat -> Nat
 | [],a => a
 | x :: r,a => if a < n /\ f a=x.toNat then cp f n r (a + 1) else a
end Rf
theorem common_any (f:Nat -> Nat) (pa:Option Addr) (n cap:Nat) (l:List UInt8) (w:World) (hn:n <= 9223372036854775806)
 (hpa:0 < n -> ∃ b o,pa=some ⟨b,o,none⟩ /\ Bytes w b o n f /\ b < w.heap.size) :
 Calls Tryd.prog 96 #[.slice pa n cap, .string ⟨l.toArray⟩] w fun e w' => e = .returned (.int .i64 (Rf.cp f n l 0)) /\ Below w.heap.size w w':=by
 obtain ⟨m,hm⟩ : ∃ m,l.length=m:=⟨_,rfl⟩
 go_enter Tryd.func96,Tryd.ntmps96
 go_wp2
 go_loopw [5] (fun a wr => ∃ a':Nat,a = .int .i64 a' /\ a' <= m /\ a' <= n /\ Hid (Rf.cp f n (l.drop a') a'=Rf.cp f n l 0) /\ Below w.heap.size w wr) (fun a _ => m - (RowKit.intOf a).toNat)
 case atStart => exact ⟨0,rfl,Nat.zero_le _,Nat.zero_le _,rfl,Below.refl _ _⟩
 case round =>
  obtain ⟨a,rfl,ham,han,hE,hB⟩:=hrel
  by_cases h1:a < n
  . have g1:(a:Int) < n:=by omega
    obtain ⟨b,o,rfl,hby, -⟩:=hpa (by omega)
    have hx:=hby.below hB (Nat.le_refl _) a h1
    by_cases h2:a < m
    . have g2:(a:Int) < m:=by omega
      have hal:a < l.length:=by omega
      obtain ⟨y,hy⟩ : ∃ y,l[a]'hal=y:=⟨_,rfl⟩
      have hix : ∀ h:a < (ByteArray.mk l.toArray).size,(ByteArray.mk l.toArray)[a]'h=y:=fun h => strIndex l a hal y hy h
      have hst:Rf.cp f n (l.drop a) a=if a < n /\ f a=y.toNat then Rf.cp f n (l.drop (a + 1)) (a + 1) else a:=by
       rw [List.drop_eq_getElem_cons hal,hy]
       rfl
      generalize f a=x at *
      by_cases h3:x=y.toNat
      . rw [if_pos ⟨h1,h3⟩,hE.out] at hst
        have e1:((x:Int) == (y.toNat:Int))=true:=by rw [h3]; simp
        have HST:=hide' hst
        clear hst hE hpa hby hy h3
        go_wp2
        go_quiet (fail)
        go_wp2
        go_roundw
        case rel => exact ⟨a + 1,by go_num,by omega,by omega,HST.out.symm,below_drewN hB nq⟩
        case measure => simp [RowKit.intOf]; omega
      . rw [if_neg (fun q => h3 q.2),hE.out] at hst
        have e1:((x:Int) == (y.toNat:Int))=false:=by simp; omega
        have HST:=hide' hst
        clear hst hE hpa hby hy h3
        go_wp2
        go_quiet (fail)
        go_wp2
        go_ret
        exact ⟨by rw [HST.out]; rfl,below_drewN hB nq⟩
    . obtain rfl:a=m:=by omega
      have g2:decide ((a:Int) < (a:Int))=false:=by simp
      have hst:Rf.cp f n (l.drop a) a=a:=by
       rw [List.drop_eq_nil_of_le (by omega)]
       rfl
      rw [hE.out] at hst
      have HST:=hide' hst
      clear hst hE hpa hby hx
      go_wp2
      go_quiet (fail)
      go_wp2
      go_ret
      exact ⟨by rw [HST.out]; rfl,below_drewN hB nq⟩
  . obtain rfl:a=n:=by omega
    have g1:decide ((a:Int) < (a:Int))=false:=by simp
    have hst:Rf.cp f a (l.drop a) a=a:=by
     cases l.drop a with
     | nil => rfl
     | cons x r =>
       show (if _ then _ else _)=_
       rw [if_neg (by omega)]
    rw [hE.out] at hst
    have HST:=hide' hst
    clear hst hE hpa
    go_wp2
    go_quiet (fail)
    go_wp2
    go_ret
    exact ⟨by rw [HST.out]; rfl,below_drewN hB nq⟩
end Go.Proofs.YteiiepjegdlbeaaDoor
namespace Go.Proofs.YteiiepjegdlbeaaDoor
open Go.RowKit Go.Lib
namespace Rf
end Rf
theorem strAppend (a b:List UInt8) : (ByteArray.mk a.toArray) ++ (ByteArray.mk b.toArray)=⟨(a ++ b).toArray⟩:=by
 have e:((ByteArray.mk a.toArray) ++ (ByteArray.mk b.toArray)).data=(a ++ b).toArray:=by
  rw [ByteArray.data_append]
  simp
 exact congrArg ByteArray.mk e
end Go.Proofs.YteiiepjegdlbeaaDoor
namespace Go.Proofs.YteiiepjegdlbeaaDoor
open Go.RowKit Go.Lib
namespace Rf
def nmT:List (List UInt8 × Nat) := [([97,109,112],38),([108,116],60),([103,116],62),([113,117,111,116],34),([97,112,111,115],39)]
def nmD:DataW Unit:=(((((DataW.map []).put (.string [97,109,112]) (.lit (.int .i32 38))).put (.string [108,116]) (.lit (.int .i32 60))).put (.string [103,116]) (.lit (.int .i32 62))).put (.string [113,117,111,116]) (.lit (.int .i32 34))).put (.string [97,112,111,115]) (.lit (.int .i32 39))
def whl (s:List UInt8) : List UInt8:=38 :: (s ++ [59])
def cmn (f:Nat -> Nat) (n:Nat) (s:List UInt8) : Nat:=cp f n (whl s) 0
def mxN (f:Nat -> Nat) (n:Nat) (left:Lit -> Bool) : List (List UInt8 × Nat) -> Nat
 | [] => 0
 | e :: t => max (if left (.string e.1)=true then 0 else cmn f n e.1) (mxN f n left t)
def nm (f:Nat -> Nat) (n:Nat) : Nat × Nat × Nat :=
 match nmT.find? (fun e => decide (cmn f n e.1=e.1.length + 2)) with
 | some e => (e.2,e.1.length + 2,0)
 | none => if mxN f n (fun _ => false) nmT=n then (0,0,1) else (0,mxN f n (fun _ => false) nmT,2)
theorem cp_le (f:Nat -> Nat) (n:Nat) : ∀ (l:List UInt8) (a:Nat),a <= cp f n l a /\ cp f n l a <= a + l.length
 | [],a => ⟨Nat.le_refl _,Nat.le_refl _⟩
 | x :: r,a => by
   have:=cp_le f n r (a + 1)
   unfold cp
   split
   . simp only [List.length_cons]; omega
   . simp only [List.length_cons]; omega
theorem cp_full (f:Nat -> Nat) (n:Nat) : ∀ (l:List UInt8) (a:Nat),cp f n l a=a + l.length -> ∀ j (h:j < l.length),a + j < n /\ f (a + j)=(l[j]'h).toNat
 | [],_,_,_,h => by simp at h
 | x :: r,a,he,j,h => by
   unfold cp at he
   split at he
   . next q =>
     cases j with
     | zero => exact ⟨by omega,q.2⟩
     | succ j =>
       have hr:cp f n r (a + 1)=(a + 1) + r.length:=by simp only [List.length_cons] at he; omega
       have:=cp_full f n r (a + 1) hr j (by simpa using h)
       rw [show a + 1 + j=a + (j + 1) by omega] at this
       exact this
   . simp only [List.length_cons] at he; omega
theorem full12 {f:Nat -> Nat} {n:Nat} {s:List UInt8} (h:cmn f n s=s.length + 2) (h2:2 <= s.length) : f 1=(s[0]'(by omega)).toNat /\ f 2=(s[1]'(by omega)).toNat:=by
 have hw:(whl s).length=s.length + 2:=by simp [whl]
 have k:=cp_full f n (whl s) 0 (by rw [hw]; unfold cmn at h; omega)
 have k1:=(k 1 (by omega)).2
 have k2:=(k 2 (by omega)).2
 constructor
 . rw [show 0 + 1=1 from rfl] at k1
   rw [k1]
   simp [whl,List.getElem_append_left,show 0 < s.length by omega]
 . rw [show 0 + 2=2 from rfl] at k2
   rw [k2]
   simp [whl,List.getElem_append_left,show 1 < s.length by omega]
theorem find_uni {α : Type} {p : α -> Bool} {e : α} : ∀ l:List α,e ∈ l -> p e=true -> (∀ x ∈ l,x ≠ e -> p x=false) -> l.find? p=some e
 | [],h,_,_ => by cases h
 | x :: r,h,he,hk => by
   by_cases q:x=e
   . subst q
     exact List.find?_cons_of_pos he
   . rw [List.find?_cons_of_neg (by rw [hk x (List.mem_cons_self ..) q]; decide)]
     refine find_uni r ?_ he (fun y hy => hk y (List.mem_cons_of_mem _ hy))
     rcases List.mem_cons.1 h with h | h
     . exact absurd h.symm q
     . exact h
theorem find_full {f:Nat -> Nat} {n:Nat} {e:List UInt8 × Nat} (he:e ∈ nmT) (h:cmn f n e.1=e.1.length + 2) : nmT.find? (fun e => decide (cmn f n e.1=e.1.length + 2))=some e:=by
 have k : ∀ e' ∈ nmT,e' ≠ e -> ¬ cmn f n e'.1=e'.1.length + 2:=by
  intro e' he' hne h'
  simp only [nmT,List.mem_cons,List.not_mem_nil,or_false] at he he'
  rcases he with rfl | rfl | rfl | rfl | rfl <;> rcases he' with rfl | rfl | rfl | rfl | rfl <;> first
   | exact hne rfl
   | (have a1:=full12 h (by decide); have a2:=full12 h' (by decide); simp at a1 a2; omega)
 exact find_uni nmT he (by simpa using h) (fun x hx hne => by simpa using k x hx hne)
theorem at5 : ∀ e ∈ nmT, ∀ zd,nmD.atKey (.string e.1) zd = .lit (.int .i32 (e.2:Nat)):=by
 intro e he zd
 simp only [nmT,List.mem_cons,List.not_mem_nil,or_false] at he
 rcases he with rfl | rfl | rfl | rfl | rfl <;> rfl
theorem has5 (kl:Lit) (h:Maps.has nmD kl=true) : ∃ e ∈ nmT,kl = .string e.1:=by
 have e0:nmD = .map [(.string [97,109,112], .lit (.int .i32 38)),(.string [97,112,111,115], .lit (.int .i32 39)),(.string [103,116], .lit (.int .i32 62)),(.string [108,116], .lit (.int .i32 60)),(.string [113,117,111,116], .lit (.int .i32 34))]:=by rfl
 rw [e0,Maps.has_eq] at h
 cases kl with
 | string s =>
   simp [Lit.sameKey] at h
   rcases h with h | h | h | h | h
   . exact ⟨([97,109,112],38),by decide,by rw [h]⟩
   . exact ⟨([97,112,111,115],39),by decide,by rw [h]⟩
   . exact ⟨([103,116],62),by decide,by rw [h]⟩
   . exact ⟨([108,116],60),by decide,by rw [h]⟩
   . exact ⟨([113,117,111,116],34),by decide,by rw [h]⟩
 | _ => simp [Lit.sameKey] at h
end Rf
theorem strKeyed:Maps.Keyed Tryd.prog 9:=Maps.string_keyed Tryd.underlying9
theorem names_any (w:World) :
 Calls Tryd.prog 95 #[] w fun e w' => e = .returned (.map (some w.heap.size)) /\ w'.ownsMap Tryd.prog 9 (plainElem (H:=Unit) Tryd.prog 21) w.heap.size 5 Rf.nmD /\ Below w.heap.size w w':=by
 have hmk:=run_makeMap (P:=Tryd.prog) 132 w
 have hM0:=World.ownsMap_made w Tryd.prog 9 (plainElem (H:=Unit) Tryd.prog 21)
 obtain ⟨W1,r1,hM1,g1⟩:=hM0.update strKeyed Tryd.underlying132 (by unfold maxLen; omega) (key := .string ⟨#[97,109,112]⟩) (val := .int .i32 38) (kl := .string [97,109,112]) (d := .lit (.int .i32 38)) (ps := []) (by kernel_rfl) (by kernel_rfl)
 obtain ⟨W2,r2,hM2,g2⟩:=hM1.update strKeyed Tryd.underlying132 (by unfold maxLen; omega) (key := .string ⟨#[108,116]⟩) (val := .int .i32 60) (kl := .string [108,116]) (d := .lit (.int .i32 60)) (ps := []) (by kernel_rfl) (by kernel_rfl)
 obtain ⟨W3,r3,hM3,g3⟩:=hM2.update strKeyed Tryd.underlying132 (by unfold maxLen; omega) (key := .string ⟨#[103,116]⟩) (val := .int .i32 62) (kl := .string [103,116]) (d := .lit (.int .i32 62)) (ps := []) (by kernel_rfl) (by kernel_rfl)
 obtain ⟨W4,r4,hM4,g4⟩:=hM3.update strKeyed Tryd.underlying132 (by unfold maxLen; omega) (key := .string ⟨#[113,117,111,116]⟩) (val := .int .i32 34) (kl := .string [113,117,111,116]) (d := .lit (.int .i32 34)) (ps := []) (by kernel_rfl) (by kernel_rfl)
 obtain ⟨W5,r5,hM5,g5⟩:=hM4.update strKeyed Tryd.underlying132 (by unfold maxLen; omega) (key := .string ⟨#[97,112,111,115]⟩) (val := .int .i32 39) (kl := .string [97,112,111,115]) (d := .lit (.int .i32 39)) (ps := []) (by kernel_rfl) (by kernel_rfl)
 have hB:Below w.heap.size w W5:=by
  have b0:Below w.heap.size w (w.alloc (.map #[] 0)):=(Below.refl _ _).alloc (Nat.le_refl _) _
  have st : ∀ {a b:World},Below w.heap.size w a -> a.grownBy b (some w.heap.size) -> Below w.heap.size w b:=fun ha hg => ha.grown hg ha.size (fun j hj => by cases hj; exact Nat.le_refl _)
  exact st (st (st (st (st b0 g1) g2) g3) g4) g5
 have HM:=hide' hM5
 clear hM0 hM1 hM2 hM3 hM4 hM5 g1 g2 g3 g4 g5
 go_enter Tryd.func95,Tryd.ntmps95
 go_wp2
 go_ret
 exact ⟨rfl,HM.out,hB⟩
namespace Rf
theorem mxN_step (f:Nat -> Nat) (n:Nat) (left:Lit -> Bool) (s:List UInt8) (hl:left (.string s)=true) : ∀ t:List (List UInt8 × Nat),mxN f n (fun z => left z && !z.sameKey (.string s)) t=if ∃ e ∈ t,e.1=s then max (mxN f n left t) (cmn f n s) else mxN f n left t
 | [] => by rw [if_neg (by simp)]; rfl
 | e :: t => by
   have ih:=mxN_step f n left s hl t
   show max (if (left (.string e.1) && !(Lit.string e.1).sameKey (.string s))=true then 0 else cmn f n e.1) (mxN f n _ t)=_
   rw [ih]
   have hs:(Lit.string e.1).sameKey (.string s)=decide (e.1=s):=by
    rw [Bool.eq_iff_iff]; simp [Lit.sameKey]
   by_cases h:e.1=s
   . rw [if_pos (⟨e,List.mem_cons_self ..,h⟩ : ∃ x ∈ e :: t,x.1=s)]
     have e1:(left (.string e.1) && !(Lit.string e.1).sameKey (.string s))=false:=by rw [hs]; simp [h]
     rw [if_neg (by rw [e1]; decide)]
     show _=max (max (if left (.string e.1)=true then 0 else cmn f n e.1) (mxN f n left t)) _
     rw [h,if_pos hl]
     split <;> omega
   . have e1:(left (.string e.1) && !(Lit.string e.1).sameKey (.string s))=left (.string e.1):=by rw [hs]; simp [h]
     have e2:(∃ x ∈ e :: t,x.1=s) ↔ ∃ x ∈ t,x.1=s:=by
      constructor
      . rintro ⟨x,hx,q⟩
        rcases List.mem_cons.1 hx with rfl | hx
        . exact absurd q h
        . exact ⟨x,hx,q⟩
      . rintro ⟨x,hx,q⟩
        exact ⟨x,List.mem_cons_of_mem _ hx,q⟩
     rw [e1]
     show _=if _ then max (max (if left (.string e.1)=true then 0 else cmn f n e.1) (mxN f n left t)) _ else max (if left (.string e.1)=true then 0 else cmn f n e.1) (mxN f n left t)
     by_cases q : ∃ x ∈ t,x.1=s
     . rw [if_pos q,if_pos (e2.2 q)]; omega
     . rw [if_neg q,if_neg (fun r => q (e2.1 r))]
theorem mxN_zero (f:Nat -> Nat) (n:Nat) (left:Lit -> Bool) : ∀ t:List (List UInt8 × Nat),(∀ e ∈ t,left (.string e.1)=true) -> mxN f n left t=0
 | [],_ => rfl
 | e :: t,h => by
   show max _ _=0
   rw [if_pos (h e (List.mem_cons_self ..)),mxN_zero f n left t (fun x hx => h x (List.mem_cons_of_mem _ hx))]
   rfl
theorem nm_len {e:List UInt8 × Nat} (he:e ∈ nmT) : e.1.length <= 4 /\ e.2 <= 100:=by
 simp only [nmT,List.mem_cons,List.not_mem_nil,or_false] at he
 rcases he with rfl | rfl | rfl | rfl | rfl <;> decide
theorem nm_full {f:Nat -> Nat} {n:Nat} {e:List UInt8 × Nat} (he:e ∈ nmT) (h:cmn f n e.1=e.1.length + 2) : nm f n=(e.2,e.1.length + 2,0):=by
 unfold nm
 rw [find_full he h]
theorem nm_none {f:Nat -> Nat} {n:Nat} (h : ∀ e ∈ nmT, ¬ cmn f n e.1=e.1.length + 2) : nm f n=if mxN f n (fun _ => false) nmT=n then (0,0,1) else (0,mxN f n (fun _ => false) nmT,2):=by
 unfold nm
 rw [List.find?_eq_none.2 (fun e he => by simpa using h e he)]
theorem cmn_le (f:Nat -> Nat) (n:Nat) (s:List UInt8) : cmn f n s <= s.length + 2:=by
 have h1:=(cp_le f n (whl s) 0).2
 have h2:(whl s).length=s.length + 2:=by simp [whl]
 unfold cmn
 omega
theorem mxN_le (f:Nat -> Nat) (n:Nat) (left:Lit -> Bool) : ∀ t:List (List UInt8 × Nat),(∀ e ∈ t,e.1.length <= 4) -> mxN f n left t <= 6
 | [],_ => Nat.zero_le _
 | e :: t,h => by
   have h1:=cmn_le f n e.1
   have h2:=h e (List.mem_cons_self ..)
   have h3:=mxN_le f n left t (fun x hx => h x (List.mem_cons_of_mem _ hx))
   show max _ _ <= 6
   split <;> omega
end Rf
theorem readName_any (f:Nat -> Nat) (pa:Option Addr) (n cap:Nat) (w:World) (hn:n <= 9223372036854775806)
 (hpa:0 < n -> ∃ b o,pa=some ⟨b,o,none⟩ /\ Bytes w b o n f /\ b < w.heap.size) :
 Calls Tryd.prog 80 #[.slice pa n cap] w fun e w' => e = .returned (Rf.rdV (Rf.nm f n)) /\ Below w.heap.size w w':=by
 have cN:=names_any w
 have cC:=fun (l:List UInt8) W (hb:Below w.heap.size w W) => common_any f pa n cap l W hn (fun h0 => by
  obtain ⟨b,o,e,hby,hlt⟩:=hpa h0
  exact ⟨b,o,e,hby.below hb (Nat.le_refl _),Nat.lt_of_lt_of_le hlt hb.size⟩)
 clear hpa
 go_enter Tryd.func80,Tryd.ntmps80
 go_wp2_with fail
 refine cN.mono ?_
 rintro e w1 ⟨rfl,hM1,hb1⟩
 clear cN
 go_wp2_with (at_range; refine wpList_range_own _ rfl _ 132 rfl 9 21 strKeyed Tryd.underlying132 (plainElem (H:=Unit) Tryd.prog 21) w.heap.size 5 Rf.nmD rfl hM1 ?_)
 intro w0 hrg0 hg0 hs0
 have hB0:Below w.heap.size w w0:=hb1.grown hg0 hb1.size (fun j hj => by cases hj)
 have hsr:w.heap.size <= w1.heap.size:=hb1.size
 clear hM1 hb1 hg0 hs0
 go_wp2
 go_loopw [5] (fun lo wr => ∃ (left:Lit -> Bool) (cnt:Nat),lo = .int .i64 (Rf.mxN f n left Rf.nmT) /\ wr.ranges Tryd.prog 9 (plainElem (H:=Unit) Tryd.prog 21) w.heap.size w1.heap.size 5 Rf.nmD left cnt /\ Hid (∀ e ∈ Rf.nmT,left (.string e.1)=false -> ¬ Rf.cmn f n e.1=e.1.length + 2) /\ Hid (∀ kl,left kl=true -> ∃ e ∈ Rf.nmT,kl = .string e.1) /\ Below w.heap.size w wr) (fun _ wr => wr.rangeLeft w.heap.size w1.heap.size)
 case atStart =>
  have h5 : ∀ e ∈ Rf.nmT,Maps.has Rf.nmD (.string e.1)=true:=fun e he => Maps.has_true_of_atKey (Rf.at5 e he)
  refine ⟨_,_, ?_,hrg0, ?_, ?_,hB0⟩
  . rw [Rf.mxN_zero f n _ Rf.nmT h5]; rfl
  . show ∀ e ∈ Rf.nmT,_
    intro e he h
    rw [h5 e he] at h
    cases h
  . exact fun kl h => Rf.has5 kl h
 case round =>
  obtain ⟨left,cnt,rfl,hrg,hno,hle,hB⟩:=hrel
  clear hrg0 hB0
  go_wp2_with (at_next; (refine wpList_next_ranges _ rfl _ rfl 9 strKeyed (plainElem (H:=Unit) Tryd.prog 21) (fun l:List UInt8 => Value.string ⟨l.toArray⟩) (Value.int .i32) (fun key kl hk => by obtain ⟨x,hx,_⟩:=Maps.keyOf_str Tryd.underlying9 hk; exact ⟨x,hx⟩) (fun v y hv => by obtain ⟨c,rfl,_⟩:=plainElem_int_inv Tryd.underlying21 hv; exact ⟨c,rfl⟩) w.heap.size w1.heap.size 5 Rf.nmD left cnt rfl hrg ?_ ?_))
  . intro h0 hl
    obtain rfl:left=fun _ => false:=funext hl
    have hnm:=Rf.nm_none (f:=f) (n:=n) (fun e he => hno.out e he rfl)
    have hmx:=Rf.mxN_le f n (fun _ => false) Rf.nmT (fun e he => (Rf.nm_len he).1)
    obtain ⟨X,hX⟩ : ∃ X,Rf.mxN f n (fun _ => false) Rf.nmT=X:=⟨_,rfl⟩
    rw [hX] at hnm hmx ⊢
    clear hX hno hle hrg cC hl
    by_cases hq:X=n
    . rw [if_pos hq] at hnm
      have g1:((X:Int) == (n:Int))=true:=by simp; omega
      clear hq
      go_wp2
      refine bodyPost_ret (v:=Rf.rdV (0,0,1)) (by simp [Rf.rdV,results,Tryd.results80,go_sem]) rfl ⟨by rw [hnm],hB⟩
    . rw [if_neg hq] at hnm
      have g1:((X:Int) == (n:Int))=false:=by simp; omega
      clear hq
      go_wp2
      refine bodyPost_ret (v:=Rf.rdV (0,X,2)) (by simp [Rf.rdV,results,Tryd.results80,go_sem]) rfl ⟨by rw [hnm],hB⟩
  . intro x c kl yd yp w2 cnt2 hkey hlk hv hat hrg2 hlt hg2 hs2 hen
    obtain ⟨x',ex,rfl,_⟩:=Maps.keyOf_str Tryd.underlying9 hkey
    obtain rfl:x=x':=by
     have h9:(ByteArray.mk x.toArray)=⟨x'.toArray⟩:=by simpa using ex
     have h8:x.toArray=x'.toArray:=congrArg ByteArray.data h9
     exact congrArg Array.toList h8
    obtain ⟨e,he,hke⟩:=hle.out _ hlk
    obtain rfl:x=e.1:=by cases hke; rfl
    obtain ⟨c',ec,hy,_⟩:=plainElem_int_inv Tryd.underlying21 hv
    cases ec
    have hce:c=(e.2:Int):=by
     have h9:=hat .nil
     rw [Rf.at5 e he .nil] at h9
     have h8:yd = .lit (.int .i32 c):=congrArg Prod.fst hy
     rw [h8] at h9
     cases h9
     rfl
    subst hce
    have hB2:Below w.heap.size w w2:=hB.grown hg2 hB.size (fun j hj => by cases hj; exact hsr)
    obtain ⟨hl4,hl100⟩:=Rf.nm_len he
    have hst:=Rf.mxN_step f n left e.1 hlk Rf.nmT
    rw [if_pos ⟨e,he,rfl⟩] at hst
    have hmx:=Rf.mxN_le f n left Rf.nmT (fun e he => (Rf.nm_len he).1)
    have hcl:=Rf.cmn_le f n e.1
    have hfull:=fun h => Rf.nm_full (f:=f) (n:=n) he h
    have cM:=cC (Rf.whl e.1) w2 hB2
    rw [show Rf.cp f n (Rf.whl e.1) 0=Rf.cmn f n e.1 from rfl] at cM
    have hno2 : ¬ Rf.cmn f n e.1=e.1.length + 2 -> ∀ e' ∈ Rf.nmT,(left (.string e'.1) && !(Lit.string e'.1).sameKey (.string e.1))=false -> ¬ Rf.cmn f n e'.1=e'.1.length + 2:=by
     intro hnf e' he' hf
     by_cases hq:left (.string e'.1)=true
     . rw [hq] at hf
       have:e'.1=e.1:=by simpa [Lit.sameKey] using hf
       rw [this]
       exact hnf
     . exact hno.out e' he' (by simpa using hq)
    have hle2 : ∀ kl,(left kl && !kl.sameKey (.string e.1))=true -> ∃ e ∈ Rf.nmT,kl = .string e.1:=fun kl h => hle.out kl (by simp at h; exact h.1)
    obtain ⟨P,hP⟩ : ∃ P:List UInt8,P = [38] ++ e.1:=⟨_,rfl⟩
    obtain ⟨U,hU⟩ : ∃ U:List UInt8,U=Rf.whl e.1:=⟨_,rfl⟩
    have ha1:(ByteArray.mk #[38]) ++ ⟨e.1.toArray⟩ = ⟨P.toArray⟩:=by rw [hP]; exact strAppend [38] e.1
    have ha2:(ByteArray.mk P.toArray) ++ ⟨#[59]⟩ = ⟨U.toArray⟩:=by rw [hU,hP]; exact (strAppend ([38] ++ e.1) [59]).trans (by simp [Rf.whl])
    have hlU:U.length=e.1.length + 2:=by rw [hU]; simp [Rf.whl]
    have hlP:P.length=e.1.length + 1:=by rw [hP]; simp
    rw [<- hU] at cM
    obtain ⟨m,hm⟩ : ∃ m,Rf.cmn f n e.1=m:=⟨_,rfl⟩
    rw [hm] at cM hst hcl hfull hno2
    obtain ⟨z,hz⟩ : ∃ z,e.1.length=z:=⟨_,rfl⟩
    rw [hz] at hlU hlP hl4 hfull hno2 hcl
    have gU:U.length=z + 2:=hlU
    have HRG:=hide' hrg2
    have HOLD:=hide' hrg
    have HST:=hide' hst
    have HN2:=hide' hno2
    have HL2:=hide' hle2
    have HF:=hide' hfull
    have g1:1 + z <= 9223372036854775807:=by omega
    have g2:P.length + 1 <= 9223372036854775807:=by omega
    obtain ⟨X,hX⟩ : ∃ X,Rf.mxN f n left Rf.nmT=X:=⟨_,rfl⟩
    rw [hX] at hmx ⊢
    have HX:=hide' hX
    clear hkey hlk hv hat hrg2 hg2 hs2 hrg hno hle ex hke hy cC hst hno2 hle2 hfull hP hU hm hX hB
    go_wp2_with fail
    refine cM.mono ?_
    rintro e0 w3 ⟨rfl,hb3⟩
    have hB3:=hB2.trans (hb3.mono hB2.size)
    clear cM hen
    by_cases hq:m=z + 2
    . have g3:((m:Int) == (z:Int) + 2)=true:=by simp; omega
      have g4:((m:Int) == ((z + 2:Nat) : Int))=true:=by simp; omega
      have hnm:=HF.out hq
      have HQ:=hide' hq
      clear hq
      go_wp2
      refine bodyPost_ret (v:=Rf.rdV (e.2,m,0)) (by simp [Rf.rdV,results,Tryd.results80,go_sem]) rfl ⟨?_,hB3⟩
      rw [hnm,HQ.out]
    . have g3:((m:Int) == (z:Int) + 2)=false:=by simp; omega
      have hgr:w2.grownBy w3 none:=⟨hb3.os,hb3.tape,hb3.output,hb3.size,fun k hk _ => hb3.block k hk⟩
      have hrg3:=HRG.out.kept hgr (by simp) (by simp)
      have HR3:=hide' hrg3
      clear hrg3
      have HNF:=hide' (HN2.out hq)
      clear hq
      go_wp2
      refine ⟨⟨_,cnt2,congrArg (Value.int .i64) ?_,HR3.out,HNF.out,HL2.out,hB3⟩,by rw [HR3.out.left_eq,HOLD.out.left_eq]; exact hlt⟩
      rw [HST.out,HX.out]
      omega
end Go.Proofs.YteiiepjegdlbeaaDoor
namespace Go.Proofs.YteiiepjegdlbeaaDoor
open Go.RowKit Go.Lib
namespace Rf
def rdN (f:Nat -> Nat) (n:Nat) : Nat × Nat × Nat:=if 2 < n /\ f 2=120 then rn f 16 5 (n - 3) 3 0 else rn f 10 4 (n - 2) 2 0
end Rf
theorem rfRead_num (f:Nat -> Nat) (pa:Option Addr) (n cap:Nat) (w:World) (hS:Spans w) (hf : ∀ j,f j < 256) (hn:n <= 9223372036854775806) (h2:2 <= n) (h0:f 0=38) (h1:f 1=35)
 (hpa:0 < n -> ∃ b o,pa=some ⟨b,o,none⟩ /\ Bytes w b o n f /\ b < w.heap.size) :
 Calls Tryd.prog 67 #[.slice pa n cap] w fun e w' => e = .returned (Rf.rdV (Rf.rdN f n)) /\ Below w.heap.size w w':=by
 obtain ⟨b,o,rfl,hby,hbl⟩:=hpa (by omega)
 have b0:=hby 0 (by omega)
 have b1:=hby 1 (by omega)
 rw [h0] at b0
 rw [h1] at b1
 rw [Nat.add_zero] at b0
 have g1:(0:Int) < (n:Int):=by omega
 have g2 : ¬ (n:Int) < 2:=by omega
 by_cases h:2 < n /\ f 2=120
 . have c:=readNumber_any f (some ⟨b,o,none⟩) n cap 3 16 5 w hS hf hn (.inr ⟨rfl,rfl⟩) (by omega) (fun _ => ⟨b,o,rfl,hby,hbl⟩)
   have b2:=hby 2 h.1
   rw [h.2] at b2
   have g3:(2:Int) < (n:Int):=by omega
   unfold Rf.rdN
   rw [if_pos h]
   obtain ⟨V,hV⟩ : ∃ V,Rf.rn f 16 5 (n - 3) 3 0=V:=⟨_,rfl⟩
   rw [hV] at c ⊢
   clear hV hby hpa h h0 h1
   unfold Rf.rdV at c
   go_enter Tryd.func67,Tryd.ntmps67
   go_wp2_with fail
   refine c.mono ?_
   rintro e w1 ⟨rfl,hb1⟩
   go_wp2
   refine bodyPost_ret (v:=Rf.rdV V) (by simp [Rf.rdV,results,Tryd.results67,go_sem]) rfl ⟨rfl,hb1⟩
 . have c:=readNumber_any f (some ⟨b,o,none⟩) n cap 2 10 4 w hS hf hn (.inl ⟨rfl,rfl⟩) (by omega) (fun _ => ⟨b,o,rfl,hby,hbl⟩)
   unfold Rf.rdN
   rw [if_neg h]
   obtain ⟨V,hV⟩ : ∃ V,Rf.rn f 10 4 (n - 2) 2 0=V:=⟨_,rfl⟩
   rw [hV] at c ⊢
   unfold Rf.rdV at c
   by_cases g3:2 < n
   . have g4:(2:Int) < (n:Int):=by omega
     have b2:=hby 2 g3
     have hx:f 2 ≠ 120:=fun e => h ⟨g3,e⟩
     generalize f 2=x at *
     have g5:((x:Int) == 120)=false:=by simp; omega
     clear hV hby hpa h h0 h1
     go_enter Tryd.func67,Tryd.ntmps67
     go_wp2_with fail
     refine c.mono ?_
     rintro e w1 ⟨rfl,hb1⟩
     go_wp2
     refine bodyPost_ret (v:=Rf.rdV V) (by simp [Rf.rdV,results,Tryd.results67,go_sem]) rfl ⟨rfl,hb1⟩
   . have g4 : ¬ (2:Int) < (n:Int):=by omega
     clear hV hby hpa h h0 h1
     go_enter Tryd.func67,Tryd.ntmps67
     go_wp2_with fail
     refine c.mono ?_
     rintro e w1 ⟨rfl,hb1⟩
     go_wp2
     refine bodyPost_ret (v:=Rf.rdV V) (by simp [Rf.rdV,results,Tryd.results67,go_sem]) rfl ⟨rfl,hb1⟩
end Go.Proofs.YteiiepjegdlbeaaDoor
namespace Go.Proofs.YteiiepjegdlbeaaDoor
open Go.RowKit Go.Lib
namespace Rf
def rd (f:Nat -> Nat) (n:Nat) : Nat × Nat × Nat :=
 if 0 < n /\ f 0 ≠ 38 then (0,0,2) else if n < 2 then (0,0,1) else if f 1 ≠ 35 then nm f n else rdN f n
theorem cp_bound (f:Nat -> Nat) (n:Nat) : ∀ (l:List UInt8) (a:Nat),a <= n -> cp f n l a <= n
 | [],a,h => h
 | x :: r,a,h => by
   unfold cp
   split
   . next q => exact cp_bound f n r (a + 1) (by omega)
   . exact h
theorem cp_stay {f g:Nat -> Nat} {n n':Nat} (hg : ∀ j,j < n -> f j=g j) (hn:n <= n') : ∀ (l:List UInt8) (a:Nat),cp f n l a < n -> cp g n' l a=cp f n l a
 | [],a,_ => rfl
 | x :: r,a,h => by
   unfold cp at h ⊢
   by_cases q:a < n /\ f a=x.toNat
   . rw [if_pos q] at h ⊢
     rw [if_pos ⟨by omega,by rw [<- hg a q.1]; exact q.2⟩]
     exact cp_stay hg hn r (a + 1) h
   . rw [if_neg q] at h ⊢
     rw [if_neg (fun p => q ⟨h,by rw [hg a h]; exact p.2⟩)]
theorem cp_mk {f:Nat -> Nat} {n:Nat} : ∀ (l:List UInt8) (a:Nat),(∀ j (h:j < l.length),a + j < n /\ f (a + j)=(l[j]'h).toNat) -> cp f n l a=a + l.length
 | [],a,_ => rfl
 | x :: r,a,h => by
   unfold cp
   have h0:=h 0 (by simp)
   rw [if_pos ⟨by omega,h0.2⟩,cp_mk r (a + 1) (fun j hj => by
    have:=h (j + 1) (by simpa using hj)
    rw [show a + 1 + j=a + (j + 1) by omega]
    exact this)]
   simp only [List.length_cons]
   omega
theorem whl_len (s:List UInt8) : (whl s).length=s.length + 2:=by simp [whl]
theorem cmn_full_stay {f g:Nat -> Nat} {n n':Nat} (hg : ∀ j,j < n -> f j=g j) (hn:n <= n') {s:List UInt8} (h:cmn f n s=s.length + 2) : cmn g n' s=s.length + 2:=by
 have k:=cp_full f n (whl s) 0 (by rw [whl_len]; unfold cmn at h; omega)
 have:=cp_mk (f:=g) (n:=n') (whl s) 0 (fun j hj => by
  have h9:=k j hj
  exact ⟨by omega,by rw [<- hg _ h9.1]; exact h9.2⟩)
 unfold cmn
 rw [this,whl_len]
 omega
theorem cmn_bound (f:Nat -> Nat) (n:Nat) (s:List UInt8) : cmn f n s <= n:=cp_bound f n _ 0 (Nat.zero_le _)
theorem mxN_bound (f:Nat -> Nat) (n:Nat) (left:Lit -> Bool) : ∀ t:List (List UInt8 × Nat),mxN f n left t <= n
 | [] => Nat.zero_le _
 | e :: t => by
   have h1:=cmn_bound f n e.1
   have h3:=mxN_bound f n left t
   show max _ _ <= n
   split <;> omega
theorem mxN_ge (f:Nat -> Nat) (n:Nat) : ∀ t:List (List UInt8 × Nat), ∀ e ∈ t,cmn f n e.1 <= mxN f n (fun _ => false) t
 | [],_,h => by cases h
 | x :: t,e,h => by
   show _ <= max (if false=true then 0 else cmn f n x.1) (mxN f n _ t)
   rw [if_neg (by decide)]
   rcases List.mem_cons.1 h with rfl | h
   . omega
   . have:=mxN_ge f n t e h
     omega
theorem mxN_stay {f g:Nat -> Nat} {n n':Nat} : ∀ t:List (List UInt8 × Nat),(∀ e ∈ t,cmn g n' e.1=cmn f n e.1) -> mxN g n' (fun _ => false) t=mxN f n (fun _ => false) t
 | [],_ => rfl
 | x :: t,h => by
   show max (if false=true then 0 else cmn g n' x.1) (mxN g n' _ t)=max (if false=true then 0 else cmn f n x.1) (mxN f n _ t)
   rw [h x (List.mem_cons_self ..),mxN_stay t (fun e he => h e (List.mem_cons_of_mem _ he))]
theorem nm_ways (f:Nat -> Nat) (n:Nat) : (∃ e ∈ nmT,cmn f n e.1=e.1.length + 2 /\ nm f n=(e.2,e.1.length + 2,0) /\ e.1.length + 2 <= n) \/ ((∀ e ∈ nmT, ¬ cmn f n e.1=e.1.length + 2) /\ mxN f n (fun _ => false) nmT=n /\ nm f n=(0,0,1)) \/ ((∀ e ∈ nmT, ¬ cmn f n e.1=e.1.length + 2) /\ mxN f n (fun _ => false) nmT < n /\ nm f n=(0,mxN f n (fun _ => false) nmT,2)):=by
 by_cases h : ∃ e ∈ nmT,cmn f n e.1=e.1.length + 2
 . obtain ⟨e,he,hf⟩:=h
   have:=cmn_bound f n e.1
   exact .inl ⟨e,he,hf,nm_full he hf,by omega⟩
 . have hno : ∀ e ∈ nmT, ¬ cmn f n e.1=e.1.length + 2:=fun e he hf => h ⟨e,he,hf⟩
   have hn:=nm_none hno
   have hb:=mxN_bound f n (fun _ => false) nmT
   by_cases q:mxN f n (fun _ => false) nmT=n
   . rw [if_pos q] at hn
     exact .inr (.inl ⟨hno,q,hn⟩)
   . rw [if_neg q] at hn
     exact .inr (.inr ⟨hno,by omega,hn⟩)
def Fine (n:Nat) (x:Nat × Nat × Nat) : Prop:=(x=(0,0,1)) \/ (x.2.2=2 /\ x.1=0 /\ x.2.1 < n) \/ (x.2.2=0 /\ x.2.1 <= n /\ x.1 <= 1114111)
theorem nm_fine (f:Nat -> Nat) (n:Nat) : Fine n (nm f n):=by
 rcases nm_ways f n with ⟨e,he,_,h,hl⟩ | ⟨_,_,h⟩ | ⟨_,hl,h⟩
 . have:=(nm_len he).2
   rw [h]; exact .inr (.inr ⟨rfl,hl,by simp only; omega⟩)
 . rw [h]; exact .inl rfl
 . rw [h]; exact .inr (.inl ⟨rfl,rfl,hl⟩)
theorem nm_stay {f g:Nat -> Nat} {n n':Nat} (hg : ∀ j,j < n -> f j=g j) (hn:n <= n') (h:(nm f n).2.2 ≠ 1) : nm g n'=nm f n:=by
 rcases nm_ways f n with ⟨e,he,hf,h1,hl⟩ | ⟨_,_,h1⟩ | ⟨hno,hl,h1⟩
 . rw [h1,nm_full he (cmn_full_stay hg hn hf)]
 . rw [h1] at h; exact absurd rfl h
 . have hc : ∀ e ∈ nmT,cmn g n' e.1=cmn f n e.1:=fun e he => by
    have:=mxN_ge f n nmT e he
    exact cp_stay hg hn _ 0 (show cmn f n e.1 < n by omega)
   rw [h1,nm_none (fun e he => by rw [hc e he]; exact hno e he),mxN_stay nmT hc,if_neg (by omega)]
theorem rn_fine (f:Nat -> Nat) (base c:Nat) : ∀ (k a v:Nat),v <= 1114111 -> Fine (a + k) (rn f base c k a v)
 | 0,a,v,_ => .inl rfl
 | k + 1,a,v,hv => by
   rw [rn_succ]
   by_cases h1:isD c (f a)=true
   . rw [if_pos h1]
     by_cases h2:1114111 < v * base + dv (f a)
     . rw [if_pos h2]; exact .inr (.inl ⟨rfl,rfl,by simp only; omega⟩)
     . rw [if_neg h2]
       have:=rn_fine f base c k (a + 1) (v * base + dv (f a)) (by omega)
       rw [show a + 1 + k=a + (k + 1) by omega] at this
       exact this
   . rw [if_neg h1]
     by_cases h2:f a=59 /\ Ch.isT Ch.tab 0 (v:Int)=true
     . rw [if_pos h2]; exact .inr (.inr ⟨rfl,by simp only; omega,hv⟩)
     . rw [if_neg h2]; exact .inr (.inl ⟨rfl,rfl,by simp only; omega⟩)
theorem rn_stay {f g:Nat -> Nat} (base c:Nat) {n:Nat} (hg : ∀ j,j < n -> f j=g j) : ∀ (k k' a v:Nat),a + k=n -> k <= k' -> (rn f base c k a v).2.2 ≠ 1 -> rn g base c k' a v=rn f base c k a v
 | 0,_,a,v,_,_,h => absurd rfl h
 | k + 1,k',a,v,ha,hk,h => by
   obtain ⟨k2,rfl⟩ : ∃ k2,k'=k2 + 1:=⟨k' - 1,by omega⟩
   rw [rn_succ] at h ⊢
   rw [rn_succ, <- hg a (by omega)]
   by_cases h1:isD c (f a)=true
   . rw [if_pos h1] at h ⊢
     rw [if_pos h1]
     by_cases h2:1114111 < v * base + dv (f a)
     . rw [if_pos h2,if_pos h2]
     . rw [if_neg h2] at h ⊢
       rw [if_neg h2]
       exact rn_stay base c hg k k2 (a + 1) _ (by omega) (by omega) h
   . rw [if_neg h1,if_neg h1]
theorem rdN_fine (f:Nat -> Nat) (n:Nat) (h:2 <= n) : Fine n (rdN f n):=by
 unfold rdN
 split
 . next q =>
   have:=rn_fine f 16 5 (n - 3) 3 0 (by omega)
   rw [show 3 + (n - 3)=n by omega] at this
   exact this
 . have:=rn_fine f 10 4 (n - 2) 2 0 (by omega)
   rw [show 2 + (n - 2)=n by omega] at this
   exact this
theorem rdN_stay {f g:Nat -> Nat} {n n':Nat} (h2:2 <= n) (hg : ∀ j,j < n -> f j=g j) (hn:n <= n') (h:(rdN f n).2.2 ≠ 1) : rdN g n'=rdN f n:=by
 by_cases h3:2 < n
 . unfold rdN at h ⊢
   rw [<- hg 2 h3]
   by_cases q:f 2=120
   . rw [if_pos ⟨h3,q⟩] at h
     rw [if_pos ⟨by omega,q⟩,if_pos ⟨h3,q⟩]
     exact rn_stay 16 5 hg (n - 3) (n' - 3) 3 0 (by omega) (by omega) h
   . rw [if_neg (fun p => q p.2)] at h ⊢
     rw [if_neg (fun p => q p.2)]
     exact rn_stay 10 4 hg (n - 2) (n' - 2) 2 0 (by omega) (by omega) h
 . obtain rfl:n=2:=by omega
   unfold rdN at h
   rw [if_neg (by omega)] at h
   exact absurd rfl h
theorem rd_fine (f:Nat -> Nat) (n:Nat) : Fine n (rd f n):=by
 unfold rd
 split
 . next q => exact .inr (.inl ⟨rfl,rfl,q.1⟩)
 . split
   . exact .inl rfl
   . next q =>
     split
     . exact nm_fine f n
     . exact rdN_fine f n (by omega)
theorem rd_stay {f g:Nat -> Nat} {n n':Nat} (hg : ∀ j,j < n -> f j=g j) (hn:n <= n') (h:(rd f n).2.2 ≠ 1) : rd g n'=rd f n:=by
 unfold rd at h ⊢
 by_cases h0:0 < n /\ f 0 ≠ 38
 . rw [if_pos h0,if_pos ⟨by omega,by rw [<- hg 0 h0.1]; exact h0.2⟩]
 . rw [if_neg h0] at h ⊢
   by_cases h1:n < 2
   . rw [if_pos h1] at h; exact absurd rfl h
   . rw [if_neg h1] at h ⊢
     have e0:f 0=38:=by
      by_cases q:f 0=38
      . exact q
      . exact absurd ⟨by omega,q⟩ h0
     rw [if_neg (fun q => q.2 (by rw [<- hg 0 (by omega)]; exact e0)),if_neg (by omega), <- hg 1 (by omega)]
     by_cases h2:f 1 ≠ 35
     . rw [if_pos h2] at h ⊢
       rw [if_pos h2]
       exact nm_stay hg hn h
     . rw [if_neg h2] at h ⊢
       rw [if_neg h2]
       exact rdN_stay (by omega) hg hn h
theorem rd_waits {f:Nat -> Nat} {n i:Nat} (h:(rd f n).2.2=1) (hi:i <= n) : (rd f i).2.2=1:=by
 by_cases q:(rd f i).2.2=1
 . exact q
 . rw [rd_stay (f:=f) (g:=f) (n:=i) (n':=n) (fun _ _ => rfl) hi q] at h
   exact absurd h q
theorem rd_congr {f g:Nat -> Nat} {n:Nat} (hg : ∀ j,j < n -> f j=g j) : rd f n=rd g n:=by
 by_cases q:(rd f n).2.2=1
 . by_cases p : (rd g n).2.2 = 1
   . have k : ∀ x,Fine n x -> x.2.2=1 -> x=(0,0,1):=by
      intro x hx h1
      rcases hx with r | r | r
      . exact r
      . omega
      . omega
     rw [k _ (rd_fine f n) q,k _ (rd_fine g n) p]
   . exact rd_stay (fun j hj => (hg j hj).symm) (Nat.le_refl _) p
 . exact (rd_stay hg (Nat.le_refl _) q).symm
end Rf
theorem rfRead_any (f:Nat -> Nat) (pa:Option Addr) (n cap:Nat) (w:World) (hS:Spans w) (hf : ∀ j,f j < 256) (hn:n <= 9223372036854775806)
 (hpa:0 < n -> ∃ b o,pa=some ⟨b,o,none⟩ /\ Bytes w b o n f /\ b < w.heap.size) :
 Calls Tryd.prog 67 #[.slice pa n cap] w fun e w' => e = .returned (Rf.rdV (Rf.rd f n)) /\ Below w.heap.size w w':=by
 by_cases h0:n=0
 . subst h0
   have e:Rf.rd f 0=(0,0,1):=by unfold Rf.rd; rw [if_neg (by omega),if_pos (by omega)]
   rw [e]
   go_enter Tryd.func67,Tryd.ntmps67
   go_wp2
   refine bodyPost_ret (v:=Rf.rdV (0,0,1)) (by simp [Rf.rdV,results,Tryd.results67,go_sem]) rfl ⟨rfl,Below.refl _ _⟩
 . obtain ⟨b,o,rfl,hby,hbl⟩:=hpa (by omega)
   have b0:=hby 0 (by omega)
   rw [Nat.add_zero] at b0
   have g1:(0:Int) < (n:Int):=by omega
   by_cases h1:f 0=38
   . by_cases h2 : n < 2
     . have e:Rf.rd f n=(0,0,1):=by unfold Rf.rd; rw [if_neg (fun q => q.2 h1),if_pos h2]
       rw [e]
       rw [h1] at b0
       have g2:(n:Int) < 2:=by omega
       clear hby hpa hS
       go_enter Tryd.func67,Tryd.ntmps67
       go_wp2
       refine bodyPost_ret (v:=Rf.rdV (0,0,1)) (by simp [Rf.rdV,results,Tryd.results67,go_sem]) rfl ⟨rfl,Below.refl _ _⟩
     . by_cases h3 : f 1 = 35
       . have e:Rf.rd f n=Rf.rdN f n:=by unfold Rf.rd; rw [if_neg (fun q => q.2 h1),if_neg h2,if_neg (fun q => q h3)]
         rw [e]
         exact rfRead_num f _ n cap w hS hf hn (by omega) h1 h3 hpa
       . have e:Rf.rd f n=Rf.nm f n:=by unfold Rf.rd; rw [if_neg (fun q => q.2 h1),if_neg h2,if_pos h3]
         have c:=readName_any f _ n cap w hn hpa
         have b1:=hby 1 (by omega)
         rw [e]
         rw [h1] at b0
         obtain ⟨V,hV⟩ : ∃ V,Rf.nm f n=V:=⟨_,rfl⟩
         rw [hV] at c ⊢
         generalize f 1=x at *
         have g2 : ¬ (n:Int) < 2:=by omega
         have g3:((x:Int) == 35)=false:=by simp; omega
         clear hV hby hpa hS h3 e
         unfold Rf.rdV at c
         go_enter Tryd.func67,Tryd.ntmps67
         go_wp2_with fail
         refine c.mono ?_
         rintro e w1 ⟨rfl,hb1⟩
         go_wp2
         refine bodyPost_ret (v:=Rf.rdV V) (by simp [Rf.rdV,results,Tryd.results67,go_sem]) rfl ⟨rfl,hb1⟩
   . have e:Rf.rd f n=(0,0,2):=by unfold Rf.rd; rw [if_pos ⟨by omega,h1⟩]
     rw [e]
     generalize f 0=x at *
     have g3:((x:Int) == 38)=false:=by simp; omega
     clear hby hpa hS h1 e
     go_enter Tryd.func67,Tryd.ntmps67
     go_wp2
     refine bodyPost_ret (v:=Rf.rdV (0,0,2)) (by simp [Rf.rdV,results,Tryd.results67,go_sem]) rfl ⟨rfl,Below.refl _ _⟩
end Go.Proofs.YteiiepjegdlbeaaDoor
