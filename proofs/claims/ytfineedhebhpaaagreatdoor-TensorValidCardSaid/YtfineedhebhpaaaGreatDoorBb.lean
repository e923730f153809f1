/-
  Several texts in one: Facts, Trim, TrimN, Same, DivL, Cmp, Group, Dec, Text, DivA, Mul, Awake, Add, Law.
-/
import Derived.Test.YtfineedhebhpaaaGreatDoorBa
import Derived.Test.YtfineedhebhpaaaGreatDoorProg
import Derived.Laws.CopyOwn
import Derived.Lib.ItoaNum
import Derived.Lib.UnsafeStr
import Derived.Test.YtfineedhebhpaaaGreatDoorShelf
import Derived.Lib.AppendIntMem
namespace Go.Proofs.YtfineedhebhpaaaGreatDoor
open Nat renaming le_refl→Yu
open Lib renaming hid→Yt
set_option maxHeartbeats 16000000
theorem BT:(Tryz.prog.info? 31).map (fun i=>(i.zero,i.size,i.bytes))=some (some (.int .u32 0),1,4):=by kernel_rfl
theorem AZ:Tryz.prog.underlying 32=some (.slice 31):=Tryz.underlying32
theorem Xm:(Tryz.prog.info? 5).map (fun i=>(i.zero,i.size,i.bytes))=some (some (.int .u8 0),1,1):=by kernel_rfl
theorem Lp:Tryz.prog.underlying 171=some (.slice 5):=Tryz.underlying171
open Go.RowKit
theorem Kp.alloc (w:World) (o:Obj):Kp w (w.alloc o):=(Below.refl _ _).alloc (Yu _) o
theorem DW (v:Value) (xs:List Nat) (w:World) (hs:Rd w v xs) (hl:xs.length≤1099511627776):
  Calls Tryz.prog 194 #[v] w fun e w'=> ∃v',e= .returned v'∧Rd w' v' (Aq xs)∧Kp w w':=by
 obtain ⟨ao,cap,rfl,hc1,hm,hx,hs⟩:=hs
 unfold maxLen at hm
 obtain ⟨i0,hi,hz0,hz1,hz2⟩:=info_parts BT
 go_enter Tryz.func194,Tryz.ntmps194
 go_wp2
 go_loop [3] (fun i=> ∃k:Nat,k≤xs.length∧i= .int .i64 k∧Aq (xs.take k)=Aq xs) (fun i=>(intOf i).toNat)
 case atStart=>exact ⟨xs.length,Yu _,rfl,by simp⟩
 case round=>
  obtain ⟨k,hk,rfl,ht⟩:=hrel
  have HT:=Yt ht
  have HX:=Yt hx
  clear ht hx
  by_cases hk0:0<k
  ·have hlen:(cellsOf (xs.take k)).length=k*1:=by simp [cellsOf];omega
   have hnews:=((hs.take k).kp (Kp.alloc w (Obj.cells #[] 31))).news
   have HLen:=Yt hlen
   obtain ⟨b,off,rfl,hc⟩:=hs.cell (by omega)
   have hcell:=hc (k-1) (by omega)
   have HN:=Yt hnews
   clear hc hs hlen hnews
   by_cases hz:xs.getD (k-1) 0=0
   ·have hzb:((((xs[k-1]?.getD 0:Nat):Int))==0)=true:=by simpa [List.getD] using hz
    have HZ:=Yt hz
    clear hz
    go_wp2
    go_round
    case rel=>exact ⟨k-1,by omega,by go_num,by rw [←Em xs k hk0 hk HZ.out];exact HT.out⟩
    case measure=>simp [intOf];omega
   ·have hzb:((((xs[k-1]?.getD 0:Nat):Int))==0)=false:=by simpa [List.getD] using hz
    have HZ:=Yt (FA xs k hk0 hk hz)
    clear hz
    go_wp2_with (at_builtin;refine AJ _ rfl (.tmp 18) (.tmp 21) 32 rfl w.heap.size 31 i0 (.int .u32 0) 1 4 AZ hi hz0 hz1 hz2 rfl (by decide) (.slice (some ⟨w.heap.size,0,none⟩) 0 0) 0 [] rfl (World.ownsRow_made w #[] 0 (Yu _) (Nat.zero_le _) rfl) _ k _ (cellsOf (xs.take k)) rfl HLen.out HN.out (A9 _) (by unfold maxLen;omega) (by omega) (by simp) ?_;intro v' w1 hown hg _)
    simp only [List.nil_append,Nat.zero_add] at hown
    have hr:=Rd.owned hown (HX.out.take k)
    rw [←HZ.out,HT.out] at hr
    go_wp2
    go_ret
    exact ⟨_,rfl,hr,(Kp.alloc w _).grown hg (by simp) (by intro j hj;simp [Value.ownBlock] at hj;omega)⟩
  ·obtain rfl:k=0:=by omega
   have hnews:Src (w.alloc (Obj.cells #[] 31)) ao (cellsOf []):=fun h=>absurd h (by simp [cellsOf])
   have HN:=Yt hnews
   clear hnews hs
   go_wp2_with (at_builtin;refine AJ _ rfl (.tmp 18) (.tmp 21) 32 rfl w.heap.size 31 i0 (.int .u32 0) 1 4 AZ hi hz0 hz1 hz2 rfl (by decide) (.slice (some ⟨w.heap.size,0,none⟩) 0 0) 0 [] rfl (World.ownsRow_made w #[] 0 (Yu _) (Nat.zero_le _) rfl) _ 0 _ (cellsOf []) rfl rfl HN.out (A9 _) (by unfold maxLen;omega) (by omega) (by simp) ?_;intro v' w1 hown hg _)
   simp only [List.nil_append,Nat.zero_add] at hown
   have hr:=Rd.owned hown Ai.nil
   have e:Aq xs= []:=by rw [←HT.out];rfl
   rw [←e] at hr
   go_wp2
   go_ret
   exact ⟨_,rfl,hr,(Kp.alloc w _).grown hg (by simp) (by intro j hj;simp [Value.ownBlock] at hj;omega)⟩
theorem Gv {a:Option Addr} {n m c:Nat} (h:n=m):Ending.returned (.slice a n c)= .returned (.slice a m c):=by rw [h]
theorem BE (ao:Option Addr) (cap:Nat) (xs:List Nat) (w:World) (hc1:xs.length≤cap) (hm:cap≤maxLen) (hs:Sl w ao xs):
  Calls Tryz.prog 267 #[.slice ao xs.length cap] w fun e w'=>e= .returned (.slice ao (Aq xs).length cap)∧w=w':=by
 unfold maxLen at hm
 go_enter Tryz.func267,Tryz.ntmps267
 go_wp2
 go_loop [0] (fun v=> ∃k:Nat,k≤xs.length∧v= .slice ao k cap∧Aq (xs.take k)=Aq xs) (fun v=>match v with | .slice _ n _=>n|_=>0)
 case atStart=>exact ⟨xs.length,Yu _,rfl,by simp⟩
 case round=>
  obtain ⟨k,hk,rfl,ht⟩:=hrel
  have HT:=Yt ht
  clear ht
  by_cases hk0:0<k
  ·obtain ⟨b,off,rfl,hc⟩:=hs.cell (by omega)
   have hcell:=hc (k-1) (by omega)
   clear hc hs
   by_cases hz:xs.getD (k-1) 0=0
   ·have hzb:((((xs[k-1]?.getD 0:Nat):Int))==0)=true:=by simpa [List.getD] using hz
    have HZ:=Yt hz
    clear hz
    go_wp2
    go_round
    case rel=>exact ⟨k-1,by omega,by go_num,by rw [←Em xs k hk0 hk HZ.out];exact HT.out⟩
    case measure=>simp;omega
   ·have hzb:((((xs[k-1]?.getD 0:Nat):Int))==0)=false:=by simpa [List.getD] using hz
    have hl:(Aq xs).length=k:=by rw [←HT.out,FA xs k hk0 hk hz];simp;omega
    have HZ:=Yt hl
    clear hz hl
    go_wp2
    go_ret
    exact ⟨Gv HZ.out.symm,rfl⟩
  ·obtain rfl:k=0:=by omega
   have hl:(Aq xs).length=0:=by rw [←HT.out];rfl
   have HZ:=Yt hl
   clear hl
   go_wp2
   go_ret
   exact ⟨Gv HZ.out.symm,rfl⟩
theorem Cg (ao:Option Addr) (n cap:Nat) (xs:List Nat) (w:World) (hn:xs.length=n) (hc1:n≤cap) (hm:cap≤maxLen) (hs:Sl w ao xs):
  Calls Tryz.prog 267 #[.slice ao n cap] w fun e w'=>e= .returned (.slice ao (Aq xs).length cap)∧w=w':=by
 subst hn
 exact BE ao cap xs w hc1 hm hs
theorem Kp.drewN {w0 w:World} (h:Kp w0 w) (n:Nat):Kp w0 (w.drewN n):=⟨h.os,h.tape,h.output,h.size,h.block⟩
theorem Er {a b:Bool} (h:a=b):Ending.returned (.bool a)= .returned (.bool b):=by rw [h]
theorem PF {xs ys:List Nat} (hl:xs.length=ys.length) (h: ∀j,j<xs.length→xs.getD j 0=ys.getD j 0):xs=ys:=by
 apply List.ext_getElem hl
 intro i h1 h2
 have:=h i h1
 simpa [List.getD,h1,h2] using this
theorem Own.of_splice {w:World} {e:TypeId} {g:Nat} {ts:List Nat} (h:Hid (w.heap[g]?=some (.cells (splice (cellsOf (List.replicate ts.length 0)) 0 (cellsOf ts)).toArray e (0,0)))):Own w e g ts:=by
 have h:=h.out
 unfold Own
 rw [h]
 have e1:splice (cellsOf (List.replicate ts.length 0)) 0 (cellsOf ts)=cellsOf ts:=by simp [splice,cellsOf]
 rw [e1]
theorem DP (v:Value) (xs:List Nat) (w:World) (h:Rd w v xs) (hl:xs.length≤1099511627776):
  Calls Tryz.prog 280 #[v] w fun e w'=> ∃g,w.heap.size≤g∧e= .returned (.slice (some ⟨g,0,none⟩) (Aq xs).length (Aq xs).length)∧Own w' 31 g (Aq xs)∧Kp w w':=by
 obtain ⟨i0,hi,hz0,hz1,hz2⟩:=info_parts BT
 obtain ⟨ao,cap,rfl,hc1,hm,hx,hs⟩:=h
 have hlt:=AC xs
 have HS:=Yt (A6 xs▸hs.take (Aq xs).length)
 have HT:=Yt (BE ao cap xs w hc1 hm hs)
 have hm':=hm
 unfold maxLen at hm
 clear hs hx
 obtain ⟨ts,hts⟩: ∃ts,ts=Aq xs:=⟨_,rfl⟩
 rw [←hts] at HS HT hlt⊢
 clear hts
 go_enter Tryz.func280,Tryz.ntmps280
 go_wp2_with (first
  | (go_at_call 267;refine HT.out.mono ?_;rintro e w1 ⟨rfl,rfl⟩)
  | (at_make;refine wpList_make_full _ rfl _ _ 32 rfl w.heap.size 31 i0 (.int .u32 0) 1 AZ hi hz0 hz1 _ _ _ _ ts.length rfl rfl rfl rfl (by rw [hz2];omega) (by unfold maxLen;omega) (Yu _) ?_;intro w1 hown hg;have O1:=Yt (Own.of_make hown);have K1:=(Below.refl w.heap.size w).grown hg (Yu _) (by intro j hj;cases hj);clear hown hg;refine Hid.out ?_))
 refine Yt ?_
 have HK:=HS.out.kp K1
 have hsz:(Tryz.prog.info? 31).map (·.size)=some 1:=by rw [hi];exact congrArg some hz1
 have hmin:(cellsOf ts).length=Nat.min ts.length ts.length:=by simp [cellsOf]
 have hpos:=HK.news
 have hfit:0+(cellsOf ts).length≤(cellsOf (List.replicate ts.length 0)).length:=by simp [cellsOf]
 have HM:=Yt hmin
 have HP:=Yt hpos
 have HF:=Yt hfit
 have HZ:=Yt hsz
 clear hmin hpos hfit hsz
 go_wp2_with ((with_reducible show wpList _ _ _ (Oper.mk (some 11) _ _ _ _ _::_) _ _);refine Hid.out ?_)
 refine Yt ?_
 refine wpList_copy_splice rfl (.tmp 9) (.tmp 10) 32 32 rfl 31 AZ HZ.out (some ⟨w.heap.size,0,none⟩) ao ts.length ts.length ts.length cap rfl rfl w.heap.size 0 (cellsOf (List.replicate ts.length 0)) 31 O1.out (cellsOf ts) HM.out (fun hp=>⟨rfl,HP.out hp⟩) HF.out (A9 _) w.heap.size w K1 (Yu _) ?_
 intro w2 O2 K2
 have hO2:=Own.of_splice O2
 have HO2:=Yt hO2
 clear hO2 O2
 go_wp2
 go_ret
 exact ⟨w.heap.size,Yu _,rfl,HO2.out,K2⟩
theorem Own.alloc_new (w:World) (e:TypeId) (xs:List Nat):Own (w.alloc (.cells (cellsOf xs).toArray e)) e w.heap.size xs:=heap_alloc_new w _
theorem BS {k:IntKind} {a b:Int} (h:a=b):Ending.returned (.int k a)= .returned (.int k b):=by rw [h]
theorem orw {r x d:Nat} (hr:r<d) (hd:d<4294967296) (hx:x<4294967296):
  (bits .or .u64 ((r:Int)*4294967296) (x:Int)).tmod (d:Int)=(((r*4294967296+x) % d:Nat):Int)∧
  IntKind.u64.wrap ((bits .or .u64 ((r:Int)*4294967296) (x:Int)).tdiv (d:Int)) % 4294967296=(((r*4294967296+x)/d:Nat):Int)∧(r*4294967296+x)/d<4294967296:=by
 have e:bits .or .u64 ((r:Int)*4294967296) (x:Int)=((r*4294967296+x:Nat):Int):=by
  have h1:=bits_or_u64_nat (r*4294967296) x (by omega) (by omega)
  rw [Int.natCast_mul] at h1
  rw [show ((r:Int)*4294967296)=(r:Int)*((4294967296:Nat):Int) from rfl,h1]
  congr 1
  have h2:=Nat.two_pow_add_eq_or_of_lt (i:=32) (b:=x) (by omega) r
  rw [Nat.mul_comm r]
  exact h2.symm
 have hlt:(r*4294967296+x)/d<4294967296:=by
  apply Nat.div_lt_of_lt_mul
  have:(r+1)*4294967296≤d*4294967296:=Nat.mul_le_mul_right _ hr
  omega
 refine ⟨by rw [e];rfl,?_,hlt⟩
 rw [e,show ((r*4294967296+x:Nat):Int).tdiv (d:Int)=(((r*4294967296+x)/d:Nat):Int) from rfl]
 generalize (r*4294967296+x)/d=q at*
 rw [IntWalk.u64_in _ (by omega)]
 omega
theorem Pr (n:Nat) (w:World) (hn:n<18446744073709551616):
  Calls Tryz.prog 281 #[.int .u64 n] w fun e w'=> ∃v',e= .returned v'∧Rd w' v' (toL n)∧Kp w w':=by
 have hL:Ai [n % 4294967296,n/4294967296]:=Ai.cons (by omega) (Ai.cons (by omega) Ai.nil)
 have hv:val [n % 4294967296,n/4294967296]=n:=by simp [val];omega
 have HO:=Yt (Own.alloc_new w 31 [n % 4294967296,n/4294967296])
 have HL:=Yt hL
 have HV:=Yt hv
 clear hL hv
 go_enter Tryz.func281,Tryz.ntmps281
 go_wp2_with (go_at_call 267;refine (Cg (some ⟨w.heap.size,0,none⟩) 2 2 [n % 4294967296,n/4294967296] _ rfl (Yu _) (by unfold maxLen;omega) HO.out.sl).mono ?_;rintro e w1 ⟨rfl,rfl⟩)
 go_ret
 exact ⟨_,rfl,HO.out.mag HL.out n 2 HV.out (Yu _) (by unfold maxLen;omega),Kp.alloc _ _⟩
structure Ci (g:Nat) (w w':World):Prop where
 os:w'.os=w.os
 tape:w'.tape=w.tape
 output:w'.output=w.output
 size:w'.heap.size=w.heap.size
 block: ∀k,k≠g→w'.heap[k]?=w.heap[k]?
theorem Ci.refl (g:Nat) (w:World):Ci g w w:=⟨rfl,rfl,rfl,rfl,fun _ _=>rfl⟩
theorem Ci.setCell {g:Nat} {w0 w:World} (h:Ci g w0 w) (j:Nat) (v:Value):Ci g w0 (w.setCell ⟨g,j,none⟩ v):=
 ⟨h.os,h.tape,h.output,by rw [←h.size];simp [World.setCell],fun k hk=>by rw [Below.heap_setCell _ _ _ _ (by simpa using hk)];exact h.block k hk⟩
theorem Ci.trans {g:Nat} {a b c:World} (h:Ci g a b) (k:Ci g b c):Ci g a c:=
 ⟨k.os.trans h.os,k.tape.trans h.tape,k.output.trans h.output,k.size.trans h.size,fun i hi=>(k.block i hi).trans (h.block i hi)⟩
theorem Ci.kp {g:Nat} {w0 w w':World} (h:Ci g w w') (k:Kp w0 w) (hg:w0.heap.size≤g):Kp w0 w':=
 k.trans ⟨h.os,h.tape,h.output,by rw [h.size];exact Yu _,fun i hi=>h.block i (by omega)⟩
theorem Gi (g k cap d:Nat) (O:List Nat) (w:World) (hO:Own w 31 g O) (hL:Ai O) (hk:k≤O.length) (hl:O.length≤1099511627776) (_hc:k≤cap) (hd0:0<d) (hd1:d<4294967296):
  Calls Tryz.prog 288 #[.slice (some ⟨g,0,none⟩) k cap,.int .u32 d] w fun e w'=>
   ∃O',e= .returned (.int .u32 (val (O.take k) % d:Nat))∧Own w' 31 g O'∧Ai O'∧O'.length=O.length∧val (O'.take k)=val (O.take k)/d∧Ci g w w':=by
 have HO:=Yt hO
 have HL:=Yt hL
 clear hO hL
 go_enter Tryz.func288,Tryz.ntmps288
 go_wp2
 go_loopw [5,6] (fun rv i wr=> ∃(j r:Nat) (P:List Nat),j≤k∧i= .int .i64 ((j:Int)-1)∧rv= .int .u64 r∧r<d∧Own wr 31 g P∧Ai P∧P.length=O.length∧P.take j=O.take j∧
   val ((O.take k).drop j)=val ((P.take k).drop j)*d+r∧Ci g w wr) (fun _ i _=>(intOf i+1).toNat)
 case atStart=>exact ⟨k,0,O,Yu _,rfl,rfl,hd0,HO.out,HL.out,rfl,rfl,by simp [val],Ci.refl _ _⟩
 case round=>
  obtain ⟨j,r,P,hj,rfl,rfl,hr,hP,hPL,hPl,hPt,hPv,K1⟩:=hrel
  have HP:=Yt hP
  have HPL:=Yt hPL
  have HPl:=Yt hPl
  have HPt:=Yt hPt
  have HPv:=Yt hPv
  clear hP hPL hPl hPt hPv
  by_cases hj0:0<j
  ·obtain ⟨i,rfl⟩: ∃i,j=i+1:=⟨j-1,by omega⟩
   obtain ⟨x,hcell,hx,HX⟩:=HP.out.at HPL.out i (by rw [HPl.out];omega)
   have hfz:=HP.out.frozen i
   have HB:=Yt (orw hr hd1 hx)
   go_wp2
   rw [HB.out.1,HB.out.2.1]
   go_roundw
   case rel=>exact ⟨i,(r*4294967296+x) % d,P.set i ((r*4294967296+x)/d),by omega,by go_num,rfl,Nat.mod_lt _ hd0,HP.out.set i _,HPL.out.set i _ HB.out.2.2,by rw [List.length_set];exact HPl.out,by rw [List.take_set_of_le (Yu i)];exact Ky HPt.out (by omega),Uw (by omega) hk HPl.out hd0 HPt.out HX.out HPv.out,K1.setCell _ _⟩
   case measure=>simp [intOf]
  ·obtain rfl:j=0:=by omega
   have hfin:=V9 hr HPv.out
   have HF:=Yt hfin
   clear hfin
   go_wp2
   go_ret
   exact ⟨P,BS (by rw [←HF.out.2]),HP.out,HPL.out,HPl.out,HF.out.1,K1⟩
theorem Lw {P:Program} {f:FuncId} {args:Array Value} {v:Value} (c: ∀W:World,Calls P f args W fun e w'=>e= .returned v∧w'=W) (w:World) (a n:Nat):
  Calls P f args (w.drewN (a+n)) fun e w''=>e= .returned v∧ ∃m,w''=w.drewN (a+m):=by
 refine (c _).mono ?_
 rintro e w' ⟨he,rfl⟩
 exact ⟨he,n,rfl⟩
theorem Su (x y:Nat) (w:World):Calls Tryz.prog 269 #[.int .u32 (x:Nat),.int .u32 (y:Nat)] w fun e w'=>e= .returned (.int .i64 (BZ x y))∧w'=w:=by
 rcases Nat.lt_trichotomy x y with h|h|h
 ·rw [CY h]
  go_enter Tryz.func269,Tryz.ntmps269
  go_wp2
  go_ret
  exact ⟨rfl,rfl⟩
 ·rw [Ed h]
  subst h
  go_enter Tryz.func269,Tryz.ntmps269
  go_wp2
  go_ret
  exact ⟨rfl,rfl⟩
 ·rw [C4 h]
  go_enter Tryz.func269,Tryz.ntmps269
  go_wp2
  go_ret
  exact ⟨rfl,rfl⟩
theorem PJ (x y:Nat) (w:World):Calls Tryz.prog 268 #[.int .i64 (x:Nat),.int .i64 (y:Nat)] w fun e w'=>e= .returned (.int .i64 (BZ x y))∧w'=w:=by
 rcases Nat.lt_trichotomy x y with h|h|h
 ·rw [CY h]
  go_enter Tryz.func268,Tryz.ntmps268
  go_wp2
  go_ret
  exact ⟨rfl,rfl⟩
 ·rw [Ed h]
  subst h
  go_enter Tryz.func268,Tryz.ntmps268
  go_wp2
  go_ret
  exact ⟨rfl,rfl⟩
 ·rw [C4 h]
  go_enter Tryz.func268,Tryz.ntmps268
  go_wp2
  go_ret
  exact ⟨rfl,rfl⟩
theorem Ee (a b:Value) (xs ys:List Nat) (w:World) (ha:Rd w a xs) (hb:Rd w b ys):
  Calls Tryz.prog 238 #[a,b] w fun e w'=>e= .returned (.int .i64 (BZ (val xs) (val ys)))∧Kp w w':=by
 obtain ⟨ao,ac,rfl,a1,a2,a3,a4⟩:=ha
 obtain ⟨bo,bc,rfl,b1,b2,b3,b4⟩:=hb
 have HA:=Yt (BE ao ac xs w a1 a2 a4)
 have HB:=Yt (BE bo bc ys w b1 b2 b4)
 have A4:=A6 xs▸a4.take (Aq xs).length
 have B4:=A6 ys▸b4.take (Aq ys).length
 have A3:=Yt (AP a3)
 have B3:=Yt (AP b3)
 have hl1:=Yt (Cq a3 b3)
 have hl2:=Yt (Cq b3 a3)
 have ex:=BK xs
 have ey:=BK ys
 have ha:=AC xs
 have hb:=AC ys
 unfold maxLen at a2 b2
 clear a3 b3 a4 b4
 obtain ⟨X,hX⟩: ∃X,X=Aq xs:=⟨_,rfl⟩
 obtain ⟨Y,hY⟩: ∃Y,Y=Aq ys:=⟨_,rfl⟩
 rw [←hX] at HA A4 A3 hl1 hl2 ex ha
 rw [←hY] at HB B4 B3 hl1 hl2 ey hb
 rw [←ex,←ey] at hl1 hl2⊢
 clear hX hY ex ey
 by_cases hl:X.length=Y.length
 ·have hne:(((X.length:Nat):Int) !=(Y.length:Int))=false:=by rw [hl];simp
  have HL:=Yt hl
  have hly:Y.length≤X.length:=by omega
  have hlx:X.length≤Y.length:=by omega
  clear hl hl1 hl2
  go_enter Tryz.func238,Tryz.ntmps238
  go_wp2_with (go_at_call 267;first|((with_reducible refine HA.out.mono ?_);rintro e w1 ⟨rfl,rfl⟩)|((with_reducible refine HB.out.mono ?_);rintro e w1 ⟨rfl,rfl⟩))
  go_loopw [5] (fun i wr=> ∃j:Nat,j≤X.length∧i= .int .i64 ((j:Int)-1)∧X.drop j=Y.drop j∧Kp w wr) (fun i _=>(intOf i+1).toNat)
  case atStart=>exact ⟨X.length,Yu _,rfl,by rw [List.drop_length,List.drop_of_length_le hly],Below.refl _ _⟩
  case round=>
   obtain ⟨j,hj,rfl,hd,K1⟩:=hrel
   have HD:=Yt hd
   clear hd
   by_cases hj0:0<j
   ·obtain ⟨i,rfl⟩: ∃i,j=i+1:=⟨j-1,by omega⟩
    obtain ⟨ab,aoff,x,rfl,hcell,hx,HX⟩:=(A4.kp K1).at A3.out i (by omega)
    obtain ⟨bb,boff,y,rfl,hcell2,hy,HY⟩:=(B4.kp K1).at B3.out i (by omega)
    by_cases hxy:x=y
    ·have hb:(((x:Nat):Int) !=(y:Int))=false:=by rw [hxy];simp
     have hd2:X.drop i=Y.drop i:=by
      rw [Cm X i (by omega),Cm Y i (by omega),HD.out,←HX.out,←HY.out,hxy]
     have HD2:=Yt hd2
     clear hxy hd2
     go_wp2
     go_quiet (fail)
     go_wp2
     go_roundw
     case rel=>exact ⟨i,by omega,by go_num,HD2.out,K1.drewN _⟩
     case measure=>simp [intOf]
    ·have hb:(((x:Nat):Int) !=(y:Int))=true:=by rw [bne_iff_ne];omega
     have hc:BZ x y=BZ (val X) (val Y):=by
      rcases Nat.lt_or_gt_of_ne hxy with h|h
      ·rw [CY h,CY (Qr A3.out HD.out HL.out (by omega) (by rw [←HX.out,←HY.out];exact h))]
      ·rw [C4 h,C4 (Qr B3.out HD.out.symm HL.out.symm (by omega) (by rw [←HX.out,←HY.out];exact h))]
     have HC:=Yt hc
     clear hxy hc
     go_wp2
     go_quiet (fail)
     go_wp2
     go_quiet ((go_at_call 269;exact Lw (Su _ _) _ _ _))
     go_wp2
     go_ret
     exact ⟨BS HC.out,(K1.drewN _).drewN _⟩
   ·obtain rfl:j=0:=by omega
    have hc:0=BZ (val X) (val Y):=(Ed (FW HD.out)).symm
    have HC:=Yt hc
    clear hc
    go_wp2
    go_ret
    exact ⟨BS HC.out,K1⟩
 ·have hne:(((X.length:Nat):Int) !=(Y.length:Int))=true:=by rw [bne_iff_ne];omega
  have hc:BZ X.length Y.length=BZ (val X) (val Y):=by
   rcases Nat.lt_or_gt_of_ne hl with h|h
   ·rw [CY h,CY (hl1.out h)]
   ·rw [C4 h,C4 (hl2.out h)]
  have HC:=Yt hc
  clear hc hl
  go_enter Tryz.func238,Tryz.ntmps238
  go_wp2_with (first
   | (go_at_call 267;first|((with_reducible refine HA.out.mono ?_);rintro e w1 ⟨rfl,rfl⟩)|((with_reducible refine HB.out.mono ?_);rintro e w1 ⟨rfl,rfl⟩))
   | (go_at_call 268;refine (PJ _ _ _).mono ?_;rintro e w1 ⟨rfl,rfl⟩))
  go_ret
  exact ⟨BS HC.out,Below.refl _ _⟩
def DZ (u k:Nat):UInt8:=UInt8.ofNat (48+u/10^k % 10)
def GZ (w:World) (e:TypeId) (g:Nat) (D:List UInt8):Prop:=w.heap[g]?=some (.cells (Lib.byteCells D).toArray e (0,0))
theorem GZ.cell {w:World} {e:TypeId} {g:Nat} {D:List UInt8} (h:GZ w e g D) (j:Nat) (hj:j<D.length): ∃v,w.cell? ⟨g,j,none⟩=some v∧v= .int .u8 (D[j].toNat:Int):=by
 refine ⟨_,?_,rfl⟩
 rw [cell_of_row w g j _ e (0,0) h]
 simp [Lib.byteCells,hj]
theorem GZ.frozen {w:World} {e:TypeId} {g:Nat} {D:List UInt8} (h:GZ w e g D) (j:Nat):w.frozen? ⟨g,j,none⟩=false:=frozen_of_row w g j _ e h
theorem GZ.set {w:World} {e:TypeId} {g:Nat} {D:List UInt8} (h:GZ w e g D) (j:Nat) (b:UInt8):GZ (w.setCell ⟨g,j,none⟩ (.int .u8 (b.toNat:Nat))) e g (D.set j b):=by
 have:=heap_setCell_same w g j _ e (.int .u8 (b.toNat:Nat)) h
 unfold GZ
 rw [this]
 congr 2
 apply Array.ext'
 simp [Lib.byteCells,List.map_set]
theorem GZ.new (w:World) (e:TypeId) (D:List UInt8):GZ (w.alloc (.cells (Lib.byteCells D).toArray e)) e w.heap.size D:=heap_alloc_new w _
theorem LZ {w:World} {B:Nat} {e:TypeId} {s:Nat} {v:Value} {n:Nat} {xs:List Value} (h:w.ownsRow B e s v n xs) {a:Addr} (ha:v.ownBlock≠some a.block) (u:Value):(w.setCell a u).ownsRow B e s v n xs:=by
 refine h.kept (row:=some a.block) ⟨rfl,rfl,rfl,by simp [World.setCell],fun k hk hne=>Below.heap_setCell _ _ _ _ (fun e=>hne (by rw [e]))⟩ (Or.inr ha)
theorem Sm (u k:Nat):(DZ u k).toNat=48+u/10^k % 10:=by
 unfold DZ
 have:u/10^k % 10<10:=Nat.mod_lt _ (by omega)
 simp
 omega
end Go.Proofs.YtfineedhebhpaaaGreatDoor
namespace Go.Proofs.YtfineedhebhpaaaGreatDoor
set_option maxHeartbeats 16000000
open Go.Lib (decDigits nDigits decDigits_length nDigits_small nDigits_big)
def pad (k u:Nat):List UInt8:=(List.range k).map fun t=>DZ u (k-1-t)
theorem NA (k u:Nat):pad (k+1) u=DZ u k::pad k u:=by
 unfold pad
 rw [List.range_succ_eq_map,List.map_cons,List.map_map]
 congr 1
 apply List.map_congr_left
 intro t _
 show DZ u (k+1-1-(t+1))=DZ u (k-1-t)
 rw [show k+1-1-(t+1)=k-1-t by omega]
theorem We (k n:Nat) (h:10^k≤n):decDigits n=decDigits (n/10^k)++pad k n:=by
 induction k with
 | zero=>simp [pad]
 | succ k ih=>
   have h1:10^k≤10^(k+1):=Nat.pow_le_pow_right (by omega) (by omega)
   rw [ih (by omega),NA]
   have h2: ¬n/10^k<10:=by
    intro hlt
    have:=Nat.lt_mul_of_div_lt hlt (Nat.pow_pos (by omega))
    rw [Nat.pow_succ] at h
    rw [Nat.mul_comm] at this
    omega
   rw [decDigits,dif_neg h2,Nat.div_div_eq_div_mul,←Nat.pow_succ,List.append_assoc]
   rfl
theorem UE:decDigits 0= [48]:=by rw [decDigits,dif_pos (by omega)];rfl
theorem Pt (u d:Nat) (h:u<10^d) (hd:0<d):nDigits u≤d:=by
 induction d generalizing u with
 | zero=>omega
 | succ d ih=>
   by_cases hu:u<10
   ·rw [nDigits_small hu];omega
   ·rw [nDigits_big hu]
    have h10:u/10<10^d:=by
     rw [Nat.pow_succ] at h
     exact Nat.div_lt_of_lt_mul (by rw [Nat.mul_comm];exact h)
    have hd0:0<d:=by
     rcases Nat.eq_zero_or_pos d with e|e
     ·subst e;simp at h;omega
     ·exact e
    have:=ih _ h10 hd0
    omega
theorem Wf (n m:Nat) (h:n<4294967296^m):(decDigits n).length≤10*m+1:=by
 rw [decDigits_length]
 have h1:4294967296^m≤(10^10)^m:=Nat.pow_le_pow_left (by omega) m
 rw [←Nat.pow_mul] at h1
 have h2:10^(10*m)≤10^(10*m+1):=Nat.pow_le_pow_right (by omega) (by omega)
 exact Pt n (10*m+1) (by omega) (by omega)
end Go.Proofs.YtfineedhebhpaaaGreatDoor
namespace Go.Proofs.YtfineedhebhpaaaGreatDoor
set_option maxHeartbeats 16000000
open Go.RowKit
open Go.Lib (decDigits)
theorem VH {l m:List UInt8} (h:l=m):Ending.returned (.string ⟨l.toArray⟩)= .returned (.string ⟨m.toArray⟩):=by rw [h]
def XM:Value→Nat
 | .slice _ n _=>n
 | _=>0
theorem JH {w:World} {B:Nat} {e:TypeId} {s:Nat} {v:Value} {n:Nat} {xs:List Value} (h:w.ownsRow B e s v n xs):XM v=n:=by
 rcases h.2 with ⟨rfl,h0⟩|⟨g,cap,cur,rfl,_⟩
 ·exact h0.symm
 ·rfl
theorem TX {w:World} {B:Nat} {e:TypeId} {s:Nat} {v:Value} {n:Nat} {xs:List Value} (h:w.ownsRow B e s v n xs) (hn:0<n): ∃g cap,v= .slice (some ⟨g,0,none⟩) n cap∧B≤g∧g<w.heap.size:=by
 rcases h.2 with ⟨rfl,h0⟩|⟨g,cap,cur,rfl,hb,hg,_⟩
 ·omega
 ·exact ⟨g,cap,rfl,hb,(Array.getElem?_eq_some_iff.1 hg).1⟩
theorem VN {w w':World} {B:Nat} {e:TypeId} {s:Nat} {v:Value} {n:Nat} {xs:List Value} (h:w.ownsRow B e s v n xs) (hk:Kp w w'):w'.ownsRow B e s v n xs:=by
 refine ⟨h.1,?_⟩
 rcases h.2 with h2|⟨g,cap,cur,hv,hb,hg,r⟩
 ·exact Or.inl h2
 ·refine Or.inr ⟨g,cap,cur,hv,hb,?_,r⟩
  rw [hk.block g (Array.getElem?_eq_some_iff.1 hg).1]
  exact hg
theorem Own.grown {w w':World} {e:TypeId} {g:Nat} {xs:List Nat} {row:Option Nat} (h:Own w e g xs) (hg:w.grownBy w' row) (hr:row≠some g):Own w' e g xs:=by
 unfold Own
 rw [hg.block g h.lt (fun e=>hr e.symm)]
 exact h
theorem Own.alloc {w:World} {e:TypeId} {g:Nat} {xs:List Nat} (h:Own w e g xs) (o:Obj):Own (w.alloc o) e g xs:=h.kp (Kp.alloc w o)
theorem Gn (w:World) (e:TypeId) (x:Nat):Src (w.alloc (.cells #[.int .u32 (x:Nat)] e)) (some ⟨w.heap.size,0,none⟩) (cellsOf [x]):=by
 refine fun _=>⟨_,rfl,fun j u hu=>?_⟩
 have hO:=Own.alloc_new w e [x]
 have hj:j<1:=by
  have:=(List.getElem?_eq_some_iff.1 hu).1
  simpa [cellsOf] using this
 rw [Addr.add_lit,Nat.zero_add,←hu]
 have:=hO.cell j (by simpa using hj)
 rw [ES [x] j (by simpa using hj)]
 exact this
theorem B9 {X:List Nat} (h:Ai X):Aq (Aq X)=Aq X:=by rw [←BY h];exact Ca _
end Go.Proofs.YtfineedhebhpaaaGreatDoor
namespace Go.Proofs.YtfineedhebhpaaaGreatDoor
open Lib renaming hid→Yt
open Nat renaming le_refl→Yu
set_option maxHeartbeats 16000000
open Go.RowKit
theorem Do {w:World} {ao:Option Addr} {cap:Nat} {xs:List Nat} (h1:xs.length≤cap) (hm:cap≤maxLen) (hx:Ai xs) (hs:Sl w ao xs):Rd w (.slice ao (Aq xs).length cap) (Aq xs):=
 ⟨ao,cap,rfl,Nat.le_trans (AC xs) h1,hm,AP hx,A6 xs▸hs.take _⟩
theorem div_one (a b:Value) (xs ys:List Nat) (w:World) (ha:Rd w a xs) (hb:Rd w b ys) (hl:xs.length≤1099511627776) (h2:2<(Aq xs).length) (h1:(Aq ys).length=1):
  Calls Tryz.prog 262 #[a,b] w fun e w'=> ∃q r,e= .returned (.tuple #[q,r,.int .i64 0])∧Rd w' q (toL (val xs/val ys))∧Rd w' r (toL (val xs % val ys))∧Kp w w':=by
 obtain ⟨ao,ac,rfl,a1,a2,a3,a4⟩:=ha
 obtain ⟨bo,bc,rfl,b1,b2,b3,b4⟩:=hb
 have HA:=Yt (BE ao ac xs w a1 a2 a4)
 have HB:=Yt (BE bo bc ys w b1 b2 b4)
 have ra:=Do a1 a2 a3 a4
 have rb:=Do b1 b2 b3 b4
 have A3:=Yt (AP a3)
 have B3:=Yt (AP b3)
 have B4:=A6 ys▸b4.take (Aq ys).length
 have ex:=BK xs
 have ey:=BK ys
 have ti:=B9 a3
 have tj:=B9 b3
 have hbl:=Cq (AP b3) (AP a3) (by rw [B9 a3,B9 b3];omega)
 have hal:=AC xs
 unfold maxLen at a2 b2
 clear a3 b3 a4 b4
 obtain ⟨X,hX⟩: ∃X,X=Aq xs:=⟨_,rfl⟩
 obtain ⟨Y,hY⟩: ∃Y,Y=Aq ys:=⟨_,rfl⟩
 rw [←hX] at HA ra A3 ex h2 ti hbl hal
 rw [←hY] at HB rb B3 B4 ey h1 hbl tj
 rw [←ex,←ey]
 clear hX hY ex ey
 have hC:=Yt (Ee _ _ X Y w ra rb)
 have HBL:=Yt (C4 hbl)
 obtain ⟨bb,boff,d,rfl,hcell,hd,HD⟩:=B4.at B3.out 0 (by omega)
 have hyd:val Y=d:=by
  match Y,h1,HD.out with
  | [y],_,e=>simp [List.getD] at e;simp [val,e]
 have hd0:0<d:=by
  rcases Nat.eq_zero_or_pos d with e|e
  ·match Y,h1,hyd,tj with
   | [y],_,e2,e3=>
     simp [val] at e2
     rw [e2,e] at e3
     simp [Aq] at e3
  ·exact e
 have hne:(((Y.length:Nat):Int)==0)=false:=beq_eq_false_iff_ne.2 (by omega)
 have heq:(((Y.length:Nat):Int)==1)=true:=beq_iff_eq.2 (by omega)
 have HTI:=Yt ti
 have HYD:=Yt hyd
 have HH1:=Yt h1
 have hy0:0<Y.length:=by omega
 clear ti tj hyd hbl h1 rb
 go_enter Tryz.func262,Tryz.ntmps262
 go_wp2_with (first
  | (go_at_call 267;first|((with_reducible refine HA.out.mono ?_);rintro e w1 ⟨rfl,rfl⟩)|((with_reducible refine HB.out.mono ?_);rintro e w1 ⟨rfl,rfl⟩))
  | (go_at_call 238;refine hC.out.mono ?_;rintro e w2 ⟨rfl,K2⟩;refine Hid.out ?_))
 refine Yt ?_
 rw [HBL.out]
 have HCP:=Yt (DP _ X w2 (ra.kp K2) (by omega))
 rw [HTI.out] at HCP
 have hcell2:=(K2.cell (p:=⟨bb,boff,none⟩) (World.block_lt_of_cell? w _ hcell)).trans hcell
 go_wp2_with (go_at_call 280;refine HCP.out.mono ?_;rintro e w3 ⟨g,hg,rfl,hO3,K3⟩;refine Hid.out ?_)
 refine Yt ?_
 have hgw:w.heap.size≤g:=Nat.le_trans K2.size hg
 have hcell3:=(K3.cell (p:=⟨bb,boff,none⟩) (World.block_lt_of_cell? w2 _ hcell2)).trans hcell2
 have HDL:=Yt (Gi g X.length X.length d X w3 hO3 A3.out (Yu _) (by omega) (Yu _) hd0 hd)
 rw [List.take_length] at HDL
 clear hO3
 go_wp2_with (go_at_call 288;refine HDL.out.mono ?_;rintro e w4 ⟨Q,rfl,hO4,hL4,hl4,hv4,hon⟩;refine Hid.out ?_)
 refine Yt ?_
 have hr:val X % d<d:=Nat.mod_lt _ hd0
 rw [List.take_of_length_le (by omega)] at hv4
 have HO4:=Yt hO4
 have HL4:=Yt hL4
 have Hl4:=Yt hl4
 have Hv4:=Yt hv4
 have K4:=hon.kp (K2.tr K3) hgw
 have HTQ:=Yt (Cg (some ⟨g,0,none⟩) X.length X.length Q w4 hl4 (Yu _) (by unfold maxLen;omega) hO4.sl)
 have HOF:=Yt (Pr (val X % d) w4 (by omega))
 clear hO4 hL4 hl4 hv4 hon
 go_wp2_with (first
  | (go_at_call 267;refine HTQ.out.mono ?_;rintro e w5 ⟨rfl,rfl⟩)
  | (go_at_call 281;refine HOF.out.mono ?_;rintro e w6 ⟨v6,rfl,h6,K6⟩))
 go_ret3
 have hq:=HO4.out.mag HL4.out _ X.length Hv4.out (by rw [Hl4.out];exact Yu _) (by unfold maxLen;omega)
 rw [HYD.out]
 exact ⟨_,_,rfl,hq.kp K6,h6,K4.tr K6⟩
theorem WQ (m n:Nat):(List.replicate (m+n) 0).drop (0+n)=List.replicate (m-0) (0:Nat):=by
 rw [List.drop_replicate,show m+n-(0+n)=m-0 by omega]
theorem Wt {O:List Nat} {k n m:Nat} (h:O.drop (k+n)=List.replicate (m-k) 0) (_hk:k<m):O.drop (k+1+n)=List.replicate (m-(k+1)) 0:=by
 rw [show k+1+n=(k+n)+1 by omega,←List.drop_drop,h,List.drop_replicate,Nat.sub_sub]
theorem Q5 {P O:List Nat} {k n m:Nat} (c:Nat) (hd:P.drop (k+n)=O.drop (k+n)) (h:O.drop (k+n)=List.replicate (m-k) 0) (hk:k<m):(P.set (k+n) c).drop (k+1+n)=List.replicate (m-(k+1)) 0:=by
 rw [show k+1+n=(k+n)+1 by omega,Ce hd c,show (k+n)+1=k+1+n by omega]
 exact Wt h hk
theorem T9 {O xs ys:List Nat} {k x:Nat} (hx:x=xs.getD k 0) (h0:x=0) (_hk:k<xs.length) (hd:O.drop (k+ys.length)=List.replicate (xs.length-k) 0) (hv:val (O.take (k+ys.length))=val (xs.take k)*val ys):
  val (O.take (k+1+ys.length))=val (xs.take (k+1))*val ys:=by
 have e:O.getD (k+ys.length) 0=0:=by
  have h1:(O.drop (k+ys.length))[0]?=(List.replicate (xs.length-k) 0)[0]?:=by rw [hd]
  simp only [List.getElem?_drop,Nat.add_zero] at h1
  rw [List.getD,h1,List.getElem?_replicate]
  split<;>rfl
 rw [show k+1+ys.length=(k+ys.length)+1 by omega,Au O,e,Au xs,←hx,h0,hv]
 simp
theorem VU (a b:Value) (xs ys:List Nat) (w:World) (ha:Rd w a xs) (hb:Rd w b ys) (hl1:xs.length≤1099511627776) (hl2:ys.length≤1099511627776):
  Calls Tryz.prog 261 #[a,b] w fun e w'=> ∃v',e= .returned v'∧Rd w' v' (toL (val xs*val ys))∧Kp w w':=by
 obtain ⟨i0,hi,hz0,hz1,hz2⟩:=info_parts BT
 obtain ⟨ao,ac,rfl,a1,a2,a3,a4⟩:=ha
 obtain ⟨bo,bc,rfl,b1,b2,b3,b4⟩:=hb
 unfold maxLen at a2 b2
 have A3:=Yt a3
 have B3:=Yt b3
 clear a3 b3
 go_enter Tryz.func261,Tryz.ntmps261
 go_wp2_with (at_make;refine wpList_make_full _ rfl _ _ 32 rfl w.heap.size 31 i0 (.int .u32 0) 1 AZ hi hz0 hz1 _ _ _ _ (xs.length+ys.length) rfl rfl (by omega) (by omega) (by rw [hz2];omega) (by unfold maxLen;omega) (Yu _) ?_;intro w1 hown hg;have O1:=Yt (Own.of_make hown);have K1:=(Below.refl w.heap.size w).grown hg (Yu _) (by intro j hj;cases hj);clear hown hg)
 go_loopw [20] (fun i wr=> ∃(k:Nat) (O:List Nat),k≤xs.length∧i= .int .i64 k∧Own wr 31 w.heap.size O∧O.length=xs.length+ys.length∧Ai O∧
   val (O.take (k+ys.length))=val (xs.take k)*val ys∧O.drop (k+ys.length)=List.replicate (xs.length-k) 0∧Kp w wr) (fun i _=>xs.length-(intOf i).toNat)
 case atStart=>exact ⟨0,List.replicate (xs.length+ys.length) 0,Nat.zero_le _,rfl,O1.out,by simp,Ai.replicate _,by simp [val,List.take_replicate,DT],WQ _ _,K1⟩
 case round=>
  obtain ⟨k,O,hk,rfl,hO,hOl,hOL,hval,hZ,K2⟩:=hrel
  obtain ⟨wo,rfl⟩: ∃wo,wo=wr:=⟨_,rfl⟩
  have HO:=Yt hO
  have HOl:=Yt hOl
  have HOL:=Yt hOL
  have HV:=Yt hval
  have HZ:=Yt hZ
  clear hO hOl hOL hval hZ
  by_cases hk1:k<xs.length
  ·obtain ⟨ab,aoff,x,rfl,hcell,hx,HX⟩:=(a4.kp K2).at A3.out k hk1
   by_cases hx0:x=0
   ·subst hx0
    go_wp2
    go_roundw
    case rel=>exact ⟨k+1,O,by omega,by go_num,HO.out,HOl.out,HOL.out,T9 HX rfl hk1 HZ.out HV.out,Wt HZ.out hk1,K2⟩
    case measure=>simp [intOf];omega
   have hx0i:((x:Int)==0)=false:=by simp;omega
   go_wp2_with fail
   go_loopw [9,36] (fun cv i wr=> ∃(j c:Nat) (P:List Nat),j≤ys.length∧i= .int .i64 j∧cv= .int .u64 c∧c<4294967296∧Own wr 31 w.heap.size P∧P.length=xs.length+ys.length∧Ai P∧
    P.drop (k+j)=O.drop (k+j)∧val (P.take (k+j))+4294967296^(k+j)*c=val (O.take (k+j))+4294967296^k*(x*val (ys.take j))∧Kp w wr) (fun _ i _=>ys.length-(intOf i).toNat)
   case atStart=>exact ⟨0,0,O,Nat.zero_le _,rfl,rfl,by omega,HO.out,HOl.out,HOL.out,rfl,by simp [val],K2⟩
   case round=>
    obtain ⟨j,c,P,hj,rfl,rfl,hc,hP,hPl,hPL,hPd,hPv,K3⟩:=hrel
    have HP:=Yt hP
    have HPl:=Yt hPl
    have HPL:=Yt hPL
    have HPd:=Yt hPd
    have HPv:=Yt hPv
    clear hP hPl hPL hPd hPv
    by_cases hj1:j<ys.length
    ·obtain ⟨bb,boff,y,rfl,hcell2,hy,HY⟩:=(b4.kp K3).at B3.out j hj1
     obtain ⟨o,hcl,ho,HOo⟩:=HP.out.at HPL.out (k+j) (by rw [HPl.out];omega)
     have hfz:=HP.out.frozen (k+j)
     have HB:=Yt (XX hc hx hy ho)
     go_wp2
     rw [HB.out.1]
     have hb:=HB.out.2
     go_roundw
     case rel=>exact ⟨j+1,(c+(x*y+o))/4294967296,P.set (k+j) ((c+(x*y+o)) % 4294967296),by omega,by go_num,by go_num,by omega,HP.out.set (k+j) _,by rw [List.length_set];exact HPl.out,HPL.out.set _ _ (by omega),Ce HPd.out _,NH (by rw [HPl.out];omega) HPd.out HOo.out HY.out HPv.out,K3.setCell (Yu _) _⟩
     case measure=>simp [intOf];omega
    ·obtain rfl:j=ys.length:=by omega
     obtain ⟨o,hcl,_,_⟩:=HP.out.at HPL.out (k+ys.length) (by rw [HPl.out];omega)
     have hfz:=HP.out.frozen (k+ys.length)
     go_wp2
     go_roundw
     case rel=>exact ⟨k+1,P.set (k+ys.length) c,by omega,by go_num,HP.out.set _ c,by rw [List.length_set];exact HPl.out,HPL.out.set _ _ hc,Qp (by rw [HPl.out];omega) HX.out HPv.out HV.out,Q5 c HPd.out HZ.out hk1,K3.setCell (Yu _) _⟩
     case measure=>simp [intOf];omega
  ·obtain rfl:k=xs.length:=by omega
   have hfin:val O=val xs*val ys:=by
    have:=HV.out
    rwa [List.take_of_length_le (Yu xs.length),List.take_of_length_le (by rw [HOl.out];exact Yu _)] at this
   have HF:=Yt hfin
   clear hfin
   go_wp2_with (go_at_call 267;refine (Cg _ (xs.length+ys.length) _ O _ HOl.out (Yu _) (by unfold maxLen;omega) HO.out.sl).mono ?_;rintro e w1 ⟨rfl,rfl⟩)
   go_ret
   exact ⟨_,rfl,HO.out.mag HOL.out _ _ HF.out (by rw [HOl.out];exact Yu _) (by unfold maxLen;omega),K2⟩
end Go.Proofs.YtfineedhebhpaaaGreatDoor
namespace Go.Proofs.YtfineedhebhpaaaGreatDoor
open Nat renaming le_refl→Yu
set_option maxHeartbeats 16000000
open Go.RowKit
open Go.Lib (decDigits)
theorem Rd.lit (w:World) (e:TypeId) (xs:List Nat) (hx:Ai xs) (n:Nat) (hn:xs.length=n) (hm:n≤maxLen):Rd (w.alloc (.cells (cellsOf xs).toArray e)) (.slice (some ⟨w.heap.size,0,none⟩) n n) xs:=by
 subst hn
 exact ⟨_,_,rfl,Yu _,hm,hx,(Own.alloc_new w e xs).sl⟩
end Go.Proofs.YtfineedhebhpaaaGreatDoor
namespace Go.Proofs.YtfineedhebhpaaaGreatDoor
open Lib renaming hid→Yt
open Nat renaming le_refl→Yu
set_option maxHeartbeats 16000000
open Go.RowKit
theorem Wq (a b:Value) (xs ys:List Nat) (w:World) (ha:Rd w a xs) (hb:Rd w b ys) (hl1:xs.length≤1099511627776) (hl2:ys.length≤1099511627776):
  Calls Tryz.prog 276 #[a,b] w fun e w'=> ∃v',e= .returned v'∧Rd w' v' (toL (val xs+val ys))∧Kp w w':=by
 obtain ⟨i0,hi,hz0,hz1,hz2⟩:=info_parts BT
 by_cases hlt:xs.length<ys.length
 ·obtain ⟨bo,bc,rfl,b1,b2,b3,b4⟩:=ha
  obtain ⟨ao,ac,rfl,a1,a2,a3,a4⟩:=hb
  unfold maxLen at a2 b2
  have A3:=Yt a3
  have B3:=Yt b3
  clear a3 b3
  have hlt':decide ((xs.length:Int)<ys.length)=true:=decide_eq_true (by omega)
  rw [Nat.add_comm (val xs)]
  go_enter Tryz.func276,Tryz.ntmps276
  obtain ⟨zs,rfl⟩: ∃zs,zs=xs:=⟨_,rfl⟩
  obtain ⟨xs,rfl⟩: ∃xs,xs=ys:=⟨_,rfl⟩
  obtain ⟨ys,rfl⟩: ∃ys,ys=zs:=⟨_,rfl⟩
  go_wp2_with (at_make;refine wpList_make_full _ rfl _ _ 32 rfl w.heap.size 31 i0 (.int .u32 0) 1 AZ hi hz0 hz1 _ _ _ _ (xs.length+1) rfl rfl (by omega) (by omega) (by rw [hz2];omega) (by unfold maxLen;omega) (Yu _) ?_;intro w1 hown hg;have O1:=Yt (Own.of_make hown);have K1:=(Below.refl w.heap.size w).grown hg (Yu _) (by intro j hj;cases hj);clear hown hg)
  go_loopw [6,22] (fun c i wr=> ∃(k c':Nat) (O:List Nat),k≤xs.length∧i= .int .i64 k∧c= .int .u64 c'∧c'≤1∧Own wr 31 w.heap.size O∧O.length=xs.length+1∧Ai O∧
   val (O.take k)+4294967296^k*c'=val (xs.take k)+val (ys.take k)∧Kp w wr) (fun _ i _=>xs.length-(intOf i).toNat)
  case atStart=>exact ⟨0,0,List.replicate (xs.length+1) 0,Nat.zero_le _,rfl,rfl,by omega,O1.out,by simp,Ai.replicate _,by simp [val],K1⟩
  case round=>
   obtain ⟨k,c,O,hk,rfl,rfl,hc,hO,hOl,hOL,hval,K2⟩:=hrel
   have HO:=Yt hO
   have HOl:=Yt hOl
   have HOL:=Yt hOL
   have HV:=Yt hval
   have hfz:=hO.frozen k
   have hcl:=hO.cell k
   rw [hOl] at hcl
   clear hO hOl hOL hval
   by_cases hk1:k<xs.length
   ·obtain ⟨ab,aoff,x,rfl,hcell,hx,HX⟩:=(a4.kp K2).at A3.out k hk1
    obtain ⟨o,hcl',_,_⟩:=HO.out.at HOL.out k (by rw [HOl.out];omega)
    clear hcl
    by_cases hk2:k<ys.length
    ·obtain ⟨bb,boff,y,rfl,hcell2,hy,HY⟩:=(b4.kp K2).at B3.out k hk2
     go_wp2
     go_roundw
     case rel=>exact ⟨k+1,(c+x+y)/4294967296,O.set k ((c+x+y) % 4294967296),by omega,by go_num,by go_num,by omega,HO.out.set k ((c+x+y) % 4294967296),by rw [List.length_set];exact HOl.out,HOL.out.set k _ (by omega),H5 (by rw [HOl.out];omega) HV.out HX.out HY.out,K2.setCell (Yu _) _⟩
     case measure=>simp [intOf];omega
    ·go_wp2
     have hy0:0=ys.getD k 0:=by simp [List.getD,List.getElem?_eq_none (Nat.le_of_not_lt hk2)]
     go_roundw
     case rel=>exact ⟨k+1,(c+x)/4294967296,O.set k ((c+x) % 4294967296),by omega,by go_num,by go_num,by omega,HO.out.set k ((c+x) % 4294967296),by rw [List.length_set];exact HOl.out,HOL.out.set k _ (by omega),H5 (by rw [HOl.out];omega) HV.out HX.out hy0,K2.setCell (Yu _) _⟩
     case measure=>simp [intOf];omega
   ·obtain rfl:k=xs.length:=by omega
    have hlen:(O.set xs.length c).length=xs.length+1:=by rw [List.length_set];exact HOl.out
    have hfin:=QT HOl.out (by omega) HV.out
    have HF:=Yt hfin
    have HLen:=Yt hlen
    have HO2:=Yt (HO.out.set xs.length c)
    have HL2:=Yt (HOL.out.set xs.length c (by omega))
    have hcl':=hcl (by omega)
    clear hfin hlen hcl
    go_wp2_with (go_at_call 267;refine (Cg _ (xs.length+1) _ (O.set xs.length c) _ HLen.out (Yu _) (by unfold maxLen;omega) HO2.out.sl).mono ?_;rintro e w1 ⟨rfl,rfl⟩)
    go_ret
    exact ⟨_,rfl,HO2.out.mag HL2.out _ _ HF.out (by rw [HLen.out];exact Yu _) (by unfold maxLen;omega),K2.setCell (Yu _) _⟩
 ·obtain ⟨ao,ac,rfl,a1,a2,a3,a4⟩:=ha
  obtain ⟨bo,bc,rfl,b1,b2,b3,b4⟩:=hb
  unfold maxLen at a2 b2
  have A3:=Yt a3
  have B3:=Yt b3
  clear a3 b3
  have hlt':decide ((xs.length:Int)<ys.length)=false:=decide_eq_false (by omega)
  go_enter Tryz.func276,Tryz.ntmps276
  go_wp2_with (at_make;refine wpList_make_full _ rfl _ _ 32 rfl w.heap.size 31 i0 (.int .u32 0) 1 AZ hi hz0 hz1 _ _ _ _ (xs.length+1) rfl rfl (by omega) (by omega) (by rw [hz2];omega) (by unfold maxLen;omega) (Yu _) ?_;intro w1 hown hg;have O1:=Yt (Own.of_make hown);have K1:=(Below.refl w.heap.size w).grown hg (Yu _) (by intro j hj;cases hj);clear hown hg)
  go_loopw [6,22] (fun c i wr=> ∃(k c':Nat) (O:List Nat),k≤xs.length∧i= .int .i64 k∧c= .int .u64 c'∧c'≤1∧Own wr 31 w.heap.size O∧O.length=xs.length+1∧Ai O∧
   val (O.take k)+4294967296^k*c'=val (xs.take k)+val (ys.take k)∧Kp w wr) (fun _ i _=>xs.length-(intOf i).toNat)
  case atStart=>exact ⟨0,0,List.replicate (xs.length+1) 0,Nat.zero_le _,rfl,rfl,by omega,O1.out,by simp,Ai.replicate _,by simp [val],K1⟩
  case round=>
   obtain ⟨k,c,O,hk,rfl,rfl,hc,hO,hOl,hOL,hval,K2⟩:=hrel
   have HO:=Yt hO
   have HOl:=Yt hOl
   have HOL:=Yt hOL
   have HV:=Yt hval
   have hfz:=hO.frozen k
   have hcl:=hO.cell k
   rw [hOl] at hcl
   clear hO hOl hOL hval
   by_cases hk1:k<xs.length
   ·obtain ⟨ab,aoff,x,rfl,hcell,hx,HX⟩:=(a4.kp K2).at A3.out k hk1
    obtain ⟨o,hcl',_,_⟩:=HO.out.at HOL.out k (by rw [HOl.out];omega)
    clear hcl
    by_cases hk2:k<ys.length
    ·obtain ⟨bb,boff,y,rfl,hcell2,hy,HY⟩:=(b4.kp K2).at B3.out k hk2
     go_wp2
     go_roundw
     case rel=>exact ⟨k+1,(c+x+y)/4294967296,O.set k ((c+x+y) % 4294967296),by omega,by go_num,by go_num,by omega,HO.out.set k ((c+x+y) % 4294967296),by rw [List.length_set];exact HOl.out,HOL.out.set k _ (by omega),H5 (by rw [HOl.out];omega) HV.out HX.out HY.out,K2.setCell (Yu _) _⟩
     case measure=>simp [intOf];omega
    ·go_wp2
     have hy0:0=ys.getD k 0:=by simp [List.getD,List.getElem?_eq_none (Nat.le_of_not_lt hk2)]
     go_roundw
     case rel=>exact ⟨k+1,(c+x)/4294967296,O.set k ((c+x) % 4294967296),by omega,by go_num,by go_num,by omega,HO.out.set k ((c+x) % 4294967296),by rw [List.length_set];exact HOl.out,HOL.out.set k _ (by omega),H5 (by rw [HOl.out];omega) HV.out HX.out hy0,K2.setCell (Yu _) _⟩
     case measure=>simp [intOf];omega
   ·obtain rfl:k=xs.length:=by omega
    have hlen:(O.set xs.length c).length=xs.length+1:=by rw [List.length_set];exact HOl.out
    have hfin:=QT HOl.out (by omega) HV.out
    have HF:=Yt hfin
    have HLen:=Yt hlen
    have HO2:=Yt (HO.out.set xs.length c)
    have HL2:=Yt (HOL.out.set xs.length c (by omega))
    have hcl':=hcl (by omega)
    clear hfin hlen hcl
    go_wp2_with (go_at_call 267;refine (Cg _ (xs.length+1) _ (O.set xs.length c) _ HLen.out (Yu _) (by unfold maxLen;omega) HO2.out.sl).mono ?_;rintro e w1 ⟨rfl,rfl⟩)
    go_ret
    exact ⟨_,rfl,HO2.out.mag HL2.out _ _ HF.out (by rw [HLen.out];exact Yu _) (by unfold maxLen;omega),K2.setCell (Yu _) _⟩
def M (w:World) (v:Value) (n:Nat):Prop:=Rd w v (toL n)
theorem M.kp {w w':World} {v:Value} {n:Nat} (h:M w v n) (k:Kp w w'):M w' v n:=Rd.kp h k
def Sz (k n:Nat):Prop:=(toL n).length≤k
theorem Sz.mono {k j n:Nat} (h:Sz k n) (hj:k≤j):Sz j n:=Nat.le_trans h hj
theorem Sz.add {j k m n:Nat} (h:Sz j m) (h2:Sz k n):Sz (j+k+1) (m+n):=by
 have:=JN m n
 unfold Sz at*
 omega
theorem Sz.mul {j k m n:Nat} (h:Sz j m) (h2:Sz k n):Sz (j+k) (m*n):=by
 have:=Es m n
 unfold Sz at*
 omega
theorem Sz.le {k m n:Nat} (h:Sz k n) (hm:m≤n):Sz k m:=Nat.le_trans (AM m n hm) h
theorem Sz.val {xs:List Nat} (hx:Ai xs) (k:Nat) (h:xs.length≤k):Sz k (val xs):=by
 unfold Sz
 rw [BY hx]
 exact Nat.le_trans (AC xs) h
theorem Yg {w:World} {a b:Value} {m n:Nat} (ha:M w a m) (hb:M w b n) {j k:Nat} (h1:Sz j m) (h2:Sz k n) (hj:j≤1099511627776) (hk:k≤1099511627776):
  Calls Tryz.prog 276 #[a,b] w fun e w'=> ∃v',e= .returned v'∧M w' v' (m+n)∧Kp w w':=by
 have:=Wq a b _ _ w ha hb (Nat.le_trans h1 hj) (Nat.le_trans h2 hk)
 rw [Ar,Ar] at this
 exact this
theorem XY {w:World} {a b:Value} {m n:Nat} (ha:M w a m) (hb:M w b n) {j k:Nat} (h1:Sz j m) (h2:Sz k n) (hj:j≤1099511627776) (hk:k≤1099511627776):
  Calls Tryz.prog 261 #[a,b] w fun e w'=> ∃v',e= .returned v'∧M w' v' (m*n)∧Kp w w':=by
 have:=VU a b _ _ w ha hb (Nat.le_trans h1 hj) (Nat.le_trans h2 hk)
 rw [Ar,Ar] at this
 exact this
end Go.Proofs.YtfineedhebhpaaaGreatDoor
