/-
  Several texts in one: RTextM, RText.
-/
import Derived.Test.YtfineedhebhpaaaGreatDoorBg
namespace Go.Proofs.YtfineedhebhpaaaGreatDoor
set_option maxHeartbeats 16000000
open Go.RowKit
open Go.Lib (decDigits)
def L8 (n t:Nat):List UInt8:=(List.range t).map (DZ n)
theorem KQ (n t:Nat):L8 n (t+1)=L8 n t++ [DZ n t]:=by simp [L8,List.range_succ]
theorem LY (n t:Nat):(pad t n).length=t:=by simp [pad]
theorem Xi (n t i:Nat) (h:i<t):(pad t n)[i]'(by rw [LY];exact h)=DZ n (t-1-i):=by
 unfold pad
 rw [List.getElem_map,List.getElem_range]
theorem UF {n t:Nat} (h0:0<t) (h1:n/10^t=0) (h2:n/10^(t-1)≠0):decDigits n=pad t n:=by
 obtain ⟨k,rfl⟩: ∃k,t=k+1:=⟨t-1,by omega⟩
 rw [Nat.add_sub_cancel] at h2
 rw [Nat.pow_succ,←Nat.div_div_eq_div_mul] at h1
 have hlt:n/10^k<10:=by omega
 have hp:0<10^k:=Nat.pow_pos (by omega)
 have hge:10^k≤n:=by
  rcases Nat.lt_or_ge n (10^k) with h|h
  ·exact absurd (Nat.div_eq_of_lt h) h2
  ·exact h
 rw [We k n hge,NA,Go.Lib.decDigits_one hlt]
 unfold DZ
 rw [Nat.mod_eq_of_lt hlt]
 rfl
theorem TC {D:List UInt8} {n T i:Nat} (hl:D.length=T) (hi:i<T) (hd:D.drop (T-i)=(pad T n).drop (T-i)):
  (D.set (T-1-i) (DZ n i)).drop (T-(i+1))=(pad T n).drop (T-(i+1)):=by
 rw [show T-(i+1)=T-1-i by omega]
 rw [List.drop_eq_getElem_cons (l:=D.set (T-1-i) (DZ n i)) (by rw [List.length_set];omega),List.drop_eq_getElem_cons (l:=pad T n) (by rw [LY];omega),List.getElem_set_self,Xi _ _ _ (by omega)]
 congr 1
 ·rw [show T-1-(T-1-i)=i by omega]
 ·rw [show T-1-i+1=T-i by omega,←hd]
  apply List.ext_getElem?
  intro j
  rw [List.getElem?_drop,List.getElem?_drop,List.getElem?_set_ne (by omega)]
theorem RN {q r j s n:Nat} (hj:j<9) (hr:r<10^(9-j)) (h:q*10^(9-j)+r=n/10^s):
  r/10<10^(9-(j+1))∧q*10^(9-(j+1))+r/10=n/10^(s+1)∧r % 10=n/10^s % 10:=by
 obtain ⟨i,hi⟩: ∃i,9-j=i+1:=⟨8-j,by omega⟩
 rw [show 9-(j+1)=i by omega]
 rw [hi,Nat.pow_succ] at hr h
 rw [Nat.pow_succ,←Nat.div_div_eq_div_mul,←h]
 rw [←Nat.mul_assoc]
 generalize q*10^i=a at*
 generalize 10^i=b at*
 omega
theorem Xk {m k:Nat} (h:Sz k m):m<10^(10*k):=by
 refine Nat.lt_of_lt_of_le (lt_of_lt_pow h) ?_
 rw [Nat.pow_mul]
 exact Nat.pow_le_pow_left (by omega) k
where
 lt_of_lt_pow {m k:Nat} (h:Sz k m):m<4294967296^k:=Nat.lt_of_lt_of_le (Cw m) (Nat.pow_le_pow_right (by omega) h)
theorem Ec {n t D:Nat} (hn:n<10^D) (h:n/10^t≠0):t<D:=by
 rcases Nat.lt_or_ge t D with e|e
 ·exact e
 ·exact absurd (Nat.div_eq_of_lt (Nat.lt_of_lt_of_le hn (Nat.pow_le_pow_right (by omega) e))) h
theorem Vt (w:World) (e:TypeId) (v:Value):Src (w.alloc (.cells #[v] e)) (some ⟨w.heap.size,0,none⟩) [v]:=by
 refine fun _=>⟨_,rfl,fun j u hu=>?_⟩
 have hj:j=0:=by
  have:=(List.getElem?_eq_some_iff.1 hu).1
  simp at this
  exact this
 subst hj
 rw [Addr.add_lit,cell_of_row (w.alloc (.cells #[v] e)) w.heap.size 0 _ e (0,0) (heap_alloc_new w _)]
 simpa using hu
theorem GZ.of_make {w:World} {base:Nat} {e:TypeId} {g n:Nat} (h:w.ownsRow base e 1 (.slice (some ⟨g,0,none⟩) n n) n (madeCells #[.int .u8 0] (n*1)).toList):GZ w e g (List.replicate n 0):=by
 rcases h.2 with ⟨h',_⟩|⟨g',cap',cur,h',hb,hg,hnc,hcm,hcs,htake⟩
 ·simp at h'
 ·simp only [Value.slice.injEq,Option.some.injEq,Addr.mk.injEq,and_true,true_and] at h'
  obtain ⟨rfl,rfl⟩:=h'
  unfold GZ
  rw [hg]
  congr 2
  apply Array.ext'
  rw [List.take_of_length_le (by simp [hcs]),Nat.mul_one,toList_madeCells_one] at htake
  rw [htake]
  simp [Lib.byteCells]
end Go.Proofs.YtfineedhebhpaaaGreatDoor
namespace Go.Proofs.YtfineedhebhpaaaGreatDoor
open Lib renaming hid→Yt
set_option maxHeartbeats 16000000
open Go.RowKit
open Go.Lib (decDigits)
theorem Ke (l:List UInt8) (c:UInt8) (x:Int) (h:x=(c.toNat:Int)):Lib.byteCells l++ [.int .u8 x]=Lib.byteCells (l++ [c]):=by
 subst h
 simp [Lib.byteCells]
theorem R9 {w:World} {v:Value} {n k:Nat} (h:M w v n) (hk:k=(toL n).length): ∃o c,v= .slice o k c:=by
 obtain ⟨o,c,e,_⟩:=h
 exact ⟨o,c,by rw [hk,e]⟩
theorem Xj {w:World} {B:Nat} {e:TypeId} {v:Value} {n:Nat} {xs:List Nat} (h:w.ownsRow B e 1 v n (cellsOf xs)):n=xs.length:=by
 have:=h.1
 simp [cellsOf] at this
 exact this.symm
theorem Pn {w:World} {B:Nat} {e:TypeId} {s:Nat} {v:Value} {n:Nat} {xs:List Value} (h:w.ownsRow B e s v n xs): ∃o c,v= .slice o n c:=by
 rcases h.2 with ⟨rfl,h0⟩|⟨g,cap,cur,rfl,_⟩
 ·exact ⟨_,_,by rw [h0]⟩
 ·exact ⟨_,_,rfl⟩
theorem GR {w w':World} {B:Nat} {e:TypeId} {s:Nat} {v:Value} {n:Nat} {xs:List Value} {row:Option Nat} (h:w.ownsRow B e s v n xs) (hg:w.grownBy w' row) (hr: ∀b,row=some b→v.ownBlock≠some b):w'.ownsRow B e s v n xs:=by
 refine ⟨h.1,?_⟩
 rcases h.2 with h2|⟨g,cap,cur,hv,hb,hgg,r⟩
 ·exact Or.inl h2
 ·refine Or.inr ⟨g,cap,cur,hv,hb,?_,r⟩
  rw [hg.block g (Array.getElem?_eq_some_iff.1 hgg).1 (fun e=>hr g e.symm (by rw [hv];rfl))]
  exact hgg
theorem L7 {n:Nat} (h:n≠0):0<(toL n).length:=by
 by_cases e:0<(toL n).length
 ·exact e
 ·exfalso
  apply h
  have e2:toL n= []:=List.eq_nil_of_length_eq_zero (by omega)
  have:=Ar n
  rw [e2] at this
  exact this.symm
theorem Xa {n t k D:Nat} (hk:k=(toL (n/10^t)).length) (hn:n<10^D) (hD:D≤10000000):k≤1099511627776:=by
 have h:=MJ (n:=n/10^t) (d:=D) (Nat.lt_of_le_of_lt (Nat.div_le_self _ _) hn)
 omega
set_option maxRecDepth 20000 in
theorem KE (a:Value) (n k0:Nat) (w:World) (ha:M w a n) (hs:Sz k0 n) (hk0:k0≤1000000):
  Calls Tryz.prog 156 #[a] w fun e w'=>e= .returned (.string ⟨(decDigits n).toArray⟩)∧Kp w w':=by
 obtain ⟨i0,hi,hz0,hz1,hz2⟩:=info_parts Xm
 have HND:=Yt (Xk hs)
 obtain ⟨D,hD⟩: ∃D,D=10*k0:=⟨_,rfl⟩
 rw [←hD] at HND
 have hDb:D≤10000000:=by omega
 clear hD hs
 obtain ⟨ko,hko⟩: ∃ko,ko=(toL n).length:=⟨_,rfl⟩
 obtain ⟨ao,ac,rfl⟩:=R9 ha hko
 have HKO:=Yt hko
 by_cases hn0:n=0
 ·have hk0:ko=0:=by rw [hko,hn0,Az];rfl
  subst hk0 hn0
  clear hko ha
  rw [UE]
  go_enter Tryz.func156,Tryz.ntmps156
  go_wp2
  go_ret
  exact ⟨rfl,Below.refl _ _⟩
 ·have hkp:0<ko:=by rw [hko];exact L7 hn0
  have HN0:=Yt hn0
  have HA:=Yt ha
  have hkb:(((ko:Nat):Int)==0)=false:=beq_eq_false_iff_ne.2 (by omega)
  clear hko ha hn0
  go_enter Tryz.func156,Tryz.ntmps156
  go_wp2
  go_loopw [0,3] (fun av bv wr=> ∃(t k c:Nat) (o:Option Addr),av= .slice o k c∧M wr (.slice o k c) (n/10^t)∧k=(toL (n/10^t)).length∧wr.ownsRow w.heap.size 5 1 bv t (Lib.byteCells (L8 n t))∧
   (0<t→n/10^(t-1)≠0)∧Kp w wr) (fun _ bv _=>D+1-XM bv)
  case atStart=>exact ⟨0,ko,ac,ao,rfl,by rw [Nat.pow_zero,Nat.div_one];exact HA.out,by rw [Nat.pow_zero,Nat.div_one];exact HKO.out,World.ownsRow_nil _ _ _ _,fun h=>absurd h (by omega),Below.refl _ _⟩
  case round=>
   obtain ⟨t,k,c,o,rfl,hM,hk,hB,hprev,K1⟩:=hrel
   have HM:=Yt hM
   have HK:=Yt hk
   have HB:=Yt hB
   have HPV:=Yt hprev
   have htD:t≤D:=by
    rcases Nat.eq_zero_or_pos t with e|e
    ·omega
    ·have:=Ec HND.out (hprev e);omega
   have hgl:=Yt (JH hB)
   clear hM hk hB hprev
   by_cases hk1:0<k
   ·have hm0:n/10^t≠0:=by
     intro e
     have:=HK.out
     rw [e,Az] at this
     simp at this
     omega
    have HM0:=Yt hm0
    have htD1:=Ec HND.out hm0
    have HBL:=Yt (Kf _ (n/10^t) 1000000000 wr HM.out (by rw [←HK.out];exact Xa HK.out HND.out (by omega)) (by omega) (by omega))
    have HDM:=Yt (Nat.div_add_mod (n/10^t) 1000000000)
    have hr9:n/10^t % 1000000000<1000000000:=Nat.mod_lt _ (by omega)
    obtain ⟨q,hq⟩: ∃q,q=n/10^t/1000000000:=⟨_,rfl⟩
    obtain ⟨r0,hr0⟩: ∃r0,r0=n/10^t % 1000000000:=⟨_,rfl⟩
    rw [←hq,←hr0] at HBL HDM
    rw [←hr0] at hr9
    clear hm0 hq hr0
    go_wp2_with (go_at_call 210;refine HBL.out.mono ?_;rintro e w2 ⟨vq,kq,rfl,hOq,K2⟩;obtain rfl:=Xj hOq;obtain ⟨kq,hkq⟩: ∃kq,kq=(toL q).length:=⟨_,rfl⟩;rw [←hkq] at hOq;obtain ⟨qo,qc,rfl⟩:=Pn hOq;have HOQ:=Yt hOq;have HKQ:=Yt hkq;clear hOq hkq)
    obtain ⟨B2,hB2⟩: ∃B2,B2=wr.heap.size:=⟨_,rfl⟩
    rw [←hB2] at HOQ
    have hwB:w.heap.size≤B2:=by rw [hB2];exact K1.size
    clear hB2
    go_loopw [3,5,6] (fun bv rv iv wr=> ∃(j r:Nat),j≤9∧iv= .int .i64 j∧rv= .int .u32 r∧r<10^(9-j)∧q*10^(9-j)+r=n/10^(t+j)∧
     wr.ownsRow w.heap.size 5 1 bv (t+j) (Lib.byteCells (L8 n (t+j)))∧(0<t+j→n/10^(t+j-1)≠0)∧Kp w wr∧wr.ownsRow B2 31 1 (.slice qo kq qc) kq (cellsOf (toL q))) (fun _ _ iv _=>9-(intOf iv).toNat)
    case atStart=>exact ⟨0,r0,by omega,rfl,rfl,hr9,by have h:=HDM.out;rw [Nat.mul_comm] at h;exact h,VN HB.out K2,HPV.out,K1.tr K2,HOQ.out⟩
    case round=>
     obtain ⟨j,r,hj,rfl,rfl,hr,hrest,hB2,hprev2,K3,hOq2⟩:=hrel
     have HOQ2:=Yt hOq2
     clear hOq2
     have HR:=Yt hr
     have HRS:=Yt hrest
     have HB2:=Yt hB2
     have HPV2:=Yt hprev2
     have hrb:r<4294967296:=Nat.lt_of_lt_of_le hr (Nat.le_trans (Nat.pow_le_pow_right (by omega) (show 9-j≤9 by omega)) (by omega))
     clear hr hrest hB2 hprev2
     by_cases hgo:j<9∧(0<r∨0<kq)
     ·obtain ⟨hj9,hgo⟩:=hgo
      have hnz:n/10^(t+j)≠0:=by
       rw [←HRS.out]
       rcases hgo with e|e
       ·omega
       ·have hq0:q≠0:=by
         intro e2
         have:=HKQ.out
         rw [e2,Az] at this
         simp at this
         omega
        have:0<q*10^(9-j):=Nat.mul_pos (by omega) (Nat.pow_pos (by omega))
        omega
      have htj:=Ec HND.out hnz
      have HNZ:=Yt hnz
      have HST:=Yt (RN hj9 HR.out HRS.out)
      have hdig:(48+(r:Int) % 10)=((DZ n (t+j)).toNat:Int):=by
       rw [Sm,←HST.out.2.2]
       omega
      obtain ⟨x8,hx8⟩: ∃x8:Int,x8=48+(r:Int) % 10:=⟨_,rfl⟩
      rw [←hx8] at hdig
      have HDG:=Yt hdig
      have HB3:=Yt (HB2.out.alloc (.cells #[.int .u8 x8] 5))
      have HSRC:=Yt (Vt wr 5 (.int .u8 x8))
      have hx8':48+(r:Int) % 10=x8:=hx8.symm
      clear hnz hdig hx8
      by_cases hr0:0<r
      ·go_wp2_with (at_builtin;refine AJ _ rfl (.tmp 33) (.tmp 38) 171 rfl w.heap.size 5 i0 (.int .u8 0) 1 1 Lp hi hz0 hz1 hz2 rfl (by decide) u3 (t+j) (Lib.byteCells (L8 n (t+j))) rfl HB3.out (some ⟨wr.heap.size,0,none⟩) 1 1 [.int .u8 x8] rfl rfl HSRC.out (by intro u hu;obtain rfl:=List.mem_singleton.1 hu;rfl) (by unfold maxLen;omega) (by omega) (by have:=K3.size;simp;omega) ?_;intro v' w3 hown' hg3 _;refine Hid.out ?_)
       refine Yt ?_
       rw [Ke _ (DZ n (t+j)) _ HDG.out,←KQ] at hown'
       have HB4:=Yt hown'
       have K5:Kp w w3:=(K3.tr (Kp.alloc wr _)).grown hg3 (by have:=K3.size;simp;omega) (fun b hb=>(HB2.out.lt b hb).1)
       have HOQ4:=Yt (GR (HOQ2.out.alloc (.cells #[.int .u8 x8] 5)) hg3 (Qn HB3.out (HOQ2.out.alloc (.cells #[.int .u8 x8] 5)) (by decide)))
       clear hown' hg3
       go_wp2
       go_roundw
       case rel=>exact ⟨j+1,r/10,by omega,by go_num,by go_num,HST.out.1,HST.out.2.1,HB4.out,fun _=>HNZ.out,K5,HOQ4.out⟩
       case measure=>simp [intOf];omega
      ·have hkq:0<kq:=by omega
       go_wp2_with (at_builtin;refine AJ _ rfl (.tmp 33) (.tmp 38) 171 rfl w.heap.size 5 i0 (.int .u8 0) 1 1 Lp hi hz0 hz1 hz2 rfl (by decide) u3 (t+j) (Lib.byteCells (L8 n (t+j))) rfl HB3.out (some ⟨wr.heap.size,0,none⟩) 1 1 [.int .u8 x8] rfl rfl HSRC.out (by intro u hu;obtain rfl:=List.mem_singleton.1 hu;rfl) (by unfold maxLen;omega) (by omega) (by have:=K3.size;simp;omega) ?_;intro v' w3 hown' hg3 _;refine Hid.out ?_)
       refine Yt ?_
       rw [Ke _ (DZ n (t+j)) _ HDG.out,←KQ] at hown'
       have HB4:=Yt hown'
       have K5:Kp w w3:=(K3.tr (Kp.alloc wr _)).grown hg3 (by have:=K3.size;simp;omega) (fun b hb=>(HB2.out.lt b hb).1)
       have HOQ4:=Yt (GR (HOQ2.out.alloc (.cells #[.int .u8 x8] 5)) hg3 (Qn HB3.out (HOQ2.out.alloc (.cells #[.int .u8 x8] 5)) (by decide)))
       clear hown' hg3
       go_wp2
       go_roundw
       case rel=>exact ⟨j+1,r/10,by omega,by go_num,by go_num,HST.out.1,HST.out.2.1,HB4.out,fun _=>HNZ.out,K5,HOQ4.out⟩
       case measure=>simp [intOf];omega
     ·have hqe:q=n/10^(t+j):=by
       rw [←HRS.out]
       by_cases hj9:j<9
       ·have hr0:r=0:=by omega
        have hk0: ¬0<kq:=by omega
        have hq0:q=0:=by
         rcases Nat.eq_zero_or_pos q with e|e
         ·exact e
         ·have:=L7 (n:=q) (by omega)
          rw [←HKQ.out] at this
          omega
        rw [hr0,hq0]
        simp
       ·obtain rfl:j=9:=by omega
        have:=HR.out
        simp at this
        omega
      have hj0:0<j:=by
       rcases Nat.eq_zero_or_pos j with e|e
       ·exfalso
        subst e
        have h1:=HM0.out
        have h2:=HDM.out
        rw [Nat.add_zero] at hqe
        rw [←hqe] at h2 h1
        omega
       ·exact e
      have htb:=Ec HND.out (HPV2.out (by omega))
      have HQE:=Yt hqe
      clear hqe
      by_cases hj9:j<9
      ·have hr0: ¬0<r:=by omega
       have hk0: ¬0<kq:=by omega
       go_wp2
       clear hr0 hk0 hj9
       go_roundw
       case rel=>exact ⟨t+j,kq,qc,qo,rfl,by rw [←HQE.out];exact Rd.owned HOQ2.out (BG q),by rw [←HQE.out];exact HKQ.out,HB2.out,HPV2.out,K3⟩
       case measure=>rw [JH HB2.out,hgl.out];omega
      ·go_wp2
       go_roundw
       case rel=>exact ⟨t+j,kq,qc,qo,rfl,by rw [←HQE.out];exact Rd.owned HOQ2.out (BG q),by rw [←HQE.out];exact HKQ.out,HB2.out,HPV2.out,K3⟩
       case measure=>rw [JH HB2.out,hgl.out];omega
   ·have hm0:n/10^t=0:=by
     rcases Nat.eq_zero_or_pos (n/10^t) with e|e
     ·exact e
     ·have:=L7 (n:=n/10^t) (by omega)
      rw [←HK.out] at this
      omega
    have ht0:0<t:=by
     rcases Nat.eq_zero_or_pos t with e|e
     ·subst e
      rw [Nat.pow_zero,Nat.div_one] at hm0
      exact absurd hm0 HN0.out
     ·exact e
    have HDC:=Yt (UF ht0 hm0 (HPV.out ht0))
    obtain ⟨bg,bcap,rfl,hb1,hb2⟩:=TX HB.out ht0
    have HOB:=Yt HB.out
    clear hm0
    obtain ⟨wg,rfl⟩: ∃wg,wg=wr:=⟨_,rfl⟩
    go_wp2_with (at_make;refine wpList_make_full _ rfl _ _ 171 rfl w.heap.size 5 i0 (.int .u8 0) 1 Lp hi hz0 hz1 _ _ _ _ t rfl rfl (by omega) (by omega) (by rw [hz2];omega) (by unfold maxLen;omega) (by have:=K1.size;omega) ?_;intro w3 hown hg3;have O1:=Yt (GZ.of_make hown);have K5:=K1.grown hg3 (by have:=K1.size;omega) (by intro j hj;cases hj);clear hown)
    have HB5:=Yt (GR HB.out hg3 (by intro b hb;cases hb))
    have hbg:bg<w3.heap.size:=by have:=hg3.size;omega
    have hne:bg≠wg.heap.size:=by omega
    have hwl:w.heap.size≤wg.heap.size:=K1.size
    clear hg3
    go_loopw [8] (fun iv wr=> ∃(i:Nat) (P:List UInt8),i≤t∧iv= .int .i64 i∧GZ wr 5 wg.heap.size P∧P.length=t∧P.drop (t-i)=(pad t n).drop (t-i)∧
     wr.ownsRow w.heap.size 5 1 (.slice (some ⟨bg,0,none⟩) t bcap) t (Lib.byteCells (L8 n t))∧Kp w wr) (fun iv _=>t-(intOf iv).toNat)
    case atStart=>exact ⟨0,List.replicate t 0,Nat.zero_le _,rfl,O1.out,by simp,by simp [LY],HB5.out,K5⟩
    case round=>
     obtain ⟨i,P,hi2,rfl,hP,hPl,hPd,hB6,K6⟩:=hrel
     have HP:=Yt hP
     have HPl:=Yt hPl
     have HPd:=Yt hPd
     have HB6:=Yt hB6
     clear hP hPl hPd hB6
     by_cases hit:i<t
     ·have hcell:wr.cell? ⟨bg,i,none⟩=some (.int .u8 ((DZ n i).toNat:Int)):=by
       rw [HB6.out.cellAt i (by omega)]
       simp [Lib.byteCells,L8,hit]
      obtain ⟨v8,hcell2,_⟩:=HP.out.cell (t-1-i) (by rw [HPl.out];omega)
      have hfz:=HP.out.frozen (t-1-i)
      obtain ⟨c8,hc8⟩: ∃c8,c8=DZ n i:=⟨_,rfl⟩
      rw [←hc8] at hcell
      have HC8:=Yt hc8
      clear hc8
      go_wp2
      go_roundw
      case rel=>exact ⟨i+1,P.set (t-1-i) c8,by omega,by go_num,HP.out.set _ _,by rw [List.length_set];exact HPl.out,by rw [HC8.out];exact TC HPl.out hit HPd.out,LZ HB6.out (by simpa [Value.ownBlock] using hne) _,Kp.setCell K6 hwl _⟩
      case measure=>simp [intOf];omega
     ·obtain rfl:i=t:=by omega
      have hPe:P=pad i n:=by have:=HPd.out;rw [Nat.sub_self] at this;simpa using this
      have hcv:=run_convert_bytes_back (P:=Tryz.prog) wr 171 9 5 ⟨wg.heap.size,0,none⟩ i P Lp Tryz.underlying5 Tryz.underlying9 (fun j hj=>by
       rw [Addr.add_lit,Nat.zero_add,cell_of_row wr wg.heap.size j _ _ (0,0) HP.out];simp [Lib.byteCells,hj])
      rw [HPl.out] at hcv
      go_wp2
      go_ret
      exact ⟨VH (by rw [HDC.out];first|done|rw [hPe]),K6⟩
end Go.Proofs.YtfineedhebhpaaaGreatDoor
