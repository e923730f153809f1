/-
  Several texts in one: Zj, Zk.
-/
import Derived.Test.YtnkobfcnflphkaaGreatDoorHw
namespace Go.Proofs.YtnkobfcnflphkaaGreatDoor
open List renaming getElem?_eq_getElem→Zd
open Go.RowKit
set_option linter.unusedVariables false
set_option linter.unusedSimpArgs false
set_option maxRecDepth 20000
set_option maxHeartbeats 4000000
theorem XW {j jt n J:Nat} {l:List Rat} {t:Rat} (hl:l.length=n+1) (hn:n≤40) (hj:j≤10000) (hjt:jt≤10000) (hr: ∀r∈l,RSz j r) (ht:RSz jt t) (hJ:J=2000000):
  Ctr Tryz.prog Amb 47 [.one (Ap j l),nm jt t] (nm (J+J+2) (Sq t (cf l) n)):=by
 have hNA:(n+1)*j≤41*10000:=Nat.mul_le_mul (by omega) hj
 have hNB:n*(jt+1+1)≤40*10002:=Nat.mul_le_mul hn (by omega)
 have hNC:n*(jt+1)≤40*10002:=Nat.mul_le_mul hn (by omega)
 obtain ⟨M,hM0,_,hMS,hMsz,hint⟩:=Dy l 1 2 (by decide) (Aj _ _ (by decide)) hr
 have P1:=Dd (j:=j) (l:=l) (by omega) (by omega)
 have W1:=FW (J:=J) hl (by omega) (by omega) hr (by omega)
 have R1:=QG (j:=jt) (t:=t) (by omega)
 obtain ⟨S,hS⟩: ∃S,S=whS DP l:=⟨_,rfl⟩
 rw [←hS] at W1
 have hSM:S=((M:Int):Rat):=hS.trans hMS
 have hS0:S≠0:=by rw [hSM];exact FE hM0
 clear hMS hS
 rw [hl] at hMsz
 have hE:Sz (jt+1) t.den:=ht.2.mono (by omega)
 have hz0:A0 t≠0:=by have:=JW t;intro h;rw [h] at this;exact absurd this (by decide)
 obtain ⟨hu,hd⟩:=KD ht
 have hcs:=Ku (a:=2+(n+1)*j) (jt:=jt+1) (n:=n) hl hr hMsz hSM hint hu hd
 have hgs:=UD (n:=n) hMsz hE
 rw [←hSM] at hgs
 have V1:=Nh (ju:=2*jt+4) (jd:=3*jt+9) (n:=n) (J:=J) (u:=t*A0 t) (d:=A0 t-t*A0 t) (f:=fun i=>S*l.getD i 0) (by omega) (by omega) (by omega) (by omega) (fun k i h=>(hcs k i h).mono (by omega))
 have G1:=Ix (ja:=(n+1)*j+2) (jq:=jt+2) (n:=n) (J:=J) (a:=S) (q:=A0 t) (by omega) (by omega) (by omega) (by omega) (fun i hi=>(hgs i hi).mono (by omega))
 have O1:=GI (j:=J) (k:=J) (x:=BO (t*A0 t) (A0 t-t*A0 t) (fun i=>S*l.getD i 0) n 0) (y:=D9 S (A0 t) n) (by omega) (by omega) (PV hS0 hz0 n)
 have he:BO (t*A0 t) (A0 t-t*A0 t) (fun i=>S*l.getD i 0) n 0/D9 S (A0 t) n=Sq t (cf l) n:=Ri (f:=cf l) (i:=n) hS0 hz0 rfl rfl
 rw [he] at O1
 have hdn:=BI (k:= .i64) (show (IntKind.i64).wrap ((l.length:Int)-1)=(n:Int) by rw [show ((l.length:Int)-1)=(n:Int) by omega];exact IntWalk.i64_in _ (by omega))
 clear hcs hgs hint hMsz hSM hM0 hE hu hd hr he
 obtain ⟨F,hF⟩: ∃F,F=tab (n+1) fun i=>S*l.getD i 0:=⟨_,rfl⟩
 obtain ⟨R,hR⟩: ∃R,R=tab (n+1) fun q=>BO (t*A0 t) (A0 t-t*A0 t) (fun i=>S*l.getD i 0) (n-q) q:=⟨_,rfl⟩
 obtain ⟨G,hG⟩: ∃G,G=tab (n+1) (D9 S (A0 t)):=⟨_,rfl⟩
 have hFl:F.length=n+1:=by rw [hF];simp
 have hRl:R.length=n+1:=by rw [hR];simp
 unfold Cs at V1 G1
 rw [←hF] at W1 V1
 rw [←hR] at V1
 rw [←hG] at G1
 have hx:R[((0:Nat):Int).toNat]?=some (BO (t*A0 t) (A0 t-t*A0 t) (fun i=>S*l.getD i 0) n 0):=by
  rw [hR];exact A8 (g:=fun q=>BO (t*A0 t) (A0 t-t*A0 t) (fun i=>S*l.getD i 0) (n-q) q) (by omega)
 have hy:G[((n:Nat):Int).toNat]?=some (D9 S (A0 t) n):=by rw [hG];exact A8 (by omega)
 clear hR hF hG
 have lt0:(0:Int)≤((0:Nat):Int)∧((0:Nat):Int)<((n+1:Nat):Int):=by omega
 have st0:((0:Nat):Int).toNat*3+3≤(An (nmD J) R).length:=by rw [AA (n:=3) inferInstance,Int.toNat_natCast];omega
 have ld0:=Ca (f:=nmD J) (n:=3) inferInstance hx
 have hbl:0<(An (nmD J) F).length:=Cb (n:=3) inferInstance (by decide) (by omega)
 have hbr:(An (nmD J) F).length=(An (nmD J) R).length:=by rw [AA (n:=3) inferInstance,AA (n:=3) inferInstance,hFl,hRl]
 refine Am Tryz.func47 rfl rfl rfl rfl rfl rfl ?_
 intro W0 base D μ0 hA hD
 repeat (first|refine Af ?_|refine Ac ?_|refine Aa rfl ?_|refine Ab rfl ?_|refine Ak ?_|refine Al ?_|refine Ad ?_|refine Ae ?_)
 refine A5 (ss:= [(4,.one (.ptr 4 0)),(5,.one (.gl 26 (n+1) 3)),(6,.one (.ptr 6 0)),(9,.one (.ptr 9 0)),(10,At (n:Nat))]) (bs:= [(4,nmC 2 0),(6,nmC ((n+1)*j+2) S),(9,nmC (jt+2) (A0 t)),(26,An (nmD J) R)]) ?_ ?_
 ·refine Dr ?_ ?_ rfl
  ·exact GY
  ·repeat (first|exact Aq|(refine List.forall_mem_cons.2 ⟨?_,?_⟩;focus (first|exact AN inferInstance|(exact Rj (z:=(An (nmD J) F).length) inferInstance IQ.whole (by rw [hbr];exact AA inferInstance _))|(refine BB rfl ?_ rfl;focus (exact BQ;done)))))
 repeat (first|refine Af ?_|refine Ac ?_|refine Aa rfl ?_|refine Ab rfl ?_|refine Ak ?_|refine Al ?_|refine Ad ?_|refine Ae ?_)
 refine As (And.intro (Or.inr rfl) ?_)
 exact AX
theorem QU {j n:Nat} {l:List Rat} (hl:l.length=n+1) (hr: ∀r∈l,RSz j r): ∃M B:Nat,0<M∧Sz (2+(n+1)*j) M∧Sz (2+(n+1)*j+j) B∧ ∀i,i≤n→IB M B (cf l i):=by
 obtain ⟨M,hM0,_,hMS,hMsz,hint⟩:=Dy l 1 2 (by decide) (Aj _ _ (by decide)) hr
 rw [hl] at hMsz
 refine ⟨M,4294967296^(2+(n+1)*j+j)-1,hM0,hMsz,Aj _ _ (by have:=Nat.pow_pos (n:=2+(n+1)*j+j) (show 0<4294967296 by decide);omega),fun i hi=>?_⟩
 have hlt:i<l.length:=by omega
 have hm:cf l i∈l:=by
  unfold cf
  rw [List.getD_eq_getElem?_getD,Zd hlt]
  exact List.getElem_mem hlt
 obtain ⟨z,h1,h2⟩:=IZ.scaled hMsz (hr _ hm) (hint _ hm)
 refine ⟨z,by rw [←h1,Rat.mul_comm],?_⟩
 have h3:=C9 z.natAbs
 have h4:(4294967296:Nat)^(toL z.natAbs).length≤4294967296^(2+(n+1)*j+j):=Nat.pow_le_pow_right (by decide) h2
 omega
def NG (l:List Int):Nat→List Rat×Nat→List Rat×Nat
 | 0,s=>s
 | m+1,s=>NG l m (s.1++ [(GP l s.2).1],(GP l s.2).2)
def GN (l:List Int) (deg n:Nat):List Rat×Nat:=NG l ((nxt l n (deg+1:Nat)).1.toNat+1) ([],(nxt l n (deg+1:Nat)).2)
theorem QL {l:List Int} : ∀ {m:Nat} {s:List Rat×Nat},s.2≤l.length→(NG l m s).2≤l.length
 | 0,_,h=>h
 | m+1,s,h=>QL (m:=m) (QN l s.2 h)
theorem NF {l:List Int} : ∀ {m:Nat} {s:List Rat×Nat},(NG l m s).1.length=s.1.length+m
 | 0,_=>rfl
 | m+1,s=>by
   show (NG l m _).1.length=_
   rw [NF (m:=m),List.length_append];simp;omega
theorem Wo (l:List Int) (deg n:Nat) (h:n≤l.length):(GN l deg n).2≤l.length:=QL ((EF l n (m:=((deg+1:Nat):Int)) (by omega)).2.2 h)
theorem ND (l:List Int) (deg n:Nat):1≤(GN l deg n).1.length∧(GN l deg n).1.length≤deg+1:=by
 obtain ⟨a1,a2,_⟩:=EF l n (m:=((deg+1:Nat):Int)) (by omega)
 unfold GN
 rw [NF]
 generalize (nxt l n ((deg+1:Nat):Int)).1=c at*
 simp only [List.length_nil]
 omega
theorem Uk (l:List Int) (n:Nat):RSz 2 (GP l n).1:=by
 obtain ⟨a1,a2,_⟩:=EF l n (m:=13) (by decide)
 obtain ⟨c1,c2,_⟩:=EF l (nxt l (nxt l n 13).2 4).2 (m:=4) (by decide)
 unfold GP
 simp only
 split
 ·have hn:RSz 1 (((nxt l n 13).1-6:Int):Rat):=⟨by
   rw [Rat.num_intCast];exact Aj _ _ (by omega),by rw [Rat.den_intCast];exact Aj _ _ (by decide)⟩
  have hd:RSz 1 ((1+(nxt l (nxt l (nxt l n 13).2 4).2 4).1:Int):Rat):=⟨by
   rw [Rat.num_intCast];exact Aj _ _ (by omega),by rw [Rat.den_intCast];exact Aj _ _ (by decide)⟩
  refine Gj hn hd ?_
  intro h0
  have h1:((1+(nxt l (nxt l (nxt l n 13).2 4).2 4).1:Int):Rat)=((0:Int):Rat):=h0
  have:=Rat.intCast_inj.1 h1
  omega
 ·exact FX _ (by omega) (by omega)
theorem NE {l:List Int} : ∀ {m:Nat} {s:List Rat×Nat},(∀r∈s.1,RSz 2 r)→ ∀r∈(NG l m s).1,RSz 2 r
 | 0,_,h=>h
 | m+1,s,h=>NE (m:=m) fun r hr=>by
   rcases List.mem_append.1 hr with h1|h1
   ·exact h r h1
   ·rw [List.mem_singleton.1 h1];exact Uk l s.2
theorem NC (l:List Int) (deg n:Nat): ∀r∈(GN l deg n).1,RSz 2 r:=NE fun r hr=>by cases hr
theorem WO {l:List Int} {n deg:Nat} (hb: ∀x∈l,-9223372036854775808≤x∧x<9223372036854775808) (hl:l.length≤1000000) (hn:n≤l.length) (hd:deg≤1000):
  BF Tryz.prog Amb 23 [.one (.ptr 901 0),At (deg:Nat)] [(901,Eb l n,Eb l (GN l deg n).2)] (.one (Ap 2 (GN l deg n).1)):=by
 obtain ⟨a1,a2,a3⟩:=EF l n (m:=((deg+1:Nat):Int)) (by omega)
 have g1:=a3 hn
 clear a3
 have N1:=Mj (k:=901) (n:=n) (m:=((deg+1:Nat):Int)) hb hl hn (by omega) (by omega)
 have hs:=AL (k:= .i64) (show (IntKind.i64).wrap ((deg:Int)+1)=((deg+1:Nat):Int) from IntWalk.i64_in _ (by omega))
 obtain ⟨S,hS⟩: ∃S,S=GN l deg n:=⟨_,rfl⟩
 rw [←hS]
 unfold GN at hS
 obtain ⟨c,hc⟩: ∃c:Nat,c=(nxt l n ((deg+1:Nat):Int)).1.toNat:=⟨_,rfl⟩
 have hci:(nxt l n ((deg+1:Nat):Int)).1=(c:Int):=by omega
 have hcb:c≤deg:=by omega
 rw [←hc] at hS
 rw [hci] at N1
 generalize (nxt l n ((deg+1:Nat):Int)).2=n1 at*
 apply Am Tryz.func23 rfl rfl rfl rfl rfl
 case hin=>simp [inA,inC]
 intro W0 base D μ0 hA hD
 repeat (first|refine Af ?_|refine Ac ?_|refine Aa rfl ?_|refine Ab rfl ?_|refine Ak ?_|refine Al ?_|refine Ad ?_|refine Ae ?_)
 refine AK (fun m σ=> ∃(r:Nat) (done:List Rat) (ps:Nat),m=r∧r+done.length=c+1∧NG l r (done,ps)=S∧ps≤l.length∧Wk ⟨W0,base,D,21,[901],μ0⟩ σ [(0,.one (.ptr 901 0)),(5,.one (.gl 900 done.length 3)),(6,.one (.v (.int .i64 ((r:Int)-1))))] [(900,An (nmD 2) done),(901,Eb l ps)]) (n:=c+1) ⟨c+1,[],n1,rfl,rfl,hS.symm,g1,?_⟩ ?_
 ·exact AS
 clear N1 hS hc hs a1 a2 hci
 intro m σ hI
 obtain ⟨r,done,ps,hm,hrq,hS,hps,hw⟩:=hI
 refine A5 hw ?_
 clear hw
 cases r with
 | succ r=>
   rw [show (((r+1:Nat):Int)-1)=(r:Int) by omega]
   have bi:=Ox (k:= .i64) (decide_eq_true (show (r:Int)≥0 by omega))
   have hin:=BI (k:= .i64) (show (IntKind.i64).wrap ((r:Int)-1)=(r:Int)-1 from IntWalk.i64_in _ (by omega))
   have hstep:NG l r (done++ [(GP l ps).1],(GP l ps).2)=S:=hS
   have X1:=U9 (k:=901) (n:=ps) hb hl hps
   have hp2:=QN l ps hps
   generalize (GP l ps).1=x at*
   generalize (GP l ps).2=ps' at*
   repeat (first|refine Af ?_|refine Ac ?_|refine Aa rfl ?_|refine Ab rfl ?_|refine Ak ?_|refine Al ?_|refine Ad ?_|refine Ae ?_)
   try refine Af ?_
   refine Et 4 (by simp only [List.take_succ_cons,List.take_zero,List.drop_succ_cons,List.drop_zero];exact ⟨rfl,rfl⟩) (by kernel_rfl) ?_
   repeat (first
    | refine AZ (hl:=?_)
    | refine AC (hl:=?_)
    | refine B5 (hl:=?_)
    | refine Cv (hl:=?_)
    | refine Cu (hl:=?_)
    | refine Cw (hl:=?_)
    | refine Cf (hl:=?_)
    | refine Dz hA (hc:=X1) (hl:=?_))
   apply Ai.nil
   refine Iw (k:=900) (ss:= [(0,.one (.ptr 901 0)),(6,At (r:Int))]) (bs:= [(901,Eb l ps')]) (ns:=(nmC 2 x)) hD ?_ ?_ ?_
   ·exact ⟨by omega,by omega⟩
   ·exact AS
   repeat (refine FU rfl ?_;(first|refine AC (hl:=?_)|refine AZ (hl:=?_)|refine BN (hl:=?_));apply Ai.nil)
   refine FV ?_
   repeat (first|refine Af ?_|refine Ac ?_|refine Aa rfl ?_|refine Ab rfl ?_|refine Ak ?_|refine Al ?_|refine Ad ?_|refine Ae ?_)
   refine ⟨r,by omega,r,done++ [x],ps',rfl,by simp;omega,hstep,hp2,?_⟩
   exact AS
 | zero=>
   have bi:=Ox (k:= .i64) (decide_eq_false (show ¬((((0:Nat):Int)-1))≥0 by omega))
   obtain rfl:S=(done,ps):=hS.symm
   repeat (first|refine Af ?_|refine Ac ?_|refine Aa rfl ?_|refine Ab rfl ?_|refine Ak ?_|refine Al ?_|refine Ad ?_|refine Ae ?_)
   refine BG 900 hD (ss:= [(4,.one (Ap 2 done))]) (bs:= [(901,Eb l ps)]) ?_ ?_
   ·exact In
   refine As (And.intro (Or.inr rfl) ?_)
   exact JR
theorem U8 {l:List Int} {n deg k:Nat} (hb: ∀x∈l,-9223372036854775808≤x∧x<9223372036854775808) (hl:l.length≤1000000) (hn:n≤l.length) (hd:deg≤1000):
  BF Tryz.prog Amb 23 [.one (.ptr k 0),At (deg:Nat)] [(k,Eb l n,Eb l (GN l deg n).2)] (.one (Ap 2 (GN l deg n).1)):=
 (WO hb hl hn hd).at1 k rfl rfl
def PT (p:Rat→Bool):Nat→List Rat→Int
 | _,[]=> -1
 | i,x::l=>if p x then (i:Int) else PT p (i+1) l
theorem N8 (p:Rat→Bool): ∀(l:List Rat) (i:Nat),decide (PT p i l≥0)=l.any p
 | [],_=>rfl
 | x::l,i=>by
   show decide ((if p x then (i:Int) else PT p (i+1) l)≥0)=(p x || l.any p)
   cases hp:p x with
   | true=>rw [if_pos rfl];simp
   | false=>rw [if_neg (by simp),N8 p l (i+1)];rfl
theorem TC {g:FuncId} [hG:Fun Tryz.prog g] {j:Nat} {l:List Rat} {p:Rat→Bool} (hl:l.length≤1000000) (H: ∀x∈l,Ctr Tryz.prog Amb g [nm j x] (.one (.v (.bool (p x))))):
  Ctr Tryz.prog Amb 151 [.one (Ap j l),.one (.fn g [])] (.one (.v (.int .i64 (PT p 0 l)))):=by
 obtain ⟨R,hR⟩: ∃R,R=PT p 0 l:=⟨_,rfl⟩
 rw [←hR]
 refine Am Tryz.func151 rfl rfl rfl rfl rfl rfl ?_
 intro W0 base D μ0 hA hD
 repeat (first|refine Af ?_|refine Ac ?_|refine Aa rfl ?_|refine Ab rfl ?_|refine Ak ?_|refine Al ?_|refine Ad ?_|refine Ae ?_)
 refine AK (fun m σ=> ∃(i:Nat),m=l.length-i∧i≤l.length∧PT p i (l.drop i)=R∧Wk ⟨W0,base,D,19,[],μ0⟩ σ [(0,.one (Ap j l)),(1,.one (.fn g [])),(7,At (l.length:Nat)),(8,At (i:Nat))] []) (n:=l.length) ⟨0,by omega,by omega,hR.symm,?_⟩ ?_
 ·exact AS
 intro m σ hI
 obtain ⟨i,hm,hi0,hS,hw⟩:=hI
 refine A5 hw ?_
 clear hw
 by_cases hi:i<l.length
 ·obtain ⟨x,hx,hx'⟩:=FG hi
  have bi:=AJ (k:= .i64) (decide_eq_true (show (i:Int)<(l.length:Int) by omega))
  have hin:=AL (k:= .i64) (show (IntKind.i64).wrap ((i:Int)+1)=((i+1:Nat):Int) from IntWalk.i64_in _ (by omega))
  have H1:=H x (List.mem_of_getElem? hx')
  rw [EZ hx'] at hS
  replace hS:(if p x then (i:Int) else PT p (i+1) (l.drop (i+1)))=R:=hS
  cases hp:p x with
  | true=>
    rw [hp,if_pos rfl] at hS
    rw [hp] at H1
    repeat (first|refine Af ?_|refine Ac ?_|refine Aa rfl ?_|refine Ab rfl ?_|refine Ak ?_|refine Al ?_|refine Ad ?_|refine Ae ?_)
    rw [←hS]
    refine As (And.intro (Or.inr rfl) ?_)
    exact AX
  | false=>
    rw [hp,if_neg (by simp)] at hS
    rw [hp] at H1
    repeat (first|refine Af ?_|refine Ac ?_|refine Aa rfl ?_|refine Ab rfl ?_|refine Ak ?_|refine Al ?_|refine Ad ?_|refine Ae ?_)
    refine ⟨m-1,by omega,i+1,by omega,by omega,hS,?_⟩
    exact AS
 ·have bi:=AJ (k:= .i64) (decide_eq_false (show ¬(i:Int)<(l.length:Int) by omega))
  rw [List.drop_eq_nil_of_le (by omega)] at hS
  replace hS:(-1:Int)=R:=hS
  subst hS
  repeat (first|refine Af ?_|refine Ac ?_|refine Aa rfl ?_|refine Ab rfl ?_|refine Ak ?_|refine Al ?_|refine Ad ?_|refine Ae ?_)
  refine As (And.intro (Or.inr rfl) ?_)
  exact AX
theorem Iy {g:FuncId} [hG:Fun Tryz.prog g] {j:Nat} {l:List Rat} {p:Rat→Bool} (hl:l.length≤1000000) (H: ∀x∈l,Ctr Tryz.prog Amb g [nm j x] (.one (.v (.bool (p x))))):
  Ctr Tryz.prog Amb 113 [.one (Ap j l),.one (.fn g [])] (.one (.v (.bool (l.any p)))):=by
 have I1:=TC (j:=j) hl H
 have bg:=Ox (k:= .i64) (N8 p l 0)
 refine Am Tryz.func113 rfl rfl rfl rfl rfl rfl ?_
 intro W0 base D μ0 hA hD
 repeat (first|refine Af ?_|refine Ac ?_|refine Aa rfl ?_|refine Ab rfl ?_|refine Ak ?_|refine Al ?_|refine Ad ?_|refine Ae ?_)
 refine As (And.intro (Or.inr rfl) ?_)
 exact AX
theorem Ty {j:Nat} {x:Rat} (hj:j≤16):Ctr Tryz.prog Amb 116 [nm j x] (.one (.v (.bool false))):=by
 have V1:=WU (j:=j) (x:=x) hj
 refine Am Tryz.func116 rfl rfl rfl rfl rfl rfl ?_
 intro W0 base D μ0 hA hD
 repeat (first|refine Af ?_|refine Ac ?_|refine Aa rfl ?_|refine Ab rfl ?_|refine Ak ?_|refine Al ?_|refine Ad ?_|refine Ae ?_)
 refine As (And.intro (Or.inr rfl) ?_)
 exact AX
theorem Tx {j:Nat} {l:List Rat} (h1:0<l.length) (h2:l.length≤41) (hj:j≤16):Ctr Tryz.prog Amb 44 [.one (Ap j l)] (.one (.v (.bool true))):=by
 have P1:=Dd (j:=j) h1 h2
 have C1:=Iy (g:=116) (j:=j) (l:=l) (p:=fun _=>false) (by omega) (fun x _=>Ty hj)
 have e:l.any (fun _=>false)=false:=by simp
 rw [e] at C1
 refine Am Tryz.func44 rfl rfl rfl rfl rfl rfl ?_
 intro W0 base D μ0 hA hD
 repeat (first|refine Af ?_|refine Ac ?_|refine Aa rfl ?_|refine Ab rfl ?_|refine Ak ?_|refine Al ?_|refine Ad ?_|refine Ae ?_)
 refine As (And.intro (Or.inr rfl) ?_)
 exact AX
section
variable {P:Program} {X:Ctx} {ops l:List Oper} {σ:St} {K:List Eff→St→Prop} {dst:Option Tmp} {ty:TypeId} {pos:String} {af:Array Edge} {gd:Option (Nat×Bool)}
theorem Sh {s:Nat→AV} {t u:TypeId} {x y:Operand} {a b:ByteArray} (hx:evC s x= .one (.v (.string a))) (hy:evC s y= .one (.v (.string b))) (hab:a=b):C5 P ⟨dst,.binOp .eql t x y u,ty,pos,af,gd⟩ s (.one (.v (.bool true))):=fun W0 μ sz w ρ hρ=>by
 have h:=hρ x (by simp [Op.operands])
 rw [hx] at h
 replace h:ρ x= .string a:=h
 have h':=hρ y (by simp [Op.operands])
 rw [hy] at h'
 replace h':ρ y= .string b:=h'
 refine ⟨.bool true,?_,rfl⟩
 have h4:(binOp .eql t (.string a) (.string b)).run P w= .ok (.bool true) w:=by
  show (Op.stringOp .eql a b).run P w=_
  rw [hab]
  show Result.ok (Value.bool (b.toList==b.toList)) w=_
  rw [beq_self_eq_true]
 have h5:(eqGuard .eql t x y (.string a) (.string b)).run P w= .ok () w:=rfl
 show (do let v←(do eqGuard .eql t x y (ρ x) (ρ y);binOp .eql t (ρ x) (ρ y):Sem Value);pure (Next.value v):Sem Next).run P w=_
 rw [h,h',Sem.run_bind,Sem.run_bind,h5,Result.andThen_ok,h4]
 rfl
theorem XB {t u:TypeId} {x y:Operand} {a b:ByteArray} (hg:gOk ops σ.s gd) (hd:dB X.n dst=true) (hx:evC σ.s x= .one (.v (.string a))) (hy:evC σ.s y= .one (.v (.string b))) (hc:a=b) (hl:Ai P X ops l (σ.app dst ⟨.one (.v (.bool true)),[],[],[]⟩) (fun es σ'=>K (⟨.one (.v (.bool true)),[],[],[]⟩::es) σ')):
  Ai P X ops (⟨dst,.binOp .eql t x y u,ty,pos,af,gd⟩::l) σ K:=BJ (o:=⟨dst,.binOp .eql t x y u,ty,pos,af,gd⟩) hg hd (Sh hx hy hc) hl
theorem Xv {t u:TypeId} {x y:Operand} {a b:ByteArray} (hg:gOk ops σ.s gd:=by first|exact trivial|exact rfl) (hd:dB X.n dst=true:=by exact rfl) (hx:evC σ.s x= .one (.v (.string a)):=by exact rfl) (hy:evC σ.s y= .one (.v (.string b)):=by exact rfl) (hc:a=b:=by exact rfl) (hl:Ai P X ops l (σ.app dst ⟨.one (.v (.bool true)),[],[],[]⟩) (fun es σ'=>K (⟨.one (.v (.bool true)),[],[],[]⟩::es) σ')):
  Ai P X ops (⟨dst,.binOp .eql t x y u,ty,pos,af,gd⟩::l) σ K:=XB hg hd hx hy hc hl
end
theorem LO {j:Nat} {x:Rat} {s:ByteArray} (hj:j≤100000) (h:(Qv x).toArray=s.data):Ctr Tryz.prog Amb 95 [nm j x] (.one (.v (.string s))):=by
 have:=XX (x:=x) hj
 rw [h] at this
 exact this
theorem Ctr.nmTo {P:Program} {A:World→Prop} {f:FuncId} {args:List AV} {j k:Nat} {x y:Rat} (h:Ctr P A f args (nm j x)) (hs:RSz k y) (e:x=y):Ctr P A f args (nm k y):=by
 subst e
 exact BF.weak h (Ents.of_eq rfl) (Ent.agg (.cons (.qs hs) (.cons (.qs hs) (.cons (.qs hs) .nil))))
theorem IX {k:Nat} {x:Rat} (h:(decide (x.num.natAbs<4294967296)&&decide (x.den<4294967296))=true) (hk:1≤k):RSz k x:=by
 rw [Bool.and_eq_true,decide_eq_true_eq,decide_eq_true_eq] at h
 exact ⟨Nat.le_trans (Aj x.num.natAbs 1 (by omega)) hk,Nat.le_trans (Aj x.den 1 (by omega)) hk⟩
abbrev exL:List Rat:= [0,0,DP]
theorem UP: ∀r∈exL,RSz 2 r:=fun r hr=>by
 have h0:RSz 2 0:=IX (by decide+kernel) (by decide)
 rcases List.mem_cons.1 hr with rfl|hr
 ·exact h0
 rcases List.mem_cons.1 hr with rfl|hr
 ·exact h0
 rw [List.mem_singleton.1 hr]
 exact IX (by decide+kernel) (by decide)
abbrev N9:Rat:=((1:Int):Rat)/((2:Int):Rat)
theorem Qi:Ctr Tryz.prog Amb 22 [] (.one (.v (.bool true))):=by
 have hh:RSz 2 N9:=IX (by decide+kernel) (by decide)
 have I1:=QJ (n:=1) rfl
 have F1:=LP (n:=1) (d:=2) rfl
 have S1:=Wa (j:=2) (jt:=2) (n:=2) (J:=26) (l:=exL) (t:=N9) rfl (by decide) (by decide) (by decide) UP hh rfl
 have E1:=(XW (j:=2) (jt:=2) (n:=2) (l:=exL) (t:=N9) rfl (by decide) (by decide) (by decide) UP hh rfl).nmTo (k:=2) (y:=1/4) (IX (by decide+kernel) (by decide)) (by decide+kernel)
 have V1:=Tx (j:=2) (l:=exL) (by decide) (by decide) (by decide)
 have T1:=LO (j:=2) (x:=1/4) (s:= { data:= #[49,47,52] }) (by decide) (by decide+kernel)
 have T2:=LO (j:=26+26+2) (x:=1/4) (s:= { data:= #[49,47,52] }) (by decide) (by decide+kernel)
 have T3:=LO (j:=26+26+2) (x:=1/2) (s:= { data:= #[49,47,50] }) (by decide) (by decide+kernel)
 obtain ⟨L,hL⟩: ∃L,L=tab (2+1) (Sq N9 (cf exL)):=⟨_,rfl⟩
 obtain ⟨U,hU⟩: ∃U,U=tab (2+1) (VE N9 (cf exL) 2):=⟨_,rfl⟩
 unfold Cs at S1
 rw [←hL,←hU] at S1
 have hx:L[(2:Int).toNat]?=some (1/4):=by rw [hL];decide+kernel
 have hy:U[(1:Int).toNat]?=some (1/2):=by rw [hU];decide+kernel
 have hl1:((L.length:Nat):Int)=3:=by rw [hL];rfl
 have hl2:((U.length:Nat):Int)=3:=by rw [hU];rfl
 have b1:=De (k:= .i64) (decide_eq_true hl1)
 have b2:=De (k:= .i64) (decide_eq_true hl2)
 clear hL hU
 refine Am Tryz.func22 rfl rfl rfl rfl rfl rfl ?_
 intro W0 base D μ0 hA hD
 repeat (first|refine Af ?_|refine Ac ?_|refine Aa rfl ?_|refine Ab rfl ?_|refine Ak ?_|refine Al ?_|refine Ad ?_|refine Ae ?_)
 refine A5 (ss:= [(1,.one (.gl 7 3 3))]) (bs:= [(7,An (nmD 2) exL)]) ?_ ?_
 ·exact AS
 refine BG 7 hD (ss:= [(1,.one (Ap 2 exL))]) (bs:= []) ?_ ?_
 ·exact UM (List.forall_mem_cons.2 ⟨JN (f:=nmD 2) (l:=exL) inferInstance,Aq⟩) Aq rfl
 repeat (first
  | refine Af ?_|refine Ac ?_|refine Aa rfl ?_|refine Ab rfl ?_
  | ((first|refine AI (by kernel_rfl) ?_|refine BL (by kernel_rfl) (by kernel_rfl) (by kernel_rfl) ?_)
     repeat (first
      | refine DM (hl:=?_)
      | refine AZ (hl:=?_)
      | refine AC (hl:=?_)
      | refine BU (hl:=?_)
      | refine C7 (hl:=?_)
      | refine C8 (hl:=?_)
      | refine Dc (hl:=?_)
      | refine B5 (hl:=?_)
      | refine AO (hl:=?_)
      | refine Da (hl:=?_)
      | refine Db (hl:=?_)
      | refine CH (hl:=?_)
      | refine Cv (hl:=?_)
      | refine Cu (hl:=?_)
      | refine Cw (hl:=?_)
      | refine Cj (hl:=?_)
      | refine B8 (hl:=?_)
      | refine Cf (hl:=?_)
      | refine Ay hA (hc:=F1) (hl:=?_)
      | refine Ay hA (hc:=S1) (hl:=?_)
      | refine Ay hA (hc:=E1) (hl:=?_)
      | refine Ay hA (hc:=V1) (hl:=?_)
      | refine Ay hA (hc:=T1) (hl:=?_)
      | refine Ay hA (hc:=T2) (hl:=?_)
      | refine Ay hA (hc:=T3) (hl:=?_)
      | refine G0 (i:=2) hx (by omega) (hl:=?_)
      | refine G0 (i:=1) hy (by omega) (hl:=?_)
      | refine Xv (hl:=?_))
     apply Ai.nil;try refine And.intro (by kernel_rfl) ?_)
  | refine Ad ?_|refine Ae ?_)
 refine As (And.intro (Or.inr rfl) ?_)
 exact AX
end Go.Proofs.YtnkobfcnflphkaaGreatDoor
