/-
  Several texts in one: Zg, Zh, Zi.
-/
import Derived.Test.YtfineedhebhpaaaGreatDoorHx
import Derived.Test.YtfineedhebhpaaaGreatDoorHz
import Derived.Test.YtfineedhebhpaaaGreatDoorGs
import Derived.Test.YtfineedhebhpaaaGreatDoorHn
namespace Go.Proofs.YtfineedhebhpaaaGreatDoor
open List renaming getElem?_eq_getElem→Yv
open Nat renaming le_refl→Yu
set_option maxHeartbeats 16000000
open Go.RowKit
set_option linter.unusedVariables false
set_option linter.unusedSimpArgs false
set_option maxRecDepth 20000
theorem Qy {M E:Nat} : ∀i:Nat,DY ((M:Int):Rat) ((E:Int):Rat) i=(((M*E^i:Nat):Int):Rat)
 | 0=>by rw [Ip,Nat.pow_zero,Nat.mul_one]
 | i+1=>by
   rw [Iq,Qy i,Nat.pow_succ,←Nat.mul_assoc,Int.natCast_mul (M*E^i),Rat.intCast_mul]
theorem Xn {M E a b n:Nat} (hM:Sz a M) (hE:Sz b E): ∀i,i≤n→RSz (a+n*b+1) (DY ((M:Int):Rat) ((E:Int):Rat) i):=fun i hi=>by
 rw [Qy]
 refine (Qh (hM.mul (hE.pow i)) (by omega)).mono ?_
 have:=Nat.mul_le_mul_right b hi
 omega
theorem Uj {a q:Rat} (ha:a≠0) (hq:q≠0) (i:Nat):DY a q i≠0:=DL ha (DK hq i)
theorem KJ {jt:Nat} {t:Rat} (h:RSz jt t):(∃z:Int,t*BV t=(z:Rat)∧Sz (jt+1) z.natAbs)∧ ∃z:Int,BV t-t*BV t=(z:Rat)∧Sz (jt+1) z.natAbs:=by
 have e:t*BV t=(t.num:Rat):=EM t
 refine ⟨⟨t.num,e,h.1.mono (by omega)⟩,t.den-t.num,?_,?_⟩
 ·rw [e,Rat.intCast_sub];rfl
 ·have h1:((t.den:Int)-t.num).natAbs≤t.den+t.num.natAbs:=by omega
  exact (h.2.plus h.1).le h1
theorem Tu {j:Nat} {l:List Rat} (hl:l.length≤1000000) (hne:0<l.length):
  C7 Tryz.prog Amb 217 [.one (AH j l)] [] [(5,Ao (nmD j) l)] (.one (.gl 5 l.length 3)):=by
 have hne':(!(Ao (nmD j) l).isEmpty)=true:=by
  have:=Cr (f:=nmD j) inferInstance (by decide) hne
  cases hb:Ao (nmD j) l with
  | nil=>rw [hb] at this;cases this
  | cons a b=>rfl
 have hfn:=V0 (j:=j) hne
 refine CV Tryz.func217 rfl rfl rfl rfl (by
  simp only [List.all_cons,List.all_nil,Bool.and_true,Bool.and_eq_true]
  exact ⟨by simp [inA,inC],Cs _ _,hne'⟩) (by simp [inA,inC]) (by simp) (by simp) ?_
 intro W0 base D μ0 hA hD
 repeat (first|refine Ag ?_|refine Ac ?_|refine Aa rfl ?_|refine Ab rfl ?_|refine Am ?_|refine An ?_|refine Ad ?_|refine Ae ?_)
 refine DS 2 (by simp only [List.take_succ_cons,List.take_zero,List.drop_succ_cons,List.drop_zero];exact ⟨rfl,rfl⟩) (by kernel_rfl) ?_
 refine FY (hl:=?_)
 refine AK (hl:=?_)
 apply Ah.nil
 refine FP (la:=([]:List Rat)) (f:=nmD j) (k:=5) (ss:= []) (bs:= []) (ns:=Ao (nmD j) l) (hns:=Hs inferInstance _ l) hD ?_ ?_ ?_
 ·exact ⟨by simp;omega,by simp;omega⟩
 ·exact BF
 repeat (refine Dy rfl ?_;refine As (hl:=?_);apply Ah.nil)
 refine DH ?_
 refine A8 (ss:= [(2,.one (.gl 5 l.length 3))]) (bs:= [(5,Ao (nmD j) l)]) ?_ ?_
 ·refine Cu ?_ ?_ rfl
  ·repeat (first|exact Ak|(refine List.forall_mem_cons.2 ⟨?_,?_⟩;focus (first|exact Ent.of_eq rfl|(refine Ent.one' rfl ?_;(first|exact Iu|(refine Af.glLen ?_;simp)|exact Gh))|(refine Ent.agg' rfl ?_;(repeat (first|exact EntL.nil' rfl|(refine EntL.cons' rfl ?_ ?_;focus (first|exact Iu|(refine Af.glLen ?_;simp)|exact Gh))));done))))
  ·repeat (first|exact Ak|(refine List.forall_mem_cons.2 ⟨?_,?_⟩;focus (first|exact AN inferInstance|(exact Fv (la:= []) inferInstance)|(refine AG rfl ?_ rfl;focus ((repeat (first|exact EntL.nil' rfl|(refine EntL.cons' rfl ?_ ?_;focus (first|exact Iu|(refine Af.glLen ?_;simp)|exact Gh))));done)))))
 refine Ap (And.intro (Or.inr rfl) (IG (bs:= []) (ResIs.tmp rfl) (Ent.one' rfl (Af.glLen rfl)) Ak ?_))
 exact List.forall_mem_cons.2 ⟨.inl (AN inferInstance),Ak⟩
theorem OK {j:Nat} {l:List Rat} (hl:l.length≤1000000) (hne:0<l.length):
  BJ Tryz.prog Amb 218 [.one (.gl 5 l.length 3)] [(5,Ao (nmD j) l,Ao (nmD j) l.reverse)] (.tup []):=by
 have hdn:=Cl (k:= .i64) (show (IntKind.i64).wrap ((l.length:Int)-1)=((l.length-1:Nat):Int) by rw [show ((l.length:Int)-1)=((l.length-1:Nat):Int) by omega];exact IntWalk.i64_in _ (by omega))
 apply Aj Tryz.func218 rfl rfl rfl rfl
 case hpf=>
  simp only [List.all_cons,List.all_nil,Bool.and_true,Bool.and_eq_true]
  exact ⟨rfl,Ho _,Ho _⟩
 case hin=>simp [inA,inC]
 intro W0 base D μ0 hA hD
 repeat (first|refine Ag ?_|refine Ac ?_|refine Aa rfl ?_|refine Ab rfl ?_|refine Am ?_|refine An ?_|refine Ad ?_|refine Ae ?_)
 refine AW (fun n σ=> ∃(i:Nat) (cur:List Rat),n=l.length-i∧2*i≤l.length∧Oq l cur i∧Wk ⟨W0,base,D,28,[5],μ0⟩ σ [(0,.one (.gl 5 l.length 3)),(2,Ay (i:Nat)),(3,Ay ((l.length:Int)-1-i))] [(5,Ao (nmD j) cur)]) (n:=l.length) ⟨0,l,by omega,by omega,.start l,?_⟩ ?_
 ·exact BF
 intro n σ hI
 obtain ⟨i,cur,hn,hi0,hcur,hw⟩:=hI
 refine A8 hw ?_
 clear hw
 by_cases hi:(i:Int)<(l.length:Int)-1-i
 ·obtain ⟨q,hq,hqe⟩: ∃q:Nat,(l.length:Int)-1-i=(q:Int)∧q+i+1=l.length:=⟨l.length-1-i,by omega,by omega⟩
  rw [hq] at hi⊢
  have hcl:=hcur.1
  obtain ⟨x,hx,hx'⟩:=Ge (l:=cur) (i:=i) (by omega)
  obtain ⟨y,hy,hy'⟩:=Ge (l:=cur) (i:=q) (by omega)
  have bi:=AS (k:= .i64) (decide_eq_true (show (i:Int)<(q:Int) from hi))
  have b1:=BW (k:= .i64) (show (IntKind.i64).wrap ((i:Int)+1)=((i+1:Nat):Int) from IntWalk.i64_in _ (by omega))
  have b2:=Cl (k:= .i64) (show (IntKind.i64).wrap ((q:Int)-1)=(q:Int)-1 from IntWalk.i64_in _ (by omega))
  have hlen:(Ao (nmD j) cur).length=l.length*3:=by rw [Av (n:=3) inferInstance,hcl]
  have lt1:(0:Int)≤((i:Nat):Int)∧((i:Nat):Int)<(l.length:Nat):=by omega
  have lt2:(0:Int)≤((q:Nat):Int)∧((q:Nat):Int)<(l.length:Nat):=by omega
  have st1:((i:Nat):Int).toNat*3+3≤(Ao (nmD j) cur).length:=by rw [hlen,Int.toNat_natCast];omega
  have st2:((q:Nat):Int).toNat*3+3≤(Ao (nmD j) cur).length:=by rw [hlen,Int.toNat_natCast];omega
  have ld1:=CH (f:=nmD j) (n:=3) inferInstance hx
  have ld2:=CH (f:=nmD j) (n:=3) inferInstance hy
  repeat (first|refine Ag ?_|refine Ac ?_|refine Aa rfl ?_|refine Ab rfl ?_|refine Am ?_|refine An ?_|refine Ad ?_|refine Ae ?_)
  refine ⟨n-1,by omega,i+1,(cur.set i y).set q x,by omega,by omega,hcur.step hqe (by omega) hx' hy',?_⟩
  refine Cu ?_ ?_ rfl
  ·exact Jb
  ·repeat (first|exact Ak|(refine List.forall_mem_cons.2 ⟨?_,?_⟩;focus (first|exact AN inferInstance|(exact I6 (z:=(Ao (nmD j) cur).length) inferInstance (H6.set inferInstance (i:=q) (H6.set inferInstance (i:=i) H6.base (show i<cur.length by omega) (EntL.of_eq rfl)) (show q<(cur.set i y).length by rw [List.length_set];omega) (EntL.of_eq rfl)) (by rw [List.length_set,List.length_set];exact Av inferInstance cur))|(refine AG rfl ?_ rfl;focus (exact CI;done)))))
 ·have bi:=AS (k:= .i64) (decide_eq_false hi)
  have he:=hcur.done (by omega)
  subst he
  repeat (first|refine Ag ?_|refine Ac ?_|refine Aa rfl ?_|refine Ab rfl ?_|refine Am ?_|refine An ?_|refine Ad ?_|refine Ae ?_)
  refine And.intro (Or.inl rfl) ?_
  refine ⟨⟨[],.nil,.inr rfl,Ent.of_eq rfl⟩,?_⟩
  exact List.forall_mem_cons.2 ⟨(AN (ks:= []) inferInstance).1,Ak⟩
theorem OL {j:Nat} {l:List Rat} (hl:l.length≤1000000) (hne:0<l.length):
  Ctr Tryz.prog Amb 169 [.one (AH j l)] (.one (AH j l.reverse)):=by
 have C1:=Tu (j:=j) hl hne
 have V1:=OK (j:=j) hl hne
 have hbl:0<(Ao (nmD j) l).length:=Cr (n:=3) inferInstance (by decide) hne
 have hbr:(Ao (nmD j) l).length=(Ao (nmD j) l.reverse).length:=by rw [Av (n:=3) inferInstance,Av (n:=3) inferInstance,List.length_reverse]
 refine Aj Tryz.func169 rfl rfl rfl rfl rfl rfl ?_
 intro W0 base D μ0 hA hD
 repeat (first|refine Ag ?_|refine Ac ?_|refine Aa rfl ?_|refine Ab rfl ?_|refine Am ?_|refine An ?_|refine Ad ?_|refine Ae ?_)
 refine A8 (ss:= [(2,.one (.gl 5 l.reverse.length 3))]) (bs:= [(5,Ao (nmD j) l.reverse)]) ?_ ?_
 ·refine Cu ?_ ?_ rfl
  ·exact Jb
  ·repeat (first|exact Ak|(refine List.forall_mem_cons.2 ⟨?_,?_⟩;focus (first|exact AN inferInstance|(exact I6 (z:=(Ao (nmD j) l).length) inferInstance H6.whole (by rw [hbr];exact Av inferInstance _))|(refine AG rfl ?_ rfl;focus (exact CI;done)))))
 refine A5 5 hD (ss:= [(2,.one (AH j l.reverse))]) (bs:= []) ?_ ?_
 ·exact IO
 refine Ap (And.intro (Or.inr rfl) ?_)
 exact AA
theorem SX {j:Nat} {l:List Rat} (hl:l.length≤1000000) (hne:0<l.length):
  Ctr Tryz.prog Amb 173 [.one (AH j l)] (.one (AH j l.reverse)):=by
 obtain ⟨R,hR⟩: ∃R,R=l.reverse:=⟨_,rfl⟩
 have hdn:=Cl (k:= .i64) (show (IntKind.i64).wrap ((l.length:Int)-1)=((l.length-1:Nat):Int) by rw [show ((l.length:Int)-1)=((l.length-1:Nat):Int) by omega];exact IntWalk.i64_in _ (by omega))
 rw [←hR]
 refine Aj Tryz.func173 rfl rfl rfl rfl rfl rfl ?_
 intro W0 base D μ0 hA hD
 repeat (first|refine Ag ?_|refine Ac ?_|refine Aa rfl ?_|refine Ab rfl ?_|refine Am ?_|refine An ?_|refine Ad ?_|refine Ae ?_)
 refine AW (fun m σ=> ∃(i:Nat) (cur:List Rat),m=l.length-i∧i≤l.length∧cur=tab l.length (fun q=>if l.length≤q+i then R.getD q 0 else 0)∧Wk ⟨W0,base,D,26,[],μ0⟩ σ [(0,.one (AH j l)),(3,.one (.gl 7 l.length 3)),(4,Ay (i:Nat))] [(7,Ao (nmD j) cur)]) (n:=l.length) ⟨0,List.replicate l.length 0,by omega,by omega,DU.trans (AL fun q hq=>(if_neg (by omega)).symm),?_⟩ ?_
 ·exact BF
 intro m σ hI
 obtain ⟨i,cur,hm,hi0,hcur,hw⟩:=hI
 refine A8 hw ?_
 clear hw
 have hcl:cur.length=l.length:=by rw [hcur];simp
 by_cases hi:i<l.length
 ·obtain ⟨x,hx,hx'⟩:=Ge hi
  have bi:=AS (k:= .i64) (decide_eq_true (show (i:Int)<(l.length:Int) by omega))
  have hin:=BW (k:= .i64) (show (IntKind.i64).wrap ((i:Int)+1)=((i+1:Nat):Int) from IntWalk.i64_in _ (by omega))
  have hd2:=Cl (k:= .i64) (show (IntKind.i64).wrap (((l.length-1:Nat):Int)-(i:Int))=((l.length-1-i:Nat):Int) by rw [show (((l.length-1:Nat):Int)-(i:Int))=((l.length-1-i:Nat):Int) by omega];exact IntWalk.i64_in _ (by omega))
  obtain ⟨q,hq⟩: ∃q,q=l.length-1-i:=⟨_,rfl⟩
  rw [←hq] at hd2
  have hlt:(0:Int)≤((q:Nat):Int)∧((q:Nat):Int)<(l.length:Nat):=by omega
  have hst:((q:Nat):Int).toNat*3+3≤(Ao (nmD j) cur).length:=by rw [Av (n:=3) inferInstance,hcl,Int.toNat_natCast];omega
  repeat (first|refine Ag ?_|refine Ac ?_|refine Aa rfl ?_|refine Ab rfl ?_|refine Am ?_|refine An ?_|refine Ad ?_|refine Ae ?_)
  refine ⟨m-1,by omega,i+1,cur.set q x,by omega,by omega,?_,?_⟩
  ·rw [hcur]
   refine Dm (by omega) ?_ fun p hp hpq=>?_
   ·rw [if_pos (by omega),hR,List.getD_eq_getElem?_getD,List.getElem?_reverse (by omega),show l.length-1-q=i by omega,hx'];rfl
   ·by_cases h1:l.length≤p+i
    ·rw [if_pos h1,if_pos (by omega)]
    ·rw [if_neg h1,if_neg (by omega)]
  ·exact BF
 ·have bi:=AS (k:= .i64) (decide_eq_false (show ¬(i:Int)<(l.length:Int) by omega))
  have he:cur=R:=by
   rw [hcur,←OB 0 R,hR,List.length_reverse]
   exact AL fun q hq=>by rw [if_pos (by omega),FZ 0 (by simpa using hq)]
  subst he
  rw [←hcl]
  repeat (first|refine Ag ?_|refine Ac ?_|refine Aa rfl ?_|refine Ab rfl ?_|refine Am ?_|refine An ?_|refine Ad ?_|refine Ae ?_)
  refine A5 7 hD (ss:= [(2,.one (AH j cur))]) (bs:= []) ?_ ?_
  ·exact IO
  refine Ap (And.intro (Or.inr rfl) ?_)
  exact AA
def IZ (b:Nat) (x:Rat):Prop:= ∃z:Int,x=(z:Rat)∧Sz b z.natAbs
theorem IZ.mono {b c:Nat} {x:Rat} (h:IZ b x) (hb:b≤c):IZ c x:=by
 obtain ⟨z,h1,h2⟩:=h
 exact ⟨z,h1,h2.mono hb⟩
theorem IZ.rsz {b:Nat} {x:Rat} (h:IZ b x) (h1:1≤b):RSz b x:=by
 obtain ⟨z,rfl,hz⟩:=h
 have e:((z:Int):Rat)=mkRat z 1:=by rw [Rat.mkRat_one]
 rw [e]
 exact RSz.of_mkRat hz (Al _ _ (by
  have:(4294967296:Nat)^b≥4294967296^1:=Nat.pow_le_pow_right (by decide) h1
  omega)) (by decide)
theorem IZ.nat {b m:Nat} (h:Sz b m):IZ b ((m:Int):Rat):=⟨m,rfl,by simpa using h⟩
theorem IZ.mul {b c:Nat} {x y:Rat} (h:IZ b x) (k:IZ c y):IZ (b+c) (x*y):=by
 obtain ⟨z,rfl,hz⟩:=h
 obtain ⟨w,rfl,hw⟩:=k
 exact ⟨z*w,(Rat.intCast_mul _ _).symm,by rw [Int.natAbs_mul];exact hz.mul hw⟩
theorem IZ.sub {b:Nat} {x y:Rat} (h:IZ b x) (k:IZ b y):IZ (b+1) (x-y):=by
 obtain ⟨z,rfl,hz⟩:=h
 obtain ⟨w,rfl,hw⟩:=k
 exact ⟨z-w,(Rat.intCast_sub _ _).symm,(hz.plus hw).le (by omega)⟩
theorem IZ.pow {b:Nat} {x:Rat} (h:IZ b x) (k:Nat):IZ (k*b+1) (x^k):=by
 obtain ⟨z,rfl,hz⟩:=h
 refine ⟨z^k,?_,?_⟩
 ·induction k with
  | zero=>rfl
  | succ k ih=>rw [Rat.pow_succ,ih,Int.pow_succ,Rat.intCast_mul]
 ·rw [Int.natAbs_pow];exact hz.pow k
theorem IZ.scaled {a j:Nat} {M:Nat} {r:Rat} (hM:Sz a M) (hr:RSz j r) (h: ∃z:Int,((M:Int):Rat)*r=(z:Rat)):IZ (a+j) (((M:Int):Rat)*r):=by
 obtain ⟨z,hz⟩:=h
 refine ⟨z,hz,?_⟩
 have h1:(z:Rat)*((r.den:Int):Rat)=((M*r.num:Int):Rat):=by
  rw [←hz,Rat.intCast_mul,Rat.mul_assoc,EM]
 have h2:z*r.den=M*r.num:=by rw [←Rat.intCast_mul] at h1;exact Rat.intCast_inj.1 h1
 have h3:z.natAbs*r.den=M*r.num.natAbs:=by
  have:=congrArg Int.natAbs h2
  rw [Int.natAbs_mul,Int.natAbs_mul] at this
  simpa using this
 refine (hM.mul hr.1).le ?_
 rw [←h3]
 exact Nat.le_mul_of_pos_right _ r.den_pos
theorem IZ.cas {b c n:Nat} {u d:Rat} {f:Nat→Rat} (hf: ∀i,i≤n→IZ b (f i)) (hu:IZ c u) (hd:IZ c d): ∀k i,k+i≤n→IZ (b+n*(c+1)+2) (AF u d f k i):=by
 have key: ∀k i,k+i≤n→IZ (b+k*(c+1)) (AF u d f k i):=by
  intro k
  induction k with
  | zero=>intro i hi;exact (hf i (by omega)).mono (by omega)
  | succ k ih=>
    intro i hi
    obtain ⟨z,h1,h2⟩:=hd.mul (ih i (by omega))
    obtain ⟨w,h3,h4⟩:=hu.mul (ih (i+1) (by omega))
    refine ⟨z+w,?_,?_⟩
    ·show d*AF u d f k i+u*AF u d f k (i+1)=_
     rw [h1,h3,Rat.intCast_add]
    ·refine ((h2.plus h4).le (Int.natAbs_add_le _ _)).mono ?_
     rw [Nat.succ_mul];omega
 intro k i hi
 refine (key k i hi).mono ?_
 have:=Nat.mul_le_mul_right (c+1) (show k≤n by omega)
 omega
theorem IZ.geo {b c n:Nat} {a q:Rat} (ha:IZ b a) (hq:IZ c q): ∀i,i≤n→IZ (b+n*c+1) (DY a q i):=fun i hi=>(ha.mul (hq.pow i)).mono (by
 have:=Nat.mul_le_mul_right c hi
 omega)
theorem V4 {m i:Nat} {c g:Nat→Rat} (hi:i<m):(tab m fun q=>if q<i then c q*g q else c q).set i (c i*g i)=tab m fun q=>if q<i+1 then c q*g q else c q:=
 Dm hi (if_pos (by omega)) fun q hq hqi=>by
  by_cases h:q<i
  ·rw [if_pos h,if_pos (by omega)]
  ·rw [if_neg h,if_neg (by omega)]
def bpR (l:List Rat) (n:Nat) (a b:Rat):Nat→Rat:=if a=Cy then IM 0 (Cy-b) (cf l.reverse) n else IM a b (cf l) n
theorem Xf {j jt n J:Nat} {l:List Rat} {a b:Rat} (hl:l.length=n+1) (hn:n≤40) (hj:j≤10000) (hjt:jt≤10000) (hr: ∀r∈l,RSz j r) (ha:RSz jt a) (hb:RSz jt b) (hJ:J=9000000):
  Ctr Tryz.prog Amb 94 [.one (AH j l),nm jt a,nm jt b] (.one (EX (J+J+2) (n+1) (bpR l n a b))):=by
 have P1:=FE (j:=j) (l:=l) (by omega) (by omega)
 have I1:=US (n:=1) rfl
 obtain ⟨jq,hjq⟩: ∃jq,jq=jt+5:=⟨_,rfl⟩
 have S1:=Xz (j:=jt) (k:=2) (x:=a) (y:=Cy)
 have Mi:=OL (j:=j) (l:=l) (by omega) (by omega)
 have S2:=Li (j:=2) (k:=jt) (x:=Cy) (y:=b) (by omega) (by omega)
 have hone:RSz jq Cy:=(Eo 1 (by decide) (by decide)).mono (by omega)
 obtain ⟨R0,hR0⟩: ∃R0,R0=tab (n+1) (bpR l n a b):=⟨_,rfl⟩
 unfold EX
 rw [←hR0]
 by_cases h1:a=Cy
 case' pos=>
  rw [decide_eq_true h1] at S1
  have hdn:=Cl (k:= .i64) (show (IntKind.i64).wrap ((l.reverse.length:Int)-1)=(n:Int) by rw [List.length_reverse,show ((l.length:Int)-1)=(n:Int) by omega];exact IntWalk.i64_in _ (by omega))
  refine Aj Tryz.func94 rfl rfl rfl rfl rfl rfl ?_
  intro W0 base D μ0 hA hD
  repeat (first|refine Ag ?_|refine Ac ?_|refine Aa rfl ?_|refine Ab rfl ?_|refine Am ?_|refine An ?_|refine Ad ?_|refine Ae ?_)
  refine A8 (ss:= [(0,.one (AH j l.reverse)),(4,.one (.ptr 4 0)),(5,.one (.ptr 5 0)),(8,Ay (n:Nat))]) (bs:= [(4,nmC jq 0),(5,nmC jq (Cy-b))]) ?_ ?_
  ·exact BF
  obtain ⟨l',a',b',e1,e2,e3,hR',hl',hr',ha',hb',hne'⟩: ∃l' a' b',l'=l.reverse∧a'=(0:Rat)∧b'=Cy-b∧R0=tab (n+1) (IM a' b' (cf l') n)∧l'.length=n+1∧(∀r∈l',RSz j r)∧RSz jq a'∧RSz jq b'∧a'≠1:=⟨_,_,_,rfl,rfl,rfl,by rw [hR0];unfold bpR;rw [if_pos h1],by rw [List.length_reverse];exact hl,fun r hr'=>hr r (List.mem_reverse.1 hr'),⟨Al _ _ (Nat.pow_pos (by decide)),Al _ _ (by rw [hjq];exact Nat.one_lt_pow (by omega) (by decide))⟩,((Eo 1 (by decide) (by decide)).sub hb).mono (by omega),by decide⟩
  rw [←e1,←e2,←e3]
  clear e1 e2 e3
 case' neg=>
  rw [decide_eq_false h1] at S1
  have hdn:=Cl (k:= .i64) (show (IntKind.i64).wrap ((l.length:Int)-1)=(n:Int) by rw [show ((l.length:Int)-1)=(n:Int) by omega];exact IntWalk.i64_in _ (by omega))
  refine Aj Tryz.func94 rfl rfl rfl rfl rfl rfl ?_
  intro W0 base D μ0 hA hD
  repeat (first|refine Ag ?_|refine Ac ?_|refine Aa rfl ?_|refine Ab rfl ?_|refine Am ?_|refine An ?_|refine Ad ?_|refine Ae ?_)
  refine A8 (ss:= [(0,.one (AH j l)),(4,.one (.ptr 4 0)),(5,.one (.ptr 5 0)),(8,Ay (n:Nat))]) (bs:= [(4,nmC jq a),(5,nmC jq b)]) ?_ ?_
  ·exact BF
  obtain ⟨l',a',b',e1,e2,e3,hR',hl',hr',ha',hb',hne'⟩: ∃l' a' b',l'=l∧a'=a∧b'=b∧R0=tab (n+1) (IM a' b' (cf l') n)∧l'.length=n+1∧(∀r∈l',RSz j r)∧RSz jq a'∧RSz jq b'∧a'≠1:=⟨_,_,_,rfl,rfl,rfl,by rw [hR0];unfold bpR;rw [if_neg h1],hl,hr,ha.mono (by omega),hb.mono (by omega),h1⟩
  rw [←e1,←e2,←e3]
  clear e1 e2 e3
 all_goals
  clear hdn S1 S2 Mi P1 hR0 h1 hr ha hb hl hone
  have hNA:(n+1)*j≤41*10000:=Nat.mul_le_mul (by omega) hj
  have hNB:n*(3*jq+3+1)≤40*30019:=Nat.mul_le_mul hn (by omega)
  have hNC:n*(2+2*jq)≤40*20012:=Nat.mul_le_mul hn (by omega)
  have hB':n*(3*jq+3)≤40*30019:=Nat.mul_le_mul hn (by omega)
  obtain ⟨M,hM0,_,hMS,hMsz,hint⟩:=FV l' 1 2 (by decide) (Al _ _ (by decide)) hr'
  obtain ⟨Q,hQ0,_,hQS,hQsz,hqnt⟩:=FV (j:=jq) [a',b'] 1 2 (by decide) (Al _ _ (by decide)) (fun r hr=>by
   rcases List.mem_cons.1 hr with rfl|hr
   ·exact ha'
   ·rw [List.mem_singleton.1 hr];exact hb')
  have W1:=Jo (J:=J) hl' (by omega) (by omega) hr' (by omega)
  have W2:=Jo (j:=jq) (J:=3*jq+4) (n:=1) (l:= [a',b']) rfl (by omega) (by omega) (fun r hr=>by
   rcases List.mem_cons.1 hr with rfl|hr
   ·exact ha'
   ·rw [List.mem_singleton.1 hr];exact hb') (by omega)
  obtain ⟨S,hS⟩: ∃S,S=whS Cy l':=⟨_,rfl⟩
  obtain ⟨E,hE⟩: ∃E,E=whS Cy [a',b']:=⟨_,rfl⟩
  rw [←hS] at W1
  rw [←hE] at W2
  have hSM:S=((M:Int):Rat):=hS.trans hMS
  have hEQ:E=((Q:Int):Rat):=hE.trans hQS
  have hS0:S≠0:=by rw [hSM];exact L5 hM0
  have hE0:E≠0:=by rw [hEQ];exact L5 hQ0
  have hM0':S≠0:=hS0
  rw [hl'] at hMsz
  replace hQsz:Sz (2+2*jq) Q:=hQsz
  have iS:IZ (2+(n+1)*j) S:=by rw [hSM];exact IZ.nat hMsz
  have iE:IZ (2+2*jq) E:=by rw [hEQ];exact IZ.nat hQsz
  have i0:IZ (2+2*jq+jq) (E*a'):=by rw [hEQ];exact IZ.scaled hQsz ha' (hqnt a' List.mem_cons_self)
  have i1:IZ (2+2*jq+jq) (E*b'):=by rw [hEQ];exact IZ.scaled hQsz hb' (hqnt b' (List.mem_cons_of_mem _ List.mem_cons_self))
  have if1: ∀i,i≤n→IZ (2+(n+1)*j+j) (S*l'.getD i 0):=fun i hi=>by
   have hlt:i<l'.length:=by omega
   have hm:l'.getD i 0∈l':=by
    rw [List.getD_eq_getElem?_getD,Yv hlt]
    exact List.getElem_mem hlt
   rw [hSM];exact IZ.scaled hMsz (hr' _ hm) (hint _ hm)
  have iR:IZ (3*jq+3) (E-E*a'):=((iE.mono (by omega)).sub (i0.mono (show 2+2*jq+jq≤3*jq+2 by omega))).mono (by omega)
  have iU:IZ (3*jq+3) (E*b'-E*a'):=(i1.sub i0).mono (by omega)
  have iD:IZ (3*jq+3) (E-E*b'):=((iE.mono (by omega)).sub (i1.mono (show 2+2*jq+jq≤3*jq+2 by omega))).mono (by omega)
  have hne2:E-E*a'≠0:=by
   intro h0
   have:E*(1-a')=0:=by grind
   rcases Rat.mul_eq_zero.1 this with h|h
   ·exact hE0 h
   ·exact hne' (by grind)
  have c1:=IZ.cas (n:=n) if1 (i0.mono (by omega)) iR
  have ip: ∀i,i≤n→IZ (n*(2+2*jq)+1) (E^i):=fun i hi=>(iE.pow i).mono (by
   have:=Nat.mul_le_mul_right (2+2*jq) hi
   omega)
  obtain ⟨f2,hf2⟩: ∃f2:Nat→Rat,f2=fun i=>AF (E*a') (E-E*a') (fun i=>S*l'.getD i 0) (n-i) i*E^i:=⟨_,rfl⟩
  have if2: ∀i,i≤n→IZ (2+(n+1)*j+j+n*(3*jq+3+1)+2+(n*(2+2*jq)+1)) (f2 i):=fun i hi=>by rw [hf2];exact (c1 (n-i) i (by omega)).mul (ip i hi)
  have c2:=IZ.cas (n:=n) if2 iU iD
  have hp1: ∀i,i≤n→AF (E*b'-E*a') (E-E*b') f2 i 0/(S*E^n*(E-E*a')^i)=IM a' b' (cf l') n i:=fun i hi=>by
   rw [hf2];exact VL hS0 hE0 hne' rfl rfl hi
  have gE:DY Cy E=fun i=>E^i:=funext fun i=>by
   unfold DY
   have:Cy=1:=rfl
   rw [this,Rat.one_mul]
  have V1:=Jq (ju:=3*jq+4) (jd:=2*jq+2+(3*jq+4)+3) (n:=n) (J:=J) (u:=E*a') (d:=E-E*a') (f:=fun i=>S*l'.getD i 0) (by omega) (by omega) (by omega) (by omega) (fun k i h=>((c1 k i h).rsz (by omega)).mono (by omega))
  have G1:=F3 (ja:=2) (jq:=2*jq+2) (n:=n) (J:=J) (a:=Cy) (q:=E) (by omega) (by omega) (by omega) (by omega) (fun i hi=>by rw [gE];exact ((ip i hi).rsz (by omega)).mono (by omega))
  rw [gE] at G1
  have V2:=Jq (ju:=3*jq+4+(3*jq+4)+3) (jd:=2*jq+2+(3*jq+4)+3) (n:=n) (J:=J) (u:=E*b'-E*a') (d:=E-E*b') (f:=f2) (by omega) (by omega) (by omega) (by omega) (fun k i h=>((c2 k i h).rsz (by omega)).mono (by omega))
  have M3:=GJ (j:=(n+1)*j+2) (k:=J) (x:=S) (y:=E^n) (by omega) (by omega)
  have G2:=F3 (ja:=(n+1)*j+2+J+2) (jq:=2*jq+2+(3*jq+4)+3) (n:=n) (J:=J) (a:=S*E^n) (q:=E-E*a') (by omega) (by omega) (by omega) (by omega) (fun i hi=>(((iS.mul (ip n (Yu _))).geo iR i hi).rsz (by omega)).mono (by omega))
  have hSE:S*E^n≠0:=DL hS0 (DK hE0 n)
  have B1:=b11 (g:=171) (n:=n) (J:=J+J+2) (h:=IM a' b' (cf l') n) (c0:=EX J (n+1) fun k=>AF (E*b'-E*a') (E-E*b') f2 k 0) (c1:=EX J (n+1) (DY (S*E^n) (E-E*a'))) rfl rfl rfl rfl (k1:=16) (k2:=17) (by omega) (fun i hi=>by
   rw [←hp1 i hi]
   exact VC (CG (g:=fun k=>AF (E*b'-E*a') (E-E*b') f2 k 0) (by omega)) (CG (g:=DY (S*E^n) (E-E*a')) (by omega)) (by omega) (by omega) (Uj hSE hne2 i)) (by decide)
  have hz2: ∀i,i≤n→RSz J (f2 i):=fun i hi=>((if2 i hi).rsz (by omega)).mono (by omega)
  have hfa: ∀i,f2 i=AF (E*a') (E-E*a') (fun i=>S*l'.getD i 0) (n-i) i*E^i:=fun i=>by rw [hf2]
  clear hf2 hp1 c1 c2 if1 if2 ip iU iD iR i0 i1 iE iS hint hqnt hMS hQS hS hE hSM hEQ hQsz hMsz hM0' hne2 hSE
  unfold EX at V1 G1 V2 G2 B1
  rw [←hR'] at B1
  have W3:C7 Tryz.prog Amb 164 [.one (AH jq [a',b'])] [] [(126,Ao (nmD (3*jq+4)) [E*a',E*b'])] (.tup [.one (.gl 126 2 3),nm (2*jq+2) E]):=by
   have h:=W2.at1 rfl (Ho _) 126
   exact h
  clear W2
  generalize E*a'=e0 at*
  generalize E*b'=e1 at*
  obtain ⟨F,hF⟩: ∃F,F=tab (n+1) fun i=>S*l'.getD i 0:=⟨_,rfl⟩
  obtain ⟨R1,hR1⟩: ∃R1,R1=tab (n+1) fun q=>AF e0 (E-e0) (fun i=>S*l'.getD i 0) (n-q) q:=⟨_,rfl⟩
  obtain ⟨F2,hF2⟩: ∃F2,F2=tab (n+1) f2:=⟨_,rfl⟩
  obtain ⟨R2,hR2⟩: ∃R2,R2=tab (n+1) fun q=>AF (e1-e0) (E-e1) f2 (n-q) q:=⟨_,rfl⟩
  obtain ⟨L2,hL2⟩: ∃L2,L2=tab (n+1) fun k=>AF (e1-e0) (E-e1) f2 k 0:=⟨_,rfl⟩
  obtain ⟨G,hG⟩: ∃G,G=tab (n+1) fun i=>E^i:=⟨_,rfl⟩
  obtain ⟨T,hT⟩: ∃T,T=tab (n+1) (DY (S*E^n) (E-e0)):=⟨_,rfl⟩
  have hFl:F.length=n+1:=by rw [hF];simp
  have hRl:R1.length=n+1:=by rw [hR1];simp
  have hFl2:F2.length=n+1:=by rw [hF2];simp
  have hRl2:R2.length=n+1:=by rw [hR2];simp
  rw [←hF] at W1 V1
  rw [←hR1] at V1
  rw [←hF2,←hR2,←hL2] at V2
  rw [←hG] at G1
  rw [←hT] at G2 B1
  rw [←hL2] at B1
  clear hR2 hL2 hT hF
  have hbl1:0<(Ao (nmD J) F).length:=Cr (n:=3) inferInstance (by decide) (by omega)
  have hbl2:0<(Ao (nmD (3*jq+4)) [e0,e1]).length:=Cr (n:=3) inferInstance (by decide) (show 0<2 by omega)
  have hbl3:0<(Ao (nmD J) F2).length:=Cr (n:=3) inferInstance (by decide) (by omega)
  have hbr1:(Ao (nmD J) F).length=(Ao (nmD J) R1).length:=by rw [Av (n:=3) inferInstance,Av (n:=3) inferInstance,hFl,hRl]
  have hbr2:(Ao (nmD J) F2).length=(Ao (nmD J) R2).length:=by rw [Av (n:=3) inferInstance,Av (n:=3) inferInstance,hFl2,hRl2]
  have hx0: [e0,e1][(0:Int).toNat]?=some e0:=rfl
  have hx1: [e0,e1][(1:Int).toNat]?=some e1:=rfl
  have D1:=Li (j:=2*jq+2) (k:=3*jq+4) (x:=E) (y:=e0) (by omega) (by omega)
  have D2:=Li (j:=3*jq+4) (k:=3*jq+4) (x:=e1) (y:=e0) (by omega) (by omega)
  have D3:=Li (j:=2*jq+2) (k:=3*jq+4) (x:=E) (y:=e1) (by omega) (by omega)
  repeat (first|refine Ag ?_|refine Ac ?_|refine Aa rfl ?_|refine Ab rfl ?_|refine Am ?_|refine An ?_|refine Ad ?_|refine Ae ?_)
  refine DS 2 (by simp only [List.take_succ_cons,List.take_zero,List.drop_succ_cons,List.drop_zero];exact ⟨rfl,rfl⟩) (by kernel_rfl) ?_
  refine BB (hl:=?_)
  refine BB (hl:=?_)
  apply Ah.nil
  refine XL 42 (ss:= [(8,Ay (n:Nat)),(9,.one (.gl 26 (n+1) 3)),(10,.one (.ptr 10 0)),(42,.one (AH jq [a',b']))]) (bs:= [(10,nmC ((n+1)*j+2) S),(26,Ao (nmD J) F)]) hD rfl ?_
  refine BD (hl:=?_)
  apply Ah.nil
  refine ⟨?_,?_⟩
  ·refine QB ?_ ?_ rfl
   ·refine List.forall_mem_cons.2 ⟨FzA.ent (Ent.of_eq rfl),List.forall_mem_cons.2 ⟨FzA.ent (Ent.of_eq rfl),List.forall_mem_cons.2 ⟨FzA.ent (Ent.of_eq rfl),List.forall_mem_cons.2 ⟨?_,Ak⟩⟩⟩⟩
    exact GW (f:=nmD jq) (l:= [a',b']) inferInstance
   ·refine List.forall_mem_cons.2 ⟨AG rfl (EntL.of_eq rfl) rfl,List.forall_mem_cons.2 ⟨AN inferInstance,Ak⟩⟩
  refine Dy rfl ?_
  refine My hA [] W3 hbl2 (hl:=?_)
  apply Ah.nil
  repeat (refine Dy rfl ?_;(first|refine AK (hl:=?_)|refine Fa (hl:=?_)|refine BP (hl:=?_)|refine As (hl:=?_)|refine AO (hl:=?_));apply Ah.nil)
  refine DH ?_
  refine A5 126 hD (ss:= [(8,Ay (n:Nat)),(9,.one (.gl 26 (n+1) 3)),(10,.one (.ptr 10 0)),(11,.one (AH (3*jq+4) [e0,e1])),(12,.one (.ptr 12 0))]) (bs:= [(10,nmC ((n+1)*j+2) S),(12,nmC (2*jq+2) E),(26,Ao (nmD J) F)]) ?_ ?_
  ·refine QB ?_ ?_ rfl
   ·refine List.forall_mem_cons.2 ⟨FzA.ent (Ent.of_eq rfl),List.forall_mem_cons.2 ⟨FzA.ent (Ent.of_eq rfl),List.forall_mem_cons.2 ⟨FzA.ent (Ent.of_eq rfl),List.forall_mem_cons.2 ⟨?_,List.forall_mem_cons.2 ⟨FzA.ent (Ent.of_eq rfl),Ak⟩⟩⟩⟩⟩
    exact GW (f:=nmD (3*jq+4)) (l:= [e0,e1]) inferInstance
   ·refine List.forall_mem_cons.2 ⟨AG rfl (EntL.of_eq rfl) rfl,List.forall_mem_cons.2 ⟨AG rfl (EntL.of_eq rfl) rfl,List.forall_mem_cons.2 ⟨AN inferInstance,Ak⟩⟩⟩
  repeat (first|refine Ag ?_|refine Ac ?_|refine Aa rfl ?_|refine Ab rfl ?_|refine Am ?_|refine An ?_|refine Ad ?_|refine Ae ?_)
  refine AW (fun m σ=> ∃(i:Nat) (cur:List Rat),m=n+1-i∧i≤n+1∧cur=tab (n+1) (fun q=>if q<i then AF e0 (E-e0) (fun i=>S*l'.getD i 0) (n-q) q*E^q else AF e0 (E-e0) (fun i=>S*l'.getD i 0) (n-q) q)∧Wk ⟨W0,base,D,105,[],μ0⟩ σ [(8,Ay (n:Nat)),(9,.one (.gl 26 (n+1) 3)),(10,.one (.ptr 10 0)),(11,.one (AH (3*jq+4) [e0,e1])),(12,.one (.ptr 12 0)),(13,.one (.ptr 13 0)),(14,.one (AH J G)),(62,Ay ((n+1:Nat):Int)),(63,Ay (i:Nat))] [(26,Ao (nmD J) cur),(10,nmC ((n+1)*j+2) S),(12,nmC (2*jq+2) E),(13,nmC (2*jq+2+(3*jq+4)+3) (E-e0))]) (n:=n+1) ⟨0,R1,by omega,by omega,hR1.trans (AL fun q _=>(if_neg (Nat.not_lt_zero q)).symm),?_⟩ ?_
  ·refine Cu ?_ ?_ rfl
   ·exact Jb
   ·repeat (first|exact Ak|(refine List.forall_mem_cons.2 ⟨?_,?_⟩;focus (first|exact AN inferInstance|(exact I6 (z:=(Ao (nmD J) F).length) inferInstance H6.whole (by rw [hbr1];exact Av inferInstance _))|(refine AG rfl ?_ rfl;focus (exact CI;done)))))
  intro m σ hI
  obtain ⟨i,cur,hm,hi0,hcur,hw⟩:=hI
  refine A8 hw ?_
  clear hw
  have hcl:cur.length=n+1:=by rw [hcur];simp
  by_cases hi:i<n+1
  ·have bi:=AS (k:= .i64) (decide_eq_true (show (i:Int)<((n+1:Nat):Int) by omega))
   have hin:=BW (k:= .i64) (show (IntKind.i64).wrap ((i:Int)+1)=((i+1:Nat):Int) from IntWalk.i64_in _ (by omega))
   have hx:cur[((i:Nat):Int).toNat]?=some (AF e0 (E-e0) (fun i=>S*l'.getD i 0) (n-i) i):=by
    rw [hcur,CG hi,if_neg (Nat.lt_irrefl i)]
   have hy:G[((i:Nat):Int).toNat]?=some (E^i):=by rw [hG];exact CG (g:=fun i=>E^i) hi
   have hlt:(0:Int)≤((i:Nat):Int)∧((i:Nat):Int)<((n+1:Nat):Int):=by omega
   have hst:((i:Nat):Int).toNat*3+3≤(Ao (nmD J) cur).length:=by rw [Av (n:=3) inferInstance,hcl,Int.toNat_natCast];omega
   have ld:=CH (f:=nmD J) (n:=3) inferInstance hx
   have hz:=hz2 i (by omega)
   rw [hfa] at hz
   have ht:=V4 (c:=fun q=>AF e0 (E-e0) (fun i=>S*l'.getD i 0) (n-q) q) (g:=fun q=>E^q) hi
   replace ht:cur.set i (AF e0 (E-e0) (fun i=>S*l'.getD i 0) (n-i) i*E^i)=tab (n+1) (fun q=>if q<i+1 then AF e0 (E-e0) (fun i=>S*l'.getD i 0) (n-q) q*E^q else AF e0 (E-e0) (fun i=>S*l'.getD i 0) (n-q) q):=by rw [hcur];exact ht
   have M4:=GJ (j:=J) (k:=J) (x:=AF e0 (E-e0) (fun i=>S*l'.getD i 0) (n-i) i) (y:=E^i) (by omega) (by omega)
   generalize AF e0 (E-e0) (fun i=>S*l'.getD i 0) (n-i) i=x at*
   generalize E^i=y at*
   repeat (first|refine Ag ?_|refine Ac ?_|refine Aa rfl ?_|refine Ab rfl ?_|refine Am ?_|refine An ?_|refine Ad ?_|refine Ae ?_)
   refine ⟨m-1,by omega,i+1,cur.set i (x*y),by omega,by omega,ht,?_⟩
   exact BF
  ·have bi:=AS (k:= .i64) (decide_eq_false (show ¬(i:Int)<((n+1:Nat):Int) by omega))
   have he:cur=F2:=by
    rw [hcur,hF2]
    exact AL fun q hq=>by rw [if_pos (by omega),hfa]
   subst he
   have hgn:G[((n:Nat):Int).toNat]?=some (E^n):=by rw [hG];exact CG (g:=fun i=>E^i) (by omega)
   clear hF2 hcur hG
   repeat (first
    | refine Ag ?_|refine Ac ?_|refine Aa rfl ?_|refine Ab rfl ?_
    | ((first|refine AQ (by kernel_rfl) ?_|refine BO (by kernel_rfl) (by kernel_rfl) (by kernel_rfl) ?_)
       repeat (first
        | refine AK (hl:=?_)
        | refine As (hl:=?_)
        | refine BB (hl:=?_)
        | refine AO (hl:=?_)
        | refine Fb (hl:=?_)
        | refine BP (hl:=?_)
        | refine BL (hl:=?_)
        | refine BM (hl:=?_)
        | refine Fa (hl:=?_)
        | refine BN (hl:=?_)
        | refine AT (hl:=?_)
        | refine Dx (hl:=?_)
        | refine FX (hl:=?_)
        | refine B7 (hl:=?_)
        | refine B6 (hl:=?_)
        | refine B8 (hl:=?_)
        | refine Dp (hl:=?_)
        | refine AY (hl:=?_)
        | refine BD (hl:=?_)
        | refine FO (i:=0) hx0 (by omega) (hl:=?_)
        | refine FO (i:=1) hx1 (by omega) (hl:=?_)
        | refine AD hA (hc:=D2) (hl:=?_)
        | refine AD hA (hc:=D3) (hl:=?_)
        | refine PZ hA (len:=n+1) (n:=3) V2 ⟨by omega,hbr2,hbl3⟩ (hl:=?_)
        | refine FO hgn (by omega) (hl:=?_)
        | refine AD hA (hc:=M3) (hl:=?_)
        | refine AD hA (hc:=G2) (hl:=?_)
        | refine IT hA [(16,[AH J L2]),(17,[AH J T])] B1 (hl:=?_))
       apply Ah.nil;try refine And.intro (by kernel_rfl) ?_)
    | refine Ad ?_|refine Ae ?_)
   refine Ap (And.intro (Or.inr rfl) ?_)
   exact AA
end Go.Proofs.YtfineedhebhpaaaGreatDoor
