/-
  Several texts in one: Fl.
-/
import Derived.Test.YteiibidmicgjoaaGreatDoorFy
import Derived.Test.YteiibidmicgjoaaGreatDoorGt
import Derived.Test.YteiibidmicgjoaaGreatDoorGs
namespace Go.Proofs.YteiibidmicgjoaaGreatDoor
open Go.RowKit
set_option linter.unusedVariables false
set_option linter.unusedSimpArgs false
set_option maxRecDepth 100000
def lfAt:List (Nat×Leaf)→Nat→Option Leaf
 | [],_=>none
 | p::r,f=>match Nat.beq p.1 f with | true=>some p.2 | false=>lfAt r f
theorem lfAt_ok {P:Program} {A:World→Prop} {E:Env} : ∀ {l:List (Nat×Leaf)},(∀p∈l,LfOk P A E p.1 p.2)→ ∀ {f:Nat} {lf:Leaf},lfAt l f=some lf→LfOk P A E f lf
 | [],_,_,_,h=>by cases h
 | p::r,hl,f,lf,h=>by
   unfold lfAt at h
   split at h
   ·rename_i hb
    cases h
    rw [←Nat.eq_of_beq_eq_true hb]
    exact hl p List.mem_cons_self
   ·exact lfAt_ok (fun p hp=>hl p (List.mem_cons_of_mem _ hp)) h
def lfLight (v:List Bool):Leaf:=fun args st C=>match args with
 | [.one (.ints a)]=>match v[a]? with
   | some b=>C [(one (.one (.b b)),st)]
   | none=>false
 | _=>false
def lfTrue:Leaf:=fun args st C=>match args with
 | []=>C [(one (.one (.b true)),st)]
 | _=>false
def numQ (n:Num):Option Rat:=match n.p with
 | []=>some 0
 | [([],c)]=>some (mkRat c (n.d+1))
 | _=>none
theorem numQ_ok {V:Nat→Rat} {n:Num} {x:Rat} (h:numQ n=some x):n.ev V=x:=by
 obtain ⟨p,d⟩:=n
 have hd:=succ_ne d
 unfold numQ at h
 simp only at h
 split at h
 ·cases h
  show (0:Rat)/((d+1:Nat):Rat)=0
  grind
 ·cases h
  rw [ev_const,Rat.mkRat_eq_div]
 ·cases h
def ratN (x:Rat):Num:=⟨match isZ x.num with | true=> [] | false=> [([],x.num)],x.den-1⟩
theorem ratN_ev {V:Nat→Rat} (x:Rat):(ratN x).ev V=x:=by
 have hp:x.den-1+1=x.den:=Nat.succ_pred_eq_of_pos x.den_pos
 have hx:((x.num:Int):Rat)/((x.den:Nat):Rat)=x:=by rw [←Rat.mkRat_eq_div,Rat.mkRat_self]
 unfold ratN
 split
 ·rename_i h
  have h0:=isZ_ok h
  rw [h0] at hx
  have hz:((0:Int):Rat)=0:=rfl
  show (0:Rat)/((x.den-1+1:Nat):Rat)=x
  rw [hp]
  rw [hz] at hx
  exact hx
 ·rw [ev_const,hp]
  exact hx
def lfText:Leaf:=on1 fun x j st C=>Nat.ble j 100000&&match numQ x with
 | some x=>monoK ((textR x).map UInt8.toNat) fun l=>C [(one (.one (.str l)),st)]
 | none=>false
def lfBits:Leaf:=on1 fun x j st C=>small j&&match numQ x with
 | some x=>intK ((max (bitsN x.num.natAbs) (bitsN x.den):Nat):Int) fun n=>C [(one (.one (.i .i64 n)),st)]
 | none=>false
def lfRound (g:Rat→Nat→Rat):Leaf:=fun args st C=>match args with
 | [a,.one (.i .i64 k)]=>(match numOf a with
   | some (n,j)=>small j&&(match numQ n with
     | some x=>numK (ratN (g x (scaleQ k))) fun z=>natK (j+132) fun j=>C [(one (numA z j),st)]
     | none=>false)
   | none=>false)
 | _=>false
section
variable {P:Program} {A:World→Prop} {E:Env} {f:Nat}
theorem lfText_ok (hF:Fun P f) (h: ∀ {j:Nat} {x:Rat},j≤100000→Ctr P A f [nm j x] (.one (.v (.string ⟨(textR x).toArray⟩)))):LfOk P A E f lfText:=
 leaf1 (fun n j st C h2=>by
  rw [Bool.and_eq_true] at h2
  obtain ⟨h1,h2⟩:=h2
  split at h2
  ·rename_i x hx
   rw [monoK_eq] at h2
   refine ⟨_,h2,fun hs=>⟨_,List.mem_singleton.2 rfl,hs,rfl,rfl,_,rfl,?_⟩⟩
   rw [numQ_ok hx]
   show Ctr P A f _ (.one (.v (.string ⟨(((textR x).map UInt8.toNat).map UInt8.ofNat).toArray⟩)))
   have e:((textR x).map UInt8.toNat).map UInt8.ofNat=textR x:=by
    rw [List.map_map]
    have:(UInt8.ofNat∘UInt8.toNat)=id:=by funext b;simp
    rw [this,List.map_id]
   rw [e]
   exact h (Nat.le_of_ble_eq_true h1)
  ·cases h2) hF
theorem lfBits_ok (hF:Fun P f) (h: ∀ {j:Nat} {x:Rat},j≤100000000→Ctr P A f [nm j x] (.one (.v (.int .i64 (max (bitsN x.num.natAbs) (bitsN x.den):Nat))))):LfOk P A E f lfBits:=
 leaf1 (fun n j st C h2=>by
  rw [Bool.and_eq_true] at h2
  obtain ⟨h1,h2⟩:=h2
  split at h2
  ·rename_i x hx
   rw [intK_eq] at h2
   refine ⟨_,h2,fun hs=>⟨_,List.mem_singleton.2 rfl,hs,rfl,rfl,_,rfl,?_⟩⟩
   rw [numQ_ok hx]
   exact h (small_ok h1)
  ·cases h2) hF
theorem lfRound_ok {g:Rat→Nat→Rat} (hF:Fun P f) (h: ∀ {j:Nat} {x:Rat} {s:Int},j≤100000000→Ctr P A f [nm j x,.one (.v (.int .i64 s))] (nm (j+132) (g x (scaleQ s)))):LfOk P A E f (lfRound g):=fun args st C hC=>by
 replace hC:(match (generalizing:=false) args with
  | [a,.one (.i .i64 k)]=>(match numOf a with
    | some (n,j)=>small j&&(match numQ n with
      | some x=>numK (ratN (g x (scaleQ k))) fun z=>natK (j+132) fun j=>C [(one (numA z j),st)]
      | none=>false)
    | none=>false)
  | _=>false)=true:=hC
 split at hC
 ·rename_i a k
  split at hC
  ·rename_i n j ha
   rw [Bool.and_eq_true] at hC
   obtain ⟨h1,hC⟩:=hC
   split at hC
   ·rename_i x hx
    rw [numK_eq,natK_eq] at hC
    refine ⟨_,hC,fun hs=>⟨_,List.mem_singleton.2 rfl,hs,rfl,rfl,callOk_one hF ?_⟩⟩
    have hm:=h (j:=j) (x:=x) (s:=k) (small_ok h1)
    have e:=numOf_ok (E:=E) ha
    rw [numQ_ok hx] at e
    show Ctr P A f [aK E a,.one (.v (.int .i64 k))] (nm (j+132) ((ratN (g x (scaleQ k))).ev E.V))
    rw [ratN_ev]
    exact CtrM.weak hm (.cons e (.cons Ent.same .nil)) Ent.same
   ·cases hC
  ·cases hC
 ·cases hC
end
def intV (I:Nat→Int) (c:Nat):Rat:=match c % 4 with
 | 0=>partR (I (c/4))
 | _=>ratM (I (c/4/256)) (I (c/4 % 256))
structure IntEnv (E:Env) (m:Nat):Prop where
 bd: ∀a,a<m→ -9223372036854775808≤E.I a∧E.I a<9223372036854775808
 num: ∀c,0<m→c % 4<2→E.V (8*c+5)=intV E.I c
def lfPart (m:Nat):Leaf:=fun args st C=>match args with
 | [.one (.sym .i64 a)]=>Nat.blt a m&&natK (8*(4*a)+5) fun v=>C [(one (numA (nvar v) 2),st)]
 | _=>false
def lfRat (m:Nat):Leaf:=fun args st C=>match args with
 | [.one (.sym .i64 a),.one (.sym .i64 b)]=>Nat.blt a m&&Nat.blt b m&&Nat.blt b 256&&natK (8*(4*(256*a+b)+1)+5) fun v=>C [(one (numA (nvar v) 2),st)]
 | _=>false
theorem lfPart_ok {E:Env} {m:Nat} (hM:IntEnv E m) (hF:Fun Tryz.prog 135):LfOk Tryz.prog Amb E 135 (lfPart m):=fun args st C hC=>by
 replace hC:(match (generalizing:=false) args with
  | [.one (.sym .i64 a)]=>Nat.blt a m&&natK (8*(4*a)+5) fun v=>C [(one (numA (nvar v) 2),st)]
  | _=>false)=true:=hC
 split at hC
 ·rename_i a
  simp only [Bool.and_eq_true,natK_eq] at hC
  obtain ⟨ha,hC⟩:=hC
  have ha:a<m:=by simpa using ha
  refine ⟨_,hC,fun hs=>⟨_,List.mem_singleton.2 rfl,hs,rfl,rfl,callOk_one hF ?_⟩⟩
  show Ctr Tryz.prog Amb _ [.one (.v (.int .i64 (E.I a)))] (nm 2 ((nvar (8*(4*a)+5)).ev E.V))
  rw [nvar_ev,hM.num _ (by omega) (by omega)]
  have e:intV E.I (4*a)=partR (E.I a):=by
   unfold intV
   rw [show 4*a % 4=0 by omega,show 4*a/4=a by omega]
   rfl
  rw [e]
  exact d_part (hM.bd a ha).1 (hM.bd a ha).2
 ·cases hC
theorem lfRat_ok {E:Env} {m:Nat} (hM:IntEnv E m) (hF:Fun Tryz.prog 42):LfOk Tryz.prog Amb E 42 (lfRat m):=fun args st C hC=>by
 replace hC:(match (generalizing:=false) args with
  | [.one (.sym .i64 a),.one (.sym .i64 b)]=>Nat.blt a m&&Nat.blt b m&&Nat.blt b 256&&natK (8*(4*(256*a+b)+1)+5) fun v=>C [(one (numA (nvar v) 2),st)]
  | _=>false)=true:=hC
 split at hC
 ·rename_i a b
  simp only [Bool.and_eq_true,natK_eq] at hC
  obtain ⟨⟨⟨ha,hb⟩,hc⟩,hC⟩:=hC
  have ha:a<m:=by simpa using ha
  have hb:b<m:=by simpa using hb
  have hc:b<256:=by simpa using hc
  refine ⟨_,hC,fun hs=>⟨_,List.mem_singleton.2 rfl,hs,rfl,rfl,callOk_one hF ?_⟩⟩
  show Ctr Tryz.prog Amb _ [.one (.v (.int .i64 (E.I a))),.one (.v (.int .i64 (E.I b)))] (nm 2 ((nvar (8*(4*(256*a+b)+1)+5)).ev E.V))
  rw [nvar_ev,hM.num _ (by omega) (by omega)]
  have e:intV E.I (4*(256*a+b)+1)=ratM (E.I a) (E.I b):=by
   unfold intV
   rw [show (4*(256*a+b)+1) % 4=1 by omega,show (4*(256*a+b)+1)/4/256=a by omega,show (4*(256*a+b)+1)/4 % 256=b by omega]
   rfl
  rw [e]
  exact d_rat (hM.bd a ha).1 (hM.bd a ha).2 (hM.bd b hb).1 (hM.bd b hb).2
 ·cases hC
def lvs (tab:Tab) (inf:Inf) (n m:Nat) (v:List Bool) (aw:List Nat):List (Nat×Leaf):=
 (74,lf2 nadd 3)::
 (75,lf2 nadd 3)::
 (81,lf2 nmul 2)::
 (87,lf2 nmul 2)::
 (76,lf2 nsub 3)::
 (131,lf2 nsub 3)::
 (121,lfSame tab inf)::
 (33,lfSame tab inf)::
 (106,lfSign tab inf)::
 (110,lfSign tab inf)::
 (97,lfCmp tab inf)::
 (61,lfCmp tab inf)::
 (142,lfInt)::
 (44,lfInt)::
 (77,lfNeg)::
 (78,lfNeg)::
 (84,lfMin tab inf)::
 (67,lfMin tab inf)::
 (85,lfMax tab inf)::
 (68,lfMax tab inf)::
 (168,lfMid)::
 (107,lfQuo tab inf)::
 (73,lfOver tab inf)::
 (9,lfLight v)::
 (11,lfRoll)::
 (66,lfNumberN n)::
 (12,lfSpanN n)::
 (135,lfPart m)::
 (42,lfRat m)::
 (65,lfText)::
 (166,lfBits)::
 (167,lfRound downR)::
 aw.map fun f=>(f,lfTrue)
theorem c_quo0 {j k:Nat} {x:Rat} :Ctr Tryz.prog Amb 107 [nm j x,nm k 0] (.tup [.agg [.v (.bool false),.v (.slice none 0 0),.v (.slice none 0 0)],.one (.v (.int .i64 3))]):=
 ctr_2 fun W0 μ sz w u v ht hu hv=>by
  obtain ⟨h1,h2⟩:=cv_nm hu
  obtain ⟨h3,h4⟩:=cv_nm hv
  refine (quo_zero h1 h3 rfl).mono ?_
  rintro e w' ⟨rfl,k3⟩
  refine ⟨_,rfl,k3,[.agg #[.bool false,.slice none 0 0,.slice none 0 0],.int .i64 3],rfl,rfl,fun i a b ha hb=>?_⟩
  match i with
  | 0=>simp at ha hb;subst ha;subst hb;exact ⟨[.bool false,.slice none 0 0,.slice none 0 0],rfl,All2.self _⟩
  | 1=>simp at ha hb;subst ha;subst hb;rfl
  | i+2=>simp at ha
def LightEnv (E:Env) (v:List Bool):Prop:= ∀(a:Nat) b,v[a]?=some b→decide (((E.L a).length:Int)≤500)=b
def AwOk (aw:List Nat):Prop:= ∀f∈aw,Fun Tryz.prog f∧Ctr Tryz.prog Amb f [] (.one (.v (.bool true)))
theorem lfLight_ok {E:Env} {v:List Bool} (hv:LightEnv E v):LfOk Tryz.prog Amb E 9 (lfLight v):=fun args st C hC=>by
 replace hC:(match (generalizing:=false) args with
  | [.one (.ints a)]=>match v[a]? with
    | some b=>C [(one (.one (.b b)),st)]
    | none=>false
  | _=>false)=true:=hC
 split at hC
 ·rename_i a
  split at hC
  ·rename_i b hb
   refine ⟨_,hC,fun hs=>⟨_,List.mem_singleton.2 rfl,hs,rfl,rfl,callOk_one inferInstance ?_⟩⟩
   show Ctr Tryz.prog Amb _ [.one (.ints (E.L a))] (.one (.v (.bool b)))
   rw [←hv a b hb]
   exact d_light (E.L a)
  ·cases hC
 ·cases hC
theorem lfTrue_ok {E:Env} {f:Nat} (hf:Fun Tryz.prog f∧Ctr Tryz.prog Amb f [] (.one (.v (.bool true)))):LfOk Tryz.prog Amb E f lfTrue:=fun args st C hC=>by
 replace hC:(match (generalizing:=false) args with
  | []=>C [(one (.one (.b true)),st)]
  | _=>false)=true:=hC
 split at hC
 ·exact ⟨_,hC,fun hs=>⟨_,List.mem_singleton.2 rfl,hs,rfl,rfl,callOk_one hf.1 hf.2⟩⟩
 ·cases hC
theorem lv1 {E:Env} {f:Nat} {lf:Leaf} {l:List (Nat×Leaf)} (h:LfOk Tryz.prog Amb E f lf) (hl: ∀p∈l,LfOk Tryz.prog Amb E p.1 p.2): ∀p∈(f,lf)::l,LfOk Tryz.prog Amb E p.1 p.2:=fun p hp=>by
 rcases List.mem_cons.1 hp with rfl | hp
 ·exact h
 ·exact hl p hp
theorem lvs_ok {E:Env} {tab:Tab} {inf:Inf} {n m:Nat} {v:List Bool} {aw:List Nat} (hT:TabOk E tab) (hI:InfOk E inf) (hD:DiceEnv E n) (hM:IntEnv E m) (hv:LightEnv E v) (ha:AwOk aw): ∀p∈lvs tab inf n m v aw,LfOk Tryz.prog Amb E p.1 p.2:=by
 unfold lvs
 refine lv1 (f:=74) (lf2_ok inferInstance (fun a b=>nadd_ev a b) (fun h k=>c_add h k)) ?_
 refine lv1 (f:=75) (lf2_ok inferInstance (fun a b=>nadd_ev a b) (fun h k=>r_add h k)) ?_
 refine lv1 (f:=81) (lf2_ok inferInstance (fun a b=>nmul_ev a b) (fun h k=>c_mul h k)) ?_
 refine lv1 (f:=87) (lf2_ok inferInstance (fun a b=>nmul_ev a b) (fun h k=>r_mul h k)) ?_
 refine lv1 (f:=76) (lf2_ok inferInstance (fun a b=>nsub_ev a b) (fun h k=>c_sub h k)) ?_
 refine lv1 (f:=131) (lf2_ok inferInstance (fun a b=>nsub_ev a b) (fun h k=>r_sub h k)) ?_
 refine lv1 (f:=121) (lfSame_ok hT hI inferInstance c_same) ?_
 refine lv1 (f:=33) (lfSame_ok hT hI inferInstance r_same) ?_
 refine lv1 (f:=106) (lfSign_ok hT hI inferInstance c_sign) ?_
 refine lv1 (f:=110) (lfSign_ok hT hI inferInstance r_sign) ?_
 refine lv1 (f:=97) (lfCmp_ok hT hI inferInstance (fun h k=>c_cmp h k)) ?_
 refine lv1 (f:=61) (lfCmp_ok hT hI inferInstance (fun h k=>r_cmp h k)) ?_
 refine lv1 (f:=142) (lfInt_ok inferInstance (fun h=>c_int h)) ?_
 refine lv1 (f:=44) (lfInt_ok inferInstance (fun h=>r_int h)) ?_
 refine lv1 (f:=77) (lfNeg_ok inferInstance (fun h=>c_neg h)) ?_
 refine lv1 (f:=78) (lfNeg_ok inferInstance (fun h=>r_neg)) ?_
 refine lv1 (f:=84) (lfMin_ok hT hI inferInstance (fun h k=>c_min h k)) ?_
 refine lv1 (f:=67) (lfMin_ok hT hI inferInstance (fun h k=>r_min h k)) ?_
 refine lv1 (f:=85) (lfMax_ok hT hI inferInstance (fun h k=>c_max h k)) ?_
 refine lv1 (f:=68) (lfMax_ok hT hI inferInstance (fun h k=>r_max h k)) ?_
 refine lv1 (f:=168) (lfMid_ok inferInstance (fun h k=>c_mid h k)) ?_
 refine lv1 (f:=107) (lfQuo_ok hT hI inferInstance (fun h k h0=>c_quo h k h0) c_quo0) ?_
 refine lv1 (f:=73) (lfOver_ok hT hI inferInstance (fun h k h0=>r_over h k h0)) ?_
 refine lv1 (f:=9) (lfLight_ok hv) ?_
 refine lv1 (f:=11) (lfRoll_ok hD inferInstance) ?_
 refine lv1 (f:=66) (lfNumber_ok hD inferInstance) ?_
 refine lv1 (f:=12) (lfSpan_ok hD inferInstance) ?_
 refine lv1 (f:=135) (lfPart_ok hM inferInstance) ?_
 refine lv1 (f:=42) (lfRat_ok hM inferInstance) ?_
 refine lv1 (f:=65) (lfText_ok inferInstance (fun h=>r_text h)) ?_
 refine lv1 (f:=166) (lfBits_ok inferInstance (fun h=>c_bits h)) ?_
 refine lv1 (f:=167) (lfRound_ok inferInstance (fun h=>c_down h)) ?_
 intro p hp
 obtain ⟨f,hf,rfl⟩:=List.mem_map.1 hp
 exact lfTrue_ok (ha f hf)
def invs:Tab→Tab
 | []=> []
 | x::r=>match Nat.beq (x.1 % 8) 7 with | true=>x::invs r | false=>invs r
def defs:Tab→Tab
 | []=> []
 | x::r=>match Nat.beq (x.1 % 8) 6 with | true=>x::defs r | false=>defs r
theorem invs_mem: ∀ {tab:Tab} {x:Nat×Poly},x∈invs tab→x∈tab∧x.1 % 8=7
 | y::r,x,h=>by
   unfold invs at h
   split at h
   ·rename_i hb
    rcases List.mem_cons.1 h with rfl | h
    ·exact ⟨List.mem_cons_self,Nat.eq_of_beq_eq_true hb⟩
    ·exact ⟨List.mem_cons_of_mem _ (invs_mem h).1,(invs_mem h).2⟩
   ·exact ⟨List.mem_cons_of_mem _ (invs_mem h).1,(invs_mem h).2⟩
theorem defs_mem: ∀ {tab:Tab} {x:Nat×Poly},x∈defs tab→x∈tab∧x.1 % 8=6
 | y::r,x,h=>by
   unfold defs at h
   split at h
   ·rename_i hb
    rcases List.mem_cons.1 h with rfl | h
    ·exact ⟨List.mem_cons_self,Nat.eq_of_beq_eq_true hb⟩
    ·exact ⟨List.mem_cons_of_mem _ (defs_mem h).1,(defs_mem h).2⟩
   ·exact ⟨List.mem_cons_of_mem _ (defs_mem h).1,(defs_mem h).2⟩
def TabAll (E:Env) (tab:Tab):Prop:= ∀x∈tab,(x.1 % 8=7→evP E.V x.2≠0→E.V x.1*evP E.V x.2=1)∧(x.1 % 8=6→E.V x.1=evP E.V x.2)
theorem TabAll.inv {E:Env} {tab:Tab} (h:TabAll E tab):TabOk E (invs tab):=fun x hx=>(h x (invs_mem hx).1).1 (invs_mem hx).2
theorem TabAll.defn {E:Env} {tab:Tab} (h:TabAll E tab):NmOk E (defs tab):=fun x hx=>(h x (defs_mem hx).1).2 (defs_mem hx).2
def cfg (tab:Tab) (nf:List Nat) (inf:Inf) (n m:Nat) (v:List Bool) (aw:List Nat) (ex:List (Nat×Leaf)):Cfg:=⟨tys,lfAt (ex++lvs (invs tab) inf n m v aw),fun f=>match nf.any (Nat.beq f) with | true=>defs tab | false=> []⟩
def isTrue (l:List (CO×S)):Bool:=l.all fun p=>kaeq p.1.r (.one (.b true))&&p.1.nb.isNone&&p.1.ro.isEmpty&&p.1.rw.isEmpty
def st0:S:=⟨.nil,[],0,[]⟩
noncomputable def runB (tab:Tab) (nf:List Nat) (inf:Inf) (n m:Nat) (v:List Bool) (aw:List Nat) (ex:List (Nat×Leaf)) (f:Nat) (args:List KA):Bool:=callF Tryz.prog (cfg tab nf inf n m v aw ex) 30 f args st0 isTrue
theorem tys_ok:TyOk Tryz.prog tys:=tyAt_ok (show tabB Tryz.prog tys=true by kernel_rfl)
theorem funs_ok:funsB Tryz.prog=true:=by kernel_rfl
theorem mixed:Tryz.prog.follows .mixedOrders=true:=by kernel_rfl
def ExOk (ex:List (Nat×Leaf)):Prop:= ∀E:Env,DiceEnv E 0→ ∀p∈ex,LfOk Tryz.prog Amb E p.1 p.2
theorem noEx:ExOk []:=fun _ _ p hp=>by cases hp
theorem DiceEnv.zero {E:Env} {n:Nat} (h:DiceEnv E n):DiceEnv E 0:=⟨fun a h=>absurd h (Nat.not_lt_zero a),h.pos,fun a h ha=>absurd ha (Nat.not_lt_zero a),fun a h ha=>absurd ha (Nat.not_lt_zero a),fun a h ha=>absurd ha (Nat.not_lt_zero a)⟩
theorem runs_ok1 {E:Env} {tab:Tab} {nf:List Nat} {inf:Inf} {n m:Nat} {v:List Bool} {aw:List Nat} {ex:List (Nat×Leaf)} (hT:TabAll E tab) (hI:InfOk E inf) (hD:DiceEnv E n) (hM:IntEnv E m) (hv:LightEnv E v) (ha:AwOk aw) (hx: ∀p∈ex,LfOk Tryz.prog Amb E p.1 p.2) {f:Nat} {args:List KA} {C:List (CO×S)→Bool} (h:callF Tryz.prog (cfg tab nf inf n m v aw ex) 30 f args st0 C=true):
  ∃l,C l=true∧ ∃q∈l,Sat E q.2.G∧CallOk Tryz.prog Amb E f args st0 q.1:=by
 obtain ⟨l,h1,h2⟩:=callF_ok (P:=Tryz.prog) (A:=Amb) (E:=E) (cf:=cfg tab nf inf n m v aw ex) mixed funs_ok tys_ok (fun {f lf} hlf=>lfAt_ok (fun p hp=>by
  rcases List.mem_append.1 hp with hp | hp
  ·exact hx p hp
  ·exact lvs_ok hT.inv hI hD hM hv ha p hp) hlf) (fun f=>by
  show NmOk E (match nf.any (Nat.beq f) with | true=>defs tab | false=> [])
  cases nf.any (Nat.beq f) with
  | true=>exact hT.defn
  | false=>exact fun x hx=>by cases hx) 30 f args st0 C h
 obtain ⟨q,hq,hs,_,_,hco⟩:=h2 (fun f hf=>by cases hf)
 exact ⟨l,h1,q,hq,hs,hco⟩
theorem run_ok1 {E:Env} {tab:Tab} {nf:List Nat} {inf:Inf} {n m:Nat} {v:List Bool} {aw:List Nat} {ex:List (Nat×Leaf)} (hT:TabAll E tab) (hI:InfOk E inf) (hD:DiceEnv E n) (hM:IntEnv E m) (hv:LightEnv E v) (ha:AwOk aw) (hx: ∀p∈ex,LfOk Tryz.prog Amb E p.1 p.2) {f:Nat} {args:List KA} (h:runB tab nf inf n m v aw ex f args=true):
  Ctr Tryz.prog Amb f (args.map (aK E)) (.one (.v (.bool true))):=by
 obtain ⟨l,h1,q,hq,_,hco⟩:=runs_ok1 hT hI hD hM hv ha hx h
 have:=List.all_eq_true.1 h1 q hq
 simp only [Bool.and_eq_true,List.isEmpty_iff] at this
 obtain ⟨⟨⟨e1,e2⟩,e3⟩,e4⟩:=this
 have hm:=hco.m (isNone_ok e2)
 rw [e3,e4,kaeq_ok e1] at hm
 exact hm
theorem run_ok {E:Env} {tab:Tab} {nf:List Nat} {inf:Inf} {n m:Nat} {v:List Bool} {aw:List Nat} {ex:List (Nat×Leaf)} (hT:TabAll E tab) (hI:InfOk E inf) (hD:DiceEnv E n) (hM:IntEnv E m) (hv:LightEnv E v) (ha:AwOk aw) (hx:ExOk ex) {f:Nat} {args:List KA} (h:runB tab nf inf n m v aw ex f args=true):
  Ctr Tryz.prog Amb f (args.map (aK E)) (.one (.v (.bool true))):=
 run_ok1 hT hI hD hM hv ha (hx E hD.zero) h
def spnV (L:Nat→List Int) (I:Nat→Int) (c:Nat):Rat:=match c % 4 with
 | 2=>(spanD (L (c/4 % 8)) (posL (L (c/4 % 8)) (c/4/8))).1
 | 3=>(spanD (L (c/4 % 8)) (posL (L (c/4 % 8)) (c/4/8))).2.1
 | _=>intV I c
theorem spnV_lo {L:Nat→List Int} {I:Nat→Int} {a h:Nat} (ha:a<8):spnV L I (32*h+4*a+2)=(spanD (L a) (posL (L a) h)).1:=by
 unfold spnV
 rw [show (32*h+4*a+2) % 4=2 by omega,show (32*h+4*a+2)/4 % 8=a by omega,show (32*h+4*a+2)/4/8=h by omega]
 rfl
theorem spnV_hi {L:Nat→List Int} {I:Nat→Int} {a h:Nat} (ha:a<8):spnV L I (32*h+4*a+3)=(spanD (L a) (posL (L a) h)).2.1:=by
 unfold spnV
 rw [show (32*h+4*a+3) % 4=3 by omega,show (32*h+4*a+3)/4 % 8=a by omega,show (32*h+4*a+3)/4/8=h by omega]
 rfl
theorem spnV_int {L:Nat→List Int} {I:Nat→Int} {c:Nat} (h:c % 4<2):spnV L I c=intV I c:=by
 unfold spnV
 split
 ·omega
 ·omega
 ·rfl
def baseV (L:Nat→List Int) (I:Nat→Int) (v:Nat):Rat:=match Nat.beq (v % 8) 5 with
 | true=>spnV L I (v/8)
 | false=>(numb (L (v % 8)) (posL (L (v % 8)) (v/8))).1
def namedV (a:Nat) (x:Rat):Rat:=match Nat.beq (a % 8) 6 with | true=>x | false=>x⁻¹
def extV (V:Nat→Rat):Tab→Nat→Rat
 | []=>V
 | (a,D)::r=>extV (fun v=>if v=a then namedV a (evP V D) else V v) r
def noA (a:Nat) (p:Poly):Bool:=p.all fun t=>!t.1.any (Nat.beq a)
def tabG:Tab→Bool
 | []=>true
 | (a,D)::r=>(Nat.beq (a % 8) 7 || Nat.beq (a % 8) 6)&&noA a D&&r.all (fun x=>noA x.1 D&&!Nat.beq x.1 a)&&tabG r
theorem evM_congr {V V':Nat→Rat} : ∀ {m:Mono},(∀a∈m,V a=V' a)→evM V m=evM V' m
 | [],_=>rfl
 | a::m,h=>by
   show V a*evM V m=V' a*evM V' m
   rw [h a List.mem_cons_self,evM_congr fun b hb=>h b (List.mem_cons_of_mem _ hb)]
theorem evP_congr {V V':Nat→Rat} : ∀ {p:Poly},(∀t∈p,∀a∈t.1,V a=V' a)→evP V p=evP V' p
 | [],_=>rfl
 | (m,c)::p,h=>by
   show (c:Rat)*evM V m+evP V p=(c:Rat)*evM V' m+evP V' p
   rw [evM_congr (h (m,c) List.mem_cons_self),evP_congr fun t ht=>h t (List.mem_cons_of_mem _ ht)]
theorem noA_ok {a:Nat} {p:Poly} (h:noA a p=true): ∀t∈p,a∉t.1:=fun t ht hm=>by
 have:=List.all_eq_true.1 h t ht
 rw [Bool.not_eq_true'] at this
 have h2:t.1.any (Nat.beq a)=true:=List.any_eq_true.2 ⟨a,hm,by simp⟩
 rw [this] at h2
 cases h2
theorem extV_out: ∀ {tab:Tab} {V:Nat→Rat} {v:Nat},(∀x∈tab,x.1≠v)→extV V tab v=V v
 | [],_,_,_=>rfl
 | (a,D)::r,V,v,h=>by
   show extV (fun v=>if v=a then namedV a (evP V D) else V v) r v=V v
   rw [extV_out fun x hx=>h x (List.mem_cons_of_mem _ hx)]
   exact if_neg fun e=>h (a,D) List.mem_cons_self e.symm
theorem extV_tab: ∀ {tab:Tab} {V:Nat→Rat},tabG tab=true→ ∀x∈tab,(x.1 % 8=7→evP (extV V tab) x.2≠0→extV V tab x.1*evP (extV V tab) x.2=1)∧(x.1 % 8=6→extV V tab x.1=evP (extV V tab) x.2)
 | (a,D)::r,V,h,x,hx=>by
   unfold tabG at h
   simp only [Bool.and_eq_true] at h
   obtain ⟨⟨⟨_,h2⟩,h3⟩,h4⟩:=h
   rcases List.mem_cons.1 hx with rfl | hx
   ·have hr: ∀y∈r,noA y.1 D=true∧y.1≠a:=fun y hy=>by
     have:=List.all_eq_true.1 h3 y hy
     rw [Bool.and_eq_true,Bool.not_eq_true'] at this
     exact ⟨this.1,fun e=>by rw [e] at this;simp at this⟩
    have e1:extV (fun v=>if v=a then namedV a (evP V D) else V v) r a=namedV a (evP V D):=by
     rw [extV_out fun y hy=>(hr y hy).2]
     exact if_pos rfl
    have e2:evP (extV (fun v=>if v=a then namedV a (evP V D) else V v) r) D=evP V D:=evP_congr fun t ht b hb=>by
     rw [extV_out fun y hy=>fun e=>noA_ok (hr y hy).1 t ht (by rw [e];exact hb)]
     exact if_neg fun e=>noA_ok h2 t ht (by rw [←e];exact hb)
    refine ⟨fun h7=>?_,fun h6=>?_⟩
    ·show evP (extV (fun v=>if v=a then namedV a (evP V D) else V v) r) D≠0→extV (fun v=>if v=a then namedV a (evP V D) else V v) r a*evP (extV (fun v=>if v=a then namedV a (evP V D) else V v) r) D=1
     rw [e1,e2]
     intro h0
     have h7:a % 8=7:=h7
     have:namedV a (evP V D)=(evP V D)⁻¹:=by unfold namedV;rw [h7]
     rw [this]
     exact Rat.inv_mul_cancel _ h0
    ·show extV (fun v=>if v=a then namedV a (evP V D) else V v) r a=evP (extV (fun v=>if v=a then namedV a (evP V D) else V v) r) D
     rw [e1,e2]
     have h6:a % 8=6:=h6
     unfold namedV
     rw [h6]
   ·exact extV_tab h4 x hx
theorem tabG_7: ∀ {tab:Tab},tabG tab=true→ ∀x∈tab,x.1 % 8=7∨x.1 % 8=6
 | (a,D)::r,h,x,hx=>by
   unfold tabG at h
   simp only [Bool.and_eq_true] at h
   rcases List.mem_cons.1 hx with rfl | hx
   ·have:=h.1.1.1
    rw [Bool.or_eq_true] at this
    exact this.imp Nat.eq_of_beq_eq_true Nat.eq_of_beq_eq_true
   ·exact tabG_7 h.2 x hx
def envL (tab:Tab) (L:Nat→List Int) (I:Nat→Int):Env:=⟨extV (baseV L I) tab,L,fun a h=>posL (L a) h,I,fun _ _ _=>0⟩
theorem envL_tab {tab:Tab} {L:Nat→List Int} {I:Nat→Int} (h:tabG tab=true):TabAll (envL tab L I) tab:=extV_tab h
theorem envL_dice {tab:Tab} {L:Nat→List Int} {I:Nat→Int} {n:Nat} (h:tabG tab=true) (hn:n≤5) (hb: ∀a,a<n→(∀x∈L a,-9223372036854775808≤x∧x<9223372036854775808)∧(L a).length≤500):DiceEnv (envL tab L I) n:=by
 have h5: ∀c,extV (baseV L I) tab (8*c+5)=spnV L I c:=fun c=>by
  rw [extV_out fun x hx=>fun e=>?_]
  ·show (match Nat.beq ((8*c+5) % 8) 5 with | true=>spnV L I ((8*c+5)/8) | false=>_)=_
   rw [show (8*c+5) % 8=5 by omega,show (8*c+5)/8=c by omega]
  ·have:=tabG_7 h x hx
   omega
 refine ⟨hb,fun a h=>rfl,fun a h' ha=>?_,fun a h' ha=>?_,fun a h' ha=>?_⟩
 ·show extV (baseV L I) tab (8*h'+a)=_
  rw [extV_out fun x hx=>fun e=>?_]
  ·show (match Nat.beq ((8*h'+a) % 8) 5 with | true=>spnV L I ((8*h'+a)/8) | false=>(numb (L ((8*h'+a) % 8)) (posL (L ((8*h'+a) % 8)) ((8*h'+a)/8))).1)=_
   rw [show (8*h'+a) % 8=a by omega,show (8*h'+a)/8=h' by omega,show Nat.beq a 5=false by
    cases hb:Nat.beq a 5 with
    | false=>rfl
    | true=>have:=Nat.eq_of_beq_eq_true hb;omega]
   rfl
  ·have:=tabG_7 h x hx
   omega
 ·show extV (baseV L I) tab (256*h'+32*a+21)=_
  rw [show 256*h'+32*a+21=8*(32*h'+4*a+2)+5 by omega,h5,spnV_lo (by omega)]
  rfl
 ·show extV (baseV L I) tab (256*h'+32*a+29)=_
  rw [show 256*h'+32*a+29=8*(32*h'+4*a+3)+5 by omega,h5,spnV_hi (by omega)]
  rfl
theorem envL_int {tab:Tab} {L:Nat→List Int} {I:Nat→Int} {m:Nat} (h:tabG tab=true) (hb: ∀a,a<m→ -9223372036854775808≤I a∧I a<9223372036854775808):IntEnv (envL tab L I) m:=by
 refine ⟨hb,fun c _ hc=>?_⟩
 show extV (baseV L I) tab (8*c+5)=_
 rw [extV_out fun x hx=>fun e=>?_]
 ·show (match Nat.beq ((8*c+5) % 8) 5 with | true=>spnV L I ((8*c+5)/8) | false=>_)=_
  rw [show (8*c+5) % 8=5 by omega,show (8*c+5)/8=c by omega]
  exact spnV_int hc
 ·have:=tabG_7 h x hx
  omega
def syms:Nat→Nat→List KA
 | _,0=> []
 | a,k+1=> .one (.sym .i64 a)::syms (a+1) k
def intAs (I:Nat→Int):Nat→Nat→List AV
 | _,0=> []
 | a,k+1=> .one (.v (.int .i64 (I a)))::intAs I (a+1) k
theorem syms_ok (E:Env): ∀k a,(syms a k).map (aK E)=intAs E.I a k
 | 0,_=>rfl
 | k+1,a=>by
   show _::_=_::_
   rw [syms_ok E k (a+1)]
   rfl
theorem noInf (E:Env):InfOk E []:=fun h hh=>by cases hh
theorem awake_ex {f:Nat} {ex:List (Nat×Leaf)} (hF:Fun Tryz.prog f) (hx:ExOk ex) (h:runB [] [] [] 0 0 [] [] ex f []=true):AwOk [f]:=fun g hg=>by
 obtain rfl:=List.mem_singleton.1 hg
 exact ⟨hF,run_ok (E:=envL [] (fun _=> []) fun _=>0) (envL_tab rfl) (noInf _) (envL_dice rfl (by decide) fun a h=>absurd h (Nat.not_lt_zero a)) (envL_int (m:=0) rfl fun a h=>absurd h (Nat.not_lt_zero a)) (fun a b h=>by simp at h) (fun f hf=>by cases hf) hx h⟩
end Go.Proofs.YteiibidmicgjoaaGreatDoor
