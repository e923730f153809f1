/-
  Several texts in one: Ff, Fg.
-/
import Derived.Test.YteiibidmicgjoaaGreatDoorFu
namespace Go.Proofs.YteiibidmicgjoaaGreatDoor
open Go.RowKit
set_option linter.unusedVariables false
set_option linter.unusedSimpArgs false
section
variable {P:Program} {X:Ctx} {E:Env} {st:S} {dst:Option Tmp} {typ:TypeId} {pos:String} {af:Array Edge} {gd:Option (Nat×Bool)} {ty:TyT}
theorem rdOk_nil {m:Nat→Nat→C} :rdOk m []:=fun p hp=>by cases hp
theorem alOk_none {z:Nat→Nat} :alOk z none:=fun p hp=>by cases hp
theorem alOk_some {z:Nat→Nat} {id:Nat} {cs:List C} (h:z id=0) (hn:cs≠ []):alOk z (some (id,cs)):=fun p hp=>by
 cases hp
 exact ⟨h,hn⟩
theorem map_ne {cs:List K} (h:cs.isEmpty=false):cs.map (cK E)≠ []:=fun h2=>by
 rw [List.map_eq_nil_iff.1 h2] at h
 cases h
theorem ok_load (hT:TyOk P ty) {t:TypeId} {x:Operand} {e:ES} (hd: ∀t,dst=some t→t<X.n) (h:opE ty st (.load t x)=some e):OpOk P X E st ⟨dst,.load t x,typ,pos,af,gd⟩ e:=by
 replace h:(match tyAt ty t with
  | some i=>(match evK st.sl x with
    | some (.one (.ptr k off))=>(match memG st.mem k with
      | some cs=>cond (Nat.ble (off+i.size) cs.length&&Nat.blt 0 i.size&&(i.agg || Nat.beq i.size 1)) (some ⟨mkK i.agg (subK cs off i.size),[(k,off,subK cs off i.size)],[],none⟩)
      | none=>none)
    | _=>none)
  | none=>none)=some e:=h
 split at h
 ·rename_i i hi
  split at h
  ·rename_i k off hx
   split at h
   ·rename_i cs hcs
    obtain ⟨hc,h⟩:=cond_some h
    cases h
    simp only [Bool.and_eq_true] at hc
    obtain ⟨⟨h1,h2⟩,h3⟩:=hc
    have hle:=Nat.le_of_ble_eq_true h1
    have hsz:=zK_some hcs
    have hr:=rdL_mK (E:=E) hcs i.size off hle
    have hS:=sim_load (P:=P) (X:=X) (dst:=dst) (ty:=typ) (pos:=pos) (af:=af) (gd:=gd) (s:=slK E st.sl) (z:=zK st.mem) (hT:=tiB_tsz (hT hi)) (k:=k) (off:=off) (cs:=(subK cs off i.size).map (cK E)) hd (evK_ok hx) (by rw [←hr];exact rdL_len _ _ _) (by rw [hsz];exact h1) h2 h3
    refine ⟨?_,fun p hp j c hj=>?_,alOk_none⟩
    ·rw [←mkK_ok] at hS
     exact hS
    ·obtain rfl:p=(k,off,(subK cs off i.size).map (cK E)):=by
      have:p∈ [(k,off,(subK cs off i.size).map (cK E))]:=hp
      simpa using this
     have hj:((subK cs off i.size).map (cK E))[j]?=some c:=hj
     rw [←hr] at hj
     have hlt:j<i.size:=by have:=(List.getElem?_eq_some_iff.1 hj).1;rwa [rdL_len] at this
     rw [rdL_get _ _ _ _ hlt] at hj
     exact Option.some.inj hj
   ·cases h
  ·cases h
 ·cases h
theorem ok_store (hT:TyOk P ty) {t:TypeId} {x y:Operand} {e:ES} (hd: ∀t,dst=some t→t<X.n) (h:opE ty st (.store t x y)=some e):OpOk P X E st ⟨dst,.store t x y,typ,pos,af,gd⟩ e:=by
 replace h:(match tyAt ty t with
  | some i=>(match evK st.sl x with
    | some (.one (.ptr k off))=>(match memG st.mem k with
      | some cs=>(match evK st.sl y with
        | some a=>cond (Nat.beq (acK a).length i.size&&(isAggK a || Nat.beq i.size 1)&&Nat.ble (off+i.size) cs.length&&Nat.blt 0 i.size&&(acK a).all nlK) (some ⟨.junk,[],[(k,off,acK a)],none⟩)
        | none=>none)
      | none=>none)
    | _=>none)
  | none=>none)=some e:=h
 split at h
 ·rename_i i hi
  split at h
  ·rename_i k off hx
   split at h
   ·rename_i cs hcs
    split at h
    ·rename_i a ha
     obtain ⟨hc,h⟩:=cond_some h
     cases h
     simp only [Bool.and_eq_true] at hc
     obtain ⟨⟨⟨⟨h1,h2⟩,h3⟩,h4⟩,h5⟩:=hc
     have hS:=sim_store (P:=P) (X:=X) (dst:=dst) (ty:=typ) (pos:=pos) (af:=af) (gd:=gd) (s:=slK E st.sl) (z:=zK st.mem) (hT:=tiB_tsz (hT hi)) (k:=k) (off:=off) hd (evK_ok (E:=E) hx) (evK_ok (E:=E) ha) (by rw [acK_ok,List.length_map];exact h1) (by rw [isAggK_ok];exact h2) (by rw [zK_some hcs];exact h3) h4 (by rw [acK_ok];exact nlKs_ok h5)
     refine ⟨?_,rdOk_nil,alOk_none⟩
     rw [acK_ok] at hS
     exact hS
    ·cases h
   ·cases h
  ·cases h
 ·cases h
theorem ok_alloc (hT:TyOk P ty) {t:TypeId} {e:ES} (hd: ∀t,dst=some t→t<X.n) (h:opE ty st (.alloc t)=some e):OpOk P X E st ⟨dst,.alloc t,typ,pos,af,gd⟩ e:=by
 replace h:(match tyAt ty t with
  | some i=>(match i.zero with
    | some cs=>cond (!cs.isEmpty&&(memG st.mem st.nx).isNone&&cs.all nlK) (some ⟨.one (.ptr st.nx 0),[],[],some (st.nx,cs)⟩)
    | none=>none)
  | none=>none)=some e:=h
 split at h
 ·rename_i i hi
  split at h
  ·rename_i cs hcs
   obtain ⟨hc,h⟩:=cond_some h
   cases h
   simp only [Bool.and_eq_true,Bool.not_eq_true'] at hc
   obtain ⟨⟨h1,h2⟩,h3⟩:=hc
   obtain ⟨z,hZ,hz⟩:=tiB_zero (hT hi) hcs h3 E
   have hS:=sim_alloc (P:=P) (X:=X) (dst:=dst) (ty:=typ) (pos:=pos) (af:=af) (gd:=gd) (s:=slK E st.sl) (z:=zK st.mem) (hZ:=hZ) (id:=st.nx) hd
   rw [hz] at hS
   exact ⟨hS,rdOk_nil,alOk_some (zK_none (isNone_ok h2)) (map_ne h1)⟩
  ·cases h
 ·cases h
theorem ok_box (hT:TyOk P ty) {t:TypeId} {x:Operand} {e:ES} (hd: ∀t,dst=some t→t<X.n) (h:opE ty st (.box t x)=some e):OpOk P X E st ⟨dst,.box t x,typ,pos,af,gd⟩ e:=by
 replace h:(match evK st.sl x with
  | some a=>cond ((isAggK a || Nat.beq (acK a).length 1)&&(acK a).all nlK&&!(acK a).isEmpty&&(memG st.mem st.nx).isNone) (some ⟨.one (.ptr st.nx 0),[],[],some (st.nx,acK a)⟩)
  | none=>none)=some e:=h
 split at h
 ·rename_i a ha
  obtain ⟨hc,h⟩:=cond_some h
  cases h
  simp only [Bool.and_eq_true,Bool.not_eq_true'] at hc
  obtain ⟨⟨⟨h1,h2⟩,h3⟩,h4⟩:=hc
  have hS:=sim_box (P:=P) (X:=X) (dst:=dst) (ty:=typ) (pos:=pos) (af:=af) (gd:=gd) (t:=t) (s:=slK E st.sl) (z:=zK st.mem) (id:=st.nx) hd (evK_ok (E:=E) ha) (by rw [isAggK_ok,acK_ok,List.length_map];exact h1) (by rw [acK_ok];exact nlKs_ok h2)
  rw [acK_ok] at hS
  exact ⟨hS,rdOk_nil,alOk_some (zK_none (isNone_ok h4)) (map_ne h3)⟩
 ·cases h
theorem ok_build (hT:TyOk P ty) {t:TypeId} {parts:Array (Nat×Operand)} {e:ES} (hd: ∀t,dst=some t→t<X.n) (h:opE ty st (.build t parts)=some e):OpOk P X E st ⟨dst,.build t parts,typ,pos,af,gd⟩ e:=by
 replace h:(match tyAt ty t with
  | some i=>(match i.zero with
    | some cs=>(match partsK st.sl parts.toList with
      | some ps=>cond ((ps.all fun p=>(acK p.2).all nlK)&&cs.all nlK) (match i.arr with
        | some (_,_,n)=>(match fillK (fun j=>some (j*n,n)) cs ps with | some l=>pureE (.agg l) | none=>none)
        | none=>cond (!i.flds.isEmpty) (match fillK (fun j=>match i.flds[j]? with | some f=>some (f.1,f.2.2) | none=>none) cs ps with | some l=>pureE (.agg l) | none=>none))
      | none=>none)
    | none=>none)
  | none=>none)=some e:=h
 split at h
 ·rename_i i hi
  split at h
  ·rename_i cs hcs
   split at h
   ·rename_i ps hps
    obtain ⟨hc,h⟩:=cond_some h
    rw [Bool.and_eq_true] at hc
    obtain ⟨z,hZ,hz⟩:=tiB_zero (hT hi) hcs hc.2 E
    have hnl:((ps.map fun p=>(p.1,aK E p.2)).all fun p=>(acells p.2).all nlB)=true:=by
     rw [List.all_map]
     refine List.all_eq_true.2 fun p hp=>?_
     show (acells (aK E p.2)).all nlB=true
     rw [acK_ok]
     exact nlKs_ok (List.all_eq_true.1 hc.1 p hp)
    split at h
    ·rename_i l0 a0 n harr
     split at h
     ·rename_i l hl
      obtain ⟨_,hB⟩:=tiB_arr (hT hi) harr
      have hf:=fillK_ok (E:=E) hl
      rw [←hz] at hf
      exact okP hd h (pure_buildA (hZ:=hZ) (hB:=hB) (partsK_ok hps) hnl hf)
     ·cases h
    ·rename_i harr
     obtain ⟨hn,h⟩:=cond_some h
     split at h
     ·rename_i l hl
      have hB:=tiB_bld (hT hi) harr (by simpa using hn)
      have hf:=fillK_ok (E:=E) hl
      rw [←hz] at hf
      have e1:(fun j:Nat=>match i.flds[j]? with | some f=>some (f.1,f.2.2) | none=>none)=((i.flds.map fun f:Nat×Bool×Nat=>(f.1,f.2.2))[·]?):=by
       funext j
       rw [List.getElem?_map]
       cases i.flds[j]?<;>rfl
      rw [e1] at hf
      exact okP hd h (pure_buildS (hZ:=hZ) (hB:=hB) (partsK_ok hps) hnl hf)
     ·cases h
   ·cases h
  ·cases h
 ·cases h
theorem ok_move {x:Operand} {e:ES} (hd: ∀t,dst=some t→t<X.n) (h:opE ty st (.move x)=some e):OpOk P X E st ⟨dst,.move x,typ,pos,af,gd⟩ e:=by
 replace h:(match evK st.sl x with | some a=>pureE a | none=>none)=some e:=h
 split at h
 ·rename_i a ha;exact okP hd h (pure_move (evK_ok ha))
 ·cases h
theorem ok_assign {x:Operand} {e:ES} (hd: ∀t,dst=some t→t<X.n) (h:opE ty st (.assign x)=some e):OpOk P X E st ⟨dst,.assign x,typ,pos,af,gd⟩ e:=by
 replace h:(match evK st.sl x with | some a=>pureE a | none=>none)=some e:=h
 split at h
 ·rename_i a ha;exact okP hd h (pure_assign (evK_ok ha))
 ·cases h
theorem ok_pick {c x y:Operand} {e:ES} (hd: ∀t,dst=some t→t<X.n) (h:opE ty st (.pick c x y)=some e):OpOk P X E st ⟨dst,.pick c x y,typ,pos,af,gd⟩ e:=by
 replace h:(match evK st.sl c with
  | some (.one (.b true))=>(match evK st.sl x with | some a=>pureE a | none=>none)
  | some (.one (.b false))=>(match evK st.sl y with | some a=>pureE a | none=>none)
  | _=>none)=some e:=h
 split at h
 ·rename_i hc
  split at h
  ·rename_i a ha;exact okP hd h (pure_pickT (evK_ok hc) (evK_ok ha))
  ·cases h
 ·rename_i hc
  split at h
  ·rename_i a ha;exact okP hd h (pure_pickF (evK_ok hc) (evK_ok ha))
  ·cases h
 ·cases h
theorem ok_nilCheck {x:Operand} {e:ES} (hd: ∀t,dst=some t→t<X.n) (h:opE ty st (.nilCheck x)=some e):OpOk P X E st ⟨dst,.nilCheck x,typ,pos,af,gd⟩ e:=by
 replace h:(match evK st.sl x with
  | some (.one (.ptr k off))=>pureE (.one (.ptr k off))
  | some (.one (.fn f caps))=>pureE (.one (.fn f caps))
  | _=>none)=some e:=h
 split at h
 ·rename_i k off hx;exact okP hd h (pure_nilCheck (evK_ok (E:=E) hx))
 ·rename_i f caps hx;exact okP hd h (pure_nilCheckFn (evK_ok (E:=E) hx))
 ·cases h
theorem pure_neqBool {s:Nat→AV} {t u:TypeId} {x y:Operand} {a b:Bool} [h1:BoolT P t] (hx:evC s x= .one (.v (.bool a))) (hy:evC s y= .one (.v (.bool b))):Pure P ⟨dst,.binOp .neq t x y u,typ,pos,af,gd⟩ s (.one (.v (.bool (a !=b)))):=fun W0 μ sz w ρ hρ=>by
 have h:=hρ x (by simp [Op.operands])
 rw [hx] at h
 replace h:ρ x= .bool a:=h
 have h':=hρ y (by simp [Op.operands])
 rw [hy] at h'
 replace h':ρ y= .bool b:=h'
 refine ⟨.bool (a !=b),?_,rfl⟩
 have h3:=run_equalIn_bool' (P:=P) w 9999 t a b h1.ok
 have h4:(binOp .neq t (.bool a) (.bool b)).run P w= .ok (.bool (a !=b)) w:=by
  show (do pure (Value.bool (!(←Op.equal t (.bool a) (.bool b)))):Sem Value).run P w=_
  rw [Sem.run_bind]
  rw [show (Op.equal t (.bool a) (.bool b)).run P w= .ok (a==b) w from h3]
  rfl
 have h5:(eqGuard .neq t x y (.bool a) (.bool b)).run P w= .ok () w:=rfl
 show (do let v←(do eqGuard .neq t x y (ρ x) (ρ y);binOp .neq t (ρ x) (ρ y):Sem Value);pure (Next.value v):Sem Next).run P w=_
 rw [h,h',Sem.run_bind,Sem.run_bind,h5,Result.andThen_ok,h4]
 rfl
theorem tiB_str {t:TypeId} {i:TI} (h:tiB P t i=true) (hf:i.str=true):P.underlying t=some .string:=by
 unfold tiB at h
 rw [hf] at h
 simp only [Bool.and_eq_true,Bool.or_eq_true] at h
 rcases h.2 with h1 | h1
 ·cases h1
 ·split at h1
  ·assumption
  ·cases h1
theorem pure_eqStr {s:Nat→AV} {t u:TypeId} {x y:Operand} {a b:ByteArray} (h1:P.underlying t=some .string) (hx:evC s x= .one (.v (.string a))) (hy:evC s y= .one (.v (.string b))) (hab:a=b):Pure P ⟨dst,.binOp .eql t x y u,typ,pos,af,gd⟩ s (.one (.v (.bool true))):=fun W0 μ sz w ρ hρ=>by
 have h:=hρ x (by simp [Op.operands])
 rw [hx] at h
 replace h:ρ x= .string a:=h
 have h':=hρ y (by simp [Op.operands])
 rw [hy] at h'
 replace h':ρ y= .string b:=h'
 refine ⟨.bool true,?_,rfl⟩
 have h4:(binOp .eql t (.string a) (.string b)).run P w= .ok (.bool true) w:=by
  show (Op.stringOp .eql a b).run P w=_
  rw [hab]
  show Result.ok (Value.bool (b.toList==b.toList)) w=_
  rw [beq_self_eq_true]
 have h5:(eqGuard .eql t x y (.string a) (.string b)).run P w= .ok () w:=rfl
 show (do let v←(do eqGuard .eql t x y (ρ x) (ρ y);binOp .eql t (ρ x) (ρ y):Sem Value);pure (Next.value v):Sem Next).run P w=_
 rw [h,h',Sem.run_bind,Sem.run_bind,h5,Result.andThen_ok,h4]
 rfl
theorem ok_bin (hT:TyOk P ty) {op:BinOp} {t u:TypeId} {x y:Operand} {e:ES} (hd: ∀t,dst=some t→t<X.n) (h:opE ty st (.binOp op t x y u)=some e):OpOk P X E st ⟨dst,.binOp op t x y u,typ,pos,af,gd⟩ e:=by
 replace h:(match evK st.sl x,evK st.sl y with
  | some (.one (.i k a)),some (.one (.i k' b))=>cond (Nat.beq (kindN k) (kindN k')) (match binR op k a b with
    | some v=>(match valK v with | some c=>pureE (.one c) | none=>none)
    | none=>none)
  | some (.one (.str a)),some (.one (.str b))=>(match (generalizing:=false) op with
    | .eql=>(match tyAt ty t with | some i=>cond (i.str&&meq a b) (pureE (.one (.b true))) | none=>none)
    | _=>none)
  | some (.one (.b a)),some (.one (.b b))=>(match (generalizing:=false) op with
    | .eql=>(match tyAt ty t with | some i=>cond i.bool (pureE (.one (.b (a==b)))) | none=>none)
    | .neq=>(match tyAt ty t with | some i=>cond i.bool (pureE (.one (.b (a !=b)))) | none=>none)
    | _=>none)
  | _,_=>none)=some e:=h
 split at h
 ·rename_i k a k' b hx hy
  replace h:=cond_some h
  have hk:=kindN_inj h.1
  subst hk
  replace h:=h.2
  split at h
  ·rename_i v hv
   split at h
   ·rename_i c hvc
    have hp:=pure_bin (P:=P) (dst:=dst) (ty:=typ) (pos:=pos) (af:=af) (gd:=gd) (t:=t) (u:=u) (evK_ok (E:=E) hx) (evK_ok (E:=E) hy) hv
    rw [←valK_ok (E:=E) hvc] at hp
    exact okP hd h hp
   ·cases h
  ·cases h
 ·rename_i a b hx hy
  split at h
  ·split at h
   ·rename_i i hi
    obtain ⟨hc,h⟩:=cond_some h
    rw [Bool.and_eq_true] at hc
    exact okP hd h (pure_eqStr (tiB_str (hT hi) hc.1) (evK_ok (E:=E) hx) (evK_ok (E:=E) hy) (by rw [meq_ok hc.2]))
   ·cases h
  ·cases h
 ·rename_i a b hx hy
  split at h
  ·split at h
   ·rename_i i hi
    obtain ⟨hc,h⟩:=cond_some h
    exact okP hd h (pure_eqBool (h1:=tiB_bool (hT hi) hc) (evK_ok (E:=E) hx) (evK_ok (E:=E) hy))
   ·cases h
  ·split at h
   ·rename_i i hi
    obtain ⟨hc,h⟩:=cond_some h
    exact okP hd h (pure_neqBool (h1:=tiB_bool (hT hi) hc) (evK_ok (E:=E) hx) (evK_ok (E:=E) hy))
   ·cases h
  ·cases h
 ·cases h
theorem ok_un {op:UnOp} {t:TypeId} {x:Operand} {e:ES} (hd: ∀t,dst=some t→t<X.n) (h:opE ty st (.unOp op t x)=some e):OpOk P X E st ⟨dst,.unOp op t x,typ,pos,af,gd⟩ e:=by
 replace h:(match (generalizing:=false) op,evK st.sl x with
  | .not,some (.one (.b a))=>pureE (.one (.b (!a)))
  | .neg,some (.one (.i k n))=>pureE (.one (.i k (k.wrap (0-n))))
  | _,_=>none)=some e:=h
 split at h
 ·rename_i a hx;exact okP hd h (pure_not (evK_ok (E:=E) hx))
 ·rename_i k n hx;exact okP hd h (pure_neg (evK_ok (E:=E) hx))
 ·cases h
theorem ok_convert (hT:TyOk P ty) {t u:TypeId} {x:Operand} {e:ES} (hd: ∀t,dst=some t→t<X.n) (h:opE ty st (.convert t u x)=some e):OpOk P X E st ⟨dst,.convert t u x,typ,pos,af,gd⟩ e:=by
 replace h:(match tyAt ty t,tyAt ty u,evK st.sl x with
  | some i,some j,some (.one (.i k n))=>(match i.int,j.int with
    | some k1,some k2=>cond (Nat.beq (kindN k) (kindN k1)) (pureE (.one (.i k2 (k2.wrap n))))
    | _,_=>none)
  | _,_,_=>none)=some e:=h
 split at h
 ·rename_i i j k n hi hj hx
  split at h
  ·rename_i k1 k2 h1 h2
   replace h:=cond_some h
   have hk:=kindN_inj h.1
   subst hk
   exact okP hd h.2 (pure_convert (h1:=tiB_int (hT hi) h1) (h2:=tiB_int (hT hj) h2) (evK_ok (E:=E) hx))
  ·cases h
 ·cases h
theorem ok_makeFunc {f:Fn} {first capt:Array Operand} {e:ES} (hd: ∀t,dst=some t→t<X.n) (h:opE ty st (.makeFunc f first capt)=some e):OpOk P X E st ⟨dst,.makeFunc f first capt,typ,pos,af,gd⟩ e:=by
 cases f with
 | func f=>
   replace h:(match first.toList with
    | []=>(match evKs st.sl capt.toList with
      | some l=>(match ptrsK l with | some caps=>pureE (.one (.fn f caps)) | none=>none)
      | none=>none)
    | _=>none)=some e:=h
   split at h
   ·rename_i hf
    split at h
    ·rename_i l hl
     split at h
     ·rename_i caps hc
      obtain rfl:first= #[]:=by rw [←Array.toList_eq_nil_iff];exact hf
      exact okP hd h (pure_makeFunc (by rw [evKs_ok (E:=E) hl,ptrsK_ok hc]))
     ·cases h
    ·cases h
   ·cases h
 | _=>cases h
theorem ok_fieldAddr (hT:TyOk P ty) {t:TypeId} {x:Operand} {i:Nat} {e:ES} (hd: ∀t,dst=some t→t<X.n) (h:opE ty st (.fieldAddr t x i)=some e):OpOk P X E st ⟨dst,.fieldAddr t x i,typ,pos,af,gd⟩ e:=by
 replace h:(match tyAt ty t with
  | some ti=>(match ti.flds[i]?,evK st.sl x with
    | some f,some (.one (.ptr k off))=>cond (Nat.blt 0 f.2.2) (pureE (.one (.ptr k (off+f.1))))
    | _,_=>none)
  | none=>none)=some e:=h
 split at h
 ·rename_i ti hi
  split at h
  ·rename_i f k off hf hx
   obtain ⟨hc,h⟩:=cond_some h
   exact okP hd h (pure_fieldAddr (hF:=tiB_fld (hT hi) hf hc) (evK_ok (E:=E) hx))
  ·cases h
 ·cases h
theorem ok_field (hT:TyOk P ty) {t:TypeId} {x:Operand} {i:Nat} {e:ES} (hd: ∀t,dst=some t→t<X.n) (h:opE ty st (.field t x i)=some e):OpOk P X E st ⟨dst,.field t x i,typ,pos,af,gd⟩ e:=by
 replace h:(match tyAt ty t with
  | some ti=>(match ti.flds[i]?,evK st.sl x with
    | some f,some (.agg cs)=>cond (Nat.blt 0 f.2.2&&Nat.ble (f.1+f.2.2) cs.length&&(f.2.1 || Nat.beq f.2.2 1)) (pureE (mkK f.2.1 (subK cs f.1 f.2.2)))
    | _,_=>none)
  | none=>none)=some e:=h
 split at h
 ·rename_i ti hi
  split at h
  ·rename_i f cs hf hx
   obtain ⟨hc,h⟩:=cond_some h
   simp only [Bool.and_eq_true] at hc
   exact okP hd h (pure_field (hF:=tiB_fld (hT hi) hf hc.1.1) (evK_ok (E:=E) hx) (by rw [List.length_map];exact hc.1.2) hc.2 (by rw [mkK_ok,subK_map]))
  ·cases h
 ·cases h
theorem ok_indexAddr (hT:TyOk P ty) {t:TypeId} {x y:Operand} {e:ES} (hd: ∀t,dst=some t→t<X.n) (h:opE ty st (.indexAddr t x y)=some e):OpOk P X E st ⟨dst,.indexAddr t x y,typ,pos,af,gd⟩ e:=by
 replace h:(match tyAt ty t with
  | some ti=>(match ti.arr,evK st.sl x,evK st.sl y with
    | some (len,_,n),some (.one (.ptr k off)),some (.one (.i _ i))=>(match idx i len with
      | some i=>pureE (.one (.ptr k (off+i*n)))
      | none=>none)
    | _,_,_=>none)
  | none=>none)=some e:=h
 split at h
 ·rename_i ti hi
  split at h
  ·rename_i len a n k off ik i harr hx hy
   split at h
   ·rename_i m hm
    obtain ⟨h1,rfl⟩:=idx_ok hm
    exact okP hd h (pure_indexAddr (hF:=(tiB_arr (hT hi) harr).1) (evK_ok (E:=E) hx) (evK_ok (E:=E) hy) h1)
   ·cases h
  ·cases h
 ·cases h
theorem ok_index (hT:TyOk P ty) {t:TypeId} {x y:Operand} {e:ES} (hd: ∀t,dst=some t→t<X.n) (h:opE ty st (.index t x y)=some e):OpOk P X E st ⟨dst,.index t x y,typ,pos,af,gd⟩ e:=by
 replace h:(match tyAt ty t with
  | some ti=>(match ti.arr,evK st.sl x,evK st.sl y with
    | some (len,agg,n),some (.agg cs),some (.one (.i _ i))=>(match idx i len with
      | some i=>cond (Nat.ble (i*n+n) cs.length&&(agg || Nat.beq n 1)) (pureE (mkK agg (subK cs (i*n) n)))
      | none=>none)
    | _,_,_=>none)
  | none=>none)=some e:=h
 split at h
 ·rename_i ti hi
  split at h
  ·rename_i len agg n cs ik i harr hx hy
   split at h
   ·rename_i m hm
    obtain ⟨h1,rfl⟩:=idx_ok hm
    obtain ⟨hc,h⟩:=cond_some h
    simp only [Bool.and_eq_true] at hc
    exact okP hd h (pure_index (hF:=(tiB_arr (hT hi) harr).1) (evK_ok (E:=E) hx) (evK_ok (E:=E) hy) h1 (by rw [List.length_map];exact hc.1) hc.2 (by rw [mkK_ok,subK_map]))
   ·cases h
  ·cases h
 ·cases h
theorem ok_extract {x:Operand} {i:Nat} {e:ES} (hd: ∀t,dst=some t→t<X.n) (h:opE ty st (.extract x i)=some e):OpOk P X E st ⟨dst,.extract x i,typ,pos,af,gd⟩ e:=by
 replace h:(match evK st.sl x with
  | some (.tup l)=>(match l[i]? with
    | some (.tup _)=>none
    | some a=>pureE a
    | none=>none)
  | _=>none)=some e:=h
 split at h
 ·rename_i l hx
  split at h
  ·cases h
  ·rename_i a hne hi
   have:aK E a=aK0 E a:=by cases a<;>first | rfl | exact absurd rfl (hne _)
   exact okP hd h (pure_extract (evK_ok (E:=E) hx) (by rw [List.getElem?_map,hi,this];rfl))
  ·cases h
 ·cases h
theorem ok_max {args:Array Operand} {ts:Array TypeId} {e:ES} (hd: ∀t,dst=some t→t<X.n) (h:opE ty st (.call ⟨.builtin .max,args,ts⟩)=some e):OpOk P X E st ⟨dst,.call ⟨.builtin .max,args,ts⟩,typ,pos,af,gd⟩ e:=by
 replace h:(match evKs st.sl args.toList with
  | some [.one (.i k a),.one (.i k' b)]=>pureE (.one (.i k (match decide (a<b) with | true=>b | false=>a)))
  | _=>none)=some e:=h
 split at h
 ·rename_i k a k' b hx
  obtain ⟨al,rfl⟩: ∃al:List Operand,args=al.toArray:=⟨args.toList,by simp⟩
  have hx:=evKs_ok (E:=E) hx
  match al,hx with
  | [x,y],hx=>
    simp only [List.map_cons,List.map_nil,List.cons.injEq] at hx
    have:=pure_max (P:=P) (dst:=dst) (ty:=typ) (pos:=pos) (af:=af) (gd:=gd) (ts:=ts) hx.1 hx.2.1
    refine okP hd h ?_
    have e1:(match decide (a<b) with | true=>b | false=>a)=if a<b then b else a:=by
     by_cases hab:a<b
     ·rw [decide_eq_true hab,if_pos hab]
     ·rw [decide_eq_false hab,if_neg hab]
    rw [e1]
    exact this
  | [],hx=>simp at hx
  | [_],hx=>simp at hx
  | _::_::_::_,hx=>simp at hx
 ·cases h
theorem ok_min {args:Array Operand} {ts:Array TypeId} {e:ES} (hd: ∀t,dst=some t→t<X.n) (h:opE ty st (.call ⟨.builtin .min,args,ts⟩)=some e):OpOk P X E st ⟨dst,.call ⟨.builtin .min,args,ts⟩,typ,pos,af,gd⟩ e:=by
 replace h:(match evKs st.sl args.toList with
  | some [.one (.i k a),.one (.i k' b)]=>pureE (.one (.i k (match decide (b<a) with | true=>b | false=>a)))
  | _=>none)=some e:=h
 split at h
 ·rename_i k a k' b hx
  obtain ⟨al,rfl⟩: ∃al:List Operand,args=al.toArray:=⟨args.toList,by simp⟩
  have hx:=evKs_ok (E:=E) hx
  match al,hx with
  | [x,y],hx=>
    simp only [List.map_cons,List.map_nil,List.cons.injEq] at hx
    have:=pure_min (P:=P) (dst:=dst) (ty:=typ) (pos:=pos) (af:=af) (gd:=gd) (ts:=ts) hx.1 hx.2.1
    refine okP hd h ?_
    have e1:(match decide (b<a) with | true=>b | false=>a)=if b<a then b else a:=by
     by_cases hab:b<a
     ·rw [decide_eq_true hab,if_pos hab]
     ·rw [decide_eq_false hab,if_neg hab]
    rw [e1]
    exact this
  | [],hx=>simp at hx
  | [_],hx=>simp at hx
  | _::_::_::_,hx=>simp at hx
 ·cases h
theorem ok_op (hT:TyOk P ty) {op:Op} {e:ES} (hd: ∀t,dst=some t→t<X.n) (h:opE ty st op=some e):OpOk P X E st ⟨dst,op,typ,pos,af,gd⟩ e:=by
 cases op with
 | move x=>exact ok_move hd h
 | assign x=>exact ok_assign hd h
 | pick c x y=>exact ok_pick hd h
 | alloc t=>exact ok_alloc hT hd h
 | box t x=>exact ok_box hT hd h
 | build t ps=>exact ok_build hT hd h
 | load t x=>exact ok_load hT hd h
 | store t x y=>exact ok_store hT hd h
 | nilCheck x=>exact ok_nilCheck hd h
 | binOp op t x y u=>exact ok_bin hT hd h
 | unOp op t x=>exact ok_un hd h
 | convert t u x=>exact ok_convert hT hd h
 | makeFunc f a b=>exact ok_makeFunc hd h
 | fieldAddr t x i=>exact ok_fieldAddr hT hd h
 | field t x i=>exact ok_field hT hd h
 | indexAddr t x y=>exact ok_indexAddr hT hd h
 | index t x y=>exact ok_index hT hd h
 | extract x i=>exact ok_extract hd h
 | call c=>
   obtain ⟨callee,args,ts⟩:=c
   cases callee with
   | builtin b=>
     cases b with
     | max=>exact ok_max hd h
     | min=>exact ok_min hd h
     | _=>cases h
   | _=>cases h
 | _=>cases h
end
end Go.Proofs.YteiibidmicgjoaaGreatDoor
namespace Go.Proofs.YteiibidmicgjoaaGreatDoor
open Go.RowKit
set_option linter.unusedVariables false
set_option linter.unusedSimpArgs false
def WSt (E:Env) (σ:St) (st:S):Prop:=(∀t,Le (σ.s t) (slK E st.sl t))∧mK E st.mem=σ.m∧zK st.mem=σ.sz
def Snd (E:Env) {α β:Type} (f:α→S→Outs β) (R:α→S→β→S→Prop):Prop:= ∀a st C,f a st C=true→ ∃l,C l=true∧(Sat E st.G→ ∃q∈l,Sat E q.2.G∧R a st q.1 q.2)
theorem mapK_snd {E:Env} {α β:Type} {f:α→S→Outs β} {R:α→S→β→S→Prop} (h:Snd E f R): ∀(l:List (α×S)) (C:List (β×S)→Bool),mapK f l C=true→ ∃l',C l'=true∧ ∀p∈l,Sat E p.2.G→ ∃q∈l',Sat E q.2.G∧R p.1 p.2 q.1 q.2
 | [],C,hC=>⟨[],hC,fun p hp=>by cases hp⟩
 | (a,st)::r,C,hC=>by
   cases r with
   | nil=>
     have hC:f a st C=true:=hC
     obtain ⟨l,h1,h2⟩:=h a st C hC
     exact ⟨l,h1,fun p hp hs=>by
      obtain rfl:=List.mem_singleton.1 hp
      exact h2 hs⟩
   | cons b r=>
     have hC:f a st (fun x=>mapK f (b::r) fun y=>C (x++y))=true:=hC
     obtain ⟨x,h1,h2⟩:=h a st _ hC
     obtain ⟨y,h3,h4⟩:=mapK_snd h (b::r) _ h1
     refine ⟨x++y,h3,fun p hp hs=>?_⟩
     rcases List.mem_cons.1 hp with rfl | hp
     ·obtain ⟨q,hq,hh⟩:=h2 hs
      exact ⟨q,List.mem_append.2 (.inl hq),hh⟩
     ·obtain ⟨q,hq,hh⟩:=h4 p hp hs
      exact ⟨q,List.mem_append.2 (.inr hq),hh⟩
theorem memG_cons (k:Nat) (cs:List K) (m:List (Nat×List K)) (k':Nat):memG ((k,cs)::m) k'=if k'=k then some cs else memG m k':=by
 show (match Nat.beq k k' with | true=>some cs | false=>memG m k')=_
 cases hb:Nat.beq k k' with
 | true=>rw [if_pos (Nat.eq_of_beq_eq_true hb).symm]
 | false=>rw [if_neg (fun h=>by subst h;simp at hb)]
theorem upd_apply {α:Type} (f:Nat→α) (k:Nat) (a:α) (t:Nat):upd f k a t=if t=k then a else f t:=by
 by_cases h:t=k
 ·subst h;rw [upd_self,if_pos rfl]
 ·rw [upd_ne h,if_neg h]
def cellAt (E:Env) (cs:List K) (o:Nat):C:=match cs[o]? with | some c=>cK E c | none=> .v (.bool false)
theorem cellAt_eq (E:Env) (cs:List K) (o:Nat):cellAt E cs o=((cs.map (cK E))[o]?).getD (.v (.bool false)):=by
 unfold cellAt
 rw [List.getElem?_map]
 cases cs[o]?<;>rfl
theorem mK_at {E:Env} {m:List (Nat×List K)} {k o:Nat} {cs:List K} (h:memG m k=some cs):mK E m k o=cellAt E cs o:=by unfold mK cellAt;simp only [h];rfl
theorem mK_no {E:Env} {m:List (Nat×List K)} {k o:Nat} (h:memG m k=none):mK E m k o= .v (.bool false):=by unfold mK;simp only [h]
theorem mK_same {E:Env} {m m':List (Nat×List K)} {k o:Nat} (h:memG m k=memG m' k):mK E m k o=mK E m' k o:=by unfold mK;rw [h]
theorem zK_same {m m':List (Nat×List K)} {k:Nat} (h:memG m k=memG m' k):zK m k=zK m' k:=by unfold zK;rw [h]
theorem wrS_ok {E:Env} : ∀ {l:List (Nat×Nat×List K)} {m m':List (Nat×List K)},wrS m l=some m'→mK E m'=wrM (mK E m) (l.map (rK E))∧zK m'=zK m
 | [],m,m',h=>by cases h;exact ⟨rfl,rfl⟩
 | (k,off,cs)::r,m,m',h=>by
   unfold wrS at h
   split at h
   ·rename_i c hc
    split at h
    ·rename_i hb
     have hle:=Nat.le_of_ble_eq_true hb
     obtain ⟨h1,h2⟩:=wrS_ok (E:=E) h
     refine ⟨?_,?_⟩
     ·rw [h1]
      show wrM (mK E (memS m k (layK c off cs))) (r.map (rK E))=wrM (upd (mK E m) k (laid (mK E m k) off (cs.map (cK E)))) (r.map (rK E))
      congr 1
      funext k' o
      rw [upd_apply]
      by_cases hk:k'=k
      ·subst hk
       rw [if_pos rfl,laid_eq,mK_at hc,mK_at (by rw [memG_memS,if_pos rfl]),cellAt_eq,cellAt_eq]
       simp only [List.getElem?_map,layK_get cs c off o hle]
       by_cases ho:off≤o
       ·by_cases ho2:o<off+cs.length
        ·rw [if_pos ⟨ho,ho2⟩,if_pos ho,List.getElem?_eq_getElem (show o-off<cs.length by omega)]
         rfl
        ·rw [if_neg (fun h=>ho2 h.2),if_pos ho,List.getElem?_eq_none (show cs.length≤o-off by omega)]
         rfl
       ·rw [if_neg (fun h=>ho h.1),if_neg ho]
        rfl
      ·rw [if_neg hk]
       exact mK_same (by rw [memG_memS,if_neg hk])
     ·rw [h2]
      funext k'
      by_cases hk:k'=k
      ·subst hk
       rw [zK_some hc,zK_some (show memG (memS m k' (layK c off cs)) k'=some (layK c off cs) by rw [memG_memS,if_pos rfl])]
       exact layK_len _ _ _
      ·exact zK_same (by rw [memG_memS,if_neg hk])
    ·cases h
   ·cases h
theorem newS_ok {E:Env} {m m':List (Nat×List K)} {al:Option (Nat×List K)} (h:newS m al=some m'):mK E m'=wrM (mK E m) (alR (al.map fun p=>(p.1,p.2.map (cK E))))∧zK m'=alZ (zK m) (al.map fun p=>(p.1,p.2.map (cK E))):=by
 cases al with
 | none=>cases h;exact ⟨rfl,rfl⟩
 | some p=>
   obtain ⟨k,cs⟩:=p
   have h:(match memG m k with | none=>some ((k,cs)::m) | some _=>none)=some m':=h
   split at h
   ·rename_i hn
    cases h
    refine ⟨?_,?_⟩
    ·show mK E ((k,cs)::m)=upd (mK E m) k (laid (mK E m k) 0 (cs.map (cK E)))
     funext k' o
     rw [upd_apply]
     by_cases hk:k'=k
     ·subst hk
      rw [if_pos rfl,laid_eq,if_pos (Nat.zero_le o),Nat.sub_zero,mK_no hn,mK_at (by rw [memG_cons,if_pos rfl]),cellAt_eq]
     ·rw [if_neg hk]
      exact mK_same (by rw [memG_cons,if_neg hk])
    ·show zK ((k,cs)::m)=upd (zK m) k (cs.map (cK E)).length
     funext k'
     rw [upd_apply]
     by_cases hk:k'=k
     ·subst hk
      rw [if_pos rfl,zK_some (show memG ((k',cs)::m) k'=some cs by rw [memG_cons,if_pos rfl]),List.length_map]
     ·rw [if_neg hk]
      exact zK_same (by rw [memG_cons,if_neg hk])
   ·cases h
theorem appS_ok {E:Env} {st:S} {d:Option Nat} {e:ES} {C:S→Bool} (h:appS st d e C=true): ∃st',C st'=true∧st'.G=st.G∧ ∀σ,WSt E σ st→WSt E (σ.app d (eK E e)) st':=by
 unfold appS at h
 split at h
 ·cases h
 ·rename_i m hm
  split at h
  ·cases h
  ·rename_i m2 hm2
   rw [natK_eq] at h
   obtain ⟨h1,h2⟩:=wrS_ok (E:=E) hm
   obtain ⟨h3,h4⟩:=newS_ok (E:=E) hm2
   have key: ∀σ:St,WSt E σ st→mK E m2=wrM σ.m (eK E e).W∧zK m2=alZ σ.sz (eK E e).al:=fun σ hσ=>by
    rw [←hσ.2.1,←hσ.2.2,h3,h4,h1,h2]
    refine ⟨?_,rfl⟩
    show _=wrM (mK E st.mem) (e.wr.map (rK E)++alR (e.al.map fun p=>(p.1,p.2.map (cK E))))
    rw [wrM_app]
   split at h
   ·rename_i t
    obtain ⟨sl',hC,hg⟩:=T.set_spec 20 st.sl t e.out
    rw [hC] at h
    refine ⟨_,h,rfl,fun σ hσ=>⟨fun t'=>?_,(key σ hσ).1,(key σ hσ).2⟩⟩
    show Le (putS σ.s (some t) (aK E e.out) t') (slK E sl' t')
    rw [putS_id]
    unfold slK
    rw [hg]
    by_cases ht:t'=t
    ·subst ht
     rw [if_pos rfl,if_pos rfl]
     exact .inl rfl
    ·rw [if_neg (by simpa using fun h=>ht h.symm),if_neg ht]
     exact hσ.1 t'
   ·refine ⟨_,h,rfl,fun σ hσ=>⟨fun t'=>?_,(key σ hσ).1,(key σ hσ).2⟩⟩
    exact hσ.1 t'
def rngC (p:Nat×Nat×List C):Rng:=(p.1,p.2.1,p.2.2.length)
def shpC (e:Eff):Shp:=⟨e.rd.map rngC,e.W.map rngC,e.al.map (·.1)⟩
theorem shpK_ok (E:Env) (e:ES):shpC (eK E e)=shpK e:=by
 obtain ⟨out,rd,wr,al⟩:=e
 unfold shpC shpK eK Eff.W
 have h1: ∀l:List (Nat×Nat×List K),(l.map (rK E)).map rngC=l.map rngK:=fun l=>by
  rw [List.map_map]
  refine List.map_congr_left fun p _=>?_
  show (p.1,p.2.1,(p.2.2.map (cK E)).length)=(p.1,p.2.1,p.2.2.length)
  rw [List.length_map]
 simp only [h1,List.map_append]
 cases al with
 | none=>rfl
 | some p=>
   show Shp.mk _ (_++ [(p.1,0,(p.2.map (cK E)).length)]) _=_
   rw [List.length_map]
   rfl
theorem clashS_ok (l:List Oper) (x:Oper) (ex:Eff) (y:Oper) (ey:Eff):clashS l x (shpC ex) y (shpC ey)=clash l x ex y ey:=by
 unfold clashS clash shpC
 simp only
 congr 1
 rw [List.any_map]
 congr 1
 funext p
 show ((ey.rd.map rngC++ey.W.map rngC).any (ovS (rngC p)))=_
 rw [←List.map_append,List.any_map]
 rfl
theorem apartS_ok (ex ey:Eff):apartS (shpC ex) (shpC ey)=alApart ex ey:=by
 unfold apartS alApart shpC
 cases ex.al with
 | none=>rfl
 | some p=>
   cases ey.al with
   | none=>rfl
   | some q=>
     show (!Nat.beq p.1 q.1)=decide (p.1≠q.1)
     cases hb:Nat.beq p.1 q.1 with
     | true=>have h:=Nat.eq_of_beq_eq_true hb;simp [h]
     | false=>have h:p.1≠q.1:=(fun h=>by rw [h] at hb;simp at hb);simp [h]
theorem rowS_ok (l:List Oper) (m:Nat) (y:Oper) (ey:Eff): ∀(j:Nat) (xs:List Oper) (es:List Eff),rowS l m y (shpC ey) j xs (es.map shpC)=chkRow l m y ey j xs es
 | _,[],_=>by unfold rowS chkRow;rfl
 | _,_::_,[]=>rfl
 | j,x::xs,e::es=>by
   show ((m.testBit j || !(clashS l x (shpC e) y (shpC ey) || clashS l y (shpC ey) x (shpC e)))&&apartS (shpC e) (shpC ey)&&rowS l m y (shpC ey) (j+1) xs (es.map shpC))=_
   rw [clashS_ok,clashS_ok,apartS_ok,rowS_ok l m y ey (j+1) xs es]
   rfl
theorem chkS_ok (l:List Oper) (es:List Eff):chkS l (es.map shpC)=chk l es:=by
 unfold chkS chk
 simp only
 congr 1
 funext i
 rw [List.getElem?_map]
 cases l[i]? with
 | none=>rfl
 | some y=>
   cases es[i]? with
   | none=>rfl
   | some e=>
     show rowS l _ y (shpC e) 0 (l.take i) ((es.map shpC).take i)=chkRow l _ y e 0 (l.take i) (es.take i)
     rw [←List.map_take,rowS_ok]
structure CallOk (P:Program) (A:World→Prop) (E:Env) (f:Nat) (args:List KA) (st:S) (co:CO):Prop where
 fn:Fun P f
 m:co.nb=none→CtrM P A f (args.map (aK E)) (co.ro.map (fun p=>(p.1,p.2.map (cK E),p.2.map (cK E)))++co.rw.map fun p=>(p.1,p.2.1.map (cK E),p.2.2.map (cK E))) (aK E co.r)
 n: ∀cs,co.nb=some cs→CtrN P A f (args.map (aK E)) (cs.map (cK E))
 ro: ∀p∈co.ro,memG st.mem p.1=some p.2
 rw: ∀p∈co.rw,memG st.mem p.1=some p.2.1
def CallerOk (P:Program) (A:World→Prop) (E:Env) (call:Caller):Prop:= ∀f,Snd E (call f) fun args st co st'=>st'.sl=st.sl∧st'.mem=st.mem∧CallOk P A E f args st co
theorem isPtrK_ok (E:Env) (k:Nat) (a:KA):isPtr k (aK E a)=isPtrK k a:=by
 cases a with
 | one c=>cases c<;>rfl
 | _=>rfl
theorem nodupB_ok: ∀ {l:List Nat},nodupB l=true→l.Nodup
 | [],_=> .nil
 | a::l,h=>by
   unfold nodupB at h
   rw [Bool.and_eq_true,Bool.not_eq_true'] at h
   refine List.nodup_cons.2 ⟨fun hm=>?_,nodupB_ok h.2⟩
   have:l.any (Nat.beq a)=true:=List.any_eq_true.2 ⟨a,hm,by simp⟩
   rw [h.1] at this
   cases this
section
variable {P:Program} {A:World→Prop} {X:Ctx} {E:Env} {st:S} {dst:Option Tmp} {typ:TypeId} {pos:String} {af:Array Edge} {gd:Option (Nat×Bool)} {ty:TyT}
theorem rdOk_of {m:List (Nat×List K)} {l:List (Nat×List K)} (h: ∀p∈l,memG m p.1=some p.2): ∀p∈l.map (fun p:Nat×List K=>(p.1,0,p.2.map (cK E))),∀(i:Nat) c,p.2.2[i]?=some c→mK E m p.1 (p.2.1+i)=c:=fun p hp i c hi=>by
 obtain ⟨q,hq,rfl⟩:=List.mem_map.1 hp
 have hi:(q.2.map (cK E))[i]?=some c:=hi
 rw [List.getElem?_map,Option.map_eq_some_iff] at hi
 obtain ⟨k,hk,rfl⟩:=hi
 show mK E m q.1 (0+i)=cK E k
 rw [Nat.zero_add]
 exact mK_some (h q hq) hk
theorem ok_call (hA:A X.W0) {fx:Operand} {args:Array Operand} {ts:Array TypeId} {f:FuncId} {caps:List (Nat×Nat)} {as:List KA} {co:CO} {e:ES} (hd: ∀t,dst=some t→t<X.n) (hf:evK st.sl fx=some (.one (.fn f caps))) (has:evKs st.sl args.toList=some as)
  (hco:CallOk P A E f (as++caps.map fun p:Nat×Nat=>KA.one (.ptr p.1 p.2)) st co) (hcp:(co.nb.isSome&&!caps.isEmpty)=false) (he:coE st (as++caps.map fun p:Nat×Nat=>KA.one (.ptr p.1 p.2)) co=some e):OpOk P X E st ⟨dst,.call ⟨.value fx,args,ts⟩,typ,pos,af,gd⟩ e:=by
 haveI:=hco.fn
 have hcl:calleeOf (slK E st.sl) (.value fx)=some (f,caps.map fun p:Nat×Nat=>AV.one (.ptr p.1 p.2)):=by
  show (match evC (slK E st.sl) fx with | .one (.fn f caps)=>some (f,caps.map fun p:Nat×Nat=>AV.one (.ptr p.1 p.2)) | _=>none)=_
  rw [evK_ok (E:=E) hf]
  rfl
 have hargs:args.toList.map (evC (slK E st.sl))++(caps.map fun p:Nat×Nat=>AV.one (.ptr p.1 p.2))=(as++caps.map fun p:Nat×Nat=>KA.one (.ptr p.1 p.2)).map (aK E):=by
  rw [evKs_ok (E:=E) has,List.map_append,List.map_map]
  rfl
 have hcs: ∀cs,co.nb=some cs→caps= []:=fun cs h=>by
  rw [h] at hcp
  cases caps with
  | nil=>rfl
  | cons _ _=>cases hcp
 generalize (as++caps.map fun p:Nat×Nat=>KA.one (.ptr p.1 p.2))=as' at hco he hargs
 unfold coE at he
 cases hnb:co.nb with
 | none=>
   rw [hnb] at he
   replace he:=cond_some he
   obtain ⟨hc,he⟩:=he
   cases he
   simp only [Bool.and_eq_true] at hc
   obtain ⟨⟨⟨h1,h2⟩,h3⟩,h4⟩:=hc
   have hM:=hco.m hnb
   have e1:co.ro.map (fun p=>(p.1,p.2.map (cK E),p.2.map (cK E)))=(co.ro.map fun p:Nat×List K=>(p.1,p.2.map (cK E))).map fun p=>(p.1,p.2,p.2):=by rw [List.map_map];rfl
   rw [e1] at hM
   have hS:=sim_call (P:=P) (X:=X) (dst:=dst) (ty:=typ) (pos:=pos) (af:=af) (gd:=gd) (s:=slK E st.sl) (z:=zK st.mem) hA (c:=⟨.value fx,args,ts⟩) (f:=f) (as:=as'.map (aK E)) (ro:=co.ro.map fun p:Nat×List K=>(p.1,p.2.map (cK E))) (rw:=co.rw.map fun p:Nat×List K×List K=>(p.1,p.2.1.map (cK E),p.2.2.map (cK E))) (R:=aK E co.r) hd hcl hargs hM ?_ ?_ ?_ ?_
   ·refine ⟨?_,?_,alOk_none⟩
    ·have e2:eK E ⟨co.r,co.ro.map (fun p=>(p.1,0,p.2))++co.rw.map (fun p=>(p.1,0,p.2.1)),co.rw.map (fun p=>(p.1,0,p.2.2)),none⟩=Eff.mk (aK E co.r) ((co.ro.map fun p:Nat×List K=>(p.1,p.2.map (cK E))).map (fun p:Nat×List C=>(p.1,0,p.2))++(co.rw.map fun p:Nat×List K×List K=>(p.1,p.2.1.map (cK E),p.2.2.map (cK E))).map (fun p:Nat×List C×List C=>(p.1,0,p.2.1))) ((co.rw.map fun p:Nat×List K×List K=>(p.1,p.2.1.map (cK E),p.2.2.map (cK E))).map (fun p:Nat×List C×List C=>(p.1,0,p.2.2))) none:=by
      unfold eK
      simp only [List.map_append,List.map_map]
      rfl
     rw [e2]
     exact hS
    ·intro p hp
     have hp:p∈(co.ro.map (fun p:Nat×List K=>(p.1,0,p.2))++co.rw.map (fun p:Nat×List K×List K=>(p.1,0,p.2.1))).map (rK E):=hp
     rw [List.map_append,List.map_map,List.map_map] at hp
     rcases List.mem_append.1 hp with h | h
     ·exact rdOk_of (E:=E) hco.ro p h
     ·refine rdOk_of (E:=E) (l:=co.rw.map fun p:Nat×List K×List K=>(p.1,p.2.1)) (fun q hq=>?_) p ?_
      ·obtain ⟨r,hr,rfl⟩:=List.mem_map.1 hq
       exact hco.rw r hr
      ·rw [List.map_map];exact h
   ·rw [List.all_map]
    refine List.all_eq_true.2 fun p hp=>?_
    have h5:=List.all_eq_true.1 h3 p hp
    show (Nat.beq (zK st.mem p.1) (p.2.map (cK E)).length&&Nat.blt 0 (p.2.map (cK E)).length&&Nat.beq (p.2.map (cK E)).length (p.2.map (cK E)).length)=true
    rw [zK_some (hco.ro p hp),List.length_map]
    have:0<p.2.length:=by
     cases hh:p.2 with
     | nil=>rw [hh] at h5;cases h5
     | cons _ _=>simp
    simp [this]
   ·rw [List.all_map]
    refine List.all_eq_true.2 fun p hp=>?_
    have h5:=List.all_eq_true.1 h4 p hp
    simp only [Bool.and_eq_true,Nat.beq_eq] at h5
    show (Nat.beq (zK st.mem p.1) (p.2.1.map (cK E)).length&&Nat.blt 0 (p.2.1.map (cK E)).length&&Nat.beq (p.2.2.map (cK E)).length (p.2.1.map (cK E)).length)=true
    rw [zK_some (hco.rw p hp),List.length_map,List.length_map,h5.2]
    have:0<p.2.1.length:=by
     cases hh:p.2.1 with
     | nil=>rw [hh] at h5;cases h5.1
     | cons _ _=>simp
    simp [this]
   ·rw [List.map_map,List.map_map]
    exact nodupB_ok h1
   ·rw [List.map_map,List.map_map]
    refine List.all_eq_true.2 fun k hk=>?_
    have h6:=List.all_eq_true.1 h2 k hk
    rw [List.any_map]
    obtain ⟨a,ha,hp⟩:=List.any_eq_true.1 h6
    exact List.any_eq_true.2 ⟨a,ha,by show isPtr k (aK E a)=true;rw [isPtrK_ok];exact hp⟩
 | some cs=>
   rw [hnb] at he
   replace he:=cond_some he
   obtain ⟨hc,he⟩:=he
   cases he
   simp only [Bool.and_eq_true,Bool.not_eq_true'] at hc
   obtain ⟨⟨h1,h2⟩,h3⟩:=hc
   have hN:=hco.n cs hnb
   obtain rfl:=hcs cs hnb
   simp only [List.map_nil,List.append_nil] at hargs
   have hS:=sim_callN (P:=P) (X:=X) (dst:=dst) (ty:=typ) (pos:=pos) (af:=af) (gd:=gd) (s:=slK E st.sl) (z:=zK st.mem) (d:=st.nx) hA (c:=⟨.value fx,args,ts⟩) (f:=f) hd hcl hargs hN (nlKs_ok h2)
   exact ⟨hS,rdOk_nil,alOk_some (zK_none (isNone_ok h3)) (map_ne h1)⟩
theorem opRun_ok {call:Caller} (hT:TyOk P ty) (hC:CallerOk P A E call) {o:Op} {C:List (ES×S)→Bool} (h:opRun ty call st o C=true):
  ∃l,C l=true∧(Sat E st.G→ ∃q∈l,Sat E q.2.G∧q.2.sl=st.sl∧q.2.mem=st.mem∧
   ∀(X:Ctx) (dst:Option Tmp) (typ:TypeId) (pos:String) (af:Array Edge) (gd:Option (Nat×Bool)),A X.W0→(∀t,dst=some t→t<X.n)→OpOk P X E q.2 ⟨dst,o,typ,pos,af,gd⟩ q.1):=by
 have plain:(match opE ty st o with | some e=>C [(e,st)] | none=>false)=true→ ∃l,C l=true∧(Sat E st.G→ ∃q∈l,Sat E q.2.G∧q.2.sl=st.sl∧q.2.mem=st.mem∧
   ∀(X:Ctx) (dst:Option Tmp) (typ:TypeId) (pos:String) (af:Array Edge) (gd:Option (Nat×Bool)),A X.W0→(∀t,dst=some t→t<X.n)→OpOk P X E q.2 ⟨dst,o,typ,pos,af,gd⟩ q.1):=fun h=>by
  split at h
  ·rename_i e he
   exact ⟨_,h,fun hs=>⟨(e,st),List.mem_singleton.2 rfl,hs,rfl,rfl,fun X dst typ pos af gd _ hd=>ok_op hT hd he⟩⟩
  ·cases h
 cases o with
 | call c=>
   obtain ⟨callee,args,ts⟩:=c
   cases callee with
   | value fx=>
     have h:(match evK st.sl fx,evKs st.sl args.toList with
      | some (.one (.fn f caps)),some as=>
        call f (as++caps.map fun p:Nat×Nat=>KA.one (.ptr p.1 p.2)) st fun l=>mapK (fun co st' C=>match coE st' (as++caps.map fun p:Nat×Nat=>KA.one (.ptr p.1 p.2)) co with | some e=>(match co.nb.isSome&&!caps.isEmpty with | true=>false | false=>C [(e,st')]) | none=>false) l C
      | _,_=>false)=true:=h
     split at h
     ·rename_i f caps as hf has
      obtain ⟨l,h1,h2⟩:=hC f _ _ _ h
      have hg:Snd E (fun (co:CO) st' (C:List (ES×S)→Bool)=>match coE st' (as++caps.map fun p:Nat×Nat=>KA.one (.ptr p.1 p.2)) co with | some e=>(match co.nb.isSome&&!caps.isEmpty with | true=>false | false=>C [(e,st')]) | none=>false)
        fun co st' e st''=>st''=st'∧coE st' (as++caps.map fun p:Nat×Nat=>KA.one (.ptr p.1 p.2)) co=some e∧(co.nb.isSome&&!caps.isEmpty)=false:=fun co st' C h=>by
       simp only at h
       split at h
       ·rename_i e he
        split at h
        ·cases h
        ·rename_i hn
         exact ⟨_,h,fun hs=>⟨(e,st'),List.mem_singleton.2 rfl,hs,rfl,he,hn⟩⟩
       ·cases h
      obtain ⟨l',h3,h4⟩:=mapK_snd hg l C h1
      refine ⟨l',h3,fun hs=>?_⟩
      obtain ⟨q,hq,hsq,e1,e2,hco⟩:=h2 hs
      obtain ⟨r,hr,hsr,e3,he,hn⟩:=h4 q hq hsq
      refine ⟨r,hr,hsr,by rw [e3,e1],by rw [e3,e2],fun X dst typ pos af gd hA hd=>?_⟩
      have hco':CallOk P A E f (as++caps.map fun p:Nat×Nat=>KA.one (.ptr p.1 p.2)) q.2 q.1:=⟨hco.fn,hco.m,hco.n,fun p hp=>by rw [e2];exact hco.ro p hp,fun p hp=>by rw [e2];exact hco.rw p hp⟩
      rw [e3]
      exact ok_call hA hd (by rw [e1];exact hf) (by rw [e1];exact has) hco' hn he
     ·cases h
   | _=>exact plain h
 | _=>exact plain h
def StepOk (P:Program) (A:World→Prop) (E:Env) (n:Nat) (ops:List Oper) (o:Oper) (es:List Shp) (st:S) (es':List Shp) (st':S):Prop:=
 ∀σ,WSt E σ st→ ∃e:Eff,es'=shpC e::es∧WSt E (σ.app o.dst e) st'∧ ∀X:Ctx,A X.W0→X.n=n→Does P X ops o σ.s σ.sz e∧rdOk σ.m e.rd∧alOk σ.sz e.al
theorem Sim.weak {o:Oper} {s s':Nat→AV} {z:Nat→Nat} {e:Eff} (h:Sim P X o s z e) (hs: ∀t,Le (s' t) (s t)):Sim P X o s' z e:=
 fun σ hσ=>h σ fun t ht=>by
  rcases hs t with h1 | h1
  ·rw [h1];exact hσ t ht
  ·exact .inr h1
theorem Le.val {a b:AV} {c:C} (h:Le a b) (hb:b= .one c):a= .one c:=by
 rcases h with h | h
 ·rw [←h,hb]
 ·rw [h] at hb;cases hb
theorem stepO_ok {call:Caller} {n:Nat} {ops:List Oper} {o:Oper} (hT:TyOk P ty) (hC:CallerOk P A E call) (hn: ∀t,o.dst=some t→t<n):Snd E (stepO ty call ops o) (StepOk P A E n ops o):=by
 intro es st C h
 have run:(∀s:Nat→AV,(∀t,Le (s t) (slK E st.sl t))→ ∀z e (X:Ctx),Sim P X o s z e→Does P X ops o s z e)→
   opRun ty call st o.op (fun x=>mapK (fun e st C=>appS st o.dst e fun st=>C [(shpK e::es,st)]) x C)=true→ ∃l,C l=true∧(Sat E st.G→ ∃q∈l,Sat E q.2.G∧StepOk P A E n ops o es st q.1 q.2):=fun hD h=>by
  obtain ⟨l,h1,h2⟩:=opRun_ok hT hC h
  have hg:Snd E (fun (e:ES) st (C:List (List Shp×S)→Bool)=>appS st o.dst e fun st=>C [(shpK e::es,st)]) fun e st es' st'=>es'=shpK e::es∧ ∀σ,WSt E σ st→WSt E (σ.app o.dst (eK E e)) st':=fun e st C h=>by
   obtain ⟨st',h1,h2,h3⟩:=appS_ok (E:=E) h
   exact ⟨_,h1,fun hs=>⟨_,List.mem_singleton.2 rfl,by rw [h2];exact hs,rfl,h3⟩⟩
  obtain ⟨l',h3,h4⟩:=mapK_snd hg l C h1
  refine ⟨l',h3,fun hs=>?_⟩
  obtain ⟨q,hq,hsq,e1,e2,hop⟩:=h2 hs
  obtain ⟨r,hr,hsr,e3,hw⟩:=h4 q hq hsq
  refine ⟨r,hr,hsr,fun σ hσ=>⟨eK E q.1,by rw [shpK_ok];exact e3,hw σ ⟨by rw [e1];exact hσ.1,by rw [e2];exact hσ.2.1,by rw [e2];exact hσ.2.2⟩,fun X hA hXn=>?_⟩⟩
  have:=hop X o.dst o.type o.pos o.after o.guard hA (by rw [hXn];exact hn)
  unfold OpOk at this
  rw [e1,e2,hσ.2.2,hσ.2.1] at this
  exact ⟨hD σ.s hσ.1 σ.sz _ X (this.1.weak hσ.1),this.2⟩
 have skip:(∀s:Nat→AV,(∀t,Le (s t) (slK E st.sl t))→ ∀z (X:Ctx),Does P X ops o s z noEff)→
   appS st o.dst noES (fun st=>C [(shpK noES::es,st)])=true→ ∃l,C l=true∧(Sat E st.G→ ∃q∈l,Sat E q.2.G∧StepOk P A E n ops o es st q.1 q.2):=fun hD h=>by
  obtain ⟨st',h1,h2,h3⟩:=appS_ok (E:=E) h
  refine ⟨_,h1,fun hs=>⟨_,List.mem_singleton.2 rfl,by rw [h2];exact hs,fun σ hσ=>⟨noEff,rfl,h3 σ hσ,fun X hA hXn=>⟨hD σ.s hσ.1 σ.sz X,fun p hp=>(by cases hp),fun p hp=>(by cases hp)⟩⟩⟩⟩
 unfold stepO at h
 cases hg:o.guard with
 | none=>
   rw [hg] at h
   exact run (fun s hs z e X hS=>by unfold Does;rw [hg];exact hS) h
 | some gw=>
   obtain ⟨g,w⟩:=gw
   rw [hg] at h
   cases ho:ops[g]? with
   | none=>simp only [ho] at h;cases h
   | some o'=>
     simp only [ho] at h
     cases hd:o'.dst with
     | none=>simp only [hd] at h;cases h
     | some d=>
       simp only [hd] at h
       have look: ∀ {s:Nat→AV} {c:K},(∀t,Le (s t) (slK E st.sl t))→st.sl.get d=some (.one c)→s d= .one (cK E c):=fun hs hc=>(hs d).val (by unfold slK;rw [hc];rfl)
       unfold stepG at h
       split at h
       ·rename_i x hx
        split at h
        ·rename_i hxw
         have hxw:x=w:=by cases x<;>cases w<;>first | rfl | cases hxw
         refine run (fun s hs z e X hS=>?_) h
         unfold Does
         rw [hg]
         refine ⟨o',ho,d,hd,.inl ⟨?_,hS⟩⟩
         rw [look hs hx,hxw];rfl
        ·rename_i hxw
         have hxw:x=!w:=by cases x<;>cases w<;>first | rfl | cases hxw
         refine skip (fun s hs z X=>?_) h
         unfold Does
         rw [hg]
         refine ⟨o',ho,d,hd,.inr (.inl ⟨?_,rfl⟩)⟩
         rw [look hs hx,hxw];rfl
       ·rename_i hx
        refine skip (fun s hs z X=>?_) h
        unfold Does
        rw [hg]
        exact ⟨o',ho,d,hd,.inr (.inr ⟨look hs hx,rfl⟩)⟩
       ·cases h
end
end Go.Proofs.YteiibidmicgjoaaGreatDoor
