import PyProof.Rows.All
import Wide.All
import OpenK.AllK
import Wide.FinOn
import Lean
import PyProof.EqAt
import PyProof.EqKinds
import PyProof.TupleCall
import KE.KIntText
import PyProof.NeKinds
import PyProof.FString4
import PyProof.StrLawsRepr
import PyProof.ZipIter
import PyProof.TupleIter
import KE.KRevIter
import KE.KDictOf
import PyProof.AttrMissHeap
import KE.KItemsList
import PyProof.SumAny
import PyProof.SliceList
import PyProof.EnumIter
import PyProof.EnumMake
import PyProof.EnumFor
import PyProof.StrLawsTight
import PySem.Challenge.RW_deedwright_k19_the_first_wrong_thing
set_option hygiene false
local macro_rules|`(101)=>`(Nat->List D->Hh->Res D)|`(102)=>`((by decide))|`(103)=>`((by omega))|`(104)=>`(Inv X pins σ H s)|`(105)=>`((model X.prog X.w))|`(106)=>`(List (Addr×Obj))|`(107)=>`((bnd rfl (bnd rfl (e0 _))))|`(108)=>`(List (Str×D))|`(109)=>`((bnd rfl (bnd rfl fdk)))|`(110)=>`((by simp))|`(111)=>`([some (.loc nf),some (plD nn p1 p2),some (.int v),some (.loc nn),some (.loc no),some (.loc nt),some (.loc nl),x7])|`(112)=>`((bnd rfl rfl))|`(115)=>`((.loc h.length))|`(116)=>`(⟨pe,λ _=>by exact zM pe λ _=>rfl⟩)|`(117)=>`(⟨_,rfl⟩)
local macro_rules|`(118)=>`([some (.int c),d1,some (.int (sz:Nat)),some (.str ps),some (.int (p:Nat)),some 115,some (.int (k:Nat)),some (.int r'),some (.str (mkS l)),jv'])|`(119)=>`(((cs ps).length:Int))|`(120)=>`((zb (bnd (zi (z4 rfl rfl b2)) (bnd (bnd (bnd rfl (bnd rfl (t.sub hm))) 112) rfl)) (zb (zi (jD (z4 rfl rfl b1) (z4 (bnd (bnd rfl (bnd rfl (t.sub hm))) 112) rfl rfl))) (za (z4 (zi (z4 rfl rfl rfl)) rfl G7) (za (z4 rfl rfl e3) rfl)))))|`(121)=>`((by simp;omega))|`(122)=>`((λ ρ' h'=>r.run cl ρ' h'))|`(123)=>`((model prog w))|`(124)=>`([.bl b1,.bl b2,.bl b3])|`(125)=>`((x==("__debug__":Str)))|`(126)=>`((zn X NC scope C s H fp pn xe))
set_option hygiene true
set_option autoImplicit true
set_option relaxedAutoImplicit true
section
open PySem
abbrev XQ:=Value->Shared->Prop
abbrev XU:=List Str
abbrev XV:=List Addr
abbrev XW:=List Value
abbrev XX:=Option Str
abbrev XY:=Nat->Value
abbrev XZ:=Str->Option Value
abbrev XJ:=Program
end
set_option Elab.async false
set_option linter.all false
set_option maxRecDepth 100000
noncomputable section
section
open PySem PySem.Spec PyProof.Rows PySem.W PySem.Calls
abbrev Y00:=@PySem.W.Frag
abbrev Y01:=@Nat.le_of_ble_eq_true
abbrev Y02:=@List.getElem?_eq_some_iff
abbrev Y03:=@List.mem_cons
abbrev Y04:=@List.mem_cons_of_mem
abbrev Y05:=@Heap.get?_push_of_some
abbrev Y06:=@List.mem_cons_self
abbrev Y07:=@List.append_assoc
abbrev Y08:=@List.size_toArray
abbrev Y09:=@List.length_map
abbrev Y0a:=@Nat.le_refl
abbrev Y0b:=@List.getElem?_eq_getElem
abbrev Y0c:=@Bool.and_eq_true
abbrev Y0d:=@List.mem_singleton
abbrev Y0e:=@List.mem_map
abbrev Y0f:=@List.not_mem_nil
abbrev Y0g:=@Heap.lt_size
abbrev Y0h:=@List.getElem?_set_ne
abbrev Y0i:=@List.map_cons
abbrev Y0j:=@Nat.le_trans
abbrev Y0k:=@List.length_append
abbrev Y0l:=@List.nil_append
abbrev Y0m:=@List.getElem?_append_right
abbrev Y0n:=@Heap.get?_push_size
abbrev Y0o:=@Nat.lt_of_lt_of_le
abbrev Y0p:=@List.mem_append
abbrev Y0q:=@List.length_cons
abbrev Y0r:=@List.getElem?_set_self
abbrev Y0s:=@Nat.ne_of_lt
abbrev Y0t:=@Bool.false_ne_true
abbrev Y0u:=@List.getElem?_map
abbrev Y0v:=@List.getD_eq_getElem?_getD
abbrev Y0w:=@List.map_append
abbrev Y0x:=@List.append_nil
abbrev Y0y:=@List.mem_of_getElem?
abbrev Y0z:=@List.mem_append_right
abbrev Y10:=@PySem.mem_of_lookup
abbrev Y11:=@List.all_cons
abbrev Y12:=@List.getElem?_append_left
abbrev Y13:=@PySem.W.kia_one
abbrev Y14:=@List.all_eq_true
abbrev Y15:=@PySem.W.mg_of
abbrev Y16:=@List.map_map
abbrev Y17:=@Int.emod_lt_of_pos
abbrev Y18:=@Int.emod_nonneg
abbrev Y19:=@List.replicate_succ
abbrev Y1a:=@List.mem_range
abbrev Y1b:=@Nat.lt_irrefl
abbrev Y1c:=@List.mem_append_left
abbrev Y1d:=@List.length_set
abbrev Y1e:=@List.eq_nil_of_length_eq_zero
abbrev Y1f:=@List.any_cons
abbrev Y1g:=@PyProof.Rows.callWith_type1
abbrev Y1h:=@Nat.zero_le
abbrev Y1i:=@Option.map_eq_some_iff
abbrev Y1j:=@List.length_drop
abbrev Y1k:=@List.cons_append
abbrev Y1l:=@List.getElem?_eq_none
abbrev Y1m:=@Bool.false_eq_true
abbrev Y1n:=@PyProof.Rows.slot_tuple_getitem
abbrev Y1o:=@List.sum_cons
abbrev Y1p:=@List.filterMap_cons
abbrev Y1q:=@Array.length_toList
abbrev Y1r:=@List.length_take
abbrev Y1s:=@PySem.W.cellsFrom_some
abbrev Y1t:=@List.take_of_length_le
abbrev Y1u:=@Heap.get?_update_other
abbrev Y1v:=@Nat.sub_self
abbrev Y1w:=@List.take_append_drop
abbrev Y1x:=@List.nodup_cons
abbrev Y1y:=@List.find?_cons
abbrev Y1z:=@Option.isSome_map
abbrev Y20:=@List.reverse_cons
abbrev Y21:=@List.flatten_cons
abbrev Y22:=@Int.toNat_natCast
abbrev Y23:=@PySem.F.excBase_ValueError
abbrev Y24:=@Heap.get?_none_of_le
abbrev Y25:=@Nat.lt_succ_self
abbrev Y26:=@List.lookup_cons
abbrev Y27:=@Option.isSome_iff_exists
abbrev Y28:=@Nat.le_of_lt
abbrev Y29:=@PySem.F.plainAttrs_list
abbrev Y2a:=@Option.map_some
abbrev Y2b:=@Option.bind_eq_some_iff
abbrev Y2c:=@List.filterMap_map
abbrev Y2d:=@List.length_range
abbrev Y2e:=@Bool.not_eq_true'
abbrev Y2f:=@List.drop_zero
abbrev Y2g:=@Nat.lt_trans
abbrev Y2h:=@List.filterMap_eq_map
abbrev Y2i:=@List.mem_reverse
abbrev Y2j:=@Int.mul_le_mul_of_nonneg_left
abbrev Y2k:=@PyProof.Rows.boot_isinstance
abbrev Y2l:=@Nat.le_succ
abbrev Y2m:=@List.map_nil
abbrev Y2n:=@Int.natCast_nonneg
abbrev Y2o:=@List.drop_eq_getElem_cons
abbrev Y2p:=@Bool.false_and
abbrev Y2q:=@PySem.W.kitx_list
abbrev Y2r:=@PySem.F.args_tuple_add_2
abbrev Y2s:=@List.nodup_append
abbrev Y2t:=@PySem.F.entry_tuple_add
abbrev Y2u:=@Option.bind_some
abbrev Y2v:=@List.map_reverse
abbrev Y2w:=@PySem.F.slot_tuple_add
abbrev Y2x:=@List.find?_cons_of_pos
abbrev Y2y:=@List.find?_cons_of_neg
abbrev Y2z:=@Nat.ne_of_gt
abbrev Y30:=@Nat.min_eq_left
abbrev Y31:=@Nat.le_of_eq
abbrev Y32:=@List.length_nil
abbrev Y33:=@List.eq_nil_or_concat
abbrev Y34:=@List.concat_eq_append
abbrev Y35:=@Heap.get?_update_self
abbrev Y36:=@Array.getElem?_toList
abbrev Y37:=@PySem.W.hideAll_none
abbrev Y38:=@List.getElem?_of_mem
abbrev Y39:=@Heap.size_push
abbrev Y3a:=@List.getElem?_range
abbrev Y3b:=@List.mem_filterMap
abbrev Y3c:=@List.lookup_append
abbrev Y3d:=@List.take_sublist
abbrev Y3e:=@List.any_eq_false
abbrev Y3f:=@Nat.zero_add
abbrev Y3g:=@Nat.sub_zero
abbrev Y3h:=@Int.ofNat_lt
abbrev Y3i:=@Option.getD_some
abbrev Y3j:=@Option.bind_none
abbrev Y3k:=@List.take_length
abbrev Y3l:=@List.getElem_mem
end
namespace L2
open PySem PySem.Spec PyProof.Rows
abbrev Key:=Sum Int Str
def JR:Key->Value->Bool
 | .inl k,v=>Value.isInt k v
 | .inr x,v=>Value.isStrOf x v
def z8s (w:World):Key->Int
 | .inl k=>hashInt k
 | .inr x=>hashStr w x
theorem zW:∀ {k:Key}{v:Value},JR k v=true->(∃ i t,k=Sum.inl i/\v=Value.int i t)\/(∃ x t,k=Sum.inr x/\v=Value.str x t)
 | .inl i,v,h=>by
  obtain ⟨t,e⟩:=Value.isInt_shape (k:=i) (v:=v) h;exact .inl ⟨i,t,rfl,e⟩
 | .inr x,v,h=>by
  obtain ⟨t,e⟩:=Value.isStrOf_shape (x:=x) (v:=v) h;exact .inr ⟨x,t,rfl,e⟩
theorem Vr (i:Int)(t:Tok):JR (.inl i) (.int i t)=true:=by simp [JR,Value.isInt]
theorem Vs (x:Str)(t:Tok):JR (.inr x) (.str x t)=true:=by simp [JR,Value.isStrOf]
theorem z3o (a b:Int):decide ((Sum.inl a:Key)=Sum.inl b)=(a==b):=by
 by_cases e:a=b
 ·subst e;simp
 ·have h:¬ (Sum.inl a:Key)=Sum.inl b:=λ q=>e (Sum.inl.inj q);rw [decide_eq_false h];exact (beq_eq_false_iff_ne.mpr e).symm
theorem z3p (a b:Str):decide ((Sum.inr a:Key)=Sum.inr b)=decide (a=b):=by
 by_cases e:a=b
 ·subst e;simp
 ·have h:¬ (Sum.inr a:Key)=Sum.inr b:=λ q=>e (Sum.inr.inj q);rw [decide_eq_false h,decide_eq_false e]
theorem z3q (a:Int)(b:Str):decide ((Sum.inl a:Key)=Sum.inr b)=false:=decide_eq_false (λ q=>nomatch q)
theorem z3r (a:Str)(b:Int):decide ((Sum.inr a:Key)=Sum.inl b)=false:=decide_eq_false (λ q=>nomatch q)
def zx (prog:XJ)(w:World):PySem.KeyKind prog w Key where
 is:=JR
 hash:=z8s w
 inj:=λ v a b ha hb=>by
  rcases zW ha with ⟨i,t,rfl,rfl⟩ | ⟨x,t,rfl,rfl⟩
  ·rcases zW hb with ⟨j,u,rfl,e⟩ | ⟨y,u,rfl,e⟩
   ·injection e with e1 _;rw [e1]
   ·exact nomatch e
  ·rcases zW hb with ⟨j,u,rfl,e⟩ | ⟨y,u,rfl,e⟩
   ·exact nomatch e
   ·injection e with e1 _;rw [e1]
 byValue:=λ k v h=>by
  rcases zW h with ⟨i,t,rfl,rfl⟩ | ⟨x,t,rfl,rfl⟩<;>rfl
 pyHash:=λ hv h=>by
  rcases zW hv with ⟨i,t,rfl,rfl⟩ | ⟨x,t,rfl,rfl⟩
  ·exact wpAny_pyHash_int h
  ·exact wpAny_pyHash_str h
 eqBool:=λ hu hv h=>by
  rcases zW hu with ⟨i,t,rfl,rfl⟩ | ⟨x,t,rfl,rfl⟩
  ·rcases zW hv with ⟨j,u,rfl,rfl⟩ | ⟨y,u,rfl,rfl⟩
   ·rw [z3o] at h;exact wpAny_eqBool_int h
   ·rw [z3q] at h;exact SeqAt.EqAt.int_str i t y u _ _ _ _ h
  ·rcases zW hv with ⟨j,u,rfl,rfl⟩ | ⟨y,u,rfl,rfl⟩
   ·rw [z3r] at h;exact SeqAt.EqAt.str_int x t j u _ _ _ _ h
   ·rw [z3p] at h;exact wpAny_eqBool_str h
 «strs»:=λ k x t v h=>by
  rcases zW h with ⟨i,u,rfl,e⟩ | ⟨y,u,rfl,e⟩
  ·exact nomatch e
  ·injection e with e1 _;subst e1;cases v<;>rfl
theorem QC (prog:XJ)(w:World)(i:Int)(t:Tok):(zx prog w).is (.inl i) (.int i t)=true:=Vr i t
theorem QD (prog:XJ)(w:World)(x:Str)(t:Tok):(zx prog w).is (.inr x) (.str x t)=true:=Vs x t
inductive V where
 | non | bl (b:Bool) | int (i:Int) | str (x:Str) | byt (b:Array UInt8) | flt (b:UInt64) | ref (a:Addr) | ty (n:String)
 deriving DecidableEq
def RelV:V->Value->Prop
 | .non,u=>u=Value.none
 | .bl b,u=>u=Value.bool b
 | .int i,u=>∃ t,u=Value.int i t
 | .str x,u=>∃ t,u=Value.str x t
 | .byt b,u=>∃ t,u=Value.bytes b t
 | .flt b,u=>∃ t,u=Value.float b t
 | .ref a,u=>u=Value.ref a
 | .ty n,u=>u=Value.type n
abbrev Vals:List V->List Value->Prop:=Paired RelV
theorem Vals.length {xs:List V}{us:XW}(r:Vals xs us):xs.length=us.length:=Paired.length r
theorem Vals.get:∀ {xs:List V}{us:XW}{i:Nat}{x:V},Vals xs us->xs[i]?=some x->∃ u,us[i]?=some u/\RelV x u
 | _,_,_,_,.nil,e=>by simp at e
 | _,_,0,_,.cons r _,e=>by simp at e;subst e;exact ⟨_,rfl,r⟩
 | _,_,i+1,x,.cons _ t,e=>by
  obtain ⟨u,h1,h2⟩:=Vals.get (i:=i) (x:=x) t (by simpa using e);exact ⟨u,by simpa using h1,h2⟩
theorem Vals.set {x:V}{u:Value}(r:RelV x u):∀ {xs:List V}{us:XW} (i:Nat),Vals xs us->Vals (xs.set i x) (us.set i u)
 | _,_,_,.nil=>.nil
 | _,_,0,.cons _ t=>.cons r t
 | _,_,i+1,.cons q t=>.cons q (Vals.set r i t)
theorem Vals.append:∀ {xs ys:List V}{us ws:XW},Vals xs us->Vals ys ws->Vals (xs++ys) (us++ws)
 | _,_,_,_,.nil,s=>s
 | _,_,_,_,.cons r t,s=>.cons r (Vals.append t s)
theorem Vals.take:∀ {xs:List V}{us:XW} (n:Nat),Vals xs us->Vals (xs.take n) (us.take n)
 | _,_,0,_=>.nil
 | _,_,_+1,.nil=>.nil
 | _,_,n+1,.cons r t=>.cons r (Vals.take n t)
theorem Vals.drop:∀ {xs:List V}{us:XW} (n:Nat),Vals xs us->Vals (xs.drop n) (us.drop n)
 | _,_,0,r=>r
 | _,_,_+1,.nil=>.nil
 | _,_,n+1,.cons _ t=>Vals.drop n t
def RelO:Option V->Option Value->Prop
 | some v,some u=>RelV v u
 | none,none=>True
 | _,_=>False
def KV {κ:Type}:List (κ×V)->List (κ×Value)->Prop:=Paired λ (p:κ×V) (q:κ×Value)=>p.1=q.1/\RelV p.2 q.2
def kV:Key->V
 | .inl i=>.int i
 | .inr x=>.str x
inductive HO where
 | lst (xs:List V)
 | tup (xs:List V)
 | dK (kvs:List (Key×V)) | dT (kvs:List (List Key×V))
 | set (S:Int->Bool) (n:Nat)
 | ins (C dx:Addr) (fs:List (Str×V))
 | own (x:Addr)
 | xd (fs:List (Str×V))
 | met (f x:Addr)
 | rng (lo hi:Int)
 | frz (o:Obj) (u:HO)
 | tbl (ps:Array Value)
 | ext (φ:Heap->Prop)
abbrev Hp:=Addr->Option HO
def upd (H:Hp)(a:Addr)(o:HO):Hp:=λ b=>if b=a then some o else H b
theorem zA {H:Hp}{a:Addr}{o:HO}:upd H a o a=some o:=by unfold upd;rw [if_pos rfl]
theorem zu {H:Hp}{a b:Addr}{o:HO}(h:b≠a):upd H a o b=H b:=by unfold upd;rw [if_neg h]
theorem z6q {H:Hp}{a b:Addr}{o u:HO}(h:H a=some o)(h':H b=some u)(d:o≠u):a≠b:=by
 intro e;subst e;rw [h] at h';exact d (Option.some.inj h')
theorem jJ {H:Hp}{a b:Addr}{o:HO}(h:H a=some o)(h':H b=none):a≠b:=by
 intro e;subst e;rw [h] at h';cases h'
section
variable (P:XJ)(w:World)
def ObjOk (H:Hp)(h:Heap)(a:Addr):HO->Prop
 | .lst xs=>xs.length<=sizeLine/\∃ (its:XW) (n:Nat),Vals xs its/\h.get? a=some { cls:=.type "list",data:=.seq its.toArray n }
 | .tup xs=>xs.length<=sizeLine/\∃ its:List Value,Vals xs its/\IsTup h a its.toArray
 | .dK kvs=>kvs.length<=sizeLine/\(a==sysModules)=false/\∃ vs,KV kvs vs/\h.DictOf (zx P w) a vs
 | .dT kvs=>kvs.length<=sizeLine/\(a==sysModules)=false/\∃ xs:List (List Key×Addr×Value),
   Paired (λ (p:List Key×V) (q:List Key×Addr×Value)=>p.1=q.1/\H q.2.1=some (.tup (p.1.map kV))/\RelV p.2 q.2.2) kvs xs /\
   ∃ o es ep,h.get? a=some o/\o.ExactDict/\o.data=.dict es ep/\es.toList=xs.map (entryOfKey (tupleKind (zx P w)))/\(xs.map (·.1)).Nodup
 | .set S n=>h.SetOf (intKind P w) a S n
 | .ins C dx fs=>H dx=some (.own a)/\fs.length<=1000/\dx≠a/\h.get? a=some (PySem.W.instObj C dx) /\
   ∃ mA,h.Ns1 dx mA/\(∀ f,RelO (fs.lookup f) (mA f))/\PySem.Within mA (fs.map (·.1))
 | .own _=>∃ o,h.get? a=some o
 | .xd fs=>∃ mA,h.Ns1 a mA/\∀ f,RelO (fs.lookup f) (mA f)
 | .rng lo hi=>∃ t u v,h.get? a=some { cls:=.type "range",data:=.fields #[.int lo t,.int hi u,.int 1 v] }
 | .frz o u=>h.get? a=some o/\ObjOk H h a u
 | .tbl ps=>h.get? a=some { cls:=.none,data:=.fields ps }
 | .met f x=>h.get? a=some (PySem.W.methodObj (.ref f) (.ref x))
 | .ext φ=>φ h/\(∃ o,h.get? a=some o)/\∀ h1 h2:Heap,φ h1->(∀ o,h1.get? a=some o->h2.get? a=some o)->φ h2
def HOk (H:Hp)(h:Heap):Prop:=∀ a o,H a=some o->ObjOk P w H h a o
end
section
variable {P:XJ}{w:World}{H H':Hp}{h h':Heap}{a:Addr}{o:HO}
theorem ObjOk.lt (x:ObjOk P w H h a o):a<h.objs.size:=by
 cases o with
 | lst xs=>obtain ⟨_,_,_,_,e⟩:=x;exact Y0g e
 | tup xs=>obtain ⟨_,_,_,p⟩:=x;exact p.lt
 | dK kvs=>obtain ⟨_,_,_,_,o,_,_,e,_⟩:=x;exact Y0g e
 | dT kvs=>obtain ⟨_,_,_,_,o,_,_,e,_⟩:=x;exact Y0g e
 | set S n=>obtain ⟨o,_,_,_,e,_⟩:=x;exact Y0g e
 | ins C dx fs=>obtain ⟨_,_,_,e,_⟩:=x;exact Y0g e
 | own y=>obtain ⟨_,e⟩:=x;exact Y0g e
 | xd fs=>obtain ⟨_,⟨_,_,_,e,_⟩,_⟩:=x;exact Y0g e
 | rng lo hi=>obtain ⟨_,_,_,e⟩:=x;exact Y0g e
 | frz ob u=>obtain ⟨e,_⟩:=x;exact Y0g e
 | tbl ps=>exact Y0g (show h.get? a=some _ from x)
 | met f y=>exact Y0g (show h.get? a=some _ from x)
 | ext φ=>obtain ⟨_,⟨_,e⟩,_⟩:=x;exact Y0g e
theorem Paired.mapP {α β:Type}{F G:α->β->Prop}:∀ {l₁:List α}{l₂:List β},Paired F l₁ l₂->(∀ a b,F a b->G a b)->Paired G l₁ l₂
 | _,_,.nil,_=>.nil
 | _,_,.cons r t,f=>.cons (f _ _ r) (Paired.mapP t f)
theorem ObjOk.stay (x:ObjOk P w H h a o)(k:∀ b u,(b=a\/H b=some (.own a))->h.get? b=some u->h'.get? b=some u)
  (ho:∀ b,H b=some (.own a)->H' b=some (.own a)) (ht:∀ b xs,H b=some (.tup xs)->H' b=some (.tup xs)):ObjOk P w H' h' a o:=by
 induction o with
 | lst xs=>obtain ⟨z,its,n,r,e⟩:=x;exact ⟨z,its,n,r,k _ _ (.inl rfl) e⟩
 | tup xs=>obtain ⟨z,its,r,ob,e,c⟩:=x;exact ⟨z,its,r,ob,k _ _ (.inl rfl) e,c⟩
 | dK kvs=>obtain ⟨z,y,vs,r,ob,es,ep,e,c⟩:=x;exact ⟨z,y,vs,r,ob,es,ep,k _ _ (.inl rfl) e,c⟩
 | dT kvs =>
  obtain ⟨z,y,xs,r,ob,es,ep,e,c⟩:=x;exact ⟨z,y,xs,Paired.mapP r λ p q z=>⟨z.1,ht _ _ z.2.1,z.2.2⟩,ob,es,ep,k _ _ (.inl rfl) e,c⟩
 | set S n=>obtain ⟨ob,es,ep,t,e,c⟩:=x;exact ⟨ob,es,ep,t,k _ _ (.inl rfl) e,c⟩
 | ins C dx fs =>
  obtain ⟨d,z,ne,e,mA,⟨od,es,ep,e2,c⟩,r⟩:=x;exact ⟨ho _ d,z,ne,k _ _ (.inl rfl) e,mA,⟨od,es,ep,k _ _ (.inr d) e2,c⟩,r⟩
 | own y=>obtain ⟨ob,e⟩:=x;exact ⟨ob,k _ _ (.inl rfl) e⟩
 | xd fs=>obtain ⟨mA,⟨od,es,ep,e,c⟩,r⟩:=x;exact ⟨mA,⟨od,es,ep,k _ _ (.inl rfl) e,c⟩,r⟩
 | rng lo hi=>obtain ⟨t,u,v,e⟩:=x;exact ⟨t,u,v,k _ _ (.inl rfl) e⟩
 | frz ob u ih=>obtain ⟨e,q⟩:=x;exact ⟨k _ _ (.inl rfl) e,ih q⟩
 | tbl ps =>
  have e:h.get? a=some { cls:=.none,data:=.fields ps }:=x;show h'.get? a=some { cls:=.none,data:=.fields ps };exact k a _ (.inl rfl) e
 | met f y =>
  have e:h.get? a=some (PySem.W.methodObj (.ref f) (.ref y)):=x;show h'.get? a=some (PySem.W.methodObj (.ref f) (.ref y));exact k a _ (.inl rfl) e
 | ext φ=>obtain ⟨p,⟨o,e⟩,st⟩:=x;exact ⟨st _ _ p λ o q=>k _ _ (.inl rfl) q,⟨o,k _ _ (.inl rfl) e⟩,st⟩
theorem HOk.lt (x:HOk P w H h)(e:H a=some o):a<h.objs.size:=(x a o e).lt
theorem HOk.fresh (x:HOk P w H h)(e:h.objs.size<=a):H a=none:=by
 cases q:H a with
 | none=>rfl
 | some u=>exact absurd (Y0o (x.lt q) e) (Y1b _)
theorem HOk.kept (x:HOk P w H h)(k:∀ b u,h.get? b=some u->h'.get? b=some u):HOk P w H h':=λ a o e =>
 (x a o e).stay (λ b u _ q=>k b u q) (λ _ q=>q) λ _ _ q=>q
theorem HOk.laid (x:HOk P w H h)(k:∀ b u,h.get? b=some u->h'.get? b=some u)(hp:h.objs.size<=a)(new:ObjOk P w (upd H a o) h' a o):HOk P w (upd H a o) h':=λ b u e=>by
 have hn:=x.fresh hp;by_cases hb:b=a
 ·subst hb;rw [zA] at e;cases e;exact new
 ·rw [zu hb] at e;exact (x b u e).stay (λ c v _ q=>k c v q) (λ c q=>by rw [zu (jJ q hn)];exact q) λ c xs q=>by rw [zu (jJ q hn)];exact q
end
def Rd (H:Hp)(a:Addr)(u:HO):Prop:=H a=some u\/∃ o,H a=some (.frz o u)
theorem Rd.ok {P:XJ}{w:World}{H:Hp}{h:Heap}{a:Addr}{u:HO}(r:Rd H a u)(x:HOk P w H h):ObjOk P w H h a u:=by
 rcases r with r | ⟨o,r⟩
 ·exact x a u r
 ·obtain ⟨_,q⟩:=x a _ r;exact q
def Mut:Option HO->Prop
 | some (.lst _)=>True
 | some (.dK _)=>True
 | some (.dT _)=>True
 | some (.set _ _)=>True
 | some (.ins _ _ _)=>True
 | some (.ext _)=>True
 | _=>False
section
variable {P:XJ}{w:World}{H:Hp}{h h':Heap}{x e:Addr}{o':HO}
theorem HOk.write (ok:HOk P w H h)(mu:Mut (H x))(he:e=x\/H e=some (.own x))(k:∀ b u,b≠e->h.get? b=some u->h'.get? b=some u)(heo:∃ u,h'.get? e=some u)
  (new:ObjOk P w (upd H x o') h' x o'):HOk P w (upd H x o') h':=λ b u q=>by
 have nown:∀ c y,H c=some (.own y)->c≠x:=λ c y r z=>by subst z;rw [r] at mu;exact mu
 have ntup:∀ c xs,H c=some (.tup xs)->c≠x:=λ c xs r z=>by subst z;rw [r] at mu;exact mu
 by_cases hb:b=x
 ·subst hb;rw [zA] at q;cases q;exact new
 ·rw [zu hb] at q;by_cases hbe:b=e
  ·have q':H b=some (.own x):=by
    rcases he with z | z
    ·exact absurd (hbe.trans z) hb
    ·rw [hbe];exact z
   rw [q] at q';cases q';obtain ⟨v,hv⟩:=heo;exact ⟨v,by rw [hbe];exact hv⟩
  ·refine (ok b u q).stay (λ c v hc r=>k c v ?_ r) (λ c r=>by rw [zu (nown c b r)];exact r) λ c xs r=>by rw [zu (ntup c xs r)];exact r
   rcases hc with rfl | hc
   ·exact hbe
   ·rintro rfl
    rcases he with z | z
    ·exact nown c b hc z
    ·rw [hc] at z;cases z;exact hb rfl
end
structure Un (fs ex:XV)(H H':Hp)(h h':Heap):Prop where
 keep:∀ b o,h.get? b=some o->H b=none->b∉fs->b∉ex->h'.get? b=some o
 slot:∀ b o,h.get? b=some o->H b=none->b∈fs->b∉ex->∃ sl,h'.get? b=some { o with slots:=sl }
 free:∀ b o,h.get? b=some o->H b=none->b∉ex->H' b=none
 there:∀ b o,h.get? b=some o->b∉ex->∃ o',h'.get? b=some o'
 tups:∀ b xs,H b=some (.tup xs)->H' b=some (.tup xs)
 frzs:∀ b o u,H b=some (.frz o u)->H' b=some (.frz o u)
 tbls:∀ b ps,H b=some (.tbl ps)->∃ more,H' b=some (.tbl (ps++more))
section
variable {fs fs' ex ex':XV}{H H1 H2:Hp}{h h1 h2 h':Heap}{a x e:Addr}{o:HO}
theorem Un.any (u:Un fs ex H H1 h h1){b:Addr}{ob:Obj}(q:h.get? b=some ob)(n:H b=none)(hx:b∉ex):∃ sl,h1.get? b=some { ob with slots:=sl }:=by
 by_cases hb:b∈fs
 ·exact u.slot b ob q n hb hx
 ·exact ⟨ob.slots,u.keep b ob q n hb hx⟩
theorem Un.kept (k:∀ b u,h.get? b=some u->h'.get? b=some u):Un fs ex H H h h' :=
 ⟨λ b ob q _ _ _=>k b ob q,λ b ob q _ _ _=>⟨ob.slots,k b ob q⟩,λ _ _ _ n _=>n,λ b ob q _=>⟨ob,k b ob q⟩,λ _ _ q=>q,λ _ _ _ q=>q,λ _ ps q=>⟨#[],by rw [q];simp⟩⟩
theorem Un.refl:Un fs ex H H h h:=Un.kept λ _ _ q=>q
theorem Un.laid (k:∀ b u,h.get? b=some u->h'.get? b=some u)(hp:h.objs.size<=a)(hn:H a=none):Un fs ex H (upd H a o) h h' where
 keep:=λ b u q _ _ _=>k b u q
 slot:=λ b u q _ _ _=>⟨u.slots,k b u q⟩
 free:=λ b u q n _=>by rw [zu (Y0s (Y0o (Y0g q) hp))];exact n
 there:=λ b u q _=>⟨u,k b u q⟩
 tups:=λ b xs q=>by rw [zu (jJ q hn)];exact q
 frzs:=λ b u xs q=>by rw [zu (jJ q hn)];exact q
 tbls:=λ b ps q=>⟨#[],by rw [zu (jJ q hn),q];simp⟩
theorem Un.write (mu:Mut (H x))(he:e=x\/H e=some (.own x))(k:∀ b u,b≠e->h.get? b=some u->h'.get? b=some u)(heo:∃ u,h'.get? e=some u):Un fs ex H (upd H x o) h h':=by
 have hx:∀ b,H b=none->b≠x:=λ b n z=>by subst z;rw [n] at mu;exact mu
 have hb:∀ b,H b=none->b≠e:=λ b n z=>by
  subst z;rcases he with r | r
  ·exact hx b n r
  ·rw [n] at r;cases r
 have hm:∀ b u,H b=some u->¬ Mut (some u)->b≠x:=λ b u q nm z=>by subst z;rw [q] at mu;exact nm mu
 refine ⟨λ b u q n _ _=>k b u (hb b n) q,λ b u q n _ _=>⟨u.slots,k b u (hb b n) q⟩,λ b u q n _=>by rw [zu (hx b n)];exact n,λ b u q _=>?_,
  λ b xs q=>by rw [zu (hm b _ q λ z=>z)];exact q,λ b u xs q=>by rw [zu (hm b _ q λ z=>z)];exact q,λ b ps q=>⟨#[],by rw [zu (hm b _ q λ z=>z),q];simp⟩⟩
 by_cases hbe:b=e
 ·subst hbe;exact heo
 ·exact ⟨u,k b u hbe q⟩
end
def trk (h:Heap)(H:Hp):List Addr:=(List.range h.objs.size).filter λ a=>(H a).isSome
def Wu (h:Heap)(H:Hp):Heap:=PySem.W.hideAll h (trk h H)
theorem Vt (h:Heap)(H:Hp):(Wu h H).objs.size=h.objs.size:=PySem.W.hideAll_size _ _
theorem Gp {h:Heap}{H:Hp}{b:Addr}{o:Obj}(e:h.get? b=some o)(n:H b=none):(Wu h H).get? b=some o :=
 PySem.W.hideAll_get _ e λ hm=>by
  have q:(H b).isSome=true:=(List.mem_filter.mp hm).2;rw [n] at q;simp at q
theorem BN {h:Heap}{H:Hp}{b:Addr}{o:Obj}(e:(Wu h H).get? b=some o):h.get? b=some o/\H b=none:=by
 have e':h.get? b=some o:=PySem.W.of_hideAll (trk h H) e;refine ⟨e',?_⟩;cases q:H b with
 | none=>rfl
 | some x =>
  have hm:b∈trk h H:=List.mem_filter.mpr ⟨Y1a.mpr (Y0g e'),by simp [q]⟩;have z:(Wu h H).get? b=none:=Y37 (trk h H) hm;rw [z] at e;cases e
def BO (g h:Heap)(L:Addr):List (Addr×Obj):=(List.range h.objs.size).filterMap λ a=>if a=L\/(g.get? a).isSome=true then none else (h.get? a).map λ o=>(a,o)
def wK (g h:Heap)(L d:Addr):List (Addr×Obj):=(BO g h L).filter λ p=>decide (p.1≠d)
structure Mod (K:Y00)(mg:XZ)(base:Heap):Prop where
 kin:K.In base
 glob:base.Ns mainGlobals mg
 blt:∃ mb,base.Ns builtinsNs mb/\∀ x:Str,x≠"__name__"->mb x=bootBuiltins x
 nolimit:base.NoLimit
structure Cx where
 prog:Program
 w:World
 K:Y00
 mg:Str->Option Value
 base:Heap
 A:Around
 N:List Str
 s₀:Shared
 H₀:Hp
 env:Env
 outer:List Env
 stack:List Env
 ex:List Addr
 fn:Str->Bool
 calm:Bool
 pn:List (Addr×Obj)
 xe:Value->Shared->Prop
def frs (l:List Env):List Addr:=l.filterMap (·.frame)
abbrev Cx.fs (X:Cx):List Addr:=frs X.outer
def Vis (sc:Scope)(x:Str):Prop:=sc.names.lookup x=some .local\/sc.names.lookup x=some .cell\/sc.names.lookup x=some .free
def Loc (sc:Scope)(x:Str):Prop:=sc.names.lookup x=some .local\/sc.names.lookup x=some .cell
def z6r (env:Env)(h:Heap)(m:XZ)(x:Str)(u:Value):Prop :=
 (env.kindOf x=some .local/\m x=some u)\/((env.kindOf x=some .cell\/env.kindOf x=some .free)/\∃ c,env.cells.lookup x=some c/\h.IsCell c (some u))
structure Cx.Ok (X:Cx):Prop where
 mod:Mod X.K X.mg X.base
 kind:X.env.scope.kind=.function
 glob:X.env.globals=mainGlobals
 blt:X.env.builtins=builtinsNs
 above:X.s₀.heap.objs.size<=X.env.locals
 inj:∀ x y c,X.env.cells.lookup x=some c->X.env.cells.lookup y=some c->x=y
 has:∀ x,(X.env.kindOf x=some .cell\/X.env.kindOf x=some .free)->∃ c,X.env.cells.lookup x=some c
 cab:∀ x c,X.fn x=true->X.env.cells.lookup x=some c->X.s₀.heap.objs.size<=c
 hd:X.calm=true->X.A.handled=none
 frames:X.A.frames=some X.stack
 stk:X.stack=X.outer\/(X.stack=X.env::X.outer/\X.env.frame=some X.env.locals)
 exf:∀ b∈X.ex,b≠X.env.locals/\∀ x c,X.env.cells.lookup x=some c->c≠b
 bs:∀ b o,X.base.get? b=some o->X.s₀.heap.get? b=some o/\X.H₀ b=none
 bsz:X.base.objs.size<=X.s₀.heap.objs.size
 noex:∀ b o,X.base.get? b=some o->b∉X.ex
 exfs:∀ b∈X.ex,b∉X.fs
 funs:X.s₀.heap.FunFrames X.base X.outer
 frf:∀ b∈X.fs,X.H₀ b=none
structure Inv (X:Cx)(pins:106)(σ:List (Option V))(H:Hp)(s:Shared):Prop where
 ok:X.Ok
 os:s.os=X.s₀.os
 bare:AllBare s.gens
 base:Un X.fs X.ex X.H₀ H X.s₀.heap s.heap
 loc:∃ m,s.heap.Ns X.env.locals m/\∀ (i:Nat) (x:Str) (v:V),X.N[i]?=some x->σ[i]?=some (some v)->Vis X.env.scope x->∃ u,RelV v u/\z6r X.env s.heap m x u
 cell:∀ x c,X.env.cells.lookup x=some c->∃ v,s.heap.IsCell c v
 free:H X.env.locals=none
 freeC:∀ x c,X.env.cells.lookup x=some c->H c=none
 pin:∀ p∈X.pn++pins,s.heap.get? p.1=some p.2/\H p.1=none/\p.1≠X.env.locals/\p.1∉X.fs/\∀ v,p.2.data≠.cell v
 hok:HOk X.prog X.w H s.heap
 len:σ.length=X.N.length
section
variable {X:Cx}{pins:106}{σ:List (Option V)}{H H':Hp}{s:Shared}{h':Heap}
theorem Cx.Ok.nofr (ok:X.Ok){b:Addr}{o:Obj}(e:X.base.get? b=some o):b∉X.fs:=λ hb=>by
 have:=(ok.funs.mem hb).1
 rw [e] at this;cases this
theorem Inv.bs (I:104):∀ b o,X.base.get? b=some o->s.heap.get? b=some o/\H b=none:=λ b o e =>
 ⟨I.base.keep b o (I.ok.bs b o e).1 (I.ok.bs b o e).2 (I.ok.nofr e) (I.ok.noex b o e),I.base.free b o (I.ok.bs b o e).1 (I.ok.bs b o e).2 (I.ok.noex b o e)⟩
theorem Inv.bk (I:104):∀ b o,X.base.get? b=some o->s.heap.get? b=some o:=λ b o e=>(I.bs b o e).1
theorem Inv.mod (I:104):Mod X.K X.mg X.base:=I.ok.mod
theorem Inv.kIn (I:104):X.K.In s.heap:=I.ok.mod.kin.keeps I.bk
theorem Inv.lt (I:104):X.env.locals<s.heap.objs.size:=let ⟨_,hn,_⟩:=I.loc;hn.lt
theorem Inv.sz (I:104):X.s₀.heap.objs.size<=s.heap.objs.size:=Y0j I.ok.above (Y28 I.lt)
theorem Inv.nofs (I:104){a:Addr}(h:s.heap.objs.size<=a):a∉X.fs:=λ hb=>by
 obtain ⟨_,o,ho,_⟩:=I.ok.funs.mem hb;exact absurd (Y0o (Y0g ho) (Y0j I.sz h)) (Y1b _)
theorem Inv.cne (I:104):∀ x c,X.env.cells.lookup x=some c->c≠X.env.locals:=λ x c e z=>by
 obtain ⟨v,o,ho,hd⟩:=I.cell x c e;obtain ⟨m,⟨o',es,ep,ho',hd',_⟩,_⟩:=I.loc;rw [z,ho'] at ho;cases ho;rw [hd'] at hd;cases hd
theorem Inv.funs (I:104):s.heap.FunFrames X.base X.outer:=by
 have all:∀ (l:List Env),(∀ b∈frs l,b∈X.fs)->X.s₀.heap.FunFrames X.base l->s.heap.FunFrames X.base l:=by
  intro l
  induction l with
  | nil=>intro _ _;trivial
  | cons env r ih =>
   intro hs hl;obtain ⟨hk,⟨L,o,hf,hn,ho,hd⟩,hr⟩:=hl;have hL:L∈X.fs:=hs L (by unfold frs;rw [Y1p,hf];exact Y06);obtain ⟨sl,e⟩:=I.base.slot L o ho (I.ok.frf L hL) hL λ z=>I.ok.exfs L z hL;exact ⟨hk,⟨L,_,hf,hn,e,hd⟩,ih (λ b hb=>hs b (by unfold frs;rw [Y1p,hf];exact Y04 _ hb)) hr⟩
 exact all X.outer (λ _ hb=>hb) I.ok.funs
theorem Inv.stack (I:104):s.heap.FunFrames X.base X.stack:=by
 rcases I.ok.stk with e | ⟨e,hf⟩
 ·rw [e];exact I.funs
 ·rw [e];obtain ⟨m,hn,_⟩:=I.loc;refine .cons (by rw [I.ok.kind];decide) hf hn ?_ I.funs;exact Y24 (Y0j I.ok.bsz I.ok.above)
theorem Inv.stkSub (I:104):∀ b∈frs X.stack,b∈X.env.locals::X.fs:=λ b hb=>by
 rcases I.ok.stk with e | ⟨e,hf⟩
 ·rw [e] at hb;exact Y04 _ hb
 ·rw [e] at hb;unfold frs at hb;rw [Y1p,hf] at hb;exact hb
theorem Inv.stkFree (I:104):∀ b∈frs X.stack,H b=none:=λ b hb=>by
 rcases Y03.mp (I.stkSub b hb) with e | hb
 ·rw [e];exact I.free
 ·obtain ⟨_,o,ho,_⟩:=I.ok.funs.mem hb;exact I.base.free b o ho (I.ok.frf b hb) λ z=>I.ok.exfs b z hb
theorem Inv.step {g':Array GenState}{t':Nat}{d':Drawn}{ch:XV}(I:104)
  (hch:∀ b∈ch,(b∈X.ex\/X.s₀.heap.objs.size<=b)/\b≠X.env.locals/\(∀ x c,X.env.cells.lookup x=some c->c≠b)/\∀ p∈X.pn++pins,p.1≠b)
  (keep:∀ b o,b≠X.env.locals->b∉X.fs->b∉ch->s.heap.get? b=some o->H b=none->h'.get? b=some o)
  (slot:∀ b o,b≠X.env.locals->b∈X.fs->b∉ch->s.heap.get? b=some o->H b=none->∃ sl,h'.get? b=some { o with slots:=sl }) (free:∀ b o,b∉ch->s.heap.get? b=some o->H b=none->H' b=none)
  (there:∀ b o,b∉ch->s.heap.get? b=some o->∃ o',h'.get? b=some o')
  (tups:∀ b xs,H b=some (.tup xs)->H' b=some (.tup xs)) (frzs:∀ b o u,H b=some (.frz o u)->H' b=some (.frz o u)) (tbls:∀ b ps,H b=some (.tbl ps)->∃ more,H' b=some (.tbl (ps++more)))
  (ns:∀ m,s.heap.Ns X.env.locals m->h'.Ns X.env.locals m) (hok:HOk X.prog X.w H' h') (hg:AllBare g') :
  Inv X pins σ H' { s with heap:=h',gens:=g',drawn:=d',toks:=t' }:=by
 have neL:∀ b o,X.s₀.heap.get? b=some o->b≠X.env.locals:=λ b o e=>Y0s (Y0o (Y0g e) I.ok.above);have neC:∀ b o,X.s₀.heap.get? b=some o->b∉X.ex->b∉ch:=λ b o e hx hb=>by
  rcases (hch b hb).1 with z | z
  ·exact hx z
  ·exact absurd (Y0o (Y0g e) z) (Y1b _)
 have cellK:∀ x c,X.env.cells.lookup x=some c->∀ v,s.heap.IsCell c v->h'.IsCell c v:=λ x c e v ⟨o,ho,hd⟩=>by
  have nch:c∉ch:=λ z=>(hch c z).2.2.1 x c e rfl;by_cases hc:c∈X.fs
  ·obtain ⟨sl,q⟩:=slot c o (I.cne x c e) hc nch ho (I.freeC x c e);exact ⟨_,q,hd⟩
  ·exact ⟨o,keep c o (I.cne x c e) hc nch ho (I.freeC x c e),hd⟩
 refine ⟨I.ok,I.os,hg,⟨λ b o e n hb hx=>?_,λ b o e n hb hx=>?_,λ b o e n hx=>?_,λ b o e hx=>?_,λ b xs e=>tups b xs (I.base.tups b xs e),λ b o xs e=>frzs b o xs (I.base.frzs b o xs e),λ b ps e=>?_⟩,?_,λ x c e=>?_,?_,λ x c e=>?_,λ p hp=>?_,hok,I.len⟩
 ·exact keep b o (neL b o e) hb (neC b o e hx) (I.base.keep b o e n hb hx) (I.base.free b o e n hx)
 ·obtain ⟨sl,e1⟩:=I.base.slot b o e n hb hx;obtain ⟨sl',e2⟩:=slot b _ (neL b o e) hb (neC b o e hx) e1 (I.base.free b o e n hx);exact ⟨sl',e2⟩
 ·obtain ⟨o',e1⟩:=I.base.there b o e hx;exact free b o' (neC b o e hx) e1 (I.base.free b o e n hx)
 ·obtain ⟨o',e1⟩:=I.base.there b o e hx;exact there b o' (neC b o e hx) e1
 ·obtain ⟨m1,e1⟩:=I.base.tbls b ps e;obtain ⟨m2,e2⟩:=tbls b _ e1;exact ⟨m1++m2,by rw [e2,Array.append_assoc]⟩
 ·obtain ⟨m,hn,hl⟩:=I.loc;refine ⟨m,ns m hn,λ i x v e1 e2 e3=>?_⟩;obtain ⟨u,r,l⟩:=hl i x v e1 e2 e3;refine ⟨u,r,?_⟩;rcases l with l | ⟨k,c,e,z⟩
  ·exact .inl l
  ·exact .inr ⟨k,c,e,cellK x c e _ z⟩
 ·obtain ⟨v,z⟩:=I.cell x c e;exact ⟨v,cellK x c e v z⟩
 ·obtain ⟨m,⟨o,_,_,ho,_⟩,_⟩:=I.loc;exact free _ o (λ z=>(hch _ z).2.1 rfl) ho I.free
 ·obtain ⟨v,o,ho,hd⟩:=I.cell x c e;exact free c o (λ z=>(hch c z).2.2.1 x c e rfl) ho (I.freeC x c e)
 ·obtain ⟨e,n,ne,nf,d⟩:=I.pin p hp;have nch:p.1∉ch:=λ z=>(hch p.1 z).2.2.2 p hp rfl;exact ⟨keep p.1 p.2 ne nf nch e n,free p.1 p.2 nch e n,ne,nf,d⟩
theorem Inv.un {t':Nat}(I:104)(u:Un X.fs [] H H' s.heap h')(hok:HOk X.prog X.w H' h'):Inv X pins σ H' { s with heap:=h',toks:=t' }:=by
 obtain ⟨m,⟨o,es,ep,ho,r⟩,_⟩:=id I.loc;obtain ⟨sl,hL⟩:=u.any ho I.free 110;exact I.step (g':=s.gens) (d':=s.drawn) (ch:=[]) (λ _ z=>nomatch z) (λ b o _ hb _ e n=>u.keep b o e n hb 110) (λ b o _ hb _ e n=>u.slot b o e n hb 110) (λ b o _ e n=>u.free b o e n 110) (λ b o _ e=>u.there b o e 110) u.tups u.frzs u.tbls (λ m' hm=>by
  obtain ⟨o',es',ep',ho',r'⟩:=hm;rw [ho] at ho';cases ho';exact ⟨_,es',ep',hL,r'⟩) hok I.bare
theorem Inv.call {g':Array GenState}{t':Nat}{d':Drawn}{ch:XV}(I:104)(u:Un (frs X.stack) ch H H' s.heap h')(hok:HOk X.prog X.w H' h')(hg:AllBare g')
  (hch:∀ b∈ch,(b∈X.ex\/X.s₀.heap.objs.size<=b)/\b≠X.env.locals/\(∀ x c,X.env.cells.lookup x=some c->c≠b)/\∀ p∈X.pn++pins,p.1≠b) :
  Inv X pins σ H' { s with heap:=h',gens:=g',drawn:=d',toks:=t' }:=by
 obtain ⟨m,⟨o,es,ep,ho,r⟩,_⟩:=id I.loc;obtain ⟨sl,hL⟩:=u.any ho I.free λ z=>(hch _ z).2.1 rfl;exact I.step (ch:=ch) hch (λ b o hL hb hc e n=>u.keep b o e n (λ z=>(Y03.mp (I.stkSub b z)).elim hL hb) hc) (λ b o _ _ hc e n=>u.any e n hc) (λ b o hc e n=>u.free b o e n hc) (λ b o hc e=>u.there b o e hc) u.tups u.frzs u.tbls (λ m' hm=>by
  obtain ⟨o',es',ep',ho',r'⟩:=hm;rw [ho] at ho';cases ho';exact ⟨_,es',ep',hL,r'⟩) hok hg
theorem Inv.turned {t':Nat}{it:Addr}(I:104)(k:∀ b o,b≠it->s.heap.get? b=some o->h'.get? b=some o)(hn:H it=none)(hL:it≠X.env.locals)
  (h1:it∈X.ex\/X.s₀.heap.objs.size<=it) (h2:∀ x c,X.env.cells.lookup x=some c->c≠it) (h3:∀ p∈X.pn++pins,p.1≠it):Inv X pins σ H { s with heap:=h',toks:=t' }:=by
 have nit:∀ b u,H b=some u->b≠it:=λ b u e z=>by rw [z,hn] at e;cases e
 refine I.step (g':=s.gens) (d':=s.drawn) (ch:=[it]) (λ b hb=>?_) (λ b o _ _ hc e _=>k b o (λ z=>hc (by simp [z])) e) (λ b o _ _ hc e _=>⟨o.slots,k b o (λ z=>hc (by simp [z])) e⟩) (λ _ _ _ _ n=>n)
  (λ b o hc e=>⟨o,k b o (λ z=>hc (by simp [z])) e⟩) (λ _ _ e=>e) (λ _ _ _ e=>e) (λ b ps e=>⟨#[],by rw [e];simp⟩) (λ m hm=>?_) (λ b u e=>?_) I.bare
 ·have e:b=it:=by simpa using hb
  subst e;exact ⟨h1,hL,h2,h3⟩
 ·obtain ⟨o,es,ep,ho,r⟩:=hm;exact ⟨o,es,ep,k _ o (Ne.symm hL) ho,r⟩
 ·refine (I.hok b u e).stay (λ c v hc q=>k c v ?_ q) (λ _ q=>q) λ _ _ q=>q;rcases hc with z | z
  ·rw [z];exact nit b u e
  ·exact nit c _ z
theorem Inv.tok (I:104)(t:Nat):Inv X pins σ H { s with toks:=t }:=I.un (h':=s.heap) (t':=t) Un.refl I.hok
theorem Inv.kept {t':Nat}(I:104)(k:∀ b u,s.heap.get? b=some u->h'.get? b=some u):Inv X pins σ H { s with heap:=h',toks:=t' }:=I.un (Un.kept k) (I.hok.kept k)
theorem Inv.laid {a:Addr}{o:HO}{t':Nat}(I:104)(k:∀ b u,s.heap.get? b=some u->h'.get? b=some u)(hp:s.heap.objs.size<=a)(new:ObjOk X.prog X.w (upd H a o) h' a o) :
  Inv X pins σ (upd H a o) { s with heap:=h',toks:=t' }:=I.un (Un.laid k hp (I.hok.fresh hp)) (I.hok.laid k hp new)
theorem Inv.write {x e:Addr}{o:HO}{t':Nat}(I:104)(mu:Mut (H x))(he:e=x\/H e=some (.own x))(k:∀ b u,b≠e->s.heap.get? b=some u->h'.get? b=some u)(heo:∃ u,h'.get? e=some u)
  (new:ObjOk X.prog X.w (upd H x o) h' x o):Inv X pins σ (upd H x o) { s with heap:=h',toks:=t' }:=I.un (Un.write mu he k heo) (I.hok.write mu he k heo new)
theorem Inv.weak {σ':List (Option V)}(I:104)(hl:σ'.length=σ.length)(w:∀ (i:Nat) v,σ'[i]?=some (some v)->σ[i]?=some (some v)):Inv X pins σ' H s :=
 ⟨I.ok,I.os,I.bare,I.base,let ⟨m,hn,hl'⟩:=I.loc;⟨m,hn,λ i x v e1 e2 e3=>hl' i x v e1 (w i v e2) e3⟩,I.cell,I.free,I.freeC,I.pin,I.hok,hl.trans I.len⟩
theorem Inv.pins_of {pins':106}(I:104)(h:∀ p∈pins',s.heap.get? p.1=some p.2/\H p.1=none/\p.1≠X.env.locals/\p.1∉X.fs/\∀ v,p.2.data≠.cell v):Inv X pins' σ H s :=
 ⟨I.ok,I.os,I.bare,I.base,I.loc,I.cell,I.free,I.freeC,λ p hp=>(Y0p.mp hp).elim (λ z=>I.pin p (Y1c _ z)) (h p),I.hok,I.len⟩
theorem ZE {N:XU}(hN:N.Nodup){i j:Nat}{x:Str}(a:N[i]?=some x)(b:N[j]?=some x):i=j:=by
 obtain ⟨h1,e1⟩:=Y02.mp a;obtain ⟨h2,e2⟩:=Y02.mp b;exact (List.getElem_inj hN).mp (e1.trans e2.symm)
theorem JS {M:Model}{A:Around}{E:XQ}{i:Nat}{x:Str}{v:V}{u:Value}{Q:Unit->Shared->Prop}(I:104)(hN:X.N.Nodup)(hi:X.N[i]?=some x)(hx:Loc X.env.scope x)(r:RelV v u)
  (h:∀ s',Inv X pins (σ.set i (some v)) H s'->(∃ a,Heap.SameBut a s.heap s'.heap/\(a=X.env.locals\/X.env.cells.lookup x=some a))->Q () s') (hf:X.fn x=true\/X.env.scope.names.lookup x=some .local:=by first | exact .inl rfl | exact .inr rfl | assumption):wpAny M A (storeName X.env x u) Q E s:=by
 obtain ⟨m,hn,hl⟩:=id I.loc;have hcls:(X.env.scope.kind==.class||(X.env.scope.kind==.module&&X.env.locals != X.env.globals))=false:=by rw [I.ok.kind];rfl
 have hiσ:i<σ.length:=by rw [I.len];exact (Y02.mp hi).1
 have cne:=I.cne;have tracked:∀ {a:Addr}{h':Heap},(∃ o,s.heap.get? a=some o/\H a=none)->Heap.SameBut a s.heap h'->HOk X.prog X.w H h':=λ {a h'} ha hs b ob e=>by
  obtain ⟨_,_,hfree⟩:=ha;refine (I.hok b ob e).stay (λ c w' hc q=>(hs.2 c ?_).trans q) (λ _ q=>q) λ _ _ q=>q
  rintro rfl
  rcases hc with rfl | hc
  ·rw [hfree] at e;cases e
  ·rw [hfree] at hc;cases hc
 rcases hx with hk | hk
 ·refine wpAny_storeName_local hk hn (λ h' hn' hs=>?_) hcls;obtain ⟨oL,_,_,hoL,_⟩:=id hn;refine h _ ⟨I.ok,I.os,I.bare,⟨λ b o e n hb hx=>?_,λ b o e n hb hx=>?_,I.base.free,λ b o e hx=>?_,I.base.tups,I.base.frzs,I.base.tbls⟩,⟨_,hn',λ j y v' e1 e2 e3=>?_⟩,λ y c e=>?_,I.free,I.freeC,λ p hp=>?_,tracked ⟨oL,hoL,I.free⟩ hs,by simpa using I.len⟩ ⟨_,hs,.inl rfl⟩
  ·exact (hs.2 b (Y0s (Y0o (Y0g e) I.ok.above))).trans (I.base.keep b o e n hb hx)
  ·obtain ⟨sl,e1⟩:=I.base.slot b o e n hb hx;exact ⟨sl,(hs.2 b (Y0s (Y0o (Y0g e) I.ok.above))).trans e1⟩
  ·obtain ⟨o',e1⟩:=I.base.there b o e hx;exact ⟨o',(hs.2 b (Y0s (Y0o (Y0g e) I.ok.above))).trans e1⟩
  ·by_cases hj:j=i
   ·subst hj;rw [hi] at e1;cases e1;rw [Y0r hiσ] at e2;cases e2;exact ⟨u,r,.inl ⟨hk,by simp⟩⟩
   ·rw [Y0h (Ne.symm hj)] at e2;obtain ⟨u',r',q⟩:=hl j y v' e1 e2 e3;refine ⟨u',r',?_⟩;rcases q with ⟨k,e⟩ | ⟨k,c,e,z⟩
    ·refine .inl ⟨k,?_⟩
     have:y≠x:=λ e=>hj (ZE hN e1 (e▸hi))
     simp [this,e]
    ·exact .inr ⟨k,c,e,z.sameBut hs (cne y c e)⟩
  ·obtain ⟨w',z⟩:=I.cell y c e;exact ⟨w',z.sameBut hs (cne y c e)⟩
  ·obtain ⟨e,n,ne,nf,d⟩:=I.pin p hp;exact ⟨(hs.2 p.1 ne).trans e,n,ne,nf,d⟩
 ·have hfn:X.fn x=true:=by
   rcases hf with z | z
   ·exact z
   ·rw [z] at hk;cases hk
  obtain ⟨c,hc⟩:=I.ok.has x (.inl hk);obtain ⟨w',z⟩:=I.cell x c hc;refine wpAny_storeName_cell I.ok.kind hk hc z (λ h' hc' hs=>?_);obtain ⟨oc,hoc,hocd⟩:=id z;refine h { s with heap:=h' } ⟨I.ok,I.os,I.bare,⟨λ b o e n hb hx=>?_,λ b o e n hb hx=>?_,I.base.free,λ b o e hx=>?_,I.base.tups,I.base.frzs,I.base.tbls⟩,⟨m,hn.sameBut hs (Ne.symm (cne x c hc)),λ j y v' e1 e2 e3=>?_⟩,λ y c' e=>?_,I.free,I.freeC,λ p hp=>?_,tracked ⟨oc,hoc,I.freeC x c hc⟩ hs,by simpa using I.len⟩ ⟨c,hs,.inr hc⟩
  ·exact (hs.2 b (Y0s (Y0o (Y0g e) (I.ok.cab x c hfn hc)))).trans (I.base.keep b o e n hb hx)
  ·obtain ⟨sl,e1⟩:=I.base.slot b o e n hb hx;exact ⟨sl,(hs.2 b (Y0s (Y0o (Y0g e) (I.ok.cab x c hfn hc)))).trans e1⟩
  ·obtain ⟨o',e1⟩:=I.base.there b o e hx;exact ⟨o',(hs.2 b (Y0s (Y0o (Y0g e) (I.ok.cab x c hfn hc)))).trans e1⟩
  ·by_cases hj:j=i
   ·subst hj;rw [hi] at e1;cases e1;rw [Y0r hiσ] at e2;cases e2;exact ⟨u,r,.inr ⟨.inl hk,c,hc,hc'⟩⟩
   ·rw [Y0h (Ne.symm hj)] at e2;obtain ⟨u',r',q⟩:=hl j y v' e1 e2 e3;refine ⟨u',r',?_⟩;rcases q with q | ⟨k,c',e,z'⟩
    ·exact .inl q
    ·refine .inr ⟨k,c',e,z'.sameBut hs ?_⟩
     rintro rfl
     exact hj (ZE hN e1 (I.ok.inj _ _ _ e hc▸hi))
  ·by_cases hcc:c'=c
   ·subst hcc;exact ⟨_,hc'⟩
   ·obtain ⟨w2,z2⟩:=I.cell y c' e;exact ⟨w2,z2.sameBut hs hcc⟩
  ·obtain ⟨e,n,ne,nf,d⟩:=I.pin p hp;refine ⟨(hs.2 p.1 ?_).trans e,n,ne,nf,d⟩;intro q;rw [q,hoc] at e;have q':oc=p.2:=Option.some.inj e;exact d w' (by rw [<- q'];exact hocd)
theorem ym {M:Model}{A:Around}{E:XQ}{i:Nat}{x:Str}{v:V}{u:Value}{Q:Unit->Shared->Prop}(I:104)(hN:X.N.Nodup)(hi:X.N[i]?=some x)(hx:Loc X.env.scope x)(r:RelV v u)
  (h:∀ s',Inv X pins (σ.set i (some v)) H s'->Q () s') (hf:X.fn x=true\/X.env.scope.names.lookup x=some .local:=by first | exact .inl rfl | exact .inr rfl | assumption):wpAny M A (storeName X.env x u) Q E s :=
 JS I hN hi hx r (λ s' I' _=>h s' I') hf
theorem Inv.call' {s':Shared}{ch:XV}(I:104)(ho:s'.os=s.os)(u:Un (frs X.stack) ch H H' s.heap s'.heap)(hok:HOk X.prog X.w H' s'.heap)(hg:AllBare s'.gens)
  (hch:∀ b∈ch,(b∈X.ex\/X.s₀.heap.objs.size<=b)/\b≠X.env.locals/\(∀ x c,X.env.cells.lookup x=some c->c≠b)/\∀ p∈X.pn++pins,p.1≠b):Inv X pins σ H' s':=by
 obtain ⟨h',g',d',t',o'⟩:=s';have e:o'=s.os:=ho;subst e;exact I.call (g':=g') (t':=t') (d':=d') u hok hg hch
end
abbrev XK:=Value->Option Addr->Hp->Prop
abbrev St:=List (Option V)
abbrev VK:=V->Hp->Prop
abbrev TE:=St->Hp->VK->Prop
abbrev TT:=St->Hp->(Bool->Hp->Prop)->Prop
abbrev TA:=St->Hp->(List V->Hp->Prop)->Prop
structure Ends where
 nx:St->Hp->Prop
 rt:VK
 bk:St->Hp->Prop:=λ _ _=>False
 ct:St->Hp->Prop:=λ _ _=>False
abbrev TS:=Ends->St->Hp->Prop
def EP (X:Cx)(pins:106)(σ:St)(Q:VK)(u:Value)(s':Shared):Prop:=∃ v H',Inv X pins σ H' s'/\RelV v u/\Q v H'
def TP (X:Cx)(pins:106)(σ:St)(Q:Bool->Hp->Prop)(b:Bool)(s':Shared):Prop:=∃ H',Inv X pins σ H' s'/\Q b H'
def AP (X:Cx)(pins:106)(σ:St)(Q:List V->Hp->Prop)(us:XW)(s':Shared):Prop:=∃ vs H',Inv X pins σ H' s'/\Vals vs us/\Q vs H'
def SP (X:Cx)(pins:106)(D:Ends)(f:Flow)(s':Shared):Prop :=
 match f with
 | .next=>∃ σ' H',Inv X pins σ' H' s'/\D.nx σ' H'
 | .brk=>∃ σ' H',Inv X pins σ' H' s'/\D.bk σ' H'
 | .cont=>∃ σ' H',Inv X pins σ' H' s'/\D.ct σ' H'
 | .ret u=>∃ v σ' H',Inv X pins σ' H' s'/\RelV v u/\D.rt v H'
def PE (X:Cx)(e:Expr)(t:TE):Prop :=
 ∀ (pins:106) (s:Shared) (σ:St) (H:Hp) (Q:VK),Inv X pins σ H s->t σ H Q->wpAny 105 X.A (eval e X.env) (EP X pins σ Q) X.xe s
def PT (X:Cx)(e:Expr)(t:TT):Prop :=
 ∀ (pins:106) (s:Shared) (σ:St) (H:Hp) (Q:Bool->Hp->Prop),Inv X pins σ H s->t σ H Q->wpAny 105 X.A (isTrue e X.env (eval e X.env)) (TP X pins σ Q) X.xe s
def PW (X:Cx)(e:Expr)(t:TT):Prop :=
 ∀ (whole:Sem Value) (pins:106) (s:Shared) (σ:St) (H:Hp) (Q:Bool->Hp->Prop),Inv X pins σ H s->t σ H Q->wpAny 105 X.A (isTrue e X.env whole) (TP X pins σ Q) X.xe s
theorem PW.pt {X:Cx}{e:Expr}{t:TT}(h:PW X e t):PT X e t:=h _
def PA (X:Cx)(es:List Expr)(t:TA):Prop :=
 ∀ (pos:Pos) (pins:106) (s:Shared) (σ:St) (H:Hp) (Q:List V->Hp->Prop),Inv X pins σ H s->t σ H Q->wpAny 105 X.A (spliced (backTo pos (starEach es X.env))) (AP X pins σ Q) X.xe s
def PS (X:Cx)(st:Stmt)(t:TS):Prop :=
 ∀ (pins:106) (s:Shared) (σ:St) (H:Hp) (D:Ends),Inv X pins σ H s->t D σ H->wpAny 105 X.A (exec st X.env) (SP X pins D) X.xe s
def PSs (X:Cx)(st:List Stmt)(t:TS):Prop :=
 ∀ (pins:106) (s:Shared) (σ:St) (H:Hp) (D:Ends),Inv X pins σ H s->t D σ H->wpAny 105 X.A (execs st X.env) (SP X pins D) X.xe s
theorem thn {α:Type}{t:Sem α}{Q Q':α->Shared->Prop}{M:Model}{A:Around}{E:XQ}{s:Shared}(h:wpAny M A t Q E s)(hQ:∀ a s,Q a s->Q' a s):wpAny M A t Q' E s:=wpAny_mono h hQ λ _ _ x=>x
section
variable {X:Cx}
theorem bin {a b:Expr}{ta tb:TE}(ha:PE X a ta)(hb:PE X b tb){pins:106}{s:Shared}{σ:St}{H:Hp}{R:V->V->Hp->Prop}(I:104)(h:ta σ H λ x H1=>tb σ H1 λ y H2=>R x y H2)
  {α:Type}{Q:α->Shared->Prop}{f:Value->Value->Sem α}
  (hf:∀ v u s2 x y H2,Inv X pins σ H2 s2->RelV x v->RelV y u->R x y H2->wpAny 105 X.A (f v u) Q X.xe s2) :
  wpAny 105 X.A (eval a X.env) (λ v s₁=>wpAny 105 X.A (eval b X.env) (λ u s₂=>wpAny 105 X.A (f v u) Q X.xe s₂) X.xe s₁) X.xe s:=by
 refine thn (ha pins s σ H _ I h) λ v s1 ⟨x,H1,I1,r1,q1⟩=>?_;refine thn (hb pins s1 σ H1 _ I1 q1) λ u s2 ⟨y,H2,I2,r2,q2⟩=>?_;exact hf v u s2 x y H2 I2 r1 r2 q2
def z6s (i:Nat):TE:=λ σ H Q=>∃ v,σ[i]?=some (some v)/\Q v H
def tC (v:V):TE:=λ _ H Q=>Q v H
theorem Gq {i:Nat}{x:Str}{pos:Pos} (hN:X.N[i]?=some x) (hv:Vis X.env.scope x) (hd:125=false:=by decide) (hcd:(x==("__classdict__":Str))=false:=by decide):PE X (.Name x pos) (z6s i):=by
 intro pins s σ H Q I h;obtain ⟨v,e,h⟩:=h;obtain ⟨m,hn,hl⟩:=I.loc;obtain ⟨u,r,l⟩:=hl i x v hN e hv;have fin:EP X pins σ Q u s:=⟨v,H,I,r,h⟩;rcases l with ⟨hk,hm⟩ | ⟨hk,c,hc,hcell⟩
 ·exact wpAny_Name (wpAny_loadName_local I.ok.kind hk hn hm fin) hd
 ·rcases hk with hk | hk
  ·exact wpAny_Name (wpAny_loadName_cell I.ok.kind hk hc hcell fin) hd
  ·exact wpAny_Name (wpAny_loadName_free I.ok.kind hk hc hcell fin hcd) hd
theorem z3s {i j pos}:PE X (.Constant (.int i) j pos) (tC (.int i)):=λ _ _ _ H _ I h=>wpAny_Constant_int ⟨.int i,H,I.tok _,117,h⟩
theorem z6t {b j pos}:PE X (.Constant (.bool b) j pos) (tC (.bl b)):=λ _ _ _ H _ I h=>Constant_bool ⟨.bl b,H,I,rfl,h⟩
theorem z3t {j pos}:PE X (.Constant .none j pos) (tC .non):=λ _ _ _ H _ I h=>Constant_none ⟨.non,H,I,rfl,h⟩
theorem Yn {x j pos}:PE X (.Constant (.str x) j pos) (tC (.str x)):=λ _ _ _ H _ I h=>Calls.Constant_str ⟨.str x,H,I.tok _,117,h⟩
def Gl (X:Cx)(x:Str):Prop:=X.env.kindOf x=some .globalImplicit
theorem ZA {E:XQ}{pins:106}{s:Shared}{σ:St}{H:Hp}{x:Str}{u:Value}{pos:Pos}{Q:XQ}(I:104)(hg:Gl X x)(hm:X.mg x=some u)(h:Q u s)
  (hd:125=false:=by decide):wpAny 105 X.A (eval (.Name x pos) X.env) Q E s :=
 Calls.Name_function_global I.ok.kind hg (Calls.loadGlobal_global (by rw [I.ok.glob];exact I.mod.glob.keeps I.bk) hm h) hd
theorem ye {E:XQ}{pins:106}{s:Shared}{σ:St}{H:Hp}{x:Str}{u:Value}{pos:Pos}{Q:XQ}(I:104)(hg:Gl X x)(hm:X.mg x=none)(hv:bootBuiltins x=some u)(h:Q u s)
  (hn:x≠"__name__":=by decide) (hd:125=false:=by decide):wpAny 105 X.A (eval (.Name x pos) X.env) Q E s:=by
 obtain ⟨mb,h1,h2⟩:=I.mod.blt;exact Calls.Name_function_global I.ok.kind hg (Calls.loadGlobal_builtin (by rw [I.ok.glob];exact I.mod.glob.keeps I.bk) hm (by rw [I.ok.blt];exact h1.keeps I.bk) ((h2 x hn).trans hv) h) hd
theorem wq {x:Str}{v:V}{u:Value}{pos:Pos} (hg:Gl X x) (hm:X.mg x=some u) (r:RelV v u) (hd:125=false:=by decide):PE X (.Name x pos) (tC v) :=
 λ _ _ _ H _ I h=>ZA I hg hm ⟨v,H,I,r,h⟩ hd
theorem Uq {x:Str}{v:V}{u:Value}{pos:Pos} (hg:Gl X x) (hm:X.mg x=none) (hv:bootBuiltins x=some u) (r:RelV v u) (hn:x≠"__name__":=by decide) (hd:125=false:=by decide):PE X (.Name x pos) (tC v) :=
 λ _ _ _ H _ I h=>ye I hg hm hv ⟨v,H,I,r,h⟩ hn hd
variable {a b:Expr}{ta tb:TE}{pos:Pos}
def tB (t:TE):TT:=λ σ H Q=>t σ H λ x H1=>∃ c,x=.bl c/\Q c H1
theorem z3u {e:Expr}{t:TE}(h:PE X e t)(he:∀ whole,isTrue e X.env whole=(do let v <- whole;standAt e.pos;holding [v] (truthy v)):=by intro _;rfl):PT X e (tB t):=by
 intro pins s σ H Q I hw;refine isTrue_plain (thn (h pins s σ H _ I hw) λ v s1 ⟨x,H1,I1,r1,q1⟩=>?_) (he _);obtain ⟨d,rfl,q⟩:=q1;cases r1;exact wpAny_truthy_bool ⟨H1,I1,q⟩
variable {tA tB':TT}{wK:List Expr}
def z8t (t u:TT):TT:=λ σ H Q=>t σ H λ c H1=>if c=true then u σ H1 Q else Q false H1
def tOr (t u:TT):TT:=λ σ H Q=>t σ H λ c H1=>if c=true then Q true H1 else u σ H1 Q
def z8u (t:TT):TT:=λ σ H Q=>t σ H λ c H1=>Q (!c) H1
theorem Ur (ha:PT X a tA):PW X (.BoolOp .And [a] pos) tA:=by
 intro wh pins s σ H Q I h;refine isTrue_and (thn (ha pins s σ H Q I h) λ c s1 e=>?_);cases c with
 | true=>exact isTrue_and_nil e
 | false=>exact e
theorem z3v (ha:PT X a tA):PW X (.BoolOp .Or [a] pos) tA:=by
 intro wh pins s σ H Q I h;refine isTrue_or (thn (ha pins s σ H Q I h) λ c s1 e=>?_);cases c with
 | false=>exact isTrue_or_nil e
 | true=>exact e
theorem Yo (ha:PT X a tA)(hb:PW X (.BoolOp .And (b::wK) pos) tB'):PW X (.BoolOp .And (a::b::wK) pos) (z8t tA tB'):=by
 intro wh pins s σ H Q I h;refine isTrue_and (thn (ha pins s σ H _ I h) λ c s1 ⟨H1,I1,q1⟩=>?_);cases c with
 | true=>exact hb wh pins s1 σ H1 Q I1 q1
 | false=>exact ⟨H1,I1,q1⟩
theorem z2n (ha:PT X a tA)(hb:PW X (.BoolOp .Or (b::wK) pos) tB'):PW X (.BoolOp .Or (a::b::wK) pos) (tOr tA tB'):=by
 intro wh pins s σ H Q I h;refine isTrue_or (thn (ha pins s σ H _ I h) λ c s1 ⟨H1,I1,q1⟩=>?_);cases c with
 | true=>exact ⟨H1,I1,q1⟩
 | false=>exact hb wh pins s1 σ H1 Q I1 q1
theorem z3w (ha:PT X a tA):PT X (.UnaryOp .Not a pos) (z8u tA):=by
 intro pins s σ H Q I h;exact isTrue_not (ha pins s σ H (λ c H1=>Q (!c) H1) I h)
def z6u (ta tb:TE):TE:=λ σ H Q=>ta σ H λ x H1=>∃ c,x=.bl c/\if c=true then tb σ H1 Q else Q (.bl false) H1
def z8v (ta tb:TE):TE:=λ σ H Q=>ta σ H λ x H1=>∃ c,x=.bl c/\if c=true then Q (.bl true) H1 else tb σ H1 Q
def z6v (ta:TE):TE:=λ σ H Q=>ta σ H λ x H1=>∃ c,x=.bl c/\Q (.bl (!c)) H1
theorem Yp {op}{t:TE}(h:PE X a t):PE X (.BoolOp op [a] pos) t:=λ pins s σ H Q I hw=>BoolOp_one (h pins s σ H Q I hw)
theorem Yq (ha:PE X a ta)(hb:PE X (.BoolOp .And (b::wK) pos) tb):PE X (.BoolOp .And (a::b::wK) pos) (z6u ta tb):=by
 intro pins s σ H Q I h;refine BoolOp_and (thn (ha pins s σ H _ I h) λ v s1 ⟨x,H1,I1,r1,q1⟩=>?_);obtain ⟨c,rfl,q1⟩:=q1;cases r1;refine wpAny_truthy_bool ?_;cases c with
 | true=>exact hb pins s1 σ H1 Q I1 q1
 | false=>exact ⟨.bl false,H1,I1,rfl,q1⟩
theorem z2o (ha:PE X a ta)(hb:PE X (.BoolOp .Or (b::wK) pos) tb):PE X (.BoolOp .Or (a::b::wK) pos) (z8v ta tb):=by
 intro pins s σ H Q I h;refine BoolOp_or (thn (ha pins s σ H _ I h) λ v s1 ⟨x,H1,I1,r1,q1⟩=>?_);obtain ⟨c,rfl,q1⟩:=q1;cases r1;refine wpAny_truthy_bool ?_;cases c with
 | false=>exact hb pins s1 σ H1 Q I1 q1
 | true=>exact ⟨.bl true,H1,I1,rfl,q1⟩
theorem Gs (ha:PE X a ta):PE X (.UnaryOp .Not a pos) (z6v ta):=by
 intro pins s σ H Q I h;refine UnaryOp_ (thn (ha pins s σ H _ I h) λ v s1 ⟨x,H1,I1,r1,q1⟩=>?_);obtain ⟨c,rfl,q1⟩:=q1;cases r1;exact not_of (wpAny_truthy_bool ⟨.bl (!c),H1,I1,rfl,q1⟩)
def tIf (t:TT)(ta tb:TE):TE:=λ σ H Q=>t σ H λ c H1=>if c=true then ta σ H1 Q else tb σ H1 Q
theorem Gu {c:Expr}(hc:PT X c tA)(ha:PE X a ta)(hb:PE X b tb):PE X (.IfExp c a b pos) (tIf tA ta tb):=by
 intro pins s σ H Q I h;refine wpAny_IfExp (thn (hc pins s σ H _ I h) λ d s1 ⟨H1,I1,q1⟩=>?_);cases d with
 | true=>exact ha pins s1 σ H1 Q I1 q1
 | false=>exact hb pins s1 σ H1 Q I1 q1
end
def SqL (K:Y00)(H:Hp)(a:Addr)(xs:List V):Prop :=
 Rd H a (.lst xs) \/
  ∃ (o:Obj) (its:Array Value) (n:Nat),K.lookup a=some o/\o.cls=.type "list"/\o.dict=none/\o.data=.seq its n/\its.size<=sizeLine/\Vals xs its.toList
def SqT (K:Y00)(H:Hp)(a:Addr)(xs:List V):Prop :=
 Rd H a (.tup xs) \/
  ∃ (o:Obj) (its:Array Value) (n:Nat),K.lookup a=some o/\o.cls=.type "tuple"/\o.data=.seq its n/\its.size<=sizeLine/\Vals xs its.toList
def z8w:Value->Option V
 | .none=>some .non
 | .bool b=>some (.bl b)
 | .int i _=>some (.int i)
 | .str x _=>some (.str x)
 | .bytes b _=>some (.byt b)
 | .float b _=>some (.flt b)
 | .ref a=>some (.ref a)
 | .type n=>some (.ty n)
 | _=>none
theorem RelV.abs {x:V}{u:Value}(r:RelV x u):z8w u=some x:=by
 cases x with
 | non=>cases r;rfl
 | bl _=>cases r;rfl
 | int _=>obtain ⟨t,rfl⟩:=r;rfl
 | str _=>obtain ⟨t,rfl⟩:=r;rfl
 | byt _=>obtain ⟨t,rfl⟩:=r;rfl
 | flt _=>obtain ⟨t,rfl⟩:=r;rfl
 | ref _=>cases r;rfl
 | ty _=>cases r;rfl
theorem RelV.inj {x y:V}{u:Value}(r:RelV x u)(q:RelV y u):x=y:=Option.some.inj (r.abs.symm.trans q.abs)
theorem Vals.inj:∀ {xs ys:List V}{us:XW},Vals xs us->Vals ys us->xs=ys
 | _,_,_,.nil,.nil=>rfl
 | _,_,_,.cons r t,.cons r' t'=>by rw [r.inj r',Vals.inj t t']
section
variable {X:Cx}{pins:106}{σ:St}{H:Hp}{s:Shared}{a:Addr}{xs ys:List V}
theorem SqL.of {K:Y00}(h:H a=some (.lst xs)):SqL K H a xs:=.inl (.inl h)
theorem SqT.of {K:Y00}(h:H a=some (.tup xs)):SqT K H a xs:=.inl (.inl h)
theorem Inv.list (I:104)(h:SqL X.K H a xs):∃ its:List Value,Vals xs its/\PlainL s.heap a its.toArray/\xs.length<=sizeLine:=by
 rcases h with h | ⟨o,its,n,hk,hc,hd,hs,hz,r⟩
 ·obtain ⟨z,its,n,r,e⟩:=h.ok I.hok;exact ⟨its,r,⟨_,n,e,rfl,rfl,rfl⟩,z⟩
 ·refine ⟨its.toList,r,⟨o,n,I.kIn a o hk,hc,hd,by simpa using hs⟩,?_⟩;have e:=r.length;simp only [Y1q] at e;omega
theorem Inv.tuple (I:104)(h:SqT X.K H a xs):∃ its:List Value,Vals xs its/\IsTup s.heap a its.toArray/\xs.length<=sizeLine:=by
 rcases h with h | ⟨o,its,n,hk,hc,hs,hz,r⟩
 ·obtain ⟨z,its,r,p⟩:=h.ok I.hok;exact ⟨its,r,p,z⟩
 ·refine ⟨its.toList,r,⟨o,I.kIn a o hk,hc,n,by simpa using hs⟩,?_⟩;have e:=r.length;simp only [Y1q] at e;omega
theorem Inv.list_inj (I:104)(h:SqL X.K H a xs)(h':SqL X.K H a ys):xs=ys:=by
 obtain ⟨its,r,⟨o,n,e,_,_,d⟩,_⟩:=I.list h;obtain ⟨its',r',⟨o',n',e',_,_,d'⟩,_⟩:=I.list h';rw [e] at e';cases e';rw [d] at d';injection d' with d1 _
 have:its=its':=by simpa using congrArg Array.toList d1
 subst this;exact r.inj r'
theorem Inv.tuple_inj (I:104)(h:SqT X.K H a xs)(h':SqT X.K H a ys):xs=ys:=by
 obtain ⟨its,r,⟨o,e,_,n,d⟩,_⟩:=I.tuple h;obtain ⟨its',r',⟨o',e',_,n',d'⟩,_⟩:=I.tuple h';rw [e] at e';cases e';rw [d] at d';injection d' with d1 _
 have:its=its':=by simpa using congrArg Array.toList d1
 subst this;exact r.inj r'
end
abbrev Cx.wish (X:Cx)(E:XQ):Cx:={ X with xe:=E }
abbrev Cx.nox (X:Cx):Cx:=X.wish λ _ _=>False
theorem Cx.Ok.wish {X:Cx}(ok:X.Ok)(E:XQ):(X.wish E).Ok :=
 ⟨ok.mod,ok.kind,ok.glob,ok.blt,ok.above,ok.inj,ok.has,ok.cab,ok.hd,ok.frames,ok.stk,ok.exf,ok.bs,ok.bsz,ok.noex,ok.exfs,ok.funs,ok.frf⟩
theorem Cx.Ok.unwish {X:Cx}{E:XQ}(ok:(X.wish E).Ok):X.Ok :=
 ⟨ok.mod,ok.kind,ok.glob,ok.blt,ok.above,ok.inj,ok.has,ok.cab,ok.hd,ok.frames,ok.stk,ok.exf,ok.bs,ok.bsz,ok.noex,ok.exfs,ok.funs,ok.frf⟩
section
variable {X:Cx}{pins:106}{σ:St}{H:Hp}{s:Shared}{E:XQ}
theorem Inv.wish (I:104)(E:XQ):Inv (X.wish E) pins σ H s:=⟨I.ok.wish E,I.os,I.bare,I.base,I.loc,I.cell,I.free,I.freeC,I.pin,I.hok,I.len⟩
theorem Inv.unwish (I:Inv (X.wish E) pins σ H s):Inv X pins σ H s:=⟨I.ok.unwish,I.os,I.bare,I.base,I.loc,I.cell,I.free,I.freeC,I.pin,I.hok,I.len⟩
theorem SP.unwish {D:Ends}{f:Flow}{s':Shared}(h:SP (X.wish E) pins D f s'):SP X pins D f s':=by
 cases f with
 | next=>obtain ⟨σ',H',I,q⟩:=h;exact ⟨σ',H',I.unwish,q⟩
 | brk=>obtain ⟨σ',H',I,q⟩:=h;exact ⟨σ',H',I.unwish,q⟩
 | cont=>obtain ⟨σ',H',I,q⟩:=h;exact ⟨σ',H',I.unwish,q⟩
 | ret u=>obtain ⟨v,σ',H',I,r,q⟩:=h;exact ⟨v,σ',H',I.unwish,r,q⟩
end
section
variable {X:Cx}{st:Stmt}{wK:List Stmt}{t u:TS}{e:Expr}{te:TE}{pos:Pos}
def z6w:TS:=λ D σ H=>D.nx σ H
def z8x (t u:TS):TS:=λ D σ H=>t { D with nx:=u D } σ H
theorem BP:PSs X [] z6w:=λ _ _ σ H _ I h=>wpAny_execs_nil ⟨σ,H,I,h⟩
theorem Gv (h1:PS X st t)(h2:PSs X wK u):PSs X (st::wK) (z8x t u):=by
 intro pins s σ H D I h;refine wpAny_execs_cons (thn (h1 pins s σ H { D with nx:=u D } I h) λ f s1 q=>?_);cases f with
 | next =>
  obtain ⟨σ',H',I',q⟩:=q;exact h2 pins s1 σ' H' D I' q
 | ret v=>exact q
 | brk=>exact q
 | cont=>exact q
theorem BQ (h1:PS X st t):PSs X [st] t:=by
 intro pins s σ H D I h;refine wpAny_execs_cons (thn (h1 pins s σ H D I h) λ f s1 q=>?_);cases f with
 | next=>exact wpAny_execs_nil q
 | ret v=>exact q
 | brk=>exact q
 | cont=>exact q
theorem Inv.quiet {pins:106}{σ:St}{H:Hp}{s:Shared}(I:104):interactive X.env=false:=by simp [interactive,I.ok.kind]
def z6x (te:TE):TS:=λ D σ H=>te σ H λ _ H1=>D.nx σ H1
theorem BR (he:PE X e te)(hs:swapsWith e none pos.line X.env=pure false:=by rfl):PS X (.Expr e pos) (z6x te):=by
 intro pins s σ H D I h;exact wpAny_Expr_any (thn (he pins s σ H _ I h) λ v s1 ⟨x,H1,I1,r1,q1⟩=>⟨σ,H1,I1,q1⟩) I.quiet hs
def z8y (te:TE):TS:=λ D σ H=>te σ H D.rt
theorem z3x (he:PE X e te):PS X (.Return (some e) pos) (z8y te):=by
 intro pins s σ H D I h;exact wpAny_Return_some (thn (he pins s σ H _ I h) λ v s1 ⟨x,H1,I1,r1,q1⟩=>⟨x,σ,H1,I1,r1,q1⟩)
def z8z (c:TT)(t u:TS):TS:=λ D σ H=>c σ H λ b H1=>if b=true then t D σ H1 else u D σ H1
theorem z2p {c:Expr}{a b:List Stmt}{tc:TT}(hc:PT X c tc)(ha:PSs X a t)(hb:PSs X b u):PS X (.If c a b pos) (z8z tc t u):=by
 intro pins s σ H D I h;refine wpAny_If (thn (hc pins s σ H _ I h) λ d s1 ⟨H1,I1,q1⟩=>?_);cases d with
 | true=>exact ha pins s1 σ H1 D I1 q1
 | false=>exact hb pins s1 σ H1 D I1 q1
end
abbrev TG:=V->St->Hp->(St->Hp->Prop)->Prop
abbrev TGs:=List V->St->Hp->(St->Hp->Prop)->Prop
def PG (X:Cx)(target:Expr)(t:TG):Prop :=
 ∀ (pins:106) (s:Shared) (σ:St) (H:Hp) (v:V) (u:Value) (Q:St->Hp->Prop),Inv X pins σ H s->RelV v u->t v σ H Q ->
  wpAny 105 X.A (assign target X.env u) (λ _ s'=>∃ σ' H',Inv X pins σ' H' s'/\Q σ' H') X.xe s
def PGs (X:Cx)(ts:List Expr)(t:TGs):Prop :=
 ∀ (pins:106) (s:Shared) (σ:St) (H:Hp) (vs:List V) (us:XW) (Q:St->Hp->Prop),Inv X pins σ H s->Vals vs us->t vs σ H Q ->
  wpAny 105 X.A (assignInOrder ((assignEach ts X.env).map (·.2)) us) (λ _ s'=>∃ σ' H',Inv X pins σ' H' s'/\Q σ' H') X.xe s
abbrev BS:=V->V->V->Hp->(Hp->Prop)->Prop
def z3y (X:Cx)(t:BS):Prop :=
 ∀ (pins:106) (s:Shared) (σ:St) (H:Hp) (o i v:V) (ov iv u:Value) (Q:Hp->Prop),Inv X pins σ H s->RelV o ov->RelV i iv->RelV v u->t o i v H Q ->
  wpAny 105 X.A (setItem ov iv u) (λ _ s'=>∃ H',Inv X pins σ H' s'/\Q H') X.xe s
section
variable {X:Cx}{pos:Pos}
def JT (i:Nat):TG:=λ v σ H Q=>Q (σ.set i (some v)) H
theorem Us {i:Nat}{x:Str}(hN:X.N.Nodup)(hi:X.N[i]?=some x)(hx:Loc X.env.scope x)(hf:X.fn x=true\/X.env.scope.names.lookup x=some .local:=by first | exact .inl rfl | exact .inr rfl | assumption):PG X (.Name x pos) (JT i):=by
 intro pins s σ H v u Q I r h;exact wpAny_assign_Name (ym I hN hi hx r (λ s' I'=>⟨_,H,I',h⟩) hf)
def z6y:TGs:=λ vs σ H Q=>vs=[]/\Q σ H
def z2q (t:TG)(u:TGs):TGs:=λ vs σ H Q=>∃ v r,vs=v::r/\t v σ H λ σ' H'=>u r σ' H' Q
theorem BT:PGs X [] z6y:=by
 intro pins s σ H vs us Q I r h;obtain ⟨e,h⟩:=h;subst e;cases r;exact assignInOrder_nil ⟨σ,H,I,h⟩
theorem Gw {e:Expr}{es:List Expr}{t:TG}{u:TGs}(h1:PG X e t)(h2:PGs X es u)
  (hs:(assignEach (e::es) X.env).map (·.2)=assign e X.env::(assignEach es X.env).map (·.2):=by rfl):PGs X (e::es) (z2q t u):=by
 intro pins s σ H vs us Q I r h;obtain ⟨v,vr,e1,h⟩:=h;subst e1;cases r with
 | cons r rr =>
  rw [hs];refine assignInOrder_cons (thn (h1 pins s σ H _ _ _ I r h) λ _ s1 ⟨σ1,H1,I1,q1⟩=>?_);exact h2 pins s1 σ1 H1 _ _ Q I1 rr q1
def z90 (K:Y00)(n:Nat)(t:TGs):TG:=λ v σ H Q=>∃ a xs,v=.ref a/\SqT K H a xs/\xs.length=n/\t xs σ H Q
theorem Gy {es:List Expr}{k:Nat}{t:TGs}{n:Nat}(hc:X.calm=true)(h:PGs X es t)
  (hn:(assignEach es X.env).length=n:=by rfl) (hst:(assignEach es X.env).findIdx? (·.1)=none:=by rfl):PG X (.Tuple es k pos) (z90 X.K n t):=by
 intro pins s σ H v u Q I r hw;obtain ⟨a,xs,e1,hq,hl,hw⟩:=hw;subst e1;cases r;obtain ⟨its,rv,ht,hz⟩:=I.tuple hq;refine assign_Tuple_tuple (I.ok.hd hc) ht (by simp [hn,<- hl,rv.length]) hst λ h' hx=>?_;have I1:Inv X pins σ H { s with heap:=h' }:=I.kept (t':=s.toks) λ b o e=>hx b o (Y0s (Y0g e)) e;exact h pins _ σ H xs _ Q I1 (by simpa using rv) hw
def z91 (to ti:TE)(t:BS):TG:=λ v σ H Q=>to σ H λ o H1=>ti σ H1 λ i H2=>t o i v H2 λ H3=>Q σ H3
theorem z3z {o i:Expr}{to ti:TE}{t:BS}(ho:PE X o to)(hi:PE X i ti)(hs:z3y X t)
  (ha:∀ v,assign (.Subscript o i pos) X.env v=(do
   let ov <- holding [v] (eval o X.env)
   let iv <- holding [v,ov] (eval i X.env)
   standAt pos
   holding [v,ov,iv] (setItem ov iv v)
   release [v,ov,iv] []):=by intro _;rfl):PG X (.Subscript o i pos) (z91 to ti t):=by
 intro pins s σ H v u Q I r h;rw [ha];refine wpAny_bind (wpAny_holding (thn (ho pins s σ H _ I h) λ ov s1 ⟨x,H1,I1,r1,q1⟩=>?_));refine wpAny_bind (wpAny_holding (thn (hi pins s1 σ H1 _ I1 q1) λ iv s2 ⟨y,H2,I2,r2,q2⟩=>?_));refine wpAny_bind (wpAny_standAt (wpAny_bind (wpAny_holding (thn (hs pins s2 σ H2 x y v ov iv u _ I2 r1 r2 r q2) λ _ s3 ⟨H3,I3,q3⟩=>?_))));exact wpAny_release ⟨σ,H3,I3,q3⟩
def Gz (te:TE)(g:TG):TS:=λ D σ H=>te σ H λ x H1=>g x σ H1 D.nx
theorem GA {tg e:Expr}{te:TE}{g:TG}(he:PE X e te)(hg:PG X tg g)(hs:swapsWithSole [tg] e pos.line X.env=pure false:=by rfl)(hw:swappedStores [tg] e X.env=pure none:=by rfl)
  (h1:(assignEach [tg] X.env).map (·.2)=[assign tg X.env]:=by rfl):PS X (.Assign [tg] e pos) (Gz te g):=by
 intro pins s σ H D I h;refine wpAny_Assign_stores (thn (he pins s σ H _ I h) λ v s1 ⟨x,H1,I1,r1,q1⟩=>?_) hs hw;rw [h1];exact thn (hg pins s1 σ H1 x v _ I1 r1 q1) λ _ s2 q=>q
theorem GB {i:Nat}{x:Str}{e:Expr}{te:TE}{pos':Pos}(hN:X.N.Nodup)(hi:X.N[i]?=some x)(hx:Loc X.env.scope x)(he:PE X e te)(hs:swapsWith e (some (.Name x pos')) pos.line X.env=pure false:=by rfl)(hf:X.fn x=true\/X.env.scope.names.lookup x=some .local:=by first | exact .inl rfl | exact .inr rfl | assumption) :
  PS X (.Assign [.Name x pos'] e pos) (Gz te (JT i)):=by
 intro pins s σ H D I h;refine wpAny_Assign_Name (thn (he pins s σ H _ I h) λ v s1 ⟨y,H1,I1,r1,q1⟩=>?_) hs;exact ym I1 hN hi hx r1 (λ s2 I2=>⟨_,H1,I2,q1⟩) hf
end
section
variable {X:Cx}{pos:Pos}
def Yr (c:TT)(tb:TS):TS:=λ D σ H=>∃ W:Nat->St->Hp->Prop,(∃ m,W m σ H)/\∀ m σ H,W m σ H ->
 c σ H λ b H1=>if b=true then ∃ N:St->Hp->Prop,(∀ σ' H',N σ' H'->∃ m',m'<m/\W m' σ' H')/\tb { D with nx:=N,ct:=N,bk:=D.nx } σ H1 else D.nx σ H1
theorem GC {c:Expr}{body:List Stmt}{tc:TT}{tb:TS}(hp:PassesOwn 105 X.A X.env X.xe)(hc:PT X c tc)(hb:PSs X body tb):PS X (.While c body [] pos) (Yr tc tb):=by
 intro pins s σ H D I h;obtain ⟨W,⟨m0,w0⟩,turn⟩:=h;refine wpAny_While (codeAny_whileLoop (λ n s'=>∃ σ' H',Inv X pins σ' H' s'/\W n σ' H') ?_ m0 ⟨σ,H,I,w0⟩)
 rintro n s1 ⟨σ1,H1,I1,w1⟩
 refine wpAny_passesOwn hp (thn (hc pins s1 σ1 H1 _ I1 (turn n σ1 H1 w1)) λ b s2 ⟨H2,I2,q2⟩=>?_);cases b with
 | true =>
  obtain ⟨N,hN,q2⟩:=q2;rw [if_pos rfl];refine wpAny_passesOwn hp (thn (hb pins s2 σ1 H2 _ I2 q2) λ f s3 q3=>?_);cases f with
  | next =>
   obtain ⟨σ3,H3,I3,n3⟩:=q3;obtain ⟨m',hm,w3⟩:=hN σ3 H3 n3;exact ⟨m',hm,σ3,H3,I3,w3⟩
  | cont =>
   obtain ⟨σ3,H3,I3,n3⟩:=q3;obtain ⟨m',hm,w3⟩:=hN σ3 H3 n3;exact ⟨m',hm,σ3,H3,I3,w3⟩
  | brk=>exact q3
  | ret v=>exact q3
 | false =>
  rw [if_neg Y0t];exact wpAny_execs_nil ⟨σ1,H2,I2,q2⟩
end
structure It where
 go:Nat->Hp->Prop
 yld:Nat->Hp->V->Hp->Prop
 stop:Nat->Hp->Prop
def Zj (X:Cx)(pins:106)(H:Hp)(b:Addr):Prop :=
 H b=none/\b≠X.env.locals/\b∉X.fs/\(b∈X.ex\/X.s₀.heap.objs.size<=b)/\(∀ x c,X.env.cells.lookup x=some c->c≠b)/\∀ p∈X.pn++pins,p.1≠b
theorem Inv.fpOk {X:Cx}{pins:106}{σ:St}{H H':Hp}{s:Shared}{b:Addr}(I:104)(hb:s.heap.objs.size<=b)(hn:H' b=none):Zj X pins H' b:=by
 refine ⟨hn,Y2z (Y0o I.lt hb),I.nofs hb,.inr (Y0j I.sz hb),λ x c e z=>?_,λ p hp z=>?_⟩
 ·obtain ⟨v,q⟩:=I.cell x c e;exact absurd (Y0o q.lt (by rw [z];exact hb)) (Y1b _)
 ·exact absurd (Y0o (Y0g (I.pin p hp).1) (by rw [z];exact hb)) (Y1b _)
structure Turn (P:XJ)(w:World)(K:Y00)(tg:Expr)(J:It)(fp:XV)(it:Addr)(tn:Nat->Heap->Prop):Prop where
 mem:it∈fp
 obj:∀ i h,tn i h->∀ b∈fp,∃ o,h.get? b=some o/\∀ v,o.data≠.cell v
 keep:∀ i h h',tn i h->(∀ b∈fp,∀ o,h.get? b=some o->h'.get? b=some o)->tn i h'
 item:∀ (X:Cx),X.prog=P->X.w=w->X.K=K->X.calm=true->∀ (i:Nat) (pins:106) (s:Shared) (σ:St) (H:Hp) (E:XQ),Inv X pins σ H s->(∀ b∈fp,Zj X pins H b)->tn i s.heap->J.go i H ->
  wpAny (model P w) X.A (pyNext (.ref it)) (λ r s1=>∃ u,r=some u /\
   wpAny (model P w) X.A (letOwnedTupleGo tg (.ref it) u) (λ _ s2=>∃ x H',Inv X pins σ H' s2/\RelV x u/\J.yld i H x H'/\tn (i+1) s2.heap/\∀ b∈fp,H' b=none) E s1) E s
 done:∀ (X:Cx),X.prog=P->X.w=w->X.K=K->X.calm=true->∀ (i:Nat) (pins:106) (s:Shared) (σ:St) (H:Hp) (E:XQ),Inv X pins σ H s->(∀ b∈fp,Zj X pins H b)->tn i s.heap->J.stop i H ->
  wpAny (model P w) X.A (pyNext (.ref it)) (λ r s1=>r=none/\Inv X pins σ H s1) E s
 self:∀ (A:Around) (i:Nat) (s:Shared) (Q:XQ) (E:XQ),tn i s.heap->Q (.ref it) s->wpAny (model P w) A (pyIter (.ref it)) Q E s
abbrev TI:=St->Hp->(It->Hp->Prop)->Prop
def PIE (X:Cx)(pins:106)(σ:St)(tg:Expr)(R:It->Hp->Prop)(itv:Value)(s2:Shared):Prop :=
 ∃ (it:Addr) (fp:XV) (tn:Nat->Heap->Prop) (J:It) (H':Hp),itv=.ref it/\Inv X pins σ H' s2/\Turn X.prog X.w X.K tg J fp it tn/\tn 0 s2.heap/\(∀ b∈fp,Zj X pins H' b)/\R J H'
def PI (X:Cx)(tg iter:Expr)(wi:TI):Prop :=
 ∀ (pins:106) (s:Shared) (σ:St) (H:Hp) (R:It->Hp->Prop),Inv X pins σ H s->wi σ H R ->
  wpAny 105 X.A (eval iter X.env) (λ v s1=>wpAny 105 X.A (pyIter v) (PIE X pins σ tg R) X.xe s1) X.xe s
theorem JU {M:Model}{A:Around}{E:XQ}{s:Shared}{tg:Expr}{it:Addr}{u:Value}{o:Obj}{n:String}{vs:Array Value}{Q:Unit->Shared->Prop}(ho:s.heap.get? it=some o)(hc:o.cls=.type n)(hd:o.data=.fields vs)
    (hn:["enumerate","zip","dict_itemiterator","dict_reverseitemiterator","odict_iterator","itertools.zip_longest","itertools.pairwise"].contains n=false) (hQ:Q () s):wpAny M A (letOwnedTupleGo tg (.ref it) u) Q E s:=by
  unfold letOwnedTupleGo;cases tg<;>first
    | exact wpAny_pure hQ
    | (cases u<;>first
        | exact wpAny_pure hQ
        | (refine wpAny_bind (wpAny_load ho ?_)
           rw [hc,hd];show wpAny M A (if (["enumerate","zip","dict_itemiterator","dict_reverseitemiterator","odict_iterator","itertools.zip_longest","itertools.pairwise"].contains n&&vs[0]?==some (rawInt _))=true then _ else _) Q E s;rw [if_neg (by intro h;rw [hn,Y2p] at h;cases h)];exact wpAny_pure hQ))
def Itl (K:Y00)(a:Addr):It :=
 ⟨λ i H=>∃ xs x,SqL K H a xs/\xs[i]?=some x,λ i H x H'=>H'=H/\∀ xs,SqL K H a xs->xs[i]?=some x,λ i H=>∃ xs,SqL K H a xs/\xs.length<=i⟩
def Itt (K:Y00)(a:Addr):It :=
 ⟨λ i H=>∃ xs x,SqT K H a xs/\xs[i]?=some x,λ i H x H'=>H'=H/\∀ xs,SqT K H a xs->xs[i]?=some x,λ i H=>∃ xs,SqT K H a xs/\xs.length<=i⟩
def Itr (lo:Int)(n:Nat):It:=⟨λ i _=>i<n,λ i H x H'=>H'=H/\x=.int (lo+i),λ i _=>n<=i⟩
theorem JV {P:XJ}{w:World}{K:Y00}{tg:Expr}(a it:Addr):Turn P w K tg (Itl K a) [it] it (λ i h=>h.IsListIter it a i) where
 mem:=by simp
 obj:=λ i h st b hb=>by
  have e:b=it:=by simpa using hb
  subst e;obtain ⟨o,e,c,d⟩:=st;exact ⟨o,e,λ v z=>by rw [d] at z;cases z⟩
 keep:=λ i h h' st k=>st.at λ o e=>k it 110 o e
 item:=by
  intro X hP hw hK hc i pins s σ H E I hf st hg;subst hP hw hK;obtain ⟨xs,x,hq,hx⟩:=hg;obtain ⟨its,rv,p,hz⟩:=I.list hq;obtain ⟨u,hu,ru⟩:=rv.get hx;obtain ⟨f0,f1,f2,f3,f4,f5⟩:=hf it 110;refine wpAny_pyNext_list_item st p.isList (x:=u) (by simpa using hu) λ h' st' sb=>?_;have I1:Inv X pins σ H { s with heap:=h' }:=I.turned (t':=s.toks) (λ b o hb e=>(sb.2 b hb).trans e) f0 f1 f3 f4 f5;obtain ⟨o,e,c,d⟩:=id st';exact ⟨u,rfl,JU (s:={ s with heap:=h' }) e c d 102 ⟨x,H,I1,ru,⟨rfl,λ ys hy=>by rw [I.list_inj hy hq];exact hx⟩,st',λ b hb=>(hf b hb).1⟩⟩
 done:=by
  intro X hP hw hK hc i pins s σ H E I hf st hg;subst hP hw hK;obtain ⟨xs,hq,hx⟩:=hg;obtain ⟨its,rv,p,hz⟩:=I.list hq;obtain ⟨f0,f1,f2,f3,f4,f5⟩:=hf it 110;have hl:=rv.length;exact wpAny_pyNext_list_end (I.ok.hd hc) st p.isList 121 λ h' eb=>⟨rfl,I.turned (t':=s.toks) (λ b o hb e=>eb b o hb e) f0 f1 f3 f4 f5⟩
 self:=λ _ _ _ _ _ st h=>wpAny_pyIter_listiter st h
theorem Ys {P:XJ}{w:World}{K:Y00}{tg:Expr}(a it:Addr):Turn P w K tg (Itt K a) [it] it (λ i h=>h.IsTupleIter it a i) where
 mem:=by simp
 obj:=λ i h st b hb=>by
  have e:b=it:=by simpa using hb
  subst e;obtain ⟨o,e,c,d⟩:=st;exact ⟨o,e,λ v z=>by rw [d] at z;cases z⟩
 keep:=λ i h h' st k=>st.at λ o e=>k it 110 o e
 item:=by
  intro X hP hw hK hc i pins s σ H E I hf st hg;subst hP hw hK;obtain ⟨xs,x,hq,hx⟩:=hg;obtain ⟨its,rv,p,hz⟩:=I.tuple hq;obtain ⟨u,hu,ru⟩:=rv.get hx;obtain ⟨f0,f1,f2,f3,f4,f5⟩:=hf it 110;refine wpAny_pyNext_tuple_item st (show s.heap.IsTuple a its.toArray from p) (x:=u) (by simpa using hu) λ h' st' sb=>?_;have I1:Inv X pins σ H { s with heap:=h' }:=I.turned (t':=s.toks) (λ b o hb e=>(sb.2 b hb).trans e) f0 f1 f3 f4 f5;obtain ⟨o,e,c,d⟩:=id st';exact ⟨u,rfl,JU (s:={ s with heap:=h' }) e c d 102 ⟨x,H,I1,ru,⟨rfl,λ ys hy=>by rw [I.tuple_inj hy hq];exact hx⟩,st',λ b hb=>(hf b hb).1⟩⟩
 done:=by
  intro X hP hw hK hc i pins s σ H E I hf st hg;subst hP hw hK;obtain ⟨xs,hq,hx⟩:=hg;obtain ⟨its,rv,p,hz⟩:=I.tuple hq;obtain ⟨f0,f1,f2,f3,f4,f5⟩:=hf it 110;have hl:=rv.length;exact wpAny_pyNext_tuple_end (I.ok.hd hc) st (show s.heap.IsTuple a its.toArray from p) 121 λ h' eb=>⟨rfl,I.turned (t':=s.toks) (λ b o hb e=>eb b o hb e) f0 f1 f3 f4 f5⟩
 self:=λ _ _ _ _ _ st h=>wpAny_pyIter_tupleiter st h
theorem Yt {P:XJ}{w:World}{K:Y00}{tg:Expr}(it:Addr)(lo:Int)(n:Nat):Turn P w K tg (Itr lo n) [it] it (λ i h=>IsRangeIter h it (lo+(i:Nat)*1) ((n:Int)-(i:Nat)) 1) where
 mem:=by simp
 obj:=λ i h st b hb=>by
  have e:b=it:=by simpa using hb
  subst e;exact ⟨_,st,λ v z=>by
   have z':Data.fields _=Data.cell v:=z;cases z'⟩
 keep:=λ i h h' st k=>k it 110 _ st
 item:=by
  intro X hP hw hK hc i pins s σ H E I hf st hg;subst hP hw hK;obtain ⟨f0,f1,f2,f3,f4,f5⟩:=hf it 110;have W:=Walks.range (prog:=X.prog) (w:=X.w) (I.ok.hd hc) it lo 1 n;refine W.item i s _ _ hg st λ v h' tk hv st' kk=>?_;obtain ⟨t,rfl⟩:=hv;have I1:Inv X pins σ H { s with heap:=h',toks:=tk }:=I.turned (λ b o hb e=>kk b o (by simpa using hb) e) f0 f1 f3 f4 f5;refine ⟨_,rfl,JU (s:={ s with heap:=h',toks:=tk }) (n:="range_iterator") st' rfl rfl 102 ⟨.int (lo+i),H,I1,⟨t,?_⟩,⟨rfl,rfl⟩,st',λ b hb=>(hf b hb).1⟩⟩;rw [Int.mul_one]
 done:=by
  intro X hP hw hK hc i pins s σ H E I hf st hg;subst hP hw hK;obtain ⟨f0,f1,f2,f3,f4,f5⟩:=hf it 110;exact wpAny_pyNext_range_end (I.ok.hd hc) st (by have:n<=i:=hg;omega) λ h' eb=>⟨rfl,I.turned (t':=s.toks) (λ b o hb e=>eb b o hb e) f0 f1 f3 f4 f5⟩
 self:=λ _ _ _ _ _ st h=>wpAny_pyIter_rangeiter st h
section
variable {X:Cx}{tg:Expr}
def z6z (K:Y00)(tl:TE):TI:=λ σ H R=>tl σ H λ x H1=>∃ a,x=.ref a/\(∃ xs,SqL K H1 a xs)/\R (Itl K a) H1
theorem BU {l:Expr}{tl:TE}(hl:PE X l tl):PI X tg l (z6z X.K tl):=by
 intro pins s σ H R I h;refine thn (hl pins s σ H _ I h) λ v s1 ⟨x,H1,I1,r1,q1⟩=>?_;obtain ⟨a,e,⟨xs,hq⟩,q⟩:=q1;subst e;cases r1;obtain ⟨its,rv,p,hz⟩:=I1.list hq;refine wpAny_pyIter_list p.isList ?_;refine ⟨s1.heap.objs.size,[s1.heap.objs.size],_,_,H1,rfl,I1.kept (t':=s1.toks) λ b o e=>Y05 _ e,JV a _,⟨_,Y0n _ rfl,rfl,rfl⟩,λ b hb=>?_,q⟩;have e:b=s1.heap.objs.size:=by simpa using hb
 subst e;exact I1.fpOk (Y0a _) (I1.hok.fresh (Y0a _))
theorem GD {pins:106}{σ:St}{H:Hp}{s:Shared}{R:It->Hp->Prop}{E:XQ}{lo hi:Int}{t u v:Tok}{tk:Nat}(I:104)(h1:-(2 ^ 62)<=lo)(h2:lo<2 ^ 62)(h3:-(2 ^ 62)<=hi)(h4:hi<2 ^ 62)
  (q:R (Itr lo (hi-lo).toNat) H):wpAny 105 X.A (pyIter (.ref s.heap.objs.size)) (PIE X pins σ tg R) E { s with heap:=s.heap.push { cls:=.type "range",data:=.fields #[.int lo t,.int hi u,.int 1 v] },toks:=tk }:=by
 refine wpAny_pyIter_range (IsRange.new ..) (small_one h1 h2 h3 h4) ?_;have I1:Inv X pins σ H { s with heap:=s.heap.push { cls:=.type "range",data:=.fields #[.int lo t,.int hi u,.int 1 v] },toks:=tk }:=I.kept λ b o e=>Y05 _ e;refine ⟨(s.heap.push { cls:=.type "range",data:=.fields #[.int lo t,.int hi u,.int 1 v] }).objs.size,[(s.heap.push { cls:=.type "range",data:=.fields #[.int lo t,.int hi u,.int 1 v] }).objs.size],_,_,H,rfl,
  I1.kept (t':=tk) λ b o e=>Y05 _ e,Yt _ lo (hi-lo).toNat,?_,λ b hb=>?_,q⟩
 ·have e1:lo+((0:Nat):Int)*1=lo:=by simp
  have e2:(((hi-lo).toNat:Nat):Int)-((0:Nat):Int)=Builtin.Range.rangeSize lo hi 1:=by rw [rangeSize_one];split<;>omega
  show IsRangeIter _ _ (lo+((0:Nat):Int)*1) ((((hi-lo).toNat:Nat):Int)-((0:Nat):Int)) 1;rw [e1,e2];exact Y0n _ rfl
 ·have e:b=(s.heap.push { cls:=.type "range",data:=.fields #[.int lo t,.int hi u,.int 1 v] }).objs.size:=by simpa using hb
  subst e;exact I1.fpOk (Y0a _) (I1.hok.fresh (Y0a _))
def z70 (ta:TA):TI:=λ σ H R=>ta σ H λ vs H1=>∃ j:Int,vs=[.int j]/\-(2 ^ 62)<=j/\j<2 ^ 62/\R (Itr 0 j.toNat) H1
theorem Vu {a:Expr}{ta:TA}{p pos:Pos} (hg:Gl X "range") (hm:X.mg "range"=none) (ha:PA X [a] ta) (hs:starEach [a] X.env=[(false,eval a X.env)]:=by rfl):PI X tg (.Call (.Name "range" p) [a] [] pos) (z70 ta):=by
 intro pins s σ H R I h;refine Call_ (ye I hg hm boot_range (Y1g (thn (ha pos pins s σ H _ I h) λ us s1 ⟨vs,H1,I1,r1,q1⟩=>?_) hs rfl));obtain ⟨j,e,q1,q2,q⟩:=q1;subst e;cases r1 with
 | cons r rr =>
  cases rr;obtain ⟨t,rfl⟩:=r;exact call_range_1 (GD I1 103 103 q1 q2 (by simpa using q))
def z40 (wi:TI)(g:TG)(tb:TS):TS:=λ D σ H=>wi σ H λ J H1=>∃ W:Nat->Nat->St->Hp->Prop,(∃ m,W 0 m σ H1)/\∀ i m σ H,W i m σ H ->
 (J.stop i H/\D.nx σ H)\/(J.go i H/\∃ N:St->Hp->Prop,(∀ σ' H',N σ' H'->∃ m',m'<m/\W (i+1) m' σ' H')/\∀ x H',J.yld i H x H'->g x σ H' λ σ2 H2=>tb { D with nx:=N,ct:=N,bk:=D.nx } σ2 H2)
def qx (fp:XV)(h:Heap):List (Addr×Obj):=fp.filterMap λ b=>(h.get? b).map λ o=>(b,o)
theorem wu {fp:XV}{h:Heap}{b:Addr}{o:Obj}(hb:b∈fp)(e:h.get? b=some o):(b,o)∈qx fp h:=Y3b.mpr ⟨b,hb,by rw [e];rfl⟩
theorem JW {fp:XV}{h:Heap}{p:Addr×Obj}(hp:p∈qx fp h):p.1∈fp/\h.get? p.1=some p.2:=by
 obtain ⟨b,hb,e⟩:=Y3b.mp hp;cases q:h.get? b with
 | none=>rw [q] at e;cases e
 | some o =>
  rw [q] at e;have e':(b,o)=p:=Option.some.inj e;subst e';exact ⟨hb,q⟩
theorem Inv.pinned {pins:106}{σ:St}{H:Hp}{s:Shared}{fp:XV}(I:104)(hf:∀ b∈fp,Zj X pins H b)(ho:∀ b∈fp,∃ o,s.heap.get? b=some o/\∀ v,o.data≠.cell v):Inv X (pins++qx fp s.heap) σ H s :=
 I.pins_of λ p hp=>(Y0p.mp hp).elim (λ z=>I.pin p (Y0z _ z)) λ z=>by
  obtain ⟨hb,e⟩:=JW z;obtain ⟨f0,f1,f2,_⟩:=hf p.1 hb;obtain ⟨o,e',d⟩:=ho p.1 hb;rw [e] at e';cases e';exact ⟨e,f0,f1,f2,d⟩
theorem Inv.unpinned {pins pl:106}{σ:St}{H:Hp}{s:Shared}(I:Inv X (pins++pl) σ H s):Inv X pins σ H s:=I.pins_of λ p hp=>I.pin p (Y0z _ (Y1c _ hp))
theorem z41 {iter:Expr}{body:List Stmt}{wi:TI}{g:TG}{tb:TS}{pos:Pos}(hp:PassesOwn 105 X.A X.env X.xe)(hc:X.calm=true)(hi:PI X tg iter wi)(hg:PG X tg g)(hb:PSs X body tb)
  (hs:∀ x,foldedSetIterable iter X.env x=pure x:=by intro _;rfl):PS X (.For tg iter body [] pos) (z40 wi g tb):=by
 intro pins s σ H D I h;refine wpAny_For (thn (hi pins s σ H _ I h) λ v s1 h1=>thn h1 λ itv s2 h2=>?_) hs;obtain ⟨it,fp,tn,J,H2,e,I2,T,st2,f2,W,⟨m0,w0⟩,turn⟩:=h2;subst e;have stat:∀ {H':Hp},(∀ b∈fp,H' b=none)->∀ b∈fp,Zj X pins H' b:=λ hn b hb=>⟨hn b hb,(f2 b hb).2⟩;refine codeAny_forLoop_any (λ n s'=>∃ i σ' H',Inv X pins σ' H' s'/\tn i s'.heap/\(∀ b∈fp,H' b=none)/\W i n σ' H') ?_ m0 ⟨0,σ,H2,I2,st2,λ b hb=>(f2 b hb).1,w0⟩
 rintro n s3 ⟨i,σ3,H3,I3,st3,fr3,w3⟩
 rcases turn i n σ3 H3 w3 with ⟨stop,qn⟩ | ⟨go,N,hN,step⟩
 ·refine wpAny_passesOwn hp (thn (T.done X rfl rfl rfl hc i pins s3 σ3 H3 X.xe I3 (stat fr3) st3 stop) λ r s4 ⟨hr,I4⟩=>?_);subst hr;exact wpAny_execs_nil ⟨σ3,H3,I4,qn⟩
 ·refine wpAny_passesOwn hp (thn (T.item X rfl rfl rfl hc i pins s3 σ3 H3 X.xe I3 (stat fr3) st3 go) λ r s4 ⟨u,hr,h4⟩=>?_);subst hr;refine wpAny_passesOwn hp (thn h4 λ _ s5 ⟨x,H5,I5,r5,y5,st5,fr5⟩=>?_);have I5':=I5.pinned (stat fr5) (T.obj _ _ st5);refine wpAny_passesOwn hp (thn (hg _ s5 σ3 H5 x u _ I5' r5 (step x H5 y5)) λ _ s6 ⟨σ6,H6,I6,q6⟩=>?_);refine wpAny_passesOwn hp (thn (hb _ s6 σ6 H6 _ I6 q6) λ f s7 q7=>?_);have again:∀ {σ7:St}{H7:Hp},Inv X (pins++qx fp s5.heap) σ7 H7 s7->N σ7 H7->∃ m,m<n/\∃ i σ' H',Inv X pins σ' H' s7/\tn i s7.heap/\(∀ b∈fp,H' b=none)/\W i m σ' H':=λ {σ7 H7} I7 n7=>by
   obtain ⟨m',hm,w7⟩:=hN σ7 H7 n7;refine ⟨m',hm,i+1,σ7,H7,I7.unpinned,T.keep _ _ _ st5 λ b hb o e=>(I7.pin (b,o) (Y0z _ (Y0z _ (wu hb e)))).1,λ b hb=>?_,w7⟩;obtain ⟨o,e,d⟩:=T.obj _ _ st5 b hb;exact (I7.pin (b,o) (Y0z _ (Y0z _ (wu hb e)))).2.1
  cases f with
  | next=>obtain ⟨σ7,H7,I7,n7⟩:=q7;exact again I7 n7
  | cont=>obtain ⟨σ7,H7,I7,n7⟩:=q7;exact again I7 n7
  | brk=>obtain ⟨σ7,H7,I7,q7⟩:=q7;exact ⟨σ7,H7,I7.unpinned,q7⟩
  | ret v=>obtain ⟨x7,σ7,H7,I7,r7,q7⟩:=q7;exact ⟨x7,σ7,H7,I7.unpinned,r7,q7⟩
end
abbrev R2:=V->V->Hp->VK->Prop
def OpR (X:Cx)(f:Value->Value->Sem Value)(r:R2):Prop :=
 ∀ (pins:106) (s:Shared) (σ:St) (H:Hp) (x y:V) (v u:Value) (Q:VK),Inv X pins σ H s->RelV x v->RelV y u->r x y H Q ->
  wpAny 105 X.A (f v u) (EP X pins σ Q) X.xe s
def UnR (X:Cx)(f:Value->Sem Value)(r:V->Hp->VK->Prop):Prop :=
 ∀ (pins:106) (s:Shared) (σ:St) (H:Hp) (x:V) (v:Value) (Q:VK),Inv X pins σ H s->RelV x v->r x H Q ->
  wpAny 105 X.A (f v) (EP X pins σ Q) X.xe s
def jb (X:Cx)(f:Value)(r:List V->Hp->VK->Prop):Prop :=
 ∀ (pins:106) (s:Shared) (σ:St) (H:Hp) (xs:List V) (us:XW) (Q:VK),Inv X pins σ H s->Vals xs us->r xs H Q ->
  wpAny 105 X.A (call f us) (EP X pins σ Q) X.xe s
def tOp (r:R2)(ta tb:TE):TE:=λ σ H Q=>ta σ H λ x H1=>tb σ H1 λ y H2=>r x y H2 Q
def tUn (r:V->Hp->VK->Prop)(ta:TE):TE:=λ σ H Q=>ta σ H λ x H1=>r x H1 Q
def rI (C:Int->Int->Prop)(g:Int->Int->V):R2:=λ x y H Q=>∃ i j,x=.int i/\y=.int j/\C i j/\Q (g i j) H
def rI0 (g:Int->Int->V):R2:=λ x y H Q=>∃ i j,x=.int i/\y=.int j/\Q (g i j) H
def rU (g:Int->V):V->Hp->VK->Prop:=λ x H Q=>∃ i,x=.int i/\Q (g i) H
section
variable {X:Cx}{a b c:Expr}{ta tb tc:TE}{pos:Pos}
theorem z42 (ha:PE X a ta)(hb:PE X b tb){pins:106}{s:Shared}{σ:St}{H:Hp}{R:V->V->Hp->Prop}(I:104)
  (h:ta σ H λ x H1=>tb σ H1 λ y H2=>R x y H2) {Q:XQ}{f:Value->Value->Sem Value}
  (hf:∀ v u s2 x y H2,Inv X pins σ H2 s2->RelV x v->RelV y u->R x y H2->wpAny 105 X.A (f v u) Q X.xe s2) :
  wpAny 105 X.A (eval a X.env) (λ v s₁=>wpAny 105 X.A (eval b X.env) (λ u s₂=>wpAny 105 X.A (f v u) Q X.xe s₂) X.xe s₁) X.xe s:=by
 refine thn (ha pins s σ H _ I h) λ v s1 ⟨x,H1,I1,r1,q1⟩=>?_;refine thn (hb pins s1 σ H1 _ I1 q1) λ u s2 ⟨y,H2,I2,r2,q2⟩=>?_;exact hf v u s2 x y H2 I2 r1 r2 q2
theorem z71 {op:Operator}{r:R2}(ho:OpR X (binaryOp op) r)(ha:PE X a ta)(hb:PE X b tb):PE X (.BinOp a op b pos) (tOp r ta tb):=by
 intro pins s σ H Q I h;exact wpAny_BinOp (z42 ha hb I h λ v u s2 x y H2 I2 rx ry q=>ho pins s2 σ H2 x y v u Q I2 rx ry q)
theorem GE {op:UnaryOp}{r:V->Hp->VK->Prop}(ho:UnR X (unaryOp op) r)(ha:PE X a ta):PE X (.UnaryOp op a pos) (tUn r ta):=by
 intro pins s σ H Q I h;exact UnaryOp_ (thn (ha pins s σ H _ I h) λ v s1 ⟨x,H1,I1,r1,q1⟩=>ho pins s1 σ H1 x v Q I1 r1 q1)
theorem opI {f:Value->Value->Sem Value}{C:Int->Int->Prop}{g:Int->Int->Int}
  (rule:∀ (i j:Int) (t u:Tok) (s:Shared) (Q:XQ) (E:XQ),C i j->Q (.int (g i j) s.toks) { s with toks:=s.toks+1 }->wpAny (model X.prog X.w) X.A (f (.int i t) (.int j u)) Q E s) :
  OpR X f (rI C λ i j=>.int (g i j)):=by
 intro pins s σ H x y v u Q I rx ry h;obtain ⟨i,j,rfl,rfl,hc,q⟩:=h;obtain ⟨t,rfl⟩:=rx;obtain ⟨t',rfl⟩:=ry;exact rule i j t t' s _ _ hc ⟨.int (g i j),H,I.tok _,117,q⟩
theorem BV {f:Value->Value->Sem Value}{g:Int->Int->Int}
  (rule:∀ (i j:Int) (t u:Tok) (s:Shared) (Q:XQ) (E:XQ),Q (.int (g i j) s.toks) { s with toks:=s.toks+1 }->wpAny (model X.prog X.w) X.A (f (.int i t) (.int j u)) Q E s) :
  OpR X f (rI0 λ i j=>.int (g i j)):=by
 intro pins s σ H x y v u Q I rx ry h;obtain ⟨i,j,rfl,rfl,q⟩:=h;obtain ⟨t,rfl⟩:=rx;obtain ⟨t',rfl⟩:=ry;exact rule i j t t' s _ _ ⟨.int (g i j),H,I.tok _,117,q⟩
theorem BW {f:Value->Value->Sem Value}{g:Int->Int->Bool}
  (rule:∀ (i j:Int) (t u:Tok) (s:Shared) (Q:XQ) (E:XQ),Q (.bool (g i j)) s->wpAny 105 X.A (f (.int i t) (.int j u)) Q E s) :
  OpR X f (rI0 λ i j=>.bl (g i j)):=by
 intro pins s σ H x y v u Q I rx ry h;obtain ⟨i,j,rfl,rfl,q⟩:=h;obtain ⟨t,rfl⟩:=rx;obtain ⟨t',rfl⟩:=ry;exact rule i j t t' s _ _ ⟨.bl (g i j),H,I,rfl,q⟩
def z92 (i j:Int):Prop:=0<=j/\j<=1000000/\i.natAbs<2 ^ 64
def zaj (i j:Int):Prop:=(-(2 ^ 64)<i/\i<2 ^ 64)\/(-(2 ^ 64)<j/\j<2 ^ 64)
theorem Yu (k:Nat):(0:Int)<=2 ^ k:=by
 rw [two_pow_cast];exact Y2n _
theorem z43:OpR X (binaryOp .Add) (rI0 λ i j=>.int (i+j)):=BV λ _ _ _ _ _ _ _ q=>add_int q
theorem z44:OpR X (binaryOp .Sub) (rI0 λ i j=>.int (i-j)):=BV λ _ _ _ _ _ _ _ q=>sub_int q
theorem z45:OpR X (binaryOp .Mod) (rI (λ _ j=>0<j) λ i j=>.int (i%j)):=opI λ i j _ _ _ _ _ hc q=>by
 have h1:(0:Int)<j:=hc;exact mod_int' 103 (by rw [Int.fmod_eq_emod_of_nonneg i 103];exact q)
theorem z46:OpR X (binaryOp .Pow) (rI z92 λ i j=>.int (i ^ j.toNat)):=opI λ _ _ _ _ _ _ _ hc q=>pow_int_small hc.1 hc.2.1 hc.2.2 q
theorem z47:OpR X (binaryOp .RShift) (rI (λ _ j=>0<=j) λ i j=>.int (i/2 ^ j.toNat)):=opI λ i j _ _ _ _ _ hc q =>
 rshift_int hc (by rw [Int.fdiv_eq_ediv_of_nonneg i (Yu _)];exact q)
theorem z48:OpR X (binaryOp .BitAnd) (rI0 λ i j=>.int (Builtin.bitAnd i j)):=BV λ _ _ _ _ _ _ _ q=>and_int q
theorem z72:OpR X (binaryOp .BitOr) (rI0 λ i j=>.int (Builtin.bitOr i j)):=BV λ _ _ _ _ _ _ _ q=>or_int q
theorem unI {f:Value->Sem Value}{g:Int->Int}
  (rule:∀ (i:Int) (t:Tok) (s:Shared) (Q:XQ) (E:XQ),Q (.int (g i) s.toks) { s with toks:=s.toks+1 }->wpAny (model X.prog X.w) X.A (f (.int i t)) Q E s) :
  UnR X f (rU λ i=>.int (g i)):=by
 intro pins s σ H x v Q I rx h;obtain ⟨i,rfl,q⟩:=h;obtain ⟨t,rfl⟩:=rx;exact rule i t s _ _ ⟨.int (g i),H,I.tok _,117,q⟩
theorem z49:UnR X (unaryOp .USub) (rU λ i=>.int (-i)):=unI λ _ _ _ _ _ q=>neg_int q
theorem z4a:UnR X (unaryOp .Invert) (rU λ i=>.int (Builtin.bitNot i)):=unI λ _ _ _ _ _ q=>invert_int q
end
section
variable {X:Cx}{a b c:Expr}{ta tb tc:TE}{pos:Pos}
theorem ZF {pins:106}{σ:St}{H:Hp}{s:Shared}{Q:VK}{k k':Bool}(I:104)(q:Q (.bl k) H)(e:k=k'):EP X pins σ Q (.bool k') s:=by
 subst e;exact ⟨.bl k,H,I,rfl,q⟩
theorem z73:OpR X (compareOp .Lt) (rI0 λ i j=>.bl (decide (i<j))):=BW λ _ _ _ _ _ _ _ q=>lt_int q
theorem z74:OpR X (compareOp .LtE) (rI0 λ i j=>.bl (decide (i<=j))):=BW λ _ _ _ _ _ _ _ q=>le_int q
theorem z75:OpR X (compareOp .Gt) (rI0 λ i j=>.bl (decide (j<i))):=BW λ _ _ _ _ _ _ _ q=>gt_int q
theorem z76:OpR X (compareOp .GtE) (rI0 λ i j=>.bl (decide (j<=i))):=BW λ _ _ _ _ _ _ _ q=>ge_int q
theorem Vv:OpR X (compareOp .In) (λ x y H Q=>∃ i j,x=.str i/\y=.str j/\Q (.bl (!(Builtin.Str.occurrences j i 0 j.length 1).isEmpty)) H):=by
 intro pins s σ H x y v u Q I rx ry h;obtain ⟨i,j,rfl,rfl,q⟩:=h;obtain ⟨t,rfl⟩:=rx;obtain ⟨t',rfl⟩:=ry;exact in_str (ZF I q rfl)
theorem Ut {op:CmpOp}{r:R2}(ho:OpR X (compareOp op) r)(ha:PE X a ta)(hb:PE X b tb)(hm:behindInMarks op b=false):PE X (.Compare a [op] [b] pos) (tOp r ta tb):=by
 intro pins s σ H Q I h;exact wpAny_Compare1 (z42 ha hb I h λ v u s2 x y H2 I2 rx ry q=>ho pins s2 σ H2 x y v u Q I2 rx ry q) hm
def GF (t:TE):TT:=λ σ H Q=>t σ H λ x H'=>∃ k,x=.bl k/\Q k H'
theorem Uu {op:CmpOp}{r:R2}(ho:OpR X (compareOp op) r)(ha:PE X a ta)(hb:PE X b tb)(hm:behindInMarks op b=false):PT X (.Compare a [op] [b] pos) (GF (tOp r ta tb)):=by
 intro pins s σ H Q I h;refine wpAny_isTrue_Compare1 (thn (ha pins s σ H _ I h) λ v s1 ⟨x,H1,I1,r1,q1⟩=>thn (hb pins s1 σ H1 _ I1 q1) λ u s2 ⟨y,H2,I2,r2,q2⟩ =>
  thn (ho pins s2 σ H2 x y v u _ I2 r1 r2 q2) λ c s3 ⟨z,H3,I3,r3,k,e,q3⟩=>?_) hm
 subst e;cases r3;exact wpAny_truthy_bool ⟨H3,I3,q3⟩
theorem yK:(sizeLine:Nat)<2 ^ 63:=by rw [sizeLine_eq];decide
theorem Yv:OpR X (binaryOp .Add) (λ x y H Q=>∃ i j,x=.str i/\y=.str j/\i.length+j.length<=sizeLine/\Q (.str (i++j)) H):=by
 intro pins s σ H x y v u Q I rx ry h;obtain ⟨i,j,rfl,rfl,hz,q⟩:=h;obtain ⟨t,rfl⟩:=rx;obtain ⟨t',rfl⟩:=ry;exact add_str (λ t' tk=>⟨.str (i++j),H,I.tok _,117,q⟩) hz
theorem qy {x:V}{us:XW}(r:Vals [x] us):∃ u,us=[u]/\RelV x u:=by
 cases r with
 | cons r1 r2=>cases r2;exact ⟨_,rfl,r1⟩
theorem GG {x y:V}{us:XW}(r:Vals [x,y] us):∃ u w',us=[u,w']/\RelV x u/\RelV y w':=by
 cases r with
 | cons r1 r2 =>
  cases r2 with
  | cons r3 r4=>cases r4;exact ⟨_,_,rfl,r1,r3⟩
theorem GH:jb X (.builtin "abs") (λ xs H Q=>∃ i,xs=[.int i]/\Q (.int (if i<0 then -i else i)) H):=by
 intro pins s σ H xs us Q I r h;obtain ⟨i,rfl,q⟩:=h;obtain ⟨u,rfl,t,rfl⟩:=qy r;exact call_abs_int λ u tk=>⟨.int (if i<0 then -i else i),H,I.tok _,117,q⟩
theorem JX:jb X (.type "int") (λ xs H Q=>(∃ i,xs=[.int i]/\Q (.int i) H)\/∃ k,xs=[.bl k]/\Q (.int (if k then 1 else 0)) H):=by
 intro pins s σ H xs us Q I r h;rcases h with ⟨i,rfl,q⟩ | ⟨k,rfl,q⟩
 ·obtain ⟨u,rfl,t,rfl⟩:=qy r;exact call_int_int ⟨.int i,H,I,117,q⟩
 ·obtain ⟨u,rfl,r1⟩:=qy r;cases r1;exact call_int_bool ⟨.int (if k then 1 else 0),H,I.tok _,117,q⟩
theorem Wv:jb X (.type "str") (λ xs H Q=>∃ i,xs=[.int i]/\i.natAbs.log2<1920/\Q (.str (toString i)) H):=by
 intro pins s σ H xs us Q I r h;obtain ⟨i,rfl,hz,q⟩:=h;obtain ⟨u,rfl,t,rfl⟩:=qy r;exact PySem.P.str_of_int hz ⟨.str _,H,I.tok _,117,q⟩
def z93 (K:Y00)(x:V)(H:Hp)(n:Nat):Prop :=
 match x with
 | .str y=>y.length<=sizeLine/\n=y.length
 | .byt y=>y.size<=sizeLine/\n=y.size
 | .ref p=>(∃ xs,SqL K H p xs/\n=xs.length)\/∃ xs,SqT K H p xs/\n=xs.length
 | _=>False
theorem GI:jb X (.builtin "len") (λ xs H Q=>∃ x n,xs=[x]/\z93 X.K x H n/\Q (.int n) H):=by
 intro pins s σ H xs us Q I r h;obtain ⟨x,n,rfl,e,q⟩:=h;obtain ⟨u,rfl,rx⟩:=qy r;have hl:=yK;have hs:sizeLine=16777216:=sizeLine_eq;cases x with
 | str y =>
  obtain ⟨t,rfl⟩:=rx;obtain ⟨hy,e'⟩:y.length<=sizeLine/\n=y.length:=e;subst e';exact len_str 103 ⟨.int _,H,I.tok _,117,q⟩
 | byt y =>
  obtain ⟨t,rfl⟩:=rx;obtain ⟨hy,e'⟩:y.size<=sizeLine/\n=y.size:=e;subst e';exact PySem.W.len_bytes 103 ⟨.int _,H,I.tok _,117,q⟩
 | ref p =>
  cases rx;have e':(∃ xs,SqL X.K H p xs/\n=xs.length)\/∃ xs,SqT X.K H p xs/\n=xs.length:=e;rcases e' with ⟨xs,hx,e'⟩ | ⟨xs,hx,e'⟩
  ·subst e';obtain ⟨its,r',pl,hz⟩:=I.list hx;have hlen:=r'.length;exact Calls.call_len_list pl.isList (by simp only [Y08];omega) ⟨.int xs.length,H,I.tok _,⟨_,by simp only [Y08];rw [hlen]⟩,q⟩
  ·subst e';obtain ⟨its,r',pl,hz⟩:=I.tuple hx;have hlen:=r'.length;exact len_tuple pl (by simp only [Y08];omega) ⟨.int xs.length,H,I.tok _,⟨_,by simp only [Y08];rw [hlen]⟩,q⟩
 | _=>exact (show False from e).elim
end
structure ObjM (h:Heap)(x dx C:Addr)(mA:XZ):Prop where
 obj:h.get? x=some (PySem.W.instObj C dx)
 ns:h.Ns1 dx mA
 ne:dx≠x
theorem Vw {h:Heap}{dx:Addr}{mA:XZ}(n:h.Ns1 dx mA):∃ od,h.get? dx=some od/\∀ name,PySem.W.lookIn name od=some (mA name):=by
 obtain ⟨o,es,ep,ho,hd,hk,_,hm⟩:=n;refine ⟨o,ho,λ name=>?_⟩;have e:=hm name;unfold nsFind findBy at e;rw [<- Array.find?_toList] at e;unfold PySem.W.lookIn;rw [hd];dsimp only
 split
 ·rename_i y q;rw [q] at e;exact congrArg some e
 ·rename_i q;rw [q] at e;have a:es.toList.any (·.refKey)=false:=by
   rw [Y3e];intro y hy;obtain ⟨z,t,hkey⟩:=hk y (Array.mem_toList_iff.mp hy);simp [DictEntry.refKey,hkey]
  have a':¬ es.toList.any (·.refKey)=true:=by rw [a];exact Y0t
  rw [if_neg a'];exact congrArg some e
theorem ObjM.look {h:Heap}{x dx C:Addr}{mA:XZ}(I:ObjM h x dx C mA):∃ od,PySem.W.InstAt h x (PySem.W.instObj C dx) C (some od)/\∀ name,PySem.W.lookIn name od=some (mA name) :=
 let ⟨od,ho,hl⟩:=Vw I.ns
 ⟨od,⟨I.obj,rfl,rfl,ho⟩,hl⟩
def z94 (f:Str)(v:V):List (Str×V)->List (Str×V)
 | []=>[(f,v)]
 | (g,x)::r=>if g=f then (g,v)::r else (g,x)::z94 f v r
theorem RelO.some_of {v:V}{o:Option Value}(r:RelO (some v) o):∃ u,o=some u/\RelV v u:=by
 cases o with
 | none=>exact (show False from r).elim
 | some u=>exact ⟨u,rfl,r⟩
section
variable {P:XJ}{w:World}{H H':Hp}{h h':Heap}{a C dx:Addr}{fs fs':List (Str×V)}
theorem BX (hok:HOk P w H h)(e:H a=some (.ins C dx fs)):∃ mA,ObjM h a dx C mA/\(∀ f,RelO (fs.lookup f) (mA f))/\PySem.Within mA (fs.map (·.1))/\fs.length<=1000/\H dx=some (.own a):=by
 obtain ⟨d,z,ne,ob,mA,n,r,q⟩:=(show ObjOk P w H h a (.ins C dx fs) from hok a _ e);exact ⟨mA,⟨ob,n,ne⟩,r,q,z,d⟩
end
structure Cls (K:Y00)(C:Addr):Prop where
 pg:PySem.W.plainGet K C Str.empty=true
 hd:PySem.W.hasDictIn K C=true
 po:PySem.W.plainOver K C=true
 sa:PySem.W.findIn K (.ref C) "__setattr__"=some (some (.builtin "object.__setattr__"))
theorem Cls.get {K:Y00}{C:Addr}(c:Cls K C)(f:Str):PySem.W.plainGet K C f=true:=c.pg
def z4b (K:Y00)(C:Addr)(f:Str):Prop:=PySem.W.findIn K (.ref C) f=some none
structure Con (K:Y00)(C:Addr)(f:Str)(v:V)(u:Value):Prop where
 at_:PySem.W.findIn K (.ref C) f=some (some u)
 rel:RelV v u
 get:PySem.W.specialIn K u "__get__"=some none
 cp:PySem.W.copiedNames.contains f=false
structure Meth (K:Y00)(C:Addr)(m:Str)(f:Addr):Prop where
 at_:PySem.W.findIn K (.ref C) m=some (some (.ref f))
 fn:PySem.W.isFn K (.ref f)=true
 kp:PySem.W.keepIn K (.ref f)=true
section
variable {X:Cx}{pins:106}{σ:St}{H:Hp}{s:Shared}{A:Around}{E:XQ}{Q:XQ}{c:Value}{b:Bool}
inductive TyOf (K:Y00)(H:Hp):V->Value->Prop where
 | non:TyOf K H .non (.type "NoneType")
 | bl (x:Bool):TyOf K H (.bl x) (.type "bool")
 | int (i:Int):TyOf K H (.int i) (.type "int")
 | str (x:Str):TyOf K H (.str x) (.type "str")
 | flt (x:UInt64):TyOf K H (.flt x) (.type "float")
 | lst {a:Addr}{xs:List V} (e:H a=some (.lst xs)):TyOf K H (.ref a) (.type "list")
 | frz {a:Addr}{o:Obj}{xs:List V} (e:H a=some (.frz o (.lst xs))):TyOf K H (.ref a) (.type "list")
 | tup {a:Addr}{xs:List V} (e:H a=some (.tup xs)):TyOf K H (.ref a) (.type "tuple")
 | dK {a:Addr}{kvs:List (Key×V)} (e:H a=some (.dK kvs)):TyOf K H (.ref a) (.type "dict")
 | dT {a:Addr}{kvs:List (List Key×V)} (e:H a=some (.dT kvs)):TyOf K H (.ref a) (.type "dict")
 | ins {a C dx:Addr}{fs:List (Str×V)} (e:H a=some (.ins C dx fs)) (cl:Cls K C) (ha:PySem.W.findIn K (.ref C) "__class__"=some (some (.builtin "object.__class__")))
   (hn:PySem.W.specialIn K (.builtin "object.__class__") "__get__"=some (some (.builtin "getset_descriptor.__get__"))) (htk:PySem.W.takesIn K (.builtin "object.__class__")=some true)
   (hm:PySem.W.mroIn K C (.type "object")=some true):TyOf K H (.ref a) (.ref C)
theorem qU {x:V}{u t:Value}(I:104)(rx:RelV x u)(ty:TyOf X.K H x t)(e:PySem.W.kitOne X.K t c=some b)(h:∀ tk,Q (.bool b) { s with toks:=tk }) :
  wpAny 105 A (call (.builtin "isinstance") [u,c]) Q E s:=by
 cases ty with
 | non=>cases (show u=Value.none from rx);exact Y13 PySem.W.kitx_none I.kIn True.intro e (λ z=>nomatch z) h
 | bl y=>cases (show u=Value.bool y from rx);exact Y13 PySem.W.kitx_bool I.kIn True.intro e (λ z=>nomatch z) h
 | int i=>obtain ⟨t,q⟩:=(show ∃ t,u=Value.int i t from rx);cases q;exact Y13 PySem.W.kitx_int I.kIn True.intro e (λ z=>nomatch z) h
 | str y=>obtain ⟨t,q⟩:=(show ∃ t,u=Value.str y t from rx);cases q;exact Y13 PySem.W.kitx_str I.kIn True.intro e (λ z=>nomatch z) h
 | flt y=>obtain ⟨t,q⟩:=(show ∃ t,u=Value.float y t from rx);cases q;exact Y13 PySem.W.kitx_float I.kIn True.intro e (λ z=>nomatch z) h
 | @lst a xs ea =>
  cases (show u=Value.ref a from rx);obtain ⟨_,_,n,_,h1⟩:=(show ObjOk X.prog X.w H s.heap a (.lst xs) from I.hok a _ ea);exact Y13 Y2q I.kIn ⟨_,h1,rfl⟩ e (λ z=>nomatch z) h
 | @frz a ob xs ea =>
  cases (show u=Value.ref a from rx);obtain ⟨_,_,_,n,_,h1⟩:=(show ObjOk X.prog X.w H s.heap a (.frz ob (.lst xs)) from I.hok a _ ea);exact Y13 Y2q I.kIn ⟨_,h1,rfl⟩ e (λ z=>nomatch z) h
 | @tup a xs ea =>
  cases (show u=Value.ref a from rx);obtain ⟨_,_,_,p⟩:=(show ObjOk X.prog X.w H s.heap a (.tup xs) from I.hok a _ ea);obtain ⟨o,h1,h2,_⟩:=p;exact Y13 PySem.W.kitx_tuple I.kIn ⟨o,h1,h2⟩ e (λ z=>nomatch z) h
 | @dK a kvs ea =>
  cases (show u=Value.ref a from rx);obtain ⟨_,_,vs,_,p⟩:=(show ObjOk X.prog X.w H s.heap a (.dK kvs) from I.hok a _ ea);obtain ⟨o,es,ep,h1,h2,_⟩:=p;exact Y13 PySem.W.kitx_dict I.kIn ⟨o,h1,h2.1⟩ e (λ z=>nomatch z) h
 | @dT a kvs ea =>
  cases (show u=Value.ref a from rx);obtain ⟨_,_,xs,_,o,es,ep,h1,h2,_⟩:=(show ObjOk X.prog X.w H s.heap a (.dT kvs) from I.hok a _ ea);exact Y13 PySem.W.kitx_dict I.kIn ⟨o,h1,h2.1⟩ e (λ z=>nomatch z) h
 | @ins a C dx fs ea cl ha hn htk hm =>
  cases (show u=Value.ref a from rx);obtain ⟨mA,O,_⟩:=BX I.hok ea;obtain ⟨od,J,_⟩:=O.look;exact Y13 (PySem.W.kitx_own (cl.get _) cl.hd ha hn htk hm) I.kIn J e (λ z=>nomatch z) h
end
structure Room (k:Nat)(A:Around):Prop where
 hd:A.handled=none
 dp:A.depth+3*k+5<recursionLimit
 un:A.units+16*k+200<cLine
theorem Room.mono {j k:Nat}{A:Around}(r:Room k A)(h:j<=k):Room j A:=⟨r.hd,by have:=r.dp;omega,by have:=r.un;omega⟩
theorem Room.deeper {k:Nat}{A:Around}(r:Room (k+1) A)(env:Env):Room k (A.deeper env) :=
 ⟨r.hd,by have:=r.dp;show A.depth+1+3*k+5<_;omega,by have:=r.un;show A.units+3+16*k+200<_;omega⟩
theorem Room.depth {k:Nat}{A:Around}(r:Room k A):A.depth<recursionLimit:=by have:=r.dp;omega
theorem Room.units {k:Nat}{A:Around}(r:Room k A):A.units+64<cLine:=by have:=r.un;omega
def z95:TA:=λ _ H Q=>Q [] H
def z2r (ta:TE)(tr:TA):TA:=λ σ H Q=>ta σ H λ x H1=>tr σ H1 λ xs H2=>Q (x::xs) H2
section
variable {X:Cx}{e:Expr}{es:List Expr}{te:TE}{t:TA}{pos:Pos}
theorem zK:PA X [] z95:=λ _ _ _ _ H Q I h=>Calls.spliced_nil ⟨[],H,I,.nil,h⟩
theorem zq (ha:PE X e te)(hr:PA X es t)(hs:starEach (e::es) X.env=(false,eval e X.env)::starEach es X.env:=by rfl):PA X (e::es) (z2r te t):=by
 intro pos pins s σ H Q I h;rw [hs];show wpAny _ _ (spliced ((false,eval e X.env)::backTo pos (starEach es X.env))) _ _ s;refine Calls.spliced_cons (thn (ha pins s σ H _ I h) λ u s1 ⟨x,H1,I1,r1,q1⟩=>?_);exact thn (hr pos pins s1 σ H1 _ I1 q1) λ us s2 ⟨xs,H2,I2,r2,q2⟩=>⟨x::xs,H2,I2,.cons r1 r2,q2⟩
def z96 (t:TA):TE:=λ σ H Q=>t σ H λ xs H1=>xs.length<=sizeLine/\∀ p,H1 p=none->Q (.ref p) (upd H1 p (.tup xs))
def z97 (t:TA):TE:=λ σ H Q=>t σ H λ xs H1=>xs.length<=sizeLine/\∀ p,H1 p=none->Q (.ref p) (upd H1 p (.lst xs))
theorem z4c {x1}(h:PA X es t):PE X (.Tuple es x1 pos) (z96 t):=by
 intro pins s σ H Q I hq;refine wpAny_Tuple_spliced (thn (h pos pins s σ H _ I hq) λ us s1 ⟨xs,H1,I1,r,z,q⟩=>⟨by rw [<- r.length];exact z,?_⟩);have hf:H1 s1.heap.objs.size=none:=I1.hok.fresh (Y0a _);refine ⟨.ref s1.heap.objs.size,upd H1 s1.heap.objs.size (.tup xs),I1.laid (t':=s1.toks) (λ b u e=>Y05 _ e) (Y0a _) ?_,rfl,q _ hf⟩;exact ⟨z,us,r,⟨_,Y0n _ rfl,rfl,_,rfl⟩⟩
theorem Ww (h:PA X es t):PE X (.List es pos) (z97 t):=by
 intro pins s σ H Q I hq;refine wpAny_List_spliced (thn (h pos pins s σ H _ I hq) λ us s1 ⟨xs,H1,I1,r,z,q⟩=>⟨by rw [<- r.length];exact z,?_⟩);have hf:H1 s1.heap.objs.size=none:=I1.hok.fresh (Y0a _);refine ⟨.ref s1.heap.objs.size,upd H1 s1.heap.objs.size (.lst xs),I1.laid (t':=s1.toks) (λ b u e=>Y05 _ e) (Y0a _) ?_,rfl,q _ hf⟩;exact ⟨z,us,0,r,Y0n _ rfl⟩
end
abbrev Sp:=List V->Hp->VK->XK->Prop
abbrev CXT:=List Env->Hp->Shared->XK->Value->Shared->Prop
structure Env0 (P:XJ)(w:World)(K:Y00)(mg:XZ)(base:Heap)(A:Around)(outer:List Env)(s:Shared)(H:Hp):Prop where
 frames:A.frames=some outer
 mod:Mod K mg base
 bs:∀ b o,base.get? b=some o->s.heap.get? b=some o/\H b=none
 bsz:base.objs.size<=s.heap.objs.size
 funs:s.heap.FunFrames base outer
 frf:∀ b∈frs outer,H b=none
 hok:HOk P w H s.heap
 bare:AllBare s.gens
def CE (outer:List Env)(P:XJ)(w:World)(H:Hp)(s:Shared)(Q:VK)(u:Value)(s':Shared):Prop :=
 ∃ v H',s'.os=s.os/\AllBare s'.gens/\Un (frs outer) [] H H' s.heap s'.heap/\HOk P w H' s'.heap/\RelV v u/\Q v H'
def CR (CX:CXT)(outer:List Env)(P:XJ)(w:World)(H:Hp)(s:Shared)(Q:VK)(E:XK)(r:Result)(s':Shared):Prop :=
 match r with
 | .ok (.ret u)=>CE outer P w H s Q u s'
 | .ok _=>False
 | .error e=>CX outer H s E e s'
structure FnOk (P:XJ)(w:World)(K:Y00)(mg:XZ)(base:Heap)(CX:CXT)(k:Nat)(f:Addr)(fd:FuncData)(ps:XU)(sp:Sp):Prop where
 len:∀ vs H Q E,sp vs H Q E->vs.length=ps.length
 run:∀ (A:Around) (outer:List Env) (s:Shared) (H:Hp) (args:Args) (us:XW) (vs:List V) (Q:VK) (E:XK),Room k A->Env0 P w K mg base A outer s H->BindsTo s fd args (ps.zip us)->Vals vs us->sp vs H Q E ->
  codeAny (model P w) A (.call (.ref f) args) (CR CX outer P w H s Q E) s
section
variable {X:Cx}{pins:106}{σ:St}{H:Hp}{s s':Shared}
theorem Inv.env0 (I:104):Env0 X.prog X.w X.K X.mg X.base X.A X.stack s H :=
 ⟨I.ok.frames,I.ok.mod,I.bs,Y0j I.ok.bsz I.sz,I.stack,I.stkFree,I.hok,I.bare⟩
theorem Inv.after {Q:VK}{u:Value}(I:104)(h:CE X.stack X.prog X.w H s Q u s'):EP X pins σ Q u s':=by
 obtain ⟨v,H',os,bare,un,hok,r,q⟩:=h;obtain ⟨hh,g,d,t,os'⟩:=s';obtain rfl:os'=s.os:=os;exact ⟨v,H',I.call (h':=hh) (g':=g) (d':=d) (t':=t) (ch:=[]) un hok bare (λ b z=>absurd z 110),r,q⟩
end
def Binds (K:Y00)(fd:FuncData)(ps:XU)(ds:XW):Prop :=
 ∀ (s:Shared) (us:XW),K.In s.heap->(us++ds).length=ps.length->BindsTo s fd ⟨us,[]⟩ (ps.zip (us++ds))
theorem Binds.all {K:Y00}{fd:FuncData}{ps:XU}(h:∀ us:List Value,us.length=ps.length->bindArgs fd ⟨us,[]⟩=pure (ps.zip us)):Binds K fd ps []:=λ s us _ hl=>by
 rw [Y0x] at hl ⊢;exact .of_eq (h us hl)
section
variable {X:Cx}{CX:CXT}{k:Nat}{f C:Addr}{fd:FuncData}{ps:XU}{sp:Sp}{dvs:List V}{ds:XW}{E:XK}{x m:Str}{p pos apos:Pos}{e o:Expr}{es:List Expr}{ta:TE}{t:TA}
structure Mk (K:Y00)(C f:Addr):Prop where
 makes:PySem.W.makesIn K C=true
 init:PySem.W.findIn K (.ref C) "__init__"=some (some (.ref f))
 fn:PySem.W.isFn K (.ref f)=true
 kp:PySem.W.keepIn K (.ref C)=true
end
section
variable {X:Cx}{CX:CXT}{k:Nat}{f C:Addr}{fd:FuncData}{ps ks:XU}{sp:Sp}{E:XK}{x m:Str}{p pos apos kpos:Pos}{e o:Expr}{es:List Expr}{kws:List Keyword}{te ta:TE}{t tk:TA}{nm:XX}
structure KBinds (K:Y00)(fd:FuncData)(ps ks:XU)(g:List Value->List Value->List Value)(gV:List V->List V->List V):Prop where
 to:∀ (s:Shared) (us ws:XW),K.In s.heap->(g us ws).length=ps.length->BindsTo s fd ⟨us,ks.zip ws⟩ (ps.zip (g us ws))
 rel:∀ {vs:List V}{us:XW}{zs:List V}{ws:XW},Vals vs us->Vals zs ws->Vals (gV vs zs) (g us ws)
variable {g:List Value->List Value->List Value}{gV:List V->List V->List V}
end
structure FnScope (N P:XU)(sc:Scope):Prop where
 kind:sc.kind=.function
 co:sc.isCoroutine=false
 gen:sc.isGenerator=false
 nd:N.Nodup
 pre:N.take P.length=P
 par:∀ x∈P,sc.names.lookup x=some .local\/sc.names.lookup x=some .cell
 nofree:∀ y∈sc.names,y.2≠.free
theorem JY {kindOf:Str->Option NameKind}{x:Str}:∀ {binds:List (Str×Value)}{m:XZ},(∀ v,(x,v)∉binds)->bindL kindOf binds m x=m x
 | [],_,_=>rfl
 | (n,v)::r,m,h=>by
  unfold bindL;rw [JY λ w hw=>h w (Y04 _ hw)]
  split
  ·have:x≠n:=by rintro rfl;exact h v Y06
   simp [this]
  ·rfl
theorem JZ {kindOf:Str->Option NameKind}{x:Str}:∀ {binds:List (Str×Value)}{m:XZ},(∀ v,(x,v)∉binds)->bindC kindOf binds m x=m x
 | [],_,_=>rfl
 | (n,v)::r,m,h=>by
  unfold bindC;rw [JZ λ w hw=>h w (Y04 _ hw)]
  split
  ·rfl
  ·have:x≠n:=by rintro rfl;exact h v Y06
   simp [this]
theorem W0 {kindOf:Str->Option NameKind}{x:Str}{v:Value}:∀ {P:XU}{vs:XW}{i:Nat}{m:XZ},P.Nodup->P[i]?=some x->vs[i]?=some v->kindOf x=some .local ->
  bindL kindOf (P.zip vs) m x=some v
 | [],_,_,_,_,h,_,_=>by simp at h
 | _::_,[],_,_,_,_,h,_=>by simp at h
 | p::P,w::vs,0,m,nd,h1,h2,hk=>by
  simp at h1 h2;subst h1;subst h2;show bindL kindOf ((p,w)::P.zip vs) m p=_;unfold bindL;rw [JY λ v hv=>(Y1x.mp nd).1 (List.of_mem_zip hv).1,if_pos hk];simp
 | p::P,w::vs,i+1,m,nd,h1,h2,hk=>by
  show bindL kindOf ((p,w)::P.zip vs) m x=_;unfold bindL;exact W0 (i:=i) (Y1x.mp nd).2 (by simpa using h1) (by simpa using h2) hk
theorem W3 {kindOf:Str->Option NameKind}{x:Str}{v:Value}:∀ {P:XU}{vs:XW}{i:Nat}{m:XZ},P.Nodup->P[i]?=some x->vs[i]?=some v->kindOf x≠some .local ->
  bindC kindOf (P.zip vs) m x=some v
 | [],_,_,_,_,h,_,_=>by simp at h
 | _::_,[],_,_,_,_,h,_=>by simp at h
 | p::P,w::vs,0,m,nd,h1,h2,hk=>by
  simp at h1 h2;subst h1;subst h2;show bindC kindOf ((p,w)::P.zip vs) m p=_;unfold bindC;rw [JZ λ v hv=>(Y1x.mp nd).1 (List.of_mem_zip hv).1,if_neg hk];simp
 | p::P,w::vs,i+1,m,nd,h1,h2,hk=>by
  show bindC kindOf ((p,w)::P.zip vs) m x=_;unfold bindC;exact W3 (i:=i) (Y1x.mp nd).2 (by simpa using h1) (by simpa using h2) hk
def start (N:XU)(vs:List V):St:=vs.map some++List.replicate (N.length-vs.length) none
def Wx (CX:CXT)(P:XJ)(w:World)(K:Y00)(mg:XZ)(base:Heap)(N:XU)(qual:Str)(scope:Scope)(f:Addr)(cd:Value)(A:Around)(outer:List Env)(s:Shared)(H:Hp)(E:XK):Cx where
 prog:=P
 w:=w
 K:=K
 mg:=mg
 base:=base
 A:=A.deeper (envOfC qual scope s.heap.objs.size f cd)
 N:=N
 s₀:=s
 H₀:=H
 env:=envOfC qual scope s.heap.objs.size f cd
 outer:=outer
 stack:=envOfC qual scope s.heap.objs.size f cd::outer
 ex:=[]
 calm:=true
 fn:=λ _=>true
 pn:=[]
 xe:=λ e s'=>wpAny (model P w) (A.deeper (envOfC qual scope s.heap.objs.size f cd)) (leaving (envOfC qual scope s.heap.objs.size f cd) e) (λ _ s''=>CX outer H s E e s'') (λ e' s''=>CX outer H s E e' s'') s'
theorem QE {sc:Scope}{n:Nat}{x:Str}(h:sc.names.lookup x=some .cell):∃ c,(cellsFrom n sc.names []).lookup x=some c:=by
 have q:=Y1s sc.names n [] (.inl h);exact Y27.mp q
theorem Vx {CX:CXT}{P:XJ}{w:World}{K:Y00}{mg:XZ}{base:Heap}{N ps:XU}{qual:Str}{scope:Scope}{f:Addr}{cd:Value}{A:Around}{outer:List Env}{s s1:Shared}{H:Hp}{E:XK}{us:XW}{vs:List V}
  (S:FnScope N ps scope) (hd:A.handled=none) (e0:Env0 P w K mg base A outer s H) (hl:vs.length=ps.length) (r:Vals vs us)
  (x:InCallC s s.heap.objs.size (bindL (envOfC qual scope s.heap.objs.size f cd).kindOf (ps.zip us) λ _=>none) (cellsFrom (s.heap.objs.size+1) scope.names []) (bindC (envOfC qual scope s.heap.objs.size f cd).kindOf (ps.zip us) λ _=>none) s1) :
  Inv (Wx CX P w K mg base N qual scope f cd A outer s H E) [] (start N vs) H s1:=by
 have hpl:ps.length<=N.length:=by have:=congrArg List.length S.pre;rw [Y1r] at this;omega
 obtain ⟨h1,tk,rfl,hk⟩:=x.done;have noA:∀ b:Addr,b∉(Wx CX P w K mg base N qual scope f cd A outer s H E).ex:=λ b z=>absurd (show b∈([]:List Addr) from z) 110;refine ⟨⟨e0.mod,S.kind,rfl,rfl,Y0a _,λ y z c h1 h2=>?_,λ y hy=>?_,λ y c _ h=>?_,λ _=>hd,Around.frames_deeper e0.frames,.inr ⟨rfl,rfl⟩,λ b z=>absurd z (noA b),e0.bs,e0.bsz,λ b _ _=>noA b,λ b z=>absurd z (noA b),e0.funs,e0.frf⟩,
  rfl,e0.bare,Un.kept hk,⟨_,x.toInCall.ns,λ i y v h1 h2 h3=>?_⟩,λ y c h=>⟨_,x.cell y c h⟩,e0.hok.fresh (Y0a _),λ y c h=>?_,λ p hp=>absurd (show p∈([]:List (Addr×Obj)) from hp) 110,e0.hok.kept hk,?_⟩
 ·exact name_of_addr x.apart (Y10 h1) (Y10 h2)
 ·have hy:scope.names.lookup y=some .cell\/scope.names.lookup y=some .free:=hy;rcases hy with hy | hy
  ·exact QE hy
  ·exact absurd rfl (S.nofree _ (Y10 hy))
 ·exact Y28 (x.above y c (Y10 h))
 ·have hi:i<vs.length:=by
   unfold start at h2;by_cases hi:i<vs.length
   ·exact hi
   ·rw [Y0m (by simpa using hi)] at h2;rw [List.getElem?_replicate] at h2;split at h2<;>cases h2
  have ha:vs[i]?=some v:=by
   unfold start at h2;rw [Y12 (by simpa using hi),Y0u] at h2;cases e:vs[i]? with
   | none=>rw [e] at h2;cases h2
   | some a=>rw [e] at h2;cases h2;rfl
  obtain ⟨u,hu,rv⟩:=r.get ha;have hp:ps[i]?=some y:=by
   rw [<- S.pre,List.getElem?_take_of_lt 103];exact h1
  have ndP:ps.Nodup:=by rw [<- S.pre];exact S.nd.sublist (Y3d _ _)
  refine ⟨u,rv,?_⟩;rcases S.par y (Y0y hp) with k | k
  ·exact .inl ⟨k,W0 ndP hp hu k⟩
  ·obtain ⟨c,e⟩:=QE (n:=s.heap.objs.size+1) k;refine .inr ⟨.inl k,c,e,?_⟩;have q:=x.cell y c e;rw [W3 ndP hp hu (by show scope.names.lookup y≠_;rw [k];decide)] at q;exact q
 ·exact e0.hok.fresh (Y28 (x.above y c (Y10 h)))
 ·unfold start;show _=N.length;rw [Y0k,Y09,List.length_replicate];omega
theorem z77 {CX:CXT}{P:XJ}{w:World}{K:Y00}{mg:XZ}{base:Heap}{k:Nat}{f:Addr}{name qual:Str}{params:Arguments}{body:List Stmt}{scope:Scope}{dV kV doc pm cdv ct oc:Value}{an od:Option Addr}
  {osl:Array (Option Value)}{N ps:XU}{sp:Sp} (lk:K.lookup f=some ⟨oc,od,.func (PySem.W.fnOf name qual params body scope dV kV doc pm an cdv ct),osl⟩) (hcd:PySem.W.codeIn K cdv qual=true) (S:FnScope N ps scope)
  (len:∀ vs H Q E,sp vs H Q E->vs.length=ps.length)
  (hbody:∀ (A:Around) (outer:List Env) (s:Shared) (H:Hp) (vs:List V) (Q:VK) (E:XK),Room k (A.deeper (envOfC qual scope s.heap.objs.size f cdv))->sp vs H Q E ->
   ∃ t,PSs (Wx CX P w K mg base N qual scope f cdv A outer s H E) body t/\t { nx:=λ _ H'=>Q .non H',rt:=Q } (start N vs) H) :
  FnOk P w K mg base CX (k+1) f (PySem.W.fnOf name qual params body scope dV kV doc pm an cdv ct) ps sp:=by
 refine ⟨len,λ A outer s H args us vs Q E hr e0 hb r hsp=>?_⟩;have hl:=len _ _ _ _ hsp;have KX:K.In s.heap:=e0.mod.kin.keeps λ b o e=>(e0.bs b o e).1;have lim:s.heap.NoLimit:=e0.mod.nolimit.keeps λ b o e=>(e0.bs b o e).1;have hkind:∀ y∈ps.zip us,scope.names.lookup y.1=some .local\/(scope.names.lookup y.1=some .cell/\((cellsFrom (s.heap.objs.size+1) scope.names []).lookup y.1).isSome=true):=λ ⟨n,v⟩ hy=>by
  rcases S.par n (List.of_mem_zip hy).1 with q | q
  ·exact .inl q
  ·exact .inr ⟨q,Y1s _ _ _ (.inl q)⟩
 refine codeAny_call_function hr.depth (KX _ _ lk) rfl S.co S.gen rfl (PySem.W.codeRec_of KX hcd) (hb _ _ _ _ ?_);refine wpAny_newFunctionEnv_cells S.kind hkind λ env he s1 x=>?_;subst he;refine ⟨lim.keeps x.toInCall.keep,codeAny_func ?_⟩;obtain ⟨t,ht,hq⟩:=hbody A outer s H vs Q E (hr.deeper _) hsp;have I:Inv (Wx CX P w K mg base N qual scope f cdv A outer s H E) [] (start N vs) H s1:=Vx S hr.hd e0 hl r x;refine wpAny_mono (ht [] s1 (start N vs) H _ I hq) (λ fl s' hs=>?_) λ e s' hs=>hs;have fin:∀ {σ':St}{H':Hp}{v:V}{u:Value},Inv (Wx CX P w K mg base N qual scope f cdv A outer s H E) [] σ' H' s'->RelV v u->Q v H'->CE outer P w H s Q u s' :=
  λ {σ' H' v u} J rv q=>⟨v,H',J.os,J.bare,J.base,J.hok,rv,q⟩
 cases fl with
 | ret u =>
  obtain ⟨v,σ',H',J,rv,q⟩:=hs;exact fin J rv q
 | next =>
  obtain ⟨σ',H',J,q⟩:=hs;exact fin (v:=V.non) (u:=Value.none) J rfl q
 | brk =>
  obtain ⟨_,_,_,q⟩:=hs;exact False.elim q
 | cont =>
  obtain ⟨_,_,_,q⟩:=hs;exact False.elim q
section
variable {X:Cx}{x:Str}{p pos:Pos}{e:Expr}{es:List Expr}{t:TA}{id T:String}{r:List V->Hp->VK->Prop}
def tCB (r:List V->Hp->VK->Prop)(t:TA):TE:=λ σ H Q=>t σ H λ vs H1=>r vs H1 Q
theorem jQ (hc:jb X (.builtin id) r) (hg:Gl X x) (hm:X.mg x=none) (hv:bootBuiltins x=some (.builtin id)) (ha:PA X (e::es) t) (hn:x≠"__name__":=by decide) (hdb:125=false:=by decide)
  (he:starEach (e::es) X.env=(false,eval e X.env)::starEach es X.env:=by rfl) (hpl:(backTo pos (starEach es X.env)).any (·.1)=false:=by rfl):PE X (.Call (.Name x p) (e::es) [] pos) (tCB r t):=by
 intro pins s σ H Q I h;refine wpAny_Call_Name_kw (ye I hg hm hv ?_ hn hdb);exact PyProof.Rows.callWith_builtin1 (thn (ha pos pins s σ H _ I h) λ us s1 ⟨vs,H1,I1,r1,q1⟩=>hc pins s1 σ H1 vs us Q I1 r1 q1) he hpl
theorem wL (hc:jb X (.type T) r) (hg:Gl X x) (hm:X.mg x=none) (hv:bootBuiltins x=some (.type T)) (ha:PA X (e::es) t) (hn:x≠"__name__":=by decide) (hdb:125=false:=by decide)
  (he:starEach (e::es) X.env=(false,eval e X.env)::starEach es X.env:=by rfl) (hpl:(backTo pos (starEach es X.env)).any (·.1)=false:=by rfl):PE X (.Call (.Name x p) (e::es) [] pos) (tCB r t):=by
 intro pins s σ H Q I h;refine wpAny_Call_Name_kw (ye I hg hm hv ?_ hn hdb);exact Y1g (thn (ha pos pins s σ H _ I h) λ us s1 ⟨vs,H1,I1,r1,q1⟩=>hc pins s1 σ H1 vs us Q I1 r1 q1) he hpl
end
end L2
namespace HT
open PySem PyProof.Rows
section
variable {prog:XJ}{w:World}{A:Around}{E:XQ}{s:Shared}
theorem cat_tup {t b:Addr}{vs ws:XW}{Q:XQ}(ht:IsTup s.heap t vs.toArray)(hb:IsTup s.heap b ws.toArray)(hv:vs≠[])
  (h1:ws=[]->Q (.ref t) s) (h2:ws≠[]->Q (.ref s.heap.objs.size) { s with heap:=s.heap.push { cls:=.type "tuple",data:=.seq (vs++ws).toArray } })
  (hsz:vs.length+ws.length<=sizeLine):wpAny 123 A (binaryOp .Add (.ref t) (.ref b)) Q E s:=by
 obtain ⟨⟨cls,dd,data,sl⟩,ho,hc,n,hd⟩:=id ht;obtain ⟨⟨cls2,dd2,data2,sl2⟩,ho2,hc2,n2,hd2⟩:=id hb;simp only at hc hd hc2 hd2;subst hc hd hc2 hd2;have e:vs.toArray++ws.toArray=(vs++ws).toArray:=by simp
 by_cases hw:ws=[]
 ·exact concat_meets ⟨_,ho,rfl⟩ ⟨_,ho2,rfl⟩ noFill_tuple_add seq_tuple_add Y2w Y2t (Y2r _ _)
   (tuple_addW1 t b vs.toArray ws.toArray n n2 dd dd2 sl sl2 (by simpa using hv) (by simp [hw])) ⟨ho,ho2,h1 hw⟩
 ·refine concat_meets ⟨_,ho,rfl⟩ ⟨_,ho2,rfl⟩ noFill_tuple_add seq_tuple_add Y2w Y2t (Y2r _ _)
   (tuple_addW2 t b vs.toArray ws.toArray n n2 dd dd2 sl sl2 (by simpa using hv) (by simpa using hw) (by rw [Y08,Y08];exact hsz)) ⟨ho,ho2,?_⟩
  rw [e];exact h2 hw
def sIx (n d:Nat):Option Int->Nat
 | none=>d
 | some v=>if v<0 then (v+(n:Int)).toNat else min v.toNat n
theorem zX (n d:Nat):sIx n d none=d:=rfl
theorem z4d (n d:Nat)(hd:d<=n)(o:Option Int):sIx n d o<=n:=by
 cases o with
 | none=>exact hd
 | some v =>
  show (if v<0 then (v+(n:Int)).toNat else min v.toNat n)<=n;by_cases hv:v<0
  ·rw [if_pos hv];omega
  ·rw [if_neg hv];exact Nat.min_le_right _ _
theorem Uv (v:Int)(n d:Nat):(if v<0 then max (v+(n:Int)) 0 else min v (n:Int))=((sIx n d (some v):Nat):Int):=by
 show (if v<0 then max (v+(n:Int)) 0 else min v (n:Int))=(((if v<0 then (v+(n:Int)).toNat else min v.toNat n):Nat):Int);by_cases hv:v<0
 ·simp only [if_pos hv];omega
 ·simp only [if_neg hv];omega
theorem Yw (lo hi:Option Int)(n:Nat):Builtin.Slice.sliceAdjust lo hi 1 (n:Int)=(((sIx n 0 lo:Nat):Int),((sIx n n hi:Nat):Int)):=by
 have h1:¬ ((1:Int)<0):=by omega
 unfold Builtin.Slice.sliceAdjust;simp only [h1,if_false];refine Prod.ext ?_ ?_
 ·cases lo with
  | none=>rfl
  | some v=>exact Uv v n 0
 ·cases hi with
  | none=>rfl
  | some v=>exact Uv v n n
theorem Yx (i j:Nat):Builtin.Slice.slicePlaces (i:Int) (j:Int) 1=j-i:=by
 unfold Builtin.Slice.slicePlaces;have h1:(1:Int) > 0:=by omega
 simp only [h1,if_true,Int.ediv_one]
 split<;>omega
theorem ZG {v:Value}{o:Option Int}{Q:Option Int->Shared->Prop}(p:IsPart v o)(h:Q o s):wpAny 123 A (Builtin.Slice.slicePartIndex v) Q E s:=by
 cases p with
 | none=>exact slicePart_none h
 | int i t=>exact slicePart_int h
theorem wM {sl:Addr}{vl vu:Value}{lo hi:Option Int}{n:Nat}{Q:Int×Int×Nat->Shared->Prop}(hs:s.heap.IsSliceOf sl vl vu .none)(pl:IsPart vl lo)(pu:IsPart vu hi)
  (h:Q (((sIx n 0 lo:Nat):Int),1,sIx n n hi-sIx n 0 lo) s):wpAny 123 A (Builtin.Slice.sliceApplied (.ref sl) (pure (n:Int))) Q E s:=by
 obtain ⟨os,hos,hcs,hds⟩:=id hs;unfold Builtin.Slice.sliceApplied Builtin.Slice.sliceFields;refine wpAny_bind (wpAny_bind (wpAny_field hos hds (x:=vl) rfl (wpAny_bind (wpAny_field hos hds (x:=vu) rfl (wpAny_bind (wpAny_field hos hds (x:=.none) rfl (wpAny_pure ?_)))))));refine wpAny_bind (slicePart_none ?_);show wpAny _ _ (if ((1:Int)==0)=true then _ else _) _ _ s;rw [if_neg 102];refine wpAny_bind (ZG pl (wpAny_bind (ZG pu (wpAny_bind (wpAny_pure ?_)))));show wpAny _ _ (match Builtin.Slice.sliceAdjust lo hi 1 (n:Int) with | (lo,hi)=>pure (lo,(1:Int),Builtin.Slice.slicePlaces lo hi 1)) _ _ s
 rw [Yw lo hi n];show wpAny _ _ (pure (((sIx n 0 lo:Nat):Int),(1:Int),Builtin.Slice.slicePlaces ((sIx n 0 lo:Nat):Int) ((sIx n n hi:Nat):Int) 1)) _ _ s;rw [Yx];exact wpAny_pure h
theorem GJ (xs:Array Value)(i k:Nat):((List.range k).filterMap λ (m:Nat)=>xs[((i:Int)+(m:Int)*1).toNat]?).toArray=((xs.toList.drop i).take k).toArray:=by
 have e:(λ (m:Nat)=>xs[((i:Int)+(m:Int)*1).toNat]?)=λ m=>xs[i+m]?:=by
  funext m
  have:((i:Int)+(m:Int)*1).toNat=i+m:=by omega
  rw [this]
 rw [e]
 have:=pick_run xs i k
 rw [Y2c] at this;have e2:((λ x=>xs[x]?)∘λ x=>i+x)=λ m=>xs[i+m]?:=rfl;rw [e2] at this;rw [this]
theorem getItem_tuple_cut {t sl:Addr}{items:Array Value}{vl vu:Value}{lo hi:Option Int}{Q:XQ}(ht:IsTup s.heap t items)(hs:s.heap.IsSliceOf sl vl vu .none)(pl:IsPart vl lo)(pu:IsPart vu hi)
  (hw:¬ (sIx items.size 0 lo=0/\sIx items.size items.size hi=items.size))
  (h:Q (.ref s.heap.objs.size) { s with heap:=s.heap.push { cls:=.type "tuple",data:=.seq ((items.toList.drop (sIx items.size 0 lo)).take (sIx items.size items.size hi-sIx items.size 0 lo)).toArray } })
  (hsz:items.size<=sizeLine):wpAny 123 A (getItem (.ref t) (.ref sl)) Q E s:=by
 have htake:sizeOk (.seq ((items.toList.drop (sIx items.size 0 lo)).take (sIx items.size items.size hi-sIx items.size 0 lo)).toArray):=by
  show ((items.toList.drop (sIx items.size 0 lo)).take (sIx items.size items.size hi-sIx items.size 0 lo)).toArray.size<=sizeLine;rw [Y08,Y1r,Y1j,Y1q];omega
 have hj:sIx items.size items.size hi<=items.size:=z4d _ _ (Y0a _) hi;obtain ⟨os,hos,hcs,hds⟩:=id hs;have hTs:s.TypeIs (.ref sl) "slice":=⟨os,hos,hcs⟩;unfold getItem
 try with_reducible refine wpAny_holding ?_
 first | refine wpAny_bind (wpAny_pure ?_) | skip
 refine wpAny_bind (wpAny_sequenceKey ht.typeIs 102 ?_);refine wpAny_bind (wpAny_callSpecial?_slot (name:=Str.ofString "__getitem__") ht.typeIs Y1n
  (wpAny_call_entry Y1n ht.typeIs entry_tuple_getitem ?_ (args_tuple_getitem _ _)))
 show wpAny _ _ (Builtin.Tuple.tupleItemsOf (.ref t) >>= _) _ _ s;refine wpAny_bind (tupleItemsOf_ ht ?_);refine wpAny_bind (wpAny_typeOf hTs ?_);rw [if_pos 102];refine wpAny_bind (wM hs pl pu ?_);have hno:¬ ((((sIx items.size 0 lo:Nat):Int)==0&&(1:Int)==1&&(sIx items.size items.size hi-sIx items.size 0 lo)==items.size)=true):=by
  intro q;rw [Y0c,Y0c] at q;have q1:((sIx items.size 0 lo:Nat):Int)=0:=eq_of_beq q.1.1;have q2:sIx items.size items.size hi-sIx items.size 0 lo=items.size:=eq_of_beq q.2;exact hw ⟨by omega,by omega⟩
 show wpAny _ _ (if (((sIx items.size 0 lo:Nat):Int)==0&&(1:Int)==1&&(sIx items.size items.size hi-sIx items.size 0 lo)==items.size)=true then _ else _) _ _ s;rw [if_neg hno,GJ]
 first
  | exact wpAny_bind (m:=Builtin.Tuple.tupleExact _) (wpAny_newObj_type (wpAny_pure ⟨_,rfl,wpAny_pure h⟩) htake)
  | exact wpAny_bind (m:=Builtin.Tuple.tupleExact _) (wpAny_newObj_type (wpAny_bind (wpAny_pure (wpAny_pure ⟨_,rfl,wpAny_pure h⟩))) htake)
  | exact wpAny_bind (wpAny_bind (m:=Builtin.Tuple.tupleExact _) (wpAny_newObj_type (wpAny_pure (wpAny_pure ⟨_,rfl,wpAny_pure h⟩)) htake))
  | exact wpAny_bind (wpAny_bind (m:=Builtin.Tuple.tupleExact _) (wpAny_newObj_type (wpAny_pure ⟨_,rfl,wpAny_pure h⟩) htake))
end
end HT
namespace L2
open PySem PySem.Spec PyProof.Rows
abbrev TO:=St->Hp->(Option Int->Hp->Prop)->Prop
def PO (X:Cx)(e:Option Expr)(t:TO):Prop :=
 ∀ (pins:106) (s:Shared) (σ:St) (H:Hp) (Q:Option Int->Hp->Prop),Inv X pins σ H s->t σ H Q ->
  wpAny 105 X.A (evalPart e X.env) (λ u s'=>∃ o H',Inv X pins σ H' s'/\IsPart u o/\Q o H') X.xe s
def BY:TO:=λ _ H Q=>Q none H
def z78 (t:TE):TO:=λ σ H Q=>t σ H λ x H1=>∃ i,x=.int i/\Q (some i) H1
section
variable {X:Cx}{e:Expr}{te:TE}{lo hi:Option Expr}{tl th:TO}{pos p2:Pos}
theorem BZ:PO X none BY:=by
 intro pins s σ H Q I h;rw [evalPart_none];exact wpAny_pure ⟨none,H,I,.none,h⟩
theorem z00 (h:PE X e te):PO X (some e) (z78 te):=by
 intro pins s σ H Q I hw;rw [evalPart_some];refine thn (h pins s σ H _ I hw) λ u s1 ⟨x,H1,I1,r1,q1⟩=>?_;obtain ⟨i,rfl,q⟩:=q1;obtain ⟨t,rfl⟩:=r1;exact ⟨some i,H1,I1,.int i t,q⟩
def SlR (X:Cx)(r:V->Option Int->Option Int->Hp->VK->Prop):Prop :=
 ∀ (pins:106) (s:Shared) (σ:St) (H:Hp) (x:V) (v vl vu:Value) (lo hi:Option Int) (sl:Addr) (Q:VK),Inv X pins σ H s->RelV x v->s.heap.IsSliceOf sl vl vu .none->IsPart vl lo->IsPart vu hi->r x lo hi H Q ->
  ∃ T id,typeLookup (.type T) "__getitem__"=pure (some (.builtin id))/\s.TypeIs v T/\wpAny 105 X.A (getItem v (.ref sl)) (EP X pins σ Q) X.xe s
def tSl (r:V->Option Int->Option Int->Hp->VK->Prop)(te:TE)(tl th:TO):TE:=λ σ H Q=>te σ H λ x H1=>tl σ H1 λ l H2=>th σ H2 λ u H3=>r x l u H3 Q
theorem GK {r:V->Option Int->Option Int->Hp->VK->Prop}(hr:SlR X r)(he:PE X e te)(hl:PO X lo tl)(hu:PO X hi th):PE X (.Subscript e (.Slice lo hi none p2) pos) (tSl r te tl th):=by
 intro pins s σ H Q I h;refine Subscript_ (thn (he pins s σ H _ I h) λ v s1 ⟨x,H1,I1,r1,q1⟩=>?_);refine wpAny_Slice (thn (hl pins s1 σ H1 _ I1 q1) λ vl s2 ⟨l,H2,I2,pl,q2⟩=>thn (hu pins s2 σ H2 _ I2 q2) λ vu s3 ⟨u,H3,I3,pu,q3⟩=>?_);rw [evalPart_none];refine wpAny_pure ?_;have I4:Inv X pins σ H3 { s3 with heap:=s3.heap.push { cls:=.type "slice",data:=.fields #[vl,vu,.none] } }:=I3.kept (t':=s3.toks) λ b ob q=>Y05 _ q;obtain ⟨T,id,hT,ht,hg⟩:=hr pins { s3 with heap:=s3.heap.push { cls:=.type "slice",data:=.fields #[vl,vu,.none] } } σ H3 x v vl vu l u s3.heap.objs.size Q I4 r1 (Heap.IsSliceOf.new ..) pl pu q3;show wpAny 105 X.A (subscriptTail e (.Slice lo hi none p2) v (.ref s3.heap.objs.size)) (EP X pins σ Q) X.xe { s3 with heap:=s3.heap.push { cls:=.type "slice",data:=.fields #[vl,vu,.none] } };exact tail_any (ops:=[.ref s3.heap.objs.size,v]) ht hT hg (by with_unfolding_all rfl)
def QF (xs:List V)(lo hi:Option Int):List V:=(xs.drop (HT.sIx xs.length 0 lo)).take (HT.sIx xs.length xs.length hi-HT.sIx xs.length 0 lo)
theorem Z9 (xs:List V)(lo hi:Option Int):(QF xs lo hi).length<=xs.length:=by
 unfold QF;rw [Y1r,Y1j];omega
def z98 (K:Y00):V->Option Int->Option Int->Hp->VK->Prop:=λ x lo hi H Q=>∃ a xs,x=.ref a/\SqT K H a xs /\
 ¬ (HT.sIx xs.length 0 lo=0/\HT.sIx xs.length xs.length hi=xs.length)/\∀ p,H p=none->Q (.ref p) (upd H p (.tup (QF xs lo hi)))
theorem z4e:SlR X (z98 X.K):=by
 intro pins s σ H x v vl vu lo hi sl Q I rx hs pl pu h;obtain ⟨a,xs,rfl,hx,hw,q⟩:=h;cases rx;obtain ⟨its,r,ht,hz⟩:=I.tuple hx;have hlen:its.toArray.size=xs.length:=by rw [Y08];exact r.length.symm
 refine ⟨"tuple",_,PyProof.Rows.slot_tuple_getitem.lookup,ht.typeIs,?_⟩;refine HT.getItem_tuple_cut ht hs pl pu (by rw [hlen];exact hw) ?_ (by rw [hlen];exact hz);rw [hlen];refine ⟨.ref s.heap.objs.size,_,I.laid (t':=s.toks) (o:=.tup (QF xs lo hi)) (λ b ob q=>Y05 _ q) (Y0a _) ?_,rfl,q _ (I.hok.fresh (Y0a _))⟩;exact ⟨Y0j (Z9 xs lo hi) hz,_,(r.drop (HT.sIx xs.length 0 lo)).take (HT.sIx xs.length xs.length hi-HT.sIx xs.length 0 lo),IsTup.new _ _⟩
def z79 (K:Y00):R2:=λ x y H Q=>∃ a b xs ys,x=.ref a/\y=.ref b/\SqT K H a xs/\SqT K H b ys/\xs≠[]/\xs.length+ys.length<=sizeLine /\
 (ys=[]->Q (.ref a) H)/\(ys≠[]->∀ p,H p=none->Q (.ref p) (upd H p (.tup (xs++ys))))
theorem Vals.nil_iff {xs:List V}{us:XW}(r:Vals xs us):us=[] ↔ xs=[]:=by
 cases r with
 | nil=>simp
 | cons _ _=>simp
theorem z01:OpR X (binaryOp .Add) (z79 X.K):=by
 intro pins s σ H x y v u Q I rx ry h;obtain ⟨a,b,xs,ys,rfl,rfl,ha,hb,hx,hz,q1,q2⟩:=h;cases rx;cases ry;obtain ⟨its,r1,p1,_⟩:=I.tuple ha;obtain ⟨its2,r2,p2,_⟩:=I.tuple hb;refine HT.cat_tup p1 p2 (λ z=>hx (r1.nil_iff.mp z)) (λ z=>⟨.ref a,H,I,rfl,q1 (r2.nil_iff.mp z)⟩) (λ z=>?_) (by rw [<- r1.length,<- r2.length];exact hz);refine ⟨.ref s.heap.objs.size,_,I.laid (t':=s.toks) (o:=.tup (xs++ys)) (λ b ob q=>Y05 _ q) (Y0a _) ?_,rfl,q2 (λ w=>z (r2.nil_iff.mpr w)) _ (I.hok.fresh (Y0a _))⟩;exact ⟨by rw [Y0k];exact hz,_,r1.append r2,IsTup.new _ _⟩
end
def ixN (n:Nat)(i:Int):Option Nat:=if 0<=i then (if i<n then some i.toNat else none) else if -(n:Int)<=i then some (i+n).toNat else none
def atI {α:Type}(xs:List α)(i:Int):Option α:=(ixN xs.length i).bind λ j=>xs[j]?
theorem Uw {n:Nat}{i:Int}{j:Nat}(h:ixN n i=some j):seqIndex? i n=some j/\j<n/\-(n:Int)<=i/\i<n:=by
 unfold ixN at h;by_cases h0:0<=i
 ·rw [if_pos h0] at h;by_cases h1:i<n
  ·rw [if_pos h1] at h;have e:i.toNat=j:=Option.some.inj h;exact ⟨by rw [seqIndex_of h0 h1,e],by omega,by omega,h1⟩
  ·rw [if_neg h1] at h;cases h
 ·rw [if_neg h0] at h;by_cases h1:-(n:Int)<=i
  ·rw [if_pos h1] at h;have e:(i+n).toNat=j:=Option.some.inj h;exact ⟨by rw [seqIndex_neg 103 h1,e],by omega,h1,by omega⟩
  ·rw [if_neg h1] at h;cases h
theorem Wy {α:Type}{xs:List α}{i:Int}{v:α}(h:atI xs i=some v):∃ j,seqIndex? i xs.length=some j/\xs[j]?=some v/\j<xs.length/\-(xs.length:Int)<=i/\i<xs.length:=by
 unfold atI at h;cases e:ixN xs.length i with
 | none=>rw [e] at h;cases h
 | some j =>
  rw [e] at h;obtain ⟨h1,h2,h3,h4⟩:=Uw e;exact ⟨j,h1,h,h2,h3,h4⟩
theorem atI_nat {α:Type}{xs:List α}{j:Nat}{v:α}(h:xs[j]?=some v):atI xs (j:Int)=some v:=by
 have hj:j<xs.length:=(Y02.mp h).1;have e:ixN xs.length (j:Int)=some j:=by
  unfold ixN;rw [if_pos 103,if_pos 103];simp
 unfold atI;rw [e];exact h
def Ux (b:Expr):Prop:=∀ o i,subscripted b false o i=operate [o,i] (getItem o i)
def IxR (X:Cx)(r:R2):Prop :=
 ∀ (value slice:Expr) (pins:106) (s:Shared) (σ:St) (H:Hp) (x y:V) (v u:Value) (Q:VK),Inv X pins σ H s->RelV x v->RelV y u->r x y H Q ->
  subscripted slice false v u=operate [v,u] (getItem v u)->wpAny 105 X.A (subscriptTail value slice v u) (EP X pins σ Q) X.xe s
def MtR (X:Cx)(id:String)(r:V->List V->Hp->VK->Prop):Prop :=
 ∀ (pins:106) (s:Shared) (σ:St) (H:Hp) (x:V) (xs:List V) (v:Value) (us:XW) (Q:VK),Inv X pins σ H s->RelV x v->Vals xs us->r x xs H Q ->
  wpAny 105 X.A (call (.builtin id) (v::us)) (EP X pins σ Q) X.xe s
section
variable {X:Cx}{a b:Expr}{ta tb:TE}{pos:Pos}
theorem z2s {r:R2}(hr:IxR X r)(ha:PE X a ta)(hb:PE X b tb)(hs:Ux b):PE X (.Subscript a b pos) (tOp r ta tb):=by
 intro pins s σ H Q I h;exact Subscript_ (z42 ha hb I h λ v u s2 x y H2 I2 rx ry q=>hr a b pins s2 σ H2 x y v u Q I2 rx ry q (hs _ _))
def z99 (K:Y00):R2:=λ x y H Q=>∃ p xs i v,x=.ref p/\y=.int i/\SqL K H p xs/\atI xs i=some v/\Q v H
def z9a (K:Y00):R2:=λ x y H Q=>∃ p xs i v,x=.ref p/\y=.int i/\SqT K H p xs/\atI xs i=some v/\Q v H
def z9b:R2:=λ x y H Q=>∃ z i c,x=.str z/\y=.int i/\z.length<=sizeLine/\atI z.cps.toList i=some c/\Q (.str ⟨#[c]⟩) H
theorem Uy:IxR X (z99 X.K):=by
 intro value slice pins s σ H x y v u Q I rx ry h hs;obtain ⟨p,xs,i,z,rfl,rfl,hq,he,q⟩:=h;cases rx;obtain ⟨t,rfl⟩:=ry;obtain ⟨its,r,pl,hz⟩:=I.list hq;obtain ⟨j,h1,h2,h3,h4,h5⟩:=Wy he;obtain ⟨w,ew,rw'⟩:=r.get h2;have hl:=r.length;have hn:=yK;have fin:EP X pins σ Q w s:=⟨z,H,I,rw',q⟩;by_cases h0:0<=i
 ·have hj:i.toNat=j:=by
   rw [seqIndex_of h0 h5] at h1;exact Option.some.inj h1
  exact item_listR pl.isList h0 103 (by rw [hj];simpa using ew) fin hs
 ·have hj:(i+(its.toArray.size:Int)).toNat=j:=by
   rw [seqIndex_neg 103 h4] at h1;rw [Y08,<- hl];exact Option.some.inj h1
  exact subscriptTail_builtinR (x:=w) pl.isList.typeIs slot_list_getitem.lookup
   (wpAny_getItem_list_neg (Q:=λ r s'=>r=w/\EP X pins σ Q r s') pl.isList 103 (by rw [Y08]<;>omega) 103 (by rw [hj];simpa using ew) ⟨rfl,fin⟩) hs
theorem z4f:IxR X (z9a X.K):=by
 intro value slice pins s σ H x y v u Q I rx ry h hs;obtain ⟨p,xs,i,z,rfl,rfl,hq,he,q⟩:=h;cases rx;obtain ⟨t,rfl⟩:=ry;obtain ⟨its,r,pl,hz⟩:=I.tuple hq;obtain ⟨j,h1,h2,h3,h4,h5⟩:=Wy he;obtain ⟨w,ew,rw'⟩:=r.get h2;have hl:=r.length;have hn:=yK;have fin:EP X pins σ Q w s:=⟨z,H,I,rw',q⟩;exact subscriptTail_builtinR (x:=w) pl.typeIs slot_tuple_getitem.lookup
  (getItem_tuple (j:=j) (Q:=λ r s'=>r=w/\EP X pins σ Q r s') pl 103 103 (by rw [Y08,<- hl];exact h1) (by simpa using ew) ⟨rfl,fin⟩) hs
theorem z4g:IxR X z9b:=by
 intro value slice pins s σ H x y v u Q I rx ry h hs;obtain ⟨z,i,c,rfl,rfl,hz,he,q⟩:=h;obtain ⟨t,rfl⟩:=rx;obtain ⟨t',rfl⟩:=ry;obtain ⟨j,h1,h2,h3,h4,h5⟩:=Wy he;have hl:z.cps.toList.length=z.length:=by simp [Str.length]
 rw [hl] at h1 h4 h5;have hn:=yK;exact tail_any (typeIs_str s z t) slot_str_getitem.lookup (getItem_str (c:=c) (by
  have e1:decide (i < -(2 ^ 63:Int))=false:=decide_eq_false 103;have e2:decide (i >= 2 ^ 63)=false:=decide_eq_false 103;rw [e1,e2,Bool.or_false]) (by rw [h1];simpa using h2) ⟨.str ⟨#[c]⟩,H,I.tok _,117,q⟩) hs
theorem Yy (its:XW)(n j:Nat)(u:Value):Obj.mapSeq (·.setIfInBounds j u) { cls:=.type "list",data:=.seq its.toArray n }={ cls:=.type "list",data:=.seq (its.set j u).toArray n }:=by
 simp [Obj.mapSeq]
theorem Inv.lst {pins:106}{σ:St}{H:Hp}{s:Shared}{p:Addr}{xs:List V}(I:104)(h:H p=some (.lst xs)) :
  ∃ (its:XW) (n:Nat),Vals xs its/\s.heap.get? p=some { cls:=.type "list",data:=.seq its.toArray n }/\xs.length<=sizeLine:=by
 obtain ⟨z,its,n,r,e⟩:=I.hok p _ h;exact ⟨its,n,r,e,z⟩
theorem Inv.lstUpd {pins:106}{σ:St}{H:Hp}{s:Shared}{p:Addr}{xs ys:List V}{its its':XW}{n n':Nat}{f:Obj->Obj}(I:104)(h:H p=some (.lst xs))
  (ho:s.heap.get? p=some { cls:=.type "list",data:=.seq its.toArray n }) (hf:f { cls:=.type "list",data:=.seq its.toArray n }={ cls:=.type "list",data:=.seq its'.toArray n' }) (r:Vals ys its') (hz:ys.length<=sizeLine) (t:Nat) :
  Inv X pins σ (upd H p (.lst ys)) { s with heap:=s.heap.update p f,toks:=t }:=by
 have e:(s.heap.update p f).get? p=some { cls:=.type "list",data:=.seq its'.toArray n' }:=by
  rw [Y35 f ho (by rw [hf]<;>rfl),hf]
 refine I.write (x:=p) (e:=p) (by rw [h];trivial) (.inl rfl) (λ b u hb q=>(Y1u _ _ (Ne.symm hb)).trans q) ⟨_,e⟩ ?_;exact ⟨hz,its',n',r,e⟩
def z7a:V->V->V->Hp->(Hp->Prop)->Prop:=λ o i v H Q=>∃ p xs k j,o=.ref p/\i=.int k/\H p=some (.lst xs)/\ixN xs.length k=some j/\Q (upd H p (.lst (xs.set j v)))
theorem GL:z3y X z7a:=by
 intro pins s σ H o i v ov iv u Q I ro ri rv h;obtain ⟨p,xs,k,j,rfl,rfl,hp,hj,q⟩:=h;cases ro;obtain ⟨t,rfl⟩:=ri;obtain ⟨its,n,r,ho,hz⟩:=I.lst hp;obtain ⟨h1,h2,h3,h4⟩:=Uw hj;have hl:=r.length;have hn:=yK;have I':Inv X pins σ (upd H p (.lst (xs.set j v))) { s with heap:=s.heap.update p (Obj.mapSeq (·.setIfInBounds j u)) } :=
  I.lstUpd hp ho (Yy its n j u) (r.set rv j) (by rw [Y1d];exact hz) s.toks
 by_cases h0:0<=k
 ·have hk:k.toNat=j:=by
   rw [seqIndex_of h0 h4] at h1;exact Option.some.inj h1
  exact PySem.W.ki_setAt ho h0 103 (by rw [Y08,<- hl];exact h4) (by rw [hk];exact ⟨_,I',q⟩)
 ·have hk:(k+(its.toArray.size:Int)).toNat=j:=by
   rw [seqIndex_neg 103 h3] at h1;rw [Y08,<- hl];exact Option.some.inj h1
  exact PySem.W.ki_setBack ho 103 (by rw [Y08,<- hl];exact h3) 103 (by rw [hk];exact ⟨_,I',q⟩)
theorem Wz (lo hi:Option Int)(n:Nat):(sliceBounds lo hi none n).1=((HT.sIx n 0 lo:Nat):Int)/\(sliceBounds lo hi none n).2.1=((HT.sIx n n hi:Nat):Int)/\(sliceBounds lo hi none n).2.2=1:=by
 refine ⟨?_,?_,rfl⟩
 ·cases lo with
  | none=>simp [sliceBounds,HT.sIx]
  | some i =>
   simp only [sliceBounds,HT.sIx,Option.getD_none,show (1:Int) > 0 by decide,if_true];by_cases h:i<0
   ·simp only [h,if_true]<;>omega
   ·simp only [h,if_false]<;>omega
 ·cases hi with
  | none=>simp [sliceBounds,HT.sIx]
  | some i =>
   simp only [sliceBounds,HT.sIx,Option.getD_none,show (1:Int) > 0 by decide,if_true];by_cases h:i<0
   ·simp only [h,if_true]<;>omega
   ·simp only [h,if_false]<;>omega
theorem JB (its:XW)(lo hi:Option Int):slicePick its.toArray lo hi none=((its.drop (HT.sIx its.length 0 lo)).take (HT.sIx its.length its.length hi-HT.sIx its.length 0 lo)).toArray:=by
 obtain ⟨h1,h2,h3⟩:=Wz lo hi its.toArray.size;unfold slicePick;rw [h1,h2,h3];simp only [sliceRange_one,pick_run,Y08]<;>rfl
def z9c (K:Y00):V->Option Int->Option Int->Hp->VK->Prop:=λ x lo hi H Q=>∃ a xs,x=.ref a/\SqL K H a xs/\∀ p,H p=none->Q (.ref p) (upd H p (.lst (QF xs lo hi)))
theorem Uz:SlR X (z9c X.K):=by
 intro pins s σ H x v vl vu lo hi sl Q I rx hs pl pu h;obtain ⟨a,xs,rfl,hx,q⟩:=h;cases rx;obtain ⟨its,r,ht,hz⟩:=I.list hx;have hlen:=r.length;refine ⟨"list",_,slot_list_getitem.lookup,ht.isList.typeIs,?_⟩;refine wpAny_getItem_list_slice ht.isList hs pl pu .none 110 ?_ (by rw [Y08]<;>omega);rw [JB,<- hlen];refine ⟨.ref s.heap.objs.size,_,I.laid (t':=s.toks) (o:=.lst (QF xs lo hi)) (λ b ob q=>Y05 _ q) (Y0a _) ?_,rfl,q _ (I.hok.fresh (Y0a _))⟩;exact ⟨Y0j (Z9 xs lo hi) hz,_,0,(r.drop (HT.sIx xs.length 0 lo)).take (HT.sIx xs.length xs.length hi-HT.sIx xs.length 0 lo),Y0n _ rfl⟩
def jH:V->Bool
 | .non=>true
 | .bl _=>true
 | .int _=>true
 | .str _=>true
 | _=>false
def eqV:V->V->Bool
 | .non,.non=>true
 | .bl a,.bl b=>a==b
 | .bl a,.int b=>(if a then 1 else 0)==b
 | .int a,.bl b=>a==(if b then 1 else 0)
 | .int a,.int b=>a==b
 | .str a,.str b=>a==b
 | _,_=>false
theorem GM {A:Around}{s:Shared}{y x:V}{u v:Value}(ry:RelV y u)(rx:RelV x v)(fy:jH y=true)(fx:jH x=true):SeqAt.EqAt A s u v (eqV y x):=by
 cases y with
 | non =>
  cases ry;cases x with
  | non=>cases rx;exact SeqAt.EqAt.same _
  | bl b=>cases rx;exact SeqAt.EqAt.none_bool b
  | int b=>obtain ⟨t,rfl⟩:=rx;exact SeqAt.EqAt.none_int b t
  | str b=>obtain ⟨t,rfl⟩:=rx;exact SeqAt.EqAt.none_str b t
  | _=>exact absurd (show false=true from fx) Y0t
 | bl a =>
  cases ry;cases x with
  | non=>cases rx;exact SeqAt.EqAt.bool_none a
  | bl b=>cases rx;exact SeqAt.EqAt.bool_bool a b
  | int b=>obtain ⟨t,rfl⟩:=rx;exact SeqAt.EqAt.bool_int a b t
  | str b=>obtain ⟨t,rfl⟩:=rx;exact SeqAt.EqAt.bool_str a b t
  | _=>exact absurd (show false=true from fx) Y0t
 | int a =>
  obtain ⟨t',rfl⟩:=ry;cases x with
  | non=>cases rx;exact SeqAt.EqAt.int_none a t'
  | bl b=>cases rx;exact SeqAt.EqAt.int_bool a t' b
  | int b=>obtain ⟨t,rfl⟩:=rx;exact SeqAt.EqAt.int_int a t' b t
  | str b=>obtain ⟨t,rfl⟩:=rx;exact SeqAt.EqAt.int_str a t' b t
  | _=>exact absurd (show false=true from fx) Y0t
 | str a =>
  obtain ⟨t',rfl⟩:=ry;cases x with
  | non=>cases rx;exact SeqAt.EqAt.str_none a t'
  | bl b=>cases rx;exact SeqAt.EqAt.str_bool a t' b
  | int b=>obtain ⟨t,rfl⟩:=rx;exact SeqAt.EqAt.str_int a t' b t
  | str b=>obtain ⟨t,rfl⟩:=rx;exact SeqAt.EqAt.str_str a t' b t
  | _=>exact absurd (show false=true from fx) Y0t
 | _=>exact absurd (show false=true from fy) Y0t
def eqU (x:V)(u:Value):Bool:=match u with
 | .none=>eqV .non x
 | .bool b=>eqV (.bl b) x
 | .int i _=>eqV (.int i) x
 | .str z _=>eqV (.str z) x
 | _=>false
theorem ZH {x y:V}{u:Value}(r:RelV y u)(f:jH y=true):eqU x u=eqV y x:=by
 cases y with
 | non=>cases r;rfl
 | bl b=>cases r;rfl
 | int i=>obtain ⟨t,rfl⟩:=r;rfl
 | str z=>obtain ⟨t,rfl⟩:=r;rfl
 | _=>exact absurd (show false=true from f) Y0t
theorem yn {x:V}:∀ {xs:List V}{us:XW},Vals xs us->xs.all jH=true->us.any (eqU x)=xs.any λ y=>eqV y x
 | _,_,.nil,_=>rfl
 | y::xs,u::us,.cons r t,f=>by
  rw [Y11,Y0c] at f;rw [Y1f,Y1f,ZH r f.1,yn t f.2]
theorem wN {A:Around}{s:Shared}{x:V}{v:Value}(rx:RelV x v)(fx:jH x=true):∀ {xs:List V}{us:XW},Vals xs us->xs.all jH=true->∀ u∈us,SeqAt.EqAt A s u v (eqU x u)
 | _,_,.nil,_=>λ u hu=>by cases hu
 | y::xs,u::us,.cons r t,f=>λ u' hu=>by
  rw [Y11,Y0c] at f;rcases Y03.mp hu with rfl | hu
  ·rw [ZH r f.1];exact GM r rx f.1 fx
  ·exact wN rx fx t f.2 u' hu
def inV (x:V)(xs:List V):Bool:=xs.any λ y=>eqV y x
def rIn (K:Y00)(neg:Bool):R2:=λ x y H Q=>∃ p xs,y=.ref p/\(SqL K H p xs\/SqT K H p xs)/\jH x=true/\xs.all jH=true/\Q (.bl (if neg then !inV x xs else inV x xs)) H
theorem Vy:OpR X (compareOp .In) (rIn X.K false):=by
 intro pins s σ H x y v u Q I rx ry h;obtain ⟨p,xs,rfl,hq,fx,fs,q⟩:=h;cases ry;rcases hq with hq | hq
 ·obtain ⟨its,r,pl,hz⟩:=I.list hq;refine SeqAt.in_listAt (eqU x) pl.isList (λ w hw=>wN rx fx r fs w (by simpa using hw)) ⟨.bl _,H,I,rfl,?_⟩;rw [show its.toArray.any (eqU x)=its.any (eqU x) by simp,yn r fs];exact q
 ·obtain ⟨its,r,pl,hz⟩:=I.tuple hq;refine SeqAt.in_tupleAt (eqU x) pl (λ w hw=>wN rx fx r fs w (by simpa using hw)) ⟨.bl _,H,I,rfl,?_⟩;rw [show its.toArray.any (eqU x)=its.any (eqU x) by simp,yn r fs];exact q
theorem WA:OpR X (compareOp .NotIn) (rIn X.K true):=by
 intro pins s σ H x y v u Q I rx ry h;obtain ⟨p,xs,rfl,hq,fx,fs,q⟩:=h;cases ry;rcases hq with hq | hq
 ·obtain ⟨its,r,pl,hz⟩:=I.list hq;refine SeqAt.notIn_listAt (eqU x) pl.isList (λ w hw=>wN rx fx r fs w (by simpa using hw)) ⟨.bl _,H,I,rfl,?_⟩;rw [show its.toArray.any (eqU x)=its.any (eqU x) by simp,yn r fs];exact q
 ·obtain ⟨its,r,pl,hz⟩:=I.tuple hq;refine SeqAt.notIn_tupleAt (eqU x) pl (λ w hw=>wN rx fx r fs w (by simpa using hw)) ⟨.bl _,H,I,rfl,?_⟩;rw [show its.toArray.any (eqU x)=its.any (eqU x) by simp,yn r fs];exact q
theorem WB:OpR X (compareOp .NotIn) (λ x y H Q=>∃ i j,x=.str i/\y=.str j/\Q (.bl (!(!(Builtin.Str.occurrences j i 0 j.length 1).isEmpty))) H):=by
 intro pins s σ H x y v u Q I rx ry h;obtain ⟨i,j,rfl,rfl,q⟩:=h;obtain ⟨t,rfl⟩:=rx;obtain ⟨t',rfl⟩:=ry;exact notIn_str ⟨.bl _,H,I,rfl,q⟩
theorem y7:jb X (.type "tuple") (λ xs H Q=>∃ p ys,xs=[.ref p]/\((SqL X.K H p ys/\∀ l,H l=none->Q (.ref l) (upd H l (.tup ys)))\/(SqT X.K H p ys/\Q (.ref p) H))):=by
 intro pins s σ H xs us Q I r h;obtain ⟨p,ys,rfl,h⟩:=h;obtain ⟨u,rfl,rx⟩:=qy r;cases rx;rcases h with ⟨hq,q⟩ | ⟨hq,q⟩
 ·obtain ⟨its,r',pl,hz⟩:=I.list hq;have hlen:=r'.length;refine call_tuple_list pl.isList (λ h' kp=>?_) (by simp only [Y08]<;>omega);have I1:Inv X pins σ H { s with heap:=h' }:=I.kept (t':=s.toks) kp;have I2:Inv X pins σ (upd H h'.objs.size (.tup ys)) { s with heap:=h'.push { cls:=.type "tuple",data:=.seq its.toArray } } :=
   I1.laid (t':=s.toks) (λ b o e=>Y05 _ e) (Y0a _) (show ObjOk X.prog X.w _ _ _ (.tup ys) from ⟨hz,its,r',IsTup.new _ _⟩)
  exact ⟨.ref h'.objs.size,_,I2,rfl,q _ (I1.hok.fresh (Y0a _))⟩
 ·obtain ⟨its,r',pl,hz⟩:=I.tuple hq;exact call_tuple_same pl ⟨.ref p,H,I,rfl,q⟩
def tyV (K:Y00)(T:String)(x:V)(H:Hp):Prop:=match x with
 | .str _=>T="str"
 | .int _=>T="int"
 | .ref p=>(T="list"/\∃ xs,SqL K H p xs)\/(T="tuple"/\∃ o,K.lookup p=some o/\o.cls=.type "tuple"/\o.dict=none) \/
   (T="dict"/\((∃ kvs,H p=some (.dK kvs))\/∃ kvs,H p=some (.dT kvs)))\/(T="set"/\∃ S n,H p=some (.set S n))
 | _=>False
theorem GN {pins:106}{σ:St}{H:Hp}{s:Shared}{T:String}{x:V}{v:Value}(I:104)(r:RelV x v)(ty:tyV X.K T x H) :
  s.TypeIs v T/\∀ a,v=.ref a->∃ ob,s.heap.get? a=some ob/\ob.dict=none:=by
 cases x with
 | str z =>
  obtain ⟨t,rfl⟩:=r;cases (show T="str" from ty);exact ⟨typeIs_str s z t,λ _ e=>nomatch e⟩
 | int i =>
  obtain ⟨t,rfl⟩:=r;cases (show T="int" from ty);exact ⟨typeIs_int s i t,λ _ e=>nomatch e⟩
 | ref p =>
  cases r;rcases ty with ⟨rfl,xs,hq⟩ | ⟨rfl,o,hk,hc,hd⟩ | ⟨rfl,hk⟩ | ⟨rfl,S,n,hk⟩
  ·obtain ⟨its,_,pl,_⟩:=I.list hq;refine ⟨pl.isList.typeIs,λ a e=>?_⟩;cases e;obtain ⟨o,n,e,c,hd,_⟩:=pl;exact ⟨o,e,hd⟩
  ·refine ⟨⟨o,I.kIn p o hk,hc⟩,λ a e=>?_⟩;cases e;exact ⟨o,I.kIn _ o hk,hd⟩
  ·have z:∃ o,s.heap.get? p=some o/\o.ExactDict:=by
    rcases hk with ⟨kvs,hk⟩ | ⟨kvs,hk⟩
    ·obtain ⟨_,_,_,_,o,_,_,e,ex,_⟩:=I.hok p _ hk;exact ⟨o,e,ex⟩
    ·obtain ⟨_,_,_,_,o,_,_,e,ex,_⟩:=I.hok p _ hk;exact ⟨o,e,ex⟩
   obtain ⟨o,e,ex⟩:=z;refine ⟨⟨o,e,ex.1⟩,λ a e2=>?_⟩;cases e2;exact ⟨o,e,ex.2.1⟩
  ·obtain ⟨o,_,_,_,e,ex,_⟩:=I.hok p _ hk;refine ⟨⟨o,e,ex.1⟩,λ a e2=>?_⟩;cases e2;exact ⟨o,e,ex.2.1⟩
 | _=>exact False.elim ty
def z9d (K:Y00)(T:String)(r:V->List V->Hp->VK->Prop)(to:TE):TE:=λ σ H Q=>to σ H λ x H1=>tyV K T x H1/\r x [] H1 Q
def tBM (K:Y00)(T:String)(r:V->List V->Hp->VK->Prop)(to:TE)(t:TA):TE:=λ σ H Q=>to σ H λ x H1=>tyV K T x H1/\t σ H1 λ xs H2=>r x xs H2 Q
variable {o e:Expr}{es:List Expr}{to:TE}{t:TA}{name:Str}{apos cpos:Pos}{T id:String}{r:V->List V->Hp->VK->Prop}
theorem z4h (pa:PlainAttrs T) (slot:Slot T name id) (hty:typeOf (.builtin id)=pure (.type "method_descriptor")) (hm:MtR X id r) (ho:PE X o to)
  (hbase:attributeBase o name X.env (eval o X.env)=eval o X.env:=by rfl) (hline:(apos.endLine==cpos.line)=true:=by rfl):PE X (.Call (.Attribute o name apos) [] [] cpos) (z9d X.K T r to):=by
 intro pins s σ H Q I h;refine wpAny_Call_method0_late hbase hline (thn (ho pins s σ H _ I h) λ v s1 ⟨x,H1,I1,r1,ty,q1⟩=>?_);obtain ⟨h1,h2⟩:=GN I1 r1 ty;exact ⟨T,id,pa,slot,hty,h1,h2,Calls.callWith_builtin rfl (PySem.evalArgs_none (hm pins s1 σ H1 x [] v [] Q I1 r1 .nil q1))⟩
theorem GP (pa:PlainAttrs T) (slot:Slot T name id) (hty:typeOf (.builtin id)=pure (.type "method_descriptor")) (hm:MtR X id r) (ho:PE X o to) (ha:PA X (e::es) t)
  (hbase:attributeBase o name X.env (eval o X.env)=eval o X.env:=by rfl)
  (hfew:((backTo cpos (starEach (e::es) X.env)).all (λ x=>!x.1)&&(backToKw cpos (keywordEach [] X.env)).all (λ x=>x.1.isSome)
   && decide ((e::es).length+([]:List Keyword).length+(if ([]:List Keyword).isEmpty then 0 else 1)<30))=true:=by rfl)
  (hline:(apos.endLine==cpos.line)=true:=by rfl) (hs:starEach (e::es) X.env=(false,eval e X.env)::starEach es X.env:=by rfl) (hplain:(backTo cpos (starEach es X.env)).any (·.1)=false:=by rfl) :
  PE X (.Call (.Attribute o name apos) (e::es) [] cpos) (tBM X.K T r to t):=by
 intro pins s σ H Q I h;refine wpAny_Call_method_late hbase hfew hline rfl (thn (ho pins s σ H _ I h) λ v s1 ⟨x,H1,I1,r1,ty,q1⟩=>?_);obtain ⟨h1,h2⟩:=GN I1 r1 ty;refine ⟨T,id,pa,slot,hty,h1,h2,?_⟩;have hA:=ha cpos pins s1 σ H1 _ I1 q1;rw [hs] at hA ⊢;refine Calls.callWith_builtin (by show (false||(backTo cpos (starEach es X.env)).any (·.1))=false;rw [hplain]<;>rfl) (Calls.evalArgs_plain ?_);exact thn hA λ us s2 ⟨vs,H2,I2,r2,q2⟩=>hm pins s2 σ H2 x vs v us Q I2 r1 r2 q2
end
def MtM (X:Cx)(id:String)(r:V->List V->Hp->VK->Prop):Prop :=
 ∀ (pins:106) (s:Shared) (σ:St) (H:Hp) (x:V) (xs:List V) (v:Value) (us:XW) (Q:VK),Inv X pins σ H s->RelV x v->Vals xs us->r x xs H Q ->
  wpAny 105 X.A (call (.builtin id) (v::us)) (EP X pins σ Q) X.xe s
theorem Vals.one:∀ {x:V}{us:XW},Vals [x] us->∃ u,us=[u]/\RelV x u
 | _,_,.cons r .nil=>⟨_,rfl,r⟩
theorem Vals.zero:∀ {us:XW},Vals [] us->us=[]
 | _,.nil=>rfl
theorem Vals.dropLast {xs:List V}{us:XW}(h:Vals xs us):Vals xs.dropLast us.dropLast:=by
 induction h with
 | nil=>exact .nil
 | cons r t ih =>
  cases t with
  | nil=>exact .nil
  | cons q t'=>exact .cons r ih
theorem Vals.rep {xs:List V}{us:XW}(h:Vals xs us):∀ k:Nat,Vals (List.replicate k xs).flatten (List.replicate k us).flatten
 | 0=>.nil
 | k+1=>by
  rw [Y19,Y19,Y21,Y21];exact Vals.append h (Vals.rep h k)
theorem Yz {α:Type}(l:List α):l.eraseIdx (l.length-1)=l.dropLast:=by
 induction l with
 | nil=>rfl
 | cons a r ih =>
  cases r with
  | nil=>rfl
  | cons b r =>
   have e:(a::b::r).length-1=((b::r).length-1)+1:=by
    have h1:(a::b::r).length=r.length+2:=rfl;have h2:(b::r).length=r.length+1:=rfl;omega
   rw [e,List.eraseIdx_cons_succ,ih]
   all_goals rfl
theorem W4 (its:XW):∀ (k:Nat) (acc:XW),
  List.foldl (λ x1 x2=>x1++x2) acc.toArray (List.replicate k its.toArray)=(acc++(List.replicate k its).flatten).toArray
 | 0,acc=>by simp
 | k+1,acc=>by
  have e:acc.toArray++its.toArray=(acc++its).toArray:=by simp
  have e2:(acc++its)++(List.replicate k its).flatten=acc++(List.replicate (k+1) its).flatten:=by
   rw [Y19,Y21,Y07]
  rw [<- e2,<- W4 its k (acc++its),<- e,Y19,List.foldl_cons]
section
variable {X:Cx}{pins:106}{σ:St}{H:Hp}{s:Shared}{l b:Addr}{xs ys zs:List V}
theorem Inv.lset {its its':XW}{n:Nat}{f:Array Value->Array Value}{t':Nat}(I:104)(hH:H l=some (.lst xs))
  (e:s.heap.get? l=some { cls:=.type "list",data:=.seq its.toArray n }) (hf:f its.toArray=its'.toArray) (hv:Vals ys its') (hz:ys.length<=sizeLine) :
  Inv X pins σ (upd H l (.lst ys)) { s with heap:=s.heap.update l (Obj.mapSeq f),toks:=t' }:=by
 have q:=PySem.IsL.update e f;rw [hf] at q;refine I.write (x:=l) (e:=l) (by rw [hH];exact trivial) (.inl rfl) (λ b' u hb hu=>(Y1u s.heap (Obj.mapSeq f) (Ne.symm hb)).trans hu) ⟨_,q⟩ ?_;exact ⟨hz,its',_,hv,q⟩
theorem Inv.lnew {its:XW}{t':Nat}(I:104)(hv:Vals ys its)(hz:ys.length<=sizeLine) :
  Inv X pins σ (upd H s.heap.objs.size (.lst ys)) { s with heap:=s.heap.push { cls:=.type "list",data:=.seq its.toArray },toks:=t' } :=
 I.laid (λ _ _ q=>Y05 _ q) (Y0a _) ⟨hz,its,0,hv,Y0n _ rfl⟩
theorem Inv.fresh (I:104):H s.heap.objs.size=none:=I.hok.fresh (Y0a _)
theorem Inv.lstM (I:104)(hH:H l=some (.lst xs)):xs.length<=sizeLine/\∃ (its:XW) (n:Nat),Vals xs its/\xs.length=its.length/\s.heap.get? l=some { cls:=.type "list",data:=.seq its.toArray n }:=by
 obtain ⟨z,its,n,r,e⟩:=I.hok l _ hH;exact ⟨z,its,n,r,r.length,e⟩
theorem ZI {n:Nat}(h:n<=sizeLine):Builtin.List.listTooLong n=false:=by
 unfold Builtin.List.listTooLong;exact decide_eq_false 103
end
section
variable {X:Cx}
def z02:V->List V->Hp->VK->Prop:=λ x vs H Q=>∃ l xs y,x=.ref l/\vs=[y]/\H l=some (.lst xs)/\xs.length<sizeLine/\Q .non (upd H l (.lst (xs++[y])))
theorem Vz:MtM X "list.append" z02:=by
 intro pins s σ H x vs v us Q I rx rv h;obtain ⟨l,xs,y,rfl,rfl,hH,hz,q⟩:=h;cases rx;obtain ⟨u,rfl,ru⟩:=rv.one;obtain ⟨z,its,n,r,hl,e⟩:=I.lstM hH;refine call_meets F.slot_list_append ⟨_,e,rfl⟩ F.entry_list_append (F.args_list_append_2 _ _) (PySem.list_append l its.toArray n u (by rw [Y08];omega)) ⟨e,?_⟩;refine ⟨.non,_,I.lset (its':=its++[u]) hH e 110 (r.append (.cons ru .nil)) ?_,rfl,q⟩;rw [Y0k,List.length_singleton];omega
def z03:V->List V->Hp->VK->Prop:=λ x vs H Q=>∃ l b xs zs,x=.ref l/\vs=[.ref b]/\H l=some (.lst xs)/\H b=some (.lst zs)/\xs.length+zs.length<=sizeLine/\Q .non (upd H l (.lst (xs++zs)))
theorem VA:MtM X "list.extend" z03:=by
 intro pins s σ H x vs v us Q I rx rv h;obtain ⟨l,b,xs,zs,rfl,rfl,hH,hB,hz,q⟩:=h;cases rx;obtain ⟨u,rfl,ru⟩:=rv.one;cases ru;obtain ⟨z,its,n,r,hl,e⟩:=I.lstM hH;obtain ⟨z2,its2,n2,r2,hl2,e2⟩:=I.lstM hB;have hsz:its.toArray.size+its2.toArray.size<=sizeLine:=by rw [Y08,Y08];omega
 have hlong:¬ (!its.toArray.isEmpty&&Builtin.List.listTooLong (its.toArray.size+its2.toArray.size))=true:=by
  rw [ZI hsz,Bool.and_false];exact Y0t
 refine call_meets F.slot_list_extend ⟨_,e,rfl⟩ F.entry_list_extend (F.args_list_extend_2 _ _)
  (AutoSeq1.list_extend_list_list_0 l its.toArray n b its2.toArray n2 hlong (by rw [Y08];omega) 103) ⟨e,e2,?_⟩
 refine ⟨.non,_,I.lset (its':=its++its2) hH e 110 (r.append r2) ?_,rfl,q⟩;rw [Y0k];omega
def z9e:V->List V->Hp->VK->Prop:=λ x vs H Q=>∃ l xs y,x=.ref l/\vs=[]/\H l=some (.lst xs)/\xs[xs.length-1]?=some y/\Q y (upd H l (.lst xs.dropLast))
theorem z4i:MtM X "list.pop" z9e:=by
 intro pins s σ H x vs v us Q I rx rv h;obtain ⟨l,xs,y,rfl,rfl,hH,hy,q⟩:=h;cases rx;have hus:=rv.zero;subst hus;obtain ⟨z,its,n,r,hl,e⟩:=I.lstM hH;obtain ⟨u,hu,ru⟩:=r.get hy;have hy':its.toArray[its.toArray.size-1]?=some u:=by
  show its.toArray[its.length-1]?=some u;rw [<- Y36,<- hl];exact hu
 refine call_meets F.slot_list_pop ⟨_,e,rfl⟩ F.entry_list_pop (F.args_list_pop_1 _) (MeetsSeq.list_pop_last l its.toArray n u hy' (by rw [Y08];omega)) ⟨e,?_⟩;refine ⟨y,_,I.lset (its':=its.dropLast) hH e ?_ r.dropLast ?_,ru,q⟩
 ·show its.toArray.eraseIdxIfInBounds (its.toArray.size-1)=its.dropLast.toArray;rw [Y08,List.eraseIdxIfInBounds_toArray,Yz]
 ·rw [List.length_dropLast];omega
def z9f:R2:=λ x y H Q=>∃ l b xs zs,x=.ref l/\y=.ref b/\H l=some (.lst xs)/\H b=some (.lst zs)/\xs.length+zs.length<=sizeLine/\∀ p,H p=none->Q (.ref p) (upd H p (.lst (xs++zs)))
theorem z4j:OpR X (binaryOp .Add) z9f:=by
 intro pins s σ H x y v u Q I rx ry h;obtain ⟨l,b,xs,zs,rfl,rfl,hH,hB,hz,q⟩:=h;cases rx;cases ry;obtain ⟨z,its,n,r,hl,e⟩:=I.lstM hH;obtain ⟨z2,its2,n2,r2,hl2,e2⟩:=I.lstM hB;refine PySem.P.add_list e e2 ?_ (by rw [Y08,Y08];omega);have ea:its.toArray++its2.toArray=(its++its2).toArray:=by simp
 rw [ea];exact ⟨.ref _,_,I.lnew (t':=s.toks) (r.append r2) (by rw [Y0k];omega),rfl,q _ I.fresh⟩
def z9g:R2:=λ x y H Q=>∃ l k xs,x=.ref l/\y=.int k/\H l=some (.lst xs)/\-(2 ^ 63)<=k/\k<2 ^ 63/\xs.length*k.toNat<=sizeLine /\
 ∀ p,H p=none->Q (.ref p) (upd H p (.lst (List.replicate k.toNat xs).flatten))
theorem z04 {α:Type}(xs:List α)(k:Nat):(List.replicate k xs).flatten.length=k*xs.length:=by
 induction k with
 | zero=>simp
 | succ k ih=>rw [Y19,Y21,Y0k,ih,Nat.succ_mul,Nat.add_comm]
theorem z4k:OpR X (binaryOp .Mult) z9g:=by
 intro pins s σ H x y v u Q I rx ry h;obtain ⟨l,k,xs,rfl,rfl,hH,h1,h2,hz,q⟩:=h;cases rx;obtain ⟨t,rfl⟩:=ry;obtain ⟨z,its,n,r,hl,e⟩:=I.lstM hH;have hlen:its.toArray.size*k.toNat<=sizeLine:=by rw [Y08,<- hl];exact hz
 have hcap:¬ its.toArray.size*k.toNat > (2 ^ 63-1)/8:=by
  have:(sizeLine:Nat)<=(2 ^ 63-1)/8:=by decide
  omega
 have hfit:¬ (!Builtin.List.listFitsIndex k)=true:=by
  rw [fitsIndex_both h1 h2];exact Y0t
 have hlong:¬ Builtin.List.listTooLong (its.toArray.size*k.toNat)=true:=by
  rw [ZI hlen];exact Y0t
 have hnew:List.foldl (λ x1 x2=>x1++x2) #[] (List.replicate (if its.toArray.isEmpty=true then 0 else k.toNat) its.toArray)=(List.replicate k.toNat its).flatten.toArray:=by
  have f0:∀ m:Nat,List.foldl (λ x1 x2=>x1++x2) #[] (List.replicate m its.toArray)=(List.replicate m its).flatten.toArray:=λ m=>by
   have:=W4 its m []
   rw [Y0l] at this;exact this
  rw [f0];cases its with
  | nil=>simp
  | cons a r'=>rw [if_neg 110]
 refine wpAny_binaryOp_repeat_ref (T:="list") (U:="int") 102 ⟨_,e,rfl⟩ (λ s'=>typeIs_int s' k t) noFill_list_mul F.fills_int_mul F.slot_int_rmul repeat_list F.slot_int_index.lookup
  (call_meets F.slot_int_rmul (typeIs_int s k t) F.entry_int_rmul (F.args_int_rmul_2 _ _) (int___rmul___int_list k t l its.toArray n)
   ⟨e,rfl,⟨_,e,rfl⟩,call_meets F.slot_list_mul ⟨_,e,rfl⟩ F.entry_list_mul (F.args_list_mul_2 _ _) (AutoListH.list___mul___list_int_3 l its.toArray n k t hfit hcap hlong) ⟨e,?_⟩⟩)
 rw [hnew];exact ⟨.ref _,_,I.lnew (t':=s.toks) (r.rep k.toNat) (by rw [z04,Nat.mul_comm];exact hz),rfl,q _ I.fresh⟩
end
end L2
namespace Att
open PySem PySem.W PySem.Calls PyProof.Rows
theorem Zk {P:Params}{h:Heap}:∀ (ns:List Int) (vs:XW),WellAll P h vs (ns.map WData.int)->IntsAre vs ns:=by
 intro ns
 induction ns with
 | nil =>
  intro vs w;rw [Y2m] at w;cases w;exact .nil
 | cons n ns ih =>
  intro vs w;rw [Y0i] at w;cases w with
  | cons a b =>
   cases a;exact .cons _ _ (ih _ b)
theorem script_of {l:OpenLaw}{n:Nat}(hn:l.most=some n){P:Params}{h:Heap}{args:List WData}{vals:XW}
  (hpre:l.row.toRowW.claim.pre args=true) (hwl:WellAll P h vals args) :
  ∃ a vs ns,vals=[Value.ref a]/\args=[WData.list (ns.map WData.int)]/\h.get? a=some { cls:=.type "list",data:=.seq vs.toArray }/\IntsAre vs ns/\ns.length<=n:=by
 have hsh:WShape.hasAll [] args [.list .int]=true:=(pre_splitW hpre).1;have hc:l.pre.holds [] { args:=args }=true:=(pre_splitW hpre).2;obtain ⟨d,r,rfl,h1,h2⟩:=hasAllW_cons hsh;obtain rfl:=hasAllW_nil h2;obtain ⟨xs,rfl,h3⟩:=hasW_list h1;obtain ⟨ns,rfl⟩:=items_int h3;have hlen:ns.length<=n:=by
  unfold OpenLaw.pre at hc;have h4:(WTm.not (.lt (.lit (.int (n:Int))) (.len (.arg 0)))).holds [] { args:=[.list (ns.map .int)] }=true:=by
   have h4:=(holds_andW hc).1;rw [hn] at h4;exact h4
  have h5:=condW_of h4 (w_not (w_lt w_lit (w_len_list (w_arg rfl))));rw [Y09] at h5;refine Nat.le_of_not_lt λ q=>?_;have q':(n:Int)<((ns.length:Nat):Int):=by omega
  first
   | (rw [decide_eq_true q'] at h5;exact absurd h5 102)
   | (simp at h5;omega)
 cases hwl with
 | cons w1 w2 =>
  cases w2;cases w1 with
  | list ho hall=>exact ⟨_,_,ns,rfl,rfl,ho,Zk ns _ hall,hlen⟩
theorem post_true (l:OpenLaw)(args:List WData):l.row.toRowW.claim.post args (.bool true) args=true :=
 postW_of (r:=l.row.toRowW) (X:=(true==true))
  (show WShape.has [] (.bool true) .bool=true by first | rfl | decide | simp [WShape.has,WShape.arms,WShape.armsAll])
  (show (WTm.eq .res (.lit (.bool true))).value [] { args:=args,res:=some (.bool true),after:=args }=some (.bool (true==true)) from w_eq_bool (w_res rfl) w_lit) rfl
section
variable {prog:XJ}{w:World}{A:Around}{E:XQ}{s:Shared}{K:Frag}
def z9h (h:Heap)(L d:Addr):List (Addr×Obj):=(List.range h.objs.size).filterMap λ a=>if a=L\/a=d then none else (h.get? a).map λ o=>(a,o)
end
end Att
namespace L2
open PySem PySem.Spec PyProof.Rows
theorem W5:∀ {vs:XW}{ns:List Int},IntsAre vs ns->Vals (ns.map V.int) vs
 | _,_,.nil=>.nil
 | _,_,.cons n t h=>.cons ⟨t,rfl⟩ (W5 h)
def z4l (H:Hp):Prop:=∀ b,H b=none\/∃ o xs,H b=some (.frz o (.lst xs))
theorem GQ {P:XJ}{w:World}{K:Y00}{mg mb:XZ}{CX:CXT}{k:Nat}{fa a:Addr}{fd:FuncData}{x:Str}{sp:Sp}{s₁:Shared}{vs:XW}{ns:List Int}
  (KX:K.In s₁.heap) (hns:s₁.heap.Ns mainGlobals mg) (hb:s₁.heap.Ns builtinsNs mb) (hbb:∀ x:Str,x≠"__name__"->mb x=bootBuiltins x) (hlim:s₁.heap.NoLimit) (hg:s₁.gens=#[])
  (ha:s₁.heap.get? a=some { cls:=.type "list",data:=.seq vs.toArray }) (hi:IntsAre vs ns) (hl:ns.length<=sizeLine) (hr:Room k callerA)
  (F:∀ base:Heap,K.In base->base.Ns mainGlobals mg->FnOk P w K mg base CX k fa fd [x] sp) (hbind:∀ (s:Shared) (u:Value),BindsTo s fd ⟨[u],[]⟩ [(x,u)])
  (hsp:∀ H:Hp,z4l H->SqL K H a (ns.map V.int)->sp [.ref a] H (λ v _=>v=.bl true) λ _ _ _=>False)
  (hCX:∀ H e s',CX [] H s₁ (λ _ _ _=>False) e s'->False) :
  codeAny (model P w) callerA (.call (.ref fa) ⟨[.ref a],[]⟩) (λ r s'=>r=.ok (.ret (.bool true))/\OldK s₁.heap s'.heap/\s'.os=s₁.os/\AllBare s'.gens) s₁:=by
 have rv:=W5 hi;have lenV:=hi.length;have core:∀ H:Hp,z4l H->SqL K H a (ns.map V.int)->HOk P w H s₁.heap->(∀ b,H b≠none->b=a)->(H a≠none->K.lookup a=none) ->
   codeAny (model P w) callerA (.call (.ref fa) ⟨[.ref a],[]⟩) (λ r s'=>r=.ok (.ret (.bool true))/\OldK s₁.heap s'.heap/\s'.os=s₁.os/\AllBare s'.gens) s₁:=by
  intro H hO hS hok hA hK;have base_of:∀ {b:Addr}{o:Obj},s₁.heap.get? b=some o->H b=none->(Wu s₁.heap H).get? b=some o:=λ e n=>Gp e n;have noA:∀ {b:Addr}{o:Obj}{es:Array DictEntry}{ep:Nat},s₁.heap.get? b=some o->o.data=.dict es ep->H b=none:=λ {b o es ep} e d=>by
   cases q:H b with
   | none=>rfl
   | some u =>
    have e':b=a:=hA b (by rw [q];simp);subst e';rw [ha] at e;cases e;have d':Data.seq vs.toArray _=Data.dict es ep:=d;cases d'
  have nsK:∀ {b:Addr}{m:XZ},s₁.heap.Ns b m->(Wu s₁.heap H).Ns b m:=λ {b m} ⟨o,es,ep,e,d,r⟩=>⟨o,es,ep,base_of e (noA e d),d,r⟩;have hKb:K.In (Wu s₁.heap H):=λ b o e=>base_of (KX b o e) (by
   cases q:H b with
   | none=>rfl
   | some u =>
    have e':b=a:=hA b (by rw [q];simp);subst e';rw [hK (by rw [q];simp)] at e;cases e)
  have hM:Mod K mg (Wu s₁.heap H):=⟨hKb,nsK hns,⟨mb,nsK hb,hbb⟩,let ⟨mc,h1,h2⟩:=hlim;⟨mc,nsK h1,h2⟩⟩;have e0:Env0 P w K mg (Wu s₁.heap H) callerA [] s₁ H:=⟨rfl,hM,λ b o e=>BN e,Y31 (Vt _ _),trivial,λ b hb=>absurd (show b∈([]:List Addr) from hb) 110,hok,.of_eq hg⟩;refine codeAny_mono ((F _ hKb (nsK hns)).run callerA [] s₁ H ⟨[.ref a],[]⟩ [.ref a] [.ref a] _ _ hr e0 (hbind s₁ (.ref a)) (.cons rfl .nil) (hsp H hO hS)) λ r s' h=>?_;cases r with
  | error e=>exact (hCX H e s' h).elim
  | ok fl =>
   cases fl with
   | next=>exact False.elim h
   | brk=>exact False.elim h
   | cont=>exact False.elim h
   | ret u =>
    obtain ⟨v,H',os,bare,un,hok',r',q⟩:=h;have q':v=.bl true:=q;subst q';obtain rfl:u=Value.bool true:=r';refine ⟨rfl,OldK.of_keep λ b o e=>?_,os,bare⟩;cases q:H b with
    | none=>exact un.keep b o e q (by intro z;exact absurd (show b∈([]:List Addr) from z) 110) 110
    | some u =>
     rcases hO b with z | ⟨ob,xs,z⟩
     ·rw [q] at z;cases z
     ·have z2:=un.frzs b ob _ z;obtain ⟨e1,_⟩:=hok b _ z;obtain ⟨e2,_⟩:=hok' b _ z2;rw [e] at e1;cases e1;exact e2
 cases hk:K.lookup a with
 | some o =>
  have e:=KX a o hk;rw [ha] at e;cases e;refine core (λ _=>none) (λ _=>.inl rfl) (.inr ⟨_,vs.toArray,_,hk,rfl,rfl,rfl,by rw [Y08,lenV];exact hl,by simpa using rv⟩) (λ b u z=>by have z':(none:Option HO)=some u:=z;cases z') (λ b z=>absurd rfl z) λ z=>absurd rfl z
 | none =>
  refine core (λ b=>if b=a then some (.frz { cls:=.type "list",data:=.seq vs.toArray } (.lst (ns.map V.int))) else none) (λ b=>?_) (.inl (.inr ⟨{ cls:=.type "list",data:=.seq vs.toArray },if_pos rfl⟩)) (λ b u z=>?_) (λ b z=>?_) λ _=>hk
  ·by_cases hb:b=a
   ·exact .inr ⟨_,_,if_pos hb⟩
   ·exact .inl (if_neg hb)
  ·by_cases hb:b=a
   ·have z':=(if_pos hb).symm.trans z;cases z';subst hb;exact ⟨ha,by rw [Y09];exact hl,vs,_,rv,ha⟩
   ·have z':=(if_neg hb).symm.trans z;cases z'
  ·by_cases hb:b=a
   ·exact hb
   ·exact absurd (if_neg hb) z
abbrev KOf {K:Y00}{h:Heap}(_:K.In h):Y00:=K
def jL (s:Stmt):Arguments:=match s with
 | .FunctionDef _ a _ _ _ _ _ _ _ _=>a
 | _=>{ posonlyargs:=[],args:=[],vararg:=none,kwonlyargs:=[],kw_defaults:=[],kwarg:=none,defaults:=[] }
def j7 (s:Stmt):List Stmt:=match s with
 | .FunctionDef _ _ b _ _ _ _ _ _ _=>b
 | _=>[]
def zr (s:Stmt):Scope:=match s with
 | .FunctionDef _ _ _ _ _ _ sc _ _ _=>sc
 | _=>{ kind:=.function,names:=[],isGenerator:=false,isCoroutine:=false }
abbrev CX0:CXT:=λ _ _ _ _ _ _=>False
structure Fun (K:Y00)(x qual:Str)(st:Stmt)(f:Addr)(fd:FuncData):Prop where
 ex:∃ (oc:Value) (od:Option Addr) (kV doc pm:Value) (an:Option Addr) (cdv ct:Value) (osl:Array (Option Value)),
  fd=PySem.W.fnOf x qual (jL st) (j7 st) (zr st) .none kV doc pm an cdv ct/\K.lookup f=some ⟨oc,od,.func fd,osl⟩/\PySem.W.codeIn K cdv qual=true
 kp:PySem.W.keepIn K (.ref f)=true
section
variable {P:XJ}{w:World}{K:Y00}{mg:XZ}{base:Heap}
theorem Fun.binds {x qual:Str}{st:Stmt}{f:Addr}{fd:FuncData}{ps:XU}(F:Fun K x qual st f fd)
  (h:∀ (kV doc pm:Value) (an:Option Addr) (cdv ct:Value) (us:XW),us.length=ps.length->bindArgs (PySem.W.fnOf x qual (jL st) (j7 st) (zr st) .none kV doc pm an cdv ct) ⟨us,[]⟩=pure (ps.zip us)):Binds K fd ps []:=by
 obtain ⟨oc,od,kV,doc,pm,an,cdv,ct,osl,rfl,lk,hcd⟩:=F.ex;exact .all (h kV doc pm an cdv ct)
theorem YA {x qual:Str}{st:Stmt}{f:Addr}{oc:Value}{od an:Option Addr}{osl:Array (Option Value)}{kV doc pm cdv ct:Value}(l:K.lookup f=some ⟨oc,od,.func (PySem.W.fnOf x qual (jL st) (j7 st) (zr st) .none kV doc pm an cdv ct),osl⟩)
  (c:PySem.W.codeIn K cdv qual=true) (k:PySem.W.keepIn K (.ref f)=true):Fun K x qual st f (PySem.W.fnOf x qual (jL st) (j7 st) (zr st) .none kV doc pm an cdv ct):=⟨⟨oc,od,kV,doc,pm,an,cdv,ct,osl,rfl,l,c⟩,k⟩
end
theorem z2t {A:Around}{k:Nat}(hr:Room k A):A.units+1<cLine:=Nat.lt_of_le_of_lt (Nat.add_le_add_left (by decide:1<=64) _) hr.units
theorem yL {n:Nat}(h:n<=1000):n<sizeLine:=Nat.lt_of_le_of_lt h 102
section
variable {X:Cx}
theorem pv (i:Nat) {x:Str}{pos:Pos} (hN:X.N[i]?=some x:=by rfl) (hv:Vis X.env.scope x:=by first | exact Or.inl rfl | exact Or.inr (Or.inl rfl) | exact Or.inr (Or.inr rfl)) (hd:125=false:=by decide)
  (hcd:(x==("__classdict__":Str))=false:=by decide):PE X (.Name x pos) (z6s i):=Gq hN hv hd hcd
end
theorem qA {A B:Prop}(h:B):if false=true then A else B:=by
 rw [if_neg Y0t];exact h
theorem yf {A B:Prop}(h:A):if true=true then A else B:=by
 rw [if_pos rfl];exact h
def zak (H H':Hp):Prop:=∀ b o,H b=some o->H' b=some o
section
variable {κ:Type}[DecidableEq κ]
def qB (kvs:List (κ×V))(k:κ):Option V:=(kvs.find? λ kv=>decide (kv.1=k)).map (·.2)
def wZ (kvs:List (κ×V))(k:κ)(v:V):List (κ×V) :=
 if (kvs.any λ kv=>decide (kv.1=k))=true then kvs.map (λ kv=>if kv.1=k then (kv.1,v) else kv) else kvs++[(k,v)]
def zah (kvs:List (κ×V))(k:κ):List (κ×V):=kvs.filter λ kv=>decide (kv.1≠k)
theorem qC {p:κ×V}{r:List (κ×V)}{k:κ}(e:p.1=k):qB (p::r) k=some p.2:=by simp [qB,Y1y,e]
theorem qD {p:κ×V}{r:List (κ×V)}{k:κ}(e:¬ p.1=k):qB (p::r) k=qB r k:=by simp [qB,Y1y,e]
theorem QG (k:κ):∀ kvs:List (κ×V),(kvs.any λ kv=>decide (kv.1=k))=(qB kvs k).isSome
 | []=>rfl
 | p::r=>by
  rw [Y1f];by_cases e:p.1=k
  ·simp only [qC e,decide_eq_true e,Bool.true_or,Option.isSome_some]
  ·rw [qD e,decide_eq_false e,Bool.false_or];exact QG k r
theorem qE (kvs:List (κ×V))(k:κ)(v:V):(wZ kvs k v).length<=kvs.length+1:=by
 unfold wZ
 split
 ·rw [Y09];omega
 ·rw [Y0k,Y0q,Y32];omega
theorem RelO.isSome_eq {o:Option V}{u:Option Value}(r:RelO o u):o.isSome=u.isSome:=by
 cases o with
 | none=>cases u with
  | none=>rfl
  | some _=>exact (show False from r).elim
 | some _=>cases u with
  | none=>exact (show False from r).elim
  | some _=>rfl
theorem KV.val {kvs:List (κ×V)}{vs:List (κ×Value)}(r:KV kvs vs)(k:κ):RelO (qB kvs k) (valueAt vs k):=by
 unfold KV at r
 induction r with
 | nil=>exact True.intro
 | @cons p q ps qs h t ih =>
  obtain ⟨h1,h2⟩:=h;by_cases e:p.1=k
  ·have e':q.1=k:=h1.symm.trans e;have b:valueAt (q::qs) k=some q.2:=by simp [valueAt,Y1y,e']
   rw [qC e,b];exact h2
  ·have e':¬ q.1=k:=λ z=>e (h1.trans z);have b:valueAt (q::qs) k=valueAt qs k:=by simp [valueAt,Y1y,e']
   rw [qD e,b];exact ih
theorem KV.any {kvs:List (κ×V)}{vs:List (κ×Value)}(r:KV kvs vs)(k:κ):(kvs.any λ kv=>decide (kv.1=k))=vs.any λ kv=>decide (kv.1=k):=by
 unfold KV at r
 induction r with
 | nil=>rfl
 | cons h t ih=>rw [Y1f,Y1f,ih,h.1]
theorem KV.repl {kvs:List (κ×V)}{vs:List (κ×Value)}(r:KV kvs vs)(k:κ){y:V}{u:Value}(ry:RelV y u) :
  KV (kvs.map λ kv=>if kv.1=k then (kv.1,y) else kv) (vs.map λ kv=>if kv.1=k then (kv.1,u) else kv):=by
 unfold KV at r ⊢
 induction r with
 | nil=>exact .nil
 | @cons p q ps qs h t ih =>
  rw [Y0i,Y0i];refine .cons ?_ ih;obtain ⟨h1,h2⟩:=h;by_cases e:p.1=k
  ·rw [if_pos e,if_pos (h1.symm.trans e)];exact ⟨h1,ry⟩
  ·rw [if_neg e,if_neg (λ z=>e (h1.trans z))];exact ⟨h1,h2⟩
theorem KV.put {kvs:List (κ×V)}{vs:List (κ×Value)}(r:KV kvs vs)(k:κ){y:V}{u:Value}(ry:RelV y u):KV (wZ kvs k y) (stored vs k u):=by
 unfold wZ stored;rw [r.any k];by_cases e:(vs.any λ kv=>decide (kv.1=k))=true
 ·rw [if_pos e,if_pos e];exact r.repl k ry
 ·rw [if_neg e,if_neg e];exact Paired.snoc r ⟨rfl,ry⟩
theorem KV.length {kvs:List (κ×V)}{vs:List (κ×Value)}(r:KV kvs vs):kvs.length=vs.length:=Paired.length r
end
theorem Za {P:XJ}{w:World}{k:Key}{u:Value}(r:RelV (kV k) u):(zx P w).is k u=true:=by
 cases k with
 | inl i=>obtain ⟨t,e⟩:=(show ∃ t,u=Value.int i t from r);subst e;exact QC P w i t
 | inr x=>obtain ⟨t,e⟩:=(show ∃ t,u=Value.str x t from r);subst e;exact QD P w x t
theorem yM {P:XJ}{w:World}:∀ {ks:List Key}{us:XW},Vals (ks.map kV) us->ItemsAre (zx P w) ks us
 | [],_,r=>by rw [Y2m] at r;cases r;exact .nil
 | k::ks,_,r=>by
  rw [Y0i] at r;cases r with
  | cons h t=>exact .cons (Za h) (yM t)
abbrev KT (H:Hp):List (List Key×V)->List (List Key×Addr×Value)->Prop:=Paired λ p q=>p.1=q.1/\H q.2.1=some (.tup (p.1.map kV))/\RelV p.2 q.2.2
theorem KT.val {H:Hp}{kvs:List (List Key×V)}{xs:List (List Key×Addr×Value)}(r:KT H kvs xs)(k:List Key):RelO (qB kvs k) ((atKey xs k).map (·.2)):=by
 induction r with
 | nil=>exact True.intro
 | @cons p q ps qs h t ih =>
  obtain ⟨h1,_,h2⟩:=h;by_cases e:p.1=k
  ·have e':q.1=k:=h1.symm.trans e;have b:atKey (q::qs) k=some q.2:=by simp [atKey,Y1y,e']
   rw [qC e,b];exact h2
  ·have e':¬ q.1=k:=λ z=>e (h1.trans z);have b:atKey (q::qs) k=atKey qs k:=by simp [atKey,Y1y,e']
   rw [qD e,b];exact ih
theorem KT.repl {H:Hp}{kvs:List (List Key×V)}{xs:List (List Key×Addr×Value)}(r:KT H kvs xs)(k:List Key){y:V}{u:Value}(ry:RelV y u) :
  KT H (kvs.map λ kv=>if kv.1=k then (kv.1,y) else kv) (xs.map (putAt k u)):=by
 induction r with
 | nil=>exact .nil
 | @cons p q ps qs h t ih =>
  rw [Y0i,Y0i];refine .cons ?_ ih;obtain ⟨h1,h2,h3⟩:=h;unfold putAt;by_cases e:p.1=k
  ·rw [if_pos e,if_pos (h1.symm.trans e)];exact ⟨h1,h2,ry⟩
  ·rw [if_neg e,if_neg (λ z=>e (h1.trans z))];exact ⟨h1,h2,h3⟩
theorem KT.put {H:Hp}{kvs:List (List Key×V)}{xs:List (List Key×Addr×Value)}(r:KT H kvs xs)(k:List Key){b:Addr}{y:V}{u:Value}(hb:H b=some (.tup (k.map kV)))(ry:RelV y u) :
  KT H (wZ kvs k y) (storedH xs k b u):=by
 have e:(kvs.any λ kv=>decide (kv.1=k))=(atKey xs k).isSome:=by
  rw [QG,(r.val k).isSome_eq,Y1z]
 unfold wZ storedH;rw [e];by_cases q:(atKey xs k).isSome=true
 ·rw [if_pos q,if_pos q];exact r.repl k ry
 ·rw [if_neg q,if_neg q];exact Paired.snoc r ⟨rfl,hb,ry⟩
theorem KT.keeps {H H':Hp}{kvs:List (List Key×V)}{xs:List (List Key×Addr×Value)}(r:KT H kvs xs)(ht:∀ b ys,H b=some (.tup ys)->H' b=some (.tup ys)):KT H' kvs xs :=
 Paired.mapP r λ _ _ z=>⟨z.1,ht _ _ z.2.1,z.2.2⟩
section
variable {P:XJ}{w:World}{H:Hp}{h:Heap}{a:Addr}
theorem zO {u:HO}(ok:HOk P w H h)(e:Rd H a u):ObjOk P w H h a u:=e.ok ok
theorem UA {kvs:List (Key×V)}(ok:HOk P w H h)(e:Rd H a (.dK kvs)):kvs.length<=sizeLine/\(a==sysModules)=false/\∃ vs,KV kvs vs/\h.DictOf (zx P w) a vs :=
 show ObjOk P w H h a (.dK kvs) from zO ok e
theorem z2u {kvs:List (Key×V)}(ok:HOk P w H h)(e:H a=some (.dK kvs)):kvs.length<=sizeLine/\(a==sysModules)=false/\∃ vs,KV kvs vs/\h.DictOf (zx P w) a vs:=UA ok (.inl e)
theorem ZJ {ks:List Key}(ok:HOk P w H h)(e:H a=some (.tup (ks.map kV))):(tupleKind (zx P w)).is h ks a:=by
 obtain ⟨_,its,r,o,h1,h2,n,h3⟩:=(show ObjOk P w H h a (.tup (ks.map kV)) from ok a _ e);exact ⟨o,its.toArray,n,h1,h2,h3,by simpa using yM r⟩
theorem UB {kvs:List (List Key×V)}(ok:HOk P w H h)(e:Rd H a (.dT kvs)):kvs.length<=sizeLine/\(a==sysModules)=false /\
  ∃ xs,KT H kvs xs/\h.DictOfH (tupleKind (zx P w)) a xs:=by
 obtain ⟨z,y,xs,r,o,es,ep,h1,h2,h3,h4,h5⟩:=(show ObjOk P w H h a (.dT kvs) from zO ok e);refine ⟨z,y,xs,r,o,es,ep,h1,h2,h3,h4,λ x hx=>?_,h5⟩;have all:∀ {l:List (List Key×V)}{m:List (List Key×Addr×Value)},KT H l m->∀ x∈m,(tupleKind (zx P w)).is h x.1 x.2.1:=by
  intro l m q
  induction q with
  | nil=>intro x hx;exact nomatch hx
  | @cons p q ps qs hq t ih =>
   intro x hx;rcases Y03.mp hx with e | hx
   ·subst e;exact ZJ ok (by rw [<- hq.1];exact hq.2.1)
   ·exact ih x hx
 exact all r x hx
theorem z2v {kvs:List (List Key×V)}(ok:HOk P w H h)(e:H a=some (.dT kvs)):kvs.length<=sizeLine/\(a==sysModules)=false /\
  ∃ xs,KT H kvs xs/\h.DictOfH (tupleKind (zx P w)) a xs:=UB ok (.inl e)
end
def DGet (H:Hp)(a:Addr)(y:V)(r:Option V):Prop :=
 (∃ kvs k,Rd H a (.dK kvs)/\y=kV k/\r=qB kvs k)\/∃ kvs k b,Rd H a (.dT kvs)/\y=.ref b/\H b=some (.tup (k.map kV))/\r=qB kvs k
def DPut (H:Hp)(a:Addr)(y v:V)(H':Hp):Prop :=
 (∃ kvs k,H a=some (.dK kvs)/\y=kV k/\kvs.length<sizeLine/\H'=upd H a (.dK (wZ kvs k v))) \/
 ∃ kvs k b,H a=some (.dT kvs)/\y=.ref b/\H b=some (.tup (k.map kV))/\kvs.length<sizeLine/\H'=upd H a (.dT (wZ kvs k v))
theorem DGet.k {H:Hp}{a:Addr}{kvs:List (Key×V)}{k:Key}(e:H a=some (.dK kvs)):DGet H a (kV k) (qB kvs k):=.inl ⟨kvs,k,.inl e,rfl,rfl⟩
theorem DPut.k {H:Hp}{a:Addr}{kvs:List (Key×V)}{k:Key}{v:V}(e:H a=some (.dK kvs))(hl:kvs.length<sizeLine):DPut H a (kV k) v (upd H a (.dK (wZ kvs k v))):=.inl ⟨kvs,k,e,rfl,hl,rfl⟩
section
variable {X:Cx}{pins:106}{σ:St}{H:Hp}{s:Shared}{a:Addr}{y v:V}{u r:Value}{o:Option V}{A:Around}{E:XQ}
theorem Inv.big (I:104):sysModules<s.heap.objs.size:=by
 have h:mainGlobals<s.heap.objs.size:=(I.mod.glob.keeps I.bk).lt;exact Y2g 102 h
theorem VB {Q:XQ}(hu:A.units+1<cLine)(I:104)(g:DGet H a y (some v))(ry:RelV y u)(h:∀ w' s',Inv X pins σ H s'->RelV v w'->Q w' s') :
  wpAny 105 A (getItem (.ref a) u) Q E s:=by
 rcases g with ⟨kvs,k,e,ey,l⟩ | ⟨kvs,k,b,e,ey,eb,l⟩
 ·subst ey;obtain ⟨z,hd,vs,rel,dd⟩:=UA I.hok e;obtain ⟨w',hw,rw'⟩:=RelO.some_of (v:=v) (o:=valueAt vs k) (by rw [l];exact rel.val k);exact wpAny_getItem_of (Za ry) dd.mapOf hw (h w' _ (I.tok _) rw')
 ·subst ey;cases (show u=Value.ref b from ry);obtain ⟨z,hd,xs,rel,dd⟩:=UB I.hok e;obtain ⟨w',hw,rw'⟩:=RelO.some_of (v:=v) (o:=(atKey xs k).map (·.2)) (by rw [l];exact rel.val k);obtain ⟨p,hp,hp2⟩:=Y1i.mp hw;refine wpAny_getItem_heap (tupleKind_room_in1 hu) (ZJ I.hok eb) dd hp ?_;rw [hp2];exact h w' _ (I.tok _) rw'
theorem z9i {Q:XQ}(hu:A.units+1<cLine)(I:104)(g:DGet H a y o)(ry:RelV y u)(h:∀ s',Inv X pins σ H s'->Q (.bool o.isSome) s') :
  wpAny 105 A (compareOp .In u (.ref a)) Q E s:=by
 rcases g with ⟨kvs,k,e,ey,l⟩ | ⟨kvs,k,b,e,ey,eb,l⟩
 ·subst ey;obtain ⟨z,hd,vs,rel,dd⟩:=UA I.hok e;refine wpAny_in_of (Za ry) hd dd.mapOf ?_;rw [<- (rel.val k).isSome_eq,<- l];exact h _ (I.tok _)
 ·subst ey;cases (show u=Value.ref b from ry);obtain ⟨z,hd,xs,rel,dd⟩:=UB I.hok e;refine wpAny_in_heap (tupleKind_room_in1 hu) (ZJ I.hok eb) hd dd ?_;have q:=(rel.val k).isSome_eq;rw [Y1z] at q;rw [<- q,<- l];exact h _ (I.tok _)
theorem z05 {Q:XQ}(hu:A.units+1<cLine)(I:104)(g:DGet H a y o)(ry:RelV y u)(h:∀ s',Inv X pins σ H s'->Q (.bool (!o.isSome)) s') :
  wpAny 105 A (compareOp .NotIn u (.ref a)) Q E s:=by
 rcases g with ⟨kvs,k,e,ey,l⟩ | ⟨kvs,k,b,e,ey,eb,l⟩
 ·subst ey;obtain ⟨z,hd,vs,rel,dd⟩:=UA I.hok e;refine wpAny_notIn_of (Za ry) hd dd.mapOf ?_;rw [<- (rel.val k).isSome_eq,<- l];exact h _ (I.tok _)
 ·subst ey;cases (show u=Value.ref b from ry);obtain ⟨z,hd,xs,rel,dd⟩:=UB I.hok e;refine wpAny_notIn_heap (tupleKind_room_in1 hu) (ZJ I.hok eb) hd dd ?_;have q:=(rel.val k).isSome_eq;rw [Y1z] at q;rw [<- q,<- l];exact h _ (I.tok _)
theorem UC {h':Heap}{t':Nat}{ob:HO}(I:104)(mu:Mut (H a))(hs:Heap.SameBut a s.heap h')(he:∃ q,h'.get? a=some q)(new:ObjOk X.prog X.w (upd H a ob) h' a ob) :
  Inv X pins σ (upd H a ob) { s with heap:=h',toks:=t' } :=
 I.write (x:=a) (e:=a) mu (.inl rfl) (λ b q hb z=>(hs.2 b hb).trans z) he new
theorem GR {P:XJ}{w:World}{H':Hp}{h':Heap}{kvs:List (Key×V)}{vs:List (Key×Value)}(z:kvs.length<=sizeLine)(hd:(a==sysModules)=false)(rel:KV kvs vs)(dd:h'.DictOf (zx P w) a vs) :
  ObjOk P w H' h' a (.dK kvs):=⟨z,hd,vs,rel,dd⟩
theorem VC {H':Hp}{Q:Unit->Shared->Prop}(hu:A.units+1<cLine)(I:104)(g:DPut H a y v H')(ry:RelV y u)(rv:RelV v r)(h:∀ s',Inv X pins σ H' s'->Q () s') :
  wpAny 105 A (setItem (.ref a) u r) Q E s:=by
 rcases g with ⟨kvs,k,e,ey,l,eH⟩ | ⟨kvs,k,b,e,ey,eb,l,eH⟩
 ·subst ey eH;obtain ⟨z,hd,vs,rel,dd⟩:=z2u I.hok e;have hz:vs.length<=sizeLine:=by rw [<- rel.length];exact z
  have hl:(wZ kvs k v).length<=sizeLine:=by have:=qE kvs k v;omega
  refine wpAny_setItem_pairs (hsz:=hz) (Za ry) dd λ h' dd' hs=>h _ ?_;have he:∃ q,h'.get? a=some q:=let ⟨q,_,_,hq,_⟩:=dd';⟨q,hq⟩;exact UC I (by rw [e];exact True.intro) hs he (GR hl hd (rel.put k rv) dd')
 ·subst ey eH;cases (show u=Value.ref b from ry);obtain ⟨z,hd,xs,rel,dd⟩:=z2v I.hok e;have hz:xs.length<=sizeLine:=by rw [<- Paired.length rel];exact z
  have hl:(wZ kvs k v).length<=sizeLine:=by have:=qE kvs k v;omega
  refine wpAny_setItem_heap (hsz:=hz) (tupleKind_room_in1 hu) (ZJ I.hok eb) dd λ h' dd' hs=>h _ ?_;obtain ⟨q,es,ep,hq,h2,h3,h4,_,h5⟩:=dd';refine UC I (by rw [e];exact True.intro) hs ⟨q,hq⟩ ⟨hl,hd,_,(rel.put k eb rv).keeps λ c ys ec=>?_,q,es,ep,hq,h2,h3,h4,h5⟩;rw [zu (z6q ec e (λ z=>nomatch z))];exact ec
end
theorem GS {P:XJ}{w:World}{H:Hp}(h:Heap)(hb:sysModules<h.objs.size):ObjOk P w H (h.push { cls:=.type "dict",data:=.dict #[] }) h.objs.size (.dK []) :=
 ⟨Y1h _,beq_eq_false_iff_ne.mpr (Ne.symm (Y0s hb)),[],.nil,Heap.DictOf.new h⟩
def z4m:TE:=λ _ H Q=>∀ p,H p=none->Q (.ref p) (upd H p (.dK []))
section
variable {X:Cx}{pos:Pos}
theorem GT:PE X (.Dict [] [] pos) z4m:=λ pins s σ H Q I h =>
 wpAny_Dict_empty ⟨.ref s.heap.objs.size,_,I.laid (a:=s.heap.objs.size) (o:=.dK []) (t':=s.toks) (λ _ _ q=>Y05 _ q) (Y0a _) (GS s.heap I.big),rfl,h _ (I.hok.fresh (Y0a _))⟩
end
def YB:List (TE×TE)->St->Hp->(List (V×V)->Hp->Prop)->Prop
 | [],_,H,Q=>Q [] H
 | (tk,tv)::r,σ,H,Q=>tk σ H λ x H1=>tv σ H1 λ y H2=>YB r σ H2 λ ps H3=>Q ((x,y)::ps) H3
abbrev VV:List (V×V)->List (Value×Value)->Prop:=Paired λ p q=>RelV p.1 q.1/\RelV p.2 q.2
def PPs (X:Cx)(pos:Pos)(keys:List (Option Expr))(values:List Expr)(trs:List (TE×TE)):Prop :=
 ∀ (pins:106) (s:Shared) (σ:St) (H:Hp) (Q:List (V×V)->Hp->Prop),Inv X pins σ H s->YB trs σ H Q ->
  wpAny 105 X.A (evalPairs (pairTrees keys values X.env pos)) (λ vs s'=>∃ ps H',Inv X pins σ H' s'/\VV ps vs/\Q ps H') X.xe s
theorem z06 {X:Cx}{pos:Pos}:PPs X pos [] [] []:=λ pins s σ H Q I h=>pairTrees_nil_walk ⟨[],H,I,.nil,h⟩
theorem GU {X:Cx}{pos:Pos}{k v:Expr}{ks:List (Option Expr)}{vs:List Expr}{tk tv:TE}{trs:List (TE×TE)}(hk:PE X k tk)(hv:PE X v tv)(hr:PPs X pos ks vs trs) :
  PPs X pos (some k::ks) (v::vs) ((tk,tv)::trs):=λ pins s σ H Q I h =>
 pairTrees_cons_walk (thn (hk pins s σ H _ I h) λ u s1 ⟨x,H1,I1,rx,q1⟩=>thn (hv pins s1 σ H1 _ I1 q1) λ w2 s2 ⟨y,H2,I2,ry,q2⟩ =>
  thn (hr pins s2 σ H2 _ I2 q2) λ ws s3 ⟨ps,H3,I3,rel,q3⟩=>⟨(x,y)::ps,H3,I3,.cons ⟨rx,ry⟩ rel,q3⟩)
def yN (kvs more:List (Key×V)):List (Key×V):=more.foldl (λ acc kv=>wZ acc kv.1 kv.2) kvs
theorem KV.merge:∀ {more:List (Key×V)}{rs:List (Key×Value)}{kvs:List (Key×V)}{vs:List (Key×Value)},KV more rs->KV kvs vs->KV (yN kvs more) (merged vs rs):=by
 intro more rs kvs vs r;unfold KV at r
 induction r generalizing kvs vs with
 | nil=>intro q;exact q
 | @cons p q ps qs h t ih =>
  intro r0;have e:KV (wZ kvs p.1 p.2) (stored vs q.1 q.2):=by
   have:=r0.put p.1 h.2
   rw [<- h.1];exact this
  exact ih e
theorem y8:∀ (more kvs:List (Key×V)),(yN kvs more).length<=kvs.length+more.length
 | [],kvs=>by show kvs.length<=kvs.length+0;omega
 | p::r,kvs=>by
  have h1:=y8 r (wZ kvs p.1 p.2);have h2:=qE kvs p.1 p.2;show (yN (wZ kvs p.1 p.2) r).length<=_;rw [Y0q];omega
structure M1 (X:Cx)(o:Expr)(m:Str)(apos:Pos)(e:Expr)(cpos:Pos):Prop where
 base:attributeBase o m X.env (eval o X.env)=eval o X.env
 few:((backTo cpos (starEach [e] X.env)).all (λ x=>!x.1)&&(backToKw cpos (keywordEach [] X.env)).all (λ x=>x.1.isSome)
  && decide (([e]:List Expr).length+([]:List Keyword).length+(if ([]:List Keyword).isEmpty then 0 else 1)<30))=true
 line:(apos.endLine==cpos.line)=true
 trees:backTo cpos (starEach [e] X.env)=[(false,eval e X.env)]
structure M2 (X:Cx)(o:Expr)(m:Str)(apos:Pos)(e f:Expr)(cpos:Pos):Prop where
 base:attributeBase o m X.env (eval o X.env)=eval o X.env
 few:((backTo cpos (starEach [e,f] X.env)).all (λ x=>!x.1)&&(backToKw cpos (keywordEach [] X.env)).all (λ x=>x.1.isSome)
  && decide (([e,f]:List Expr).length+([]:List Keyword).length+(if ([]:List Keyword).isEmpty then 0 else 1)<30))=true
 line:(apos.endLine==cpos.line)=true
 trees:backTo cpos (starEach [e,f] X.env)=[(false,eval e X.env),(false,eval f X.env)]
def IsD (H:Hp)(a:Addr):Prop:=(∃ kvs,Rd H a (.dK kvs))\/∃ kvs,Rd H a (.dT kvs)
end L2
namespace L2
open PySem PyProof.Rows
open Sem (wp)
theorem ZM {M:Model}{A:Around}{E:XQ}{nm q nm' q':Str}{C N D N':Addr}{bs bm bs' bm':XW}{hdct hdct':Bool}{sn sn':XU}{sub sub':XW}{ab ab':Bool}{col col':Option Bool}{dd dd':Option Addr}
  {k0 k1 k2 k3 k5 k0' k1' k2' k3' k5':Option Value}{newId newId':String}{h:Heap}{g:Array GenState}{d:Drawn}{t:Nat}{os:OsState}{e:Addr}{oe:Obj}{b:Bool}{Q:Bool->Shared->Prop}
  (hC:h.get? C=some (excClassObj nm q C N bs bm hdct sn sub ab col dd k0 k1 k2 k3 k5 newId)) (hD:h.get? D=some (excClassObj nm' q' D N' bs' bm' hdct' sn' sub' ab' col' dd' k0' k1' k2' k3' k5' newId'))
  (he:h.get? e=some oe) (hcls:oe.cls=.ref C) (hbase:bm'.contains (.type "BaseException")=true) (hb:(Value.ref C::bm).contains (.ref D)=b)
  (hq:Q b ⟨h,g,d,t,os⟩):wpAny M A (excMatches (.ref e) (.ref D)) Q E ⟨h,g,d,t,os⟩:=by
 have hcB:(Value.ref D::bm').contains (.type "BaseException")=true:=by rw [List.contains_cons,hbase,Bool.or_true]
 have f:=tc_notTuple;unfold excMatches
 repeat (first | (with_reducible refine wpAny_loadPart_at he ?_;rw [hcls]) | with_reducible refine wpAny_loadPart_at hD ?_ | (with_reducible refine wpAny_isSubtype_exc hD ?_;rw [hcB]) | (with_reducible refine wpAny_isSubtype_exc hC ?_;rw [hb]) | wp_step)
 all_goals (cases b<;>(try wp_walk)<;>exact hq)
end L2
namespace L2
open PySem PySem.Spec PyProof.Rows
def Fl (h:Heap)(a:Addr)(C:Value)(T:Option Addr):Prop :=
 ∃ oe vs a0,h.get? a=some oe/\oe.cls=C/\oe.data=.fields vs/\vs[0]?=some a0/\1<vs.size /\
  (match T with
  | none=>vs[1]?=some Value.none
  | some t=>vs[1]?=some (Value.ref t)/\t≠a/\∃ oT ts,h.get? t=some oT/\oT.data=.fields ts/\3<ts.size)
theorem JC {e1 e2:Env}(h:e1.frame=e2.frame):PySem.frameOf e1=PySem.frameOf e2:=by
 unfold PySem.frameOf;rw [h]
theorem Zl {e:Value}{e1 e2:Env}(h:e1.frame=e2.frame):noteFrame e e1=noteFrame e e2:=by
 unfold noteFrame;rw [h,JC h]
structure Wr (l fs:XV)(h h':Heap):Prop where
 keep:∀ b o,b∉l->b∉fs->h.get? b=some o->h'.get? b=some o
 slot:∀ b o,b∉l->b∈fs->h.get? b=some o->∃ sl,h'.get? b=some { o with slots:=sl }
theorem Wr.any {l fs:XV}{h h':Heap}(W:Wr l fs h h'){b:Addr}{o:Obj}(hb:b∉l)(e:h.get? b=some o):∃ sl,h'.get? b=some { o with slots:=sl }:=by
 by_cases hf:b∈fs
 ·exact W.slot b o hb hf e
 ·exact ⟨o.slots,W.keep b o hb hf e⟩
theorem ObjOk.there {P:XJ}{w:World}{H:Hp}{h:Heap}{a:Addr}{o:HO}(x:ObjOk P w H h a o):∃ ob,h.get? a=some ob:=by
 cases o with
 | lst xs=>obtain ⟨_,_,_,_,e⟩:=x;exact ⟨_,e⟩
 | tup xs=>obtain ⟨_,_,_,ob,e,_⟩:=x;exact ⟨_,e⟩
 | dK kvs=>obtain ⟨_,_,_,_,o,_,_,e,_⟩:=x;exact ⟨_,e⟩
 | dT kvs=>obtain ⟨_,_,_,_,o,_,_,e,_⟩:=x;exact ⟨_,e⟩
 | set S n=>obtain ⟨o,_,_,_,e,_⟩:=x;exact ⟨_,e⟩
 | ins C dx fs=>obtain ⟨_,_,_,e,_⟩:=x;exact ⟨_,e⟩
 | own y=>obtain ⟨_,e⟩:=x;exact ⟨_,e⟩
 | xd fs=>obtain ⟨_,⟨_,_,_,e,_⟩,_⟩:=x;exact ⟨_,e⟩
 | rng lo hi=>obtain ⟨_,_,_,e⟩:=x;exact ⟨_,e⟩
 | frz ob u=>obtain ⟨e,_⟩:=x;exact ⟨_,e⟩
 | tbl ps=>exact ⟨_,(show h.get? a=some _ from x)⟩
 | met f y=>exact ⟨_,(show h.get? a=some _ from x)⟩
 | ext φ=>obtain ⟨_,⟨_,e⟩,_⟩:=x;exact ⟨_,e⟩
section
variable {M:Model}{A:Around}{E:XQ}{s:Shared}{base:Heap}{env top:Env}{outer:List Env}{L a:Addr}{C:Value}{T:Option Addr}
theorem GV {Q:Unit->Shared->Prop}(hfr:A.frames=some (top::outer))(ht:top.frame=some L)(hf:env.frame=some L)(hl:s.heap.FunFrames base (top::outer))(fl:Fl s.heap a C T)
    (h:∀ h' T',Wr (a::T.toList) (frs (top::outer)) s.heap h'->Fl h' a C (some T')->(T=some T'\/s.heap.get? T'=none)->Q () { s with heap:=h' }) :
    wpAny M A (noteFrame (.ref a) env) Q E s:=by
  rw [Zl (e1:=env) (e2:=top) (hf.trans ht.symm)];have fl0:=fl;obtain ⟨oe,vs,a0,he,hc,hd,h0,hsz,hT⟩:=fl;subst hc;generalize hB:PySem.W.hideAll s.heap (a::(T.toList++frs (top::outer)))=B;have hkb:B.StaysIn s.heap:=λ b o e=>by rw [<- hB] at e;exact PySem.W.of_hideAll _ e
  have hen:B.get? a=none:=by rw [<- hB];exact Y37 _ (Y06 ..)
  have hl':s.heap.FunFrames B (top::outer):=by
    rw [<- hB];refine PySem.W.funFrames_hide hl λ env' he' b hb=>?_;exact Y04 _ (Y0z _ (Y3b.mpr ⟨env',he',hb⟩))
  have nf:∀ b,b∈frs (top::outer)->∀ o,s.heap.get? b=some o->∀ vs,o.data≠.fields vs:=λ b hb o e=>by
    obtain ⟨_,o',ho',hnf⟩:=hl.mem hb;rw [e] at ho';cases ho';exact hnf
  have unhid:∀ b o,b∉a::T.toList->b∉frs (top::outer)->s.heap.get? b=some o->B.get? b=some o:=λ b o hb hfb e=>by
    rw [<- hB];refine PySem.W.hideAll_get _ e λ z=>?_;rcases Y03.mp z with z | z
    · exact hb (z▸Y06 ..)
    · rcases Y0p.mp z with z | z
      · exact hb (Y04 _ z)
      · exact hfb z
  have fin:∀ h',Heap.NotedW B (top::outer) a oe.cls a0 (rawInt L) s.heap h'->Q () { s with heap:=h' }:=λ h' hN=>by
    obtain ⟨n1,n2,⟨oe',vs',T',oT',ts',g1,⟨g2,g3⟩,g4,g5,g6,g7,g8,g9,g10⟩,n4⟩:=hN;have slot:∀ b o,b∈frs (top::outer)->s.heap.get? b=some o->∃ sl,h'.get? b=some { o with slots:=sl }:=λ b o hb e=>n4 b o e (nf b hb o e);refine h h' T' ⟨λ b o hb hfb e=>n1 b o (unhid b o hb hfb e),λ b o _ hb e=>slot b o hb e⟩ ⟨oe',vs',a0,g1,g2,g4,g3,(Array.getElem?_eq_some_iff.mp g5).1,g5,g7,oT',ts',g8,g9,(Array.getElem?_eq_some_iff.mp g10).1⟩ ?_;by_cases q1:T'∈a::T.toList
    · rcases Y03.mp q1 with z | z
      · exact absurd z g7
      · left;cases T with
        | none=>simp at z
        | some t => have z' : T' = t := by simpa using z
                    rw [z']
    · right;cases e:s.heap.get? T' with
      | none=>rfl
      | some o =>
        exfalso
        by_cases q2:T'∈frs (top::outer)
        · obtain ⟨sl,q⟩:=slot T' o q2 e;rw [g8] at q;have q':oT'={ o with slots:=sl }:=Option.some.inj q;rw [q'] at g9;exact nf T' q2 o e _ g9
        · have:=unhid T' o q1 q2 e
          rw [g6] at this;cases this
  cases T with
  | none =>
    unfold noteFrame;simp only [ht];refine wpAny_bind (wpAny_field he hd hT ?_);rw [if_neg 102];exact wpAny_entryW hfr hl' ht he hkb hen hd hsz h0 fin
  | some t =>
    obtain ⟨h1,hta,oT,ts,hoT,hdT,hs3⟩:=hT;obtain ⟨fl3,h3⟩:∃ v,ts[3]?=some v:=⟨ts[3],by simp [hs3]⟩;have hnT:B.get? t=none:=by rw [<- hB];exact Y37 _ 110
    unfold noteFrame;simp only [ht];refine wpAny_bind (wpAny_field he hd h1 ?_);rw [if_pos (show (Value.ref t != Value.none)=true from by simp)];refine wpAny_bind (wpAny_field hoT hdT h3 ?_);by_cases hfl:(fl3==rawInt L)=true
    · rw [if_pos hfl];exact wpAny_pure (h s.heap t ⟨λ b o _ _ e=>e,λ b o _ _ e=>⟨o.slots,e⟩⟩ fl0 (.inl rfl))
    · rw [if_neg hfl];refine wpAny_bind (wpAny_setField hoT hdT hs3 ?_);have other:∀ b,b≠t->(s.heap.update t (Obj.mapFields (·.setIfInBounds 3 Value.none))).get? b=s.heap.get? b:=λ b hb=>Y1u _ _ (Ne.symm hb);have noRecord:∀ b o,s.heap.get? b=some o->(∀ vs,o.data≠.fields vs)->b≠t:=λ b o hb hnf q=>by
        rw [q,hoT] at hb;injection hb with hb;subst hb;exact hnf ts hdT
      refine wpAny_entryW hfr (hl'.of_keeps λ b o hb hnf=>⟨o,(other b (noRecord b o hb hnf)).trans hb,rfl⟩) ht ((other a (Ne.symm hta)).trans he)
        (λ b o hbo=>(other b λ q=>by rw [q,hnT] at hbo;cases hbo).trans (hkb b o hbo)) hen hd hsz h0 ?_
      rintro h' ⟨x1,x2,x3,x4⟩
      exact fin h' ⟨x1,x2,x3,λ b o hb hnf=>x4 b o ((other b (noRecord b o hb hnf)).trans hb) hnf⟩
theorem YC {t:Addr}{f:Option Addr}{Q:Unit->Shared->Prop}(fl:Fl s.heap a C (some t))
  (h:∀ h',Heap.SameBut t s.heap h'->Fl h' a C (some t)->Q () { s with heap:=h' }):wpAny M A (setFlight (.ref a) f) Q E s:=by
 obtain ⟨oe,vs,a0,he,hc,hd,h0,hsz,h1,hta,oT,ts,hoT,hdT,hs3⟩:=fl;unfold setFlight;refine wpAny_bind (wpAny_field he hd h1 ?_);rw [if_pos (show (Value.ref t != Value.none)=true from by simp)];refine wpAny_setField hoT hdT hs3 (h _ (Heap.SameBut.update ..) ?_);have hdT':=Obj.data_mapFields hdT (·.setIfInBounds 3 (f.elim Value.none λ f=>rawInt f));refine ⟨oe,vs,a0,(Y1u _ _ hta).trans he,hc,hd,h0,hsz,h1,hta,_,_,Y35 _ hoT (Obj.isFreed_of_fields hdT'),hdT',?_⟩;simpa using hs3
theorem ZN {t:Addr}{Q:XQ}(fl:Fl s.heap a C (some t))(h:Q (.ref t) s):wpAny M A (field (.ref a) 1) Q E s:=by
 obtain ⟨oe,vs,a0,he,hc,hd,h0,hsz,h1,_⟩:=fl;exact wpAny_field he hd h1 h
end
theorem Fl.at {h h':Heap}{a:Addr}{C:Value}{T:Option Addr}(fl:Fl h a C T)(k:∀ b∈a::T.toList,∀ o,h.get? b=some o->h'.get? b=some o):Fl h' a C T:=by
 obtain ⟨oe,vs,a0,he,hc,hd,h0,hsz,hT⟩:=fl;refine ⟨oe,vs,a0,k a 110 _ he,hc,hd,h0,hsz,?_⟩;cases T with
 | none=>exact hT
 | some t =>
  obtain ⟨h1,hta,oT,ts,hoT,r⟩:=hT;exact ⟨h1,hta,oT,ts,k t 110 _ hoT,r⟩
theorem Fl.rec {h:Heap}{a:Addr}{C:Value}{T:Option Addr}(fl:Fl h a C T):∀ b∈a::T.toList,∃ o vs,h.get? b=some o/\o.data=.fields vs:=by
 obtain ⟨oe,vs,a0,he,hc,hd,h0,hsz,hT⟩:=fl;intro b hb;rcases Y03.mp hb with rfl | hb
 ·exact ⟨oe,vs,he,hd⟩
 ·cases T with
  | none=>simp at hb
  | some t =>
   have e:b=t:=by simpa using hb
   subst e;obtain ⟨h1,hta,oT,ts,hoT,hdT,_⟩:=hT;exact ⟨oT,ts,hoT,hdT⟩
def Ow (X:Cx)(pins:106)(H:Hp)(b:Addr):Prop:=H b=none/\X.s₀.heap.get? b=none/\b∉X.ex/\∀ p∈X.pn++pins,p.1≠b
structure XOk (X:Cx):Prop where
 top:∃ top outer L,X.stack=top::outer/\top.frame=some L/\X.env.frame=some L
 ex:∀ b∈X.ex,∃ o,(b,o)∈X.pn
structure Fly (X:Cx)(pins:106)(H:Hp)(h:Heap)(a:Addr)(C:Value)(T:Option Addr):Prop where
 fl:Fl h a C T
 ow:∀ b∈a::T.toList,Ow X pins H b
section
variable {X:Cx}{pins:106}{σ:List (Option V)}{H H':Hp}{s:Shared}{h':Heap}
theorem Inv.ow (ok:XOk X)(I:104)(hH:H'=H\/True){b:Addr}(n:s.heap.get? b=none)(hn:H' b=none):Ow X pins H' b:=by
 have nx:b∉X.ex:=λ z=>by
  obtain ⟨o,ho⟩:=ok.ex b z
  have:=(I.pin (b,o) (Y1c _ ho)).1
  rw [n] at this;cases this
 refine ⟨hn,?_,nx,λ p hp e=>?_⟩
 ·cases q:X.s₀.heap.get? b with
  | none=>rfl
  | some o =>
   obtain ⟨o',e⟩:=I.base.there b o q nx;rw [n] at e;cases e
 ·have:=(I.pin p hp).1
  rw [e,n] at this;cases this
theorem Inv.untracked (I:104){b:Addr}(n:s.heap.get? b=none):H b=none:=by
 cases q:H b with
 | none=>rfl
 | some o =>
  obtain ⟨ob,e⟩:=(I.hok b o q).there;rw [n] at e;cases e
theorem Inv.wrote {l:XV}(I:104)(W:Wr l (frs X.stack) s.heap h')(ow:∀ b∈l,Ow X pins H b)(rec:∀ b∈l,∃ o vs,s.heap.get? b=some o/\o.data=.fields vs) :
  Inv X pins σ H { s with heap:=h' }:=by
 have lL:X.env.locals∉l:=λ z=>by
  obtain ⟨o,vs,e,d⟩:=rec _ z;obtain ⟨m,⟨o',es,ep,ho',hd',_⟩,_⟩:=I.loc;rw [e] at ho';cases ho';rw [d] at hd';cases hd'
 have cL:∀ x c,X.env.cells.lookup x=some c->c∉l:=λ x c e z=>by
  obtain ⟨o,vs,e1,d⟩:=rec _ z;obtain ⟨v,o',ho',hd'⟩:=I.cell x c e;rw [e1] at ho';cases ho';rw [d] at hd';cases hd'
 have sL:∀ b o,X.s₀.heap.get? b=some o->b∉l:=λ b o e z=>by rw [(ow b z).2.1] at e;cases e
 have tL:∀ b o,H b=some o->b∉l:=λ b o e z=>by rw [(ow b z).1] at e;cases e
 have nL:∀ m,s.heap.Ns X.env.locals m->h'.Ns X.env.locals m:=λ m hm=>by
  obtain ⟨o,es,ep,ho,hd,r⟩:=hm;obtain ⟨sl,q⟩:=W.any lL ho;exact ⟨_,es,ep,q,hd,r⟩
 have cell:∀ x c,X.env.cells.lookup x=some c->∀ v,s.heap.IsCell c v->h'.IsCell c v:=λ x c e v ⟨o,ho,hd⟩=>by
  obtain ⟨sl,q⟩:=W.any (cL x c e) ho;exact ⟨_,q,hd⟩
 have fs0:∀ b,b≠X.env.locals->b∉X.fs->b∉frs X.stack:=λ b h1 h2 z=>(Y03.mp (I.stkSub b z)).elim h1 h2;have old:∀ b o,X.s₀.heap.get? b=some o->b≠X.env.locals:=λ b o e=>Y0s (Y0o (Y0g e) I.ok.above);refine ⟨I.ok,I.os,I.bare,⟨λ b o e n hb hx=>?_,λ b o e n hb hx=>?_,I.base.free,λ b o e hx=>?_,I.base.tups,I.base.frzs,I.base.tbls⟩,?_,λ x c e=>?_,I.free,I.freeC,λ p hp=>?_,λ b u e=>?_,I.len⟩
 ·exact W.keep b o (sL b o e) (fs0 b (old b o e) hb) (I.base.keep b o e n hb hx)
 ·obtain ⟨sl,e1⟩:=I.base.slot b o e n hb hx;obtain ⟨sl',e2⟩:=W.any (sL b o e) e1;exact ⟨sl',e2⟩
 ·obtain ⟨o',e1⟩:=I.base.there b o e hx;obtain ⟨sl,e2⟩:=W.any (sL b o e) e1;exact ⟨_,e2⟩
 ·obtain ⟨m,hn,hl⟩:=I.loc;refine ⟨m,nL m hn,λ i x v e1 e2 e3=>?_⟩;obtain ⟨u,r,q⟩:=hl i x v e1 e2 e3;refine ⟨u,r,?_⟩;rcases q with q | ⟨k,c,e,z⟩
  ·exact .inl q
  ·exact .inr ⟨k,c,e,cell x c e _ z⟩
 ·obtain ⟨v,z⟩:=I.cell x c e;exact ⟨v,cell x c e v z⟩
 ·obtain ⟨e,n,ne,nf,d⟩:=I.pin p hp;exact ⟨W.keep p.1 p.2 (λ z=>(ow p.1 z).2.2.2 p hp rfl) (fs0 p.1 ne nf) e,n,ne,nf,d⟩
 ·refine (I.hok b u e).stay (λ c v hc q=>?_) (λ _ q=>q) λ _ _ q=>q;have hc':∃ u,H c=some u:=hc.elim (λ z=>⟨u,z▸e⟩) λ z=>⟨_,z⟩;obtain ⟨u',e'⟩:=hc';exact W.keep c v (tL c u' e') (λ z=>by rw [I.stkFree c z] at e';cases e') q
variable {M:Model}{A:Around}{E:XQ}{a:Addr}{C:Value}{T:Option Addr}{env:Env}
theorem Inv.note {Q:Unit->Shared->Prop}(ok:XOk X)(I:104)(F:Fly X pins H s.heap a C T)(hfr:A.frames=some X.stack)(hen:env.frame=X.env.frame)
  (h:∀ h' T',Inv X pins σ H { s with heap:=h' }->Fly X pins H h' a C (some T')->Q () { s with heap:=h' }):wpAny M A (noteFrame (.ref a) env) Q E s:=by
 obtain ⟨top,outer,L,e1,e2,e3⟩:=ok.top;have hst:=I.stack;rw [e1] at hfr hst;refine GV hfr e2 (hen.trans e3) hst F.fl λ h' T' W fl' new=>?_;rw [<- e1] at W;refine h h' T' (I.wrote W F.ow F.fl.rec) ⟨fl',λ b hb=>?_⟩;rcases Y03.mp hb with rfl | hb
 ·exact F.ow _ (Y06 ..)
 ·have e:b=T':=by simpa using hb
  subst e;rcases new with q | q
  ·exact F.ow _ (by rw [q];simp)
  ·exact I.ow ok (.inr trivial) q (I.untracked q)
theorem Inv.flight {t:Addr}{f:Option Addr}{Q:Unit->Shared->Prop}(I:104)(F:Fly X pins H s.heap a C (some t))
  (h:∀ h',Inv X pins σ H { s with heap:=h' }->Fly X pins H h' a C (some t)->Q () { s with heap:=h' }):wpAny M A (setFlight (.ref a) f) Q E s:=by
 refine YC F.fl λ h' sb fl'=>h h' (I.wrote (l:=[a,t]) ⟨λ b o hb _ e=>(sb.2 b λ z=>hb (by simp [z])).trans e,λ b o hb _ e=>⟨o.slots,(sb.2 b λ z=>hb (by simp [z])).trans e⟩⟩ (λ b hb=>F.ow b (by simpa using hb)) λ b hb=>F.fl.rec b (by simpa using hb)) ⟨fl',F.ow⟩
theorem Inv.passOn {α:Type}{t:Addr}{what:String}{Q:α->Shared->Prop}(I:104)(F:Fly X pins H s.heap a C (some t))
  (h:∀ h',Inv X pins σ H { s with heap:=h' }->Fly X pins H h' a C (some t)->E (.ref a) { s with heap:=h' }):wpAny M A (passOn what (.ref a) env:Sem α) Q E s:=by
 unfold PySem.passOn;refine wpAny_bind (ZN F.fl ?_);rw [if_neg (show ¬ ((Value.ref t==Value.none)=true) from by simp)];exact wpAny_bind (I.flight F λ h' I' F'=>wpAny_throw (h h' I' F'))
theorem Inv.cameBack {t:Addr}(I:104)(F:Fly X pins H s.heap a C (some t))
  (h:∀ h',Inv X pins σ H { s with heap:=h' }->Fly X pins H h' a C (some t)->E (.ref a) { s with heap:=h' }):cameBackBy M A env E (.ref a) s:=by
 unfold cameBackBy;refine wpAny_bind (ZN F.fl ?_);rw [if_neg (show ¬ ((Value.ref t==Value.none)=true) from by simp)];exact I.flight F λ h' I' F'=>h h' I' F'
end
abbrev ZK:=St->Value->Hp->Prop
def XE (X:Cx)(Z:ZK)(e:Value)(s':Shared):Prop:=∃ a C T σ' H',e=.ref a/\Inv X [] σ' H' s'/\Fly X [] H' s'.heap a C T/\Z σ' C H'
structure Thr (X:Cx)(Z:ZK):Prop extends XOk X where
 thr:∀ e s',XE X Z e s'->X.xe e s'
def CXs (P:XJ)(w:World):CXT:=λ outer H s E e s'=>∃ a C t H',e=.ref a/\s'.os=s.os/\AllBare s'.gens/\Un (frs outer) [] H H' s.heap s'.heap/\HOk P w H' s'.heap /\
 Fl s'.heap a C (some t)/\(∀ b∈[a,t],H' b=none/\s.heap.get? b=none)/\E C none H'
theorem z07 {P:XJ}{w:World}{K:Y00}{mg:XZ}{base:Heap}{N:XU}{qual:Str}{scope:Scope}{f:Addr}{cd:Value}{A:Around}{outer:List Env}{s:Shared}{H:Hp}{E:XK} :
  Thr (Wx (CXs P w) P w K mg base N qual scope f cd A outer s H E) (λ _ C H'=>E C none H') where
 top:=⟨_,_,_,rfl,rfl,rfl⟩
 ex:=λ b hb=>absurd (show b∈([]:List Addr) from hb) 110
 thr:=by
  rintro e s' ⟨a,C,T,σ',H',rfl,I,F,z⟩
  have ok:XOk (Wx (CXs P w) P w K mg base N qual scope f cd A outer s H E):=⟨⟨_,_,_,rfl,rfl,rfl⟩,λ b hb=>absurd (show b∈([]:List Addr) from hb) 110⟩;show wpAny (model P w) (A.deeper (envOfC qual scope s.heap.objs.size f cd)) (leaving (envOfC qual scope s.heap.objs.size f cd) (.ref a)) _ _ s';unfold leaving;refine wpAny_bind (I.note ok F I.ok.frames rfl λ h1 t I1 F1=>?_);refine I1.flight F1 λ h2 I2 F2=>?_;exact ⟨a,C,t,H',rfl,I2.os,I2.bare,I2.base,I2.hok,F2.fl,λ b hb=>⟨(F2.ow b (by simpa using hb)).1,(F2.ow b (by simpa using hb)).2.1⟩,z⟩
section
variable {X:Cx}{pins:106}{σ:St}{H:Hp}{s s':Shared}
theorem Inv.thrown {E:XK}{e:Value}(ok:XOk X)(I:104)(h:CXs X.prog X.w X.stack H s E e s'):∃ a C t H',e=.ref a/\Inv X pins σ H' s'/\Fly X pins H' s'.heap a C (some t)/\E C none H':=by
 obtain ⟨a,C,t,H',rfl,ho,hg,u,hok,fl,ow,q⟩:=h;have I':Inv X pins σ H' s':=I.call' (ch:=[]) ho u hok hg λ b hb=>absurd hb 110;refine ⟨a,C,t,H',rfl,I',⟨fl,λ b hb=>?_⟩,q⟩;obtain ⟨o1,o2⟩:=ow b (by simpa using hb);exact I.ow ok (.inr trivial) o2 o1
theorem Inv.nopins (I:104):Inv X [] σ H s:=I.pins_of λ p hp=>absurd hp 110
theorem Fly.nopins {h:Heap}{a:Addr}{C:Value}{T:Option Addr}(F:Fly X pins H h a C T):Fly X [] H h a C T :=
 ⟨F.fl,λ b hb=>⟨(F.ow b hb).1,(F.ow b hb).2.1,(F.ow b hb).2.2.1,λ p hp=>(F.ow b hb).2.2.2 p (by simp at hp;exact Y1c _ hp)⟩⟩
theorem Thr.go {Z:ZK}(th:Thr X Z){a:Addr}{C:Value}{T:Option Addr}(I:104)(F:Fly X pins H s.heap a C T)(z:Z σ C H):X.xe (.ref a) s :=
 th.thr _ _ ⟨a,C,T,σ,H,rfl,I.nopins,F.nopins,z⟩
end
def GW (sp:Sp)(dvs:List V)(Z:ZK)(t:TA):TE:=λ σ H Q=>t σ H λ vs H1=>sp (vs++dvs) H1 Q (λ C _ H'=>Z σ C H')
section
variable {X:Cx}{k:Nat}{f C:Addr}{fd:FuncData}{ps:XU}{sp:Sp}{dvs:List V}{ds:XW}{Z:ZK}{x m:Str}{p pos apos:Pos}{e o:Expr}{es:List Expr}{ta:TE}{t:TA}
theorem z08 {pins:106}{σ:St}{H:Hp}{s:Shared}{Q:VK}{us:XW}{vs:List V}(F:FnOk X.prog X.w X.K X.mg X.base (CXs X.prog X.w) k f fd ps sp)(hr:Room k X.A)(hb:Binds X.K fd ps ds)(hd:Vals dvs ds)(th:Thr X Z)
  (I:104) (r:Vals vs us) (h:sp (vs++dvs) H Q (λ C _ H'=>Z σ C H')):wpAny 105 X.A (call (.ref f) us) (EP X pins σ Q) X.xe s:=by
 have r2:Vals (vs++dvs) (us++ds):=r.append hd;have hl:(us++ds).length=ps.length:=by rw [<- r2.length];exact F.len _ _ _ _ h
 refine wpAny_call (codeAny_mono (F.run X.A X.stack s H ⟨us,[]⟩ (us++ds) (vs++dvs) Q _ hr I.env0 (hb s us I.kIn hl) r2 h) λ r s' hq=>?_);cases r with
 | error e =>
  have hq':CXs X.prog X.w X.stack H s (λ C _ H'=>Z σ C H') e s':=hq;obtain ⟨a,C,t,H',rfl,I',F',z⟩:=I.thrown th.toXOk hq';exact th.go I' F' z
 | ok fl =>
  cases fl with
  | ret u=>exact I.after hq
  | next=>exact False.elim hq
  | brk=>exact False.elim hq
  | cont=>exact False.elim hq
theorem GX (F:FnOk X.prog X.w X.K X.mg X.base (CXs X.prog X.w) k f fd ps sp)(hr:Room k X.A)(hg:Gl X x)(hm:X.mg x=some (.ref f))(hk:PySem.W.keepIn X.K (.ref f)=true)(hb:Binds X.K fd ps ds)(hd:Vals dvs ds)(th:Thr X Z)
  (ha:PA X (e::es) t) (hdb:125=false:=by decide) (he:starEach (e::es) X.env=(false,eval e X.env)::starEach es X.env:=by rfl) (hpl:(backTo pos (starEach es X.env)).any (·.1)=false:=by rfl) :
  PE X (.Call (.Name x p) (e::es) [] pos) (GW sp dvs Z t):=by
 intro pins s σ H Q I h;refine wpAny_Call_Name_kw (ZA I hg hm ?_ hdb);refine PySem.W.callWith_K (h₀:=X.base) I.ok.mod.kin hk (thn (ha pos pins s σ H _ I h) λ us s1 ⟨vs,H1,I1,r,q⟩=>⟨I1.kIn,?_⟩) he hpl;exact z08 F hr hb hd th I1 r q
end
def JD (env:Env):List (Str×NameKind)->List (Str×Addr)->List (Str×Addr)
 | [],cs=>cs
 | (n,k)::r,cs=>JD env r (if k==.free then (n,(env.cells.lookup n).getD 0)::cs else cs)
def QH (scope:Scope)(env:Env):List (Str×Addr):=JD env scope.names []
theorem ZO {scope:Scope}{env:Env}(h:∀ y∈scope.names,y.2=.free->∃ c,env.cells.lookup y.1=some c):closureFor scope env=pure (QH scope env):=by
 unfold closureFor QH;have go:∀ (l:List (Str×NameKind)) (cs:List (Str×Addr)),(∀ y∈l,y.2=.free->∃ c,env.cells.lookup y.1=some c) ->
   (forIn l cs λ (x:Str×NameKind) (r:List (Str×Addr))=>(match x with
    | (name,kind)=>if (kind==NameKind.free)=true then (do let a <- cellOf env name;pure (ForInStep.yield ((name,a)::r))) else (pure (ForInStep.yield r)):Sem (ForInStep (List (Str×Addr)))))=(pure (JD env l cs):Sem (List (Str×Addr))):=by
  intro l
  induction l with
  | nil=>intro cs _;rfl
  | cons y r ih =>
   intro cs hl;obtain ⟨n,k⟩:=y;rw [List.forIn_cons];by_cases hk:(k==NameKind.free)=true
   ·obtain ⟨c,hc⟩:=hl (n,k) (Y06 ..) (by simpa using hk);have e:cellOf env n=pure c:=by unfold cellOf;rw [hc]
    simp only [hk,if_true,e,pure_bind,JD,hc,Y3i];exact ih _ λ y hy=>hl y (Y04 _ hy)
   ·simp only [hk,if_false,pure_bind,JD,Y1m];exact ih _ λ y hy=>hl y (Y04 _ hy)
 have:=go scope.names [] h
 first
  | (rw [this];rfl)
  | (simp only [bind_pure_comp] at this ⊢;rw [this];rfl)
  | (simp only [bind_pure_comp] at this ⊢;rw [this];simp)
theorem QI {env:Env}:∀ {l:List (Str×NameKind)}{cs:List (Str×Addr)}{x:Str}{c:Addr},(∀ y∈l,y.2=.free->∃ c,env.cells.lookup y.1=some c)->(x,c)∈JD env l cs->(x,c)∈cs\/env.cells.lookup x=some c
 | [],_,_,_,_,h=>.inl h
 | (n,k)::r,cs,x,c,hl,h=>by
  rcases QI (l:=r) (λ y hy=>hl y (Y04 _ hy)) h with h | h
  ·by_cases hk:(k==NameKind.free)=true
   ·rw [if_pos hk] at h;rcases Y03.mp h with e | h
    ·obtain ⟨c',hc⟩:=hl (n,k) (Y06 ..) (by simpa using hk);rw [hc] at e;cases e;exact .inr hc
    ·exact .inl h
   ·rw [if_neg hk] at h;exact .inl h
  ·exact .inr h
theorem W6 {env:Env}:∀ {l:List (Str×NameKind)}{cs:List (Str×Addr)}{p:Str×Addr},p∈cs->p∈JD env l cs
 | [],_,_,h=>h
 | (n,k)::r,cs,p,h=>by
  unfold JD;refine W6 ?_
  split
  ·exact Y04 _ h
  ·exact h
theorem ZP {env:Env}:∀ {l:List (Str×NameKind)}{cs:List (Str×Addr)}{x:Str},(x,NameKind.free)∈l->∃ c,(x,c)∈JD env l cs
 | (n,k)::r,cs,x,h=>by
  unfold JD;rcases Y03.mp h with e | h
  ·cases e;exact ⟨(env.cells.lookup n).getD 0,W6 (by rw [if_pos 102];exact Y06 ..)⟩
  ·exact ZP h
theorem jx {α β:Type}[BEq α][LawfulBEq α]:∀ {l:List (α×β)}{x:α}{c:β},(x,c)∈l->∃ c',l.lookup x=some c'
 | (n,k)::r,x,c,h=>by
  rw [Y26];cases e:x==n with
  | true=>exact ⟨k,rfl⟩
  | false =>
   rcases Y03.mp h with q | q
   ·cases q;simp at e
   ·exact jx q
def jA (scope:Scope)(C:Addr)(env:Env):List (Str×Addr):=cellsFrom (C+1) scope.names (QH scope env)
theorem j0:∀ (l:List (Str×NameKind)) (n:Nat) (acc:List (Str×Addr)),cellsFrom n l acc=cellsFrom n l []++acc
 | [],_,_=>rfl
 | (x,k)::r,n,acc=>by
  unfold cellsFrom;by_cases hk:(k==NameKind.cell)=true
  ·rw [if_pos hk,if_pos hk,j0 r (n+1) ((x,n)::acc),j0 r (n+1) [(x,n)],Y07];rfl
  ·rw [if_neg hk,if_neg hk];exact j0 r n acc
theorem wH:∀ {l:List (Str×NameKind)}{n:Nat}{x:Str}{c:Addr},(x,c)∈cellsFrom n l []->(x,NameKind.cell)∈l
 | (y,k)::r,n,x,c,h=>by
  unfold cellsFrom at h;by_cases hk:(k==NameKind.cell)=true
  ·rw [if_pos hk,j0] at h;rcases Y0p.mp h with h | h
   ·exact Y04 _ (wH h)
   ·have e:x=y:=by simpa using (Y0d.mp h▸rfl:(x,c).1=(y,n).1)
    have e2:k=.cell:=by simpa using hk
    rw [e,e2];exact Y06 ..
  ·rw [if_neg hk] at h;exact Y04 _ (wH h)
theorem GY {scope:Scope}{C:Addr}{env:Env}{x:Str}{c:Addr}(h:(jA scope C env).lookup x=some c):(cellsFrom (C+1) scope.names []).lookup x=some c\/((cellsFrom (C+1) scope.names []).lookup x=none/\(QH scope env).lookup x=some c):=by
 unfold jA at h;rw [j0,Y3c] at h;cases e:(cellsFrom (C+1) scope.names []).lookup x with
 | none=>rw [e] at h;exact .inr ⟨rfl,h⟩
 | some c'=>rw [e] at h;exact .inl h
theorem z4n {scope:Scope}{C:Addr}{env:Env}{x:Str}{c:Addr}(h:(cellsFrom (C+1) scope.names []).lookup x=some c):(jA scope C env).lookup x=some c:=by
 unfold jA;rw [j0,Y3c,h];rfl
theorem z4o {scope:Scope}{C:Addr}{env:Env}{x:Str}{c:Addr}(h:(QH scope env).lookup x=some c)(h0:(cellsFrom (C+1) scope.names []).lookup x=none):(jA scope C env).lookup x=some c:=by
 unfold jA;rw [j0,Y3c,h0];exact h
theorem ZQ {M:Model}{A:Around}{E:XQ}{s:Shared}{scope:Scope}{globals:Addr}{closure:List (Str×Addr)}{qual:Str}{func:Option Addr}{code:Value}{e:Env}{builtins:Addr}{Q:Env->Shared->Prop}
  (hQ:Q (newEnv scope s.heap.objs.size globals (cellsFrom (s.heap.objs.size+1) scope.names closure) qual func code (some e) builtins) { s with heap:=pushCells (s.heap.push { cls:=.type "dict",data:=.dict #[] }) scope.names }) :
  wpAny M A (newFunctionEnv scope globals closure [] qual func code (some e) builtins) Q E s:=by
 simp only [newFunctionEnv,Option.isSome_some,if_true];refine wpAny_bind (wpAny_alloc ?_);refine wpAny_bind (wpAny_layCells _ (λ name kind cells=>by cases hkc:kind==NameKind.cell<;>simp [hkc]) _ _ _ _ ?_);rw [show ({ s with heap:=s.heap.push { cls:=.type "dict",data:=.dict #[] } }:Shared).heap.objs.size=s.heap.objs.size+1 from Y39 ..];refine wpAny_bind ?_;rw [List.forIn_nil];exact wpAny_pure (wpAny_pure hQ)
abbrev zn (X:Cx)(NC:XU)(scope:Scope)(C:Addr)(s:Shared)(H:Hp)(ex:XV)(pn:106)(xe:XQ):Cx :=
  { X with N:=NC,s₀:=s,H₀:=H,env:=compEnvC scope (jA scope C X.env) C X.env,outer:=X.stack,stack:=X.stack,ex:=ex,fn:=λ x=>scope.names.lookup x==some .cell,calm:=true,pn:=pn,xe:=xe }
def jy (osc scope:Scope)(N NC:XU)(cap:List (Option Nat)):Bool :=
 scope.kind==.function&&scope.names.all (λ y=>y.2 != .cell||scope.names.lookup y.1==some .cell) &&
 scope.names.all (λ y=>y.2 != .local||scope.names.lookup y.1==some .local) &&
 scope.names.all (λ y=>y.2 != .free||osc.names.lookup y.1==some .cell)&&cap.length==NC.length &&
 (List.range NC.length).all λ j=>match cap[j]?,NC[j]? with
  | some (some i),some x=>N[i]?==some x&&scope.names.lookup x==some .free
  | some none,some x=>scope.names.lookup x==some .local||scope.names.lookup x==some .cell
  | _,_=>false
def qF (cap:List (Option Nat))(σ:St):St:=cap.map λ o=>o.bind λ i=>(σ[i]?).bind id
theorem q9 {scope:Scope}{env:Env}{x:Str}(hk:env.scope.kind=.function):∀ {names:List (Str×NameKind)},(∀ y∈names,y.2=.free->env.kindOf y.1=some .cell) ->
  (names.map λ (n,k)=>if (k==NameKind.free&&env.scope.kind==.function&&env.kindOf n==some .cell) then (n,NameKind.cell) else (n,k)).lookup x=(names.lookup x).map λ k=>if k=.free then .cell else k
 | [],_=>rfl
 | (n,k)::r,h=>by
  have ih:=q9 (scope:=scope) (x:=x) hk (names:=r) λ y hy=>h y (Y04 _ hy);show List.lookup x ((if (k==NameKind.free&&env.scope.kind==.function&&env.kindOf n==some .cell)=true then (n,NameKind.cell) else (n,k))::_)=_;by_cases hkf:k=.free
  ·subst hkf;rw [if_pos (by rw [hk,h (n,.free) (Y06 ..) rfl];decide)];rw [Y26,Y26];cases e:x==n with
   | true=>rfl
   | false=>exact ih
  ·rw [if_neg (by intro z;simp only [Y0c,beq_iff_eq] at z;exact hkf z.1.1)];rw [Y26,Y26];cases e:x==n with
   | true=>simp [hkf]
   | false=>exact ih
section
variable {X:Cx}{pins:106}{σ:St}{H H':Hp}{s s':Shared}
theorem Inv.repn {pn pins':106}{xe:XQ}(I:104)(h:∀ p∈pn++pins',p∈X.pn++pins):Inv { X with pn:=pn,xe:=xe } pins' σ H s :=
 ⟨⟨I.ok.mod,I.ok.kind,I.ok.glob,I.ok.blt,I.ok.above,I.ok.inj,I.ok.has,I.ok.cab,I.ok.hd,I.ok.frames,I.ok.stk,I.ok.exf,I.ok.bs,I.ok.bsz,I.ok.noex,I.ok.exfs,I.ok.funs,I.ok.frf⟩,
  I.os,I.bare,I.base,I.loc,I.cell,I.free,I.freeC,λ p hp=>I.pin p (h p hp),I.hok,I.len⟩
theorem Inv.track {D:Addr}{o:HO}(I:104)(hD:H D=none)(h0:X.s₀.heap.get? D=none)(hL:D≠X.env.locals)(hC:∀ x c,X.env.cells.lookup x=some c->c≠D)(hp:∀ p∈X.pn++pins,p.1≠D)
  (new:ObjOk X.prog X.w (upd H D o) s.heap D o):Inv X pins σ (upd H D o) s:=by
 have up:∀ b u,H b=some u->upd H D o b=some u:=λ b u e=>by rw [zu (jJ e hD)];exact e
 refine ⟨I.ok,I.os,I.bare,⟨I.base.keep,I.base.slot,λ b u e n hx=>?_,I.base.there,λ b xs e=>up _ _ (I.base.tups b xs e),λ b u xs e=>up _ _ (I.base.frzs b u xs e),λ b ps e=>?_⟩,I.loc,I.cell,?_,λ x c e=>?_,λ p hq=>?_,λ b u e=>?_,I.len⟩
 ·rw [zu (λ z=>by rw [z,h0] at e;cases e)];exact I.base.free b u e n hx
 ·obtain ⟨more,q⟩:=I.base.tbls b ps e;exact ⟨more,up _ _ q⟩
 ·rw [zu (Ne.symm hL)];exact I.free
 ·rw [zu (hC x c e)];exact I.freeC x c e
 ·obtain ⟨e,n,r⟩:=I.pin p hq;exact ⟨e,by rw [zu (hp p hq)];exact n,r⟩
 ·by_cases hb:b=D
  ·subst hb;rw [zA] at e;cases e;exact new
  ·rw [zu hb] at e;exact (I.hok b u e).stay (λ _ _ _ q=>q) (λ c q=>up _ _ q) λ c xs q=>up _ _ q
end
def PF (X:Cx)(ifs:List Expr)(t:TT):Prop :=
 ∀ (pins:106) (s:Shared) (σ:St) (H:Hp) (Q:Bool->Hp->Prop),Inv X pins σ H s->t σ H Q ->
  wpAny 105 X.A (forIn ifs true λ c r=>if r=true then do let ok <- isTrue c X.env (eval c X.env);pure (ForInStep.yield ok) else pure (ForInStep.yield r)) (TP X pins σ Q) X.xe s
def z09:TT:=λ _ H Q=>Q true H
theorem z4p {X:Cx}:PF X [] z09:=λ pins s σ H Q I h=>wpAny_tests_nil ⟨H,I,h⟩
theorem GZ {X:Cx}{c:Expr}{t:TT}(h:PT X c t):PF X [c] t:=λ pins s σ H Q I q=>wpAny_tests_one (h pins s σ H Q I q)
theorem jf {osc scope:Scope}{N NC:XU}{cap:List (Option Nat)}(h:jy osc scope N NC cap=true) :
  scope.kind=.function/\(∀ y∈scope.names,y.2=.cell->scope.names.lookup y.1=some .cell)/\(∀ y∈scope.names,y.2=.local->scope.names.lookup y.1=some .local)/\(∀ y∈scope.names,y.2=.free->osc.names.lookup y.1=some .cell)/\cap.length=NC.length /\
  (∀ (j i:Nat),cap[j]?=some (some i)->∃ x,NC[j]?=some x/\N[i]?=some x/\scope.names.lookup x=some .free)/\∀ (j:Nat) (x:Str),cap[j]?=some none->NC[j]?=some x->scope.names.lookup x=some .local\/scope.names.lookup x=some .cell:=by
 unfold jy at h;simp only [Y0c,Y14,bne_iff_ne,ne_eq,Bool.or_eq_true,beq_iff_eq,Y1a] at h;obtain ⟨⟨⟨⟨⟨h1,h2⟩,h3⟩,h4⟩,h5⟩,h6⟩:=h;refine ⟨h1,λ y hy e=>(h2 y hy).resolve_left λ z=>z e,λ y hy e=>(h3 y hy).resolve_left λ z=>z e,λ y hy e=>(h4 y hy).resolve_left λ z=>z e,h5,λ j i e=>?_,λ j x e ex=>?_⟩
 ·have hj:j<NC.length:=by rw [<- h5];exact (Y02.mp e).1
  have q:=h6 j hj;rw [e] at q;cases ex:NC[j]? with
  | none=>rw [ex] at q;simp at q
  | some x =>
   rw [ex] at q;simp only [Y0c,beq_iff_eq] at q;exact ⟨x,rfl,q.1,q.2⟩
 ·have hj:j<NC.length:=(Y02.mp ex).1;have q:=h6 j hj;rw [e,ex] at q;simpa using q
section
variable {X:Cx}{pins:106}{σ:St}{H₂:Hp}{s₂:Shared}{scope:Scope}{NC:XU}{cap:List (Option Nat)}{fp:XV}
theorem YD {C D:Addr}{h₁:Heap}{tk:Nat}{o:Obj}{xe:XQ}(I:Inv X pins σ H₂ s₂)(hc:X.calm=true)(cok:jy X.env.scope scope X.N NC cap=true)(f2:∀ b∈fp,Zj X pins H₂ b)(hfp:∀ b∈fp,∃ o,s₂.heap.get? b=some o)
  (hD:D=s₂.heap.objs.size) (hC:C=s₂.heap.objs.size+1) (old:∀ b o,s₂.heap.get? b=some o->h₁.get? b=some o) (hacc:h₁.get? D=some o) (ho:∀ v,o.data≠.cell v) {m:XZ} (ns:h₁.Ns C m) (own:CellsOk h₁ (C+1) (cellsFrom (C+1) scope.names [])) :
  Inv (zn X NC scope C s₂ H₂ fp [] xe) [(D,o)] (qF cap σ) H₂ { s₂ with heap:=h₁,toks:=tk }:=by
 obtain ⟨c1,c2,c3,c4,c5,c6,c7⟩:=jf cok;have hfree:∀ y∈scope.names,y.2=.free->∃ c,X.env.cells.lookup y.1=some c:=λ y hy e=>I.ok.has y.1 (.inl (c4 y hy e));have clx:∀ x c,(QH scope X.env).lookup x=some c->X.env.cells.lookup x=some c:=λ x c e=>by
  rcases QI hfree (Y10 e) with z | z
  ·simp at z
  ·exact z
 have ccx:∀ x c,(jA scope C X.env).lookup x=some c->(cellsFrom (C+1) scope.names []).lookup x=some c\/X.env.cells.lookup x=some c:=λ x c e=>(GY e).imp id λ z=>clx x c z.2;have hrel:∀ x,(compEnvC scope (jA scope C X.env) C X.env).kindOf x=(scope.names.lookup x).map λ k=>if k=.free then .cell else k:=λ x=>q9 (scope:=scope) I.ok.kind λ y hy e=>c4 y hy e;have fresh:∀ b,s₂.heap.objs.size<=b->s₂.heap.get? b=none:=λ b hb=>Y24 hb;have sz:s₂.heap.objs.size<=C:=by rw [hC];exact Y2l _
 have szD:s₂.heap.objs.size<=D:=by rw [hD];exact Y0a _
 have ownF:∀ x c,(cellsFrom (C+1) scope.names []).lookup x=some c->s₂.heap.get? c=none/\s₂.heap.objs.size<=c:=λ x c e=>by
  have q:=(own.empty x c (Y10 e)).2;have q2:s₂.heap.objs.size<=c:=by rw [hC] at q;omega
  exact ⟨fresh c q2,q2⟩
 have cloF:∀ x c,X.env.cells.lookup x=some c->c<s₂.heap.objs.size:=λ x c e=>by
  obtain ⟨v,q⟩:=I.cell x c e;exact q.lt
 have inj:∀ x y c,(jA scope C X.env).lookup x=some c->(jA scope C X.env).lookup y=some c->x=y:=λ x y c e1 e2=>by
  rcases ccx x c e1 with z1 | z1<;>rcases ccx y c e2 with z2 | z2
  ·exact name_of_addr own.apart (Y10 z1) (Y10 z2)
  ·exact absurd (cloF y c z2) (Nat.not_lt.mpr (ownF x c z1).2)
  ·exact absurd (cloF x c z1) (Nat.not_lt.mpr (ownF y c z2).2)
  ·exact I.ok.inj x y c z1 z2
 have exC:∀ b∈fp,b≠C:=λ b hb z=>by
  obtain ⟨o,e⟩:=hfp b hb;rw [z,fresh C sz] at e;cases e
 have exD:∀ b∈fp,b≠D:=λ b hb z=>by
  obtain ⟨o,e⟩:=hfp b hb;rw [z,fresh D szD] at e;cases e
 refine ⟨⟨I.ok.mod,c1,I.ok.glob,I.ok.blt,sz,inj,λ x hx=>?_,λ x c z e=>?_,λ _=>I.ok.hd hc,I.ok.frames,.inl rfl,λ b hb=>⟨exC b hb,λ x c e=>?_⟩,
  I.bs,Y0j I.ok.bsz I.sz,λ b o e z=>?_,λ b hb z=>?_,I.stack,I.stkFree⟩,rfl,I.bare,Un.kept old,⟨m,ns,λ j x v e1 e2 e3=>?_⟩,λ x c e=>?_,I.hok.fresh sz,λ x c e=>?_,λ p hp=>?_,I.hok.kept old,?_⟩
 ·rw [hrel] at hx;have hxf:scope.names.lookup x=some .free\/scope.names.lookup x=some .cell:=by
   cases e:scope.names.lookup x with
   | none=>rw [e] at hx;simp at hx
   | some k =>
    rw [e] at hx;by_cases hk:k=.free
    ·rw [hk];exact .inl rfl
    ·simp only [Y2a,if_neg hk,Option.some.injEq] at hx;rcases hx with z | z
     ·rw [z];exact .inr rfl
     ·exact absurd z hk
  rcases hxf with hxf | hxf
  ·obtain ⟨c,hm⟩:=ZP (env:=X.env) (cs:=[]) (Y10 hxf);obtain ⟨c',hl⟩:=jx hm;exact Y27.mp (Y1s _ _ _ (.inr (by rw [show (QH scope X.env).lookup x=some c' from hl];rfl)))
  ·exact Y27.mp (Y1s _ _ _ (.inl hxf))
 ·have hx:scope.names.lookup x=some .cell:=by simpa using z
  obtain ⟨c',hl⟩:=Y27.mp (Y1s (x:=x) scope.names (C+1) [] (.inl hx));have e':(jA scope C X.env).lookup x=some c:=e;rw [z4n hl] at e';cases e';exact (ownF x _ hl).2
 ·rcases ccx x c e with z | z
  ·intro q;obtain ⟨o,eb⟩:=hfp b hb;rw [<- q,(ownF x c z).1] at eb;cases eb
  ·exact (f2 b hb).2.2.2.2.1 x c z
 ·obtain ⟨e1,e2⟩:=I.bs b o e
  have:=(f2 b z).2.2.2.1
  rcases this with q | q
  ·exact I.ok.noex b o e q
  ·exact absurd (Y0o (Y0g (I.ok.bs b o e).1) q) (Y1b _)
 ·rcases Y03.mp (I.stkSub b z) with q | q
  ·exact (f2 b hb).2.1 q
  ·exact (f2 b hb).2.2.1 q
 ·have ej:cap[j]?=some ((some ((cap[j]?.bind id).getD 0):Option Nat)):=by
   unfold qF at e2;rw [Y0u] at e2;cases q:cap[j]? with
   | none=>rw [q] at e2;simp at e2
   | some oo =>
    rw [q] at e2;cases oo with
    | none=>simp at e2
    | some i=>simp
  generalize ((cap[j]?.bind id).getD 0)=i at ej;obtain ⟨y,y1,y2,y3⟩:=c6 j i ej
  have:y=x:=Option.some.inj (y1.symm.trans e1)
  subst this;have ev:σ[i]?=some (some v):=by
   unfold qF at e2;rw [Y0u,ej] at e2;simp only [Y2a,Y2u,Option.some.injEq] at e2;cases q:σ[i]? with
   | none=>rw [q] at e2;simp at e2
   | some w=>rw [q] at e2;simp at e2;rw [e2]
  have kc:X.env.scope.names.lookup y=some .cell:=c4 (y,.free) (Y10 y3) rfl;obtain ⟨m',hn',hl'⟩:=I.loc;obtain ⟨u,r,q⟩:=hl' i y v y2 ev (.inr (.inl kc));refine ⟨u,r,.inr ⟨.inl (by rw [hrel,y3];rfl),?_⟩⟩;rcases q with ⟨k,_⟩ | ⟨k,c,e,z⟩
  ·rw [show X.env.kindOf y=some .cell from kc] at k;cases k
  ·obtain ⟨c',hm⟩:=ZP (env:=X.env) (cs:=[]) (Y10 y3);obtain ⟨c'',hl⟩:=jx hm
   have:=clx y c'' hl
   rw [e] at this;cases this;obtain ⟨oc,h1,h2⟩:=z;refine ⟨c,z4o hl ?_,oc,old c oc h1,h2⟩;cases eo:(cellsFrom (C+1) scope.names []).lookup y with
   | none=>rfl
   | some c2' =>
    have q1:=c2 (y,.cell) (wH (Y10 eo)) rfl;rw [y3] at q1;cases q1
 ·rcases ccx x c e with z | z
  ·exact ⟨none,(own.empty x c (Y10 z)).1⟩
  ·obtain ⟨v,oc,h1,h2⟩:=I.cell x c z;exact ⟨v,oc,old c oc h1,h2⟩
 ·rcases ccx x c e with z | z
  ·exact I.hok.fresh (ownF x c z).2
  ·exact I.freeC x c z
 ·have e:p=(D,o):=by simpa using hp
  subst e;refine ⟨hacc,I.hok.fresh szD,λ z=>by rw [hC,hD] at z;exact absurd z (Y0s (Y25 _)),λ z=>?_,ho⟩;obtain ⟨_,ob,e,_⟩:=I.stack.mem z;rw [fresh D szD] at e;cases e
 ·unfold qF;rw [Y09];exact c5
theorem ZR {C:Addr}{pn pc:106}{σ':St}{H':Hp}{s':Shared}{h':Heap}{xe:XQ}(I:Inv X pins σ H₂ s₂)(f2:∀ b∈fp,Zj X pins H₂ b)(hC:C=s₂.heap.objs.size+1)
  (J:Inv (zn X NC scope C s₂ H₂ fp pn xe) pc σ' H' s') (sb:Heap.SameBut C s'.heap h'):Inv X pins σ H' { s' with heap:=h' }:=by
 have fC:s₂.heap.get? C=none:=Y24 (by rw [hC];exact Y2l _);have nC:∀ b o,s₂.heap.get? b=some o->b≠C:=λ b o e z=>by rw [z,fC] at e;cases e
 have u:Un (frs X.stack) fp H₂ H' s₂.heap h':=by
  have v:Un (frs X.stack) fp H₂ H' s₂.heap s'.heap:=J.base;refine ⟨λ b o e n hb hx=>(sb.2 b (nC b o e)).trans (v.keep b o e n hb hx),λ b o e n hb hx=>?_,v.free,λ b o e hx=>?_,v.tups,v.frzs,v.tbls⟩
  ·obtain ⟨sl,q⟩:=v.slot b o e n hb hx;exact ⟨sl,(sb.2 b (nC b o e)).trans q⟩
  ·obtain ⟨o',q⟩:=v.there b o e hx;exact ⟨o',(sb.2 b (nC b o e)).trans q⟩
 have hok:HOk X.prog X.w H' h':=λ b o e=>by
  refine (J.hok b o e).stay (λ c w hc q=>(sb.2 c λ z=>?_).trans q) (λ _ q=>q) λ _ _ q=>q;have fr:H' C=none:=J.free;subst z;rcases hc with rfl | hc
  ·rw [fr] at e;cases e
  ·rw [fr] at hc;cases hc
 exact I.call' (s':={ s' with heap:=h' }) (ch:=fp) J.os u hok J.bare λ b hb=>⟨(f2 b hb).2.2.2.1,(f2 b hb).2.1,(f2 b hb).2.2.2.2.1,(f2 b hb).2.2.2.2.2⟩
end
def z7b (σ σ':St):Prop:=σ'.length=σ.length/\∀ (i:Nat) v,σ[i]?=some (some v)->σ'[i]?=some (some v)
section
variable {prog:XJ}{w:World}{A:Around}{R:Result->Shared->Prop}{s:Shared}
theorem WC {elt target iter:Expr}{ifs:List Expr}{scope:Scope}{pos:Pos}{it acc:Value}{env:Env}(I:Nat->Shared->Prop)
  (turn:∀ n s,I n s->wpAny 123 A (pyNext it) (λ r s₁=>match r with
   | none=>R (.ok .next) s₁
   | some v=>wpAny 123 A (letOwnedTupleGo target it v) (λ _ s₁'=>wpAny 123 A (assign target env v) (λ _ s₂ =>
     wpAny 123 A (forIn ifs true λ c r=>if r=true then do let ok <- isTrue c env (eval c env);pure (ForInStep.yield ok) else pure (ForInStep.yield r)) (λ ok s₃ =>
      if ok=true then wpAny 123 A (eval elt env) (λ x s₄ =>
       wpAny 123 A (call (.builtin "list.append") [acc,x]) (λ _ s₅=>∃ m,m<n/\I m s₅) (notedBy 123 A env λ e s'=>R (.error e) s') s₄) (notedBy 123 A env λ e s'=>R (.error e) s') s₃
      else ∃ m,m<n/\I m s₃) (notedBy 123 A env λ e s'=>R (.error e) s') s₂) (notedBy 123 A env λ e s'=>R (.error e) s') s₁') (notedBy 123 A env λ e s'=>R (.error e) s') s₁) (notedBy 123 A env λ e s'=>R (.error e) s') s)
  (n:Nat) (h:I n s):codeAny 123 A (.compLoop (.ListComp elt [⟨target,iter,ifs,0⟩] scope pos) 0 it acc env) R s:=by
 refine codeAny_loop rfl I (λ n s hI=>?_) n h;show wpAny _ A ((compTurn (.ListComp elt [⟨target,iter,ifs,0⟩] scope pos) 0 it acc env).onRaise (λ x=>do noteFrame x env;theTreesLotGoes x)) _ _ s;refine wpAny_noted ?_;rw [compTurn_list];refine wpAny_bind (wpAny_standAt (wpAny_bind (wpAny_mono (turn n s hI) (λ r s₁ h₁=>?_) λ _ _ h'=>h')));cases r with
 | none=>exact wpAny_pure h₁
 | some v =>
  refine wpAny_bind (wpAny_mono h₁ (λ _ s₁' h₁'=>?_) λ _ _ h'=>h');refine wpAny_bind (wpAny_mono h₁' (λ _ s₂ h₂=>wpAny_bind (wpAny_mono h₂ (λ ok s₃ h₃=>?_) λ _ _ h'=>h')) λ _ _ h'=>h');cases ok with
  | false=>exact wpAny_pure ⟨rfl,h₃⟩
  | true =>
   exact wpAny_bind (wpAny_bind (wpAny_mono h₃ (λ x s₄ h₄=>wpAny_bind (wpAny_mono h₄ (λ _ s₅ h₅=>wpAny_pure (wpAny_pure ⟨rfl,h₅⟩)) λ _ _ h'=>h')) λ _ _ h'=>h'))
end
section
variable {X:Cx}{σ:St}{H:Hp}{s:Shared}
theorem Inv.repin {D:Addr}{o o':Obj}{h':Heap}(I:Inv X [(D,o)] σ H s)(hpn:∀ p∈X.pn,p.1≠D)(h0:X.s₀.heap.objs.size<=D)(ho':∀ v,o'.data≠.cell v)(sb:Heap.SameBut D s.heap h')(e':h'.get? D=some o') :
  Inv X [(D,o')] σ H { s with heap:=h' }:=by
 obtain ⟨e,n,ne,nf,d⟩:=I.pin (D,o) (Y0z _ 110);have I0:Inv X [] σ H s:=I.pins_of λ p hp=>absurd hp 110;have I1:Inv X [] σ H { s with heap:=h' }:=I0.turned (t':=s.toks) (it:=D) (λ b u hb q=>(sb.2 b hb).trans q) n ne (.inr h0) (λ x c ec z=>by
  obtain ⟨v,oc,h1,h2⟩:=I.cell x c ec;subst z;rw [e] at h1;cases h1;exact d v h2) λ p hp=>hpn p (by simpa using hp)
 refine I1.pins_of λ p hp=>?_;have q:p=(D,o'):=by simpa using hp
 subst q;exact ⟨e',n,ne,nf,ho'⟩
end
section
variable {X:Cx}{pins:106}{σ:St}{H₂:Hp}{s₂:Shared}{scope:Scope}{NC:XU}{cap:List (Option Nat)}{fp:XV}{elt tg iter:Expr}{ifs:List Expr}{pos:Pos}{Z:ZK}{J:It}{it:Addr}{tn:Nat->Heap->Prop}
 {g:TG}{tf:TT}{te:TE}{use:Option (Value->Sem Unit)}{Qv:XQ}
theorem W7 (hc:X.calm=true)(th:Thr X Z)(I:Inv X pins σ H₂ s₂)(T:Turn X.prog X.w X.K tg J fp it tn)(st2:tn 0 s₂.heap)(f2:∀ b∈fp,Zj X pins H₂ b)(cok:jy X.env.scope scope X.N NC cap=true)
  (hg:∀ C pn xe,PG (zn X NC scope C s₂ H₂ fp pn xe) tg g)
  (hf:∀ C pn xe,Thr (zn X NC scope C s₂ H₂ fp pn xe) (λ _ C' H'=>Z σ C' H')->PF (zn X NC scope C s₂ H₂ fp pn xe) ifs tf)
  (hb:∀ C pn xe,Thr (zn X NC scope C s₂ H₂ fp pn xe) (λ _ C' H'=>Z σ C' H')->PE (zn X NC scope C s₂ H₂ fp pn xe) elt te)
  (W:Nat->Nat->List V->Hp->Prop) (m0:Nat) (w0:W 0 m0 [] H₂) {Fn:List V->Hp->Prop}
  (turn:∀ i m ys H2,W i m ys H2->(J.stop i H2/\Fn ys H2)\/(J.go i H2/\ys.length<sizeLine/\∀ x H3,J.yld i H2 x H3->g x (qF cap σ) H3 λ σ4 H4=>z7b (qF cap σ) σ4/\tf σ4 H4 λ b H5 =>
   if b=true then te σ4 H5 λ y H6=>∃ m',m'<m/\W (i+1) m' (ys++[y]) H6 else ∃ m',m'<m/\W (i+1) m' ys H5))
  (fin:∀ (C D:Addr) (s':Shared) (H':Hp) (ys:List V) (us:XW) (n:Nat),Fn ys H'->Vals ys us->s'.heap.get? D=some { cls:=.type "list",data:=.seq us.toArray n }->H' D=none->H' C=none->D=s₂.heap.objs.size->C=s₂.heap.objs.size+1 ->
   (∃ m,s'.heap.Ns C m)->(∀ h',Heap.SameBut C s'.heap h'->Inv X pins σ H' { s' with heap:=h' })->compPost 105 X.A X.xe use Qv (.ref D) C (.ok .next) s') :
  wpAny 105 X.A (newList []) (λ acc s₃=>wpAny 105 X.A (newFunctionEnv scope X.env.globals (QH scope X.env) [] X.env.qual none .none (some X.env)) (λ cenv s₄ =>
   codeAny 105 X.A (.compStart (.ListComp elt [⟨tg,iter,ifs,0⟩] scope pos) 0 (.ref it) acc { cenv with scope:=relabel scope X.env }) (compPost 105 X.A X.xe use Qv acc cenv.locals) s₄) X.xe s₃) X.xe s₂:=by
 obtain ⟨c1,c2,c3,c4,c5,c6,c7⟩:=jf cok;refine wpAny_newObj_type (ZQ ?_);dsimp only;generalize hH2:s₂.heap.push { cls:=.type "list",dict:=none,data:=.seq ([]:List Value).toArray }=H2;generalize hh1:pushCells (H2.push { cls:=.type "dict",data:=.dict #[] }) scope.names=h₁;have hns₁:h₁.Ns H2.objs.size (λ _=>none):=hh1▸(Heap.Ns.new H2 (.type "dict")).keeps (pushCells_keeps _ _);have own₁:CellsOk h₁ (H2.objs.size+1) (cellsFrom (H2.objs.size+1) scope.names []):=by
  have ok:=cellsFrom_ok scope.names (H2.push { cls:=.type "dict",data:=.dict #[] }) (H2.objs.size+1) [] ⟨λ _ _ hm=>(nomatch hm),List.Pairwise.nil⟩ (by rw [Y39];exact Y0a _);rw [Y39,hh1] at ok;exact ok
 have hC:H2.objs.size=s₂.heap.objs.size+1:=by rw [<- hH2,Y39]
 have hDC:s₂.heap.objs.size≠H2.objs.size:=by rw [hC];exact Y0s (Y25 _)
 have below:∀ b,b<s₂.heap.objs.size->b≠H2.objs.size:=λ b hb=>by rw [hC];exact Y0s (Nat.lt_succ_of_lt hb)
 have old:∀ b o,s₂.heap.get? b=some o->h₁.get? b=some o:=λ b o e=>hh1▸pushCells_keeps _ _ _ _ (Y05 _ (hH2▸Y05 _ e));have hacc:h₁.get? s₂.heap.objs.size=some { cls:=.type "list",data:=.seq ([]:List Value).toArray 0 }:=hh1▸pushCells_keeps _ _ _ _ (Y05 _ (hH2▸Y0n _ rfl));have hfp:∀ b∈fp,∃ o,s₂.heap.get? b=some o:=λ b hb=>let ⟨o,e,_⟩:=T.obj _ _ st2 b hb;⟨o,e⟩;have nodata:∀ (us:XW) (n:Nat) v,({ cls:=.type "list",data:=.seq us.toArray n }:Obj).data≠.cell v:=λ us n v z=>by cases z
 have fpD:∀ b∈fp,b≠s₂.heap.objs.size:=λ b hb z=>by
  obtain ⟨o,e⟩:=hfp b hb;exact absurd (Y0g e) (by rw [z];exact Y1b _)
 generalize hEn:(notedBy 105 X.A (compEnvC scope (jA scope H2.objs.size X.env) H2.objs.size X.env) λ e s'=>compPost 105 X.A X.xe use Qv (.ref s₂.heap.objs.size) H2.objs.size (.error e) s')=En;have loop:∀ s₃:Shared,s₃={ s₂ with heap:=h₁,toks:=s₂.toks } ->
   codeAny 105 X.A (.compLoop (.ListComp elt [⟨tg,iter,ifs,0⟩] scope pos) 0 (.ref it) (.ref s₂.heap.objs.size) (compEnvC scope (jA scope H2.objs.size X.env) H2.objs.size X.env))
    (compPost 105 X.A X.xe use Qv (.ref s₂.heap.objs.size) H2.objs.size) s₃:=by
  rintro s₃ rfl
  refine WC (λ k s'=>∃ i ys us n H',Vals ys us/\W i k ys H'/\tn i s'.heap/\(∀ b∈fp,H' b=none) /\
   Inv (zn X NC scope H2.objs.size s₂ H₂ fp [] En) [(s₂.heap.objs.size,{ cls:=.type "list",data:=.seq us.toArray n })] (qF cap σ) H' s') ?_ m0
   ⟨0,[],[],0,H₂,.nil,w0,T.keep _ _ _ st2 λ b _ o e=>old b o e,λ b hb=>(f2 b hb).1,YD I hc cok f2 hfp rfl hC old hacc (nodata _ _) hns₁ own₁⟩
  rw [hEn]
  rintro k s' ⟨i,ys,us,n,H',rv,w,st,fr,Ic⟩
  have Fp:∀ {H':Hp}{us:XW}{n:Nat},(∀ b∈fp,H' b=none)->∀ b∈fp,Zj (zn X NC scope H2.objs.size s₂ H₂ fp [] En) [(s₂.heap.objs.size,({ cls:=.type "list",data:=.seq us.toArray n }:Obj))] H' b:=λ {H' us n} hn b hb=>by
   have q:=Ic.ok.exf b hb;refine ⟨hn b hb,q.1,λ z=>Ic.ok.exfs b hb z,.inl hb,q.2,λ p hp=>?_⟩;have e:p=(s₂.heap.objs.size,({ cls:=.type "list",data:=.seq us.toArray n }:Obj)):=by simpa using hp
   subst e;exact (fpD b hb).symm
  rcases turn i k ys H' w with ⟨stop,q⟩ | ⟨go,hlen,step⟩
  ·refine wpAny_mono (T.done (zn X NC scope H2.objs.size s₂ H₂ fp [] En) rfl rfl rfl rfl i _ s' _ H' En Ic (Fp fr) st stop) (λ r s4 h4=>?_) λ _ _ x=>x;obtain ⟨hr,I4⟩:=h4;subst hr;obtain ⟨m,ns,_⟩:=id I4.loc;obtain ⟨p1,p2,_⟩:=I4.pin _ (Y0z _ (Y0d.mpr rfl));exact fin _ _ s4 H' ys us n q rv p1 p2 I4.free rfl hC ⟨m,ns⟩ λ h' sb=>ZR I f2 hC I4 sb
  ·refine wpAny_mono (T.item (zn X NC scope H2.objs.size s₂ H₂ fp [] En) rfl rfl rfl rfl i _ s' _ H' En Ic (Fp fr) st go) (λ r s4 h4=>?_) λ _ _ x=>x;obtain ⟨u,hr,h4⟩:=h4;subst hr;refine wpAny_mono h4 (λ _ s5 h5=>?_) λ _ _ x=>x;obtain ⟨x,H5,I5,r5,y5,st5,fr5⟩:=h5;have I5':Inv (zn X NC scope H2.objs.size s₂ H₂ fp (qx fp s5.heap) En) [(s₂.heap.objs.size,{ cls:=.type "list",data:=.seq us.toArray n })] (qF cap σ) H5 s5 :=
    (I5.pinned (Fp fr5) (T.obj _ _ st5)).repn λ p hp=>by
     rcases Y0p.mp hp with z | z
     ·exact Y0z _ (Y0z _ z)
     ·exact Y0z _ (Y1c _ z)
   have okx:XOk (zn X NC scope H2.objs.size s₂ H₂ fp (qx fp s5.heap) En):=by
    obtain ⟨top,outer,L,e1,e2,e3⟩:=th.top;exact ⟨⟨top,outer,L,e1,e2,e3⟩,λ b hb=>let ⟨o,e,_⟩:=T.obj _ _ st5 b hb;⟨o,wu hb e⟩⟩
   have thx:Thr (zn X NC scope H2.objs.size s₂ H₂ fp (qx fp s5.heap) En) (λ _ C' H'=>Z σ C' H'):=by
    refine ⟨okx,?_⟩
    rintro e s6 ⟨a,C',T',σ6,H6,rfl,I6,F6,z6⟩
    show En (.ref a) s6;rw [<- hEn];unfold notedBy;refine I6.note okx F6 I6.ok.frames rfl λ h7 t7 I7 F7=>?_;obtain ⟨m,ns,_⟩:=id I7.loc;have fin7:∃ m,h7.Ns H2.objs.size m/\∀ h',Heap.SameBut H2.objs.size h7 h'->∀ cenv:Env,cenv.locals=H2.objs.size->wpAny 105 X.A (passOn "comprehension.variables-let-go" (.ref a) cenv:Sem Value) (λ _ _=>False) X.xe { s6 with heap:=h' }:=by
     refine ⟨m,ns,λ h' sb cenv _=>?_⟩;have I8:Inv X pins σ H6 { s6 with heap:=h' }:=ZR (s':={ s6 with heap:=h7 }) I f2 hC I7 sb;have F8:Fly X pins H6 h' a C' (some t7):=by
      refine ⟨F7.fl.at λ b hb o e=>(sb.2 b λ z=>?_).trans e,λ b hb=>?_⟩
      ·obtain ⟨o',vs,e1,e2⟩:=F7.fl.rec b hb;obtain ⟨oC,es,ep,e3,e4,_⟩:=ns;subst z;have q:o'=oC:=Option.some.inj (e1.symm.trans e3);rw [q] at e2;have q2:=e2.symm.trans e4;cases q2
      ·obtain ⟨o1,o2,_⟩:=F7.ow b hb;exact I.ow th.toXOk (.inr trivial) o2 o1
     exact I8.passOn F8 λ h9 I9 F9=>th.go I9 F9 z6
    show compPost _ _ _ _ _ _ _ (.error (.ref a)) _;cases use<;>exact fin7
   refine wpAny_mono (hg _ _ En _ s5 _ H5 x u _ I5' r5 (step x H5 y5)) (λ _ s6 h6=>?_) λ _ _ x=>x;obtain ⟨σ6,H6,I6,wk,q6⟩:=h6;refine wpAny_mono (hf _ _ En thx _ s6 σ6 H6 _ I6 q6) (λ b s7 h7=>?_) λ _ _ x=>x;obtain ⟨H7,I7,q7⟩:=h7;have back:∀ {s8:Shared}{H8:Hp}{ys':List V}{us':XW}{n' m':Nat},Inv (zn X NC scope H2.objs.size s₂ H₂ fp (qx fp s5.heap) En) [(s₂.heap.objs.size,{ cls:=.type "list",data:=.seq us'.toArray n' })] σ6 H8 s8->Vals ys' us'->m'<k->W (i+1) m' ys' H8 ->
     ∃ m,m<k/\∃ i ys us n H',Vals ys us/\W i m ys H'/\tn i s8.heap/\(∀ b∈fp,H' b=none)/\Inv (zn X NC scope H2.objs.size s₂ H₂ fp [] En) [(s₂.heap.objs.size,{ cls:=.type "list",data:=.seq us.toArray n })] (qF cap σ) H' s8:=by
    intro s8 H8 ys' us' n' m' I8 rv8 hm w8;refine ⟨m',hm,i+1,ys',us',n',H8,rv8,w8,T.keep _ _ _ st5 λ b hb o e=>(I8.pin (b,o) (Y1c _ (wu hb e))).1,λ b hb=>?_,?_⟩
    ·obtain ⟨o,e,d⟩:=T.obj _ _ st5 b hb;exact (I8.pin (b,o) (Y1c _ (wu hb e))).2.1
    ·have I9:=I8.weak (σ':=qF cap σ) wk.1.symm wk.2;exact I9.repn λ p hp=>Y0z _ (by simpa using hp)
   cases b with
   | false =>
    obtain ⟨m',hm,w8⟩:=q7;exact back I7 rv hm w8
   | true =>
    refine wpAny_mono (hb _ _ En thx _ s7 σ6 H7 _ I7 q7) (λ y s8 h8=>?_) λ _ _ x=>x;obtain ⟨v,H8,I8,rv8,m',hm,w8⟩:=h8;obtain ⟨p1,p2,_⟩:=I8.pin _ (Y0z _ (Y0d.mpr rfl));have hlu:us.length=ys.length:=rv.length.symm;refine append_at p1 (hsz:=by show us.toArray.size<=sizeLine;rw [Y08,hlu];exact Y28 hlen) λ h9 sb9 e9=>?_;rw [List.push_toArray] at e9;have I9:=I8.repin (λ p hp=>by
     have q:=(JW hp).1;exact fpD _ q) (Y0a _) (nodata _ _) sb9 e9
    exact back I9 (rv.append (.cons rv8 .nil)) hm w8
 exact codeAny_compStart_list (loop _ rfl) (T.self _ 0 _ _ _ (T.keep _ _ _ st2 λ b _ o e=>old b o e) (loop _ rfl))
end
def z7c (J:It)(H1:Hp)(cap:List (Option Nat))(σ:St)(g:TG)(tf:TT)(te:TE)(Q:VK):Prop:=∃ W:Nat->Nat->List V->Hp->Prop,(∃ m,W 0 m [] H1)/\∀ i m ys H2,W i m ys H2 ->
 (J.stop i H2/\ys.length<=sizeLine/\∀ p,H2 p=none->Q (.ref p) (upd H2 p (.lst ys))) \/
 (J.go i H2/\ys.length<sizeLine/\∀ x H3,J.yld i H2 x H3->g x (qF cap σ) H3 λ σ4 H4=>z7b (qF cap σ) σ4/\tf σ4 H4 λ b H5 =>
  if b=true then te σ4 H5 λ y H6=>∃ m',m'<m/\W (i+1) m' (ys++[y]) H6 else ∃ m',m'<m/\W (i+1) m' ys H5)
def O0 (Z:ZK)(cap:List (Option Nat))(wi:TI)(g:TG)(tf:ZK->TT)(te:ZK->TE):TE:=λ σ H Q=>wi σ H λ J H1=>z7c J H1 cap σ g (tf (λ _ C H'=>Z σ C H')) (te (λ _ C H'=>Z σ C H')) Q
section
variable {X:Cx}{scope:Scope}{NC:XU}{cap:List (Option Nat)}{elt tg iter:Expr}{ifs:List Expr}{pos:Pos}{Z:ZK}{wi:TI}{g:TG}{tf:ZK->TT}{te:ZK->TE}
theorem z0a (hc:X.calm=true)(th:Thr X Z)(hi:PI X tg iter wi)(cok:jy X.env.scope scope X.N NC cap=true)
  (hg:∀ C s H fp pn xe,PG 126 tg g)
  (hf:∀ C s H fp pn xe Zc,Thr 126 Zc->PF 126 ifs (tf Zc))
  (hb:∀ C s H fp pn xe Zc,Thr 126 Zc->PE 126 elt (te Zc))
  (hs:∀ x,foldedSetIterable iter X.env x=pure x:=by intro _;rfl):PE X (.ListComp elt [⟨tg,iter,ifs,0⟩] scope pos) (O0 Z cap wi g tf te):=by
 intro pins s σ H Q I h;obtain ⟨c1,c2,c3,c4,c5,c6,c7⟩:=jf cok;rw [eval_ListComp];refine wpAny_comprehension_free (use:=none) rfl hs (ZO λ y hy e=>I.ok.has y.1 (.inl (c4 y hy e))) c1 c3 (thn (hi pins s σ H _ I h) λ xv s₁ h₁=>thn h₁ λ itv s₂ h₂=>?_);obtain ⟨it,fp,tn,J,H2,rfl,I2,T,st2,f2,W,⟨m0,w0⟩,turn⟩:=h₂;refine W7 hc th I2 T st2 f2 cok (λ C pn xe=>hg C s₂ H2 fp pn xe) (λ C pn xe t=>hf C s₂ H2 fp pn xe _ t) (λ C pn xe t=>hb C s₂ H2 fp pn xe _ t) W m0 w0 turn ?_
 rintro C D s' H' ys us n ⟨hlen,q⟩ rv e hn _ rfl rfl ⟨m,ns⟩ lv
 refine ⟨m,ns,λ h' sb=>?_⟩;have I':=lv h' sb;have eD:h'.get? s₂.heap.objs.size=some { cls:=.type "list",data:=.seq us.toArray n }:=(sb.2 _ (Y0s (Y25 _))).trans e;refine ⟨.ref s₂.heap.objs.size,_,I'.track (o:=.lst ys) hn (Y24 I2.sz) (Y2z I2.lt) (λ x c ec z=>?_) (λ p hp z=>?_) ⟨hlen,us,n,rv,eD⟩,rfl,q _ hn⟩
 ·obtain ⟨v,q⟩:=I2.cell x c ec;exact absurd q.lt (by rw [z];exact Y1b _)
 ·exact absurd (Y0g (I2.pin p hp).1) (by rw [z];exact Y1b _)
end
theorem WD {K:Y00}{h:Heap}{C:Addr}{bmB:XW}{newId:String}(X:K.In h)(q:PySem.W.excIn K C bmB newId=true) :
  ∃ oc dd cd sl bm N nm qn bs hdct sn sub ab col k0 k1 k2 k3 k5 mN,K.lookup C=some ⟨oc,dd,.cls cd,sl⟩/\cd.mro=.ref C::bm/\h.get? C=some (excClassObj nm qn C N bs bm hdct sn sub ab col dd k0 k1 k2 k3 k5 newId)/\h.Ns N mN/\mN "__init__"=none/\OwnTail h bmB bm:=by
 unfold PySem.W.excIn at q;split at q
 ·rename_i dd cd sl ho;split at q
  ·rename_i C' bm k0 k1 k2 k3 n k5 hm hs;simp only [Y0c,beq_iff_eq,Y2e] at q;obtain ⟨⟨⟨⟨⟨rfl,rfl⟩,hdel⟩,ht⟩,hok⟩,hni⟩:=q;obtain ⟨nm,bs,mro,ns,qn,hd,sn,sub,ab,col,del⟩:=cd;dsimp only at hm hdel hok hni;subst hm hdel;have hsl:sl=#[k0,k1,k2,k3,some (.builtin n),k5]:=by
    obtain ⟨l⟩:=sl;simp only at hs;rw [hs]
   subst hsl;exact ⟨_,dd,_,_,bm,ns,nm,qn,bs,hd,sn,sub,ab,col,k0,k1,k2,k3,k5,_,ho,rfl,X _ _ ho,.of_isNs (PySem.W.isNs_of_in X hok),PySem.W.nsMap_none_of_in X hok hni,PySem.W.tail_of_in X ht⟩
  ·cases q
 ·cases q
def z4q (C:Addr)(Z:ZK)(ta:TA):TS:=λ _ σ H=>ta σ H λ vs H1=>vs.length<=sizeLine/\Z σ (.ref C) H1
section
variable {X:Cx}{Z:ZK}{x:Str}{C:Addr}{bmB:XW}{B newId initId:String}{e₀:Expr}{wK:List Expr}{ta:TA}{np cpos pos:Pos}
theorem O1 (th:Thr X Z)(hc:X.calm=true)(hg:Gl X x)(hm:X.mg x=some (.ref C))(hx:PySem.W.excIn X.K C bmB newId=true)(FB:ExcBaseFacts B newId initId bmB)(ha:PA X (e₀::wK) ta)
  (hd:125=false:=by decide) (he:starEach (e₀::wK) X.env=(false,eval e₀ X.env)::starEach wK X.env:=by rfl) (hplain:(backTo cpos (starEach wK X.env)).any (·.1)=false:=by rfl) :
  PS X (.Raise (some (.Call (.Name x np) (e₀::wK) [] cpos)) none pos) (z4q C Z ta):=by
 intro pins s σ H D I h;obtain ⟨oc,dd,cd,sl,bm,N,nm,q,bs,hdct,sn,sub,ab,col,k0,k1,k2,k3,k5,mN,_,_,hC,hN,hni,T⟩:=WD I.ok.mod.kin hx;refine wpAny_Raise_call_subT (C:=C) (nm:=nm) (q:=q) (N:=N) (bs:=bs) (bm:=bm) (hdct:=hdct) (sn:=sn) (sub:=sub) (ab:=ab) (col:=col) (dd:=dd) (k0:=k0) (k1:=k1) (k2:=k2) (k3:=k3) (k5:=k5)
  FB (mN:=mN) (T.hasType FB.hasBase) (I.ok.hd hc) (by rw [he];show (false||(backTo cpos (starEach wK X.env)).any (·.1))=false;rw [hplain];rfl) hni (ZA I hg hm ⟨rfl,?_⟩ hd)
 have hA:=ha cpos pins s σ H _ I h;rw [he] at hA ⊢;refine Calls.evalArgs_plain (wpAny_mono hA (λ us s2 h2=>?_) λ _ _ y=>y);obtain ⟨vs,H1,I1,r,hlen,z⟩:=h2;refine ⟨rfl,by rw [<- r.length];exact hlen,I1.bk _ _ hC,hN.keeps I1.bk,T.keeps I1.bk,λ h' e hm=>?_⟩;obtain ⟨t,he',ht0,ht⟩:=hm.there;have I2:Inv X pins σ H1 { s2 with heap:=h' }:=I1.kept (t':=s2.toks) hm.keeps;have F2:Fly X pins H1 h' e (.ref C) none:=by
  refine ⟨⟨_,_,.ref t,he',rfl,rfl,rfl,by simp,rfl⟩,λ b hb=>?_⟩;have e':b=e:=by simpa using hb
  subst e';exact I1.ow th.toXOk (.inr trivial) hm.new (I1.untracked hm.new)
 exact th.go I2 F2 z
end
def QJ (K:Y00)(c D:Addr):Prop:=(∃ bmB newId,PySem.W.excIn K c bmB newId=true)/\∃ oc dd cd sl,K.lookup c=some ⟨oc,dd,.cls cd,sl⟩/\cd.mro.contains (.ref D)=true
abbrev y9 (X:Cx)(pins:106)(xe:XQ):Cx:={ X with pn:=X.pn++pins,xe:=xe }
abbrev Zb (X:Cx)(pins:106)(a:Addr):Cx:={ X with A:=X.A.mark (some (.ref a)),calm:=false,pn:=X.pn++pins,xe:=λ _ _=>False }
section
variable {X:Cx}{pins:106}{σ:St}{H:Hp}{s:Shared}{xe:XQ}{a:Addr}
theorem Inv.toTry (I:104):Inv (y9 X pins xe) [] σ H s:=I.repn 110
theorem Inv.ofTry (I:Inv (y9 X pins xe) [] σ H s):Inv X pins σ H s:=I.repn (pn:=X.pn) (pins':=pins) (xe:=X.xe) 110
theorem Inv.toSuite (I:Inv (y9 X pins xe) [] σ H s):Inv (Zb X pins a) [] σ H s :=
 ⟨⟨I.ok.mod,I.ok.kind,I.ok.glob,I.ok.blt,I.ok.above,I.ok.inj,I.ok.has,I.ok.cab,λ z=>absurd z 110,I.ok.frames,I.ok.stk,I.ok.exf,I.ok.bs,I.ok.bsz,I.ok.noex,I.ok.exfs,I.ok.funs,I.ok.frf⟩,
  I.os,I.bare,I.base,I.loc,I.cell,I.free,I.freeC,I.pin,I.hok,I.len⟩
theorem Inv.ofSuite (ok:X.Ok)(I:Inv (Zb X pins a) [] σ H s):Inv X pins σ H s :=
 ⟨ok,I.os,I.bare,I.base,I.loc,I.cell,I.free,I.freeC,λ p hp=>I.pin p (by simpa using hp),I.hok,I.len⟩
theorem Inv.unbound {j:Nat}{n:Str}{h':Heap}{m m':XZ}{t':Nat}(I:104)(hN:X.N.Nodup)(hj:X.N[j]?=some n)(hn:s.heap.Ns X.env.locals m)(hl:∀ (i:Nat) (x:Str) (v:V),X.N[i]?=some x->σ[i]?=some (some v)->Vis X.env.scope x->∃ u,RelV v u/\z6r X.env s.heap m x u)
  (hn':h'.Ns X.env.locals m') (hm:∀ x,x≠n->m' x=m x) (hs:Heap.SameBut X.env.locals s.heap h'):Inv X pins (σ.set j none) H { s with heap:=h',toks:=t' }:=by
 have cne:=I.cne;obtain ⟨oL,_,_,hoL,_⟩:=id hn;have below:∀ b o,X.s₀.heap.get? b=some o->b≠X.env.locals:=λ b o e=>Y0s (Y0o (Y0g e) I.ok.above);refine ⟨I.ok,I.os,I.bare,⟨λ b o e n hb hx=>?_,λ b o e n hb hx=>?_,I.base.free,λ b o e hx=>?_,I.base.tups,I.base.frzs,I.base.tbls⟩,⟨m',hn',λ i y v e1 e2 e3=>?_⟩,λ y c e=>?_,I.free,I.freeC,λ p hp=>?_,λ b ob e=>?_,by simpa using I.len⟩
 ·exact (hs.2 b (below b o e)).trans (I.base.keep b o e n hb hx)
 ·obtain ⟨sl,e1⟩:=I.base.slot b o e n hb hx;exact ⟨sl,(hs.2 b (below b o e)).trans e1⟩
 ·obtain ⟨o',e1⟩:=I.base.there b o e hx;exact ⟨o',(hs.2 b (below b o e)).trans e1⟩
 ·have hi:i≠j:=λ z=>by
   subst z;by_cases hlt:i<σ.length
   ·rw [Y0r hlt] at e2;cases e2
   ·rw [Y1l 121] at e2;cases e2
  rw [Y0h (Ne.symm hi)] at e2;obtain ⟨u,r,q⟩:=hl i y v e1 e2 e3;refine ⟨u,r,?_⟩;rcases q with ⟨k,e⟩ | ⟨k,c,e,z⟩
  ·refine .inl ⟨k,?_⟩
   have:y≠n:=λ e=>hi (ZE hN e1 (e▸hj))
   rw [hm y this];exact e
  ·exact .inr ⟨k,c,e,z.sameBut hs (cne y c e)⟩
 ·obtain ⟨w',z⟩:=I.cell y c e;exact ⟨w',z.sameBut hs (cne y c e)⟩
 ·obtain ⟨e,n,ne,nf,d⟩:=I.pin p hp;exact ⟨(hs.2 p.1 ne).trans e,n,ne,nf,d⟩
 ·refine (I.hok b ob e).stay (λ c w' hc q=>(hs.2 c ?_).trans q) (λ _ q=>q) λ _ _ q=>q
  rintro rfl
  rcases hc with rfl | hc
  ·rw [I.free] at e;cases e
  ·rw [I.free] at hc;cases hc
end
def exO (a c:Addr):HO:=.ext λ h=>∃ o,h.get? a=some o/\o.cls=.ref c
theorem z4r {P:XJ}{w:World}{H:Hp}{h:Heap}{a c:Addr}{o:Obj}(e:h.get? a=some o)(hc:o.cls=.ref c):ObjOk P w H h a (exO a c) :=
 ⟨⟨o,e,hc⟩,⟨o,e⟩,λ h1 h2 ⟨o,e,hc⟩ k=>⟨o,k o e,hc⟩⟩
def z4s (K:Y00)(D:Addr)(j:Nat)(tb:ZK->TS)(ts:TS):TS:=λ En σ H=>tb (λ σ' C H'=>∃ c,C=.ref c/\QJ K c D/\∀ a,H' a=none ->
 ts { nx:=λ σ2 H2=>En.nx (σ2.set j none) H2,rt:=λ _ _=>False } (σ'.set j (some (.ref a))) (upd H' a (exO a c))) En σ H
section
variable {X:Cx}{Z:ZK}{x n:Str}{D:Addr}{bmB:XW}{newId:String}{body suite:List Stmt}{b₀:Stmt}{tb:ZK->TS}{ts:TS}{np hpos pos:Pos}{j:Nat}
theorem z4t {pins:106}{σ:St}{H:Hp}{s:Shared}{a c:Addr}{t:Addr}{xe E:XQ}{nm:XX}{Q:Flow->Shared->Prop}(I:Inv (y9 X pins xe) [] σ H s)(F:Fly (y9 X pins xe) [] H s.heap a (.ref c) (some t))
    (hg:Gl X x) (hm:X.mg x=some (.ref D)) (hx:PySem.W.excIn X.K D bmB newId=true) (hbB:bmB.contains (.type "BaseException")=true) (hu:QJ X.K c D)
    (hd:125=false)
    (h : codeAny 105 (X.A.mark (some (.ref a))) (.handlers (.ref a) [.ExceptHandler none nm (b₀::suite) hpos] X.env) (λ r s₂ => match r with
          | .ok f=>(match nm with
            | none=>Q f s₂
            | some n=>wpAny 105 X.A (do bindName X.env n .none;unbindBehindTheSuite X.env n hpos) (λ _ s₃=>Q f s₃) E s₂)
          | .error x=>cameBackBy 105 X.A X.env E x s₂) s) :
    wpAny 105 X.A (handleBy (.ref a) X.env [.ExceptHandler (some (.Name x np)) nm (b₀::suite) hpos]) Q E s:=by
  refine wpAny_handleBy_cons (codeAny_handlers_test (ZA (X:=Zb X pins a) I.toSuite hg hm ?_ hd)) (by intro q;cases q);obtain ⟨oc,dd,cd,sl,bm,N,nm',q,bs,hdct,sn,sub,ab,col,k0,k1,k2,k3,k5,mN,hl1,hm1,hC,_,_,T1⟩:=WD I.kIn hx;obtain ⟨⟨bmB',newId',hx'⟩,oc2,dd2,cd2,sl2,hl2,hmro⟩:=hu;obtain ⟨oc',dd',cd',sl',bm',N',nm2,q',bs',hdct',sn',sub',ab',col',k0',k1',k2',k3',k5',mN',hl3,hm3,hC',_,_,_⟩:=WD I.kIn hx';rw [hl2] at hl3;cases hl3;rw [hm3] at hmro;obtain ⟨oe,vs,a0,he,hc,_⟩:=F.fl;obtain ⟨hh,gg,dr,tk,os⟩:=s;exact ZM hC' hC he hc (T1.hasType hbB) hmro h
theorem O2 (th:Thr X Z) (hg:Gl X x) (hm:X.mg x=some (.ref D)) (hx:PySem.W.excIn X.K D bmB newId=true) (hbB:bmB.contains (.type "BaseException")=true) (hN:X.N.Nodup) (hj:X.N[j]?=some n) (hlo:X.env.scope.names.lookup n=some .local)
  (hb:∀ pins xe Zh,Thr (y9 X pins xe) Zh->PSs (y9 X pins xe) body (tb Zh)) (hs:∀ pins a,PSs (Zb X pins a) (b₀::suite) ts) (hd:125=false:=by decide) :
  PS X (.Try body [.ExceptHandler (some (.Name x np)) (some n) (b₀::suite) hpos] [] [] pos) (z4s X.K D j tb ts):=by
 intro pins s σ H En I h;refine wpAny_Try_except ?_;generalize hEh:(λ (e:Value) (s₁:Shared)=>wpAny 105 X.A (noteFrame e X.env) (λ _ s₂=>wpAny 105 X.A (setFlight e none) (λ _ s₃=>wpAny 105 X.A (handleBy e X.env [.ExceptHandler (some (.Name x np)) (some n) (b₀::suite) hpos]) (SP X pins En) X.xe s₃) X.xe s₂) X.xe s₁)=Eh;have hcls:(X.env.scope.kind==.class||(X.env.scope.kind==.module&&X.env.locals != X.env.globals))=false:=by rw [I.ok.kind];rfl
 have ok1:XOk (y9 X pins Eh):=⟨th.top,λ b hb=>let ⟨o,q⟩:=th.ex b hb;⟨o,Y1c _ q⟩⟩;have th1:Thr (y9 X pins Eh) (λ σ' C H'=>∃ c,C=.ref c/\QJ X.K c D/\∀ a,H' a=none ->
   ts { nx:=λ σ2 H2=>En.nx (σ2.set j none) H2,rt:=λ _ _=>False } (σ'.set j (some (.ref a))) (upd H' a (exO a c))):=by
  refine ⟨ok1,?_⟩
  rintro e s1 ⟨a,C,T,σ',H',rfl,I',F',c,rfl,hu,hts⟩
  show Eh (.ref a) s1;rw [<- hEh];refine I'.note ok1 F' I'.ok.frames rfl λ h2 t I2 F2=>?_;refine I2.flight F2 λ h3 I3 F3=>?_;refine z4t I3 F3 hg hm hx hbB hu hd (codeAny_handlers_suite_as ?_);refine I3.flight F3 λ h4 I4 F4=>?_;obtain ⟨o1,o2,o3,o4⟩:=F4.ow a (Y06 ..);obtain ⟨oe,vs,a0,he,hce,hde,_⟩:=F4.fl;have hL:a≠X.env.locals:=λ z=>by
   obtain ⟨m,⟨o',es,ep,ho',hd',_⟩,_⟩:=I4.loc;have ho'':h4.get? a=some o':=by rw [z];exact ho'
   rw [he] at ho'';cases ho'';rw [hde] at hd';cases hd'
  have hC:∀ y k,X.env.cells.lookup y=some k->k≠a:=λ y k e z=>by
   obtain ⟨v,o',ho',hd'⟩:=I4.cell y k e;have ho'':h4.get? a=some o':=by rw [<- z];exact ho'
   rw [he] at ho'';cases ho'';rw [hde] at hd';cases hd'
  have I5:=I4.toSuite (a:=a) |>.track (o:=exO a c) o1 o2 hL hC (λ p hp=>o4 p hp) (z4r he hce);refine ym (X:=Zb X pins a) I5 hN hj (.inl hlo) (v:=.ref a) rfl (λ s6 I6=>?_) (.inr hlo);refine wpAny_mono (hs pins a [] s6 _ _ _ I6 (hts a o1)) (λ f s7 h7=>?_) λ _ _ z=>z.elim;cases f with
  | next =>
   obtain ⟨σ7,H7,I7,q⟩:=h7;show wpAny _ _ (do bindName X.env n .none;unbindBehindTheSuite X.env n hpos) _ _ s7;have I7':=I7.ofSuite I.ok;refine wpAny_bind (wpAny_bindName (ym (X:=X) I7' hN hj (.inl hlo) (v:=.non) rfl (λ s8 I8=>?_) (.inr hlo)));unfold unbindBehindTheSuite;refine wpAny_onRaise ?_;obtain ⟨m,hn,hl⟩:=id I8.loc;obtain ⟨u,r,lk⟩:=hl j n .non hj (by rw [Y0r (by rw [I7'.len];exact (Y02.mp hj).1)]) (.inl hlo);have hv:m n=some u:=by
    rcases lk with ⟨_,e⟩ | ⟨k,_⟩
    ·exact e
    ·rcases k with k | k<;>(rw [show X.env.kindOf n=some .local from hlo] at k;cases k)
   refine wpAny_unbindName_local hlo hn hv hcls λ h9 u' hn9 hs9=>?_;have I9:=I8.unbound (t':=s8.toks) hN hj hn hl hn9 (λ y hy=>if_neg hy) hs9;rw [List.set_set] at I9;exact ⟨_,_,I9,q⟩
  | brk=>obtain ⟨_,_,_,q⟩:=h7;exact q.elim
  | cont=>obtain ⟨_,_,_,q⟩:=h7;exact q.elim
  | ret v=>obtain ⟨_,_,_,_,_,q⟩:=h7;exact q.elim
 refine wpAny_mono (hb pins Eh _ th1 [] s σ H En I.toTry h) (λ f s1 h1=>?_) λ _ _ z=>z;cases f with
 | next=>obtain ⟨σ5,H5,I5,q⟩:=h1;exact wpAny_execs_nil ⟨σ5,H5,I5.ofTry,q⟩
 | brk=>obtain ⟨σ5,H5,I5,q⟩:=h1;exact ⟨σ5,H5,I5.ofTry,q⟩
 | cont=>obtain ⟨σ5,H5,I5,q⟩:=h1;exact ⟨σ5,H5,I5.ofTry,q⟩
 | ret v=>obtain ⟨v',σ5,H5,I5,r,q⟩:=h1;exact ⟨v',σ5,H5,I5.ofTry,r,q⟩
end
def Its (x:Str):It:=⟨λ i _=>i<x.length,λ i H v H'=>H'=H/\∃ c,x.cps.toList[i]?=some c/\v=.str ⟨#[c]⟩,λ i _=>x.length<=i⟩
theorem YE {P:XJ}{w:World}{K:Y00}{tg:Expr}(it:Addr)(x:Str)(t:Tok):Turn P w K tg (Its x) [it] it (λ i h=>h.IsStrIter it "str_ascii_iterator" x t i) where
 mem:=by simp
 obj:=λ i h st b hb=>by
  have e:b=it:=by simpa using hb
  subst e;obtain ⟨o,e,c,d⟩:=st;exact ⟨o,e,λ v z=>by rw [d] at z;cases z⟩
 keep:=λ i h h' st k=>let ⟨o,e,r⟩:=st;⟨o,k it 110 o e,r⟩
 item:=by
  intro X hP hw hK hc i pins s σ H E I hf st hg;subst hP hw hK;obtain ⟨f0,f1,f2,f3,f4,f5⟩:=hf it 110;have hg':i<x.cps.size:=hg;refine wpAny_pyNext_ascii_item st (c:=x.cps[i]) (by simp [hg']) λ h' st' sb=>?_;have I1:Inv X pins σ H { s with heap:=h',toks:=s.toks+1 }:=I.turned (λ b o hb e=>(sb.2 b hb).trans e) f0 f1 f3 f4 f5;obtain ⟨o,e,c,d⟩:=id st';exact ⟨_,rfl,JU (s:={ s with heap:=h',toks:=s.toks+1 }) e c d 102 ⟨.str ⟨#[x.cps[i]]⟩,H,I1,117,⟨rfl,x.cps[i],by simp [hg'],rfl⟩,st',λ b hb=>(hf b hb).1⟩⟩
 done:=by
  intro X hP hw hK hc i pins s σ H E I hf st hg;subst hP hw hK;obtain ⟨f0,f1,f2,f3,f4,f5⟩:=hf it 110;have hg':x.cps.size<=i:=hg;exact wpAny_pyNext_ascii_end (I.ok.hd hc) st (by simp [hg']) λ h' eb=>⟨rfl,I.turned (t':=s.toks) (λ b o hb e=>eb b o hb e) f0 f1 f3 f4 f5⟩
 self:=λ _ _ _ _ _ st h=>wpAny_pyIter_striter_ascii st h
theorem VD {P:XJ}{w:World}{K:Y00}{tg:Expr}(it:Addr)(x:Str)(t:Tok):Turn P w K tg (Its x) [it] it (λ i h=>h.IsStrIter it "str_iterator" x t i) where
 mem:=by simp
 obj:=λ i h st b hb=>by
  have e:b=it:=by simpa using hb
  subst e;obtain ⟨o,e,c,d⟩:=st;exact ⟨o,e,λ v z=>by rw [d] at z;cases z⟩
 keep:=λ i h h' st k=>let ⟨o,e,r⟩:=st;⟨o,k it 110 o e,r⟩
 item:=by
  intro X hP hw hK hc i pins s σ H E I hf st hg;subst hP hw hK;obtain ⟨f0,f1,f2,f3,f4,f5⟩:=hf it 110;have hg':i<x.cps.size:=hg;refine wpAny_pyNext_wide_item st (c:=x.cps[i]) (by simp [hg']) λ h' st' sb=>?_;have I1:Inv X pins σ H { s with heap:=h',toks:=s.toks+1 }:=I.turned (λ b o hb e=>(sb.2 b hb).trans e) f0 f1 f3 f4 f5;obtain ⟨o,e,c,d⟩:=id st';exact ⟨_,rfl,JU (s:={ s with heap:=h',toks:=s.toks+1 }) e c d 102 ⟨.str ⟨#[x.cps[i]]⟩,H,I1,117,⟨rfl,x.cps[i],by simp [hg'],rfl⟩,st',λ b hb=>(hf b hb).1⟩⟩
 done:=by
  intro X hP hw hK hc i pins s σ H E I hf st hg;subst hP hw hK;obtain ⟨f0,f1,f2,f3,f4,f5⟩:=hf it 110;have hg':x.cps.size<=i:=hg;exact wpAny_pyNext_wide_end (I.ok.hd hc) st (by simp [hg']) λ h' eb=>⟨rfl,I.turned (t':=s.toks) (λ b o hb e=>eb b o hb e) f0 f1 f3 f4 f5⟩
 self:=λ _ _ _ _ _ st h=>wpAny_pyIter_striter_wide st h
section
variable {X:Cx}{tg:Expr}
theorem ZS:∀ {bs:List Bool}{us:XW},Vals (bs.map V.bl) us->PyProof.Rows.LSm.BoolsAre us bs
 | [],_,r=>by cases r;exact .nil
 | b::bs,_,r=>by
  cases r with
  | cons r1 r2=>cases (show _=Value.bool b from r1);exact .cons b (ZS r2)
theorem O3 (hc:X.calm=true):jb X (.builtin "all") (λ xs H Q=>∃ (p:Addr) (bs:List Bool),xs=[.ref p]/\SqL X.K H p (bs.map V.bl)/\Q (.bl (bs.all id)) H):=by
 intro pins s σ H xs us Q I r h;obtain ⟨p,bs,rfl,hq,q⟩:=h;obtain ⟨u,rfl,ru⟩:=qy r;cases ru;obtain ⟨its,rv,pl,hz⟩:=I.list hq;have hb:=ZS rv;have hl:s.heap.IsList p its.toArray:=pl.isList;have hlt:p<s.heap.objs.size:=by obtain ⟨_,e,_⟩:=hl;exact Y0g e
 refine call_all_walk (wpAny_pyIter_list hl ?_);refine ⟨s.heap.objs.size,[s.heap.objs.size,p],[s.heap.objs.size],its.toArray.size,_,_,λ i=>(bs[i]?).getD true,rfl,Walks.list (A:=X.A.in1) (I.ok.hd hc) _ p (Y0s hlt) its.toArray,
  ⟨⟨_,Y0n _ rfl,rfl,rfl⟩,hl.push _⟩,λ i v s' Q' E' hP hQ=>?_,λ h' tk hk=>?_⟩
 ·obtain ⟨b,e,rfl⟩:=hb.get i v (by simpa using hP);simp only [e,Y3i] at hQ;exact wpAny_truthy_bool hQ
 ·have e:((List.range its.toArray.size).all λ i=>(bs[i]?).getD true)=bs.all id:=by
   rw [Y08,hb.length];exact PyProof.Rows.LSm.range_all bs
  rw [e];exact ⟨.bl (bs.all id),H,I.kept (PyProof.Rows.LSm.kept_iter hk),rfl,q⟩
theorem VE:jb X (.type "int") (λ xs H Q=>∃ x n,xs=[.str x]/\PySem.intText? x=some n/\x.length<=640/\Q (.int n) H):=by
 intro pins s σ H xs us Q I r h;obtain ⟨x,n,rfl,hn,hl,q⟩:=h;obtain ⟨u,rfl,t,rfl⟩:=qy r;exact PySem.W.KIN.call_text hn hl ⟨.int n,H,I.tok _,117,q⟩
end
def zal (X:Cx)(st:List Stmt)(t:TS):Prop :=
 ∀ (pins:106) (s:Shared) (σ:St) (H:Hp) (D:Ends),Inv X pins σ H s->0<s.toks->t D σ H->wpAny 105 X.A (execs st X.env) (SP X pins D) X.xe s
structure Walk (J:It)(xs:List V)(Pv:Hp->Prop):Prop where
 stop:∀ H,Pv H->J.stop xs.length H
 go:∀ i H,i<xs.length->Pv H->J.go i H
 yld:∀ i H x H',i<xs.length->Pv H->J.yld i H x H'->H'=H/\xs[i]?=some x
section
variable {P:XJ}{w:World}{K:Y00}{mg:XZ}{base:Heap}
theorem Fun.okX {x qual:Str}{st:Stmt}{f:Addr}{fd:FuncData}{N ps:XU}{k:Nat}{sp:Sp}(F:Fun K x qual st f fd)(S:FnScope N ps (zr st))(len:∀ vs H Q E,sp vs H Q E->vs.length=ps.length)
  (hbody:∀ (cdv:Value) (A:Around) (outer:List Env) (s:Shared) (H:Hp) (vs:List V) (Q:VK) (E:XK),Room k (A.deeper (envOfC qual (zr st) s.heap.objs.size f cdv))->sp vs H Q E ->
   ∃ t,PSs (Wx (CXs P w) P w K mg base N qual (zr st) f cdv A outer s H E) (j7 st) t/\t { nx:=λ _ H'=>Q .non H',rt:=Q } (start N vs) H):FnOk P w K mg base (CXs P w) (k+1) f fd ps sp:=by
 obtain ⟨oc,od,kV,doc,pm,an,cdv,ct,osl,rfl,lk,hcd⟩:=F.ex;exact z77 lk hcd S len λ A outer s H vs Q E hr hsp=>hbody cdv A outer s H vs Q E hr hsp
end
abbrev TJ:=St->Hp->Str->(Str->Hp->Prop)->Prop
def PJ (X:Cx)(es:List Expr)(t:TJ):Prop:=∀ (pins:106) (s:Shared) (σ:St) (H:Hp) (acc:Str) (Q:Str->Hp->Prop),Inv X pins σ H s->t σ H acc Q ->
 Joins 105 X.A X.xe (evalEach es X.env) acc (λ out s₁=>out.length<=sizeLine/\EP X pins σ (λ v H'=>∃ o,v=.str o/\Q o H') (.str out s₁.toks) { s₁ with toks:=s₁.toks+1 }) s
def z2w:TJ:=λ _ H acc Q=>acc.length<=sizeLine/\Q acc H
def tJC (c:Str)(t:TJ):TJ:=λ σ H acc Q=>(acc++c).length<=sizeLine/\t σ H (acc++c) Q
def tJR (te:TE)(t:TJ):TJ:=λ σ H acc Q=>te σ H λ v H1=>∃ x,v=.str x/\(reprText x).length<=sizeLine/\(acc++reprText x).length<=sizeLine/\t σ H1 (acc++reprText x) Q
section
variable {X:Cx}{e v₁ v₂:Expr}{es:List Expr}{te:TE}{t:TJ}{c:Str}{k:Nat}{pos p:Pos}
theorem z4u:PJ X [] z2w:=λ _ s _ H acc _ I h=>⟨h.1,.str acc,H,I.tok _,117,acc,rfl,h.2⟩
theorem z9j (h:PJ X es t):PJ X (.Constant (.str c) k p::es) (tJC c t):=by
 intro pins s σ H acc Q I q;show wpAny _ _ (eval (.Constant (.str c) k p) X.env) _ _ s;exact Calls.Constant_str ⟨c,_,rfl,q.1,h pins _ σ H (acc++c) Q (I.tok _) q.2⟩
theorem z9k (he:PE X e te)(h:PJ X es t):PJ X (.FormattedValue e 114 none p::es) (tJR te t):=by
 intro pins s σ H acc Q I q;show wpAny _ _ (eval (.FormattedValue e 114 none p) X.env) _ _ s;refine wpAny_FormattedValue_repr (thn (he pins s σ H _ I q) λ v s1 ⟨y,H1,I1,r1,x,ey,hz,hz2,q1⟩=>?_);subst ey;obtain ⟨tk,rfl⟩:=r1;refine pyReprObj_str (wpAny_formatField_str ?_ ?_ hz) hz
 ·exact ⟨_,_,rfl,hz2,h pins _ σ H1 _ Q (I1.tok _) q1⟩
 ·exact ⟨_,_,rfl,hz2,h pins _ σ H1 _ Q (I1.tok _) q1⟩
def z2x (t:TJ):TE:=λ σ H Q=>t σ H Str.empty λ o H'=>Q (.str o) H'
theorem z0b (h:PJ X (v₁::v₂::es) t):PE X (.JoinedStr (v₁::v₂::es) pos) (z2x t):=by
 intro pins s σ H Q I q;refine wpAny_mono (wpAny_JoinedStr (Q:=EP X pins σ (λ v H'=>∃ o,v=.str o/\Q (.str o) H')) (h pins s σ H Str.empty _ I q)) (λ v s1 h1=>?_) λ _ _ y=>y;obtain ⟨y,H1,I1,r1,o,rfl,q1⟩:=h1;exact ⟨_,H1,I1,r1,q1⟩
def z0c (K:Y00)(neg:Bool):R2:=λ x y H Q=>∃ p q xs,x=.ref p/\y=.ref q/\SqL K H p xs/\SqL K H q []/\Q (.bl (if neg then !xs.isEmpty else xs.isEmpty)) H
theorem O4 (hu:X.A.units<cLine):OpR X (compareOp .Eq) (z0c X.K false):=by
 intro pins s σ H x y v u Q I rx ry h;obtain ⟨p,q,xs,rfl,rfl,h1,h2,hq⟩:=h;cases rx;cases ry;obtain ⟨its,r,pl,hz⟩:=I.list h1;obtain ⟨its2,r2,pl2,_⟩:=I.list h2;cases r2;cases xs with
 | nil =>
  cases r;exact SeqAt.eq_listAt (e:=λ _=>true) pl.isList pl2.isList rfl hu (λ j h1 _=>absurd h1 110) ⟨.bl true,H,I,rfl,hq⟩
 | cons a t =>
  cases r with
  | cons r1 r2=>exact SeqAt.eq_list_lengthsAt pl.isList pl2.isList 110 hu ⟨.bl false,H,I,rfl,hq⟩
theorem O5 (hu:X.A.units<cLine):OpR X (compareOp .NotEq) (z0c X.K true):=by
 intro pins s σ H x y v u Q I rx ry h;obtain ⟨p,q,xs,rfl,rfl,h1,h2,hq⟩:=h;cases rx;cases ry;obtain ⟨its,r,pl,hz⟩:=I.list h1;obtain ⟨its2,r2,pl2,_⟩:=I.list h2;cases r2;cases xs with
 | nil =>
  cases r;exact SeqAt.RcNeAt.lists (e:=λ _=>true) pl.isList pl2.isList rfl hu (λ j h1 _=>absurd h1 110) _ _ _ _ ⟨.bl false,H,I,rfl,hq⟩
 | cons a t =>
  cases r with
  | cons r1 r2=>exact SeqAt.RcNeAt.lists_lengths pl.isList pl2.isList 110 hu _ _ _ _ ⟨.bl true,H,I,rfl,hq⟩
end
def SIt (h:Heap)(i a:Addr)(k:Nat)(xs:Array Value):Prop:=(h.IsListIter i a k/\h.IsList a xs)\/(h.IsTupleIter i a k/\h.IsTuple a xs)
def ItR (h:Heap)(i a:Addr)(k:Nat)(b:Bool):Prop:=if b=true then h.IsListIter i a k else h.IsTupleIter i a k
end L2
set_option maxHeartbeats 4000000
namespace L2
open PySem PySem.Spec PyProof.Rows
section
variable {X:Cx}{Z:ZK}{tg iter:Expr}{body:List Stmt}{wi:TI}{g:TG}{tb:TS}{pos:Pos}
theorem W8 (ok:XOk X):PassesOwn 105 X.A X.env (XE X Z):=by
 rintro e s' ⟨a,C,T,σ',H',rfl,I,F,z⟩
 refine I.note ok F I.ok.frames rfl λ h1 t I1 F1=>?_;exact I1.cameBack F1 λ h2 I2 F2=>⟨a,C,some t,σ',H',rfl,I2,F2,z⟩
theorem Thr.wished (th:Thr X Z):Thr (X.wish (XE X Z)) Z:=by
 refine ⟨⟨th.top,th.ex⟩,?_⟩
 rintro e s' ⟨a,C,T,σ',H',rfl,I,F,z⟩
 exact ⟨a,C,T,σ',H',rfl,I.unwish,⟨F.fl,F.ow⟩,z⟩
theorem z0d (th:Thr X Z)(hc:X.calm=true)(hi:PI (X.wish (XE X Z)) tg iter wi)(hg:PG (X.wish (XE X Z)) tg g)(hb:PSs (X.wish (XE X Z)) body tb)
  (hs:∀ x,foldedSetIterable iter X.env x=pure x:=by intro _;rfl):PS X (.For tg iter body [] pos) (z40 wi g tb):=by
 intro pins s σ H D I h;refine wpAny_mono (z41 (X:=X.wish (XE X Z)) (W8 th.toXOk) hc hi hg hb hs pins s σ H D (I.wish _) h) (λ f s' q=>q.unwish) λ e s' x=>th.thr e s' x
end
section
variable {X:Cx}{scope:Scope}{NC:XU}{cap:List (Option Nat)}{elt tg iter:Expr}{ifs:List Expr}{pos pos' spos:Pos}{Z:ZK}{wi:TI}{g:TG}{tf:ZK->TT}{te:ZK->TE}{i:Nat}{x:Str}
theorem z0e (hc:X.calm=true)(th:Thr X Z)(hi:PI X tg iter wi)(cok:jy X.env.scope scope X.N NC cap=true)
  (hg:∀ C s H fp pn xe,PG 126 tg g)
  (hf:∀ C s H fp pn xe Zc,Thr 126 Zc->PF 126 ifs (tf Zc))
  (hb:∀ C s H fp pn xe Zc,Thr 126 Zc->PE 126 elt (te Zc))
  (hs:∀ x,foldedSetIterable iter X.env x=pure x) (hN:X.N.Nodup) (hx:X.N[i]?=some x) (hlo:X.env.scope.names.lookup x=some .local)
  (hsw:swapsWith (.ListComp elt [⟨tg,iter,ifs,0⟩] scope pos) (some (.Name x pos')) spos.line X.env=pure true) :
  PS X (.Assign [.Name x pos'] (.ListComp elt [⟨tg,iter,ifs,0⟩] scope pos) spos) (Gz (O0 Z cap wi g tf te) (JT i)):=by
 intro pins s σ H D I h;obtain ⟨c1,c2,c3,c4,c5,c6,c7⟩:=jf cok;rw [exec_Assign_Name_used _ _ _ _ hsw];refine wpAny_bind (wpAny_standAt (wpAny_bind ?_));show wpAny _ X.A (do let _ <- comprehension (.ListComp elt [⟨tg,iter,ifs,0⟩] scope pos) scope X.env _ (newList []) false (eval iter X.env) (some (assign (.Name x pos') X.env))) _ _ s;refine wpAny_bind (wpAny_mono (wpAny_comprehension_free (use:=some (assign (.Name x pos') X.env)) (Q:=λ _ s'=>SP X pins D .next s') rfl hs (ZO λ y hy e=>I.ok.has y.1 (.inl (c4 y hy e))) c1 c3
  (thn (hi pins s σ H _ I h) λ xv s₁ h₁=>thn h₁ λ itv s₂ h₂=>?_)) (λ _ s' hq=>wpAny_pure (wpAny_pure hq)) λ _ _ e=>e)
 obtain ⟨it,fp,tn,J,H2,rfl,I2,T,st2,f2,W,⟨m0,w0⟩,turn⟩:=h₂;refine W7 hc th I2 T st2 f2 cok (λ C pn xe=>hg C s₂ H2 fp pn xe) (λ C pn xe t=>hf C s₂ H2 fp pn xe _ t) (λ C pn xe t=>hb C s₂ H2 fp pn xe _ t) W m0 w0 turn ?_
 rintro C D' s' H' ys us n ⟨hlen,q⟩ rv e hn hnC rfl rfl ⟨m,ns⟩ lv
 have I':Inv X pins σ H' s':=lv s'.heap (Heap.SameBut.refl _ _);have I3:Inv X pins σ (upd H' s₂.heap.objs.size (.lst ys)) s':=I'.track (o:=.lst ys) hn (Y24 I2.sz) (Y2z I2.lt) (λ y c ec z=>by
  obtain ⟨v,q⟩:=I2.cell y c ec;exact absurd q.lt (by rw [z];exact Y1b _)) (λ p hp z=>absurd (Y0g (I2.pin p hp).1) (by rw [z];exact Y1b _)) ⟨hlen,us,n,rv,e⟩
 have fC:Zj X pins (upd H' s₂.heap.objs.size (.lst ys)) (s₂.heap.objs.size+1):=I2.fpOk (Y2l _) (by rw [zu (Nat.succ_ne_self _)];exact hnC);show wpAny _ X.A (assign (.Name x pos') X.env (.ref s₂.heap.objs.size)) _ _ _;refine wpAny_assign_Name (JS I3 hN hx (.inl hlo) (v:=.ref s₂.heap.objs.size) rfl (λ s'' I4 ⟨a,sb,ha⟩=>?_) (.inr hlo));have nC:s₂.heap.objs.size+1≠a:=by
  rcases ha with rfl | ha
  ·exact fC.2.1
  ·exact λ z=>fC.2.2.2.2.1 x a ha z.symm
 refine ⟨m,ns.sameBut sb nC,λ h' sb'=>⟨_,_,I4.turned (t':=s''.toks) (λ b o hb e=>(sb'.2 b hb).trans e) fC.1 fC.2.1 fC.2.2.2.1 fC.2.2.2.2.1 fC.2.2.2.2.2,q _ hn⟩⟩
end
theorem VF:typeLookup (.type "list_reverseiterator") "__len__"=pure none:=by rw [typeLookup_type,builtinLookup_eq_fast];kernel_rfl
theorem O6:typeLookup (.type "list_reverseiterator") "__length_hint__"=pure (some (.builtin "list_reverseiterator.__length_hint__")):=by rw [typeLookup_type,builtinLookup_eq_fast];kernel_rfl
section
variable {prog:XJ}{w:World}{A:Around}{s:Shared}{R:Result->Shared->Prop}
variable {I:Addr}{fp wr:XV}{G:Array GenState->Array GenState->Prop}{n:Nat}{P:Nat->Value->Prop}{St:Nat->Shared->Prop}
theorem z0f (W:WalksS prog w A.in1 I fp wr G n P St) (hT:∀ i s,St i s->s.TypeIs (.ref I) "list_reverseiterator") (S:Addr) (res:Value) (c₀:Nat) (hst:St 0 s) (hSf:S∉fp) (hI:I∈fp)
  (hS:s.heap.get? S=some { cls:=.type "list",data:=.seq #[] c₀ }) (hn:n<=sizeLine)
  (hR:∀ s' acc' c',Moved (S::wr) G s s'->s'.heap.get? S=some { cls:=.type "list",dict:=none,data:=.seq acc' c',slots:=#[] }->ItemsOf P acc' n->R (.ok (.ret res)) s') :
  wpAny 123 A.in1 (Builtin.List.listExtendWith (.ref S) (.ref I) res)
   (λ fin s'=>match fin with | .done f=>R (.ok f) s' | .again c'=>c'.quiet=true/\codeAny 123 A c' R s') (λ e s'=>R (.error e) s') s:=by
 have hSI:S≠I:=λ e=>hSf (e▸hI);have h1:Builtin.List.listSameRef (.ref S) (.ref I)=false:=by simp [Builtin.List.listSameRef,hSI]
 unfold Builtin.List.listExtendWith;refine wpAny_bind (wpAny_typeOf (hT 0 _ hst) ?_);rw [if_neg (by rw [h1];decide)];refine wpAny_bind (W.self 0 _ _ _ hst ?_);refine wpAny_bind (wpAny_holding ?_);unfold Builtin.List.listLengthHint;refine wpAny_bind (wpAny_specialOf (hT 0 _ hst) VF ?_);show wpAny _ A.in1 (specialOf (Value.ref I) (Str.ofString "__length_hint__") >>= _) _ _ _;refine wpAny_bind (wpAny_specialOf (hT 0 _ hst) O6 ?_);generalize hid:("list_reverseiterator.__length_hint__":String)=id0
 wp_delta
 rw [show splitId id0=some ("list_reverseiterator","__length_hint__") from by subst hid;decide +kernel];subst hid;refine wpAny_bind (wpAny_isInstance (b:=true) (hT 0 _ hst) (by rw [isSubtype_type];kernel_rfl) ?_);refine wpAny_pure ?_;rw [if_neg 102];exact wpAny_pure ⟨plainId_quiet F.plain_extend_loop _,codeAny_extend_loopS W hn _ hSf _ n 0 _ _ _ rfl (Y1h _) hst hS (ItemsOf.nil P) λ s' acc' c' hm hS' hacc=>hR s' acc' c' hm hS' hacc⟩
theorem O7 (W:WalksS prog w A.in1 I fp wr G n P St) (hT:∀ i s,St i s->s.TypeIs (.ref I) "list_reverseiterator") (S:Addr) (hst:St 0 s) (hSf:S∉fp) (hI:I∈fp)
  (hS:s.heap.get? S=some { cls:=.type "list",data:=.seq #[] }) (hn:n<=sizeLine)
  (hR:∀ s' acc' c',Moved (S::wr) G s s'->s'.heap.get? S=some { cls:=.type "list",dict:=none,data:=.seq acc' c',slots:=#[] }->ItemsOf P acc' n->R (.ok (.ret .none)) s') :
  wpAny 123 A.in1 (Builtin.«list.__init__» ⟨[.ref S,.ref I],[]⟩)
   (λ fin s'=>match fin with | .done f=>R (.ok f) s' | .again c'=>c'.quiet=true/\codeAny 123 A c' R s') (λ e s'=>R (.error e) s') s:=by
 show wpAny _ A.in1 (do let old <- Builtin.List.listItems (.ref S);Builtin.List.listUpdate (.ref S) (λ _=>#[]);letGo old.toList.reverse;Builtin.List.listExtendWith (.ref S) (.ref I) .none) _ _ s;refine wpAny_bind ?_;unfold Builtin.List.listItems;refine wpAny_bind (wpAny_seqItems hS rfl (wpAny_pure ?_));show wpAny _ A.in1 (updateSeq S (λ _=>#[]) >>= λ _=>letGo (#[]:Array Value).toList.reverse >>= λ _=>Builtin.List.listExtendWith (.ref S) (.ref I) .none) _ _ s;refine wpAny_bind (wpAny_updateSeq hS rfl ?_);have hS2:=Y35 (Obj.mapSeq (λ _=>(#[]:Array Value))) hS rfl;have oth:∀ b o,b≠S->s.heap.get? b=some o->(s.heap.update S (Obj.mapSeq (λ _=>(#[]:Array Value)))).get? b=some o:=λ b o hb e=>(Y1u _ _ (Ne.symm hb)).trans e;refine wpAny_bind (wpAny_letGo ?_);refine z0f W hT S .none _ (W.frame 0 s _ s.toks hst (Y0a _) λ b hb o e=>oth b o (λ h=>hSf (h▸hb)) e) hSf hI hS2 hn λ s' acc' c' hm hS' hacc=>?_;exact hR s' acc' c' (Moved.trans W.gtrans ((Moved.refl W.grefl).then_heap (Y0a _) λ b o hb e=>oth b o (λ h=>hb (h▸Y06)) e) hm) hS' hacc
end
section
variable {prog:XJ}{w:World}{A:Around}{E:XQ}{s:Shared}
theorem O8 {I l:Addr}{items:Array Value}{Q:XQ}(hh:A.handled=none)(hne:l≠I)(hI:I<s.heap.objs.size)(hit:s.heap.IsRevIter I l ((items.size:Int)-1))(hl:s.heap.IsList l items)(hn:items.size<=sizeLine)
  (hQ:∀ s' acc c,(∀ b o,b≠I->s.heap.get? b=some o->s'.heap.get? b=some o)->s'.gens=s.gens->s'.drawn=s.drawn->s'.os=s.os->s.toks<=s'.toks ->
   s'.heap.get? s.heap.objs.size=some { cls:=.type "list",data:=.seq acc c }->acc.toList=items.toList.reverse->Q (.ref s.heap.objs.size) s') :
  wpAny 123 A (call (.type "list") [.ref I]) Q E s:=by
 have hll:l<s.heap.objs.size:=by obtain ⟨_,e,_⟩:=hl;exact Y0g e
 have W:=(Walks.listRev (prog:=prog) (w:=w) (A:=A.in1.in1) hh I l hne items).toS;have hfp:∀ b∈[I,l],b<s.heap.objs.size:=λ b hb=>by simp at hb;rcases hb with rfl | rfl<;>assumption
 have hSf:s.heap.objs.size∉[I,l]:=λ hm=>Y1b _ (hfp _ hm);refine callType_codes (Q₁:=λ obj s₁=>obj=.ref s.heap.objs.size/\s₁={ s with heap:=s.heap.push { cls:=.type "list",data:=.seq #[] } }) F.called_list (F.typeCall_list_1 _) F.entry_list_init (code_list_new _ ⟨rfl,rfl⟩) λ obj s₁ h₁=>?_;obtain ⟨rfl,rfl⟩:=h₁;have hS:(s.heap.push { cls:=.type "list",data:=.seq #[] }).get? s.heap.objs.size=some { cls:=.type "list",data:=.seq #[] }:=Y0n _ rfl;have st0:0<=items.size/\s.heap.IsRevIter I l ((items.size:Int)-1-((0:Nat):Int))/\s.heap.IsList l items:=⟨Y1h _,by simpa using hit,hl⟩;refine ⟨⟨_,hS,rfl⟩,F.args_list_init_2 _ _,O7 W (λ i s x=>x.2.1.typeIs) _ (W.frame 0 s _ s.toks st0 (Y0a _) λ b _ o e=>Y05 _ e) hSf 110 hS hn λ s' acc' c' hm hS' hacc=>?_⟩;refine ⟨rfl,hQ s' acc' c' (λ b o hb e=>hm.heap b o ?_ (Y05 _ e)) hm.gens hm.drawn hm.os hm.toks hS' ?_⟩
 ·have:=Y0g e
  simp;exact ⟨Y0s this,hb⟩
 ·obtain ⟨a1,a2⟩:=hacc;apply List.ext_getElem?;intro i;rw [Y36];by_cases hi:i<acc'.size
  ·have e:=a2 i _ (Array.getElem?_eq_getElem hi);rw [Array.getElem?_eq_getElem hi,List.getElem?_reverse (by rw [Y1q];omega),Y1q,Y36,e]
  ·rw [Array.getElem?_eq_none 103,Y1l (by rw [List.length_reverse,Y1q];omega)]
variable {X:Cx}
def rLR (K:Y00):List V->Hp->VK->Prop:=λ xs H Q=>∃ p ys,xs=[.ref p]/\SqL K H p ys/\∀ l,H l=none->Q (.ref l) (upd H l (.lst ys.reverse))
theorem Vals.rev:∀ {xs:List V}{us:XW},Vals xs us->Vals xs.reverse us.reverse
 | _,_,.nil=>.nil
 | _,_,.cons r t=>by rw [Y20,Y20];exact (Vals.rev t).append (.cons r .nil)
theorem YF {a:Expr}{ta:TA}{p p' pos pos':Pos} (hc:X.calm=true) (hg:Gl X "reversed") (hm:X.mg "reversed"=none) (hg2:Gl X "list") (hm2:X.mg "list"=none) (ha:PA X [a] ta) (hs:starEach [a] X.env=[(false,eval a X.env)]) :
  PE X (.Call (.Name "list" p) [.Call (.Name "reversed" p') [a] [] pos'] [] pos) (λ σ H Q=>ta σ H λ vs H1=>rLR X.K vs H1 Q):=by
 intro pins s σ H Q I h;refine wpAny_Call_Name_kw (ye I hg2 hm2 boot_list ?_ 102 102);refine Y1g ?_ rfl rfl;show wpAny _ _ (spliced ((false,eval (.Call (.Name "reversed" p') [a] [] pos') X.env)::[])) _ _ s;refine Calls.spliced_cons (Call_ (ye I hg hm boot_reversed (Y1g (thn (ha pos' pins s σ H _ I h) λ us s1 ⟨vs,H1,I1,r1,q1⟩=>?_) hs rfl) 102 102));obtain ⟨b,xs,e,hq,q⟩:=q1;subst e;cases r1 with
 | cons r rr =>
  cases rr;cases r;obtain ⟨its,rv,pl,hz⟩:=I1.list hq;have hl:=rv.length;have hb:b<s1.heap.objs.size:=by obtain ⟨_,e,_⟩:=pl.isList;exact Y0g e
  refine call_reversed_list pl.isList ?_;refine wpAny_pure ?_;refine O8 (s:={ s1 with heap:=s1.heap.push (revObj b ((its.toArray.size:Int)-1)) }) (items:=its.toArray) (I1.ok.hd hc) (Y0s hb) 110 ⟨_,Y0n _ rfl,rfl,rfl⟩ (pl.isList.push _) (by simp only [Y08];omega) λ s' acc c k1 k2 k3 k4 k5 k6 k7=>?_;obtain ⟨hp',g',d',tk',os'⟩:=s';simp only at k2 k3 k4;subst k2 k3 k4;have kp:∀ b' o,s1.heap.get? b'=some o->hp'.get? b'=some o:=λ b' o e=>k1 b' o (Y0s (Y0g e)) (Y05 _ e);have sz:s1.heap.objs.size<=(s1.heap.push (revObj b ((its.toArray.size:Int)-1))).objs.size:=by simp
  refine ⟨.ref _,_,I1.laid (t':=tk') kp sz (show ObjOk X.prog X.w _ hp' _ (.lst xs.reverse) from ⟨by rw [List.length_reverse];exact hz,its.reverse,c,rv.rev,?_⟩),rfl,q _ (I1.hok.fresh sz)⟩;have ea:acc=its.reverse.toArray:=by
   have:=congrArg List.toArray k7
   simpa using this
  rw [<- ea];exact k6
end
def zai (h:Heap)(a l:Addr)(i:Int):Prop:=∃ o,h.get? a=some o/\o.cls=.type "reversed"/\o.data=.fields #[.ref l,rawInt i]
open HT in
theorem z0g {prog:XJ}{w:World}{A:Around}{E:XQ}{s:Shared}{t sl:Addr}{items:Array Value}{vl vu:Value}{lo hi:Option Int}{Q:XQ}(ht:IsTup s.heap t items)(hs:s.heap.IsSliceOf sl vl vu .none)(pl:IsPart vl lo)(pu:IsPart vu hi)
  (h1:sIx items.size 0 lo=0) (h2:sIx items.size items.size hi=items.size) (h:Q (.ref t) s):wpAny 123 A (getItem (.ref t) (.ref sl)) Q E s:=by
 obtain ⟨os,hos,hcs,hds⟩:=id hs;have hTs:s.TypeIs (.ref sl) "slice":=⟨os,hos,hcs⟩;unfold getItem
 try with_reducible refine wpAny_holding ?_
 first | refine wpAny_bind (wpAny_pure ?_) | skip
 refine wpAny_bind (wpAny_sequenceKey ht.typeIs 102 ?_);refine wpAny_bind (wpAny_callSpecial?_slot (name:=Str.ofString "__getitem__") ht.typeIs Y1n (wpAny_call_entry Y1n ht.typeIs entry_tuple_getitem ?_ (args_tuple_getitem _ _)));show wpAny _ _ (Builtin.Tuple.tupleItemsOf (.ref t) >>= _) _ _ s;refine wpAny_bind (tupleItemsOf_ ht ?_);refine wpAny_bind (wpAny_typeOf hTs ?_);rw [if_pos 102];refine wpAny_bind (wM hs pl pu ?_);have hy:(((sIx items.size 0 lo:Nat):Int)==0&&(1:Int)==1&&(sIx items.size items.size hi-sIx items.size 0 lo)==items.size)=true:=by rw [h1,h2];simp
 show wpAny _ _ (if (((sIx items.size 0 lo:Nat):Int)==0&&(1:Int)==1&&(sIx items.size items.size hi-sIx items.size 0 lo)==items.size)=true then _ else _) _ _ s;rw [if_pos hy];refine wpAny_bind ?_;unfold Builtin.Tuple.tupleIsExact;refine wpAny_bind (wpAny_typeOf ht.typeIs (wpAny_pure ?_));rw [if_pos 102];refine wpAny_bind (wpAny_rule ?_);exact wpAny_pure ⟨_,rfl,wpAny_pure h⟩
def z9l (K:Y00):V->Option Int->Option Int->Hp->VK->Prop:=λ x lo hi H Q=>∃ a xs,x=.ref a/\SqT K H a xs/\HT.sIx xs.length 0 lo=0/\HT.sIx xs.length xs.length hi=xs.length/\Q (.ref a) H
theorem z0h {X:Cx}:SlR X (z9l X.K):=by
 intro pins s σ H x v vl vu lo hi sl Q I rx hs pl pu h;obtain ⟨a,xs,rfl,hx,w1,w2,q⟩:=h;cases rx;obtain ⟨its,r,ht,hz⟩:=I.tuple hx;have hlen:its.toArray.size=xs.length:=by rw [Y08];exact r.length.symm
 exact ⟨"tuple",_,PyProof.Rows.slot_tuple_getitem.lookup,ht.typeIs,z0g ht hs pl pu (by rw [hlen];exact w1) (by rw [hlen];exact w2) ⟨.ref a,H,I,rfl,q⟩⟩
theorem jB:entryFor table "dict.update.loop"=some Builtin.«dict.update.loop»:=entryFor_of_tree (by kernel_rfl)
theorem zL:plainId "dict.update.loop"=true:=by decide +kernel
theorem QK:typeLookup (.type "list") "keys"=pure none:=by rw [typeLookup_type,builtinLookup_eq_fast];kernel_rfl
section
variable {prog:XJ}{w:World}{A:Around}{E:XQ}{s:Shared}
theorem JE {a:Addr}{xs:Array Value}{k:Nat}{sl:Array (Option Value)}{Q:Option Value->Shared->Prop} (hx:s.heap.get? a=some { cls:=.type "list",dict:=none,data:=.seq xs k,slots:=sl }) (hA:A.handled=none)
  (h:∀ h' tk,(∀ b ob,s.heap.get? b=some ob->h'.get? b=some ob)->Q none { s with heap:=h',toks:=tk }) :
  wpAny 123 A (getAttr? (.ref a) "keys") Q E s:=by
 obtain ⟨hp,g,d,tk,os⟩:=s;have hT:∀ tk',(⟨hp,g,d,tk',os⟩:Shared).TypeIs (.ref a) "list":=λ _=>⟨_,hx,rfl⟩;have f1:=sub_AttributeError;have f3:=F.slot_list_getattribute.lookup;have f4:=F.slot_list_getattribute.bind (.ref a);have f5:=am_list_getattr_none;have hname:(["__module__","__name__","__qualname__","__doc__","__annotations__"]:List Str).contains "keys"=false:=by decide +kernel
 have hsz:(Str.ofString "keys").length+100<=sizeLine:=by decide +kernel
 unfold getAttr? getAttrBy? getAttrBy
 repeat (any_goals (first | assumption | exact hT _ | ((with_reducible show wpAny _ _ (call (Value.builtin "list.__getattribute__") _ _) _ _ _);refine call_meets F.slot_list_getattribute (hT _) am_entry_list_getattribute (F.args_list_getattribute_2 _ _) (meets_getattribute_miss_list a xs k sl "keys" _ QK hname hsz) ⟨hx,hA,λ h' tk' e hx'=>?_⟩) | wp_step))
 obtain ⟨t',u',he⟩:=hx'.there;show wpAny _ _ (getattributeRaised _ _ _ _ _ _ _) _ _ _;unfold getattributeRaised
 repeat (any_goals (first | assumption | wp_step))
 exact h _ _ hx'.keeps
end
section
variable {prog:XJ}{w:World}{A:Around}{R:Result->Shared->Prop}{I:Addr}{fp wr:XV}{G:Array GenState->Array GenState->Prop}{n:Nat}{P:Nat->Value->Prop}{St:Nat->Shared->Prop}{K:Type}[DecidableEq K]{knd:KeyKind prog w K}
def Two (h:Heap)(a:Addr)(x y:Value):Prop:=∃ o n,h.get? a=some o/\o.cls=.type "tuple"/\o.data=.seq #[x,y] n
theorem YG (kvs:List (K×Value)):∀ (more:List (K×Value)),(merged kvs more).length<=kvs.length+more.length:=by
 intro more
 induction more generalizing kvs with
 | nil=>exact Y0a _
 | cons p r ih =>
  have h1:=ih (stored kvs p.1 p.2);have h2:(stored kvs p.1 p.2).length<=kvs.length+1:=by
   unfold stored
   split
   ·rw [Y09];exact Y2l _
   ·rw [Y0k];exact Y0a _
  show (merged (stored kvs p.1 p.2) r).length<=_;rw [Y0q];omega
theorem VG (W:WalksS prog w A.in1 I fp wr G n P St)(D:Addr)(hDf:D∉fp)(more:List (K×Value))(hn:n<=1000000)(hml:more.length=n)(s₀:Shared)
  (hval:∀ (i:Nat) (v:Value),P i v->∃ a kv vv k,v=.ref a/\a∉D::wr/\Two s₀.heap a kv vv/\more[i]?=some (k,vv)/\knd.is k kv=true) :
  ∀ (k i:Nat) (s:Shared) (ti:Tok),n-i=k->i<=n->St i s->Moved (D::wr) G s₀ s->s.heap.DictOf knd D (merged [] (more.take i)) ->
   (∀ s',Moved (D::wr) G s₀ s'->s'.heap.DictOf knd D (merged [] more)->R (.ok (.ret .none)) s') ->
   codeAny 123 A (.builtin "dict.update.loop" ⟨[.ref D,.ref I,.int (i:Nat) ti,.none],[]⟩) R s:=by
 have hDw:D∉wr:=λ h=>hDf (W.sub _ h);have hsub:∀ b∈wr,b∈D::wr:=λ b hb=>Y04 _ hb;intro k
 induction k with
 | zero =>
  intro i s ti hk hi hst mv hS hR;have hin:i=n:=by omega
  subst hin;refine codeAny_builtin jB ?_;rw [Around.under_plainId zL _];show wpAny _ A.in1 (pyNext (.ref I) >>= _) _ _ s;refine wpAny_bind (W.done s _ _ hst λ s' hm=>?_);show wpAny _ A.in1 (Builtin.Dict.addKeywords D [] >>= λ _=>ret Value.none) _ _ s';refine wpAny_bind (wpAny_pure (wpAny_pure (hR s' (mv.trans W.gtrans (hm.mono hsub)) ?_)));rw [<- hml,Y3k] at hS;obtain ⟨o,es,ep,ho,r⟩:=hS;exact ⟨o,es,ep,hm.heap D _ hDw ho,r⟩
 | succ k ih =>
  intro i s ti hk hi hst mv hS hR;have hlt:i<n:=by omega
  refine codeAny_builtin jB ?_;rw [Around.under_plainId zL _];show wpAny _ A.in1 (pyNext (.ref I) >>= _) _ _ s;refine wpAny_bind (W.item i s _ _ hlt hst λ v s' hP hst' hm=>?_);obtain ⟨a,kv,vv,kk,rfl,ha,⟨o,n',ho,hoc,hod⟩,hmi,hkk⟩:=hval i v hP;have mv':=mv.trans W.gtrans (hm.mono hsub);have ho':=mv'.heap a o ha ho;have hS':s'.heap.DictOf knd D (merged [] (more.take i)):=by
   obtain ⟨o,es,ep,ho,r⟩:=hS;exact ⟨o,es,ep,hm.heap D _ hDw ho,r⟩
  have hT:s'.TypeIs (.ref a) "tuple":=⟨_,ho',hoc⟩;refine wpAny_bind (wpAny_holding ?_);have pr:∀ {Q:List Value->Shared->Prop}{E:XQ},Q [kv,vv] s'->wpAny 123 A.in1 (Builtin.Dict.pairItems (.ref a)) Q E s':=λ {Q E} q=>by
   unfold Builtin.Dict.pairItems;refine wpAny_bind (wpAny_typeOf hT ?_);rw [if_pos 102];exact wpAny_bind (wpAny_seqItems ho' hod (wpAny_pure q))
  refine wpAny_bind (wpAny_tryCatch (pr ?_));show wpAny _ A.in1 (holding [kv,vv] (dictSet D kv vv)) _ _ s';refine wpAny_holding (wpAny_dictSet_pairs hkk hS' (λ h' hd' hsb=>?_) ?_)
  ·refine wpAny_pure ⟨plainId_quiet zL _,?_⟩;have e:((i:Int)+1)=((i+1:Nat):Int):=rfl;show codeAny _ A (.builtin "dict.update.loop" ⟨[.ref D,.ref I,.int ((i:Int)+1) 0,.none],[]⟩) R _;rw [e];refine ih (i+1) _ 0 103 hlt (W.frame _ s' _ _ hst' (Y2l _) λ b hb o e=>?_) (mv'.then_heap (Y2l _) λ b o hb e=>?_) ?_ hR
   ·exact (hsb.2 b (λ h:b=D=>hDf (h▸hb))).trans e
   ·exact (hsb.2 b (λ h:b=D=>hb (h▸Y06))).trans e
   ·rw [merged_take_succ _ _ _ _ hmi];exact hd'
  ·have h1:=YG ([]:List (K×Value)) (more.take i);rw [Y32,Y1r] at h1;rw [sizeLine_eq];omega
end
section
variable {prog:XJ}{w:World}{A:Around}{E:XQ}{s:Shared}{K:Type}[DecidableEq K]{knd:KeyKind prog w K}
theorem Zm {l:Addr}{items:Array Value}{c:Nat}{sl:Array (Option Value)}{more:List (K×Value)}{Q:XQ} (hh:A.handled=none) (hl:s.heap.get? l=some { cls:=.type "list",dict:=none,data:=.seq items c,slots:=sl }) (hn:items.size<=1000000) (hml:more.length=items.size)
  (hval:∀ (i:Nat) (v:Value),items[i]?=some v->∃ a kv vv k,v=.ref a/\Two s.heap a kv vv/\more[i]?=some (k,vv)/\knd.is k kv=true)
  (h:∀ h' tk,h'.DictOf knd s.heap.objs.size (merged [] more)->(∀ b o,s.heap.get? b=some o->h'.get? b=some o)->Q (.ref s.heap.objs.size) { s with heap:=h',toks:=tk }) :
  wpAny 123 A (call (.type "dict") [.ref l]) Q E s:=by
 refine callType_codes (Q₁:=λ obj s₁=>obj=.ref s.heap.objs.size/\s₁={ s with heap:=s.heap.push { cls:=.type "dict",data:=.dict #[] } }) F.kt_called_dict (F.kt_typeCall_dict_1 _) F.entry_dict_init (kt_code_dict_new _ ⟨rfl,rfl⟩) ?_
 rintro obj s₁ ⟨rfl,rfl⟩
 have hnew:(s.heap.push { cls:=.type "dict",data:=.dict #[] }).DictOf knd s.heap.objs.size []:=Heap.DictOf.new s.heap;have hl1:(s.heap.push { cls:=.type "dict",data:=.dict #[] }).get? l=some { cls:=.type "list",dict:=none,data:=.seq items c,slots:=sl }:=Y05 _ hl;have hT:Shared.TypeIs { s with heap:=s.heap.push { cls:=.type "dict",data:=.dict #[] } } (.ref l) "list":=⟨_,hl1,rfl⟩;refine ⟨hnew.typeIs,F.args_dict_init_2 _ _,?_⟩;unfold Builtin.«dict.__init__»;refine wpAny_bind ?_;unfold Builtin.Dict.selfAndRest;refine wpAny_bind (wpAny_notOrdered_dict hnew.typeIs ?_);show wpAny _ _ (pure (s.heap.objs.size,[Value.ref l])) _ _ _;refine wpAny_pure ?_;show wpAny _ _ (Builtin.Dict.updateFrom "dict.__init__" s.heap.objs.size (.ref l) [] .none) _ _ _;unfold Builtin.Dict.updateFrom;refine wpAny_bind (wpAny_typeOf hT ?_);rw [if_pos 102];refine wpAny_bind (JE hl1 hh λ h1 t1 k1=>?_);rw [if_pos 102];refine wpAny_bind (wpAny_rule ?_);have hl2:h1.IsList l items:=⟨_,k1 _ _ hl1,rfl,c,rfl⟩;refine wpAny_bind (wpAny_pyIter_list hl2 ?_);have hlt:l<s.heap.objs.size:=Y0g hl;have sz1:s.heap.objs.size<h1.objs.size:=by
  obtain ⟨o,_,_,e,_⟩:=hnew;exact Y0g (k1 _ _ e)
 have hne:l≠h1.objs.size:=Y0s (Y2g hlt sz1);have old:∀ b o,s.heap.get? b=some o->h1.get? b=some o:=λ b o e=>k1 b o (Y05 _ e);refine wpAny_pure ⟨plainId_quiet zL _,?_⟩;have hDf:s.heap.objs.size∉[h1.objs.size,l]:=by
  simp only [Y03,Y0d,Y0f,or_false,not_or];exact ⟨Y0s sz1,Y2z hlt⟩
 refine VG (knd:=knd) ((Walks.list (prog:=prog) (w:=w) (A:=A.in1.in1) hh h1.objs.size l hne items).toS) s.heap.objs.size hDf more hn hml _ (λ i v hv=>?_) items.size 0 _ 0 103 (Y1h _) ⟨⟨_,Y0n _ rfl,rfl,rfl⟩,hl2.push _⟩ (Moved.refl λ _=>rfl) ?_ λ s' mv hd=>?_
 ·obtain ⟨a,kv,vv,k,e,⟨o,n',e1,e2,e3⟩,e4,e5⟩:=hval i v hv;have hla:=Y0g e1;refine ⟨a,kv,vv,k,e,?_,⟨o,n',Y05 _ (old a o e1),e2,e3⟩,e4,e5⟩;simp only [Y03,Y0d,Y0f,or_false,not_or];exact ⟨Y0s hla,Y0s (Y2g hla sz1)⟩
 ·obtain ⟨o,es,ep,ho,r⟩:=hnew;exact ⟨o,es,ep,Y05 _ (k1 _ _ ho),r⟩
 ·obtain ⟨h',g',d',tk',os'⟩:=s';have eg:g'=s.gens:=mv.gens;have ed:d'=s.drawn:=mv.drawn;have eo:os'=s.os:=mv.os;subst eg;subst ed;subst eo;refine ⟨rfl,h h' tk' hd λ b o e=>mv.heap b o ?_ (Y05 _ (old b o e))⟩;have hb:=Y0g e;simp only [Y03,Y0d,Y0f,or_false,not_or];exact ⟨Y0s hb,Y0s (Y2g hb sz1)⟩
end
section
variable {X:Cx}
theorem QL {pins:106}{σ:St}{H:Hp}{s:Shared}(I:104):∀ {ys:List V}{kvs:List (Key×V)}{its:XW},Paired (λ (x:V) (kv:Key×V)=>∃ a,x=.ref a/\SqT X.K H a [kV kv.1,kv.2]) ys kvs->Vals ys its ->
  ∃ more:List (Key×Value),KV kvs more/\more.length=its.length/\∀ (i:Nat) (v:Value),its[i]?=some v->∃ a kv vv k,v=.ref a/\Two s.heap a kv vv/\more[i]?=some (k,vv)/\(zx X.prog X.w).is k kv=true
 | _,_,_,.nil,.nil=>⟨[],.nil,rfl,λ i v h=>by simp at h⟩
 | _,_,_,@Paired.cons _ _ _ x kv ys kvs h t,.cons (b:=u) (l₂:=us) r rr=>by
  obtain ⟨more,m1,m2,m3⟩:=QL I t rr;obtain ⟨a,rfl,q⟩:=h;have ru:u=.ref a:=r;subst ru;obtain ⟨its2,r2,⟨o,e1,e2,n,e3⟩,_⟩:=I.tuple q;cases r2 with
  | @cons _ kvv _ _ ra rt =>
   cases rt with
   | @cons _ vv _ _ rb rn =>
    cases rn;refine ⟨(kv.1,vv)::more,.cons ⟨rfl,rb⟩ m1,by rw [Y0q,Y0q,m2],λ i v hv=>?_⟩;cases i with
    | zero =>
     have:v=.ref a:=by simpa using hv.symm
     subst this;exact ⟨a,kvv,vv,kv.1,rfl,⟨o,n,e1,e2,e3⟩,rfl,Za ra⟩
    | succ i=>exact m3 i v (by simpa using hv)
def rDP (K:Y00):List V->Hp->VK->Prop:=λ xs H Q=>∃ p ys kvs,xs=[.ref p]/\SqL K H p ys/\ys.length<=1000000/\Paired (λ (x:V) (kv:Key×V)=>∃ a,x=.ref a/\SqT K H a [kV kv.1,kv.2]) ys kvs/\∀ l,H l=none->Q (.ref l) (upd H l (.dK (yN [] kvs)))
theorem YH (hc:X.calm=true):jb X (.type "dict") (rDP X.K):=by
 rintro pins s σ H xs us Q I r ⟨p,ys,kvs,rfl,hl,hn,hp,q⟩
 cases r with
 | cons r rr =>
  cases rr;cases r;obtain ⟨its,rv,⟨o,n,e1,e2,e3,e4⟩,hz⟩:=I.list hl;obtain ⟨c,dct,dat,sl⟩:=o;simp only at e2 e3 e4;subst e2 e3 e4;obtain ⟨more,m1,m2,m3⟩:=QL I hp rv;have hle:=rv.length;have hkl:kvs.length=ys.length:=hp.length.symm;refine Zm (knd:=zx X.prog X.w) (more:=more) (I.ok.hd hc) e1 (by simp only [Y08];omega) (by simp only [Y08];exact m2) (λ i v hv=>m3 i v (by simpa using hv)) λ h' tk dd old=>?_;have hz:(yN [] kvs).length<=sizeLine:=by
   have h1:=y8 kvs [];rw [Y32] at h1;rw [sizeLine_eq];omega
  exact ⟨.ref _,_,I.laid (t':=tk) old (Y0a _) (GR hz (beq_eq_false_iff_ne.mpr (Ne.symm (Y0s I.big))) (m1.merge .nil) dd),rfl,q _ (I.hok.fresh (Y0a _))⟩
end
section
variable {prog:XJ}{w:World}{A:Around}{E:XQ}{s:Shared}
theorem W9 {it t:Addr}{items:Array Value}(hne:t≠it):∀ (n i:Nat) (s:Shared) (Q:List Value->Shared->Prop),s.heap.IsListIter it t i->s.heap.IsList t items->i+n<=items.size ->
  (∀ h',h'.IsListIter it t (i+n)->Heap.SameBut it s.heap h'->Q ((items.toList.drop i).take n) { s with heap:=h' })->wpAny 123 A (draw (.ref it) n) Q E s
 | 0,i,s,Q,hit,_,_,hQ=>by
  show wpAny _ _ (pure []) Q E s;exact wpAny_pure (by simpa using hQ s.heap hit (Heap.SameBut.refl ..))
 | n+1,i,s,Q,hit,ht,hle,hQ=>by
  have hlt:i<items.size:=by omega
  show wpAny _ _ (pyNext (.ref it) >>= _) Q E s;refine wpAny_bind (wpAny_pyNext_list_item hit ht (x:=items[i]) (by simp [hlt]) λ h₁ hit₁ hs₁=>?_);refine wpAny_bind (wpAny_holding (W9 hne n (i+1) _ _ hit₁ (ht.extBut hs₁.extBut hne) 103 λ h₂ hit₂ hs₂=>wpAny_pure ?_));have hd:items.toList.drop i=items[i]::items.toList.drop (i+1):=by simp [Y2o,hlt]
  have:=hQ h₂ (by rw [show i+(n+1)=i+1+n by omega];exact hit₂) (hs₁.trans hs₂)
  rw [hd,List.take_succ_cons] at this;exact this
theorem yO {t:Addr}{items:Array Value}{Q:List Value->Shared->Prop}(hh:A.handled=none)(ht:s.heap.IsList t items)
  (hQ:∀ h',Heap.ExtBut s.heap.objs.size s.heap h'->Q items.toList { s with heap:=h' }):wpAny 123 A (unpackItems (.ref t) items.size none) Q E s:=by
 have hlt:t≠s.heap.objs.size:=by obtain ⟨o,ho,_⟩:=ht;exact Y0s (Y0g ho)
 unfold unpackItems;refine wpAny_bind ?_;unfold notIterableAtAll;refine wpAny_bind (wpAny_specialOf ht.typeIs slot_list_iter.lookup ?_);refine wpAny_pure ?_;simp only [Y1m,if_false];refine wpAny_bind (wpAny_holding (wpAny_pyIter_list ht ?_));refine wpAny_bind (wpAny_holding (W9 hlt items.size 0 _ _ ⟨_,Y0n _ rfl,rfl,rfl⟩ (ht.push _) 103 λ h₁ hit₁ hs₁=>?_));have hall:List.take items.size (List.drop 0 items.toList)=items.toList:=by
  rw [Y2f];exact Y1t 110
 rw [hall];rw [if_neg 110];have ht₁:h₁.IsList t items:=(ht.push _).extBut hs₁.extBut hlt;refine wpAny_bind (wpAny_holding (wpAny_pyNext_list_end hh hit₁ ht₁ 110 λ h₂ he₂=>?_));simp only [Option.isSome_none,Y1m,if_false];exact wpAny_pure (hQ h₂ λ b o hb e=>he₂ b o hb (hs₁.extBut b o hb (Y05 _ e)))
theorem yo {env:Env}{elts:List Expr}{x1}{pos:Pos}{t:Addr}{items:Array Value}{Q:Unit->Shared->Prop}(hh:A.handled=none)(ht:s.heap.IsList t items)
  (hn:(assignEach elts env).length=items.size) (hstar:(assignEach elts env).findIdx? (·.1)=none)
  (h:∀ h',Heap.ExtBut s.heap.objs.size s.heap h'->wpAny 123 A (assignInOrder ((assignEach elts env).map (·.2)) items.toList) Q E { s with heap:=h' }) :
  wpAny 123 A (assign (.Tuple elts x1 pos) env (.ref t)) Q E s:=by
 rw [arm_assign_Tuple];refine wpAny_bind (wpAny_standAt ?_);unfold unpack;rw [hn,hstar];exact wpAny_bind (wpAny_holding (yO hh ht h))
end
section
variable {X:Cx}{pos:Pos}
def gTL (K:Y00)(n:Nat)(t:TGs):TG:=λ v σ H Q=>∃ a xs,v=.ref a/\(SqT K H a xs\/SqL K H a xs)/\xs.length=n/\t xs σ H Q
theorem z0i {es:List Expr}{k:Nat}{t:TGs}{n:Nat}(hc:X.calm=true)(h:PGs X es t)
  (hn:(assignEach es X.env).length=n:=by rfl) (hst:(assignEach es X.env).findIdx? (·.1)=none:=by rfl):PG X (.Tuple es k pos) (gTL X.K n t):=by
 intro pins s σ H v u Q I r hw;obtain ⟨a,xs,e1,hq,hl,hw⟩:=hw;subst e1;rcases hq with hq | hq
 ·exact Gy hc h hn hst pins s σ H _ u Q I r ⟨a,xs,rfl,hq,hl,hw⟩
 cases r;obtain ⟨its,rv,⟨o,c,e1,e2,e3,e4⟩,hz⟩:=I.list hq;refine yo (I.ok.hd hc) (items:=its.toArray) ⟨o,e1,e2,c,e4⟩ (by simp [hn,<- hl,rv.length]) hst λ h' hx=>?_;have I1:Inv X pins σ H { s with heap:=h' }:=I.kept (t':=s.toks) λ b o e=>hx b o (Y0s (Y0g e)) e
 exact h pins _ σ H xs _ Q I1 (by simpa using rv) hw
end
section
variable {X:Cx}
def z9m:V->Option Int->Option Int->Hp->VK->Prop:=λ x lo hi H Q=>∃ z,x=.str z/\z.length<=sizeLine/\Q (.str (Txt.slice z lo hi)) H
theorem z4v:SlR X z9m:=by
 intro pins s σ H x v vl vu lo hi sl Q I rx hs pl pu h;obtain ⟨z,rfl,hz,q⟩:=h;obtain ⟨t,rfl⟩:=rx;obtain ⟨os,hos,hcs,hds⟩:=hs;refine ⟨"str",_,F.slot_str_getitem.lookup,typeIs_str _ _ _,?_⟩;cases pl with
 | none =>
  cases pu with
  | none=>exact wpAny_getItem_str_slice (l:=none) (u:=none) (st:=none) ⟨os,hos,hcs,hds⟩ rfl (post_val_or_str ⟨Y0j (Txt.slice_le z _ _) hz,λ t' k=>⟨.str _,H,I.tok k,⟨t',rfl⟩,q⟩⟩)
  | int j uj=>exact wpAny_getItem_str_slice (l:=none) (u:=some (j,uj)) (st:=none) ⟨os,hos,hcs,hds⟩ rfl (post_val_or_str ⟨Y0j (Txt.slice_le z _ _) hz,λ t' k=>⟨.str _,H,I.tok k,⟨t',rfl⟩,q⟩⟩)
 | int i ui =>
  cases pu with
  | none=>exact wpAny_getItem_str_slice (l:=some (i,ui)) (u:=none) (st:=none) ⟨os,hos,hcs,hds⟩ rfl (post_val_or_str ⟨Y0j (Txt.slice_le z _ _) hz,λ t' k=>⟨.str _,H,I.tok k,⟨t',rfl⟩,q⟩⟩)
  | int j uj=>exact wpAny_getItem_str_slice (l:=some (i,ui)) (u:=some (j,uj)) (st:=none) ⟨os,hos,hcs,hds⟩ rfl (post_val_or_str ⟨Y0j (Txt.slice_le z _ _) hz,λ t' k=>⟨.str _,H,I.tok k,⟨t',rfl⟩,q⟩⟩)
end
def z0j (lo:Int)(n:Nat):It:=⟨λ i _=>i<n,λ i H v H'=>H'=H/\v=.int (lo-i),λ i _=>n<=i⟩
theorem QM {P:XJ}{w:World}{K:Y00}{tg:Expr}(it:Addr)(lo:Int)(n:Nat):Turn P w K tg (z0j lo n) [it] it (λ i h=>IsRangeIter h it (lo+(i:Nat)*(-1)) ((n:Int)-(i:Nat)) (-1)) where
 mem:=by simp
 obj:=λ i h st b hb=>by
  have e:b=it:=by simpa using hb
  subst e;exact ⟨_,st,λ v z=>by
   have z':Data.fields _=Data.cell v:=z;cases z'⟩
 keep:=λ i h h' st k=>k it 110 _ st
 item:=by
  intro X hP hw hK hc i pins s σ H E I hf st hg;subst hP hw hK;obtain ⟨f0,f1,f2,f3,f4,f5⟩:=hf it 110;have W:=Walks.range (prog:=X.prog) (w:=X.w) (I.ok.hd hc) it lo (-1) n;refine W.item i s _ _ hg st λ v h' tk hv st' kk=>?_;obtain ⟨t,rfl⟩:=hv;have I1:Inv X pins σ H { s with heap:=h',toks:=tk }:=I.turned (λ b o hb e=>kk b o (by simpa using hb) e) f0 f1 f3 f4 f5;refine ⟨_,rfl,JU (s:={ s with heap:=h',toks:=tk }) (n:="range_iterator") st' rfl rfl 102 ⟨.int (lo-i),H,I1,⟨t,?_⟩,⟨rfl,rfl⟩,st',λ b hb=>(hf b hb).1⟩⟩
  have:lo+(i:Int)*(-1)=lo-i:=by omega
  rw [this]
 done:=by
  intro X hP hw hK hc i pins s σ H E I hf st hg;subst hP hw hK;obtain ⟨f0,f1,f2,f3,f4,f5⟩:=hf it 110;exact wpAny_pyNext_range_end (I.ok.hd hc) st (by have:n<=i:=hg;omega) λ h' eb=>⟨rfl,I.turned (t':=s.toks) (λ b o hb e=>eb b o hb e) f0 f1 f3 f4 f5⟩
 self:=λ _ _ _ _ _ st h=>wpAny_pyIter_rangeiter st h
theorem qG (a b:Int):Builtin.Range.rangeSize a b (-1)=if b<a then a-b else 0:=by
 unfold Builtin.Range.rangeSize;simp
 try (split<;>omega)
section
variable {X:Cx}{tg:Expr}
theorem YI {a b:Int}(ha:-(2 ^ 61)<=a)(ha':a<2 ^ 61)(hb:-(2 ^ 61)<=b)(hb':b<2 ^ 61):Builtin.Range.small a b (-1)=true:=by
 unfold Builtin.Range.small;rw [qG];simp only [Builtin.Range.rangeFitsLong,Y0c,Bool.or_eq_true,decide_eq_true_eq,beq_iff_eq]
 split<;>(try simp)<;>omega
theorem VH {pins:106}{σ:St}{H:Hp}{s:Shared}{R:It->Hp->Prop}{E:XQ}{lo hi:Int}{t u v:Tok}{tk:Nat}(I:104)(h1:-(2 ^ 61)<=lo)(h2:lo<2 ^ 61)(h3:-(2 ^ 61)<=hi)(h4:hi<2 ^ 61)
  (q:R (z0j lo (lo-hi).toNat) H):wpAny 105 X.A (pyIter (.ref s.heap.objs.size)) (PIE X pins σ tg R) E { s with heap:=s.heap.push { cls:=.type "range",data:=.fields #[.int lo t,.int hi u,.int (-1) v] },toks:=tk }:=by
 refine wpAny_pyIter_range (IsRange.new ..) (YI h1 h2 h3 h4) ?_;have I1:Inv X pins σ H { s with heap:=s.heap.push { cls:=.type "range",data:=.fields #[.int lo t,.int hi u,.int (-1) v] },toks:=tk }:=I.kept λ b o e=>Y05 _ e;refine ⟨(s.heap.push { cls:=.type "range",data:=.fields #[.int lo t,.int hi u,.int (-1) v] }).objs.size,[(s.heap.push { cls:=.type "range",data:=.fields #[.int lo t,.int hi u,.int (-1) v] }).objs.size],_,_,H,rfl,
  I1.kept (t':=tk) λ b o e=>Y05 _ e,QM _ lo (lo-hi).toNat,?_,λ b hb=>?_,q⟩
 ·have e1:lo+((0:Nat):Int)*(-1)=lo:=by simp
  have e2:(((lo-hi).toNat:Nat):Int)-((0:Nat):Int)=Builtin.Range.rangeSize lo hi (-1):=by rw [qG];split<;>omega
  show IsRangeIter _ _ (lo+((0:Nat):Int)*(-1)) ((((lo-hi).toNat:Nat):Int)-((0:Nat):Int)) (-1);rw [e1,e2];exact Y0n _ rfl
 ·have e:b=(s.heap.push { cls:=.type "range",data:=.fields #[.int lo t,.int hi u,.int (-1) v] }).objs.size:=by simpa using hb
  subst e;exact I1.fpOk (Y0a _) (I1.hok.fresh (Y0a _))
def z7d (ta:TA):TI:=λ σ H R=>ta σ H λ vs H1=>∃ i j:Int,vs=[.int i,.int j,.int (-1)]/\(-(2 ^ 30)<=i/\i<2 ^ 30/\-(2 ^ 30)<=j/\j<2 ^ 30)/\R (z0j i (i-j).toNat) H1
theorem VI {a b c:Expr}{ta:TA}{p pos:Pos} (hg:Gl X "range") (hm:X.mg "range"=none) (ha:PA X [a,b,c] ta) (hs:starEach [a,b,c] X.env=[(false,eval a X.env),(false,eval b X.env),(false,eval c X.env)]) (hs2:starEach [b,c] X.env=[(false,eval b X.env),(false,eval c X.env)]) :
  PI X tg (.Call (.Name "range" p) [a,b,c] [] pos) (z7d ta):=by
 intro pins s σ H R I h;refine Call_ (ye I hg hm boot_range (Y1g (thn (ha pos pins s σ H _ I h) λ us s1 ⟨vs,H1,I1,r1,q1⟩=>?_) (by rw [hs,hs2]) (by rw [hs2];rfl)));obtain ⟨i,j,e,⟨q1,q2,q3,q4⟩,q⟩:=q1;subst e;cases r1 with
 | cons r rr =>
  cases rr with
  | cons r' rr =>
   cases rr with
   | cons r'' rr =>
    cases rr;obtain ⟨t,rfl⟩:=r;obtain ⟨t',rfl⟩:=r';obtain ⟨t'',rfl⟩:=r'';exact call_range_3 102 (VH I1 103 103 103 103 q) (Or.inl (PyProof.noPylong_small 103))
end
section
variable {X:Cx}
def tBN (t:TE):TT:=λ σ H Q=>t σ H λ x H1=>(∃ c,x=.bl c/\Q c H1)\/(x=.non/\Q false H1)
theorem z0k {e:Expr}{t:TE}(h:PE X e t)(he:∀ whole,isTrue e X.env whole=(do let v <- whole;standAt e.pos;holding [v] (truthy v)):=by intro _;rfl):PT X e (tBN t):=by
 intro pins s σ H Q I hw;refine isTrue_plain (thn (h pins s σ H _ I hw) λ v s1 ⟨x,H1,I1,r1,q1⟩=>?_) (he _);rcases q1 with ⟨d,rfl,q⟩ | ⟨rfl,q⟩
 ·cases r1;exact wpAny_truthy_bool ⟨H1,I1,q⟩
 ·cases r1;exact PyProof.Rows.truthy_none ⟨H1,I1,q⟩
end
def ZT:V->Bool
 | .non=>true
 | _=>false
def z4w (K:Y00):R2:=λ x y H Q=>∃ p xs,x=.non/\y=.ref p/\(SqL K H p xs\/SqT K H p xs)/\(∀ v∈xs,jH v=true\/∃ a ts,v=.ref a/\SqT K H a ts)/\Q (.bl (xs.any ZT)) H
section
variable {X:Cx}
theorem z4x {v:V}{u:Value}{H:Hp}{K:Y00}(r:RelV v u)(f:jH v=true\/∃ a ts,v=.ref a/\SqT K H a ts):eqU .non u=ZT v:=by
 rcases f with f | ⟨a,ts,rfl,_⟩
 ·rw [ZH r f];cases v<;>first | rfl | exact absurd (show false=true from f) Y0t
 ·cases r;rfl
theorem WE {H:Hp}{K:Y00}:∀ {xs:List V}{us:XW},Vals xs us->(∀ v∈xs,jH v=true\/∃ a ts,v=.ref a/\SqT K H a ts)->us.any (eqU .non)=xs.any ZT
 | _,_,.nil,_=>rfl
 | y::xs,u::us,.cons r t,f=>by
  rw [Y1f,Y1f,z4x r (f y (Y06 ..)),WE t λ v hv=>f v (Y04 _ hv)]
theorem WF {pins:106}{σ:St}{H:Hp}{s:Shared}{A:Around}(I:104)(hu:A.units<cLine):∀ {xs:List V}{us:XW},Vals xs us->(∀ v∈xs,jH v=true\/∃ a ts,v=.ref a/\SqT X.K H a ts)->∀ u∈us,SeqAt.EqAt A s u .none (eqU .non u)
 | _,_,.nil,_=>λ u hu=>by cases hu
 | y::xs,u::us,.cons r t,f=>λ u' hu'=>by
  rcases Y03.mp hu' with rfl | hu'
  ·rcases f y (Y06 ..) with fy | ⟨a,ts,rfl,sq⟩
   ·rw [ZH r fy];exact GM r (show RelV .non .none from rfl) fy rfl
   ·cases r;obtain ⟨its,_,pl,_⟩:=I.tuple sq;exact SeqAt.EqAt.tuple_none pl hu
  ·exact WF I hu t (λ v hv=>f v (Y04 _ hv)) u' hu'
theorem YJ (hu:X.A.in1.units<cLine):OpR X (compareOp .In) (z4w X.K):=by
 intro pins s σ H x y v u Q I rx ry h;obtain ⟨p,xs,rfl,rfl,hq,fs,q⟩:=h;cases rx;cases ry;rcases hq with hq | hq
 ·obtain ⟨its,r,pl,hz⟩:=I.list hq;refine SeqAt.in_listAt (eqU .non) pl.isList (λ w hw=>WF I hu r fs w (by simpa using hw)) ⟨.bl _,H,I,rfl,?_⟩;rw [show its.toArray.any (eqU .non)=its.any (eqU .non) by simp,WE r fs];exact q
 ·obtain ⟨its,r,pl,hz⟩:=I.tuple hq;refine SeqAt.in_tupleAt (eqU .non) pl (λ w hw=>WF I hu r fs w (by simpa using hw)) ⟨.bl _,H,I,rfl,?_⟩;rw [show its.toArray.any (eqU .non)=its.any (eqU .non) by simp,WE r fs];exact q
end
end L2
namespace L2
open PySem PySem.W PySem.Spec PyProof.Rows PySem.Calls PySem.Builtin PySem.Builtin.ObjectAttr PySem.Builtin.Getset_descriptor
structure ExC (K:Y00)(C:Addr):Prop where
 ga:findIn K (.ref C) "__getattribute__"=some (some (.builtin "BaseException.__getattribute__"))
 ng:findIn K (.ref C) "__getattr__"=some none
 cl:findIn K (.ref C) "__class__"=some (some (.builtin "object.__class__"))
 bx:mroIn K C (.type "BaseException")=some true
 ob:mroIn K C (.type "object")=some true
 is:(clsIn K C).isSome=true
section
variable {prog:XJ}{w:World}{A:Around}{E:XQ}{h:Heap}{g:Array GenState}{d:Drawn}{t:Nat}{os:OsState}{a C:Addr}{o:Obj}{K:Y00}
theorem z2y {M:Model}(hx:h.get? a=some o)(hc:o.cls=.ref C):Looks M h (typeOf (.ref a)) (.ref C):=hc▸(Looks.ld hx).andThen .now
theorem z4y {tp:Value}{R:Result->Shared->Prop}(Z:ExC K C)(X:K.In h)(hx:h.get? a=some o)(hc:o.cls=.ref C)(hq:R (.ok (.ret (.ref C))) ⟨h,g,d,t,os⟩) :
  codeAny 123 A (.call (.builtin "getset_descriptor.__get__") ⟨[.builtin "object.__class__",.ref a,tp],[]⟩) R ⟨h,g,d,t,os⟩:=by
 have L0:=z2y (M:=model prog w) hx hc;have L1:=looks_mroIn (M:=model prog w) X Z.ob;refine codeAny_call_builtin KF.slot_gs.plain KF.entry_gs (KF.slot_gs.check _ _ _ _ _ _ _ _ KF.type_class (KF.args_gs _ _ _) ?_);unfold Builtin.«getset_descriptor.__get__» descrGet;rw [dga_obj];refine wpAny_bind (wpAny_pure ?_);unfold descrGetter descrCheckInstance descrNameAndClass isInstance;simp only [KF.owner_class]
 repeat lk
 refine ⟨Code.quiet_builtin _ (by decide +kernel),codeAny_builtin KF.entry_class ?_⟩;unfold Builtin.«object.__class__» shownTypeOf
 repeat lk
 exact hq
theorem O9 {n:Str}{y:Option Value}{Q:Option Value->Shared->Prop}(X:K.In h)(e:findIn K (.ref C) n=some y)(hq:Q y ⟨h,g,d,t,os⟩):wpAny 123 A (typeLookup (.ref C) n) Q E ⟨h,g,d,t,os⟩:=(looks_findIn X e).at hq
theorem z4z {T:String}{Q:Bool->Shared->Prop}(X:K.In h)(e:mroIn K C (.type T)=some true)(hq:Q true ⟨h,g,d,t,os⟩):wpAny 123 A (isSubtype (.ref C) (.type T)) Q E ⟨h,g,d,t,os⟩:=(looks_subIn (t:=.ref C) X e).at hq
theorem Oa {nameV:Value}{Q:Unit->Shared->Prop}(Z:ExC K C)(X:K.In h)(hx:h.get? a=some o)(hc:o.cls=.ref C)(hq:Q () ⟨h,g,d,t,os⟩):wpAny 123 A (checkBuiltinCall "BaseException.__getattribute__" ⟨[.ref a,nameV],[]⟩) Q E ⟨h,g,d,t,os⟩:=by
 have hk:builtinKind "BaseException.__getattribute__"=some .slot:=by decide +kernel
 have hsplit:splitId "BaseException.__getattribute__"=some ("BaseException","__getattribute__"):=by decide +kernel
 have ha:=F.args_bexc_ga (.ref a) nameV;simp only [checkBuiltinCall,hk,hsplit];refine wpAny_bind ?_
 ·unfold isInstance
  repeat (first | (with_reducible refine wpAny_loadPart_at hx ?_;rw [hc]) | (with_reducible refine z4z X Z.bx ?_) | wp_step)
  exact hq
theorem Ob {tk:Tok}{Q:Fin->Shared->Prop}(Z:ExC K C)(X:K.In h)(hx:h.get? a=some o)(hc:o.cls=.ref C)(hq:Q (.done (.ret (.ref C))) ⟨h,g,d,t,os⟩) :
  wpAny 123 A (Builtin.«object.__getattribute__» ⟨[.ref a,.str "__class__" tk],[]⟩) Q E ⟨h,g,d,t,os⟩:=by
 have hT5:(⟨h,g,d,t,os⟩:Shared).TypeIs (.builtin "object.__class__") "getset_descriptor":=F.typeOf_object_class;have f5:=F.typeOf_object_class;have f6:=F.slot_gs_get.lookup;have f7:=F.slot_gs_set.lookup
 repeat (any_goals (first | assumption | (with_reducible refine wpAny_loadPart_at hx ?_;rw [hc]) | with_reducible refine O9 X Z.cl ?_ | wp_step))
 refine z4y Z X hx hc ?_
 repeat (any_goals (first | assumption | wp_step))
theorem z0l {tk:Tok}{R:Result->Shared->Prop}(Z:ExC K C)(X:K.In h)(hx:h.get? a=some o)(hc:o.cls=.ref C)(hq:R (.ok (.ret (.ref C))) ⟨h,g,d,t,os⟩) :
  codeAny 123 A (.call (.builtin "BaseException.__getattribute__") ⟨[.ref a,.str "__class__" tk],[]⟩) R ⟨h,g,d,t,os⟩ :=
 codeAny_call_builtin F.attr_ValueError.ga.plain F.entry_bexc_ga (Oa Z X hx hc (Ob Z X hx hc hq))
theorem z7e {tk:Tok}{fill expr:Bool}{Q:XQ}(Z:ExC K C)(X:K.In h)(hx:h.get? a=some o)(hc:o.cls=.ref C)(hq:Q (.ref C) ⟨h,g,d,t,os⟩) :
  wpAny 123 A (getAttrBy (.ref a) (.str "__class__" tk) fill expr) Q E ⟨h,g,d,t,os⟩:=by
 have f3:=F.attr_ValueError.ga.bind (.ref a);have hx0:(expr&&onTheHeap (Value.builtin "BaseException.__getattribute__"))=false:=by cases expr<;>rfl
 have hx2:(Value.builtin "BaseException.__getattribute__"==Value.builtin "object.__getattribute__")=false:=by decide +kernel
 have hx1:(onTheHeap (Value.ref C)&&Value.builtin "BaseException.__getattribute__"==Value.builtin "object.__getattribute__")=false:=by rw [hx2];rfl
 repeat (any_goals (first | assumption | (with_reducible refine wpAny_loadPart_at hx ?_;rw [hc]) | with_reducible refine O9 X Z.ga ?_ | with_reducible refine O9 X Z.ng ?_ | wp_step))
 refine z0l Z X hx hc ?_
 repeat (any_goals (first | assumption | wp_step))
theorem z0m {Q:Option Value->Shared->Prop}(Z:ExC K C)(X:K.In h)(hx:h.get? a=some o)(hc:o.cls=.ref C)(hq:Q (some (.ref C)) ⟨h,g,d,t+1,os⟩):wpAny 123 A (getAttr? (.ref a) "__class__") Q E ⟨h,g,d,t,os⟩:=by
 unfold getAttr? getAttrBy?
 repeat (any_goals (first | assumption | with_reducible apply z7e Z X hx hc | wp_step))
theorem Oc (Z:ExC K C):PySem.W.KitX K (.ref a) (.ref C) (λ h=>∃ o,h.get? a=some o/\o.cls=.ref C) where
 ty:=λ M h X ⟨o,hx,hc⟩=>z2y hx hc
 it:=λ M h X _=>by
  have hc:=Z.is;unfold clsIn at hc;split at hc
  ·rename_i c' d' cd' sl' ho;intro A' Q' E' s' k q;unfold isType loadHead;exact wpAny_bind (wpAny_loadPart (k _ _ (X _ _ ho)) (wpAny_pure q))
  ·cases hc
 ne:=λ h tp dd its n sl X htp=>by
  have hc:=Z.is;refine Bool.eq_false_iff.mpr λ q=>?_;have e:C=tp:=Value.ref.inj (beq_iff_eq.mp q);subst e;unfold clsIn at hc;split at hc
  ·rename_i c' d' cd' sl' ho;have z:=(X _ _ ho).symm.trans htp;cases z
  ·cases hc
 ca:=λ {prog w A E Q s} X ⟨o,hx,hc⟩ k=>by
  obtain ⟨h,g,d,t,os⟩:=s;exact z0m Z X hx hc k
end
section
variable {X:Cx}{C:Addr}
theorem QN (Z:ExC X.K C){c:Value}{b:Bool}(e:PySem.W.kitOne X.K (.ref C) c=some b):∀ {pins:106}{s:Shared}{σ:St}{H:Hp}{a:Addr}{Q:XQ}{E:XQ}{A:Around},Inv X pins σ H s->H a=some (exO a C)->(∀ tk,Q (.bool b) { s with toks:=tk })->wpAny 105 A (call (.builtin "isinstance") [.ref a,c]) Q E s:=by
 intro pins s σ H a Q E A I ea h;obtain ⟨⟨o,e1,e2⟩,_⟩:=(show ObjOk X.prog X.w H s.heap a (exO a C) from I.hok a _ ea);exact Y13 (Oc Z) I.kIn ⟨o,e1,e2⟩ e (λ z=>nomatch z) h
end
end L2
namespace L2
open PySem PySem.Spec PyProof.Rows
abbrev z9n (h:Heap)(z TI TO:Addr)(f0:Value)(f1:Bool):Prop :=
 h.get? z=some { cls:=.type "zip",dict:=none,data:=.fields #[f0,.bool f1,.bool false,.ref TI,.ref TO],slots:=#[] }
def okF (f0:Value):Prop:=f0=.none\/∃ a t,f0=.int a t
structure ZL (h:Heap)(z TI TO i1 i2 l1 l2 S B:Addr)(xs ys:Array Value)(c i:Nat)(Ts:XV):Prop where
 zs:∃ f0 f1,z9n h z TI TO f0 f1/\okF f0
 ti:IsPair h TI (.ref i1) (.ref i2)
 to:∃ a b,IsPair h TO a b
 s1:SIt h i1 l1 i xs
 s2:SIt h i2 l2 i ys
 ls:h.get? S=some { cls:=.type "list",dict:=none,data:=.seq (Ts.map Value.ref).toArray c,slots:=#[] }
 sz:Ts.length=i
 it:∀ (j:Nat) (T:Addr),Ts[j]?=some T->B<=T/\∃ x y,xs[j]?=some x/\ys[j]?=some y/\IsPair h T x y
 nd:Ts.Nodup
variable {X:Cx}
theorem UD:∀ {is:List Int}{us:XW},Vals (is.map V.int) us->us.length=is.length/\∀ (i:Nat) (v:Value),us[i]?=some v->∃ t,v=Value.int ((is[i]?).getD 0) t
 | [],_,.nil=>⟨rfl,λ i v h=>by simp at h⟩
 | j::r,_,.cons h q=>by
  obtain ⟨l,g⟩:=UD q;refine ⟨by simp [l],λ i v e=>?_⟩;cases i with
  | zero=>obtain ⟨t,rfl⟩:=h;simp at e;subst e;exact ⟨t,rfl⟩
  | succ i=>simpa using g i v (by simpa using e)
theorem UE:∀ (is:List Int) (n:Nat),preSum (λ i=>(is[i]?).getD 0) n=(is.take n).sum
 | is,0=>rfl
 | is,n+1=>by
  show preSum _ n+_=_;rw [UE is n,List.take_add_one,List.sum_append];cases e:is[n]? with
  | none=>simp [e]
  | some x=>simp [e]
theorem VJ (hc:X.calm=true):jb X (.builtin "sum") (λ xs H Q=>∃ (p:Addr) (is:List Int),xs=[.ref p]/\SqL X.K H p (is.map V.int)/\Q (.int is.sum) H):=by
 intro pins s σ H xs us Q I r h;obtain ⟨p,is,rfl,hq,q⟩:=h;obtain ⟨u,rfl,ru⟩:=qy r;cases ru;obtain ⟨its,rv,pl,hz⟩:=I.list hq;obtain ⟨ll,hb⟩:=UD rv;have hl:s.heap.IsList p its.toArray:=pl.isList;have hlt:p<s.heap.objs.size:=by obtain ⟨_,e,_⟩:=hl;exact Y0g e
 refine call_sum_walkAnyS (wpAny_pyIter_list hl ?_);refine ⟨s.heap.objs.size,[s.heap.objs.size,p],[s.heap.objs.size],_,its.toArray.size,_,_,λ i=>(is[i]?).getD 0,rfl,(Walks.list (A:=X.A.in1) (I.ok.hd hc) _ p (Y0s hlt) its.toArray).toS,
  ⟨⟨_,Y0n _ rfl,rfl,rfl⟩,hl.push _⟩,λ b hb=>?_,λ i v hP=>hb i v (by simpa using hP),λ s' t' hm=>?_⟩
 ·rcases Y03.mp hb with rfl | hb
  ·exact Y0g (Y0n _ rfl)
  ·obtain rfl:=Y0d.mp hb;obtain ⟨o,e,_⟩:=hl;exact Y0g (Y05 _ e)
 ·obtain ⟨h',g',d',tk',os'⟩:=s';have e1:g'=s.gens:=hm.gens;have e2:d'=s.drawn:=hm.drawn;have e3:os'=s.os:=hm.os;subst e1 e2 e3;rw [UE,Y08,ll,Y3k];exact ⟨.int is.sum,H,I.kept (λ b o e=>hm.heap b o (λ hb=>absurd (Y0g e) ((Y0d.mp hb)▸Y1b _)) (Y05 _ e)),117,q⟩
end L2
namespace L2
open PySem PySem.Spec PyProof.Rows
def tJV (te:TE)(t:TJ):TJ:=λ σ H acc Q=>te σ H λ v H1=>∃ x,v=.str x/\x.length<=sizeLine/\(acc++x).length<=sizeLine/\t σ H1 (acc++x) Q
theorem z9o {X:Cx}{e:Expr}{es:List Expr}{te:TE}{t:TJ}{p:Pos}(he:PE X e te)(h:PJ X es t):PJ X (.FormattedValue e (-1) none p::es) (tJV te t):=by
 intro pins s σ H acc Q I q;show wpAny _ _ (eval (.FormattedValue e (-1) none p) X.env) _ _ s;refine wpAny_FormattedValue_plain (thn (he pins s σ H _ I q) λ v s1 ⟨y,H1,I1,r1,x,ey,hz,hz2,q1⟩=>?_);subst ey;obtain ⟨tk,rfl⟩:=r1;refine wpAny_formatField_str ?_ ?_ hz
 ·exact ⟨_,_,rfl,hz2,h pins _ σ H1 _ Q I1 q1⟩
 ·exact ⟨_,_,rfl,hz2,h pins _ σ H1 _ Q (I1.tok _) q1⟩
section
variable {X:Cx}
def z7f (i j:Int):Prop:=0<j/\j<1267650600228229401496703205376
theorem Od:OpR X (binaryOp .FloorDiv) (rI z7f λ i j=>.int (i/j)):=opI λ i j _ _ _ _ _ hc q=>by
 have h1:(0:Int)<j:=hc.1;have h2:j<1267650600228229401496703205376:=hc.2;refine floordiv_int 103 (by rw [Int.fdiv_eq_ediv_of_nonneg i 103];exact q) (.inl (PyProof.noPylong_of_log2 ?_));have hz:j.natAbs≠0:=by omega
 have:j.natAbs.log2<100:=by
  rw [Nat.log2_lt hz];have e:(2:Nat) ^ 100=1267650600228229401496703205376:=by decide +kernel
  rw [e];omega
 omega
end
section
variable {X:Cx}{pins:106}{σ:St}{H:Hp}{s:Shared}{a b:Addr}{v:V}{r:Value}{o:Option V}{A:Around}{E:XQ}{kvs:List (List Key×V)}{k:List Key}
def DT (H:Hp)(a:Addr)(kvs:List (List Key×V)):Prop:=H a=some (.dT kvs)\/(H a=some (.dK [])/\kvs=[])
theorem YK (I:104)(e:SqT X.K H b (k.map kV)):(tupleKind (zx X.prog X.w)).is s.heap k b:=by
 obtain ⟨its,r,⟨o,h1,h2,n,h3⟩,_⟩:=I.tuple e;exact ⟨o,its.toArray,n,h1,h2,h3,by simpa using yM r⟩
theorem YL {P:XJ}{w:World}{h:Heap}(ok:HOk P w H h)(e:DT H a kvs):kvs.length<=sizeLine/\(a==sysModules)=false /\
  ∃ xs,KT H kvs xs/\h.DictOfH (tupleKind (zx P w)) a xs:=by
 rcases e with e | ⟨e,rfl⟩
 ·exact z2v ok e
 ·obtain ⟨z,hd,vs,rel,o,es,ep,h1,h2,h3,_,h4,_⟩:=z2u ok e;cases rel;have h5:es.toList=[]:=by
   cases q:es.toList with
   | nil=>rfl
   | cons x r=>rw [q] at h4;cases h4
  exact ⟨Y1h _,hd,[],.nil,o,es,ep,h1,h2,h3,h5,λ x hx=>(nomatch hx),.nil⟩
theorem VL {Q:XQ}(hu:A.units+1<cLine)(I:104)(g:DT H a kvs)(eb:SqT X.K H b (k.map kV))(l:qB kvs k=some v)(h:∀ w' s',Inv X pins σ H s'->RelV v w'->Q w' s') :
  wpAny 105 A (getItem (.ref a) (.ref b)) Q E s:=by
 obtain ⟨z,hd,xs,rel,dd⟩:=YL I.hok g;obtain ⟨w',hw,rw'⟩:=RelO.some_of (v:=v) (o:=(atKey xs k).map (·.2)) (by rw [<- l];exact rel.val k);obtain ⟨p,hp,hp2⟩:=Y1i.mp hw;refine wpAny_getItem_heap (tupleKind_room_in1 hu) (YK I eb) dd hp ?_;rw [hp2];exact h w' _ (I.tok _) rw'
theorem z7g {Q:XQ}(hu:A.units+1<cLine)(I:104)(g:DT H a kvs)(eb:SqT X.K H b (k.map kV))(h:∀ s',Inv X pins σ H s'->Q (.bool (qB kvs k).isSome) s') :
  wpAny 105 A (compareOp .In (.ref b) (.ref a)) Q E s:=by
 obtain ⟨z,hd,xs,rel,dd⟩:=YL I.hok g;refine wpAny_in_heap (tupleKind_room_in1 hu) (YK I eb) hd dd ?_;have q:=(rel.val k).isSome_eq;rw [Y1z] at q;rw [<- q];exact h _ (I.tok _)
theorem UF {Q:XQ}(hu:A.units+1<cLine)(I:104)(g:DT H a kvs)(eb:SqT X.K H b (k.map kV))(h:∀ s',Inv X pins σ H s'->Q (.bool (!(qB kvs k).isSome)) s') :
  wpAny 105 A (compareOp .NotIn (.ref b) (.ref a)) Q E s:=by
 obtain ⟨z,hd,xs,rel,dd⟩:=YL I.hok g;refine wpAny_notIn_heap (tupleKind_room_in1 hu) (YK I eb) hd dd ?_;have q:=(rel.val k).isSome_eq;rw [Y1z] at q;rw [<- q];exact h _ (I.tok _)
end
end L2
namespace PI
open PySem L2
inductive D where
 | non | bl (b:Bool) | int (i:Int) | str (x:Str) | tup (xs:List D) | loc (n:Nat) | fl (xs:List D)
inductive O where
 | lst (xs:List D) | dK (kvs:List (Key×D)) | dT (kvs:List (List Key×D)) | obj (x:Str) (fs:108)
abbrev Hh:=List O
abbrev En:=List (Option D)
inductive Res (α:Type) where
 | ok (a:α) (h:Hh) | exc (c:Nat) (h:Hh) | no
noncomputable def Res.bind {α β:Type}(r:Res α)(f:α->Hh->Res β):Res β:=match r with
 | .ok a h=>f a h
 | .exc c h=>.exc c h
 | .no=>.no
@[simp] theorem bind_ok {α β:Type}{a:α}{h:Hh}{f:α->Hh->Res β}:(Res.ok a h).bind f=f a h:=rfl
@[simp] theorem bind_exc {α β:Type}{c:Nat}{h:Hh}{f:α->Hh->Res β}:(Res.exc c h:Res α).bind f=.exc c h:=rfl
@[simp] theorem bind_no {α β:Type}{f:α->Hh->Res β}:(Res.no:Res α).bind f=.no:=rfl
inductive RS where
 | nx (ρ:En) (h:Hh) | rt (d:D) (h:Hh) | bk (ρ:En) (h:Hh) | ct (ρ:En) (h:Hh) | ex (c:Nat) (ρ:En) (h:Hh) | no
inductive Tg where
 | one (i:Nat) (p:Pos) | tup (is:List (Nat×Pos)) (p:Pos)
inductive M0 where
 | pop
inductive M1 where
 | append | extend  | index
inductive F1 where
 | str | int | all | abs | any | sum
noncomputable def F1.name:F1->Str
 | .str=>"str" | .int=>"int" | .all=>"all" | .abs=>"abs" | .any=>"any" | .sum=>"sum"
inductive Cv where
 | tup (xs:XU) | int (i:Int) | fn (i:Nat) (x:Str) | oth
 deriving DecidableEq
inductive Cn where
 | int (i:Int) | str (x:Str) | tup (xs:XU) | dic (kvs:List (Str×Cv)) | exc (c:Nat) (ups:List Nat) | cls (i:Nat) | isc (x:Str) (ys:XU)
 deriving DecidableEq
set_option genInjectivity false
set_option genSizeOf false
mutual
inductive E where
 | non (p:Pos) | bl (b:Bool) (p:Pos) | int (i:Int) (p:Pos) | str (x:Str) (p:Pos)
 | var (i:Nat) (p:Pos)
 | bin (op:Operator) (a b:E) (p:Pos)
 | un (op:UnaryOp) (a:E) (p:Pos)
 | cmp (op:CmpOp) (a b:E) (p:Pos)
 | and (a b:E) (r:Es) (p:Pos)
 | or (a b:E) (r:Es) (p:Pos)
 | ite (c a b:E) (p:Pos)
 | call (f:Nat) (a:E) (r:Es) (p0 p:Pos)
 | len (a:E) (p0 p:Pos)
 | isi (T:Nat) (a:E) (p0 p1 p:Pos)
 | sub (a i:E) (p:Pos)
 | tup (es:Es) (p:Pos)
 | ofL (l:L)
 | tupL (l:L) (p0 p:Pos)
 | tupE (e:E) (p0 p:Pos)
 | dicP (e:E) (p0 p:Pos)
 | cut (a:E) (lo hi:Eo) (p2 p:Pos)
 | dic (p:Pos)
 | m0 (m:M0) (o:E) (p1 p:Pos)
 | m1 (m:M1) (o a:E) (p1 p:Pos)
 | c1 (f:F1) (a:E) (p0 p:Pos)
 | listR (e:E) (p0 p1 p2 p:Pos)
 | cmpN (neg:Bool) (a:E) (p1 p:Pos)
 | gcon (x:Str) (c:Cn) (p:Pos)
 | gsub (x:Str) (kvs:List (Str×Cv)) (i:E) (p0 p:Pos)
inductive Es where
 | nil | cons (e:E) (r:Es)
inductive Eo where
 | none | some (e:E)
inductive L where
 | disp (es:Es) (p:Pos)
 | comp (elt:E) (t:Tg) (it:I) (c:Es) (NC:XU) (cap:List (Option Nat)) (sc:Scope) (p:Pos)
inductive I where
 | seq (e:E) | lst (l:L) | rng (a:E) (p0 p:Pos) | rngD (a b c:E) (p0 p:Pos)
end
structure Rp where
 c:Str
 d:Str
 pa:Pos
 pc:Pos
 pd:Pos
 p:Pos
noncomputable def Rp.py (e:Expr)(r:Rp):Expr:=.Call (.Attribute e "replace" r.pa) [.Constant (.str r.c) 0 r.pc,.Constant (.str r.d) 0 r.pd] [] r.p
inductive Fp where
 | c (x:Str) (p:Pos)
 | r (i:Nat) (p0 p:Pos)
 | v (i:Nat) (p0 p:Pos)
noncomputable def Fp.py (N:XU):Fp->Expr
 | .c x p=>.Constant (.str x) 0 p
 | .r i p0 p=>.FormattedValue (.Name (N.getD i "") p0) 114 none p
 | .v i p0 p=>.FormattedValue (.Name (N.getD i "") p0) (-1) none p
noncomputable def Fp.fine (ρ:En):Fp->Bool
 | .c x _=>decide (x.length<=1000)
 | .r i _ _=>match ρ[i]? with | some (some (.str z))=>decide (z.length<=1000)&&PyData.strOk z | _=>false
 | .v i _ _=>match ρ[i]? with | some (some (.str z))=>decide (z.length<=1000) | _=>false
inductive Ms where
 | s (x:Str) (p:Pos)
 | f (a b:Fp) (r:List Fp) (p:Pos)
noncomputable def Ms.py (N:XU):Ms->Expr
 | .s x p=>.Constant (.str x) 0 p
 | .f a b r p=>.JoinedStr (a.py N::b.py N::r.map (Fp.py N)) p
noncomputable def Ms.fine (ρ:En):Ms->Bool
 | .s _ _=>true
 | .f a b r _=>a.fine ρ&&b.fine ρ&&r.all (λ q=>q.fine ρ)&&decide (r.length<=10)
structure Xt where
 neg:Bool
 x:Str
 d:Option Nat
 pe:Pos
 p0:Pos
 p1:Pos
 p:Pos
 pn:Pos
noncomputable def Xt.call (e:Str)(t:Xt):Expr:=.Call (.Name "isinstance" t.p0) [.Name e t.pe,.Name t.x t.p1] [] t.p
noncomputable def Xt.py (e:Str)(t:Xt):Expr:=match t.neg with
 | true=>.UnaryOp .Not (t.call e) t.pn
 | false=>t.call e
noncomputable def Xt.is (u:List Nat)(t:Xt):Bool:=match t.d with
 | some d=>u.contains d
 | none=>true
noncomputable def Xt.val (u:List Nat)(t:Xt):Bool:=match t.neg with
 | true=>!(t.is u)
 | false=>t.is u
inductive Xv where
 | and (a b:Xt) (r:List Xt) (p:Pos) | lst (ts:List Xt) (p:Pos) | one (t:Xt)
noncomputable def Xv.py (e:Str):Xv->Expr
 | .and a b r p=>.BoolOp .And (a.py e::b.py e::r.map (Xt.py e)) p
 | .lst ts p=>.List (ts.map (Xt.py e)) p
 | .one t=>t.py e
mutual
inductive S where
 | set (i:Nat) (e:E) (p1 p:Pos)
 | ret (e:E) (p:Pos)
 | iff (c:E) (a b:Ss) (p:Pos)
 | ex (e:E) (p:Pos)
 | put (o i v:E) (p1 p:Pos)
 | forr (t:Tg) (it:I) (b:Ss) (p:Pos)
 | whil (c:E) (b:Ss) (p:Pos)
 | setT (is:List (Nat×Pos)) (e:E) (p1 p:Pos)
 | iffN (a:E) (i:Nat) (pv p1:Pos) (x y:Ss) (p:Pos)
 | rais (x:Str) (c:Nat) (ups:List Nat) (m:Ms) (p0 p1 p:Pos)
 | tryA (b:Ss) (x:Str) (D:Nat) (ups:List Nat) (cs:List (Str×Nat×List Nat)) (j i:Nat) (v:Xv) (p0 p1 p3 p4 p:Pos)
inductive Ss where
 | nil | cons (s:S) (r:Ss)
end
set_option genInjectivity true
set_option genSizeOf true
structure Nm where
 N:List Str
 F:List Str
 G:List (Str×Cn):=[]
noncomputable def yg:Nat->Str
 | 0=>"int" | 1=>"bool" | 2=>"str" | 3=>"tuple" | _=>"list"
noncomputable def UG:Nat->String
 | 0=>"int" | 1=>"bool" | 2=>"str" | 3=>"tuple" | _=>"list"
noncomputable def Tg.py (N:XU):Tg->Expr
 | .one i p=>.Name (N.getD i "") p
 | .tup is p=>.Tuple (is.map λ q=>.Name (N.getD q.1 "") q.2) 0 p
mutual
noncomputable def E.py (n:Nm):E->Expr
 | .non p=>.Constant .none 0 p
 | .bl b p=>.Constant (.bool b) 0 p
 | .int i p=>.Constant (.int i) 0 p
 | .str x p=>.Constant (.str x) 0 p
 | .var i p=>.Name (n.N.getD i "") p
 | .bin op a b p=>.BinOp (a.py n) op (b.py n) p
 | .un op a p=>.UnaryOp op (a.py n) p
 | .cmp op a b p=>.Compare (a.py n) [op] [b.py n] p
 | .and a b r p=>.BoolOp .And (a.py n::b.py n::r.py n) p
 | .or a b r p=>.BoolOp .Or (a.py n::b.py n::r.py n) p
 | .ite c a b p=>.IfExp (c.py n) (a.py n) (b.py n) p
 | .call f a r p0 p=>.Call (.Name (n.F.getD f "") p0) (a.py n::r.py n) [] p
 | .len a p0 p=>.Call (.Name "len" p0) [a.py n] [] p
 | .isi T a p0 p1 p=>.Call (.Name "isinstance" p0) [a.py n,.Name (yg T) p1] [] p
 | .sub a i p=>.Subscript (a.py n) (i.py n) p
 | .tup es p=>.Tuple (es.py n) 0 p
 | .ofL l=>l.py n
 | .tupL l p0 p=>.Call (.Name "tuple" p0) [l.py n] [] p
 | .tupE e p0 p=>.Call (.Name "tuple" p0) [e.py n] [] p
 | .dicP e p0 p=>.Call (.Name "dict" p0) [e.py n] [] p
 | .cut a lo hi p2 p=>.Subscript (a.py n) (.Slice (lo.py n) (hi.py n) .none p2) p
 | .dic p=>.Dict [] [] p
 | .m0 m o p1 p=>.Call (.Attribute (o.py n) (match m with | .pop=>"pop") p1) [] [] p
 | .m1 m o a p1 p=>.Call (.Attribute (o.py n) (match m with | .append=>"append" | .extend=>"extend" | .index=>"index") p1) [a.py n] [] p
 | .c1 f a p0 p=>.Call (.Name f.name p0) [a.py n] [] p
 | .cmpN neg a p1 p=>.Compare (a.py n) [if neg then .NotEq else .Eq] [.List [] p1] p
 | .listR e p0 p1 p2 p=>.Call (.Name "list" p0) [.Call (.Name "reversed" p1) [e.py n] [] p2] [] p
 | .gcon x _ p=>.Name x p
 | .gsub x _ i p0 p=>.Subscript (.Name x p0) (i.py n) p
noncomputable def Eo.py (n:Nm):Eo->Option Expr
 | .none=>.none
 | .some e=>.some (e.py n)
noncomputable def L.py (n:Nm):L->Expr
 | .disp es p=>.List (es.py n) p
 | .comp elt t it c NC cap sc p=>.ListComp (elt.py ⟨NC,n.F,n.G⟩) [⟨t.py NC,it.py n,c.py ⟨NC,n.F,n.G⟩,0⟩] sc p
noncomputable def I.py (n:Nm):I->Expr
 | .seq e=>e.py n
 | .lst l=>l.py n
 | .rng a p0 p=>.Call (.Name "range" p0) [a.py n] [] p
 | .rngD a b c p0 p=>.Call (.Name "range" p0) [a.py n,b.py n,c.py n] [] p
noncomputable def Es.py (n:Nm):Es->List Expr
 | .nil=>[]
 | .cons e r=>e.py n::r.py n
end
mutual
noncomputable def S.py (n:Nm):S->Stmt
 | .set i e p1 p=>.Assign [.Name (n.N.getD i "") p1] (e.py n) p
 | .ret e p=>.Return (some (e.py n)) p
 | .iff c a b p=>.If (c.py n) (a.py n) (b.py n) p
 | .ex e p=>.Expr (e.py n) p
 | .put o i v p1 p=>.Assign [.Subscript (o.py n) (i.py n) p1] (v.py n) p
 | .forr t it b p=>.For (t.py n.N) (it.py n) (b.py n) [] p
 | .whil c b p=>.While (c.py n) (b.py n) [] p
 | .setT is e p1 p=>.Assign [(Tg.tup is p1).py n.N] (e.py n) p
 | .iffN a i pv p1 x y p=>.If (.BoolOp .And [a.py n,.Name (n.N.getD i "") pv] p1) (x.py n) (y.py n) p
 | .rais x _ _ m p0 p1 p=>.Raise (some (.Call (.Name x p0) [m.py n.N] [] p1)) none p
 | .tryA b x _ _ _ j i v p0 p1 p3 p4 p=>.Try (b.py n) [.ExceptHandler (some (.Name x p0)) (some (n.N.getD j "")) [.Assign [.Name (n.N.getD i "") p1] (v.py (n.N.getD j "")) p3] p4] [] [] p
noncomputable def Ss.py (n:Nm):Ss->List Stmt
 | .nil=>[]
 | .cons s r=>s.py n::r.py n
end
mutual
noncomputable def D.pd (h:Hh):D->Option PyData
 | .non=>some .none
 | .bl b=>some (.bool b)
 | .int i=>some (.int i)
 | .str x=>some (.str x)
 | .tup xs=>(D.pds h xs).map .tuple
 | .loc _=>none
 | .fl xs=>(D.pds h xs).map .list
noncomputable def D.pds (h:Hh):List D->Option (List PyData)
 | []=>some []
 | x::r=>match D.pd h x,D.pds h r with
  | some a,some b=>some (a::b)
  | _,_=>none
end
noncomputable def jZ:D->Option Key
 | .int i=>some (.inl i)
 | .str x=>some (.inr x)
 | _=>none
noncomputable def QO:List D->Option (List Key)
 | []=>some []
 | d::r=>match jZ d,QO r with
  | some k,some ks=>some (k::ks)
  | _,_=>none
noncomputable def Zd:D->Option (List Key)
 | .tup ds=>QO ds
 | _=>none
noncomputable def wv {κ:Type}[DecidableEq κ](kvs:List (κ×D))(k:κ):Option D:=(kvs.find? λ kv=>decide (kv.1=k)).map (·.2)
noncomputable def rd (h:Hh)(n:Nat):Option (List D):=match h[n]? with
 | some (.lst xs)=>some xs
 | _=>none
noncomputable def pdT (h:Hh):D->Option PyData
 | .loc n=>(rd h n).bind λ xs=>(D.pds h xs).map .list
 | d=>D.pd h d
noncomputable def isI (h:Hh):D->Nat->Option Bool
 | .non,_=>some false
 | .bl _,T=>some (T==0||T==1)
 | .int _,T=>some (T==0)
 | .str _,T=>some (T==2)
 | .tup _,T=>some (T==3)
 | .loc n,T=>(rd h n).map λ _=>T==4
 | .fl _,T=>some (T==4)
noncomputable def jR (i:Int):Bool:=decide (Builtin.Int.intBits i<=2 ^ 20)
noncomputable def eqR (neg:Bool)(u v:Option PyData)(h:Hh):Res D:=match u,v with
 | some u,some v=>if u.canLay0=true/\v.canLay0=true/\u.depth<=60 then .ok (.bl (if neg then !PyData.eqv u v else PyData.eqv u v)) h else .no
 | _,_=>.no
noncomputable def i2 (a b:D)(f:Int->Int->Res D):Res D:=match a,b with
 | .int i,.int j=>f i j
 | _,_=>.no
noncomputable def z7h (a b:D)(h:Hh):Res D:=match a,b with
 | .int i,.int j=>.ok (.int (i+j)) h
 | .str x,.str y=>if x.length+y.length<=1000000 then .ok (.str (x++y)) h else .no
 | .loc n,.loc m=>match h[n]?,h[m]? with
  | some (.lst xs),some (.lst ys)=>if xs.length+ys.length<=1000000 then .ok 115 (h++[.lst (xs++ys)]) else .no
  | _,_=>.no
 | .tup xs,.tup ys=>if xs.length+ys.length<=1000000 then .ok (.tup (xs++ys)) h else .no
 | _,_=>.no
noncomputable def z0n (a b:D)(h:Hh):Res D:=match b with
 | .int j=>match a with
  | .int i=>if jR i=true/\jR j=true then .ok (.int (i*j)) h else .no
  | .str x=>if 0<=j/\j<=1000/\x.length<=1000 then .ok (.str (Txt.mul x j)) h else .no
  | .loc n=>match h[n]? with
   | some (.lst xs)=>if 0<=j/\j<=1000/\xs.length<=1000 then .ok 115 (h++[.lst (List.replicate j.toNat xs).flatten]) else .no
   | _=>.no
  | _=>.no
 | _=>.no
noncomputable def zw (op:Operator)(a b:D)(h:Hh):Res D:=match op with
 | .Add=>z7h a b h
 | .Mult=>z0n a b h
 | .Sub=>i2 a b λ i j=>.ok (.int (i-j)) h
 | .FloorDiv=>i2 a b λ i j=>if 0<j/\j<1267650600228229401496703205376 then .ok (.int (i/j)) h else .no
 | .Mod=>i2 a b λ i j=>if 0<j then .ok (.int (i%j)) h else .no
 | .Pow=>i2 a b λ i j=>if 0<=j/\j<=1000000/\i.natAbs<2 ^ 64 then .ok (.int (i ^ j.toNat)) h else .no
 | .LShift=>i2 a b λ i j=>if jR i=true/\0<=j/\j<=1000000 then .ok (.int (i*2 ^ j.toNat)) h else .no
 | .RShift=>i2 a b λ i j=>if 0<=j then .ok (.int (i/2 ^ j.toNat)) h else .no
 | .BitAnd=>i2 a b λ i j=>.ok (.int (Builtin.bitAnd i j)) h
 | .BitOr=>i2 a b λ i j=>.ok (.int (Builtin.bitOr i j)) h
 | _=>.no
noncomputable def vOf:D->V
 | .bl b=>.bl b
 | .int i=>.int i
 | .str x=>.str x
 | _=>.non
noncomputable def yp:D->Bool
 | .non | .bl _ | .int _ | .str _=>true
 | _=>false
noncomputable def ngB (neg b:Bool):Bool:=if neg then !b else b
@[simp] theorem ngB_f {b:Bool}:ngB false b=b:=rfl
@[simp] theorem ngB_t {b:Bool}:ngB true b=!b:=rfl
noncomputable def isN:D->Bool
 | .non=>true
 | _=>false
noncomputable def z2z:D->Bool
 | .tup _=>true
 | d=>yp d
noncomputable def QP (neg:Bool)(x:D)(ds:List D)(h:Hh):Res D:=if yp x=true/\ds.all yp=true then .ok (.bl (ngB neg (ds.any λ y=>eqV (vOf y) (vOf x)))) h else if neg=false/\isN x=true/\ds.all z2z=true then .ok (.bl (ds.any isN)) h else .no
noncomputable def inD (neg:Bool)(x y:D)(h:Hh):Res D:=match y with
 | .tup ds=>QP neg x ds h
 | .fl ds=>QP neg x ds h
 | .loc n=>match h[n]? with
  | some (.lst ds)=>QP neg x ds h
  | some (.dK kvs)=>(match jZ x with | some k=>.ok (.bl (ngB neg (wv kvs k).isSome)) h | none=>(match kvs with | []=>(match Zd x with | some _=>.ok (.bl (ngB neg false)) h | none=>.no) | _=>.no))
  | some (.dT kvs)=>(match Zd x with | some k=>.ok (.bl (ngB neg (wv kvs k).isSome)) h | none=>.no)
  | _=>.no
 | .str z=>(match x with | .str u=>.ok (.bl (ngB neg (!(Builtin.Str.occurrences z u 0 z.length 1).isEmpty))) h | _=>.no)
 | _=>.no
noncomputable def isV (neg:Bool)(a b:D)(h:Hh):Res D:=match b with
 | .non=>.ok (.bl (ngB neg (isN a))) h
 | .bl y=>match a with
  | .bl x=>.ok (.bl (ngB neg (x==y))) h
  | _=>.no
 | _=>.no
noncomputable def zy (op:CmpOp)(a b:D)(h:Hh):Res D:=match op with
 | .Lt=>i2 a b λ i j=>.ok (.bl (decide (i<j))) h
 | .LtE=>i2 a b λ i j=>.ok (.bl (decide (i<=j))) h
 | .Gt=>i2 a b λ i j=>.ok (.bl (decide (j<i))) h
 | .GtE=>i2 a b λ i j=>.ok (.bl (decide (j<=i))) h
 | .Eq=>eqR false (pdT h a) (pdT h b) h
 | .NotEq=>eqR true (pdT h a) (pdT h b) h
 | .In=>inD false a b h
 | .NotIn=>inD true a b h
 | .Is=>isV false a b h
 | .IsNot=>isV true a b h
noncomputable def unD (op:UnaryOp)(a:D)(h:Hh):Res D:=match op,a with
 | .Not,.bl b=>.ok (.bl (!b)) h
 | .Invert,.int i=>.ok (.int (Builtin.bitNot i)) h
 | .USub,.int i=>.ok (.int (-i)) h
 | _,_=>.no
noncomputable def yh (a:D)(h:Hh):Res D:=match a with
 | .tup xs=>.ok (.int xs.length) h
 | .loc n=>match rd h n with | some xs=>.ok (.int xs.length) h | none=>.no
 | .str x=>if x.length<=1000000 then .ok (.int x.length) h else .no
 | .fl xs=>.ok (.int xs.length) h
 | _=>.no
noncomputable def zC (a i:D)(h:Hh):Res D:=match a,i with
 | .tup xs,.int k=>match atI xs k with | some d=>.ok d h | none=>.no
 | .fl xs,.int k=>match atI xs k with | some d=>.ok d h | none=>.no
 | .str x,.int k=>if x.length<=1000000 then (match atI x.cps.toList k with | some c=>.ok (.str ⟨#[c]⟩) h | none=>.no) else .no
 | .loc n,y=>match h[n]? with
  | some (.dK kvs)=>match (jZ y).bind (λ k=>wv kvs k) with | some d=>.ok d h | none=>.no
  | some (.dT kvs)=>match (Zd y).bind (λ k=>wv kvs k) with | some d=>.ok d h | none=>.no
  | some (.lst xs)=>match y with
   | .int k=>match atI xs k with | some d=>.ok d h | none=>.no
   | _=>.no
  | _=>.no
 | _,_=>.no
noncomputable def new (o:O)(h:Hh):Res D:=.ok 115 (h++[o])
noncomputable def ZU {κ:Type}[DecidableEq κ](kvs:List (κ×D))(k:κ)(v:D):List (κ×D):=if (kvs.any λ kv=>decide (kv.1=k))=true then kvs.map (λ kv=>if kv.1=k then (kv.1,v) else kv) else kvs++[(k,v)]
noncomputable def onL (x:D)(h:Hh)(r:Res D):Res D:=match x with
 | .loc n=>match h[n]? with
  | some (.lst _)=>r
  | _=>.no
 | _=>.no
noncomputable def m0D (m:M0)(o:D)(h:Hh):Res D:=match o with
 | .loc n=>match h[n]? with
  | some (.lst xs)=>match m with
   | .pop=>match xs.getLast? with | some x=>.ok x (h.set n (.lst xs.dropLast)) | none=>.no
  | _=>.no
 | _=>.no
noncomputable def m1D (m:M1)(o a:D)(h:Hh):Res D:=match o with
 | .loc n=>match h[n]? with
  | some (.lst xs)=>match m with
   | .append=>if xs.length<1000000 then .ok .non (h.set n (.lst (xs++[a]))) else .no
   | .extend=>match a with
    | .loc m=>match h[m]? with
     | some (.lst ys)=>if xs.length+ys.length<=1000000 then .ok .non (h.set n (.lst (xs++ys))) else .no
     | _=>.no
    | .tup ys=>if xs.length+ys.length<=1000000 then .ok .non (h.set n (.lst (xs++ys))) else .no
    | _=>.no
   | .index=>if yp a=true/\xs.all yp=true/\xs.length<=1000000 then (match xs.findIdx? λ y=>eqV (vOf y) (vOf a) with | some j=>.ok (.int (j:Nat)) h | none=>.no) else .no
  | _=>.no
 | _=>.no
noncomputable def yq (o i v:D)(h:Hh):Option Hh:=match o with
 | .loc n=>match h[n]? with
  | some (.lst xs)=>match i with
   | .int k=>(ixN xs.length k).map λ j=>h.set n (.lst (xs.set j v))
   | _=>none
  | some (.dK kvs)=>(jZ i).bind λ k=>if kvs.length<1000000 then some (h.set n (.dK (ZU kvs k v))) else none
  | _=>none
 | _=>none
noncomputable def jI (xs:List D)(lo hi:Option Int):List D:=(xs.drop (HT.sIx xs.length 0 lo)).take (HT.sIx xs.length xs.length hi-HT.sIx xs.length 0 lo)
noncomputable def j4 (a:D)(lo hi:Option Int)(h:Hh):Res D:=match a with
 | .loc n=>match rd h n with
  | some xs=>new (.lst (jI xs lo hi)) h
  | none=>.no
 | .fl xs=>new (.lst (jI xs lo hi)) h
 | .str x=>if x.length<=1000000 then .ok (.str (Txt.slice x lo hi)) h else .no
 | .tup xs=>if HT.sIx xs.length 0 lo=0/\HT.sIx xs.length xs.length hi=xs.length then .ok (.tup xs) h else .ok (.tup (jI xs lo hi)) h
 | _=>.no
noncomputable def z7i (d:D)(h:Hh):Res (Option Int):=match d with | .int i=>.ok (some i) h | _=>.no
noncomputable def jk (d:D)(h:Hh):Option (List D):=match d with
 | .tup xs=>some xs
 | .fl xs=>some xs
 | .loc n=>rd h n
 | _=>none
abbrev Ck:=List (Nat×List D)
noncomputable def stay (c:Ck)(h:Hh):Prop:=∀ p∈c,rd h p.1=some p.2
noncomputable def jC (t:Tg)(d:D)(ρ:En):Option En:=match t with
 | .one i _=>some (ρ.set i (some d))
 | .tup is _=>match d with
  | .tup xs=>if xs.length=is.length then some ((is.zip xs).foldl (λ ρ q=>ρ.set q.1.1 (some q.2)) ρ) else none
  | _=>none
noncomputable def qe (cap:List (Option Nat))(ρ:En):En:=cap.map λ o=>o.bind λ i=>(ρ[i]?).bind id
noncomputable def zT (t:Tg)(ρ:En)(c:En->Hh->Res Bool)(e:En->Hh->Res D)(x:D)(h:Hh):Res (Option D):=match jC t x ρ with
 | some ρ'=>(c ρ' h).bind λ b h1=>if b then (e ρ' h1).bind λ d h2=>.ok (some d) h2 else .ok none h1
 | none=>.no
noncomputable def zU (t:Tg)(b:En->Hh->RS)(x:D)(ρ:En)(h:Hh):RS:=match jC t x ρ with
 | some ρ'=>b ρ' h
 | none=>.no
noncomputable def Oe (acc:List D):Option D->List D
 | some d=>acc++[d]
 | none=>acc
@[simp] theorem addO_some {acc:List D}{d:D}:Oe acc (some d)=acc++[d]:=rfl
@[simp] theorem addO_none {acc:List D}:Oe acc none=acc:=rfl
open Classical in
noncomputable def zE (c:Ck)(f:D->Hh->Res (Option D)):List D->List D->Hh->Res (List D)
 | [],acc,h=>if stay c h then .ok acc h else .no
 | x::r,acc,h=>if stay c h then (f x h).bind λ o h'=>zE c f r (Oe acc o) h' else .no
open Classical in
noncomputable def jg (c:Ck)(f:D->En->Hh->RS):List D->En->Hh->RS
 | [],ρ,h=>if stay c h then .nx ρ h else .no
 | x::r,ρ,h=>if stay c h then (match f x ρ h with
   | .nx ρ' h'=>jg c f r ρ' h'
   | .ct ρ' h'=>jg c f r ρ' h'
   | .bk ρ' h'=>.nx ρ' h'
   | o=>o) else .no
noncomputable def whL (c:En->Hh->Res Bool)(b:En->Hh->RS):Nat->En->Hh->RS
 | 0,_,_=>.no
 | n+1,ρ,h=>match c ρ h with
  | .ok true h1=>(match b ρ h1 with
   | .nx ρ' h'=>whL c b n ρ' h'
   | .ct ρ' h'=>whL c b n ρ' h'
   | .bk ρ' h'=>.nx ρ' h'
   | o=>o)
  | .ok false h1=>.nx ρ h1
  | .exc k h1=>.ex k ρ h1
  | .no=>.no
theorem ZV {c:En->Hh->Res Bool}{b:En->Hh->RS}:∀ (n:Nat) (ρ:En) (h:Hh),whL c b n ρ h≠.no->whL c b (n+1) ρ h=whL c b n ρ h
 | 0,ρ,h,z=>absurd rfl z
 | n+1,ρ,h,z=>by
  rw [whL] at z ⊢;rw [whL];cases ec:c ρ h with
  | ok t h1 =>
   cases t with
   | true =>
    rw [ec] at z;simp only at z ⊢;cases eb:b ρ h1 with
    | nx ρ' h'=>rw [eb] at z;exact ZV n ρ' h' z
    | ct ρ' h'=>rw [eb] at z;exact ZV n ρ' h' z
    | _=>rfl
   | false=>rfl
  | _=>rfl
theorem Of {c:En->Hh->Res Bool}{b:En->Hh->RS}{n m:Nat}{ρ:En}{h:Hh}(hl:n<=m)(z:whL c b n ρ h≠.no):whL c b m ρ h=whL c b n ρ h:=by
 induction hl with
 | refl=>rfl
 | step _ ih=>rw [ZV _ _ _ (by rw [ih];exact z),ih]
open Classical in
noncomputable def whR (c:En->Hh->Res Bool)(b:En->Hh->RS)(ρ:En)(h:Hh):RS:=if e:∃ n,whL c b n ρ h≠.no then whL c b (Classical.choose e) ρ h else .no
theorem WG {c:En->Hh->Res Bool}{b:En->Hh->RS}{n:Nat}{ρ:En}{h:Hh}{r:RS}(e:whL c b n ρ h=r)(z:r≠.no):whR c b ρ h=r:=by
 have ex:∃ n,whL c b n ρ h≠.no:=⟨n,by rw [e];exact z⟩;unfold whR;rw [dif_pos ex];have z2:=Classical.choose_spec ex;rw [<- Of (Nat.le_max_left (Classical.choose ex) n) z2,Of (Nat.le_max_right (Classical.choose ex) n) (by rw [e];exact z),e]
theorem WH {c:En->Hh->Res Bool}{b:En->Hh->RS}{ρ:En}{h:Hh}(z:whR c b ρ h≠.no):∃ n,whL c b n ρ h=whR c b ρ h:=by
 unfold whR at z ⊢;split at z
 ·rename_i e;exact ⟨_,by rw [dif_pos e]⟩
 ·exact absurd rfl z
theorem QQ {c:En->Hh->Res Bool}{b:En->Hh->RS}{ρ ρ':En}{h h1 h':Hh}(ec:c ρ h=.ok true h1)(eb:b ρ h1=.nx ρ' h'):whR c b ρ h=whR c b ρ' h':=by
 by_cases z:whR c b ρ' h'=.no
 ·by_cases z2:whR c b ρ h=.no
  ·rw [z,z2]
  ·obtain ⟨n,e⟩:=WH z2;cases n with
   | zero=>rw [<- e] at z2;exact absurd rfl z2
   | succ n =>
    rw [whL,ec] at e;simp only [eb] at e;rw [<- WG e z2]
 ·obtain ⟨n,e⟩:=WH z;exact WG (n:=n+1) (by rw [whL,ec];simp only [eb];exact e) z
theorem QR {c:En->Hh->Res Bool}{b:En->Hh->RS}{ρ:En}{h h1:Hh}(ec:c ρ h=.ok false h1):whR c b ρ h=.nx ρ h1 :=
 WG (n:=1) (by rw [whL,ec]) 110
noncomputable def tru (d:D)(h:Hh)(f:Bool->Hh->Res D):Res D:=match d with
 | .bl b=>f b h
 | _=>.no
noncomputable def QS:List D->Option (List Bool)
 | []=>some []
 | .bl b::r=>(QS r).map (b::·)
 | _::_=>none
noncomputable def qH:List D->Option (List Int)
 | []=>some []
 | .int x::r=>(qH r).map (x::·)
 | _::_=>none
noncomputable def c1D (f:F1)(a:D)(h:Hh):Res D:=match f,a with
 | .str,.int i=>if i.natAbs.log2<1920 then .ok (.str (toString i)) h else .no
 | .str,.str x=>.ok (.str x) h
 | .int,.int i=>.ok (.int i) h
 | .int,.bl b=>.ok (.int (if b then 1 else 0)) h
 | .int,.str x=>(match PySem.intText? x with | some n=>if x.length<=640 then .ok (.int n) h else .no | none=>.no)
 | .all,.loc n=>(match (rd h n).bind QS with | some bs=>.ok (.bl (bs.all id)) h | none=>.no)
 | .abs,.int i=>.ok (.int (if i<0 then -i else i)) h
 | .any,.loc n=>(match (rd h n).bind QS with | some bs=>.ok (.bl (bs.any id)) h | none=>.no)
 | .sum,.loc n=>(match (rd h n).bind qH with | some is=>.ok (.int is.sum) h | none=>.no)
 | _,_=>.no
noncomputable def z9p {α:Type}(f:Str)(v:α):List (Str×α)->List (Str×α)
 | []=>[(f,v)]
 | (g,x)::r=>if g=f then (g,v)::r else (g,x)::z9p f v r
noncomputable def ZW (neg:Bool)(x:D)(h:Hh):Res D:=match x with
 | .fl xs=>.ok (.bl (ngB neg xs.isEmpty)) h
 | .loc n=>(match rd h n with | some xs=>.ok (.bl (ngB neg xs.isEmpty)) h | none=>.no)
 | _=>.no
noncomputable def lrD (x:D)(h:Hh):Res D:=match x with
 | .fl xs=>new (.lst xs.reverse) h
 | .loc n=>(match rd h n with | some xs=>new (.lst xs.reverse) h | none=>.no)
 | _=>.no
noncomputable def rngD (x y:D)(h:Hh):Res (Ck×List D):=match x,y with
 | .int i,.int j=>if -1000000<=i/\i<=1000000/\-1000000<=j/\j<=1000000 then .ok ([],(List.range (j-i).toNat).map λ k=>.int (i+(k:Nat))) h else .no
 | _,_=>.no
noncomputable def Cv.d:Cv->D
 | .tup xs=>.tup (xs.map .str)
 | .int i=>.int i
 | .fn _ _=>.non
 | .oth=>.non
noncomputable def Cv.isFn:Cv->Bool
 | .fn _ _=>true
 | .oth=>true
 | _=>false
noncomputable def z0o (kvs:List (Str×Cv))(y:D)(h:Hh):Res D:=match y with
 | .str k=>(match kvs.lookup k with | some c=>if c.isFn then .no else .ok c.d h | none=>.no)
 | _=>.no
noncomputable def fnOf (kvs:List (Str×Cv))(y:D):Option Nat:=match y with
 | .str k=>(match kvs.lookup k with | some (.fn i _)=>some i | _=>none)
 | _=>none
noncomputable def Og:D->Option (Key×D)
 | .tup [k,v]=>(jZ k).map λ q=>(q,v)
 | _=>none
noncomputable def qf:List D->Option (List (Key×D))
 | []=>some []
 | x::r=>match Og x,qf r with
  | some a,some b=>some (a::b)
  | _,_=>none
noncomputable def yP (kvs more:List (Key×D)):List (Key×D):=more.foldl (λ acc kv=>ZU acc kv.1 kv.2) kvs
noncomputable def QT (x:D)(h:Hh):Res D:=match x with
 | .loc n=>(match rd h n with
  | some xs=>if xs.length<=1000000 then (match qf xs with | some kvs=>new (.dK (yP [] kvs)) h | none=>.no) else .no
  | none=>.no)
 | _=>.no
noncomputable def yQ (d:D)(h:Hh):D:=match d with
 | .loc n=>(match rd h n with | some xs=>.tup xs | none=>.non)
 | d=>d
@[simp] theorem unpD_tup {xs:List D}{h:Hh}:yQ (.tup xs) h=.tup xs:=rfl
noncomputable def UH (x y z:D)(h:Hh):Res (Ck×List D):=match x with
 | .int i=>(match y with
  | .int j=>(match z with
   | .int k=>if k=-1/\-1000000<=i/\i<=1000000/\-1000000<=j/\j<=1000000 then .ok ([],(List.range (i-j).toNat).map λ k=>.int (i-(k:Nat))) h else .no
   | _=>.no)
  | _=>.no)
 | _=>.no
noncomputable def Xv.run (u:List Nat)(h:Hh):Xv->D×Hh
 | .and a b r _=>(.bl (a.val u&&(b.val u&&r.all (Xt.val u))),h)
 | .lst ts _=>(.loc h.length,h++[.lst (ts.map λ t=>.bl (t.val u))])
 | .one t=>(.bl (t.val u),h)
noncomputable def VM (cs:List (Str×Nat×List Nat))(j i:Nat)(v:Xv)(c:Nat)(ρ:En)(h:Hh):RS:=match cs.find? (λ q=>q.2.1==c) with
 | some q=>if j<ρ.length then .nx ((ρ.set i (some (v.run q.2.2 h).1)).set j none) (v.run q.2.2 h).2 else .no
 | none=>.no
noncomputable section
variable (cl:101)
mutual
noncomputable def E.ev:E->En->Hh->Res D
 | .non _,_,h=>.ok .non h
 | .bl b _,_,h=>.ok (.bl b) h
 | .int i _,_,h=>.ok (.int i) h
 | .str x _,_,h=>.ok (.str x) h
 | .var i _,ρ,h=>match ρ[i]? with | some (some d)=>.ok d h | _=>.no
 | .bin op a b _,ρ,h=>(a.ev ρ h).bind λ x h1=>(b.ev ρ h1).bind λ y h2=>zw op x y h2
 | .un op a _,ρ,h=>(a.ev ρ h).bind λ x h1=>unD op x h1
 | .cmp op a b _,ρ,h=>(a.ev ρ h).bind λ x h1=>(b.ev ρ h1).bind λ y h2=>zy op x y h2
 | .and a b r _,ρ,h=>(a.ev ρ h).bind λ x h1=>tru x h1 λ c h1=>if c then (b.ev ρ h1).bind λ y h2=>r.evAnd ρ y h2 else .ok (.bl false) h1
 | .or a b r _,ρ,h=>(a.ev ρ h).bind λ x h1=>tru x h1 λ c h1=>if c then .ok (.bl true) h1 else (b.ev ρ h1).bind λ y h2=>r.evOr ρ y h2
 | .ite c a b _,ρ,h=>(c.ev ρ h).bind λ x h1=>tru x h1 λ t h1=>if t then a.ev ρ h1 else b.ev ρ h1
 | .call f a r _ _,ρ,h=>(a.ev ρ h).bind λ x h1=>(r.ev ρ h1).bind λ xs h2=>cl f (x::xs) h2
 | .len a _ _,ρ,h=>(a.ev ρ h).bind λ x h1=>yh x h1
 | .isi T a _ _ _,ρ,h=>(a.ev ρ h).bind λ x h1=>match isI h1 x T with | some b=>.ok (.bl b) h1 | none=>.no
 | .sub a i _,ρ,h=>(a.ev ρ h).bind λ x h1=>(i.ev ρ h1).bind λ y h2=>zC x y h2
 | .tup es _,ρ,h=>(es.ev ρ h).bind λ xs h1=>if xs.length<=1000 then .ok (.tup xs) h1 else .no
 | .ofL l,ρ,h=>(l.ev ρ h).bind λ xs h1=>new (.lst xs) h1
 | .tupL l _ _,ρ,h=>(l.ev ρ h).bind λ xs h1=>.ok (.tup xs) h1
 | .tupE e _ _,ρ,h=>(e.ev ρ h).bind λ x h1=>match jk x h1 with | some xs=>.ok (.tup xs) h1 | none=>.no
 | .dicP e _ _,ρ,h=>(e.ev ρ h).bind λ x h1=>QT x h1
 | .cut a lo hi _ _,ρ,h=>(a.ev ρ h).bind λ x h1=>(lo.ev ρ h1).bind λ l h2=>(hi.ev ρ h2).bind λ u h3=>j4 x l u h3
 | .dic _,_,h=>new (.dK []) h
 | .m0 m o _ _,ρ,h=>(o.ev ρ h).bind λ x h1=>m0D m x h1
 | .m1 m o a _ _,ρ,h=>(o.ev ρ h).bind λ x h1=>onL x h1 ((a.ev ρ h1).bind λ y h2=>m1D m x y h2)
 | .c1 f a _ _,ρ,h=>(a.ev ρ h).bind λ x h1=>c1D f x h1
 | .cmpN neg a _ _,ρ,h=>(a.ev ρ h).bind λ x h1=>ZW neg x h1
 | .listR e _ _ _ _,ρ,h=>(e.ev ρ h).bind λ x h1=>lrD x h1
 | .gcon _ c _,_,h=>match c with | .int i=>.ok (.int i) h | .str x=>.ok (.str x) h | .tup xs=>.ok (.tup (xs.map .str)) h | .dic _=>.no | .exc _ _=>.no | .cls _=>.no | .isc _ _=>.no
 | .gsub _ kvs i _ _,ρ,h=>(i.ev ρ h).bind λ y h1=>z0o kvs y h1
noncomputable def Eo.ev:Eo->En->Hh->Res (Option Int)
 | .none,_,h=>.ok none h
 | .some e,ρ,h=>(e.ev ρ h).bind λ d h1=>z7i d h1
noncomputable def L.ev:L->En->Hh->Res (List D)
 | .disp es _,ρ,h=>(es.ev ρ h).bind λ xs h1=>if xs.length<=1000 then .ok xs h1 else .no
 | .comp elt t it c _ cap _ _,ρ,h=>(it.ev ρ h).bind λ q h1=>if q.2.length<=1000000 then zE q.1 (zT t (qe cap ρ) (λ ρ' h2=>c.evC ρ' h2) (λ ρ' h2=>elt.ev ρ' h2)) q.2 [] h1 else .no
noncomputable def I.ev:I->En->Hh->Res (Ck×List D)
 | .seq e,ρ,h=>(e.ev ρ h).bind λ x h1=>match x with
  | .tup xs=>.ok ([],xs) h1
  | .fl xs=>.ok ([],xs) h1
  | .loc n=>match rd h1 n with | some xs=>.ok ([(n,xs)],xs) h1 | none=>.no
  | .str x=>.ok ([],x.cps.toList.map λ c=>.str ⟨#[c]⟩) h1
  | _=>.no
 | .lst l,ρ,h=>(l.ev ρ h).bind λ xs h1=>.ok ([],xs) h1
 | .rng a _ _,ρ,h=>(a.ev ρ h).bind λ x h1=>match x with
  | .int j=>if -1000000<=j/\j<=1000000 then .ok ([],(List.range j.toNat).map λ k=>.int (k:Nat)) h1 else .no
  | _=>.no
 | .rngD a b c _ _,ρ,h=>(a.ev ρ h).bind λ x h1=>(b.ev ρ h1).bind λ y h2=>(c.ev ρ h2).bind λ z h3=>UH x y z h3
noncomputable def Es.evC:Es->En->Hh->Res Bool
 | .nil,_,h=>.ok true h
 | .cons e _,ρ,h=>(e.ev ρ h).bind λ d h1=>match d with | .bl b=>.ok b h1 | _=>.no
noncomputable def Es.ev:Es->En->Hh->Res (List D)
 | .nil,_,h=>.ok [] h
 | .cons e r,ρ,h=>(e.ev ρ h).bind λ x h1=>(r.ev ρ h1).bind λ xs h2=>.ok (x::xs) h2
noncomputable def Es.evAnd:Es->En->D->Hh->Res D
 | .nil,_,x,h=>.ok x h
 | .cons e r,ρ,x,h=>tru x h λ c h1=>if c then (e.ev ρ h1).bind λ y h2=>r.evAnd ρ y h2 else .ok (.bl false) h1
noncomputable def Es.evOr:Es->En->D->Hh->Res D
 | .nil,_,x,h=>.ok x h
 | .cons e r,ρ,x,h=>tru x h λ c h1=>if c then .ok (.bl true) h1 else (e.ev ρ h1).bind λ y h2=>r.evOr ρ y h2
end
noncomputable def E.evT (e:E)(ρ:En)(h:Hh):Res Bool:=(e.ev cl ρ h).bind λ d h1=>match d with | .bl b=>.ok b h1 | _=>.no
noncomputable def jm {α:Type}(ρ:En)(r:Res α)(f:α->Hh->RS):RS:=match r with
 | .ok a h=>f a h
 | .exc c h=>.ex c ρ h
 | .no=>.no
@[simp] theorem andS_ok {α:Type}{ρ:En}{a:α}{h:Hh}{f:α->Hh->RS}:jm ρ (.ok a h) f=f a h:=rfl
@[simp] theorem andS_exc {α:Type}{ρ:En}{c:Nat}{h:Hh}{f:α->Hh->RS}:jm ρ (.exc c h) f=.ex c ρ h:=rfl
noncomputable def j8 (o:RS)(f:En->Hh->RS):RS:=match o with
 | .nx ρ h=>f ρ h
 | o=>o
@[simp] theorem seqS_nx {ρ:En}{h:Hh}{f:En->Hh->RS}:j8 (.nx ρ h) f=f ρ h:=rfl
@[simp] theorem seqS_rt {d:D}{h:Hh}{f:En->Hh->RS}:j8 (.rt d h) f=.rt d h:=rfl
@[simp] theorem seqS_bk {ρ:En}{h:Hh}{f:En->Hh->RS}:j8 (.bk ρ h) f=.bk ρ h:=rfl
@[simp] theorem seqS_ct {ρ:En}{h:Hh}{f:En->Hh->RS}:j8 (.ct ρ h) f=.ct ρ h:=rfl
@[simp] theorem seqS_ex {c:Nat}{ρ:En}{h:Hh}{f:En->Hh->RS}:j8 (.ex c ρ h) f=.ex c ρ h:=rfl
mutual
noncomputable def S.run:S->En->Hh->RS
 | .set i e _ _,ρ,h=>jm ρ (e.ev cl ρ h) λ d h1=>.nx (ρ.set i (some d)) h1
 | .ret e _,ρ,h=>jm ρ (e.ev cl ρ h) λ d h1=>.rt d h1
 | .iff c a b _,ρ,h=>jm ρ (c.evT cl ρ h) λ t h1=>if t then a.run ρ h1 else b.run ρ h1
 | .ex e _,ρ,h=>jm ρ (e.ev cl ρ h) λ _ h1=>.nx ρ h1
 | .put o i v _ _,ρ,h=>jm ρ (v.ev cl ρ h) λ z h1=>jm ρ (o.ev cl ρ h1) λ x h2=>jm ρ (i.ev cl ρ h2) λ y h3=>match yq x y z h3 with | some h4=>.nx ρ h4 | none=>.no
 | .forr t it b _,ρ,h=>jm ρ (it.ev cl ρ h) λ q h1=>jg q.1 (zU t λ ρ' h'=>b.run ρ' h') q.2 ρ h1
 | .whil c b _,ρ,h=>whR (λ ρ' h'=>c.evT cl ρ' h') (λ ρ' h'=>b.run ρ' h') ρ h
 | .iffN a i _ _ x y _,ρ,h=>jm ρ (a.evT cl ρ h) λ c h1=>if c then (match ρ[i]? with | some (some (.bl c'))=>if c' then x.run ρ h1 else y.run ρ h1 | some (some .non)=>y.run ρ h1 | _=>.no) else y.run ρ h1
 | .rais _ c _ m _ _ _,ρ,h=>if m.fine ρ then .ex c ρ h else .no
 | .tryA b _ _ _ cs j i v _ _ _ _ _,ρ,h=>(match b.run ρ h with | .ex c ρ' h'=>VM cs j i v c ρ' h' | o=>o)
 | .setT is e p1 _,ρ,h=>jm ρ (e.ev cl ρ h) λ d h1=>match jC (.tup is p1) (yQ d h1) ρ with | some ρ'=>.nx ρ' h1 | none=>.no
noncomputable def Ss.run:Ss->En->Hh->RS
 | .nil,ρ,h=>.nx ρ h
 | .cons s r,ρ,h=>j8 (s.run ρ h) λ ρ' h'=>r.run ρ' h'
end
end
structure Df where
 name:Str
 ps:List Str
 N:List Str
 body:Ss
noncomputable def JF:RS->Res D
 | .rt v h'=>.ok v h'
 | .nx _ h'=>.ok .non h'
 | .ex c _ h'=>.exc c h'
 | _=>.no
noncomputable def Df.run (cl:101)(d:Df)(as:List D)(h:Hh):Res D :=
 JF (d.body.run cl (as.map some++List.replicate (d.N.length-as.length) none) h)
noncomputable def callI (ds:List Df):Nat->Nat->List D->Hh->Res D
 | 0,_,_,_=>.no
 | k+1,f,as,h=>match ds[f]? with
  | some d=>if as.length=d.ps.length then d.run (callI ds k) as h else .no
  | none=>.no
section
variable {i j:Int}{h:Hh}{x y:Str}{b c:Bool}{d e:D}{xs:List D}
@[simp] theorem bin_add:zw .Add (.int i) (.int j) h=.ok (.int (i+j)) h:=rfl
@[simp] theorem bin_sub:zw .Sub (.int i) (.int j) h=.ok (.int (i-j)) h:=rfl
@[simp] theorem bin_mul:zw .Mult (.int i) (.int j) h=if jR i=true/\jR j=true then .ok (.int (i*j)) h else .no:=rfl
@[simp] theorem bin_fdiv:zw .FloorDiv (.int i) (.int j) h=if 0<j/\j<1267650600228229401496703205376 then .ok (.int (i/j)) h else .no:=rfl
@[simp] theorem bin_mod:zw .Mod (.int i) (.int j) h=if 0<j then .ok (.int (i%j)) h else .no:=rfl
@[simp] theorem bin_pow:zw .Pow (.int i) (.int j) h=if 0<=j/\j<=1000000/\i.natAbs<2 ^ 64 then .ok (.int (i ^ j.toNat)) h else .no:=rfl
@[simp] theorem bin_shl:zw .LShift (.int i) (.int j) h=if jR i=true/\0<=j/\j<=1000000 then .ok (.int (i*2 ^ j.toNat)) h else .no:=rfl
@[simp] theorem bin_shr:zw .RShift (.int i) (.int j) h=if 0<=j then .ok (.int (i/2 ^ j.toNat)) h else .no:=rfl
@[simp] theorem bin_and:zw .BitAnd (.int i) (.int j) h=.ok (.int (Builtin.bitAnd i j)) h:=rfl
@[simp] theorem bin_or:zw .BitOr (.int i) (.int j) h=.ok (.int (Builtin.bitOr i j)) h:=rfl
@[simp] theorem bin_adds:zw .Add (.str x) (.str y) h=if x.length+y.length<=1000000 then .ok (.str (x++y)) h else .no:=rfl
@[simp] theorem cmp_lt:zy .Lt (.int i) (.int j) h=.ok (.bl (decide (i<j))) h:=rfl
@[simp] theorem cmp_le:zy .LtE (.int i) (.int j) h=.ok (.bl (decide (i<=j))) h:=rfl
@[simp] theorem cmp_gt:zy .Gt (.int i) (.int j) h=.ok (.bl (decide (j<i))) h:=rfl
@[simp] theorem cmp_ge:zy .GtE (.int i) (.int j) h=.ok (.bl (decide (j<=i))) h:=rfl
@[simp] theorem cmp_eq:zy .Eq d e h=eqR false (pdT h d) (pdT h e) h:=rfl
@[simp] theorem cmp_ne:zy .NotEq d e h=eqR true (pdT h d) (pdT h e) h:=rfl
@[simp] theorem cmp_in:zy .In d e h=inD false d e h:=rfl
@[simp] theorem cmp_notin:zy .NotIn d e h=inD true d e h:=rfl
@[simp] theorem cmp_isN:zy .Is d .non h=.ok (.bl (match d with | .non=>true | _=>false)) h:=by cases d<;>rfl
@[simp] theorem cmp_isnotN:zy .IsNot d .non h=.ok (.bl (match d with | .non=>false | _=>true)) h:=by cases d<;>rfl
@[simp] theorem cmp_is:zy .Is (.bl b) (.bl c) h=.ok (.bl (b==c)) h:=rfl
@[simp] theorem cmp_isnot:zy .IsNot (.bl b) (.bl c) h=.ok (.bl (!(b==c))) h:=rfl
@[simp] theorem eqR_some {neg:Bool}{u v:PyData}:eqR neg (some u) (some v) h=if u.canLay0=true/\v.canLay0=true/\u.depth<=60 then .ok (.bl (if neg then !PyData.eqv u v else PyData.eqv u v)) h else .no:=rfl
@[simp] theorem pdT_non:pdT h .non=some .none:=by unfold pdT D.pd;rfl
@[simp] theorem pdT_bl:pdT h (.bl b)=some (.bool b):=by unfold pdT D.pd;rfl
@[simp] theorem pdT_int:pdT h (.int i)=some (.int i):=by unfold pdT D.pd;rfl
@[simp] theorem pdT_str:pdT h (.str x)=some (.str x):=by unfold pdT D.pd;rfl
@[simp] theorem pdT_tup:pdT h (.tup xs)=(D.pds h xs).map .tuple:=by unfold pdT D.pd;rfl
@[simp] theorem pdT_loc {n:Nat}:pdT h (.loc n)=(rd h n).bind λ xs=>(D.pds h xs).map .list:=rfl
@[simp] theorem pds_nil:D.pds h []=some []:=by unfold D.pds;rfl
@[simp] theorem un_not:unD .Not (.bl b) h=.ok (.bl (!b)) h:=rfl
@[simp] theorem un_invert:unD .Invert (.int i) h=.ok (.int (Builtin.bitNot i)) h:=rfl
@[simp] theorem un_usub:unD .USub (.int i) h=.ok (.int (-i)) h:=rfl
@[simp] theorem pdT_fl:pdT h (.fl xs)=(D.pds h xs).map .list:=by unfold pdT D.pd;rfl
@[simp] theorem len_fl:yh (.fl xs) h=.ok (.int xs.length) h:=rfl
@[simp] theorem sub_fl:zC (.fl xs) (.int i) h=match atI xs i with | some d=>.ok d h | none=>.no:=rfl
@[simp] theorem len_tup:yh (.tup xs) h=.ok (.int xs.length) h:=rfl
@[simp] theorem len_loc {n:Nat}:yh (.loc n) h=match rd h n with | some xs=>.ok (.int xs.length) h | none=>.no:=rfl
@[simp] theorem len_str:yh (.str x) h=if x.length<=1000000 then .ok (.int x.length) h else .no:=rfl
@[simp] theorem sub_tup:zC (.tup xs) (.int i) h=match atI xs i with | some d=>.ok d h | none=>.no:=rfl
@[simp] theorem bin_muls:zw .Mult (.str x) (.int j) h=if 0<=j/\j<=1000/\x.length<=1000 then .ok (.str (Txt.mul x j)) h else .no:=rfl
@[simp] theorem bin_addt {ys:List D}:zw .Add (.tup xs) (.tup ys) h=if xs.length+ys.length<=1000000 then .ok (.tup (xs++ys)) h else .no:=rfl
@[simp] theorem bin_addl {n m:Nat}:zw .Add (.loc n) (.loc m) h=(match h[n]?,h[m]? with
  | some (.lst xs),some (.lst ys)=>if xs.length+ys.length<=1000000 then .ok 115 (h++[.lst (xs++ys)]) else .no
  | _,_=>.no):=rfl
theorem z0p:zC (.str x) (.int i) h=if x.length<=1000000 then (match atI x.cps.toList i with | some c=>.ok (.str ⟨#[c]⟩) h | none=>.no) else .no:=rfl
theorem z0q {n:Nat}{y:D}:zC (.loc n) y h=(match h[n]? with
  | some (.dK kvs)=>match (jZ y).bind (λ k=>wv kvs k) with | some d=>.ok d h | none=>.no
  | some (.dT kvs)=>match (Zd y).bind (λ k=>wv kvs k) with | some d=>.ok d h | none=>.no
  | some (.lst xs)=>match y with
   | .int k=>match atI xs k with | some d=>.ok d h | none=>.no
   | _=>.no
  | _=>.no):=rfl
@[simp] theorem tru_bl {f:Bool->Hh->Res D}:tru (.bl b) h f=f b h:=rfl
end
theorem z5 {ds:List Df}{k i:Nat}{d:Df}{as:List D}{h:Hh}(hd:ds[i]?=some d)(hl:as.length=d.ps.length):callI ds (k+1) i as h=d.run (callI ds k) as h:=by
 unfold callI;rw [hd];exact if_pos hl
theorem z9q {α:Type}{P:List α->Prop}(f:P [])(us:List α)(hl:us.length=0):P us:=by
 cases us with
 | nil=>exact f
 | cons=>cases hl
theorem YM {α:Type}{n:Nat}{P:List α->Prop}(f:∀ a us,us.length=n->P (a::us))(us:List α)(hl:us.length=n+1):P us:=by
 cases us with
 | nil=>cases hl
 | cons a r=>exact f a r (Nat.succ.inj hl)
theorem Zn {α:Type}{P:List α->Prop}(f:∀ a,P [a]):∀ us:List α,us.length=1->P us:=YM λ a=>z9q (P:=λ us=>P (a::us)) (f a)
theorem ZX {α:Type}{P:List α->Prop}(f:∀ a b,P [a,b]):∀ us:List α,us.length=2->P us:=YM λ a=>Zn (P:=λ us=>P (a::us)) (f a)
theorem Zo {α:Type}{P:List α->Prop}(f:∀ a b c,P [a,b,c]):∀ us:List α,us.length=3->P us:=YM λ a=>ZX (P:=λ us=>P (a::us)) (f a)
theorem z50 {α:Type}{P:List α->Prop}(f:∀ a b c d,P [a,b,c,d]):∀ us:List α,us.length=4->P us:=YM λ a=>Zo (P:=λ us=>P (a::us)) (f a)
theorem Oh {α:Type}{P:List α->Prop}(f:∀ a b c d e,P [a,b,c,d,e]):∀ us:List α,us.length=5->P us:=YM λ a=>z50 (P:=λ us=>P (a::us)) (f a)
theorem z7j {α:Type}{P:List α->Prop}(f:∀ a b c d e f,P [a,b,c,d,e,f]):∀ us:List α,us.length=6->P us:=YM λ a=>Oh (P:=λ us=>P (a::us)) (f a)
theorem z7k {α:Type}{P:List α->Prop}(f:∀ a b c d e f g,P [a,b,c,d,e,f,g]):∀ us:List α,us.length=7->P us:=YM λ a=>z7j (P:=λ us=>P (a::us)) (f a)
end PI
namespace PI
open PySem L2
noncomputable def Fz (K:Y00)(H:Hp)(a:Addr)(vs:List V):Prop:=(∃ o,H a=some (.frz o (.lst vs)))\/∀ H',SqL K H' a vs
theorem Fz.sq {K:Y00}{H:Hp}{a:Addr}{vs:List V}(h:Fz K H a vs):SqL K H a vs:=h.elim (λ ⟨o,q⟩=>.inl (.inr ⟨o,q⟩)) λ q=>q H
mutual
inductive Rep (K:Y00)(μ:XV)(H:Hp):D->V->Prop
 | non:Rep K μ H .non .non
 | bl (b:Bool):Rep K μ H (.bl b) (.bl b)
 | int (i:Int):Rep K μ H (.int i) (.int i)
 | str (x:Str):Rep K μ H (.str x) (.str x)
 | tup {ds:List D}{vs:List V}{a:Addr}:SqT K H a vs->Reps K μ H ds vs->Rep K μ H (.tup ds) (.ref a)
 | loc {n:Nat}{a:Addr}:μ[n]?=some a->Rep K μ H (.loc n) (.ref a)
 | fl {ds:List D}{vs:List V}{a:Addr}:Fz K H a vs->Reps K μ H ds vs->Rep K μ H (.fl ds) (.ref a)
inductive Reps (K:Y00)(μ:XV)(H:Hp):List D->List V->Prop
 | nil:Reps K μ H [] []
 | cons {d:D}{v:V}{ds:List D}{vs:List V}:Rep K μ H d v->Reps K μ H ds vs->Reps K μ H (d::ds) (v::vs)
end
structure Ext (K:Y00)(μ:XV)(H:Hp)(μ':XV)(H':Hp):Prop where
 loc:∀ (n:Nat) a,μ[n]?=some a->μ'[n]?=some a
 tup:∀ a xs,SqT K H a xs->SqT K H' a xs
 fz:∀ a xs,Fz K H a xs->Fz K H' a xs
 oth:∀ a o,H a=some o->a∉μ->H' a=some o
 new:∀ a,a∈μ'->a∈μ\/H a=none
theorem Ext.refl {K:Y00}{μ:XV}{H:Hp}:Ext K μ H μ H:=⟨λ _ _ h=>h,λ _ _ h=>h,λ _ _ h=>h,λ _ _ h _=>h,λ _ h=>.inl h⟩
theorem Ext.sub {K:Y00}{μ μ1:XV}{H H1:Hp}(a:Ext K μ H μ1 H1){x:Addr}(h:x∈μ):x∈μ1:=by
 obtain ⟨n,hn⟩:=Y38 h;exact Y0y (a.loc n x hn)
theorem Ext.apart {K:Y00}{μ μ1:XV}{H H1:Hp}(a:Ext K μ H μ1 H1){x:Addr}{o:HO}(h:H x=some o)(n:x∉μ):x∉μ1:=λ z=>by
 rcases a.new x z with q | q
 ·exact n q
 ·rw [h] at q;cases q
theorem Ext.trans {K:Y00}{μ μ1 μ2:XV}{H H1 H2:Hp}(a:Ext K μ H μ1 H1)(b:Ext K μ1 H1 μ2 H2):Ext K μ H μ2 H2:=by
 refine ⟨λ n x h=>b.loc n x (a.loc n x h),λ x y h=>b.tup x y (a.tup x y h),λ x y h=>b.fz x y (a.fz x y h),λ x o h n=>b.oth x o (a.oth x o h n) (a.apart h n),λ x h=>?_⟩;rcases b.new x h with z | z
 ·exact a.new x z
 ·by_cases hx:x∈μ
  ·exact .inl hx
  ·right;cases e:H x with
   | none=>rfl
   | some o=>rw [a.oth x o e hx] at z;cases z
mutual
theorem Rep.mono {K:Y00}{μ μ':XV}{H H':Hp}(e:Ext K μ H μ' H'):∀ {d:D}{v:V},Rep K μ H d v->Rep K μ' H' d v
 | _,_,.non=>.non
 | _,_,.bl b=>.bl b
 | _,_,.int i=>.int i
 | _,_,.str x=>.str x
 | _,_,.tup h r=>.tup (e.tup _ _ h) (Reps.mono e r)
 | _,_,.loc h=>.loc (e.loc _ _ h)
 | _,_,.fl h r=>.fl (e.fz _ _ h) (Reps.mono e r)
theorem Reps.mono {K:Y00}{μ μ':XV}{H H':Hp}(e:Ext K μ H μ' H'):∀ {ds:List D}{vs:List V},Reps K μ H ds vs->Reps K μ' H' ds vs
 | _,_,.nil=>.nil
 | _,_,.cons h r=>.cons (Rep.mono e h) (Reps.mono e r)
end
mutual
theorem Rep.mono' {K:Y00}{μ μ':XV}{H:Hp}(e:∀ (n:Nat) a,μ[n]?=some a->μ'[n]?=some a):∀ {d:D}{v:V},Rep K μ H d v->Rep K μ' H d v
 | _,_,.non=>.non
 | _,_,.bl b=>.bl b
 | _,_,.int i=>.int i
 | _,_,.str x=>.str x
 | _,_,.tup h r=>.tup h (Reps.mono' e r)
 | _,_,.loc h=>.loc (e _ _ h)
 | _,_,.fl h r=>.fl h (Reps.mono' e r)
theorem Reps.mono' {K:Y00}{μ μ':XV}{H:Hp}(e:∀ (n:Nat) a,μ[n]?=some a->μ'[n]?=some a):∀ {ds:List D}{vs:List V},Reps K μ H ds vs->Reps K μ' H ds vs
 | _,_,.nil=>.nil
 | _,_,.cons h r=>.cons (Rep.mono' e h) (Reps.mono' e r)
end
theorem Reps.length {K:Y00}{μ:XV}{H:Hp}:∀ {ds:List D}{vs:List V},Reps K μ H ds vs->ds.length=vs.length
 | _,_,.nil=>rfl
 | _,_,.cons _ r=>by rw [Y0q,Y0q,r.length]
theorem Reps.get {K:Y00}{μ:XV}{H:Hp}:∀ {ds:List D}{vs:List V}{i:Nat}{d:D},Reps K μ H ds vs->ds[i]?=some d->∃ v,vs[i]?=some v/\Rep K μ H d v
 | _,_,_,_,.nil,e=>by simp at e
 | _,_,0,_,.cons h _,e=>by simp at e;subst e;exact ⟨_,rfl,h⟩
 | _,_,i+1,d,.cons _ r,e=>by
  obtain ⟨v,h1,h2⟩:=Reps.get (i:=i) (d:=d) r (by simpa using e);exact ⟨v,by simpa using h1,h2⟩
theorem Reps.append {K:Y00}{μ:XV}{H:Hp}:∀ {ds es:List D}{vs ws:List V},Reps K μ H ds vs->Reps K μ H es ws->Reps K μ H (ds++es) (vs++ws)
 | _,_,_,_,.nil,r=>r
 | _,_,_,_,.cons h t,r=>.cons h (t.append r)
theorem Reps.atI {K:Y00}{μ:XV}{H:Hp}{ds:List D}{vs:List V}{k:Int}{d:D}(r:Reps K μ H ds vs)(e:L2.atI ds k=some d):∃ v,L2.atI vs k=some v/\Rep K μ H d v:=by
 unfold L2.atI at e ⊢;rw [<- r.length];cases h:ixN ds.length k with
 | none=>rw [h] at e;cases e
 | some j =>
  rw [h] at e;exact r.get e
inductive RepKs {κ:Type}(K:Y00)(μ:XV)(H:Hp):List (κ×D)->List (κ×V)->Prop
 | nil:RepKs K μ H [] []
 | cons {k:κ}{d:D}{v:V}{ds:List (κ×D)}{vs:List (κ×V)}:Rep K μ H d v->RepKs K μ H ds vs->RepKs K μ H ((k,d)::ds) ((k,v)::vs)
theorem RepKs.mono {κ:Type}{K:Y00}{μ μ':XV}{H H':Hp}(e:Ext K μ H μ' H'):∀ {ds:List (κ×D)}{vs:List (κ×V)},RepKs K μ H ds vs->RepKs K μ' H' ds vs
 | _,_,.nil=>.nil
 | _,_,.cons h r=>.cons (h.mono e) (r.mono e)
theorem RepKs.length {κ:Type}{K:Y00}{μ:XV}{H:Hp}:∀ {ds:List (κ×D)}{vs:List (κ×V)},RepKs K μ H ds vs->ds.length=vs.length
 | _,_,.nil=>rfl
 | _,_,.cons _ r=>by rw [Y0q,Y0q,r.length]
inductive RepFs (K:Y00)(μ:XV)(H:Hp):List (Str×D)->List (Str×V)->Prop
 | nil:RepFs K μ H [] []
 | cons {f:Str}{d:D}{v:V}{ds:108}{vs:List (Str×V)}:Rep K μ H d v->RepFs K μ H ds vs->RepFs K μ H ((f,d)::ds) ((f,v)::vs)
theorem RepFs.mono {K:Y00}{μ μ':XV}{H H':Hp}(e:Ext K μ H μ' H'):∀ {ds:108}{vs:List (Str×V)},RepFs K μ H ds vs->RepFs K μ' H' ds vs
 | _,_,.nil=>.nil
 | _,_,.cons h r=>.cons (h.mono e) (r.mono e)
theorem RepFs.mono' {K:Y00}{μ μ':XV}{H:Hp}(e:∀ (n:Nat) a,μ[n]?=some a->μ'[n]?=some a):∀ {ds:108}{vs:List (Str×V)},RepFs K μ H ds vs->RepFs K μ' H ds vs
 | _,_,.nil=>.nil
 | _,_,.cons h r=>.cons (h.mono' e) (r.mono' e)
noncomputable def YN:List Str:=["named","clauses","bound","doing","left","standing","record","used","end","tasks","numbers","known","block","held","went","name","kept"]
structure ClsN (K:Y00)(x:Str)(C:Addr):Prop where
 nm:PySem.W.nsIn K mainGlobals x=some (some (.ref C))
 cl:Cls K C
 na:∀ f∈YN,z4b K C f
noncomputable def RepO (K:Y00)(μ:XV)(H:Hp)(a:Addr):O->Prop
 | .lst ds=>∃ vs,H a=some (.lst vs)/\Reps K μ H ds vs
 | .dK kvs=>∃ vs,H a=some (.dK vs)/\RepKs K μ H kvs vs
 | .dT kvs=>∃ vs,H a=some (.dT vs)/\RepKs K μ H kvs vs
 | .obj x fs=>∃ C dx vs,H a=some (.ins C dx vs)/\ClsN K x C/\RepFs K μ H fs vs
theorem RepKs.mono' {κ:Type}{K:Y00}{μ μ':XV}{H:Hp}(e:∀ (n:Nat) a,μ[n]?=some a->μ'[n]?=some a):∀ {ds:List (κ×D)}{vs:List (κ×V)},RepKs K μ H ds vs->RepKs K μ' H ds vs
 | _,_,.nil=>.nil
 | _,_,.cons h r=>.cons (h.mono' e) (r.mono' e)
theorem RepO.mono' {K:Y00}{μ μ':XV}{H:Hp}{a:Addr}{o:O}(e:∀ (n:Nat) a,μ[n]?=some a->μ'[n]?=some a)(r:RepO K μ H a o):RepO K μ' H a o:=by
 cases o with
 | lst ds=>obtain ⟨vs,q,r⟩:=r;exact ⟨vs,q,r.mono' e⟩
 | dK ds=>obtain ⟨vs,q,r⟩:=r;exact ⟨vs,q,r.mono' e⟩
 | dT ds=>obtain ⟨vs,q,r⟩:=r;exact ⟨vs,q,r.mono' e⟩
 | obj x fs=>obtain ⟨C,dx,vs,q,c,r⟩:=r;exact ⟨C,dx,vs,q,c,r.mono' e⟩
structure HR (K:Y00)(μ:XV)(h:Hh)(H:Hp):Prop where
 len:μ.length=h.length
 inj:∀ (n m:Nat) (a:Addr),μ[n]?=some a->μ[m]?=some a->n=m
 obj:∀ (n:Nat) (a:Addr) (o:O),μ[n]?=some a->h[n]?=some o->RepO K μ H a o
theorem HR.fresh {K:Y00}{μ:XV}{h:Hh}{H:Hp}(r:HR K μ h H){p:Addr}(hp:H p=none):p∉μ:=λ z=>by
 obtain ⟨n,hn⟩:=Y38 z;have hl:n<h.length:=by rw [<- r.len];exact (Y02.mp hn).1
 have:=r.obj n p h[n] hn (Y0b hl)
 cases e:h[n] with
 | lst ds=>rw [e] at this;obtain ⟨vs,q,_⟩:=this;rw [hp] at q;cases q
 | dK ds=>rw [e] at this;obtain ⟨vs,q,_⟩:=this;rw [hp] at q;cases q
 | dT ds=>rw [e] at this;obtain ⟨vs,q,_⟩:=this;rw [hp] at q;cases q
 | obj x fs=>rw [e] at this;obtain ⟨C,dx,vs,q,_⟩:=this;rw [hp] at q;cases q
theorem zo {K:Y00}{μ:XV}{H:Hp}{p:Addr}{u:HO}(hp:H p=none):Ext K μ H μ (upd H p u) :=
 ⟨λ _ _ h=>h,λ a xs h=>by
  rcases h with h | h
  ·left;rcases h with h | ⟨o,h⟩
   ·exact .inl (by rw [zu (λ z=>by rw [z,hp] at h;cases h)];exact h)
   ·exact .inr ⟨o,by rw [zu (λ z=>by rw [z,hp] at h;cases h)];exact h⟩
  ·exact .inr h,λ a xs h=>by
  rcases h with ⟨o,h⟩ | h
  ·exact .inl ⟨o,by rw [zu (λ z=>by rw [z,hp] at h;cases h)];exact h⟩
  ·exact .inr h,λ a o h _=>by rw [zu (λ z=>by rw [z,hp] at h;cases h)];exact h,λ _ h=>.inl h⟩
theorem Ext.add {K:Y00}{μ μ':XV}{H H':Hp}{p:Addr}(e:Ext K μ H μ' H')(hp:H p=none):Ext K μ H (μ'++[p]) H' :=
 ⟨λ n a h=>by rw [Y12 (Y02.mp (e.loc n a h)).1];exact e.loc n a h,e.tup,e.fz,e.oth,
  λ a h=>by
   rcases Y0p.mp h with h | h
   ·exact e.new a h
   ·rw [Y0d.mp h];exact .inr hp⟩
theorem RepO.keep {K:Y00}{μ μ':XV}{H H':Hp}{a:Addr}{o:O}(e:Ext K μ H μ' H')(k:∀ u,H a=some u->H' a=some u)(r:RepO K μ H a o):RepO K μ' H' a o:=by
 cases o with
 | lst ds=>obtain ⟨vs,q,r⟩:=r;exact ⟨vs,k _ q,r.mono e⟩
 | dK ds=>obtain ⟨vs,q,r⟩:=r;exact ⟨vs,k _ q,r.mono e⟩
 | dT ds=>obtain ⟨vs,q,r⟩:=r;exact ⟨vs,k _ q,r.mono e⟩
 | obj x fs=>obtain ⟨C,dx,vs,q,c,r⟩:=r;exact ⟨C,dx,vs,k _ q,c,r.mono e⟩
theorem Oi {H:Hp}{p a:Addr}{u w:HO}(hp:H p=none)(h:H a=some w):upd H p u a=some w:=by
 rw [zu (λ z=>by rw [z,hp] at h;cases h)];exact h
theorem HR.tup {K:Y00}{μ:XV}{h:Hh}{H:Hp}{p:Addr}{u:HO}(r:HR K μ h H)(hp:H p=none):HR K μ h (upd H p u) :=
 ⟨r.len,r.inj,λ n a o e1 e2=>(r.obj n a o e1 e2).keep (zo hp) λ _ q=>Oi hp q⟩
theorem HR.add {K:Y00}{μ:XV}{h:Hh}{H:Hp}{p:Addr}{o:O}(r:HR K μ h H)(hp:p∉μ)(q:∀ μ',(∀ (n:Nat) a,μ[n]?=some a->μ'[n]?=some a)->RepO K μ' H p o):HR K (μ++[p]) (h++[o]) H:=by
 have gr:∀ (n:Nat) a,μ[n]?=some a->(μ++[p])[n]?=some a:=λ n a e=>by rw [Y12 (Y02.mp e).1];exact e
 refine ⟨by rw [Y0k,Y0k,r.len];rfl,λ n m a e1 e2=>?_,λ n a o1 e1 e2=>?_⟩
 ·have key:∀ (n:Nat) (a:Addr),(μ++[p])[n]?=some a->(n<μ.length/\μ[n]?=some a)\/(n=μ.length/\a=p):=λ n a e=>by
   by_cases hn:n<μ.length
   ·rw [Y12 hn] at e;exact .inl ⟨hn,e⟩
   ·right;rw [Y0m 103] at e
    have:n-μ.length=0:=by
     cases q:n-μ.length with
     | zero=>rfl
     | succ z=>rw [q] at e;simp at e
    rw [this] at e;simp at e;exact ⟨by omega,e.symm⟩
  rcases key n a e1 with ⟨hn,q1⟩ | ⟨hn,q1⟩<;>rcases key m a e2 with ⟨hm,q2⟩ | ⟨hm,q2⟩
  ·exact r.inj n m a q1 q2
  ·exact absurd (Y0y q1) (q2▸hp)
  ·exact absurd (Y0y q2) (q1▸hp)
  ·omega
 ·by_cases hn:n<μ.length
  ·rw [Y12 hn] at e1;rw [Y12 (by rw [<- r.len];exact hn)] at e2;exact (r.obj n a o1 e1 e2).mono' gr
  ·rw [Y0m 103] at e1;have hz:n-μ.length=0:=by
    cases z:n-μ.length with
    | zero=>rfl
    | succ y=>rw [z] at e1;simp at e1
   rw [hz] at e1;simp at e1;subst e1;rw [Y0m (by rw [<- r.len];omega),<- r.len,hz] at e2;simp at e2;subst e2;exact q _ gr
theorem HR.alloc {K:Y00}{μ:XV}{h:Hh}{H:Hp}{p:Addr}{u:HO}{o:O}(r:HR K μ h H)(hp:H p=none)(hm:p∉μ)(q:∀ μ',(∀ (n:Nat) a,μ[n]?=some a->μ'[n]?=some a)->RepO K μ' (upd H p u) p o):HR K (μ++[p]) (h++[o]) (upd H p u) :=
 (r.tup hp).add hm q
theorem HR.chg {K:Y00}{μ:XV}{h:Hh}{H:Hp}{n:Nat}{a:Addr}{o o':O}{u:HO}(r:HR K μ h H)(hn:h[n]?=some o)(ha:μ[n]?=some a)
  (q:∀ H',Ext K μ H μ H'->H' a=some u->RepO K μ H' a o'):HR K μ (h.set n o') (upd H a u)/\Ext K μ H μ (upd H a u):=by
 obtain ⟨w,hw,nt,nf⟩:∃ w,H a=some w/\(∀ xs,w≠.tup xs)/\∀ o x,w≠.frz o x:=by
  have z:=r.obj n a o ha hn;cases o with
  | lst ds=>obtain ⟨vs,e,_⟩:=z;exact ⟨_,e,λ _ y=>(nomatch y),λ _ _ y=>(nomatch y)⟩
  | dK ds=>obtain ⟨vs,e,_⟩:=z;exact ⟨_,e,λ _ y=>(nomatch y),λ _ _ y=>(nomatch y)⟩
  | dT ds=>obtain ⟨vs,e,_⟩:=z;exact ⟨_,e,λ _ y=>(nomatch y),λ _ _ y=>(nomatch y)⟩
  | obj x fs=>obtain ⟨C,dx,vs,e,_⟩:=z;exact ⟨_,e,λ _ y=>(nomatch y),λ _ _ y=>(nomatch y)⟩
 have ht:∀ b xs,SqT K H b xs->SqT K (upd H a u) b xs:=λ b xs z=>by
  rcases z with z | z
  ·left;rcases z with z | ⟨ob,z⟩
   ·exact .inl (by rw [zu (λ y=>by rw [y,hw] at z;exact nt _ (Option.some.inj z))];exact z)
   ·exact .inr ⟨ob,by rw [zu (λ y=>by rw [y,hw] at z;exact nf _ _ (Option.some.inj z))];exact z⟩
  ·exact .inr z
 have hf:∀ b xs,Fz K H b xs->Fz K (upd H a u) b xs:=λ b xs z=>by
  rcases z with ⟨ob,z⟩ | z
  ·exact .inl ⟨ob,by rw [zu (λ y=>by rw [y,hw] at z;exact nf _ _ (Option.some.inj z))];exact z⟩
  ·exact .inr z
 have ex:Ext K μ H μ (upd H a u):=⟨λ _ _ z=>z,ht,hf,λ b v e z=>by rw [zu (λ (y:b=a)=>z (by rw [y];exact Y0y ha))];exact e,λ _ z=>.inl z⟩;have hl:n<h.length:=(Y02.mp hn).1;refine ⟨⟨by rw [Y1d];exact r.len,r.inj,λ m b v e1 e2=>?_⟩,ex⟩;by_cases hmn:m=n
 ·subst hmn;rw [Y0r hl] at e2;cases e2;rw [ha] at e1;cases e1;exact q _ ex zA
 ·rw [Y0h (Ne.symm hmn)] at e2;have nb:b≠a:=λ y=>hmn (r.inj m n a (y▸e1) ha);exact (r.obj m b v e1 e2).keep ex λ _ g=>by rw [zu nb];exact g
structure ER (K:Y00)(μ:XV)(ρ:En)(σ:St)(H:Hp):Prop where
 len:ρ.length=σ.length
 val:∀ (i:Nat) d,ρ[i]?=some (some d)->∃ v,σ[i]?=some (some v)/\Rep K μ H d v
theorem ER.mono {K:Y00}{μ μ':XV}{H H':Hp}{ρ:En}{σ:St}(r:ER K μ ρ σ H)(e:Ext K μ H μ' H'):ER K μ' ρ σ H' :=
 ⟨r.len,λ i d h=>let ⟨v,a,b⟩:=r.val i d h;⟨v,a,b.mono e⟩⟩
theorem ER.set {K:Y00}{μ:XV}{H:Hp}{ρ:En}{σ:St}{d:D}{v:V}(r:ER K μ ρ σ H)(q:Rep K μ H d v)(i:Nat):ER K μ (ρ.set i (some d)) (σ.set i (some v)) H:=by
 refine ⟨by rw [Y1d,Y1d,r.len],λ j e hj=>?_⟩;by_cases hij:i=j
 ·subst hij;rw [List.getElem?_set] at hj ⊢;have hl:i<ρ.length:=by
   by_cases hl:i<ρ.length
   ·exact hl
   ·rw [if_pos rfl,if_neg hl] at hj;cases hj
  rw [if_pos rfl,if_pos hl] at hj;rw [if_pos rfl,if_pos (by rw [<- r.len];exact hl)];cases hj;exact ⟨v,rfl,q⟩
 ·rw [Y0h hij] at hj ⊢;exact r.val j e hj
noncomputable def PostE {α β:Type}(K:Y00)(cv:XY)(R:List Addr->Hp->α->β->Prop)(μ:XV)(H:Hp)(r:Res α)(Q:β->Hp->Prop)(Z:Value->Hp->Prop):Prop :=
 match r with
 | .ok d h'=>∀ μ' H' v,Ext K μ H μ' H'->HR K μ' h' H'->R μ' H' d v->Q v H'
 | .exc c h'=>∀ μ' H',Ext K μ H μ' H'->HR K μ' h' H'->Z (cv c) H'
 | .no=>False
noncomputable def zt {α β:Type}(K:Y00)(cv:XY)(R:List Addr->Hp->α->β->Prop)(Z:ZK)(m:En->Hh->Res α):St->Hp->(β->Hp->Prop)->Prop :=
 λ σ H Q=>∃ μ ρ h,HR K μ h H/\ER K μ ρ σ H/\PostE K cv R μ H (m ρ h) Q (Z σ)
theorem z9 {α β:Type}{K:Y00}{cv:XY}{R:List Addr->Hp->α->β->Prop}{Z:ZK}{m:En->Hh->Res α}{σ:St}{H:Hp}{Q:β->Hp->Prop}{G:Prop}(f:∀ μ ρ h,HR K μ h H->ER K μ ρ σ H->PostE K cv R μ H (m ρ h) Q (Z σ)->G)(x:zt K cv R Z m σ H Q):G:=by
 obtain ⟨μ,ρ,h,hr,er,q⟩:=x;exact f μ ρ h hr er q
theorem zc {α β γ δ:Type}{K:Y00}{cv:XY}{R:List Addr->Hp->α->β->Prop}{R':List Addr->Hp->γ->δ->Prop}{μ:XV}{ρ:En}{h:Hh}{σ:St}{H:Hp}{Z:ZK}{m:En->Hh->Res α}{f:α->Hh->Res γ}{Q:δ->Hp->Prop}{Q':β->Hp->Prop}
  (hr:HR K μ h H) (er:ER K μ ρ σ H) (p:PostE K cv R' μ H ((m ρ h).bind f) Q (Z σ))
  (go:∀ a h1 μ1 H1 x,m ρ h=.ok a h1->Ext K μ H μ1 H1->HR K μ1 h1 H1->ER K μ1 ρ σ H1->R μ1 H1 a x->PostE K cv R' μ1 H1 (f a h1) Q (Z σ)->Q' x H1) :
  zt K cv R Z m σ H Q':=by
 refine ⟨μ,ρ,h,hr,er,?_⟩;cases e:m ρ h with
 | ok a h1 =>
  rw [e,bind_ok] at p;intro μ1 H1 x e1 r1 q1;refine go a h1 μ1 H1 x e e1 r1 (er.mono e1) q1 ?_;unfold PostE at p ⊢;cases e2:f a h1 with
  | ok b h2=>rw [e2] at p;exact λ μ2 H2 v e3 r3 q3=>p μ2 H2 v (e1.trans e3) r3 q3
  | exc c h2=>rw [e2] at p;exact λ μ2 H2 e3 r3=>p μ2 H2 (e1.trans e3) r3
  | no=>rw [e2] at p;exact p
 | exc c h1=>rw [e,bind_exc] at p;exact p
 | no=>rw [e,bind_no] at p;exact p
theorem PostE.here {α β:Type}{K:Y00}{cv:XY}{R:List Addr->Hp->α->β->Prop}{μ:XV}{H:Hp}{d:α}{h:Hh}{v:β}{Q:β->Hp->Prop}{Z:Value->Hp->Prop}(p:PostE K cv R μ H (.ok d h) Q Z)(hr:HR K μ h H)(r:R μ H d v):Q v H :=
 p μ H v Ext.refl hr r
end PI
namespace PI
open PySem L2 PySem.Spec
open PyProof.Rows hiding St
section
variable {X:Cx}{pins:106}{σ:St}{H:Hp}{s:Shared}{μ:XV}{h:Hh}
mutual
theorem ww (I:104):∀ {d:D}{v:V}{u:Value}{p:PyData},Rep X.K μ H d v->RelV v u->D.pd h d=some p->∃ as,Reads s.heap u p as
 | .non,_,_,_,r,q,e=>by cases r;cases q;cases e;exact ⟨_,.none⟩
 | .bl b,_,_,_,r,q,e=>by cases r;cases q;cases e;exact ⟨_,.bool b⟩
 | .int i,_,_,_,r,q,e=>by cases r;obtain ⟨t,rfl⟩:=q;cases e;exact ⟨_,.int i t⟩
 | .str x,_,_,_,r,q,e=>by cases r;obtain ⟨t,rfl⟩:=q;cases e;exact ⟨_,.str x t⟩
 | .tup ds,_,_,_,r,q,e=>by
  cases r with
  | tup hs rs =>
   cases q;unfold D.pd at e;cases e1:D.pds h ds with
   | none=>rw [e1] at e;cases e
   | some ps =>
    rw [e1] at e;cases e;obtain ⟨its,rv,⟨o,g1,g2,n,g3⟩,_⟩:=I.tuple hs;obtain ⟨as,ra⟩:=readsAll_of I rs rv e1;exact ⟨_,.tuple g1 g2 g3 (by simpa using ra)⟩
 | .loc n,_,_,_,r,q,e=>by cases e
 | .fl ds,_,_,_,r,q,e=>by
  cases r with
  | fl hs rs =>
   cases q;unfold D.pd at e;cases e1:D.pds h ds with
   | none=>rw [e1] at e;cases e
   | some ps =>
    rw [e1] at e;cases e;obtain ⟨its,rv,⟨o,n,g1,g2,_,g3⟩,_⟩:=I.list hs.sq;obtain ⟨as,ra⟩:=readsAll_of I rs rv e1;exact ⟨_,.list g1 g2 g3 (by simpa using ra)⟩
theorem readsAll_of (I:104):∀ {ds:List D}{vs:List V}{us:XW}{ps:List PyData},Reps X.K μ H ds vs->Vals vs us->D.pds h ds=some ps->∃ as,ReadsAll s.heap us ps as
 | [],_,_,_,r,q,e=>by cases r;cases q;cases e;exact ⟨_,.nil⟩
 | d::ds,_,_,_,r,q,e=>by
  cases r with
  | cons r1 r2 =>
   cases q with
   | cons q1 q2 =>
    unfold D.pds at e;cases e1:D.pd h d with
    | none=>rw [e1] at e;cases e
    | some p =>
     cases e2:D.pds h ds with
     | none=>rw [e1,e2] at e;cases e
     | some ps =>
      rw [e1,e2] at e;cases e;obtain ⟨as,ra⟩:=ww I r1 q1 e1;obtain ⟨bs,rb⟩:=readsAll_of I r2 q2 e2;exact ⟨_,.cons ra rb⟩
end
theorem HR.rd (hr:HR X.K μ h H){n:Nat}{ds:List D}(e:rd h n=some ds){a:Addr}(m:μ[n]?=some a):∃ vs,SqL X.K H a vs/\Reps X.K μ H ds vs:=by
 unfold PI.rd at e;cases e1:h[n]? with
 | none=>rw [e1] at e;cases e
 | some o =>
  rw [e1] at e;have q:=hr.obj n a o m e1;cases o with
  | lst xs=>cases e;obtain ⟨vs,q1,q2⟩:=q;exact ⟨vs,SqL.of q1,q2⟩
  | dK xs=>cases e
  | dT xs=>cases e
  | obj _ _=>cases e
theorem qV (I:104)(hr:HR X.K μ h H){d:D}{v:V}{u:Value}{p:PyData}(r:Rep X.K μ H d v)(q:RelV v u)(e:pdT h d=some p):∃ as,Reads s.heap u p as:=by
 cases d with
 | loc n =>
  cases r with
  | loc m =>
   cases q;rw [pdT_loc] at e;cases e1:rd h n with
   | none=>rw [e1] at e;cases e
   | some ds =>
    rw [e1] at e;cases e2:D.pds h ds with
    | none=>rw [show (some ds).bind (λ xs=>(D.pds h xs).map PyData.list)=(D.pds h ds).map PyData.list from rfl,e2] at e;cases e
    | some ps =>
     rw [show (some ds).bind (λ xs=>(D.pds h xs).map PyData.list)=(D.pds h ds).map PyData.list from rfl,e2] at e;cases e;obtain ⟨vs,hs,rs⟩:=hr.rd e1 m;obtain ⟨its,rv,⟨o,n',g1,g2,_,g3⟩,_⟩:=I.list hs;obtain ⟨as,ra⟩:=readsAll_of I rs rv e2;exact ⟨_,.list g1 g2 g3 (by simpa using ra)⟩
 | non=>exact ww (h:=h) I r q e
 | bl b=>exact ww (h:=h) I r q e
 | int i=>exact ww (h:=h) I r q e
 | str x=>exact ww (h:=h) I r q e
 | tup ds=>exact ww (h:=h) I r q e
 | fl ds=>exact ww (h:=h) I r q e
end
theorem qg {n:Nat}(h:n<=1000000):n<=sizeLine:=by rw [sizeLine_eq];omega
theorem UI {n:Nat}(h:n<1000000):n<sizeLine:=by rw [sizeLine_eq];omega
section
variable {X:Cx}{cv:XY}
noncomputable def r2 (K:Y00)(cv:XY)(f:D->D->Hh->Res D):R2:=λ x y H Q=>∃ μ h a b Z,HR K μ h H/\Rep K μ H a x/\Rep K μ H b y/\PostE K cv (Rep K) μ H (f a b h) Q Z
noncomputable def r1 (K:Y00)(cv:XY)(f:D->Hh->Res D):V->Hp->VK->Prop:=λ x H Q=>∃ μ h a Z,HR K μ h H/\Rep K μ H a x/\PostE K cv (Rep K) μ H (f a h) Q Z
theorem z0r:OpR X (binaryOp .Mult) (rI (λ i j=>Builtin.Int.intBits i<=2 ^ 20/\Builtin.Int.intBits j<=2 ^ 20) λ i j=>.int (i*j)):=opI λ _ _ _ _ _ _ _ hc q=>mul_int q (IntMulOk.of_bits hc.1 hc.2)
theorem z0s:OpR X (binaryOp .LShift) (rI (λ i j=>Builtin.Int.intBits i<=2 ^ 20/\0<=j/\j<=1000000) λ i j=>.int (i*2 ^ j.toNat)):=opI λ _ _ _ _ _ _ _ hc q=>lshift_int hc.2.1 (by have:=hc.1;have:=hc.2.2;omega) q
theorem z51 {x:Str}{j:Int}(h:0<=j/\j<=1000/\x.length<=1000):MulOk x j:=by
 obtain ⟨h0,h1,h2⟩:=h;refine ⟨by simp;omega,λ a b c=>?_,λ a b=>?_⟩
 ·have hj:1<=j:=by omega
  have:(2 ^ 63-1)/1000<=(2 ^ 63-1:Int)/j:=Int.le_ediv_of_mul_le 103 (by
   have:((2 ^ 63-1)/1000:Int)*j<=((2 ^ 63-1)/1000)*1000:=Y2j h1 102
   have e:(((2 ^ 63-1)/1000:Int)*1000)<=2 ^ 63-1:=by decide
   omega)
  have e:(1000:Int)<(2 ^ 63-1)/1000:=by decide
  omega
 ·have hm:x.length*j.toNat<=1000*1000:=Nat.mul_le_mul h2 103;unfold PySem.Builtin.Str.tooLong;exact decide_eq_false (by rw [sizeLine_eq];omega)
theorem z0t:OpR X (binaryOp .Mult) (λ x y H Q=>∃ z j,x=.str z/\y=.int j/\(0<=j/\j<=1000/\z.length<=1000)/\Q (.str (Txt.mul z j)) H):=by
 intro pins s σ H x y v u Q I rx ry h;obtain ⟨z,j,rfl,rfl,hc,q⟩:=h;obtain ⟨t,rfl⟩:=rx;obtain ⟨t',rfl⟩:=ry;exact SB.mul (z51 hc) λ t' k=>⟨.str _,H,I.tok _,117,q⟩
theorem QU (t b:Addr)(xs ys:Array Value)(n m:Nat)(d1 d2:Option Addr)(s1 s2:Array (Option Value))(h0:xs.isEmpty=true) :
  Meets (Builtin.«tuple.__add__» ⟨[.ref t,.ref b],[]⟩) (λ _ R s =>
   s.heap.get? t=some ⟨.type "tuple",d1,.seq xs n,s1⟩ /\
   s.heap.get? b=some ⟨.type "tuple",d2,.seq ys m,s2⟩ /\
   R (.ok (.ret (Value.ref b))) s) :=
 .of_wp λ prog w A R s h=>by
  obtain ⟨hp,g,d,tk,os⟩:=s;obtain ⟨hl,hb,h⟩:=h;have f1:=AutoSeq1.idx_int;have f2:=AutoSeq1.sub_list_tuple;have f3:=AutoSeq1.sub_tuple_list;have f4:=AutoSeq1.sub_tuple_tuple;have f5:=AutoSeq1.sub_list_list
  wp_walk using AutoSeq1.wpAny_loadPart' hl,AutoSeq1.wpAny_loadPart' hb
  exact ⟨_,rfl,h⟩
theorem z0u {A:Around}{E:XQ}{prog:XJ}{w:World}{s:Shared}{t b:Addr}{vs ws:XW}{Q:XQ}(ht:IsTup s.heap t vs.toArray)(hb:IsTup s.heap b ws.toArray)(hv:vs=[])(h1:Q (.ref b) s) :
  wpAny 123 A (binaryOp .Add (.ref t) (.ref b)) Q E s:=by
 obtain ⟨⟨cls,dd,data,sl⟩,ho,hc,n,hd⟩:=id ht;obtain ⟨⟨cls2,dd2,data2,sl2⟩,ho2,hc2,n2,hd2⟩:=id hb;simp only at hc hd hc2 hd2;subst hc hd hc2 hd2;exact concat_meets ⟨_,ho,rfl⟩ ⟨_,ho2,rfl⟩ noFill_tuple_add seq_tuple_add Y2w Y2t (Y2r _ _) (QU t b vs.toArray ws.toArray n n2 dd dd2 sl sl2 (by simp [hv])) ⟨ho,ho2,h1⟩
theorem Reps.rep {K:Y00}{μ:XV}{H:Hp}{ds:List D}{vs:List V}(r:Reps K μ H ds vs):∀ k:Nat,Reps K μ H (List.replicate k ds).flatten (List.replicate k vs).flatten
 | 0=>.nil
 | k+1=>by rw [Y19,Y19,Y21,Y21];exact r.append (Reps.rep r k)
section
variable {K:Y00}{μ:XV}{H:Hp}{Q:VK}{Z:Value->Hp->Prop}
theorem jq {c:Prop}[Decidable c]{r:Res D}{G:Prop}(p:PostE K cv (Rep K) μ H (if c then r else .no) Q Z)(f:c->PostE K cv (Rep K) μ H r Q Z->G):G:=by
 by_cases hc:c
 ·rw [if_pos hc] at p;exact f hc p
 ·rw [if_neg hc] at p;exact p.elim
theorem jr {a b:D}{x y:V}{g:Int->Int->Res D}{G:Prop}(ra:Rep K μ H a x)(rb:Rep K μ H b y)(p:PostE K cv (Rep K) μ H (i2 a b g) Q Z)(f:∀ i j,x=.int i->y=.int j->PostE K cv (Rep K) μ H (g i j) Q Z->G):G:=by
 cases a with
 | int i =>
  cases b with
  | int j=>cases ra;cases rb;exact f i j rfl rfl p
  | _=>exact p.elim
 | _=>exact p.elim
theorem QV {neg:Bool}{u v:Option PyData}{h:Hh}{G:Prop}(p:PostE K cv (Rep K) μ H (eqR neg u v h) Q Z)(f:∀ pu pv,u=some pu->v=some pv->pu.canLay0=true->pv.canLay0=true->pu.depth<=60->PostE K cv (Rep K) μ H (.ok (.bl (if neg then !PyData.eqv pu pv else PyData.eqv pu pv)) h) Q Z->G):G:=by
 cases u with
 | none=>exact p.elim
 | some pu =>
  cases v with
  | none=>exact p.elim
  | some pv=>exact jq p λ c q=>f pu pv rfl rfl c.1 c.2.1 c.2.2 q
end
theorem z0v:OpR X (binaryOp .Add) (r2 X.K cv z7h):=by
 intro pins s σ H x y v u Q I rx ry hh;obtain ⟨μ,h,a,b,Z,hr,ra,rb,p⟩:=hh;cases a with
 | int i =>
  cases b with
  | int j=>cases ra;cases rb;exact z43 pins s σ H _ _ v u Q I rx ry ⟨_,_,rfl,rfl,p.here hr (.int _)⟩
  | _=>exact p.elim
 | str i =>
  cases b with
  | str j=>cases ra;cases rb;exact jq p λ c p=>Yv pins s σ H _ _ v u Q I rx ry ⟨_,_,rfl,rfl,qg c,p.here hr (.str _)⟩
  | _=>exact p.elim
 | loc n =>
  cases b with
  | loc m =>
   cases ra with
   | loc ma =>
    cases rb with
    | loc mb =>
     have p:PostE X.K cv (Rep X.K) μ H (match h[n]?,h[m]? with
      | some (.lst xs),some (.lst ys)=>if xs.length+ys.length<=1000000 then .ok 115 (h++[.lst (xs++ys)]) else .no
      | _,_=>.no) Q Z:=p
     cases e1:h[n]? with
     | none=>rw [e1] at p;exact p.elim
     | some o1 =>
      cases e2:h[m]? with
      | none=>rw [e1,e2] at p;cases o1<;>exact p.elim
      | some o2 =>
       rw [e1,e2] at p;cases o1 with
       | dK k=>exact p.elim
       | dT k=>exact p.elim
       | obj _ _=>exact p.elim
       | lst xs =>
        cases o2 with
        | dK k=>exact p.elim
        | dT k=>exact p.elim
        | obj _ _=>exact p.elim
        | lst ys =>
         refine jq p λ c p=>?_;obtain ⟨va,ha,qa⟩:=hr.obj n _ _ ma e1;obtain ⟨vb,hb,qb⟩:=hr.obj m _ _ mb e2;refine z4j pins s σ H _ _ v u Q I rx ry ⟨_,_,_,_,rfl,rfl,ha,hb,by rw [<- qa.length,<- qb.length];exact qg c,λ b hb=>?_⟩;have nb:b∉μ:=hr.fresh hb;refine p _ _ _ ((zo hb).add hb) (hr.alloc hb nb λ μ' g=>⟨_,zA,((qa.append qb).mono (zo hb)).mono' g⟩) (.loc ?_);rw [<- hr.len,Y0m (Y0a _),Y1v];rfl
  | _=>exact p.elim
 | tup ds =>
  cases b with
  | tup es =>
   refine jq p λ c p=>?_;cases ra with
   | @tup _ vs a h1 r1 =>
    cases rb with
    | @tup _ ws b h2 r2 =>
     by_cases hv:vs=[]
     ·subst hv;cases r1;cases rx;cases ry;obtain ⟨its,q1,p1,_⟩:=I.tuple h1;obtain ⟨its2,q2,p2,_⟩:=I.tuple h2;cases q1;exact z0u p1 p2 rfl ⟨.ref b,H,I,rfl,p.here hr (.tup h2 r2)⟩
     ·refine z01 pins s σ H _ _ v u Q I rx ry ⟨a,b,vs,ws,rfl,rfl,h1,h2,hv,by rw [<- r1.length,<- r2.length];exact qg c,λ hz=>?_,λ _ l hl=>?_⟩
      ·subst hz;cases r2;rw [Y0x] at p;exact p.here hr (.tup h1 r1)
      ·exact p μ _ _ (zo hl) (hr.tup hl) (.tup (SqT.of zA) ((r1.append r2).mono (zo hl)))
  | _=>exact p.elim
 | _=>exact p.elim
theorem z0w:OpR X (binaryOp .Mult) (r2 X.K cv z0n):=by
 intro pins s σ H x y v u Q I rx ry hh;obtain ⟨μ,h,a,b,Z,hr,ra,rb,p⟩:=hh;cases b with
 | int j =>
  cases rb;cases a with
  | int i=>cases ra;exact jq p λ c p=>z0r pins s σ H _ _ v u Q I rx ry ⟨_,_,rfl,rfl,⟨of_decide_eq_true c.1,of_decide_eq_true c.2⟩,p.here hr (.int _)⟩
  | str z=>cases ra;exact jq p λ c p=>z0t pins s σ H _ _ v u Q I rx ry ⟨_,_,rfl,rfl,c,p.here hr (.str _)⟩
  | loc n =>
   cases ra with
   | loc ma =>
    have p:PostE X.K cv (Rep X.K) μ H (match h[n]? with
     | some (.lst xs)=>if 0<=j/\j<=1000/\xs.length<=1000 then .ok 115 (h++[.lst (List.replicate j.toNat xs).flatten]) else .no
     | _=>.no) Q Z:=p
    cases e1:h[n]? with
    | none=>rw [e1] at p;exact p.elim
    | some o1 =>
     rw [e1] at p;cases o1 with
     | dK k=>exact p.elim
     | dT k=>exact p.elim
     | obj _ _=>exact p.elim
     | lst xs =>
      refine jq p λ c p=>?_;obtain ⟨va,ha,qa⟩:=hr.obj n _ _ ma e1;refine z4k pins s σ H _ _ v u Q I rx ry ⟨_,_,va,rfl,rfl,ha,by omega,by omega,?_,λ b hb=>?_⟩
      ·have hm:va.length*j.toNat<=1000*1000:=Nat.mul_le_mul (by rw [<- qa.length];exact c.2.2) 103;rw [sizeLine_eq];omega
      ·have nb:b∉μ:=hr.fresh hb;refine p _ _ _ ((zo hb).add hb) (hr.alloc hb nb λ μ' g=>⟨_,zA,((qa.rep j.toNat).mono (zo hb)).mono' g⟩) (.loc ?_);rw [<- hr.len,Y0m (Y0a _),Y1v];rfl
  | _=>exact p.elim
 | _=>exact p.elim
theorem z52 (op:Operator):OpR X (binaryOp op) (r2 X.K cv (zw op)):=by
 cases op with
 | Add=>exact z0v
 | Mult=>exact z0w
 | Sub =>
  intro pins s σ H x y v u Q I rx ry q0;obtain ⟨μ,h,a,b,Z,hr,ra,rb,p⟩:=q0;exact jr ra rb p λ i j ex ey p=>z44 pins s σ H _ _ v u Q I rx ry ⟨i,j,ex,ey,p.here hr (.int _)⟩
 | FloorDiv =>
  intro pins s σ H x y v u Q I rx ry q0;obtain ⟨μ,h,a,b,Z,hr,ra,rb,p⟩:=q0;exact jr ra rb p λ i j ex ey p=>jq p λ c p=>Od pins s σ H _ _ v u Q I rx ry ⟨i,j,ex,ey,c,p.here hr (.int _)⟩
 | Mod =>
  intro pins s σ H x y v u Q I rx ry q0;obtain ⟨μ,h,a,b,Z,hr,ra,rb,p⟩:=q0;exact jr ra rb p λ i j ex ey p=>jq p λ c p=>z45 pins s σ H _ _ v u Q I rx ry ⟨i,j,ex,ey,c,p.here hr (.int _)⟩
 | Pow =>
  intro pins s σ H x y v u Q I rx ry q0;obtain ⟨μ,h,a,b,Z,hr,ra,rb,p⟩:=q0;exact jr ra rb p λ i j ex ey p=>jq p λ c p=>z46 pins s σ H _ _ v u Q I rx ry ⟨i,j,ex,ey,c,p.here hr (.int _)⟩
 | LShift =>
  intro pins s σ H x y v u Q I rx ry q0;obtain ⟨μ,h,a,b,Z,hr,ra,rb,p⟩:=q0;exact jr ra rb p λ i j ex ey p=>jq p λ c p=>z0s pins s σ H _ _ v u Q I rx ry ⟨i,j,ex,ey,⟨of_decide_eq_true c.1,c.2⟩,p.here hr (.int _)⟩
 | RShift =>
  intro pins s σ H x y v u Q I rx ry q0;obtain ⟨μ,h,a,b,Z,hr,ra,rb,p⟩:=q0;exact jr ra rb p λ i j ex ey p=>jq p λ c p=>z47 pins s σ H _ _ v u Q I rx ry ⟨i,j,ex,ey,c,p.here hr (.int _)⟩
 | BitAnd =>
  intro pins s σ H x y v u Q I rx ry q0;obtain ⟨μ,h,a,b,Z,hr,ra,rb,p⟩:=q0;exact jr ra rb p λ i j ex ey p=>z48 pins s σ H _ _ v u Q I rx ry ⟨i,j,ex,ey,p.here hr (.int _)⟩
 | BitOr =>
  intro pins s σ H x y v u Q I rx ry q0;obtain ⟨μ,h,a,b,Z,hr,ra,rb,p⟩:=q0;exact jr ra rb p λ i j ex ey p=>z72 pins s σ H _ _ v u Q I rx ry ⟨i,j,ex,ey,p.here hr (.int _)⟩
 | _ =>
  intro pins s σ H x y v u Q I rx ry q0;obtain ⟨μ,h,a,b,Z,hr,ra,rb,p⟩:=q0;exact p.elim
theorem ZY {K:Y00}{μ:XV}{H:Hp}{d:D}{v:V}(r:Rep K μ H d v)(f:yp d=true):v=vOf d/\jH v=true:=by
 cases r with
 | non=>exact ⟨rfl,rfl⟩
 | bl b=>exact ⟨rfl,rfl⟩
 | int i=>exact ⟨rfl,rfl⟩
 | str x=>exact ⟨rfl,rfl⟩
 | _=>cases f
theorem yR {K:Y00}{μ:XV}{H:Hp}:∀ {ds:List D}{vs:List V},Reps K μ H ds vs->ds.all yp=true->vs=ds.map vOf/\vs.all jH=true
 | _,_,.nil,_=>⟨rfl,rfl⟩
 | _,_,.cons r t,f=>by
  rw [Y11,Y0c] at f;obtain ⟨rfl,f1⟩:=ZY r f.1;obtain ⟨rfl,f2⟩:=yR t f.2;exact ⟨rfl,by rw [Y11,f1,f2];rfl⟩
theorem z9r (x:D)(ds:List D):inV (vOf x) (ds.map vOf)=ds.any λ y=>eqV (vOf y) (vOf x):=by unfold inV;rw [List.any_map];rfl
theorem ZZ {K:Y00}{μ:XV}{H:Hp}:∀ {ds:List D}{vs:List V},Reps K μ H ds vs->ds.all z2z=true->(∀ v∈vs,jH v=true\/∃ a ts,v=.ref a/\SqT K H a ts)/\ds.any isN=vs.any ZT
 | _,_,.nil,_=>⟨λ v hv=>(nomatch hv),rfl⟩
 | d::ds,v::vs,.cons r t,f=>by
  rw [Y11,Y0c] at f;obtain ⟨f1,f2⟩:=ZZ t f.2;have g:(jH v=true\/∃ a ts,v=.ref a/\SqT K H a ts)/\isN d=ZT v:=by
   have f0:=f.1;cases r with
   | tup h1 h2=>exact ⟨.inr ⟨_,_,rfl,h1⟩,rfl⟩
   | non=>exact ⟨.inl rfl,rfl⟩
   | bl b=>exact ⟨.inl rfl,rfl⟩
   | int i=>exact ⟨.inl rfl,rfl⟩
   | str x=>exact ⟨.inl rfl,rfl⟩
   | _=>exact absurd (show false=true from f0) Y0t
  exact ⟨λ w hw=>by rcases Y03.mp hw with rfl | hw;exact g.1;exact f1 w hw,by rw [Y1f,Y1f,g.2,f2]⟩
theorem WI {neg:Bool}{pins:106}{s:Shared}{σ:St}{H:Hp}{v u:Value}{Q:VK}{μ:XV}{h:Hh}{a:D}{x:V}{Z':Value->Hp->Prop}{ds:List D}{vs:List V}{p':Addr}(op:CmpOp)(hop:OpR X (compareOp op) (rIn X.K neg))(hopN:neg=false->OpR X (compareOp op) (z4w X.K))
  (I:104) (rx:RelV x v) (ry:RelV (.ref p') u) (hr:HR X.K μ h H) (ra:Rep X.K μ H a x) (sq:SqL X.K H p' vs\/SqT X.K H p' vs) (rs:Reps X.K μ H ds vs) (p:PostE X.K cv (Rep X.K) μ H (QP neg a ds h) Q Z') :
  wpAny 105 X.A (compareOp op v u) (EP X pins σ Q) X.xe s:=by
 unfold QP at p;split at p
 ·rename_i c;obtain ⟨rfl,f1⟩:=ZY ra c.1;obtain ⟨rfl,f2⟩:=yR rs c.2;refine hop pins s σ H _ _ v u Q I rx ry ⟨p',_,rfl,sq,f1,f2,?_⟩;rw [z9r];exact p.here hr (.bl _)
 ·split at p
  ·rename_i c;cases ra<;>first | (exact absurd c.2.1 Y0t) | skip
   obtain ⟨f1,f2⟩:=ZZ rs c.2.2;refine hopN c.1 pins s σ H _ _ v u Q I rx ry ⟨p',_,rfl,rfl,sq,f1,?_⟩;rw [<- f2];exact p.here hr (.bl _)
  ·exact p.elim
theorem Wa {K:Y00}{μ:XV}{H:Hp}{d:D}{v:V}{k:Key}(r:Rep K μ H d v)(e:jZ d=some k):v=kV k:=by
 unfold jZ at e;cases r<;>first | (cases e;rfl) | cases e
theorem Wb {K:Y00}{μ:XV}{H:Hp}:∀ {ds:List D}{vs:List V}{ks:List Key},Reps K μ H ds vs->QO ds=some ks->vs=ks.map kV
 | _,_,ks,.nil,e=>by cases e;rfl
 | _,_,ks,@Reps.cons _ _ _ d v ds vs h r,e=>by
  unfold QO at e;cases e1:jZ d with
  | none=>rw [e1] at e;cases e
  | some k =>
   cases e2:QO ds with
   | none=>rw [e1,e2] at e;cases e
   | some l =>
    rw [e1,e2] at e;cases e;rw [Wa h e1,Wb r e2];rfl
theorem yS {K:Y00}{μ:XV}{H:Hp}{d:D}{v:V}{ks:List Key}(r:Rep K μ H d v)(e:Zd d=some ks):∃ b,v=.ref b/\SqT K H b (ks.map kV):=by
 cases r with
 | tup h1 h2=>have:=Wb h2 e;subst this;exact ⟨_,rfl,h1⟩
 | _=>cases e
theorem RepKs.none {κ:Type}[DecidableEq κ]{K:Y00}{μ:XV}{H:Hp}{k:κ}:∀ {ds:List (κ×D)}{vs:List (κ×V)},RepKs K μ H ds vs->(wv ds k).isSome=(qB vs k).isSome
 | _,_,.nil=>rfl
 | _,_,.cons (k:=k') (d:=d') (v:=v') h r=>by
  have ih:=RepKs.none (k:=k) r;by_cases hk:k'=k
  ·rw [qC (p:=(k',v')) hk];unfold wv;rw [Y2x (by simpa using hk)];rfl
  ·rw [qD (p:=(k',v')) hk,<- ih];unfold wv;rw [Y2y (by simpa using hk)]
theorem Oj (hu:X.A.units+1<cLine)(neg:Bool):OpR X (compareOp (if neg then .NotIn else .In)) (r2 X.K cv (inD neg)):=by
 intro pins s σ H x y v u Q I rx ry hh;obtain ⟨μ,h,a,b,Z',hr,ra,rb,p⟩:=hh;have hop:OpR X (compareOp (if neg then .NotIn else .In)) (rIn X.K neg):=by cases neg with | true=>exact WA | false=>exact Vy
 have hopN:neg=false->OpR X (compareOp (if neg then .NotIn else .In)) (z4w X.K):=λ z=>by subst z;exact YJ hu
 unfold inD at p;cases rb with
 | tup h1 h2=>exact WI _ hop hopN I rx ry hr ra (.inr h1) h2 p
 | fl h1 h2=>exact WI _ hop hopN I rx ry hr ra (.inl h1.sq) h2 p
 | @loc nn b' m =>
  cases e1:h[nn]? with
  | none=>simp only [e1] at p;exact p.elim
  | some o =>
   have q:=hr.obj nn b' o m e1;cases o with
   | lst ds =>
    simp only [e1] at p;obtain ⟨vs,q1,q2⟩:=q;exact WI _ hop hopN I rx ry hr ra (.inl (SqL.of q1)) q2 p
   | obj _ _=>simp only [e1] at p;exact p.elim
   | dK kvs =>
    simp only [e1] at p;obtain ⟨vs,q1,q2⟩:=q;cases e2:jZ a with
    | none =>
     simp only [e2] at p;cases kvs with
     | cons _ _=>exact p.elim
     | nil =>
      cases q2;cases e3:Zd a with
      | none=>simp only [e3] at p;exact p.elim
      | some k =>
       simp only [e3] at p;obtain ⟨c,rfl,hc⟩:=yS ra e3;cases rx;cases ry;have p':=p.here hr (.bl _);cases neg with
       | true=>exact UF hu I (.inr ⟨q1,rfl⟩) hc λ s' I'=>⟨.bl _,H,I',rfl,p'⟩
       | false=>exact z7g hu I (.inr ⟨q1,rfl⟩) hc λ s' I'=>⟨.bl _,H,I',rfl,p'⟩
    | some k =>
     simp only [e2] at p;have ey:=Wa ra e2;subst ey;cases ry;have p':=p.here hr (.bl _);rw [q2.none] at p';cases neg with
     | true=>exact z05 hu I (DGet.k q1) rx λ s' I'=>⟨.bl _,H,I',rfl,p'⟩
     | false=>exact z9i hu I (DGet.k q1) rx λ s' I'=>⟨.bl _,H,I',rfl,p'⟩
   | dT kvs =>
    simp only [e1] at p;obtain ⟨vs,q1,q2⟩:=q;cases e2:Zd a with
    | none=>simp only [e2] at p;exact p.elim
    | some k =>
     simp only [e2] at p;obtain ⟨c,rfl,hc⟩:=yS ra e2;cases rx;cases ry;have p':=p.here hr (.bl _);rw [q2.none] at p';cases neg with
     | true=>exact UF hu I (.inl q1) hc λ s' I'=>⟨.bl _,H,I',rfl,p'⟩
     | false=>exact z7g hu I (.inl q1) hc λ s' I'=>⟨.bl _,H,I',rfl,p'⟩
 | str z =>
  cases ra with
  | str w =>
   cases neg with
   | true=>exact WB pins s σ H _ _ v u Q I rx ry ⟨w,z,rfl,rfl,p.here hr (.bl _)⟩
   | false=>exact Vv pins s σ H _ _ v u Q I rx ry ⟨w,z,rfl,rfl,p.here hr (.bl _)⟩
  | _=>exact p.elim
 | _=>exact p.elim
theorem Ol (hu:X.A.units+64<cLine)(op:CmpOp):OpR X (compareOp op) (r2 X.K cv (zy op)):=by
 intro pins s σ H x y v u Q I rx ry hh;obtain ⟨μ,h,a,b,Z,hr,ra,rb,p⟩:=hh;cases op with
 | Lt=>exact jr ra rb p λ i j ex ey p=>z73 pins s σ H _ _ v u Q I rx ry ⟨i,j,ex,ey,p.here hr (.bl _)⟩
 | LtE=>exact jr ra rb p λ i j ex ey p=>z74 pins s σ H _ _ v u Q I rx ry ⟨i,j,ex,ey,p.here hr (.bl _)⟩
 | Gt=>exact jr ra rb p λ i j ex ey p=>z75 pins s σ H _ _ v u Q I rx ry ⟨i,j,ex,ey,p.here hr (.bl _)⟩
 | GtE=>exact jr ra rb p λ i j ex ey p=>z76 pins s σ H _ _ v u Q I rx ry ⟨i,j,ex,ey,p.here hr (.bl _)⟩
 | Eq =>
  refine QV p λ pu pv e1 e2 c1 c2 c3 p=>?_;obtain ⟨as,q1⟩:=qV I hr ra rx e1;obtain ⟨bs,q2⟩:=qV I hr rb ry e2;exact SeqAt.compareEq_reads q1 q2 c1 c2 (by have:=Nat.min_le_left pu.depth pv.depth;omega) ⟨.bl _,H,I,rfl,p.here hr (.bl _)⟩
 | NotEq =>
  refine QV p λ pu pv e1 e2 c1 c2 c3 p=>?_;obtain ⟨as,q1⟩:=qV I hr ra rx e1;obtain ⟨bs,q2⟩:=qV I hr rb ry e2;exact SeqAt.compareNe_reads q1 q2 c1 c2 (by have:=Nat.min_le_left pu.depth pv.depth;omega) ⟨.bl _,H,I,rfl,p.here hr (.bl _)⟩
 | In=>exact Oj (cv:=cv) 103 false pins s σ H _ _ v u Q I rx ry ⟨μ,h,_,_,Z,hr,ra,rb,p⟩
 | NotIn=>exact Oj (cv:=cv) 103 true pins s σ H _ _ v u Q I rx ry ⟨μ,h,_,_,Z,hr,ra,rb,p⟩
 | Is =>
  cases b with
  | non =>
   cases rb;cases ry;refine wpAny_is_plain (by cases ra<;>first | (cases rx;rfl) | (obtain ⟨t,rfl⟩:=rx;rfl)) (ZF I (p.here hr (.bl _)) ?_);cases ra<;>first | (cases rx;rfl) | (obtain ⟨t,rfl⟩:=rx;rfl)
  | bl y =>
   cases a with
   | bl x =>
    cases ra;cases rb;cases rx;cases ry;exact wpAny_is_plain rfl (ZF I (p.here hr (.bl _)) (by cases x<;>cases y<;>rfl))
   | _=>exact p.elim
  | _=>exact p.elim
 | IsNot =>
  cases b with
  | non =>
   cases rb;cases ry;refine wpAny_isNot_plain (by cases ra<;>first | (cases rx;rfl) | (obtain ⟨t,rfl⟩:=rx;rfl)) (ZF I (p.here hr (.bl _)) ?_);cases ra<;>first | (cases rx;rfl) | (obtain ⟨t,rfl⟩:=rx;rfl)
  | bl y =>
   cases a with
   | bl x =>
    cases ra;cases rb;cases rx;cases ry;exact wpAny_isNot_plain rfl (ZF I (p.here hr (.bl _)) (by cases x<;>cases y<;>rfl))
   | _=>exact p.elim
  | _=>exact p.elim
end
noncomputable def RB:List Addr->Hp->Bool->Bool->Prop:=λ _ _ b c=>b=c
noncomputable def spI (K:Y00)(cv:XY)(np:Nat)(c:List D->Hh->Res D):Sp:=λ vs H Q E =>
 vs.length=np/\∃ μ h ds,HR K μ h H/\Reps K μ H ds vs/\PostE K cv (Rep K) μ H (c ds h) Q (λ C H'=>E C none H')
noncomputable def WJ:List Str:=["len","isinstance","int","bool","str","tuple","list","range","max","min","sum","all","any","zip","reversed","sorted","set","enumerate","dict","abs","ValueError"]
noncomputable def gOf (sc:Scope)(x:Str):Bool:=decide (sc.names.lookup x=some .globalImplicit)
noncomputable def UJ (scope osc:Scope):Scope :=
  { scope with names:=scope.names.map λ (n,k)=>if (k==.free&&osc.kind==.function&&osc.names.lookup n==some .cell) then (n,.cell) else (n,k) }
noncomputable def Tg.idx:Tg->List Nat
 | .one i _=>[i]
 | .tup is _=>is.map (·.1)
noncomputable def Tg.ok (sc:Scope)(N:XU)(t:Tg):Bool:=t.idx.all λ i=>decide (i<N.length)&&decide (sc.names.lookup (N.getD i "")=some .local\/sc.names.lookup (N.getD i "")=some .cell)
noncomputable def Tg.okS (N:XU)(t:Tg):Bool:=t.idx.all λ i=>decide (i<N.length)
noncomputable def Ze (x:Str):Bool:=!125&&!(x==("__classdict__":Str))
noncomputable def Tg.forI (t:Tg):I->Bool
 | _=>true
mutual
noncomputable def E.ok (sc:Scope)(n:Nm):E->Bool
 | .non _ | .bl _ _ | .int _ _ | .str _ _=>true
 | .var i _=>decide (i<n.N.length)
 | .bin _ a b _=>a.ok sc n&&b.ok sc n
 | .un op a _=>a.ok sc n&&(match op with | .Not=>a.okT | _=>true)
 | .cmp op a b _=>a.ok sc n&&b.ok sc n&&!behindInMarks op (b.py n)
 | .and a b r _=>a.ok sc n&&b.ok sc n&&r.ok sc n&&a.okT&&b.okT&&r.okT
 | .or a b r _=>a.ok sc n&&b.ok sc n&&r.ok sc n&&a.okT&&b.okT&&r.okT
 | .ite c a b _=>c.ok sc n&&a.ok sc n&&b.ok sc n&&c.okT
 | .call f a r _ _=>decide (f<n.F.length)&&!(n.G.any λ q=>decide (q.2=Cn.cls f))&&gOf sc (n.F.getD f "")&&a.ok sc n&&r.ok sc n
 | .len a _ _=>gOf sc "len"&&a.ok sc n
 | .isi T a _ _ _=>gOf sc "isinstance"&&gOf sc (yg T)&&decide (T<5)&&a.ok sc n
 | .sub a i _=>a.ok sc n&&i.ok sc n
 | .tup es _=>es.ok sc n
 | .ofL l=>l.ok sc n
 | .tupL l _ _=>gOf sc "tuple"&&l.ok sc n
 | .tupE e _ _=>gOf sc "tuple"&&e.ok sc n
 | .dicP e _ _=>gOf sc "dict"&&e.ok sc n
 | .cut a lo hi _ _=>a.ok sc n&&lo.ok sc n&&hi.ok sc n
 | .dic _=>true
 | .m0 _ o p1 p=>o.ok sc n&&decide (p1.endLine=p.line)
 | .m1 _ o a p1 p=>o.ok sc n&&a.ok sc n&&decide (p1.endLine=p.line)
 | .c1 f a _ _=>gOf sc f.name&&a.ok sc n
 | .cmpN _ a _ _=>a.ok sc n
 | .listR e _ _ _ _=>gOf sc "list"&&gOf sc "reversed"&&e.ok sc n
 | .gcon x c _=>gOf sc x&&decide ((x,c)∈n.G)
 | .gsub x kvs i _ _=>gOf sc x&&decide ((x,Cn.dic kvs)∈n.G)&&i.ok sc n
noncomputable def Eo.ok (sc:Scope)(n:Nm):Eo->Bool
 | .none=>true
 | .some e=>e.ok sc n
noncomputable def L.ok (sc:Scope)(n:Nm):L->Bool
 | .disp es _=>es.ok sc n
 | .comp elt t it c NC cap csc _=>(it.ok sc n&&t.forI it)&&jy sc csc n.N NC cap&&decide NC.Nodup&&NC.all Ze&&t.ok csc NC&&elt.ok (UJ csc sc) ⟨NC,n.F,n.G⟩&&c.ok (UJ csc sc) ⟨NC,n.F,n.G⟩&&c.okT&&c.short
noncomputable def I.ok (sc:Scope)(n:Nm):I->Bool
 | .seq e=>e.ok sc n
 | .lst l=>l.ok sc n
 | .rng a _ _=>gOf sc "range"&&a.ok sc n
 | .rngD a b c _ _=>gOf sc "range"&&a.ok sc n&&b.ok sc n&&c.ok sc n
noncomputable def Es.ok (sc:Scope)(n:Nm):Es->Bool
 | .nil=>true
 | .cons e r=>e.ok sc n&&r.ok sc n
noncomputable def E.okT:E->Bool
 | .non _ | .bl _ _ | .int _ _ | .str _ _=>false
 | .ite _ _ _ _=>false
 | .ofL _=>false
 | .dic _=>false
 | .gcon _ _ _=>false
 | .un op a _=>match op with | .Not=>a.okT | _=>true
 | _=>true
noncomputable def Es.okT:Es->Bool
 | .nil=>true
 | .cons e r=>e.okT&&r.okT
noncomputable def Es.short:Es->Bool
 | .nil=>true
 | .cons _ .nil=>true
 | .cons _ (.cons _ _)=>false
end
noncomputable def TupK (K:Y00)(a:Addr)(xs:XU):Prop:=∃ (o:Obj) (its:Array Value) (n:Nat),K.lookup a=some o/\o.cls=.type "tuple"/\o.data=.seq its n/\its.size<=sizeLine/\Vals (xs.map V.str) its.toList
noncomputable def CvOk (K:Y00)(v:Value):Cv->Prop
 | .tup xs=>∃ a,v=.ref a/\TupK K a xs
 | .int i=>∃ t,v=.int i t
 | .fn _ x=>∃ f,v=.ref f/\PySem.W.nsIn K mainGlobals x=some (some (.ref f))
 | .oth=>∃ f,v=.ref f
noncomputable def DicV (K:Y00):List (Str×Cv)->List (Key×Value)->Prop
 | [],[]=>True
 | kx::r,qv::s=>qv.1=.inr kx.1/\CvOk K qv.2 kx.2/\DicV K r s
 | _,_=>False
structure IsK (K:Y00)(C:Addr):Prop where
 ha:PySem.W.findIn K (.ref C) "__class__"=some (some (.builtin "object.__class__"))
 hn:PySem.W.specialIn K (.builtin "object.__class__") "__get__"=some (some (.builtin "getset_descriptor.__get__"))
 ht:PySem.W.takesIn K (.builtin "object.__class__")=some true
 hm:PySem.W.mroIn K C (.type "object")=some true
noncomputable def z0x (P:XJ)(w:World)(K:Y00)(v:Value):Cn->Prop
 | .int i=>∃ t,v=.int i t
 | .str x=>∃ t,v=.str x t
 | .tup xs=>∃ a,v=.ref a/\TupK K a xs
 | .cls _=>∃ a,v=.ref a
 | .isc x ys=>∃ D,v=.ref D/\∀ y∈ys,∃ C,PySem.W.nsIn K mainGlobals y=some (some (.ref C))/\IsK K C/\PySem.W.kitOne K (.ref C) (.ref D)=some (decide (y=x))
 | .exc _ _=>∃ a bmB newId initId B,v=.ref a/\PySem.W.excIn K a bmB newId=true/\ExcBaseFacts B newId initId bmB/\bmB.contains (.type "BaseException")=true
 | .dic kvs=>∃ a o es ep vs,v=.ref a/\K.lookup a=some o/\o.ExactDict/\o.data=.dict es ep/\KeysOf (zx P w) es/\Pairs (zx P w) es.toList vs/\(vs.map (·.1)).Nodup/\DicV K kvs vs
structure TstK (K:Y00)(G:List (Str×Cn))(cv:XY)(C:Addr)(u:List Nat):Prop where
 ec:ExC K C
 ve:PySem.W.kitOne K (.ref C) (.type "ValueError")=some true
 ot:∀ y d w,(y,Cn.exc d w)∈G->PySem.W.kitOne K (.ref C) (cv d)=some (u.contains d)
structure Kx (X:Cx)(Z:ZK)(k:Nat)(n:Nm)(cv:XY)(cl:101):Prop where
 th:Thr X Z
 rm:Room (2*k+1) X.A
 nN:X.N=n.N
 nd:X.N.Nodup
 cm:X.calm=true
 kd:X.env.scope.kind=.function
 nm:∀ x∈n.N,Vis X.env.scope x/\Ze x=true
 bm:∀ x,x∈WJ->X.mg x=none
 gc:∀ x c,(x,c)∈n.G->125=false/\∃ v,X.mg x=some v/\z0x X.prog X.w X.K v c
 fn:∀ i x,n.F[i]?=some x->(n.G.any λ q=>decide (q.2=Cn.cls i))=false->125=false/\∃ f fd ps,X.mg x=some (.ref f)/\PySem.W.nsIn X.K mainGlobals x=some (some (.ref f))/\PySem.W.keepIn X.K (.ref f)=true/\Binds X.K fd ps []/\(∀ ds h,cl i ds h≠.no->ds.length=ps.length) /\
  FnOk X.prog X.w X.K X.mg X.base (CXs X.prog X.w) (2*k) f fd ps (spI X.K cv ps.length (cl i))
 mc:∀ x i,(x,Cn.cls i)∈n.G->125=false/\∃ C f fd ps,X.mg x=some (.ref C)/\Mk X.K C f/\ClsN X.K x C/\Binds X.K fd ps []/\(∀ ds h,cl i ds h≠.no->ds.length=ps.length) /\
  FnOk X.prog X.w X.K X.mg X.base (CXs X.prog X.w) (2*k) f fd ps (spI X.K cv ps.length (cl i))
 xc:∀ x c u,(x,Cn.exc c u)∈n.G->X.mg x=some (cv c)/\(∀ D∈u,∃ a d,cv c=.ref a/\cv D=.ref d/\QJ X.K a d)/\∃ a,cv c=.ref a/\TstK X.K n.G cv a u
theorem Kx.gl {X:Cx}{Z:ZK}{k:Nat}{n:Nm}{cv:XY}{cl:101}(C:Kx X Z k n cv cl){x:Str}(h:gOf X.env.scope x=true):Gl X x:=show X.env.scope.names.lookup x=some .globalImplicit from of_decide_eq_true h
theorem J0 {x:Str}(h:Ze x=true):125=false/\(x==("__classdict__":Str))=false:=by unfold Ze at h;simpa using h
theorem wt {α:Type}(r:Res α):(r.bind λ a h=>.ok a h)=r:=by cases r<;>rfl
theorem zj {α β γ:Type}(r:Res α)(f:α->Hh->Res β)(q:β->Hh->Res γ):(r.bind f).bind q=r.bind λ a h=>(f a h).bind q:=by cases r<;>rfl
theorem PE.mono {X:Cx}{e:Expr}{t t':TE}(p:PE X e t)(h:∀ σ H Q,t' σ H Q->t σ H Q):PE X e t':=λ pins s σ H Q I q=>p pins s σ H Q I (h σ H Q q)
theorem PT.mono {X:Cx}{e:Expr}{t t':TT}(p:PT X e t)(h:∀ σ H Q,t' σ H Q->t σ H Q):PT X e t':=λ pins s σ H Q I q=>p pins s σ H Q I (h σ H Q q)
theorem PW.mono {X:Cx}{e:Expr}{t t':TT}(p:PW X e t)(h:∀ σ H Q,t' σ H Q->t σ H Q):PW X e t':=λ wh pins s σ H Q I q=>p wh pins s σ H Q I (h σ H Q q)
theorem PA.mono {X:Cx}{e:List Expr}{t t':TA}(p:PA X e t)(h:∀ σ H Q,t' σ H Q->t σ H Q):PA X e t':=λ ps pins s σ H Q I q=>p ps pins s σ H Q I (h σ H Q q)
noncomputable def toB (d:D)(h:Hh):Res Bool:=match d with | .bl b=>.ok b h | _=>.no
theorem qh (cl:101)(e:E)(ρ:En)(h:Hh):e.evT cl ρ h=(e.ev cl ρ h).bind toB:=rfl
section
variable {X:Cx}{Z:ZK}{k:Nat}{n:Nm}{cv:XY}{cl:101}
theorem L.py_star (l:L)(r:List Expr)(env:Env):starEach (l.py n::r) env=(false,eval (l.py n) env)::starEach r env:=by cases l<;>rfl
theorem zd (e:E)(r:List Expr)(env:Env):starEach (e.py n::r) env=(false,eval (e.py n) env)::starEach r env:=by
 cases e with
 | ofL l=>exact L.py_star l r env
 | _=>rfl
theorem J5:∀ (r:Es) (pos:Pos) (env:Env),(backTo pos (starEach (r.py n) env)).any (·.1)=false
 | .nil,_,_=>rfl
 | .cons e r,pos,env=>by
  show (backTo pos (starEach (e.py n::r.py n) env)).any (·.1)=false;rw [zd];exact J5 r pos env
theorem QW (e:E):Ux (e.py n):=by
 intro o i;cases e with
 | ofL l=>cases l<;>rfl
 | _=>rfl
theorem zM {e:Expr}{m:En->Hh->Res D}(p:PE X e (zt X.K cv (Rep X.K) Z m))(he:∀ whole,isTrue e X.env whole=(do let v <- whole;standAt e.pos;holding [v] (truthy v))) :
  PT X e (zt X.K cv RB Z λ ρ h=>(m ρ h).bind toB):=by
 refine PT.mono (z3u p he) λ σ H Q=>z9 λ μ ρ h hr er q=>?_;refine zc (m:=m) hr er q λ a h1 μ1 H1 x _ e1 r1 er1 qa p1=>?_;unfold toB at p1;cases qa with
 | bl b=>exact ⟨b,rfl,p1.here r1 rfl⟩
 | _=>exact p1.elim
noncomputable def Es.evAndT (cl:101):Es->En->Bool->Hh->Res Bool
 | .nil,_,c,h=>.ok c h
 | .cons e r,ρ,c,h=>if c then (e.evT cl ρ h).bind λ c' h2=>r.evAndT cl ρ c' h2 else .ok false h
noncomputable def Es.evOrT (cl:101):Es->En->Bool->Hh->Res Bool
 | .nil,_,c,h=>.ok c h
 | .cons e r,ρ,c,h=>if c then .ok true h else (e.evT cl ρ h).bind λ c' h2=>r.evOrT cl ρ c' h2
theorem UK:∀ (r:Es) (ρ:En) (d:D) (h:Hh),(r.evAnd cl ρ d h).bind toB=(toB d h).bind λ c h1=>r.evAndT cl ρ c h1
 | .nil,ρ,d,h=>(wt (r:=toB d h)).symm
 | .cons e r,ρ,d,h=>by
  cases d with
  | bl b =>
   cases b with
   | false=>rfl
   | true =>
    show (((e.ev cl ρ h).bind λ y h2=>r.evAnd cl ρ y h2).bind toB)=((e.ev cl ρ h).bind toB).bind λ c' h2=>r.evAndT cl ρ c' h2;rw [zj,zj]
    congr 1
    funext y h2
    exact UK r ρ y h2
  | _=>rfl
theorem Om:∀ (r:Es) (ρ:En) (d:D) (h:Hh),(r.evOr cl ρ d h).bind toB=(toB d h).bind λ c h1=>r.evOrT cl ρ c h1
 | .nil,ρ,d,h=>(wt (r:=toB d h)).symm
 | .cons e r,ρ,d,h=>by
  cases d with
  | bl b =>
   cases b with
   | true=>rfl
   | false =>
    show (((e.ev cl ρ h).bind λ y h2=>r.evOr cl ρ y h2).bind toB)=((e.ev cl ρ h).bind toB).bind λ c' h2=>r.evOrT cl ρ c' h2;rw [zj,zj]
    congr 1
    funext y h2
    exact Om r ρ y h2
  | _=>rfl
end
section
variable {X:Cx}{Z:ZK}{k:Nat}{n:Nm}{cv:XY}{cl:101}
structure SE (X:Cx)(Z:ZK)(n:Nm)(cv:XY)(cl:101)(e:E):Prop where
 pe:PE X (e.py n) (zt X.K cv (Rep X.K) Z (e.ev cl))
 pt:e.okT=true->PT X (e.py n) (zt X.K cv RB Z (e.evT cl))
noncomputable def z0y (X:Cx)(Z:ZK)(n:Nm)(cv:XY)(cl:101)(r:Es):Prop:=∀ (ks:List (Str×Pos)) (pos:Pos),ks.length=(r.py n).length ->
 ∃ trs,PPs X pos (ks.map λ q=>some (.Constant (.str q.1) 0 q.2)) (r.py n) trs/\∀ σ H (Q:List (V×V)->Hp->Prop),zt X.K cv (Reps X.K) Z (r.ev cl) σ H (λ us H'=>Q ((ks.map λ q=>V.str q.1).zip us) H')->YB trs σ H Q
structure SEs (X:Cx)(Z:ZK)(n:Nm)(cv:XY)(cl:101)(r:Es):Prop where
 pa:PA X (r.py n) (zt X.K cv (Reps X.K) Z (r.ev cl))
 an:∀ (b:E) (p:Pos),SE X Z n cv cl b->PE X (.BoolOp .And (b.py n::r.py n) p) (zt X.K cv (Rep X.K) Z λ ρ h=>(b.ev cl ρ h).bind λ y h2=>r.evAnd cl ρ y h2)
 anT:∀ (b:E) (p:Pos),SE X Z n cv cl b->b.okT=true->r.okT=true->PW X (.BoolOp .And (b.py n::r.py n) p) (zt X.K cv RB Z λ ρ h=>(b.evT cl ρ h).bind λ c h2=>r.evAndT cl ρ c h2)
 orr:∀ (b:E) (p:Pos),SE X Z n cv cl b->PE X (.BoolOp .Or (b.py n::r.py n) p) (zt X.K cv (Rep X.K) Z λ ρ h=>(b.ev cl ρ h).bind λ y h2=>r.evOr cl ρ y h2)
 orT:∀ (b:E) (p:Pos),SE X Z n cv cl b->b.okT=true->r.okT=true->PW X (.BoolOp .Or (b.py n::r.py n) p) (zt X.K cv RB Z λ ρ h=>(b.evT cl ρ h).bind λ c h2=>r.evOrT cl ρ c h2)
 ps:z0y X Z n cv cl r
theorem WK {v:V}{d:D}{Q:VK}{σ:St}{H:Hp}(hv:∀ K μ H,Rep K μ H d v)(p:zt X.K cv (Rep X.K) Z (λ _ h=>.ok d h) σ H Q):tC v σ H Q:=by
 obtain ⟨μ,ρ,h,hr,er,q⟩:=p;exact q.here hr (hv _ _ _)
theorem On {f:D->D->Hh->Res D}{a b:E}{σ:St}{H:Hp}{Q:VK}(p:zt X.K cv (Rep X.K) Z (λ ρ h=>(a.ev cl ρ h).bind λ x h1=>(b.ev cl ρ h1).bind λ y h2=>f x y h2) σ H Q) :
  tOp (r2 X.K cv f) (zt X.K cv (Rep X.K) Z (a.ev cl)) (zt X.K cv (Rep X.K) Z (b.ev cl)) σ H Q:=by
 obtain ⟨μ,ρ,h,hr,er,q⟩:=p;refine zc (m:=a.ev cl) hr er q λ da h1 μ1 H1 x _ e1 r1 er1 qa p1=>?_;refine zc (m:=b.ev cl) r1 er1 p1 λ db h2 μ2 H2 y _ e2 r2 er2 qb p2=>?_;exact ⟨μ2,h2,da,db,_,r2,qa.mono e2,qb,p2⟩
theorem z30 {f:D->Hh->Res D}{a:E}{σ:St}{H:Hp}{Q:VK}(p:zt X.K cv (Rep X.K) Z (λ ρ h=>(a.ev cl ρ h).bind λ x h1=>f x h1) σ H Q) :
  tUn (r1 X.K cv f) (zt X.K cv (Rep X.K) Z (a.ev cl)) σ H Q:=by
 obtain ⟨μ,ρ,h,hr,er,q⟩:=p;refine zc (m:=a.ev cl) hr er q λ da h1 μ1 H1 x _ e1 r1 er1 qa p1=>?_;exact ⟨μ1,h1,da,_,r1,qa,p1⟩
theorem z31 (op:UnaryOp)(h:op=.Invert\/op=.USub):UnR X (unaryOp op) (r1 X.K cv (unD op)):=by
 intro pins s σ H x v Q I rx hh;obtain ⟨μ,h',a,Z',hr,ra,p⟩:=hh;rcases h with rfl | rfl
 ·unfold unD at p;cases ra with
  | int i=>exact z4a pins s σ H _ v Q I rx ⟨i,rfl,p.here hr (.int _)⟩
  | _=>exact p.elim
 ·unfold unD at p;cases ra with
  | int i=>exact z49 pins s σ H _ v Q I rx ⟨i,rfl,p.here hr (.int _)⟩
  | _=>exact p.elim
theorem z0z (hu:X.A.units+1<cLine):IxR X (λ x y H Q=>∃ a v,x=.ref a/\DGet H a y (some v)/\Q v H):=by
 intro value slice pins s σ H x y v u Q I rx ry h hs;obtain ⟨a,w,rfl,g,q⟩:=h;cases rx;have ty:s.TypeIs (.ref a) "dict":=by
  rcases g with ⟨kvs,k,e,ey,l⟩ | ⟨kvs,k,b,e,ey,eb,l⟩
  ·obtain ⟨_,_,vs,_,o,es,ep,e1,ex,_⟩:=e.ok I.hok;exact ⟨o,e1,ex.1⟩
  ·obtain ⟨_,_,xs,_,o,es,ep,e1,ex,_⟩:=e.ok I.hok;exact ⟨o,e1,ex.1⟩
 exact tail_any ty slot_dict_getitem.lookup (VB hu I g ry λ w' s' I' r'=>⟨w,H,I',r',q⟩) hs
theorem z7l (hu:X.A.units+1<cLine):IxR X (λ x y H Q=>∃ a b kvs k v,x=.ref a/\y=.ref b/\H a=some (.dT kvs)/\SqT X.K H b (k.map kV)/\qB kvs k=some v/\Q v H):=by
 intro value slice pins s σ H x y v u Q I rx ry h hs;obtain ⟨a,b,kvs,k,w,rfl,rfl,g,hb,hv,q⟩:=h;cases rx;cases ry;have ty:s.TypeIs (.ref a) "dict":=by
  obtain ⟨_,_,xs,_,o,es,ep,e1,ex,_⟩:=(show ObjOk X.prog X.w H s.heap a (.dT kvs) from I.hok a _ g);exact ⟨o,e1,ex.1⟩
 exact tail_any ty slot_dict_getitem.lookup (VL hu I (.inl g) hb hv λ w' s' I' r'=>⟨w,H,I',r',q⟩) hs
theorem RepKs.val {κ:Type}[DecidableEq κ]{K:Y00}{μ:XV}{H:Hp}{k:κ}{d:D}:∀ {ds:List (κ×D)}{vs:List (κ×V)},RepKs K μ H ds vs->wv ds k=some d->∃ v,qB vs k=some v/\Rep K μ H d v
 | _,_,.nil,e=>by unfold wv at e;simp at e
 | _,_,.cons (k:=k') (d:=d') (v:=v') h r,e=>by
  by_cases hk:k'=k
  ·rw [qC (p:=(k',v')) hk];unfold wv at e;rw [Y2x (by simpa using hk)] at e;cases e;exact ⟨_,rfl,h⟩
  ·rw [qD (p:=(k',v')) hk];unfold wv at e;rw [Y2y (by simpa using hk)] at e;exact RepKs.val r e
theorem J6 {K:Y00}{μ:XV}{H:Hp}{d:D}{v:V}{k:Key}(r:Rep K μ H d v)(e:jZ d=some k):v=kV k:=by
 unfold jZ at e;cases r<;>first | (cases e;rfl) | cases e
theorem DicV.at {K:Y00}{k:Str}{c:Cv}:∀ {kvs:List (Str×Cv)}{vs:List (Key×Value)},DicV K kvs vs->kvs.lookup k=some c->∃ v,valueAt vs (Sum.inr k:Key)=some v/\CvOk K v c
 | [],[],_,e=>by cases e
 | [],_::_,h,_=>h.elim
 | _::_,[],h,_=>h.elim
 | (k',ys)::r,(q,v)::s,⟨h1,h2,h4⟩,e=>by
  rw [Y26] at e;by_cases hk:k=k'
  ·subst hk;simp only [beq_self_eq_true] at e;cases e;refine ⟨v,?_,h2⟩;unfold valueAt;rw [Y2x (by simpa using h1)];rfl
  ·have hb:(k==k')=false:=by simpa using hk
   rw [hb] at e;obtain ⟨b,e1,e2⟩:=DicV.at h4 e;refine ⟨b,?_,e2⟩;unfold valueAt at e1 ⊢;rw [Y2y (by
    have h1':q=Sum.inr k':=h1;simp only [decide_eq_true_eq];intro z;rw [h1'] at z;exact hk (Sum.inr.inj z).symm)]
   exact e1
noncomputable def CvV (K:Y00)(u:V):Cv->Prop
 | .tup xs=>∃ a,u=.ref a/\TupK K a xs
 | .int i=>u=.int i
 | .fn _ x=>∃ f,u=.ref f/\PySem.W.nsIn K mainGlobals x=some (some (.ref f))
 | .oth=>∃ f,u=.ref f
theorem CvOk.v {K:Y00}{v:Value}{c:Cv}(h:CvOk K v c):∃ u,RelV u v/\CvV K u c:=by
 cases c with
 | tup xs=>obtain ⟨a,rfl,t⟩:=h;exact ⟨.ref a,rfl,a,rfl,t⟩
 | int i=>obtain ⟨t,rfl⟩:=h;exact ⟨.int i,⟨t,rfl⟩,rfl⟩
 | fn i x=>obtain ⟨f,rfl,t⟩:=h;exact ⟨.ref f,rfl,f,rfl,t⟩
 | oth=>obtain ⟨f,rfl⟩:=h;exact ⟨.ref f,rfl,f,rfl⟩
theorem z53 {kvs:List (Str×Cv)}:IxR X (λ x y H Q=>∃ a k c,x=.ref a/\y=.str k/\z0x X.prog X.w X.K (.ref a) (.dic kvs)/\kvs.lookup k=some c/\∀ u,CvV X.K u c->Q u H):=by
 intro value slice pins s σ H x y v u Q I rx ry h hs;obtain ⟨a,k,xs,rfl,rfl,ok,l,q⟩:=h;cases rx;obtain ⟨a',o,es,ep,vs,ea,e1,ex,ed,ks,ps,nd,dv⟩:=ok;cases ea;obtain ⟨b,e2,tk⟩:=dv.at l;obtain ⟨bu,tr,tk⟩:=tk.v;have eh:=I.kIn a o e1;have dd:s.heap.DictOf (zx X.prog X.w) a vs:=⟨o,es,ep,eh,ex,ed,ks,ps,nd⟩;exact tail_any ⟨o,eh,ex.1⟩ slot_dict_getitem.lookup (wpAny_getItem_of (Za (k:=.inr k) ry) dd.mapOf e2 ⟨bu,H,I.tok _,tr,q bu tk⟩) hs
theorem TupK.rep {K:Y00}{μ:XV}{H:Hp}{a:Addr}{xs:XU}(h:TupK K a xs):Rep K μ H (.tup (xs.map .str)) (.ref a):=by
 have rs:∀ ys:List Str,Reps K μ H (ys.map D.str) (ys.map V.str):=λ ys=>by
  induction ys with
  | nil=>exact .nil
  | cons y r ih=>exact .cons (.str y) ih
 exact .tup (.inr h) (rs xs)
theorem CvV.rep {K:Y00}{μ:XV}{H:Hp}{u:V}{c:Cv}(h:CvV K u c)(nf:c.isFn=false):Rep K μ H c.d u:=by
 cases c with
 | tup xs=>obtain ⟨a,rfl,t⟩:=h;exact t.rep
 | int i=>cases h;exact .int i
 | fn i x=>cases nf
 | oth=>cases nf
theorem z10 (hu:X.A.units+1<cLine):IxR X (r2 X.K cv zC):=by
 intro value slice pins s σ H x y v u Q I rx ry hh hs;obtain ⟨μ,h,a,b,Z',hr,ra,rb,p⟩:=hh;cases ra with
 | tup h1 h2 =>
  cases rb with
  | int k =>
   rw [sub_tup] at p;split at p
   ·rename_i d e;obtain ⟨w,e1,e2⟩:=h2.atI e;exact z4f value slice pins s σ H _ _ v u Q I rx ry ⟨_,_,_,w,rfl,rfl,h1,e1,p.here hr e2⟩ hs
   ·exact p.elim
  | _=>exact p.elim
 | fl h1 h2 =>
  cases rb with
  | int k =>
   rw [sub_fl] at p;split at p
   ·rename_i d e;obtain ⟨w,e1,e2⟩:=h2.atI e;exact Uy value slice pins s σ H _ _ v u Q I rx ry ⟨_,_,_,w,rfl,rfl,h1.sq,e1,p.here hr e2⟩ hs
   ·exact p.elim
  | _=>exact p.elim
 | str z =>
  cases rb with
  | int k =>
   rw [z0p] at p;split at p
   ·rename_i c;split at p
    ·rename_i d e;exact z4g value slice pins s σ H _ _ v u Q I rx ry ⟨_,_,_,rfl,rfl,qg c,e,p.here hr (.str _)⟩ hs
    ·exact p.elim
   ·exact p.elim
  | _=>exact p.elim
 | @loc nn a m =>
  rw [z0q] at p;cases e1:h[nn]? with
  | none=>rw [e1] at p;exact p.elim
  | some o =>
   rw [e1] at p;have q:=hr.obj nn a o m e1;cases o with
   | lst xs =>
    obtain ⟨vs,q1,q2⟩:=q;cases rb with
    | int k =>
     cases e2:atI xs k with
     | none=>simp only [e2] at p;exact p.elim
     | some d =>
      simp only [e2] at p;obtain ⟨w,e3,e4⟩:=q2.atI e2;exact Uy value slice pins s σ H _ _ v u Q I rx ry ⟨_,_,_,w,rfl,rfl,SqL.of q1,e3,p.here hr e4⟩ hs
    | _=>exact p.elim
   | obj _ _=>exact p.elim
   | dK kvs =>
    obtain ⟨vs,q1,q2⟩:=q;cases e2:jZ b with
    | none=>simp only [e2,Y3j] at p;exact p.elim
    | some k =>
     simp only [e2,Y2u] at p;cases e3:wv kvs k with
     | none=>simp only [e3] at p;exact p.elim
     | some d =>
      simp only [e3] at p;obtain ⟨w,e4,e5⟩:=q2.val e3;have ey:=J6 rb e2;subst ey;exact z0z hu value slice pins s σ H _ _ v u Q I rx ry ⟨_,w,rfl,e4▸DGet.k q1,p.here hr e5⟩ hs
   | dT kvs =>
    obtain ⟨vs,q1,q2⟩:=q;cases e2:Zd b with
    | none=>simp only [e2,Y3j] at p;exact p.elim
    | some k =>
     simp only [e2,Y2u] at p;cases e3:wv kvs k with
     | none=>simp only [e3] at p;exact p.elim
     | some d =>
      simp only [e3] at p;obtain ⟨w,e4,e5⟩:=q2.val e3;obtain ⟨c,rfl,hc⟩:=yS rb e2;exact z7l hu value slice pins s σ H _ _ v u Q I rx ry ⟨_,_,_,_,w,rfl,rfl,q1,hc,e4,p.here hr e5⟩ hs
 | _=>exact p.elim
noncomputable def z9s (K:Y00)(cv:XY):List V->Hp->VK->Prop:=λ xs H Q=>∃ x,xs=[x]/\r1 K cv yh x H Q
theorem VN:jb X (.builtin "len") (z9s X.K cv):=by
 intro pins s σ H xs us Q I r hh;obtain ⟨x,rfl,μ,h,a,Z',hr,ra,p⟩:=hh;refine GI pins s σ H _ us Q I r ⟨x,?_⟩;cases ra with
 | tup h1 h2=>exact ⟨_,rfl,.inr ⟨_,h1,h2.length⟩,p.here hr (.int _)⟩
 | @loc nn b m =>
  rw [len_loc] at p;cases e1:rd h nn with
  | none=>rw [e1] at p;exact p.elim
  | some ys =>
   rw [e1] at p;obtain ⟨vs,hs1,rs⟩:=hr.rd e1 m;exact ⟨_,rfl,.inl ⟨_,hs1,rs.length⟩,p.here hr (.int _)⟩
 | fl h1 h2=>exact ⟨_,rfl,.inl ⟨_,h1.sq,h2.length⟩,p.here hr (.int _)⟩
 | str y =>
  rw [len_str] at p;split at p
  ·rename_i c;exact ⟨_,rfl,⟨qg c,rfl⟩,p.here hr (.int _)⟩
  ·exact p.elim
 | _=>exact p.elim
noncomputable def isD (T:Nat)(d:D)(h:Hh):Res D:=match isI h d T with | some b=>.ok (.bl b) h | none=>.no
theorem WL {P:Nat->Prop}{T:Nat}(hT:T<5)(a:P 0)(b:P 1)(c:P 2)(d:P 3)(e:P 4):P T:=by
 match T,hT with | 0,_=>exact a | 1,_=>exact b | 2,_=>exact c | 3,_=>exact d | 4,_=>exact e
theorem Oo (T:Nat)(hT:T<5):jb X (.builtin "isinstance") (λ xs H Q=>∃ x,xs=[x,.ty (UG T)]/\r1 X.K cv (isD T) x H Q):=by
 intro pins s σ H xs us Q I r hh;obtain ⟨x,rfl,μ,h,a,Z',hr,ra,p⟩:=hh;obtain ⟨u,w',rfl,rx,rw'⟩:=GG r;cases (show w'=Value.type (UG T) from rw');unfold isD at p;have key:∀ (b:Bool),Q (.bl b) H->∀ tk,EP X pins σ Q (.bool b) { s with toks:=tk }:=λ b q tk=>⟨.bl b,H,I.tok _,rfl,q⟩;cases ra with
 | non =>
  have p1:Q (.bl false) H:=p.here hr (.bl _);refine qU I rx .non (b:=false) ?_ (key _ p1);apply WL hT<;>rfl
 | bl y =>
  have p1:Q (.bl (T==0||T==1)) H:=p.here hr (.bl _);refine qU I rx (.bl y) (b:=(T==0||T==1)) ?_ (key _ p1);apply WL hT<;>rfl
 | int y =>
  have p1:Q (.bl (T==0)) H:=p.here hr (.bl _);refine qU I rx (.int y) (b:=(T==0)) ?_ (key _ p1);apply WL hT<;>rfl
 | str y =>
  have p1:Q (.bl (T==2)) H:=p.here hr (.bl _);refine qU I rx (.str y) (b:=(T==2)) ?_ (key _ p1);apply WL hT<;>rfl
 | tup h1 h2 =>
  have p1:Q (.bl (T==3)) H:=p.here hr (.bl _);cases rx;obtain ⟨its,rv,⟨o,g1,g2,_⟩,_⟩:=I.tuple h1;refine Y13 PySem.W.kitx_tuple I.kIn ⟨_,g1,g2⟩ (b:=(T==3)) ?_ (λ z=>nomatch z) (key _ p1);apply WL hT<;>rfl
 | fl h1 h2 =>
  have p1:Q (.bl (T==4)) H:=p.here hr (.bl _);cases rx;obtain ⟨its,rv,⟨o,n',g1,g2,_⟩,_⟩:=I.list h1.sq;refine Y13 Y2q I.kIn ⟨_,g1,g2⟩ (b:=(T==4)) ?_ (λ z=>nomatch z) (key _ p1);apply WL hT<;>rfl
 | @loc nn b m =>
  cases e1:rd h nn with
  | none=>rw [show isI h (.loc nn) T=(rd h nn).map λ _=>T==4 from rfl,e1] at p;exact p.elim
  | some ys =>
   rw [show isI h (.loc nn) T=(rd h nn).map λ _=>T==4 from rfl,e1] at p;have p1:Q (.bl (T==4)) H:=p.here hr (.bl _);obtain ⟨vs,hs1,rs⟩:=hr.rd e1 m;cases rx;obtain ⟨its,rv,⟨o,n',g1,g2,_⟩,_⟩:=I.list hs1;refine Y13 Y2q I.kIn ⟨_,g1,g2⟩ (b:=(T==4)) ?_ (λ z=>nomatch z) (key _ p1);apply WL hT<;>rfl
end
section
variable {X:Cx}{Z:ZK}{k:Nat}{n:Nm}{cv:XY}{cl:101}
noncomputable def rM0 (K:Y00)(cv:XY)(m:M0):V->List V->Hp->VK->Prop:=λ x vs H Q=>vs=[]/\r1 K cv (m0D m) x H Q
noncomputable def rM1 (K:Y00)(cv:XY)(m:M1):V->List V->Hp->VK->Prop:=λ x vs H Q=>∃ y,vs=[y]/\r2 K cv (m1D m) x y H Q
theorem wd {K:Y00}{μ:XV}{H:Hp}{h:Hh}(hr:HR K μ h H){n:Nat}{a:Addr}{xs:List D}(m:μ[n]?=some a)(e:h[n]?=some (.lst xs)):∃ vs,H a=some (.lst vs)/\Reps K μ H xs vs:=hr.obj n a _ m e
theorem Reps.reverse {K:Y00}{μ:XV}{H:Hp}:∀ {ds:List D}{vs:List V},Reps K μ H ds vs->Reps K μ H ds.reverse vs.reverse
 | _,_,.nil=>.nil
 | _,_,.cons h r=>by rw [Y20,Y20];exact r.reverse.append (.cons h .nil)
theorem Reps.dropLast {K:Y00}{μ:XV}{H:Hp}:∀ {ds:List D}{vs:List V},Reps K μ H ds vs->Reps K μ H ds.dropLast vs.dropLast
 | _,_,.nil=>.nil
 | _,_,.cons h .nil=>.nil
 | _,_,.cons h (.cons h' r)=>.cons h (Reps.dropLast (.cons h' r))
theorem Reps.set {K:Y00}{μ:XV}{H:Hp}{d:D}{v:V}(q:Rep K μ H d v):∀ {ds:List D}{vs:List V} (i:Nat),Reps K μ H ds vs->Reps K μ H (ds.set i d) (vs.set i v)
 | _,_,_,.nil=>.nil
 | _,_,0,.cons _ r=>.cons q r
 | _,_,i+1,.cons h r=>.cons h (Reps.set q i r)
theorem Reps.take {K:Y00}{μ:XV}{H:Hp}:∀ {ds:List D}{vs:List V} (i:Nat),Reps K μ H ds vs->Reps K μ H (ds.take i) (vs.take i)
 | _,_,0,_=>.nil
 | _,_,_+1,.nil=>.nil
 | _,_,i+1,.cons h r=>.cons h (Reps.take i r)
theorem Reps.drop {K:Y00}{μ:XV}{H:Hp}:∀ {ds:List D}{vs:List V} (i:Nat),Reps K μ H ds vs->Reps K μ H (ds.drop i) (vs.drop i)
 | _,_,0,r=>r
 | _,_,_+1,.nil=>.nil
 | _,_,i+1,.cons _ r=>Reps.drop i r
theorem Reps.cut {K:Y00}{μ:XV}{H:Hp}{ds:List D}{vs:List V}(r:Reps K μ H ds vs)(lo hi:Option Int):Reps K μ H (jI ds lo hi) (QF vs lo hi):=by
 unfold jI QF;rw [<- r.length];exact (r.drop _).take _
theorem z11:MtR X "list.pop" (rM0 X.K cv .pop):=by
 intro pins s σ H x xs v us Q I rx rs hh;obtain ⟨rfl,μ,h,a,Z',hr,ra,p⟩:=hh;unfold m0D at p;cases ra with
 | @loc nn b m =>
  cases e1:h[nn]? with
  | none=>simp only [e1] at p;exact p.elim
  | some o =>
   cases o with
   | dK _=>simp only [e1] at p;exact p.elim
   | dT _=>simp only [e1] at p;exact p.elim
   | obj _ _=>simp only [e1] at p;exact p.elim
   | lst ds =>
    simp only [e1] at p;obtain ⟨vs,q1,q2⟩:=wd hr m e1;cases e2:ds.getLast? with
    | none=>simp only [e2] at p;exact p.elim
    | some d =>
     simp only [e2] at p;rw [List.getLast?_eq_getElem?] at e2;obtain ⟨w,e3,e4⟩:=q2.get e2;rw [q2.length] at e3;obtain ⟨hr',ex⟩:=hr.chg (u:=.lst vs.dropLast) (o':=.lst ds.dropLast) e1 m λ H' ex e=>⟨_,e,(q2.mono ex).dropLast⟩;exact z4i pins s σ H _ _ v us Q I rx rs ⟨b,vs,w,rfl,rfl,q1,e3,p μ _ w ex hr' (e4.mono ex)⟩
 | _=>exact p.elim
theorem YO:MtR X "list.append" (rM1 X.K cv .append):=by
 intro pins s σ H x xs v us Q I rx rs hh;obtain ⟨y,rfl,μ,h,a,d,Z',hr,ra,rb,p⟩:=hh;unfold m1D at p;cases ra with
 | @loc nn b m =>
  cases e1:h[nn]? with
  | none=>simp only [e1] at p;exact p.elim
  | some o =>
   cases o with
   | dK _=>simp only [e1] at p;exact p.elim
   | dT _=>simp only [e1] at p;exact p.elim
   | obj _ _=>simp only [e1] at p;exact p.elim
   | lst ds =>
    simp only [e1] at p;obtain ⟨vs,q1,q2⟩:=wd hr m e1;split at p
    ·rename_i c;obtain ⟨hr',ex⟩:=hr.chg (u:=.lst (vs++[y])) (o':=.lst (ds++[d])) e1 m λ H' ex e=>⟨_,e,(q2.mono ex).append (.cons (rb.mono ex) .nil)⟩;exact Vz pins s σ H _ _ v us Q I rx rs ⟨b,vs,y,rfl,rfl,q1,by rw [<- q2.length];exact UI c,p μ _ .non ex hr' .non⟩
    ·exact p.elim
 | _=>exact p.elim
theorem YQ (l b:Addr)(xs ys:Array Value)(n m:Nat)(dd:Option Addr)(ss:Array (Option Value))(h0:¬(!xs.isEmpty&&Builtin.List.listTooLong (xs.size+ys.size))=true)(h1:xs.size<=sizeLine)(h2:xs.size+ys.size<=sizeLine+1) :
  Meets (Builtin.«list.extend» ⟨[.ref l,.ref b],[]⟩) (λ _ R s =>
   s.heap.get? l=some { cls:=.type "list",data:=.seq xs n } /\
   s.heap.get? b=some ⟨.type "tuple",dd,.seq ys m,ss⟩ /\
   R (.ok (.ret Value.none)) { s with heap:=s.heap.update l (Obj.mapSeq λ x=>x++ys),toks:=s.toks }) :=
 .of_wp λ prog w A R s h=>by
  obtain ⟨hp,g,d,tk,os⟩:=s;obtain ⟨hl,hb,h⟩:=h;have f1:=AutoSeq1.idx_int;have f2:=AutoSeq1.sub_list_tuple;have f3:=AutoSeq1.sub_tuple_list;have f4:=AutoSeq1.sub_tuple_tuple;have f5:=AutoSeq1.sub_list_list;have hz:(xs++ys).size<=sizeLine+1:=by rw [Array.size_append];exact h2
  wp_walk using (wpAny_updateSeq hl rfl (hz:=h1) (_hz':=hz)),AutoSeq1.wpAny_loadPart' hl,AutoSeq1.wpAny_loadPart' hb
  exact ⟨_,rfl,h⟩
noncomputable def z7m (K:Y00):V->List V->Hp->VK->Prop:=λ x vs H Q=>∃ l b xs zs,x=.ref l/\vs=[.ref b]/\H l=some (.lst xs)/\SqT K H b zs/\xs.length+zs.length<=sizeLine/\Q .non (upd H l (.lst (xs++zs)))
theorem z12 {X:Cx}:MtM X "list.extend" (z7m X.K):=by
 intro pins s σ H x vs v us Q I rx rv h;obtain ⟨l,b,xs,zs,rfl,rfl,hH,hB,hz,q⟩:=h;cases rx;obtain ⟨u,rfl,ru⟩:=rv.one;cases ru;obtain ⟨z,its,n,r,hl,e⟩:=I.lstM hH;obtain ⟨its2,r2,⟨o,e2,oc,m,od⟩,z2⟩:=I.tuple hB;obtain ⟨oc',dd,od',ss⟩:=o;cases oc;cases od;have hl2:=r2.length;have hsz:its.toArray.size+its2.toArray.size<=sizeLine:=by simp only [Y08];omega
 have hlong:¬ (!its.toArray.isEmpty&&Builtin.List.listTooLong (its.toArray.size+its2.toArray.size))=true:=by rw [ZI hsz,Bool.and_false];exact Y0t
 refine call_meets F.slot_list_extend ⟨_,e,rfl⟩ F.entry_list_extend (F.args_list_extend_2 _ _) (YQ l b its.toArray its2.toArray n m dd ss hlong (by simp only [Y08];omega) 103) ⟨e,e2,?_⟩;refine ⟨.non,_,I.lset (its':=its++its2) hH e 110 (r.append r2) (by rw [Y0k];omega),rfl,q⟩
theorem YR:MtR X "list.extend" (rM1 X.K cv .extend):=by
 intro pins s σ H x xs v us Q I rx rs hh;obtain ⟨y,rfl,μ,h,a,d,Z',hr,ra,rb,p⟩:=hh;unfold m1D at p;cases ra with
 | @loc nn b m =>
  cases e1:h[nn]? with
  | none=>simp only [e1] at p;exact p.elim
  | some o =>
   cases o with
   | dK _=>simp only [e1] at p;exact p.elim
   | dT _=>simp only [e1] at p;exact p.elim
   | obj _ _=>simp only [e1] at p;exact p.elim
   | lst ds =>
    simp only [e1] at p;obtain ⟨vs,q1,q2⟩:=wd hr m e1;cases rb with
    | @loc nm b2 m2 =>
     cases e2:h[nm]? with
     | none=>simp only [e2] at p;exact p.elim
     | some o2 =>
      cases o2 with
      | dK _=>simp only [e2] at p;exact p.elim
      | dT _=>simp only [e2] at p;exact p.elim
      | obj _ _=>simp only [e2] at p;exact p.elim
      | lst ds2 =>
       simp only [e2] at p;obtain ⟨vs2,q3,q4⟩:=wd hr m2 e2;split at p
       ·rename_i c;obtain ⟨hr',ex⟩:=hr.chg (u:=.lst (vs++vs2)) (o':=.lst (ds++ds2)) e1 m λ H' ex e=>⟨_,e,(q2.mono ex).append (q4.mono ex)⟩;exact VA pins s σ H _ _ v us Q I rx rs ⟨b,b2,vs,vs2,rfl,rfl,q1,q3,by rw [<- q2.length,<- q4.length];exact qg c,p μ _ .non ex hr' .non⟩
       ·exact p.elim
    | @tup ds2 vs2 b2 q3 q4 =>
     simp only at p;split at p
     ·rename_i c;obtain ⟨hr',ex⟩:=hr.chg (u:=.lst (vs++vs2)) (o':=.lst (ds++ds2)) e1 m λ H' ex e=>⟨_,e,(q2.mono ex).append (q4.mono ex)⟩;exact z12 pins s σ H _ _ v us Q I rx rs ⟨b,b2,vs,vs2,rfl,rfl,q1,q3,by rw [<- q2.length,<- q4.length];exact qg c,p μ _ .non ex hr' .non⟩
     ·exact p.elim
    | _=>exact p.elim
 | _=>exact p.elim
noncomputable def z9t (K:Y00)(cv:XY):V->Option Int->Option Int->Hp->VK->Prop:=λ x lo hi H Q=>∃ μ h a Z,HR K μ h H/\Rep K μ H a x/\PostE K cv (Rep K) μ H (j4 a lo hi h) Q Z
theorem ZB {K:Y00}{cv:XY}{μ:XV}{H:Hp}{h:Hh}{ds:List D}{vs:List V}{Q:VK}{Z:Value->Hp->Prop}(hr:HR K μ h H)(r:Reps K μ H ds vs)(p:PostE K cv (Rep K) μ H (new (.lst ds) h) Q Z) :
  ∀ b,H b=none->Q (.ref b) (upd H b (.lst vs)):=λ b hb=>by
 refine p _ _ _ ((zo hb).add hb) (hr.alloc hb (hr.fresh hb) λ μ' g=>⟨_,zA,(r.mono (zo hb)).mono' g⟩) (.loc ?_);rw [<- hr.len,Y0m (Y0a _),Y1v];rfl
theorem z13 {xs:List D}{lo hi:Option Int}{h:Hh}:j4 (.tup xs) lo hi h=if HT.sIx xs.length 0 lo=0/\HT.sIx xs.length xs.length hi=xs.length then .ok (.tup xs) h else .ok (.tup (jI xs lo hi)) h:=rfl
theorem z14 {n:Nat}{lo hi:Option Int}{h:Hh}:j4 (.loc n) lo hi h=match rd h n with | some xs=>new (.lst (jI xs lo hi)) h | none=>.no:=rfl
theorem z15:SlR X (z9t X.K cv):=by
 intro pins s σ H x v vl vu lo hi sl Q I rx hs pl pu hh;obtain ⟨μ,h,a,Z',hr,ra,p⟩:=hh;cases ra with
 | tup h1 h2 =>
  rw [z13] at p;split at p
  ·rename_i c;rw [h2.length] at c;exact z0h pins s σ H _ v vl vu lo hi sl Q I rx hs pl pu ⟨_,_,rfl,h1,c.1,c.2,p.here hr (.tup h1 h2)⟩
  ·rename_i c;rw [h2.length] at c;exact z4e pins s σ H _ v vl vu lo hi sl Q I rx hs pl pu ⟨_,_,rfl,h1,c,λ b hb=>p μ _ _ (zo hb) (hr.tup hb) (.tup (SqT.of zA) ((h2.cut lo hi).mono (zo hb)))⟩
 | fl h1 h2=>exact Uz pins s σ H _ v vl vu lo hi sl Q I rx hs pl pu ⟨_,_,rfl,h1.sq,ZB hr (h2.cut lo hi) p⟩
 | str x =>
  simp only [j4] at p;split at p
  ·rename_i c;exact z4v pins s σ H _ v vl vu lo hi sl Q I rx hs pl pu ⟨x,rfl,Y0j c 102,p.here hr (.str _)⟩
  ·exact p.elim
 | @loc nn b m =>
  rw [z14] at p;cases e1:rd h nn with
  | none=>simp only [e1] at p;exact p.elim
  | some xs =>
   simp only [e1] at p;obtain ⟨vs,hs1,rs⟩:=hr.rd e1 m;exact Uz pins s σ H _ v vl vu lo hi sl Q I rx hs pl pu ⟨_,_,rfl,hs1,ZB hr (rs.cut lo hi) p⟩
 | _=>exact p.elim
theorem VO {K:Y00}{μ:XV}{H:Hp}{h:Hh}{d:D}{v:V}{xs:List D}(hr:HR K μ h H)(r:Rep K μ H d v)(e:jk d h=some xs):∃ a vs,v=.ref a/\((SqL K H a vs/\(∀ ys,d≠.tup ys))\/(SqT K H a vs/\d=.tup xs))/\Reps K μ H xs vs:=by
 unfold jk at e;cases r with
 | tup h1 h2=>cases e;exact ⟨_,_,rfl,.inr ⟨h1,rfl⟩,h2⟩
 | fl h1 h2=>cases e;exact ⟨_,_,rfl,.inl ⟨h1.sq,λ _ z=>nomatch z⟩,h2⟩
 | @loc nn b m =>
  unfold PI.rd at e;cases e1:h[nn]? with
  | none=>simp only [e1] at e;cases e
  | some o =>
   cases o with
   | dK _=>simp only [e1] at e;cases e
   | dT _=>simp only [e1] at e;cases e
   | obj _ _=>simp only [e1] at e;cases e
   | lst ds =>
    simp only [e1] at e;cases e;obtain ⟨vs,q1,q2⟩:=wd hr m e1;exact ⟨_,_,rfl,.inl ⟨SqL.of q1,λ _ z=>nomatch z⟩,q2⟩
 | _=>cases e
noncomputable def z7n (d:D)(h:Hh):Res D:=match jk d h with | some xs=>.ok (.tup xs) h | none=>.no
theorem VP:jb X (.type "tuple") (λ xs H Q=>∃ x,xs=[x]/\r1 X.K cv z7n x H Q):=by
 intro pins s σ H xs us Q I r hh;obtain ⟨x,rfl,μ,h,a,Z',hr,ra,p⟩:=hh;unfold z7n at p;cases e:jk a h with
 | none=>rw [e] at p;exact p.elim
 | some ds =>
  rw [e] at p;obtain ⟨b,vs,rfl,q1,q2⟩:=VO hr ra e;refine y7 pins s σ H _ us Q I r ⟨b,vs,rfl,?_⟩;rcases q1 with ⟨q1,_⟩ | ⟨q1,rfl⟩
  ·exact .inl ⟨q1,λ l hl=>p μ _ _ (zo hl) (hr.tup hl) (.tup (SqT.of zA) (q2.mono (zo hl)))⟩
  ·exact .inr ⟨q1,p.here hr ra⟩
theorem J7 {K:Y00}{μ:XV}{H:Hp}:∀ {ds:List D}{vs:List V}{bs:List Bool},Reps K μ H ds vs->QS ds=some bs->vs=bs.map V.bl
 | _,_,_,.nil,e=>by cases e;rfl
 | _,_,_,.cons r t,e=>by
  cases r with
  | bl b =>
   unfold QS at e;obtain ⟨bs',e1,rfl⟩:=Y1i.mp e;rw [J7 t e1];rfl
  | _=>cases e
theorem yr {K:Y00}{μ:XV}{H:Hp}{h:Hh}{n:Nat}{a:Addr}{ds:List D}(hr:HR K μ h H)(m:μ[n]?=some a)(e:PI.rd h n=some ds):∃ vs,H a=some (.lst vs)/\Reps K μ H ds vs:=by
 unfold PI.rd at e;cases e1:h[n]? with
 | none=>simp only [e1] at e;cases e
 | some o =>
  cases o with
  | dK _=>simp only [e1] at e;cases e
  | dT _=>simp only [e1] at e;cases e
  | obj _ _=>simp only [e1] at e;cases e
  | lst xs =>
   simp only [e1] at e;cases e;exact wd hr m e1
theorem VQ:jb X (.type "str") (λ xs H Q=>∃ x,xs=[x]/\r1 X.K cv (c1D .str) x H Q):=by
 intro pins s σ H xs us Q I r hh;obtain ⟨x,rfl,μ,h,a,Z',hr,ra,p⟩:=hh;unfold c1D at p;cases ra with
 | int i =>
  simp only at p;split at p
  ·rename_i c;exact Wv pins s σ H _ us Q I r ⟨i,rfl,c,p.here hr (.str _)⟩
  ·exact p.elim
 | str z =>
  obtain ⟨u,rfl,t,rfl⟩:=qy r;exact PySem.P.str_of_str ⟨.str z,H,I,117,p.here hr (.str _)⟩
 | _=>exact p.elim
theorem VR:jb X (.type "int") (λ xs H Q=>∃ x,xs=[x]/\r1 X.K cv (c1D .int) x H Q):=by
 intro pins s σ H xs us Q I r hh;obtain ⟨x,rfl,μ,h,a,Z',hr,ra,p⟩:=hh;unfold c1D at p;cases ra with
 | int i=>exact JX pins s σ H _ us Q I r (.inl ⟨i,rfl,p.here hr (.int _)⟩)
 | bl b=>exact JX pins s σ H _ us Q I r (.inr ⟨b,rfl,p.here hr (.int _)⟩)
 | str z =>
  simp only at p;split at p
  ·rename_i n e;split at p
   ·rename_i c;exact VE pins s σ H _ us Q I r ⟨z,n,rfl,e,c,p.here hr (.int _)⟩
   ·exact p.elim
  ·exact p.elim
 | _=>exact p.elim
theorem VS:jb X (.builtin "abs") (λ xs H Q=>∃ x,xs=[x]/\r1 X.K cv (c1D .abs) x H Q):=by
 intro pins s σ H xs us Q I r hh;obtain ⟨x,rfl,μ,h,a,Z',hr,ra,p⟩:=hh;unfold c1D at p;cases ra with
 | int i=>exact GH pins s σ H _ us Q I r ⟨i,rfl,p.here hr (.int _)⟩
 | _=>exact p.elim
theorem VT (hc:X.calm=true):jb X (.builtin "all") (λ xs H Q=>∃ x,xs=[x]/\r1 X.K cv (c1D .all) x H Q):=by
 intro pins s σ H xs us Q I r hh;obtain ⟨x,rfl,μ,h,a,Z',hr,ra,p⟩:=hh;unfold c1D at p;cases ra with
 | @loc nn b m =>
  simp only at p;split at p
  ·rename_i bs e;obtain ⟨ds,e1,e2⟩:=Y2b.mp e;obtain ⟨vs,q1,q2⟩:=yr hr m e1;have ev:=J7 q2 e2;subst ev;exact O3 hc pins s σ H _ us Q I r ⟨b,bs,rfl,SqL.of q1,p.here hr (.bl _)⟩
  ·exact p.elim
 | _=>exact p.elim
theorem Op (hc:X.calm=true):jb X (.builtin "any") (λ xs H Q=>∃ (p:Addr) (bs:List Bool),xs=[.ref p]/\SqL X.K H p (bs.map V.bl)/\Q (.bl (bs.any id)) H):=by
 intro pins s σ H xs us Q I r h;obtain ⟨p,bs,rfl,hq,q⟩:=h;obtain ⟨u,rfl,ru⟩:=qy r;cases ru;obtain ⟨its,rv,pl,hz⟩:=I.list hq;have hb:=ZS rv;have hl:s.heap.IsList p its.toArray:=pl.isList;have hlt:p<s.heap.objs.size:=by obtain ⟨_,e,_⟩:=hl;exact Y0g e
 refine call_any_walk (wpAny_pyIter_list hl ?_);refine ⟨s.heap.objs.size,[s.heap.objs.size,p],[s.heap.objs.size],its.toArray.size,_,_,λ i=>(bs[i]?).getD false,rfl,Walks.list (A:=X.A.in1) (I.ok.hd hc) _ p (Y0s hlt) its.toArray,
  ⟨⟨_,Y0n _ rfl,rfl,rfl⟩,hl.push _⟩,λ i v s' Q' E' hP hQ=>?_,λ h' tk hk=>?_⟩
 ·obtain ⟨b,e,rfl⟩:=hb.get i v (by simpa using hP);simp only [e,Y3i] at hQ;exact wpAny_truthy_bool hQ
 ·have e:((List.range its.toArray.size).any λ i=>(bs[i]?).getD false)=bs.any id:=by
   rw [Y08,hb.length];exact PyProof.Rows.LSm.range_any bs
  rw [e];exact ⟨.bl (bs.any id),H,I.kept (PyProof.Rows.LSm.kept_iter hk),rfl,q⟩
theorem VU (hc:X.calm=true):jb X (.builtin "any") (λ xs H Q=>∃ x,xs=[x]/\r1 X.K cv (c1D .any) x H Q):=by
 intro pins s σ H xs us Q I r hh;obtain ⟨x,rfl,μ,h,a,Z',hr,ra,p⟩:=hh;unfold c1D at p;cases ra with
 | @loc nn b m =>
  simp only at p;split at p
  ·rename_i bs e;obtain ⟨ds,e1,e2⟩:=Y2b.mp e;obtain ⟨vs,q1,q2⟩:=yr hr m e1;have ev:=J7 q2 e2;subst ev;exact Op hc pins s σ H _ us Q I r ⟨b,bs,rfl,SqL.of q1,p.here hr (.bl _)⟩
  ·exact p.elim
 | _=>exact p.elim
theorem Wc {K:Y00}{μ:XV}{H:Hp}:∀ {ds:List D}{vs:List V}{is:List Int},Reps K μ H ds vs->qH ds=some is->vs=is.map V.int
 | _,_,_,.nil,e=>by cases e;rfl
 | _,_,_,.cons q r,e=>by
  cases q with
  | int i =>
   unfold qH at e;obtain ⟨b,e1,rfl⟩:=Y1i.mp e;rw [Wc r e1];rfl
  | _=>cases e
theorem VW (hc:X.calm=true):jb X (.builtin "sum") (λ xs H Q=>∃ x,xs=[x]/\r1 X.K cv (c1D .sum) x H Q):=by
 intro pins s σ H xs us Q I r hh;obtain ⟨x,rfl,μ,h,a,Z',hr,ra,p⟩:=hh;unfold c1D at p;cases ra with
 | @loc nn b m =>
  simp only at p;split at p
  ·rename_i bs e;obtain ⟨ds,e1,e2⟩:=Y2b.mp e;obtain ⟨vs,q1,q2⟩:=yr hr m e1;have ev:=Wc q2 e2;subst ev;exact VJ hc pins s σ H _ us Q I r ⟨b,bs,rfl,SqL.of q1,p.here hr (.int _)⟩
  ·exact p.elim
 | _=>exact p.elim
theorem Oq:MtM X "list.index" (λ x vs H Q=>∃ l xs y j,x=.ref l/\vs=[y]/\SqL X.K H l xs/\jH y=true/\xs.all jH=true/\xs.findIdx? (λ z=>eqV z y)=some j/\Q (.int (j:Nat)) H):=by
 intro pins s σ H x vs v us Q I rx rv h;obtain ⟨l,xs,y,j,rfl,rfl,hq,fy,fs,hj,q⟩:=h;cases rx;obtain ⟨u,rfl,ru⟩:=rv.one;obtain ⟨its,r,pl,hz⟩:=I.list hq;have hn:=yK;obtain ⟨⟨cls,dd,data,sl⟩,n,e,c1,_,c2⟩:=pl;simp only at c1 c2;subst c1 c2;obtain ⟨jl,jt,jn⟩:=List.findIdx?_eq_some_iff_getElem.mp hj;have hl:=r.length;have at':∀ m (hm:m<its.length),eqU y its[m]=eqV (xs[m]' 103) y:=λ m hm=>by
  obtain ⟨w,ew,rw'⟩:=r.get (Y0b (l:=xs) (i:=m) 103);rw [Y0b hm] at ew;cases ew;exact ZH rw' (Y14.mp fs _ (Y3l _))
 refine call_meets PySem.F.slot_list_index ⟨_,e,rfl⟩ PySem.F.entry_list_index (PySem.F.args_list_index_2 _ _)
  (SeqAt.list_indexAt l its.toArray n dd sl u (eqU y) j (by rw [Y08];omega) 103 ?_ ?_) ⟨e,λ w hw=>wN ru fy r fs w (by simpa using hw),.int (j:Nat),H,I.tok _,117,q⟩
 ·simp only [List.getElem_toArray];rw [at' j 103];exact jt
 ·intro m hm hmj;simp only [List.getElem_toArray];rw [at' m (by simpa using hm)];simpa using jn m hmj
theorem VX:MtR X "list.index" (rM1 X.K cv .index):=by
 intro pins s σ H x xs v us Q I rx rs hh;obtain ⟨y,rfl,μ,h,a,d,Z',hr,ra,rb,p⟩:=hh;unfold m1D at p;cases ra with
 | @loc nn b m =>
  cases e1:h[nn]? with
  | none=>simp only [e1] at p;exact p.elim
  | some o =>
   cases o with
   | dK _=>simp only [e1] at p;exact p.elim
   | dT _=>simp only [e1] at p;exact p.elim
   | obj _ _=>simp only [e1] at p;exact p.elim
   | lst ds =>
    simp only [e1] at p;obtain ⟨vs,q1,q2⟩:=wd hr m e1;split at p
    ·rename_i c;obtain ⟨rfl,f1⟩:=ZY rb c.1;obtain ⟨rfl,f2⟩:=yR q2 c.2.1;split at p
     ·rename_i j ej;refine Oq pins s σ H _ _ v us Q I rx rs ⟨b,_,_,j,rfl,rfl,SqL.of q1,f1,f2,?_,p.here hr (.int _)⟩;rw [List.findIdx?_map];exact ej
     ·exact p.elim
    ·exact p.elim
 | _=>exact p.elim
noncomputable def z9u (K:Y00):BS:=λ o i v H Q=>∃ μ h a b c h',HR K μ h H/\Rep K μ H a o/\Rep K μ H b i/\Rep K μ H c v/\yq a b c h=some h'/\∀ μ' H',Ext K μ H μ' H'->HR K μ' h' H'->Q H'
theorem RepKs.map {κ:Type}[DecidableEq κ]{K:Y00}{μ:XV}{H:Hp}{k:κ}{d:D}{v:V}(q:Rep K μ H d v):∀ {ds:List (κ×D)}{vs:List (κ×V)},RepKs K μ H ds vs ->
  RepKs K μ H (ds.map λ kv=>if kv.1=k then (kv.1,d) else kv) (vs.map λ kv=>if kv.1=k then (kv.1,v) else kv)
 | _,_,.nil=>.nil
 | _,_,.cons (k:=k') h r=>by
  rw [Y0i,Y0i];by_cases e:k'=k
  ·rw [if_pos e,if_pos e];exact .cons q (RepKs.map q r)
  ·rw [if_neg e,if_neg e];exact .cons h (RepKs.map q r)
theorem RepKs.any {κ:Type}[DecidableEq κ]{K:Y00}{μ:XV}{H:Hp}(k:κ):∀ {ds:List (κ×D)}{vs:List (κ×V)},RepKs K μ H ds vs->(ds.any λ kv=>decide (kv.1=k))=(vs.any λ kv=>decide (kv.1=k))
 | _,_,.nil=>rfl
 | _,_,.cons h r=>by rw [Y1f,Y1f,RepKs.any k r]
theorem RepKs.snoc {κ:Type}[DecidableEq κ]{K:Y00}{μ:XV}{H:Hp}{k:κ}{d:D}{v:V}(q:Rep K μ H d v):∀ {ds:List (κ×D)}{vs:List (κ×V)},RepKs K μ H ds vs->RepKs K μ H (ds++[(k,d)]) (vs++[(k,v)])
 | _,_,.nil=>.cons q .nil
 | _,_,.cons h r=>.cons h (RepKs.snoc q r)
theorem RepKs.put {κ:Type}[DecidableEq κ]{K:Y00}{μ:XV}{H:Hp}{k:κ}{d:D}{v:V}{ds:List (κ×D)}{vs:List (κ×V)}(r:RepKs K μ H ds vs)(q:Rep K μ H d v):RepKs K μ H (ZU ds k d) (wZ vs k v):=by
 unfold ZU wZ;rw [<- r.any k]
 split
 ·exact r.map q
 ·exact r.snoc q
theorem Os (hu:X.A.units+1<cLine):z3y X (z9u X.K):=by
 intro pins s σ H o i v ov iv u Q I ro ri rv hh;obtain ⟨μ,h,a,b,c,h',hr,ra,rb,rc,e,q⟩:=hh;unfold yq at e;cases ra with
 | @loc nn p m =>
  cases e1:h[nn]? with
  | none=>simp only [e1] at e;cases e
  | some ob =>
   cases ob with
   | lst xs =>
    simp only [e1] at e;obtain ⟨vs,q1,q2⟩:=wd hr m e1;cases rb with
    | int k =>
     cases e2:ixN xs.length k with
     | none=>simp only [e2,Option.map_none] at e;cases e
     | some j =>
      simp only [e2,Y2a] at e;cases e;obtain ⟨hr',ex⟩:=hr.chg (u:=.lst (vs.set j v)) (o':=.lst (xs.set j c)) e1 m λ H' ex e=>⟨_,e,(q2.mono ex).set (rc.mono ex) j⟩;exact GL pins s σ H _ _ v ov iv u Q I ro ri rv ⟨p,vs,k,j,rfl,rfl,q1,by rw [<- q2.length];exact e2,q μ _ ex hr'⟩
    | _=>cases e
   | obj _ _=>simp only [e1] at e;cases e
   | dT _=>simp only [e1] at e;cases e
   | dK kvs =>
    simp only [e1] at e;obtain ⟨vs,q1,q2⟩:=(hr.obj nn p _ m e1:RepO X.K μ H p (.dK kvs));cases e2:jZ b with
    | none=>simp only [e2,Y3j] at e;cases e
    | some k =>
     simp only [e2,Y2u] at e;split at e
     ·rename_i hl;cases e;have ey:=J6 rb e2;subst ey;obtain ⟨hr',ex⟩:=hr.chg (u:=.dK (wZ vs k v)) (o':=.dK (ZU kvs k c)) e1 m λ H' ex e=>⟨_,e,(q2.mono ex).put (rc.mono ex)⟩;cases ro;exact VC hu I (DPut.k q1 (by rw [<- q2.length];exact UI hl)) ri rv λ s' I'=>⟨_,I',q μ _ ex hr'⟩
     ·cases e
 | _=>cases e
end
theorem jz {α β γ δ:Type}{K:Y00}{cv:XY}{R:List Addr->Hp->α->β->Prop}{R':List Addr->Hp->γ->δ->Prop}{μ0 μ:XV}{ρ:En}{h:Hh}{σ:St}{H0 H:Hp}{Z:ZK}{Zz:Value->Hp->Prop}{m:En->Hh->Res α}{f:α->Hh->Res γ}{Q:δ->Hp->Prop}{Q':β->Hp->Prop}
  (e0:Ext K μ0 H0 μ H) (hr:HR K μ h H) (er:ER K μ ρ σ H) (p:PostE K cv R' μ0 H0 ((m ρ h).bind f) Q Zz) (hz:∀ C H',Zz C H'->Z σ C H')
  (go:∀ a h1 μ1 H1 x,m ρ h=.ok a h1->Ext K μ H μ1 H1->HR K μ1 h1 H1->ER K μ1 ρ σ H1->R μ1 H1 a x->PostE K cv R' μ0 H0 (f a h1) Q Zz->Q' x H1) :
  zt K cv R Z m σ H Q':=by
 refine ⟨μ,ρ,h,hr,er,?_⟩;cases e:m ρ h with
 | ok a h1 =>
  rw [e,bind_ok] at p;exact λ μ1 H1 x e1 r1 q1=>go a h1 μ1 H1 x e e1 r1 (er.mono e1) q1 p
 | exc c h1 =>
  rw [e,bind_exc] at p;exact λ μ1 H1 e1 r1=>hz _ _ (p μ1 H1 (e0.trans e1) r1)
 | no=>rw [e,bind_no] at p;exact p
noncomputable def Src (K:Y00)(μ0:XV)(H0:Hp)(c:Ck)(ds:List D)(J:It):Prop:=∀ μ h H,Ext K μ0 H0 μ H->HR K μ h H->stay c h ->
 (∀ i d,ds[i]?=some d->J.go i H/\∀ x H',J.yld i H x H'->Ext K μ H μ H'/\HR K μ h H'/\Rep K μ H' d x)/\J.stop ds.length H
noncomputable def RJ (K:Y00):List Addr->Hp->(Ck×List D)->It->Prop:=λ μ H q J=>Src K μ H q.1 q.2 J
noncomputable def RL (K:Y00)(H0:Hp):List Addr->Hp->List D->V->Prop:=λ μ H ds v=>∃ p vs,v=.ref p/\H p=some (.lst vs)/\Reps K μ H ds vs/\p∉μ/\H0 p=none
abbrev Ot (K:Y00)(cv:XY)(Z:ZK)(m:En->Hh->Res (List D)):TE:=λ σ H Q=>zt K cv (RL K H) Z m σ H Q
section
variable {K:Y00}{μ:XV}{H:Hp}{h:Hh}{ds:List D}{vs:List V}{a:Addr}
theorem J8 {c:Ck}{J:It}(k:∀ μ1 h1 H1,Ext K μ H μ1 H1->HR K μ1 h1 H1->stay c h1->(∀ i d,ds[i]?=some d->J.go i H1/\∀ x H',J.yld i H1 x H'->H'=H1/\Rep K μ1 H1 d x)/\J.stop ds.length H1):Src K μ H c ds J:=λ μ1 h1 H1 ex hr st =>
 ⟨λ i d e=>⟨((k μ1 h1 H1 ex hr st).1 i d e).1,λ x H' y=>by obtain ⟨rfl,r⟩:=((k μ1 h1 H1 ex hr st).1 i d e).2 x H' y;exact ⟨Ext.refl,hr,r⟩⟩,(k μ1 h1 H1 ex hr st).2⟩
theorem YS {c:Ck}(k:∀ μ1 h1 H1,Ext K μ H μ1 H1->HR K μ1 h1 H1->stay c h1->∃ vs,SqL K H1 a vs/\Reps K μ1 H1 ds vs):Src K μ H c ds (Itl K a):=J8 λ μ1 h1 H1 ex hr st=>by
 obtain ⟨vs,q1,q2⟩:=k μ1 h1 H1 ex hr st;refine ⟨λ i d e=>?_,⟨vs,q1,by rw [<- q2.length];exact Y0a _⟩⟩;obtain ⟨w,e1,e2⟩:=q2.get e;refine ⟨⟨vs,w,q1,e1⟩,λ x H' y=>⟨y.1,?_⟩⟩
 have:=y.2 vs q1
 rw [e1] at this;cases this;exact e2
theorem z16 {n:Nat}(m:μ[n]?=some a):Src K μ H [(n,ds)] ds (Itl K a):=YS λ μ1 h1 H1 ex hr st=>by
 have e:rd h1 n=some ds:=st (n,ds) (Y0d.mpr rfl);have m1:=ex.loc n a m;unfold PI.rd at e;cases e1:h1[n]? with
 | none=>simp only [e1] at e;cases e
 | some o =>
  cases o with
  | dK _=>simp only [e1] at e;cases e
  | dT _=>simp only [e1] at e;cases e
  | obj _ _=>simp only [e1] at e;cases e
  | lst xs =>
   simp only [e1] at e;cases e;obtain ⟨vs,q1,q2⟩:=wd hr m1 e1;exact ⟨vs,SqL.of q1,q2⟩
theorem z54 (f:Fz K H a vs)(r:Reps K μ H ds vs):Src K μ H [] ds (Itl K a):=YS λ μ1 h1 H1 ex hr st=>⟨vs,(ex.fz _ _ f).sq,r.mono ex⟩
theorem z17 (e:H a=some (.lst vs))(n:a∉μ)(r:Reps K μ H ds vs):Src K μ H [] ds (Itl K a):=YS λ μ1 h1 H1 ex hr st=>⟨vs,SqL.of (ex.oth _ _ e n),r.mono ex⟩
theorem z18 (f:SqT K H a vs)(r:Reps K μ H ds vs):Src K μ H [] ds (Itt K a):=J8 λ μ1 h1 H1 ex hr st=>by
 have q1:=ex.tup _ _ f;have q2:=r.mono ex;refine ⟨λ i d e=>?_,⟨vs,q1,by rw [<- q2.length];exact Y0a _⟩⟩;obtain ⟨w,e1,e2⟩:=q2.get e;refine ⟨⟨vs,w,q1,e1⟩,λ x H' y=>⟨y.1,?_⟩⟩
 have:=y.2 vs q1
 rw [e1] at this;cases this;exact e2
theorem z19 (z:Str):Src K μ H [] (z.cps.toList.map λ c=>.str ⟨#[c]⟩) (Its z):=J8 λ μ1 h1 H1 ex hr st=>by
 refine ⟨λ i d e=>?_,by show z.length<=_;rw [Y09];exact Y31 rfl⟩;rw [Y0u] at e;cases e1:z.cps.toList[i]? with
 | none=>rw [e1] at e;cases e
 | some c =>
  rw [e1] at e;cases e;refine ⟨?_,λ x H' y=>⟨y.1,?_⟩⟩
  ·have:=(Y02.mp e1).1
   exact (by simpa using this:i<z.cps.size)
  ·obtain ⟨c',e2,rfl⟩:=y.2;rw [e1] at e2;cases e2;exact .str _
theorem Ou (i:Int)(j:Nat):Src K μ H [] ((List.range j).map λ (k:Nat)=>.int (i-(k:Nat))) (z0j i j):=J8 λ μ1 h1 H1 ex hr st=>by
 refine ⟨λ m d e=>?_,by show j<=_;rw [Y09,Y2d];exact Y0a _⟩;rw [Y0u] at e;cases e1:(List.range j)[m]? with
 | none=>rw [e1] at e;cases e
 | some c =>
  rw [e1] at e;cases e;obtain ⟨hi,e2⟩:=Y02.mp e1;rw [Y2d] at hi;rw [List.getElem_range] at e2;subst e2;exact ⟨hi,λ x H' y=>⟨y.1,by rw [y.2];exact .int _⟩⟩
theorem z1a (j:Nat):Src K μ H [] ((List.range j).map λ (k:Nat)=>.int (k:Nat)) (Itr 0 j):=J8 λ μ1 h1 H1 ex hr st=>by
 refine ⟨λ i d e=>?_,by show j<=_;rw [Y09,Y2d];exact Y0a _⟩;rw [Y0u] at e;cases e1:(List.range j)[i]? with
 | none=>rw [e1] at e;cases e
 | some c =>
  rw [e1] at e;cases e;obtain ⟨hi,e2⟩:=Y02.mp e1;rw [Y2d] at hi;rw [List.getElem_range] at e2;subst e2;refine ⟨hi,λ x H' y=>⟨y.1,?_⟩⟩;rw [y.2,Int.zero_add];exact .int _
end
section
variable {X:Cx}{Z:ZK}{k:Nat}{n:Nm}{cv:XY}{cl:101}{tg:Expr}
theorem z55 {l:Expr}{tl:TE}(hl:PE X l tl):PI X tg l (λ σ H R=>tl σ H λ x H1=>(∃ a,x=.ref a/\(∃ xs,SqL X.K H1 a xs)/\R (Itl X.K a) H1)\/(∃ a,x=.ref a/\(∃ xs,SqT X.K H1 a xs)/\R (Itt X.K a) H1)\/∃ z,x=.str z/\R (Its z) H1):=by
 intro pins s σ H R I h;refine thn (hl pins s σ H _ I h) λ v s1 ⟨x,H1,I1,r1,q1⟩=>?_;rcases q1 with ⟨a,rfl,⟨xs,hq⟩,q⟩ | ⟨a,rfl,⟨xs,hq⟩,q⟩ | ⟨x,rfl,q⟩
 ·cases r1;obtain ⟨its,rv,p,hz⟩:=I1.list hq;refine wpAny_pyIter_list p.isList ?_;refine ⟨s1.heap.objs.size,[s1.heap.objs.size],_,_,H1,rfl,I1.kept (t':=s1.toks) λ b o e=>Y05 _ e,JV a _,⟨_,Y0n _ rfl,rfl,rfl⟩,λ b hb=>?_,q⟩;have e:b=s1.heap.objs.size:=by simpa using hb
  subst e;exact I1.fpOk (Y0a _) (I1.hok.fresh (Y0a _))
 ·cases r1;obtain ⟨its,rv,p,hz⟩:=I1.tuple hq;refine wpAny_pyIter_tuple (show s1.heap.IsTuple a its.toArray from p) ?_;refine ⟨s1.heap.objs.size,[s1.heap.objs.size],_,_,H1,rfl,I1.kept (t':=s1.toks) λ b o e=>Y05 _ e,Ys a _,⟨_,Y0n _ rfl,rfl,rfl⟩,λ b hb=>?_,q⟩;have e:b=s1.heap.objs.size:=by simpa using hb
  subst e;exact I1.fpOk (Y0a _) (I1.hok.fresh (Y0a _))
 ·obtain ⟨t,rfl⟩:=r1;have fp:∀ b∈[s1.heap.objs.size],Zj X pins H1 b:=λ b hb=>by
   have e:b=s1.heap.objs.size:=by simpa using hb
   subst e;exact I1.fpOk (Y0a _) (I1.hok.fresh (Y0a _))
  cases ha:x.cps.all (·<128) with
  | false =>
   refine wpAny_pyIter_wide ha ?_;exact ⟨s1.heap.objs.size,[s1.heap.objs.size],_,_,H1,rfl,I1.kept (t':=s1.toks) λ b o e=>Y05 _ e,VD _ x t,⟨_,Y0n _ rfl,rfl,rfl⟩,fp,q⟩
  | true =>
   refine wpAny_pyIter_ascii ha ?_;exact ⟨s1.heap.objs.size,[s1.heap.objs.size],_,_,H1,rfl,I1.kept (t':=s1.toks) λ b o e=>Y05 _ e,YE _ x t,⟨_,Y0n _ rfl,rfl,rfl⟩,fp,q⟩
theorem PI.mono {iter:Expr}{t t':TI}(p:L2.PI X tg iter t)(h:∀ σ H R,t' σ H R->t σ H R):L2.PI X tg iter t':=λ pins s σ H R I q=>p pins s σ H R I (h σ H R q)
noncomputable def gB (K:Y00)(t:Tg):TG:=λ v σ H Q=>∃ μ ρ d ρ' h,HR K μ h H/\ER K μ ρ σ H/\Rep K μ H d v/\jC t d ρ=some ρ' /\
 ∀ σ',ER K μ ρ' σ' H->σ'.length=σ.length->(∀ i,i∉t.idx->σ'[i]?=σ[i]?)->Q σ' H
theorem PG.mono {t t':TG}(p:PG X tg t)(h:∀ v σ H Q,t' v σ H Q->t v σ H Q):PG X tg t':=λ pins s σ H v u Q I r q=>p pins s σ H v u Q I r (h v σ H Q q)
noncomputable def gNs:List (Nat×Pos)->TGs
 | []=>z6y
 | q::r=>z2q (JT q.1) (gNs r)
theorem yT (hN:X.N.Nodup):∀ (is:List (Nat×Pos)),(∀ q∈is,q.1<X.N.length/\Loc X.env.scope (X.N.getD q.1 "")/\(X.fn (X.N.getD q.1 "")=true\/X.env.scope.names.lookup (X.N.getD q.1 "")=some .local)) ->
  PGs X (is.map λ q=>.Name (X.N.getD q.1 "") q.2) (gNs is)
 | [],_=>BT
 | q::r,h=>by
  have hq:=h q (Y06 ..);exact Gw (Us (i:=q.1) hN (by rw [Y0v,Y0b hq.1];rfl) hq.2.1 hq.2.2) (yT hN r λ z hz=>h z (Y04 _ hz))
theorem wO (N:XU)(env:Env):∀ is:List (Nat×Pos),(assignEach (is.map λ q=>.Name (N.getD q.1 "") q.2) env).length=is.length/\(assignEach (is.map λ q=>.Name (N.getD q.1 "") q.2) env).findIdx? (·.1)=none
 | []=>⟨rfl,rfl⟩
 | q::r=>by
  have ih:=wO N env r;rw [Y0i];refine ⟨?_,?_⟩
  ·show ((false,_)::assignEach (r.map λ q=>.Name (N.getD q.1 "") q.2) env).length=_;rw [Y0q,ih.1,Y0q]
  ·show ((false,_)::assignEach (r.map λ q=>.Name (N.getD q.1 "") q.2) env).findIdx? (·.1)=none;rw [List.findIdx?_cons,ih.2];rfl
theorem WM {K:Y00}{μ:XV}{H:Hp}:∀ (is:List (Nat×Pos)) {ds:List D}{vs:List V}{ρ:En}{σ:St}{Q:St->Hp->Prop},Reps K μ H ds vs->ds.length=is.length->ER K μ ρ σ H ->
  (∀ σ',ER K μ ((is.zip ds).foldl (λ ρ q=>ρ.set q.1.1 (some q.2)) ρ) σ' H->σ'.length=σ.length->(∀ i,i∉is.map (·.1)->σ'[i]?=σ[i]?)->Q σ' H)->gNs is vs σ H Q
 | [],_,_,ρ,σ,Q,r,hl,er,q=>by
  cases r with
  | nil=>exact ⟨rfl,q σ er rfl λ _ _=>rfl⟩
  | cons _ _=>cases hl
 | p::is,_,_,ρ,σ,Q,r,hl,er,q=>by
  cases r with
  | nil=>cases hl
  | cons r1 r2 =>
   refine ⟨_,_,rfl,?_⟩;refine WM is r2 (by simpa using hl) (er.set r1 p.1) λ σ' e1 e2 e3=>?_;refine q σ' e1 (e2.trans Y1d) λ i hi=>?_;rw [Y0i] at hi;rw [e3 i λ z=>hi (Y04 _ z),Y0h λ z=>hi (by rw [<- z];exact Y06 ..)]
theorem z7o (hc:X.calm=true) (hN:X.N.Nodup) (t:Tg) (h:∀ i∈t.idx,i<X.N.length/\Loc X.env.scope (X.N.getD i "")/\(X.fn (X.N.getD i "")=true\/X.env.scope.names.lookup (X.N.getD i "")=some .local)):PG X (t.py X.N) (gB X.K t):=by
 cases t with
 | one i p =>
  have hq:=h i (Y0d.mpr rfl);refine PG.mono (Us (i:=i) hN (by rw [Y0v,Y0b hq.1];rfl) hq.2.1 hq.2.2) λ v σ H Q ⟨μ,ρ,d,ρ',h,hr,er,r,e,q⟩=>?_;cases e;exact q _ (er.set r i) Y1d λ j hj=>Y0h λ z=>hj (by rw [<- z];exact Y0d.mpr rfl)
 | tup is p =>
  refine PG.mono (Gy (k:=0) (pos:=p) hc (yT hN is λ q hq=>h q.1 (Y0e.mpr ⟨q,hq,rfl⟩)) (wO X.N X.env is).1 (wO X.N X.env is).2) λ v σ H Q ⟨μ,ρ,d,ρ',h,hr,er,r,e,q⟩=>?_;unfold jC at e;cases r with
  | tup h1 h2 =>
   simp only at e;split at e
   ·rename_i c;cases e;exact ⟨_,_,rfl,h1,by rw [<- h2.length];exact c,WM is h2 c er q⟩
   ·cases e
  | _=>cases e
end
theorem UL:(1000000:Nat)<sizeLine:=by rw [sizeLine_eq];decide
section
variable {X:Cx}{Z:ZK}{k:Nat}{n:Nm}{cv:XY}{cl:101}
theorem z7p {K:Y00}{μ:XV}{H:Hp}{ρ:En}{σ:St}(cap:List (Option Nat))(er:ER K μ ρ σ H):ER K μ (qe cap ρ) (qF cap σ) H:=by
 refine ⟨by unfold qe qF;rw [Y09,Y09],λ j d e=>?_⟩;unfold qe at e;unfold qF;rw [Y0u] at e ⊢;cases e1:cap[j]? with
 | none=>rw [e1] at e;cases e
 | some o =>
  rw [e1] at e;cases o with
  | none=>cases e
  | some i =>
   have e':(ρ[i]?).bind id=some d:=Option.some.inj e;cases e2:ρ[i]? with
   | none=>rw [e2] at e';cases e'
   | some o2 =>
    rw [e2] at e';have e3:o2=some d:=e';subst e3;obtain ⟨v,q1,q2⟩:=er.val i d e2;exact ⟨v,by show some ((σ[i]?).bind id)=_;rw [q1];rfl,q2⟩
theorem Ov {osc scope:Scope}{N NC:XU}{cap:List (Option Nat)}{t:Tg}(cok:jy osc scope N NC cap=true)(ht:t.ok scope NC=true)(σ:St):∀ i∈t.idx,(qF cap σ)[i]?=some none:=by
 intro i hi;unfold Tg.ok at ht;have h1:=Y14.mp ht i hi;rw [Y0c] at h1;have hl:i<NC.length:=of_decide_eq_true h1.1;have hloc:scope.names.lookup (NC.getD i "")=some .local\/scope.names.lookup (NC.getD i "")=some .cell:=of_decide_eq_true h1.2;unfold jy at cok;simp only [Y0c] at cok;obtain ⟨⟨⟨⟨⟨k1,k2⟩,k3⟩,k4⟩,k5⟩,k6⟩:=cok;have hj:=Y14.mp k6 i (Y1a.mpr hl);have hN:NC[i]?=some (NC.getD i ""):=by rw [Y0v,Y0b hl];rfl
 have hc:i<cap.length:=by rw [beq_iff_eq.mp k5];exact hl
 unfold qF;rw [Y0u];cases e:cap[i]? with
 | none=>rw [List.getElem?_eq_none_iff] at e;omega
 | some o =>
  cases o with
  | none=>rfl
  | some m =>
   exfalso
   rw [e,hN] at hj;simp only [Y0c,beq_iff_eq] at hj;have hfree:=hj.2;rcases hloc with z | z<;>(rw [hfree] at z;cases z)
theorem We {scope:Scope}{NC:XU}{cap:List (Option Nat)}{t:Tg}{mi:En->Hh->Res (Ck×List D)}{mc:En->Hh->Res Bool}{me:En->Hh->Res D}
  (cok:jy X.env.scope scope X.N NC cap=true) (ht:t.ok scope NC=true) {σ:St}{H:Hp}{Q:VK}
  (p:Ot X.K cv Z (λ ρ h=>(mi ρ h).bind λ q h1=>if q.2.length<=1000000 then zE q.1 (zT t (qe cap ρ) mc me) q.2 [] h1 else .no) σ H Q) :
  O0 Z cap (zt X.K cv (RJ X.K) Z mi) (gB X.K t) (λ Zc=>zt X.K cv RB Zc mc) (λ Zc=>zt X.K cv (Rep X.K) Zc me) σ H Q:=by
 obtain ⟨μ,ρ,h,hr,er,p⟩:=p;refine jz (m:=mi) Ext.refl hr er p (λ _ _ z=>z) λ q h1 μ1 H1 J _ e1 r1 er1 src p1=>?_;split at p1;rotate_left
 ·exact p1.elim
 rename_i hlen;obtain ⟨c,ds⟩:=q;refine ⟨λ i m ys H2=>m=ds.length-i/\i<=ds.length/\∃ μ2 h2 acc,Ext X.K μ1 H1 μ2 H2/\HR X.K μ2 h2 H2/\Reps X.K μ2 H2 acc ys/\acc.length<=i/\PostE X.K cv (RL X.K H) μ H (zE c (zT t (qe cap ρ) mc me) (ds.drop i) acc h2) Q (Z σ),
  ⟨ds.length,by simp,Y1h _,μ1,h1,[],Ext.refl,r1,.nil,Y0a _,p1⟩,?_⟩
 rintro i m ys H2 ⟨rfl,hi',μ2,h2,acc,e2,r2,ry,ha,p2⟩
 have hyl:ys.length<=i:=by rw [<- ry.length];exact ha
 have hll:ds.length<=1000000:=hlen;by_cases hlt:i<ds.length
 ·right;rw [Y2o hlt] at p2;unfold zE at p2;split at p2;rotate_left
  ·exact p2.elim
  rename_i st;obtain ⟨s1,s2⟩:=src μ2 h2 H2 e2 r2 st;obtain ⟨g1,g2⟩:=s1 i ds[i] (Y0b hlt);refine ⟨g1,by have:=UL;omega,λ x H3 y=>?_⟩;obtain ⟨e2',r2',rx⟩:=g2 x H3 y;replace e2:=e2.trans e2';replace r2:=r2';replace ry:=ry.mono e2';have er2:ER X.K μ2 ρ σ H3:=er1.mono e2;unfold zT at p2;cases eb:jC t ds[i] (qe cap ρ) with
  | none=>rw [eb] at p2;exact p2.elim
  | some ρ' =>
   rw [eb] at p2;refine ⟨μ2,qe cap ρ,ds[i],ρ',h2,r2,z7p cap er2,rx,eb,λ σ4 er4 hl4 hs4=>⟨⟨hl4,λ j v ej=>?_⟩,?_⟩⟩
   ·have nj:j∉t.idx:=λ z=>by rw [Ov cok ht σ j z] at ej;cases ej
    rw [hs4 j nj];exact ej
   have p3:PostE X.K cv (RL X.K H) μ H ((mc ρ' h2).bind λ b h3=>(if b then (me ρ' h3).bind λ d h4=>Res.ok (some d) h4 else Res.ok none h3).bind λ o h'=>zE c (zT t (qe cap ρ) mc me) (ds.drop (i+1)) (Oe acc o) h') Q (Z σ):=by
    have p2':=p2;rw [zj] at p2';exact p2'
   refine jz (m:=mc) (R:=RB) (e1.trans e2) r2 er4 p3 (λ _ _ z=>z) λ b h3 μ3 H3' bb _ e3 r3 er5 qb p4=>?_;have qb':b=bb:=qb;subst qb';cases b with
   | false =>
    refine qA ⟨ds.length-(i+1),by omega,rfl,hlt,μ3,h3,acc,e2.trans e3,r3,ry.mono e3,Nat.le_succ_of_le ha,p4⟩
   | true =>
    refine yf ?_;have p5:PostE X.K cv (RL X.K H) μ H ((me ρ' h3).bind λ d h4=>zE c (zT t (qe cap ρ) mc me) (ds.drop (i+1)) (acc++[d]) h4) Q (Z σ):=by
     have p4':=p4;rw [if_pos rfl,zj] at p4';exact p4'
    refine jz (m:=me) ((e1.trans e2).trans e3) r3 er5 p5 (λ _ _ z=>z) λ d h4 μ4 H4 v _ e4 r4 er6 qd p6=>?_;exact ⟨ds.length-(i+1),by omega,rfl,hlt,μ4,h4,acc++[d],(e2.trans e3).trans e4,r4,((ry.mono e3).mono e4).append (.cons qd .nil),by rw [Y0k];exact Nat.succ_le_succ ha,p6⟩
 ·left;have ei:i=ds.length:=by omega
  subst ei;rw [List.drop_length] at p2;unfold zE at p2;split at p2;rotate_left
  ·exact p2.elim
  rename_i st;refine ⟨(src μ2 h2 H2 e2 r2 st).2,by have:=UL;omega,λ a ha'=>?_⟩;have ex:=(e1.trans e2);have na:=r2.fresh ha';have n0:H a=none:=by
   cases e:H a with
   | none=>rfl
   | some o=>rw [ex.oth a o e λ z=>na (ex.sub z)] at ha';cases ha'
  exact p2 μ2 _ _ (ex.trans (zo ha')) (r2.tup ha') ⟨a,ys,rfl,zA,ry.mono (zo ha'),na,n0⟩
theorem Ox {elt iter:Expr}{ifs:List Expr}{scope:Scope}{NC:XU}{cap:List (Option Nat)}{t:Tg}{pos:Pos}{mi:En->Hh->Res (Ck×List D)}{mc:En->Hh->Res Bool}{me:En->Hh->Res D}
  (hc:X.calm=true) (th:Thr X Z) (hi:L2.PI X (t.py NC) iter (zt X.K cv (RJ X.K) Z mi)) (cok:jy X.env.scope scope X.N NC cap=true) (ht:t.ok scope NC=true)
  (hg:∀ C s H fp pn xe,PG 126 (t.py NC) (gB X.K t))
  (hf:∀ C s H fp pn xe Zc,Thr 126 Zc->PF 126 ifs (zt X.K cv RB Zc mc))
  (hb:∀ C s H fp pn xe Zc,Thr 126 Zc->PE 126 elt (zt X.K cv (Rep X.K) Zc me))
  (hs:∀ x,foldedSetIterable iter X.env x=pure x) :
  PE X (.ListComp elt [⟨t.py NC,iter,ifs,0⟩] scope pos) (Ot X.K cv Z λ ρ h=>(mi ρ h).bind λ q h1=>if q.2.length<=1000000 then zE q.1 (zT t (qe cap ρ) mc me) q.2 [] h1 else .no) :=
 PE.mono (z0a hc th hi cok hg (tf:=λ Zc=>zt X.K cv RB Zc mc) (te:=λ Zc=>zt X.K cv (Rep X.K) Zc me) hf hb hs) λ σ H Q p=>We cok ht p
theorem Kx.comp {scope:Scope}{NC:XU}{cap:List (Option Nat)}(C:Kx X Z k n cv cl)(cok:jy X.env.scope scope X.N NC cap=true)(hnd:NC.Nodup)(hgood:NC.all Ze=true){Cc:Addr}{s:Shared}{H:Hp}{fp:XV}{pn:106}{xe:XQ}{Zc:ZK}
  (th:Thr (zn X NC scope Cc s H fp pn xe) Zc):Kx (zn X NC scope Cc s H fp pn xe) Zc k ⟨NC,n.F,n.G⟩ cv cl:=by
 obtain ⟨c1,c2,c3,c4,c5,c6,c7⟩:=jf cok;refine ⟨th,C.rm,rfl,hnd,rfl,c1,λ x hx=>⟨?_,Y14.mp hgood x hx⟩,C.bm,C.gc,C.fn,C.mc,C.xc⟩;obtain ⟨j,hj⟩:=Y38 hx;have cok':=cok;unfold jy at cok';simp only [Y0c] at cok';obtain ⟨⟨⟨⟨⟨k1,k2⟩,k3⟩,k4⟩,k5⟩,k6⟩:=cok';have hl:j<NC.length:=(Y02.mp hj).1;have hk:=Y14.mp k6 j (Y1a.mpr hl);have rel:(relabel scope X.env).names.lookup x=(scope.names.lookup x).map λ k=>if k=.free then .cell else k:=q9 (scope:=scope) C.kd λ y hy e=>c4 y hy e;rw [hj] at hk;show Vis (relabel scope X.env) x;unfold Vis;rw [rel];cases e:cap[j]? with
 | none=>rw [e] at hk;cases hk
 | some o =>
  rw [e] at hk;cases o with
  | none =>
   have hk':scope.names.lookup x=some .local\/scope.names.lookup x=some .cell:=by simpa using hk
   rcases hk' with hk' | hk'
   ·rw [hk'];exact .inl rfl
   ·rw [hk'];exact .inr (.inl rfl)
  | some m =>
   simp only [Y0c,beq_iff_eq] at hk;rw [hk.2];exact .inr (.inl rfl)
end
theorem RepKs.merge {K:Y00}{μ:XV}{H:Hp}:∀ {more:List (Key×D)}{mv:List (Key×V)}{ds:List (Key×D)}{vs:List (Key×V)},RepKs K μ H more mv->RepKs K μ H ds vs->RepKs K μ H (yP ds more) (yN vs mv)
 | _,_,_,_,.nil,r=>r
 | _,_,ds,vs,@RepKs.cons _ _ _ _ k d v ds' vs' h t,r=>by
  have z:=RepKs.merge (ds:=ZU ds k d) (vs:=wZ vs k v) t (r.put h);exact z
theorem Wf {K:Y00}{μ:XV}{H:Hp}:∀ {ds:List D}{vs:List V}{kvs:List (Key×D)},Reps K μ H ds vs->qf ds=some kvs ->
  ∃ mv:List (Key×V),RepKs K μ H kvs mv/\Paired (λ (x:V) (kv:Key×V)=>∃ a,x=.ref a/\SqT K H a [kV kv.1,kv.2]) vs mv
 | _,_,_,.nil,e=>by
  unfold qf at e;cases e;exact ⟨[],.nil,.nil⟩
 | _,_,kvs,@Reps.cons _ _ _ d v ds vs h t,e=>by
  unfold qf at e;cases e1:Og d with
  | none=>rw [e1] at e;simp at e
  | some a =>
   cases e2:qf ds with
   | none=>rw [e1,e2] at e;simp at e
   | some b =>
    rw [e1,e2] at e;simp only [Option.some.injEq] at e;subst e;obtain ⟨mv,m1,m2⟩:=Wf t e2;unfold Og at e1;split at e1
    ·rename_i k x;cases ek:jZ k with
     | none=>rw [ek] at e1;simp at e1
     | some q =>
      rw [ek] at e1;simp only [Y2a,Option.some.injEq] at e1;subst e1;cases h with
      | tup h1 h2 =>
       cases h2 with
       | cons hk ht =>
        cases ht with
        | cons hx hn =>
         cases hn
         have:=J6 hk ek
         subst this;exact ⟨_,.cons hx m1,.cons ⟨_,rfl,h1⟩ m2⟩
    ·cases e1
theorem z56 {X:Cx}{Z:ZK}{n:Nm}{cv:XY}{cl:101}:z0y X Z n cv cl .nil:=by
 intro ks pos hl;cases ks with
 | nil =>
  refine ⟨[],z06,λ σ H Q=>z9 λ μ ρ h hr er q=>?_⟩;exact q.here hr .nil
 | cons _ _=>cases hl
theorem z1b {X:Cx}{Z:ZK}{n:Nm}{cv:XY}{cl:101}{e:E}{r:Es}(se:PE X (e.py n) (zt X.K cv (Rep X.K) Z (e.ev cl)))(sr:z0y X Z n cv cl r):z0y X Z n cv cl (.cons e r):=by
 intro ks pos hl;have hl:ks.length=(e.py n::r.py n).length:=hl;cases ks with
 | nil=>cases hl
 | cons k ks =>
  obtain ⟨trs,p1,p2⟩:=sr ks pos (by simpa using hl);refine ⟨(tC (.str k.1),zt X.K cv (Rep X.K) Z (e.ev cl))::trs,GU Yn se p1,λ σ H Q=>z9 λ μ ρ h hr er q=>?_⟩;show zt X.K cv (Rep X.K) Z (e.ev cl) σ H _;refine zc (m:=e.ev cl) hr er q λ da h1 μ1 H1 x _ e1 r1 er1 qa p3=>?_;refine p2 σ H1 _ (zc (m:=r.ev cl) r1 er1 p3 λ ds h2 μ2 H2 xs _ e2 r2 er2 qb p4=>?_);exact p4.here r2 (.cons (qa.mono e2) qb)
section
variable {X:Cx}{cv:XY}
theorem YT (hc:X.calm=true):jb X (.type "dict") (λ xs H Q=>∃ x,xs=[x]/\r1 X.K cv QT x H Q):=by
 intro pins s σ H xs us Q I r hh;obtain ⟨x,rfl,μ,h,a,Z',hr,ra,p⟩:=hh;unfold QT at p;cases ra with
 | @loc nn b mm =>
  simp only at p;cases e:rd h nn with
  | none=>rw [e] at p;exact p.elim
  | some ds =>
   rw [e] at p;simp only at p;split at p
   ·rename_i hl;cases e2:qf ds with
    | none=>rw [e2] at p;exact p.elim
    | some kvs =>
     rw [e2] at p;have e3:h[nn]?=some (.lst ds):=by
      unfold rd at e;cases e4:h[nn]? with
      | none=>rw [e4] at e;cases e
      | some o=>cases o with
       | lst xs=>rw [e4] at e;cases e;rfl
       | dK _=>rw [e4] at e;cases e
       | dT _=>rw [e4] at e;cases e
       | obj _ _=>rw [e4] at e;cases e
     obtain ⟨vs,q1,q2⟩:=wd hr mm e3;obtain ⟨mv,m1,m2⟩:=Wf q2 e2;refine YH hc pins s σ H _ us Q I r ⟨b,vs,mv,rfl,SqL.of q1,by rw [<- q2.length];exact hl,m2,λ l hb=>?_⟩;refine p _ _ _ ((zo hb).add hb) (hr.alloc hb (hr.fresh hb) λ μ' g=>⟨_,zA,((RepKs.merge m1 .nil).mono (zo hb)).mono' g⟩) (.loc ?_);rw [<- hr.len,Y0m (Y0a _),Y1v];rfl
   ·exact p.elim
 | _=>exact p.elim
theorem z7q (hc:X.calm=true) (hN:X.N.Nodup) (is:List (Nat×Pos)) (p1:Pos) (h:∀ i∈(Tg.tup is p1).idx,i<X.N.length/\Loc X.env.scope (X.N.getD i "")/\(X.fn (X.N.getD i "")=true\/X.env.scope.names.lookup (X.N.getD i "")=some .local)) :
  PG X ((Tg.tup is p1).py X.N) (λ v σ H Q=>∃ μ ρ d ρ' h,HR X.K μ h H/\ER X.K μ ρ σ H/\Rep X.K μ H d v/\jC (.tup is p1) (yQ d h) ρ=some ρ'/\∀ σ',ER X.K μ ρ' σ' H->Q σ' H):=by
 refine PG.mono (z0i (k:=0) (pos:=p1) hc (yT hN is λ q hq=>h q.1 (Y0e.mpr ⟨q,hq,rfl⟩)) (wO X.N X.env is).1 (wO X.N X.env is).2) λ v σ H Q ⟨μ,ρ,d,ρ',h,hr,er,r,e,q⟩=>?_;have fin:∀ (ds:List D) (vs:List V),Reps X.K μ H ds vs->jC (.tup is p1) (.tup ds) ρ=some ρ'->vs.length=is.length/\gNs is vs σ H Q:=λ ds vs h2 e=>by
  unfold jC at e;simp only at e;split at e
  ·rename_i c;cases e;exact ⟨by rw [<- h2.length];exact c,WM is h2 c er λ σ' e1 _ _=>q σ' e1⟩
  ·cases e
 cases r with
 | tup h1 h2 =>
  obtain ⟨a,b⟩:=fin _ _ h2 e;exact ⟨_,_,rfl,.inl h1,a,b⟩
 | @loc nn b mm =>
  unfold yQ at e;simp only at e;cases e1:rd h nn with
  | none=>rw [e1] at e;simp [jC] at e
  | some ds =>
   rw [e1] at e;obtain ⟨vs,hs1,rs⟩:=hr.rd e1 mm;obtain ⟨a,b⟩:=fin _ _ rs e;exact ⟨_,_,rfl,.inr hs1,a,b⟩
 | _=>simp [jC,yQ] at e
end
section
variable {X:Cx}{Z:ZK}{k:Nat}{n:Nm}{cv:XY}{cl:101}
theorem z57 (T:Nat)(h:T<5):bootBuiltins (yg T)=some (.type (UG T))/\yg T≠"__name__"/\(yg T==("__debug__":Str))=false/\yg T∈WJ:=by
 match T,h with
 | 0,_=>exact ⟨rfl,by decide,by decide,by decide⟩
 | 1,_=>exact ⟨rfl,by decide,by decide,by decide⟩
 | 2,_=>exact ⟨rfl,by decide,by decide,by decide⟩
 | 3,_=>exact ⟨rfl,by decide,by decide,by decide⟩
 | 4,_=>exact ⟨rfl,by decide,by decide,by decide⟩
theorem getD_some {α:Type}{xs:List α}{i:Nat}{d:α}(h:i<xs.length):xs[i]?=some (xs.getD i d):=by
 rw [Y0v,Y0b h];rfl
theorem wP {α:Type}{xs:List α}{i:Nat}{d:α}(h:i<xs.length):xs.getD i d∈xs:=Y0y (getD_some h)
theorem PO.mono {X:Cx}{e:Option Expr}{t t':TO}(p:PO X e t)(h:∀ σ H Q,t' σ H Q->t σ H Q):PO X e t':=λ pins s σ H Q I q=>p pins s σ H Q I (h σ H Q q)
theorem qi (o:E)(x:Str)(env:Env):attributeBase (o.py n) x env (eval (o.py n) env)=eval (o.py n) env:=by
 cases o with
 | ofL l=>cases l<;>(rfl)
 | _=>rfl
theorem WN (a : E)(pos : Pos)(env : Env) : ((backTo pos (starEach [a.py n] env)).all (λ x => !x.1)&&(backToKw pos (keywordEach [] env)).all (λ x => x.1.isSome)
      && decide (([a.py n]:List Expr).length+([]:List Keyword).length+(if ([]:List Keyword).isEmpty then 0 else 1)<30))=true:=by
  rw [zd];rfl
theorem z7r {K:Y00}{μ:XV}{H:Hp}{h:Hh}{m:M0}{d:D}{v:V}(hr:HR K μ h H)(r:Rep K μ H d v)(e:m0D m d h≠.no):tyV K "list" v H:=by
 unfold m0D at e;cases r with
 | @loc nn b mm =>
  cases e1:h[nn]? with
  | none=>simp only [e1] at e;exact absurd rfl e
  | some o =>
   cases o with
   | dK _=>simp only [e1] at e;exact absurd rfl e
   | dT _=>simp only [e1] at e;exact absurd rfl e
   | obj _ _=>simp only [e1] at e;exact absurd rfl e
   | lst ds=>obtain ⟨vs,q1,q2⟩:=wd hr mm e1;exact .inl ⟨rfl,vs,SqL.of q1⟩
 | _=>exact absurd rfl e
theorem Reps.isEmpty {K:Y00}{μ:XV}{H:Hp}{ds:List D}{vs:List V}(r:Reps K μ H ds vs):ds.isEmpty=vs.isEmpty:=by cases r<;>rfl
theorem YU {K:Y00}{cv:XY}{R:List Addr->Hp->D->V->Prop}{μ:XV}{H:Hp}{h:Hh}{d:D}{v:V}{r:Res D}{Q:VK}{Z:Value->Hp->Prop}(hr:HR K μ h H)(q:Rep K μ H d v)(p:PostE K cv R μ H (onL d h r) Q Z):tyV K "list" v H/\PostE K cv R μ H r Q Z:=by
 unfold onL at p;cases q with
 | @loc nn b mm =>
  cases e1:h[nn]? with
  | none=>simp only [e1] at p;exact p.elim
  | some o =>
   cases o with
   | dK _=>simp only [e1] at p;exact p.elim
   | dT _=>simp only [e1] at p;exact p.elim
   | obj _ _=>simp only [e1] at p;exact p.elim
   | lst ds=>simp only [e1] at p;obtain ⟨vs,q1,q2⟩:=wd hr mm e1;exact ⟨.inl ⟨rfl,vs,SqL.of q1⟩,p⟩
 | _=>exact p.elim
theorem yi (it:I){env:Env}:∀ x,foldedSetIterable (it.py n) env x=pure x:=by
 intro x;cases it with
 | seq e =>
  cases e with
  | ofL l=>cases l<;>(rfl)
  | _=>rfl
 | lst l=>cases l<;>(rfl)
 | rng a p0 p=>rfl
 | rngD a b c p0 p=>rfl
theorem UM {elt:E}{t:Tg}{it:I}{c:Es}{NC:XU}{cap:List (Option Nat)}{csc:Scope}{p:Pos}(C:Kx X Z k n cv cl)(h:(L.comp elt t it c NC cap csc p).ok X.env.scope n=true) :
  (it.ok X.env.scope n=true/\t.forI it=true)/\jy X.env.scope csc X.N NC cap=true/\NC.Nodup/\NC.all Ze=true/\t.ok csc NC=true/\elt.ok (UJ csc X.env.scope) ⟨NC,n.F,n.G⟩=true/\c.ok (UJ csc X.env.scope) ⟨NC,n.F,n.G⟩=true/\c.okT=true/\c.short=true:=by
 have h:(_&&_)=true:=h;simp only [Y0c,decide_eq_true_eq] at h;obtain ⟨⟨⟨⟨⟨⟨⟨⟨k1,k2⟩,k3⟩,k4⟩,k5⟩,k6⟩,k7⟩,k8⟩,k9⟩:=h;exact ⟨k1,by rw [C.nN];exact k2,k3,k4,k5,k6,k7,k8,k9⟩
theorem UN {Zc:ZK}{m:Nm}:PF X (Es.nil.py m) (zt X.K cv RB Zc (Es.nil.evC cl)):=by
 refine λ pins s σ H Q I q=>z4p pins s σ H Q I ?_;obtain ⟨μ,ρ,h,hr,er,q⟩:=q;exact q.here hr rfl
theorem UO {scope:Scope}{NC:XU}{cap:List (Option Nat)}{t:Tg}(kd:X.env.scope.kind=.function)(cok:jy X.env.scope scope X.N NC cap=true)(hnd:NC.Nodup)(ht:t.ok scope NC=true){Cc:Addr}{s:Shared}{H:Hp}{fp:XV}{pn:106}{xe:XQ} :
  PG (zn X NC scope Cc s H fp pn xe) (t.py NC) (gB X.K t):=by
 refine z7o (X:=zn X NC scope Cc s H fp pn xe) rfl hnd t λ i hi=>?_;unfold Tg.ok at ht;have h1:=Y14.mp ht i hi;rw [Y0c] at h1;have h2:scope.names.lookup (NC.getD i "")=some .local\/scope.names.lookup (NC.getD i "")=some .cell:=of_decide_eq_true h1.2;obtain ⟨c1,c2,c3,c4,c5,c6,c7⟩:=jf cok;have rel:∀ x,(relabel scope X.env).names.lookup x=(scope.names.lookup x).map λ k=>if k=.free then .cell else k:=λ x=>q9 (scope:=scope) kd λ y hy e=>c4 y hy e;refine ⟨of_decide_eq_true h1.1,?_,?_⟩
 ·show Loc (relabel scope X.env) _;unfold L2.Loc;rw [rel];rcases h2 with h2 | h2
  ·rw [h2];exact .inl rfl
  ·rw [h2];exact .inr rfl
 ·rcases h2 with h2 | h2
  ·refine .inr ?_;show (relabel scope X.env).names.lookup _=_;rw [rel,h2];rfl
  ·refine .inl ?_;show (scope.names.lookup _==some NameKind.cell)=true;rw [h2];rfl
mutual
theorem sE:∀ (e:E) (X:Cx) (Z:ZK) (k:Nat) (n:Nm) (cv:XY) (cl:101),Kx X Z k n cv cl->e.ok X.env.scope n=true->SE X Z n cv cl e
 | .non p,X,Z,k,n,cv,cl,C,_=>⟨PE.mono z3t λ σ H Q q=>WK (λ _ _ _=>.non) q,λ z=>nomatch z⟩
 | .bl b p,X,Z,k,n,cv,cl,C,_=>⟨PE.mono z6t λ σ H Q q=>WK (λ _ _ _=>.bl b) q,λ z=>nomatch z⟩
 | .int i p,X,Z,k,n,cv,cl,C,_=>⟨PE.mono z3s λ σ H Q q=>WK (λ _ _ _=>.int i) q,λ z=>nomatch z⟩
 | .str x p,X,Z,k,n,cv,cl,C,_=>⟨PE.mono Yn λ σ H Q q=>WK (λ _ _ _=>.str x) q,λ z=>nomatch z⟩
 | .var i p,X,Z,k,n,cv,cl,C,h=>by
  have hi:i<n.N.length:=of_decide_eq_true h;have hm:=C.nm _ (wP (d:=("":Str)) hi);have hv:=hm.1;have hg:=J0 hm.2;have pe:PE X ((E.var i p).py n) (zt X.K cv (Rep X.K) Z ((E.var i p).ev cl)):=by
   refine PE.mono (Gq (i:=i) (by rw [C.nN];exact getD_some hi) hv hg.1 hg.2) λ σ H Q=>z9 λ μ ρ h hr er q=>?_;have q:PostE X.K cv (Rep X.K) μ H (match ρ[i]? with | some (some d)=>.ok d h | _=>.no) Q (Z σ):=q
   cases e:ρ[i]? with
   | none=>rw [e] at q;exact q.elim
   | some o =>
    cases o with
    | none=>rw [e] at q;exact q.elim
    | some d =>
     rw [e] at q;obtain ⟨v,e1,r1⟩:=er.val i d e;exact ⟨v,e1,q.here hr r1⟩
  exact 116
 | .bin op a b p,X,Z,k,n,cv,cl,C,h=>by
  have h':a.ok X.env.scope n=true/\b.ok X.env.scope n=true:=by have h:(_&&_)=true:=h;simpa using h
  have sa:=sE a X Z k n cv cl C h'.1;have sb:=sE b X Z k n cv cl C h'.2;have pe:PE X ((E.bin op a b p).py n) (zt X.K cv (Rep X.K) Z ((E.bin op a b p).ev cl)):=by
   refine PE.mono (z71 (z52 (cv:=cv) op) sa.pe sb.pe) λ σ H Q q=>?_;exact On q
  exact 116
 | .un op a p,X,Z,k,n,cv,cl,C,h=>by
  have h':a.ok X.env.scope n=true:=by have h:(_&&_)=true:=h;simp at h;exact h.1
  have sa:=sE a X Z k n cv cl C h';cases op with
  | Not =>
   refine ⟨?_,λ z=>?_⟩
   ·skip;refine PE.mono (Gs sa.pe) λ σ H Q=>z9 λ μ ρ h hr er q=>?_;refine zc (m:=a.ev cl) hr er q λ d h1 μ1 H1 x _ e1 r1 er1 qa p1=>?_;unfold unD at p1;cases qa with
    | bl b=>exact ⟨b,rfl,p1.here r1 (.bl _)⟩
    | _=>exact p1.elim
   ·skip;have z':a.okT=true:=by exact z
    refine PT.mono (z3w (sa.pt z')) λ σ H Q=>z9 λ μ ρ h hr er q=>?_;refine ⟨μ,ρ,h,hr,er,?_⟩;have e1:(E.un .Not a p).evT cl ρ h=(a.evT cl ρ h).bind λ b h1=>.ok (!b) h1:=by
     rw [qh,qh,zj];show ((a.ev cl ρ h).bind λ x h1=>unD .Not x h1).bind toB=_;rw [zj]
     congr 1
     funext d h1
     unfold unD toB;cases d<;>rfl
    rw [e1] at q;cases e2:a.evT cl ρ h with
    | ok b h1 =>
     rw [e2] at q;intro μ1 H1 v x1 x2 x3;have x3':b=v:=x3;subst x3';exact q μ1 H1 (!b) x1 x2 rfl
    | exc c h1=>rw [e2] at q;exact q
    | no=>rw [e2] at q;exact q
  | Invert =>
   have pe:PE X ((E.un .Invert a p).py n) (zt X.K cv (Rep X.K) Z ((E.un .Invert a p).ev cl)):=by
    refine PE.mono (GE (z31 (cv:=cv) .Invert (.inl rfl)) sa.pe) λ σ H Q q=>?_;exact z30 q
   exact 116
  | USub =>
   have pe:PE X ((E.un .USub a p).py n) (zt X.K cv (Rep X.K) Z ((E.un .USub a p).ev cl)):=by
    refine PE.mono (GE (z31 (cv:=cv) .USub (.inr rfl)) sa.pe) λ σ H Q q=>?_;exact z30 q
   exact 116
  | UAdd =>
   have no:∀ {β:Type}{σ:St}{H:Hp}{R:List Addr->Hp->D->β->Prop}{Q:β->Hp->Prop},zt X.K cv R Z ((E.un .UAdd a p).ev cl) σ H Q->zt X.K cv (Rep X.K) Z (a.ev cl) σ H (λ _ _=>False):=by
    intro β σ H R Q ⟨μ,ρ,h,hr,er,q⟩;refine zc (m:=a.ev cl) hr er q λ d h1 μ1 H1 x _ e1 r1 er1 qa p1=>?_;unfold unD at p1;cases d<;>exact p1.elim
   have pe:PE X ((E.un .UAdd a p).py n) (zt X.K cv (Rep X.K) Z ((E.un .UAdd a p).ev cl)):=by
    refine PE.mono (GE (r:=λ _ _ _=>False) (λ _ _ _ _ _ _ _ _ _ z=>z.elim) sa.pe) λ σ H Q q=>no q
   exact 116
 | .cmp op a b p,X,Z,k,n,cv,cl,C,h=>by
  have h':(a.ok X.env.scope n=true/\b.ok X.env.scope n=true)/\behindInMarks op (b.py n)=false:=by have h:(_&&_)=true:=h;simpa using h
  have sa:=sE a X Z k n cv cl C h'.1.1;have sb:=sE b X Z k n cv cl C h'.1.2;refine ⟨?_,λ _=>?_⟩
  ·skip;refine PE.mono (Ut (Ol (cv:=cv) C.rm.units op) sa.pe sb.pe h'.2) λ σ H Q q=>?_;exact On q
  ·skip;refine PT.mono (Uu (Ol (cv:=cv) C.rm.units op) sa.pe sb.pe h'.2) λ σ H Q=>z9 λ μ ρ h hr er q=>?_;have q:PostE X.K cv RB μ H (((a.ev cl ρ h).bind λ x h1=>(b.ev cl ρ h1).bind λ y h2=>zy op x y h2).bind toB) Q (Z σ):=q;rw [zj] at q;unfold GF;refine zc (m:=a.ev cl) hr er q λ da h1 μ1 H1 x _ e1 r1 er1 qa p1=>?_;rw [zj] at p1;refine zc (m:=b.ev cl) r1 er1 p1 λ db h2 μ2 H2 y _ e2 r2 er2 qb p2=>?_;refine ⟨μ2,h2,da,db,Z σ,r2,qa.mono e2,qb,?_⟩;cases e3:zy op da db h2 with
   | ok d h3 =>
    rw [e3] at p2;intro μ3 H3 v x1 x2 x3;unfold Res.bind toB at p2;cases x3 with
    | bl c=>exact ⟨c,rfl,p2 μ3 H3 c x1 x2 rfl⟩
    | _=>exact p2.elim
   | exc c h3=>rw [e3] at p2;exact p2
   | no=>rw [e3] at p2;exact p2
 | .and a b r p,X,Z,k,n,cv,cl,C,h=>by
  have h':((((a.ok X.env.scope n=true/\b.ok X.env.scope n=true)/\r.ok X.env.scope n=true)/\a.okT=true)/\b.okT=true)/\r.okT=true:=by have h:(_&&_)=true:=h;simpa using h
  have sa:=sE a X Z k n cv cl C h'.1.1.1.1.1;have sb:=sE b X Z k n cv cl C h'.1.1.1.1.2;have sr:=sEs r X Z k n cv cl C h'.1.1.1.2;refine ⟨?_,λ _=>?_⟩
  ·skip;refine PE.mono (Yq sa.pe (sr.an b p sb)) λ σ H Q=>z9 λ μ ρ h hr er q=>?_;refine zc (m:=a.ev cl) hr er q λ d h1 μ1 H1 x _ e1 r1 er1 qa p1=>?_;unfold tru at p1;cases qa with
   | bl c =>
    refine ⟨c,rfl,?_⟩;cases c with
    | true=>exact yf ⟨μ1,ρ,h1,r1,er1,p1⟩
    | false=>exact qA (p1.here r1 (.bl _))
   | _=>exact p1.elim
  ·skip;refine PT.mono (PW.pt (Yo (sa.pt h'.1.1.2) (sr.anT b p sb h'.1.2 h'.2))) λ σ H Q=>z9 λ μ ρ h hr er q=>?_;have e0:(E.and a b r p).evT cl ρ h=(a.evT cl ρ h).bind λ c h1=>if c then (b.evT cl ρ h1).bind λ c' h2=>r.evAndT cl ρ c' h2 else .ok false h1:=by
    rw [qh,qh,zj];show ((a.ev cl ρ h).bind λ x h1=>tru x h1 λ c h1=>if c then (b.ev cl ρ h1).bind λ y h2=>r.evAnd cl ρ y h2 else .ok (.bl false) h1).bind toB=_;rw [zj]
    congr 1
    funext d h1
    unfold tru;cases d with
    | bl c =>
     cases c with
     | false=>rfl
     | true =>
      show ((b.ev cl ρ h1).bind λ y h2=>r.evAnd cl ρ y h2).bind toB=(b.evT cl ρ h1).bind λ c' h2=>r.evAndT cl ρ c' h2;rw [qh,zj,zj]
      congr 1
      funext y h2
      exact UK r ρ y h2
    | _=>rfl
   rw [e0] at q;refine zc (m:=a.evT cl) (R:=RB) hr er q λ c h1 μ1 H1 x _ e1 r1 er1 qa p1=>?_;have qa':c=x:=qa;subst qa';cases c with
   | true=>exact yf ⟨μ1,ρ,h1,r1,er1,p1⟩
   | false=>exact qA (p1.here r1 rfl)
 | .or a b r p,X,Z,k,n,cv,cl,C,h=>by
  have h':((((a.ok X.env.scope n=true/\b.ok X.env.scope n=true)/\r.ok X.env.scope n=true)/\a.okT=true)/\b.okT=true)/\r.okT=true:=by have h:(_&&_)=true:=h;simpa using h
  have sa:=sE a X Z k n cv cl C h'.1.1.1.1.1;have sb:=sE b X Z k n cv cl C h'.1.1.1.1.2;have sr:=sEs r X Z k n cv cl C h'.1.1.1.2;refine ⟨?_,λ _=>?_⟩
  ·skip;refine PE.mono (z2o sa.pe (sr.orr b p sb)) λ σ H Q=>z9 λ μ ρ h hr er q=>?_;refine zc (m:=a.ev cl) hr er q λ d h1 μ1 H1 x _ e1 r1 er1 qa p1=>?_;unfold tru at p1;cases qa with
   | bl c =>
    refine ⟨c,rfl,?_⟩;cases c with
    | true=>exact yf (p1.here r1 (.bl _))
    | false=>exact qA ⟨μ1,ρ,h1,r1,er1,p1⟩
   | _=>exact p1.elim
  ·skip;refine PT.mono (PW.pt (z2n (sa.pt h'.1.1.2) (sr.orT b p sb h'.1.2 h'.2))) λ σ H Q=>z9 λ μ ρ h hr er q=>?_;have e0:(E.or a b r p).evT cl ρ h=(a.evT cl ρ h).bind λ c h1=>if c then .ok true h1 else (b.evT cl ρ h1).bind λ c' h2=>r.evOrT cl ρ c' h2:=by
    rw [qh,qh,zj];show ((a.ev cl ρ h).bind λ x h1=>tru x h1 λ c h1=>if c then .ok (.bl true) h1 else (b.ev cl ρ h1).bind λ y h2=>r.evOr cl ρ y h2).bind toB=_;rw [zj]
    congr 1
    funext d h1
    unfold tru;cases d with
    | bl c =>
     cases c with
     | true=>rfl
     | false =>
      show ((b.ev cl ρ h1).bind λ y h2=>r.evOr cl ρ y h2).bind toB=(b.evT cl ρ h1).bind λ c' h2=>r.evOrT cl ρ c' h2;rw [qh,zj,zj]
      congr 1
      funext y h2
      exact Om r ρ y h2
    | _=>rfl
   rw [e0] at q;refine zc (m:=a.evT cl) (R:=RB) hr er q λ c h1 μ1 H1 x _ e1 r1 er1 qa p1=>?_;have qa':c=x:=qa;subst qa';cases c with
   | true=>exact yf (p1.here r1 rfl)
   | false=>exact qA ⟨μ1,ρ,h1,r1,er1,p1⟩
 | .ite c a b p,X,Z,k,n,cv,cl,C,h=>by
  have h':((c.ok X.env.scope n=true/\a.ok X.env.scope n=true)/\b.ok X.env.scope n=true)/\c.okT=true:=by have h:(_&&_)=true:=h;simpa using h
  have sc:=sE c X Z k n cv cl C h'.1.1.1;have sa:=sE a X Z k n cv cl C h'.1.1.2;have sb:=sE b X Z k n cv cl C h'.1.2;refine ⟨?_,λ z=>nomatch z⟩;refine PE.mono (Gu (sc.pt h'.2) sa.pe sb.pe) λ σ H Q=>z9 λ μ ρ h hr er q=>?_;have e0:((c.ev cl ρ h).bind λ x h1=>tru x h1 λ t h1=>if t then a.ev cl ρ h1 else b.ev cl ρ h1)=(c.evT cl ρ h).bind λ t h1=>if t then a.ev cl ρ h1 else b.ev cl ρ h1:=by
   rw [qh,zj]
   congr 1
   funext d h1
   unfold tru toB;cases d<;>rfl
  have q:PostE X.K cv (Rep X.K) μ H ((c.ev cl ρ h).bind λ x h1=>tru x h1 λ t h1=>if t then a.ev cl ρ h1 else b.ev cl ρ h1) Q (Z σ):=q;rw [e0] at q;refine zc (m:=c.evT cl) (R:=RB) hr er q λ t h1 μ1 H1 x _ e1 r1 er1 qa p1=>?_;have qa':t=x:=qa;subst qa';cases t with
  | true=>exact yf ⟨μ1,ρ,h1,r1,er1,p1⟩
  | false=>exact qA ⟨μ1,ρ,h1,r1,er1,p1⟩
 | .call f a r p0 p,X,Z,k,n,cv,cl,C,h=>by
  have h':((f<n.F.length/\gOf X.env.scope (n.F.getD f "")=true)/\a.ok X.env.scope n=true)/\r.ok X.env.scope n=true:=by have h:(_&&_)=true:=h;simp only [Y0c,decide_eq_true_eq] at h;exact ⟨⟨⟨h.1.1.1.1,h.1.1.2⟩,h.1.2⟩,h.2⟩
  have hnc:(n.G.any λ q=>decide (q.2=Cn.cls f))=false:=by have h:(_&&_)=true:=h;simp only [Y0c,Y2e] at h;exact h.1.1.1.2
  have sa:=sE a X Z k n cv cl C h'.1.2;have sr:=sEs r X Z k n cv cl C h'.2;obtain ⟨hdb,fa,fd,ps,hm,_,hk,hb,hl,F⟩:=C.fn f _ (getD_some (d:=("":Str)) h'.1.1.1) hnc;have pe:PE X ((E.call f a r p0 p).py n) (zt X.K cv (Rep X.K) Z ((E.call f a r p0 p).ev cl)):=by
   refine PE.mono (GX F (C.rm.mono 103) (C.gl h'.1.1.2) hm hk hb .nil C.th (zq sa.pe sr.pa (zd a _ _)) hdb (zd a _ _) (J5 r p X.env)) λ σ H Q=>z9 λ μ ρ h hr er q=>?_;unfold GW z2r;refine zc (m:=a.ev cl) hr er q λ da h1 μ1 H1 x _ e1 r1 er1 qa p1=>?_;refine zc (m:=r.ev cl) r1 er1 p1 λ ds h2 μ2 H2 xs _ e2 r2 er2 qb p2=>?_;show spI X.K cv ps.length (cl f) ((x::xs)++[]) H2 Q λ C _ H'=>Z σ C H';rw [Y0x];have z:=hl (da::ds) h2 λ z=>by rw [z] at p2;exact p2
   exact ⟨by rw [Y0q,<- qb.length,<- Y0q (a:=da)];exact z,μ2,h2,da::ds,r2,.cons (qa.mono e2) qb,p2⟩
  exact 116
 | .len a p0 p,X,Z,k,n,cv,cl,C,h=>by
  have h':gOf X.env.scope "len"=true/\a.ok X.env.scope n=true:=by have h:(_&&_)=true:=h;simpa using h
  have sa:=sE a X Z k n cv cl C h'.2;have pe:PE X ((E.len a p0 p).py n) (zt X.K cv (Rep X.K) Z ((E.len a p0 p).ev cl)):=by
   refine PE.mono (jQ (VN (cv:=cv)) (C.gl h'.1) (C.bm _ 102) PySem.boot_len (zq sa.pe zK (zd a _ _)) 102 102 (zd a _ _) rfl) λ σ H Q=>z9 λ μ ρ h hr er q=>?_;refine zc (m:=a.ev cl) hr er q λ da h1 μ1 H1 x _ e1 r1 er1 qa p1=>?_;exact ⟨x,rfl,μ1,h1,da,_,r1,qa,p1⟩
  exact 116
 | .isi T a p0 p1 p,X,Z,k,n,cv,cl,C,h=>by
  have h':((gOf X.env.scope "isinstance"=true/\gOf X.env.scope (yg T)=true)/\T<5)/\a.ok X.env.scope n=true:=by have h:(_&&_)=true:=h;simpa using h
  have sa:=sE a X Z k n cv cl C h'.2;obtain ⟨b1,b2,b3,b4⟩:=z57 T h'.1.2;have pe:PE X ((E.isi T a p0 p1 p).py n) (zt X.K cv (Rep X.K) Z ((E.isi T a p0 p1 p).ev cl)):=by
   refine PE.mono (jQ (Oo (cv:=cv) T h'.1.2) (C.gl h'.1.1.1) (C.bm _ 102) Y2k (zq sa.pe (zq (Uq (v:=.ty (UG T)) (C.gl h'.1.1.2) (C.bm _ b4) b1 rfl b2 b3) zK) (zd a _ _)) 102 102 (zd a _ _) rfl) λ σ H Q=>z9 λ μ ρ h hr er q=>?_;refine zc (m:=a.ev cl) hr er q λ da h1 μ1 H1 x _ e1 r1 er1 qa p1=>?_;exact ⟨x,rfl,μ1,h1,da,_,r1,qa,p1⟩
  exact 116
 | .sub a i p,X,Z,k,n,cv,cl,C,h=>by
  have h':a.ok X.env.scope n=true/\i.ok X.env.scope n=true:=by have h:(_&&_)=true:=h;simpa using h
  have sa:=sE a X Z k n cv cl C h'.1;have sb:=sE i X Z k n cv cl C h'.2;have pe:PE X ((E.sub a i p).py n) (zt X.K cv (Rep X.K) Z ((E.sub a i p).ev cl)):=by
   refine PE.mono (z2s (z10 (cv:=cv) (z2t C.rm)) sa.pe sb.pe (QW i)) λ σ H Q q=>?_;exact On q
  exact 116
 | .tup es p,X,Z,k,n,cv,cl,C,h=>by
  have h':es.ok X.env.scope n=true:=by exact h
  have sr:=sEs es X Z k n cv cl C h';have pe:PE X ((E.tup es p).py n) (zt X.K cv (Rep X.K) Z ((E.tup es p).ev cl)):=by
   refine PE.mono (z4c sr.pa) λ σ H Q=>z9 λ μ ρ h hr er q=>?_;refine zc (m:=es.ev cl) hr er q λ ds h1 μ1 H1 xs _ e1 r1 er1 qa p1=>?_;split at p1
   ·rename_i c;refine ⟨by rw [<- qa.length];exact Y28 (yL c),λ a ha=>?_⟩;exact p1 μ1 _ (.ref a) (zo ha) (r1.tup ha) (.tup (SqT.of zA) (qa.mono (zo ha)))
   ·exact p1.elim
  exact 116
 | .ofL l,X,Z,k,n,cv,cl,C,h=>by
  have sl:=sL l X Z k n cv cl C (by exact h);refine ⟨?_,λ z=>nomatch z⟩;refine PE.mono sl λ σ H Q=>z9 λ μ ρ h hr er q=>?_;refine jz (m:=l.ev cl) Ext.refl hr er q (λ _ _ z=>z) λ ds h1 μ1 H1 x _ e1 r1 er1 qa p1=>?_;obtain ⟨p,vs,rfl,g1,g2,g3,g4⟩:=qa;refine p1 (μ1++[p]) H1 _ (e1.add g4) (r1.add g3 λ μ' gr=>⟨vs,g1,g2.mono' gr⟩) (.loc ?_);rw [<- r1.len,Y0m (Y0a _),Y1v];rfl
 | .tupL l p0 p,X,Z,k,n,cv,cl,C,h=>by
  have h':gOf X.env.scope "tuple"=true/\l.ok X.env.scope n=true:=by have h:(_&&_)=true:=h;simpa using h
  have sl:=sL l X Z k n cv cl C h'.2;have pe:PE X ((E.tupL l p0 p).py n) (zt X.K cv (Rep X.K) Z ((E.tupL l p0 p).ev cl)):=by
   refine PE.mono (wL y7 (C.gl h'.1) (C.bm _ 102) PyProof.Rows.boot_tuple (zq sl zK (L.py_star l _ _)) 102 102 (L.py_star l _ _) rfl) λ σ H Q=>z9 λ μ ρ h hr er q=>?_;refine jz (m:=l.ev cl) Ext.refl hr er q (λ _ _ z=>z) λ ds h1 μ1 H1 x _ e1 r1 er1 qa p1=>?_;obtain ⟨b,vs,rfl,g1,g2,g3,g4⟩:=qa;exact ⟨b,vs,rfl,.inl ⟨SqL.of g1,λ a ha=>p1 μ1 _ _ (e1.trans (zo ha)) (r1.tup ha) (.tup (SqT.of zA) (g2.mono (zo ha)))⟩⟩
  exact 116
 | .tupE e p0 p,X,Z,k,n,cv,cl,C,h=>by
  have h':gOf X.env.scope "tuple"=true/\e.ok X.env.scope n=true:=by have h:(_&&_)=true:=h;simpa using h
  have se:=sE e X Z k n cv cl C h'.2;have pe:PE X ((E.tupE e p0 p).py n) (zt X.K cv (Rep X.K) Z ((E.tupE e p0 p).ev cl)):=by
   refine PE.mono (wL (VP (cv:=cv)) (C.gl h'.1) (C.bm _ 102) PyProof.Rows.boot_tuple (zq se.pe zK (zd e _ _)) 102 102 (zd e _ _) rfl) λ σ H Q=>z9 λ μ ρ h hr er q=>?_;refine zc (m:=e.ev cl) hr er q λ da h1 μ1 H1 x _ e1 r1 er1 qa p1=>?_;exact ⟨x,rfl,μ1,h1,da,_,r1,qa,p1⟩
  exact 116
 | .dicP e p0 p,X,Z,k,n,cv,cl,C,h=>by
  have h':gOf X.env.scope "dict"=true/\e.ok X.env.scope n=true:=by have h:(_&&_)=true:=h;simpa using h
  have se:=sE e X Z k n cv cl C h'.2;have pe:PE X ((E.dicP e p0 p).py n) (zt X.K cv (Rep X.K) Z ((E.dicP e p0 p).ev cl)):=by
   refine PE.mono (wL (YT (cv:=cv) C.cm) (C.gl h'.1) (C.bm _ 102) rfl (zq se.pe zK (zd e _ _)) 102 102 (zd e _ _) rfl) λ σ H Q=>z9 λ μ ρ h hr er q=>?_;refine zc (m:=e.ev cl) hr er q λ da h1 μ1 H1 x _ e1 r1 er1 qa p1=>?_;exact ⟨x,rfl,μ1,h1,da,_,r1,qa,p1⟩
  exact 116
 | .cut a lo hi p2 p,X,Z,k,n,cv,cl,C,h=>by
  have h':(a.ok X.env.scope n=true/\lo.ok X.env.scope n=true)/\hi.ok X.env.scope n=true:=by have h:(_&&_)=true:=h;simpa using h
  have sa:=sE a X Z k n cv cl C h'.1.1;have sl:=sEo lo X Z k n cv cl C h'.1.2;have sh:=sEo hi X Z k n cv cl C h'.2;have pe:PE X ((E.cut a lo hi p2 p).py n) (zt X.K cv (Rep X.K) Z ((E.cut a lo hi p2 p).ev cl)):=by
   refine PE.mono (GK (z15 (cv:=cv)) sa.pe sl sh) λ σ H Q=>z9 λ μ ρ h hr er q=>?_;refine zc (m:=a.ev cl) hr er q λ da h1 μ1 H1 x _ e1 r1 er1 qa p1=>?_;refine zc (m:=lo.ev cl) (R:=λ _ _ a b=>a=b) r1 er1 p1 λ l h2 μ2 H2 l' _ e2 r2 er2 ql p2=>?_;have ql':l=l':=ql;subst ql';refine zc (m:=hi.ev cl) (R:=λ _ _ a b=>a=b) r2 er2 p2 λ u h3 μ3 H3 u' _ e3 r3 er3 qu p3=>?_;have qu':u=u':=qu;subst qu';exact ⟨μ3,h3,da,_,r3,(qa.mono e2).mono e3,p3⟩
  exact 116
 | .dic p,X,Z,k,n,cv,cl,C,h=>by
  refine ⟨?_,λ z=>nomatch z⟩;refine PE.mono GT λ σ H Q=>z9 λ μ ρ h hr er q=>?_;intro b hb;refine q _ _ _ ((zo hb).add hb) (hr.alloc hb (hr.fresh hb) λ μ' g=>⟨_,zA,.nil⟩) (.loc ?_);rw [<- hr.len,Y0m (Y0a _),Y1v];rfl
 | .m0 m o p1 p,X,Z,k,n,cv,cl,C,h=>by
  have h':o.ok X.env.scope n=true/\p1.endLine=p.line:=by have h:(_&&_)=true:=h;simpa using h
  have so:=sE o X Z k n cv cl C h'.1;have hl:(p1.endLine==p.line)=true:=beq_iff_eq.mpr h'.2;have pe:PE X ((E.m0 m o p1 p).py n) (zt X.K cv (Rep X.K) Z ((E.m0 m o p1 p).ev cl)):=by
   cases m with
   | pop =>
    refine PE.mono (z4h Y29 PySem.F.slot_list_pop PySem.F.type_list_pop (z11 (cv:=cv)) so.pe (qi o _ _) hl) λ σ H Q=>z9 λ μ ρ h hr er q=>?_;refine zc (m:=o.ev cl) hr er q λ da h1 μ1 H1 x _ e1 r1 er1 qa p1=>?_;exact ⟨z7r r1 qa λ z=>by rw [z] at p1;exact p1,rfl,μ1,h1,da,_,r1,qa,p1⟩
  exact 116
 | .m1 m o a p1 p,X,Z,k,n,cv,cl,C,h=>by
  have h':(o.ok X.env.scope n=true/\a.ok X.env.scope n=true)/\p1.endLine=p.line:=by have h:(_&&_)=true:=h;simpa using h
  have so:=sE o X Z k n cv cl C h'.1.1;have sa:=sE a X Z k n cv cl C h'.1.2;have hl:(p1.endLine==p.line)=true:=beq_iff_eq.mpr h'.2;have pe:PE X ((E.m1 m o a p1 p).py n) (zt X.K cv (Rep X.K) Z ((E.m1 m o a p1 p).ev cl)):=by
   cases m with
   | append =>
    refine PE.mono (GP Y29 PySem.F.slot_list_append PySem.F.type_list_append (YO (cv:=cv)) so.pe (zq sa.pe zK (zd a _ _)) (qi o _ _) (WN a _ _) hl (zd a _ _) rfl) λ σ H Q=>z9 λ μ ρ h hr er q=>?_;refine zc (m:=o.ev cl) hr er q λ da h1 μ1 H1 x _ e1 r1 er1 qa p1=>?_;obtain ⟨ty,p1⟩:=YU r1 qa p1;refine ⟨ty,?_⟩;refine zc (m:=a.ev cl) r1 er1 p1 λ db h2 μ2 H2 y _ e2 r2 er2 qb p2=>?_;exact ⟨y,rfl,μ2,h2,da,db,_,r2,qa.mono e2,qb,p2⟩
   | extend =>
    refine PE.mono (GP Y29 PySem.F.slot_list_extend PySem.F.type_list_extend (YR (cv:=cv)) so.pe (zq sa.pe zK (zd a _ _)) (qi o _ _) (WN a _ _) hl (zd a _ _) rfl) λ σ H Q=>z9 λ μ ρ h hr er q=>?_;refine zc (m:=o.ev cl) hr er q λ da h1 μ1 H1 x _ e1 r1 er1 qa p1=>?_;obtain ⟨ty,p1⟩:=YU r1 qa p1;refine ⟨ty,?_⟩;refine zc (m:=a.ev cl) r1 er1 p1 λ db h2 μ2 H2 y _ e2 r2 er2 qb p2=>?_;exact ⟨y,rfl,μ2,h2,da,db,_,r2,qa.mono e2,qb,p2⟩
   | index =>
    refine PE.mono (GP Y29 PySem.F.slot_list_index PySem.F.type_list_index (VX (cv:=cv)) so.pe (zq sa.pe zK (zd a _ _)) (qi o _ _) (WN a _ _) hl (zd a _ _) rfl) λ σ H Q=>z9 λ μ ρ h hr er q=>?_;refine zc (m:=o.ev cl) hr er q λ da h1 μ1 H1 x _ e1 r1 er1 qa p1=>?_;obtain ⟨ty,p1⟩:=YU r1 qa p1;refine ⟨ty,?_⟩;refine zc (m:=a.ev cl) r1 er1 p1 λ db h2 μ2 H2 y _ e2 r2 er2 qb p2=>?_;exact ⟨y,rfl,μ2,h2,da,db,_,r2,qa.mono e2,qb,p2⟩
  exact 116
 | .gcon x c p,X,Z,k,n,cv,cl,C,h=>by
  have h':gOf X.env.scope x=true/\(x,c)∈n.G:=by have h:(_&&_)=true:=h;simpa using h
  obtain ⟨hd,v,hm,ok⟩:=C.gc x c h'.2;have pe:PE X ((E.gcon x c p).py n) (zt X.K cv (Rep X.K) Z ((E.gcon x c p).ev cl)):=by
   cases c with
   | int i =>
    obtain ⟨t,rfl⟩:=ok;refine PE.mono (wq (v:=.int i) (C.gl h'.1) hm ⟨t,rfl⟩ hd) λ σ H Q=>z9 λ μ ρ h hr er q=>?_;exact q.here hr (.int i)
   | str z =>
    obtain ⟨t,rfl⟩:=ok;refine PE.mono (wq (v:=.str z) (C.gl h'.1) hm ⟨t,rfl⟩ hd) λ σ H Q=>z9 λ μ ρ h hr er q=>?_;exact q.here hr (.str z)
   | tup xs =>
    obtain ⟨a,rfl,tk⟩:=ok;refine PE.mono (wq (v:=.ref a) (C.gl h'.1) hm rfl hd) λ σ H Q=>z9 λ μ ρ h hr er q=>?_;exact q.here hr tk.rep
   | dic kvs =>
    obtain ⟨a,o,es,ep,vs,rfl,_⟩:=ok;refine PE.mono (wq (v:=.ref a) (C.gl h'.1) hm rfl hd) λ σ H Q=>z9 λ μ ρ h hr er q=>?_;exact q.elim
   | cls i =>
    obtain ⟨a,rfl⟩:=ok;refine PE.mono (wq (v:=.ref a) (C.gl h'.1) hm rfl hd) λ σ H Q=>z9 λ μ ρ h hr er q=>?_;exact q.elim
   | isc x' ys =>
    obtain ⟨a,rfl,_⟩:=ok;refine PE.mono (wq (v:=.ref a) (C.gl h'.1) hm rfl hd) λ σ H Q=>z9 λ μ ρ h hr er q=>?_;exact q.elim
   | exc c u =>
    obtain ⟨a,_,_,_,_,rfl,_⟩:=ok;refine PE.mono (wq (v:=.ref a) (C.gl h'.1) hm rfl hd) λ σ H Q=>z9 λ μ ρ h hr er q=>?_;exact q.elim
  exact ⟨pe,λ z=>by cases z⟩
 | .gsub x kvs i p0 p,X,Z,k,n,cv,cl,C,h=>by
  have h':(gOf X.env.scope x=true/\(x,Cn.dic kvs)∈n.G)/\i.ok X.env.scope n=true:=by have h:(_&&_)=true:=h;simpa using h
  obtain ⟨hd,v,hm,ok⟩:=C.gc x _ h'.1.2;have si:=sE i X Z k n cv cl C h'.2;have pe:PE X ((E.gsub x kvs i p0 p).py n) (zt X.K cv (Rep X.K) Z ((E.gsub x kvs i p0 p).ev cl)):=by
   have ok':=ok;obtain ⟨a,o,es,ep,vs,rfl,_⟩:=ok';refine PE.mono (z2s (z53 (kvs:=kvs)) (wq (v:=.ref a) (C.gl h'.1.1) hm rfl hd) si.pe (QW i)) λ σ H Q=>z9 λ μ ρ h hr er q=>?_;refine zc (m:=i.ev cl) hr er q λ d h1 μ1 H1 y _ e1 r1 er1 qa p1=>?_;unfold z0o at p1;cases qa with
   | str kk =>
    simp only at p1;split at p1
    ·rename_i xs l;split at p1
     ·exact p1.elim
     ·rename_i nf;exact ⟨a,kk,xs,rfl,rfl,ok,l,λ b tk=>p1.here r1 (tk.rep ((Bool.not_eq_true _).mp nf))⟩
    ·exact p1.elim
   | _=>exact p1.elim
  exact 116
 | .c1 f a p0 p,X,Z,k,n,cv,cl,C,h=>by
  have h':gOf X.env.scope f.name=true/\a.ok X.env.scope n=true:=by have h:(_&&_)=true:=h;simpa using h
  have sa:=sE a X Z k n cv cl C h'.2;have fin:∀ {σ H Q},zt X.K cv (Rep X.K) Z ((E.c1 f a p0 p).ev cl) σ H Q->zt X.K cv (Rep X.K) Z (a.ev cl) σ H λ x H1=>∃ y,[x]=[y]/\r1 X.K cv (c1D f) y H1 Q:=λ {σ H Q} ⟨μ,ρ,h,hr,er,q⟩=>by
   refine zc (m:=a.ev cl) hr er q λ da h1 μ1 H1 x _ e1 r1 er1 qa p1=>?_;exact ⟨x,rfl,μ1,h1,da,_,r1,qa,p1⟩
  have pe:PE X ((E.c1 f a p0 p).py n) (zt X.K cv (Rep X.K) Z ((E.c1 f a p0 p).ev cl)):=by
   cases f with
   | str=>exact PE.mono (wL (VQ (cv:=cv)) (C.gl h'.1) (C.bm _ 102) PyProof.Rows.boot_str (zq sa.pe zK (zd a _ _)) 102 102 (zd a _ _) rfl) λ σ H Q q=>fin q
   | int=>exact PE.mono (wL (VR (cv:=cv)) (C.gl h'.1) (C.bm _ 102) PyProof.Rows.boot_int (zq sa.pe zK (zd a _ _)) 102 102 (zd a _ _) rfl) λ σ H Q q=>fin q
   | all=>exact PE.mono (jQ (VT (cv:=cv) C.cm) (C.gl h'.1) (C.bm _ 102) PyProof.Rows.boot_all (zq sa.pe zK (zd a _ _)) 102 102 (zd a _ _) rfl) λ σ H Q q=>fin q
   | any=>exact PE.mono (jQ (VU (cv:=cv) C.cm) (C.gl h'.1) (C.bm _ 102) PyProof.Rows.boot_any (zq sa.pe zK (zd a _ _)) 102 102 (zd a _ _) rfl) λ σ H Q q=>fin q
   | sum=>exact PE.mono (jQ (VW (cv:=cv) C.cm) (C.gl h'.1) (C.bm _ 102) PyProof.Rows.boot_sum (zq sa.pe zK (zd a _ _)) 102 102 (zd a _ _) rfl) λ σ H Q q=>fin q
   | abs=>exact PE.mono (jQ (VS (cv:=cv)) (C.gl h'.1) (C.bm _ 102) PyProof.Rows.boot_abs (zq sa.pe zK (zd a _ _)) 102 102 (zd a _ _) rfl) λ σ H Q q=>fin q
  exact 116
 | .listR e p0 p1 p2 p,X,Z,k,n,cv,cl,C,h=>by
  have h':(gOf X.env.scope "list"=true/\gOf X.env.scope "reversed"=true)/\e.ok X.env.scope n=true:=by have h:(_&&_)=true:=h;simpa using h
  have se:=sE e X Z k n cv cl C h'.2;have pe:PE X ((E.listR e p0 p1 p2 p).py n) (zt X.K cv (Rep X.K) Z ((E.listR e p0 p1 p2 p).ev cl)):=by
   refine PE.mono (YF C.cm (C.gl h'.1.2) (C.bm _ 102) (C.gl h'.1.1) (C.bm _ 102) (zq se.pe zK (zd e _ _)) (zd e _ _)) λ σ H Q=>z9 λ μ ρ h hr er q=>?_;refine zc (m:=e.ev cl) hr er q λ d h1 μ1 H1 x _ e1 r1 er1 qa p1=>?_;unfold lrD at p1;cases qa with
   | @fl ds vs a f r=>exact ⟨a,vs,rfl,f.sq,ZB r1 r.reverse p1⟩
   | @loc nn b m =>
    cases e2:PI.rd h1 nn with
    | none=>simp only [e2] at p1;exact p1.elim
    | some ds =>
     simp only [e2] at p1;obtain ⟨vs,q1,q2⟩:=yr r1 m e2;exact ⟨b,vs,rfl,SqL.of q1,ZB r1 q2.reverse p1⟩
   | _=>exact p1.elim
  exact 116
 | .cmpN neg a p1 p,X,Z,k,n,cv,cl,C,h=>by
  have h':a.ok X.env.scope n=true:=by exact h
  have sa:=sE a X Z k n cv cl C h';have hu:X.A.units<cLine:=by have:=C.rm.units;omega
  have hop:OpR X (compareOp (if neg then .NotEq else .Eq)) (z0c X.K neg):=by cases neg with | true=>exact O5 hu | false=>exact O4 hu
  have hb:behindInMarks (if neg then .NotEq else .Eq) (.List [] p1)=false:=by cases neg<;>rfl
  have fin:∀ {μ1:XV}{h1:Hh}{H1:Hp}{x:V}{da:D}{Q:VK}{Z1:Value->Hp->Prop},HR X.K μ1 h1 H1->Rep X.K μ1 H1 da x->PostE X.K cv (Rep X.K) μ1 H1 (ZW neg da h1) Q Z1->∀ b,H1 b=none->z0c X.K neg x (.ref b) (upd H1 b (.lst [])) Q:=λ {μ1 h1 H1 x da Q Z1} r1 qa p1 b hb'=>by
   unfold ZW at p1;have q2:=SqL.of (K:=X.K) (zA (H:=H1) (a:=b) (o:=.lst []));cases qa with
   | @fl ds vs a f r =>
    refine ⟨a,b,vs,rfl,rfl,((zo (μ:=μ1) hb').fz _ _ f).sq,q2,?_⟩;have z:=p1 μ1 (upd H1 b (.lst [])) _ (zo hb') (r1.tup hb') (.bl _);rw [r.isEmpty] at z;exact z
   | @loc nn a m =>
    cases e2:PI.rd h1 nn with
    | none=>simp only [e2] at p1;exact p1.elim
    | some ds =>
     simp only [e2] at p1;obtain ⟨vs,q1,r⟩:=yr r1 m e2;refine ⟨a,b,vs,rfl,rfl,SqL.of (by rw [zu (by intro z;rw [z,hb'] at q1;cases q1)];exact q1),q2,?_⟩;have z:=p1 μ1 (upd H1 b (.lst [])) _ (zo hb') (r1.tup hb') (.bl _);rw [r.isEmpty] at z;exact z
   | _=>exact p1.elim
  have pe:PE X ((E.cmpN neg a p1 p).py n) (zt X.K cv (Rep X.K) Z ((E.cmpN neg a p1 p).ev cl)):=by
   refine PE.mono (Ut hop sa.pe (Ww zK) hb) λ σ H Q=>z9 λ μ ρ h hr er q=>?_;refine zc (m:=a.ev cl) hr er q λ da h1 μ1 H1 x _ e1 r1 er1 qa p1=>?_;exact ⟨Y1h _,λ b hb'=>fin r1 qa p1 b hb'⟩
  refine ⟨pe,λ _=>?_⟩;refine PT.mono (Uu hop sa.pe (Ww zK) hb) λ σ H Q=>z9 λ μ ρ h hr er q=>?_;have q:PostE X.K cv RB μ H (((a.ev cl ρ h).bind λ x h1=>ZW neg x h1).bind toB) Q (Z σ):=q;rw [zj] at q;unfold GF;refine zc (m:=a.ev cl) hr er q λ da h1 μ1 H1 x _ e1 r1 er1 qa p1=>?_;refine ⟨Y1h _,λ b hb'=>fin (Z1:=Z σ) r1 qa ?_ b hb'⟩;cases e3:ZW neg da h1 with
  | ok d h3 =>
   rw [e3] at p1;intro μ3 H3 v x1 x2 x3;unfold Res.bind toB at p1;cases x3 with
   | bl c=>exact ⟨c,rfl,p1 μ3 H3 c x1 x2 rfl⟩
   | _=>exact p1.elim
  | exc c h3=>rw [e3] at p1;exact p1
  | no=>rw [e3] at p1;exact p1
theorem sEo:∀ (e:Eo) (X:Cx) (Z:ZK) (k:Nat) (n:Nm) (cv:XY) (cl:101),Kx X Z k n cv cl->e.ok X.env.scope n=true->PO X (e.py n) (zt X.K cv (λ _ _ a b=>a=b) Z (e.ev cl))
 | .none,X,Z,k,n,cv,cl,C,h=>by
  refine PO.mono BZ λ σ H Q=>z9 λ μ ρ h hr er q=>?_;exact q.here hr rfl
 | .some e,X,Z,k,n,cv,cl,C,h=>by
  have se:=sE e X Z k n cv cl C (by exact h);refine PO.mono (z00 se.pe) λ σ H Q=>z9 λ μ ρ h hr er q=>?_;refine zc (m:=e.ev cl) hr er q λ d h1 μ1 H1 x _ e1 r1 er1 qa p1=>?_;unfold z7i at p1;cases qa with
  | int i=>exact ⟨i,rfl,p1.here r1 rfl⟩
  | _=>exact p1.elim
theorem sL:∀ (l:L) (X:Cx) (Z:ZK) (k:Nat) (n:Nm) (cv:XY) (cl:101),Kx X Z k n cv cl->l.ok X.env.scope n=true->PE X (l.py n) (Ot X.K cv Z (l.ev cl))
 | .disp es p,X,Z,k,n,cv,cl,C,h=>by
  have sr:=sEs es X Z k n cv cl C (by exact h);refine PE.mono (Ww sr.pa) λ σ H Q=>z9 λ μ ρ h hr er q=>?_;refine jz (m:=es.ev cl) Ext.refl hr er q (λ _ _ z=>z) λ ds h1 μ1 H1 xs _ e1 r1 er1 qa p1=>?_;split at p1
  ·rename_i c;refine ⟨by rw [<- qa.length];exact Y28 (yL c),λ a ha=>?_⟩;have na:=r1.fresh ha;have n0:H a=none:=by
    cases e:H a with
    | none=>rfl
    | some o=>rw [e1.oth a o e λ z=>na (e1.sub z)] at ha;cases ha
   exact p1 μ1 _ _ (e1.trans (zo ha)) (r1.tup ha) ⟨a,xs,rfl,zA,qa.mono (zo ha),na,n0⟩
  ·exact p1.elim
 | .comp elt t it c NC cap csc p,X,Z,k,n,cv,cl,C,h=>by
  obtain ⟨k1,k2',k3,k4,k5,k6,k7,k8,k9⟩:=UM C h;have hit:=sI it X Z k n cv cl C k1.1 t k1.2 NC;exact Ox (X:=X) (Z:=Z) (cv:=cv) (mi:=it.ev cl) (mc:=c.evC cl) (me:=elt.ev cl) (pos:=p) (elt:=elt.py ⟨NC,n.F,n.G⟩) (iter:=it.py n) (ifs:=c.py ⟨NC,n.F,n.G⟩) C.cm C.th hit k2' k5
   (λ Cc s H fp pn xe=>UO C.kd k2' k3 k5)
   (λ Cc s H fp pn xe Zc th=>by
    have Cc':=C.comp k2' k3 k4 th;cases c with
    | nil=>exact UN
    | cons e r =>
     cases r with
     | cons _ _=>cases k9
     | nil =>
      have se:=sE e _ Zc k ⟨NC,n.F,n.G⟩ cv cl Cc' (by have k7:(_&&_)=true:=k7;simp at k7;exact k7.1);have ht:=se.pt (by have k8:(_&&_)=true:=k8;simp at k8;exact k8.1);exact GZ ht)
   (λ Cc s H fp pn xe Zc th=>(sE elt _ Zc k ⟨NC,n.F,n.G⟩ cv cl (C.comp k2' k3 k4 th) k6).pe) (yi it)
theorem sI:∀ (it:I) (X:Cx) (Z:ZK) (k:Nat) (n:Nm) (cv:XY) (cl:101),Kx X Z k n cv cl->it.ok X.env.scope n=true->∀ t:Tg,t.forI it=true->∀ N,L2.PI X (t.py N) (it.py n) (zt X.K cv (RJ X.K) Z (it.ev cl))
 | .seq e,X,Z,k,n,cv,cl,C,h=>λ t ht N=>by
  have se:=sE e X Z k n cv cl C (by exact h);refine PI.mono (z55 se.pe) λ σ H Q=>z9 λ μ ρ h hr er q=>?_;refine zc (m:=e.ev cl) hr er q λ d h1 μ1 H1 x _ e1 r1 er1 qa p1=>?_;cases qa with
  | tup g1 g2=>exact .inr (.inl ⟨_,rfl,⟨_,g1⟩,p1.here r1 (z18 g1 g2)⟩)
  | fl g1 g2=>exact .inl ⟨_,rfl,⟨_,g1.sq⟩,p1.here r1 (z54 g1 g2)⟩
  | str z=>exact .inr (.inr ⟨_,rfl,p1.here r1 (z19 z)⟩)
  | @loc nn a m =>
   cases e2:rd h1 nn with
   | none=>simp only [e2] at p1;exact p1.elim
   | some xs =>
    simp only [e2] at p1;obtain ⟨vs,hs1,rs⟩:=r1.rd e2 m;exact .inl ⟨_,rfl,⟨_,hs1⟩,p1.here r1 (z16 m)⟩
  | _=>exact p1.elim
 | .lst l,X,Z,k,n,cv,cl,C,h=>λ t ht N=>by
  have sl:=sL l X Z k n cv cl C (by exact h);refine PI.mono (BU sl) λ σ H Q=>z9 λ μ ρ h hr er q=>?_;refine jz (m:=l.ev cl) Ext.refl hr er q (λ _ _ z=>z) λ ds h1 μ1 H1 x _ e1 r1 er1 qa p1=>?_;obtain ⟨p,vs,rfl,g1,g2,g3,g4⟩:=qa;exact ⟨p,rfl,⟨vs,SqL.of g1⟩,p1 μ1 H1 _ e1 r1 (z17 g1 g3 g2)⟩
 | .rng a p0 p,X,Z,k,n,cv,cl,C,h=>λ t ht N=>by
  have h':gOf X.env.scope "range"=true/\a.ok X.env.scope n=true:=by have h:(_&&_)=true:=h;simpa using h
  have sa:=sE a X Z k n cv cl C h'.2;refine PI.mono (Vu (C.gl h'.1) (C.bm _ 102) (zq sa.pe zK (zd a _ _)) (zd a _ _)) λ σ H Q=>z9 λ μ ρ h hr er q=>?_;refine zc (m:=a.ev cl) hr er q λ d h1 μ1 H1 x _ e1 r1 er1 qa p1=>?_;cases qa with
  | int j =>
   simp only at p1;split at p1
   ·rename_i c;exact ⟨j,rfl,by have:=c.1;omega,by have:=c.2;omega,p1.here r1 (z1a j.toNat)⟩
   ·exact p1.elim
  | _=>exact p1.elim
 | .rngD a b c p0 p,X,Z,k,n,cv,cl,C,h=>λ t ht N=>by
  have h':((gOf X.env.scope "range"=true/\a.ok X.env.scope n=true)/\b.ok X.env.scope n=true)/\c.ok X.env.scope n=true:=by have h:(_&&_)=true:=h;simpa using h
  have sa:=sE a X Z k n cv cl C h'.1.1.2;have sb:=sE b X Z k n cv cl C h'.1.2;have sc:=sE c X Z k n cv cl C h'.2;refine PI.mono (VI (C.gl h'.1.1.1) (C.bm _ 102) (zq sa.pe (zq sb.pe (zq sc.pe zK (zd c _ _)) (zd b _ _)) (zd a _ _)) (by rw [zd,zd,zd];rfl) (by rw [zd,zd];rfl)) λ σ H Q=>z9 λ μ ρ h hr er q=>?_;refine zc (m:=a.ev cl) hr er q λ d h1 μ1 H1 x _ e1 r1 er1 qa p1=>?_;refine zc (m:=b.ev cl) r1 er1 p1 λ d2 h2 μ2 H2 y _ e2 r2 er2 qb p2=>?_;refine zc (m:=c.ev cl) r2 er2 p2 λ d3 h3 μ3 H3 z _ e3 r3 er3 qc p3=>?_;unfold UH at p3;cases qa with
  | int i =>
   cases qb with
   | int j =>
    cases qc with
    | int l =>
     simp only at p3;split at p3
     ·rename_i c;obtain ⟨rfl,c1,c2,c3,c4⟩:=c;exact ⟨i,j,rfl,⟨by omega,by omega,by omega,by omega⟩,p3.here r3 (Ou i (i-j).toNat)⟩
     ·exact p3.elim
    | _=>exact p3.elim
   | _=>exact p3.elim
  | _=>exact p3.elim
theorem sEs:∀ (r:Es) (X:Cx) (Z:ZK) (k:Nat) (n:Nm) (cv:XY) (cl:101),Kx X Z k n cv cl->r.ok X.env.scope n=true->SEs X Z n cv cl r
 | .nil,X,Z,k,n,cv,cl,C,_=>by
  refine ⟨?_,λ b p sb=>?_,λ b p sb hb _=>?_,λ b p sb=>?_,λ b p sb hb _=>?_,z56⟩
  ·skip;refine PA.mono zK λ σ H Q=>z9 λ μ ρ h hr er q=>?_;exact q.here hr .nil
  ·skip;refine PE.mono (Yp sb.pe) λ σ H Q=>z9 λ μ ρ h hr er q=>⟨μ,ρ,h,hr,er,?_⟩;have q:PostE X.K cv (Rep X.K) μ H ((b.ev cl ρ h).bind λ a h1=>.ok a h1) Q (Z σ):=q
   rwa [wt] at q
  ·skip;refine PW.mono (Ur (sb.pt hb)) λ σ H Q=>z9 λ μ ρ h hr er q=>⟨μ,ρ,h,hr,er,?_⟩;have q:PostE X.K cv RB μ H ((b.evT cl ρ h).bind λ a h1=>.ok a h1) Q (Z σ):=q
   rwa [wt] at q
  ·skip;refine PE.mono (Yp sb.pe) λ σ H Q=>z9 λ μ ρ h hr er q=>⟨μ,ρ,h,hr,er,?_⟩;have q:PostE X.K cv (Rep X.K) μ H ((b.ev cl ρ h).bind λ a h1=>.ok a h1) Q (Z σ):=q
   rwa [wt] at q
  ·skip;refine PW.mono (z3v (sb.pt hb)) λ σ H Q=>z9 λ μ ρ h hr er q=>⟨μ,ρ,h,hr,er,?_⟩;have q:PostE X.K cv RB μ H ((b.evT cl ρ h).bind λ a h1=>.ok a h1) Q (Z σ):=q
   rwa [wt] at q
 | .cons e r,X,Z,k,n,cv,cl,C,h=>by
  have h':e.ok X.env.scope n=true/\r.ok X.env.scope n=true:=by have h:(_&&_)=true:=h;simpa using h
  have se:=sE e X Z k n cv cl C h'.1;have sr:=sEs r X Z k n cv cl C h'.2;refine ⟨?_,λ b p sb=>?_,λ b p sb hb hr'=>?_,λ b p sb=>?_,λ b p sb hb hr'=>?_,z1b se.pe sr.ps⟩
  ·skip;refine PA.mono (zq se.pe sr.pa (zd e _ _)) λ σ H Q=>z9 λ μ ρ h hr er q=>?_;refine zc (m:=e.ev cl) hr er q λ da h1 μ1 H1 x _ e1 r1 er1 qa p1=>?_;refine zc (m:=r.ev cl) r1 er1 p1 λ ds h2 μ2 H2 xs _ e2 r2 er2 qb p2=>?_;exact p2.here r2 (.cons (qa.mono e2) qb)
  ·skip;refine PE.mono (Yq sb.pe (sr.an e p se)) λ σ H Q=>z9 λ μ ρ h hr er q=>?_;refine zc (m:=b.ev cl) hr er q λ d h1 μ1 H1 x _ e1 r1 er1 qa p1=>?_;cases qa with
   | bl c =>
    refine ⟨c,rfl,?_⟩;cases c with
    | true=>exact yf ⟨μ1,ρ,h1,r1,er1,p1⟩
    | false=>exact qA (p1.here r1 (.bl _))
   | _=>exact p1.elim
  ·skip;have hr2:e.okT=true/\r.okT=true:=by have hr':(_&&_)=true:=hr';simpa using hr'
   refine PW.mono (Yo (sb.pt hb) (sr.anT e p se hr2.1 hr2.2)) λ σ H Q=>z9 λ μ ρ h hr er q=>?_;refine zc (m:=b.evT cl) (R:=RB) hr er q λ c h1 μ1 H1 x _ e1 r1 er1 qa p1=>?_;have qa':c=x:=qa;subst qa';cases c with
   | true=>exact yf ⟨μ1,ρ,h1,r1,er1,p1⟩
   | false=>exact qA (p1.here r1 rfl)
  ·skip;refine PE.mono (z2o sb.pe (sr.orr e p se)) λ σ H Q=>z9 λ μ ρ h hr er q=>?_;refine zc (m:=b.ev cl) hr er q λ d h1 μ1 H1 x _ e1 r1 er1 qa p1=>?_;cases qa with
   | bl c =>
    refine ⟨c,rfl,?_⟩;cases c with
    | true=>exact yf (p1.here r1 (.bl _))
    | false=>exact qA ⟨μ1,ρ,h1,r1,er1,p1⟩
   | _=>exact p1.elim
  ·skip;have hr2:e.okT=true/\r.okT=true:=by have hr':(_&&_)=true:=hr';simpa using hr'
   refine PW.mono (z2n (sb.pt hb) (sr.orT e p se hr2.1 hr2.2)) λ σ H Q=>z9 λ μ ρ h hr er q=>?_;refine zc (m:=b.evT cl) (R:=RB) hr er q λ c h1 μ1 H1 x _ e1 r1 er1 qa p1=>?_;have qa':c=x:=qa;subst qa';cases c with
   | true=>exact yf (p1.here r1 rfl)
   | false=>exact qA ⟨μ1,ρ,h1,r1,er1,p1⟩
end
end
noncomputable def PostS (K:Y00)(cv:XY)(μ:XV)(H:Hp)(r:RS)(En:Ends)(Z:ZK):Prop :=
 match r with
 | .nx ρ h'=>∀ μ' H' σ',Ext K μ H μ' H'->HR K μ' h' H'->ER K μ' ρ σ' H'->En.nx σ' H'
 | .bk ρ h'=>∀ μ' H' σ',Ext K μ H μ' H'->HR K μ' h' H'->ER K μ' ρ σ' H'->En.bk σ' H'
 | .ct ρ h'=>∀ μ' H' σ',Ext K μ H μ' H'->HR K μ' h' H'->ER K μ' ρ σ' H'->En.ct σ' H'
 | .rt d h'=>∀ μ' H' v,Ext K μ H μ' H'->HR K μ' h' H'->Rep K μ' H' d v->En.rt v H'
 | .ex c ρ h'=>∀ μ' H' σ',Ext K μ H μ' H'->HR K μ' h' H'->ER K μ' ρ σ' H'->Z σ' (cv c) H'
 | .no=>False
noncomputable def Zf (K:Y00)(cv:XY)(Z:ZK)(m:En->Hh->RS):TS:=λ En σ H=>∃ μ ρ h,HR K μ h H/\ER K μ ρ σ H/\PostS K cv μ H (m ρ h) En Z
theorem zB {K:Y00}{cv:XY}{Z:ZK}{m:En->Hh->RS}{En:Ends}{σ:St}{H:Hp}{G:Prop}(f:∀ μ ρ h,HR K μ h H->ER K μ ρ σ H->PostS K cv μ H (m ρ h) En Z->G)(x:Zf K cv Z m En σ H):G:=by
 obtain ⟨μ,ρ,h,hr,er,q⟩:=x;exact f μ ρ h hr er q
theorem PostS.ext {K:Y00}{cv:XY}{μ μ1:XV}{H H1:Hp}{r:RS}{En:Ends}{Z:ZK}(p:PostS K cv μ H r En Z)(e:Ext K μ H μ1 H1):PostS K cv μ1 H1 r En Z:=by
 unfold PostS at p ⊢;cases r with
 | nx ρ h=>exact λ μ' H' σ' e1 r1 q1=>p μ' H' σ' (e.trans e1) r1 q1
 | bk ρ h=>exact λ μ' H' σ' e1 r1 q1=>p μ' H' σ' (e.trans e1) r1 q1
 | ct ρ h=>exact λ μ' H' σ' e1 r1 q1=>p μ' H' σ' (e.trans e1) r1 q1
 | rt d h=>exact λ μ' H' σ' e1 r1 q1=>p μ' H' σ' (e.trans e1) r1 q1
 | ex c ρ h=>exact λ μ' H' σ' e1 r1 q1=>p μ' H' σ' (e.trans e1) r1 q1
 | no=>exact p
theorem j1 {α β:Type}{K:Y00}{cv:XY}{R:List Addr->Hp->α->β->Prop}{μ:XV}{ρ:En}{h:Hh}{σ:St}{H:Hp}{Z:ZK}{m:En->Hh->Res α}{f:α->Hh->RS}{En:Ends}{Q':β->Hp->Prop}
  (hr:HR K μ h H) (er:ER K μ ρ σ H) (p:PostS K cv μ H (jm ρ (m ρ h) f) En Z)
  (go:∀ a h1 μ1 H1 x,m ρ h=.ok a h1->Ext K μ H μ1 H1->HR K μ1 h1 H1->ER K μ1 ρ σ H1->R μ1 H1 a x->PostS K cv μ1 H1 (f a h1) En Z->Q' x H1) :
  zt K cv R Z m σ H Q':=by
 refine ⟨μ,ρ,h,hr,er,?_⟩;unfold jm at p;cases e:m ρ h with
 | ok a h1 =>
  rw [e] at p;exact λ μ1 H1 x e1 r1 q1=>go a h1 μ1 H1 x e e1 r1 (er.mono e1) q1 (PostS.ext p e1)
 | exc c h1 =>
  rw [e] at p;exact λ μ1 H1 e1 r1=>p μ1 H1 σ e1 r1 (er.mono e1)
 | no=>rw [e] at p;exact p
noncomputable def Xt.ok (sc:Scope)(n:Nm)(t:Xt):Bool:=gOf sc t.x&&!(t.x==("__debug__":Str))&&(match t.d with
 | some d=>n.G.any λ q=>q.1==t.x&&(match q.2 with | .exc d' _=>d'==d | _=>false)
 | none=>t.x==("ValueError":Str))
noncomputable def Xv.ok (sc:Scope)(n:Nm):Xv->Bool
 | .and a b r _=>a.ok sc n&&b.ok sc n&&r.all (Xt.ok sc n)
 | .lst ts _=>ts.all (Xt.ok sc n)&&decide (ts.length<=1000)
 | .one t=>t.ok sc n
theorem VY {X:Cx}{d:Addr}:jb X (.builtin "isinstance") (λ xs H Q=>∃ a C b,xs=[.ref a,.ref d]/\H a=some (exO a C)/\ExC X.K C/\PySem.W.kitOne X.K (.ref C) (.ref d)=some b/\Q (.bl b) H):=by
 intro pins s σ H xs us Q I r h;obtain ⟨a,C,b,rfl,ea,Z,e,q⟩:=h;obtain ⟨u,w',rfl,rx,rw'⟩:=GG r;cases (show u=Value.ref a from rx);cases (show w'=Value.ref d from rw');exact QN Z e I ea λ tk=>⟨.bl b,H,I.tok _,rfl,q⟩
theorem VZ {X:Cx}{T:String}:jb X (.builtin "isinstance") (λ xs H Q=>∃ a C b,xs=[.ref a,.ty T]/\H a=some (exO a C)/\ExC X.K C/\PySem.W.kitOne X.K (.ref C) (.type T)=some b/\Q (.bl b) H):=by
 intro pins s σ H xs us Q I r h;obtain ⟨a,C,b,rfl,ea,Z,e,q⟩:=h;obtain ⟨u,w',rfl,rx,rw'⟩:=GG r;cases (show u=Value.ref a from rx);cases (show w'=Value.type T from rw');exact QN Z e I ea λ tk=>⟨.bl b,H,I.tok _,rfl,q⟩
noncomputable def XIn (K:Y00)(G:List (Str×Cn))(cv:XY)(j:Nat)(σ:St)(H:Hp)(u:List Nat):Prop:=∃ a C,σ[j]?=some (some (.ref a))/\H a=some (exO a C)/\TstK K G cv C u
noncomputable def tX (K:Y00)(G:List (Str×Cn))(cv:XY)(j:Nat)(f:List Nat->V):TE:=λ σ H Q=>∃ u,XIn K G cv j σ H u/\Q (f u) H
noncomputable def tXs (K:Y00)(G:List (Str×Cn))(cv:XY)(j:Nat)(f:List Nat->List V):TA:=λ σ H Q=>∃ u,XIn K G cv j σ H u/\Q (f u) H
structure XK' (X:Cx)(n:Nm)(cv:XY)(j:Nat):Prop where
 is:Gl X "isinstance"
 mi:X.mg "isinstance"=none
 mv:X.mg "ValueError"=none
 hj:X.N[j]?=some (n.N.getD j "")
 vi:Vis X.env.scope (n.N.getD j "")
 nd:(n.N.getD j ""==("__debug__":Str))=false
 nc:(n.N.getD j ""==("__classdict__":Str))=false
 gc:∀ x c u,(x,Cn.exc c u)∈n.G->∃ a,X.mg x=some (.ref a)/\cv c=.ref a
section
variable {X:Cx}{n:Nm}{cv:XY}{j:Nat}
theorem z1c:bootBuiltins "ValueError"=some (.type "ValueError"):=by decide +kernel
theorem G0 (C:XK' X n cv j)(t:Xt)(h:t.ok X.env.scope n=true):PE X (t.call (n.N.getD j "")) (tX X.K n.G cv j λ u=>.bl (t.is u)):=by
 obtain ⟨neg,x,d,q1,q2,q3,q4,q5⟩:=t;have h:(_&&_)=true:=h;simp only [Y0c,Y2e] at h;obtain ⟨⟨hg,hd⟩,h⟩:=h;have hg:Gl X x:=show X.env.scope.names.lookup x=some .globalImplicit from of_decide_eq_true hg;cases d with
 | some d =>
  obtain ⟨q,hq,e⟩:=List.any_eq_true.mp h;obtain ⟨y,c⟩:=q;rw [Y0c] at e;cases c with
  | exc d' w =>
   have e1:y=x:=eq_of_beq e.1;have e2:d'=d:=eq_of_beq e.2;subst e1 e2;obtain ⟨a,hm,ec⟩:=C.gc y d' w hq;refine PE.mono (jQ (VY (d:=a)) C.is C.mi Y2k (zq (pv j C.hj C.vi C.nd C.nc) (zq (wq (v:=.ref a) hg hm rfl hd) zK)) 102 102 rfl rfl) λ σ H Q q=>?_;obtain ⟨u,⟨b,D,e1,e2,T⟩,q⟩:=q
   have:=T.ot y d' w hq
   rw [ec] at this;exact ⟨_,e1,b,D,_,rfl,e2,T.ec,this,q⟩
  | int _=>cases e.2
  | str _=>cases e.2
  | tup _=>cases e.2
  | dic _=>cases e.2
  | cls _=>cases e.2
  | isc _ _=>cases e.2
 | none =>
  have e:x="ValueError":=eq_of_beq h;subst e;refine PE.mono (jQ (VZ (T:="ValueError")) C.is C.mi Y2k (zq (pv j C.hj C.vi C.nd C.nc) (zq (Uq (x:="ValueError") (v:=.ty "ValueError") hg C.mv (u:=.type "ValueError") z1c rfl 102 102) zK)) 102 102 rfl rfl) λ σ H Q q=>?_;obtain ⟨u,⟨b,D,e1,e2,T⟩,q⟩:=q;exact ⟨_,e1,b,D,_,rfl,e2,T.ec,T.ve,q⟩
theorem UP (C:XK' X n cv j)(t:Xt)(h:t.ok X.env.scope n=true):PE X (t.py (n.N.getD j "")) (tX X.K n.G cv j λ u=>.bl (t.val u)):=by
 have p:=G0 C t h;unfold Xt.py Xt.val;cases t.neg with
 | false=>exact p
 | true=>exact PE.mono (Gs p) λ σ H Q q=>by obtain ⟨u,x,q⟩:=q;exact ⟨u,x,_,rfl,q⟩
theorem z1d (t:Xt)(e:Str)(es:List Expr)(env:Env):starEach (t.py e::es) env=(false,eval (t.py e) env)::starEach es env:=by
 unfold Xt.py;cases t.neg<;>rfl
theorem Oy (C:XK' X n cv j):∀ (ts:List Xt),ts.all (Xt.ok X.env.scope n)=true->PA X (ts.map (Xt.py (n.N.getD j ""))) (tXs X.K n.G cv j λ u=>ts.map λ t=>.bl (t.val u))
 | [],_=>λ pos pins s σ H Q I q=>zK pos pins s σ H Q I (by obtain ⟨u,x,q⟩:=q;exact q)
 | t::r,h=>by
  rw [Y11,Y0c] at h;intro pos pins s σ H Q I q;refine zq (UP C t h.1) (Oy C r h.2) (z1d t _ _ _) pos pins s σ H Q I ?_;obtain ⟨u,x,q⟩:=q;exact ⟨u,x,u,x,q⟩
theorem UQ (C:XK' X n cv j)(p:Pos):∀ (r:List Xt) (a:Xt),a.ok X.env.scope n=true->r.all (Xt.ok X.env.scope n)=true->PE X (.BoolOp .And (a.py (n.N.getD j "")::r.map (Xt.py (n.N.getD j ""))) p) (tX X.K n.G cv j λ u=>.bl (a.val u&&r.all (Xt.val u)))
 | [],a,h,_=>PE.mono (Yp (UP C a h)) λ σ H Q q=>by
  obtain ⟨u,x,q⟩:=q;refine ⟨u,x,?_⟩;dsimp only at q ⊢;rw [List.all_nil,Bool.and_true] at q;exact q
 | b::r,a,h,hr=>by
  rw [Y11,Y0c] at hr;refine PE.mono (Yq (UP C a h) (UQ C p r b hr.1 hr.2)) λ σ H Q q=>?_;obtain ⟨u,x,q⟩:=q;refine ⟨u,x,_,rfl,?_⟩;dsimp only at q ⊢;rw [Y11] at q;cases e:a.val u with
  | true=>rw [e,Bool.true_and] at q;exact yf ⟨u,x,q⟩
  | false=>rw [e,Y2p] at q;exact qA q
noncomputable def tXv (K:Y00)(G:List (Str×Cn))(cv:XY)(j:Nat):Xv->TE
 | .and a b r _=>tX K G cv j λ u=>.bl (a.val u&&(b.val u&&r.all (Xt.val u)))
 | .lst ts _=>λ σ H Q=>∃ u,XIn K G cv j σ H u/\∀ p,H p=none->Q (.ref p) (upd H p (.lst (ts.map λ t=>.bl (t.val u))))
 | .one t=>tX K G cv j λ u=>.bl (t.val u)
theorem z7s (C:XK' X n cv j)(v:Xv)(h:v.ok X.env.scope n=true):PE X (v.py (n.N.getD j "")) (tXv X.K n.G cv j v):=by
 cases v with
 | one t=>exact UP C t h
 | and a b r p =>
  have h:(_&&_)=true:=h;simp only [Y0c] at h;exact UQ C p (b::r) a h.1.1 (by rw [Y11,h.1.2,h.2];rfl)
 | lst ts p =>
  have h:(_&&_)=true:=h;rw [Y0c,decide_eq_true_eq] at h;refine PE.mono (Ww (Oy C ts h.1)) λ σ H Q q=>?_;obtain ⟨u,x,q⟩:=q;exact ⟨u,x,by rw [Y09];exact Y28 (yL h.2),q⟩
end
theorem z1e {K:Y00}{G:List (Str×Cn)}{cv:XY}{j i:Nat}{v:Xv}{u:List Nat}{μ μ1:XV}{H H1:Hp}{ρ:PI.En}{σ1:St}{h:Hh}{En:Ends}{Z:ZK}{a C:Addr}(hij:i≠j)(hj:j<σ1.length)(T:TstK K G cv C u)(ha:H1 a=none)
  (q:PostS K cv μ H (.nx ((ρ.set i (some (v.run u h).1)).set j none) (v.run u h).2) En Z) (ex:Ext K μ H μ1 H1) (hr:HR K μ1 h H1) (er:ER K μ1 ρ σ1 H1) :
  Gz (tXv K G cv j v) (JT i) { nx:=λ σ2 H2=>En.nx (σ2.set j none) H2,rt:=λ _ _=>False } (σ1.set j (some (.ref a))) (upd H1 a (exO a C)):=by
 have hx:XIn K G cv j (σ1.set j (some (.ref a))) (upd H1 a (exO a C)) u:=⟨a,C,Y0r hj,zA,T⟩;have e1:Ext K μ1 H1 μ1 (upd H1 a (exO a C)):=zo ha;have r1:HR K μ1 h (upd H1 a (exO a C)):=hr.tup ha;have fin:∀ (μ2:XV) (H2:Hp) (h2:Hh) (d:D) (x:V),Ext K μ1 H1 μ2 H2->HR K μ2 h2 H2->Rep K μ2 H2 d x->(v.run u h).1=d->(v.run u h).2=h2->En.nx (((σ1.set j (some (.ref a))).set i (some x)).set j none) H2:=λ μ2 H2 h2 d x e2 r2 q2 ed eh=>by
  rw [ed,eh] at q;refine q μ2 H2 _ (ex.trans e2) r2 ⟨?_,λ m d' hm=>?_⟩
  ·have:=er.len;simp only [Y1d];exact this
  ·have hmj:m≠j:=λ z=>by
    subst z;rw [List.getElem?_set] at hm;split at hm<;>simp_all
   rw [Y0h (Ne.symm hmj)] at hm ⊢;have es:=(er.mono e2).set q2 i;obtain ⟨v',h1,h2⟩:=es.val m d' hm;refine ⟨v',?_,h2⟩;by_cases hmi:m=i
   ·subst hmi;have hl:m<σ1.length:=by
     have:=(Y02.mp h1).1
     rwa [Y1d] at this
    rw [Y0r hl] at h1;rw [Y0r (by rw [Y1d];exact hl)];exact h1
   ·rw [Y0h (Ne.symm hmi)] at h1;rw [Y0h (Ne.symm hmi),Y0h (Ne.symm hmj)];exact h1
 cases v with
 | one t=>exact ⟨u,hx,fin μ1 _ h _ _ e1 r1 (.bl _) rfl rfl⟩
 | and a' b r p=>exact ⟨u,hx,fin μ1 _ h _ _ e1 r1 (.bl _) rfl rfl⟩
 | lst ts p =>
  refine ⟨u,hx,λ b hb=>?_⟩;have nb:b∉μ1:=r1.fresh hb;have rb:∀ (μ':XV) (H':Hp),Reps K μ' H' (ts.map λ t=>D.bl (t.val u)) (ts.map λ t=>V.bl (t.val u)):=λ μ' H'=>by
   clear fin q
   induction ts with
   | nil=>exact .nil
   | cons t r ih=>exact .cons (.bl _) ih
  have r2:=r1.alloc (o:=.lst (ts.map λ t=>D.bl (t.val u))) (u:=.lst (ts.map λ t=>V.bl (t.val u))) hb nb λ μ' _=>⟨_,zA,rb μ' _⟩;exact fin (μ1++[b]) _ _ _ _ (e1.trans ((zo hb).add hb)) r2 (.loc (by rw [<- hr.len];simp)) rfl rfl
noncomputable def E.noT:E->Bool
 | .tup _ _=>false
 | .ofL _=>false
 | _=>true
noncomputable def E.noC:E->Bool
 | .ofL (.comp _ _ _ _ _ _ _ _)=>false
 | _=>true
noncomputable def Fp.ok (n:Nm):Fp->Bool
 | .c _ _=>true
 | .r i _ _=>decide (i<n.N.length)
 | .v i _ _=>decide (i<n.N.length)
noncomputable def Ms.ok (n:Nm):Ms->Bool
 | .s _ _=>true
 | .f a b r _=>a.ok n&&b.ok n&&r.all (λ q=>q.ok n)
mutual
noncomputable def S.ok (sc:Scope)(n:Nm):S->Bool
 | .set i e _ _=>decide (i<n.N.length)&&e.ok sc n
 | .ret e _=>e.ok sc n
 | .iff c a b _=>c.ok sc n&&c.okT&&a.ok sc n&&b.ok sc n
 | .ex e _=>e.ok sc n&&e.noC
 | .put o i v _ _=>o.ok sc n&&i.ok sc n&&v.ok sc n
 | .forr t it b _=>t.okS n.N&&(it.ok sc n&&t.forI it)&&b.ok sc n
 | .whil c b _=>c.ok sc n&&c.okT&&b.ok sc n
 | .iffN a i _ _ x y _=>a.ok sc n&&a.okT&&decide (i<n.N.length)&&x.ok sc n&&y.ok sc n
 | .rais x c u m _ _ _=>gOf sc x&&decide ((x,Cn.exc c u)∈n.G)&&!125&&m.ok n
 | .tryA b x D u cs j i v _ _ _ _ _=>b.ok sc n&&gOf sc x&&decide ((x,Cn.exc D u)∈n.G)&&!125&&(cs.all λ q=>decide ((q.1,Cn.exc q.2.1 q.2.2)∈n.G)&&decide (D∈q.2.2))&&decide (i<n.N.length)&&decide (j<n.N.length)&&decide (i≠j)&&decide (sc.names.lookup (n.N.getD j "")=some .local)&&gOf sc "isinstance"&&v.ok sc n
 | .setT is e p1 _=>(Tg.tup is p1).okS n.N&&e.ok sc n&&e.noT
noncomputable def Ss.ok (sc:Scope)(n:Nm):Ss->Bool
 | .nil=>true
 | .cons s r=>s.ok sc n&&r.ok sc n
end
theorem PS.mono {X:Cx}{e:Stmt}{t t':TS}(p:PS X e t)(h:∀ En σ H,t' En σ H->t En σ H):PS X e t':=λ pins s σ H En I q=>p pins s σ H En I (h En σ H q)
theorem PSs.mono {X:Cx}{e:List Stmt}{t t':TS}(p:PSs X e t)(h:∀ En σ H,t' En σ H->t En σ H):PSs X e t':=λ pins s σ H En I q=>p pins s σ H En I (h En σ H q)
structure KxS (X:Cx)(Z:ZK)(k:Nat)(n:Nm)(cv:XY)(cl:101):Prop extends Kx X Z k n cv cl where
 lo:∀ x∈n.N,Loc X.env.scope x/\(X.fn x=true\/X.env.scope.names.lookup x=some .local)
theorem KxS.wish {X:Cx}{Z:ZK}{k:Nat}{n:Nm}{cv:XY}{cl:101}(C:KxS X Z k n cv cl):KxS (X.wish (XE X Z)) Z k n cv cl :=
 ⟨⟨C.th.wished,C.rm,C.nN,C.nd,C.cm,C.kd,C.nm,C.bm,C.gc,C.fn,C.mc,C.xc⟩,C.lo⟩
section
variable {X:Cx}{Z:ZK}{k:Nat}{n:Nm}{cv:XY}{cl:101}
theorem Zg (e:E)(h:e.noC=true)(t:Option Expr)(l:Nat)(env:Env):swapsWith (e.py n) t l env=pure false:=by
 cases e with
 | ofL l =>
  cases l with
  | disp es p=>rfl
  | comp=>cases h
 | _=>rfl
theorem YV (o i : E)(p1 : Pos)(env : Env) : ∀ v, assign (.Subscript (o.py n) (i.py n) p1) env v = (do
      let ov <- holding [v] (eval (o.py n) env)
      let iv <- holding [v,ov] (eval (i.py n) env)
      standAt p1
      holding [v,ov,iv] (setItem ov iv v)
      release [v,ov,iv] []):=by
  intro v;generalize o.py n=oo;cases i with
  | ofL l=>cases l<;>(rfl)
  | _=>rfl
theorem YW (o i e:E)(p1:Pos)(l:Nat)(env:Env):swapsWithSole [.Subscript (o.py n) (i.py n) p1] (e.py n) l env=pure false:=by
 generalize o.py n=oo;generalize i.py n=ii;cases e with
 | ofL l=>cases l<;>(rfl)
 | _=>rfl
theorem WO (o i e:E)(p1:Pos)(env:Env):swappedStores [.Subscript (o.py n) (i.py n) p1] (e.py n) env=pure none:=by
 generalize o.py n=oo;generalize i.py n=ii;cases e with
 | ofL l=>cases l<;>(rfl)
 | _=>rfl
theorem z1f (ts:List Expr)(e:E)(h:e.noT=true)(k:Nat)(p1:Pos)(l:Nat)(env:Env):swapsWithSole [.Tuple ts k p1] (e.py n) l env=pure false:=by
 cases e with
 | ofL l=>cases h
 | tup es p=>cases h
 | _=>rfl
theorem G1 (ts:List Expr)(e:E)(h:e.noT=true)(k:Nat)(p1:Pos)(env:Env):swappedStores [.Tuple ts k p1] (e.py n) env=pure none:=by
 cases e with
 | ofL l=>cases h
 | tup es p=>cases h
 | _=>rfl
theorem YX {c:E}{b:Ss}{p:Pos}{En:Ends}{σ:St}{H:Hp}{μ:XV}{ρ:PI.En}{h:Hh}(hr:HR X.K μ h H)(er:ER X.K μ ρ σ H)(q:PostS X.K cv μ H ((S.whil c b p).run cl ρ h) En Z) :
  Yr (zt X.K cv RB Z (c.evT cl)) (Zf X.K cv Z (b.run cl)) En σ H:=by
 have q:PostS X.K cv μ H (whR (λ ρ' h'=>c.evT cl ρ' h') (λ ρ' h'=>b.run cl ρ' h') ρ h) En Z:=q;have nz:whR (λ ρ' h'=>c.evT cl ρ' h') (λ ρ' h'=>b.run cl ρ' h') ρ h≠.no:=λ z=>by rw [z] at q;exact q
 obtain ⟨n0,e0⟩:=WH nz;rw [<- e0] at q;refine ⟨λ m σ H=>∃ μ ρ h,HR X.K μ h H/\ER X.K μ ρ σ H/\PostS X.K cv μ H (whL (λ ρ' h'=>c.evT cl ρ' h') (λ ρ' h'=>b.run cl ρ' h') m ρ h) En Z,⟨n0,μ,ρ,h,hr,er,q⟩,?_⟩
 rintro m σ1 H1 ⟨μ1,ρ1,h1,hr1,er1,q1⟩
 cases m with
 | zero=>exact q1.elim
 | succ m =>
  rw [whL] at q1;refine ⟨μ1,ρ1,h1,hr1,er1,?_⟩;cases ec:c.evT cl ρ1 h1 with
  | ok t h2 =>
   rw [ec] at q1;intro μ2 H2 x e2 r2 hx;have hx':t=x:=hx;subst hx';cases t with
   | false=>exact qA (q1 μ2 H2 σ1 e2 r2 (er1.mono e2))
   | true =>
    refine yf ⟨λ σ' H'=>∃ μ ρ h,HR X.K μ h H'/\ER X.K μ ρ σ' H'/\PostS X.K cv μ H' (whL (λ ρ' h'=>c.evT cl ρ' h') (λ ρ' h'=>b.run cl ρ' h') m ρ h) En Z,λ σ' H' z=>⟨m,Y25 m,z⟩,μ2,ρ1,h2,r2,er1.mono e2,?_⟩;simp only at q1;have q2:=PostS.ext q1 e2;cases eb:b.run cl ρ1 h2 with
    | nx ρ4 h4=>simp only [eb] at q2;exact λ μ4 H4 σ4 e4 r4 er4=>⟨μ4,ρ4,h4,r4,er4,PostS.ext q2 e4⟩
    | ct ρ4 h4=>simp only [eb] at q2;exact λ μ4 H4 σ4 e4 r4 er4=>⟨μ4,ρ4,h4,r4,er4,PostS.ext q2 e4⟩
    | bk ρ4 h4=>simp only [eb] at q2;exact q2
    | rt d h4=>simp only [eb] at q2;exact q2
    | ex c' ρ4 h4=>simp only [eb] at q2;exact q2
    | no=>simp only [eb] at q2;exact q2
  | exc k h2 =>
   rw [ec] at q1;exact λ μ2 H2 e2 r2=>q1 μ2 H2 σ1 e2 r2 (er1.mono e2)
  | no=>rw [ec] at q1;exact q1
theorem G2 {c:Expr}{body:List Stmt}{tc:TT}{tb:TS}{pos:Pos}(th:Thr X Z)(hc:PT (X.wish (XE X Z)) c tc)(hb:PSs (X.wish (XE X Z)) body tb):PS X (.While c body [] pos) (Yr tc tb):=by
 intro pins s σ H D I h;refine wpAny_mono (GC (X:=X.wish (XE X Z)) (W8 th.toXOk) hc hb pins s σ H D (I.wish _) h) (λ f s' q=>q.unwish) λ e s' x=>th.thr e s' x
theorem Oz {t:Tg}{it:I}{b:Ss}{En:Ends}{σ:St}{H:Hp}{μ:XV}{ρ:PI.En}{h:Hh}(hr:HR X.K μ h H)(er:ER X.K μ ρ σ H)(q:PostS X.K cv μ H ((S.forr t it b p).run cl ρ h) En Z) :
  z40 (zt X.K cv (RJ X.K) Z (it.ev cl)) (gB X.K t) (Zf X.K cv Z (b.run cl)) En σ H:=by
 refine j1 (m:=it.ev cl) hr er q λ qq h1 μ1 H1 J _ e1 r1 er1 src p1=>?_;obtain ⟨c,ds⟩:=qq;refine ⟨λ i m σ' H'=>m=ds.length-i/\i<=ds.length/\∃ μ2 ρ2 h2,Ext X.K μ1 H1 μ2 H'/\HR X.K μ2 h2 H'/\ER X.K μ2 ρ2 σ' H'/\PostS X.K cv μ2 H' (jg c (zU t λ ρ' h'=>b.run cl ρ' h') (ds.drop i) ρ2 h2) En Z,
  ⟨ds.length,by simp,Y1h _,μ1,ρ,h1,Ext.refl,r1,er1,p1⟩,?_⟩
 rintro i m σ' H' ⟨rfl,hi,μ2,ρ2,h2,e2,r2,er2,p2⟩
 by_cases hlt:i<ds.length
 ·right;rw [Y2o hlt] at p2;unfold jg at p2;split at p2;rotate_left
  ·exact p2.elim
  rename_i st;obtain ⟨s1,s2⟩:=src μ2 h2 H' e2 r2 st;obtain ⟨g1,g2⟩:=s1 i ds[i] (Y0b hlt);refine ⟨g1,λ σ3 H3=>ds.length-(i+1)=ds.length-(i+1)/\i+1<=ds.length/\∃ μ3 ρ3 h3,Ext X.K μ1 H1 μ3 H3/\HR X.K μ3 h3 H3/\ER X.K μ3 ρ3 σ3 H3/\PostS X.K cv μ3 H3 (jg c (zU t λ ρ' h'=>b.run cl ρ' h') (ds.drop (i+1)) ρ3 h3) En Z,
   λ σ3 H3 z=>⟨ds.length-(i+1),by omega,z⟩,λ x H3 y=>?_⟩
  obtain ⟨e2',r2',rx⟩:=g2 x H3 y;replace p2:=PostS.ext p2 e2';replace e2:=e2.trans e2';replace r2:=r2';replace er2:=er2.mono e2';unfold zU at p2;cases eb:jC t ds[i] ρ2 with
  | none=>rw [eb] at p2;exact p2.elim
  | some ρ3 =>
   rw [eb] at p2;refine ⟨μ2,ρ2,ds[i],ρ3,h2,r2,er2,rx,eb,λ σ3 er3 _ _=>⟨μ2,ρ3,h2,r2,er3,?_⟩⟩;cases eo:b.run cl ρ3 h2 with
   | nx ρ4 h4 =>
    simp only [eo] at p2;exact λ μ4 H4 σ4 e4 r4 er4=>⟨rfl,hlt,μ4,ρ4,h4,e2.trans e4,r4,er4,PostS.ext p2 e4⟩
   | ct ρ4 h4 =>
    simp only [eo] at p2;exact λ μ4 H4 σ4 e4 r4 er4=>⟨rfl,hlt,μ4,ρ4,h4,e2.trans e4,r4,er4,PostS.ext p2 e4⟩
   | bk ρ4 h4=>simp only [eo] at p2;exact p2
   | rt d h4=>simp only [eo] at p2;exact p2
   | ex c' ρ4 h4=>simp only [eo] at p2;exact p2
   | no=>simp only [eo] at p2;exact p2
 ·left;have ei:i=ds.length:=by omega
  subst ei;rw [List.drop_length] at p2;unfold jg at p2;split at p2;rotate_left
  ·exact p2.elim
  rename_i st;exact ⟨(src μ2 h2 H' e2 r2 st).2,p2 μ2 H' σ' Ext.refl r2 er2⟩
noncomputable def jT (X:Cx)(cv:XY)(Z:ZK)(cl:101):List Fp->TJ
 | []=>z2w
 | .c x _::r=>tJC x (jT X cv Z cl r)
 | .r i p0 _::r=>tJR (zt X.K cv (Rep X.K) Z ((E.var i p0).ev cl)) (jT X cv Z cl r)
 | .v i p0 _::r=>tJV (zt X.K cv (Rep X.K) Z ((E.var i p0).ev cl)) (jT X cv Z cl r)
theorem UR (C:Kx X Z k n cv cl):∀ (ps:List Fp),(ps.all λ q=>q.ok n)=true->PJ X (ps.map (Fp.py n.N)) (jT X cv Z cl ps)
 | [],_=>z4u
 | .c x p::r,h=>by
  rw [Y11,Y0c] at h;exact z9j (UR C r h.2)
 | .r i p0 p::r,h=>by
  rw [Y11,Y0c] at h;exact z9k (sE (.var i p0) X Z k n cv cl C h.1).pe (UR C r h.2)
 | .v i p0 p::r,h=>by
  rw [Y11,Y0c] at h;exact z9o (sE (.var i p0) X Z k n cv cl C h.1).pe (UR C r h.2)
noncomputable def msT (X:Cx)(cv:XY)(Z:ZK)(cl:101):Ms->TE
 | .s x _=>tC (.str x)
 | .f a b r _=>z2x (jT X cv Z cl (a::b::r))
theorem z7t (C:Kx X Z k n cv cl):∀ (m:Ms),m.ok n=true->PE X (m.py n.N) (msT X cv Z cl m)
 | .s x p,_=>Yn
 | .f a b r p,h=>z0b (UR C (a::b::r) (by have h:(_&&_)=true:=h;rw [Y11,Y11];simpa [Bool.and_assoc] using h))
theorem z1g {Q:Str->Hp->Prop}{ρ:PI.En}{h:Hh}{σ:St}:∀ (ps:List Fp) (acc:Str) (H:Hp) (μ:XV),(ps.all λ q=>q.fine ρ)=true->HR X.K μ h H->ER X.K μ ρ σ H->acc.length+11000*ps.length<=1000000->(∀ o μ' H',Ext X.K μ H μ' H'->HR X.K μ' h H'->Q o H')->jT X cv Z cl ps σ H acc Q
 | [],acc,H,μ,_,hr,er,hl,q=>⟨Y0j (by simp at hl;omega) (show 1000000<=sizeLine by decide),q acc μ H Ext.refl hr⟩
 | .c x p::r,acc,H,μ,hf,hr,er,hl,q=>by
  rw [Y11,Y0c] at hf;have hx:x.length<=1000:=of_decide_eq_true hf.1;rw [Y0q] at hl;have l1:(acc++x).length=acc.length+x.length:=Str.length_append acc x;exact ⟨Y0j 103 (show 1000000<=sizeLine by decide),z1g r (acc++x) H μ hf.2 hr er 103 q⟩
 | .r i p0 p::r,acc,H,μ,hf,hr,er,hl,q=>by
  rw [Y11,Y0c] at hf;rw [Y0q] at hl;obtain ⟨z,ez,lz,oz⟩:∃ z,ρ[i]?=some (some (.str z))/\z.length<=1000/\PyData.strOk z=true:=by
   have h1:(match ρ[i]? with | some (some (.str z))=>decide (z.length<=1000)&&PyData.strOk z | _=>false)=true:=hf.1
   split at h1
   ·rename_i z e;rw [Y0c] at h1;exact ⟨z,e,of_decide_eq_true h1.1,h1.2⟩
   ·cases h1
  have lr:(reprText z).length<=10*z.length+2:=StrLaws.reprText_len z (λ c hc=>by
   unfold PyData.strOk at oz;rw [<- Array.all_toList] at oz;exact Y0o (of_decide_eq_true (Y14.mp oz c hc)) 102)
  have l1:(acc++reprText z).length=acc.length+(reprText z).length:=Str.length_append acc _;have l9:1000000<=sizeLine:=by decide
  refine ⟨μ,ρ,h,hr,er,?_⟩;show PostE X.K cv (Rep X.K) μ H (match ρ[i]? with | some (some d)=>.ok d h | _=>.no) _ (Z σ)
  rw [ez];intro μ' H' v ex hr' rv;cases rv;exact ⟨z,rfl,by omega,by omega,z1g r (acc++reprText z) H' μ' hf.2 hr' (er.mono ex) 103 λ o μ2 H2 e2 r2=>q o μ2 H2 (ex.trans e2) r2⟩
 | .v i p0 p::r,acc,H,μ,hf,hr,er,hl,q=>by
  rw [Y11,Y0c] at hf;rw [Y0q] at hl;obtain ⟨z,ez,lz⟩:∃ z,ρ[i]?=some (some (.str z))/\z.length<=1000:=by
   have h1:(match ρ[i]? with | some (some (.str z))=>decide (z.length<=1000) | _=>false)=true:=hf.1
   split at h1
   ·rename_i z e;exact ⟨z,e,of_decide_eq_true h1⟩
   ·cases h1
  have l1:(acc++z).length=acc.length+z.length:=Str.length_append acc _;have l9:1000000<=sizeLine:=by decide
  refine ⟨μ,ρ,h,hr,er,?_⟩;show PostE X.K cv (Rep X.K) μ H (match ρ[i]? with | some (some d)=>.ok d h | _=>.no) _ (Z σ)
  rw [ez];intro μ' H' v ex hr' rv;cases rv;exact ⟨z,rfl,by omega,by omega,z1g r (acc++z) H' μ' hf.2 hr' (er.mono ex) 103 λ o μ2 H2 e2 r2=>q o μ2 H2 (ex.trans e2) r2⟩
mutual
theorem sS:∀ (s:S) (X:Cx) (Z:ZK) (k:Nat) (n:Nm) (cv:XY) (cl:101),KxS X Z k n cv cl->s.ok X.env.scope n=true->PS X (s.py n) (Zf X.K cv Z (s.run cl))
 | .set i e p1 p,X,Z,k,n,cv,cl,C,h=>by
  have h':i<n.N.length/\e.ok X.env.scope n=true:=by have h:(_&&_)=true:=h;simpa using h
  have hm:=C.lo _ (wP (d:=("":Str)) h'.1);have hN:X.N[i]?=some (n.N.getD i ""):=by rw [C.nN];exact getD_some h'.1
  have plain:swapsWith (e.py n) (some (.Name (n.N.getD i "") p1)) p.line X.env=pure false->PS X ((S.set i e p1 p).py n) (Zf X.K cv Z ((S.set i e p1 p).run cl)):=λ hs=>by
   have se:=sE e X Z k n cv cl C.toKx h'.2;refine PS.mono (GB (i:=i) C.nd hN hm.1 se.pe hs hm.2) λ En σ H=>zB λ μ ρ h hr er q=>?_;refine j1 (m:=e.ev cl) hr er q λ d h1 μ1 H1 x _ e1 r1 er1 qa p1=>?_;exact p1 μ1 H1 _ Ext.refl r1 (er1.set qa i)
  cases hn:e.noC with
  | true=>exact plain (Zg e hn _ _ _)
  | false =>
   cases e with
   | ofL l =>
    cases l with
    | disp es pp=>cases hn
    | comp elt t it c NC cap csc pp =>
     have hL:(L.comp elt t it c NC cap csc pp).ok X.env.scope n=true:=by exact h'.2
     obtain ⟨b,eb,hb⟩:∃ b,swapsWith ((E.ofL (.comp elt t it c NC cap csc pp)).py n) (some (.Name (n.N.getD i "") p1)) p.line X.env=pure b/\(b=true->X.env.scope.names.lookup (n.N.getD i "")=some .local):=by
      refine ⟨_,by rfl,λ z=>?_⟩;simp only [Y0c,beq_iff_eq] at z;exact z.1.1.2
     cases b with
     | false=>exact plain eb
     | true =>
      obtain ⟨k1,k2,k3,k4,k5,k6,k7,k8,k9⟩:=UM C.toKx hL;have hit:=sI it X Z k n cv cl C.toKx k1.1 t k1.2 NC;have hff:∀ Cc s H fp pn xe Zc,Thr (zn X NC csc Cc s H fp pn xe) Zc->PF (zn X NC csc Cc s H fp pn xe) (c.py ⟨NC,n.F,n.G⟩) (zt X.K cv RB Zc (c.evC cl)):=λ Cc s H fp pn xe Zc th=>by
       have Cc':=C.toKx.comp k2 k3 k4 th;cases c with
       | nil=>exact UN
       | cons e r =>
        cases r with
        | cons _ _=>cases k9
        | nil =>
         have se:=sE e _ Zc k ⟨NC,n.F,n.G⟩ cv cl Cc' (by have k7:(_&&_)=true:=k7;simp at k7;exact k7.1);have ht:=se.pt (by have k8:(_&&_)=true:=k8;simp at k8;exact k8.1);exact GZ ht
      have key:=z0e (X:=X) (i:=i) (cap:=cap) (pos:=pp) (pos':=p1) (spos:=p) (g:=gB X.K t) (tf:=λ Zc=>zt X.K cv RB Zc (c.evC cl)) (te:=λ Zc=>zt X.K cv (Rep X.K) Zc (elt.ev cl)) C.cm C.th hit k2 (λ Cc s H fp pn xe=>UO C.kd k2 k3 k5) hff
       (λ Cc s H fp pn xe Zc th=>(sE elt _ Zc k ⟨NC,n.F,n.G⟩ cv cl (C.toKx.comp k2 k3 k4 th) k6).pe) (yi it) C.nd hN (hb rfl) eb
      refine PS.mono key λ En σ H=>zB λ μ ρ h hr er q=>We k2 k5 ⟨μ,ρ,h,hr,er,?_⟩;have q:PostS X.K cv μ H (jm ρ (((L.comp elt t it c NC cap csc pp).ev cl ρ h).bind λ xs h1=>new (.lst xs) h1) λ d h1=>.nx (ρ.set i (some d)) h1) En Z:=q;show PostE X.K cv (RL X.K H) μ H ((L.comp elt t it c NC cap csc pp).ev cl ρ h) _ (Z σ);cases el:(L.comp elt t it c NC cap csc pp).ev cl ρ h with
      | ok ds h1 =>
       rw [el] at q;intro μ1 H1 x e1 r1 ⟨pa,vs,ex,g1,g2,g3,g4⟩;subst ex;have er1:ER X.K (μ1++[pa]) ρ σ H1:=er.mono (e1.add g4);refine q (μ1++[pa]) H1 _ (e1.add g4) (r1.add g3 λ μ' gr=>⟨vs,g1,g2.mono' gr⟩) (er1.set (.loc ?_) i);rw [<- r1.len,Y0m (Y0a _),Y1v];rfl
      | exc cc h1=>rw [el] at q;exact λ μ1 H1 e1 r1=>q μ1 H1 σ e1 r1 (er.mono e1)
      | no=>rw [el] at q;exact q
   | _=>cases hn
 | .ret e p,X,Z,k,n,cv,cl,C,h=>by
  have se:=sE e X Z k n cv cl C.toKx (by exact h);refine PS.mono (z3x se.pe) λ En σ H=>zB λ μ ρ h hr er q=>?_;refine j1 (m:=e.ev cl) hr er q λ d h1 μ1 H1 x _ e1 r1 er1 qa p1=>?_;exact p1 μ1 H1 x Ext.refl r1 qa
 | .iff c a b p,X,Z,k,n,cv,cl,C,h=>by
  have h':((c.ok X.env.scope n=true/\c.okT=true)/\a.ok X.env.scope n=true)/\b.ok X.env.scope n=true:=by have h:(_&&_)=true:=h;simpa using h
  have sc:=sE c X Z k n cv cl C.toKx h'.1.1.1;have sa:=sSs a X Z k n cv cl C h'.1.2;have sb:=sSs b X Z k n cv cl C h'.2;refine PS.mono (z2p (sc.pt h'.1.1.2) sa sb) λ En σ H=>zB λ μ ρ h hr er q=>?_;refine j1 (m:=c.evT cl) (R:=RB) hr er q λ t h1 μ1 H1 x _ e1 r1 er1 qa p1=>?_;have qa':t=x:=qa;subst qa';cases t with
  | true=>exact yf ⟨μ1,ρ,h1,r1,er1,p1⟩
  | false=>exact qA ⟨μ1,ρ,h1,r1,er1,p1⟩
 | .ex e p,X,Z,k,n,cv,cl,C,h=>by
  have h':e.ok X.env.scope n=true/\e.noC=true:=by have h:(_&&_)=true:=h;simpa using h
  have se:=sE e X Z k n cv cl C.toKx h'.1;refine PS.mono (BR se.pe (Zg e h'.2 _ _ _)) λ En σ H=>zB λ μ ρ h hr er q=>?_;refine j1 (m:=e.ev cl) hr er q λ d h1 μ1 H1 x _ e1 r1 er1 qa p1=>?_;exact p1 μ1 H1 _ Ext.refl r1 er1
 | .put o i v p1 p,X,Z,k,n,cv,cl,C,h=>by
  have h':(o.ok X.env.scope n=true/\i.ok X.env.scope n=true)/\v.ok X.env.scope n=true:=by have h:(_&&_)=true:=h;simpa using h
  have so:=sE o X Z k n cv cl C.toKx h'.1.1;have si:=sE i X Z k n cv cl C.toKx h'.1.2;have sv:=sE v X Z k n cv cl C.toKx h'.2;refine PS.mono (GA sv.pe (z3z so.pe si.pe (Os (z2t C.rm)) (YV o i p1 _)) (YW o i v p1 _ _) (WO o i v p1 _) rfl) λ En σ H=>zB λ μ ρ h hr er q=>?_;refine j1 (m:=v.ev cl) hr er q λ z h1 μ1 H1 x _ e1 r1 er1 qz p1=>?_;refine j1 (m:=o.ev cl) r1 er1 p1 λ a h2 μ2 H2 y _ e2 r2 er2 qa p2=>?_;refine j1 (m:=i.ev cl) r2 er2 p2 λ b h3 μ3 H3 w _ e3 r3 er3 qb p3=>?_;cases e:yq a b z h3 with
  | none=>rw [e] at p3;exact p3.elim
  | some h4 =>
   rw [e] at p3;exact ⟨μ3,h3,a,b,z,h4,r3,qa.mono e3,qb,(qz.mono e2).mono e3,e,λ μ4 H4 e4 r4=>p3 μ4 H4 σ e4 r4 (er3.mono e4)⟩
 | .forr t it b p,X,Z,k,n,cv,cl,C,h=>by
  have h':(t.okS n.N=true/\it.ok X.env.scope n=true/\t.forI it=true)/\b.ok X.env.scope n=true:=by have h:(_&&_)=true:=h;simpa using h
  have hi:=sI it _ Z k n cv cl C.wish.toKx h'.1.2.1 t h'.1.2.2 n.N;have hb:=sSs b _ Z k n cv cl C.wish h'.2;have hg:PG (X.wish (XE X Z)) (t.py n.N) (gB X.K t):=by
   have z:=z7o (X:=X.wish (XE X Z)) C.cm C.nd t λ i hi=>by
    have h1:=Y14.mp h'.1.1 i hi;have hl:i<n.N.length:=of_decide_eq_true h1;have hm:=C.lo _ (wP (d:=("":Str)) hl);have eN:(X.wish (XE X Z)).N=n.N:=C.nN;rw [eN];exact ⟨hl,hm⟩
   rw [show (X.wish (XE X Z)).N=n.N from C.nN] at z;exact z
  exact PS.mono (z0d C.th C.cm hi hg hb (yi it)) λ En σ H=>zB λ μ ρ h hr er q=>Oz (p:=p) hr er q
 | .whil c b p,X,Z,k,n,cv,cl,C,h=>by
  have h':(c.ok X.env.scope n=true/\c.okT=true)/\b.ok X.env.scope n=true:=by have h:(_&&_)=true:=h;simpa using h
  have sc:=sE c _ Z k n cv cl C.wish.toKx h'.1.1;have hb:=sSs b _ Z k n cv cl C.wish h'.2;exact PS.mono (G2 C.th (sc.pt h'.1.2) hb) λ En σ H=>zB λ μ ρ h hr er q=>YX (p:=p) hr er q
 | .iffN a i pv p1 x y p,X,Z,k,n,cv,cl,C,h=>by
  have h':(((a.ok X.env.scope n=true/\a.okT=true)/\i<n.N.length)/\x.ok X.env.scope n=true)/\y.ok X.env.scope n=true:=by have h:(_&&_)=true:=h;simpa using h
  have sa:=sE a X Z k n cv cl C.toKx h'.1.1.1.1;have sv:=sE (.var i pv) X Z k n cv cl C.toKx (decide_eq_true h'.1.1.2);have sx:=sSs x X Z k n cv cl C h'.1.2;have sy:=sSs y X Z k n cv cl C h'.2;have pv':PE X (.Name (n.N.getD i "") pv) (zt X.K cv (Rep X.K) Z ((E.var i pv).ev cl)):=sv.pe;refine PS.mono (z2p (PW.pt (Yo (sa.pt h'.1.1.1.2) (Ur (z0k pv')))) sx sy) λ En σ H=>zB λ μ ρ h hr er q=>?_;refine j1 (m:=a.evT cl) (R:=RB) hr er q λ t h1 μ1 H1 z _ e1 r1 er1 qa p1=>?_;have qa':t=z:=qa;subst qa';cases t with
  | false=>exact qA (qA ⟨μ1,ρ,h1,r1,er1,p1⟩)
  | true =>
   refine yf ?_;rw [if_pos rfl] at p1;refine ⟨μ1,ρ,h1,r1,er1,?_⟩;show PostE X.K cv (Rep X.K) μ1 H1 (match ρ[i]? with | some (some d)=>.ok d h1 | _=>.no) _ _
   cases e:ρ[i]? with
   | none=>rw [e] at p1;exact p1.elim
   | some o =>
    cases o with
    | none=>rw [e] at p1;exact p1.elim
    | some d =>
     rw [e] at p1;intro μ2 H2 w e2 r2 qw;cases qw with
     | bl c =>
      refine .inl ⟨c,rfl,?_⟩;cases c with
      | true=>exact yf ⟨μ2,ρ,h1,r2,er1.mono e2,p1.ext e2⟩
      | false=>exact qA ⟨μ2,ρ,h1,r2,er1.mono e2,p1.ext e2⟩
     | non=>exact .inr ⟨rfl,qA ⟨μ2,ρ,h1,r2,er1.mono e2,p1.ext e2⟩⟩
     | _=>exact p1.elim
 | .setT is e p1 p,X,Z,k,n,cv,cl,C,h=>by
  have h':((Tg.tup is p1).okS n.N=true/\e.ok X.env.scope n=true)/\e.noT=true:=by have h:(_&&_)=true:=h;simpa using h
  have se:=sE e X Z k n cv cl C.toKx h'.1.2;have hg:PG X ((Tg.tup is p1).py n.N) (λ v σ H Q=>∃ μ ρ d ρ' h,HR X.K μ h H/\ER X.K μ ρ σ H/\Rep X.K μ H d v/\jC (.tup is p1) (yQ d h) ρ=some ρ'/\∀ σ',ER X.K μ ρ' σ' H->Q σ' H):=by
   have z:=z7q (X:=X) C.cm C.nd is p1 λ i hi=>by
    have h1:=Y14.mp h'.1.1 i hi;have hl:i<n.N.length:=of_decide_eq_true h1;have hm:=C.lo _ (wP (d:=("":Str)) hl);rw [C.nN];exact ⟨hl,hm⟩
   rw [C.nN] at z;exact z
  refine PS.mono (GA se.pe hg (z1f _ e h'.2 _ _ _ _) (G1 _ e h'.2 _ _ _) rfl) λ En σ H=>zB λ μ ρ h hr er q=>?_;refine j1 (m:=e.ev cl) hr er q λ d h1 μ1 H1 x _ e1 r1 er1 qa q1=>?_;cases eb:jC (.tup is p1) (yQ d h1) ρ with
  | none=>rw [eb] at q1;exact q1.elim
  | some ρ' =>
   rw [eb] at q1;exact ⟨μ1,ρ,d,ρ',h1,r1,er1,qa,eb,λ σ' er'=>q1 μ1 H1 σ' Ext.refl r1 er'⟩
 | .rais x c u m p0 p1 p,X,Z,k,n,cv,cl,C,h=>by
  have h':((gOf X.env.scope x=true/\(x,Cn.exc c u)∈n.G)/\125=false)/\m.ok n=true:=by have h:(_&&_)=true:=h;simpa using h
  obtain ⟨hmg,hun,_⟩:=C.xc x c u h'.1.1.2;obtain ⟨_,v,hv,a,bmB,newId,initId,B,ev,hx,FB,hB⟩:=C.gc x _ h'.1.1.2;rw [hmg] at hv;cases hv;refine PS.mono (O1 C.th C.cm (C.gl h'.1.1.1) (by rw [hmg,ev]) hx FB (zq (z7t C.toKx m h'.2) zK (by cases m<;>rfl)) h'.1.2 (by cases m<;>rfl) rfl) λ En σ H=>zB λ μ ρ h hr er q=>?_;have q:PostS X.K cv μ H (if m.fine ρ then .ex c ρ h else .no) En Z:=q;split at q
  ·rename_i hf;have q2:=q;clear q;cases m with
   | s t p'=>exact ⟨show 1<=sizeLine by decide,by rw [<- ev];exact q2 μ H σ Ext.refl hr er⟩
   | f a b r p' =>
    have hf:((a.fine ρ=true/\b.fine ρ=true)/\(r.all λ q=>q.fine ρ)=true)/\r.length<=10:=by have h:(_&&_)=true:=hf;simpa [Bool.and_assoc,and_assoc] using h
    refine z1g (a::b::r) Str.empty H μ (by rw [Y11,Y11,hf.1.1.1,hf.1.1.2,hf.1.2];rfl) hr er (by rw [Y0q,Y0q];show 0+_<=_;omega) λ o μ' H' ex hr'=>?_;exact ⟨show 1<=sizeLine by decide,by rw [<- ev];exact q2 μ' H' σ ex hr' (er.mono ex)⟩
  ·exact q.elim
 | .tryA b x D u cs j i v p0 p1 p3 p4 p,X,Z,k,n,cv,cl,C,h=>by
  have h:(_&&_)=true:=h;simp only [Y0c,decide_eq_true_eq,Y2e] at h;obtain ⟨⟨⟨⟨⟨⟨⟨⟨⟨⟨hb,hg⟩,hG⟩,hd⟩,hcs⟩,hi⟩,hj⟩,hij⟩,hlo⟩,his⟩,hv⟩:=h;obtain ⟨hmg,_⟩:=C.xc x D u hG;obtain ⟨_,w,hw,a,bmB,newId,initId,B,ev,hx,FB,hB⟩:=C.gc x _ hG;rw [hmg] at hw;cases hw;have hm:=C.lo _ (wP (d:=("":Str)) hi);have hN:X.N[i]?=some (n.N.getD i ""):=by rw [C.nN];exact getD_some hi
  have hNj:X.N[j]?=some (n.N.getD j ""):=by rw [C.nN];exact getD_some hj
  have hmj:=C.nm _ (wP (d:=("":Str)) hj);have hs:∀ pins a',PSs (Zb X pins a') [.Assign [.Name (n.N.getD i "") p1] (v.py (n.N.getD j "")) p3] (Gz (tXv X.K n.G cv j v) (JT i)):=λ pins a'=>by
   refine BQ (GB (X:=Zb X pins a') (i:=i) C.nd hN hm.1 (z7s (X:=Zb X pins a') ⟨C.gl his,C.bm _ 102,C.bm _ 102,hNj,hmj.1,(J0 hmj.2).1,(J0 hmj.2).2,λ x c u hq=>?_⟩ v hv) ?_ hm.2)
   ·obtain ⟨h1,_,a,h2,_⟩:=C.xc x c u hq;exact ⟨a,by rw [<- h2];exact h1,h2⟩
   ·cases v with
    | one t =>
     show swapsWith (match t.neg with | true=>.UnaryOp .Not (t.call (n.N.getD j "")) t.pn | false=>t.call (n.N.getD j "")) _ _ _=_
     cases t.neg<;>rfl
    | and a b r p=>rfl
    | lst ts p=>rfl
  refine PS.mono (O2 (tb:=λ Zh=>Zf X.K cv Zh (b.run cl)) (j:=j) C.th (C.gl hg) (by rw [hmg,ev]) hx hB C.nd hNj hlo (λ pins xe Zh th=>?_) hs hd) λ En σ H=>zB λ μ ρ h hr er q=>⟨μ,ρ,h,hr,er,?_⟩
  ·exact sSs b (y9 X pins xe) Zh k n cv cl ⟨⟨th,C.rm,C.nN,C.nd,C.cm,C.kd,C.nm,C.bm,C.gc,C.fn,C.mc,C.xc⟩,C.lo⟩ hb
  ·have q:PostS X.K cv μ H (match b.run cl ρ h with | .ex c ρ' h'=>VM cs j i v c ρ' h' | o=>o) En Z:=q
   cases e:b.run cl ρ h with
   | ex c ρ' h2 =>
    rw [e] at q;simp only at q;unfold VM at q;cases ef:cs.find? (λ q=>q.2.1==c) with
    | none=>rw [ef] at q;exact q.elim
    | some q0 =>
     rw [ef] at q;have hq0:=List.mem_of_find?_eq_some ef;have ec:(q0.2.1==c)=true:=List.find?_some (p:=λ q:Str×Nat×List Nat=>q.2.1==c) ef;have hq1:=Y14.mp hcs q0 hq0;simp only [Y0c,decide_eq_true_eq] at hq1;obtain ⟨_,hun,a2,e3,T⟩:=C.xc q0.1 q0.2.1 q0.2.2 hq1.1;obtain ⟨a1,d1,e1,e2,un⟩:=hun D hq1.2;have ec:q0.2.1=c:=eq_of_beq ec;rw [e3] at e1;cases e1;rw [ec] at e3;rw [ev] at e2;cases e2;intro μ1 H1 σ1 ex hr1 er1;refine ⟨a2,e3,un,λ b hb=>?_⟩;simp only at q;split at q
     ·rename_i hl;exact z1e hij (by rw [<- er1.len];exact hl) T hb q ex hr1 er1
     ·exact q.elim
   | nx ρ' h2=>rw [e] at q;exact q
   | bk ρ' h2=>rw [e] at q;exact q
   | ct ρ' h2=>rw [e] at q;exact q
   | rt d h2=>rw [e] at q;exact q
   | no=>rw [e] at q;exact q
theorem sSs:∀ (s:Ss) (X:Cx) (Z:ZK) (k:Nat) (n:Nm) (cv:XY) (cl:101),KxS X Z k n cv cl->s.ok X.env.scope n=true->PSs X (s.py n) (Zf X.K cv Z (s.run cl))
 | .nil,X,Z,k,n,cv,cl,C,_=>by
  refine PSs.mono BP λ En σ H=>zB λ μ ρ h hr er q=>?_;exact q μ H σ Ext.refl hr er
 | .cons s r,X,Z,k,n,cv,cl,C,h=>by
  have h':s.ok X.env.scope n=true/\r.ok X.env.scope n=true:=by have h:(_&&_)=true:=h;simpa using h
  have ss:=sS s X Z k n cv cl C h'.1;have sr:=sSs r X Z k n cv cl C h'.2;refine PSs.mono (Gv ss sr) λ En σ H=>zB λ μ ρ h hr er q=>?_;have q:PostS X.K cv μ H (j8 (s.run cl ρ h) λ ρ' h'=>r.run cl ρ' h') En Z:=q;refine ⟨μ,ρ,h,hr,er,?_⟩;cases e:s.run cl ρ h with
  | nx ρ' h1 =>
   rw [e] at q;exact λ μ1 H1 σ1 e1 r1 er1=>⟨μ1,ρ',h1,r1,er1,PostS.ext q e1⟩
  | bk ρ' h1=>rw [e] at q;exact q
  | ct ρ' h1=>rw [e] at q;exact q
  | rt d h1=>rw [e] at q;exact q
  | ex c ρ' h1=>rw [e] at q;exact q
  | no=>rw [e] at q;exact q
end
end
section
variable {X:Cx}{Z:ZK}{k:Nat}{n:Nm}{cv:XY}{cl:101}
noncomputable def okD (b:Ss)(sc:Scope)(n:Nm)(ps:XU):Bool:=b.ok sc n
end
structure DefOk (st:Stmt)(d:Df)(F:XU)(G:List (Str×Cn))(nm q:Str):Prop where
 body:j7 st=d.body.py ⟨d.N,F,G⟩
 sc:FnScope d.N d.ps (zr st)
 ok:okD d.body (zr st) ⟨d.N,F,G⟩ d.ps=true
 nms:∀ x∈d.N,((zr st).names.lookup x=some .local\/(zr st).names.lookup x=some .cell)/\Ze x=true
 bd:∀ (kV doc pm:Value) (an:Option Addr) (cdv ct:Value) (us:XW),us.length=d.ps.length ->
  bindArgs (PySem.W.fnOf nm q (jL st) (j7 st) (zr st) .none kV doc pm an cdv ct) ⟨us,[]⟩=pure (d.ps.zip us)
structure Tab (P:XJ)(w:World)(K:Y00)(mg:XZ)(ds:List Df)(G:List (Str×Cn)):Prop where
 bm:∀ x,x∈WJ->mg x=none
 gc:∀ x c,(x,c)∈G->125=false/\∃ v,mg x=some v/\z0x P w K v c
 fn:∀ (i:Nat) d,ds[i]?=some d->(G.any λ q=>decide (q.2=Cn.cls i))=false->(d.name==("__debug__":Str))=false/\∃ st f fd,mg d.name=some (.ref f)/\PySem.W.nsIn K mainGlobals d.name=some (some (.ref f))/\Fun K d.name d.name st f fd/\DefOk st d (ds.map (·.name)) G d.name d.name
 mc:∀ x i,(x,Cn.cls i)∈G->125=false/\∃ d st C f fd nm q,ds[i]?=some d/\mg x=some (.ref C)/\Mk K C f/\ClsN K x C/\Fun K nm q st f fd/\DefOk st d (ds.map (·.name)) G nm q
theorem OA {K:Y00}{μ:XV}{H:Hp}{as:List D}{vs:List V}(N:XU)(r:Reps K μ H as vs):ER K μ (as.map some++List.replicate (N.length-as.length) none) (L2.start N vs) H:=by
 unfold L2.start;refine ⟨by simp [r.length],λ i d h=>?_⟩;rw [List.getElem?_append] at h ⊢;rw [Y09] at h ⊢;rw [<- r.length];split at h
 ·rename_i c;rw [if_pos c];rw [Y0u] at h ⊢;cases e:as[i]? with
  | none=>rw [e] at h;cases h
  | some a =>
   rw [e] at h;cases h;obtain ⟨v,e1,e2⟩:=r.get e;rw [e1];exact ⟨v,rfl,e2⟩
 ·exfalso
  rw [List.getElem?_replicate] at h;split at h<;>cases h
theorem Wg {ds:List Df}{k i:Nat}{d:Df}(hd:ds[i]?=some d):∀ as h,callI ds k i as h≠.no->as.length=d.ps.length:=by
 intro as h q;cases k with
 | zero=>exact absurd rfl q
 | succ k =>
  unfold callI at q;rw [hd] at q;by_cases c:as.length=d.ps.length
  ·exact c
  ·exact absurd (if_neg c) q
section
variable {P:XJ}{w:World}{K:Y00}{mg:XZ}{base:Heap}{ds:List Df}{G:List (Str×Cn)}{cv:XY}
noncomputable def z32 (K:Y00)(mg:XZ)(cv:XY)(G:List (Str×Cn)):Prop:=∀ x c u,(x,Cn.exc c u)∈G->mg x=some (cv c)/\(∀ D∈u,∃ a d,cv c=.ref a/\cv D=.ref d/\QJ K a d)/\∃ a,cv c=.ref a/\TstK K G cv a u
theorem YY (T:Tab P w K mg ds G)(XC:z32 K mg cv G):∀ (k i:Nat) (d:Df) (nm qn:Str) (st:Stmt) (f:Addr) (fd:FuncData),ds[i]?=some d->Fun K nm qn st f fd->DefOk st d (ds.map (·.name)) G nm qn ->
  FnOk P w K mg base (CXs P w) (2*k) f fd d.ps (spI K cv d.ps.length (callI ds k i))
 | 0,i,d,nm,qn,st,f,fd,hd,F,o=>by
  have no:∀ vs H Q E,¬ spI K cv d.ps.length (callI ds 0 i) vs H Q E:=λ vs H Q E ⟨_,_,_,_,_,_,z⟩=>z;exact ⟨λ vs H Q E h=>absurd h (no vs H Q E),λ A outer s H args us vs Q E _ _ _ _ h=>absurd h (no vs H Q E)⟩
 | k+1,i,d,nm,qn,st,f,fd,hd,F,o=>by
  have KC:∀ (cdv:Value) (A:Around) (outer:List Env) (s:Shared) (H:Hp) (E:XK),Room (2*k+1) (A.deeper (envOfC qn (zr st) s.heap.objs.size f cdv))->KxS (Wx (CXs P w) P w K mg base d.N qn (zr st) f cdv A outer s H E) (λ _ C H'=>E C none H') k ⟨d.N,ds.map (·.name),G⟩ cv (callI ds k):=λ cdv A outer s H E hr=>by
   refine ⟨⟨z07,hr,rfl,o.sc.nd,rfl,o.sc.kind,λ x hx=>⟨(o.nms x hx).1.elim .inl λ z=>.inr (.inl z),(o.nms x hx).2⟩,T.bm,T.gc,λ j x hj hnc=>?_,λ x j hx=>?_,λ x c u hm=>XC x c u hm⟩,λ x hx=>⟨(o.nms x hx).1,.inl rfl⟩⟩;rotate_left
   ·obtain ⟨h1,d',st',C',f',fd',nm',q',e',m',M',N',F',o'⟩:=T.mc x j hx;exact ⟨h1,C',f',fd',d'.ps,m',M',N',F'.binds o'.bd,Wg e',YY T XC k j d' nm' q' st' f' fd' e' F' o'⟩
   have hj':(ds.map (·.name))[j]?=some x:=hj;rw [Y0u] at hj';cases e:ds[j]? with
   | none=>rw [e] at hj';cases hj'
   | some d' =>
    rw [e] at hj';cases hj';obtain ⟨h1,st',f',fd',m',s',F',o'⟩:=T.fn j d' e hnc;exact ⟨h1,f',fd',d'.ps,m',s',F'.kp,F'.binds o'.bd,Wg e,YY T XC k j d' _ _ st' f' fd' e F' o'⟩
  have fin:∀ {H:Hp}{vs:List V}{Q:VK}{E:XK},spI K cv d.ps.length (callI ds (k+1) i) vs H Q E->Zf K cv (λ _ C H'=>E C none H') (d.body.run (callI ds k)) { nx:=λ _ H'=>Q .non H',rt:=Q } (L2.start d.N vs) H:=λ {H vs Q E} h=>by
   obtain ⟨hl,μ,h,as,hH,hv,p⟩:=h;refine ⟨μ,_,h,hH,OA d.N hv,?_⟩;have c:as.length=d.ps.length:=by rw [hv.length];exact hl
   rw [z5 hd c] at p;have p1:=p;unfold Df.run JF at p1;cases e:d.body.run (callI ds k) (as.map some++List.replicate (d.N.length-as.length) none) h with
   | nx ρ h1=>rw [e] at p1;exact λ μ1 H1 σ1 e1 r1 er1=>p1 μ1 H1 .non e1 r1 .non
   | rt v h1=>rw [e] at p1;exact p1
   | ex c ρ h1=>rw [e] at p1;exact λ μ1 H1 σ1 e1 r1 er1=>p1 μ1 H1 e1 r1
   | bk ρ h1=>rw [e] at p1;exact p1.elim
   | ct ρ h1=>rw [e] at p1;exact p1.elim
   | no=>rw [e] at p1;exact p1.elim
  exact F.okX o.sc (λ vs H Q E h=>h.1) λ cdv A outer s H vs Q E hr h=>⟨_,by rw [o.body];exact sSs d.body _ _ _ _ _ _ (KC cdv A outer s H E hr) o.ok,fin h⟩
end
theorem WP {K:Y00}{C:Addr}{o:Value}{dd:Option Addr}{cd:ClassData}{sl:Array (Option Value)} (l:K.lookup C=some ⟨o,dd,.cls cd,sl⟩) (ga:PySem.W.findIn K (.ref C) "__getattribute__"=some (some (.builtin "BaseException.__getattribute__"))) (ng:PySem.W.findIn K (.ref C) "__getattr__"=some none)
  (cl:PySem.W.findIn K (.ref C) "__class__"=some (some (.builtin "object.__class__"))) (bx:PySem.W.mroIn K C (.type "BaseException")=some true) (ob:PySem.W.mroIn K C (.type "object")=some true):ExC K C :=
 ⟨ga,ng,cl,bx,ob,by unfold PySem.W.clsIn;rw [l];rfl⟩
theorem WQ {K:Y00}{C:Addr} (m:PySem.W.mroIn K C (.type "ValueError")=some true):PySem.W.kitOne K (.ref C) (.type "ValueError")=some true:=by
 unfold PySem.W.kitOne;rw [if_neg (by intro q;cases eq_of_beq q)];show (if PySem.W.kitMeta "ValueError"=true then PySem.W.subIn K (.ref C) (.type "ValueError") else none)=_;rw [if_pos (by decide +kernel)];exact m
theorem j2 {K:Y00}{C E:Addr}{o:Value}{dd:Option Addr}{cd:ClassData}{sl:Array (Option Value)}{b:Bool} (l:K.lookup E=some ⟨o,dd,.cls cd,sl⟩) (ty:PySem.W.typeIn K (.ref E)=some (.type "type")) (m:PySem.W.mroIn K C (.ref E)=some b) (hb:b=true\/C≠E):PySem.W.kitOne K (.ref C) (.ref E)=some b:=by
 unfold PySem.W.kitOne;by_cases q:C=E
 ·subst q;rw [if_pos 110];rcases hb with rfl | z
  ·rfl
  ·exact absurd rfl z
 ·rw [if_neg (λ z=>q (Value.ref.inj (eq_of_beq z)))];show (if ((PySem.W.clsIn K E).isSome&&PySem.W.typeIn K (.ref E)==some (.type "type"))=true then PySem.W.subIn K (.ref C) (.ref E) else none)=_;rw [if_pos (by rw [ty,Y0c];exact ⟨by unfold PySem.W.clsIn;rw [l];rfl,by decide⟩)];exact m
noncomputable def WR (w:World)(K:Y00):List DictEntry->List (Str×Cv)->Prop
 | [],[]=>True
 | e::r,kx::s=>(e.hash=hashStr w kx.1/\(∃ t,e.key=.str kx.1 t)/\CvOk K e.val kx.2)/\WR w K r s
 | _,_=>False
theorem J9 {P:XJ}{w:World}{K:Y00}:∀ {es:List DictEntry}{kvs:List (Str×Cv)},WR w K es kvs->∃ vs,Pairs (zx P w) es vs/\DicV K kvs vs/\vs.map (·.1)=kvs.map (λ kx=>(Sum.inr kx.1:Key))/\∀ e∈es,∃ k,(zx P w).is k e.key=true/\e.hash=(zx P w).hash k
 | [],[],_=>⟨[],.nil,trivial,rfl,λ e h=>absurd h 110⟩
 | [],_::_,h=>h.elim
 | _::_,[],h=>h.elim
 | e::r,(k,xs)::s,⟨⟨h1,⟨t,h2⟩,h4⟩,h5⟩=>by
  obtain ⟨vs,p,d,n,ks⟩:=J9 (P:=P) h5;have ik:(zx P w).is (.inr k) e.key=true:=Za (k:=.inr k) ⟨t,h2⟩;refine ⟨(.inr k,e.val)::vs,.cons ik rfl p,⟨rfl,h4,d⟩,by simp [n],λ e' he=>?_⟩;rcases Y03.mp he with rfl | he
  ·exact ⟨_,ik,h1⟩
  ·exact ks e' he
theorem z58 {P:XJ}{w:World}{K:Y00}{a:Addr}{es:Array DictEntry}{ep:Nat}{kvs:List (Str×Cv)} (l:K.lookup a=some { cls:=.type "dict",data:=.dict es ep }) (h:WR w K es.toList kvs) (nd:(kvs.map (·.1)).Nodup) :
  z0x P w K (.ref a) (.dic kvs):=by
 obtain ⟨vs,p,d,n,ks⟩:=J9 (P:=P) h;refine ⟨a,_,es,ep,vs,rfl,l,⟨rfl,rfl,rfl⟩,rfl,λ e he=>ks e (by simpa using he),p,?_,d⟩;rw [n];have e:kvs.map (λ kx=>(Sum.inr kx.1:Key))=(kvs.map (·.1)).map λ k=>(Sum.inr k:Key):=by simp
 rw [e];exact List.Pairwise.map _ (λ x y hxy z=>hxy (Sum.inr.inj z)) nd
theorem Wh:∀ {ns:List Int},PySem.W.WData.weightAll (ns.map PySem.W.WData.int)<=2 ^ 20->∀ n∈ns,Builtin.Int.intBits n<=2 ^ 20
 | [],_,n,hn=>absurd hn 110
 | m::r,h,n,hn=>by
  rw [Y0i,PySem.W.WData.weightAll] at h;rcases Y03.mp hn with rfl | hn
  ·have e:PySem.W.WData.weight (.int n)=Builtin.Int.intBits n:=by rw [PySem.W.WData.weight];rfl
   omega
  ·exact Wh 103 n hn
noncomputable def OB (K:Y00)(cv:XY)(c:List D->Hh->Res D):Sp:=spI K cv 1 c
theorem z59 {K:Y00}{cv:XY}{c:List D->Hh->Res D}{H:Hp}{a:Addr}{ns:List Int}{h':Hh}(hO:z4l H)(hS:SqL K H a (ns.map V.int))(e:c [.fl (ns.map D.int)] []=.ok (.bl true) h') :
  OB K cv c [.ref a] H (λ v _=>v=.bl true) (λ _ _ _=>False):=by
 have rp:∀ ms:List Int,Reps K [] H (ms.map D.int) (ms.map V.int):=λ ms=>by
  induction ms with
  | nil=>exact .nil
  | cons m r ih=>exact .cons (.int m) ih
 have fz:Fz K H a (ns.map V.int):=by
  rcases hS with h | h
  ·left;rcases h with h | h
   ·rcases hO a with z | ⟨o,xs,z⟩
    ·rw [h] at z;cases z
    ·rw [h] at z;cases z
   ·exact h
  ·exact .inr λ H'=>.inr h
 refine ⟨rfl,[],[],[.fl (ns.map D.int)],⟨rfl,λ n m b e1=>by simp at e1,λ n b o e1=>by simp at e1⟩,.cons (.fl fz (rp ns)) .nil,?_⟩
 ·rw [e];intro μ1 H1 v e1 r1 q1;cases q1;rfl
theorem walk_ofB {l:PySem.W.OpenLaw}{k:Nat}{q:XJ}{loose:XU}{XP:(Str->Option Value)->Heap->Prop}{YP:World->Heap->Prop}{d:DefRec}{K:Params->Y00}{c:List D->Hh->Res D}{x:Str}
  (hn:l.most=some 63) (hdf:d.params.defaults=[]) (hr:Room k callerA)
  (hY:∀ (w:World) (h:Heap),YP w h->(K w.params).In h)
  (F:∀ (w:World) (mg:XZ) (fa:Addr) (h:Heap),(K w.params).In h->h.Ns mainGlobals mg->mg d.name=some (.ref fa) ->
   ∃ (cv:XY) (fd:FuncData),(∀ (s:Shared) (u:Value),BindsTo s fd ⟨[u],[]⟩ [(x,u)]) /\
    ∀ base:Heap,(K w.params).In base->base.Ns mainGlobals mg->FnOk l.prog w (K w.params) mg base (CXs l.prog w) k fa fd [x] (OB (K w.params) cv c))
  (hc:∀ ns:List Int,ns.length<=63->(∀ n∈ns,Builtin.Int.intBits n<=2 ^ 20)->∃ h',c [.fl (ns.map D.int)] []=.ok (.bl true) h') :
  PySem.W.WalkO q loose XP YP l.row.toRowW d [] (λ f vs=>PySem.call f vs):=by
 intro w s₀ s₁ mg mb G Y fa o pm cd doc dV kV ho hd hcd hD hmg hg args vals as hpre hlay hrd hwl hlo;obtain rfl:dV=.none:=PySem.W.Dflts.none hD hdf;obtain rfl:kV=.none:=PySem.W.Dflts.noKw hD;obtain ⟨a,vs,ns,rfl,rfl,hobj,hints,hlen⟩:=Att.script_of hn hpre hwl;have hbits:∀ n∈ns,Builtin.Int.intBits n<=2 ^ 20:=by
  have h1:PySem.W.WData.layable (.list (ns.map .int))=true:=by
   have:=hlay
   unfold PySem.W.WData.layableAll at this;simpa using this
  have h2:=(PySem.W.layableW_iff.mp h1).2.2;exact Wh (by simpa [PySem.W.WData.weight] using h2)
 have KX:=hY w _ Y;obtain ⟨cv,fd,hb,hF⟩:=F w mg fa _ KX G.T.g hmg;obtain ⟨h',e⟩:=hc ns hlen hbits;refine PySem.W.enter_call (codeAny_mono (GQ KX G.T.g G.T.b G.T.builtins G.T.nolimit hg hobj hints (Y0j hlen 102) hr hF hb (λ H hO hS=>z59 hO hS e) (λ H e' s' z=>by
  obtain ⟨_,_,_,_,_,_,_,_,_,_,_,z⟩:=z;exact z)) λ r s' hq=>?_)
 obtain ⟨rfl,h2,h3,h4⟩:=hq;exact ⟨.inl ⟨.bool true,.bool true,[],rfl,λ _=>rfl,.bool true,Att.post_true l _,λ _=>⟨List.Pairwise.nil,λ _ hm=>(nomatch hm)⟩⟩,h2,h3,h4⟩
end PI
namespace PI
open PySem L2
section
variable {cl:101}
theorem Zp {i z0 ρ h}:E.ev cl (.var i z0) ρ h=match ρ[i]? with | some (some d)=>.ok d h | _=>.no:=rfl
theorem QX {neg a z0 z1 ρ h}:E.ev cl (.cmpN neg a z0 z1) ρ h=(a.ev cl ρ h).bind λ x h1=>ZW neg x h1:=rfl
theorem z9v {a z0 z1 ρ h}:I.ev cl (.rng a z0 z1) ρ h=(a.ev cl ρ h).bind λ x h1=>match x with
  | .int j=>if -1000000<=j/\j<=1000000 then .ok ([],(List.range j.toNat).map λ k=>.int (k:Nat)) h1 else .no
  | _=>.no:=rfl
theorem z5a {ρ h}:Ss.run cl .nil ρ h=.nx ρ h:=rfl
theorem OC {s r ρ h}:Ss.run cl (.cons s r) ρ h=j8 (s.run cl ρ h) λ ρ' h'=>r.run cl ρ' h':=rfl
end
section
variable {h l:Hh}{o u:O}{n k:Nat}{xs:List D}
theorem hx (h l:Hh)(k:Nat):(h++l)[h.length+k]?=l[k]?:=by
 rw [Y0m 103];congr 1;omega
theorem hx0 (h l:Hh):(h++l)[h.length]?=l[0]?:=hx h l 0
theorem z9w (h l:Hh)(k:Nat)(o:O):(h++l).set (h.length+k) o=h++l.set k o:=by
 rw [List.set_append_right _ _ 103];congr 2;omega
theorem yt (h l:Hh)(o:O):(h++l).set h.length o=h++l.set 0 o:=z9w h l 0 o
theorem rdx (h l:Hh)(k:Nat):rd (h++l) (h.length+k)=rd l k:=by unfold rd;rw [hx]
theorem Zq (h l:Hh):rd (h++l) h.length=rd l 0:=rdx h l 0
theorem zO (e:h[n]?=some (.lst xs)):rd h n=some xs:=by unfold rd;rw [e]
theorem zf (e:h[n]?=some o):(h++l)[n]?=some o:=by rw [Y12 (Y02.mp e).1];exact e
theorem zg:stay [] h:=by unfold stay;simp
theorem stay_one {n:Nat}{ds:List D}{h:Hh}:stay [(n,ds)] h ↔ rd h n=some ds:=by unfold stay;simp
end
theorem qj {c:Ck}{f:D->Hh->Res (Option D)}{h:Hh}(st:stay c h)(g:D->Option D):∀ (xs acc:List D),(∀ x∈xs,f x h=.ok (g x) h)->zE c f xs acc h=.ok (acc++xs.filterMap g) h
 | [],acc,_=>by simp [zE,st]
 | x::r,acc,e=>by
  have e1:=e x (Y06 ..);have ih:=qj st g r (Oe acc (g x)) λ y hy=>e y (Y04 _ hy);unfold zE;rw [if_pos st,e1,bind_ok,ih,Y1p];cases g x<;>simp
theorem zG (n d:Nat)(i:Int)(h:0<=i):HT.sIx n d (some i)=min i.toNat n:=by
 unfold HT.sIx;exact if_neg 103
theorem zX (n d:Nat):HT.sIx n d none=d:=rfl
theorem atI_nat {α:Type}{xs:List α}{k:Nat}:atI xs (k:Int)=xs[k]?:=by
 unfold atI ixN;rw [if_pos 103];by_cases h:k<xs.length
 ·rw [if_pos 103];simp
 ·rw [if_neg 103,Y1l 103];rfl
theorem zY {α:Type}{xs:List α}{i:Int}(h:0<=i):atI xs i=xs[i.toNat]?:=by
 have:i=(i.toNat:Int):=by omega
 rw [this,atI_nat];rfl
theorem eqS {a b:Str}{h:Hh}(ha:PyData.strOk a=true)(hb:PyData.strOk b=true):zy .Eq (.str a) (.str b) h=.ok (.bl (a==b)) h:=if_pos ⟨ha,hb,Y1h _⟩
theorem neS {a b:Str}{h:Hh}(ha:PyData.strOk a=true)(hb:PyData.strOk b=true):zy .NotEq (.str a) (.str b) h=.ok (.bl (!(a==b))) h:=if_pos ⟨ha,hb,Y1h _⟩
theorem eqI {a b:Int}{h:Hh}:zy .Eq (.int a) (.int b) h=.ok (.bl (a==b)) h:=rfl
theorem neI {a b:Int}{h:Hh}:zy .NotEq (.int a) (.int b) h=.ok (.bl (!(a==b))) h:=rfl
noncomputable def wo:Nat->Ss->Ss
 | 0,_=>.nil
 | _+1,.nil=>.nil
 | n+1,.cons s r=>.cons s (wo n r)
noncomputable def zH:Nat->Ss->Ss
 | 0,b=>b
 | _+1,.nil=>.nil
 | n+1,.cons _ r=>zH n r
theorem YZ (cl:101):∀ (n:Nat) (b:Ss) (ρ:En) (h:Hh),Ss.run cl b ρ h=j8 (Ss.run cl (wo n b) ρ h) λ ρ' h'=>Ss.run cl (zH n b) ρ' h'
 | 0,b,ρ,h=>by simp [wo,zH,z5a,OC]
 | n+1,.nil,ρ,h=>by simp [wo,zH,z5a,OC]
 | n+1,.cons s r,ρ,h=>by
  simp only [wo,zH,z5a,OC];cases S.run cl s ρ h with
  | nx ρ' h'=>simp only [seqS_nx];exact YZ cl n r ρ' h'
  | _=>rfl
noncomputable def Wi (ns:List Int)(i:Int):Int:=ns.getD i.toNat 0
theorem z5b (ns:List Int)(i:Int)(hi:0<=i)(h:i<(ns.length:Int)):atI (ns.map D.int) i=some (.int (Wi ns i)):=by
 rw [zY hi,Wi,Y0u,Y0v,Y0b 103];rfl
theorem G3 {ns:List Int}(hb:∀ n∈ns,jR n=true)(i:Int):jR (Wi ns i)=true:=by
 unfold Wi;rw [Y0v];cases e:ns[i.toNat]? with
 | none=>decide
 | some v=>exact hb v (Y0y e)
noncomputable def cs (x:Str):List Nat:=x.cps.toList
noncomputable def mkS (l:List Nat):Str:=⟨l.toArray⟩
theorem Ja (l:List Nat):cs (mkS l)=l:=by simp [cs,mkS]
theorem z33 (x:Str):mkS (cs x)=x:=by cases x;simp [cs,mkS]
theorem z5c {x y:Str}(h:cs x=cs y):x=y:=by rw [<- z33 x,<- z33 y,h]
theorem z5d {a b:List Nat}(h:mkS a=mkS b):a=b:=by rw [<- Ja a,<- Ja b,h]
theorem G4 (x y:Str):cs (x++y)=cs x++cs y:=by
 show (x.cps++y.cps).toList=_;simp [cs]
theorem yU (a b:List Nat):mkS a++mkS b=mkS (a++b):=z5c (by rw [G4,Ja,Ja,Ja])
theorem cs_len (x:Str):x.length=(cs x).length:=by simp [cs,Str.length]
theorem qk (l:List Nat):(mkS l).length=l.length:=by rw [cs_len,Ja]
theorem z7u {l:List Nat}(h:∀ c∈l,c<1114112):PyData.strOk (mkS l)=true:=by
 unfold PyData.strOk mkS;simpa using h
theorem qW {i:Int}(h:i.natAbs<18446744073709551616):jR i=true:=by
 unfold jR Builtin.Int.intBits;refine decide_eq_true ?_
 split
 ·decide
 ·rename_i z;have hz:i.natAbs≠0:=by simpa using z
  have:i.natAbs.log2<64:=by
   rw [Nat.log2_lt hz];exact h
  omega
structure Wd (x:Str):Prop where
 ne:cs x≠[]
 len:(cs x).length<=20
 ch:∀ c∈cs x,c≠40/\c≠41/\c≠10/\c<1114112
section
variable {cl:101}{ρ ρ':En}{h h' h2 h3:Hh}{c e:E}{a b r:Ss}{p p0 p1 p2 p3:Pos}{d x:D}{i:Nat}
theorem za {o:RS}(hc:c.evT cl ρ h=.ok false h')(k:Ss.run cl r ρ h'=o):Ss.run cl (.cons (.iff c a .nil p) r) ρ h=o:=by
 rw [<- k];show j8 (jm ρ (c.evT cl ρ h) λ t h1=>if t then a.run cl ρ h1 else Ss.nil.run cl ρ h1) 122=_;rw [hc];rfl
theorem US (hc:c.evT cl ρ h=.ok true h'):Ss.run cl (.cons (.iff c a b p) r) ρ h=j8 (a.run cl ρ h') λ ρ' h'=>r.run cl ρ' h':=by
 show j8 (jm ρ (c.evT cl ρ h) λ t h1=>if t then a.run cl ρ h1 else b.run cl ρ h1) 122=_;rw [hc];rfl
theorem ji (hc:c.evT cl ρ h=.ok true h')(ha:a.run cl ρ h'=.rt d h2):Ss.run cl (.cons (.iff c a b p) r) ρ h=.rt d h2:=by rw [US hc,ha];rfl
theorem wx {o:RS}(hc:c.evT cl ρ h=.ok true h')(ha:a.run cl ρ h'=.nx ρ' h2)(k:Ss.run cl r ρ' h2=o):Ss.run cl (.cons (.iff c a b p) r) ρ h=o:=by rw [<- k,US hc,ha];rfl
theorem zk (he:e.ev cl ρ h=.ok d h'):Ss.run cl (.cons (.ret e p) r) ρ h=.rt d h':=by
 show j8 (jm ρ (e.ev cl ρ h) λ d h1=>.rt d h1) 122=_;rw [he];rfl
theorem zb {o:RS}(he:e.ev cl ρ h=.ok d h')(k:Ss.run cl r (ρ.set i (some d)) h'=o):Ss.run cl (.cons (.set i e p1 p) r) ρ h=o:=by
 rw [<- k];show j8 (jm ρ (e.ev cl ρ h) λ d h1=>.nx (ρ.set i (some d)) h1) 122=_;rw [he];rfl
theorem je {o:RS}(he:e.ev cl ρ h=.ok d h')(k:Ss.run cl r ρ h'=o):Ss.run cl (.cons (.ex e p) r) ρ h=o:=by
 rw [<- k];show j8 (jm ρ (e.ev cl ρ h) λ d h1=>.nx ρ h1) 122=_;rw [he];rfl
theorem OD {o:RS}{is:List (Nat×Pos)}(he:e.ev cl ρ h=.ok d h')(hb:jC (.tup is p1) (yQ d h') ρ=some ρ')(k:Ss.run cl r ρ' h'=o):Ss.run cl (.cons (.setT is e p1 p) r) ρ h=o:=by
 rw [<- k];show j8 (jm ρ (e.ev cl ρ h) λ d h1=>match jC (.tup is p1) (yQ d h1) ρ with | some ρ'=>.nx ρ' h1 | none=>.no) 122=_
 rw [he,andS_ok,hb];rfl
theorem ze {o:RS}(q:o=.rt d h):JF o=.ok d h:=by rw [q];rfl
theorem j9 {o:RS}(q:o=.nx ρ h):JF o=.ok .non h:=by rw [q];rfl
theorem zF {x k:Int}{b:Bool}(q:ρ[i]?=some (some (.int x)))(hb:(x==k)=b):E.evT cl (.cmp .Eq (.var i p1) (.int k p2) p3) ρ h=.ok b h:=by
 show ((match ρ[i]? with | some (some d)=>Res.ok d h | _=>.no).bind λ x h1=>zy .Eq x (.int k) h1).bind _=_
 rw [q,<- hb];show (zy .Eq (.int x) (.int k) h).bind _=_;rw [eqI];rfl
theorem wQ {x k:Int}{b:Bool}(q:ρ[i]?=some (some (.int x)))(hb:decide (x<k)=b):E.evT cl (.cmp .Lt (.var i p1) (.int k p2) p3) ρ h=.ok b h:=by
 show ((match ρ[i]? with | some (some d)=>Res.ok d h | _=>.no).bind λ x h1=>zy .Lt x (.int k) h1).bind _=_
 rw [q,<- hb];rfl
theorem bnd {α β:Type}{m:Res α}{f:α->Hh->Res β}{x:α}{y:Res β}(q:m=.ok x h)(g:f x h=y):m.bind f=y:=by rw [q];exact g
theorem zi {b:Bool}(q:e.evT cl ρ h=.ok b h'):e.ev cl ρ h=.ok (.bl b) h':=by
 have q:((e.ev cl ρ h).bind λ d h1=>match d with | .bl b=>.ok b h1 | _=>.no)=Res.ok b h':=q
 cases m:e.ev cl ρ h with
 | ok d h1 =>
  rw [m] at q;cases d with
  | bl b'=>cases q;rfl
  | _=>cases q
 | exc c h1=>rw [m] at q;cases q
 | no=>rw [m] at q;cases q
theorem zP {e':E}{r:Es}(ha:e.evT cl ρ h=.ok false h'):(E.and e e' r p).evT cl ρ h=.ok false h':=bnd (bnd (zi ha) rfl) rfl
theorem jD {e':E}{t:Bool}(ha:e.evT cl ρ h=.ok true h')(hb:e'.evT cl ρ h'=.ok t h2):(E.and e e' .nil p).evT cl ρ h=.ok t h2:=bnd (bnd (zi ha) (bnd (zi hb) rfl)) rfl
theorem OE {o:RS}(hc:c.evT cl ρ h=.ok false h')(k:Ss.run cl r ρ h'=o):Ss.run cl (.cons (.iffN c i p0 p1 a .nil p) r) ρ h=o:=by
 rw [<- k];show j8 (jm ρ (c.evT cl ρ h) _) 122=_;rw [hc];rfl
theorem z5e {o:RS}(hc:c.evT cl ρ h=.ok true h')(hv:ρ[i]?=some (some .non)\/ρ[i]?=some (some (.bl false)))(k:Ss.run cl r ρ h'=o):Ss.run cl (.cons (.iffN c i p0 p1 a .nil p) r) ρ h=o:=by
 rw [<- k];show j8 (jm ρ (c.evT cl ρ h) λ t h1=>if t then (match ρ[i]? with | some (some (.bl c'))=>if c' then a.run cl ρ h1 else Ss.nil.run cl ρ h1 | some (some .non)=>Ss.nil.run cl ρ h1 | _=>.no) else Ss.nil.run cl ρ h1) 122=_
 rw [hc];rcases hv with hv | hv<;>rw [hv]<;>rfl
theorem z5f (hc:c.evT cl ρ h=.ok true h')(hv:ρ[i]?=some (some (.bl true)))(ha:a.run cl ρ h'=.rt d h2):Ss.run cl (.cons (.iffN c i p0 p1 a b p) r) ρ h=.rt d h2:=by
 show j8 (jm ρ (c.evT cl ρ h) λ t h1=>if t then (match ρ[i]? with | some (some (.bl c'))=>if c' then a.run cl ρ h1 else b.run cl ρ h1 | some (some .non)=>b.run cl ρ h1 | _=>.no) else b.run cl ρ h1) 122=_
 rw [hc,hv,andS_ok];show j8 (a.run cl ρ h') _=_;rw [ha];rfl
theorem z4 {a' b':E}{x y:D}{op:CmpOp}{t:Bool}(ha:a'.ev cl ρ h=.ok x h')(hb:b'.ev cl ρ h'=.ok y h2)(hc:zy op x y h2=.ok (.bl t) h3):E.evT cl (.cmp op a' b' p) ρ h=.ok t h3:=bnd (bnd ha (bnd hb hc)) rfl
theorem yV {e':E}{r:Es}(ha:e.evT cl ρ h=.ok true h')(hb:e'.evT cl ρ h'=.ok false h2):(E.and e e' (.cons c r) p).evT cl ρ h=.ok false h2:=bnd (bnd (zi ha) (bnd (zi hb) rfl)) rfl
theorem wy {e':E}{t:Bool}(ha:e.evT cl ρ h=.ok true h')(hb:e'.evT cl ρ h'=.ok true h2)(hc:c.evT cl ρ h2=.ok t h3):(E.and e e' (.cons c .nil) p).evT cl ρ h=.ok t h3:=bnd (bnd (zi ha) (bnd (zi hb) (bnd (zi hc) rfl))) rfl
theorem qm {o:RS}{tg:Tg}{it:I}{q:Ck×List D}(hi:it.ev cl ρ h=.ok q h')(hf:jg q.1 (zU tg λ ρ' h'=>a.run cl ρ' h') q.2 ρ h'=.nx ρ' h2)(k:Ss.run cl r ρ' h2=o):Ss.run cl (.cons (.forr tg it a p) r) ρ h=o:=by
 rw [<- k];show j8 (jm ρ (it.ev cl ρ h) λ q h1=>jg q.1 (zU tg λ ρ' h'=>a.run cl ρ' h') q.2 ρ h1) 122=_;rw [hi,andS_ok,hf];rfl
theorem UT {o:RS}{oe ie ve:E}{x y z:D}{h4:Hh}(hv:ve.ev cl ρ h=.ok z h')(ho:oe.ev cl ρ h'=.ok x h2)(hi:ie.ev cl ρ h2=.ok y h3)(hp:yq x y z h3=some h4)(k:Ss.run cl r ρ h4=o):Ss.run cl (.cons (.put oe ie ve p1 p) r) ρ h=o:=by
 rw [<- k];show j8 (jm ρ (ve.ev cl ρ h) λ z h1=>jm ρ (oe.ev cl ρ h1) λ x h2=>jm ρ (ie.ev cl ρ h2) λ y h3=>match yq x y z h3 with | some h4=>.nx ρ h4 | none=>.no) 122=_
 rw [hv,andS_ok,ho,andS_ok,hi,andS_ok,hp];rfl
theorem yu {o:RS}{ck:Ck}{f:D->En->Hh->RS}{l:List D}(hs:stay ck h)(hf:f x ρ h=.nx ρ' h')(k:jg ck f l ρ' h'=o):jg ck f (x::l) ρ h=o:=by
 rw [jg,if_pos hs,hf];exact k
theorem qI {n:Nat}{l:List D}(g:h[n]?=some (.lst l))(m:Res D):onL (.loc n) h m=m:=by
 show (match h[n]? with | some (.lst _)=>m | _=>.no)=m
 rw [g]
theorem fdk {i k:Int}(hk:0<k/\k<1073741824:=by decide):zw .FloorDiv (.int i) (.int k) h=.ok (.int (i/k)) h:=if_pos ⟨hk.1,by omega⟩
theorem mdk {i k:Int}(hk:0<k:=by decide):zw .Mod (.int i) (.int k) h=.ok (.int (i%k)) h:=if_pos hk
theorem UU {j:Int}(ha:e.ev cl ρ h=.ok (.int j) h')(hj:-1000000<=j/\j<=1000000):I.ev cl (.rng e p1 p2) ρ h=.ok ([],(List.range j.toNat).map λ k=>.int (k:Nat)) h':=bnd ha (if_pos hj)
theorem z5g {e':E}{t:Bool}(ha:e.evT cl ρ h=.ok false h')(hb:e'.evT cl ρ h'=.ok t h2):(E.or e e' .nil p).evT cl ρ h=.ok t h2:=bnd (bnd (zi ha) (bnd (zi hb) rfl)) rfl
theorem z34 {e':E}{r:Es}(ha:e.evT cl ρ h=.ok true h'):(E.or e e' r p).evT cl ρ h=.ok true h':=bnd (bnd (zi ha) rfl) rfl
theorem z35 {e':E}{t:Bool}(ha:e.evT cl ρ h=.ok false h')(hb:e'.evT cl ρ h'=.ok false h2)(hc:c.evT cl ρ h2=.ok t h3):(E.or e e' (.cons c .nil) p).evT cl ρ h=.ok t h3:=bnd (bnd (zi ha) (bnd (zi hb) (bnd (zi hc) rfl))) rfl
theorem wI {xs:List D}(he:e.ev cl ρ h=.ok x h')(hs:jk x h'=some xs):E.ev cl (.tupE e p p1) ρ h=.ok (.tup xs) h':=bnd he (by
 show (match jk x h' with | some xs=>Res.ok (D.tup xs) h' | none=>.no)=_
 rw [hs])
theorem zZ {tg:Tg}{ct:En->Hh->Res Bool}{ce:En->Hh->Res D}(hb:jC tg x ρ=some ρ')(hc:ct ρ' h=.ok true h')(he:ce ρ' h'=.ok d h2):zT tg ρ ct ce x h=.ok (some d) h2:=by
 show (match jC tg x ρ with | some ρ'=>(ct ρ' h).bind λ b h1=>if b then (ce ρ' h1).bind λ d h2=>.ok (some d) h2 else .ok none h1 | none=>.no)=_
 rw [hb];exact bnd hc (bnd he rfl)
theorem yv {n:Nat}{xs:List D}(he:e.ev cl ρ h=.ok (.loc n) h')(hr:rd h' n=some xs):I.ev cl (.seq e) ρ h=.ok ([(n,xs)],xs) h':=bnd he (by
 show (match rd h' n with | some xs=>Res.ok (([(n,xs)],xs):Ck×List D) h' | none=>.no)=_
 rw [hr])
theorem zQ {elt:E}{tg:Tg}{it:I}{ct:Es}{ns:XU}{cap:List (Option Nat)}{sc:Scope}{q:Ck×List D}{xs:List D}(hi:it.ev cl ρ h=.ok q h')(hl:q.2.length<=1000000)(hc:zE q.1 (zT tg (qe cap ρ) (λ ρ' h2=>ct.evC cl ρ' h2) (λ ρ' h2=>elt.ev cl ρ' h2)) q.2 [] h'=.ok xs h2):E.ev cl (.ofL (.comp elt tg it ct ns cap sc p)) ρ h=.ok (.loc h2.length) (h2++[.lst xs]):=bnd (bnd hi ((if_pos hl).trans hc)) rfl
theorem U0 {i:Int}(he:e.ev cl ρ h=.ok (.int i) h'):Eo.ev cl (.some e) ρ h=.ok (some i) h':=bnd he rfl
theorem Wj (n:Nat){s:Ss}{o:RS}(q:Ss.run cl (wo n s) ρ h=.nx ρ' h')(k:Ss.run cl (zH n s) ρ' h'=o):Ss.run cl s ρ h=o:=by rw [YZ cl n,q];exact k
theorem z7v {e':E}{r:Es}(ha:e.evT cl ρ h=.ok false h')(hb:e'.evT cl ρ h'=.ok true h2):(E.or e e' (.cons c r) p).evT cl ρ h=.ok true h2:=bnd (bnd (zi ha) (bnd (zi hb) rfl)) rfl
theorem mlk {i j:Int}(hi:jR i=true)(hj:jR j=true):zw .Mult (.int i) (.int j) h=.ok (.int (i*j)) h:=if_pos ⟨hi,hj⟩
theorem ya {o:RS}(hc:c.evT cl ρ h=.ok false h')(hb:b.run cl ρ h'=.nx ρ' h2)(k:Ss.run cl r ρ' h2=o):Ss.run cl (.cons (.iff c a b p) r) ρ h=o:=by
 rw [<- k];show j8 (jm ρ (c.evT cl ρ h) λ t h1=>if t then a.run cl ρ h1 else b.run cl ρ h1) 122=_;rw [hc];show j8 (b.run cl ρ h') _=_;rw [hb];rfl
end
inductive Kd where
 | num (n:Int) | var (x:Str) | op (s:Str) | lett (x:Str) | ite | call (f:Str) (g:XX) | doo (d:Str) | handle (h:Str) | go | guard
inductive G where
 | nd (k:Kd) (ps:List G)
noncomputable def Kd.tag:Kd->Str
 | .num _=>"num" | .var _=>"var" | .op _=>"op" | .lett _=>"let" | .ite=>"if" | .call _ _=>"call" | .doo _=>"do" | .handle _=>"handle" | .go=>"go" | .guard=>"guard"
noncomputable def Kd.isGo:Kd->Bool
 | .go=>true
 | _=>false
noncomputable def Kd.isIf:Kd->Bool
 | .ite=>true
 | _=>false
noncomputable def zp:Option Str->D
 | none=>.non
 | some g=>.str g
noncomputable def Kd.enc:Kd->List D->D
 | .num n,ps=>.tup (.str "num"::.int n::ps)
 | .var x,ps=>.tup (.str "var"::.str x::ps)
 | .op s,ps=>.tup (.str "op"::.str s::ps)
 | .lett x,ps=>.tup (.str "let"::.str x::ps)
 | .ite,ps=>.tup (.str "if"::ps)
 | .call f g,ps=>.tup [.str "call",.str f,zp g,.tup ps]
 | .doo d,ps=>.tup (.str "do"::.str d::ps)
 | .handle h,ps=>.tup (.str "handle"::.str h::ps)
 | .go,ps=>.tup (.str "go"::ps)
 | .guard,ps=>.tup (.str "guard"::ps)
mutual
noncomputable def G.d:G->D
 | .nd k ps=>k.enc (G.ds ps)
noncomputable def G.ds:List G->List D
 | []=>[]
 | g::r=>g.d::G.ds r
end
mutual
noncomputable def G.size:G->Nat
 | .nd _ ps=>1+G.sizes ps
noncomputable def G.sizes:List G->Nat
 | []=>0
 | g::r=>g.size+G.sizes r
end
noncomputable def Kd.ok (k:Kd)(n:Nat):Bool:=match k with
 | .num _ | .var _=>n==0
 | .op _ | .lett _ | .handle _ | .go | .guard=>n==2
 | .ite=>n==3
 | .doo _=>n==1
 | .call _ _=>true
mutual
noncomputable def G.ok:G->Bool
 | .nd k ps=>k.ok ps.length&&G.oks ps
noncomputable def G.oks:List G->Bool
 | []=>true
 | g::r=>g.ok&&G.oks r
end
theorem we:∀ gs:List G,G.ds gs=gs.map G.d
 | []=>by rw [G.ds];rfl
 | g::r=>by rw [G.ds,we r];rfl
theorem qJ (a:List G):(G.ds a).length=a.length:=by simp [we]
theorem zN:∀ (a b:List G),G.sizes (a++b)=G.sizes a+G.sizes b
 | [],b=>by rw [Y0l];simp [G.sizes]
 | g::r,b=>by rw [Y1k,G.sizes,G.sizes,zN r b];omega
theorem so:∀ x∈(["num","var","op","let","if","call","do","handle","go","guard","never","jump","once","many"]:List Str),PyData.strOk x=true:=by decide +kernel
theorem wf (k:Kd):PyData.strOk k.tag=true:=by cases k<;>exact so _ (by simp [Kd.tag])
noncomputable def Kd.isCall:Kd->Bool
 | .call _ _=>true
 | _=>false
noncomputable def Kd.isLet:Kd->Bool
 | .lett _=>true
 | _=>false
noncomputable def Kd.isGuard:Kd->Bool
 | .guard=>true
 | _=>false
theorem qK (k:Kd):(k.tag==("call":Str))=k.isCall:=by cases k<;>rfl
theorem U1 (k:Kd):(k.tag==("go":Str))=k.isGo:=by cases k<;>rfl
theorem UV (k:Kd):(k.tag==("let":Str))=k.isLet:=by cases k<;>rfl
theorem UW (k:Kd)(ps:List D):∃ r,k.enc ps=.tup (.str k.tag::r):=by cases k<;>exact 117
theorem Jb (k:Kd)(ps:List D)(h:Hh):zC (k.enc ps) (.int 0) h=.ok (.str k.tag) h:=by
 obtain ⟨r,e⟩:=UW k ps;rw [e,sub_tup,zY 102];rfl
theorem z36 (a b:D)(ps:List D)(h:Hh):j4 (.tup (a::b::ps)) (some 2) none h=.ok (.tup ps) h:=by
 simp only [j4,jI];rw [zG _ _ _ 102,zX];have e:min (2:Int).toNat (a::b::ps).length=2:=by simp
 rw [e,if_neg 110];simp
theorem Jc (a:D)(ps:List D)(h:Hh):j4 (.tup (a::ps)) (some 1) none h=.ok (.tup ps) h:=by
 simp only [j4,jI];rw [zG _ _ _ 102,zX];have e:min (1:Int).toNat (a::ps).length=1:=by simp
 rw [e,if_neg 110];simp
end PI
set_option synthInstance.maxHeartbeats 4000000
set_option synthInstance.maxSize 100000
namespace K19
open PySem L2 PI
abbrev U (l a b:Nat):PySem.Pos:=⟨l,a,l,b⟩
noncomputable instance (n:Nat):OfNat PySem.Pos n:=⟨⟨n/100000,n/100%1000,n/100000,n/100%1000+n%100⟩⟩
noncomputable def g_FIRST_PART:List (Str×Cv):=[("num",.int 2),("var",.int 2),("op",.int 2),("let",.int 2),("if",.int 1),("do",.int 2),("handle",.int 2),("go",.int 1),("guard",.int 1)]
abbrev zh:List (Str×Cn):=[("FIRST_PART",(.dic g_FIRST_PART)),("CLAUSE",(.str "clause")),("END",(.str "end")),("FREE",(.str "free")),("WrightError",(.exc 0 [0])),("NoName",(.exc 1 [1,0])),("NoCount",(.exc 2 [2,0])),("NoGo",(.exc 3 [3,0]))]
abbrev FN:List Str:="parts_of"::"items_by_name"::"check"::"refuse_twice"::"check_function"::"check_handler"::"check_answer"::"check_body"::"inner"::"check_expression"::"check_variable"::"check_handle"::"check_call"::"is_function"::"may_be_handed"::"_law_cell"::"_law_next"::"_law_names"::"_law_some"::"_law_leaf"::"_law_call"::"_law_good"::"_law_handler"::"_law_items"::"_law_program"::"_law_leaves"::"_law_put"::"_law_bodies"::"_law_count"::"_law_spoiled"::"_law_nameless"::"_law_countless"::"_law_goless"::"_law_fault"::"_law_refusal"::"_law_both"::"_law_ahead"::"_law_more"::"_law_by_item"::"law"::[]
noncomputable def top (i:Nat):Stmt:=PySem.Challenge.pw_deedwright_k19_the_first_wrong_thing.main.body.getD i (.Pass ⟨0,0,0,0⟩)
class Ix (x:Str) (N:XU) (i:outParam Nat):Prop
instance [Ix x N i]:Ix x (y::N) (i+1):=⟨⟩
instance:Ix x (x::N) 0:=⟨⟩
class Gx (x:Str) (g:List (Str×Cn)) (c:outParam Cn):Prop
instance [Gx x g c]:Gx x (y::g) c:=⟨⟩
instance:Gx x ((x,c)::g) c:=⟨⟩
class Qe (n:Nm) (e:Expr) (o:outParam E):Prop
class Qs (n:Nm) (e:List Expr) (o:outParam Es):Prop
class Qo (n:Nm) (e:Option Expr) (o:outParam Eo):Prop
class Ql (n:Nm) (e:Expr) (o:outParam L):Prop
class Qi (n:Nm) (e:Expr) (o:outParam I):Prop
class Qt (n:Nm) (e:Stmt) (o:outParam S):Prop
class Qb (n:Nm) (e:List Stmt) (o:outParam Ss):Prop
class Qg (N:XU) (e:Expr) (o:outParam Tg):Prop
instance [Ix x N i]:Qg N (.Name x p) (.one i p):=⟨⟩
class Qh (N:XU) (e:List Expr) (o:outParam (List (Nat×Pos))):Prop
instance:Qh N [] []:=⟨⟩
instance [Ix x N i] [Qh N r r']:Qh N (.Name x p::r) ((i,p)::r'):=⟨⟩
instance [Qh N e o]:Qg N (.Tuple e 0 p) (.tup o p):=⟨⟩
instance:Qs n [] .nil:=⟨⟩
instance [Qe n a a'] [Qs n r r']:Qs n (a::r) (.cons a' r'):=⟨⟩
instance:Qo n none .none:=⟨⟩
instance [Qe n a a']:Qo n (some a) (.some a'):=⟨⟩
instance:Qb n [] .nil:=⟨⟩
instance [Qt n a a'] [Qb n r r']:Qb n (a::r) (.cons a' r'):=⟨⟩
class Sn (N:XU) (s:List (Str×NameKind)) (M:outParam (List Str)) (k:outParam (List (Option Nat))):Prop
instance:Sn N [] [] []:=⟨⟩
instance [Sn N s M k]:Sn N ((x,.local)::s) (x::M) (none::k):=⟨⟩
instance [Sn N s M k]:Sn N ((".0",.local)::s) M k:=⟨⟩
instance [Sn N s M k]:Sn N ((x,.cell)::s) (x::M) (none::k):=⟨⟩
instance [Sn N s M k]:Sn N ((x,.globalImplicit)::s) M k:=⟨⟩
instance [Ix x N i] [Sn N s M k]:Sn N ((x,.free)::s) (x::M) (some i::k):=⟨⟩
class Qf (N:XU) (e:Expr) (o:outParam Fp):Prop
instance:Qf N (.Constant (.str x) 0 p) (.c x p):=⟨⟩
instance [Ix x N i]:Qf N (.FormattedValue (.Name x q) 114 none p) (.r i q p):=⟨⟩
instance [Ix x N i]:Qf N (.FormattedValue (.Name x q) (-1) none p) (.v i q p):=⟨⟩
class Qfs (N:XU) (e:List Expr) (o:outParam (List Fp)):Prop
instance:Qfs N [] []:=⟨⟩
instance [Qf N a a'] [Qfs N r r']:Qfs N (a::r) (a'::r'):=⟨⟩
class Qm (N:XU) (e:Expr) (o:outParam Ms):Prop
instance:Qm N (.Constant (.str x) 0 p) (.s x p):=⟨⟩
instance [Qf N a a'] [Qf N b b'] [Qfs N r r']:Qm N (.JoinedStr (a::b::r) p) (.f a' b' r' p):=⟨⟩
instance:Qe n (.Constant .none 0 p) (.non p):=⟨⟩
instance:Qe n (.Constant (.bool i) 0 p) (.bl i p):=⟨⟩
instance:Qe n (.Constant (.int i) 0 p) (.int i p):=⟨⟩
instance:Qe n (.Constant (.str i) 0 p) (.str i p):=⟨⟩
instance [Gx x g c]:Qe ⟨N,F,g⟩ (.Name x p) (.gcon x c p):=⟨⟩
instance [Ix x N i]:Qe ⟨N,F,g⟩ (.Name x p) (.var i p):=⟨⟩
instance [Qe n a a'] [Qe n b b']:Qe n (.BinOp a o b p) (.bin o a' b' p):=⟨⟩
instance [Qe n a a']:Qe n (.UnaryOp o a p) (.un o a' p):=⟨⟩
instance [Qe n a a'] [Qe n b b']:Qe n (.Compare a [o] [b] p) (.cmp o a' b' p):=⟨⟩
instance [Qe n a a']:Qe n (.Compare a [.NotEq] [.List [] q] p) (.cmpN true a' q p):=⟨⟩
instance [Qe n a a'] [Qe n b b'] [Qs n r r']:Qe n (.BoolOp .And (a::b::r) p) (.and a' b' r' p):=⟨⟩
instance [Qe n a a'] [Qe n b b'] [Qs n r r']:Qe n (.BoolOp .Or (a::b::r) p) (.or a' b' r' p):=⟨⟩
instance [Qe n c c'] [Qe n a a'] [Qe n b b']:Qe n (.IfExp c a b p) (.ite c' a' b' p):=⟨⟩
instance [Ix x F i] [Qe ⟨N,F,g⟩ a a'] [Qs ⟨N,F,g⟩ r r']:Qe ⟨N,F,g⟩ (.Call (.Name x q) (a::r) [] p) (.call i a' r' q p):=⟨⟩
instance [Qe n a a']:Qe n (.Call (.Name "len" q) [a] [] p) (.len a' q p):=⟨⟩
instance [Qe n a a']:Qe n (.Call (.Name "isinstance" q) [a,.Name "str" u] [] p) (.isi 2 a' q u p):=⟨⟩
instance [Qe n a a']:Qe n (.Call (.Name "isinstance" q) [a,.Name "tuple" u] [] p) (.isi 3 a' q u p):=⟨⟩
instance [Qe n a a'] [Qe n b b']:Qe n (.Subscript a b p) (.sub a' b' p):=⟨⟩
instance [Qe n a a'] [Qo n b b'] [Qo n c c']:Qe n (.Subscript a (.Slice b c none q) p) (.cut a' b' c' q p):=⟨⟩
instance [Gx x g (.dic k)] [Qe ⟨N,F,g⟩ b b']:Qe ⟨N,F,g⟩ (.Subscript (.Name x q) b p) (.gsub x k b' q p):=⟨⟩
instance [Qs n a a']:Qe n (.Tuple a 0 p) (.tup a' p):=⟨⟩
instance [Ql n (.List a p) l]:Qe n (.List a p) (.ofL l):=⟨⟩
instance [Ql n (.ListComp a b c p) l]:Qe n (.ListComp a b c p) (.ofL l):=⟨⟩
instance [Qe n a a']:Qe n (.Call (.Name "tuple" q) [a] [] p) (.tupE a' q p):=⟨⟩
instance [Ql n a a']:Qe n (.Call (.Name "tuple" q) [a] [] p) (.tupL a' q p):=⟨⟩
instance [Qe n a a']:Qe n (.Call (.Name "list" q) [.Call (.Name "reversed" u) [a] [] v] [] p) (.listR a' q u v p):=⟨⟩
instance [Qe n a a']:Qe n (.Call (.Name "dict" q) [a] [] p) (.dicP a' q p):=⟨⟩
instance:Qe n (.Dict [] [] p) (.dic p):=⟨⟩
instance [Qe n o o']:Qe n (.Call (.Attribute o "pop" q) [] [] p) (.m0 .pop o' q p):=⟨⟩
instance [Qe n o o'] [Qe n a a']:Qe n (.Call (.Attribute o "append" q) [a] [] p) (.m1 .append o' a' q p):=⟨⟩
instance [Qe n o o'] [Qe n a a']:Qe n (.Call (.Attribute o "extend" q) [a] [] p) (.m1 .extend o' a' q p):=⟨⟩
instance [Qe n o o'] [Qe n a a']:Qe n (.Call (.Attribute o "index" q) [a] [] p) (.m1 .index o' a' q p):=⟨⟩
instance [Qe n a a']:Qe n (.Call (.Name "int" q) [a] [] p) (.c1 .int a' q p):=⟨⟩
instance [Qe n a a']:Qe n (.Call (.Name "sum" q) [a] [] p) (.c1 .sum a' q p):=⟨⟩
instance [Qs n a a']:Ql n (.List a p) (.disp a' p):=⟨⟩
instance [Sn N s M k] [Qe ⟨M,F,g⟩ a a'] [Qg M b b'] [Qi ⟨N,F,g⟩ i i'] [Qs ⟨M,F,g⟩ c c']:Ql ⟨N,F,g⟩ (.ListComp a [⟨b,i,c,0⟩] ⟨u,s,false,false,[]⟩ p) (.comp a' b' i' c' M k ⟨u,s,false,false,[]⟩ p):=⟨⟩
instance [Qe n a a']:Qi n a (.seq a'):=⟨⟩
instance [Qe n a a']:Qi n (.Call (.Name "range" q) [a] [] p) (.rng a' q p):=⟨⟩
instance [Qe n a a'] [Qe n b b'] [Qe n c c']:Qi n (.Call (.Name "range" q) [a,b,c] [] p) (.rngD a' b' c' q p):=⟨⟩
instance [Qe n a a']:Qt n (.Return (some a) p) (.ret a' p):=⟨⟩
instance [Qe n a a']:Qt n (.Expr a p) (.ex a' p):=⟨⟩
instance [Qe n c c'] [Qb n a a'] [Qb n b b']:Qt n (.If c a b p) (.iff c' a' b' p):=⟨⟩
instance [Qe ⟨N,F,g⟩ a a'] [Ix x N i] [Qb ⟨N,F,g⟩ y y'] [Qb ⟨N,F,g⟩ z z']:Qt ⟨N,F,g⟩ (.If (.BoolOp .And [a,.Name x q] u) y z p) (.iffN a' i q u y' z' p):=⟨⟩
instance [Ix x N i] [Qe ⟨N,F,g⟩ a a']:Qt ⟨N,F,g⟩ (.Assign [.Name x q] a p) (.set i a' q p):=⟨⟩
instance [Qe n o o'] [Qe n i i'] [Qe n a a']:Qt n (.Assign [.Subscript o i q] a p) (.put o' i' a' q p):=⟨⟩
instance [Qg N (.Tuple b 0 q) (.tup i q)] [Qe ⟨N,F,g⟩ a a']:Qt ⟨N,F,g⟩ (.Assign [.Tuple b 0 q] a p) (.setT i a' q p):=⟨⟩
instance [Qg N t t'] [Qi ⟨N,F,g⟩ i i'] [Qb ⟨N,F,g⟩ b b']:Qt ⟨N,F,g⟩ (.For t i b [] p) (.forr t' i' b' p):=⟨⟩
instance [Qe n c c'] [Qb n b b']:Qt n (.While c b [] p) (.whil c' b' p):=⟨⟩
instance [Gx x g (.exc c u)] [Qm N m m']:Qt ⟨N,F,g⟩ (.Raise (some (.Call (.Name x q) [m] [] v)) none p) (.rais x c u m' q v p):=⟨⟩
noncomputable def mkD (i:Nat)(x:Str)(k:Nat)(N:XU)(q:(o:Ss) ×' Qb ⟨N,FN,zh⟩ (j7 (top i)) o:=by (conv in j7 _=>whnf);exact ⟨_,inferInstance⟩):Df:=⟨x,N.take k,N,q.1⟩
noncomputable def z8:Ss->S
 | .cons a _=>a
 | _=>.ret (.non ⟨0,0,0,0⟩) ⟨0,0,0,0⟩
noncomputable def ju:S->E
 | .ret a _=>a
 | _=>.non ⟨0,0,0,0⟩
noncomputable def QY:E->E
 | .dicP a _ _=>a
 | _=>.non ⟨0,0,0,0⟩
noncomputable def zv:E->L
 | .ofL a=>a
 | _=>.disp .nil ⟨0,0,0,0⟩
noncomputable def zR:L->E
 | .comp a _ _ _ _ _ _ _=>a
 | _=>.non ⟨0,0,0,0⟩
noncomputable def zS:L->Tg
 | .comp _ a _ _ _ _ _ _=>a
 | _=>.one 0 ⟨0,0,0,0⟩
noncomputable def z7:Ss->Ss
 | .cons _ a=>a
 | _=>.nil
noncomputable def jS:S->Tg
 | .forr a _ _ _=>a
 | _=>.one 0 ⟨0,0,0,0⟩
noncomputable def jU:S->Ss
 | .forr _ _ a _=>a
 | _=>.nil
noncomputable def WS:S->E
 | .ex a _=>a
 | _=>.non ⟨0,0,0,0⟩
noncomputable def wR:E->E
 | .call _ a _ _ _=>a
 | _=>.non ⟨0,0,0,0⟩
noncomputable def OF:S->E
 | .whil a _ _=>a
 | _=>.non ⟨0,0,0,0⟩
noncomputable def OG:S->Ss
 | .whil _ a _=>a
 | _=>.nil
noncomputable def jw:S->E
 | .set _ a _ _=>a
 | _=>.non ⟨0,0,0,0⟩
noncomputable def QZ:E->E
 | .tupE a _ _=>a
 | _=>.non ⟨0,0,0,0⟩
noncomputable def qX:S->Ss
 | .iff _ _ a _=>a
 | _=>.nil
noncomputable def ZC:S->Ss
 | .iff _ a _ _=>a
 | _=>.nil
noncomputable def UX:E->E
 | .bin _ _ a _=>a
 | _=>.non ⟨0,0,0,0⟩
noncomputable def yW:E->E
 | .c1 _ a _ _=>a
 | _=>.non ⟨0,0,0,0⟩
noncomputable def yw:E->L
 | .tupL a _ _=>a
 | _=>.disp .nil ⟨0,0,0,0⟩
noncomputable def UY:E->E
 | .bin _ a _ _=>a
 | _=>.non ⟨0,0,0,0⟩
noncomputable def e_law_refusal_1:E:=(.c1 .int (.var 0 27701610) 27701203 27701215)
noncomputable def c_law_refusal_1:Es:=.nil
noncomputable def wg:Tg:=(.one 0 27703210)
noncomputable def Zr:Scope:={ kind:=PySem.ScopeKind.function,names:=[ (PySem.Str.ofString ".0",PySem.NameKind.local),(PySem.Str.ofString "_law_truth",PySem.NameKind.local),(PySem.Str.ofString "int",PySem.NameKind.globalImplicit)],isGenerator:=false,isCoroutine:=false,more:=[]:PySem.Scope }
noncomputable def d_parts_of:=mkD 7 "parts_of" 1 ["tree"]
noncomputable def d_items_by_name:=mkD 8 "items_by_name" 1 ["program"]
noncomputable def d_check:=mkD 13 "check" 1 ["program","items","item"]
noncomputable def d_refuse_twice:=mkD 14 "refuse_twice" 1 ["names","told","name"]
noncomputable def d_check_function:=mkD 15 "check_function" 2 ["item","items","params","block"]
noncomputable def d_check_handler:=mkD 16 "check_handler" 2 ["item","items","clause"]
noncomputable def d_check_answer:=mkD 17 "check_answer" 3 ["answer","place","items","known"]
noncomputable def d_check_body:=mkD 18 "check_body" 5 ["body","known","place","block","items","waiting","looked"]
noncomputable def d_inner:=mkD 19 "inner" 3 ["tree","known","place"]
noncomputable def d_check_expression:=mkD 20 "check_expression" 5 ["tree","known","place","block","items"]
noncomputable def d_check_variable:=mkD 21 "check_variable" 2 ["name","known"]
noncomputable def d_check_handle:=mkD 22 "check_handle" 3 ["tree","place","items","name"]
noncomputable def d_check_call:=mkD 23 "check_call" 3 ["tree","block","items","called","handed","count","takes_block"]
noncomputable def d_is_function:=mkD 24 "is_function" 2 ["name","items"]
noncomputable def d_may_be_handed:=mkD 25 "may_be_handed" 2 ["name","items"]
noncomputable def d_law_cell:=mkD 27 "_law_cell" 2 ["_law_script","_law_k","_law_number"]
noncomputable def d_law_next:=mkD 28 "_law_next" 1 ["_law_feed"]
noncomputable def d_law_names:=mkD 29 "_law_names" 2 ["_law_cell_here","_law_count_here","_law_size","_law_pool","_law_place","_law_names_here","_law_k","_law_rest","_law_letters","_law_j"]
noncomputable def d_law_some:=mkD 30 "_law_some" 7 ["_law_feed","_law_deep","_law_plan","_law_known","_law_block","_law_goes","_law_many"]
noncomputable def d_law_leaf:=mkD 31 "_law_leaf" 2 ["_law_cell_here","_law_known"]
noncomputable def d_law_call:=mkD 32 "_law_call" 7 ["_law_feed","_law_deep","_law_plan","_law_known","_law_block","_law_goes","_law_cell_here","_law_names_here","_law_handed"]
noncomputable def d_law_good:=mkD 33 "_law_good" 6 ["_law_feed","_law_deep","_law_plan","_law_known","_law_block","_law_goes","_law_cell_here","_law_pick","_law_names_here","_law_a","_law_b","_law_name","_law_s"]
noncomputable def d_law_handler:=mkD 34 "_law_handler" 5 ["_law_feed","_law_plan","_law_name","_law_deeds","_law_cell_here","_law_names_here","_law_x","_law_s","_law_clauses","_law_end"]
noncomputable def d_law_items:=mkD 35 "_law_items" 3 ["_law_feed","_law_plan","_law_cell_here","_law_names_here","_law_ones","_law_others","_law_items_here","_law_at"]
noncomputable def d_law_program:=mkD 36 "_law_program" 1 ["_law_script","_law_cell_here","_law_plan"]
noncomputable def d_law_leaves:=mkD 37 "_law_leaves" 1 ["_law_tree","_law_count_here","_law_part"]
noncomputable def d_law_put:=mkD 38 "_law_put" 3 ["_law_tree","_law_left","_law_new","_law_made","_law_part"]
noncomputable def d_law_bodies:=mkD 39 "_law_bodies" 1 ["_law_item"]
noncomputable def d_law_count:=mkD 40 "_law_count" 1 ["_law_program_here"]
noncomputable def d_law_spoiled:=mkD 41 "_law_spoiled" 3 ["_law_program_here","_law_at","_law_new","_law_left","_law_items_here","_law_item","_law_clauses"]
noncomputable def d_law_nameless:=mkD 42 "_law_nameless" 3 ["_law_cell_here","_law_names_here","_law_plan","_law_one","_law_some_here"]
noncomputable def d_law_countless:=mkD 43 "_law_countless" 3 ["_law_cell_here","_law_names_here","_law_plan","_law_one","_law_some_here"]
noncomputable def d_law_goless:=mkD 44 "_law_goless" 2 ["_law_cell_here","_law_names_here","_law_one","_law_go","_law_inner"]
noncomputable def jV:=mkD 45 "_law_fault" 4 ["_law_kind","_law_cell_here","_law_names_here","_law_plan"]
noncomputable def d_law_refusal:Df:=⟨"_law_refusal",["_law_program_here"],["_law_program_here","_law_given","e"],(.cons (.set 1 (.non 27001704) 27000410 27000417) (.cons (.tryA (.cons (.ex (.call 2 (.var 0 27201417) .nil 27200805 27200824) 27200824) .nil) "WrightError" 0 [0] [("WrightError",0,[0]),("NoName",1,[1,0]),("NoCount",2,[2,0]),("NoGo",3,[3,0])] 2 1 (.lst [⟨false,"NoName",some 1,27403301,27402210,27403606,27402221,27402221⟩,⟨false,"NoCount",some 2,27405601,27404510,27405907,27404522,27404522⟩,⟨false,"NoGo",some 3,27408001,27406910,27408304,27406919,27406919⟩] 27402168) 27301111 27400810 27400881 ⟨273,4,274,89⟩ ⟨271,4,274,89⟩) (.cons (.iff (.cmp .Is (.var 1 27500710) (.non 27502104) 27500718) (.cons (.ret (.un .USub (.int 1 27601601) 27601502) 27600809) .nil) .nil ⟨275,4,276,17⟩) (.cons (.iff (.cmp .NotEq (.c1 .sum (.ofL (.comp e_law_refusal_1 wg (.seq (.var 1 27704610)) c_law_refusal_1 ["_law_truth"] [none] Zr 27701146)) 27700703 27700751) (.int 1 27706201) 27700756) (.cons (.ret (.un .USub (.int 2 27801601) 27801502) 27800809) .nil) .nil ⟨277,4,278,17⟩) (.cons (.ret (.m1 .index (.var 1 27901110) (.bl true 27902804) 27901116 27901122) 27900429) .nil)))))⟩
noncomputable def d_law_both:=mkD 47 "_law_both" 4 ["_law_kinds","_law_cell_here","_law_names_here","_law_plan","_law_first","_law_second","_law_one","_law_some_here"]
noncomputable def d_law_ahead:=mkD 48 "_law_ahead" 3 ["_law_cell_here","_law_names_here","_law_plan","_law_one","_law_part","_law_other","_law_last","_law_some_here"]
noncomputable def d_law_more:=mkD 49 "_law_more" 3 ["_law_names_here","_law_wrong","_law_cell_here","_law_name","_law_one","_law_clause","_law_end","_law_some_here"]
noncomputable def d_law_by_item:=mkD 50 "_law_by_item" 5 ["_law_program_here","_law_cell_here","_law_names_here","_law_plan","_law_place","_law_wrong","_law_more_here","_law_at"]
noncomputable def d_law:=mkD 51 "law" 1 ["_law_script","_law_program_here","_law_names_here","_law_number","_law_plan","_law_cell_here","_law_due","_law_kinds","_law_pick","_law_count_here","_law_place","_law_later","_law_wrong","_law_new"]
noncomputable def e_items_by_name_1:E:=(zR (zv (QY (ju (z8 d_items_by_name.body)))))
noncomputable def c_items_by_name_1:Es:=.nil
noncomputable def yx:Tg:=(zS (zv (QY (ju (z8 d_items_by_name.body)))))
noncomputable def Wk:Tg:=(jS (z8 (z7 (z7 d_check.body))))
noncomputable def b_check_1:Ss:=(jU (z8 (z7 (z7 d_check.body))))
noncomputable def e_check_2:E:=(zR (zv (wR (WS (z8 d_check.body)))))
noncomputable def c_check_2:Es:=.nil
noncomputable def Wl:Tg:=(zS (zv (wR (WS (z8 d_check.body)))))
noncomputable def jh:Tg:=(jS (z8 (z7 d_refuse_twice.body)))
noncomputable def b_refuse_twice_1:Ss:=(jU (z8 (z7 d_refuse_twice.body)))
noncomputable def jc:Tg:=(jS (z8 (z7 d_check_handler.body)))
noncomputable def b_check_handler_1:Ss:=(jU (z8 (z7 d_check_handler.body)))
noncomputable def e_check_handler_2:E:=(zR (zv (wR (WS (z8 d_check_handler.body)))))
noncomputable def c_check_handler_2:Es:=.nil
noncomputable def jE:Tg:=(zS (zv (wR (WS (z8 d_check_handler.body)))))
noncomputable def w_check_body_1:E:=(OF (z8 (z7 d_check_body.body)))
noncomputable def b_check_body_1:Ss:=(OG (z8 (z7 d_check_body.body)))
noncomputable def e_inner_1:E:=(zR (zv (ju (z8 (z7 (z7 d_inner.body))))))
noncomputable def c_inner_1:Es:=.nil
noncomputable def G5:Tg:=(zS (zv (ju (z8 (z7 (z7 d_inner.body))))))
noncomputable def yb:Tg:=(jS (z8 (z7 (z7 (z7 (z7 (z7 d_law_names.body)))))))
noncomputable def b_law_names_1:Ss:=(jU (z8 (z7 (z7 (z7 (z7 (z7 d_law_names.body)))))))
noncomputable def e_law_some_1:E:=(zR (zv (ju (z8 d_law_some.body))))
noncomputable def c_law_some_1:Es:=.nil
noncomputable def WT:Tg:=(zS (zv (ju (z8 d_law_some.body))))
noncomputable def e_law_handler_1:E:=(zR (zv (jw (z8 (z7 (z7 (z7 d_law_handler.body)))))))
noncomputable def c_law_handler_1:Es:=.nil
noncomputable def Zs:Tg:=(zS (zv (jw (z8 (z7 (z7 (z7 d_law_handler.body)))))))
noncomputable def e_law_items_1:E:=(zR (zv (jw (z8 (z7 (z7 d_law_items.body))))))
noncomputable def c_law_items_1:Es:=.nil
noncomputable def JG:Tg:=(zS (zv (jw (z8 (z7 (z7 d_law_items.body))))))
noncomputable def e_law_items_2:E:=(zR (zv (jw (z8 (z7 d_law_items.body)))))
noncomputable def c_law_items_2:Es:=.nil
noncomputable def JH:Tg:=(zS (zv (jw (z8 (z7 d_law_items.body)))))
noncomputable def e_law_program_1:E:=(zR (zv (wR (QZ (ju (z8 (z7 (z7 d_law_program.body))))))))
noncomputable def c_law_program_1:Es:=.nil
noncomputable def Zt:Tg:=(zS (zv (wR (QZ (ju (z8 (z7 (z7 d_law_program.body))))))))
noncomputable def c_law_leaves_2:Es:=.nil
noncomputable def qL:Tg:=(jS (z8 (z7 (z7 d_law_leaves.body))))
noncomputable def b_law_leaves_1:Ss:=(jU (z8 (z7 (z7 d_law_leaves.body))))
noncomputable def c_law_put_2:Es:=.nil
noncomputable def qM:Tg:=(jS (z8 (z7 (z7 d_law_put.body))))
noncomputable def b_law_put_1:Ss:=(jU (z8 (z7 (z7 d_law_put.body))))
noncomputable def e_law_bodies_1:E:=(zR (zv (UY (ju (z8 (z7 d_law_bodies.body))))))
noncomputable def c_law_bodies_1:Es:=.nil
noncomputable def Jd:Tg:=(zS (zv (UY (ju (z8 (z7 d_law_bodies.body))))))
noncomputable def c_law_count_2:Es:=.nil
noncomputable def e_law_count_1:E:=(zR (zv (yW (ju (z8 d_law_count.body)))))
noncomputable def c_law_count_1:Es:=.nil
noncomputable def JI:Tg:=(zS (zv (yW (ju (z8 d_law_count.body)))))
noncomputable def c_law_spoiled_2:Es:=.nil
noncomputable def wj:Tg:=(jS (z8 (z7 (z7 d_law_spoiled.body))))
noncomputable def b_law_spoiled_1:Ss:=(jU (z8 (z7 (z7 d_law_spoiled.body))))
noncomputable def yc:Tg:=(jS (z8 (z7 (z7 b_law_names_1))))
noncomputable def b_law_names_2:Ss:=(jU (z8 (z7 (z7 b_law_names_1))))
noncomputable def e_law_leaves_2:E:=(zR (zv (yW (UX (jw (z8 (ZC (z8 (qX (z8 b_law_leaves_1))))))))))
noncomputable def Je:Tg:=(zS (zv (yW (UX (jw (z8 (ZC (z8 (qX (z8 b_law_leaves_1))))))))))
noncomputable def e_law_put_2:E:=(zR (yw (jw (z8 (ZC (z8 (qX (z8 b_law_put_1))))))))
noncomputable def Y0:Tg:=(zS (yw (jw (z8 (ZC (z8 (qX (z8 b_law_put_1))))))))
noncomputable def e_law_count_2:E:=(zR (zv (yW e_law_count_1)))
noncomputable def JJ:Tg:=(zS (zv (yW e_law_count_1)))
noncomputable def e_law_spoiled_2:E:=(zR (yw (jw (z8 (qX (z8 b_law_spoiled_1))))))
noncomputable def Zu:Tg:=(zS (yw (jw (z8 (qX (z8 b_law_spoiled_1))))))
noncomputable def defs:List Df:=[d_parts_of,d_items_by_name,d_check,d_refuse_twice,d_check_function,d_check_handler,d_check_answer,d_check_body,d_inner,d_check_expression,d_check_variable,d_check_handle,d_check_call,d_is_function,d_may_be_handed,d_law_cell,d_law_next,d_law_names,d_law_some,d_law_leaf,d_law_call,d_law_good,d_law_handler,d_law_items,d_law_program,d_law_leaves,d_law_put,d_law_bodies,d_law_count,d_law_spoiled,d_law_nameless,d_law_countless,d_law_goless,jV,d_law_refusal,d_law_both,d_law_ahead,d_law_more,d_law_by_item,d_law]
inductive Kd where
 | num (n:Int) | var (x:Str) | op (s:Str) | lett (x:Str) | ite | call (f:Str) (g:XX) | doo (d:Str) | handle (h:Str) | go | guard
inductive G where
 | nd (k:Kd) (ps:List G)
noncomputable def Kd.tag:Kd->Str
 | .num _=>"num" | .var _=>"var" | .op _=>"op" | .lett _=>"let" | .ite=>"if" | .call _ _=>"call" | .doo _=>"do" | .handle _=>"handle" | .go=>"go" | .guard=>"guard"
noncomputable def Kd.isGo:Kd->Bool
 | .go=>true
 | _=>false
noncomputable def Kd.isIf:Kd->Bool
 | .ite=>true
 | _=>false
noncomputable def zp:Option Str->D
 | none=>.non
 | some g=>.str g
noncomputable def Kd.enc:Kd->List D->D
 | .num n,ps=>.tup (.str "num"::.int n::ps)
 | .var x,ps=>.tup (.str "var"::.str x::ps)
 | .op s,ps=>.tup (.str "op"::.str s::ps)
 | .lett x,ps=>.tup (.str "let"::.str x::ps)
 | .ite,ps=>.tup (.str "if"::ps)
 | .call f g,ps=>.tup [.str "call",.str f,zp g,.tup ps]
 | .doo d,ps=>.tup (.str "do"::.str d::ps)
 | .handle h,ps=>.tup (.str "handle"::.str h::ps)
 | .go,ps=>.tup (.str "go"::ps)
 | .guard,ps=>.tup (.str "guard"::ps)
mutual
noncomputable def G.d:G->D
 | .nd k ps=>k.enc (G.ds ps)
noncomputable def G.ds:List G->List D
 | []=>[]
 | g::r=>g.d::G.ds r
end
mutual
noncomputable def G.size:G->Nat
 | .nd _ ps=>1+G.sizes ps
noncomputable def G.sizes:List G->Nat
 | []=>0
 | g::r=>g.size+G.sizes r
end
noncomputable def Kd.ok (k:Kd)(n:Nat):Bool:=match k with
 | .num _ | .var _=>n==0
 | .op _ | .lett _ | .handle _ | .go | .guard=>n==2
 | .ite=>n==3
 | .doo _=>n==1
 | .call _ _=>true
mutual
noncomputable def G.dp:G->Nat
 | .nd _ ps=>1+G.dps ps
noncomputable def G.dps:List G->Nat
 | []=>0
 | g::r=>max g.dp (G.dps r)
end
mutual
theorem UZ:∀ g:G,g.dp<=g.size
 | .nd k ps=>by
  have:=dps_sizes ps
  rw [G.dp,G.size];omega
theorem dps_sizes:∀ gs:List G,G.dps gs<=G.sizes gs
 | []=>by rw [G.dps,G.sizes];exact Y0a 0
 | g::r=>by
  have:=UZ g
  have:=dps_sizes r
  rw [G.dps,G.sizes];omega
end
theorem U2 {n:Nat}:∀ {gs:List G},(∀ g∈gs,g.dp<=n)->G.dps gs<=n
 | [],_=>by rw [G.dps];omega
 | g::r,h=>by
  have a:=h g (Y06 ..);have b:=U2 (gs:=r) λ x hx=>h x (Y04 _ hx);rw [G.dps];omega
noncomputable def Sz (g:G):Prop:=g.size<=800000/\g.dp<=7
theorem we:∀ gs:List G,G.ds gs=gs.map G.d
 | []=>by rw [G.ds];rfl
 | g::r=>by rw [G.ds,we r];rfl
theorem qJ (a:List G):(G.ds a).length=a.length:=by simp [we]
theorem zN:∀ (a b:List G),G.sizes (a++b)=G.sizes a+G.sizes b
 | [],b=>by rw [Y0l];simp [G.sizes]
 | g::r,b=>by rw [Y1k,G.sizes,G.sizes,zN r b];omega
theorem yy (g:G):0<g.size:=by cases g;rw [G.size];omega
theorem so:∀ x∈(["num","var","op","let","if","call","do","handle","go","guard","never","jump","once","many"]:List Str),PyData.strOk x=true:=by decide +kernel
theorem WU:PyData.strOk "call"=true:=so _ 110
theorem z37:PyData.strOk "go"=true:=so _ 110
theorem z5h:PyData.strOk "let"=true:=so _ 110
theorem wf (k:Kd):PyData.strOk k.tag=true:=by cases k<;>exact so _ (by simp [Kd.tag])
noncomputable def Kd.isCall:Kd->Bool
 | .call _ _=>true
 | _=>false
noncomputable def Kd.isLet:Kd->Bool
 | .lett _=>true
 | _=>false
noncomputable def Kd.isGuard:Kd->Bool
 | .guard=>true
 | _=>false
theorem qK (k:Kd):(k.tag==("call":Str))=k.isCall:=by cases k<;>rfl
theorem U1 (k:Kd):(k.tag==("go":Str))=k.isGo:=by cases k<;>rfl
theorem UV (k:Kd):(k.tag==("let":Str))=k.isLet:=by cases k<;>rfl
theorem OH (k:Kd)(hk:∀ f g,k≠.call f g):g_FIRST_PART.lookup k.tag=some (.int (if k.isIf||k.isGo||k.isGuard then 1 else 2)):=by
 cases k<;>first | (exact absurd rfl (hk _ _)) | rfl
theorem UW (k:Kd)(ps:List D):∃ r,k.enc ps=.tup (.str k.tag::r):=by cases k<;>exact 117
theorem Jb (k:Kd)(ps:List D)(h:Hh):zC (k.enc ps) (.int 0) h=.ok (.str k.tag) h:=by
 obtain ⟨r,e⟩:=UW k ps;rw [e,sub_tup,zY 102];rfl
theorem z36 (a b:D)(ps:List D)(h:Hh):j4 (.tup (a::b::ps)) (some 2) none h=.ok (.tup ps) h:=by
 simp only [j4,jI];rw [zG _ _ _ 102,zX];have e:min (2:Int).toNat (a::b::ps).length=2:=by simp
 rw [e,if_neg 110];simp
theorem Jc (a:D)(ps:List D)(h:Hh):j4 (.tup (a::ps)) (some 1) none h=.ok (.tup ps) h:=by
 simp only [j4,jI];rw [zG _ _ _ 102,zX];have e:min (1:Int).toNat (a::ps).length=1:=by simp
 rw [e,if_neg 110];simp
theorem z1h (cl:101)(k:Kd)(ps:List G)(h:Hh):d_parts_of.run cl [(G.nd k ps).d] h=.ok (.tup (G.ds ps)) h:=by
 have e0:=Jb k (G.ds ps) h;have e1:=eqS (h:=h) (wf k) WU;rw [G.d];by_cases hk:∃ f g,k=.call f g
 ·obtain ⟨f,g,rfl⟩:=hk;rw [qK] at e1;exact ze (ji (z4 (bnd rfl (bnd rfl e0)) rfl e1) (zk (bnd rfl 112)))
 ·have hk':∀ f g,k≠.call f g:=λ f g z=>hk ⟨f,g,z⟩;have lk:=OH k hk';have ht:k.isCall=false:=by cases k<;>first | exact absurd rfl (hk' _ _) | rfl
  rw [qK,ht] at e1;refine ze (za (z4 (bnd rfl (bnd rfl e0)) rfl e1) (zk (bnd rfl (bnd (U0 (h':=h) (i:=if k.isIf||k.isGo||k.isGuard then 1 else 2) (bnd (bnd rfl (bnd rfl e0)) ?_)) (bnd rfl ?_)))))
  ·show z0o _ _ _=_;unfold z0o;dsimp only;rw [lk];rfl
  ·cases k<;>first | (exact absurd rfl (hk' _ _)) | (simp [Kd.isIf,Kd.isGo,Kd.isGuard,Kd.enc,Jc,z36])
theorem jo {α:Type}{c:Ck}{f:D->Hh->Res (Option D)}(en out:α->D)(P:Hh->Prop)(R:Hh->Hh->Prop)(rr:∀ h,R h h)(rt:∀ a b d,R a b->R b d->R a d)(st:∀ h,P h->stay c h):∀ (xs:List α) (acc:List D) (h:Hh),P h->(∀ x∈xs,∀ h,P h->∃ h',f (en x) h=.ok (some (out x)) h'/\P h'/\R h h') ->
  ∃ h',zE c f (xs.map en) acc h=.ok (acc++xs.map out) h'/\P h'/\R h h'
 | [],acc,h,hp,_=>⟨h,by simp [zE,st h hp],hp,rr h⟩
 | x::r,acc,h,hp,hf=>by
  obtain ⟨h1,e1,p1,r1⟩:=hf x (Y06 ..) h hp;obtain ⟨h2,e2,p2,r2⟩:=jo en out P R rr rt st r (acc++[out x]) h1 p1 λ y hy=>hf y (Y04 _ hy);refine ⟨h2,?_,p2,rt _ _ _ r1 r2⟩;rw [Y0i];unfold zE;rw [if_pos (st h hp),e1,bind_ok,addO_some,e2];simp
noncomputable def Gr (h h':Hh):Prop:=∃ J,h'=h++J
theorem Gr.refl (h:Hh):Gr h h:=⟨[],by simp⟩
theorem Gr.trans (a b d:Hh)(x:Gr a b)(y:Gr b d):Gr a d:=by obtain ⟨J,rfl⟩:=x;obtain ⟨K,rfl⟩:=y;exact ⟨J++K,by simp⟩
noncomputable def tab (qs:108):List (Key×D):=yP [] (qs.map λ q=>((Sum.inr q.1:Key),q.2))
theorem G6:∀ (qs:108) (acc:List (Key×D)),(qs.map (·.1)).Nodup->(∀ q∈qs,(acc.any λ kv=>decide (kv.1=Sum.inr q.1))=false)->yP acc (qs.map λ q=>((Sum.inr q.1:Key),q.2))=acc++qs.map λ q=>((Sum.inr q.1:Key),q.2):=by
 intro qs
 induction qs with
 | nil=>intro acc _ _;simp [yP]
 | cons q r ih =>
  intro acc hn ha;rw [Y0i,Y1x] at hn;have e1:ZU acc (Sum.inr q.1) q.2=acc++[(Sum.inr q.1,q.2)]:=by
   unfold ZU;rw [if_neg (by rw [ha q (Y06 ..)];decide)]
  have:=ih (acc++[(Sum.inr q.1,q.2)]) hn.2 (λ z hz=>by
   rw [List.any_append,ha z (Y04 _ hz)]
   have:q.1≠z.1:=λ e=>hn.1 (Y0e.mpr ⟨z,hz,e.symm⟩)
   simp [this])
  show yP (ZU acc (Sum.inr q.1) q.2) (r.map λ q=>((Sum.inr q.1:Key),q.2))=_;rw [e1,this];simp
theorem OI {qs:108}(hn:(qs.map (·.1)).Nodup):tab qs=qs.map λ q=>((Sum.inr q.1:Key),q.2):=by
 unfold tab;rw [G6 qs [] hn 110,Y0l]
theorem Jf {qs:108}{n:Str}{d:D}(hn:(qs.map (·.1)).Nodup)(hm:(n,d)∈qs):wv (tab qs) (Sum.inr n)=some d:=by
 rw [OI hn];unfold wv
 induction qs with
 | nil=>cases hm
 | cons q r ih =>
  rw [Y0i,Y1x] at hn;rw [Y0i,Y1y];rcases Y03.mp hm with e | e
  ·subst e;simp
  ·have:q.1≠n:=λ z=>hn.1 (Y0e.mpr ⟨(n,d),e,z.symm⟩)
   have z:decide ((Sum.inr q.1:Key)=Sum.inr n)=false:=by simp [this]
   simp only [z];exact ih hn.2 e
theorem Y1 {qs:108}{n:Str}(hn:(qs.map (·.1)).Nodup)(hm:n∉qs.map (·.1)):wv (tab qs) (Sum.inr n)=none:=by
 rw [OI hn];unfold wv
 have:(qs.map λ q=>((Sum.inr q.1:Key),q.2)).find? (λ kv=>decide (kv.1=Sum.inr n))=none:=by
  rw [List.find?_eq_none];intro kv hk;obtain ⟨q,hq,rfl⟩:=Y0e.mp hk
  have:q.1≠n:=λ z=>hm (Y0e.mpr ⟨q,hq,z⟩)
  simp [this]
 rw [this];rfl
structure Tb (qs:108)(it:Nat)(h:Hh):Prop where
 nd:(qs.map (·.1)).Nodup
 st:h[it]?=some (.dK (tab qs))
theorem Tb.grow {qs:108}{it:Nat}{h J:Hh}(t:Tb qs it h):Tb qs it (h++J):=⟨t.nd,zf t.st⟩
theorem Tb.sub {qs:108}{it:Nat}{h:Hh}{n:Str}{d:D}(t:Tb qs it h)(hm:(n,d)∈qs):zC (.loc it) (.str n) h=.ok d h:=by
 simp only [zC,t.st,jZ,Option.bind,Jf t.nd hm]
theorem Tb.inn {qs:108}{it:Nat}{h:Hh}{n:Str}{d:D}(t:Tb qs it h)(hm:(n,d)∈qs):zy .In (.str n) (.loc it) h=.ok (.bl true) h:=by
 simp only [cmp_in,inD,t.st,jZ,Jf t.nd hm];rfl
theorem Tb.nin {qs:108}{it:Nat}{h:Hh}{n:Str}{d:D}(t:Tb qs it h)(hm:(n,d)∈qs):zy .NotIn (.str n) (.loc it) h=.ok (.bl false) h:=by
 simp only [cmp_notin,inD,t.st,jZ,Jf t.nd hm];rfl
theorem Tb.out {qs:108}{it:Nat}{h:Hh}{n:Str}(t:Tb qs it h)(hm:n∉qs.map (·.1)):zy .In (.str n) (.loc it) h=.ok (.bl false) h:=by
 simp only [cmp_in,inD,t.st,jZ,Y1 t.nd hm];rfl
noncomputable def dfD (f:Str)(ps:List D)(bd bo:D):D:=.tup [.str "def",.str f,.tup ps,bd,bo]
noncomputable def IsD (qs:108)(f:Str)(n:Nat)(b:Bool):Prop:=∃ ps bd bo,(f,dfD f ps bd bo)∈qs/\ps.length=n/\((b=false/\bd=.non)\/(b=true/\∃ x,bd=.str x))
noncomputable def IsH (qs:108)(f:Str):Prop:=∃ r,(f,.tup (.str "handler"::r))∈qs
noncomputable def wE:Option Str->Prop
 | none=>True
 | some x=>PyData.strOk x=true
theorem so2:∀ x∈(["def","handler","clause","end","free","handle","do"]:List Str),PyData.strOk x=true:=by decide +kernel
theorem jj:PyData.strOk "def"=true:=so2 _ 110
theorem yd:PyData.strOk "handler"=true:=so2 _ 110
theorem OJ:PyData.strOk "clause"=true:=so2 _ 110
theorem U3:PyData.strOk "end"=true:=so2 _ 110
theorem z1i:PyData.strOk "free"=true:=so2 _ 110
theorem yX:PyData.strOk "handle"=true:=so2 _ 110
theorem OK:PyData.strOk "var"=true:=so _ 110
theorem z9x {a:Str}{h:Hh}(ha:PyData.strOk a=true):zy .NotEq (.str a) .non h=.ok (.bl true) h:=if_pos ⟨ha,rfl,Y1h _⟩
theorem z9y {a:Str}{h:Hh}(ha:PyData.strOk a=true):zy .Eq (.str a) .non h=.ok (.bl false) h:=if_pos ⟨ha,rfl,Y1h _⟩
theorem G7 {a b:Bool}{h:Hh}:zy .NotEq (.bl a) (.bl b) h=.ok (.bl (!(a==b))) h:=rfl
theorem neB {a:Str}{b:XX}{h:Hh}(ha:PyData.strOk a=true)(hb:wE b):zy .NotEq (.str a) (zp b) h=.ok (.bl (!decide (b=some a))) h:=by
 cases b with
 | none=>rw [zp,z9x ha];simp
 | some x =>
  rw [zp,neS ha hb];by_cases z:a=x
  ·subst z;simp
  ·have z':¬ (x=a):=λ q=>z q.symm;simp [z,z']
theorem eqB {a:Str}{b:XX}{h:Hh}(ha:PyData.strOk a=true)(hb:wE b):zy .Eq (.str a) (zp b) h=.ok (.bl (decide (b=some a))) h:=by
 cases b with
 | none=>rw [zp,z9y ha];simp
 | some x =>
  rw [zp,eqS ha hb];by_cases z:a=x
  ·subst z;simp
  ·have z':¬ (x=a):=λ q=>z q.symm;simp [z,z']
section
variable {qs:108}{it:Nat}{h:Hh}
theorem df0 (f:Str)(ps:List D)(bd bo:D)(h:Hh):zC (dfD f ps bd bo) (.int 0) h=.ok (.str "def") h:=rfl
theorem df3 (f:Str)(ps:List D)(bd bo:D)(h:Hh):zC (dfD f ps bd bo) (.int 3) h=.ok bd h:=rfl
theorem z5i (cl:101)(t:Tb qs it h){f:Str}{n:Nat}{b:Bool}(hf:IsD qs f n b):d_is_function.run cl [.str f,.loc it] h=.ok (.bl true) h:=by
 obtain ⟨ps,bd,bo,hm,_,_⟩:=hf;have e1:=eqS (h:=h) jj jj;rw [beq_self_eq_true] at e1;exact ze (zk (zi (jD (z4 rfl rfl (t.inn hm)) (z4 (bnd (bnd rfl (bnd rfl (t.sub hm))) 112) rfl e1))))
noncomputable def C13 (cl:101):Prop:=∀ {qs:108}{it:Nat}{h:Hh},Tb qs it h->∀ {f:Str}{n:Nat}{b:Bool},IsD qs f n b->cl 13 [.str f,.loc it] h=.ok (.bl true) h
theorem OL (cl:101)(c13:C13 cl)(t:Tb qs it h){f:Str}(hf:IsD qs f 1 false):d_may_be_handed.run cl [.str f,.loc it] h=.ok (.bl true) h:=by
 have k:=c13 t hf;obtain ⟨ps,bd,bo,hm,hl,hb⟩:=hf;have hbd:bd=.non:=by rcases hb with ⟨_,z⟩ | ⟨z,_⟩;exact z;cases z
 subst hbd;have e1:zy .Eq (.int (ps.length:Nat)) (.int 1) h=.ok (.bl true) h:=by rw [eqI,hl];rfl
 exact ze (zk (zi (wy (bnd (bnd rfl (bnd rfl k)) rfl) (z4 (bnd (bnd (bnd rfl (bnd rfl (t.sub hm))) 112) rfl) rfl e1) (z4 (bnd (bnd rfl (bnd rfl (t.sub hm))) 112) rfl rfl))))
noncomputable def C14 (cl:101):Prop:=∀ {qs:108}{it:Nat}{h:Hh},Tb qs it h->∀ {f:Str},IsD qs f 1 false->cl 14 [.str f,.loc it] h=.ok (.bl true) h
noncomputable def qN (qs:108)(blk:XX)(f:Str)(o:XX)(n:Nat):Prop:=PyData.strOk f=true/\wE o /\
 ((blk=some f/\o=none/\n=1)\/(blk≠some f/\∃ b,IsD qs f n b/\match o with | none=>b=false | some x=>b=true/\(blk=some x\/IsD qs x 1 false)))
theorem z1j (cl:101)(c13:C13 cl)(c14:C14 cl)(t:Tb qs it h)(f:Str)(o blk:XX)(ps:List D)(hb:wE blk)(hc:qN qs blk f o ps.length) :
  d_check_call.run cl [.tup [.str "call",.str f,zp o,.tup ps],zp blk,.loc it] h=.ok .non h:=by
 obtain ⟨sf,so',hc⟩:=hc;have b1:=neB (h:=h) sf hb;have b2:=eqB (h:=h) sf hb;rcases hc with ⟨rfl,rfl,hn⟩ | ⟨hne,b,hd,ho⟩
 ·have e3:zy .NotEq (.int (ps.length:Nat)) (.int 1) h=.ok (.bl false) h:=by rw [neI,hn];rfl
  rw [decide_eq_true rfl] at b1 b2;exact j9 (zb rfl (zb rfl (za (zP (z4 rfl rfl b1)) (za (zP (z4 rfl rfl rfl)) (zb (bnd (zi (z4 rfl rfl b2)) rfl) (zb (zi (zP (z4 rfl rfl b1))) (za (z4 (zi (z4 rfl rfl rfl)) rfl G7) (za (z4 rfl rfl e3) rfl))))))))
 ·have k13:=c13 t hd;obtain ⟨qp,bd,bo,hm,hl,hbd⟩:=hd;rw [decide_eq_false hne] at b1 b2;have e3:zy .NotEq (.int (ps.length:Nat)) (.int (qp.length:Nat)) h=.ok (.bl false) h:=by rw [neI,hl,beq_self_eq_true];rfl
  cases o with
  | none =>
   have hbd':bd=.non:=by rcases hbd with ⟨_,z⟩ | ⟨z,_⟩;exact z;rw [show b=false from ho] at z;cases z
   subst hbd';exact j9 (zb rfl (zb rfl (za (jD (z4 rfl rfl b1) (bnd (bnd (bnd rfl (bnd rfl k13)) rfl) rfl)) (za (zP (z4 rfl rfl rfl)) 120))))
  | some x =>
   obtain ⟨hb1,hx⟩:=ho;obtain ⟨y,hy⟩:∃ y,bd=.str y:=by rcases hbd with ⟨z,_⟩ | ⟨_,z⟩;rw [hb1] at z;cases z;exact z
   subst hy;have b3:=neB (h:=h) (a:=x) so' hb;by_cases z:blk=some x
   ·rw [decide_eq_true z] at b3;exact j9 (zb rfl (zb rfl (za (jD (z4 rfl rfl b1) (bnd (bnd (bnd rfl (bnd rfl k13)) rfl) rfl)) (za (yV (z4 rfl rfl rfl) (z4 rfl rfl b3)) 120))))
   ·rw [decide_eq_false z] at b3;have k14:=c14 t (hx.resolve_left z);exact j9 (zb rfl (zb rfl (za (jD (z4 rfl rfl b1) (bnd (bnd (bnd rfl (bnd rfl k13)) rfl) rfl)) (za (wy (z4 rfl rfl rfl) (z4 rfl rfl b3) (bnd (bnd (bnd rfl (bnd rfl k14)) rfl) rfl)) 120))))
end
inductive Pl where
 | cl | en | fr
 deriving DecidableEq
noncomputable def Pl.s:Pl->Str
 | .cl=>"clause" | .en=>"end" | .fr=>"free"
theorem Pl.ok (p:Pl):PyData.strOk p.s=true:=by cases p;exact OJ;exact U3;exact z1i
structure Ct where
 kn:List Str
 pl:Pl
noncomputable def zJ (c:Ct):Kd->List G->List (G×Ct)
 | .lett x,[a,b]=>[(a,c),(b,⟨c.kn++[x],c.pl⟩)]
 | .handle _,[a,b]=>[(a,c),(b,⟨c.kn,.fr⟩)]
 | _,ps=>ps.map λ g=>(g,c)
noncomputable def wS (al:XU)(qs:108)(blk:XX)(c:Ct):Kd->Nat->Prop
 | .var x,_=>x∈c.kn
 | .call f o,n=>qN qs blk f o n
 | .handle x,_=>IsH qs x/\c.pl≠.en
 | .go,_=>c.pl=.cl
 | .lett x,_=>x∈al
 | _,_=>True
inductive Gd (al:XU)(qs:108)(blk:XX):Ct->G->Prop
 | mk (c:Ct) (k:Kd) (ps:List G):k.ok ps.length=true->wS al qs blk c k ps.length->(∀ q∈zJ c k ps,Gd al qs blk q.2 q.1)->Gd al qs blk c (.nd k ps)
noncomputable def knD (c:Ct):D:=.tup (c.kn.map .str)
noncomputable def zm (q:G×Ct):D:=.tup [q.1.d,knD q.2,.str q.2.pl.s]
theorem yz (c:Ct)(k:Kd)(ps:List G)(hk:k.ok ps.length=true):(zJ c k ps).map (·.1)=ps:=by
 unfold zJ
 split
 ·rfl
 ·rfl
 ·rw [Y16];exact List.map_id' _
theorem V0 (c:Ct)(k:Kd)(ps:List G):∀ q∈zJ c k ps,q.2.kn.length<=c.kn.length+1:=by
 unfold zJ
 split
 ·intro q hq;simp at hq;rcases hq with rfl | rfl<;>simp
 ·intro q hq;simp at hq;rcases hq with rfl | rfl<;>simp
 ·intro q hq;obtain ⟨g,_,rfl⟩:=Y0e.mp hq;simp
section
variable {al:XU}{qs:108}{it:Nat}{blk:XX}
theorem z7w {x:Str}{kn:XU}{h:Hh}(hx:x∈kn):zy .NotIn (.str x) (.tup (kn.map .str)) h=.ok (.bl false) h:=by
 have fl:(kn.map D.str).all yp=true:=by
  rw [Y14];intro d hd;obtain ⟨y,_,rfl⟩:=Y0e.mp hd;rfl
 have an:((kn.map D.str).any λ y=>eqV (vOf y) (vOf (.str x)))=true:=by
  rw [List.any_eq_true];exact ⟨.str x,Y0e.mpr ⟨x,hx,rfl⟩,by simp [vOf,eqV]⟩
 simp only [cmp_notin,inD,QP];rw [if_pos ⟨rfl,fl⟩,an];rfl
theorem z5j (cl:101){x:Str}{kn:XU}{h:Hh}(hx:x∈kn):d_check_variable.run cl [.str x,.tup (kn.map .str)] h=.ok .non h:=by
 exact j9 (za (z4 rfl rfl (z7w hx)) rfl)
theorem G8 (cl:101){h:Hh}(t:Tb qs it h){x:Str}{p:Pl}{a b:D}(hx:IsH qs x)(hp:p≠.en):d_check_handle.run cl [.tup [.str "handle",.str x,a,b],.str p.s,.loc it] h=.ok .non h:=by
 obtain ⟨r,hm⟩:=hx;have a1:∀ h,zC (.tup [.str "handle",.str x,a,b]) (.int 1) h=.ok (.str x) h:=λ _=>rfl;have a0:∀ h,zC (.tup (.str "handler"::r)) (.int 0) h=.ok (.str "handler") h:=λ h=>by rw [sub_tup,zY 102];rfl
 have e1:=neS (h:=h) yd yd;rw [beq_self_eq_true,Bool.not_true] at e1;have e2:=eqS (h:=h) p.ok U3;have e3:(p.s==("end":Str))=false:=by cases p<;>first | rfl | exact absurd rfl hp
 rw [e3] at e2;exact j9 (zb (bnd rfl (bnd rfl (a1 _))) (za (z5g (z4 rfl rfl (t.nin hm)) (z4 (bnd (bnd rfl (bnd rfl (t.sub hm))) (bnd rfl (a0 _))) rfl e1)) (za (z4 rfl rfl e2) rfl)))
noncomputable def C10 (cl:101):Prop:=∀ {x:Str}{kn:XU}{h:Hh},x∈kn->cl 10 [.str x,.tup (kn.map .str)] h=.ok .non h
noncomputable def C11 (cl:101):Prop:=∀ {qs:108}{it:Nat}{h:Hh},Tb qs it h->∀ {x:Str}{p:Pl}{a b:D},IsH qs x->p≠.en->cl 11 [.tup [.str "handle",.str x,a,b],.str p.s,.loc it] h=.ok .non h
noncomputable def C12 (cl:101):Prop:=∀ {qs:108}{it:Nat}{h:Hh},Tb qs it h->∀ (f:Str) (o blk:XX) (ps:List D),wE blk->qN qs blk f o ps.length->cl 12 [.tup [.str "call",.str f,zp o,.tup ps],zp blk,.loc it] h=.ok .non h
theorem V1 (k:Kd):(k.tag==("var":Str))=(match k with | .var _=>true | _=>false):=by cases k<;>rfl
noncomputable def Kd.isHd:Kd->Bool
 | .handle _=>true
 | _=>false
theorem yj (k:Kd):(k.tag==("handle":Str))=k.isHd:=by cases k<;>rfl
theorem yA {α:Type}:∀ {l:List α},l.length=2->∃ a b,l=[a,b]
 | [a,b],_=>⟨a,b,rfl⟩
theorem z1k {al:XU}(cl:101)(c10:C10 cl)(c11:C11 cl)(c12:C12 cl){h:Hh}(t:Tb qs it h)(hb:wE blk){c:Ct}{k:Kd}{ps:List G}(hk:k.ok ps.length=true)(hl:wS al qs blk c k ps.length) :
  d_check_expression.run cl [(G.nd k ps).d,knD c,.str c.pl.s,zp blk,.loc it] h=.ok .non h:=by
 have e0:=λ h=>Jb k (G.ds ps) h;rw [<- G.d] at e0;have e1:=λ h=>eqS (h:=h) (wf k) OK;have e2:=λ h=>eqS (h:=h) (wf k) WU;have e3:=λ h=>eqS (h:=h) (wf k) yX;have e4:=λ h=>eqS (h:=h) (wf k) z37;have e5:=λ h=>neS (h:=h) c.pl.ok OJ;rw [V1] at e1;rw [qK] at e2;rw [yj] at e3;rw [U1] at e4;cases k with
 | var x =>
  have a1:∀ h,zC (G.nd (.var x) ps).d (.int 1) h=.ok (.str x) h:=λ h=>by rw [G.d];simp only [Kd.enc];rw [sub_tup,zY 102];rfl
  exact j9 (wx (z4 107 rfl (e1 _)) (je (bnd (bnd rfl (bnd rfl (a1 _))) (bnd rfl (c10 hl))) rfl) (za (z4 107 rfl (e2 _)) (za (z4 107 rfl (e3 _)) (za (zP (z4 107 rfl (e4 _))) rfl))))
 | call f o =>
  have k1:=c12 t f o blk (G.ds ps) hb (by rw [qJ];exact hl);exact j9 (za (z4 107 rfl (e1 _)) (wx (z4 107 rfl (e2 _)) (je (bnd rfl (bnd rfl k1)) rfl) (za (z4 107 rfl (e3 _)) (za (zP (z4 107 rfl (e4 _))) rfl))))
 | handle x =>
  obtain ⟨a,b,rfl⟩:=yA (of_decide_eq_true hk);exact j9 (za (z4 107 rfl (e1 _)) (za (z4 107 rfl (e2 _)) (wx (z4 107 rfl (e3 _)) (je (bnd rfl (bnd rfl (c11 t (a:=a.d) (b:=b.d) hl.1 hl.2))) rfl) (za (zP (z4 107 rfl (e4 _))) rfl))))
 | go =>
  have hp:c.pl=.cl:=hl;rw [hp] at e5;rw [hp];exact j9 (za (z4 107 rfl (e1 _)) (za (z4 107 rfl (e2 _)) (za (z4 107 rfl (e3 _)) (za (jD (z4 107 rfl (e4 _)) (z4 rfl rfl (e5 _))) rfl))))
 | _=>exact j9 (za (z4 107 rfl (e1 _)) (za (z4 107 rfl (e2 _)) (za (z4 107 rfl (e3 _)) (za (zP (z4 107 rfl (e4 _))) rfl))))
end
noncomputable def V2 (cl:101):Prop:=∀ k ps h,cl 0 [(G.nd k ps).d] h=.ok (.tup (G.ds ps)) h
theorem wT:∀ {gs:List G}{g:G},g∈gs->g.size<=G.sizes gs
 | q::r,g,hm=>by
  rw [G.sizes];rcases Y03.mp hm with rfl | hm
  ·omega
  ·have:=wT hm;omega
theorem wl:∀ W:List G,W.length<=G.sizes W
 | []=>by simp
 | g::r=>by have:=yy g;have:=wl r;rw [G.sizes,Y0q];omega
theorem z1l (cl:101)(C0:V2 cl)(c:Ct)(k:Kd)(ps:List G)(h:Hh)(hk:k.ok ps.length=true)(hs:c.kn.length+(G.nd k ps).size<=1000000) :
  ∃ J n,d_inner.run cl [(G.nd k ps).d,knD c,.str c.pl.s] h=.ok (.loc n) (h++J)/\(h++J)[n]?=some (.lst ((zJ c k ps).map zm)):=by
 have e0:=λ h=>Jb k (G.ds ps) h;rw [<- G.d] at e0;have e1:=λ h=>eqS (h:=h) (wf k) z5h;have e2:=λ h=>eqS (h:=h) (wf k) yX;rw [UV] at e1;rw [yj] at e2;have c0:=C0 k ps h;have hl:ps.length<=1000000:=by have:=wl ps;rw [G.size] at hs;omega
 have gen:k.isLet=false->k.isHd=false->zJ c k ps=ps.map (λ g=>(g,c))->∃ J n,d_inner.run cl [(G.nd k ps).d,knD c,.str c.pl.s] h=.ok (.loc n) (h++J)/\(h++J)[n]?=some (.lst ((zJ c k ps).map zm)):=by
  intro z1 z2 z3;rw [z1] at e1;rw [z2] at e2;have key:=jo (c:=[]) (f:=zT G5 [none,some (knD c),some (.str c.pl.s)] (λ ρ' h2=>c_inner_1.evC cl ρ' h2) (λ ρ' h2=>e_inner_1.ev cl ρ' h2)) G.d (λ g=>zm (g,c)) (λ h'=>h'=h) (λ a b=>b=a) (λ _=>rfl) (λ a b d z w=>w.trans z) (λ _ _=>zg) ps [] h rfl (by
   rintro g hg h' rfl
   refine ⟨h',?_,rfl,rfl⟩;exact zZ rfl rfl rfl)
  obtain ⟨h',k1,k2,_⟩:=key;rw [k2,Y0l,<- we] at k1;refine ⟨[.lst ((zJ c k ps).map zm)],h.length,?_,by rw [hx0];rfl⟩;rw [z3,Y16];exact ze (za (z4 107 rfl (e1 _)) (za (z4 107 rfl (e2 _)) (zk (bnd (bnd (bnd (bnd rfl (bnd rfl c0)) rfl) ((if_pos (by rw [qJ];exact hl)).trans k1)) rfl))))
 cases k with
 | lett x =>
  obtain ⟨a,b,rfl⟩:=yA (of_decide_eq_true hk);have hk1:(c.kn.map D.str).length+1<=1000000:=by rw [Y09];exact Y0j (Nat.add_le_add_left (yy _) _) hs
  refine ⟨[.lst ((zJ c (.lett x) [a,b]).map zm)],h.length,?_,by rw [hx0];rfl⟩;have ek:(zJ c (.lett x) [a,b]).map zm=[zm (a,c),.tup [b.d,.tup (c.kn.map .str++[.str x]),.str c.pl.s]]:=by
   show [zm (a,c),.tup [b.d,.tup ((c.kn++[x]).map .str),.str c.pl.s]]=_;rw [Y0w];rfl
  rw [ek];exact ze (ji (z4 107 rfl (e1 _)) (zk (bnd (bnd (bnd rfl (bnd (bnd (bnd (bnd rfl (bnd (bnd (bnd rfl (bnd rfl (if_pos hk1))) 112) rfl)) rfl) 112) rfl)) rfl) rfl)))
 | handle x =>
  obtain ⟨a,b,rfl⟩:=yA (of_decide_eq_true hk);refine ⟨[.lst ((zJ c (.handle x) [a,b]).map zm)],h.length,?_,by rw [hx0];rfl⟩;exact ze (za (z4 107 rfl (e1 _)) (ji (z4 107 rfl (e2 _)) (zk rfl)))
 | _=>exact gen rfl rfl rfl
noncomputable def yB (cl:101):Prop:=∀ (c:Ct) (k:Kd) (ps:List G) (h:Hh),k.ok ps.length=true->c.kn.length+(G.nd k ps).size<=1000000 ->
 ∃ J n,cl 8 [(G.nd k ps).d,knD c,.str c.pl.s] h=.ok (.loc n) (h++J)/\(h++J)[n]?=some (.lst ((zJ c k ps).map zm))
noncomputable def Jg (cl:101):Prop:=∀ {al:XU}{qs:108}{it:Nat}{blk:XX}{h:Hh},Tb qs it h->wE blk->∀ {c:Ct}{k:Kd}{ps:List G},k.ok ps.length=true->wS al qs blk c k ps.length->cl 9 [(G.nd k ps).d,knD c,.str c.pl.s,zp blk,.loc it] h=.ok .non h
noncomputable def wsz (W:List (G×Ct)):Nat:=G.sizes (W.map (·.1))
theorem G9 (cl:101)(C8:yB cl)(C9:Jg cl){qs:108}{it:Nat}{blk:XX}{h:Hh}(t:Tb qs it h)(hb:wE blk)(d0 d1 d2:D) :
  ∀ (n:Nat) (W:List (G×Ct)) (J:Hh) (one:Option D),wsz W<=n->(∀ q∈W,Gd al qs blk q.2 q.1/\q.2.kn.length+q.1.size<=1000000)->wsz W<=1000000 ->
  ∃ one' J',whR (λ ρ h=>w_check_body_1.evT cl ρ h) (λ ρ h=>b_check_body_1.run cl ρ h) [some d0,some d1,some d2,some (zp blk),some (.loc it),some 115,one] (h++.lst (W.map zm)::J)=.nx [some d0,some d1,some d2,some (zp blk),some (.loc it),some 115,one'] (h++J'):=by
 intro n
 induction n with
 | zero =>
  intro W J one hn hg hl
  have:W=[]:=by
   cases W with
   | nil=>rfl
   | cons g r=>have:=yy g.1;rw [wsz,Y0i,G.sizes] at hn;omega
  subst this;refine ⟨one,.lst []::J,?_⟩;rw [QR (h1:=h++.lst []::J)]
  (show E.evT cl (.cmpN true (.var 5 _) _ _) _ _=_);simp [E.evT,Zp,QX,ZW,Zq,rd,hx0]
 | succ n ih =>
  intro W J one hn hg hl;rcases Y33 W with rfl | ⟨W',q,rfl⟩
  ·refine ⟨one,.lst []::J,?_⟩;rw [QR (h1:=h++.lst []::J)]
   (show E.evT cl (.cmpN true (.var 5 _) _ _) _ _=_);simp [E.evT,Zp,QX,ZW,Zq,rd,hx0]
  ·rw [Y34] at *
   obtain ⟨g,c⟩:=q;have hq:=hg (g,c) 110;obtain ⟨gd,hz⟩:=hq;cases gd with
   | mk c' k ps hk hl1 hkids =>
    have hz':c.kn.length+(G.nd k ps).size<=1000000:=hz;have es:wsz (W'++[(G.nd k ps,c)])=wsz W'+1+G.sizes ps:=by
     unfold wsz;rw [Y0w,zN,Y0i,Y2m,G.sizes,G.sizes,G.size];omega
    have kf:=yz c k ps hk;have es2:wsz (W'++(zJ c k ps).reverse)=wsz W'+G.sizes ps:=by
     unfold wsz;rw [Y0w,zN,Y2v,kf]
     have:∀ l:List G,G.sizes l.reverse=G.sizes l:=λ l=>by
      induction l with
      | nil=>rfl
      | cons g r ih=>rw [Y20,zN,ih,G.sizes,G.sizes,G.sizes];omega
     rw [this]
    have klen:(zJ c k ps).length=ps.length:=by
     have:=congrArg List.length kf
     simpa using this
    have k9:=C9 (h:=h++.lst (W'.map zm)::J) (t.grow) hb hk hl1;obtain ⟨J1,m,k8,a8⟩:=C8 c k ps (h++.lst (W'.map zm)::J) hk hz';have wl1:W'.length<=wsz W':=by have:=wl (W'.map (·.1));simpa [wsz] using this
    have wl2:=wl ps;have f2:W'.length+(zJ c k ps).length<=1000000:=by rw [klen];omega
    obtain ⟨one',J',e⟩:=ih (W'++(zJ c k ps).reverse) (J++(J1++[.lst ((zJ c k ps).map zm).reverse])) (some (zm (G.nd k ps,c))) 103 (λ q hq=>by
     rcases Y0p.mp hq with hq | hq
     ·exact hg q (by simp [hq])
     ·have hq':=Y2i.mp hq;refine ⟨hkids q hq',?_⟩;have s1:=V0 c k ps q hq';have s2:q.1.size<=G.sizes ps:=wT (by rw [<- kf];exact Y0e.mpr ⟨q,hq',rfl⟩);rw [G.size] at hz';omega) 103
    refine ⟨one',J',?_⟩;have ec:w_check_body_1.evT cl [some d0,some d1,some d2,some (zp blk),some (.loc it),some 115,one] (h++.lst ((W'++[(G.nd k ps,c)]).map zm)::J)=.ok true (h++.lst ((W'++[(G.nd k ps,c)]).map zm)::J):=by
     (show E.evT cl (.cmpN true (.var 5 _) _ _) _ _=_);simp [E.evT,Zp,QX,ZW,Zq,rd,hx0]
    rw [QQ ec (ρ':=[some d0,some d1,some d2,some (zp blk),some (.loc it),some 115,some (zm (G.nd k ps,c))]) (h':=h++.lst ((W'++(zJ c k ps).reverse).map zm)::(J++(J1++[.lst ((zJ c k ps).map zm).reverse]))),e];have r8:rd (h++O.lst (W'.map zm)::(J++J1)) m=some ((zJ c k ps).map zm):=zO (by simpa using a8);simp only [Y07,Y1k] at k8;generalize hE:(zJ c k ps).map zm=Kd1 at r8 ⊢;have lK:Kd1.length=(zJ c k ps).length:=by rw [<- hE];simp
    have mp:m0D .pop 115 (h++.lst ((W'++[(G.nd k ps,c)]).map zm)::J)=.ok (zm (G.nd k ps,c)) (h++.lst (W'.map zm)::J):=by
     simp [m0D,hx0,yt]
    have gN:(h++O.lst (W'.map zm)::(J++J1)++[O.lst Kd1.reverse])[(h++O.lst (W'.map zm)::(J++J1)).length]?=some (.lst Kd1.reverse):=by rw [hx0];rfl
    have oL:∀ (J:Hh) (r:Res D),onL 115 (h++O.lst (W'.map zm)::J) r=r:=λ J r=>by simp only [onL,hx0];rfl
    have me:m1D .extend 115 (.loc (h++O.lst (W'.map zm)::(J++J1)).length) (h++O.lst (W'.map zm)::(J++J1)++[O.lst Kd1.reverse])=.ok .non (h++.lst (W'.map zm++Kd1.reverse)::(J++(J1++[.lst Kd1.reverse]))):=by
     have g0:(h++O.lst (W'.map zm)::(J++J1)++[O.lst Kd1.reverse])[h.length]?=some (.lst (W'.map zm)):=by rw [Y07,hx0];rfl
     simp only [m1D,g0,gN];rw [if_pos (by simp [lK];exact f2)];rw [Y07,yt];simp
    have mr:(W'++(zJ c k ps).reverse).map zm=W'.map zm++Kd1.reverse:=by rw [Y0w,Y2v,hE]
    rw [mr];have lr:lrD (.loc m) (h++O.lst (W'.map zm)::(J++J1))=.ok (.loc (h++O.lst (W'.map zm)::(J++J1)).length) (h++O.lst (W'.map zm)::(J++J1)++[O.lst Kd1.reverse]):=by simp only [lrD,r8];rfl
    exact zb (bnd rfl mp) (je (bnd rfl (bnd rfl k9)) (je (bnd rfl ((oL _ _).trans (bnd (bnd (bnd rfl (bnd rfl k8)) lr) me))) rfl))
theorem z5k {cl:101}{w:E}{bb r:Ss}{p:Pos}{ρ ρ':En}{h h':Hh}{o:RS}(hw:whR (λ ρ h=>w.evT cl ρ h) (λ ρ h=>bb.run cl ρ h) ρ h=.nx ρ' h')(k:Ss.run cl r ρ' h'=o):Ss.run cl (.cons (.whil w bb p) r) ρ h=o:=by
 show j8 (whR _ _ ρ h) 122=_;rw [hw];exact k
theorem z1m {al:XU}(cl:101)(C8:yB cl)(C9:Jg cl){qs:108}{it:Nat}{blk:XX}{h:Hh}(t:Tb qs it h)(hb:wE blk){c:Ct}{g:G}(hg:Gd al qs blk c g)(hz:c.kn.length+g.size<=1000000) :
  ∃ J,d_check_body.run cl [g.d,knD c,.str c.pl.s,zp blk,.loc it] h=.ok .non (h++J):=by
 obtain ⟨o,J',e⟩:=G9 cl C8 C9 t hb g.d (knD c) (.str c.pl.s) g.size [(g,c)] [] none (by simp [wsz,G.sizes]) (by simp;exact ⟨hg,hz⟩) (by simp [wsz,G.sizes];omega);refine ⟨J',?_⟩;exact j9 (zb rfl (z5k e rfl))
noncomputable def kv (xs:XU):List (Key×D):=xs.map λ x=>((Sum.inr x:Key),D.bl true)
theorem V3 {xs:XU}{x:Str}(hx:x∉xs):wv (kv xs) (Sum.inr x)=none/\ZU (kv xs) (Sum.inr x) (.bl true)=kv (xs++[x]):=by
 have h1:∀ k∈kv xs,decide (k.1=(Sum.inr x:Key))=false:=by
  intro k hk;obtain ⟨y,hy,rfl⟩:=Y0e.mp hk
  have:y≠x:=λ z=>hx (z▸hy)
  simp [this]
 constructor
 ·unfold wv
  have:(kv xs).find? (λ kv=>decide (kv.1=Sum.inr x))=none:=by
   rw [List.find?_eq_none];intro k hk;rw [h1 k hk];decide
  rw [this];rfl
 ·unfold ZU
  have:((kv xs).any λ kv=>decide (kv.1=Sum.inr x))=false:=by
   rw [Y3e];intro k hk;rw [h1 k hk];decide
  rw [if_neg (by rw [this];decide)];simp [kv]
theorem WV (cl:101)(c:Ck)(h:Hh)(hc:∀ o,stay c (h++[o]))(d0:D):∀ (xs seen:XU) (nm:Option D),(seen++xs).Nodup->(seen++xs).length<=1000 ->
  ∃ nm',jg c (zU jh λ ρ' h'=>b_refuse_twice_1.run cl ρ' h') (xs.map .str) [some d0,some 115,nm] (h++[.dK (kv seen)])=.nx [some d0,some 115,nm'] (h++[.dK (kv (seen++xs))])
 | [],seen,nm,_,_=>⟨nm,by simp [jg,hc]⟩
 | x::r,seen,nm,hn,hl=>by
  have hx:x∉seen:=by
   intro z;rw [Y2s] at hn;exact hn.2.2 x z x (Y06 ..) rfl
  obtain ⟨k1,k2⟩:=V3 hx;obtain ⟨nm',e⟩:=WV cl c h hc d0 r (seen++[x]) (some (.str x)) (by simpa using hn) (by simpa using hl);refine ⟨nm',?_⟩;have g0:(h++[O.dK (kv seen)])[h.length]?=some (.dK (kv seen)):=by rw [hx0];rfl
  have hl1:(kv seen).length<1000000:=by
   simp only [kv,Y09];simp at hl;omega
  have i1:zy .In (.str x) 115 (h++[O.dK (kv seen)])=.ok (.bl false) (h++[O.dK (kv seen)]):=by
   simp only [cmp_in,inD,g0,jZ,k1];rfl
  have p1:yq 115 (.str x) (.bl true) (h++[O.dK (kv seen)])=some (h++[.dK (kv (seen++[x]))]):=by
   simp only [yq,g0,jZ,Option.bind];rw [if_pos hl1,k2,yt];rfl
  have step:zU jh (λ ρ' h'=>b_refuse_twice_1.run cl ρ' h') (.str x) [some d0,some 115,nm] (h++[.dK (kv seen)])=.nx [some d0,some 115,some (.str x)] (h++[.dK (kv (seen++[x]))]):=by
   exact za (z4 rfl rfl i1) (UT rfl rfl rfl p1 rfl)
  rw [Y07] at e;exact yu (hc _) step e
noncomputable def Y2 (cl:101):Prop:=∀ (xs:XU) (h:Hh),xs.Nodup->xs.length<=1000->(∃ J,cl 3 [.tup (xs.map .str)] h=.ok .non (h++J))/\(∀ n,h[n]?=some (.lst (xs.map .str))->∃ J,cl 3 [.loc n] h=.ok .non (h++J))
theorem z1n (cl:101)(xs:XU)(h:Hh)(hn:xs.Nodup)(hl:xs.length<=1000):(∃ J,d_refuse_twice.run cl [.tup (xs.map .str)] h=.ok .non (h++J))/\(∀ n,h[n]?=some (.lst (xs.map .str))->∃ J,d_refuse_twice.run cl [.loc n] h=.ok .non (h++J)):=by
 constructor
 ·obtain ⟨nm',e⟩:=WV cl [] h (λ _=>zg) (.tup (xs.map .str)) xs [] none (by simpa using hn) (by simpa using hl);refine ⟨[.dK (kv xs)],?_⟩;rw [Y0l,show kv []=[] from rfl] at e;exact j9 (zb rfl (qm rfl e rfl))
 ·intro n en;have rr:∀ o,rd (h++[o]) n=some (xs.map .str):=λ o=>zO (zf en);obtain ⟨nm',e⟩:=WV cl [(n,xs.map .str)] h (λ o=>stay_one.mpr (rr o)) (.loc n) xs [] none (by simpa using hn) (by simpa using hl);refine ⟨[.dK (kv xs)],?_⟩;rw [Y0l,show kv []=[] from rfl] at e;exact j9 (zb rfl (qm (yv rfl (rr _)) e rfl))
noncomputable def U4 (cl:101):Prop:=∀ {al:XU}{qs:108}{it:Nat}{blk:XX}{h:Hh},Tb qs it h->wE blk->∀ {c:Ct}{g:G},Gd al qs blk c g->c.kn.length+g.size<=1000000->∃ J,cl 7 [g.d,knD c,.str c.pl.s,zp blk,.loc it] h=.ok .non (h++J)
noncomputable def yC (x s:Str)(g:G):D:=.tup [.str x,.str s,g.d]
structure AnsG (al:XU)(qs:108)(p:Pl)(x s:Str)(g:G):Prop where
 ne:x≠s
 gd:Gd al qs none ⟨[x,s],p⟩ g
 sz:Sz g
 xa:x∈al
 sa:s∈al
theorem OM {al:XU}(cl:101)(c3:Y2 cl)(c7:U4 cl){qs:108}{it:Nat}{h:Hh}(t:Tb qs it h){p:Pl}{x s:Str}{g:G}(ha:AnsG al qs p x s g) :
  ∃ J,d_check_answer.run cl [yC x s g,.str p.s,.loc it] h=.ok .non (h++J):=by
 obtain ⟨J1,k1⟩:=(c3 [x,s] h (by simp [ha.ne]) 110).1;obtain ⟨J2,k2⟩:=c7 (t.grow (J:=J1)) (blk:=none) trivial ha.gd (by have:=ha.sz.1;simp;omega);refine ⟨J1++J2,?_⟩;have ct:j4 (yC x s g) none (some 2) h=.ok (.tup [.str x,.str s]) h:=by
  unfold yC;simp only [j4];rw [if_neg]
  ·rfl
  ·intro q
   have:=q.2
   rw [zG _ _ _ 102] at this;simp at this
 rw [<- Y07];exact j9 (zb (bnd rfl (bnd rfl (bnd rfl ct))) (je (bnd rfl (bnd rfl k1)) (je (bnd rfl (bnd rfl k2)) rfl)))
structure Cl where
 d:Str
 x:Str
 s:Str
 g:G
noncomputable def Cl.D (q:Cl):D:=.tup [.str q.d,.str q.x,.str q.s,q.g.d]
inductive Itm where
 | fn (f:Str) (ps:XU) (b:XX) (g:G)
 | hd (n:Str) (cs:List Cl) (x s:Str) (e:G)
noncomputable def Itm.nm:Itm->Str
 | .fn f _ _ _=>f
 | .hd n _ _ _ _=>n
noncomputable def Itm.d:Itm->D
 | .fn f ps b g=>dfD f (ps.map .str) (zp b) g.d
 | .hd n cs x s e=>.tup [.str "handler",.str n,.tup (cs.map Cl.D),yC x s e]
noncomputable def Itm.good (al:XU)(qs:108):Itm->Prop
 | .fn f ps b g=>(ps++b.toList).Nodup/\ps.length<=900/\wE b/\(∀ x,b=some x->x∉qs.map (·.1))/\Gd al qs b ⟨ps,.fr⟩ g/\Sz g
 | .hd n cs x s e=>(cs.map Cl.d).Nodup/\cs.length<=900/\(∀ q∈cs,AnsG al qs .cl q.x q.s q.g)/\AnsG al qs .en x s e
noncomputable def Y3 (cl:101):Prop:=∀ {al:XU}{qs:108}{it:Nat}{h:Hh},Tb qs it h->∀ {p:Pl}{x s:Str}{g:G},AnsG al qs p x s g->∃ J,cl 6 [yC x s g,.str p.s,.loc it] h=.ok .non (h++J)
theorem z5l {al:XU}(cl:101)(c3:Y2 cl)(c7:U4 cl){qs:108}{it:Nat}{h:Hh}(t:Tb qs it h){f:Str}{ps:XU}{b:XX}{g:G}(hg:(Itm.fn f ps b g).good al qs) :
  ∃ J,d_check_function.run cl [(Itm.fn f ps b g).d,.loc it] h=.ok .non (h++J):=by
 obtain ⟨g1,g2,g3,g4,g5,g6⟩:=hg;cases b with
 | none =>
  obtain ⟨J1,k1⟩:=(c3 ps h (by simpa using g1) 103).1;obtain ⟨J2,k2⟩:=c7 (t.grow (J:=J1)) (blk:=none) trivial g5 (by show ps.length+g.size<=_;have:=g6.1;omega);refine ⟨J1++J2,?_⟩;rw [<- Y07];exact j9 (zb rfl (zb rfl (wx (z4 rfl rfl rfl) (je (bnd rfl (bnd rfl k1)) rfl) (je (bnd rfl (bnd rfl k2)) rfl))))
 | some x =>
  obtain ⟨J1,k1⟩:=(c3 (ps++[x]) h (by simpa using g1) 121).1;obtain ⟨J2,k2⟩:=c7 (t.grow (J:=J1)) (blk:=some x) g3 g5 (by show ps.length+g.size<=_;have:=g6.1;omega);have ot:=(t.grow (J:=J1)).out (g4 x rfl);refine ⟨J1++J2,?_⟩;rw [Y0w] at k1;have ad:∀ h,zw .Add (.tup (ps.map .str)) (.tup [.str x]) h=.ok (.tup (ps.map .str++[.str x])) h:=λ h=>by rw [bin_addt,if_pos 121]
  rw [<- Y07];exact j9 (zb rfl (zb rfl (ya (z4 rfl rfl rfl) (je (bnd (bnd rfl (bnd rfl (ad _))) (bnd rfl k1)) (za (z4 rfl rfl ot) rfl)) (je (bnd rfl (bnd rfl k2)) rfl))))
theorem WW {al:XU}(cl:101)(c6:Y3 cl){qs:108}{it:Nat}(d0:D):∀ (cs:List Cl) (nm:Option D) (h:Hh),Tb qs it h->(∀ q∈cs,AnsG al qs .cl q.x q.s q.g) ->
  ∃ nm' J,jg [] (zU jc λ ρ' h'=>b_check_handler_1.run cl ρ' h') (cs.map Cl.D) [some d0,some (.loc it),nm] h=.nx [some d0,some (.loc it),nm'] (h++J)
 | [],nm,h,_,_=>⟨nm,[],by simp [jg,zg]⟩
 | q::r,nm,h,t,hq=>by
  obtain ⟨J1,k1⟩:=c6 t (hq q (Y06 ..));obtain ⟨nm',J2,e⟩:=WW cl c6 d0 r (some q.D) (h++J1) t.grow λ z hz=>hq z (Y04 _ hz);refine ⟨nm',J1++J2,?_⟩;have ct:j4 q.D (some 1) none h=.ok (yC q.x q.s q.g) h:=by unfold Cl.D;exact Jc _ _ _
  have step:zU jc (λ ρ' h'=>b_check_handler_1.run cl ρ' h') q.D [some d0,some (.loc it),nm] h=.nx [some d0,some (.loc it),some q.D] (h++J1):=by
   exact je (bnd (bnd rfl (bnd rfl (bnd rfl ct))) (bnd rfl k1)) rfl
  rw [Y07] at e;exact yu zg step e
theorem z7x {al:XU}(cl:101)(c3:Y2 cl)(c6:Y3 cl){qs:108}{it:Nat}{h:Hh}(t:Tb qs it h){n:Str}{cs:List Cl}{x s:Str}{e:G}(hg:(Itm.hd n cs x s e).good al qs) :
  ∃ J,d_check_handler.run cl [(Itm.hd n cs x s e).d,.loc it] h=.ok .non (h++J):=by
 obtain ⟨g1,g2,g3,g4⟩:=hg;obtain ⟨h',k0,kk,_⟩:=jo (c:=[]) (f:=zT jE [none] (λ ρ' h2=>c_check_handler_2.evC cl ρ' h2) (λ ρ' h2=>e_check_handler_2.ev cl ρ' h2)) Cl.D (λ q=>D.str q.d) (λ h'=>h'=h) (λ a b=>b=a) (λ _=>rfl) (λ a b d z w=>w.trans z) (λ _ _=>zg) cs [] h rfl (by
  rintro q hq h' rfl
  refine ⟨h',?_,rfl,rfl⟩;exact zZ rfl rfl rfl)
 rw [kk,Y0l] at k0;have km:(cs.map λ q=>D.str q.d)=(cs.map Cl.d).map .str:=by rw [Y16];rfl
 rw [km] at k0;obtain ⟨J1,k1⟩:=(c3 (cs.map Cl.d) (h++[.lst ((cs.map Cl.d).map .str)]) g1 121).2 h.length (by rw [hx0];rfl);obtain ⟨nm',J2,k2⟩:=WW cl c6 (Itm.hd n cs x s e).d cs none (h++[.lst ((cs.map Cl.d).map .str)]++J1) (t.grow.grow) g3;obtain ⟨J3,k3⟩:=c6 (t.grow.grow.grow:Tb qs it (h++[.lst ((cs.map Cl.d).map .str)]++J1++J2)) g4;refine ⟨[.lst ((cs.map Cl.d).map .str)]++J1++J2++J3,?_⟩;rw [<- Y07,<- Y07,<- Y07];exact j9 (je (bnd (zQ (q:=([],cs.map Cl.D)) rfl (by rw [Y09];exact Y0j g2 102) k0) (bnd rfl k1)) (qm (q:=([],cs.map Cl.D)) rfl k2 (je (bnd rfl (bnd rfl k3)) rfl)))
noncomputable def zV (is:List Itm):List (Str×D):=is.map λ i=>(i.nm,i.d)
noncomputable def wm (q:Str×D):D:=.tup [.str q.1,q.2]
theorem Y4:∀ qs:List (Str×D),qf (qs.map wm)=some (qs.map λ q=>(Sum.inr q.1,q.2))
 | []=>rfl
 | q::r=>by rw [Y0i,qf,Y4 r];rfl
theorem ON (i:Itm)(h:Hh):zC i.d (.int 1) h=.ok (.str i.nm) h:=by cases i<;>rfl
theorem z1o (cl:101)(is:List Itm)(h:Hh)(hl:is.length<=1000) :
  d_items_by_name.run cl [.tup (is.map Itm.d)] h=.ok (.loc (h.length+1)) (h++[.lst ((zV is).map wm),.dK (tab (zV is))]):=by
 obtain ⟨h',k1,k2,_⟩:=jo (c:=[]) (f:=zT yx [none] (λ ρ' h2=>c_items_by_name_1.evC cl ρ' h2) (λ ρ' h2=>e_items_by_name_1.ev cl ρ' h2)) Itm.d (λ i=>wm (i.nm,i.d)) (λ h'=>h'=h) (λ a b=>b=a) (λ _=>rfl) (λ a b d z w=>w.trans z) (λ _ _=>zg) is [] h rfl (by
  rintro i hm h2 rfl
  refine ⟨h2,?_,rfl,rfl⟩;exact zZ rfl rfl (bnd (bnd (bnd rfl (bnd rfl (ON i _))) 112) rfl))
 rw [k2,Y0l] at k1;have km:(is.map λ i=>wm (i.nm,i.d))=(zV is).map wm:=by unfold zV;rw [Y16];rfl
 rw [km] at k1;have l1:(is.map Itm.d).length<=1000000:=by simp;omega
 have l2:((zV is).map wm).length<=1000000:=by simp [zV];omega
 have r1:rd (h++[O.lst ((zV is).map wm)]) h.length=some ((zV is).map wm):=by rw [Zq];rfl
 have dp:QT 115 (h++[O.lst ((zV is).map wm)])=.ok (.loc (h.length+1)) (h++[.lst ((zV is).map wm),.dK (tab (zV is))]):=by
  simp only [QT,r1];rw [if_pos l2,Y4];simp [new,tab]
 exact ze (zk (bnd (zQ (q:=([],is.map Itm.d)) rfl l1 k1) dp))
noncomputable def C1 (cl:101):Prop:=∀ (is:List Itm) (h:Hh),is.length<=1000->cl 1 [.tup (is.map Itm.d)] h=.ok (.loc (h.length+1)) (h++[.lst ((zV is).map wm),.dK (tab (zV is))])
noncomputable def C4 (cl:101):Prop:=∀ {al:XU}{qs:108}{it:Nat}{h:Hh},Tb qs it h->∀ {f:Str}{ps:XU}{b:XX}{g:G},(Itm.fn f ps b g).good al qs->∃ J,cl 4 [(Itm.fn f ps b g).d,.loc it] h=.ok .non (h++J)
noncomputable def C5 (cl:101):Prop:=∀ {al:XU}{qs:108}{it:Nat}{h:Hh},Tb qs it h->∀ {n:Str}{cs:List Cl}{x s:Str}{e:G},(Itm.hd n cs x s e).good al qs->∃ J,cl 5 [(Itm.hd n cs x s e).d,.loc it] h=.ok .non (h++J)
noncomputable def j6 (ns:List Int)(k:Int):Int :=
 let w:=if 0<(ns.length:Int) then (Wi ns (k%(ns.length:Int))*48271+7919*k)%2147483647 else (7919*k+5)%2147483647
 w*w%2147483629
theorem OO (ns:List Int)(k:Int):0<=j6 ns k/\j6 ns k<2147483629:=by unfold j6;simp only;constructor<;>omega
theorem z5m (cl:101)(h:Hh)(ns:List Int)(k:Int)(hk:0<=k/\k<1000)(hb:∀ n∈ns,jR n=true):d_law_cell.run cl [.fl (ns.map .int),.int k] h=.ok (.int (j6 ns k)) h:=by
 have fk:jR k=true:=qW 103;have f1:jR (7919:Int)=true:=by decide
 have f2:jR (48271:Int)=true:=by decide
 have sq:∀ n:Int,jR (n%2147483647)=true:=λ n=>qW 103;have ln:yh (.fl (ns.map .int)) h=.ok (.int (ns.length:Nat)) h:=by rw [len_fl,Y09]
 have fin:∀ (w:Int) {a1 a2 a3 a4 a5 a6 a7 a8 a9 b1 b2:Pos},Ss.run cl (.cons (.set 2 (.bin .Mod (.var 2 a1) (.int 2147483647 a2) a3) a4 a5) (.cons (.ret (.bin .Mod (.bin .Mult (.var 2 a6) (.var 2 a7) a8) (.int 2147483629 a9) b1) b2) .nil)) [some (.fl (ns.map .int)),some (.int k),some (.int w)] h=.rt (.int (w%2147483647*(w%2147483647)%2147483629)) h:=λ w=>zb (bnd rfl (bnd rfl mdk)) (zk (bnd (bnd rfl (bnd rfl (mlk (sq _) (sq _)))) (bnd rfl mdk)));unfold j6;by_cases hl:0<(ns.length:Int)
 ·have am:=z5b ns (k%(ns.length:Int)) (Y18 _ (Int.ne_of_gt hl)) (Y17 _ hl);have fc:=G3 hb (k%(ns.length:Int));have sb:zC (.fl (ns.map .int)) (.int (k%(ns.length:Int))) h=.ok (.int (Wi ns (k%(ns.length:Int)))) h:=by rw [sub_fl,am]
  rw [if_pos hl];exact ze (zb (bnd (bnd rfl (bnd rfl (mlk f1 fk))) 112) (wx (z4 (bnd rfl ln) rfl (decide_eq_true hl▸rfl)) (zb (bnd (bnd (bnd rfl (bnd (bnd rfl (bnd (bnd rfl ln) (mdk hl))) sb)) (bnd rfl (mlk fc f2))) (bnd (bnd rfl (bnd rfl (mlk f1 fk))) rfl)) rfl) (fin _)))
 ·rw [if_neg hl];exact ze (zb (bnd (bnd rfl (bnd rfl (mlk f1 fk))) 112) (za (z4 (bnd rfl ln) rfl (decide_eq_false hl▸rfl)) (fin _)))
noncomputable def Feed (nf:Nat)(h:Hh):Prop:=∃ xs:List Int,h[nf]?=some (.lst (xs.map D.int))/\(∀ x∈xs,jR x=true)/\xs.length<=40
noncomputable def Mv (nf:Nat)(h h':Hh):Prop:=h.length<=h'.length/\∀ n o,n≠nf->h[n]?=some o->h'[n]?=some o
theorem Mv.refl (nf:Nat)(h:Hh):Mv nf h h:=⟨Y0a _,λ _ _ _ e=>e⟩
theorem Mv.trans (nf:Nat)(a b d:Hh)(x:Mv nf a b)(y:Mv nf b d):Mv nf a d:=⟨Y0j x.1 y.1,λ n o hn e=>y.2 n o hn (x.2 n o hn e)⟩
theorem Mv.gr (nf:Nat)(h J:Hh):Mv nf h (h++J):=⟨by simp,λ n o _ e=>zf e⟩
theorem Feed.gr {nf:Nat}{h:Hh}(f:Feed nf h)(J:Hh):Feed nf (h++J):=by obtain ⟨xs,e,r⟩:=f;exact ⟨xs,zf e,r⟩
theorem z5n (cl:101)(nf:Nat)(h:Hh)(f:Feed nf h):∃ v h',d_law_next.run cl [.loc nf] h=.ok (.int v) h'/\Feed nf h'/\Mv nf h h'/\0<=v/\v<2147483647:=by
 obtain ⟨xs,e,hf,hl⟩:=f;have hn:nf<h.length:=(Y02.mp e).1;have r1:=zO e;rcases Y33 xs with rfl | ⟨ys,y,rfl⟩
 ·refine ⟨0,h,?_,⟨[],e,by simp,by simp⟩,Mv.refl _ _,by omega,by omega⟩;have ln:yh (.loc nf) h=.ok (.int 0) h:=by rw [len_loc,r1];rfl
  exact ze (za (z4 (bnd rfl ln) rfl rfl) (zk rfl))
 ·rw [Y34] at *
  have fy:jR y=true:=hf y 110;have f2:jR (48271:Int)=true:=by decide
  have f1:jR (7919:Int)=true:=by decide
  have hl2:ys.length<=40:=by simp at hl;omega
  have f3:jR (ys.length:Int)=true:=qW 103;refine ⟨(y*48271+7919*(ys.length:Int))%2147483647,h.set nf (.lst (ys.map D.int)),?_,⟨ys,Y0r hn,λ x hx=>hf x (by simp [hx]),hl2⟩,⟨by simp,λ n o hne eo=>by rw [Y0h (Ne.symm hne)];exact eo⟩,by omega,by omega⟩;have r2:rd (h.set nf (.lst (ys.map D.int))) nf=some (ys.map D.int):=zO (Y0r hn);have e':h[nf]?=some (.lst (ys.map D.int++[.int y])):=by rw [e];simp
  have ln:yh (.loc nf) h=.ok (.int ((ys.length+1:Nat):Int)) h:=by rw [len_loc,zO e',<- Y09 (as:=ys) D.int];simp only [Y0k];rfl
  have ln2:yh (.loc nf) (h.set nf (.lst (ys.map D.int)))=.ok (.int (ys.length:Nat)) (h.set nf (.lst (ys.map D.int))):=by rw [len_loc,r2];simp only [Y09]
  have pp:m0D .pop (.loc nf) h=.ok (.int y) (h.set nf (.lst (ys.map D.int))):=by simp [m0D,e']
  have pos:decide ((0:Int)<((ys.length+1:Nat):Int))=true:=decide_eq_true (Y3h.mpr (Nat.succ_pos _));exact ze (ji (z4 (bnd rfl ln) rfl (pos▸rfl)) (zk (bnd (bnd (bnd (bnd rfl pp) (bnd rfl (mlk fy f2))) (bnd (bnd rfl (bnd (bnd rfl ln2) (mlk f1 f3))) rfl)) (bnd rfl mdk))))
theorem OP (p n:Nat)(h:p<=n):Builtin.Str.strSliceIndices (some (p:Int)) none 1 n=(List.range (n-p)).map (p+·):=by
 unfold Builtin.Str.strSliceIndices;simp only [show (1:Int) > 0 by decide,if_true];rw [if_neg 103]
 have:max 0 (min (p:Int) (n:Int))=(p:Int):=by omega
 rw [this];exact sliceRange_one p n
theorem z5o (p n:Nat)(h:p<=n):Builtin.Str.strSliceIndices none (some (p:Int)) 1 n=(List.range p).map (0+·):=by
 unfold Builtin.Str.strSliceIndices;simp only [show (1:Int) > 0 by decide,if_true];rw [if_neg 103]
 have:max 0 (min (p:Int) (n:Int))=(p:Int):=by omega
 rw [this];exact sliceRange_one 0 p
theorem V4 {α β:Type}{f g:α->Option β}:∀ (l:List α),(∀ x∈l,f x=g x)->l.filterMap f=l.filterMap g
 | [],_=>rfl
 | x::r,h=>by rw [Y1p,Y1p,h x (Y06 ..),V4 r λ y hy=>h y (Y04 _ hy)]
theorem Wm (l:List Nat)(a k:Nat)(h:a+k<=l.length):((List.range k).map (a+·)).filterMap (l.toArray[·]?)=(l.drop a).take k:=by
 have e:((List.range k).map (a+·)).filterMap (l.toArray[·]?)=(List.range k).map λ i=>l.getD (a+i) 0:=by
  rw [Y2c,<- Y2h];apply V4;intro i hi
  have:=Y1a.mp hi
  simp only [Function.comp,List.getElem?_toArray];rw [Y0b 103,Y0v,Y0b 103];rfl
 rw [e];apply List.ext_getElem?;intro i;rw [Y0u];by_cases hi:i<k
 ·rw [Y3a hi,List.getElem?_take_of_lt hi,List.getElem?_drop];simp only [Y2a];rw [Y0v,Y0b 103];rfl
 ·rw [Y1l 121,Y1l 121];rfl
theorem U5 (l:List Nat)(p:Nat)(h:p<=l.length):Txt.slice (mkS l) (some (p:Int)) none=mkS (l.drop p):=by
 unfold Txt.slice;rw [qk,OP p _ h]
 split
 ·rename_i c;simp at c
  have:p=0\/l.length=0:=by omega
  rcases this with z | z
  ·rw [z];rfl
  ·rw [List.length_eq_zero_iff.mp z];simp
 ·show mkS _=_
  congr 1
  rw [show (mkS l).cps=l.toArray from rfl,Wm l p (l.length-p) 103];rw [Y1t 110]
theorem OQ (l:List Nat)(p:Nat)(h:p<=l.length):Txt.slice (mkS l) none (some (p:Int))=mkS (l.take p):=by
 unfold Txt.slice;rw [qk,z5o p _ h]
 split
 ·rename_i c;simp at c;rw [c,Y3k]
 ·show mkS _=_
  congr 1
  rw [show (mkS l).cps=l.toArray from rfl,Wm l 0 p 103];rfl
noncomputable def dig (pl:List Nat):Nat->Int->List Nat
 | 0,_=>[]
 | n+1,r=>pl.getD (r%(pl.length:Int)).toNat 0::dig pl n (r/(pl.length:Int))
theorem qY (pl:List Nat):∀ (n:Nat) (r:Int),(dig pl n r).length=n
 | 0,_=>rfl
 | n+1,r=>by rw [dig,Y0q,qY pl n]
structure Pool (ps:Str):Prop where
 ge:14<=(cs ps).length
 le:(cs ps).length<=30
 nd:(cs ps).Nodup
 ok:∀ c∈cs ps,c<1114112
theorem z1p {ps:Str}(p:Pool ps)(r:Int)(h:Hh):zC (.str ps) (.int (r%119)) h=.ok (.str (mkS [(cs ps).getD (r%119).toNat 0])) h:=by
 have h0:=p.ge;have h1:=p.le;have m0:0<=r%119:=Y18 _ 103;have m1:r%119<119:=Y17 _ 103;have lt:(r%119).toNat<(cs ps).length:=by omega
 have hl:ps.length<=1000000:=by rw [cs_len];omega
 simp only [zC];rw [if_pos hl,show ps.cps.toList=cs ps from rfl,zY m0,Y0b lt,Y0v,Y0b lt];rfl
theorem V5 (cl:101){ps:Str}(p:Pool ps)(d0 d1 d2 d4 d5 d6:Option D)(h:Hh):∀ (n k:Nat) (r:Int) (acc:List Nat) (jv:Option D),acc.length+n<=20 ->
  ∃ r' jv',jg [] (zU yc λ ρ' h'=>b_law_names_2.run cl ρ' h') ((List.range' k n).map λ i=>D.int (i:Nat)) [d0,d1,d2,some (.str ps),d4,d5,d6,some (.int r),some (.str (mkS acc)),jv] h =
   .nx [d0,d1,d2,some (.str ps),d4,d5,d6,some (.int r'),some (.str (mkS (acc++dig (cs ps) n r))),jv'] h
 | 0,k,r,acc,jv,_=>⟨r,jv,by simp [jg,zg,dig]⟩
 | n+1,k,r,acc,jv,hl=>by
  have h0:=p.ge;have h1:=p.le;have e1:=λ h=>z1p p r h;have hlen:yh (.str ps) h=.ok (.int ((cs ps).length:Nat)) h:=by
   rw [len_str,if_pos (by rw [cs_len];omega),cs_len]
  have ad:zw .Add (.str (mkS acc)) (.str (mkS [(cs ps).getD (r%119).toNat 0])) h=.ok (.str (mkS (acc++[(cs ps).getD (r%119).toNat 0]))) h:=by
   rw [bin_adds,if_pos (by rw [qk,qk];simp;omega),yU]
  have md:zw .Mod (.int r) (.int ((cs ps).length:Nat)) h=.ok (.int (r%119)) h:=by rw [bin_mod,if_pos 103]
  have fd:zw .FloorDiv (.int r) (.int ((cs ps).length:Nat)) h=.ok (.int (r/119)) h:=by rw [bin_fdiv,if_pos 103]
  have step:zU yc (λ ρ' h'=>b_law_names_2.run cl ρ' h') (.int (k:Nat)) [d0,d1,d2,some (.str ps),d4,d5,d6,some (.int r),some (.str (mkS acc)),jv] h =
    .nx [d0,d1,d2,some (.str ps),d4,d5,d6,some (.int (r/119)),some (.str (mkS (acc++[(cs ps).getD (r%119).toNat 0]))),some (.int (k:Nat))] h:=by
   exact zb (bnd rfl (bnd (bnd rfl (bnd (bnd rfl (bnd (bnd rfl hlen) md)) (e1 h))) ad)) (zb (bnd rfl (bnd (bnd rfl hlen) fd)) rfl)
  obtain ⟨r',jv',e⟩:=V5 cl p d0 d1 d2 d4 d5 d6 h n (k+1) (r/119) (acc++[(cs ps).getD (r%119).toNat 0]) (some (.int (k:Nat))) 121;refine ⟨r',jv',?_⟩;rw [List.range'_succ,Y0i,jg,if_pos zg,step];simp only [];rw [e,dig];simp
noncomputable def nmL (pl:List Nat)(sz p:Nat)(q:Bool)(b:Int)(k:Nat):List Nat :=
 (dig pl sz (b+k)).drop p++(dig pl sz (b+k)).take p++(if (q&&(k%2==1))=true then [113] else [])
theorem z7y {ps:Str}(po:Pool ps){sz p:Nat}(hp:p<sz)(q:Bool)(b:Int){k k':Nat}(h1:k<14)(h2:k'<14)(hk:k≠k'):nmL (cs ps) sz p q b k≠nmL (cs ps) sz p q b k':=by
 intro e;have l0:=po.ge;have ln:∀ k:Nat,((dig (cs ps) sz (b+k)).drop p++(dig (cs ps) sz (b+k)).take p).length=sz:=λ k=>by
  rw [Y0k,Y1j,Y1r,qY];omega
 unfold nmL at e;have e2:=List.append_inj e (by rw [ln,ln]);have e3:=List.append_inj e2.1 (by rw [Y1j,Y1j,qY,qY]);have e4:dig (cs ps) sz (b+k)=dig (cs ps) sz (b+k'):=by
  rw [<- Y1w p (dig (cs ps) sz (b+k)),<- Y1w p (dig (cs ps) sz (b+k')),e3.1,e3.2]
 obtain ⟨n,rfl⟩:∃ n,sz=n+1:=⟨sz-1,by omega⟩;rw [dig,dig] at e4;have e5:=(List.cons.inj e4).1;have m0:∀ k:Nat,0<=(b+k)%119:=λ k=>Y18 _ 103;have m1:∀ k:Nat,(b+k)%119<119:=λ k=>Y17 _ 103;have lt:∀ k:Nat,((b+k)%119).toNat<(cs ps).length:=λ k=>by have:=m0 k;have:=m1 k;omega
 rw [Y0v,Y0b (lt k),Y0v,Y0b (lt k')] at e5;have e6:((b+k)%119).toNat=((b+k')%119).toNat:=(List.getElem_inj po.nd).mp e5;have e7:(b+k)%119=(b+k')%119:=by have:=m0 k;have:=m0 k';omega
 have e8:((b+k)-(b+k'))%119=0:=by rw [Int.sub_emod,e7,Int.sub_self,Int.zero_emod]
 have e9:119 ∣ ((b+k)-(b+k')):=Int.dvd_of_emod_eq_zero e8;obtain ⟨z,hz⟩:=e9;have l1:(14:Int)<=119:=by omega
 have d1:(b+k)-(b+k')=(k:Int)-(k':Int):=by omega
 rw [d1] at hz;rcases Int.lt_trichotomy z 0 with hz0 | hz0 | hz0
 ·have:119*z<=119*(-1):=Y2j 103 103
  omega
 ·rw [hz0] at hz;omega
 ·have:119*1<=119*z:=Y2j 103 103
  omega
theorem WX {ps:Str}(po:Pool ps):∀ (n:Nat) (r:Int),∀ c∈dig (cs ps) n r,c∈cs ps
 | 0,r,c,h=>by cases h
 | n+1,r,c,h=>by
  rw [dig] at h;rcases Y03.mp h with z | z
  ·have l0:=po.ge;have m0:0<=r%119:=Y18 _ 103;have m1:r%119<119:=Y17 _ 103;have lt:(r%119).toNat<(cs ps).length:=by omega
   rw [z,Y0v,Y0b lt];exact Y3l lt
  ·exact WX po n _ c z
theorem z7z {ps:Str}(po:Pool ps)(sz p:Nat)(q:Bool)(b:Int)(k:Nat):PyData.strOk (mkS (nmL (cs ps) sz p q b k))=true:=by
 refine z7u λ c hc=>?_;unfold nmL at hc;rcases Y0p.mp hc with hc | hc
 ·rcases Y0p.mp hc with hc | hc
  ·exact po.ok c (WX po _ _ c (List.mem_of_mem_drop hc))
  ·exact po.ok c (WX po _ _ c (List.mem_of_mem_take hc))
 ·split at hc
  ·have:=Y0d.mp hc
   omega
  ·cases hc
theorem OR:Pool "abcdefghijklmnopqrstuvwxyz":=⟨by decide,by decide,by decide,by decide⟩
theorem OS:Pool "bcdfghjklmnpqrstuvwxyz":=⟨by decide,by decide,by decide,by decide⟩
theorem z5p:("":Str)=mkS []:=rfl
theorem z9z:("q":Str)=mkS [113]:=by decide
noncomputable def nmD (pl:List Nat)(sz p:Nat)(q:Bool)(b:Int)(n:Nat):List D:=(List.range n).map λ k=>D.str (mkS (nmL pl sz p q b k))
theorem OT (pl:List Nat)(sz p:Nat)(q:Bool)(b:Int)(n:Nat):nmD pl sz p q b (n+1)=nmD pl sz p q b n++[.str (mkS (nmL pl sz p q b n))]:=by
 unfold nmD;rw [List.range_succ,Y0w];rfl
theorem z1q (pl:List Nat)(sz p:Nat)(q:Bool)(b:Int)(n:Nat):(nmD pl sz p q b n).length=n:=by simp [nmD]
theorem za0 (m n:Nat):(((m:Nat):Int)==((n:Nat):Int))=(m==n):=by
 rw [Bool.eq_iff_iff,beq_iff_eq,beq_iff_eq];exact Int.ofNat_inj
theorem OU (cl:101){ps:Str}(po:Pool ps)(c b:Int)(q:Bool)(d1:Option D)(sz p:Nat)(hp:p<sz)(hs:sz<=8)(h:Hh)(k:Nat)(hk:k<14)(L:List D)(hL:L.length=k)(hb:c/32%1000003=b)(hq:((c/64%3==1)&&decide (sz<8))=q)(x y z w:Option D) :
  ∃ y' z' w',zU yb (λ ρ' h'=>b_law_names_1.run cl ρ' h') (.int (k:Nat)) [some (.int c),d1,some (.int (sz:Nat)),some (.str ps),some (.int (p:Nat)),some 115,x,y,z,w] (h++[.lst L]) =
   .nx [some (.int c),d1,some (.int (sz:Nat)),some (.str ps),some (.int (p:Nat)),some 115,some (.int (k:Nat)),y',z',w'] (h++[.lst (L++[.str (mkS (nmL (cs ps) sz p q b k))])]):=by
 subst hb;obtain ⟨r',jv',e⟩:=V5 cl po (some (.int c)) d1 (some (.int (sz:Nat))) (some (.int (p:Nat))) (some 115) (some (.int (k:Nat))) (h++[.lst L]) sz 0 (c/32%1000003+k) [] w (Y0j (Y31 (Y3f _)) (Y0j hs 102));rw [<- List.range_eq_range',Y0l,<- z5p] at e;refine ⟨some (.int r'),some (.str (mkS (dig (cs ps) sz (c/32%1000003+k)))),jv',?_⟩;unfold nmL;generalize hl:dig (cs ps) sz (c/32%1000003+k)=l at e ⊢;have ll:l.length=sz:=hl▸qY _ _ _;have pl:p<=l.length:=ll▸Y28 hp;have lm:(mkS l).length<=1000000:=by rw [qk,ll];exact Y0j hs 102
 have c1:∀ h,j4 (.str (mkS l)) (some (p:Int)) none h=.ok (.str (mkS (l.drop p))) h:=λ h=>(if_pos lm).trans (by rw [U5 l p pl]);have c2:∀ h,j4 (.str (mkS l)) none (some (p:Int)) h=.ok (.str (mkS (l.take p))) h:=λ h=>(if_pos lm).trans (by rw [OQ l p pl]);have lt:(l.drop p++l.take p).length<=8:=by rw [Y0k,Y1j,Y1r,Y30 pl,Nat.sub_add_cancel pl,ll];exact hs
 have ad:∀ h,zw .Add (.str (mkS (l.drop p))) (.str (mkS (l.take p))) h=.ok (.str (mkS (l.drop p++l.take p))) h:=λ h=>by
  rw [bin_adds,if_pos (by rw [qk,qk,<- Y0k];exact Y0j lt 102),yU]
 generalize l.drop p++l.take p=m at ad lt ⊢;have g0:∀ o,(h++[o])[h.length]?=some o:=λ o=>by rw [hx0];rfl
 have ap:m1D .append 115 (.str (mkS m)) (h++[.lst L])=.ok .non (h++[.lst (L++[.str (mkS m)])]):=by
  simp only [m1D,g0];rw [if_pos (hL▸Y2g hk 102),yt];rfl
 have b1:-1000000<=(sz:Int)/\(sz:Int)<=1000000:=⟨Int.le_trans 102 (Y2n _),Int.ofNat_le.mpr (Y0j hs 102)⟩;have fin:∀ H,H=h++[.lst (L++[.str (mkS m)])]->Ss.run cl (zH 4 b_law_names_1) 118 H=.nx 118 (h++[.lst (L++[.str (mkS (m++if (q&&(k%2==1))=true then [113] else []))])]):=by
  intro H hH;have A:∀ t,(c/64%3==1)=t->E.evT cl (.cmp .Eq (.bin .Mod (.bin .FloorDiv (.var 0 ⟨127,11,127,25⟩) (.int 64 ⟨127,29,127,31⟩) ⟨127,11,127,31⟩) (.int 3 ⟨127,34,127,35⟩) ⟨127,11,127,35⟩) (.int 1 ⟨127,39,127,40⟩) ⟨127,11,127,40⟩) 118 H=.ok t H:=λ t ht=>z4 (bnd 109 (bnd rfl mdk)) rfl (ht▸eqI);have B:∀ t,(k%2==1)=t->E.evT cl (.cmp .Eq (.bin .Mod (.var 6 ⟨127,45,127,51⟩) (.int 2 ⟨127,54,127,55⟩) ⟨127,45,127,55⟩) (.int 1 ⟨127,59,127,60⟩) ⟨127,45,127,60⟩) 118 H=.ok t H:=λ t ht=>z4 (bnd rfl (bnd rfl mdk)) rfl ((eqI).trans (by rw [<- ht,<- za0 (k%2) 1];rfl));cases h1:(c/64%3==1) with
  | false =>
   rw [h1,Y2p] at hq;subst hq;exact za (zP (A _ h1)) (by rw [hH,Y2p,if_neg Y0t,Y0x];rfl)
  | true =>
   rw [h1,Bool.true_and] at hq;cases h2:(k%2==1) with
   | false=>exact za (yV (A _ h1) (B _ h2)) (by rw [hH,Bool.and_false,if_neg Y0t,Y0x];rfl)
   | true =>
    have C:E.evT cl (.cmp .Lt (.var 2 ⟨127,66,127,75⟩) (.int 8 ⟨127,78,127,79⟩) ⟨127,66,127,79⟩) 118 H=.ok q H:=z4 rfl rfl (by rw [cmp_lt,<- hq];exact congrArg (λ t=>Res.ok (D.bl t) H) (decide_eq_decide.mpr Y3h));cases q with
    | false=>exact za (wy (A _ h1) (B _ h2) C) (by rw [hH,Y2p,if_neg Y0t,Y0x];rfl)
    | true =>
     subst hH;have sb:zC 115 (.int (k:Nat)) (h++[.lst (L++[.str (mkS m)])])=.ok (.str (mkS m)) (h++[.lst (L++[.str (mkS m)])]):=by
      simp only [zC,g0];rw [PI.atI_nat,Y0m (Y31 hL),hL,Y1v];rfl
     have aq:zw .Add (.str (mkS m)) (.str "q") (h++[.lst (L++[.str (mkS m)])])=.ok (.str (mkS (m++[113]))) (h++[.lst (L++[.str (mkS m)])]):=by
      rw [z9z,bin_adds,if_pos (by rw [qk,qk];exact Y0j (Nat.add_le_add_right lt 1) 102),yU]
     have ix:ixN (L++[D.str (mkS m)]).length (k:Int)=some k:=by
      rw [Y0k,hL];exact (if_pos (Y2n _)).trans (if_pos (Y3h.mpr (Y25 k)))
     have pt:yq 115 (.int (k:Nat)) (.str (mkS (m++[113]))) (h++[.lst (L++[.str (mkS m)])])=some (h++[.lst (L++[.str (mkS (m++[113]))])]):=by
      simp only [yq,g0,ix,Y2a];rw [yt];simp only [List.set_cons_zero];rw [List.set_append_right _ _ (Y31 hL),hL,Y1v];rfl
     exact wx (wy (A _ h1) (B _ h2) C) (UT (bnd (bnd rfl (bnd rfl sb)) (bnd rfl aq)) rfl rfl pt rfl) rfl
 refine zb (d:=.int (c/32%1000003+k)) (h':=h++[O.lst L]) (bnd (bnd 109 (bnd rfl mdk)) 112) (zb rfl ?_);refine qm (h2:=h++[O.lst L]) (UU (j:=(sz:Nat)) rfl b1) e (je (bnd rfl ((qI (g0 _) _).trans (bnd (bnd (bnd rfl (bnd rfl (bnd rfl (c1 _)))) (bnd (bnd rfl (bnd rfl (bnd rfl (c2 _)))) (ad _))) ap))) (fin _ rfl))
theorem Y5 (cl:101){ps:Str}(po:Pool ps)(c:Int)(d1:Option D)(sz p:Nat)(hp:p<sz)(hs:sz<=8)(h:Hh):∀ (n k:Nat) (x y z w:Option D),k+n<=14 ->
  ∃ x' y' z' w',jg [] (zU yb λ ρ' h'=>b_law_names_1.run cl ρ' h') ((List.range' k n).map λ i=>D.int (i:Nat)) [some (.int c),d1,some (.int (sz:Nat)),some (.str ps),some (.int (p:Nat)),some 115,x,y,z,w]
   (h++[.lst (nmD (cs ps) sz p ((c/64%3==1)&&decide (sz<8)) (c/32%1000003) k)]) =
   .nx [some (.int c),d1,some (.int (sz:Nat)),some (.str ps),some (.int (p:Nat)),some 115,x',y',z',w'] (h++[.lst (nmD (cs ps) sz p ((c/64%3==1)&&decide (sz<8)) (c/32%1000003) (k+n))])
 | 0,k,x,y,z,w,_=>⟨x,y,z,w,if_pos zg⟩
 | n+1,k,x,y,z,w,hk=>by
  obtain ⟨y1,z1,w1,st⟩:=OU cl po c _ _ d1 sz p hp hs h k (Y0o (Nat.lt_add_of_pos_right (Nat.succ_pos n)) hk) _ (z1q _ _ _ _ _ _) rfl rfl x y z w;obtain ⟨x',y',z',w',e⟩:=Y5 cl po c d1 sz p hp hs h n (k+1) (some (.int (k:Nat))) y1 z1 w1 (by rw [Nat.add_assoc,Nat.add_comm 1];exact hk);rw [Nat.add_assoc,Nat.add_comm 1] at e;exact ⟨x',y',z',w',yu zg (st.trans (by rw [OT])) e⟩
noncomputable def szF (c:Int):Nat:=if c%4=0 then 1 else if c%4=1 then 8 else if c%4=2 then 2 else 5
noncomputable def poF (c:Int):Str:=if c%4=2\/c%4=3 then "bcdfghjklmnpqrstuvwxyz" else "abcdefghijklmnopqrstuvwxyz"
noncomputable def plF (c:Int):Nat:=(c/4%(szF c:Int)).toNat
noncomputable def nmF (c:Int)(k:Nat):Str:=mkS (nmL (cs (poF c)) (szF c) (plF c) ((c/64%3==1)&&decide (szF c<8)) (c/32%1000003) k)
noncomputable def Nms (c:Int)(m:Nat):List Str:=(List.range m).map (nmF c)
noncomputable def Nm (c:Int):List Str:=(List.range 12).map (nmF c)
theorem yD (c:Int):(c%4=0/\szF c=1/\poF c="abcdefghijklmnopqrstuvwxyz")\/(c%4=1/\szF c=8/\poF c="abcdefghijklmnopqrstuvwxyz")\/(c%4=2/\szF c=2/\poF c="bcdfghjklmnpqrstuvwxyz")\/(c%4=3/\szF c=5/\poF c="bcdfghjklmnpqrstuvwxyz"):=by
 unfold szF poF;rcases (show c%4=0\/c%4=1\/c%4=2\/c%4=3 by omega) with z | z | z | z
 ·exact .inl ⟨z,by rw [z];rfl,by rw [z];rfl⟩
 ·exact .inr (.inl ⟨z,by rw [z];rfl,by rw [z];rfl⟩)
 ·exact .inr (.inr (.inl ⟨z,by rw [z];rfl,by rw [z];rfl⟩))
 ·exact .inr (.inr (.inr ⟨z,by rw [z];rfl,by rw [z];rfl⟩))
theorem OV (c:Int):Pool (poF c):=by
 rcases yD c with ⟨_,_,e⟩ | ⟨_,_,e⟩ | ⟨_,_,e⟩ | ⟨_,_,e⟩<;>rw [e]
 ·exact OR
 ·exact OR
 ·exact OS
 ·exact OS
theorem WY (c:Int):0<szF c/\szF c<=8:=by
 rcases yD c with ⟨_,e,_⟩ | ⟨_,e,_⟩ | ⟨_,e,_⟩ | ⟨_,e,_⟩<;>rw [e]<;>omega
theorem z38 (c:Int):plF c<szF c:=by
 unfold plF;have h:=WY c;have m0:0<=c/4%(szF c:Int):=Y18 _ 103;have m1:c/4%(szF c:Int)<(szF c:Int):=Y17 _ 103;omega
theorem OW (c:Int):(Nm c).length=12:=by simp [Nm]
theorem ja (c:Int){k k':Nat}(h1:k<14)(h2:k'<14)(hk:k≠k'):nmF c k≠nmF c k':=λ e=>z7y (OV c) (z38 c) _ _ h1 h2 hk (z5d e)
theorem wJ (c:Int)(k:Nat):PyData.strOk (nmF c k)=true:=z7z (OV c) _ _ _ _ _
theorem za1 (c:Int)(m:Nat):(Nms c m).map D.str=nmD (cs (poF c)) (szF c) (plF c) ((c/64%3==1)&&decide (szF c<8)) (c/32%1000003) m:=by
 unfold Nms nmD;rw [Y16];rfl
theorem z80 {cl:101}{a:E}{p0 p:Pos}{ρ:En}{h h':Hh}{m:Nat}(ha:a.ev cl ρ h=.ok (.int (m:Nat)) h')(hm:m<=1000000):I.ev cl (.rng a p0 p) ρ h=.ok ([],(List.range m).map λ k=>.int (k:Nat)) h':=by
 rw [z9v,ha,bind_ok];exact if_pos 103
noncomputable def z1r:Ss->E
 | .cons (.iff c _ _ _) _=>c
 | _=>.non ⟨0,0,0,0⟩
theorem OX (cl:101)(c:Int)(m:Nat)(hm:m<=14)(h:Hh):∃ J,d_law_names.run cl [.int c,.int (m:Nat)] h=.ok (.loc (h.length+J.length)) (h++(J++[.lst ((Nms c m).map .str)])):=by
 refine ⟨[.lst [.int 1,.int 8,.int 2,.int 5],.lst [.int 2,.int 5]],?_⟩;obtain ⟨H,hH⟩:∃ H,H=h++[O.lst [.int 1,.int 8,.int 2,.int 5],.lst [.int 2,.int 5]]:=117;obtain ⟨x',y',z',w',e⟩:=Y5 cl (OV c) c (some (.int (m:Nat))) (szF c) (plF c) (z38 c) (WY c).2 H m 0 none none none none 103;rw [<- List.range_eq_range',Y3f,<- za1 c m] at e;have n0:nmD (cs (poF c)) (szF c) (plF c) ((c/64%3==1)&&decide (szF c<8)) (c/32%1000003) 0=[]:=rfl;rw [n0] at e;have hsz:=WY c;have s1:zC 115 (.int (c%4)) (h++[O.lst [.int 1,.int 8,.int 2,.int 5]])=.ok (.int (szF c:Nat)) (h++[O.lst [.int 1,.int 8,.int 2,.int 5]]):=by
  have g0:(h++[O.lst [.int 1,.int 8,.int 2,.int 5]])[h.length]?=some (.lst [.int 1,.int 8,.int 2,.int 5]):=by rw [hx0];rfl
  simp only [zC,g0];rcases yD c with ⟨e1,e2,_⟩ | ⟨e1,e2,_⟩ | ⟨e1,e2,_⟩ | ⟨e1,e2,_⟩<;>rw [e1,e2]<;>rfl
 have i1:zy .In (.int (szF c:Nat)) (.loc (h.length+1)) H=.ok (.bl (decide (c%4=2\/c%4=3))) H:=by
  have g0:H[h.length+1]?=some (.lst [.int 2,.int 5]):=by rw [hH,hx];rfl
  simp only [cmp_in,inD,g0];rcases yD c with ⟨e1,e2,_⟩ | ⟨e1,e2,_⟩ | ⟨e1,e2,_⟩ | ⟨e1,e2,_⟩<;>rw [e1,e2]<;>rfl
 have p1:(c/4%(szF c:Int))=(plF c:Int):=by
  unfold plF;have m0:0<=c/4%(szF c:Int):=Y18 _ 103;omega
 have md:∀ h,zw .Mod (.int (c/4)) (.int (szF c:Nat)) h=.ok (.int (plF c:Nat)) h:=λ h=>by rw [bin_mod,if_pos 103,p1]
 have fd4:∀ h,zw .FloorDiv (.int c) (.int 4) h=.ok (.int (c/4)) h:=λ h=>by rw [bin_fdiv,if_pos 102]
 have lh:H.length=h.length+2:=by rw [hH];simp
 have fin:h++([O.lst [.int 1,.int 8,.int 2,.int 5],.lst [.int 2,.int 5]]++[.lst ((Nms c m).map .str)])=H++[.lst ((Nms c m).map .str)]:=by rw [hH];simp
 rw [fin];have tail:∀ k1,k1=poF c->Ss.run cl (zH 3 d_law_names.body) [some (.int c),some (.int (m:Nat)),some (.int (szF c:Nat)),some (.str k1),none,none,none,none,none,none] H=.rt (.loc H.length) (H++[.lst ((Nms c m).map .str)]):=λ k1 hk=>by
  subst hk;exact zb (bnd (bnd rfl (bnd rfl (fd4 _))) (bnd rfl (md _))) (zb rfl (qm (q:=([],(List.range m).map λ i=>D.int (i:Nat))) (z80 (h':=H++[O.lst []]) rfl 103) e (zk rfl)))
 have hh:h++[O.lst [.int 1,.int 8,.int 2,.int 5]]++[.lst [.int 2,.int 5]]=H:=by rw [hH];simp
 have hl:(h++[O.lst [.int 1,.int 8,.int 2,.int 5]]).length=h.length+1:=by simp
 have C:E.evT cl (z1r (zH 2 d_law_names.body)) [some (.int c),some (.int (m:Nat)),some (.int (szF c:Nat)),some (.str "abcdefghijklmnopqrstuvwxyz"),none,none,none,none,none,none] (h++[O.lst [.int 1,.int 8,.int 2,.int 5]])=.ok (decide (c%4=2\/c%4=3)) H:=z4 rfl (show E.ev cl (.ofL (.disp (.cons (.int 2 _) (.cons (.int 5 _) .nil)) _)) _ _=.ok (.loc (h.length+1)) H by rw [<- hh,<- hl];rfl) i1;have lp:h.length+([O.lst [.int 1,.int 8,.int 2,.int 5],.lst [.int 2,.int 5]]:Hh).length=H.length:=by rw [lh];rfl
 rw [lp];have m4:∀ h,zw .Mod (.int c) (.int 4) h=.ok (.int (c%4)) h:=λ h=>by rw [bin_mod,if_pos 102]
 refine ze (zb (bnd rfl (bnd (bnd rfl (bnd rfl (m4 _))) s1)) (zb (d:=.str "abcdefghijklmnopqrstuvwxyz") rfl ?_));by_cases z:c%4=2\/c%4=3
 ·rw [decide_eq_true z] at C;exact wx C (zb rfl rfl) (tail _ (by unfold poF;rw [if_pos z]))
 ·rw [decide_eq_false z] at C;exact za C (tail _ (by unfold poF;rw [if_neg z]))
noncomputable def q0 (c:Int)(p1 p2:Nat):List (Str×D):=[(nmF c 0,dfD (nmF c 0) (List.replicate p1 .non) .non .non),(nmF c 1,dfD (nmF c 1) [.non] .non .non),(nmF c 2,dfD (nmF c 2) (List.replicate p2 .non) (.str (nmF c 9)) .non),
 (nmF c 3,.tup [.str "handler"]),(nmF c 4,.tup [.str "handler"])]
theorem Ga {qs qs':108}(hd:∀ f n b,IsD qs f n b->IsD qs' f n b){blk:XX}{f:Str}{o:XX}{n:Nat}(h:qN qs blk f o n):qN qs' blk f o n:=by
 obtain ⟨h1,h2,h3⟩:=h;refine ⟨h1,h2,?_⟩;rcases h3 with h3 | ⟨h3,b,h4,h5⟩
 ·exact .inl h3
 ·refine .inr ⟨h3,b,hd _ _ _ h4,?_⟩;cases o with
  | none=>exact h5
  | some x=>exact ⟨h5.1,h5.2.imp id (hd _ _ _)⟩
theorem yE {al:XU}{qs qs':108}(hd:∀ f n b,IsD qs f n b->IsD qs' f n b)(hh:∀ x,IsH qs x->IsH qs' x){blk:XX}{c:Ct}{g:G}(h:Gd al qs blk c g):Gd al qs' blk c g:=by
 induction h with
 | mk c k ps hk hl _ ih =>
  refine .mk c k ps hk ?_ ih;cases k with
  | call f o=>exact Ga hd hl
  | handle x=>exact ⟨hh _ hl.1,hl.2⟩
  | _=>exact hl
theorem z81 (c:Int)(p1 p2:Nat):IsD (q0 c p1 p2) (nmF c 0) p1 false:=⟨List.replicate p1 .non,.non,.non,by simp [q0],by simp,.inl ⟨rfl,rfl⟩⟩
theorem z5q (c:Int)(p1 p2:Nat):IsD (q0 c p1 p2) (nmF c 1) 1 false:=⟨[.non],.non,.non,by simp [q0],rfl,.inl ⟨rfl,rfl⟩⟩
theorem z82 (c:Int)(p1 p2:Nat):IsD (q0 c p1 p2) (nmF c 2) p2 true:=⟨List.replicate p2 .non,.str (nmF c 9),.non,by simp [q0],by simp,.inr ⟨rfl,_,rfl⟩⟩
theorem OY (c:Int)(p1 p2:Nat)(i:Nat)(hi:i=3\/i=4):IsH (q0 c p1 p2) (nmF c i):=by
 rcases hi with rfl | rfl
 ·exact ⟨[],by simp [q0]⟩
 ·exact ⟨[],by simp [q0]⟩
noncomputable def goD:Pl->D
 | .cl=>.bl true
 | .fr=>.bl false
 | .en=>.non
structure Sh (nf nn:Nat)(c:Int)(h:Hh):Prop where
 fd:Feed nf h
 nm:h[nn]?=some (.lst ((Nm c).map .str))
 ne:nn≠nf
theorem Sh.mv {nf nn:Nat}{c:Int}{h h':Hh}(s:Sh nf nn c h)(f:Feed nf h')(m:Mv nf h h'):Sh nf nn c h':=⟨f,m.2 nn _ s.ne s.nm,s.ne⟩
theorem Sh.gr {nf nn:Nat}{c:Int}{h:Hh}(s:Sh nf nn c h)(J:Hh):Sh nf nn c (h++J):=s.mv (s.fd.gr J) (Mv.gr nf h J)
theorem Sh.lt {nf nn:Nat}{c:Int}{h:Hh}(s:Sh nf nn c h):nf<h.length:=by obtain ⟨xs,e,_⟩:=s.fd;exact (Y02.mp e).1
theorem jF {nn:Nat}{c:Int}{h:Hh}(e:h[nn]?=some (.lst ((Nm c).map .str)))(i:Int)(h0:0<=i)(h1:i<12):zC (.loc nn) (.int i) h=.ok (.str (nmF c i.toNat)) h:=by
 simp only [zC,e];rw [zY h0]
 have:i.toNat<12:=by omega
 unfold Nm;rw [Y0u,Y0u,Y3a this];rfl
noncomputable def jW (nk:Nat)(kn:XU)(h:Hh):Prop:=h[nk]?=some (.lst (kn.map .str))
noncomputable def plD (nn p1 p2:Nat):D:=.tup [.loc nn,.int (p1:Nat),.int (p2:Nat)]
noncomputable def bd:Nat->Nat
 | 0=>1
 | d+1=>1+3*bd d
noncomputable def Szd (g:G)(d:Nat):Prop:=g.size<=bd d/\g.dp<=d+1
theorem z5r (d:Nat):1<=bd d:=by cases d<;>simp [bd]
noncomputable def jp (c:Int)(blk:XX):Prop:=blk=none\/blk=some (nmF c 9)
theorem OZ {c:Int}{blk:XX}(h:jp c blk){k:Nat}(hk:k<9):blk≠some (nmF c k):=by
 rcases h with rfl | rfl
 ·exact λ z=>by cases z
 ·exact λ z=>ja c 102 103 103 (Option.some.inj z)
theorem yF {al:XU}{qs:108}{blk:XX}{c:Ct}{k:Kd}(hk:k.ok 0=true)(hl:wS al qs blk c k 0):Gd al qs blk c (.nd k []):=by
 refine .mk c k [] hk hl ?_;intro q hq;unfold zJ at hq;split at hq
 ·rename_i h;cases h
 ·rename_i h;cases h
 ·cases hq
theorem z5s {al:XU}(cl:101){qs:108}{blk:XX}(p:Pl)(v:Int)(hv:0<=v/\v<2147483647){nk:Nat}{kn:XU}{h:Hh}(hk:jW nk kn h)(hl:kn.length<=1000) :
  ∃ g,d_law_leaf.run cl [.int v,.loc nk] h=.ok g.d h/\Gd al qs blk ⟨kn,p⟩ g/\g.size<=1:=by
 have rr:rd h nk=some (kn.map .str):=zO hk;have ln:yh (.loc nk) h=.ok (.int (kn.length:Nat)) h:=by rw [len_loc,rr];simp
 have pw:∀ h,zw .Pow (.int 10) (.int 18) h=.ok (.int (10 ^ 18)) h:=λ h=>by rw [bin_pow,if_pos 102];rfl
 have num:∃ g,Ss.run cl (zH 1 d_law_leaf.body) [some (.int v),some (.loc nk)] h=.rt g.d h/\Gd al qs blk ⟨kn,p⟩ g/\g.size<=1:=by
  cases z:(v/2%4==1) with
  | true =>
   have g1:jR (v/8)=true:=qW 103;exact ⟨.nd (.num (v/8*1000000007000003%10 ^ 18)) [],ji (z4 (bnd 109 (bnd rfl mdk)) rfl (z▸eqI)) (zk (bnd (bnd rfl (bnd (bnd (bnd (bnd 109 (bnd rfl (if_pos ⟨g1,by decide⟩))) (bnd (bnd rfl (bnd rfl (pw _))) mdk)) 112) rfl)) rfl)),yF rfl trivial,Y0a 1⟩
  | false=>exact ⟨.nd (.num (v/8%10)) [],za (z4 (bnd 109 (bnd rfl mdk)) rfl (z▸eqI)) (zk (bnd (bnd rfl (bnd (bnd (bnd 109 (bnd rfl mdk)) 112) rfl)) rfl)),yF rfl trivial,Y0a 1⟩
 obtain ⟨g,k1,k2,k3⟩:=num;cases z1:decide ((0:Int)<(kn.length:Nat)) with
 | false=>exact ⟨g,ze (za (zP (z4 (bnd rfl ln) rfl (z1▸rfl))) k1),k2,k3⟩
 | true =>
  cases z2:(v%2==1) with
  | false=>exact ⟨g,ze (za (jD (z4 (bnd rfl ln) rfl (z1▸rfl)) (z4 (bnd rfl (bnd rfl mdk)) rfl (z2▸eqI))) k1),k2,k3⟩
  | true =>
   have hm0:0<=v/2%(kn.length:Int):=Y18 _ (Int.ne_of_gt (of_decide_eq_true z1));have hm1:v/2%(kn.length:Int)<(kn.length:Int):=Y17 _ (of_decide_eq_true z1);have lt:(v/2%(kn.length:Int)).toNat<kn.length:=(Int.toNat_lt hm0).mpr hm1;have sb:zC (.loc nk) (.int (v/2%(kn.length:Int))) h=.ok (.str kn[(v/2%(kn.length:Int)).toNat]) h:=by
    have hk':h[nk]?=some (.lst (kn.map .str)):=hk;simp only [zC,hk'];rw [zY hm0,Y0u,Y0b lt];rfl
   exact ⟨.nd (.var kn[(v/2%(kn.length:Int)).toNat]) [],ze (ji (jD (z4 (bnd rfl ln) rfl (z1▸rfl)) (z4 (bnd rfl (bnd rfl mdk)) rfl (z2▸eqI))) (zk (bnd (bnd rfl (bnd (bnd (bnd rfl (bnd (bnd 109 (bnd (bnd rfl ln) (mdk (of_decide_eq_true z1)))) sb)) 112) rfl)) rfl))),yF rfl (Y3l lt),Y0a 1⟩
theorem qO {k:Kd}{gs:List G}{d:Nat}(hg:∀ g∈gs,Szd g d)(hl:gs.length<=3):Szd (G.nd k gs) (d+1):=by
 constructor
 ·rw [G.size,bd]
  have:∀ gs:List G,(∀ g∈gs,g.size<=bd d)->G.sizes gs<=gs.length*bd d:=by
   intro gs
   induction gs with
   | nil=>intro _;simp [G.sizes]
   | cons q r ih =>
    intro hq;have h1:=hq q (Y06 ..);have h2:=ih λ g hm=>hq g (Y04 _ hm);rw [G.sizes,Y0q,Nat.add_mul];omega
  have h1:=this gs λ g hm=>(hg g hm).1;have h2:=Nat.mul_le_mul_right (bd d) hl;omega
 ·have:=U2 (n:=d+1) λ g hm=>(hg g hm).2
  rw [G.dp];omega
theorem Jh {g:G}{d:Nat}(h:Szd g d)(hd:d<=5):Sz g:=by
 refine ⟨Y0j h.1 ?_,by have:=h.2;omega⟩
 have:d=0\/d=1\/d=2\/d=3\/d=4\/d=5:=by omega
 rcases this with rfl | rfl | rfl | rfl | rfl | rfl<;>decide
theorem Y6 {c:Ck}{f:D->Hh->Res (Option D)}(P:Hh->Prop)(R:Hh->Hh->Prop)(rr:∀ h,R h h)(rt:∀ a b d,R a b->R b d->R a d)(st:∀ h,P h->stay c h)(Q:D->Prop):∀ (xs acc:List D) (h:Hh),P h->(∀ x∈xs,∀ h,P h->∃ d h',f x h=.ok (some d) h'/\P h'/\R h h'/\Q d) ->
  ∃ ds h',zE c f xs acc h=.ok (acc++ds) h'/\P h'/\R h h'/\(∀ d∈ds,Q d)/\ds.length=xs.length
 | [],acc,h,hp,_=>⟨[],h,by simp [zE,st h hp],hp,rr h,by simp,rfl⟩
 | x::r,acc,h,hp,hf=>by
  obtain ⟨d,h1,e1,p1,r1,q1⟩:=hf x (Y06 ..) h hp;obtain ⟨ds,h2,e2,p2,r2,q2,q3⟩:=Y6 P R rr rt st Q r (acc++[d]) h1 p1 λ y hy=>hf y (Y04 _ hy);refine ⟨d::ds,h2,?_,p2,rt _ _ _ r1 r2,λ z hz=>by rcases Y03.mp hz with rfl | hz;exact q1;exact q2 z hz,by simp [q3]⟩;unfold zE;rw [if_pos (st h hp),e1,bind_ok,addO_some,e2];simp
theorem z39 {P:G->Prop}:∀ (ds:List D),(∀ x∈ds,∃ g:G,x=g.d/\P g)->∃ gs:List G,ds=G.ds gs/\(∀ g∈gs,P g)/\gs.length=ds.length
 | [],_=>⟨[],by rw [G.ds],by simp,rfl⟩
 | x::r,h=>by
  obtain ⟨g,e,w⟩:=h x (Y06 ..);obtain ⟨gs,e2,w2,l2⟩:=z39 r λ y hy=>h y (Y04 _ hy);refine ⟨g::gs,by rw [G.ds,e,e2],λ q hq=>?_,by simp [l2]⟩;rcases Y03.mp hq with rfl | hq
  ·exact w
  ·exact w2 q hq
noncomputable def jK (nf nn:Nat)(c:Int)(p1 p2:Nat)(cl:101)(d:Nat):Prop:=∀ (p:Pl) (blk:XX) (kn:XU) (nk:Nat) (h:Hh),jp c blk->Sh nf nn c h->jW nk kn h->nk≠nf->kn.length+d<=100 ->
 ∃ g h',cl 21 [.loc nf,.int (d:Nat),plD nn p1 p2,.loc nk,zp blk,goD p] h=.ok g.d h'/\Feed nf h'/\Mv nf h h'/\Gd (Nm c) (q0 c p1 p2) blk ⟨kn,p⟩ g/\Szd g d
noncomputable def yY (nf nn:Nat)(c:Int)(p1 p2:Nat)(cl:101)(d:Nat):Prop:=∀ (p:Pl) (blk:XX) (kn:XU) (nk m:Nat) (h:Hh),jp c blk->Sh nf nn c h->jW nk kn h->nk≠nf->kn.length+d<=100->m<=3 ->
 ∃ gs h',cl 18 [.loc nf,.int ((d:Int)+1),plD nn p1 p2,.loc nk,zp blk,goD p,.int (m:Nat)] h=.ok (.loc h'.length) (h'++[.lst (G.ds gs)])/\Feed nf h'/\Mv nf h h'/\(∀ g∈gs,Gd (Nm c) (q0 c p1 p2) blk ⟨kn,p⟩ g/\Szd g d)/\gs.length=m
theorem z5t {nf nn:Nat}{c:Int}{p1 p2:Nat}(cl:101)(d:Nat)(C:jK nf nn c p1 p2 cl d)(p:Pl)(blk:XX)(kn:XU)(nk m:Nat)(h:Hh)(hb:jp c blk)(s:Sh nf nn c h)(hk:jW nk kn h)(hn:nk≠nf)(hl:kn.length+d<=100)(hm:m<=3) :
  ∃ gs h',d_law_some.run cl [.loc nf,.int ((d:Int)+1),plD nn p1 p2,.loc nk,zp blk,goD p,.int (m:Nat)] h=.ok (.loc h'.length) (h'++[.lst (G.ds gs)])/\Feed nf h'/\Mv nf h h'/\(∀ g∈gs,Gd (Nm c) (q0 c p1 p2) blk ⟨kn,p⟩ g/\Szd g d)/\gs.length=m:=by
 obtain ⟨ds,h1,k1,⟨s1,kn1⟩,r1,q1,q2⟩:=Y6 (c:=[]) (f:=zT WT [none,some (zp blk),some (.int ((d:Int)+1)),some (.loc nf),some (goD p),some (.loc nk),some (plD nn p1 p2)] (λ ρ' h2=>c_law_some_1.evC cl ρ' h2) (λ ρ' h2=>e_law_some_1.ev cl ρ' h2))
  (λ h=>Sh nf nn c h/\jW nk kn h) (Mv nf) (Mv.refl nf) (Mv.trans nf) (λ _ _=>zg) (λ x=>∃ g:G,x=g.d/\(Gd (Nm c) (q0 c p1 p2) blk ⟨kn,p⟩ g/\Szd g d)) ((List.range m).map λ k=>D.int (k:Nat)) [] h ⟨s,hk⟩ (by
   rintro x hx h ⟨sh,kh⟩
   obtain ⟨i,_,rfl⟩:=Y0e.mp hx;obtain ⟨g1,h1,k1,f1,m1,w1,w2⟩:=C p blk kn nk h hb sh kh hn hl;refine ⟨g1.d,h1,?_,⟨sh.mv f1 m1,m1.2 nk _ hn kh⟩,m1,g1,rfl,w1,w2⟩;have sb:zw .Sub (.int ((d:Int)+1)) (.int 1) h=.ok (.int (d:Nat)) h:=congrArg (λ i=>Res.ok (D.int i) h) (Int.add_sub_cancel (d:Int) 1);exact zZ rfl rfl (bnd rfl (bnd (bnd (bnd rfl (bnd rfl sb)) 112) k1)))
 obtain ⟨gs,rfl,gw,gl⟩:=z39 ds q1;refine ⟨gs,h1,?_,s1.fd,r1,gw,by rw [gl,q2];simp⟩;rw [Y0l] at k1;exact ze (zk (bnd (bnd (UU (j:=(m:Nat)) rfl ⟨Int.le_trans 102 (Y2n _),Int.ofNat_le.mpr (Y0j hm 102)⟩) ((if_pos (by rw [Y09,Y2d];exact Y0j hm 102)).trans k1)) rfl))
theorem Ji {al:XU}{qs:108}{blk:XX}{c:Ct}{f:Str}{o:XX}{gs:List G}{d:Nat}(hc:qN qs blk f o gs.length)(hg:∀ g∈gs,Gd al qs blk c g/\Szd g d)(hl:gs.length<=3):Gd al qs blk c (.nd (.call f o) gs)/\Szd (G.nd (.call f o) gs) (d+1):=by
 constructor
 ·refine .mk c _ gs rfl hc ?_;intro q hq
  have:zJ c (.call f o) gs=gs.map λ g=>(g,c):=by unfold zJ;rfl
  rw [this] at hq;obtain ⟨g,hm,rfl⟩:=Y0e.mp hq;exact (hg g hm).1
 ·exact qO (λ g hm=>(hg g hm).2) hl
noncomputable def WZ (nf nn:Nat)(c:Int)(p1 p2:Nat)(cl:101)(d:Nat):Prop:=∀ (p:Pl) (blk:XX) (kn:XU) (nk:Nat) (v:Int) (h:Hh),jp c blk->Sh nf nn c h->jW nk kn h->nk≠nf->kn.length+d<=100 ->
 ∃ g h',cl 20 [.loc nf,.int ((d:Int)+1),plD nn p1 p2,.loc nk,zp blk,goD p,.int v] h=.ok g.d h'/\Feed nf h'/\Mv nf h h'/\Gd (Nm c) (q0 c p1 p2) blk ⟨kn,p⟩ g/\Szd g (d+1)
theorem z5u {nf nn:Nat}{c:Int}{p1 p2:Nat}(h1:p1<=2)(h2:p2<=2)(cl:101)(d:Nat)(C:yY nf nn c p1 p2 cl d)(p:Pl)(blk:XX)(kn:XU)(nk:Nat)(v:Int)(h:Hh)(hb:jp c blk)(s:Sh nf nn c h)(hk:jW nk kn h)(hn:nk≠nf)(hl:kn.length+d<=100) :
  ∃ g h',d_law_call.run cl [.loc nf,.int ((d:Int)+1),plD nn p1 p2,.loc nk,zp blk,goD p,.int v] h=.ok g.d h'/\Feed nf h'/\Mv nf h h'/\Gd (Nm c) (q0 c p1 p2) blk ⟨kn,p⟩ g/\Szd g (d+1):=by
 have n0:=jF s.nm 0 102 102;have n1:=jF s.nm 1 102 102;have n2:=jF s.nm 2 102 102;have tu:∀ (h':Hh) (gs:List G),jk (.loc h'.length) (h'++[O.lst (G.ds gs)])=some (G.ds gs):=λ h' gs=>by simp only [jk];rw [Zq];rfl
 have dc:∀ (f:Str) (o:XX) (gs:List G),(G.nd (.call f o) gs).d=.tup [.str "call",.str f,zp o,.tup (G.ds gs)]:=λ f o gs=>by rw [G.d];rfl
 cases z0:(v%4==0) with
 | true =>
  obtain ⟨gs,h',k1,F1,M1,w1,l1⟩:=C p blk kn nk p1 h hb s hk hn hl 103;obtain ⟨g1,g2⟩:=Ji (f:=nmF c 0) (o:=none) (qs:=q0 c p1 p2) (blk:=blk) ⟨wJ c 0,trivial,.inr ⟨OZ hb 102,false,by rw [l1];exact z81 c p1 p2,rfl⟩⟩ w1 103;refine ⟨_,h'++[.lst (G.ds gs)],?_,F1.gr _,Mv.trans nf _ _ _ M1 (Mv.gr nf _ _),g1,g2⟩;rw [dc];exact ze (zb (d:=.loc nn) rfl (ji (z4 (bnd rfl (bnd rfl mdk)) rfl (z0▸eqI)) (zk (bnd (bnd rfl (bnd (bnd (bnd rfl (bnd rfl n0)) (bnd (bnd rfl (bnd (bnd (wI (bnd rfl (bnd rfl k1)) (tu _ _)) 112) rfl)) rfl)) rfl)) rfl))))
 | false =>
  obtain ⟨hx,hx1,hx2,hd⟩:∃ x:Str,PyData.strOk x=true/\(blk=some x\/(blk≠some x/\IsD (q0 c p1 p2) x 1 false))/\∀ o,Ss.run cl (zH 4 d_law_call.body) [some (.loc nf),some (.int ((d:Int)+1)),some (plD nn p1 p2),some (.loc nk),some (zp blk),some (goD p),some (.int v),some (.loc nn),some (.str x)] h=o->Ss.run cl d_law_call.body [some (.loc nf),some (.int ((d:Int)+1)),some (plD nn p1 p2),some (.loc nk),some (zp blk),some (goD p),some (.int v),none,none] h=o:=by
   have T0:∀ {b1 b2:Option D},E.evT cl (.cmp .Eq (.bin .Mod (.var 6 ⟨140,7,140,21⟩) (.int 4 ⟨140,24,140,25⟩) ⟨140,7,140,25⟩) (.int 0 ⟨140,29,140,30⟩) ⟨140,7,140,30⟩) [some (.loc nf),some (.int ((d:Int)+1)),some (plD nn p1 p2),some (.loc nk),some (zp blk),some (goD p),some (.int v),b1,b2] h=.ok false h:=(z4 (bnd rfl (bnd rfl mdk)) rfl (z0▸eqI));have T2:∀ {t:Bool}{b1 b2:Option D},(v/4%2==1)=t->E.evT cl (.cmp .Eq (.bin .Mod (.bin .FloorDiv (.var 6 ⟨143,34,143,48⟩) (.int 4 ⟨143,52,143,53⟩) ⟨143,34,143,53⟩) (.int 2 ⟨143,56,143,57⟩) ⟨143,34,143,57⟩) (.int 1 ⟨143,61,143,62⟩) ⟨143,34,143,62⟩) [some (.loc nf),some (.int ((d:Int)+1)),some (plD nn p1 p2),some (.loc nk),some (zp blk),some (goD p),some (.int v),b1,b2] h=.ok t h:=λ z=>z4 (bnd 109 (bnd rfl mdk)) rfl (z▸eqI);rcases hb with rfl | rfl
   ·exact ⟨nmF c 1,wJ c 1,.inr ⟨(λ z=>by cases z),z5q c p1 p2⟩,λ o k=>zb (d:=.loc nn) rfl (za T0 (zb (bnd rfl (bnd rfl n1)) (za (zP (z4 rfl rfl rfl)) k)))⟩
   ·cases zz:(v/4%2==1) with
    | true=>exact ⟨nmF c 9,wJ c 9,.inl rfl,λ o k=>zb (d:=.loc nn) rfl (za T0 (zb (bnd rfl (bnd rfl n1)) (wx (jD (z4 rfl rfl rfl) (T2 zz)) (zb rfl rfl) k)))⟩
    | false=>exact ⟨nmF c 1,wJ c 1,.inr ⟨λ z=>ja c 102 102 102 (Option.some.inj z),z5q c p1 p2⟩,λ o k=>zb (d:=.loc nn) rfl (za T0 (zb (bnd rfl (bnd rfl n1)) (za (jD (z4 rfl rfl rfl) (T2 zz)) k)))⟩
  cases z1:(v%4==1) with
  | true =>
   obtain ⟨gs,h',k1,F1,M1,w1,l1⟩:=C p blk kn nk 1 h hb s hk hn hl 102;have co:qN (q0 c p1 p2) blk hx none gs.length:=by
    rw [l1];refine ⟨hx1,trivial,?_⟩;rcases hx2 with z | ⟨z,w⟩
    ·exact .inl ⟨z,rfl,rfl⟩
    ·exact .inr ⟨z,false,w,rfl⟩
   obtain ⟨g1,g2⟩:=Ji co w1 103;refine ⟨_,h'++[.lst (G.ds gs)],?_,F1.gr _,Mv.trans nf _ _ _ M1 (Mv.gr nf _ _),g1,g2⟩;rw [dc];exact ze (hd _ (ji (z4 (bnd rfl (bnd rfl mdk)) rfl (z1▸eqI)) (zk (bnd (bnd rfl (bnd (bnd rfl (bnd (bnd rfl (bnd (bnd (wI (bnd rfl (bnd rfl k1)) (tu _ _)) 112) rfl)) rfl)) rfl)) rfl))))
  | false =>
   obtain ⟨gs,h',k1,F1,M1,w1,l1⟩:=C p blk kn nk p2 h hb s hk hn hl 103;have co:qN (q0 c p1 p2) blk (nmF c 2) (some hx) gs.length:=by
    rw [l1];refine ⟨wJ c 2,hx1,.inr ⟨OZ hb 102,true,z82 c p1 p2,rfl,?_⟩⟩;rcases hx2 with z | ⟨z,w⟩
    ·exact .inl z
    ·exact .inr w
   obtain ⟨g1,g2⟩:=Ji co w1 103;refine ⟨_,h'++[.lst (G.ds gs)],?_,F1.gr _,Mv.trans nf _ _ _ M1 (Mv.gr nf _ _),g1,g2⟩;rw [dc];exact ze (hd _ (za (z4 (bnd rfl (bnd rfl mdk)) rfl (z1▸eqI)) (zk (bnd (bnd rfl (bnd (bnd (bnd rfl (bnd rfl n2)) (bnd (bnd rfl (bnd (bnd (wI (bnd rfl (bnd rfl k1)) (tu _ _)) 112) rfl)) rfl)) rfl)) rfl))))
section
variable {al:XU}{qs:108}{blk:XX}{c:Ct}
theorem wF {al:XU}{k:Kd}{ps:List G}(hk:k.ok ps.length=true)(hl:wS al qs blk c k ps.length)(h1:k.isLet=false)(h2:k.isHd=false)(hg:∀ g∈ps,Gd al qs blk c g):Gd al qs blk c (.nd k ps):=by
 refine .mk c k ps hk hl ?_;intro q hq
 have:zJ c k ps=ps.map λ g=>(g,c):=by cases k<;>first | rfl | (cases h1;done) | (cases h2;done)
 rw [this] at hq;obtain ⟨g,hm,rfl⟩:=Y0e.mp hq;exact hg g hm
theorem B0 {al:XU}{x:Str}{a b:G}(hx:x∈al)(ha:Gd al qs blk c a)(hb:Gd al qs blk ⟨c.kn++[x],c.pl⟩ b):Gd al qs blk c (.nd (.lett x) [a,b]):=by
 refine .mk c _ _ rfl hx ?_;intro q hq;simp [zJ] at hq;rcases hq with rfl | rfl
 ·exact ha
 ·exact hb
theorem z83 {al:XU}{x:Str}{a b:G}(hx:IsH qs x)(hp:c.pl≠.en)(ha:Gd al qs blk c a)(hb:Gd al qs blk ⟨c.kn,.fr⟩ b):Gd al qs blk c (.nd (.handle x) [a,b]):=by
 refine .mk c _ _ rfl ⟨hx,hp⟩ ?_;intro q hq;simp [zJ] at hq;rcases hq with rfl | rfl
 ·exact ha
 ·exact hb
end
noncomputable def C16 (nf:Nat)(cl:101):Prop:=∀ h,Feed nf h->∃ v h',cl 16 [.loc nf] h=.ok (.int v) h'/\Feed nf h'/\Mv nf h h'/\0<=v/\v<2147483647
noncomputable def C19 (cl:101):Prop:=∀ {al:XU}{qs:108}{blk:XX} (p:Pl) (v:Int),0<=v/\v<2147483647->∀ {nk:Nat}{kn:XU}{h:Hh},jW nk kn h->kn.length<=1000->∃ g,cl 19 [.int v,.loc nk] h=.ok g.d h/\Gd al qs blk ⟨kn,p⟩ g/\g.size<=1
theorem Jj {nf nn:Nat}{c:Int}{p1 p2:Nat}{cl:101}{e:Nat}(C:yY nf nn c p1 p2 cl e)(T:Str)(p:Pl)(blk:XX)(kn:XU)(nk m:Nat)(h:Hh)(hb:jp c blk)(s:Sh nf nn c h)(hk:jW nk kn h)(hn:nk≠nf)(hl:kn.length+e<=100)(hm:m<=3) :
  ∃ gs h',cl 18 [.loc nf,.int ((e:Int)+1),plD nn p1 p2,.loc nk,zp blk,goD p,.int (m:Nat)] (h++[.lst [.str T]])=.ok (.loc h'.length) (h'++[.lst (G.ds gs)]) /\
   zw .Add 115 (.loc h'.length) (h'++[.lst (G.ds gs)])=.ok (.loc (h'.length+1)) (h'++[.lst (G.ds gs),.lst (.str T::G.ds gs)])/\jk (.loc (h'.length+1)) (h'++[.lst (G.ds gs),.lst (.str T::G.ds gs)])=some (.str T::G.ds gs) /\
   Feed nf (h'++[.lst (G.ds gs),.lst (.str T::G.ds gs)])/\Mv nf h (h'++[.lst (G.ds gs),.lst (.str T::G.ds gs)])/\(∀ g∈gs,Gd (Nm c) (q0 c p1 p2) blk ⟨kn,p⟩ g/\Szd g e)/\gs.length=m:=by
 obtain ⟨gs,h',k1,F1,M1,w1,l1⟩:=C p blk kn nk m (h++[.lst [.str T]]) hb (s.gr _) (zf hk) hn hl hm;have lt:=s.lt;have g1:h'[h.length]?=some (.lst [.str T]):=M1.2 h.length _ 103 (by rw [hx0];rfl);refine ⟨gs,h',k1,?_,?_,F1.gr _,Mv.trans nf _ _ _ (Mv.trans nf _ _ _ (Mv.gr nf h [.lst [.str T]]) M1) (Mv.gr nf _ _),w1,l1⟩
 ·have g2:(h'++[O.lst (G.ds gs)])[h.length]?=some (.lst [.str T]):=zf g1;have g3:(h'++[O.lst (G.ds gs)])[h'.length]?=some (.lst (G.ds gs)):=by rw [hx0];rfl
  rw [bin_addl];rw [g2,g3];simp only;rw [if_pos (by simp [qJ];omega)];simp
 ·simp only [jk];rw [rdx];rfl
theorem z5v (i:Int)(h0:0<=i)(h1:i<4):∃ w,∀ h,zC (.str (Str.ofString "+-*<")) (.int i) h=.ok (.str w) h:=by
 have hi:i=0\/i=1\/i=2\/i=3:=by omega
 have hl:(Str.ofString "+-*<").length<=1000000:=by decide
 rcases hi with rfl | rfl | rfl | rfl
 ·exact ⟨⟨#[43]⟩,λ h=>by simp only [zC];rw [if_pos hl];rfl⟩
 ·exact ⟨⟨#[45]⟩,λ h=>by simp only [zC];rw [if_pos hl];rfl⟩
 ·exact ⟨⟨#[42]⟩,λ h=>by simp only [zC];rw [if_pos hl];rfl⟩
 ·exact ⟨⟨#[60]⟩,λ h=>by simp only [zC];rw [if_pos hl];rfl⟩
theorem Y7 (k:Kd)(gs:List G)(h:k=.ite\/k=.go\/k=.guard):(G.nd k gs).d=.tup (.str k.tag::G.ds gs):=by
 rw [G.d];rcases h with rfl | rfl | rfl<;>rfl
section
variable {nf nn:Nat}{c:Int}{p1 p2:Nat}
theorem Gb (cl:101)(d:Int)(PL K B GO:D)(v:Int)(h h1:Hh)(k16:cl 16 [.loc nf] h=.ok (.int v) h1)(a0:∀ h,zC PL (.int 0) h=.ok (.loc nn) h) :
  d_law_good.run cl [.loc nf,.int d,PL,K,B,GO] h=JF (Ss.run cl (zH 3 d_law_good.body) [some (.loc nf),some (.int d),some PL,some K,some B,some GO,some (.int v),some (.int (v%12)),some (.loc nn),none,none,none,none] h1):=by
 have e:d_law_good.run cl [.loc nf,.int d,PL,K,B,GO] h=JF (Ss.run cl d_law_good.body [some (.loc nf),some (.int d),some PL,some K,some B,some GO,none,none,none,none,none,none,none] h):=rfl;have m12:∀ h,zw .Mod (.int v) (.int 12) h=.ok (.int (v%12)) h:=λ h=>by rw [bin_mod,if_pos 102]
 exact e.trans (congrArg JF (zb (bnd rfl (bnd rfl k16)) (zb (bnd rfl (bnd rfl (m12 _))) (zb (bnd rfl (bnd rfl (a0 _))) rfl))))
theorem z1s (cl:101)(d:Nat)(PL B GO:D)(v:Int)(hv:0<=v/\v<2147483647)(c19:C19 cl)(p:Pl)(blk:XX)(kn:XU)(nk:Nat)(h1:Hh)(F1:Feed nf h1)(hk:jW nk kn h1)(hl:kn.length<=1000)
  (hleaf:(d:Int)=0\/(∃ xs:List Int,h1[nf]?=some (.lst (xs.map .int))/\xs.length=0)\/v%12<2) :
  ∃ g,JF (Ss.run cl (zH 3 d_law_good.body) [some (.loc nf),some (.int d),some PL,some (.loc nk),some B,some GO,some (.int v),some (.int (v%12)),some (.loc nn),none,none,none,none] h1)=.ok g.d h1/\Gd (Nm c) (q0 c p1 p2) blk ⟨kn,p⟩ g/\g.size<=1:=by
 obtain ⟨g,k1,k2,k3⟩:=c19 (qs:=q0 c p1 p2) (blk:=blk) p (v/12) 103 hk hl;refine ⟨g,?_,k2,k3⟩;obtain ⟨xs,x1,_,_⟩:=F1;have ln:yh (.loc nf) h1=.ok (.int (xs.length:Nat)) h1:=by rw [len_loc,zO x1];simp
 have rt:∀ {a b d' e f i:Pos},Ss.run cl (.cons (.ret (.call 19 (.bin .FloorDiv (.var 6 a) (.int 12 b) d') (.cons (.var 3 e) .nil) f i) i) .nil) [some (.loc nf),some (.int d),some PL,some (.loc nk),some B,some GO,some (.int v),some (.int (v%12)),some (.loc nn),none,none,none,none] h1=.rt g.d h1:=zk (bnd 109 (bnd rfl k1));cases z1:((d:Int)==0) with
 | true=>exact ze (ji (z34 (z4 rfl rfl (z1▸eqI))) rt)
 | false =>
  cases z2:((xs.length:Int)==0) with
  | true=>exact ze (ji (z7v (z4 rfl rfl (z1▸eqI)) (z4 (bnd rfl ln) rfl (z2▸eqI))) rt)
  | false =>
   have z3:v%12<2:=by
    rcases hleaf with q | ⟨ys,y1,y2⟩ | q
    ·rw [q] at z1;cases z1
    ·rw [x1] at y1
     have:(xs.map D.int).length=(ys.map D.int).length:=by rw [O.lst.inj (Option.some.inj y1)]
     rw [Y09,Y09] at this;rw [this,y2] at z2;cases z2
    ·exact q
   exact ze (ji (z35 (z4 rfl rfl (z1▸eqI)) (z4 (bnd rfl ln) rfl (z2▸eqI)) (z4 rfl rfl (decide_eq_true z3▸rfl))) rt)
theorem z1t (cl:101)(e:Nat)(PL K B GO:D)(v f:Int)(hf:v%12=f)(hf2:2<=f)(h1:Hh)(xs:List Int)(x1:h1[nf]?=some (.lst (xs.map .int)))(x0:xs.length≠0) :
  Ss.run cl (zH 3 d_law_good.body) [some (.loc nf),some (.int ((e:Int)+1)),some PL,some K,some B,some GO,some (.int v),some (.int (v%12)),some (.loc nn),none,none,none,none] h1 =
  Ss.run cl (zH 4 d_law_good.body) [some (.loc nf),some (.int ((e:Int)+1)),some PL,some K,some B,some GO,some (.int v),some (.int f),some (.loc nn),none,none,none,none] h1:=by
 have ln:yh (.loc nf) h1=.ok (.int (xs.length:Nat)) h1:=by rw [len_loc,zO x1];simp
 have e1:zy .Eq (.int ((e:Int)+1)) (.int 0) h1=.ok (.bl false) h1:=by
  rw [eqI]
  have:((e:Int)+1==0)=false:=by simp;omega
  rw [this]
 have e2:zy .Eq (.int (xs.length:Nat)) (.int 0) h1=.ok (.bl false) h1:=by
  rw [eqI]
  have:((xs.length:Int)==0)=false:=by simp;intro z;rw [z] at x0;exact x0 rfl
  rw [this]
 have lt:∀ h,zy .Lt (.int f) (.int 2) h=.ok (.bl false) h:=λ h=>by
  rw [cmp_lt,decide_eq_false 103]
 rw [hf];exact za (z35 (z4 rfl rfl e1) (z4 (bnd rfl ln) rfl e2) (z4 rfl rfl (lt _))) rfl
end
section
variable {nf nn:Nat}{c:Int}{p1 p2:Nat}
theorem z1u (cl:101)(e:Nat)(CG:jK nf nn c p1 p2 cl e)(CS:yY nf nn c p1 p2 cl e)(CC:WZ nf nn c p1 p2 cl e)(p:Pl)(blk:XX)(kn:XU)(nk:Nat)(h1:Hh)(hb:jp c blk)(s:Sh nf nn c h1)(hk:jW nk kn h1)(hn:nk≠nf)(hl:kn.length+(e+1)<=100)
  (v f:Int) (hf:2<=f/\f<12) :
  ∃ g h',JF (Ss.run cl (zH 4 d_law_good.body) [some (.loc nf),some (.int ((e:Int)+1)),some (plD nn p1 p2),some (.loc nk),some (zp blk),some (goD p),some (.int v),some (.int f),some (.loc nn),none,none,none,none] h1)=.ok g.d h'/\Feed nf h'/\Mv nf h1 h'/\Gd (Nm c) (q0 c p1 p2) blk ⟨kn,p⟩ g/\Szd g (e+1):=by
 have hl':kn.length+e<=100:=Y0j (Y2l _) hl;have hl1:kn.length+1+e<=100:=by rw [Nat.add_right_comm];exact hl
 have f12:∀ h,zw .FloorDiv (.int v) (.int 12) h=.ok (.int (v/12)) h:=λ h=>by rw [bin_fdiv,if_pos 102]
 have sb:∀ h,zw .Sub (.int ((e:Int)+1)) (.int 1) h=.ok (.int (e:Nat)) h:=λ h=>by
  rw [bin_sub]
  have:(e:Int)+1-1=e:=by omega
  rw [this]
 have d2:∀ (k:Kd) (a b:G),(G.nd k [a,b]).d=k.enc [a.d,b.d]:=λ k a b=>by simp [G.d,G.ds]
 have d1:∀ (k:Kd) (a:G),(G.nd k [a]).d=k.enc [a.d]:=λ k a=>by simp [G.d,G.ds]
 have tg:∀ {ρ:En}{x:Str}{q0 q1 q2 q3 q4:Pos}{e:E}{n:Nat}{l:List D}{t:D}{h2 h3:Hh},e.ev cl ρ (h1++[.lst [.str x]])=.ok (.loc n) h2->zw .Add (.loc h1.length) (.loc n) h2=.ok t h3->jk t h3=some l->E.ev cl (.tupE (.bin .Add (.ofL (.disp (.cons (.str x q0) .nil) q1)) e q2) q3 q4) ρ h1=.ok (.tup l) h3:=by
  intro ρ x q0 q1 q2 q3 q4 e n l t h2 h3 a1 a2 a3;refine bnd (bnd rfl (bnd a1 a2)) ?_;show (match jk t h3 with | some xs=>Res.ok (D.tup xs) h3 | none=>.no)=_
  rw [a3]
 have cs:f=2\/f=3\/f=4\/(f=5\/f=6)\/(f=7\/f=8)\/f=9\/f=10\/f=11:=by
  obtain ⟨m,rfl⟩:=Int.eq_ofNat_of_zero_le (Int.le_trans 102 hf.1);exact (by decide:∀ m:Nat,m<12->2<=m->((m:Int)=2\/(m:Int)=3\/(m:Int)=4\/((m:Int)=5\/(m:Int)=6)\/((m:Int)=7\/(m:Int)=8)\/(m:Int)=9\/(m:Int)=10\/(m:Int)=11)) m (Y3h.mp hf.2) (Int.ofNat_le.mp hf.1)
 have lst:∀ {g:G}{a b:G},g∈[a,b]->g=a\/g=b:=λ hg=>by simpa using hg
 rcases cs with q | q | q | q | q | q | q | q
 ·
  subst q;obtain ⟨gs,h',k1,F1,M1,w1,l1⟩:=CS p blk kn nk 2 h1 hb s hk hn hl' 102;obtain ⟨a,b,rfl⟩:∃ a b,gs=[a,b]:=ZX (P:=λ gs=>∃ a b,gs=[a,b]) (λ a b=>⟨a,b,rfl⟩) gs l1;obtain ⟨w,hw⟩:=z5v (v/12%4) (Y18 _ 102) (Y17 _ 102);have r1:rd (h'++[O.lst (G.ds [a,b])]) h'.length=some [a.d,b.d]:=by rw [Zq];rfl
  have un:yQ (.loc h'.length) (h'++[O.lst (G.ds [a,b])])=.tup [a.d,b.d]:=by show (match rd (h'++[O.lst (G.ds [a,b])]) h'.length with | some xs=>D.tup xs | none=>_)=_;rw [r1]
  have m4:∀ h,zw .Mod (.int (v/12)) (.int 4) h=.ok (.int (v/12%4)) h:=λ h=>by rw [bin_mod,if_pos 102]
  refine ⟨.nd (.op w) [a,b],h'++[.lst (G.ds [a,b])],ze ?_,F1.gr _,Mv.trans nf _ _ _ M1 (Mv.gr nf _ _),wF rfl trivial rfl rfl λ g hg=>(w1 g hg).1,qO (λ g hg=>(w1 g hg).2) (show 2<=3 by decide)⟩;rw [d2];refine ji (zF rfl rfl) ?_;refine OD k1 (ρ':=[some (.loc nf),some (.int ((e:Int)+1)),some (plD nn p1 p2),some (.loc nk),some (zp blk),some (goD p),some (.int v),some (.int 2),some (.loc nn),some a.d,some b.d,none,none]) (by rw [un];rfl) (zk ?_);exact bnd (bnd rfl (bnd (bnd (bnd rfl (bnd (bnd (bnd rfl (bnd rfl (f12 _))) (bnd rfl (m4 _))) (hw _))) (bnd (rfl) rfl)) rfl)) rfl
 ·
  subst q;obtain ⟨ga,h2,k2,F2,M2,wa,sa⟩:=CG p blk kn nk h1 hb s hk hn hl';have s2:=s.mv F2 M2;obtain ⟨i,hi⟩:∃ i,i=v/12%12:=117;have hk2:jW nk kn h2:=M2.2 nk _ hn hk;have n1:=jF s2.nm i (hi▸Y18 _ 102) (hi▸Y17 _ 102);generalize hx:nmF c i.toNat=x at n1;have lt2:=s2.lt;obtain ⟨gb,h3,k3,F3,M3,wb,sbz⟩:=CG p blk (kn++[x]) (h2.length+1) (h2++[.lst [.str x],.lst ((kn++[x]).map .str)]) hb (s2.gr _) (by unfold jW;rw [PI.hx];rfl) 103 (by rw [Y0k];exact hl1);refine ⟨.nd (.lett x) [ga,gb],h3,ze ?_,F3,Mv.trans nf _ _ _ M2 (Mv.trans nf _ _ _ (Mv.gr nf _ _) M3),B0 (by rw [<- hx];exact Y0e.mpr ⟨i.toNat,Y1a.mpr (by rw [hi];omega),rfl⟩) wa wb,qO (λ g hg=>(lst hg).elim (λ z=>z▸sa) (λ z=>z▸sbz)) (show 2<=3 by decide)⟩;have m12:∀ h,zw .Mod (.int (v/12)) (.int 12) h=.ok (.int i) h:=λ h=>by rw [bin_mod,if_pos 102,hi]
  have ad:zw .Add (.loc nk) (.loc h2.length) (h2++[.lst [.str x]])=.ok (.loc (h2.length+1)) (h2++[.lst [.str x],.lst ((kn++[x]).map .str)]):=by
   have g2:(h2++[O.lst [.str x]])[nk]?=some (.lst (kn.map .str)):=zf hk2;have g3:(h2++[O.lst [.str x]])[h2.length]?=some (.lst [.str x]):=by rw [PI.hx0];rfl
   rw [bin_addl];rw [g2,g3];simp only;rw [if_pos (by rw [Y09];exact Y0j (Y0j (Nat.le_add_right _ e) hl1) 102),Y0k,Y07,Y0w];rfl
  rw [d2];refine za (zF rfl rfl) (ji (zF rfl rfl) ?_);refine zb (bnd rfl (bnd (bnd (bnd rfl (bnd rfl (sb _))) (bnd (rfl) rfl)) k2)) (zb (bnd rfl (bnd (bnd (bnd rfl (bnd rfl (f12 _))) (bnd rfl (m12 _))) n1)) (zk ?_));exact bnd (bnd rfl (bnd (bnd rfl (bnd (bnd rfl (bnd (bnd (bnd rfl (bnd (bnd (bnd rfl (bnd rfl (sb _))) (bnd (bnd rfl (bnd (bnd (bnd rfl (bnd rfl ad)) (bnd (rfl) rfl)) rfl)) rfl)) k3)) (bnd (rfl) rfl)) rfl)) rfl)) rfl)) rfl
 ·
  subst q;obtain ⟨gs,h',k1,k2,k3,F1,M1,w1,l1⟩:=Jj CS "if" p blk kn nk 3 h1 hb s hk hn hl' 102;refine ⟨.nd .ite gs,_,ze ?_,F1,M1,wF (by rw [l1];rfl) trivial rfl rfl λ g hg=>(w1 g hg).1,qO (λ g hg=>(w1 g hg).2) (by rw [l1];decide)⟩;rw [Y7 .ite gs (.inl rfl)];exact za (zF rfl rfl) (za (zF rfl rfl) (ji (zF rfl rfl) (zk (tg k1 k2 k3))))
 ·
  obtain ⟨g,h',k1,F1,M1,w1,w2⟩:=CC p blk kn nk (v/12) h1 hb s hk hn hl';refine ⟨g,h',ze ?_,F1,M1,w1,w2⟩;have c1:(f==2)=false/\(f==3)=false/\(f==4)=false/\decide (f<7)=true:=by rcases q with rfl | rfl<;>decide
  refine za (zF rfl c1.1) (za (zF rfl c1.2.1) (za (zF rfl c1.2.2.1) (ji (wQ rfl c1.2.2.2) (zk ?_))));exact bnd rfl (bnd (bnd rfl (bnd (bnd rfl (bnd (bnd rfl (bnd (bnd rfl (bnd (bnd rfl (bnd (bnd (bnd rfl (bnd rfl (f12 _))) (bnd (rfl) rfl)) rfl)) rfl)) rfl)) rfl)) rfl)) k1)
 ·
  obtain ⟨i,hi⟩:∃ i,i=6+v/12%3:=117;have n1:=jF s.nm i 103 103;obtain ⟨ga,h2,k2,F2,M2,wa,sa⟩:=CG p blk kn nk h1 hb s hk hn hl';refine ⟨.nd (.doo (nmF c i.toNat)) [ga],h2,ze ?_,F2,M2,wF rfl trivial rfl rfl (λ g hg=>by rw [Y0d.mp hg];exact wa),qO (λ g hg=>by rw [Y0d.mp hg];exact sa) (show 1<=3 by decide)⟩;have c1:(f==2)=false/\(f==3)=false/\(f==4)=false/\decide (f<7)=false/\decide (f<9)=true:=by rcases q with rfl | rfl<;>decide
  have m3:∀ h,zw .Mod (.int (v/12)) (.int 3) h=.ok (.int (v/12%3)) h:=λ h=>by rw [bin_mod,if_pos 102]
  have a6:∀ h,zw .Add (.int 6) (.int (v/12%3)) h=.ok (.int i) h:=λ h=>by rw [bin_add,hi]
  rw [d1];refine za (zF rfl c1.1) (za (zF rfl c1.2.1) (za (zF rfl c1.2.2.1) (za (wQ rfl c1.2.2.2.1) (ji (wQ rfl c1.2.2.2.2) (zk ?_)))));exact bnd (bnd rfl (bnd (bnd (bnd rfl (bnd (bnd rfl (bnd (bnd (bnd rfl (bnd rfl (f12 _))) (bnd rfl (m3 _))) (a6 _))) n1)) (bnd (bnd (bnd rfl (bnd (bnd (bnd rfl (bnd rfl (sb _))) (bnd (rfl) rfl)) k2)) (bnd (rfl) rfl)) rfl)) rfl)) rfl
 ·
  subst q;cases hp:p with
  | en =>
   obtain ⟨gs,h',k1,k2,k3,F1,M1,w1,l1⟩:=Jj CS "guard" p blk kn nk 2 h1 hb s hk hn hl' 102;rw [hp] at k1 w1;refine ⟨.nd .guard gs,_,ze ?_,F1,M1,wF (by rw [l1];rfl) trivial rfl rfl λ g hg=>(w1 g hg).1,qO (λ g hg=>(w1 g hg).2) (by rw [l1];decide)⟩;rw [Y7 .guard gs (.inr (.inr rfl))];exact za (zF rfl rfl) (za (zF rfl rfl) (za (zF rfl rfl) (za (wQ rfl rfl) (za (wQ rfl rfl) (za (jD (zF rfl rfl) rfl) (OE (zF rfl rfl) (zk (tg k1 k2 k3)))) ))))
  | _ =>
   obtain ⟨i,hi⟩:∃ i,i=3+v/12%2:=117;obtain ⟨ga,h2,k2,F2,M2,wa,sa⟩:=CG p blk kn nk h1 hb s hk hn hl';have s2:=s.mv F2 M2;have n1:=jF s2.nm i 103 103;obtain ⟨gb,h3,k3,F3,M3,wb,sbz⟩:=CG .fr blk kn nk h2 hb s2 (M2.2 nk _ hn hk) hn hl';rw [hp] at k2 wa;have hi2:i.toNat=3\/i.toNat=4:=by omega
   refine ⟨.nd (.handle (nmF c i.toNat)) [ga,gb],h3,ze ?_,F3,Mv.trans nf _ _ _ M2 M3,z83 (OY c p1 p2 _ hi2) (by intro z;cases z) wa wb,qO (λ g hg=>(lst hg).elim (λ z=>z▸sa) (λ z=>z▸sbz)) (show 2<=3 by decide)⟩;have m2:∀ h,zw .Mod (.int (v/12)) (.int 2) h=.ok (.int (v/12%2)) h:=λ h=>by rw [bin_mod,if_pos 102]
   have a3:∀ h,zw .Add (.int 3) (.int (v/12%2)) h=.ok (.int i) h:=λ h=>by rw [bin_add,hi]
   rw [d2];refine za (zF rfl rfl) (za (zF rfl rfl) (za (zF rfl rfl) (za (wQ rfl rfl) (za (wQ rfl rfl) (ji (jD (zF rfl rfl) rfl) ?_)))));refine zb (bnd rfl (bnd (bnd (bnd rfl (bnd rfl (sb _))) (bnd (rfl) rfl)) k2)) (zk ?_);exact bnd (bnd rfl (bnd (bnd (bnd rfl (bnd (bnd rfl (bnd (bnd (bnd rfl (bnd rfl (f12 _))) (bnd rfl (m2 _))) (a3 _))) n1)) (bnd (bnd rfl (bnd (bnd (bnd rfl (bnd (bnd (bnd rfl (bnd rfl (sb _))) (bnd (rfl) rfl)) k3)) (bnd (rfl) rfl)) rfl)) rfl)) rfl)) rfl
 ·
  subst q;cases hp:p with
  | cl =>
   obtain ⟨gs,h',k1,k2,k3,F1,M1,w1,l1⟩:=Jj CS "go" p blk kn nk 2 h1 hb s hk hn hl' 102;rw [hp] at k1 w1;refine ⟨.nd .go gs,_,ze ?_,F1,M1,wF (by rw [l1];rfl) rfl rfl rfl λ g hg=>(w1 g hg).1,qO (λ g hg=>(w1 g hg).2) (by rw [l1];decide)⟩;rw [Y7 .go gs (.inr (.inl rfl))];exact za (zF rfl rfl) (za (zF rfl rfl) (za (zF rfl rfl) (za (wQ rfl rfl) (za (wQ rfl rfl) (za (zP (zF rfl rfl)) (z5f (zF rfl rfl) rfl (zk (tg k1 k2 k3)))) ))))
  | _ =>
   obtain ⟨gs,h',k1,k2,k3,F1,M1,w1,l1⟩:=Jj CS "guard" p blk kn nk 2 h1 hb s hk hn hl' 102;rw [hp] at k1 w1;refine ⟨.nd .guard gs,_,ze ?_,F1,M1,wF (by rw [l1];rfl) trivial rfl rfl λ g hg=>(w1 g hg).1,qO (λ g hg=>(w1 g hg).2) (by rw [l1];decide)⟩;rw [Y7 .guard gs (.inr (.inr rfl))];exact za (zF rfl rfl) (za (zF rfl rfl) (za (zF rfl rfl) (za (wQ rfl rfl) (za (wQ rfl rfl) (za (zP (zF rfl rfl)) (z5e (zF rfl rfl) (by first | exact .inl rfl | exact .inr rfl) (zk (tg k1 k2 k3)))) ))))
 ·
  subst q;obtain ⟨gs,h',k1,k2,k3,F1,M1,w1,l1⟩:=Jj CS "guard" p blk kn nk 2 h1 hb s hk hn hl' 102;refine ⟨.nd .guard gs,_,ze ?_,F1,M1,wF (by rw [l1];rfl) trivial rfl rfl λ g hg=>(w1 g hg).1,qO (λ g hg=>(w1 g hg).2) (by rw [l1];decide)⟩;rw [Y7 .guard gs (.inr (.inr rfl))];exact za (zF rfl rfl) (za (zF rfl rfl) (za (zF rfl rfl) (za (wQ rfl rfl) (za (wQ rfl rfl) (za (zP (zF rfl rfl)) (OE (zF rfl rfl) (zk (tg k1 k2 k3)))) ))))
end
section
variable {nf nn:Nat}{c:Int}{p1 p2:Nat}
theorem B1 (cl:101)(d:Nat)(c16:C16 nf cl)(c19:C19 cl)(hS:d=0\/∃ e,d=e+1/\jK nf nn c p1 p2 cl e/\yY nf nn c p1 p2 cl e/\WZ nf nn c p1 p2 cl e)(p:Pl)(blk:XX)(kn:XU)(nk:Nat)(h:Hh)(hb:jp c blk)(s:Sh nf nn c h)(hk:jW nk kn h)(hn:nk≠nf)(hl:kn.length+d<=100) :
  ∃ g h',d_law_good.run cl [.loc nf,.int (d:Nat),plD nn p1 p2,.loc nk,zp blk,goD p] h=.ok g.d h'/\Feed nf h'/\Mv nf h h'/\Gd (Nm c) (q0 c p1 p2) blk ⟨kn,p⟩ g/\Szd g d:=by
 obtain ⟨v,h1,k16,F1,M1,v0,v1⟩:=c16 h s.fd;have s1:=s.mv F1 M1;have hk1:jW nk kn h1:=M1.2 nk _ hn hk;have hd:=Gb (nn:=nn) cl (d:Nat) (plD nn p1 p2) (.loc nk) (zp blk) (goD p) v h h1 k16 (λ _=>rfl);obtain ⟨xs,x1,x2,x3⟩:=id F1;by_cases hleaf:(d:Int)=0\/(∃ xs:List Int,h1[nf]?=some (.lst (xs.map .int))/\xs.length=0)\/v%12<2
 ·obtain ⟨g,k1,k2,k3⟩:=z1s (c:=c) (p1:=p1) (p2:=p2) (nn:=nn) cl d (plD nn p1 p2) (zp blk) (goD p) v ⟨v0,v1⟩ c19 p blk kn nk h1 F1 hk1 103 hleaf;exact ⟨g,h1,hd.trans k1,F1,M1,k2,⟨Y0j k3 (z5r d),by have:=UZ g;omega⟩⟩
 ·have d0:d≠0:=λ z=>hleaf (.inl 103);obtain ⟨e,rfl,CG,CS,CC⟩:=hS.resolve_left d0;have x0:xs.length≠0:=λ z=>hleaf (.inr (.inl ⟨xs,x1,z⟩));have f2:2<=v%12:=by
   rcases Int.lt_or_le (v%12) 2 with z | z
   ·exact absurd (.inr (.inr z)) hleaf
   ·exact z
  have hh:=z1t (nf:=nf) (nn:=nn) cl e (plD nn p1 p2) (.loc nk) (zp blk) (goD p) v (v%12) rfl f2 h1 xs x1 x0;obtain ⟨g,h',k1,F2,M2,w1,w2⟩:=z1u cl e CG CS CC p blk kn nk h1 hb s1 hk1 hn 103 v (v%12) ⟨f2,by omega⟩;refine ⟨g,h',?_,F2,Mv.trans nf _ _ _ M1 M2,w1,w2⟩;have e1:((e+1:Nat):Int)=(e:Int)+1:=by omega
  rw [e1] at hd ⊢;rw [hd,hh];exact k1
theorem z84 (k:Nat):C16 nf (callI defs (k+1)):=λ h f=>by
 obtain ⟨v,h',e,r⟩:=z5n (callI defs k) nf h f;exact ⟨v,h',(z5 (d:=d_law_next) rfl rfl).trans e,r⟩
theorem z85 (k:Nat):C19 (callI defs (k+1)):=λ {al}{qs}{blk} p v hv {nk}{kn}{h} hk hl=>by
 obtain ⟨g,e,r⟩:=z5s (al:=al) (qs:=qs) (blk:=blk) (callI defs k) p v hv hk hl;exact ⟨g,(z5 (d:=d_law_leaf) rfl rfl).trans e,r⟩
theorem B2 (k d:Nat)(C:jK nf nn c p1 p2 (callI defs k) d):yY nf nn c p1 p2 (callI defs (k+1)) d:=λ p blk kn nk m h hb s hk hn hl hm=>by
 obtain ⟨gs,h',e,r⟩:=z5t (callI defs k) d C p blk kn nk m h hb s hk hn hl hm;exact ⟨gs,h',(z5 (d:=d_law_some) rfl rfl).trans e,r⟩
theorem z5w (h1:p1<=2)(h2:p2<=2)(k d:Nat)(C:yY nf nn c p1 p2 (callI defs k) d):WZ nf nn c p1 p2 (callI defs (k+1)) d:=λ p blk kn nk v h hb s hk hn hl=>by
 obtain ⟨g,h',e,r⟩:=z5u h1 h2 (callI defs k) d C p blk kn nk v h hb s hk hn hl;exact ⟨g,h',(z5 (d:=d_law_call) rfl rfl).trans e,r⟩
theorem qP (h1:p1<=2)(h2:p2<=2):∀ (d j:Nat),jK nf nn c p1 p2 (callI defs (3*d+3+j)) d
 | 0,j=>λ p blk kn nk h hb s hk hn hl=>by
  have e1:3*0+3+j=(j+1+1)+1:=by omega
  rw [e1];obtain ⟨g,h',e,r⟩:=B1 (p1:=p1) (p2:=p2) (callI defs (j+1+1)) 0 (z84 (j+1)) (z85 (j+1)) (.inl rfl) p blk kn nk h hb s hk hn hl;exact ⟨g,h',(z5 (d:=d_law_good) rfl rfl).trans e,r⟩
 | d+1,j=>λ p blk kn nk h hb s hk hn hl=>by
  have a1:=qP h1 h2 d (j+2);have a2:=qP h1 h2 d (j+1);have a3:=qP h1 h2 d j;have e1:3*(d+1)+3+j=(3*d+3+(j+1)+1)+1:=by omega
  have e2:3*d+3+(j+2)=3*d+3+(j+1)+1:=by omega
  rw [e2] at a1;have b2:=B2 (3*d+3+(j+1)) d a2;have b3:=B2 (3*d+3+j) d a3;have e3:3*d+3+j+1=3*d+3+(j+1):=by omega
  rw [e3] at b3;have b4:=z5w h1 h2 (3*d+3+(j+1)) d b3;rw [e1];obtain ⟨g,h',e,r⟩:=B1 (p1:=p1) (p2:=p2) (callI defs (3*d+3+(j+1)+1)) (d+1) (z84 _) (z85 _) (.inr ⟨d,rfl,a1,b2,b4⟩) p blk kn nk h hb s hk hn hl;exact ⟨g,h',(z5 (d:=d_law_good) rfl rfl).trans e,r⟩
end
noncomputable def z5x {α β:Type}(Q:α->β->Prop):List α->List β->Prop
 | [],[]=>True
 | a::r,b::s=>Q a b/\z5x Q r s
 | _,_=>False
theorem Wn {c:Ck}{f:D->Hh->Res (Option D)}(P:Hh->Prop)(R:Hh->Hh->Prop)(rr:∀ h,R h h)(rt:∀ a b d,R a b->R b d->R a d)(st:∀ h,P h->stay c h)(Q:D->D->Prop):∀ (xs acc:List D) (h:Hh),P h->(∀ x∈xs,∀ h,P h->∃ d h',f x h=.ok (some d) h'/\P h'/\R h h'/\Q x d) ->
  ∃ ds h',zE c f xs acc h=.ok (acc++ds) h'/\P h'/\R h h'/\z5x Q xs ds
 | [],acc,h,hp,_=>⟨[],h,by simp [zE,st h hp],hp,rr h,trivial⟩
 | x::r,acc,h,hp,hf=>by
  obtain ⟨d,h1,e1,p1,r1,q1⟩:=hf x (Y06 ..) h hp;obtain ⟨ds,h2,e2,p2,r2,q2⟩:=Wn P R rr rt st Q r (acc++[d]) h1 p1 λ y hy=>hf y (Y04 _ hy);refine ⟨d::ds,h2,?_,p2,rt _ _ _ r1 r2,q1,q2⟩;unfold zE;rw [if_pos (st h hp),e1,bind_ok,addO_some,e2];simp
theorem B3 {al:XU}{qs:108}{x s:Str}:∀ (dn:XU) (ds:List D),z5x (λ a b=>∃ g:G,∃ n:Str,a=D.str n/\b=D.tup [.str n,.str x,.str s,g.d]/\AnsG al qs .cl x s g) (dn.map D.str) ds ->
  ∃ cs:List Cl,ds=cs.map Cl.D/\cs.map Cl.d=dn/\∀ q∈cs,AnsG al qs .cl q.x q.s q.g
 | [],[],_=>⟨[],rfl,rfl,by simp⟩
 | n::r,d::ds,h=>by
  obtain ⟨⟨g,n',e1,e2,e3⟩,h2⟩:=h;obtain ⟨cs,c1,c2,c3⟩:=B3 r ds h2
  have:n=n':=D.str.inj e1
  subst this;refine ⟨⟨n,x,s,g⟩::cs,by rw [e2,c1];rfl,by rw [<- c2];rfl,λ q hq=>?_⟩;rcases Y03.mp hq with rfl | hq
  ·exact e3
  ·exact c3 q hq
section
variable {nf nn:Nat}{c:Int}{p1 p2:Nat}
noncomputable def HdG (c:Int)(p1 p2:Nat)(nm:Str)(dn:XU)(i:Itm):Prop:=∃ cs x s e,i=.hd nm cs x s e/\cs.map Cl.d=dn/\(∀ q∈cs,AnsG (Nm c) (q0 c p1 p2) .cl q.x q.s q.g)/\AnsG (Nm c) (q0 c p1 p2) .en x s e/\∃ g,e=.nd (.op "-") [.nd (.var x) [],g]
theorem Gc (cl:101)(C4:jK nf nn c p1 p2 cl 4)(C3:jK nf nn c p1 p2 cl 3)(nm:Str)(dn:XU)(nd:Nat)(v:Int)(h:Hh)(s:Sh nf nn c h)(hd:h[nd]?=some (.lst (dn.map .str)))(hnd:nd≠nf)(hdl:dn.length<=900) :
  ∃ i h',d_law_handler.run cl [.loc nf,plD nn p1 p2,.str nm,.loc nd,.int v] h=.ok i.d h'/\Feed nf h'/\Mv nf h h'/\HdG c p1 p2 nm dn i:=by
 obtain ⟨a,ha⟩:∃ a,a=v%12:=117;obtain ⟨b,hb⟩:∃ b,b=(v+1+v/12%11)%12:=117;have ab:a≠b:=by omega
 have na:=jF s.nm a 103 103;have nb:=jF s.nm b 103 103;have xs:nmF c a.toNat≠nmF c b.toNat:=ja c 103 103 103;have xin:nmF c a.toNat∈Nm c:=Y0e.mpr ⟨a.toNat,Y1a.mpr 103,rfl⟩;have yin:nmF c b.toNat∈Nm c:=Y0e.mpr ⟨b.toNat,Y1a.mpr 103,rfl⟩;generalize hX:nmF c a.toNat=x at na xs xin;generalize hS:nmF c b.toNat=y at nb xs yin;obtain ⟨ds,h1,k1,⟨s1,d1⟩,M1,q1⟩:=Wn (c:=[(nd,dn.map .str)]) (f:=zT Zs [none,some (.loc nf),some (plD nn p1 p2),some (.str y),some (.str x)] (λ ρ' h2=>c_law_handler_1.evC cl ρ' h2) (λ ρ' h2=>e_law_handler_1.ev cl ρ' h2))
  (λ h=>Sh nf nn c h/\h[nd]?=some (.lst (dn.map .str))) (Mv nf) (Mv.refl nf) (Mv.trans nf) (λ h p=>stay_one.mpr (zO p.2)) (λ a b=>∃ g:G,∃ n:Str,a=D.str n/\b=D.tup [.str n,.str x,.str y,g.d]/\AnsG (Nm c) (q0 c p1 p2) .cl x y g) (dn.map .str) [] h ⟨s,hd⟩ (by
   rintro z hz h ⟨sh,dh⟩
   obtain ⟨n,_,rfl⟩:=Y0e.mp hz;have lt:=sh.lt;obtain ⟨g,h2,k2,F2,M2,w1,w2⟩:=C4 .cl none [x,y] h.length (h++[.lst [.str x,.str y]]) (.inl rfl) (sh.gr _) (by unfold jW;rw [hx0];rfl) 103 110;have M2':=Mv.trans nf _ _ _ (Mv.gr nf h [.lst [.str x,.str y]]) M2;refine ⟨.tup [.str n,.str x,.str y,g.d],h2,?_,⟨sh.mv F2 M2',M2'.2 nd _ hnd dh⟩,M2',g,n,rfl,rfl,⟨xs,w1,Jh w2 102,xin,yin⟩⟩;exact zZ rfl rfl (bnd (bnd rfl (bnd (bnd rfl (bnd (bnd rfl (bnd (bnd (bnd rfl (bnd rfl k2)) 112) rfl)) rfl)) rfl)) rfl))
 obtain ⟨cs,rfl,c2,c3⟩:=B3 dn ds q1;rw [Y0l] at k1;have lt1:=s1.lt;obtain ⟨ge,h2,k2,F2,M2,w1,w2⟩:=C3 .en none [y,x] (h1++[O.lst (cs.map Cl.D)]).length (h1++[.lst (cs.map Cl.D)]++[.lst [.str y,.str x]]) (.inl rfl) ((s1.gr _).gr _) (by unfold jW;rw [hx0];rfl) (by rw [Y0k];exact Y2z (Y0o lt1 (Nat.le_add_right _ _))) (show 5<=100 by decide);have M2':Mv nf (h1++[.lst (cs.map Cl.D)]) h2:=Mv.trans nf _ _ _ (Mv.gr nf _ _) M2;have g2:h2[h1.length]?=some (.lst (cs.map Cl.D)):=M2'.2 h1.length _ 103 (by rw [hx0];rfl);have M3:Mv nf h h2:=Mv.trans nf _ _ _ M1 (Mv.trans nf _ _ _ (Mv.gr nf _ _) M2');have gv:Gd (Nm c) (q0 c p1 p2) none ⟨[y,x],.en⟩ (.nd (.var y) []):=yF rfl (by show y∈[y,x];simp);refine ⟨.hd nm cs y x (.nd (.op "-") [.nd (.var y) [],ge]),h2,?_,F2,M3,cs,y,x,_,rfl,c2,c3,⟨λ z=>xs z.symm,wF rfl trivial rfl rfl (λ g hg=>by simp at hg;rcases hg with rfl | rfl;exact gv;exact w1),?_,yin,xin⟩,ge,rfl⟩
 ·have m12:∀ h,zw .Mod (.int v) (.int 12) h=.ok (.int a) h:=λ h=>ha▸mdk 102;have m12':∀ h,zw .Mod (.int (v+1+v/12%11)) (.int 12) h=.ok (.int b) h:=λ h=>hb▸mdk 102;have rr:rd h nd=some (dn.map .str):=zO hd;have l1:(dn.map D.str).length<=1000000:=by simp;omega
  have sq:jk (.loc h1.length) h2=some (cs.map Cl.D):=by simp only [jk];exact zO g2
  exact ze (zb (d:=.loc nn) rfl (zb (bnd rfl (bnd (bnd rfl (bnd rfl (m12 _))) na)) (zb (bnd rfl (bnd (bnd (bnd rfl (bnd (bnd 109 (bnd rfl mdk)) rfl)) (bnd rfl (m12' _))) nb)) (zb (bnd (bnd (yv rfl rr) ((if_pos l1).trans k1)) rfl) (zb (bnd (bnd rfl (bnd (bnd rfl (bnd (bnd rfl (bnd (bnd (bnd rfl (bnd rfl k2)) 112) rfl)) rfl)) rfl)) rfl) (zk (bnd (bnd rfl (bnd (bnd rfl (bnd (bnd (wI rfl sq) 112) rfl)) rfl)) rfl)))))))
 ·exact Jh (qO (d:=3) (λ g hg=>by
   simp at hg;rcases hg with rfl | rfl
   ·exact ⟨by simp [G.size,G.sizes,bd],by simp [G.dp,G.dps]⟩
   ·exact w2) 110) 102
end
noncomputable def wz (c v:Int)(p1:Nat):List Str:=(List.range p1).map λ k:Nat=>nmF c ((v+(k:Int))%9).toNat
noncomputable def yZ (c v:Int)(p2:Nat):List Str:=(List.range p2).map λ k:Nat=>nmF c ((v/9+2*(k:Int))%9).toNat
theorem B4 {f:Nat->Str}{p:Nat}(hp:p<=2)(h:f 0≠f 1):((List.range p).map f).Nodup:=by
 rcases (show p=0\/p=1\/p=2 by omega) with rfl | rfl | rfl
 ·simp
 ·simp [List.range_succ]
 ·simp [List.range_succ,h]
theorem z1v (c v:Int)(p1:Nat)(hp:p1<=2):(wz c v p1).Nodup:=B4 (f:=λ k:Nat=>nmF c ((v+(k:Int))%9).toNat) hp (ja c 103 103 103)
theorem z5y (c v:Int)(p2:Nat)(hp:p2<=2):(yZ c v p2++[nmF c 9]).Nodup:=by
 rw [Y2s];refine ⟨B4 (f:=λ k:Nat=>nmF c ((v/9+2*(k:Int))%9).toNat) hp (ja c 103 103 103),by simp,?_⟩;intro a ha b hb;rw [Y0d.mp hb];obtain ⟨k,_,rfl⟩:=Y0e.mp ha;exact ja c 103 102 103
structure Ih (nf nn no nt nl:Nat)(c:Int)(on ot:XU)(its:List D)(h:Hh):Prop where
 sh:Sh nf nn c h
 on:jW no on h
 ot:jW nt ot h
 it:h[nl]?=some (.lst its)
section
variable {nf nn no nt nl:Nat}{c:Int}{on ot:XU}{its:List D}
theorem Ih.mv {h h':Hh}(s:Ih nf nn no nt nl c on ot its h)(h1:no≠nf)(h2:nt≠nf)(h3:nl≠nf)(F:Feed nf h')(m:Mv nf h h'):Ih nf nn no nt nl c on ot its h' :=
 ⟨s.sh.mv F m,m.2 no _ h1 s.on,m.2 nt _ h2 s.ot,m.2 nl _ h3 s.it⟩
theorem Ih.app {h:Hh}(s:Ih nf nn no nt nl c on ot its h)(h1:nf≠nl)(h2:nn≠nl)(h3:no≠nl)(h4:nt≠nl)(d:D)(hl:its.length<1000) :
  m1D .append (.loc nl) d h=.ok .non (h.set nl (.lst (its++[d])))/\Ih nf nn no nt nl c on ot (its++[d]) (h.set nl (.lst (its++[d]))):=by
 have hn:nl<h.length:=(Y02.mp s.it).1;constructor
 ·simp only [m1D,s.it];rw [if_pos 103]
 ·refine ⟨⟨?_,?_,s.sh.ne⟩,?_,?_,Y0r hn⟩
  ·obtain ⟨xs,e,r⟩:=s.sh.fd;exact ⟨xs,by rw [Y0h (Ne.symm h1)];exact e,r⟩
  ·rw [Y0h (Ne.symm h2)];exact s.sh.nm
  ·unfold jW;rw [Y0h (Ne.symm h3)];exact s.on
  ·unfold jW;rw [Y0h (Ne.symm h4)];exact s.ot
theorem Ih.onL {h:Hh}(s:Ih nf nn no nt nl c on ot its h)(r:Res D):onL (.loc nl) h r=r:=by simp only [PI.onL,s.it]
end
theorem z5z {nn:Nat}{c:Int}{h:Hh}(e:h[nn]?=some (.lst ((Nm c).map .str)))(a b:Nat)(hb:b<=12)(hab:a<=b):j4 (.loc nn) (some (a:Int)) (some (b:Int)) h=.ok 115 (h++[.lst ((((Nm c).drop a).take (b-a)).map .str)]):=by
 simp only [j4,zO e,new,jI];rw [zG _ _ _ 103,zG _ _ _ 103,Y09,OW];have e1:min (a:Int).toNat 12=a:=by omega
 have e2:min (b:Int).toNat 12=b:=by omega
 rw [e1,e2,List.map_take,List.map_drop]
section
variable {nf nn:Nat}{c:Int}{p1 p2:Nat}
theorem za2 (cl:101)(hp1:p1<=2)(hp2:p2<=2)(v:Int)(h:Hh)(s:Sh nf nn c h) :
  Ss.run cl (wo 3 d_law_items.body) [some (.loc nf),some (plD nn p1 p2),some (.int v),none,none,none,none,none] h=.nx [some (.loc nf),some (plD nn p1 p2),some (.int v),some (.loc nn),some 115,some (.loc (h.length+1)),none,none] (h++[.lst ((wz c v p1).map .str),.lst ((yZ c v p2).map .str)]):=by
 have k1:=qj (c:=[]) (f:=zT JH [none,some (.int v),some (.loc nn)] (λ ρ' h2=>c_law_items_2.evC cl ρ' h2) (λ ρ' h2=>e_law_items_2.ev cl ρ' h2)) (h:=h) zg
  (λ x=>match x with | .int k=>some (D.str (nmF c ((v+k)%9).toNat)) | _=>none) ((List.range p1).map λ k=>D.int (k:Nat)) [] (by
   intro x hx;obtain ⟨i,hi,rfl⟩:=Y0e.mp hx;have n1:=jF s.nm ((v+(i:Int))%9) 103 103;exact zZ rfl rfl (bnd rfl (bnd (bnd rfl (bnd rfl mdk)) n1)))
 have f1:((List.range p1).map λ k=>D.int (k:Nat)).filterMap (λ x=>match x with | .int k=>some (D.str (nmF c ((v+k)%9).toNat)) | _=>none)=(wz c v p1).map .str:=by
  unfold wz;rw [Y2c,Y16,<- Y2h];rfl
 rw [f1,Y0l] at k1;have k2:=qj (c:=[]) (f:=zT JG [none,some (.int v),some (.loc nn)] (λ ρ' h2=>c_law_items_1.evC cl ρ' h2) (λ ρ' h2=>e_law_items_1.ev cl ρ' h2)) (h:=h++[.lst ((wz c v p1).map .str)]) zg
  (λ x=>match x with | .int k=>some (D.str (nmF c ((v/9+2*k)%9).toNat)) | _=>none) ((List.range p2).map λ k=>D.int (k:Nat)) [] (by
   intro x hx;obtain ⟨i,hi,rfl⟩:=Y0e.mp hx;have hi':=Y1a.mp hi;have n1:=jF (s.gr [.lst ((wz c v p1).map .str)]).nm ((v/9+2*(i:Int))%9) 103 103;have fi:jR (i:Int)=true:=qW 103;have f2:jR (2:Int)=true:=by decide
   exact zZ rfl rfl (bnd rfl (bnd (bnd (bnd 109 (bnd (bnd rfl (bnd rfl (if_pos ⟨f2,fi⟩))) rfl)) (bnd rfl mdk)) n1)))
 have f2:((List.range p2).map λ k=>D.int (k:Nat)).filterMap (λ x=>match x with | .int k=>some (D.str (nmF c ((v/9+2*k)%9).toNat)) | _=>none)=(yZ c v p2).map .str:=by
  unfold yZ;rw [Y2c,Y16,<- Y2h];rfl
 rw [f2,Y0l] at k2;have b1:-1000000<=(p1:Int)/\(p1:Int)<=1000000:=by omega
 have b2:-1000000<=(p2:Int)/\(p2:Int)<=1000000:=by omega
 have l1:((List.range p1).map λ k=>D.int (k:Nat)).length<=1000000:=by simp;omega
 have l2:((List.range p2).map λ k=>D.int (k:Nat)).length<=1000000:=by simp;omega
 exact zb (d:=.loc nn) rfl (zb (zQ (UU (j:=(p1:Nat)) rfl b1) l1 k1) (zb (zQ (UU (j:=(p2:Nat)) rfl b2) l2 k2) (by rw [Y07,Y0k];rfl)))
end
structure Ap (nf nn no nt nl:Nat):Prop where
 a1:no≠nf
 a2:nt≠nf
 a3:nl≠nf
 a4:nn≠nl
 a5:no≠nl
 a6:nt≠nl
section
variable {nf nn no nt nl:Nat}{c:Int}{p1 p2:Nat}{on ot:XU}{its:List D}
theorem za3 (cl:101)(C5:jK nf nn c p1 p2 cl 5)(v:Int)(h:Hh)(s:Sh nf nn c h)(hon:jW no on h)(hot:jW nt ot h)(h1:no≠nf)(h2:nt≠nf)(hl:on.length<=2) :
  ∃ g h',Ss.run cl (wo 1 (zH 3 d_law_items.body)) [some (.loc nf),some (plD nn p1 p2),some (.int v),some (.loc nn),some (.loc no),some (.loc nt),none,none] h=.nx [some (.loc nf),some (plD nn p1 p2),some (.int v),some (.loc nn),some (.loc no),some (.loc nt),some (.loc h'.length),none] (h'++[.lst [(Itm.fn (nmF c 0) on none g).d]]) /\
   Ih nf nn no nt h'.length c on ot [(Itm.fn (nmF c 0) on none g).d] (h'++[.lst [(Itm.fn (nmF c 0) on none g).d]])/\h.length<=h'.length/\Gd (Nm c) (q0 c p1 p2) none ⟨on,.fr⟩ g/\Sz g:=by
 obtain ⟨g,h',k1,F1,M1,w1,w2⟩:=C5 .fr none on no h (.inl rfl) s hon h1 103;have n0:=jF s.nm 0 102 102;have sq:jk (.loc no) h=some (on.map .str):=by simp only [jk];exact zO hon
 refine ⟨g,h',?_,⟨(s.mv F1 M1).gr _,zf (M1.2 no _ h1 hon),zf (M1.2 nt _ h2 hot),by rw [hx0];rfl⟩,M1.1,w1,Jh w2 102⟩;exact zb (bnd (bnd (bnd (bnd (bnd rfl (bnd (bnd (bnd rfl (bnd rfl n0)) (bnd (bnd (wI rfl sq) (bnd (bnd rfl (bnd (bnd (bnd rfl (bnd rfl k1)) 112) rfl)) rfl)) rfl)) rfl)) rfl) 112) rfl) rfl) rfl
theorem za4 (cl:101)(C3:jK nf nn c p1 p2 cl 3)(v:Int)(x7:Option D)(h:Hh)(ap:Ap nf nn no nt nl)(s:Ih nf nn no nt nl c on ot its h)(hl:its.length<1000) :
  ∃ g h',Ss.run cl (wo 1 (zH 4 d_law_items.body)) 111 h=.nx 111 h' /\
   Ih nf nn no nt nl c on ot (its++[(Itm.fn (nmF c 1) [nmF c 11] none g).d]) h'/\Gd (Nm c) (q0 c p1 p2) none ⟨[nmF c 11],.fr⟩ g/\Sz g:=by
 have lt:=s.sh.lt;obtain ⟨g,h',k1,F1,M1,w1,w2⟩:=C3 .fr none [nmF c 11] h.length (h++[.lst [.str (nmF c 11)]]) (.inl rfl) (s.sh.gr _) (by unfold jW;rw [hx0];rfl) 103 110;have n1:=jF s.sh.nm 1 102 102;have n11:=jF s.sh.nm 11 102 102;have s':=s.mv ap.a1 ap.a2 ap.a3 F1 (Mv.trans nf _ _ _ (Mv.gr nf h [.lst [.str (nmF c 11)]]) M1);obtain ⟨m1,m2⟩:=s'.app (Ne.symm ap.a3) ap.a4 ap.a5 ap.a6 (Itm.fn (nmF c 1) [nmF c 11] none g).d hl;refine ⟨g,_,?_,m2,w1,Jh w2 102⟩;exact je (bnd rfl ((s.onL _).trans (bnd (bnd (bnd rfl (bnd (bnd (bnd rfl (bnd rfl n1)) (bnd (bnd (bnd (bnd (bnd rfl (bnd rfl n11)) 112) rfl) (bnd (bnd rfl (bnd (bnd (bnd rfl (bnd (bnd rfl (bnd (bnd rfl (bnd (bnd (bnd (bnd (bnd (bnd rfl (bnd rfl n11)) 112) rfl) rfl) 112) rfl)) rfl)) k1)) 112) rfl)) rfl)) rfl)) rfl)) rfl) m1))) rfl
theorem za5 (cl:101)(C4:jK nf nn c p1 p2 cl 4)(v:Int)(x7:Option D)(h:Hh)(ap:Ap nf nn no nt nl)(s:Ih nf nn no nt nl c on ot its h)(hl:its.length<1000)(hot:ot.length<=2) :
  ∃ g h',Ss.run cl (wo 1 (zH 5 d_law_items.body)) 111 h=.nx 111 h' /\
   Ih nf nn no nt nl c on ot (its++[(Itm.fn (nmF c 2) ot (some (nmF c 9)) g).d]) h'/\Gd (Nm c) (q0 c p1 p2) (some (nmF c 9)) ⟨ot,.fr⟩ g/\Sz g:=by
 obtain ⟨g,h',k1,F1,M1,w1,w2⟩:=C4 .fr (some (nmF c 9)) ot nt h (.inr rfl) s.sh s.ot ap.a2 103;have n2:=jF s.sh.nm 2 102 102;have n9:=jF s.sh.nm 9 102 102;have sq:jk (.loc nt) h=some (ot.map .str):=by simp only [jk];exact zO s.ot
 have s':=s.mv ap.a1 ap.a2 ap.a3 F1 M1;obtain ⟨m1,m2⟩:=s'.app (Ne.symm ap.a3) ap.a4 ap.a5 ap.a6 (Itm.fn (nmF c 2) ot (some (nmF c 9)) g).d hl;refine ⟨g,_,?_,m2,w1,Jh w2 102⟩;exact je (bnd rfl ((s.onL _).trans (bnd (bnd (bnd rfl (bnd (bnd (bnd rfl (bnd rfl n2)) (bnd (bnd (wI rfl sq) (bnd (bnd (bnd rfl (bnd rfl n9)) (bnd (bnd (bnd rfl (bnd (bnd rfl (bnd (bnd rfl (bnd (bnd rfl (bnd (bnd (bnd rfl (bnd rfl n9)) 112) rfl)) rfl)) rfl)) k1)) 112) rfl)) rfl)) rfl)) rfl)) rfl) m1))) rfl
noncomputable def Q0 (nf nn:Nat)(c:Int)(p1 p2:Nat)(cl:101):Prop:=∀ (nm:Str) (dn:XU) (nd:Nat) (v:Int) (h:Hh),Sh nf nn c h->h[nd]?=some (.lst (dn.map .str))->nd≠nf->dn.length<=900 ->
 ∃ i h',cl 22 [.loc nf,plD nn p1 p2,.str nm,.loc nd,.int v] h=.ok i.d h'/\Feed nf h'/\Mv nf h h'/\HdG c p1 p2 nm dn i
theorem za6 (cl:101)(C22:Q0 nf nn c p1 p2 cl)(v:Int)(x7:Option D)(h:Hh)(ap:Ap nf nn no nt nl)(s:Ih nf nn no nt nl c on ot its h)(hl:its.length<1000) :
  ∃ i h',Ss.run cl (wo 1 (zH 6 d_law_items.body)) 111 h=.nx 111 h' /\
   Ih nf nn no nt nl c on ot (its++[i.d]) h'/\HdG c p1 p2 (nmF c 3) (((Nm c).drop 6).take (v%3).toNat) i:=by
 have lt:=s.sh.lt;obtain ⟨a,ha⟩:∃ a:Nat,(a:Int)=v%3/\a<=2/\a=(v%3).toNat:=⟨(v%3).toNat,by omega,by omega,rfl⟩;have ct:=z5z s.sh.nm 6 (6+a) 103 103;rw [show 6+a-6=a by omega] at ct;obtain ⟨i,h',k1,F1,M1,w1⟩:=C22 (nmF c 3) (((Nm c).drop 6).take a) h.length (v/3) (h++[.lst ((((Nm c).drop 6).take a).map .str)]) (s.sh.gr _) (by rw [hx0];rfl) 103 121;have n3:=jF s.sh.nm 3 102 102;have s':=s.mv ap.a1 ap.a2 ap.a3 F1 (Mv.trans nf _ _ _ (Mv.gr nf h [.lst ((((Nm c).drop 6).take a).map .str)]) M1);obtain ⟨m1,m2⟩:=s'.app (Ne.symm ap.a3) ap.a4 ap.a5 ap.a6 i.d hl;refine ⟨i,_,?_,m2,by rw [<- ha.2.2];exact w1⟩;have a6:∀ h,zw .Add (.int 6) (.int (v%3)) h=.ok (.int ((6+a:Nat):Int)) h:=λ h=>by rw [bin_add,<- ha.1];congr 2
 exact je (bnd rfl ((s.onL _).trans (bnd (bnd rfl (bnd (bnd rfl (bnd (bnd (bnd rfl (bnd rfl n3)) (bnd (bnd (bnd rfl (bnd rfl (bnd (U0 (bnd rfl (bnd (bnd rfl (bnd rfl mdk)) (a6 _)))) ct))) (bnd (bnd 109 112) rfl)) rfl)) rfl)) k1)) m1))) rfl
theorem za7 (cl:101)(C22:Q0 nf nn c p1 p2 cl)(v:Int)(x7:Option D)(h:Hh)(ap:Ap nf nn no nt nl)(s:Ih nf nn no nt nl c on ot its h)(hl:its.length<1000) :
  ∃ i h',Ss.run cl (wo 1 (zH 7 d_law_items.body)) 111 h=.nx 111 h' /\
   Ih nf nn no nt nl c on ot (its++[i.d]) h'/\HdG c p1 p2 (nmF c 4) ([nmF c 8,nmF c 7].take (v/5%3).toNat) i:=by
 have lt:=s.sh.lt;obtain ⟨a,ha⟩:∃ a:Nat,(a:Int)=v/5%3/\a<=2/\a=(v/5%3).toNat:=⟨(v/5%3).toNat,by omega,by omega,rfl⟩;have n4:=jF s.sh.nm 4 102 102;have n8:=jF s.sh.nm 8 102 102;have n7:=jF s.sh.nm 7 102 102;obtain ⟨H,hH⟩:∃ H,H=h++[O.lst [.str (nmF c 8),.str (nmF c 7)]]:=117;have lH:H.length=h.length+1:=by rw [hH];simp
 have ct:j4 115 none (some (v/5%3)) H=.ok (.loc H.length) (H++[.lst (([nmF c 8,nmF c 7].take a).map .str)]):=by
  have r1:rd H h.length=some [.str (nmF c 8),.str (nmF c 7)]:=by rw [hH,Zq];rfl
  simp only [j4,r1,new,jI];rw [<- ha.1,zG _ _ _ 103,zX];have e2:min (a:Int).toNat [D.str (nmF c 8),D.str (nmF c 7)].length=a:=by simp;omega
  rw [e2,Y3g,Y2f,List.map_take];rfl
 have sH:Sh nf nn c H:=by rw [hH];exact s.sh.gr _
 obtain ⟨i,h',k1,F1,M1,w1⟩:=C22 (nmF c 4) ([nmF c 8,nmF c 7].take a) H.length (v/7) (H++[.lst (([nmF c 8,nmF c 7].take a).map .str)]) (sH.gr _) (by rw [hx0];rfl) 103 121;have s':=s.mv ap.a1 ap.a2 ap.a3 F1 (Mv.trans nf _ _ _ (by rw [hH];exact Mv.gr nf h _) (Mv.trans nf _ _ _ (Mv.gr nf H [.lst (([nmF c 8,nmF c 7].take a).map .str)]) M1));obtain ⟨m1,m2⟩:=s'.app (Ne.symm ap.a3) ap.a4 ap.a5 ap.a6 i.d hl;refine ⟨i,_,?_,m2,by rw [<- ha.2.2];exact w1⟩;subst hH;exact je (bnd rfl ((s.onL _).trans (bnd (bnd rfl (bnd (bnd rfl (bnd (bnd (bnd rfl (bnd rfl n4)) (bnd (bnd (bnd (bnd (bnd (bnd (bnd rfl (bnd rfl n8)) (bnd (bnd (bnd rfl (bnd rfl n7)) 112) rfl)) rfl) rfl) (bnd rfl (bnd (U0 (bnd 109 (bnd rfl mdk))) ct))) (bnd (bnd 109 112) rfl)) rfl)) rfl)) k1)) m1))) rfl
theorem za8 (cl:101)(PL:D)(v:Int)(h:Hh)(is:List Itm)(hi:h[nl]?=some (.lst (is.map Itm.d)))(hl:is.length=5) :
  ∃ a J,a<=4/\Ss.run cl (zH 8 d_law_items.body) [some (.loc nf),some PL,some (.int v),some (.loc nn),some (.loc no),some (.loc nt),some (.loc nl),none] h=.rt (.loc (h.length+2)) (h++J)/\(h++J)[h.length+2]?=some (.lst ((is.drop a++is.take a).map Itm.d)):=by
 obtain ⟨a,ha⟩:∃ a:Nat,(a:Int)=v/11%5/\a<=4:=⟨(v/11%5).toNat,by omega,by omega⟩;have ll:(is.map Itm.d).length=5:=by simp [hl]
 have c1:j4 (.loc nl) (some (v/11%5)) none h=.ok 115 (h++[.lst ((is.drop a).map Itm.d)]):=by
  simp only [j4,zO hi,new,jI];rw [<- ha.1,zG _ _ _ 103,zX,ll];have e2:min (a:Int).toNat 5=a:=by omega
  rw [e2,List.map_drop,Y1t (by rw [Y1j,ll];exact Y0a _)]
 have c2:j4 (.loc nl) none (some (v/11%5)) (h++[.lst ((is.drop a).map Itm.d)])=.ok (.loc (h.length+1)) (h++[.lst ((is.drop a).map Itm.d),.lst ((is.take a).map Itm.d)]):=by
  simp only [j4,zO (zf hi),new,jI];rw [<- ha.1,zG _ _ _ 103,zX,ll];have e2:min (a:Int).toNat 5=a:=by omega
  rw [e2,Y2f,Y3g,List.map_take];simp
 have ad:zw .Add 115 (.loc (h.length+1)) (h++[.lst ((is.drop a).map Itm.d),.lst ((is.take a).map Itm.d)])=.ok (.loc (h.length+2)) (h++[.lst ((is.drop a).map Itm.d),.lst ((is.take a).map Itm.d),.lst ((is.drop a++is.take a).map Itm.d)]):=by
  have g1:(h++[O.lst ((is.drop a).map Itm.d),.lst ((is.take a).map Itm.d)])[h.length]?=some (.lst ((is.drop a).map Itm.d)):=by rw [hx0];rfl
  have g2:(h++[O.lst ((is.drop a).map Itm.d),.lst ((is.take a).map Itm.d)])[h.length+1]?=some (.lst ((is.take a).map Itm.d)):=by rw [hx];rfl
  rw [bin_addl];rw [g1,g2];simp only;rw [if_pos 121];simp
 refine ⟨a,[.lst ((is.drop a).map Itm.d),.lst ((is.take a).map Itm.d),.lst ((is.drop a++is.take a).map Itm.d)],ha.2,?_,by rw [hx];rfl⟩;exact zb (bnd 109 (bnd rfl mdk)) (zk (bnd (bnd rfl (bnd rfl (bnd rfl c1))) (bnd (bnd rfl (bnd rfl (bnd rfl c2))) ad)))
end
theorem z1w (k:Nat):C13 (callI defs (k+1)):=λ t _ _ _ hf=>(z5 (d:=d_is_function) rfl rfl).trans (z5i _ t hf)
theorem z86 (k:Nat):C14 (callI defs (k+2)):=λ t _ hf=>(z5 (d:=d_may_be_handed) rfl rfl).trans (OL _ (z1w k) t hf)
theorem za9 (k:Nat):C12 (callI defs (k+3)):=λ t f o blk ps hb hc=>(z5 (d:=d_check_call) rfl rfl).trans (z1j _ (z1w (k+1)) (z86 k) t f o blk ps hb hc)
theorem zaa (k:Nat):C10 (callI defs (k+1)):=λ hx=>(z5 (d:=d_check_variable) rfl rfl).trans (z5j _ hx)
theorem zab (k:Nat):C11 (callI defs (k+1)):=λ t _ _ _ _ hx hp=>(z5 (d:=d_check_handle) rfl rfl).trans (G8 _ t hx hp)
theorem B5 (k:Nat):Jg (callI defs (k+4)):=λ t hb _ _ _ hk hl=>(z5 (d:=d_check_expression) rfl rfl).trans (z1k _ (zaa (k+2)) (zab (k+2)) (za9 k) t hb hk hl)
theorem z1x (k:Nat):V2 (callI defs (k+1)):=λ kd ps h=>(z5 (d:=d_parts_of) rfl rfl).trans (z1h _ kd ps h)
theorem V6 (k:Nat):yB (callI defs (k+2)):=λ c kd ps h hk hs=>by
 obtain ⟨J,n,e,q⟩:=z1l (callI defs (k+1)) (z1x k) c kd ps h hk hs;exact ⟨J,n,(z5 (d:=d_inner) rfl rfl).trans e,q⟩
theorem B6 (k:Nat):U4 (callI defs (k+5)):=λ t hb _ _ hg hz=>by
 obtain ⟨J,e⟩:=z1m (callI defs (k+4)) (V6 (k+2)) (B5 k) t hb hg hz;exact ⟨J,(z5 (d:=d_check_body) rfl rfl).trans e⟩
theorem qo (k:Nat):Y2 (callI defs (k+1)):=λ xs h hn hl=>by
 obtain ⟨⟨J,e⟩,f⟩:=z1n (callI defs k) xs h hn hl;refine ⟨⟨J,(z5 (d:=d_refuse_twice) rfl rfl).trans e⟩,λ n en=>?_⟩;obtain ⟨J,e⟩:=f n en;exact ⟨J,(z5 (d:=d_refuse_twice) rfl rfl).trans e⟩
theorem z3a (k:Nat):Y3 (callI defs (k+6)):=λ t _ _ _ _ ha=>by
 obtain ⟨J,e⟩:=OM (callI defs (k+5)) (qo (k+4)) (B6 k) t ha;exact ⟨J,(z5 (d:=d_check_answer) rfl rfl).trans e⟩
theorem i_4 (k:Nat):C4 (callI defs (k+6)):=λ t _ _ _ _ hg=>by
 obtain ⟨J,e⟩:=z5l (callI defs (k+5)) (qo (k+4)) (B6 k) t hg;exact ⟨J,(z5 (d:=d_check_function) rfl rfl).trans e⟩
theorem i_5 (k:Nat):C5 (callI defs (k+7)):=λ t _ _ _ _ _ hg=>by
 obtain ⟨J,e⟩:=z7x (callI defs (k+6)) (qo (k+5)) (z3a k) t hg;exact ⟨J,(z5 (d:=d_check_handler) rfl rfl).trans e⟩
theorem i_1 (k:Nat):C1 (callI defs (k+1)):=λ is h hl=>(z5 (d:=d_items_by_name) rfl rfl).trans (z1o _ is h hl)
structure Five (c:Int)(p1 p2:Nat)(v:Int)(L:List Itm):Prop where
 ex:∃ g0 g1 g2 i3 i4,L=[.fn (nmF c 0) (wz c v p1) none g0,.fn (nmF c 1) [nmF c 11] none g1,.fn (nmF c 2) (yZ c v p2) (some (nmF c 9)) g2,i3,i4] /\
  (Gd (Nm c) (q0 c p1 p2) none ⟨wz c v p1,.fr⟩ g0/\Sz g0)/\(Gd (Nm c) (q0 c p1 p2) none ⟨[nmF c 11],.fr⟩ g1/\Sz g1)/\(Gd (Nm c) (q0 c p1 p2) (some (nmF c 9)) ⟨yZ c v p2,.fr⟩ g2/\Sz g2) /\
  HdG c p1 p2 (nmF c 3) (((Nm c).drop 6).take (v%3).toNat) i3/\HdG c p1 p2 (nmF c 4) ([nmF c 8,nmF c 7].take (v/5%3).toNat) i4
section
variable {nf nn:Nat}{c:Int}{p1 p2:Nat}
theorem Jk (c v:Int)(p:Nat):(wz c v p).length=p:=by simp [wz]
theorem Q1 (c v:Int)(p:Nat):(yZ c v p).length=p:=by simp [yZ]
theorem B7 (cl:101)(hp1:p1<=2)(hp2:p2<=2)(C5:jK nf nn c p1 p2 cl 5)(C4:jK nf nn c p1 p2 cl 4)(C3:jK nf nn c p1 p2 cl 3)(C22:Q0 nf nn c p1 p2 cl)(v:Int)(h:Hh)(s:Sh nf nn c h) :
  ∃ L a n h',d_law_items.run cl [.loc nf,plD nn p1 p2,.int v] h=.ok (.loc n) h'/\h'[n]?=some (.lst ((L.drop a++L.take a).map Itm.d))/\Five c p1 p2 v L:=by
 have A:=za2 (p1:=p1) (p2:=p2) cl hp1 hp2 v h s;have lt:=s.lt;have ltn:nn<h.length:=(Y02.mp s.nm).1;obtain ⟨g0,h1,B,I1,l1,w1,w1'⟩:=za3 (no:=h.length) (nt:=h.length+1) (on:=wz c v p1) (ot:=yZ c v p2) cl C5 v (h++[.lst ((wz c v p1).map .str),.lst ((yZ c v p2).map .str)]) (s.gr _) (by unfold jW;rw [hx0];rfl) (by unfold jW;rw [hx];rfl) 103 103 (by rw [Jk];exact hp1);simp at l1;have ap:Ap nf nn h.length (h.length+1) h1.length:=⟨by omega,by omega,by omega,by omega,by omega,by omega⟩;obtain ⟨g1,h2,Cc,I2,w2,w2'⟩:=za4 cl C3 v none _ ap I1 110;obtain ⟨g2,h3,Dd,I3,w3,w3'⟩:=za5 cl C4 v none _ ap I2 110 (by rw [Q1];exact hp2);obtain ⟨i3,h4,Ee,I4,w4⟩:=za6 cl C22 v none _ ap I3 110;obtain ⟨i4,h5,Ff,I5,w5⟩:=za7 cl C22 v none _ ap I4 110;obtain ⟨a,J,_,Gg,g5⟩:=za8 (nf:=nf) (nn:=nn) (no:=h.length) (nt:=h.length+1) (nl:=h1.length) cl (plD nn p1 p2) v h5 [.fn (nmF c 0) (wz c v p1) none g0,.fn (nmF c 1) [nmF c 11] none g1,.fn (nmF c 2) (yZ c v p2) (some (nmF c 9)) g2,i3,i4] (by have:=I5.it;simpa using this) rfl;refine ⟨_,a,h5.length+2,h5++J,?_,g5,⟨g0,g1,g2,i3,i4,rfl,⟨w1,w1'⟩,⟨w2,w2'⟩,⟨w3,w3'⟩,w4,w5⟩⟩;exact ze (Wj 3 A (Wj 1 B (Wj 1 Cc (Wj 1 Dd (Wj 1 Ee (Wj 1 Ff Gg))))))
theorem z60 (hp1:p1<=2)(hp2:p2<=2)(j:Nat):Q0 nf nn c p1 p2 (callI defs (16+j)):=λ nm dn nd v h s hd hnd hl=>by
 have a4:=qP (nf:=nf) (nn:=nn) (c:=c) hp1 hp2 4 j;have a3:=qP (nf:=nf) (nn:=nn) (c:=c) hp1 hp2 3 (j+3);have e1:16+j=(3*4+3+j)+1:=by omega
 have e2:3*3+3+(j+3)=3*4+3+j:=by omega
 rw [e2] at a3;rw [e1];obtain ⟨i,h',e,r⟩:=Gc (callI defs (3*4+3+j)) a4 a3 nm dn nd v h s hd hnd hl;exact ⟨i,h',(z5 (d:=d_law_handler) rfl rfl).trans e,r⟩
theorem z1y (hp1:p1<=2)(hp2:p2<=2)(v:Int)(h:Hh)(s:Sh nf nn c h):∃ L a n h',callI defs 29 23 [.loc nf,plD nn p1 p2,.int v] h=.ok (.loc n) h'/\h'[n]?=some (.lst ((L.drop a++L.take a).map Itm.d))/\Five c p1 p2 v L:=by
 obtain ⟨L,a,n,h',e,r⟩:=B7 (callI defs 28) hp1 hp2 (qP hp1 hp2 5 10) (qP hp1 hp2 4 13) (qP hp1 hp2 3 16) (z60 hp1 hp2 12) v h s;exact ⟨L,a,n,h',(z5 (d:=d_law_items) rfl rfl).trans e,r⟩
end
theorem Ge (cl:101)(ns:List Int)(c15:∀ (k:Int) (h:Hh),0<=k/\k<1000->cl 15 [.fl (ns.map .int),.int k] h=.ok (.int (j6 ns k)) h)(c17:∀ (c:Int) (h:Hh),∃ J,cl 17 [.int c,.int 12] h=.ok (.loc (h.length+J.length)) (h++(J++[.lst ((Nm c).map .str)])))
  (c23:∀ {nf nn:Nat}{c:Int}{p1 p2:Nat},p1<=2->p2<=2->∀ (v:Int) (h:Hh),Sh nf nn c h->∃ L a n h',cl 23 [.loc nf,plD nn p1 p2,.int v] h=.ok (.loc n) h'/\h'[n]?=some (.lst ((L.drop a++L.take a).map Itm.d))/\Five c p1 p2 v L) :
  ∃ (L:List Itm) (a p1 p2:Nat) (v:Int) (h':Hh),d_law_program.run cl [.fl (ns.map .int)] []=.ok (.tup ((L.drop a++L.take a).map Itm.d)) h'/\Five (j6 ns 0) p1 p2 v L/\p1<=2/\p2<=2/\(p1:Int)=j6 ns 1%3/\(p2:Int)=j6 ns 1/3%3:=by
 obtain ⟨J,k17⟩:=c17 (j6 ns 0) [];have q0':=λ h=>c15 0 h 102;have q1':=λ h=>c15 1 h 102;obtain ⟨c1,hc1⟩:∃ c1,c1=j6 ns 1:=117;rw [<- hc1] at q1';obtain ⟨p1,hp1⟩:∃ p1:Nat,(p1:Int)=c1%3/\p1<=2:=⟨(c1%3).toNat,by omega,by omega⟩;obtain ⟨p2,hp2⟩:∃ p2:Nat,(p2:Int)=c1/3%3/\p2<=2:=⟨(c1/3%3).toNat,by omega,by omega⟩;rw [Y0l,Y32,Y3f] at k17;obtain ⟨H,hH⟩:∃ H,H=J++[O.lst ((Nm (j6 ns 0)).map .str)]:=117;rw [<- hH] at k17;have lH:H.length=J.length+1:=by rw [hH];simp
 have key:=qj (c:=[]) (f:=zT Zt [none,some (.fl (ns.map .int))] (λ ρ' h2=>c_law_program_1.evC cl ρ' h2) (λ ρ' h2=>e_law_program_1.ev cl ρ' h2)) (h:=H) zg
  (λ x=>match x with | .int k=>some (D.int (j6 ns k)) | _=>none) ((List.range 40).map λ k=>D.int (41-(k:Nat))) [] (by
   intro x hx;obtain ⟨i,hi,rfl⟩:=Y0e.mp hx;have hi':=Y1a.mp hi;have q:=c15 (41-(i:Int)) H 103;exact zZ rfl rfl (bnd rfl (bnd rfl q)))
 have fm:((List.range 40).map λ k=>D.int (41-(k:Nat))).filterMap (λ x=>match x with | .int k=>some (D.int (j6 ns k)) | _=>none)=((List.range 40).map λ k:Nat=>j6 ns (41-(k:Int))).map D.int:=by
  rw [Y2c,Y16,<- Y2h];rfl
 rw [fm,Y0l] at key;obtain ⟨fs,hfs⟩:∃ fs,fs=(List.range 40).map λ k:Nat=>j6 ns (41-(k:Int)):=117;rw [<- hfs] at key;have sh:Sh H.length J.length (j6 ns 0) (H++[.lst (fs.map .int)]):=by
  refine ⟨⟨fs,by rw [hx0];rfl,λ x hx=>?_,by rw [hfs];simp⟩,zf (by rw [hH,hx0];rfl),by omega⟩;rw [hfs] at hx;obtain ⟨k,_,rfl⟩:=Y0e.mp hx
  have:=OO ns (41-(k:Int))
  exact qW 103
 obtain ⟨L,a,n,h',k23,g23,WL⟩:=c23 hp1.2 hp2.2 (c1/9) _ sh;refine ⟨L,a,p1,p2,c1/9,h',?_,WL,hp1.2,hp2.2,hc1▸hp1.1,hc1▸hp2.1⟩;have m3:∀ h,zw .Mod (.int c1) (.int 3) h=.ok (.int (p1:Nat)) h:=λ h=>hp1.1▸mdk 102;have m33:∀ h,zw .Mod (.int (c1/3)) (.int 3) h=.ok (.int (p2:Nat)) h:=λ h=>hp2.1▸mdk 102;have dn:∀ h,UH (.int 41) (.int 1) (.int (-1)) h=.ok ([],(List.range 40).map λ k=>D.int (41-(k:Nat))) h:=λ h=>by
  simp only [UH];rw [if_pos 102];rfl
 have l1:((List.range 40).map λ k=>D.int (41-(k:Nat))).length<=1000000:=by simp
 have sq:jk (.loc n) h'=some ((L.drop a++L.take a).map Itm.d):=by simp only [jk];exact zO g23
 exact ze (zb (bnd rfl (bnd rfl (q1' _))) (zb (d:=plD J.length p1 p2) (bnd (bnd (bnd (bnd rfl (bnd rfl (q0' _))) (bnd rfl k17)) (bnd (bnd (bnd rfl (bnd rfl (m3 _))) (bnd (bnd (bnd 109 (bnd rfl (m33 _))) 112) rfl)) rfl)) rfl) (zk (wI (bnd (zQ (q:=([],(List.range 40).map λ k=>D.int (41-(k:Nat)))) (h':=H) (bnd rfl (bnd rfl (bnd rfl (dn _)))) l1 key) (bnd (bnd rfl (bnd (bnd 109 112) rfl)) k23)) sq))))
theorem Z0 {pr:List Itm}{i:Itm}(h:i∈pr):(i.nm,i.d)∈zV pr:=Y0e.mpr ⟨i,h,rfl⟩
theorem Q2 (pr:List Itm):(zV pr).map (·.1)=pr.map Itm.nm:=by unfold zV;rw [Y16];rfl
section
variable {c:Int}{p1 p2:Nat}{v:Int}{pr M:List Itm}
theorem z87 (F:Five c p1 p2 v M)(hs:∀ i∈M,i∈pr):∀ f n b,IsD (q0 c p1 p2) f n b->IsD (zV pr) f n b:=by
 obtain ⟨g0,g1,g2,i3,i4,rfl,_⟩:=F.ex
 rintro f n b ⟨ps,bd,bo,hm,hl,hb⟩
 have m0:=Z0 (hs (.fn (nmF c 0) (wz c v p1) none g0) 110);have m1:=Z0 (hs (.fn (nmF c 1) [nmF c 11] none g1) 110);have m2:=Z0 (hs (.fn (nmF c 2) (yZ c v p2) (some (nmF c 9)) g2) 110);simp only [q0,Y03,Y0f,or_false,Prod.mk.injEq,dfD,D.tup.injEq,List.cons.injEq] at hm;rcases hm with ⟨rfl,_,_,e1,e2,_⟩ | ⟨rfl,_,_,e1,e2,_⟩ | ⟨rfl,_,_,e1,e2,_⟩ | ⟨_,_,h⟩ | ⟨_,_,h⟩
 ·have hb0:b=false:=by rcases hb with ⟨z,_⟩ | ⟨_,x,z⟩;exact z;rw [e2] at z;cases z
  subst hb0;refine ⟨_,_,_,m0,?_,.inl ⟨rfl,rfl⟩⟩;rw [<- hl,e1];simp [Jk]
 ·have hb0:b=false:=by rcases hb with ⟨z,_⟩ | ⟨_,x,z⟩;exact z;rw [e2] at z;cases z
  subst hb0;refine ⟨_,_,_,m1,?_,.inl ⟨rfl,rfl⟩⟩;rw [<- hl,e1];simp
 ·have hb0:b=true:=by rcases hb with ⟨_,z⟩ | ⟨z,_⟩;rw [e2] at z;cases z;exact z
  subst hb0;refine ⟨_,_,_,m2,?_,.inr ⟨rfl,_,rfl⟩⟩;rw [<- hl,e1];simp [Q1]
 ·cases h
 ·cases h
theorem z88 (F:Five c p1 p2 v M)(hs:∀ i∈M,i∈pr):∀ x,IsH (q0 c p1 p2) x->IsH (zV pr) x:=by
 obtain ⟨g0,g1,g2,i3,i4,rfl,_,_,_,h3,h4⟩:=F.ex
 rintro x ⟨r,hm⟩
 have sd:(("handler":Str)=("def":Str))=False:=by simp;decide
 have m3:=Z0 (hs i3 110);have m4:=Z0 (hs i4 110);obtain ⟨cs3,x3,s3,e3,rfl,_⟩:=h3;obtain ⟨cs4,x4,s4,e4,rfl,_⟩:=h4;simp only [q0,Y03,Y0f,or_false,Prod.mk.injEq,dfD,D.tup.injEq,List.cons.injEq,D.str.injEq,sd,false_and,and_false,false_or] at hm;rcases hm with ⟨rfl,_⟩ | ⟨rfl,_⟩
 ·exact ⟨_,m3⟩
 ·exact ⟨_,m4⟩
theorem Q3 {al:XU}{qs qs':108}(hd:∀ f n b,IsD qs f n b->IsD qs' f n b)(hh:∀ x,IsH qs x->IsH qs' x){p:Pl}{x s:Str}{g:G}(a:AnsG al qs p x s g):AnsG al qs' p x s g:=⟨a.ne,yE hd hh a.gd,a.sz,a.xa,a.sa⟩
theorem z3b {qs:108}(hd:∀ f n b,IsD (q0 c p1 p2) f n b->IsD qs f n b)(hh:∀ x,IsH (q0 c p1 p2) x->IsH qs x){nm:Str}{dn:XU}{i:Itm}(h:HdG c p1 p2 nm dn i)(hn:dn.Nodup)(hl:dn.length<=900):i.good (Nm c) qs:=by
 obtain ⟨cs,x,s,e,rfl,e1,e2,e3,_⟩:=h;refine ⟨by rw [e1];exact hn,?_,λ q hq=>Q3 hd hh (e2 q hq),Q3 hd hh e3⟩
 have:=congrArg List.length e1
 simp at this;omega
theorem z89 (c:Int):(Nm c).Nodup:=by
 unfold Nm;rw [List.nodup_iff_pairwise_ne,List.pairwise_map]
 have:(List.range 12).Pairwise (λ a b=>a≠b/\a<12/\b<12):=by decide
 exact this.imp λ {a b} h=>ja c (Y2g h.2.1 102) (Y2g h.2.2 102) h.1
theorem Gf (hp1:p1<=2)(hp2:p2<=2)(F:Five c p1 p2 v M)(hs:∀ i∈M,i∈pr)(h9:nmF c 9∉pr.map Itm.nm):∀ i∈M,i.good (Nm c) (zV pr):=by
 have hd:=z87 F hs;have hh:=z88 F hs;obtain ⟨g0,g1,g2,i3,i4,rfl,⟨a1,a2⟩,⟨b1,b2⟩,⟨c1,c2⟩,h3,h4⟩:=F.ex;intro i hi;simp only [Y03,Y0f,or_false] at hi;rcases hi with rfl | rfl | rfl | rfl | rfl
 ·exact ⟨by simpa using z1v c v p1 hp1,by rw [Jk];omega,trivial,λ x z=>(nomatch z),yE hd hh a1,a2⟩
 ·exact ⟨by simp,by simp,trivial,λ x z=>(nomatch z),yE hd hh b1,b2⟩
 ·refine ⟨by simpa using z5y c v p2 hp2,by rw [Q1];omega,wJ c 9,λ x z=>?_,yE hd hh c1,c2⟩;rw [<- Option.some.inj z,Q2];exact h9
 ·refine z3b hd hh h3 ?_ (by simp [OW];omega);exact (z89 c).sublist ((Y3d _ _).trans (List.drop_sublist _ _))
 ·refine z3b hd hh h4 ?_ 121
  have:[nmF c 8,nmF c 7].Nodup:=by simp;exact ja c 102 102 102
  exact this.sublist (Y3d _ _)
theorem V7 (F:Five c p1 p2 v M):M.map Itm.nm=[nmF c 0,nmF c 1,nmF c 2,nmF c 3,nmF c 4]/\M.length=5:=by
 obtain ⟨g0,g1,g2,i3,i4,rfl,_,_,_,h3,h4⟩:=F.ex;obtain ⟨cs3,x3,s3,e3,rfl,_⟩:=h3;obtain ⟨cs4,x4,s4,e4,rfl,_⟩:=h4;exact ⟨rfl,rfl⟩
end
end K19
namespace PI
open PySem L2
section
variable {cl:101}{ρ ρ':En}{h h' h2:Hh}{c e:E}{a b r:Ss}{p p0 p1 p2:Pos}{d x:D}{i:Nat}{q:Nat}
theorem wU (he:e.ev cl ρ h=.exc q h'):Ss.run cl (.cons (.ex e p) r) ρ h=.ex q ρ h':=by
 show j8 (jm ρ (e.ev cl ρ h) λ d h1=>.nx ρ h1) 122=_;rw [he];rfl
theorem jX (hc:c.evT cl ρ h=.ok true h')(ha:a.run cl ρ h'=.ex q ρ' h2):Ss.run cl (.cons (.iff c a b p) r) ρ h=.ex q ρ' h2:=by rw [US hc,ha];rfl
theorem B8 (hc:c.evT cl ρ h=.ok false h')(ha:b.run cl ρ h'=.ex q ρ' h2):Ss.run cl (.cons (.iff c a b p) r) ρ h=.ex q ρ' h2:=by
 show j8 (jm ρ (c.evT cl ρ h) λ t h1=>if t then a.run cl ρ h1 else b.run cl ρ h1) 122=_;rw [hc];show j8 (b.run cl ρ h') _=_;rw [ha];rfl
theorem wC {x:Str}{u:List Nat}{m:Ms}(hm:m.fine ρ=true):Ss.run cl (.cons (.rais x q u m p0 p1 p) r) ρ h=.ex q ρ h:=by
 show j8 (if m.fine ρ then .ex q ρ h else .no) 122=_;rw [if_pos hm];rfl
theorem Q4 {tg:Tg}{it:I}{w:Ck×List D}(hi:it.ev cl ρ h=.ok w h')(hf:jg w.1 (zU tg λ ρ' h'=>a.run cl ρ' h') w.2 ρ h'=.ex q ρ' h2):Ss.run cl (.cons (.forr tg it a p) r) ρ h=.ex q ρ' h2:=by
 show j8 (jm ρ (it.ev cl ρ h) λ q h1=>jg q.1 (zU tg λ ρ' h'=>a.run cl ρ' h') q.2 ρ h1) 122=_;rw [hi,andS_ok,hf];rfl
theorem V8 {ck:Ck}{f:D->En->Hh->RS}{l:List D}(hs:stay ck h)(hf:f x ρ h=.ex q ρ' h'):jg ck f (x::l) ρ h=.ex q ρ' h':=by
 rw [jg,if_pos hs,hf]
theorem z61 {w:E}{bb:Ss}(hw:whR (λ ρ h=>w.evT cl ρ h) (λ ρ h=>bb.run cl ρ h) ρ h=.ex q ρ' h'):Ss.run cl (.cons (.whil w bb p) r) ρ h=.ex q ρ' h':=by
 show j8 (whR (λ ρ h=>w.evT cl ρ h) (λ ρ h=>bb.run cl ρ h) ρ h) _=_;rw [hw];rfl
theorem zD {o:RS}(z:o=.ex q ρ h):JF o=.exc q h:=by rw [z];rfl
theorem z62 {c:En->Hh->Res Bool}{b:En->Hh->RS}{ρ ρ':En}{h h1 h':Hh}(ec:c ρ h=.ok true h1)(eb:b ρ h1=.ex q ρ' h'):whR c b ρ h=.ex q ρ' h' :=
 WG (n:=1) (by rw [whL,ec];simp only [eb]) 110
end
end PI
namespace K19
open PySem L2 PI
noncomputable def Sh1 (x:Str):Prop:=x.length<=1000
theorem z63 {x:Str}{kn:XU}{h:Hh}(hx:x∉kn):zy .NotIn (.str x) (.tup (kn.map .str)) h=.ok (.bl true) h:=by
 have fl:(kn.map D.str).all yp=true:=by
  rw [Y14];intro d hd;obtain ⟨y,_,rfl⟩:=Y0e.mp hd;rfl
 have an:((kn.map D.str).any λ y=>eqV (vOf y) (vOf (.str x)))=false:=by
  rw [Y3e];intro d hd;obtain ⟨y,hy,rfl⟩:=Y0e.mp hd
  have:y≠x:=λ z=>hx (z▸hy)
  simp [vOf,eqV,this]
 simp only [cmp_notin,inD,QP];rw [if_pos ⟨rfl,fl⟩,an];rfl
theorem Jl {z:Str}{ρ:En}{i:Nat}{p0 p p1 p2:Pos}{x:Str}(e:ρ[i]?=some (some (.str z)))(l:Sh1 z)(lx:x.length<=1000):Ms.fine ρ (.f (.v i p0 p) (.c x p1) [] p2)=true:=by
 have a:Fp.fine ρ (.v i p0 p)=true:=by
  show (match ρ[i]? with | some (some (.str z))=>decide (z.length<=1000) | _=>false)=true
  rw [e];exact decide_eq_true l
 have b:Fp.fine ρ (.c x p1)=true:=decide_eq_true lx;show (Fp.fine ρ (.v i p0 p)&&Fp.fine ρ (.c x p1)&&true&&_)=true;rw [a,b];rfl
theorem z3c {z:Str}{ρ:En}{i:Nat}{p0 p p1 p2 p3:Pos}{x y:Str}(e:ρ[i]?=some (some (.str z)))(l:Sh1 z)(lx:x.length<=1000)(ly:y.length<=1000):Ms.fine ρ (.f (.c x p1) (.v i p0 p) [.c y p3] p2)=true:=by
 have a:Fp.fine ρ (.v i p0 p)=true:=by
  show (match ρ[i]? with | some (some (.str z))=>decide (z.length<=1000) | _=>false)=true
  rw [e];exact decide_eq_true l
 have b:Fp.fine ρ (.c x p1)=true:=decide_eq_true lx;have c:Fp.fine ρ (.c y p3)=true:=decide_eq_true ly;show (Fp.fine ρ (.c x p1)&&Fp.fine ρ (.v i p0 p)&&(Fp.fine ρ (.c y p3)&&true)&&_)=true;rw [a,b,c];rfl
theorem z64 (cl:101){x:Str}{kn:XU}{h:Hh}(hx:x∉kn)(l:Sh1 x):d_check_variable.run cl [.str x,.tup (kn.map .str)] h=.exc 1 h :=
 zD (jX (z4 rfl rfl (z63 hx)) (wC (Jl rfl l 102)))
section
variable {qs:108}{it:Nat}{h:Hh}
noncomputable def NoH (qs:108)(x:Str):Prop:=x∉qs.map (·.1)\/∃ ps bd bo,(x,dfD x ps bd bo)∈qs
noncomputable def NoF (qs:108)(x:Str):Prop:=x∉qs.map (·.1)\/IsH qs x
theorem Tb.nout {n:Str}(t:Tb qs it h)(hm:n∉qs.map (·.1)):zy .NotIn (.str n) (.loc it) h=.ok (.bl true) h:=by
 simp only [cmp_notin,inD,t.st,jZ,Y1 t.nd hm];rfl
theorem U6 (cl:101)(t:Tb qs it h){x:Str}{p:Pl}{a b:D}(hx:NoH qs x)(l:Sh1 x):d_check_handle.run cl [.tup [.str "handle",.str x,a,b],.str p.s,.loc it] h=.exc 1 h:=by
 have a1:∀ h,zC (.tup [.str "handle",.str x,a,b]) (.int 1) h=.ok (.str x) h:=λ _=>rfl;rcases hx with hx | ⟨ps,bd,bo,hm⟩
 ·exact zD (zb (bnd rfl (bnd rfl (a1 _))) (jX (z34 (z4 rfl rfl (t.nout hx))) (wC (Jl rfl l 102))))
 ·have e1:=neS (h:=h) jj yd;rw [show (("def":Str)==("handler":Str))=false from rfl] at e1;exact zD (zb (bnd rfl (bnd rfl (a1 _))) (jX (z5g (z4 rfl rfl (t.nin hm)) (z4 (bnd (bnd rfl (bnd rfl (t.sub hm))) (bnd rfl (df0 _ _ _ _ _))) rfl e1)) (wC (Jl rfl l 102))))
theorem U7 (cl:101)(t:Tb qs it h){x:Str}{a b:D}(hx:IsH qs x):d_check_handle.run cl [.tup [.str "handle",.str x,a,b],.str Pl.en.s,.loc it] h=.exc 3 h:=by
 obtain ⟨r,hm⟩:=hx;have a1:∀ h,zC (.tup [.str "handle",.str x,a,b]) (.int 1) h=.ok (.str x) h:=λ _=>rfl;have a0:∀ h,zC (.tup (.str "handler"::r)) (.int 0) h=.ok (.str "handler") h:=λ h=>by rw [sub_tup,zY 102];rfl
 have e1:=neS (h:=h) yd yd;rw [beq_self_eq_true,Bool.not_true] at e1;have e2:=eqS (h:=h) (Pl.ok .en) U3;exact zD (zb (bnd rfl (bnd rfl (a1 _))) (za (z5g (z4 rfl rfl (t.nin hm)) (z4 (bnd (bnd rfl (bnd rfl (t.sub hm))) (bnd rfl (a0 _))) rfl e1)) (jX (z4 rfl rfl e2) (wC rfl))))
theorem z65 (cl:101)(t:Tb qs it h){f:Str}(hf:NoF qs f):d_is_function.run cl [.str f,.loc it] h=.ok (.bl false) h:=by
 rcases hf with hf | ⟨r,hm⟩
 ·exact ze (zk (zi (zP (z4 rfl rfl (t.out hf)))))
 ·have a0:∀ h,zC (.tup (.str "handler"::r)) (.int 0) h=.ok (.str "handler") h:=λ h=>by rw [sub_tup,zY 102];rfl
  have e1:=eqS (h:=h) yd jj;rw [show (("handler":Str)==("def":Str))=false from rfl] at e1;exact ze (zk (zi (jD (z4 rfl rfl (t.inn hm)) (z4 (bnd (bnd rfl (bnd rfl (t.sub hm))) (bnd rfl (a0 _))) rfl e1))))
noncomputable def NoB (qs:108)(x:Str):Prop:=NoF qs x\/∃ n b,IsD qs x n b/\(n≠1\/b=true)
theorem B9 (cl:101)(c13:C13 cl)(f13:∀ {f:Str},NoF qs f->cl 13 [.str f,.loc it] h=.ok (.bl false) h)(t:Tb qs it h){f:Str}(hf:NoB qs f):d_may_be_handed.run cl [.str f,.loc it] h=.ok (.bl false) h:=by
 rcases hf with hf | ⟨n,b,hd,hc⟩
 ·exact ze (zk (zi (zP (bnd (bnd rfl (bnd rfl (f13 hf))) rfl))))
 ·have k:=c13 t hd;obtain ⟨ps,bd,bo,hm,hl,hb⟩:=hd;by_cases z:n=1
  ·have b1:b=true:=hc.resolve_left λ w=>w z;obtain ⟨y,rfl⟩:∃ y,bd=.str y:=by rcases hb with ⟨w,_⟩ | ⟨_,w⟩;rw [b1] at w;cases w;exact w
   have e1:zy .Eq (.int (ps.length:Nat)) (.int 1) h=.ok (.bl true) h:=by rw [eqI,hl,z];rfl
   exact ze (zk (zi (wy (bnd (bnd rfl (bnd rfl k)) rfl) (z4 (bnd (bnd (bnd rfl (bnd rfl (t.sub hm))) 112) rfl) rfl e1) (z4 (bnd (bnd rfl (bnd rfl (t.sub hm))) 112) rfl rfl))))
  ·have e1:zy .Eq (.int (ps.length:Nat)) (.int 1) h=.ok (.bl false) h:=by
    rw [eqI,hl]
    congr 2
    rw [beq_eq_false_iff_ne];omega
   exact ze (zk (zi (yV (bnd (bnd rfl (bnd rfl k)) rfl) (z4 (bnd (bnd (bnd rfl (bnd rfl (t.sub hm))) 112) rfl) rfl e1))))
end
noncomputable def Jm:Ss->S
 | .cons s _=>s
 | .nil=>.ret (.non ⟨0,0,0,0⟩) ⟨0,0,0,0⟩
noncomputable def Z2:S->E
 | .iff c _ _ _=>c
 | _=>.non ⟨0,0,0,0⟩
noncomputable def wn:Option (Nat×Bool)->Nat
 | none=>1
 | some q=>q.1
noncomputable def wb:Option (Nat×Bool)->Bool
 | none=>false
 | some q=>q.2
section
variable {qs:108}{it:Nat}{h:Hh}
noncomputable def F13 (cl:101):Prop:=∀ {qs:108}{it:Nat}{h:Hh},Tb qs it h->∀ {f:Str},NoF qs f->cl 13 [.str f,.loc it] h=.ok (.bl false) h
noncomputable def F14 (cl:101):Prop:=∀ {qs:108}{it:Nat}{h:Hh},Tb qs it h->∀ {f:Str},NoB qs f->cl 14 [.str f,.loc it] h=.ok (.bl false) h
noncomputable def Cal (qs:108)(blk:XX)(f:Str):Option (Nat×Bool)->Prop
 | none=>blk=some f
 | some (n,b)=>blk≠some f/\IsD qs f n b
noncomputable def Hnd (qs:108)(blk:XX):Option Str->Prop
 | none=>True
 | some x=>blk=some x\/IsD qs x 1 false
inductive CallBad (qs:108)(blk:XX)(f:Str)(o:XX)(n:Nat):Nat->Prop
 | nofn:blk≠some f->NoF qs f->CallBad qs blk f o n 1
 | noblk (w x):Cal qs blk f w->o=some x->blk≠some x->NoB qs x->Sh1 x->CallBad qs blk f o n 1
 | takes (w):Cal qs blk f w->Hnd qs blk o->o.isSome≠(wb w)->CallBad qs blk f o n 2
 | count (w):Cal qs blk f w->Hnd qs blk o->o.isSome=(wb w)->n≠(wn w)->CallBad qs blk f o n 2
theorem z8a {o:XX}{h:Hh}:zy .IsNot (zp o) .non h=.ok (.bl o.isSome) h:=by cases o<;>rfl
theorem z1z (cl:101)(c13:C13 cl)(c14:C14 cl)(f13:F13 cl)(f14:F14 cl)(t:Tb qs it h)(f:Str)(o blk:XX)(ps:List D)(sf:PyData.strOk f=true)(so':wE o)(lf:Sh1 f)(hb:wE blk){e:Nat}(hc:CallBad qs blk f o ps.length e) :
  d_check_call.run cl [.tup [.str "call",.str f,zp o,.tup ps],zp blk,.loc it] h=.exc e h:=by
 have b1:=neB (h:=h) sf hb;have b2:=eqB (h:=h) sf hb;have K1:∀ w,Cal qs blk f w->E.evT cl (Z2 (Jm (zH 2 d_check_call.body))) [some (.tup [.str "call",.str f,zp o,.tup ps]),some (zp blk),some (.loc it),some (.str f),some (zp o),none,none] h=.ok false h:=by
  intro w hw;cases w with
  | none =>
   rw [decide_eq_true (show blk=some f from hw)] at b1;exact zP (z4 rfl rfl b1)
  | some q =>
   rw [decide_eq_false hw.1] at b1;exact jD (z4 rfl rfl b1) (bnd (bnd (bnd rfl (bnd rfl (c13 t hw.2))) rfl) rfl)
 have K2:Hnd qs blk o->E.evT cl (Z2 (Jm (zH 3 d_check_call.body))) [some (.tup [.str "call",.str f,zp o,.tup ps]),some (zp blk),some (.loc it),some (.str f),some (zp o),none,none] h=.ok false h:=by
  intro ho;cases o with
  | none=>exact zP (z4 rfl rfl rfl)
  | some x =>
   have b3:=neB (h:=h) (a:=x) so' hb;by_cases z:blk=some x
   ·rw [decide_eq_true z] at b3;exact yV (z4 rfl rfl rfl) (z4 rfl rfl b3)
   ·rw [decide_eq_false z] at b3;exact wy (z4 rfl rfl rfl) (z4 rfl rfl b3) (bnd (bnd (bnd rfl (bnd rfl (c14 t (Or.resolve_left ho z)))) rfl) rfl)
 have K3:∀ w,Cal qs blk f w->∀ {k:RS},Ss.run cl (zH 6 d_check_call.body) [some (.tup [.str "call",.str f,zp o,.tup ps]),some (zp blk),some (.loc it),some (.str f),some (zp o),some (.int ((wn w:Nat):Int)),some (.bl (wb w))] h=k->Ss.run cl (zH 4 d_check_call.body) [some (.tup [.str "call",.str f,zp o,.tup ps]),some (zp blk),some (.loc it),some (.str f),some (zp o),none,none] h=k:=by
  intro w hw k hk;cases w with
  | none =>
   have z:blk=some f:=hw;rw [decide_eq_true z] at b1 b2;exact zb (bnd (zi (z4 rfl rfl b2)) rfl) (zb (zi (zP (z4 rfl rfl b1))) hk)
  | some q =>
   obtain ⟨n',b'⟩:=q;obtain ⟨hne,qp,bd,bo,hm,hl,hbd⟩:=hw;rw [decide_eq_false hne] at b1 b2;have hk:Ss.run cl (zH 6 d_check_call.body) [some (.tup [.str "call",.str f,zp o,.tup ps]),some (zp blk),some (.loc it),some (.str f),some (zp o),some (.int ((n':Nat):Int)),some (.bl b')] h=k:=hk;rw [<- hl] at hk;have tb:zy .IsNot bd .non h=.ok (.bl b') h:=by
    rcases hbd with ⟨z,rfl⟩ | ⟨z,y,rfl⟩<;>rw [z]<;>rfl
   exact zb (bnd (zi (z4 rfl rfl b2)) (bnd (bnd (bnd rfl (bnd rfl (t.sub hm))) 112) rfl)) (zb (zi (jD (z4 rfl rfl b1) (z4 (bnd (bnd rfl (bnd rfl (t.sub hm))) (bnd rfl (df3 _ _ _ _ _))) rfl tb))) hk)
 cases hc with
 | nofn hne hno =>
  rw [decide_eq_false hne] at b1;exact zD (zb rfl (zb rfl (jX (jD (z4 rfl rfl b1) (bnd (bnd (bnd rfl (bnd rfl (f13 t hno))) rfl) rfl)) (wC (Jl rfl lf 102)))))
 | noblk w x hw ho hx hn lx =>
  subst ho;have b3:=neB (h:=h) (a:=x) so' hb;rw [decide_eq_false hx] at b3;exact zD (zb rfl (zb rfl (za (K1 w hw) (jX (wy (z4 rfl rfl rfl) (z4 rfl rfl b3) (bnd (bnd (bnd rfl (bnd rfl (f14 t hn))) rfl) rfl)) (wC (Jl rfl lx 102))))))
 | takes w hw ho hs =>
  have nb:∀ {a b:Bool},a≠b->zy .NotEq (.bl a) (.bl b) h=.ok (.bl true) h:=λ {a b} z=>by rw [G7];cases a<;>cases b<;>first | rfl | exact absurd rfl z
  exact zD (zb rfl (zb rfl (za (K1 w hw) (za (K2 ho) (K3 w hw (jX (z4 (zi (z4 rfl rfl z8a)) rfl (nb hs)) (wC (z3c rfl lf 102 102))))))))
 | count w hw ho hs hn =>
  have e3:zy .NotEq (.int (ps.length:Nat)) (.int ((wn w:Nat):Int)) h=.ok (.bl true) h:=by
   rw [neI]
   have:((ps.length:Int)==((wn w:Nat):Int))=false:=by
    rw [beq_eq_false_iff_ne];intro z;exact hn (by exact_mod_cast z)
   rw [this];rfl
  have nb:zy .NotEq (.bl o.isSome) (.bl (wb w)) h=.ok (.bl false) h:=by rw [G7,hs];simp
  exact zD (zb rfl (zb rfl (za (K1 w hw) (za (K2 ho) (K3 w hw (za (z4 (zi (z4 rfl rfl z8a)) rfl nb) (jX (z4 rfl rfl e3) (wC (Jl rfl lf 102)))))))))
end
inductive locBad (qs:108)(blk:XX)(c:Ct):Kd->Nat->Nat->Prop
 | var (x n):x∉c.kn->Sh1 x->locBad qs blk c (.var x) n 1
 | call (f o n e):PyData.strOk f=true->wE o->Sh1 f->CallBad qs blk f o n e->locBad qs blk c (.call f o) n e
 | hd1 (x n):NoH qs x->Sh1 x->locBad qs blk c (.handle x) n 1
 | hd3 (x n):IsH qs x->c.pl=.en->locBad qs blk c (.handle x) n 3
 | go (n):c.pl≠.cl->locBad qs blk c .go n 3
inductive Bd (al:XU)(qs:108)(blk:XX)(e:Nat):Ct->G->Prop
 | here (c:Ct) (k:Kd) (ps:List G):k.ok ps.length=true->locBad qs blk c k ps.length e->Bd al qs blk e c (.nd k ps)
 | kid (c:Ct) (k:Kd) (ps:List G) (A B:List (G×Ct)) (q:G×Ct):k.ok ps.length=true->(∃ al',wS al' qs blk c k ps.length)->zJ c k ps=A++q::B->(∀ a∈A,∃ al',Gd al' qs blk a.2 a.1)->Bd al qs blk e q.2 q.1->Bd al qs blk e c (.nd k ps)
noncomputable def X10 (cl:101):Prop:=∀ {x:Str}{kn:XU}{h:Hh},x∉kn->Sh1 x->cl 10 [.str x,.tup (kn.map .str)] h=.exc 1 h
structure X11 (cl:101):Prop where
 n:∀ {qs:108}{it:Nat}{h:Hh},Tb qs it h->∀ {x:Str}{p:Pl}{a b:D},NoH qs x->Sh1 x->cl 11 [.tup [.str "handle",.str x,a,b],.str p.s,.loc it] h=.exc 1 h
 e:∀ {qs:108}{it:Nat}{h:Hh},Tb qs it h->∀ {x:Str}{a b:D},IsH qs x->cl 11 [.tup [.str "handle",.str x,a,b],.str Pl.en.s,.loc it] h=.exc 3 h
noncomputable def X12 (cl:101):Prop:=∀ {qs:108}{it:Nat}{h:Hh},Tb qs it h->∀ (f:Str) (o blk:XX) (ps:List D),PyData.strOk f=true->wE o->Sh1 f->wE blk->∀ {e:Nat},CallBad qs blk f o ps.length e->cl 12 [.tup [.str "call",.str f,zp o,.tup ps],zp blk,.loc it] h=.exc e h
section
variable {al:XU}{qs:108}{it:Nat}{blk:XX}
theorem z20 (cl:101)(c10:X10 cl)(c11:X11 cl)(c12:X12 cl){h:Hh}(t:Tb qs it h)(hb:wE blk){c:Ct}{k:Kd}{ps:List G}(hk:k.ok ps.length=true){e:Nat}(hl:locBad qs blk c k ps.length e) :
  d_check_expression.run cl [(G.nd k ps).d,knD c,.str c.pl.s,zp blk,.loc it] h=.exc e h:=by
 have e0:=λ h=>Jb k (G.ds ps) h;rw [<- G.d] at e0;have e1:=λ h=>eqS (h:=h) (wf k) OK;have e2:=λ h=>eqS (h:=h) (wf k) WU;have e3:=λ h=>eqS (h:=h) (wf k) yX;have e4:=λ h=>eqS (h:=h) (wf k) z37;have e5:=λ h=>neS (h:=h) c.pl.ok OJ;rw [V1] at e1;rw [qK] at e2;rw [yj] at e3;rw [U1] at e4;cases hl with
 | var x n hx lx =>
  have a1:∀ h,zC (G.nd (.var x) ps).d (.int 1) h=.ok (.str x) h:=λ h=>by rw [G.d];simp only [Kd.enc];rw [sub_tup,zY 102];rfl
  exact zD (jX (z4 107 rfl (e1 _)) (wU (bnd (bnd rfl (bnd rfl (a1 _))) (bnd rfl (c10 hx lx)))))
 | call f o n e sf so' lf hc =>
  have k1:=c12 t f o blk (G.ds ps) sf so' lf hb (by rw [qJ];exact hc);exact zD (za (z4 107 rfl (e1 _)) (jX (z4 107 rfl (e2 _)) (wU (bnd rfl (bnd rfl k1)))))
 | hd1 x n hx lx =>
  obtain ⟨a,b,rfl⟩:=yA (of_decide_eq_true hk);exact zD (za (z4 107 rfl (e1 _)) (za (z4 107 rfl (e2 _)) (jX (z4 107 rfl (e3 _)) (wU (bnd rfl (bnd rfl (c11.n t (a:=a.d) (b:=b.d) hx lx)))))))
 | hd3 x n hx hp =>
  obtain ⟨a,b,rfl⟩:=yA (of_decide_eq_true hk);rw [hp];exact zD (za (z4 107 rfl (e1 _)) (za (z4 107 rfl (e2 _)) (jX (z4 107 rfl (e3 _)) (wU (bnd rfl (bnd rfl (c11.e t (a:=a.d) (b:=b.d) hx)))))))
 | go n hp =>
  have e6:(c.pl.s==("clause":Str))=false:=by
   cases z:c.pl with
   | cl=>exact absurd z hp
   | en=>rfl
   | fr=>rfl
  rw [e6] at e5;exact zD (za (z4 107 rfl (e1 _)) (za (z4 107 rfl (e2 _)) (za (z4 107 rfl (e3 _)) (jX (jD (z4 107 rfl (e4 _)) (z4 rfl rfl (e5 _))) (wC rfl)))))
noncomputable def Ba (cl:101):Prop:=∀ {qs:108}{it:Nat}{blk:XX}{h:Hh},Tb qs it h->wE blk->∀ {c:Ct}{k:Kd}{ps:List G},k.ok ps.length=true->∀ {e:Nat},locBad qs blk c k ps.length e->cl 9 [(G.nd k ps).d,knD c,.str c.pl.s,zp blk,.loc it] h=.exc e h
theorem Gh:∀ l:List G,G.sizes l.reverse=G.sizes l:=λ l=>by
 induction l with
 | nil=>rfl
 | cons g r ih=>rw [Y20,zN,ih,G.sizes,G.sizes,G.sizes];omega
theorem Y8 (cl:101)(C8:yB cl)(C9:Jg cl)(X9:Ba cl){h:Hh}(t:Tb qs it h)(hb:wE blk)(d0 d1 d2:D){e:Nat} :
  ∀ (n:Nat) (Z:List (G×Ct)) (b:G×Ct) (W:List (G×Ct)) (J:Hh) (one:Option D),b.1.size+wsz W<=n->Bd al qs blk e b.2 b.1->(∀ q∈W,∃ al',Gd al' qs blk q.2 q.1)->(∀ q∈b::W,q.2.kn.length+q.1.size<=1000000)->wsz (Z++b::W)<=1000000 ->
  ∃ ρ' h',whR (λ ρ h=>w_check_body_1.evT cl ρ h) (λ ρ h=>b_check_body_1.run cl ρ h) [some d0,some d1,some d2,some (zp blk),some (.loc it),some 115,one] (h++.lst ((Z++b::W).map zm)::J)=.ex e ρ' h':=by
 intro n
 induction n with
 | zero=>intro Z b W J one hn;have:=yy b.1;omega
 | succ n ih =>
  intro Z b W J one hn hbd hW hz hl;have turn:∀ (V:List (G×Ct)) (k:Kd) (ps:List G) (c:Ct),Z++b::W=V++[(G.nd k ps,c)]->k.ok ps.length=true->(∃ al',wS al' qs blk c k ps.length)->c.kn.length+(G.nd k ps).size<=1000000 ->
    (∀ J',∃ ρ' h',whR (λ ρ h=>w_check_body_1.evT cl ρ h) (λ ρ h=>b_check_body_1.run cl ρ h) [some d0,some d1,some d2,some (zp blk),some (.loc it),some 115,some (zm (G.nd k ps,c))] (h++.lst ((V++(zJ c k ps).reverse).map zm)::J')=.ex e ρ' h') ->
    ∃ ρ' h',whR (λ ρ h=>w_check_body_1.evT cl ρ h) (λ ρ h=>b_check_body_1.run cl ρ h) [some d0,some d1,some d2,some (zp blk),some (.loc it),some 115,one] (h++.lst ((Z++b::W).map zm)::J)=.ex e ρ' h':=by
   intro V k ps c ev hk hl1 hz' next;obtain ⟨al',hl1⟩:=hl1;rw [ev] at hl ⊢;have kf:=yz c k ps hk;have es:wsz (V++[(G.nd k ps,c)])=wsz V+1+G.sizes ps:=by
    unfold wsz;rw [Y0w,zN,Y0i,Y2m,G.sizes,G.sizes,G.size];omega
   have klen:(zJ c k ps).length=ps.length:=by
    have:=congrArg List.length kf
    simpa using this
   have k9:=C9 (h:=h++.lst (V.map zm)::J) (t.grow) hb hk hl1;obtain ⟨J1,m,k8,a8⟩:=C8 c k ps (h++.lst (V.map zm)::J) hk hz';have wl1:V.length<=wsz V:=by have:=wl (V.map (·.1));simpa [wsz] using this
   have wl2:=wl ps;have f2:V.length+(zJ c k ps).length<=1000000:=by rw [klen];omega
   obtain ⟨ρ',h',en⟩:=next (J++(J1++[.lst ((zJ c k ps).map zm).reverse]));refine ⟨ρ',h',?_⟩;have ec:w_check_body_1.evT cl [some d0,some d1,some d2,some (zp blk),some (.loc it),some 115,one] (h++.lst ((V++[(G.nd k ps,c)]).map zm)::J)=.ok true (h++.lst ((V++[(G.nd k ps,c)]).map zm)::J):=by
    (show E.evT cl (.cmpN true (.var 5 _) _ _) _ _=_);simp [E.evT,Zp,QX,ZW,Zq,rd,hx0]
   rw [QQ ec (ρ':=[some d0,some d1,some d2,some (zp blk),some (.loc it),some 115,some (zm (G.nd k ps,c))]) (h':=h++.lst ((V++(zJ c k ps).reverse).map zm)::(J++(J1++[.lst ((zJ c k ps).map zm).reverse]))),en];have r8:rd (h++O.lst (V.map zm)::(J++J1)) m=some ((zJ c k ps).map zm):=zO (by simpa using a8);simp only [Y07,Y1k] at k8;generalize hE:(zJ c k ps).map zm=Kd1 at r8 ⊢;have lK:Kd1.length=(zJ c k ps).length:=by rw [<- hE];simp
   have mp:m0D .pop 115 (h++.lst ((V++[(G.nd k ps,c)]).map zm)::J)=.ok (zm (G.nd k ps,c)) (h++.lst (V.map zm)::J):=by
    simp [m0D,hx0,yt]
   have gN:(h++O.lst (V.map zm)::(J++J1)++[O.lst Kd1.reverse])[(h++O.lst (V.map zm)::(J++J1)).length]?=some (.lst Kd1.reverse):=by rw [hx0];rfl
   have oL:∀ (J:Hh) (r:Res D),onL 115 (h++O.lst (V.map zm)::J) r=r:=λ J r=>by simp only [onL,hx0];rfl
   have me:m1D .extend 115 (.loc (h++O.lst (V.map zm)::(J++J1)).length) (h++O.lst (V.map zm)::(J++J1)++[O.lst Kd1.reverse])=.ok .non (h++.lst (V.map zm++Kd1.reverse)::(J++(J1++[.lst Kd1.reverse]))):=by
    have g0:(h++O.lst (V.map zm)::(J++J1)++[O.lst Kd1.reverse])[h.length]?=some (.lst (V.map zm)):=by rw [Y07,hx0];rfl
    simp only [m1D,g0,gN];rw [if_pos (by simp [lK];exact f2)];rw [Y07,yt];simp
   have mr:(V++(zJ c k ps).reverse).map zm=V.map zm++Kd1.reverse:=by rw [Y0w,Y2v,hE]
   rw [mr];have lr:lrD (.loc m) (h++O.lst (V.map zm)::(J++J1))=.ok (.loc (h++O.lst (V.map zm)::(J++J1)).length) (h++O.lst (V.map zm)::(J++J1)++[O.lst Kd1.reverse]):=by simp only [lrD,r8];rfl
   exact zb (bnd rfl mp) (je (bnd rfl (bnd rfl k9)) (je (bnd rfl ((oL _ _).trans (bnd (bnd (bnd rfl (bnd rfl k8)) lr) me))) rfl))
  have kb:∀ (c:Ct) (k:Kd) (ps:List G),k.ok ps.length=true->c.kn.length+(G.nd k ps).size<=1000000->∀ q∈zJ c k ps,q.2.kn.length+q.1.size<=1000000:=by
   intro c k ps hk hz' q hq;have kf:=yz c k ps hk;have s1:=V0 c k ps q hq;have s2:q.1.size<=G.sizes ps:=wT (by rw [<- kf];exact Y0e.mpr ⟨q,hq,rfl⟩);rw [G.size] at hz';omega
  have ks:∀ (c:Ct) (k:Kd) (ps:List G),k.ok ps.length=true->wsz (zJ c k ps)=G.sizes ps:=λ c k ps hk=>by unfold wsz;rw [yz c k ps hk]
  have wa:∀ A B:List (G×Ct),wsz (A++B)=wsz A+wsz B:=λ A B=>by unfold wsz;rw [Y0w,zN]
  have wr:∀ A:List (G×Ct),wsz A.reverse=wsz A:=λ A=>by unfold wsz;rw [Y2v,Gh]
  have wc:∀ (q:G×Ct) (A:List (G×Ct)),wsz (q::A)=q.1.size+wsz A:=λ q A=>by unfold wsz;rw [Y0i,G.sizes]
  rcases Y33 W with rfl | ⟨W',q,rfl⟩
  ·
   obtain ⟨g,c⟩:=b;cases hbd with
   | here c' k ps hk hloc =>
    have x9:=X9 (h:=h++.lst (Z.map zm)::J) (t.grow) hb hk hloc;have ec:w_check_body_1.evT cl [some d0,some d1,some d2,some (zp blk),some (.loc it),some 115,one] (h++.lst ((Z++[(G.nd k ps,c)]).map zm)::J)=.ok true (h++.lst ((Z++[(G.nd k ps,c)]).map zm)::J):=by
     (show E.evT cl (.cmpN true (.var 5 _) _ _) _ _=_);simp [E.evT,Zp,QX,ZW,Zq,rd,hx0]
    have mp:m0D .pop 115 (h++.lst ((Z++[(G.nd k ps,c)]).map zm)::J)=.ok (zm (G.nd k ps,c)) (h++.lst (Z.map zm)::J):=by
     simp [m0D,hx0,yt]
    exact ⟨_,_,z62 ec (zb (bnd rfl mp) (wU (bnd rfl (bnd rfl x9))))⟩
   | kid c' k ps A B q hk hloc ekids hA hq =>
    have hzb:c.kn.length+(G.nd k ps).size<=1000000:=hz (G.nd k ps,c) 110;refine turn Z k ps c rfl hk hloc hzb λ J'=>?_;have er:Z++(zJ c k ps).reverse=(Z++B.reverse)++q::A.reverse:=by rw [ekids];simp
    rw [er];have hs:=ks c k ps hk;rw [ekids,wa,wc] at hs;rw [wa,wc] at hl;have sz:(G.nd k ps).size=1+G.sizes ps:=by rw [G.size]
    have hn':(G.nd k ps).size+wsz ([]:List (G×Ct))<=n+1:=hn;refine ih (Z++B.reverse) q A.reverse J' _ ?_ hq (λ a ha=>hA a (Y2i.mp ha)) ?_ ?_
    ·rw [wr];have:wsz ([]:List (G×Ct))=0:=rfl;omega
    ·intro a ha;refine kb c k ps hk hzb a ?_;rw [ekids];rcases Y03.mp ha with rfl | ha
     ·simp
     ·have:=Y2i.mp ha;simp [this]
    ·rw [wa,wa,wc,wr,wr];have hl':wsz Z+((G.nd k ps).size+wsz ([]:List (G×Ct)))<=1000000:=hl;omega
  ·rw [Y34] at *
   obtain ⟨g,c⟩:=q;obtain ⟨al',gd⟩:=hW (g,c) 110;cases gd with
   | mk c' k ps hk hl1 hkids =>
    have hzb:c.kn.length+(G.nd k ps).size<=1000000:=hz (G.nd k ps,c) 110;refine turn (Z++b::W') k ps c 110 hk ⟨al',hl1⟩ hzb λ J'=>?_;have er:(Z++b::W')++(zJ c k ps).reverse=Z++b::(W'++(zJ c k ps).reverse):=by simp
    rw [er];have hs:=ks c k ps hk;have sz:(G.nd k ps).size=1+G.sizes ps:=by rw [G.size]
    have hn':b.1.size+wsz (W'++[(G.nd k ps,c)])<=n+1:=hn;rw [wa,wc] at hn';have n0:wsz ([]:List (G×Ct))=0:=rfl;have hn2:b.1.size+(wsz W'+((G.nd k ps).size+wsz ([]:List (G×Ct))))<=n+1:=hn';refine ih Z b (W'++(zJ c k ps).reverse) J' _ ?_ hbd ?_ ?_ ?_
    ·rw [wa,wr];omega
    ·intro a ha;rcases Y0p.mp ha with ha | ha
     ·exact hW a (by simp [ha])
     ·exact ⟨al',hkids a (Y2i.mp ha)⟩
    ·intro a ha;rcases Y03.mp ha with rfl | ha
     ·exact hz a 110
     ·rcases Y0p.mp ha with ha | ha
      ·exact hz a (by simp [ha])
      ·exact kb c k ps hk hzb a (Y2i.mp ha)
    ·have hl':wsz (Z++b::(W'++[(G.nd k ps,c)]))<=1000000:=hl;rw [wa,wc,wa,wc] at hl';rw [wa,wc,wa,wr];have hl2:wsz Z+(b.1.size+(wsz W'+((G.nd k ps).size+wsz ([]:List (G×Ct)))))<=1000000:=hl';omega
theorem z21 (cl:101)(C8:yB cl)(C9:Jg cl)(X9:Ba cl){h:Hh}(t:Tb qs it h)(hb:wE blk){c:Ct}{g:G}{e:Nat}(hg:Bd al qs blk e c g)(hz:c.kn.length+g.size<=1000000) :
  ∃ h',d_check_body.run cl [g.d,knD c,.str c.pl.s,zp blk,.loc it] h=.exc e h':=by
 obtain ⟨ρ',h',w⟩:=Y8 cl C8 C9 X9 t hb g.d (knD c) (.str c.pl.s) g.size [] (g,c) [] [] none (by simp [wsz,G.sizes]) hg 110 (by simpa using hz) (by simp [wsz,G.sizes];omega);exact ⟨h',zD (zb rfl (z61 w))⟩
end
theorem z22 {xs:XU}{x:Str}(hx:x∈xs):(wv (kv xs) (Sum.inr x)).isSome=true:=by
 unfold wv
 have:((kv xs).find? (λ kv=>decide (kv.1=Sum.inr x))).isSome=true:=by
  rw [List.find?_isSome];exact ⟨((Sum.inr x:Key),D.bl true),Y0e.mpr ⟨x,hx,rfl⟩,by simp⟩
 rw [Y1z];exact this
theorem Z3 (cl:101)(c:Ck)(h:Hh)(hc:∀ o,stay c (h++[o]))(d0:D):∀ (xs seen:XU) (nm:Option D),¬ (seen++xs).Nodup->seen.Nodup->(∀ x∈xs,Sh1 x)->(seen++xs).length<=1000 ->
  ∃ ρ' h',jg c (zU jh λ ρ' h'=>b_refuse_twice_1.run cl ρ' h') (xs.map .str) [some d0,some 115,nm] (h++[.dK (kv seen)])=.ex 1 ρ' h'
 | [],seen,nm,hn,hs,_,_=>absurd (by simpa using hs) hn
 | x::r,seen,nm,hn,hs,hL,hl=>by
  have g0:(h++[O.dK (kv seen)])[h.length]?=some (.dK (kv seen)):=by rw [hx0];rfl
  by_cases hx:x∈seen
  ·have i1:zy .In (.str x) 115 (h++[O.dK (kv seen)])=.ok (.bl true) (h++[O.dK (kv seen)]):=by
    simp only [cmp_in,inD,g0,jZ,z22 hx];rfl
   exact ⟨_,_,V8 (hc _) (jX (z4 rfl rfl i1) (wC (Jl rfl (hL x (Y06 ..)) 102)))⟩
  ·obtain ⟨k1,k2⟩:=V3 hx;have hs2:(seen++[x]).Nodup:=by
    rw [Y2s];refine ⟨hs,by simp,?_⟩;intro a ha b hb;rw [Y0d.mp hb];exact λ z=>hx (z▸ha)
   obtain ⟨ρ',h',e⟩:=Z3 cl c h hc d0 r (seen++[x]) (some (.str x)) (by simpa using hn) hs2 (λ y hy=>hL y (Y04 _ hy)) (by simpa using hl);refine ⟨ρ',h',?_⟩;have hl1:(kv seen).length<1000000:=by
    simp only [kv,Y09];simp at hl;omega
   have i1:zy .In (.str x) 115 (h++[O.dK (kv seen)])=.ok (.bl false) (h++[O.dK (kv seen)]):=by
    simp only [cmp_in,inD,g0,jZ,k1];rfl
   have p1:yq 115 (.str x) (.bl true) (h++[O.dK (kv seen)])=some (h++[.dK (kv (seen++[x]))]):=by
    simp only [yq,g0,jZ,Option.bind];rw [if_pos hl1,k2,yt];rfl
   have step:zU jh (λ ρ' h'=>b_refuse_twice_1.run cl ρ' h') (.str x) [some d0,some 115,nm] (h++[.dK (kv seen)])=.nx [some d0,some 115,some (.str x)] (h++[.dK (kv (seen++[x]))]):=by
    exact za (z4 rfl rfl i1) (UT rfl rfl rfl p1 rfl)
   exact yu (hc _) step e
noncomputable def TwX (cl:101):Prop:=∀ (xs:XU) (h:Hh),¬ xs.Nodup->(∀ x∈xs,Sh1 x)->xs.length<=1000->(∃ h',cl 3 [.tup (xs.map .str)] h=.exc 1 h')/\(∀ n,h[n]?=some (.lst (xs.map .str))->∃ h',cl 3 [.loc n] h=.exc 1 h')
theorem z23 (cl:101)(xs:XU)(h:Hh)(hn:¬ xs.Nodup)(hL:∀ x∈xs,Sh1 x)(hl:xs.length<=1000):(∃ h',d_refuse_twice.run cl [.tup (xs.map .str)] h=.exc 1 h')/\(∀ n,h[n]?=some (.lst (xs.map .str))->∃ h',d_refuse_twice.run cl [.loc n] h=.exc 1 h'):=by
 constructor
 ·obtain ⟨ρ',h',e⟩:=Z3 cl [] h (λ _=>zg) (.tup (xs.map .str)) xs [] none (by simpa using hn) List.nodup_nil hL (by simpa using hl);exact ⟨h',zD (zb rfl (Q4 rfl e))⟩
 ·intro n en;have rr:∀ o,rd (h++[o]) n=some (xs.map .str):=λ o=>zO (zf en);obtain ⟨ρ',h',e⟩:=Z3 cl [(n,xs.map .str)] h (λ o=>stay_one.mpr (rr o)) (.loc n) xs [] none (by simpa using hn) List.nodup_nil hL (by simpa using hl);exact ⟨h',zD (zb rfl (Q4 (yv rfl (rr _)) e))⟩
noncomputable def Bb (cl:101):Prop:=∀ {al:XU}{qs:108}{it:Nat}{blk:XX}{h:Hh},Tb qs it h->wE blk->∀ {c:Ct}{g:G}{e:Nat},Bd al qs blk e c g->c.kn.length+g.size<=1000000->∃ h',cl 7 [g.d,knD c,.str c.pl.s,zp blk,.loc it] h=.exc e h'
inductive AnsX (al:XU)(qs:108)(p:Pl)(x:Str)(g:G)(e:Nat):Str->Prop
 | same:Sh1 x->e=1->AnsX al qs p x g e x
 | body (s:Str):x≠s->Bd al qs none e ⟨[x,s],p⟩ g->g.size<=900000->AnsX al qs p x g e s
theorem Q5 (x s:Str)(g:G)(h:Hh):j4 (yC x s g) none (some 2) h=.ok (.tup [.str x,.str s]) h:=by
 unfold yC;simp only [j4];rw [if_neg]
 ·rfl
 ·intro q
  have:=q.2
  rw [zG _ _ _ 102] at this;simp at this
section
variable {al:XU}{qs:108}{it:Nat}{h:Hh}{e:Nat}
theorem Bc (cl:101)(c3:Y2 cl)(x3:TwX cl)(x7:Bb cl)(t:Tb qs it h){p:Pl}{x s:Str}{g:G}(ha:AnsX al qs p x g e s) :
  ∃ h',d_check_answer.run cl [yC x s g,.str p.s,.loc it] h=.exc e h':=by
 cases ha with
 | same lx he =>
  obtain ⟨h',k1⟩:=(x3 [x,x] h 110 (by intro y hy;simp at hy;rw [hy];exact lx) 110).1;rw [he];exact ⟨h',zD (zb (bnd rfl (bnd rfl (bnd rfl (Q5 _ _ _ _)))) (wU (bnd rfl (bnd rfl k1))))⟩
 | body s hne hb hz =>
  obtain ⟨J1,k1⟩:=(c3 [x,s] h (by simp [hne]) 110).1;obtain ⟨h',k2⟩:=x7 (t.grow (J:=J1)) (blk:=none) trivial hb 121;exact ⟨h',zD (zb (bnd rfl (bnd rfl (bnd rfl (Q5 _ _ _ _)))) (je (bnd rfl (bnd rfl k1)) (wU (bnd rfl (bnd rfl k2)))))⟩
noncomputable def U8 (cl:101):Prop:=∀ {al:XU}{qs:108}{it:Nat}{h:Hh},Tb qs it h->∀ {p:Pl}{x s:Str}{g:G}{e:Nat},AnsX al qs p x g e s->∃ h',cl 6 [yC x s g,.str p.s,.loc it] h=.exc e h'
inductive ItX (al:XU)(qs:108)(e:Nat):Itm->Prop
 | twice (f ps b g):e=1->¬ (ps++b.toList).Nodup->ps.length<=900->(∀ x∈ps++b.toList,Sh1 x)->ItX al qs e (.fn f ps b g)
 | block (f ps x g):e=1->(ps++[x]).Nodup->ps.length<=900->Sh1 x->(∃ d,(x,d)∈qs)->ItX al qs e (.fn f ps (some x) g)
 | body (f ps b g):(ps++b.toList).Nodup->ps.length<=900->wE b->(∀ x,b=some x->x∉qs.map (·.1))->Bd al qs b e ⟨ps,.fr⟩ g->g.size<=900000->ItX al qs e (.fn f ps b g)
 | deeds (n cs x s g):e=1->¬ (cs.map Cl.d).Nodup->cs.length<=900->(∀ q∈cs,Sh1 q.d)->ItX al qs e (.hd n cs x s g)
 | clause (n A q B x s g):((A++q::B).map Cl.d).Nodup->(A++q::B).length<=900->(∀ a∈A,AnsG al qs .cl a.x a.s a.g)->AnsX al qs .cl q.x q.g e q.s->ItX al qs e (.hd n (A++q::B) x s g)
 | end (n cs x s g):(cs.map Cl.d).Nodup->cs.length<=900->(∀ q∈cs,AnsG al qs .cl q.x q.s q.g)->AnsX al qs .en x g e s->ItX al qs e (.hd n cs x s g)
theorem z66 (cl:101)(c3:Y2 cl)(x3:TwX cl)(x7:Bb cl)(t:Tb qs it h){f:Str}{ps:XU}{b:XX}{g:G}(hg:ItX al qs e (.fn f ps b g)) :
  ∃ h',d_check_function.run cl [(Itm.fn f ps b g).d,.loc it] h=.exc e h':=by
 have ad:ps.length<=900->∀ (x:Str) h,zw .Add (.tup (ps.map .str)) (.tup [.str x]) h=.ok (.tup (ps.map .str++[.str x])) h:=λ l x h=>by rw [bin_addt,if_pos 121]
 cases hg with
 | twice _ _ _ _ he hn hl hL =>
  rw [he];cases b with
  | none =>
   obtain ⟨h',k1⟩:=(x3 ps h (by simpa using hn) (λ x hx=>hL x (by simp [hx])) 103).1;exact ⟨h',zD (zb rfl (zb rfl (jX (z4 rfl rfl rfl) (wU (bnd rfl (bnd rfl k1))))))⟩
  | some x =>
   obtain ⟨h',k1⟩:=(x3 (ps++[x]) h (by simpa using hn) (λ y hy=>hL y (by simpa using hy)) 121).1;rw [Y0w] at k1;exact ⟨h',zD (zb rfl (zb rfl (B8 (z4 rfl rfl rfl) (wU (bnd (bnd rfl (bnd rfl (ad hl x _))) (bnd rfl k1))))))⟩
 | block _ _ x _ he hn hl lx hm =>
  rw [he];obtain ⟨d,hm⟩:=hm;obtain ⟨J1,k1⟩:=(c3 (ps++[x]) h hn 121).1;rw [Y0w] at k1;have ot:=(t.grow (J:=J1)).inn hm;exact ⟨_,zD (zb rfl (zb rfl (B8 (z4 rfl rfl rfl) (je (bnd (bnd rfl (bnd rfl (ad hl x _))) (bnd rfl k1)) (jX (z4 rfl rfl ot) (wC (z3c rfl lx 102 102)))))))⟩
 | body _ _ _ _ hn hl hb ho hB hz =>
  cases b with
  | none =>
   obtain ⟨J1,k1⟩:=(c3 ps h (by simpa using hn) 103).1;obtain ⟨h',k2⟩:=x7 (t.grow (J:=J1)) (blk:=none) trivial hB (by show ps.length+g.size<=_;omega);exact ⟨h',zD (zb rfl (zb rfl (wx (z4 rfl rfl rfl) (je (bnd rfl (bnd rfl k1)) rfl) (wU (bnd rfl (bnd rfl k2))))))⟩
  | some x =>
   obtain ⟨J1,k1⟩:=(c3 (ps++[x]) h (by simpa using hn) 121).1;obtain ⟨h',k2⟩:=x7 (t.grow (J:=J1)) (blk:=some x) hb hB (by show ps.length+g.size<=_;omega);have ot:=(t.grow (J:=J1)).out (ho x rfl);rw [Y0w] at k1;exact ⟨h',zD (zb rfl (zb rfl (ya (z4 rfl rfl rfl) (je (bnd (bnd rfl (bnd rfl (ad hl x _))) (bnd rfl k1)) (za (z4 rfl rfl ot) rfl)) (wU (bnd rfl (bnd rfl k2))))))⟩
theorem Wo (cl:101)(c6:Y3 cl)(x6:U8 cl)(d0:D):∀ (A:List Cl) (q:Cl) (B:List Cl) (nm:Option D) (h:Hh),Tb qs it h->(∀ a∈A,AnsG al qs .cl a.x a.s a.g)->AnsX al qs .cl q.x q.g e q.s ->
  ∃ ρ' h',jg [] (zU jc λ ρ' h'=>b_check_handler_1.run cl ρ' h') ((A++q::B).map Cl.D) [some d0,some (.loc it),nm] h=.ex e ρ' h'
 | [],q,B,nm,h,t,_,hq=>by
  obtain ⟨h',k⟩:=x6 t hq;have ct:j4 q.D (some 1) none h=.ok (yC q.x q.s q.g) h:=by unfold Cl.D;exact Jc _ _ _
  exact ⟨_,h',V8 zg (wU (bnd (bnd rfl (bnd rfl (bnd rfl ct))) (bnd rfl k)))⟩
 | a::A,q,B,nm,h,t,hA,hq=>by
  obtain ⟨J1,k1⟩:=c6 t (hA a (Y06 ..));obtain ⟨ρ',h',e⟩:=Wo cl c6 x6 d0 A q B (some a.D) (h++J1) t.grow (λ z hz=>hA z (Y04 _ hz)) hq;refine ⟨ρ',h',?_⟩;have ct:j4 a.D (some 1) none h=.ok (yC a.x a.s a.g) h:=by unfold Cl.D;exact Jc _ _ _
  have step:zU jc (λ ρ' h'=>b_check_handler_1.run cl ρ' h') a.D [some d0,some (.loc it),nm] h=.nx [some d0,some (.loc it),some a.D] (h++J1):=by
   exact je (bnd (bnd rfl (bnd rfl (bnd rfl ct))) (bnd rfl k1)) rfl
  exact yu zg step e
theorem Be (cl:101)(cs:List Cl)(h:Hh):zE [] (zT jE [none] (λ ρ' h2=>c_check_handler_2.evC cl ρ' h2) (λ ρ' h2=>e_check_handler_2.ev cl ρ' h2)) (cs.map Cl.D) [] h=.ok ((cs.map Cl.d).map .str) h:=by
 obtain ⟨h',k0,kk,_⟩:=jo (c:=[]) (f:=zT jE [none] (λ ρ' h2=>c_check_handler_2.evC cl ρ' h2) (λ ρ' h2=>e_check_handler_2.ev cl ρ' h2)) Cl.D (λ q=>D.str q.d) (λ h'=>h'=h) (λ a b=>b=a) (λ _=>rfl) (λ a b d z w=>w.trans z) (λ _ _=>zg) cs [] h rfl (by
  rintro q hq h' rfl
  refine ⟨h',?_,rfl,rfl⟩;exact zZ rfl rfl rfl)
 rw [kk,Y0l] at k0;have km:(cs.map λ q=>D.str q.d)=(cs.map Cl.d).map .str:=by rw [Y16];rfl
 rw [km] at k0;exact k0
theorem z8b (cl:101)(c3:Y2 cl)(x3:TwX cl)(c6:Y3 cl)(x6:U8 cl)(t:Tb qs it h){n:Str}{cs:List Cl}{x s:Str}{g:G}(hg:ItX al qs e (.hd n cs x s g)) :
  ∃ h',d_check_handler.run cl [(Itm.hd n cs x s g).d,.loc it] h=.exc e h':=by
 have k0:=Be cl cs h;have gL:(h++[O.lst ((cs.map Cl.d).map .str)])[h.length]?=some (.lst ((cs.map Cl.d).map .str)):=by rw [hx0];rfl
 cases hg with
 | deeds _ _ _ _ _ he hn hl hL =>
  rw [he];obtain ⟨h',k1⟩:=(x3 (cs.map Cl.d) (h++[.lst ((cs.map Cl.d).map .str)]) hn (λ y hy=>by obtain ⟨q,hq,rfl⟩:=Y0e.mp hy;exact hL q hq) 121).2 h.length gL;exact ⟨h',zD (wU (bnd (zQ (q:=([],cs.map Cl.D)) rfl (by rw [Y09];exact Y0j hl 102) k0) (bnd rfl k1)))⟩
 | clause _ A q B _ _ _ hn hl hA hq =>
  obtain ⟨J1,k1⟩:=(c3 ((A++q::B).map Cl.d) (h++[.lst (((A++q::B).map Cl.d).map .str)]) hn (by rw [Y09];omega)).2 h.length gL;obtain ⟨ρ',h',k2⟩:=Wo cl c6 x6 (Itm.hd n (A++q::B) x s g).d A q B none (h++[.lst (((A++q::B).map Cl.d).map .str)]++J1) (t.grow.grow) hA hq;exact ⟨h',zD (je (bnd (zQ (q:=([],(A++q::B).map Cl.D)) rfl (by rw [Y09];exact Y0j hl 102) k0) (bnd rfl k1)) (Q4 (w:=([],(A++q::B).map Cl.D)) rfl k2))⟩
 | «end» _ _ _ _ _ hn hl hA hq =>
  obtain ⟨J1,k1⟩:=(c3 (cs.map Cl.d) (h++[.lst ((cs.map Cl.d).map .str)]) hn 121).2 h.length gL;obtain ⟨nm',J2,k2⟩:=WW cl c6 (Itm.hd n cs x s g).d cs none (h++[.lst ((cs.map Cl.d).map .str)]++J1) (t.grow.grow) hA;obtain ⟨h',k3⟩:=x6 (t.grow.grow.grow:Tb qs it (h++[.lst ((cs.map Cl.d).map .str)]++J1++J2)) hq;exact ⟨h',zD (je (bnd (zQ (q:=([],cs.map Cl.D)) rfl (by rw [Y09];exact Y0j hl 102) k0) (bnd rfl k1)) (qm (q:=([],cs.map Cl.D)) rfl k2 (wU (bnd rfl (bnd rfl k3)))))⟩
end
noncomputable def X4 (cl:101):Prop:=∀ {al:XU}{qs:108}{it:Nat}{h:Hh},Tb qs it h->∀ {f:Str}{ps:XU}{b:XX}{g:G}{e:Nat},ItX al qs e (.fn f ps b g)->∃ h',cl 4 [(Itm.fn f ps b g).d,.loc it] h=.exc e h'
noncomputable def X5 (cl:101):Prop:=∀ {al:XU}{qs:108}{it:Nat}{h:Hh},Tb qs it h->∀ {n:Str}{cs:List Cl}{x s:Str}{g:G}{e:Nat},ItX al qs e (.hd n cs x s g)->∃ h',cl 5 [(Itm.hd n cs x s g).d,.loc it] h=.exc e h'
theorem Wp {al:XU}(cl:101)(c4:C4 cl)(c5:C5 cl)(x4:X4 cl)(x5:X5 cl){qs:108}{it:Nat}{e:Nat}(d0:D):∀ (A:List Itm) (i:Itm) (B:List Itm) (nm:Option D) (h:Hh),Tb qs it h->(∀ i∈A,i.good al qs)->ItX al qs e i ->
  ∃ ρ' h',jg [] (zU Wk λ ρ' h'=>b_check_1.run cl ρ' h') ((A++i::B).map Itm.d) [some d0,some (.loc it),nm] h=.ex e ρ' h'
 | [],i,B,nm,h,t,_,hi=>by
  cases i with
  | fn f ps b g =>
   obtain ⟨h',k1⟩:=x4 t hi;have e1:=eqS (h:=h) jj jj;rw [beq_self_eq_true] at e1;exact ⟨_,h',V8 zg (jX (z4 rfl rfl e1) (wU (bnd rfl (bnd rfl k1))))⟩
  | hd n cs x s g =>
   obtain ⟨h',k1⟩:=x5 t hi;have e1:=eqS (h:=h) yd jj;rw [show (("handler":Str)==("def":Str))=false from rfl] at e1;exact ⟨_,h',V8 zg (B8 (z4 rfl rfl e1) (wU (bnd rfl (bnd rfl k1))))⟩
 | a::A,i,B,nm,h,t,hA,hi=>by
  have st:∃ J1,zU Wk (λ ρ' h'=>b_check_1.run cl ρ' h') a.d [some d0,some (.loc it),nm] h=.nx [some d0,some (.loc it),some a.d] (h++J1):=by
   cases a with
   | fn f ps b g =>
    obtain ⟨J1,k1⟩:=c4 t (hA _ (Y06 ..));refine ⟨J1,?_⟩;have e1:=eqS (h:=h) jj jj;rw [beq_self_eq_true] at e1;exact wx (z4 rfl rfl e1) (je (bnd rfl (bnd rfl k1)) rfl) rfl
   | hd n cs x s e =>
    obtain ⟨J1,k1⟩:=c5 t (hA _ (Y06 ..));refine ⟨J1,?_⟩;have e1:=eqS (h:=h) yd jj;rw [show (("handler":Str)==("def":Str))=false from rfl] at e1;exact ya (z4 rfl rfl e1) (je (bnd rfl (bnd rfl k1)) rfl) rfl
  obtain ⟨J1,step⟩:=st;obtain ⟨ρ',h',ee⟩:=Wp cl c4 c5 x4 x5 d0 A i B (some a.d) (h++J1) t.grow (λ z hz=>hA z (Y04 _ hz)) hi;exact ⟨ρ',h',yu zg step ee⟩
inductive PrX (e:Nat):List Itm->Prop
 | names (is):e=1->¬ (is.map Itm.nm).Nodup->(∀ i∈is,Sh1 i.nm)->PrX e is
 | item (al A i B):((A++i::B).map Itm.nm).Nodup->(∀ a∈A,a.good al (zV (A++i::B)))->ItX al (zV (A++i::B)) e i->PrX e (A++i::B)
theorem Bf (cl:101)(is:List Itm)(h:Hh):zE [] (zT Wl [none] (λ ρ' h2=>c_check_2.evC cl ρ' h2) (λ ρ' h2=>e_check_2.ev cl ρ' h2)) (is.map Itm.d) [] h=.ok ((is.map Itm.nm).map .str) h:=by
 obtain ⟨h',k0,kk,_⟩:=jo (c:=[]) (f:=zT Wl [none] (λ ρ' h2=>c_check_2.evC cl ρ' h2) (λ ρ' h2=>e_check_2.ev cl ρ' h2)) Itm.d (λ i=>D.str i.nm) (λ h'=>h'=h) (λ a b=>b=a) (λ _=>rfl) (λ a b d z w=>w.trans z) (λ _ _=>zg) is [] h rfl (by
  rintro i hm h2 rfl
  refine ⟨h2,?_,rfl,rfl⟩;exact zZ rfl rfl (bnd rfl (bnd rfl (ON i _))))
 rw [kk,Y0l] at k0;have km:(is.map λ i=>D.str i.nm)=(is.map Itm.nm).map .str:=by rw [Y16];rfl
 rw [km] at k0;exact k0
theorem z24 (cl:101)(c1:C1 cl)(c3:Y2 cl)(x3:TwX cl)(c4:C4 cl)(c5:C5 cl)(x4:X4 cl)(x5:X5 cl)(is:List Itm)(h:Hh)(hl:is.length<=900){e:Nat}(hp:PrX e is) :
  ∃ h',d_check.run cl [.tup (is.map Itm.d)] h=.exc e h':=by
 have k0:=Bf cl is h;have l0:(is.map Itm.d).length<=1000000:=by rw [Y09];omega
 have gL:(h++[O.lst ((is.map Itm.nm).map .str)])[h.length]?=some (.lst ((is.map Itm.nm).map .str)):=by rw [hx0];rfl
 cases hp with
 | names _ he hn hL =>
  rw [he];obtain ⟨h',k1⟩:=(x3 (is.map Itm.nm) (h++[.lst ((is.map Itm.nm).map .str)]) hn (λ y hy=>by obtain ⟨q,hq,rfl⟩:=Y0e.mp hy;exact hL q hq) 121).2 h.length gL;exact ⟨h',zD (wU (bnd (zQ (q:=([],is.map Itm.d)) rfl l0 k0) (bnd rfl k1)))⟩
 | item al A i B hn hA hi =>
  obtain ⟨is,his⟩:∃ is,is=A++i::B:=117;rw [<- his] at k0 l0 gL hn hA hi hl ⊢;obtain ⟨J1,k1⟩:=(c3 (is.map Itm.nm) (h++[.lst ((is.map Itm.nm).map .str)]) hn 121).2 h.length gL;obtain ⟨H,hH⟩:∃ H,H=h++[.lst ((is.map Itm.nm).map .str)]++J1:=117;rw [<- hH] at k1;have k2:=c1 is H 103;have nq:((zV is).map (·.1)).Nodup:=by unfold zV;rw [Y16];exact hn
  obtain ⟨ρ',h',k3⟩:=Wp cl c4 c5 x4 x5 (it:=H.length+1) (.tup (is.map Itm.d)) A i B none (H++[.lst ((zV is).map wm),.dK (tab (zV is))]) ⟨nq,by rw [hx];rfl⟩ hA hi;rw [<- his] at k3;exact ⟨h',zD (je (bnd (zQ (q:=([],is.map Itm.d)) rfl l0 k0) (bnd rfl k1)) (zb (bnd rfl (bnd rfl k2)) (Q4 (w:=([],is.map Itm.d)) rfl k3)))⟩
theorem U9 {cl:101}{b:Ss}{x:Str}{dd:Nat}{u:List Nat}{cs:List (Str×Nat×List Nat)}{j i c:Nat}{v:Xv}{p0 p1 p3 p4 p:Pos}{r:Ss}{ρ ρ' ρ2:En}{h h' h2:Hh}{o:RS}(hb:b.run cl ρ h=.ex c ρ' h')(ht:VM cs j i v c ρ' h'=.nx ρ2 h2)(k:Ss.run cl r ρ2 h2=o):Ss.run cl (.cons (.tryA b x dd u cs j i v p0 p1 p3 p4 p) r) ρ h=o:=by
 rw [<- k];show j8 (match b.run cl ρ h with | .ex c ρ' h'=>VM cs j i v c ρ' h' | o=>o) 122=_
 rw [hb];show j8 (VM cs j i v c ρ' h') _=_;rw [ht];rfl
noncomputable def bI (b:Bool):D:=.int (if b then 1 else 0)
theorem Jn (cl:101)(d:D)(h':Hh)(b1 b2 b3:Bool)(j:Nat)(hs:([if b1 then 1 else 0,if b2 then 1 else 0,if b3 then 1 else 0]:List Int).sum=1)(hj:(124:List D).findIdx? (λ y=>eqV (vOf y) (vOf (.bl true)))=some j) :
  ∃ h2,Ss.run cl (zH 2 d_law_refusal.body) [some d,some (.loc h'.length),none] (h'++[.lst 124])=.rt (.int (j:Nat)) h2:=by
 have g0:(h'++[O.lst 124])[h'.length]?=some (.lst 124):=by rw [hx0];rfl
 have st:stay [(h'.length,[D.bl b1,.bl b2,.bl b3])] (h'++[O.lst 124]):=stay_one.mpr (zO g0);have one:∀ b:Bool,zT wg (qe [none] [some d,some (.loc h'.length),none]) (λ ρ' h2=>c_law_refusal_1.evC cl ρ' h2) (λ ρ' h2=>e_law_refusal_1.ev cl ρ' h2) (.bl b) (h'++[O.lst 124])=.ok (some (bI b)) (h'++[O.lst 124]):=λ b=>zZ rfl rfl 112;have hc:zE [(h'.length,[D.bl b1,.bl b2,.bl b3])] (zT wg (qe [none] [some d,some (.loc h'.length),none]) (λ ρ' h2=>c_law_refusal_1.evC cl ρ' h2) (λ ρ' h2=>e_law_refusal_1.ev cl ρ' h2)) 124 [] (h'++[O.lst 124])=.ok [bI b1,bI b2,bI b3] (h'++[O.lst 124]):=by
  rw [zE,if_pos st,one,bind_ok,addO_some,zE,if_pos st,one,bind_ok,addO_some,zE,if_pos st,one,bind_ok,addO_some,zE,if_pos st];rfl
 have g1:(h'++[O.lst 124]++[O.lst [bI b1,bI b2,bI b3]])[h'.length]?=some (.lst 124):=zf g0;have sm:c1D .sum (.loc (h'++[O.lst 124]).length) (h'++[O.lst 124]++[O.lst [bI b1,bI b2,bI b3]])=.ok (.int 1) (h'++[O.lst 124]++[O.lst [bI b1,bI b2,bI b3]]):=by
  unfold c1D;simp only;rw [show rd (h'++[O.lst 124]++[O.lst [bI b1,bI b2,bI b3]]) (h'++[O.lst 124]).length=some [bI b1,bI b2,bI b3] by rw [Zq];rfl];show (match some ([if b1 then 1 else 0,if b2 then 1 else 0,if b3 then 1 else 0]:List Int) with | some is=>Res.ok (D.int is.sum) _ | none=>.no)=_
  simp only;rw [hs]
 have ix:m1D .index (.loc h'.length) (.bl true) (h'++[O.lst 124]++[O.lst [bI b1,bI b2,bI b3]])=.ok (.int (j:Nat)) (h'++[O.lst 124]++[O.lst [bI b1,bI b2,bI b3]]):=by
  unfold m1D;simp only;rw [g1];simp only;rw [if_pos ⟨rfl,rfl,by simp⟩,hj]
 have oL:onL (.loc h'.length) (h'++[O.lst 124]++[O.lst [bI b1,bI b2,bI b3]])=λ r=>r:=by funext r;exact qI g1 r
 exact ⟨_,za (z4 rfl rfl rfl) (za (z4 (bnd (zQ (q:=([(h'.length,124)],124)) (yv rfl (zO g0)) 110 hc) sm) rfl rfl) (zk (bnd rfl ((qI g1 _).trans (bnd rfl ix)))))⟩
theorem Gi (cl:101)(d:D)(h h':Hh)(e:Nat)(he:e=1\/e=2\/e=3)(k:cl 2 [d] h=.exc e h'):∃ h2,d_law_refusal.run cl [d] h=.ok (.int ((e:Int)-1)) h2:=by
 rcases he with rfl | rfl | rfl
 ·obtain ⟨h2,t⟩:=Jn cl d h' true false false 0 rfl rfl;exact ⟨h2,ze (zb rfl (U9 (wU (bnd rfl (bnd rfl k))) rfl t))⟩
 ·obtain ⟨h2,t⟩:=Jn cl d h' false true false 1 rfl rfl;exact ⟨h2,ze (zb rfl (U9 (wU (bnd rfl (bnd rfl k))) rfl t))⟩
 ·obtain ⟨h2,t⟩:=Jn cl d h' false false true 2 rfl rfl;exact ⟨h2,ze (zb rfl (U9 (wU (bnd rfl (bnd rfl k))) rfl t))⟩
noncomputable def Kd.isLf:Kd->Bool
 | .num _ | .var _=>true
 | _=>false
inductive Pt where
 | s (x:Str) | n | t (g:G) | ts (gs:List G)
noncomputable def Pt.d:Pt->D
 | .s x=>.str x
 | .n=>.non
 | .t g=>g.d
 | .ts gs=>.tup (G.ds gs)
noncomputable def z8c:Option Str->Pt
 | none=>.n
 | some x=>.s x
noncomputable def pts:Kd->List G->List Pt
 | .op s,ps=>.s s::ps.map .t
 | .lett s,ps=>.s s::ps.map .t
 | .ite,ps=>ps.map .t
 | .call f o,ps=>[.s f,z8c o,.ts ps]
 | .doo s,ps=>.s s::ps.map .t
 | .handle s,ps=>.s s::ps.map .t
 | .go,ps=>ps.map .t
 | .guard,ps=>ps.map .t
 | .num _,_=>[]
 | .var _,_=>[]
theorem z8d (ps:List G):(ps.map Pt.t).map Pt.d=G.ds ps:=by rw [we,Y16];rfl
theorem Q6 (k:Kd)(ps:List G)(hk:k.isLf=false):(G.nd k ps).d=.tup (.str k.tag::(pts k ps).map Pt.d):=by
 rw [G.d];cases k with
 | num n=>cases hk
 | var n=>cases hk
 | call f o=>cases o<;>rfl
 | _=>simp only [Kd.enc,pts,Y0i,z8d,Pt.d,Kd.tag]
mutual
noncomputable def lv:G->Nat
 | .nd k ps=>if k.isLf then 1 else lvs ps
noncomputable def lvs:List G->Nat
 | []=>0
 | g::r=>lv g+lvs r
end
noncomputable def Pt.lv:Pt->Nat
 | .t g=>K19.lv g
 | .ts gs=>lvs gs
 | _=>0
noncomputable def lvP (ps:List Pt):Nat:=(ps.map Pt.lv).sum
theorem Bh:∀ ps:List G,lvP (ps.map Pt.t)=lvs ps
 | []=>rfl
 | g::r=>by
  have:=Bh r
  rw [lvs,<- this];rfl
theorem z67 (k:Kd)(ps:List G)(hk:k.isLf=false):lvP (pts k ps)=lv (.nd k ps):=by
 rw [lv,hk,if_neg 102,<- Bh];cases k with
 | num n=>cases hk
 | var n=>cases hk
 | call f o =>
  rw [Bh];cases o<;>simp [lvP,pts,z8c,Pt.lv]
 | _=>simp [lvP,pts,Pt.lv]
noncomputable def Gj (cl:101)(g:G):Prop:=∀ h,∃ J,cl 25 [g.d] h=.ok (.int (lv g:Nat)) (h++J)
noncomputable def Pt.al (Q:G->Prop):Pt->Prop
 | .t g=>Q g
 | .ts gs=>(∀ g∈gs,Q g)/\gs.length<=850000
 | _=>True
theorem Bi {Q:G->Prop}{k:Kd}{ps:List G}(h:∀ g∈ps,Q g)(hl:ps.length<=850000):∀ p∈pts k ps,p.al Q:=by
 have ht:∀ p∈ps.map Pt.t,p.al Q:=λ p hp=>by obtain ⟨g,hg,rfl⟩:=Y0e.mp hp;exact h g hg
 cases k with
 | num n=>intro p hp;cases hp
 | var n=>intro p hp;cases hp
 | call f o =>
  intro p hp;simp only [pts,Y03,Y0f,or_false] at hp;rcases hp with rfl | rfl | rfl
  ·trivial
  ·cases o<;>trivial
  ·exact ⟨h,hl⟩
 | ite=>exact ht
 | go=>exact ht
 | guard=>exact ht
 | _ =>
  intro p hp;rcases Y03.mp hp with rfl | hp
  ·trivial
  ·exact ht p hp
theorem V9 (a:D)(r:List D)(h:Hh):zC (.tup (a::r)) (.int 0) h=.ok a h:=by rw [sub_tup,zY 102];rfl
theorem Va (g:G):∃ t r,g.d=.tup (.str t::r):=by
 cases g with
 | nd k ps =>
  obtain ⟨r,e⟩:=UW k (G.ds ps);exact ⟨k.tag,r,by rw [G.d,e]⟩
theorem Q7:∀ gs:List G,qH (gs.map λ g=>D.int (lv g:Nat))=some (gs.map λ g=>((lv g:Nat):Int))
 | []=>rfl
 | g::r=>by rw [Y0i,qH,Q7 r];rfl
theorem Jo:∀ gs:List G,(gs.map λ g=>((lv g:Nat):Int)).sum=((lvs gs:Nat):Int)
 | []=>by rw [lvs];rfl
 | g::r=>by rw [Y0i,Y1o,Jo r,lvs];omega
section
variable {cl:101}
theorem z25 (p:Pt)(hp:p.al (Gj cl))(d0:D)(n:Nat)(x:Option D)(h:Hh):∃ J,zU qL (λ ρ' h'=>b_law_leaves_1.run cl ρ' h') p.d [some d0,some (.int (n:Nat)),x] h=.nx [some d0,some (.int ((n+p.lv:Nat):Int)),some p.d] (h++J):=by
 cases p with
 | s z=>exact ⟨[],by rw [Y0x];exact ya (zP rfl) (za rfl rfl) rfl⟩
 | n=>exact ⟨[],by rw [Y0x];exact ya (zP rfl) (za rfl rfl) rfl⟩
 | t g =>
  obtain ⟨J,k⟩:=hp h;obtain ⟨t,r,e⟩:=Va g;refine ⟨J,?_⟩;have c3:∀ h:Hh,E.evT cl (.isi 3 (.var 2 ⟨200,22,200,31⟩) ⟨200,11,200,21⟩ ⟨200,33,200,38⟩ ⟨200,11,200,39⟩) [some d0,some (.int (n:Nat)),some g.d] h=.ok true h:=λ h=>by rw [e];rfl
  show Ss.run cl b_law_leaves_1 [some d0,some (.int (n:Nat)),some g.d] h=_;rw [show ((n+(Pt.t g).lv:Nat):Int)=(n:Int)+(lv g:Nat) by simp [Pt.lv]];show _=RS.nx [some d0,some (.int ((n:Int)+(lv g:Nat))),some g.d] (h++J);rw [e] at k ⊢;exact wx (wy rfl (z4 rfl rfl (by rw [cmp_gt];congr 2;exact decide_eq_true 110)) (bnd (bnd (bnd rfl (bnd rfl (V9 _ _ _))) rfl) rfl)) (zb (bnd rfl (bnd (bnd rfl (bnd rfl k)) rfl)) rfl) rfl
 | ts gs =>
  obtain ⟨h',k0,_,⟨J,rfl⟩⟩:=jo (c:=[]) (f:=zT Je (qe [none] [some d0,some (.int (n:Nat)),some (.tup (G.ds gs))]) (λ ρ' h2=>c_law_leaves_2.evC cl ρ' h2) (λ ρ' h2=>e_law_leaves_2.ev cl ρ' h2)) G.d (λ g=>D.int (lv g:Nat)) (λ _=>True) Gr Gr.refl Gr.trans (λ _ _=>zg) gs [] h trivial (by
   intro g hg h2 _;obtain ⟨J,k⟩:=hp.1 g hg h2;exact ⟨h2++J,zZ rfl rfl (bnd rfl (bnd rfl k)),trivial,J,rfl⟩)
  rw [Y0l,<- we] at k0;refine ⟨J++[.lst (gs.map λ g=>D.int (lv g:Nat))],?_⟩;have sm:c1D .sum (.loc (h++J).length) (h++J++[.lst (gs.map λ g=>D.int (lv g:Nat))])=.ok (.int ((lvs gs:Nat):Int)) (h++J++[.lst (gs.map λ g=>D.int (lv g:Nat))]):=by
   unfold c1D;simp only;rw [show rd (h++J++[.lst (gs.map λ g=>D.int (lv g:Nat))]) (h++J).length=some (gs.map λ g=>D.int (lv g:Nat)) by rw [Zq];rfl];simp only [Option.bind];rw [Q7];simp only;rw [Jo]
  have fin:∀ {hc:E.evT cl (Z2 (Jm b_law_leaves_1)) [some d0,some (.int (n:Nat)),some (.tup (G.ds gs))] h=.ok false h},Ss.run cl b_law_leaves_1 [some d0,some (.int (n:Nat)),some (.tup (G.ds gs))] h=.nx [some d0,some (.int ((n:Int)+(lvs gs:Nat))),some (.tup (G.ds gs))] (h++J++[.lst (gs.map λ g=>D.int (lv g:Nat))]):=λ {hc} =>
   ya hc (wx rfl (zb (bnd rfl (bnd (bnd (zQ (q:=([],G.ds gs)) rfl (by rw [qJ];exact Y0j hp.2 102) k0) sm) rfl)) rfl) rfl) rfl
  show Ss.run cl b_law_leaves_1 [some d0,some (.int (n:Nat)),some (.tup (G.ds gs))] h=_;rw [show ((n+(Pt.ts gs).lv:Nat):Int)=(n:Int)+(lvs gs:Nat) by simp [Pt.lv],<- Y07];refine fin (hc:=?_);cases gs with
  | nil=>exact yV rfl (z4 rfl rfl rfl)
  | cons g r =>
   obtain ⟨t,r',e⟩:=Va g;rw [G.ds,e];exact wy rfl (z4 rfl rfl (by rw [cmp_gt];congr 2;exact decide_eq_true 110)) (bnd (bnd (bnd rfl (bnd rfl (V9 _ _ _))) rfl) rfl)
theorem Vb (d0:D):∀ (ps:List Pt) (n:Nat) (x:Option D) (h:Hh),(∀ p∈ps,p.al (Gj cl))->∃ x' J,jg [] (zU qL λ ρ' h'=>b_law_leaves_1.run cl ρ' h') (ps.map Pt.d) [some d0,some (.int (n:Nat)),x] h=.nx [some d0,some (.int ((n+lvP ps:Nat):Int)),x'] (h++J)
 | [],n,x,h,_=>⟨x,[],by simp [jg,zg,lvP]⟩
 | p::r,n,x,h,hp=>by
  obtain ⟨J1,e1⟩:=z25 p (hp p (Y06 ..)) d0 n x h;obtain ⟨x',J2,e2⟩:=Vb d0 r (n+p.lv) (some p.d) (h++J1) λ q hq=>hp q (Y04 _ hq);refine ⟨x',J1++J2,?_⟩;rw [show n+lvP (p::r)=n+p.lv+lvP r by unfold lvP;rw [Y0i,Y1o];omega,<- Y07];exact yu zg e1 e2
theorem z3d (k:Kd)(h:Hh):zy .In (.str k.tag) 115 (h++[O.lst [.str "num",.str "var"]])=.ok (.bl k.isLf) (h++[O.lst [.str "num",.str "var"]]):=by
 have g0:(h++[O.lst [.str "num",.str "var"]])[h.length]?=some (.lst [.str "num",.str "var"]):=by rw [hx0];rfl
 simp only [cmp_in,inD,g0,QP];rw [if_pos ⟨rfl,rfl⟩];cases k<;>rfl
theorem Bj (k:Kd)(ps:List G)(hl:ps.length<=850000)(C:∀ g∈ps,Gj cl g)(h:Hh):∃ J,d_law_leaves.run cl [(G.nd k ps).d] h=.ok (.int (lv (.nd k ps):Nat)) (h++J):=by
 have e0:=λ h=>Jb k (G.ds ps) h;rw [<- G.d] at e0;have c1:E.evT cl (Z2 (Jm d_law_leaves.body)) [some (G.nd k ps).d,none,none] h=.ok k.isLf (h++[O.lst [.str "num",.str "var"]]):=z4 107 112 (z3d k h);cases hk:k.isLf with
 | true =>
  rw [hk] at c1;exact ⟨_,by rw [lv,hk];exact ze (ji c1 (zk rfl))⟩
 | false =>
  rw [hk] at c1;obtain ⟨x',J,e⟩:=Vb (cl:=cl) (G.nd k ps).d (pts k ps) 0 none (h++[O.lst [.str "num",.str "var"]]) (Bi C hl);refine ⟨[O.lst [.str "num",.str "var"]]++J,?_⟩;rw [<- Y07,<- z67 k ps hk];rw [Y3f] at e;have ct:∀ h,j4 (G.nd k ps).d (some 1) none h=.ok (.tup ((pts k ps).map Pt.d)) h:=λ h=>by rw [Q6 k ps hk];exact Jc _ _ _
  exact ze (za c1 (zb rfl (qm (q:=([],(pts k ps).map Pt.d)) (bnd (bnd rfl (bnd rfl (bnd rfl (ct _)))) rfl) e (zk rfl))))
end
mutual
noncomputable def put (new:G):G->Int->G×Int
 | .nd k ps,l=>if k.isLf then (if l-1=-1 then new else .nd k ps,l-1) else (.nd k (puts new ps l).1,(puts new ps l).2)
noncomputable def puts (new:G):List G->Int->List G×Int
 | [],l=>([],l)
 | g::r,l=>((put new g l).1::(puts new r (put new g l).2).1,(puts new r (put new g l).2).2)
end
theorem Jp (new:G):∀ (gs:List G) (l:Int),(puts new gs l).1.length=gs.length
 | [],l=>by rw [puts]
 | g::r,l=>by rw [puts];simp [Jp new r]
noncomputable def Pt.put (new:G):Pt->Int->Pt×Int
 | .t g,l=>(.t (K19.put new g l).1,(K19.put new g l).2)
 | .ts gs,l=>(.ts (puts new gs l).1,(puts new gs l).2)
 | p,l=>(p,l)
noncomputable def JK (new:G):List Pt->Int->List Pt×Int
 | [],l=>([],l)
 | p::r,l=>((p.put new l).1::(JK new r (p.put new l).2).1,(JK new r (p.put new l).2).2)
theorem Bk (new:G):∀ (ps:List G) (l:Int),JK new (ps.map Pt.t) l=((puts new ps l).1.map Pt.t,(puts new ps l).2)
 | [],l=>by rw [puts];rfl
 | g::r,l=>by
  rw [puts,Y0i,JK,Pt.put,Bk new r];rfl
theorem z26 (new:G)(k:Kd)(ps:List G)(l:Int):k.isLf=false->JK new (pts k ps) l=(pts k (puts new ps l).1,(puts new ps l).2):=by
 intro hk;have ht:=Bk new ps l;cases k with
 | num n=>cases hk
 | var n=>cases hk
 | call f o=>cases o<;>rfl
 | ite=>exact ht
 | go=>exact ht
 | guard=>exact ht
 | _=>simp only [pts,JK,Pt.put,ht]
section
variable {cl:101}
theorem Bl {l:L}{p p1:Pos}{ρ:En}{h h':Hh}{xs:List D}(a:l.ev cl ρ h=.ok xs h'):E.ev cl (.tupL l p p1) ρ h=.ok (.tup xs) h':=bnd a rfl
theorem Bm {elt:E}{tg:Tg}{it:I}{ct:Es}{ns:XU}{cap:List (Option Nat)}{sc:Scope}{p:Pos}{ρ:En}{h h' h2:Hh}{q:Ck×List D}{xs:List D}(hi:it.ev cl ρ h=.ok q h')(hl:q.2.length<=1000000)(hc:zE q.1 (zT tg (qe cap ρ) (λ ρ' h2=>ct.evC cl ρ' h2) (λ ρ' h2=>elt.ev cl ρ' h2)) q.2 [] h'=.ok xs h2):L.ev cl (.comp elt tg it ct ns cap sc p) ρ h=.ok xs h2:=bnd hi ((if_pos hl).trans hc)
end
theorem Q8 {cl:101}{e:E}{ρ:En}{h h':Hh}{x:D}(a:e.ev cl ρ h=.ok x h'):(Es.cons e .nil).ev cl ρ h=.ok [x] h':=bnd a 112
section
variable {cl:101}{new:G}{nl:Nat}
noncomputable def yG (cl:101)(new:G)(nl:Nat)(g:G):Prop:=∀ (l:Int) (h:Hh),h[nl]?=some (.lst [.int l])->∃ h',cl 26 [g.d,.loc nl,new.d] h=.ok (put new g l).1.d h'/\h'[nl]?=some (.lst [.int (put new g l).2])/\Mv nl h h'
theorem Y9:∀ (gs:List G) (acc:List D) (l:Int) (h:Hh),(∀ g∈gs,yG cl new nl g)->h[nl]?=some (.lst [.int l])->∃ h',zE [] (zT Y0 [none,some (.loc nl),some new.d] (λ ρ' h2=>c_law_put_2.evC cl ρ' h2) (λ ρ' h2=>e_law_put_2.ev cl ρ' h2)) (G.ds gs) acc h=.ok (acc++G.ds (puts new gs l).1) h'/\h'[nl]?=some (.lst [.int (puts new gs l).2])/\Mv nl h h'
 | [],acc,l,h,_,e=>⟨h,by rw [puts,G.ds,zE,if_pos zg];simp,by rw [puts];exact e,Mv.refl nl h⟩
 | g::r,acc,l,h,hg,e=>by
  obtain ⟨h1,k1,e1,m1⟩:=hg g (Y06 ..) l h e;obtain ⟨h2,k2,e2,m2⟩:=Y9 r (acc++[(put new g l).1.d]) (put new g l).2 h1 (λ x hx=>hg x (Y04 _ hx)) e1;refine ⟨h2,?_,by rw [puts];exact e2,Mv.trans nl _ _ _ m1 m2⟩;rw [G.ds,zE,if_pos zg,zZ rfl rfl (bnd rfl (bnd rfl k1)),bind_ok,addO_some,k2,puts,G.ds];simp
theorem Bn (p:Pt)(hp:p.al (yG cl new nl))(d0:D)(nm:Nat)(hn:nm≠nl)(made:List D)(hm:made.length<=900000)(x:Option D)(l:Int)(h:Hh)(e:h[nl]?=some (.lst [.int l]))(em:h[nm]?=some (.lst made)) :
  ∃ h',zU qM (λ ρ' h'=>b_law_put_1.run cl ρ' h') p.d [some d0,some (.loc nl),some new.d,some (.loc nm),x] h=.nx [some d0,some (.loc nl),some new.d,some (.loc nm),some (p.put new l).1.d] h'/\h'[nl]?=some (.lst [.int (p.put new l).2])/\h'[nm]?=some (.lst (made++[(p.put new l).1.d]))/\h.length<=h'.length/\∀ n o,n≠nl->n≠nm->h[n]?=some o->h'[n]?=some o:=by
 have app:∀ (y:D) (H:Hh),H[nm]?=some (.lst made)->Ss.run cl (zH 1 b_law_put_1) [some d0,some (.loc nl),some new.d,some (.loc nm),some y] H=.nx [some d0,some (.loc nl),some new.d,some (.loc nm),some y] (H.set nm (.lst (made++[y]))):=by
  intro y H g;have ap:m1D .append (.loc nm) y H=.ok .non (H.set nm (.lst (made++[y]))):=by
   unfold m1D;simp only;rw [g];simp only;rw [if_pos 103]
  exact je (bnd rfl ((qI g _).trans (bnd rfl ap))) rfl
 have fin:∀ (y:D) (l':Int) (H:Hh),H[nl]?=some (.lst [.int l'])->Mv nl h H->Ss.run cl (wo 1 b_law_put_1) [some d0,some (.loc nl),some new.d,some (.loc nm),some p.d] h=.nx [some d0,some (.loc nl),some new.d,some (.loc nm),some y] H ->
   ∃ h',zU qM (λ ρ' h'=>b_law_put_1.run cl ρ' h') p.d [some d0,some (.loc nl),some new.d,some (.loc nm),x] h=.nx [some d0,some (.loc nl),some new.d,some (.loc nm),some y] h'/\h'[nl]?=some (.lst [.int l'])/\h'[nm]?=some (.lst (made++[y]))/\h.length<=h'.length/\∀ n o,n≠nl->n≠nm->h[n]?=some o->h'[n]?=some o:=by
  intro y l' H g1 m k;have g2:H[nm]?=some (.lst made):=m.2 nm _ hn em;have lt:nm<H.length:=(Y02.mp g2).1;refine ⟨H.set nm (.lst (made++[y])),?_,by rw [Y0h hn];exact g1,Y0r lt,by rw [Y1d];exact m.1,λ n o z1 z2 q=>by rw [Y0h (λ w=>z2 w.symm)];exact m.2 n o z1 q⟩;show Ss.run cl b_law_put_1 [some d0,some (.loc nl),some new.d,some (.loc nm),some p.d] h=_;rw [YZ cl 1,k];exact app y H g2
 cases p with
 | s z=>exact fin (.str z) l h e (Mv.refl nl h) (ya (zP rfl) (za rfl rfl) rfl)
 | n=>exact fin .non l h e (Mv.refl nl h) (ya (zP rfl) (za rfl rfl) rfl)
 | t g =>
  obtain ⟨h1,k1,e1,m1⟩:=hp l h e;refine fin (put new g l).1.d (put new g l).2 h1 e1 m1 ?_;obtain ⟨t,r,ed⟩:=Va g;show Ss.run cl (wo 1 b_law_put_1) [some d0,some (.loc nl),some new.d,some (.loc nm),some g.d] h=_;rw [ed] at k1 ⊢;exact wx (wy rfl (z4 rfl rfl (by rw [cmp_gt];congr 2;exact decide_eq_true 110)) (bnd (bnd (bnd rfl (bnd rfl (V9 _ _ _))) rfl) rfl)) (zb (bnd rfl (bnd rfl k1)) rfl) rfl
 | ts gs =>
  obtain ⟨h1,k1,e1,m1⟩:=Y9 gs [] l h hp.1 e;rw [Y0l] at k1;refine fin (.tup (G.ds (puts new gs l).1)) (puts new gs l).2 h1 e1 m1 ?_;have fn:∀ {hc:E.evT cl (Z2 (Jm b_law_put_1)) [some d0,some (.loc nl),some new.d,some (.loc nm),some (.tup (G.ds gs))] h=.ok false h},Ss.run cl (wo 1 b_law_put_1) [some d0,some (.loc nl),some new.d,some (.loc nm),some (.tup (G.ds gs))] h=.nx [some d0,some (.loc nl),some new.d,some (.loc nm),some (.tup (G.ds (puts new gs l).1))] h1:=λ {hc} =>
   ya hc (wx rfl (zb (Bl (Bm (q:=([],G.ds gs)) rfl (by rw [qJ];exact Y0j hp.2 102) k1)) rfl) rfl) rfl
  show Ss.run cl (wo 1 b_law_put_1) [some d0,some (.loc nl),some new.d,some (.loc nm),some (.tup (G.ds gs))] h=_;refine fn (hc:=?_);cases gs with
  | nil=>exact yV rfl (z4 rfl rfl rfl)
  | cons g r =>
   obtain ⟨t,r',e⟩:=Va g;rw [G.ds,e];exact wy rfl (z4 rfl rfl (by rw [cmp_gt];congr 2;exact decide_eq_true 110)) (bnd (bnd (bnd rfl (bnd rfl (V9 _ _ _))) rfl) rfl)
theorem Ya (d0:D)(nm:Nat)(hn:nm≠nl):∀ (ps:List Pt) (made:List D) (x:Option D) (l:Int) (h:Hh),(∀ p∈ps,p.al (yG cl new nl))->made.length+ps.length<=900000->h[nl]?=some (.lst [.int l])->h[nm]?=some (.lst made) ->
  ∃ x' h',jg [] (zU qM λ ρ' h'=>b_law_put_1.run cl ρ' h') (ps.map Pt.d) [some d0,some (.loc nl),some new.d,some (.loc nm),x] h=.nx [some d0,some (.loc nl),some new.d,some (.loc nm),x'] h'/\h'[nl]?=some (.lst [.int (JK new ps l).2])/\h'[nm]?=some (.lst (made++(JK new ps l).1.map Pt.d))/\h.length<=h'.length/\∀ n o,n≠nl->n≠nm->h[n]?=some o->h'[n]?=some o
 | [],made,x,l,h,_,_,e,em=>⟨x,h,by simp [jg,zg],e,by simpa [JK] using em,Y0a _,λ n o _ _ q=>q⟩
 | p::r,made,x,l,h,hp,hm,e,em=>by
  rw [Y0q] at hm;obtain ⟨h1,k1,e1,m1,l1,f1⟩:=Bn p (hp p (Y06 ..)) d0 nm hn made 103 x l h e em;obtain ⟨x',h2,k2,e2,m2,l2,f2⟩:=Ya d0 nm hn r (made++[(p.put new l).1.d]) (some (p.put new l).1.d) (p.put new l).2 h1 (λ q hq=>hp q (Y04 _ hq)) 121 e1 m1;refine ⟨x',h2,yu zg k1 k2,e2,?_,Y0j l1 l2,λ n o z1 z2 q=>f2 n o z1 z2 (f1 n o z1 z2 q)⟩;rw [m2,JK];simp
theorem z8e (k:Kd)(ps:List G)(hl:ps.length<=850000)(C:∀ g∈ps,yG cl new nl g)(l:Int)(h:Hh)(e:h[nl]?=some (.lst [.int l])) :
  ∃ h',d_law_put.run cl [(G.nd k ps).d,.loc nl,new.d] h=.ok (put new (.nd k ps) l).1.d h'/\h'[nl]?=some (.lst [.int (put new (.nd k ps) l).2])/\Mv nl h h':=by
 have e0:=λ h=>Jb k (G.ds ps) h;rw [<- G.d] at e0;have lt:nl<h.length:=(Y02.mp e).1;have c1:E.evT cl (Z2 (Jm d_law_put.body)) [some (G.nd k ps).d,some (.loc nl),some new.d,none,none] h=.ok k.isLf (h++[O.lst [.str "num",.str "var"]]):=z4 107 112 (z3d k h);have eA:(h++[O.lst [.str "num",.str "var"]])[nl]?=some (.lst [.int l]):=zf e;cases hk:k.isLf with
 | true =>
  rw [hk] at c1;have pe:put new (.nd k ps) l=(if l-1=-1 then new else .nd k ps,l-1):=by rw [put,hk];rfl
  rw [pe];obtain ⟨H,hH⟩:∃ H,H=(h++[O.lst [.str "num",.str "var"]]).set nl (.lst [.int (l-1)]):=117;have ltA:nl<(h++[O.lst [.str "num",.str "var"]]).length:=by simp;omega
  have eH:H[nl]?=some (.lst [.int (l-1)]):=by rw [hH];exact Y0r ltA
  have mH:Mv nl h H:=by
   refine ⟨by rw [hH];simp,λ n o z q=>?_⟩;rw [hH,Y0h (λ w=>z w.symm)];exact zf q
  have s0:∀ (v:Int) (X:Hh),X[nl]?=some (.lst [.int v])->zC (.loc nl) (.int 0) X=.ok (.int v) X:=λ v X g=>by
   unfold zC;simp only;rw [g];rfl
  have pS:yq (.loc nl) (.int 0) (.int (l-1)) (h++[O.lst [.str "num",.str "var"]])=some H:=by
   unfold yq;simp only;rw [eA,hH];rfl
  have eH2:∀ y,(H++[y])[nl]?=some (.lst [.int (l-1)]):=λ y=>zf eH;refine ⟨H++[.lst [(G.nd k ps).d,new.d]],?_,eH2 _,Mv.trans nl _ _ _ mH (Mv.gr nl H _)⟩;have ix:zC (.loc H.length) (.int (if l-1=-1 then 1 else 0)) (H++[.lst [(G.nd k ps).d,new.d]])=.ok (if l-1=-1 then new else .nd k ps).d (H++[.lst [(G.nd k ps).d,new.d]]):=by
   unfold zC;simp only;rw [hx0];by_cases z:l-1=-1
   ·rw [if_pos z,if_pos z];rfl
   ·rw [if_neg z,if_neg z];rfl
  have ie:c1D .int (.bl (l-1==-1)) (H++[.lst [(G.nd k ps).d,new.d]])=.ok (.int (if l-1=-1 then 1 else 0)) (H++[.lst [(G.nd k ps).d,new.d]]):=by
   show Res.ok (D.int (if (l-1==-1)=true then 1 else 0)) _=_;by_cases z:l-1=-1
   ·rw [if_pos z,if_pos (beq_iff_eq.mpr z)]
   ·rw [if_neg z,if_neg (by rw [beq_iff_eq];exact z)]
  exact ze (ji c1 (UT (bnd (bnd rfl (bnd rfl (s0 l _ eA))) 112) rfl rfl pS (zk (bnd (x:=.loc H.length) (h:=H++[.lst [(G.nd k ps).d,new.d]]) rfl (bnd (bnd (zi (z4 (bnd rfl (bnd rfl (s0 (l-1) _ (eH2 _)))) rfl eqI)) ie) ix)))))
 | false =>
  rw [hk] at c1;have pe:put new (.nd k ps) l=(.nd k (puts new ps l).1,(puts new ps l).2):=by rw [put,hk];rfl
  rw [pe];have pp:=z26 new k ps l hk;obtain ⟨A,hA⟩:∃ A,A=h++[O.lst [.str "num",.str "var"]]:=117;rw [<- hA] at c1 eA;have ltA:nl<A.length:=(Y02.mp eA).1;obtain ⟨x',h',k1,e1,m1,l1,f1⟩:=Ya (cl:=cl) (new:=new) (nl:=nl) (G.nd k ps).d A.length 103 (pts k ps) [.str k.tag] none l (A++[.lst [.str k.tag]]) (Bi C hl) (by
   have:(pts k ps).length<=ps.length+3:=by cases k<;>simp [pts]
   simp;omega) (zf eA) (by rw [hx0];rfl)
  rw [pp] at e1 m1;have ct:∀ h,j4 (G.nd k ps).d (some 1) none h=.ok (.tup ((pts k ps).map Pt.d)) h:=λ h=>by rw [Q6 k ps hk];exact Jc _ _ _
  refine ⟨h',?_,e1,?_⟩
  ·show _=Res.ok (G.nd k (puts new ps l).1).d h';rw [Q6 k (puts new ps l).1 hk];exact ze (za c1 (zb (bnd (bnd (Q8 107) rfl) rfl) (qm (q:=([],(pts k ps).map Pt.d)) (bnd (bnd rfl (bnd rfl (bnd rfl (ct _)))) rfl) k1 (zk (wI (x:=.loc A.length) rfl (zO m1))))))
  ·have a:A.length=h.length+1:=by rw [hA];simp
   refine ⟨by have:=l1;simp at this;omega,λ n o z q=>f1 n o z ?_ ?_⟩
   ·have:=(Y02.mp q).1;omega
   ·rw [hA];exact zf (zf q)
end
mutual
theorem qZ (new:G):∀ (g:G) (l:Int),(l<0\/(lv g:Int)<=l)->put new g l=(g,l-lv g)
 | .nd k ps,l,h=>by
  rw [lv] at h;rw [put,lv];cases hk:k.isLf with
  | true =>
   rw [hk] at h;simp only [if_true] at h ⊢;rw [if_neg 103];rfl
  | false =>
   rw [hk] at h;simp only [Y1m,if_false] at h ⊢;rw [puts_out new ps l h]
theorem puts_out (new:G):∀ (gs:List G) (l:Int),(l<0\/(lvs gs:Int)<=l)->puts new gs l=(gs,l-lvs gs)
 | [],l,_=>by rw [puts,lvs];simp
 | g::r,l,h=>by
  rw [lvs] at h;rw [puts,lvs,qZ new g l 103];simp only;rw [puts_out new r (l-lv g) 103];simp only [Prod.mk.injEq,true_and];omega
end
mutual
theorem jY (new:G):∀ (g:G) (l:Int),(put new g l).2=l-lv g
 | .nd k ps,l=>by
  rw [put,lv];cases hk:k.isLf with
  | true=>simp
  | false=>simpa using puts_left new ps l
theorem puts_left (new:G):∀ (gs:List G) (l:Int),(puts new gs l).2=l-lvs gs
 | [],l=>by rw [puts,lvs];simp
 | g::r,l=>by rw [puts,lvs];simp only;rw [puts_left new r,jY new g];omega
end
theorem Jq (n2:G):∀ (A:List G) (g:G) (B:List G) (l:Int),(lvs A:Int)<=l->(puts n2 (A++g::B) l).1=A++(put n2 g (l-lvs A)).1::(puts n2 B (l-lvs A-lv g)).1
 | [],g,B,l,h=>by
  rw [Y0l,puts,jY,lvs];simp
 | a::A,g,B,l,h=>by
  rw [lvs] at h;rw [Y1k,puts,qZ n2 a l (.inr 103)];simp only;rw [Jq n2 A g B (l-lv a) 103,lvs];have e1:l-lv a-lvs A=l-((lv a+lvs A:Nat):Int):=by omega
  rw [e1];rfl
theorem Bo (n1 n2:G)(gs:List G)(l1 l2:Int)(h0:0<=l1)(h1:l1<lvs gs)(h2:l1<l2):∃ (A:List G) (g:G) (B B':List G) (m1 m2:Int),gs=A++g::B/\0<=m1/\m1<lv g/\m1<m2/\B'.length=B.length/\(puts n1 (puts n2 gs l2).1 l1).1=A++(put n1 (put n2 g m2).1 m1).1::B':=by
 obtain ⟨A,g,B,m1,e1,e2,e3⟩:∃ (A:List G) (g:G) (B:List G) (m1:Int),gs=A++g::B/\l1=lvs A+m1/\0<=m1/\m1<lv g:=by
  clear h2
  induction gs generalizing l1 with
  | nil=>rw [lvs] at h1;omega
  | cons g r ih =>
   rw [lvs] at h1;by_cases z:l1<lv g
   ·exact ⟨[],g,r,l1,rfl,by rw [lvs];omega,h0,z⟩
   ·obtain ⟨A,g',B,m1,a,b,d⟩:=ih (l1-lv g) 103 103;exact ⟨g::A,g',B,m1,by rw [a];rfl,by rw [lvs];omega,d⟩
 refine ⟨A,g,B,(puts n1 (puts n2 B (l2-lvs A-lv g)).1 (l1-lvs A-lv (put n2 g (l2-lvs A)).1)).1,m1,l2-lvs A,e1,e3.1,e3.2,by omega,by rw [Jp,Jp],?_⟩;rw [e1,Jq n2 A g B l2 103,Jq n1 A _ _ l1 103,show l1-lvs A=m1 by omega]
theorem z27 (c:Ct)(k:Kd)(A:List G)(g:G)(B:List G):∃ KA cg,(∀ g' B',B'.length=B.length->∃ KB,zJ c k (A++g'::B')=KA++(g',cg)::KB)/\(∀ al:List Str,∀ qs:List (Str×D),∀ blk:Option Str,wS al qs blk c k (A++g::B).length->(∀ x∈c.kn,x∈al)->∀ x∈cg.kn,x∈al):=by
 have gen:(∀ g' B',B'.length=B.length->zJ c k (A++g'::B')=(A++g'::B').map λ g=>(g,c))->∃ KA cg,(∀ g' B',B'.length=B.length->∃ KB,zJ c k (A++g'::B')=KA++(g',cg)::KB)/\(∀ al:List Str,∀ qs:List (Str×D),∀ blk:Option Str,wS al qs blk c k (A++g::B).length->(∀ x∈c.kn,x∈al)->∀ x∈cg.kn,x∈al):=λ h =>
  ⟨A.map λ g=>(g,c),c,λ g' B' hB=>⟨B'.map λ g=>(g,c),by rw [h g' B' hB];simp⟩,λ al qs blk _ hk=>hk⟩
 have l1:∀ x:List G,x.length=1->∃ b,x=[b]:=λ x hx=>by
  rcases x with _ | ⟨b,_ | ⟨b',r⟩⟩
  ·cases hx
  ·exact ⟨b,rfl⟩
  ·simp at hx
 have l2:∀ (x:List G) (n:Nat),x.length=n+2->∃ a b r,x=a::b::r:=λ x n hx=>by
  rcases x with _ | ⟨b,_ | ⟨b',r⟩⟩
  ·simp at hx
  ·simp at hx
  ·exact ⟨_,_,_,rfl⟩
 cases k with
 | lett x =>
  rcases A with _ | ⟨a,_ | ⟨a',r⟩⟩
  ·rcases B with _ | ⟨b,_ | ⟨b',r⟩⟩
   ·exact gen λ g' B' hB=>by rw [Y1e hB];rfl
   ·exact ⟨[],c,λ g' B' hB=>by obtain ⟨b',rfl⟩:=l1 B' hB;exact 117,λ al qs blk _ hk=>hk⟩
   ·exact gen λ g' B' hB=>by obtain ⟨x,y,z,rfl⟩:=l2 B' _ hB;rfl
  ·rcases B with _ | ⟨b,r⟩
   ·exact ⟨[(a,c)],⟨c.kn++[x],c.pl⟩,λ g' B' hB=>by rw [Y1e hB];exact 117,λ al qs blk hl hk y hy=>by
    rcases Y0p.mp hy with hy | hy
    ·exact hk y hy
    ·rw [Y0d.mp hy];exact hl⟩
   ·exact gen λ g' B' hB=>by
     rcases B' with _ | ⟨x,_ | ⟨y,z⟩⟩
     ·cases hB
     ·rfl
     ·rfl
  ·exact gen (λ g' B' _=>by cases r<;>rfl)
 | handle x =>
  rcases A with _ | ⟨a,_ | ⟨a',r⟩⟩
  ·rcases B with _ | ⟨b,_ | ⟨b',r⟩⟩
   ·exact gen λ g' B' hB=>by rw [Y1e hB];rfl
   ·exact ⟨[],c,λ g' B' hB=>by obtain ⟨b',rfl⟩:=l1 B' hB;exact 117,λ al qs blk _ hk=>hk⟩
   ·exact gen λ g' B' hB=>by obtain ⟨x,y,z,rfl⟩:=l2 B' _ hB;rfl
  ·rcases B with _ | ⟨b,r⟩
   ·exact ⟨[(a,c)],⟨c.kn,.fr⟩,λ g' B' hB=>by rw [Y1e hB];exact 117,λ al qs blk _ hk=>hk⟩
   ·exact gen λ g' B' hB=>by
     rcases B' with _ | ⟨x,_ | ⟨y,z⟩⟩
     ·cases hB
     ·rfl
     ·rfl
  ·exact gen (λ g' B' _=>by cases r<;>rfl)
 | _=>exact gen λ g' B' _=>rfl
theorem Q9 {al:XU}{qs:108}{blk:XX}{e:Nat}{n1:G}(n2:G)(hN:∀ c:Ct,(∀ x∈c.kn,x∈al)->Bd al qs blk e c n1){c:Ct}{g:G}(hg:Gd al qs blk c g):(∀ x∈c.kn,x∈al)->∀ l1 l2:Int,0<=l1->l1<lv g->l1<l2->Bd al qs blk e c (put n1 (put n2 g l2).1 l1).1:=by
 induction hg with
 | mk c k ps hk hl hkids ih =>
  intro hkn l1 l2 h0 h1 h2;rw [lv] at h1;cases hlf:k.isLf with
  | true =>
   rw [hlf] at h1;simp only [if_true] at h1;have e1:(put n2 (.nd k ps) l2).1=.nd k ps:=by rw [put,hlf];simp only [if_true];rw [if_neg 103]
   rw [e1,put,hlf];simp only [if_true];rw [if_pos 103];exact hN c hkn
  | false =>
   rw [hlf] at h1;simp only [Y1m,if_false] at h1;obtain ⟨A,g,B,B',m1,m2,e1,e2,e3,e4,e5,e6⟩:=Bo n1 n2 ps l1 l2 h0 h1 h2;have e7:(put n2 (.nd k ps) l2).1=.nd k (puts n2 ps l2).1:=by rw [put,hlf];simp
   have e8:(put n1 (.nd k (puts n2 ps l2).1) l1).1=.nd k (puts n1 (puts n2 ps l2).1 l1).1:=by rw [put,hlf];simp
   rw [e7,e8,e6];subst e1;obtain ⟨KA,cg,hK,hC⟩:=z27 c k A g B;have hlen:(A++(put n1 (put n2 g m2).1 m1).1::B').length=(A++g::B).length:=by simp [e5]
   obtain ⟨KB,k1⟩:=hK (put n1 (put n2 g m2).1 m1).1 B' e5;obtain ⟨KB0,k0⟩:=hK g B rfl;refine .kid c k _ KA KB ((put n1 (put n2 g m2).1 m1).1,cg) (by rw [hlen];exact hk) ⟨al,by rw [hlen];exact hl⟩ k1 (λ a ha=>⟨al,hkids a (by rw [k0];simp [ha])⟩) ?_;exact ih (g,cg) (by rw [k0];simp) (hC al qs blk hl hkn) m1 m2 e2 e3 e4
noncomputable def Itm.bods:Itm->List G
 | .fn _ _ _ g=>[g]
 | .hd _ cs _ _ e=>cs.map Cl.g++[e]
noncomputable def Itm.sm:Itm->Prop
 | .fn ..=>True
 | .hd _ cs _ _ _=>cs.length<=900
section
variable {cl:101}
theorem Bp (i:Itm)(hs:i.sm)(h:Hh):∃ n J,d_law_bodies.run cl [i.d] h=.ok (.loc n) (h++J)/\(h++J)[n]?=some (.lst (G.ds i.bods)):=by
 cases i with
 | fn f ps b g =>
  have e1:=eqS (h:=h) jj jj;rw [beq_self_eq_true] at e1;exact ⟨h.length,[.lst [g.d]],ze (ji (z4 rfl rfl e1) (zk rfl)),by rw [hx0];rfl⟩
 | hd n cs x s e =>
  have e1:=eqS (h:=h) yd jj;rw [show (("handler":Str)==("def":Str))=false from rfl] at e1;obtain ⟨h',k0,kk,_⟩:=jo (c:=[]) (f:=zT Jd (qe [none] [some (Itm.hd n cs x s e).d]) (λ ρ' h2=>c_law_bodies_1.evC cl ρ' h2) (λ ρ' h2=>e_law_bodies_1.ev cl ρ' h2)) Cl.D (λ q=>q.g.d) (λ h'=>h'=h) (λ a b=>b=a) (λ _=>rfl) (λ a b d z w=>w.trans z) (λ _ _=>zg) cs [] h rfl (by
   rintro q hq h2 rfl
   exact ⟨h2,zZ rfl rfl rfl,rfl,rfl⟩)
  rw [kk,Y0l] at k0;have hs':cs.length<=900:=hs;obtain ⟨L,hL⟩:∃ L,L=cs.map λ q=>q.g.d:=117;rw [<- hL] at k0;have lL:L.length=cs.length:=by rw [hL];simp
  have ad:zw .Add 115 (.loc (h++[O.lst L]).length) (h++[O.lst L]++[O.lst [e.d]])=.ok (.loc (h++[O.lst L]++[O.lst [e.d]]).length) (h++[O.lst L]++[O.lst [e.d]]++[O.lst (L++[e.d])]):=by
   rw [bin_addl,hx0,zf (show (h++[O.lst L])[h.length]?=some (O.lst L) by rw [hx0];rfl)];show (if L.length+[e.d].length<=1000000 then _ else _)=_;rw [if_pos 121]
  refine ⟨(h++[O.lst L]++[O.lst [e.d]]).length,[O.lst L]++[O.lst [e.d]]++[O.lst (L++[e.d])],?_,?_⟩
  ·rw [<- Y07,<- Y07];exact ze (za (z4 rfl rfl e1) (zk (bnd (zQ (q:=([],cs.map Cl.D)) rfl (by rw [Y09];omega) k0) (bnd (x:=.loc (h++[O.lst L]).length) (h:=h++[O.lst L]++[O.lst [e.d]]) rfl ad))))
  ·rw [<- Y07,<- Y07,hx0];show some (O.lst (L++[e.d]))=_;rw [hL,Itm.bods,we,Y0w,Y16];rfl
noncomputable def Bq (cl:101):Prop:=∀ (i:Itm) (h:Hh),i.sm->∃ n J,cl 27 [i.d] h=.ok (.loc n) (h++J)/\(h++J)[n]?=some (.lst (G.ds i.bods))
theorem z68 {L:List G}{h:Hh}{n:Nat}(e:h[n]?=some (.lst (L.map λ g=>D.int (lv g:Nat)))):c1D .sum (.loc n) h=.ok (.int ((lvs L:Nat):Int)) h:=by
 unfold c1D;simp only;rw [zO e];simp only [Option.bind];rw [Q7];simp only;rw [Jo]
theorem Br (C27:Bq cl)(i:Itm)(hs:i.sm)(hl:i.bods.length<=1000)(C:∀ g∈i.bods,Gj cl g)(h:Hh):∃ J,E.ev cl e_law_count_1 [some i.d] h=.ok (.int (lvs i.bods:Nat)) (h++J):=by
 obtain ⟨n,J1,k27,g27⟩:=C27 i h hs;obtain ⟨h',k0,_,⟨J,rfl⟩⟩:=jo (c:=[(n,G.ds i.bods)]) (f:=zT JJ (qe [none] [some i.d]) (λ ρ' h2=>c_law_count_2.evC cl ρ' h2) (λ ρ' h2=>e_law_count_2.ev cl ρ' h2)) G.d (λ g=>D.int (lv g:Nat)) (λ h=>h[n]?=some (.lst (G.ds i.bods))) Gr Gr.refl Gr.trans (λ h q=>stay_one.mpr (zO q)) i.bods [] (h++J1) g27 (by
  intro g hg h2 q;obtain ⟨J,k⟩:=C g hg h2;exact ⟨h2++J,zZ rfl rfl (bnd rfl (bnd rfl k)),zf q,J,rfl⟩)
 rw [Y0l,<- we] at k0;refine ⟨J1++J++[.lst (i.bods.map λ g=>D.int (lv g:Nat))],?_⟩;rw [<- Y07,<- Y07];exact bnd (zQ (q:=([(n,G.ds i.bods)],G.ds i.bods)) (yv (bnd rfl (bnd rfl k27)) (zO g27)) (by rw [qJ];omega) k0) (z68 (by rw [hx0];rfl))
noncomputable def lvI (i:Itm):Nat:=lvs i.bods
noncomputable def lvA (is:List Itm):Nat:=(is.map lvI).sum
theorem Yb:∀ is:List Itm,qH (is.map λ i=>D.int (lvI i:Nat))=some (is.map λ i=>((lvI i:Nat):Int))
 | []=>rfl
 | g::r=>by rw [Y0i,qH,Yb r];rfl
theorem Wq:∀ is:List Itm,(is.map λ i=>((lvI i:Nat):Int)).sum=((lvA is:Nat):Int)
 | []=>rfl
 | g::r=>by
  have:=Wq r
  unfold lvA at this ⊢;rw [Y0i,Y1o,this,Y0i,Y1o];omega
theorem z28 (C27:Bq cl)(is:List Itm)(hl:is.length<=900)(hi:∀ i∈is,i.sm/\i.bods.length<=1000/\∀ g∈i.bods,Gj cl g)(h:Hh):∃ J,d_law_count.run cl [.tup (is.map Itm.d)] h=.ok (.int (lvA is:Nat)) (h++J):=by
 obtain ⟨h',k0,_,⟨J,rfl⟩⟩:=jo (c:=[]) (f:=zT JI (qe [none] [some (.tup (is.map Itm.d))]) (λ ρ' h2=>c_law_count_1.evC cl ρ' h2) (λ ρ' h2=>e_law_count_1.ev cl ρ' h2)) Itm.d (λ i=>D.int (lvI i:Nat)) (λ _=>True) Gr Gr.refl Gr.trans (λ _ _=>zg) is [] h trivial (by
  intro i hm h2 _;obtain ⟨h1,h2',h3⟩:=hi i hm;obtain ⟨J,k⟩:=Br C27 i h1 h2' h3 h2;exact ⟨h2++J,zZ rfl rfl k,trivial,J,rfl⟩)
 rw [Y0l] at k0;refine ⟨J++[.lst (is.map λ i=>D.int (lvI i:Nat))],?_⟩;have sm:c1D .sum (.loc (h++J).length) (h++J++[.lst (is.map λ i=>D.int (lvI i:Nat))])=.ok (.int ((lvA is:Nat):Int)) (h++J++[.lst (is.map λ i=>D.int (lvI i:Nat))]):=by
  unfold c1D;simp only;rw [show rd (h++J++[.lst (is.map λ i=>D.int (lvI i:Nat))]) (h++J).length=some (is.map λ i=>D.int (lvI i:Nat)) by rw [Zq];rfl];simp only [Option.bind];rw [Yb];simp only;rw [Wq]
 rw [<- Y07];exact ze (zk (bnd (zQ (q:=([],is.map Itm.d)) rfl (by rw [Y09];omega) k0) sm))
end
noncomputable def spC (new:G):List Cl->Int->List Cl×Int
 | [],l=>([],l)
 | q::r,l=>(⟨q.d,q.x,q.s,(put new q.g l).1⟩::(spC new r (put new q.g l).2).1,(spC new r (put new q.g l).2).2)
noncomputable def spI (new:G):Itm->Int->Itm×Int
 | .fn f ps b g,l=>(.fn f ps b (put new g l).1,(put new g l).2)
 | .hd n cs x s e,l=>(.hd n (spC new cs l).1 x s (put new e (spC new cs l).2).1,(put new e (spC new cs l).2).2)
noncomputable def spA (new:G):List Itm->Int->List Itm×Int
 | [],l=>([],l)
 | i::r,l=>((spI new i l).1::(spA new r (spI new i l).2).1,(spA new r (spI new i l).2).2)
theorem z3e (xs:List D)(m:Nat)(hm:m<xs.length)(h:Hh):j4 (.tup xs) none (some (m:Int)) h=.ok (.tup (xs.take m)) h:=by
 unfold j4;dsimp only;rw [zX,zG _ _ _ 103];have e:(m:Int).toNat=m:=by omega
 rw [e,if_neg 103];unfold jI;rw [zX,zG _ _ _ 103,e,Y2f,Y3g,Y30 103]
section
variable {cl:101}{new:G}{nl:Nat}
theorem Vc:∀ (cs:List Cl) (acc:List D) (l:Int) (h:Hh),(∀ q∈cs,yG cl new nl q.g)->h[nl]?=some (.lst [.int l])->∃ h',zE [] (zT Zu [none,some (.loc nl),some new.d] (λ ρ' h2=>c_law_spoiled_2.evC cl ρ' h2) (λ ρ' h2=>e_law_spoiled_2.ev cl ρ' h2)) (cs.map Cl.D) acc h=.ok (acc++(spC new cs l).1.map Cl.D) h'/\h'[nl]?=some (.lst [.int (spC new cs l).2])/\Mv nl h h'
 | [],acc,l,h,_,e=>⟨h,by rw [spC,Y2m,zE,if_pos zg];simp,e,Mv.refl nl h⟩
 | q::r,acc,l,h,hq,e=>by
  obtain ⟨h1,k1,e1,m1⟩:=hq q (Y06 ..) l h e;obtain ⟨h2,k2,e2,m2⟩:=Vc r (acc++[Cl.D ⟨q.d,q.x,q.s,(put new q.g l).1⟩]) (put new q.g l).2 h1 (λ x hx=>hq x (Y04 _ hx)) e1;refine ⟨h2,?_,by rw [spC];exact e2,Mv.trans nl _ _ _ m1 m2⟩;have ct:j4 q.D none (some 3) h=.ok (.tup [.str q.d,.str q.x,.str q.s]) h:=z3e [.str q.d,.str q.x,.str q.s,q.g.d] 3 110 h;have el:E.ev cl e_law_spoiled_2 [some q.D,some (.loc nl),some new.d] h=.ok (Cl.D ⟨q.d,q.x,q.s,(put new q.g l).1⟩) h1:=bnd (bnd rfl (bnd rfl (bnd rfl ct))) (bnd (bnd (Q8 (bnd 112 (bnd rfl k1))) rfl) rfl);rw [Y0i,zE,if_pos zg,zZ rfl rfl el,bind_ok,addO_some,k2,spC];simp
noncomputable def Itm.pal (Q:G->Prop)(i:Itm):Prop:=i.sm/\∀ g∈i.bods,Q g
theorem z29 (i:Itm)(hi:i.pal (yG cl new nl))(d0 d1:D)(ni:Nat)(hn:ni≠nl)(made:List D)(hm:made.length<=900000)(x y:Option D)(l:Int)(h:Hh)(e:h[nl]?=some (.lst [.int l]))(em:h[ni]?=some (.lst made)) :
  ∃ y' h',zU wj (λ ρ' h'=>b_law_spoiled_1.run cl ρ' h') i.d [some d0,some d1,some new.d,some (.loc nl),some (.loc ni),x,y] h=.nx [some d0,some d1,some new.d,some (.loc nl),some (.loc ni),some i.d,y'] h'/\h'[nl]?=some (.lst [.int (spI new i l).2])/\h'[ni]?=some (.lst (made++[(spI new i l).1.d]))/\∀ (m:Nat) (o:PI.O),m≠nl->m≠ni->h[m]?=some o->h'[m]?=some o:=by
 have app:∀ (z:D) (H:Hh),H[ni]?=some (.lst made)->m1D .append (.loc ni) z H=.ok .non (H.set ni (.lst (made++[z]))):=by
  intro z H g;unfold m1D;simp only;rw [g];simp only;rw [if_pos 103]
 have fin:∀ (z:D) (l':Int) (H:Hh),H[nl]?=some (.lst [.int l'])->H[ni]?=some (.lst made)->(H.set ni (.lst (made++[z])))[nl]?=some (.lst [.int l'])/\(H.set ni (.lst (made++[z])))[ni]?=some (.lst (made++[z])):=λ z l' H g1 g2 =>
  ⟨by rw [Y0h hn];exact g1,Y0r (Y02.mp g2).1⟩
 cases i with
 | fn f ps b g =>
  obtain ⟨h1,k1,e1,m1⟩:=hi.2 g (by simp [Itm.bods]) l h e;have e0:=eqS (h:=h) jj jj;rw [beq_self_eq_true] at e0;have g1:=m1.2 ni _ hn em;have ct:j4 (Itm.fn f ps b g).d none (some 4) h=.ok (.tup [.str "def",.str f,.tup (ps.map .str),zp b]) h:=z3e [.str "def",.str f,.tup (ps.map .str),zp b,g.d] 4 110 h;obtain ⟨q1,q2⟩:=fin (Itm.fn f ps b (put new g l).1).d (put new g l).2 h1 e1 g1;exact ⟨y,_,wx (z4 rfl rfl e0) (je (bnd rfl ((qI em _).trans (bnd (bnd (bnd rfl (bnd rfl (bnd rfl ct))) (bnd (bnd (Q8 (bnd 112 (bnd rfl k1))) rfl) rfl)) (app _ _ g1)))) rfl) rfl,q1,q2,λ m o a b z=>by rw [Y0h (Ne.symm b)];exact m1.2 m o a z⟩
 | hd n cs x' s g =>
  have e0:=eqS (h:=h) yd jj;rw [show (("handler":Str)==("def":Str))=false from rfl] at e0;obtain ⟨h1,k1,e1,m1⟩:=Vc cs [] l h (λ q hq=>hi.2 q.g (by simp only [Itm.bods];exact Y0p.mpr (.inl (Y0e.mpr ⟨q,hq,rfl⟩)))) e;rw [Y0l] at k1;obtain ⟨h2,k2,e2,m2⟩:=hi.2 g (by simp [Itm.bods]) (spC new cs l).2 h1 e1;have g1:=m1.2 ni _ hn em;have g2:=m2.2 ni _ hn g1;have hs:cs.length<=900:=hi.1;have ct:j4 (yC x' s g) none (some 2) h1=.ok (.tup [.str x',.str s]) h1:=Q5 _ _ _ _;obtain ⟨q1,q2⟩:=fin (Itm.hd n (spC new cs l).1 x' s (put new g (spC new cs l).2).1).d (put new g (spC new cs l).2).2 h2 e2 g2;exact ⟨_,_,ya (z4 rfl rfl e0) (zb (Bl (Bm (q:=([],cs.map Cl.D)) rfl (by rw [Y09];omega) k1)) (je (bnd rfl ((qI g1 _).trans (bnd (bnd (bnd rfl (bnd (bnd rfl (bnd (bnd rfl (bnd (bnd (bnd (bnd rfl (bnd rfl (bnd rfl ct))) (bnd (bnd (Q8 (bnd (bnd 112 112) (bnd rfl k2))) rfl) rfl)) 112) rfl)) rfl)) rfl)) rfl) (app _ _ g2)))) rfl)) rfl,q1,q2,λ m o a b z=>by rw [Y0h (Ne.symm b)];exact m2.2 m o a (m1.2 m o a z)⟩
theorem Vd (d0 d1:D)(ni:Nat)(hn:ni≠nl):∀ (is:List Itm) (made:List D) (x y:Option D) (l:Int) (h:Hh),(∀ i∈is,i.pal (yG cl new nl))->made.length+is.length<=900000->h[nl]?=some (.lst [.int l])->h[ni]?=some (.lst made) ->
  ∃ x' y' h',jg [] (zU wj λ ρ' h'=>b_law_spoiled_1.run cl ρ' h') (is.map Itm.d) [some d0,some d1,some new.d,some (.loc nl),some (.loc ni),x,y] h=.nx [some d0,some d1,some new.d,some (.loc nl),some (.loc ni),x',y'] h'/\h'[ni]?=some (.lst (made++(spA new is l).1.map Itm.d))/\∀ (m:Nat) (o:PI.O),m≠nl->m≠ni->h[m]?=some o->h'[m]?=some o
 | [],made,x,y,l,h,_,_,e,em=>⟨x,y,h,by simp [jg,zg],by simpa [spA] using em,λ m o _ _ z=>z⟩
 | i::r,made,x,y,l,h,hi,hm,e,em=>by
  rw [Y0q] at hm;obtain ⟨y1,h1,k1,e1,m1,w1⟩:=z29 i (hi i (Y06 ..)) d0 d1 ni hn made 103 x y l h e em;obtain ⟨x',y',h2,k2,m2,w2⟩:=Vd d0 d1 ni hn r (made++[(spI new i l).1.d]) (some i.d) y1 (spI new i l).2 h1 (λ q hq=>hi q (Y04 _ hq)) 121 e1 m1;exact ⟨x',y',h2,yu zg k1 k2,by rw [m2,spA];simp,λ m o a b z=>w2 m o a b (w1 m o a b z)⟩
theorem Gk (is:List Itm)(hl:is.length<=900)(hi:∀ nl,∀ i∈is,i.pal (yG cl new nl))(l:Int)(h:Hh):∃ h',d_law_spoiled.run cl [.tup (is.map Itm.d),.int l,new.d] h=.ok (.tup ((spA new is l).1.map Itm.d)) h'/\∀ (m:Nat) (o:PI.O),h[m]?=some o->h'[m]?=some o:=by
 obtain ⟨x',y',h',k,m,w⟩:=Vd (cl:=cl) (new:=new) (nl:=h.length) (.tup (is.map Itm.d)) (.int l) (h.length+1) 103 is [] none none l (h++[.lst [.int l]]++[.lst []]) (hi h.length) 121 (zf (by rw [hx0];rfl)) (by rw [show h.length+1=(h++[O.lst [.int l]]).length by simp,hx0];rfl);rw [Y0l] at m;have k':jg [] (zU wj λ ρ' h'=>b_law_spoiled_1.run cl ρ' h') (is.map Itm.d) [some (.tup (is.map Itm.d)),some (.int l),some new.d,some 115,some (.loc (h++[O.lst [.int l]]).length),none,none] (h++[.lst [.int l]]++[.lst []])=.nx [some (.tup (is.map Itm.d)),some (.int l),some new.d,some 115,some (.loc (h.length+1)),x',y'] h':=by
  rw [show (h++[O.lst [.int l]]).length=h.length+1 by simp];exact k
 exact ⟨h',ze (zb rfl (zb rfl (qm (q:=([],is.map Itm.d)) rfl k' (zk (wI (x:=.loc (h.length+1)) rfl (zO m)))))),λ m o z=>by
  have:=(Y02.mp z).1
  exact w m o 103 103 (zf (zf z))⟩
end
mutual
theorem Yc (new:G):∀ (g:G) (l:Int),(put new g l).1.size<=g.size+(if 0<=l/\l<lv g then new.size else 0)
 | .nd k ps,l=>by
  rw [put,lv];cases hk:k.isLf with
  | true =>
   simp only [if_true];by_cases z:l-1=-1
   ·rw [if_pos z,if_pos (by constructor<;>omega)];omega
   ·rw [if_neg z];omega
  | false =>
   simp only [Y1m,if_false]
   have:=puts_size new ps l
   rw [G.size,G.size];omega
theorem puts_size (new:G):∀ (gs:List G) (l:Int),G.sizes (puts new gs l).1<=G.sizes gs+(if 0<=l/\l<lvs gs then new.size else 0)
 | [],l=>by rw [puts,G.sizes];omega
 | g::r,l=>by
  have a:=Yc new g l;have b:=puts_size new r (put new g l).2;rw [jY] at b;rw [puts,jY,G.sizes,G.sizes,lvs];by_cases z:0<=l/\l<lv g
  ·rw [if_pos z] at a;rw [if_neg 103] at b;rw [if_pos 103];omega
  ·rw [if_neg z] at a;by_cases w:0<=l-lv g/\l-lv g<lvs r
   ·rw [if_pos w] at b;rw [if_pos 103];omega
   ·rw [if_neg w] at b;omega
end
theorem Ua (new g:G)(l:Int):(put new g l).1.size<=g.size+new.size:=by
 have:=Yc new g l
 split at this<;>omega
noncomputable def lvC (cs:List Cl):Nat:=lvs (cs.map Cl.g)
theorem ZD (new:G):∀ (cs:List Cl) (l:Int),(l<0\/(lvC cs:Int)<=l)->spC new cs l=(cs,l-lvC cs)
 | [],l,_=>by rw [spC];simp [lvC,lvs]
 | q::r,l,h=>by
  have e:lvC (q::r)=lv q.g+lvC r:=by unfold lvC;rw [Y0i,lvs]
  rw [e] at h ⊢;rw [spC,qZ new q.g l 103];simp only;rw [ZD new r (l-lv q.g) 103];simp only [Prod.mk.injEq,true_and];omega
theorem Yd (new:G):∀ (cs:List Cl) (l:Int),(spC new cs l).2=l-lvC cs
 | [],l=>by rw [spC];simp [lvC,lvs]
 | q::r,l=>by
  have e:lvC (q::r)=lv q.g+lvC r:=by unfold lvC;rw [Y0i,lvs]
  rw [spC,e];simp only;rw [Yd new r,jY];omega
theorem Qa (n:G):∀ (A:List Cl) (q:Cl) (B:List Cl) (l:Int),(lvC A:Int)<=l->(spC n (A++q::B) l).1=A++⟨q.d,q.x,q.s,(put n q.g (l-lvC A)).1⟩::(spC n B (l-lvC A-lv q.g)).1
 | [],q,B,l,h=>by
  rw [Y0l,spC,jY];simp [lvC,lvs]
 | a::A,q,B,l,h=>by
  have e:lvC (a::A)=lv a.g+lvC A:=by unfold lvC;rw [Y0i,lvs]
  rw [e] at h;rw [Y1k,spC,qZ n a.g l (.inr 103)];simp only;rw [Qa n A q B (l-lv a.g) 103,e,show l-lv a.g-lvC A=l-((lv a.g+lvC A:Nat):Int) by omega];rfl
theorem Ve (n:G):∀ (cs:List Cl) (l:Int),(spC n cs l).1.map Cl.d=cs.map Cl.d
 | [],l=>by rw [spC]
 | q::r,l=>by rw [spC];simp [Ve n r]
theorem z8f:∀ (cs:List Cl) (l:Int),0<=l->l<lvC cs->∃ (A:List Cl) (q:Cl) (B:List Cl) (m:Int),cs=A++q::B/\l=lvC A+m/\0<=m/\m<lv q.g
 | [],l,h0,h1=>by simp [lvC,lvs] at h1;omega
 | q::r,l,h0,h1=>by
  have e:lvC (q::r)=lv q.g+lvC r:=by unfold lvC;rw [Y0i,lvs]
  rw [e] at h1;by_cases z:l<lv q.g
  ·exact ⟨[],q,r,l,rfl,by simp [lvC,lvs],h0,z⟩
  ·obtain ⟨A,q',B,m,a,b,d⟩:=z8f r (l-lv q.g) 103 103;have e2:lvC (q::A)=lv q.g+lvC A:=by unfold lvC;rw [Y0i,lvs]
   exact ⟨q::A,q',B,m,by rw [a];rfl,by rw [e2];omega,d⟩
theorem Vf:∀ a b:List G,lvs (a++b)=lvs a+lvs b
 | [],b=>by rw [lvs];simp
 | g::r,b=>by rw [Y1k,lvs,lvs,Vf r b];omega
theorem Qc (n:Str)(cs:List Cl)(x s:Str)(e:G):lvI (.hd n cs x s e)=lvC cs+lv e:=by
 unfold lvI lvC;rw [Itm.bods,Vf,lvs,lvs];omega
theorem Ub (f:Str)(ps:XU)(b:XX)(g:G):lvI (.fn f ps b g)=lv g:=by
 unfold lvI;rw [Itm.bods,lvs,lvs];omega
theorem Bs (new:G)(i:Itm)(l:Int):(spI new i l).2=l-lvI i:=by
 cases i with
 | fn f ps b g=>rw [spI,Ub];exact jY new g l
 | hd n cs x s e =>
  rw [spI,Qc];simp only;rw [jY,Yd];omega
theorem Vg (new:G)(i:Itm)(l:Int)(h:l<0\/(lvI i:Int)<=l):spI new i l=(i,l-lvI i):=by
 cases i with
 | fn f ps b g =>
  rw [Ub] at h ⊢;rw [spI,qZ new g l h]
 | hd n cs x s e =>
  rw [Qc] at h ⊢;rw [spI,ZD new cs l 103];simp only;rw [qZ new e _ 103];simp only [Prod.mk.injEq,true_and];omega
theorem Vh (new:G):∀ (is:List Itm) (l:Int),(l<0\/(lvA is:Int)<=l)->(spA new is l).1=is
 | [],l,_=>by rw [spA]
 | i::r,l,h=>by
  have e:lvA (i::r)=lvI i+lvA r:=by unfold lvA;rw [Y0i,Y1o]
  rw [e] at h;rw [spA,Vg new i l 103];simp only;rw [Vh new r _ 103]
theorem Qd (n:G):∀ (A:List Itm) (i:Itm) (B:List Itm) (l:Int),(lvA A:Int)<=l->(spA n (A++i::B) l).1=A++(spI n i (l-lvA A)).1::(spA n B (l-lvA A-lvI i)).1
 | [],i,B,l,h=>by
  rw [Y0l,spA,Bs];simp [lvA]
 | a::A,i,B,l,h=>by
  have e:lvA (a::A)=lvI a+lvA A:=by unfold lvA;rw [Y0i,Y1o]
  rw [e] at h;rw [Y1k,spA,Vg n a l (.inr 103)];simp only;rw [Qd n A i B (l-lvI a) 103,e,show l-lvI a-lvA A=l-((lvI a+lvA A:Nat):Int) by omega];rfl
theorem z8g:∀ (is:List Itm) (l:Int),0<=l->l<lvA is->∃ (A:List Itm) (i:Itm) (B:List Itm) (m:Int),is=A++i::B/\l=lvA A+m/\0<=m/\m<lvI i
 | [],l,h0,h1=>by simp [lvA] at h1;omega
 | i::r,l,h0,h1=>by
  have e:lvA (i::r)=lvI i+lvA r:=by unfold lvA;rw [Y0i,Y1o]
  rw [e] at h1;by_cases z:l<lvI i
  ·exact ⟨[],i,r,l,rfl,by simp [lvA],h0,z⟩
  ·obtain ⟨A,i',B,m,a,b,d⟩:=z8g r (l-lvI i) 103 103;have e2:lvA (i::A)=lvI i+lvA A:=by unfold lvA;rw [Y0i,Y1o]
   exact ⟨i::A,i',B,m,by rw [a];rfl,by rw [e2];omega,d⟩
noncomputable def Itm.al (al:XU):Itm->Prop
 | .fn _ ps _ _=>∀ x∈ps,x∈al
 | .hd _ cs x s _=>(∀ q∈cs,q.x∈al/\q.s∈al)/\x∈al/\s∈al
noncomputable def Itm.blk:Itm->Option Str
 | .fn _ _ b _=>b
 | .hd ..=>none
theorem z69 {al:XU}{qs:108}{e:Nat}{n1:G}(n2:G)(i:Itm)(hg:i.good al qs)(ha:i.al al)(hN:∀ c:Ct,(∀ x∈c.kn,x∈al)->Bd al qs i.blk e c n1)(z1:n1.size<=50000)(z2:n2.size<=50000)(l l2:Int)(h0:0<=l)(h1:l<lvI i)(h2:l<l2):ItX al qs e (spI n1 (spI n2 i l2).1 l).1:=by
 have sz2:∀ (g:G) (a b:Int),g.size<=800000->(put n1 (put n2 g a).1 b).1.size<=900000:=λ g a b h=>by
  have:=Ua n1 (put n2 g a).1 b
  have:=Ua n2 g a
  omega
 cases i with
 | fn f ps b g =>
  rw [Ub] at h1;obtain ⟨g1,g2,g3,g4,g5,g6⟩:=hg;exact .body f ps b _ g1 g2 g3 g4 (Q9 n2 hN g5 ha l l2 h0 h1 h2) (sz2 _ _ _ g6.1)
 | hd n cs x s g =>
  rw [Qc] at h1;obtain ⟨g1,g2,g3,g4⟩:=hg;obtain ⟨a1,a2,a3⟩:=ha;by_cases z:l<lvC cs
  ·obtain ⟨A,q,B,m,e1,e2,e3,e4⟩:=z8f cs l h0 z;have c1:=Qa n2 A q B l2 103;have c2:=Qa n1 A ⟨q.d,q.x,q.s,(put n2 q.g (l2-lvC A)).1⟩ (spC n2 B (l2-lvC A-lv q.g)).1 l 103;have c3:(spC n1 (spC n2 cs l2).1 l).1=A++⟨q.d,q.x,q.s,(put n1 (put n2 q.g (l2-lvC A)).1 (l-lvC A)).1⟩::(spC n1 (spC n2 B (l2-lvC A-lv q.g)).1 (l-lvC A-lv (put n2 q.g (l2-lvC A)).1)).1:=by rw [e1,c1,c2]
   have gq:=g3 q (by rw [e1];simp);have hd:(A++⟨q.d,q.x,q.s,(put n1 (put n2 q.g (l2-lvC A)).1 (l-lvC A)).1⟩::(spC n1 (spC n2 B (l2-lvC A-lv q.g)).1 (l-lvC A-lv (put n2 q.g (l2-lvC A)).1)).1).map Cl.d=cs.map Cl.d:=by rw [<- c3,Ve,Ve]
   have hln:=congrArg List.length hd;rw [Y09,Y09] at hln;rw [spI,spI];simp only;rw [c3];refine .clause n A _ _ x s _ (by rw [hd];exact g1) (by rw [hln];exact g2) (λ a ha=>g3 a (by rw [e1];simp [ha])) (.body q.s gq.ne (Q9 n2 hN gq.gd ?_ (l-lvC A) (l2-lvC A) 103 103 103) (sz2 _ _ _ gq.sz.1));intro y hy
   have:=a1 q (by rw [e1];simp)
   simp at hy;rcases hy with rfl | rfl
   ·exact this.1
   ·exact this.2
  ·rw [spI,ZD n2 cs l2 (.inr 103)];simp only;rw [spI,ZD n1 cs l (.inr 103)];simp only;refine .end n cs x s _ g1 g2 g3 (.body s g4.ne (Q9 n2 hN g4.gd ?_ _ _ 103 103 103) (sz2 _ _ _ g4.sz.1));intro y hy;simp at hy;rcases hy with rfl | rfl
   ·exact a2
   ·exact a3
noncomputable def Itm.hdOf:Itm->Str×Option (Nat×Bool)
 | .fn f ps b _=>(f,some (ps.length,b.isSome))
 | .hd n _ _ _ _=>(n,none)
theorem y0 {is js:List Itm}(h:is.map Itm.hdOf=js.map Itm.hdOf){f:Str}{n:Nat}{b:Bool}(q:IsD (zV is) f n b):IsD (zV js) f n b:=by
 obtain ⟨ps,bd,bo,hm,hl,hb⟩:=q;obtain ⟨i,hi,e⟩:=Y0e.mp hm;simp only [Prod.mk.injEq] at e;obtain ⟨e1,e2⟩:=e;have m:i.hdOf∈js.map Itm.hdOf:=by rw [<- h];exact Y0e.mpr ⟨i,hi,rfl⟩
 obtain ⟨j,hj,e3⟩:=Y0e.mp m;cases i with
 | hd n' cs x s g=>unfold Itm.d dfD at e2;simp at e2
 | fn f' ps' b' g =>
  unfold Itm.d dfD at e2;simp only [D.tup.injEq,List.cons.injEq,and_true,true_and] at e2;obtain ⟨_,e5,e6,e7⟩:=e2;have e1:f'=f:=e1;cases j with
  | hd n' cs x s g=>simp [Itm.hdOf] at e3
  | fn f2 ps2 b2 g2 =>
   simp only [Itm.hdOf,Prod.mk.injEq,Option.some.injEq] at e3;obtain ⟨e8,e9,e10⟩:=e3;refine ⟨ps2.map .str,zp b2,g2.d,?_,?_,?_⟩
   ·exact Y0e.mpr ⟨_,hj,by simp only [Itm.nm,Itm.d];rw [e8,e1]⟩
   ·rw [Y09,e9,<- hl,<- e5];simp
   ·rcases hb with ⟨z,w⟩ | ⟨z,y,w⟩
    ·left;refine ⟨z,?_⟩
     have:b'=none:=by cases b' with
      | none=>rfl
      | some u=>rw [w] at e6;cases e6
     rw [this] at e10;cases b2 with
     | none=>rfl
     | some u=>cases e10
    ·right;refine ⟨z,?_⟩
     have:∃ u,b'=some u:=by cases b' with
      | none=>rw [w] at e6;cases e6
      | some u=>exact ⟨u,rfl⟩
     obtain ⟨u,hu⟩:=this;rw [hu] at e10;cases b2 with
     | none=>cases e10
     | some u2=>exact ⟨u2,rfl⟩
theorem Z4 {is js:List Itm}(h:is.map Itm.hdOf=js.map Itm.hdOf){f:Str}(q:IsH (zV is) f):IsH (zV js) f:=by
 obtain ⟨r,hm⟩:=q;obtain ⟨i,hi,e⟩:=Y0e.mp hm;simp only [Prod.mk.injEq] at e;obtain ⟨e1,e2⟩:=e;have m:i.hdOf∈js.map Itm.hdOf:=by rw [<- h];exact Y0e.mpr ⟨i,hi,rfl⟩
 obtain ⟨j,hj,e3⟩:=Y0e.mp m;cases i with
 | fn f' ps' b' g =>
  unfold Itm.d dfD at e2;simp only [D.tup.injEq,List.cons.injEq,D.str.injEq] at e2;exact absurd e2.1 102
 | hd n' cs x s g =>
  have e1:n'=f:=e1;cases j with
  | fn f2 ps2 b2 g2=>simp [Itm.hdOf] at e3
  | hd n2 cs2 x2 s2 g2 =>
   simp only [Itm.hdOf,Prod.mk.injEq,and_true] at e3;exact ⟨_,Y0e.mpr ⟨_,hj,by simp only [Itm.nm,Itm.d];rw [e3,e1]⟩⟩
theorem yH {is js:List Itm}(h:is.map Itm.hdOf=js.map Itm.hdOf):is.map Itm.nm=js.map Itm.nm:=by
 have e:∀ i:Itm,i.nm=i.hdOf.1:=λ i=>by cases i<;>rfl
 have:=congrArg (List.map Prod.fst) h
 rw [Y16,Y16] at this;rw [show Itm.nm=Prod.fst∘Itm.hdOf from funext e];exact this
theorem Jr {al:XU}{is js:List Itm}(h:is.map Itm.hdOf=js.map Itm.hdOf){i:Itm}(hg:i.good al (zV is)):i.good al (zV js):=by
 have hd:∀ f n b,IsD (zV is) f n b->IsD (zV js) f n b:=λ f n b q=>y0 h q;have hh:∀ x,IsH (zV is) x->IsH (zV js) x:=λ x q=>Z4 h q;have hn:=yH h;cases i with
 | fn f ps b g =>
  obtain ⟨g1,g2,g3,g4,g5,g6⟩:=hg;exact ⟨g1,g2,g3,λ x hx=>by rw [Q2,<- hn,<- Q2];exact g4 x hx,yE hd hh g5,g6⟩
 | hd n cs x s g =>
  obtain ⟨g1,g2,g3,g4⟩:=hg;exact ⟨g1,g2,λ q hq=>Q3 hd hh (g3 q hq),Q3 hd hh g4⟩
theorem z2a (new:G)(i:Itm)(l:Int):(spI new i l).1.hdOf=i.hdOf:=by cases i<;>rfl
theorem wV (n:G):∀ (is:List Itm) (l:Int),(spA n is l).1.map Itm.hdOf=is.map Itm.hdOf
 | [],l=>by rw [spA]
 | i::r,l=>by rw [spA];simp [wV n r,z2a]
theorem Ye {al:XU}{e:Nat}{n1:G}(n2:G)(is:List Itm)(hn:(is.map Itm.nm).Nodup)(hg:∀ i∈is,i.good al (zV is))(ha:∀ i∈is,i.al al)(z1:n1.size<=50000)(z2:n2.size<=50000)
  (hN:∀ js:List Itm,js.map Itm.hdOf=is.map Itm.hdOf->∀ i∈is,∀ c:Ct,(∀ x∈c.kn,x∈al)->Bd al (zV js) i.blk e c n1) (l l2:Int) (h0:0<=l) (h1:l<lvA is) (h2:l<l2):PrX e (spA n1 (spA n2 is l2).1 l).1:=by
 obtain ⟨A,i,B,m,e1,e2,e3,e4⟩:=z8g is l h0 h1;have hh:(spA n1 (spA n2 is l2).1 l).1.map Itm.hdOf=is.map Itm.hdOf:=by rw [wV,wV]
 have c3:(spA n1 (spA n2 is l2).1 l).1=A++(spI n1 (spI n2 i (l2-lvA A)).1 (l-lvA A)).1::(spA n1 (spA n2 B (l2-lvA A-lvI i)).1 (l-lvA A-lvI (spI n2 i (l2-lvA A)).1)).1:=by
  rw [e1,Qd n2 A i B l2 103,Qd n1 A _ _ l 103]
 rw [c3] at hh ⊢;have mi:i∈is:=by rw [e1];simp
 refine .item al A _ _ (by rw [yH hh];exact hn) (λ a hm=>Jr hh.symm (hg a (by rw [e1];simp [hm]))) ?_;exact z69 n2 i (Jr hh.symm (hg i mi)) (ha i mi) (hN _ hh i mi) z1 z2 _ _ 103 103 103
theorem Gm {al:XU}{e:Nat}{n1:G}(is:List Itm)(hn:(is.map Itm.nm).Nodup)(hg:∀ i∈is,i.good al (zV is))(ha:∀ i∈is,i.al al)(z1:n1.size<=50000)
  (hN:∀ js:List Itm,js.map Itm.hdOf=is.map Itm.hdOf->∀ i∈is,∀ c:Ct,(∀ x∈c.kn,x∈al)->Bd al (zV js) i.blk e c n1) (l:Int) (h0:0<=l) (h1:l<lvA is):PrX e (spA n1 is l).1:=by
 have:=Ye n1 is hn hg ha z1 z1 hN l (lvA is) h0 h1 h1
 rw [Vh n1 is _ (.inr (Int.le_refl _))] at this;exact this
theorem z3f (k:Nat):F13 (callI defs (k+1)):=λ t _ hf=>(z5 (d:=d_is_function) rfl rfl).trans (z65 _ t hf)
theorem z8h (k:Nat):F14 (callI defs (k+2)):=λ t _ hf=>(z5 (d:=d_may_be_handed) rfl rfl).trans (B9 _ (z1w k) (λ hf=>z3f k t hf) t hf)
theorem z8i (k:Nat):X12 (callI defs (k+3)):=λ t f o blk ps sf so' lf hb _ hc=>(z5 (d:=d_check_call) rfl rfl).trans (z1z _ (z1w (k+1)) (z86 k) (z3f (k+1)) (z8h k) t f o blk ps sf so' lf hb hc)
theorem z8j (k:Nat):X10 (callI defs (k+1)):=λ hx l=>(z5 (d:=d_check_variable) rfl rfl).trans (z64 _ hx l)
theorem z8k (k:Nat):X11 (callI defs (k+1)):=⟨λ t _ _ _ _ hx l=>(z5 (d:=d_check_handle) rfl rfl).trans (U6 _ t hx l),λ t _ _ _ hx=>(z5 (d:=d_check_handle) rfl rfl).trans (U7 _ t hx)⟩
theorem z2b (k:Nat):Ba (callI defs (k+4)):=λ t hb _ _ _ hk _ hl=>(z5 (d:=d_check_expression) rfl rfl).trans (z20 _ (z8j (k+2)) (z8k (k+2)) (z8i k) t hb hk hl)
theorem Vi (k:Nat):Bb (callI defs (k+5)):=λ t hb _ _ _ hg hz=>by
 obtain ⟨h',e⟩:=z21 (callI defs (k+4)) (V6 (k+2)) (B5 k) (z2b k) t hb hg hz;exact ⟨h',(z5 (d:=d_check_body) rfl rfl).trans e⟩
theorem Vj (k:Nat):TwX (callI defs (k+1)):=λ xs h hn hL hl=>by
 obtain ⟨⟨h',a⟩,b⟩:=z23 (callI defs k) xs h hn hL hl;refine ⟨⟨h',(z5 (d:=d_refuse_twice) rfl rfl).trans a⟩,λ n en=>?_⟩;obtain ⟨h',c⟩:=b n en;exact ⟨h',(z5 (d:=d_refuse_twice) rfl rfl).trans c⟩
theorem z6a (k:Nat):U8 (callI defs (k+6)):=λ t _ _ _ _ _ ha=>by
 obtain ⟨h',e⟩:=Bc (callI defs (k+5)) (qo (k+4)) (Vj (k+4)) (Vi k) t ha;exact ⟨h',(z5 (d:=d_check_answer) rfl rfl).trans e⟩
theorem zac (k:Nat):X4 (callI defs (k+6)):=λ t _ _ _ _ _ hg=>by
 obtain ⟨h',e⟩:=z66 (callI defs (k+5)) (qo (k+4)) (Vj (k+4)) (Vi k) t hg;exact ⟨h',(z5 (d:=d_check_function) rfl rfl).trans e⟩
theorem zad (k:Nat):X5 (callI defs (k+7)):=λ t _ _ _ _ _ _ hg=>by
 obtain ⟨h',e⟩:=z8b (callI defs (k+6)) (qo (k+5)) (Vj (k+5)) (z3a k) (z6a k) t hg;exact ⟨h',(z5 (d:=d_check_handler) rfl rfl).trans e⟩
theorem z6b (k:Nat)(is:List Itm)(h:Hh)(hl:is.length<=900){e:Nat}(hp:PrX e is):∃ h',callI defs (k+8) 2 [.tup (is.map Itm.d)] h=.exc e h':=by
 obtain ⟨h',ee⟩:=z24 (callI defs (k+7)) (i_1 (k+6)) (qo (k+6)) (Vj (k+6)) (i_4 (k+1)) (i_5 k) (zac (k+1)) (zad k) is h hl hp;exact ⟨h',(z5 (d:=d_check) rfl rfl).trans ee⟩
theorem z6c (k:Nat)(is:List Itm)(h:Hh)(hl:is.length<=900){e:Nat}(he:e=1\/e=2\/e=3)(hp:PrX e is):∃ h',callI defs (k+9) 34 [.tup (is.map Itm.d)] h=.ok (.int ((e:Int)-1)) h':=by
 obtain ⟨h1,ee⟩:=z6b k is h hl hp;obtain ⟨h',r⟩:=Gi (callI defs (k+8)) _ h h1 e he ee;exact ⟨h',(z5 (d:=d_law_refusal) rfl rfl).trans r⟩
theorem Qj:∀ {gs:List G}{g:G},g∈gs->g.dp<=G.dps gs
 | p::r,g,h=>by
  rw [G.dps];rcases Y03.mp h with rfl | h
  ·omega
  ·have:=Qj h;omega
theorem z8l (k:Nat):∀ (n:Nat) (g:G),g.dp<=n->g.size<=800000->Gj (callI defs (k+n)) g
 | 0,.nd kd ps,hd,_=>by rw [G.dp] at hd;omega
 | n+1,.nd kd ps,hd,hz=>λ h=>by
  rw [G.dp] at hd;rw [G.size] at hz
  have:=wl ps
  obtain ⟨J,e⟩:=Bj (cl:=callI defs (k+n)) kd ps 103 (λ g hg=>z8l k n g (by have:=Qj hg;omega) (by have:=wT hg;omega)) h;exact ⟨J,(z5 (d:=d_law_leaves) rfl rfl).trans e⟩
theorem z3g (k:Nat)(new:G)(nl:Nat):∀ (n:Nat) (g:G),g.dp<=n->g.size<=850000->yG (callI defs (k+n)) new nl g
 | 0,.nd kd ps,hd,_=>by rw [G.dp] at hd;omega
 | n+1,.nd kd ps,hd,hz=>λ l h e=>by
  rw [G.dp] at hd;rw [G.size] at hz
  have:=wl ps
  obtain ⟨h',ee,r⟩:=z8e (cl:=callI defs (k+n)) (new:=new) (nl:=nl) kd ps 103 (λ g hg=>z3g k new nl n g (by have:=Qj hg;omega) (by have:=wT hg;omega)) l h e;exact ⟨h',(z5 (d:=d_law_put) rfl rfl).trans ee,r⟩
theorem z8m (k:Nat):Bq (callI defs (k+1)):=λ i h hs=>by
 obtain ⟨n,J,e,r⟩:=Bp (cl:=callI defs k) i hs h;exact ⟨n,J,(z5 (d:=d_law_bodies) rfl rfl).trans e,r⟩
theorem Z5 {al:XU}{qs:108}{i:Itm}(hg:i.good al qs):i.sm/\i.bods.length<=1000/\∀ g∈i.bods,Sz g:=by
 cases i with
 | fn f ps b g=>exact ⟨trivial,by simp [Itm.bods],λ x hx=>by rw [Y0d.mp hx];exact hg.2.2.2.2.2⟩
 | hd n cs x s g =>
  obtain ⟨g1,g2,g3,g4⟩:=hg;refine ⟨g2,by simp [Itm.bods];omega,λ y hy=>?_⟩;rcases Y0p.mp hy with hy | hy
  ·obtain ⟨q,hq,rfl⟩:=Y0e.mp hy;exact (g3 q hq).sz
  ·rw [Y0d.mp hy];exact g4.sz
theorem z2c (k:Nat){al:XU}{qs:108}(is:List Itm)(hl:is.length<=900)(hg:∀ i∈is,i.good al qs)(h:Hh):∃ J,callI defs (k+8) 28 [.tup (is.map Itm.d)] h=.ok (.int (lvA is:Nat)) (h++J):=by
 obtain ⟨J,e⟩:=z28 (cl:=callI defs (k+7)) (z8m (k+6)) is hl (λ i hi=>by
  obtain ⟨a,b,c⟩:=Z5 (hg i hi);exact ⟨a,b,λ g hm=>z8l k 7 g (c g hm).2 (c g hm).1⟩) h
 exact ⟨J,(z5 (d:=d_law_count) rfl rfl).trans e⟩
mutual
theorem Bt (new:G):∀ (g:G) (l:Int),(put new g l).1.dp<=g.dp+new.dp
 | .nd k ps,l=>by
  rw [put];cases hk:k.isLf with
  | true =>
   simp only [if_true];by_cases z:l-1=-1
   ·rw [if_pos z];omega
   ·rw [if_neg z];omega
  | false =>
   simp only [Y1m,if_false]
   have:=puts_dp new ps l
   rw [G.dp,G.dp];omega
theorem puts_dp (new:G):∀ (gs:List G) (l:Int),G.dps (puts new gs l).1<=G.dps gs+new.dp
 | [],l=>by rw [puts,G.dps];omega
 | g::r,l=>by
  have a:=Bt new g l;have b:=puts_dp new r (put new g l).2;rw [puts,G.dps,G.dps];omega
end
noncomputable def Bg (i:Itm):Prop:=i.sm/\∀ g∈i.bods,g.size<=850000/\g.dp<=11
theorem Bu (new:G):∀ (cs:List Cl) (l:Int),∀ q∈(spC new cs l).1,∃ p∈cs,∃ m,q.g=(put new p.g m).1
 | [],l,q,h=>by rw [spC] at h;cases h
 | c::r,l,q,h=>by
  rw [spC] at h;rcases Y03.mp h with rfl | h
  ·exact ⟨c,Y06 ..,l,rfl⟩
  ·obtain ⟨p,hp,m,e⟩:=Bu new r _ q h;exact ⟨p,Y04 _ hp,m,e⟩
theorem z6d {al:XU}{qs:108}{new:G}(hz:new.size<=50000)(hd:new.dp<=4){i:Itm}(hg:i.good al qs)(l:Int):Bg (spI new i l).1:=by
 obtain ⟨a,b,c⟩:=Z5 hg;have key:∀ g∈i.bods,∀ m,(put new g m).1.size<=850000/\(put new g m).1.dp<=11:=λ g hm m=>by
  have:=Ua new g m
  have:=Bt new g m
  have:=(c g hm).1
  have:=(c g hm).2
  exact ⟨by omega,by omega⟩
 cases i with
 | fn f ps bo g =>
  refine ⟨trivial,λ x hx=>?_⟩;rw [Y0d.mp hx];exact key g (by simp [Itm.bods]) l
 | hd n cs x s e =>
  refine ⟨?_,λ y hy=>?_⟩
  ·show (spC new cs l).1.length<=900
   have:=congrArg List.length (Ve new cs l)
   rw [Y09,Y09] at this;rw [this];exact hg.2.1
  ·rcases Y0p.mp hy with hy | hy
   ·obtain ⟨q,hq,rfl⟩:=Y0e.mp hy;obtain ⟨p,hp,m,e⟩:=Bu new cs l q hq;rw [e];exact key p.g (by simp only [Itm.bods];exact Y0p.mpr (.inl (Y0e.mpr ⟨p,hp,rfl⟩))) m
   ·rw [Y0d.mp hy];exact key e (by simp [Itm.bods]) _
theorem Bv {new:G}(P:Itm->Prop)(h:∀ i,P i->∀ l,Bg (spI new i l).1):∀ (is:List Itm) (l:Int),(∀ i∈is,P i)->∀ j∈(spA new is l).1,Bg j
 | [],l,_,j,hj=>by rw [spA] at hj;cases hj
 | i::r,l,hi,j,hj=>by
  rw [spA] at hj;rcases Y03.mp hj with rfl | hj
  ·exact h i (hi i (Y06 ..)) l
  ·exact Bv P h r _ (λ x hx=>hi x (Y04 _ hx)) j hj
theorem z2d {al:XU}{qs:108}{i:Itm}(hg:i.good al qs):Bg i:=by
 obtain ⟨a,b,c⟩:=Z5 hg;refine ⟨a,λ g hm=>?_⟩
 have:=(c g hm).1
 have:=(c g hm).2
 exact ⟨by omega,by omega⟩
theorem wW (k:Nat)(new:G)(is:List Itm)(hl:is.length<=900)(hg:∀ i∈is,Bg i)(l:Int)(h:Hh):∃ h',callI defs (k+12) 29 [.tup (is.map Itm.d),.int l,new.d] h=.ok (.tup ((spA new is l).1.map Itm.d)) h'/\∀ (m:Nat) (o:PI.O),h[m]?=some o->h'[m]?=some o:=by
 obtain ⟨h',e,w⟩:=Gk (cl:=callI defs (k+11)) (new:=new) is hl (λ nl i hi=>by
  obtain ⟨a,c⟩:=hg i hi;exact ⟨a,λ g hm=>z3g k new nl 11 g (c g hm).2 (c g hm).1⟩) l h
 exact ⟨h',(z5 (d:=d_law_spoiled) rfl rfl).trans e,w⟩
structure Hd5 (c:Int)(p1 p2:Nat)(qs:108):Prop where
 d0:IsD qs (nmF c 0) p1 false
 d1:IsD qs (nmF c 1) 1 false
 d2:IsD qs (nmF c 2) p2 true
 h3:IsH qs (nmF c 3)
 h4:IsH qs (nmF c 4)
 no:∀ j,5<=j->j<14->nmF c j∉qs.map (·.1)
noncomputable def nG (m:Int):G:=.nd (.num m) []
noncomputable def vG (x:Str):G:=.nd (.var x) []
noncomputable def cG (f:Str)(o:XX)(ps:List G):G:=.nd (.call f o) ps
noncomputable def jG (n:Nat):List G:=List.replicate n (nG 1)
section
variable {c:Int}{p1 p2:Nat}{qs:108}{al:XU}{blk:XX}{ct:Ct}
theorem wX (c:Int)(k:Nat):Sh1 (nmF c k):=by
 unfold Sh1 nmF;rw [PI.cs_len,Ja];unfold nmL;have hs:=WY c;have hd:=qY (cs (poF c)) (szF c) (c/32%1000003+k);rw [Y0k,Y0k,Y1j,Y1r,hd]
 split<;>simp<;>omega
theorem Uc (m:Int):Gd al qs blk ct (nG m):=yF rfl trivial
theorem jM (hb:jp c blk){k:Nat}(hk:k<14)(h9:k≠9):blk≠some (nmF c k):=by
 rcases hb with rfl | rfl
 ·exact λ z=>by cases z
 ·exact λ z=>ja c 102 hk 103 (Option.some.inj z)
theorem yI (f:Nat)(o:Option Nat)(ps:List G){e:Nat}(h:CallBad qs blk (nmF c f) (o.map (nmF c)) ps.length e):Bd al qs blk e ct (cG (nmF c f) (o.map (nmF c)) ps) :=
 .here ct _ ps rfl (.call _ _ _ e (wJ c f) (by cases o with | none=>trivial | some k=>exact wJ c k) (wX c f) h)
theorem Qk (H:Hd5 c p1 p2 qs)(hb:jp c blk)(f:Nat)(hf:f=3\/f=4\/(10<=f/\f<14))(o:Option Nat)(ps:List G):Bd al qs blk 1 ct (cG (nmF c f) (o.map (nmF c)) ps) :=
 yI f o ps (.nofn (jM hb 103 103) (by
  rcases hf with rfl | rfl | hf
  ·exact .inr H.h3
  ·exact .inr H.h4
  ·exact .inl (H.no f 103 hf.2)))
theorem y6 (H:Hd5 c p1 p2 qs)(hb:jp c blk)(f:Nat)(hf:f<3)(x:Nat)(hx:x=2\/x=3\/x=4\/(x=0/\p1≠1)\/(10<=x/\x<14))(ps:List G):Bd al qs blk 1 ct (cG (nmF c f) (some (nmF c x)) ps):=by
 have cal:∃ w,Cal qs blk (nmF c f) (some w):=by
  have:f=0\/f=1\/f=2:=by omega
  rcases this with rfl | rfl | rfl
  ·exact ⟨(p1,false),jM hb 102 102,H.d0⟩
  ·exact ⟨(1,false),jM hb 102 102,H.d1⟩
  ·exact ⟨(p2,true),jM hb 102 102,H.d2⟩
 obtain ⟨w,hw⟩:=cal;refine yI f (some x) ps (.noblk (some w) (nmF c x) hw rfl (jM hb 103 103) ?_ (wX c x));rcases hx with rfl | rfl | rfl | ⟨rfl,h⟩ | hx
 ·exact .inr ⟨p2,true,H.d2,.inr rfl⟩
 ·exact .inl (.inr H.h3)
 ·exact .inl (.inr H.h4)
 ·exact .inr ⟨p1,false,H.d0,.inl h⟩
 ·exact .inl (.inl (H.no x 103 hx.2))
theorem Bw (j:Nat)(hj:nmF c j∉ct.kn):Bd al qs blk 1 ct (vG (nmF c j)):=.here ct _ [] rfl (.var _ _ hj (wX c j))
theorem Bx (H:Hd5 c p1 p2 qs)(j:Nat)(hj:j=0\/(10<=j/\j<14))(a b:G):Bd al qs blk 1 ct (.nd (.handle (nmF c j)) [a,b]) :=
 .here ct _ _ rfl (.hd1 _ _ (by
  rcases hj with rfl | hj
  ·obtain ⟨ps,bd,bo,hm,_⟩:=H.d0;exact .inr ⟨ps,bd,bo,hm⟩
  ·exact .inl (H.no j 103 hj.2)) (wX c j))
theorem z8n (j:Nat)(hj:nmF c j∉ct.kn)(b:G):Bd al qs blk 1 ct (.nd (.lett (nmF c j)) [vG (nmF c j),b]) :=
 .kid ct _ _ [] [(b,⟨ct.kn++[nmF c j],ct.pl⟩)] (vG (nmF c j),ct) rfl ⟨[nmF c j],by simp [wS]⟩ rfl (λ a ha=>by cases ha) (Bw j hj)
theorem z2e (j:Nat)(hj:nmF c j∉ct.kn)(m:Int):Bd al qs blk 1 ct (.nd (.op "+") [.nd (.lett (nmF c j)) [nG m,nG m],vG (nmF c j)]) :=
 .kid ct _ _ [(.nd (.lett (nmF c j)) [nG m,nG m],ct)] [] (vG (nmF c j),ct) rfl ⟨[],trivial⟩ rfl (λ a ha=>by
  rw [Y0d.mp ha];exact ⟨[nmF c j],B0 110 (Uc m) (Uc m)⟩) (Bw j hj)
theorem jN (H:Hd5 c p1 p2 qs)(hb:jp c blk)(f:Nat)(n:Nat)(b:Bool)(hf:(f=0/\n=p1/\b=false)\/(f=1/\n=1/\b=false)\/(f=2/\n=p2/\b=true))(o:Option Nat)(ho:o=none\/o=some 1)(ps:List G)(h:o.isSome≠b\/ps.length≠n):Bd al qs blk 2 ct (cG (nmF c f) (o.map (nmF c)) ps):=by
 have cal:Cal qs blk (nmF c f) (some (n,b)):=by
  rcases hf with ⟨rfl,rfl,rfl⟩ | ⟨rfl,rfl,rfl⟩ | ⟨rfl,rfl,rfl⟩
  ·exact ⟨jM hb 102 102,H.d0⟩
  ·exact ⟨jM hb 102 102,H.d1⟩
  ·exact ⟨jM hb 102 102,H.d2⟩
 have hn:Hnd qs blk (o.map (nmF c)):=by
  rcases ho with rfl | rfl
  ·trivial
  ·exact .inr H.d1
 have is:(o.map (nmF c)).isSome=o.isSome:=by cases o<;>rfl
 by_cases z:o.isSome=b
 ·exact yI f o ps (.count (some (n,b)) cal hn (by rw [is];exact z) (h.resolve_left λ w=>w z))
 ·exact yI f o ps (.takes (some (n,b)) cal hn (by rw [is];exact z))
noncomputable def goG (m:Int):G:=.nd .go [nG m,nG m]
theorem Js (m:Int)(h:ct.pl≠.cl):Bd al qs blk 3 ct (goG m):=.here ct _ _ rfl (.go _ h)
noncomputable def Z6 (c:Int)(m:Int):List G :=
  [goG m,.nd (.doo (nmF c 6)) [goG m],.nd .guard [goG m,nG m],.nd (.lett (nmF c 0)) [nG m,goG m],cG (nmF c 1) none [goG m],
   .nd (.handle (nmF c 4)) [goG m,nG m],.nd (.handle (nmF c 3)) [nG m,goG m],.nd .ite [nG m,nG m,goG m],
   .nd (.op "+") [nG m,goG m],.nd .ite [goG m,nG m,nG m],.nd (.lett (nmF c 0)) [goG m,nG m]]
theorem z8o (H:Hd5 c p1 p2 qs)(hb:jp c blk)(m:Int)(h:ct.pl=.fr):∀ g∈Z6 c m,Bd al qs blk 3 ct g:=by
 have h':ct.pl≠.cl:=by rw [h];decide
 have he:ct.pl≠.en:=by rw [h];decide
 have g1:∀ a∈[(nG m,ct)],∃ al',Gd al' qs blk a.2 a.1:=λ a ha=>by rw [Y0d.mp ha];exact ⟨[],Uc m⟩
 have g2:∀ a∈[(nG m,ct),(nG m,ct)],∃ al',Gd al' qs blk a.2 a.1:=λ a ha=>by
  have:a=(nG m,ct):=by simpa using ha
  rw [this];exact ⟨[],Uc m⟩
 have g0:∀ a∈([]:List (G×Ct)),∃ al',Gd al' qs blk a.2 a.1:=λ a ha=>by cases ha
 intro g hg;simp only [Z6,Y03,Y0f,or_false] at hg;rcases hg with rfl | rfl | rfl | rfl | rfl | rfl | rfl | rfl | rfl | rfl | rfl
 ·exact Js m h'
 ·exact .kid ct _ _ [] [] (goG m,ct) rfl ⟨[],trivial⟩ rfl g0 (Js m h')
 ·exact .kid ct _ _ [] [(nG m,ct)] (goG m,ct) rfl ⟨[],trivial⟩ rfl g0 (Js m h')
 ·exact .kid ct _ _ [(nG m,ct)] [] (goG m,⟨ct.kn++[nmF c 0],ct.pl⟩) rfl ⟨[nmF c 0],by simp [wS]⟩ rfl g1 (Js m h')
 ·exact .kid ct _ _ [] [] (goG m,ct) rfl ⟨[],⟨wJ c 1,trivial,.inr ⟨jM hb 102 102,false,H.d1,rfl⟩⟩⟩ rfl g0 (Js m h')
 ·exact .kid ct _ _ [] [(nG m,⟨ct.kn,.fr⟩)] (goG m,ct) rfl ⟨[],H.h4,he⟩ rfl g0 (Js m h')
 ·exact .kid ct _ _ [(nG m,ct)] [] (goG m,⟨ct.kn,.fr⟩) rfl ⟨[],H.h3,he⟩ rfl g1 (Js m (λ z=>by cases z))
 ·exact .kid ct _ _ [(nG m,ct),(nG m,ct)] [] (goG m,ct) rfl ⟨[],trivial⟩ rfl g2 (Js m h')
 ·exact .kid ct _ _ [(nG m,ct)] [] (goG m,ct) rfl ⟨[],trivial⟩ rfl g1 (Js m h')
 ·exact .kid ct _ _ [] [(nG m,ct),(nG m,ct)] (goG m,ct) rfl ⟨[],trivial⟩ rfl g0 (Js m h')
 ·exact .kid ct _ _ [] [(nG m,⟨ct.kn++[nmF c 0],ct.pl⟩)] (goG m,ct) rfl ⟨[nmF c 0],by simp [wS]⟩ rfl g0 (Js m h')
theorem By (H:Hd5 c p1 p2 qs)(hb:jp c blk)(m:Int)(j:Nat)(hj:j=3\/j=4)(g:G)(hg:g∈Z6 c m):Bd al qs blk 3 ct (.nd (.handle (nmF c j)) [nG m,g]):=by
 have hh:IsH qs (nmF c j):=by rcases hj with rfl | rfl;exact H.h3;exact H.h4
 by_cases z:ct.pl=.en
 ·exact .here ct _ _ rfl (.hd3 _ _ hh z)
 ·exact .kid ct _ _ [(nG m,ct)] [] (g,⟨ct.kn,.fr⟩) rfl ⟨[],hh,z⟩ rfl (λ a ha=>by rw [Y0d.mp ha];exact ⟨[],Uc m⟩) (z8o H hb m rfl g hg)
end
noncomputable def Ev (cl:101)(ρ:En)(h:Hh)(e:E)(x:D):Prop:=∀ J,∃ K,e.ev cl ρ (h++J)=.ok x (h++J++K)
noncomputable def EvS (cl:101)(ρ:En)(h:Hh)(es:Es)(xs:List D):Prop:=∀ J,∃ K,es.ev cl ρ (h++J)=.ok xs (h++J++K)
noncomputable def EvL (cl:101)(ρ:En)(h:Hh)(e:E)(xs:List D):Prop:=∀ J,∃ n K,e.ev cl ρ (h++J)=.ok (.loc n) (h++J++K)/\(h++J++K)[n]?=some (.lst xs)
section
variable {cl:101}{ρ:En}{h:Hh}{p p1 p2:Pos}{e a b:E}{es:Es}{x:D}{xs ys:List D}
theorem jO (q:∀ H,e.ev cl ρ H=.ok x H):Ev cl ρ h e x:=λ J=>⟨[],by rw [Y0x];exact q _⟩
theorem Jt (z:Str):Ev cl ρ h (.str z p) (.str z):=jO λ _=>rfl
theorem Bz (i:Int):Ev cl ρ h (.int i p) (.int i):=jO λ _=>rfl
theorem BA:Ev cl ρ h (.non p) .non:=jO λ _=>rfl
theorem qR {i:Nat}(q:ρ[i]?=some (some x)):Ev cl ρ h (.var i p) x:=jO λ H=>by rw [Zp,q]
theorem jP:EvS cl ρ h .nil []:=λ J=>⟨[],by rw [Y0x];rfl⟩
theorem zl (q:Ev cl ρ h e x)(r:EvS cl ρ h es xs):EvS cl ρ h (.cons e es) (x::xs):=λ J=>by
 obtain ⟨K,k⟩:=q J;obtain ⟨K2,k2⟩:=r (J++K);rw [<- Y07] at k2;exact ⟨K++K2,by rw [<- Y07];exact bnd k (bnd k2 rfl)⟩
theorem Ju (q:EvS cl ρ h es xs)(hl:xs.length<=1000):Ev cl ρ h (.tup es p) (.tup xs):=λ J=>by
 obtain ⟨K,k⟩:=q J;exact ⟨K,bnd k (if_pos hl)⟩
theorem BB {i nn:Nat}{c:Int}{m:Nat}(q:ρ[i]?=some (some (.loc nn)))(g:h[nn]?=some (.lst ((Nms c m).map .str))){j:Int}(k:Nat)(hk:k<m)(ej:∀ H,b.ev cl ρ H=.ok (.int j) H)(hj:j=(k:Nat)):Ev cl ρ h (.sub (.var i p) b p1) (.str (nmF c k)):=λ J=>⟨[],by
 rw [Y0x];refine bnd (x:=.loc nn) (by rw [Zp,q]) (bnd (ej _) ?_);unfold zC;simp only;rw [zf g,hj];simp only;rw [zY 103]
 have:((Nms c m).map D.str)[((k:Nat):Int).toNat]?=some (.str (nmF c k)):=by
  rw [Y22];unfold Nms;rw [Y0u,Y0u,Y3a hk];rfl
 rw [this]⟩
theorem zI (q:EvS cl ρ h es xs)(hl:xs.length<=1000):EvL cl ρ h (.ofL (.disp es p)) xs:=λ J=>by
 obtain ⟨K,k⟩:=q J;exact ⟨(h++J++K).length,K++[.lst xs],by rw [<- Y07];exact bnd (bnd k (if_pos hl)) rfl,by rw [<- Y07,hx0];rfl⟩
theorem j3 {i n:Nat}(q:ρ[i]?=some (some (.loc n)))(g:h[n]?=some (.lst xs)):EvL cl ρ h (.var i p) xs:=λ J=>⟨n,[],by rw [Y0x,Zp,q],by rw [Y0x];exact zf g⟩
theorem Qn (qa:EvL cl ρ h a xs){m:Nat}(qb:∀ H,b.ev cl ρ H=.ok (.int (m:Nat)) H)(hm:m<=1000)(hl:xs.length<=1000):EvL cl ρ h (.bin .Mult a b p) (List.replicate m xs).flatten:=λ J=>by
 obtain ⟨n,K,k,g⟩:=qa J;refine ⟨(h++J++K).length,K++[.lst (List.replicate m xs).flatten],?_,by rw [<- Y07,hx0];rfl⟩;rw [<- Y07];refine bnd k (bnd (qb _) ?_);show z0n (.loc n) (.int (m:Nat)) (h++J++K)=_;unfold z0n;simp only;rw [g];simp only;rw [if_pos ⟨by omega,by omega,hl⟩,Y22]
theorem Qp (q:EvL cl ρ h e xs):Ev cl ρ h (.tupE e p p1) (.tup xs):=λ J=>by
 obtain ⟨n,K,k,g⟩:=q J;exact ⟨K,wI k (zO g)⟩
theorem z3h (q:EvL cl ρ h a xs){j:Int}(k:Nat)(hk:xs[k]?=some x)(ej:∀ H,b.ev cl ρ H=.ok (.int j) H)(hj:j=(k:Nat)):Ev cl ρ h (.sub a b p) x:=λ J=>by
 obtain ⟨n,K,kk,g⟩:=q J;refine ⟨K,bnd kk (bnd (ej _) ?_)⟩;unfold zC;simp only;rw [g,hj];simp only;rw [zY 103,Y22,hk]
end
theorem BC (n:Nat):(List.replicate n [(nG 1).d]).flatten=G.ds (jG n):=by
 rw [we,jG,List.map_replicate];simp
noncomputable def EvF (cl:101)(ρ:En)(h:Hh)(e:E)(xs:List D):Prop:=∀ J,∃ n K,e.ev cl ρ (h++J)=.ok (.loc n) (h++J++K)/\(h++J++K)[n]?=some (.lst xs)/\(h++J).length<=n
theorem jd {cl:101}{ρ:En}{h:Hh}{p:Pos}{a b:E}{xs ys:List D}(qa:EvL cl ρ h a xs)(qb:EvL cl ρ h b ys)(hl:xs.length+ys.length<=1000000):EvF cl ρ h (.bin .Add a b p) (xs++ys):=λ J=>by
 obtain ⟨n,K,k,g⟩:=qa J;obtain ⟨m,K2,k2,g2⟩:=qb (J++K);rw [<- Y07] at k2 g2;refine ⟨(h++J++K++K2).length,K++K2++[.lst (xs++ys)],?_,by rw [<- Y07,<- Y07,hx0];rfl,by simp⟩;rw [<- Y07,<- Y07];refine bnd k (bnd k2 ?_);rw [bin_addl,zf g,g2];exact if_pos hl
abbrev Nn (c:Int)(nn:Nat)(h:Hh):Prop:=h[nn]?=some (.lst ((Nms c 14).map .str))
noncomputable def pn0 (ρ:En)(e:E):Option Nat:=match e with
 | .var i _=>match ρ[i]? with
  | some (some (.int (.ofNat m)))=>some m
  | _=>none
 | .sub (.var i _) (.int (.ofNat k) _) _=>match ρ[i]? with
  | some (some (.tup xs))=>match xs[k]? with
   | some (.int (.ofNat m))=>some m
   | _=>none
  | _=>none
 | _=>none
noncomputable def pn (ρ:En)(e:E):Option Nat:=match e with
 | .bin .Add a (.int (.ofNat 1) _) _=>(pn0 ρ a).map λ m=>m+1
 | _=>pn0 ρ e
noncomputable def pu1 (ρ:En)(i0:Nat)(c:Int)(f:Es->Option (List D×List (Nat×D)))(e:E):Option (D×List (Nat×D)):=match e with
 | .str z _=>some (.str z,[])
 | .int i _=>some (.int i,[])
 | .non _=>some (.non,[])
 | .var i _=>match ρ[i]? with
  | some (some x)=>some (x,[])
  | _=>none
 | .tup es _=>match f es with
  | some (xs,ms)=>if Nat.ble xs.length 1000 then some (.tup xs,ms) else none
  | none=>none
 | .sub (.var i _) (.int (.ofNat k) _) _=>if i==i0&&k.blt 14 then some (.str (nmF c k),[]) else none
 | .tupE (.bin .Mult (.ofL (.disp (.cons (.var i _) .nil) _)) k _) _ _=>match ρ[i]?,pn ρ k with
  | some (some x),some m=>some (.tup (G.ds (jG m)),[(m,x)])
  | _,_=>none
 | _=>none
noncomputable def pus (ρ:En)(i0:Nat)(c:Int):Nat->Es->Option (List D×List (Nat×D))
 | 0,_=>none
 | _+1,.nil=>some ([],[])
 | n+1,.cons e r=>(pu1 ρ i0 c (pus ρ i0 c n) e).bind λ x=>(pus ρ i0 c n r).map λ y=>(x.1::y.1,x.2++y.2)
section
variable {cl:101}{ρ:En}{h:Hh}{c:Int}{i0 nn:Nat}
theorem z3i {e:E}{m:Nat}(q:pn0 ρ e=some m)(H:Hh):e.ev cl ρ H=.ok (.int (m:Nat)) H:=by
 unfold pn0 at q;split at q
 ·split at q
  ·rename_i a;cases q;rw [Zp,a];rfl
  ·cases q
 ·split at q
  ·rename_i a;split at q
   ·rename_i b;cases q;refine bnd (by rw [Zp,a]) (bnd rfl ?_);rw [sub_tup]
    erw [PI.atI_nat,b]
    rfl
   ·cases q
  ·cases q
 ·cases q
theorem zae {e:E}{m:Nat}(q:pn ρ e=some m)(H:Hh):e.ev cl ρ H=.ok (.int (m:Nat)) H:=by
 unfold pn at q;split at q
 ·obtain ⟨k,hk,rfl⟩:=Y1i.mp q;exact bnd (z3i hk H) 112
 ·exact z3i q H
abbrev Msk (ms:List (Nat×D)):Prop:=∀ q∈ms,q.1<=1000/\q.2=(nG 1).d
theorem Yf (q:ρ[i0]?=some (some (.loc nn)))(g:Nn c nn h):∀ (n:Nat) (es:Es) (xs:List D) (ms:List (Nat×D)),pus ρ i0 c n es=some (xs,ms)->Msk ms->EvS cl ρ h es xs
 | 0,_,_,_,e,_=>by rw [pus] at e;cases e
 | _+1,.nil,xs,_,e,_=>by
  rw [pus] at e;cases e;exact jP
 | n+1,.cons e r,xs,ms,he,hm=>by
  rw [pus] at he;obtain ⟨⟨x,m1⟩,hx,he⟩:=Y2b.mp he;obtain ⟨⟨ys,m2⟩,hy,e3⟩:=Y1i.mp he;cases e3;refine zl ?_ (Yf q g n r ys m2 hy λ z hz=>hm z (Y0p.mpr (.inr hz)));have hn:Msk m1:=λ z hz=>hm z (Y0p.mpr (.inl hz));unfold pu1 at hx;split at hx
  ·cases hx;exact Jt _
  ·cases hx;exact Bz _
  ·cases hx;exact BA
  ·split at hx
   ·rename_i hv;cases hx;exact qR hv
   ·cases hx
  ·split at hx
   ·rename_i xs ms hp;split at hx
    ·rename_i hl;cases hx;exact Ju (Yf q g n _ _ _ hp hn) (Y01 hl)
    ·cases hx
   ·cases hx
  ·split at hx
   ·rename_i i _ k _ _ hc;cases hx;simp only [Y0c,beq_iff_eq] at hc;obtain ⟨rfl,hc⟩:=hc;exact BB q g k (Y0o (Y25 _) (Y01 hc)) (λ _=>rfl) rfl
   ·cases hx
  ·split at hx
   ·rename_i m hv hp;cases hx;obtain ⟨a,b⟩:=hn _ (Y0d.mpr rfl);refine Qp ?_;rw [<- BC,<- b];exact Qn (zI (zl (qR hv) jP) 110) (zae hp) a 110
   ·cases hx
  ·cases hx
theorem wD (q:ρ[i0]?=some (some (.loc nn)))(g:Nn c nn h){es:Es}{xs:List D}{ms:List (Nat×D)}(e:pus ρ i0 c 40 es=some (xs,ms))(hm:Msk ms):EvS cl ρ h es xs:=Yf q g 40 es xs ms e hm
theorem wG (q:ρ[i0]?=some (some (.loc nn)))(g:Nn c nn h){es:Es}{xs:List D}(e:pus ρ i0 c 40 es=some (xs,[])):EvS cl ρ h es xs:=Yf q g 40 es xs [] e λ _ z=>nomatch z
theorem z3j (q:ρ[i0]?=some (some (.loc nn)))(g:Nn c nn h){e:E}{x:D}{ms:List (Nat×D)}(w:pus ρ i0 c 40 (.cons e .nil)=some ([x],ms))(hm:Msk ms):Ev cl ρ h e x:=λ J=>by
 obtain ⟨K,k⟩:=Yf q g 40 _ _ _ w hm J;obtain ⟨y,h',k1,k2⟩:∃ y h',e.ev cl ρ (h++J)=.ok y h'/\Res.ok [y] h'=Res.ok [x] (h++J++K):=by
  cases z:e.ev cl ρ (h++J) with
  | ok y h'=>exact ⟨y,h',rfl,(bnd z 112).symm.trans k⟩
  | _ =>
   have:Es.ev cl (.cons e .nil) ρ (h++J)=(e.ev cl ρ (h++J)).bind λ y h2=>(Es.ev cl .nil ρ h2).bind λ ys h3=>.ok (y::ys) h3:=rfl
   rw [this,z] at k;cases k
 cases k2;exact ⟨K,k1⟩
theorem qt (q:ρ[i0]?=some (some (.loc nn)))(g:Nn c nn h){e:E}{x:D}(w:pus ρ i0 c 40 (.cons e .nil)=some ([x],[])):Ev cl ρ h e x:=z3j q g w λ _ z=>nomatch z
noncomputable def Kp (h H:Hh):Prop:=∀ (m:Nat) (o:PI.O),h[m]?=some o->H[m]?=some o
noncomputable def Ko (n:Nat)(h H:Hh):Prop:=∀ (m:Nat) (o:PI.O),m≠n->h[m]?=some o->H[m]?=some o
theorem Kp.r (h:Hh):Kp h h:=λ _ _ z=>z
theorem Kp.t {a b d:Hh}(p:Kp a b)(q:Kp b d):Kp a d:=λ m o z=>q m o (p m o z)
theorem Kp.o {a b d:Hh}{n:Nat}(p:Kp a b)(q:Ko n b d)(hn:a.length<=n):Kp a d:=λ m o z=>q m o (by have:=(Y02.mp z).1;omega) (p m o z)
theorem Kp.len {h H:Hh}(k:Kp h H):h.length<=H.length:=by
 apply Nat.le_of_not_lt;intro y
 have:=k H.length _ (Y0b y)
 rw [Y1l (Y0a _)] at this;cases this
theorem Nn.ne {n:Nat}(g:Nn c nn h)(l:h.length<=n):nn≠n:=by have:=(Y02.mp g).1;omega
noncomputable def RtP (cl:101)(r:Ss)(ρ:En)(h:Hh)(Q:D->Hh->Prop):Prop:=∃ d h',Ss.run cl r ρ h=.rt d h'/\Q d h'
variable {e:E}{x d:D}{xs:List D}{i n:Nat}{r:Ss}{p p1 p2 p3:Pos}{Q:D->Hh->Prop}
theorem Qq (q:Ev cl ρ h e x)(k:∀ H,Kp h H->RtP cl r (ρ.set i (some x)) H Q):RtP cl (.cons (.set i e p1 p) r) ρ h Q:=by
 obtain ⟨K,kk⟩:=q [];rw [Y0x] at kk;obtain ⟨d,h',k,w⟩:=k (h++K) (λ m o z=>zf z);exact ⟨d,h',zb kk k,w⟩
theorem qr (q:EvF cl ρ h e xs)(k:∀ H n,Kp h H->H[n]?=some (.lst xs)->h.length<=n->RtP cl r (ρ.set i (some (.loc n))) H Q):RtP cl (.cons (.set i e p1 p) r) ρ h Q:=by
 obtain ⟨n,K,kk,g,l⟩:=q [];rw [Y0x] at kk g l;obtain ⟨d,h',k,w⟩:=k (h++K) n (λ m o z=>zf z) g l;exact ⟨d,h',zb kk k,w⟩
theorem BD (q:Ev cl ρ h e d)(w:∀ H,Kp h H->Q d H):RtP cl (.cons (.ret e p) r) ρ h Q:=by
 obtain ⟨K,k⟩:=q [];rw [Y0x] at k;exact ⟨_,_,zk k,w _ λ m o z=>zf z⟩
theorem j5 {es:Es}(q:EvS cl ρ h es xs)(hl:xs.length<=1000):EvF cl ρ h (.ofL (.disp es p)) xs:=λ J=>by
 obtain ⟨K,k⟩:=q J;exact ⟨(h++J++K).length,K++[.lst xs],by rw [<- Y07];exact bnd (bnd k (if_pos hl)) rfl,by rw [<- Y07,hx0];rfl,by simp⟩
theorem z3k {n:Nat}{made:List D}{H:Hh}(g:H[n]?=some (.lst made))(hl:made.length<=900)(x:D):m1D .append (.loc n) x H=.ok .non (H.set n (.lst (made++[x]))):=by
 unfold m1D;simp only;rw [g];simp only;rw [if_pos 103]
theorem Jv (w:ρ[i]?=some (some (.loc n)))(g:h[n]?=some (.lst xs))(q:Ev cl ρ h e x)(hl:xs.length<=900)(k:∀ H,H[n]?=some (.lst (xs++[x]))->Ko n h H->RtP cl r ρ H Q):RtP cl (.cons (.ex (.m1 .append (.var i p) e p1 p2) p3) r) ρ h Q:=by
 obtain ⟨K,kk⟩:=q [];rw [Y0x] at kk;have g':(h++K)[n]?=some (.lst xs):=zf g;obtain ⟨d,h',k,w'⟩:=k ((h++K).set n (.lst (xs++[x]))) (Y0r (Y02.mp g').1) (λ m o hm z=>by rw [Y0h (Ne.symm hm)];exact zf z);exact ⟨d,h',je (bnd (x:=.loc n) (by rw [Zp,w]) ((qI g _).trans (bnd kk (z3k g' hl x)))) k,w'⟩
noncomputable def z2f:Ss->Ss->Ss
 | .nil,r=>r
 | .cons s a,r=>.cons s (z2f a r)
theorem Vk:∀ (a r:Ss) (ρ:En) (h:Hh),Ss.run cl (z2f a r) ρ h=j8 (a.run cl ρ h) λ ρ' h'=>r.run cl ρ' h'
 | .nil,r,ρ,h=>rfl
 | .cons s a,r,ρ,h=>by
  show j8 (s.run cl ρ h) (λ ρ' h'=>(z2f a r).run cl ρ' h')=j8 (j8 (s.run cl ρ h) λ ρ' h'=>a.run cl ρ' h') _;cases s.run cl ρ h with
  | nx ρ' h'=>exact Vk a r ρ' h'
  | _=>rfl
theorem Qr {c:E}{a b:Ss}{h':Hh}(hc:c.evT cl ρ h=.ok true h')(k:RtP cl (z2f a r) ρ h' Q):RtP cl (.cons (.iff c a b p) r) ρ h Q:=by
 obtain ⟨d,h2,k,w⟩:=k;exact ⟨d,h2,(US hc).trans ((Vk a r ρ h').symm.trans k),w⟩
theorem qS {c:E}{a:Ss}{h':Hh}(hc:c.evT cl ρ h=.ok false h')(k:RtP cl r ρ h' Q):RtP cl (.cons (.iff c a .nil p) r) ρ h Q:=by
 obtain ⟨d,h2,k,w⟩:=k;exact ⟨d,h2,za hc k,w⟩
end
noncomputable def zaf:S->E
 | .set _ e _ _=>e
 | _=>.non ⟨0,0,0,0⟩
theorem Qu {v:Int}{xs:List G}(hl:0<xs.length):∃ (i:Nat) (t:G),v%(xs.length:Int)=(i:Int)/\xs[i]?=some t/\(xs.map G.d)[i]?=some t.d:=by
 have a:=Y18 v (b:=(xs.length:Int)) 103;have b:=Y17 v (b:=(xs.length:Int)) 103;obtain ⟨t,ht⟩:∃ t,xs[(v%(xs.length:Int)).toNat]?=some t:=⟨_,Y0b 103⟩;exact ⟨_,t,by omega,ht,by rw [Y0u,ht];rfl⟩
theorem Ud {n:Nat}{xs:List G}{H:Hh}(g:H[n]?=some (.lst (xs.map G.d))):yh (.loc n) H=.ok (.int (xs.length:Nat)) H:=by rw [len_loc,zO g];simp
theorem Ue {cl:101}{ρ:En}{h:Hh}{a b:E}{p:Pos}{n:Nat}{xs:List D}{x:D}{j:Int}(q:∀ H,Kp h H->a.ev cl ρ H=.ok (.loc n) H)(g:h[n]?=some (.lst xs))(k:Nat)(hk:xs[k]?=some x)(ej:∀ H,Kp h H->b.ev cl ρ H=.ok (.int j) H)(hj:j=(k:Nat)):Ev cl ρ h (.sub a b p) x:=λ J=>by
 have w:Kp h (h++J):=λ m o z=>zf z;refine ⟨[],bnd (q _ w) (bnd (ej _ w) ?_)⟩;rw [Y0x];unfold zC;simp only;rw [w _ _ g,hj];simp only;rw [zY 103,Y22,hk]
theorem BE (cl:101)(c v:Int)(nn:Nat)(h:Hh)(g:Nn c nn h) :
  ∃ j m t h',(j=3\/j=4)/\t∈Z6 c m/\d_law_goless.run cl [.int v,.loc nn] h=.ok (G.nd (.handle (nmF c j)) [nG m,t]).d h'/\Kp h h':=by
 obtain ⟨m,hm⟩:∃ m,m=v%7:=117;obtain ⟨j,hj⟩:∃ j:Nat,(j:Int)=3+v/7%2/\(j=3\/j=4):=⟨(3+v/7%2).toNat,by omega,by omega⟩;obtain ⟨i,t,hi,ht,ii⟩:=Qu (v:=v/14) (xs:=Z6 c m) (by simp [Z6]);have R:RtP cl d_law_goless.body [some (.int v),some (.loc nn),none,none,none] h λ d h'=>d=(G.nd (.handle (nmF c j)) [nG m,t]).d/\Kp h h':=by
  refine Qq (x:=(nG m).d) (jO λ H=>by rw [hm];exact bnd (bnd rfl (bnd (bnd (bnd rfl (bnd rfl mdk)) 112) rfl)) rfl) λ H1 w1=>?_;refine Qq (x:=(goG m).d) (jO λ H=>rfl) λ H2 w2=>?_;have k2:=w1.t w2;refine qr (xs:=((Z6 c m).take 5).map G.d) (j5 (wG (i0:=1) rfl (k2 _ _ g) rfl) (Y01 rfl)) λ H3 n3 w3 e3 _=>?_;have k3:=k2.t w3;refine qr (xs:=((Z6 c m).take 8).map G.d) (jd (j3 rfl e3) (zI (wG (i0:=1) rfl (k3 _ _ g) rfl) (Y01 rfl)) (by simp [Z6])) λ H4 n4 w4 e4 _=>?_;have k4:=k3.t w4;refine qr (xs:=(Z6 c m).map G.d) (jd (j3 rfl e4) (zI (wG (i0:=1) rfl (k4 _ _ g) rfl) (Y01 rfl)) (by simp [Z6])) λ H5 n5 w5 e5 _=>?_;have k5:=k4.t w5;exact BD (Ju (zl (Jt _) (zl (BB rfl (k5 _ _ g) j 103 (λ _=>bnd rfl (bnd (bnd 109 (bnd rfl mdk)) rfl)) hj.1.symm) (zl (qR rfl) (zl (z3h (j3 rfl e5) i ii (λ _=>bnd 109 (bnd rfl mdk)) hi) jP)))) (Y01 rfl)) λ H w=>⟨rfl,k5.t w⟩
 obtain ⟨_,h',R,rfl,w⟩:=R;exact ⟨j,m,t,h',hj.2,Y0y ht,ze R,w⟩
noncomputable def wY (c:Int)(p1 p2:Nat):List G :=
 [cG (nmF c 1) none [],cG (nmF c 1) none [nG 1,nG 1],cG (nmF c 1) (some (nmF c 1)) [nG 1],cG (nmF c 2) none (jG p2),cG (nmF c 2) (some (nmF c 1)) (jG (p2+1)),cG (nmF c 0) none (jG (p1+1)),cG (nmF c 0) (some (nmF c 1)) (jG p1)]
theorem z3l {c:Int}{p1 p2:Nat}{qs:108}{al:XU}{blk:XX}{ct:Ct}(H:Hd5 c p1 p2 qs)(hb:jp c blk):(∀ g∈wY c p1 p2,Bd al qs blk 2 ct g)/\(0<p1->Bd al qs blk 2 ct (cG (nmF c 0) none (jG (p1-1)))):=by
 constructor
 ·intro g hg;simp only [wY,Y03,Y0f,or_false] at hg;rcases hg with rfl | rfl | rfl | rfl | rfl | rfl | rfl
  ·exact jN H hb 1 1 false (.inr (.inl ⟨rfl,rfl,rfl⟩)) none (.inl rfl) [] (.inr 110)
  ·exact jN H hb 1 1 false (.inr (.inl ⟨rfl,rfl,rfl⟩)) none (.inl rfl) _ (.inr 110)
  ·exact jN H hb 1 1 false (.inr (.inl ⟨rfl,rfl,rfl⟩)) (some 1) (.inr rfl) _ (.inl 110)
  ·exact jN H hb 2 p2 true (.inr (.inr ⟨rfl,rfl,rfl⟩)) none (.inl rfl) _ (.inl 110)
  ·exact jN H hb 2 p2 true (.inr (.inr ⟨rfl,rfl,rfl⟩)) (some 1) (.inr rfl) _ (.inr (by simp [jG]))
  ·exact jN H hb 0 p1 false (.inl ⟨rfl,rfl,rfl⟩) none (.inl rfl) _ (.inr (by simp [jG]))
  ·exact jN H hb 0 p1 false (.inl ⟨rfl,rfl,rfl⟩) (some 1) (.inr rfl) _ (.inl 110)
 ·intro h;exact jN H hb 0 p1 false (.inl ⟨rfl,rfl,rfl⟩) none (.inl rfl) _ (.inr (by simp [jG];omega))
theorem Yg (cl:101)(c v:Int)(p1 p2 nn:Nat)(h1:p1<=2)(h2:p2<=2)(h:Hh)(g:Nn c nn h) :
  ∃ (t:G) (h':Hh),(t∈wY c p1 p2\/(0<p1/\t=cG (nmF c 0) none (jG (p1-1))))/\d_law_countless.run cl [.int v,.loc nn,plD nn p1 p2] h=.ok t.d h'/\Kp h h':=by
 have R:RtP cl d_law_countless.body [some (.int v),some (.loc nn),some (plD nn p1 p2),none,none] h λ d h'=>∃ t:G,d=t.d/\(t∈wY c p1 p2\/(0<p1/\t=cG (nmF c 0) none (jG (p1-1))))/\Kp h h':=by
  refine Qq (x:=(nG 1).d) (jO λ H=>rfl) λ H1 k1=>?_;refine qr (xs:=((wY c p1 p2).take 3).map G.d) (j5 (wG (i0:=1) rfl (k1 _ _ g) rfl) (Y01 rfl)) λ H2 n2 w2 e2 _=>?_;have k2:=k1.t w2;refine qr (xs:=((wY c p1 p2).take 4).map G.d) (jd (j3 rfl e2) (zI (wD (i0:=1) rfl (k2 _ _ g) rfl 121) (Y01 rfl)) (by simp [wY])) λ H3 n3 w3 e3 _=>?_;have k3:=k2.t w3;refine qr (xs:=((wY c p1 p2).take 5).map G.d) (jd (j3 rfl e3) (zI (wD (i0:=1) rfl (k3 _ _ g) rfl 121) (Y01 rfl)) (by simp [wY])) λ H4 n4 w4 e4 _=>?_;have k4:=k3.t w4;refine qr (xs:=((wY c p1 p2).take 6).map G.d) (jd (j3 rfl e4) (zI (wD (i0:=1) rfl (k4 _ _ g) rfl 121) (Y01 rfl)) (by simp [wY])) λ H5 n5 w5 e5 _=>?_;have k5:=k4.t w5;refine qr (xs:=(wY c p1 p2).map G.d) (jd (j3 rfl e5) (zI (wD (i0:=1) rfl (k5 _ _ g) rfl 121) (Y01 rfl)) (by simp [wY])) λ H6 n w6 e6 l6=>?_;have k6:=k5.t w6;have fin:∀ (xs:List G) (X:Hh),0<xs.length->X[n]?=some (.lst (xs.map G.d))->Kp h X->(∀ t∈xs,t∈wY c p1 p2\/(0<p1/\t=cG (nmF c 0) none (jG (p1-1))))->RtP cl (zH 7 d_law_countless.body) [some (.int v),some (.loc nn),some (plD nn p1 p2),some (nG 1).d,some (.loc n)] X λ d h'=>∃ t:G,d=t.d/\(t∈wY c p1 p2\/(0<p1/\t=cG (nmF c 0) none (jG (p1-1))))/\Kp h h':=by
   intro xs X hl gx kx hx;obtain ⟨i,t,hi,ht,ii⟩:=Qu (v:=v) hl;exact BD (Ue (λ _ _=>rfl) gx i ii (λ H w=>bnd rfl (bnd (bnd rfl (Ud (w _ _ gx))) (mdk 103))) hi) λ H w=>⟨t,rfl,hx t (Y0y ht),kx.t w⟩
  by_cases z:0<p1
  ·have ct:zy .Gt (.int (p1:Nat)) (.int 0) H6=.ok (.bl true) H6:=by rw [cmp_gt];congr 2;exact decide_eq_true 103
   refine Qr (z4 rfl rfl ct) (Jv (x:=(cG (nmF c 0) none (jG (p1-1))).d) rfl e6 (Ju (zl (Jt _) (zl (qt (i0:=1) rfl (k6 _ _ g) rfl) (zl BA (zl (Qp (by rw [<- BC (p1-1)];exact Qn (zI (zl (qR rfl) jP) (Y01 rfl)) (λ X=>bnd rfl (bnd rfl (show Res.ok (D.int ((p1:Int)-1)) X=Res.ok (D.int ((p1-1:Nat):Int)) X by congr 2;omega))) 103 (Y01 rfl))) jP)))) (Y01 rfl)) (by simp [wY]) λ H7 e7 w7=>?_);refine fin (wY c p1 p2++[cG (nmF c 0) none (jG (p1-1))]) H7 110 (by rw [e7,Y0w];rfl) (k6.o w7 (Y0j k5.len l6)) λ t ht=>?_;rcases Y0p.mp ht with ht | ht
   ·exact .inl ht
   ·exact .inr ⟨z,Y0d.mp ht⟩
  ·have cf:zy .Gt (.int (p1:Nat)) (.int 0) H6=.ok (.bl false) H6:=by rw [cmp_gt];congr 2;exact decide_eq_false 103
   exact qS (z4 rfl rfl cf) (fin _ H6 (by simp [wY]) e6 k6 λ t ht=>.inl ht)
 obtain ⟨_,h',R,t,rfl,ht,w⟩:=R;exact ⟨t,h',ht,ze R,w⟩
noncomputable def nlG (c:Int)(p2:Nat):List G :=
  [vG (nmF c 12),cG (nmF c 12) none [],cG (nmF c 3) none [nG 1],cG (nmF c 2) (some (nmF c 12)) (jG p2),cG (nmF c 2) (some (nmF c 2)) (jG p2),cG (nmF c 2) (some (nmF c 4)) (jG p2),
   .nd (.handle (nmF c 12)) [nG 1,nG 1],.nd (.handle (nmF c 0)) [nG 1,nG 1],.nd (.lett (nmF c 12)) [vG (nmF c 12),nG 1],.nd (.op "+") [.nd (.lett (nmF c 12)) [nG 1,nG 1],vG (nmF c 12)],
   cG (nmF c 1) (some (nmF c 13)) [],cG (nmF c 13) (some (nmF c 1)) []]
theorem zag {c:Int}{p1 p2:Nat}{qs:108}{al:XU}{blk:XX}{ct:Ct}(H:Hd5 c p1 p2 qs)(hb:jp c blk)(hk:nmF c 12∉ct.kn):∀ g∈nlG c p2,Bd al qs blk 1 ct g:=by
 intro g hg;simp only [nlG,Y03,Y0f,or_false] at hg;rcases hg with rfl | rfl | rfl | rfl | rfl | rfl | rfl | rfl | rfl | rfl | rfl | rfl
 ·exact Bw 12 hk
 ·exact Qk H hb 12 103 none []
 ·exact Qk H hb 3 103 none _
 ·exact y6 H hb 2 103 12 103 _
 ·exact y6 H hb 2 103 2 103 _
 ·exact y6 H hb 2 103 4 103 _
 ·exact Bx H 12 103 _ _
 ·exact Bx H 0 103 _ _
 ·exact z8n 12 hk _
 ·exact z2e 12 hk 1
 ·exact y6 H hb 1 103 13 103 _
 ·exact Qk H hb 13 103 (some 1) []
noncomputable def NlT (c:Int)(p1 p2:Nat)(t:G):Prop:=t∈nlG c p2\/(p1≠1/\t=cG (nmF c 2) (some (nmF c 0)) (jG p2))
theorem Uf (cl:101)(c v:Int)(p1 p2 nn:Nat)(h2:p2<=2)(h:Hh)(g:Nn c nn h) :
  ∃ (t:G) (h':Hh),NlT c p1 p2 t/\d_law_nameless.run cl [.int v,.loc nn,plD nn p1 p2] h=.ok t.d h'/\Kp h h':=by
 have R:RtP cl d_law_nameless.body [some (.int v),some (.loc nn),some (plD nn p1 p2),none,none] h λ d h'=>∃ t:G,d=t.d/\NlT c p1 p2 t/\Kp h h':=by
  refine Qq (x:=(nG 1).d) (jO λ H=>rfl) λ H1 k1=>?_;refine qr (xs:=((nlG c p2).take 3).map G.d) (j5 (wG (i0:=1) rfl (k1 _ _ g) rfl) (Y01 rfl)) λ H2 n2 w2 e2 _=>?_;have k2:=k1.t w2;refine qr (xs:=((nlG c p2).take 4).map G.d) (jd (j3 rfl e2) (zI (wD (i0:=1) rfl (k2 _ _ g) rfl 121) (Y01 rfl)) (Y01 rfl)) λ H3 n3 w3 e3 l3=>?_;have k3:=k2.t w3;refine qr (xs:=((nlG c p2).take 5).map G.d) (jd (j3 rfl e3) (zI (wD (i0:=1) rfl (k3 _ _ g) rfl 121) (Y01 rfl)) (Y01 rfl)) λ H4 n4 w4 e4 l4=>?_;have k4:=k3.t w4;refine qr (xs:=((nlG c p2).take 6).map G.d) (jd (j3 rfl e4) (zI (wD (i0:=1) rfl (k4 _ _ g) rfl 121) (Y01 rfl)) (Y01 rfl)) λ H5 n5 w5 e5 l5=>?_;have k5:=k4.t w5;refine qr (xs:=((nlG c p2).take 8).map G.d) (jd (j3 rfl e5) (zI (wD (i0:=1) rfl (k5 _ _ g) rfl 110) (Y01 rfl)) (Y01 rfl)) λ H6 n6 w6 e6 l6=>?_;have k6:=k5.t w6;refine qr (xs:=((nlG c p2).take 9).map G.d) (jd (j3 rfl e6) (zI (wD (i0:=1) rfl (k6 _ _ g) rfl 110) (Y01 rfl)) (Y01 rfl)) λ H7 n7 w7 e7 l7=>?_;have k7:=k6.t w7;refine qr (xs:=((nlG c p2).take 10).map G.d) (jd (j3 rfl e7) (zI (wD (i0:=1) rfl (k7 _ _ g) rfl 110) (Y01 rfl)) (Y01 rfl)) λ H8 n8 w8 e8 l8=>?_;have k8:=k7.t w8;refine qr (xs:=((nlG c p2).take 12).map G.d) (jd (j3 rfl e8) (zI (wD (i0:=1) rfl (k8 _ _ g) rfl 110) (Y01 rfl)) (Y01 rfl)) λ H9 n9 w9 e9 l9=>?_;have k9:=k8.t w9;have fin:∀ (xs:List G) (X:Hh),0<xs.length->X[n9]?=some (.lst (xs.map G.d))->Kp h X->(∀ t∈xs,NlT c p1 p2 t)->RtP cl (zH 10 d_law_nameless.body) [some (.int v),some (.loc nn),some (plD nn p1 p2),some (nG 1).d,some (.loc n9)] X λ d h'=>∃ t:G,d=t.d/\NlT c p1 p2 t/\Kp h h':=by
   intro xs X hl gx kx hx;obtain ⟨i,t,hi,ht,ii⟩:=Qu (v:=v) hl;exact BD (Ue (λ _ _=>rfl) gx i ii (λ H w=>bnd rfl (bnd (bnd rfl (Ud (w _ _ gx))) (mdk 103))) hi) λ H w=>⟨t,rfl,hx t (Y0y ht),kx.t w⟩
  have cn:∀ b,(!(((p1:Nat):Int)==1))=b->zy .NotEq (.int (p1:Nat)) (.int 1) H9=.ok (.bl b) H9:=λ b hb=>hb▸neI;by_cases z:p1=1
  ·exact qS (z4 rfl rfl (cn false (by rw [z];rfl))) (fin (nlG c p2) H9 (by simp [nlG]) e9 k9 λ t ht=>.inl ht)
  ·refine Qr (z4 rfl rfl (cn true (by rw [Y2e,beq_eq_false_iff_ne];omega))) (Jv (x:=(cG (nmF c 2) (some (nmF c 0)) (jG p2)).d) rfl e9 (z3j (i0:=1) rfl (k9 _ _ g) rfl 121) (Y01 rfl) λ H e w=>?_);refine fin (nlG c p2++[cG (nmF c 2) (some (nmF c 0)) (jG p2)]) H 110 (by rw [e,Y0w];rfl) (k9.o w (Y0j k8.len l9)) λ t ht=>?_;rcases Y0p.mp ht with ht | ht
   ·exact .inl ht
   ·exact .inr ⟨z,Y0d.mp ht⟩
 obtain ⟨_,h',R,t,rfl,ht,w⟩:=R;exact ⟨t,h',ht,ze R,w⟩
end K19
set_option maxRecDepth 10000
namespace K19
open PySem L2 PI
theorem Ws:∀ n:Nat,G.sizes (jG n)=n
 | 0=>rfl
 | n+1=>by
  have:=Ws n
  unfold jG at this ⊢;rw [Y19,G.sizes,this];simp [nG,G.size,G.sizes];omega
theorem c_z (f:Str)(o:XX)(n:Nat)(hn:n<=3):(cG f o (jG n)).size<=10000/\(cG f o (jG n)).dp<=4:=by
 unfold cG;rw [G.size,Ws,G.dp]
 have:=U2 (n:=1) (gs:=jG n) λ g hg=>by rw [List.eq_of_mem_replicate hg];simp [nG,G.dp,G.dps]
 exact ⟨by omega,by omega⟩
theorem z8p {c:Int}{p2:Nat}(h2:p2<=2):∀ g∈nlG c p2,g.size<=10000/\g.dp<=4:=by
 intro g hg;simp only [nlG,Y03,Y0f,or_false] at hg;rcases hg with rfl | rfl | rfl | rfl | rfl | rfl | rfl | rfl | rfl | rfl | rfl | rfl<;>first | exact c_z _ _ _ 103 | simp [G.size,G.sizes,G.dp,G.dps,cG,vG,nG]
theorem z6e {c:Int}{p1 p2:Nat}(h1:p1<=2)(h2:p2<=2):∀ g∈wY c p1 p2,g.size<=10000/\g.dp<=4:=by
 intro g hg;simp only [wY,Y03,Y0f,or_false] at hg;rcases hg with rfl | rfl | rfl | rfl | rfl | rfl | rfl<;>first | exact c_z _ _ _ 103 | simp [G.size,G.sizes,G.dp,G.dps,cG,vG,nG]
theorem z6f {c m:Int}:∀ g∈Z6 c m,g.size<=1000/\g.dp<=3:=by
 intro g hg;simp only [Z6,Y03,Y0f,or_false] at hg;rcases hg with rfl | rfl | rfl | rfl | rfl | rfl | rfl | rfl | rfl | rfl | rfl<;>simp [G.size,G.sizes,G.dp,G.dps,cG,vG,nG,goG]
noncomputable def Wr (c:Int)(p1 p2:Nat)(e:Nat)(t:G):Prop:=(t.size<=10000/\t.dp<=4)/\∀ {qs:108}{al:XU}{blk:XX}{ct:Ct},Hd5 c p1 p2 qs->jp c blk->nmF c 12∉ct.kn->Bd al qs blk e ct t
theorem z2g (k:Nat)(c v:Int)(p1 p2 nn:Nat)(h1:p1<=2)(h2:p2<=2)(h:Hh)(g:Nn c nn h)(kd:Int)(hk:kd=0\/kd=1\/kd=2) :
  ∃ (t:G) (h':Hh),callI defs (k+2) 33 [.int kd,.int v,.loc nn,plD nn p1 p2] h=.ok t.d h'/\Kp h h'/\Wr c p1 p2 (kd+1).toNat t:=by
 rcases hk with rfl | rfl | rfl
 ·obtain ⟨t,h',ht,e,old⟩:=Uf (callI defs k) c v p1 p2 nn h2 h g;refine ⟨t,h',(z5 (d:=jV) rfl rfl).trans (ze (ji (z4 rfl rfl rfl) (zk (bnd rfl (bnd rfl ((z5 (d:=d_law_nameless) rfl rfl).trans e)))))),old,?_,?_⟩
  ·rcases ht with ht | ⟨_,rfl⟩
   ·exact z8p h2 t ht
   ·exact c_z _ _ _ 103
  ·intro qs al blk ct H hb hkn;rcases ht with ht | ⟨z,rfl⟩
   ·exact zag H hb hkn t ht
   ·exact y6 H hb 2 103 0 103 _
 ·obtain ⟨t,h',ht,e,old⟩:=Yg (callI defs k) c v p1 p2 nn h1 h2 h g;refine ⟨t,h',(z5 (d:=jV) rfl rfl).trans (ze (za (z4 rfl rfl rfl) (ji (z4 rfl rfl rfl) (zk (bnd rfl (bnd rfl ((z5 (d:=d_law_countless) rfl rfl).trans e))))))),old,?_,?_⟩
  ·rcases ht with ht | ⟨_,rfl⟩
   ·exact z6e h1 h2 t ht
   ·exact c_z _ _ _ 103
  ·intro qs al blk ct H hb hkn;rcases ht with ht | ⟨z,rfl⟩
   ·exact (z3l H hb).1 t ht
   ·exact (z3l H hb).2 z
 ·obtain ⟨j,m,t,h',hj,ht,e,w⟩:=BE (callI defs k) c v nn h g;refine ⟨_,h',(z5 (d:=jV) rfl rfl).trans (ze (za (z4 rfl rfl rfl) (za (z4 rfl rfl rfl) (zk (bnd rfl (bnd rfl ((z5 (d:=d_law_goless) rfl rfl).trans e))))))),w,?_,?_⟩
  ·have:=z6f t ht
   rw [G.size,G.sizes,G.sizes,G.sizes,G.dp,G.dps,G.dps,G.dps];simp [nG,G.size,G.sizes,G.dp,G.dps];omega
  ·intro qs al blk ct H hb _;exact By H hb m j hj t ht
noncomputable def PrG (c:Int)(p1 p2:Nat)(is:List Itm):Prop:=p1<=2/\p2<=2/\∃ M v,Five c p1 p2 v M/\is.Perm M
inductive Kn (c:Int):Itm->Prop
 | f0 (f ps g):f<3->Kn c (.fn (nmF c f) ps none g)
 | f2 (f ps g):f<3->Kn c (.fn (nmF c f) ps (some (nmF c 9)) g)
 | h (j cs x s g):j=3\/j=4->Kn c (.hd (nmF c j) cs x s g)
theorem BF (c:Int)(j:Nat)(hj:j<12):nmF c j∈Nm c:=Y0e.mpr ⟨j,Y1a.mpr hj,rfl⟩
theorem BG (c:Int)(j:Nat)(hj:12<=j)(hl:j<14):nmF c j∉Nm c:=λ h=>by
 obtain ⟨k,hk,e⟩:=Y0e.mp h
 have:=Y1a.mp hk
 exact ja c 103 hl 103 e
section
variable {c:Int}{p1 p2:Nat}{is:List Itm}
theorem Vl (P:PrG c p1 p2 is):(is.map Itm.nm).Perm [nmF c 0,nmF c 1,nmF c 2,nmF c 3,nmF c 4]:=by
 obtain ⟨_,_,M,v,F,pm⟩:=P;rw [<- (V7 F).1];exact pm.map _
theorem BH (P:PrG c p1 p2 is):is.length=5:=by
 obtain ⟨_,_,M,v,F,pm⟩:=P;exact pm.length_eq.trans (V7 F).2
theorem nd5 (c:Int):[nmF c 0,nmF c 1,nmF c 2,nmF c 3,nmF c 4].Nodup:=by
 have hh:([0,1,2,3,4].map (nmF c)).Nodup:=by
  rw [List.nodup_iff_pairwise_ne,List.pairwise_map]
  have:[0,1,2,3,4].Pairwise (λ a b=>a≠b/\a<14/\b<14):=by decide
  exact this.imp λ {a b} h=>ja c h.2.1 h.2.2 h.1
 exact hh
theorem BI (P:PrG c p1 p2 is):(is.map Itm.nm).Nodup:=(Vl P).nodup_iff.mpr (nd5 c)
theorem Vm (P:PrG c p1 p2 is)(j:Nat)(h5:5<=j)(hj:j<14):nmF c j∉is.map Itm.nm:=by
 rw [(Vl P).mem_iff];simp only [Y03,Y0f,or_false,not_or];exact ⟨ja c hj 102 103,ja c hj 102 103,ja c hj 102 103,ja c hj 102 103,ja c hj 102 103⟩
theorem Vn (P:PrG c p1 p2 is){pr:List Itm}(hs:∀ i∈is,i∈pr)(h9:nmF c 9∉pr.map Itm.nm):∀ i∈is,i.good (Nm c) (zV pr):=by
 obtain ⟨h1,h2,M,v,F,pm⟩:=P;exact λ i hi=>Gf h1 h2 F (λ i hi=>hs i (pm.mem_iff.mpr hi)) h9 i (pm.mem_iff.mp hi)
theorem yJ (P:PrG c p1 p2 is):∀ i∈is,i.good (Nm c) (zV is):=Vn P (λ _ h=>h) (Vm P 9 102 102)
structure Hd4 (c:Int)(p1 p2:Nat)(qs:108):Prop where
 d0:IsD qs (nmF c 0) p1 false
 d1:IsD qs (nmF c 1) 1 false
 d2:IsD qs (nmF c 2) p2 true
 h3:IsH qs (nmF c 3)
 h4:IsH qs (nmF c 4)
theorem z8q (P:PrG c p1 p2 is){pr:List Itm}(hs:∀ i∈is,i∈pr):Hd4 c p1 p2 (zV pr):=by
 obtain ⟨h1,h2,M,v,F,pm⟩:=P;have hd:=z87 F (λ i hi=>hs i (pm.mem_iff.mpr hi));have hh:=z88 F (λ i hi=>hs i (pm.mem_iff.mpr hi));exact ⟨hd _ _ _ (z81 c p1 p2),hd _ _ _ (z5q c p1 p2),hd _ _ _ (z82 c p1 p2),hh _ (OY c p1 p2 3 (.inl rfl)),hh _ (OY c p1 p2 4 (.inr rfl))⟩
theorem BJ (P:PrG c p1 p2 is){js:List Itm}(h:js.map Itm.hdOf=is.map Itm.hdOf):Hd5 c p1 p2 (zV js):=by
 have q:=z8q P (λ _ h=>h);exact ⟨y0 h.symm q.d0,y0 h.symm q.d1,y0 h.symm q.d2,Z4 h.symm q.h3,Z4 h.symm q.h4,λ j h5 hj=>by rw [Q2,yH h];exact Vm P j h5 hj⟩
theorem Qw {nm:Str}{dn:XU}{i:Itm}(h:HdG c p1 p2 nm dn i):i.al (Nm c)/\i.blk=none/\0<lvI i/\∃ cs x s g,i=.hd nm cs x s g:=by
 obtain ⟨cs,x,s,e,rfl,e1,e2,e3,g,rfl⟩:=h;refine ⟨⟨λ q hq=>⟨(e2 q hq).xa,(e2 q hq).sa⟩,e3.xa,e3.sa⟩,rfl,?_,_,_,_,_,rfl⟩;rw [Qc]
 have:0<lv (.nd (.op "-") [.nd (.var x) [],g]):=by
  rw [lv,if_neg (by simp [Kd.isLf]),lvs,lv,if_pos (show (Kd.var x).isLf=true from rfl)];omega
 omega
theorem z2h {v:Int}{M:List Itm}(F:Five c p1 p2 v M):∀ i∈M,i.al (Nm c)/\jp c i.blk/\Kn c i:=by
 obtain ⟨g0,g1,g2,i3,i4,rfl,_,_,_,h3,h4⟩:=F.ex;intro i hi;simp only [Y03,Y0f,or_false] at hi;rcases hi with rfl | rfl | rfl | rfl | rfl
 ·refine ⟨λ x hx=>?_,.inl rfl,.f0 _ _ _ 102⟩;obtain ⟨k,_,rfl⟩:=Y0e.mp hx;exact BF c _ 103
 ·refine ⟨λ x hx=>?_,.inl rfl,.f0 _ _ _ 102⟩;rw [Y0d.mp hx];exact BF c _ 103
 ·refine ⟨λ x hx=>?_,.inr rfl,.f2 _ _ _ 102⟩;obtain ⟨k,_,rfl⟩:=Y0e.mp hx;exact BF c _ 103
 ·obtain ⟨a,b,_,cs,x,s,g,rfl⟩:=Qw h3;exact ⟨a,.inl b,.h 3 _ _ _ _ (.inl rfl)⟩
 ·obtain ⟨a,b,_,cs,x,s,g,rfl⟩:=Qw h4;exact ⟨a,.inl b,.h 4 _ _ _ _ (.inr rfl)⟩
theorem Vo (P:PrG c p1 p2 is):∀ i∈is,i.al (Nm c)/\jp c i.blk/\Kn c i:=by
 obtain ⟨h1,h2,M,v,F,pm⟩:=P;exact λ i hi=>z2h F i (pm.mem_iff.mp hi)
end
noncomputable def WrB (c:Int)(p1 p2:Nat)(e:Nat)(t:G):Prop:=t.size<=50000/\∀ {qs:108}{al:XU}{blk:XX}{ct:Ct},Hd5 c p1 p2 qs->jp c blk->nmF c 12∉ct.kn->Bd al qs blk e ct t
theorem Zi {c:Int}{p1 p2:Nat}{is:List Itm}(P:PrG c p1 p2 is){e:Nat}{t:G}(W:WrB c p1 p2 e t)(l:Int)(h0:0<=l)(h1:l<lvA is):PrX e (spA t is l).1 :=
 Gm is (BI P) (yJ P) (λ i hi=>(Vo P i hi).1) W.1 (λ js h i hi ct hk=>W.2 (BJ P h) (Vo P i hi).2.1 (λ z=>BG c 12 102 102 (hk _ z))) l h0 h1
theorem z6g {c:Int}{p1 p2:Nat}{is:List Itm}(P:PrG c p1 p2 is){e e2:Nat}{t t2:G}(W:Wr c p1 p2 e t)(W2:Wr c p1 p2 e2 t2)(l l2:Int)(h0:0<=l)(h1:l<lvA is)(h2:l<l2):PrX e (spA t (spA t2 is l2).1 l).1 :=
 Ye t2 is (BI P) (yJ P) (λ i hi=>(Vo P i hi).1) (Y0j W.1.1 102) (Y0j W2.1.1 102) (λ js h i hi ct hk=>W.2 (BJ P h) (Vo P i hi).2.1 (λ z=>BG c 12 102 102 (hk _ z))) l l2 h0 h1 h2
section
variable {cl:101}{ρ:En}{h:Hh}{e e1 e2:E}{x:D}{xs ys y1 y2:List D}{i n:Nat}{r:Ss}{p p1 p2 p3:Pos}{Q:D->Hh->Prop}
theorem qT {h1:Hh}(q:e.ev cl ρ h=.ok x h1)(k:RtP cl r (ρ.set i (some x)) h1 Q):RtP cl (.cons (.set i e p1 p) r) ρ h Q:=by
 obtain ⟨d,h',k,w⟩:=k;exact ⟨d,h',zb q k,w⟩
theorem BK {h1:Hh}(q:e.ev cl ρ h=.ok x h1)(w:Q x h1):RtP cl (.cons (.ret e p) r) ρ h Q:=⟨_,_,zk q,w⟩
theorem Yh (w:ρ[i]?=some (some (.loc n)))(g:h[n]?=some (.lst xs))(q:EvF cl ρ h e ys)(hl:xs.length<=900)(k:∀ H m,H[m]?=some (.lst ys)->m≠n->H[n]?=some (.lst (xs++[.loc m]))->Ko n h H->RtP cl r ρ H Q):RtP cl (.cons (.ex (.m1 .append (.var i p) e p1 p2) p3) r) ρ h Q:=by
 obtain ⟨m,K,kk,gm,lm⟩:=q [];rw [Y0x] at kk gm lm;have lt:=(Y02.mp g).1;have g':(h++K)[n]?=some (.lst xs):=zf g;obtain ⟨d,h',k,w'⟩:=k ((h++K).set n (.lst (xs++[.loc m]))) m (by rw [Y0h 103];exact gm) 103 (Y0r (Y02.mp g').1) (λ m o hm z=>by rw [Y0h (Ne.symm hm)];exact zf z);exact ⟨d,h',je (bnd (x:=.loc n) (by rw [Zp,w]) ((qI g _).trans (bnd kk (z3k g' hl _)))) k,w'⟩
theorem z6h (q1:EvF cl ρ h e1 y1)(q2:EvF cl ρ h e2 y2)(k:∀ H n m1 m2,Kp h H->H[n]?=some (.lst [.loc m1,.loc m2])->H[m1]?=some (.lst y1)->H[m2]?=some (.lst y2)->m1≠n->m2≠n->h.length<=n->RtP cl r (ρ.set i (some (.loc n))) H Q):RtP cl (.cons (.set i (.ofL (.disp (.cons e1 (.cons e2 .nil)) p2)) p1 p) r) ρ h Q:=by
 obtain ⟨m1,K1,k1,g1,l1⟩:=q1 [];rw [Y0x] at k1 g1 l1;obtain ⟨m2,K2,k2,g2,l2⟩:=q2 K1;have a1:=(Y02.mp g1).1;have a2:=(Y02.mp g2).1;obtain ⟨d,h',k,w⟩:=k (h++K1++K2++[.lst [.loc m1,.loc m2]]) (h++K1++K2).length m1 m2 (λ m o z=>zf (zf (zf z))) (by rw [hx0];rfl) (zf (zf g1)) (zf g2) (by rw [Y0k] at a1 ⊢;rw [Y0k];omega) 103 (by rw [Y0k,Y0k];omega);exact ⟨d,h',zb (bnd (bnd (bnd k1 (bnd (bnd k2 112) rfl)) (if_pos (Y01 rfl))) rfl) k,w⟩
end
theorem z3m {n k:Nat}{xs:List D}{H:Hh}{x:D}{i:Int}(g:H[n]?=some (.lst xs))(hi:i=(k:Int))(e:xs[k]?=some x):zC (.loc n) (.int i) H=.ok x H:=by
 unfold zC;simp only;rw [g,hi];simp only;rw [zY 103,Y22,e]
noncomputable def C33 (cl:101)(c:Int)(p1 p2 nn:Nat):Prop:=∀ (kd v:Int) (h:Hh),(kd=0\/kd=1\/kd=2)->Nn c nn h->∃ (t:G) (h':Hh),cl 33 [.int kd,.int v,.loc nn,plD nn p1 p2] h=.ok t.d h'/\Kp h h'/\Wr c p1 p2 (kd+1).toNat t
noncomputable def Jw (c:Int)(a b:G):List G:=[.nd (.op "-") [a,b],.nd (.lett (nmF c 12)) [a,b],.nd .ite [a,b,nG 2],.nd .ite [nG 2,a,b],.nd .guard [a,b],.nd (.doo (nmF c 7)) [.nd (.op "<") [a,b]]]
noncomputable def Vp (c:Int)(p1:Nat)(a b t:G):Prop:=t∈Jw c a b\/(1<p1/\t=cG (nmF c 0) none [a,b])
theorem BL {c:Int}{p1 p2:Nat}(h1:p1<=2){e e2:Nat}{a b t:G}(A:Wr c p1 p2 e a)(B:Wr c p1 p2 e2 b)(ht:Vp c p1 a b t):WrB c p1 p2 e t:=by
 have sa:=A.1.1;have sb:=B.1.1;constructor
 ·rcases ht with ht | ⟨_,rfl⟩
  ·simp only [Jw,Y03,Y0f,or_false] at ht;rcases ht with rfl | rfl | rfl | rfl | rfl | rfl<;>simp [G.size,G.sizes,nG]<;>omega
  ·simp [cG,G.size,G.sizes];omega
 ·intro qs al blk ct H hb hk;have ba:Bd al qs blk e ct a:=A.2 H hb hk;have g0:∀ a∈([]:List (G×Ct)),∃ al',Gd al' qs blk a.2 a.1:=λ a ha=>by cases ha
  have g1:∀ a∈[(nG 2,ct)],∃ al',Gd al' qs blk a.2 a.1:=λ a ha=>by rw [Y0d.mp ha];exact ⟨[],Uc 2⟩
  rcases ht with ht | ⟨z,rfl⟩
  ·simp only [Jw,Y03,Y0f,or_false] at ht;rcases ht with rfl | rfl | rfl | rfl | rfl | rfl
   ·exact .kid ct _ _ [] [(b,ct)] (a,ct) rfl ⟨[],trivial⟩ rfl g0 ba
   ·exact .kid ct _ _ [] [(b,⟨ct.kn++[nmF c 12],ct.pl⟩)] (a,ct) rfl ⟨[nmF c 12],by simp [wS]⟩ rfl g0 ba
   ·exact .kid ct _ _ [] [(b,ct),(nG 2,ct)] (a,ct) rfl ⟨[],trivial⟩ rfl g0 ba
   ·exact .kid ct _ _ [(nG 2,ct)] [(b,ct)] (a,ct) rfl ⟨[],trivial⟩ rfl g1 ba
   ·exact .kid ct _ _ [] [(b,ct)] (a,ct) rfl ⟨[],trivial⟩ rfl g0 ba
   ·exact .kid ct _ _ [] [] (.nd (.op "<") [a,b],ct) rfl ⟨[],trivial⟩ rfl g0 (.kid ct _ _ [] [(b,ct)] (a,ct) rfl ⟨[],trivial⟩ rfl g0 ba)
  ·have p12:p1=2:=by omega
   have d0:=H.d0;rw [p12] at d0;exact .kid ct _ _ [] [(b,ct)] (a,ct) rfl ⟨[],⟨wJ c 0,trivial,.inr ⟨jM hb 102 102,false,d0,rfl⟩⟩⟩ rfl g0 ba
theorem z6i (cl:101)(c v:Int)(p1 p2 nn nk:Nat)(h1:p1<=2)(c33:C33 cl c p1 p2 nn)(k0 k1:Int)(hk0:k0=0\/k0=1\/k0=2)(hk1:k1=0\/k1=1\/k1=2)(h:Hh)(g:Nn c nn h)(gk:h[nk]?=some (.lst [.int k0,.int k1])) :
  ∃ (t:G) (h':Hh),WrB c p1 p2 (k0+1).toNat t/\d_law_both.run cl [.loc nk,.int v,.loc nn,plD nn p1 p2] h=.ok t.d h'/\Kp h h':=by
 obtain ⟨a,H1,q1,k1',A⟩:=c33 k0 (v/7) h hk0 g;obtain ⟨b,H2,q2,w2,B⟩:=c33 k1 (v/11) H1 hk1 (k1' _ _ g);have k2:=k1'.t w2;have s0:zC (.loc nk) (.int 0) h=.ok (.int k0) h:=by unfold zC;simp only;rw [gk];rfl
 have s1:zC (.loc nk) (.int 1) H1=.ok (.int k1) H1:=by unfold zC;simp only;rw [k1' _ _ gk];rfl
 have R:RtP cl d_law_both.body [some (.loc nk),some (.int v),some (.loc nn),some (plD nn p1 p2),none,none,none,none] h λ d h'=>∃ t:G,d=t.d/\Vp c p1 a b t/\Kp h h':=by
  refine qT (bnd (bnd rfl (bnd rfl s0)) (bnd (bnd 109 112) q1)) (qT (bnd (bnd rfl (bnd rfl s1)) (bnd (bnd 109 112) q2)) ?_);refine Qq (x:=(nG 2).d) (jO λ H=>rfl) λ H3 w3=>?_;have k3:=k2.t w3;refine qr (xs:=((Jw c a b).take 3).map G.d) (j5 (wG (i0:=2) rfl (k3 _ _ g) rfl) (Y01 rfl)) λ H4 n4 w4 e4 _=>?_;have k4:=k3.t w4;refine qr (xs:=(Jw c a b).map G.d) (jd (j3 rfl e4) (zI (wG (i0:=2) rfl (k4 _ _ g) rfl) (Y01 rfl)) (Y01 rfl)) λ H5 n5 w5 e5 l5=>?_;have k5:=k4.t w5;have fin:∀ (xs:List G) (X:Hh),0<xs.length->X[n5]?=some (.lst (xs.map G.d))->Kp h X->(∀ t∈xs,Vp c p1 a b t)->RtP cl (zH 6 d_law_both.body) [some (.loc nk),some (.int v),some (.loc nn),some (plD nn p1 p2),some a.d,some b.d,some (nG 2).d,some (.loc n5)] X λ d h'=>∃ t:G,d=t.d/\Vp c p1 a b t/\Kp h h':=by
   intro xs X hl gx kx hx;obtain ⟨i,t,hi,ht,ii⟩:=Qu (v:=v) hl;exact BD (Ue (λ _ _=>rfl) gx i ii (λ H w=>bnd rfl (bnd (bnd rfl (Ud (w _ _ gx))) (mdk 103))) hi) λ H w=>⟨t,rfl,hx t (Y0y ht),kx.t w⟩
  by_cases z:1<p1
  ·have ct:zy .Gt (.int (p1:Nat)) (.int 1) H5=.ok (.bl true) H5:=by rw [cmp_gt];congr 2;exact decide_eq_true 103
   refine Qr (z4 rfl rfl ct) (Jv (x:=(cG (nmF c 0) none [a,b]).d) rfl e5 (qt (i0:=2) rfl (k5 _ _ g) rfl) (Y01 rfl) λ H e w=>?_);refine fin (Jw c a b++[cG (nmF c 0) none [a,b]]) H 110 (by rw [e,Y0w];rfl) (k5.o w (Y0j k4.len l5)) λ t ht=>?_;rcases Y0p.mp ht with ht | ht
   ·exact .inl ht
   ·exact .inr ⟨z,Y0d.mp ht⟩
  ·have cf:zy .Gt (.int (p1:Nat)) (.int 1) H5=.ok (.bl false) H5:=by rw [cmp_gt];congr 2;exact decide_eq_false 103
   exact qS (z4 rfl rfl cf) (fin _ H5 (by simp [Jw]) e5 k5 λ t ht=>.inl ht)
 obtain ⟨_,h',R,t,rfl,ht,w⟩:=R;exact ⟨t,h',BL h1 A B ht,ze R,w⟩
theorem z6j (n:Nat)(t:G):(List.replicate n [t.d]).flatten=G.ds (List.replicate n t):=by
 rw [we,List.map_replicate];simp
theorem Wt (t:G):∀ n:Nat,G.sizes (List.replicate n t)=n*t.size
 | 0=>by rw [List.replicate_zero,G.sizes];omega
 | n+1=>by rw [Y19,G.sizes,Wt t n,Nat.add_mul];omega
noncomputable def ahG (c:Int)(p2:Nat)(a b d:G):List (G×Int) :=
  [(cG (nmF c 12) none [a],0),(.nd (.handle (nmF c 12)) [a,nG 2],0),(.nd (.handle (nmF c 1)) [nG 2,a],0),(cG (nmF c 2) (some (nmF c 12)) (List.replicate (p2+1) a),0),
   (cG (nmF c 1) none [b,nG 2],1),(cG (nmF c 1) (some (nmF c 1)) [b],1),(.nd (.handle (nmF c 4)) [nG 2,.nd .go [d,nG 2]],2)]
theorem z6k {c:Int}{p1 p2:Nat}(h2:p2<=2){ea eb ed:Nat}{a b d:G}(A:Wr c p1 p2 ea a)(B:Wr c p1 p2 eb b)(E:Wr c p1 p2 ed d):∀ q∈ahG c p2 a b d,WrB c p1 p2 (q.2+1).toNat q.1/\(q.2=0\/q.2=1\/q.2=2):=by
 have sa:=A.1.1;have sb:=B.1.1;have sd:=E.1.1;intro q hq;simp only [ahG,Y03,Y0f,or_false] at hq;rcases hq with rfl | rfl | rfl | rfl | rfl | rfl | rfl
 ·exact ⟨⟨by simp [cG,G.size,G.sizes];omega,λ H hb _=>Qk H hb 12 103 none _⟩,by simp⟩
 ·exact ⟨⟨by simp [nG,G.size,G.sizes];omega,λ H hb _=>Bx H 12 103 _ _⟩,by simp⟩
 ·exact ⟨⟨by simp [nG,G.size,G.sizes];omega,λ H hb _=>.here _ _ _ rfl (.hd1 _ _ (by
   obtain ⟨ps,bd,bo,hm,_⟩:=H.d1;exact .inr ⟨ps,bd,bo,hm⟩) (wX c 1))⟩,by simp⟩
 ·refine ⟨⟨?_,λ H hb _=>y6 H hb 2 103 12 103 _⟩,by simp⟩;show (cG _ _ _).size<=_;unfold cG;rw [G.size,Wt]
  have:(p2+1)*a.size<=3*a.size:=Nat.mul_le_mul_right _ 103
  omega
 ·exact ⟨⟨by simp [cG,nG,G.size,G.sizes];omega,λ H hb _=>jN H hb 1 1 false (.inr (.inl ⟨rfl,rfl,rfl⟩)) none (.inl rfl) _ (.inr 110)⟩,by simp⟩
 ·exact ⟨⟨by simp [cG,G.size,G.sizes];omega,λ H hb _=>jN H hb 1 1 false (.inr (.inl ⟨rfl,rfl,rfl⟩)) (some 1) (.inr rfl) _ (.inl 110)⟩,by simp⟩
 ·refine ⟨⟨by simp [nG,G.size,G.sizes];omega,λ {qs al blk ct} H hb _=>?_⟩,by simp⟩;by_cases z:ct.pl=.en
  ·exact .here ct _ _ rfl (.hd3 _ _ H.h4 z)
  ·exact .kid ct _ _ [(nG 2,ct)] [] (.nd .go [d,nG 2],⟨ct.kn,.fr⟩) rfl ⟨[],H.h4,z⟩ rfl (λ x hx=>by rw [Y0d.mp hx];exact ⟨[],Uc 2⟩) (.here _ _ _ rfl (.go _ (λ z=>by cases z)))
noncomputable def Rw (n:Nat)(H:Hh)(xs:List D)(ts:List (G×Int)):Prop:=xs.length=ts.length/\∀ (i:Nat) (q:G×Int),ts[i]?=some q->∃ m,xs[i]?=some (.loc m)/\m≠n/\H[m]?=some (.lst [q.1.d,.int q.2])
theorem Rw.ko {n:Nat}{H H':Hh}{xs:List D}{ts:List (G×Int)}(r:Rw n H xs ts)(k:Ko n H H'):Rw n H' xs ts:=⟨r.1,λ i q hq=>by
 obtain ⟨m,a,b,d⟩:=r.2 i q hq;exact ⟨m,a,b,k _ _ b d⟩⟩
theorem Rw.snoc {n m:Nat}{H:Hh}{xs:List D}{ts:List (G×Int)}{t:G}{e:Int}(r:Rw n H xs ts)(hm:m≠n)(g:H[m]?=some (.lst [t.d,.int e])):Rw n H (xs++[.loc m]) (ts++[(t,e)]):=by
 refine ⟨by simp [r.1],λ i q hq=>?_⟩;by_cases z:i<ts.length
 ·rw [Y12 z] at hq;rw [Y12 (by rw [r.1];exact z)];exact r.2 i q hq
 ·rw [Y0m 103] at hq;rw [Y0m (by rw [r.1];omega),r.1]
  match hi:i-ts.length,hq with
  | 0,hq =>
   cases hq;exact ⟨m,rfl,hm,g⟩
  | k+1,hq=>cases hq
theorem z2i (cl:101)(c v:Int)(p1 p2 nn:Nat)(h2:p2<=2)(c33:C33 cl c p1 p2 nn)(h:Hh)(g:Nn c nn h) :
  ∃ (t:G) (d:Int) (m:Nat) (h':Hh),WrB c p1 p2 (d+1).toNat t/\(d=0\/d=1\/d=2)/\d_law_ahead.run cl [.int v,.loc nn,plD nn p1 p2] h=.ok (.loc m) h'/\h'[m]?=some (.lst [t.d,.int d]):=by
 obtain ⟨b2,hb2,hb⟩:∃ b2:Int,b2=v/7%2/\(b2=0\/b2=1):=⟨_,rfl,by omega⟩;obtain ⟨a,H1,q1,k1,A⟩:=c33 (1+b2) (v/14) h 103 g;obtain ⟨ko,hko,hko2⟩:∃ ko:Int,([.int 0,.int 2]:List D)[b2.toNat]?=some (.int ko)/\(ko=0\/ko=1\/ko=2):=by
  rcases hb with rfl | rfl
  ·exact ⟨0,rfl,by omega⟩
  ·exact ⟨2,rfl,by omega⟩
 have k1':Kp h (H1++[.lst [.int 0,.int 2]]):=k1.t λ m o z=>zf z;obtain ⟨b,H2,q2,w2,B⟩:=c33 ko (v/14) _ hko2 (k1' _ _ g);have k2:=k1'.t w2;obtain ⟨d,H3,q3,w3,E⟩:=c33 b2 (v/14) H2 103 (k2 _ _ g);have k3:=k2.t w3;have m7:∀ h,zw .Mod (.int (v/7)) (.int 2) h=.ok (.int b2) h:=λ h=>hb2▸mdk 102;have sk:zC (.loc H1.length) (.int b2) (H1++[.lst [.int 0,.int 2]])=.ok (.int ko) (H1++[.lst [.int 0,.int 2]]):=z3m (k:=b2.toNat) (by rw [hx0];rfl) 103 hko;obtain ⟨i,hi⟩:∃ i:Nat,v%7=(i:Int)/\i<7:=⟨(v%7).toNat,by omega,by omega⟩;obtain ⟨q,hq⟩:∃ q,(ahG c p2 a b d)[i]?=some q:=⟨_,Y0b hi.2⟩;have R:RtP cl d_law_ahead.body [some (.int v),some (.loc nn),some (plD nn p1 p2),none,none,none,none,none] h λ x h'=>∃ m,x=.loc m/\h'[m]?=some (.lst [q.1.d,.int q.2]):=by
  refine qT (x:=(nG 2).d) (h1:=h) rfl (qT (bnd (bnd rfl (bnd (bnd 109 (bnd rfl (m7 _))) rfl)) (bnd (bnd 109 112) q1)) (qT (bnd (bnd (x:=.loc H1.length) rfl (bnd (bnd 109 (bnd rfl (m7 _))) sk)) (bnd (bnd 109 112) q2)) (qT (bnd (bnd 109 (bnd rfl (m7 _))) (bnd (bnd 109 112) q3)) ?_)));have g3:=k3 _ _ g;refine z6h (y1:=[(cG (nmF c 12) none [a]).d,.int 0]) (y2:=[(G.nd (.handle (nmF c 12)) [a,nG 2]).d,.int 0]) (j5 (wG (i0:=1) rfl g3 rfl) (Y01 rfl)) (j5 (wG (i0:=1) rfl g3 rfl) (Y01 rfl)) λ H4 n m1 m2 w4 e4 f1 f2 n1 n2 l4=>?_;have nn4:=Nn.ne g3 l4;have g4:=w4 _ _ g3;have r4:Rw n H4 ([.loc m1]++[.loc m2]) ([(cG (nmF c 12) none [a],0)]++[(.nd (.handle (nmF c 12)) [a,nG 2],0)]):=Rw.snoc (Rw.snoc (xs:=[]) (ts:=[]) ⟨rfl,λ i q hq=>by cases hq⟩ n1 f1) n2 f2;refine Yh (ys:=[(G.nd (.handle (nmF c 1)) [nG 2,a]).d,.int 0]) rfl e4 (j5 (wG (i0:=1) rfl g4 rfl) (Y01 rfl)) (Y01 rfl) λ H5 m5 f5 n5 e5 w5=>?_;have g5:=w5 _ _ nn4 g4;have r5:=Rw.snoc (r4.ko w5) n5 f5;refine Yh (ys:=[(cG (nmF c 2) (some (nmF c 12)) (List.replicate (p2+1) a)).d,.int 0]) rfl e5 (j5 (zl (Ju (zl (Jt _) (zl (qt (i0:=1) rfl g5 rfl) (zl (qt (i0:=1) rfl g5 rfl) (zl (Qp (by rw [<- z6j (p2+1) a];exact Qn (zI (zl (qR rfl) jP) (Y01 rfl)) (λ X=>bnd rfl 112) 103 (Y01 rfl))) jP)))) (Y01 rfl)) (zl (Bz _) jP)) (Y01 rfl)) (Y01 rfl) λ H6 m6 f6 n6 e6 w6=>?_;have g6:=w6 _ _ nn4 g5;have r6:=Rw.snoc (r5.ko w6) n6 f6;refine Yh (ys:=[(cG (nmF c 1) none [b,nG 2]).d,.int 1]) rfl e6 (j5 (wG (i0:=1) rfl g6 rfl) (Y01 rfl)) (Y01 rfl) λ H7 m7' f7 n7 e7 w7=>?_;have g7:=w7 _ _ nn4 g6;have r7:=Rw.snoc (r6.ko w7) n7 f7;refine Yh (ys:=[(cG (nmF c 1) (some (nmF c 1)) [b]).d,.int 1]) rfl e7 (j5 (wG (i0:=1) rfl g7 rfl) (Y01 rfl)) (Y01 rfl) λ H8 m8 f8 n8 e8 w8=>?_;have g8:=w8 _ _ nn4 g7;have r8:=Rw.snoc (r7.ko w8) n8 f8;refine Yh (ys:=[(G.nd (.handle (nmF c 4)) [nG 2,.nd .go [d,nG 2]]).d,.int 2]) rfl e8 (j5 (wG (i0:=1) rfl g8 rfl) (Y01 rfl)) (Y01 rfl) λ H9 m9 f9 n9 e9 w9=>?_;have r9:=Rw.snoc (r8.ko w9) n9 f9;obtain ⟨m,a1,_,a3⟩:=r9.2 i q hq;exact BK (bnd rfl (bnd (bnd rfl (bnd rfl mdk)) (z3m e9 hi.1 a1))) ⟨m,rfl,a3⟩
 obtain ⟨_,h',R,m,rfl,w⟩:=R;obtain ⟨W,dd⟩:=z6k h2 A B E q (Y0y hq);exact ⟨q.1,q.2,m,h',W,dd,ze R,w⟩
noncomputable def yk (c:Int)(w:G)(x:Nat):List Itm :=
  [.fn (nmF c 10) [nmF c 11,nmF c 5,nmF c 11] none w,
   .fn (nmF c 10) [nmF c 11] (some (nmF c x)) w,
   .hd (nmF c 10) [⟨nmF c 6,nmF c 0,nmF c 1,w⟩,⟨nmF c 7,nmF c 1,nmF c 0,nG 1⟩,⟨nmF c 6,nmF c 0,nmF c 1,w⟩] (nmF c 2) (nmF c 0) (nG 1),
   .hd (nmF c 10) [⟨nmF c 7,nmF c 5,nmF c 5,w⟩] (nmF c 2) (nmF c 0) (nG 1),
   .hd (nmF c 10) [] (nmF c 5) (nmF c 5) w]
theorem BM {c:Int}{w:G}{x:Nat}(hx:x<5){qs:108}(hm:∃ d,(nmF c x,d)∈qs):∀ i∈yk c w x,ItX (Nm c) qs 1 i:=by
 intro i hi;have sh:∀ (ks:List Nat),∀ x∈ks.map (nmF c),Sh1 x:=λ ks x hx=>by
  obtain ⟨k,_,rfl⟩:=Y0e.mp hx;exact wX c k
 simp only [yk,Y03,Y0f,or_false] at hi;rcases hi with rfl | rfl | rfl | rfl | rfl
 ·exact .twice _ _ _ _ rfl 110 110 (sh [11,5,11])
 ·exact .block _ _ _ _ rfl (by simp;exact ja c 102 103 103) 110 (wX c x) hm
 ·exact .deeds _ _ _ _ _ rfl 110 110 (λ q hq=>by
   simp only [Y03,Y0f,or_false] at hq;rcases hq with rfl | rfl | rfl
   ·exact wX c 6
   ·exact wX c 7
   ·exact wX c 6)
 ·exact .clause _ [] ⟨nmF c 7,nmF c 5,nmF c 5,w⟩ [] _ _ _ 110 110 (λ a ha=>by cases ha) (.same (wX c 5) rfl)
 ·exact .end _ _ _ _ _ 110 110 (λ a ha=>by cases ha) (.same (wX c 5) rfl)
theorem z6l {c:Int}{w:G}{x:Nat}{i:Itm}(hi:i∈yk c w x):i.nm=nmF c 10:=by
 simp only [yk,Y03,Y0f,or_false] at hi;rcases hi with rfl | rfl | rfl | rfl | rfl<;>rfl
theorem z6m (cl:101)(c v:Int)(w:G)(nn:Nat)(h:Hh)(g:Nn c nn h) :
  ∃ (i:Itm) (x:Nat) (h':Hh),x<5/\i∈yk c w x/\d_law_more.run cl [.loc nn,w.d,.int v] h=.ok i.d h'/\Kp h h':=by
 obtain ⟨x,hx⟩:∃ x:Nat,v%5=(x:Int)/\x<5:=⟨(v%5).toNat,by omega,by omega⟩;obtain ⟨k,hk⟩:∃ k:Nat,v/5%5=(k:Int)/\k<5:=⟨(v/5%5).toNat,by omega,by omega⟩;obtain ⟨i,hi⟩:∃ i,(yk c w x)[k]?=some i:=⟨_,Y0b hk.2⟩;have id':((yk c w x).map Itm.d)[k]?=some i.d:=by rw [Y0u,hi];rfl
 have R:RtP cl d_law_more.body [some (.loc nn),some w.d,some (.int v),none,none,none,none,none] h λ d h'=>d=i.d/\Kp h h':=by
  refine Qq (x:=.str (nmF c 10)) (qt (i0:=0) rfl g rfl) λ H1 k1=>?_;refine Qq (x:=(nG 1).d) (qt (i0:=0) rfl (k1 _ _ g) rfl) λ H2 w2=>?_;have k2:=k1.t w2;refine Qq (x:=(Cl.mk (nmF c 6) (nmF c 0) (nmF c 1) w).D) (qt (i0:=0) rfl (k2 _ _ g) rfl) λ H3 w3=>?_;have k3:=k2.t w3;refine Qq (x:=yC (nmF c 2) (nmF c 0) (nG 1)) (qt (i0:=0) rfl (k3 _ _ g) rfl) λ H4 w4=>?_;have k4:=k3.t w4;have g4:=k4 _ _ g;refine qr (xs:=((yk c w x).take 1).map Itm.d) (j5 (wG (i0:=0) rfl g4 rfl) (Y01 rfl)) λ H6 n w6 e6 l6=>?_;have hl:=Y0j k4.len l6;have k6:=k4.t w6;refine Jv (xs:=((yk c w x).take 1).map Itm.d) (x:=(Itm.fn (nmF c 10) [nmF c 11] (some (nmF c x)) w).d) rfl e6 (Ju (zl (Jt _) (zl (qR rfl) (zl (qt (i0:=0) rfl (k6 _ _ g) rfl) (zl (BB rfl (k6 _ _ g) x 103 (λ _=>bnd rfl (bnd rfl mdk)) hx.1) (zl (qR rfl) jP))))) (Y01 rfl)) (Y01 rfl) λ H7 e7 w7=>?_;have k7:=k6.o w7 hl;refine Jv (xs:=((yk c w x).take 2).map Itm.d) (x:=(Itm.hd (nmF c 10) [⟨nmF c 6,nmF c 0,nmF c 1,w⟩,⟨nmF c 7,nmF c 1,nmF c 0,nG 1⟩,⟨nmF c 6,nmF c 0,nmF c 1,w⟩] (nmF c 2) (nmF c 0) (nG 1)).d) rfl e7 (qt (i0:=0) rfl (k7 _ _ g) rfl) (Y01 rfl) λ H8 e8 w8=>?_;have k8:=k7.o w8 hl;refine Jv (xs:=((yk c w x).take 3).map Itm.d) (x:=(Itm.hd (nmF c 10) [⟨nmF c 7,nmF c 5,nmF c 5,w⟩] (nmF c 2) (nmF c 0) (nG 1)).d) rfl e8 (qt (i0:=0) rfl (k8 _ _ g) rfl) (Y01 rfl) λ H9 e9 w9=>?_;have k9:=k8.o w9 hl;refine Jv (xs:=((yk c w x).take 4).map Itm.d) (x:=(Itm.hd (nmF c 10) [] (nmF c 5) (nmF c 5) w).d) rfl e9 (qt (i0:=0) rfl (k9 _ _ g) rfl) (Y01 rfl) λ HA eA wA=>?_;exact BD (z3h (xs:=(yk c w x).map Itm.d) (j3 rfl eA) k id' (λ _=>bnd 109 (bnd rfl mdk)) hk.1) λ H wB=>⟨rfl,(k9.o wA hl).t wB⟩
 obtain ⟨_,h',R,rfl,w⟩:=R;exact ⟨i,x,h',hx.2,Y0y hi,ze R,w⟩
theorem z6n (xs:List D)(a:Nat)(h:Hh):j4 (.tup xs) none (some (a:Int)) h=.ok (.tup (xs.take a)) h:=by
 unfold j4;dsimp only;rw [zX,zG _ _ _ 103];have e:(a:Int).toNat=a:=by omega
 rw [e]
 split
 ·rename_i q;rw [Y1t 103]
 ·unfold jI;rw [zX,zG _ _ _ 103,e,Y2f,Y3g,Y30 103]
theorem z6o (xs:List D)(a:Nat)(h:Hh):j4 (.tup xs) (some (a:Int)) none h=.ok (.tup (xs.drop a)) h:=by
 unfold j4;dsimp only;rw [zX,zG _ _ _ 103];have e:(a:Int).toNat=a:=by omega
 rw [e]
 split
 ·rename_i q
  have:a=0\/xs.length=0:=by omega
  rcases this with rfl | z
  ·rw [Y2f]
  ·rw [Y1e z];simp
 ·unfold jI;rw [zX,zG _ _ _ 103,e];by_cases z:a<=xs.length
  ·rw [Y30 z,Y1t 110]
  ·rw [Nat.min_eq_right 103,List.drop_of_length_le (Y0a _),List.drop_of_length_le 103];simp
section
variable {c:Int}{p1 p2:Nat}{is:List Itm}
theorem z3n (P:PrG c p1 p2 is):∀ x∈is.map Itm.nm,Sh1 x:=λ x hi=>by
 have:=(Vl P).mem_iff.mp hi
 simp only [Y03,Y0f,or_false] at this;rcases this with e | e | e | e | e<;>rw [e]<;>exact wX c _
theorem Vq (P:PrG c p1 p2 is){A B:List Itm}(hAB:(A++B).map Itm.nm=is.map Itm.nm){w:G}{x:Nat}(hx:x<5){i:Itm}(hi:i∈yk c w x)(hA:nmF c 9∉(A++i::B).map Itm.nm->∀ a∈A,a.good (Nm c) (zV (A++i::B))):PrX 1 (A++i::B):=by
 have ni:=z6l hi;have pn:((A++i::B).map Itm.nm).Perm (nmF c 10::is.map Itm.nm):=by
  rw [Y0w,Y0i,ni,<- hAB,Y0w];exact List.perm_middle
 refine .item (Nm c) A i B (pn.nodup_iff.mpr (Y1x.mpr ⟨Vm P 10 102 102,BI P⟩)) (hA ?_) (BM hx ?_ i hi)
 ·rw [pn.mem_iff,Y03]
  rintro (z | z)
  ·exact ja c 102 102 102 z
  ·exact Vm P 9 102 102 z
 ·have:nmF c x∈(A++i::B).map Itm.nm:=by
   rw [pn.mem_iff,Y03];right;rw [(Vl P).mem_iff]
   have:x=0\/x=1\/x=2\/x=3\/x=4:=by omega
   rcases this with rfl | rfl | rfl | rfl | rfl<;>simp
  obtain ⟨j,hj,e⟩:=Y0e.mp this;exact ⟨j.d,e▸Z0 hj⟩
theorem Gn (cl:101)(P:PrG c p1 p2 is)(v:Int)(nn:Nat)(c33:C33 cl c p1 p2 nn)(c37:∀ (w:G) (v:Int) (h:Hh),Nn c nn h->∃ (i:Itm) (x:Nat) (h':Hh),x<5/\i∈yk c w x/\cl 37 [.loc nn,w.d,.int v] h=.ok i.d h'/\Kp h h')
  (c29:∀ (new:G) (l:Int) (h:Hh),∃ h',cl 29 [.tup (is.map Itm.d),.int l,new.d] h=.ok (.tup ((spA new is l).1.map Itm.d)) h') (l:Int) (h:Hh) (g:Nn c nn h) :
  ∃ (js:List Itm) (h':Hh),PrX 1 js/\js.length<=900/\d_law_by_item.run cl [.tup (is.map Itm.d),.int v,.loc nn,plD nn p1 p2,.int l] h=.ok (.tup (js.map Itm.d)) h':=by
 have li:=BH P;obtain ⟨w,H1,q1,k1,W⟩:=c33 (1+v%2) (v/2) h 103 g;have spn:((spA w is l).1).map Itm.nm=is.map Itm.nm:=yH (wV w is l);have spl:(spA w is l).1.length=5:=by
  have:=congrArg List.length spn
  rw [Y09,Y09] at this;omega
 have ek:∀ (H:Hh) (m:Int),zy .Eq (.int (v/2%3)) (.int m) H=.ok (.bl (v/2%3==m)) H:=λ H m=>eqI;have bb:∀ (a b:Int),a≠b->(a==b)=false:=λ a b z=>by rw [beq_eq_false_iff_ne];exact z
 have R:RtP cl d_law_by_item.body [some (.tup (is.map Itm.d)),some (.int v),some (.loc nn),some (plD nn p1 p2),some (.int l),none,none,none] h λ x _=>∃ js:List Itm,x=.tup (js.map Itm.d)/\PrX 1 js/\js.length<=900:=by
  refine qT (x:=w.d) (h1:=H1) (bnd (bnd rfl (bnd (bnd rfl (bnd rfl mdk)) rfl)) (bnd (bnd 109 112) q1)) ?_;by_cases z0:v/2%3=0
  ·have e0:=ek H1 0;rw [beq_iff_eq.mpr z0] at e0;obtain ⟨k,hk⟩:∃ k:Nat,v/6%5=(k:Int)/\k<5:=⟨(v/6%5).toNat,by omega,by omega⟩;obtain ⟨j,hj⟩:∃ j,is[k]?=some j:=⟨_,Y0b 103⟩;have sb:zC (.tup (is.map Itm.d)) (.int (v/6%5)) H1=.ok j.d H1:=by
    rw [sub_tup,hk.1,zY 103,Y22,Y0u,hj];rfl
   obtain ⟨H2,q2⟩:=c29 w l H1;have ad:zw .Add (.tup ((spA w is l).1.map Itm.d)) (.tup [(Itm.fn j.nm [] none (nG 1)).d]) H2=.ok (.tup (((spA w is l).1++[Itm.fn j.nm [] none (nG 1)]).map Itm.d)) H2:=by rw [bin_addt,if_pos 121,Y0w];rfl
   refine Qr (z4 (bnd 109 (bnd rfl mdk)) rfl e0) (qT (x:=(Itm.fn j.nm [] none (nG 1)).d) (h1:=H1) (bnd (bnd rfl (bnd (bnd (bnd (bnd rfl (bnd (bnd 109 (bnd rfl mdk)) sb)) (bnd rfl (ON j H1))) 112) rfl)) rfl) (BK (bnd (bnd rfl (bnd rfl q2)) (bnd rfl ad)) ⟨_,rfl,.names _ rfl (λ nd=>?_) (λ x hx=>?_),by simp;omega⟩))
   ·rw [Y0w,spn] at nd;exact (Y2s.mp nd).2.2 j.nm (Y0e.mpr ⟨j,Y0y hj,rfl⟩) j.nm (by simp [Itm.nm]) rfl
   ·rcases Y0p.mp hx with hx | hx
    ·exact z3n P _ (by rw [<- spn];exact Y0e.mpr ⟨x,hx,rfl⟩)
    ·rw [Y0d.mp hx];exact z3n P j.nm (Y0e.mpr ⟨j,Y0y hj,rfl⟩)
  ·have e0:=ek H1 0;rw [bb _ _ z0] at e0;obtain ⟨i,x,H2,hx,hi,q2,k2⟩:=c37 w (v/6) H1 (k1 _ _ g);obtain ⟨a,ha⟩:∃ a:Nat,v/150%6=(a:Int)/\a<6:=⟨(v/150%6).toNat,by omega,by omega⟩;have ma:∀ h,zw .Mod (.int (v/150)) (.int 6) h=.ok (.int (a:Nat)) h:=λ h=>ha.1▸mdk 102;refine qS (z4 (bnd 109 (bnd rfl mdk)) rfl e0) (qT (bnd rfl (bnd (bnd rfl (bnd (bnd 109 112) rfl)) q2)) (qT (x:=.int (a:Nat)) (h1:=H2) (bnd 109 (bnd rfl (ma _))) ?_));by_cases z1:v/2%3=1
   ·have e1:=ek H2 1;rw [beq_iff_eq.mpr z1] at e1;have ad1:zw .Add (.tup ((is.map Itm.d).take a)) (.tup [i.d]) H2=.ok (.tup ((is.map Itm.d).take a++[i.d])) H2:=by rw [bin_addt,if_pos 121]
    have ad2:zw .Add (.tup ((is.map Itm.d).take a++[i.d])) (.tup ((is.map Itm.d).drop a)) H2=.ok (.tup ((is.map Itm.d).take a++[i.d]++(is.map Itm.d).drop a)) H2:=by rw [bin_addt,if_pos 121]
    have ee:(is.map Itm.d).take a++[i.d]++(is.map Itm.d).drop a=(is.take a++i::is.drop a).map Itm.d:=by simp
    rw [ee] at ad2;have hs:∀ x∈is,x∈is.take a++i::is.drop a:=λ x hx=>by
     have:x∈is.take a++is.drop a:=by rw [Y1w];exact hx
     rcases Y0p.mp this with h | h
     ·exact Y0p.mpr (.inl h)
     ·exact Y0p.mpr (.inr (Y04 _ h))
    exact Qr (z4 (bnd 109 (bnd rfl mdk)) rfl e1) (BK (bnd (bnd (bnd rfl (bnd rfl (bnd rfl (z6n _ _ _)))) (bnd rfl ad1)) (bnd (bnd rfl (bnd rfl (bnd rfl (z6o _ _ _)))) ad2)) ⟨_,rfl,Vq P (by rw [Y1w]) hx hi (λ h9 y hy=>Vn P hs h9 y (List.mem_of_mem_take hy)),by simp;omega⟩)
   ·have e1:=ek H2 1;rw [bb _ _ z1] at e1;obtain ⟨H3,q3⟩:=c29 w l H2;have ad:zw .Add (.tup [i.d]) (.tup ((spA w is l).1.map Itm.d)) H3=.ok (.tup ((i::(spA w is l).1).map Itm.d)) H3:=by rw [bin_addt,if_pos 121];rfl
    exact qS (z4 (bnd 109 (bnd rfl mdk)) rfl e1) (BK (bnd rfl (bnd (bnd rfl (bnd rfl q3)) ad)) ⟨_,rfl,Vq P (A:=[]) spn hx hi (λ _ y hy=>by cases hy),by simp;omega⟩)
 obtain ⟨_,h',R,js,rfl,a,b⟩:=R;exact ⟨js,h',a,b,ze R⟩
end
section
variable {c:Int}{p1 p2:Nat}{is:List Itm}
theorem z2j (k:Nat)(h1:p1<=2)(h2:p2<=2)(nn:Nat):C33 (callI defs (k+2)) c p1 p2 nn:=λ kd v h hk g=>z2g k c v p1 p2 nn h1 h2 h g kd hk
theorem un2 {n:Nat}{a b:D}{H:Hh}(g:H[n]?=some (.lst [a,b])):yQ (.loc n) H=.tup [a,b]:=by
 unfold yQ;simp only;rw [zO g]
theorem z8r {cl:101}{ρ ρ':En}{h h1:Hh}{e:E}{d:D}{is:List (Nat×Pos)}{p1 p:Pos}{r:Ss}{Q:D->Hh->Prop}(he:e.ev cl ρ h=.ok d h1)(hb:jC (.tup is p1) (yQ d h1) ρ=some ρ')(k:RtP cl r ρ' h1 Q):RtP cl (.cons (.setT is e p1 p) r) ρ h Q:=by
 obtain ⟨d,h',k,w⟩:=k;exact ⟨d,h',OD he hb k,w⟩
theorem z6p (P:PrG c p1 p2 is):2<=lvA is:=by
 obtain ⟨h1,h2,M,v,F,pm⟩:=P;obtain ⟨g0,g1,g2,i3,i4,rfl,_,_,_,h3,h4⟩:=F.ex;have a:=(Qw h3).2.2.1;have b:=(Qw h4).2.2.1;have e:lvA is=lvA [Itm.fn (nmF c 0) (wz c v p1) none g0,.fn (nmF c 1) [nmF c 11] none g1,.fn (nmF c 2) (yZ c v p2) (some (nmF c 9)) g2,i3,i4]:=by
  unfold lvA;exact (pm.map lvI).sum_nat
 rw [e];unfold lvA;simp only [Y0i,Y2m,Y1o,List.sum_nil];omega
theorem z2k (k:Nat)(ns:List Int)(c15:∀ (j:Int) (h:Hh),0<=j/\j<1000->callI defs (k+13) 15 [.fl (ns.map .int),.int j] h=.ok (.int (j6 ns j)) h)(c17:∀ (c:Int) (h:Hh),∃ J,callI defs (k+13) 17 [.int c,.int 14] h=.ok (.loc (h.length+J.length)) (h++(J++[.lst ((Nms c 14).map .str)])))
  (P:PrG c p1 p2 is) (hc:c=j6 ns 0) (hp1:(p1:Int)=j6 ns 1%3) (hp2:(p2:Int)=j6 ns 1/3%3) {h1:Hh} (k24:callI defs (k+13) 24 [.fl (ns.map .int)] []=.ok (.tup (is.map Itm.d)) h1):∃ h',d_law.run (callI defs (k+13)) [.fl (ns.map .int)] []=.ok (.bl true) h':=by
 have q0':=λ h=>c15 0 h 102;have q1':=λ h=>c15 1 h 102;have q42:=λ h=>c15 42 h 102;have q43:=λ h=>c15 43 h 102;have q44:=λ h=>c15 44 h 102;rw [<- hc] at q0';obtain ⟨w,hw⟩:∃ w,w=j6 ns 1:=117;rw [<- hw] at hp1 hp2 q1';obtain ⟨u,hu⟩:∃ u,u=j6 ns 42:=117;rw [<- hu] at q42;obtain ⟨y,hy⟩:∃ y,y=j6 ns 43:=117;rw [<- hy] at q43;obtain ⟨y4,hy4⟩:∃ y4,y4=j6 ns 44:=117;rw [<- hy4] at q44;have li:=BH P;have l9:is.length<=900:=by omega
 have bg:∀ i∈is,Bg i:=λ i hi=>z2d (yJ P i hi);obtain ⟨J2,k2⟩:=c17 c h1;obtain ⟨nn,hnn⟩:∃ nn,nn=h1.length+J2.length:=117;obtain ⟨H2,hH2⟩:∃ H2,H2=h1++(J2++[O.lst ((Nms c 14).map .str)]):=117;rw [<- hnn,<- hH2] at k2;have g2:Nn c nn H2:=by unfold Nn;rw [hH2,hnn,hx,hx0];rfl
 have c33:C33 (callI defs (k+13)) c p1 p2 nn:=z2j (k+11) P.1 P.2.1 nn;obtain ⟨k0,hk0,k03⟩:∃ k0:Int,u%3=k0/\(k0=0\/k0=1\/k0=2):=⟨_,rfl,by omega⟩;obtain ⟨kk1,hk1,k13⟩:∃ kk1:Int,(k0+1+u/3%2)%3=kk1/\(kk1=0\/kk1=1\/kk1=2):=⟨_,rfl,by omega⟩;obtain ⟨pi,hpi,pi4⟩:∃ pi:Int,u/6%4=pi/\(pi=0\/pi=1\/pi=2\/pi=3):=⟨_,rfl,by omega⟩;obtain ⟨v,hv⟩:∃ v,u/24=v:=117;have mk1:∀ h,zw .Mod (.int (k0+1+u/3%2)) (.int 3) h=.ok (.int kk1) h:=λ h=>hk1▸mdk 102;have skE:EvF (callI defs (k+13)) [some (.fl (ns.map .int)),some (.tup (is.map Itm.d)),some (.loc nn),some (.int w),some (plD nn p1 p2),some (.int u),some (.int k0),none,none,none,none,none,none,none] H2 (zaf (Jm (zH 6 d_law.body))) [.int k0,.int kk1] :=
  j5 (zl (qR rfl) (zl (jO λ H=>bnd (bnd (bnd rfl 112) (bnd (bnd 109 (bnd rfl mdk)) rfl)) (bnd rfl (mk1 _))) jP)) (Y01 rfl)
 obtain ⟨nk,K3,sk,gk,_⟩:=skE [];rw [Y0x] at sk gk;obtain ⟨H3,hH3⟩:∃ H3,H3=H2++K3:=117;rw [<- hH3] at sk gk;have g3:Nn c nn H3:=by unfold Nn;rw [hH3];exact zf g2
 obtain ⟨J4,k4⟩:=z2c (k+5) is l9 (yJ P) H3;have lv2:=z6p P;obtain ⟨l,hl⟩:∃ l,y%((lvA is:Int)-1)=l:=117;have l0:0<=l:=by rw [<- hl];exact Y18 _ 103
 have l1:l<(lvA is:Int)-1:=by rw [<- hl];exact Y17 _ 103
 have l1':l<lvA is:=by omega
 have g4:Nn c nn (H3++J4):=zf g3;have gk4:(H3++J4)[nk]?=some (.lst [.int k0,.int kk1]):=zf gk;have ek:∀ (H:Hh) (m:Int) (b:Bool),(pi==m)=b->zy .Eq (.int pi) (.int m) H=.ok (.bl b) H:=λ H m b hb=>hb▸eqI;have bb:∀ (a b:Int),a≠b->(a==b)=false:=λ a b z=>by rw [beq_eq_false_iff_ne];exact z
 let ρ:D->D->D->Option D->Option D->Option D->En:=λ du ki x a b d=>[some (.fl (ns.map .int)),some (.tup (is.map Itm.d)),some (.loc nn),some (.int w),some (plD nn p1 p2),some (.int v),some du,some ki,some (.int pi),some (.int (lvA is:Nat)),some x,a,b,d]
 have fin:∀ (js:List Itm) (e:Nat) (a d:Option D) (H:Hh),(e=1\/e=2\/e=3)->PrX e js->js.length<=900->RtP (callI defs (k+13)) (zH 15 d_law.body) (ρ (.int ((e:Int)-1)) (.loc nk) (.int l) a (some (.tup (js.map Itm.d))) d) H λ x _=>x=.bl true:=by
  intro js e a d H he X hl;obtain ⟨H8,r2⟩:=z6c (k+4) js H hl he X;have c2:∀ H,zy .Eq (.int ((e:Int)-1)) (.int ((e:Int)-1)) H=.ok (.bl true) H:=λ H=>by
   have:=eqI (a:=(e:Int)-1) (b:=(e:Int)-1) (h:=H)
   rw [beq_self_eq_true] at this;exact this
  exact BK (zi (z4 (bnd rfl (bnd rfl r2)) rfl (c2 _))) rfl
 have spl:∀ (t:G) (js:List Itm) (l:Int),js.length<=900->(spA t js l).1.length<=900:=λ t js l h=>by
  have:=congrArg List.length (wV t js l)
  rw [Y09,Y09] at this;omega
 have e01:(((k0+1).toNat:Nat):Int)-1=k0:=by omega
 have s0:∀ H,H[nk]?=some (.lst [.int k0,.int kk1])->zC (.loc nk) (.int 0) H=.ok (.int k0) H:=λ H g=>by unfold zC;simp only;rw [g];rfl
 have s1:∀ H,H[nk]?=some (.lst [.int k0,.int kk1])->zC (.loc nk) (.int 1) H=.ok (.int kk1) H:=λ H g=>by unfold zC;simp only;rw [g];rfl
 have R:RtP (callI defs (k+13)) (zH 11 d_law.body) (ρ (.int k0) (.loc nk) (.int l) none none none) (H3++J4) λ x _=>x=.bl true:=by
  rcases pi4 with z | z | z | z
  ·
   obtain ⟨l2,hl2⟩:∃ l2,y4%((lvA is:Int)-1-l)=l2:=117;have l20:0<=l2:=by rw [<- hl2];exact Y18 _ 103
   have ml:∀ h,zw .Mod (.int y4) (.int ((lvA is:Int)-1-l)) h=.ok (.int l2) h:=λ h=>hl2▸mdk 103;obtain ⟨t2,H5,q5,w5,W2⟩:=c33 kk1 (v/3) (H3++J4) k13 g4;obtain ⟨H6,q6,w6⟩:=wW (k+1) t2 is l9 bg (l+1+l2) H5;have w56:Kp (H3++J4) H6:=w5.t w6;obtain ⟨t1,H7,q7,w7,W1⟩:=c33 k0 v H6 k03 (w56 _ _ g4);have bg2:∀ j∈(spA t2 is (l+1+l2)).1,Bg j:=Bv (λ i=>i.good (Nm c) (zV is)) (λ i hi l=>z6d (Y0j W2.1.1 102) W2.1.2 hi l) is _ (yJ P);obtain ⟨H8,q8,w8⟩:=wW (k+1) t1 (spA t2 is (l+1+l2)).1 (spl _ _ _ l9) bg2 l H7;have X:=z6g P W1 W2 l (l+1+l2) l0 l1' 103;have F:=fin _ (k0+1).toNat (some (.int (l+1+l2))) none H8 103 X (spl _ _ _ (spl _ _ _ l9));rw [e01] at F;refine Qr (z4 rfl rfl (ek _ 0 true (by rw [z];rfl))) (qT (x:=.int (l+1+l2)) (h1:=H3++J4) (bnd (bnd rfl 112) (bnd (bnd (bnd rfl (bnd rfl (q44 _))) (bnd (bnd (bnd rfl 112) 112) (ml _))) rfl)) (qT (bnd rfl (bnd (bnd rfl (bnd (bnd (bnd (bnd rfl (bnd rfl (s1 _ gk4))) (bnd (bnd 109 112) q5)) 112) rfl)) q6)) (qT (bnd rfl (bnd (bnd rfl (bnd (bnd (bnd (bnd rfl (bnd rfl (s0 _ (w56 _ _ gk4)))) (bnd rfl q7)) 112) rfl)) q8)) ?_)));exact qS (z4 rfl rfl (ek _ 1 false (by rw [z];rfl))) (qS (z4 rfl rfl (ek _ 2 false (by rw [z];rfl))) (qS (z4 rfl rfl (ek _ 3 false (by rw [z];rfl))) F))
  ·
   obtain ⟨t,H5,W,q5,w5⟩:=z6i (callI defs (k+12)) c v p1 p2 nn nk P.1 (z2j (k+10) P.1 P.2.1 nn) k0 kk1 k03 k13 (H3++J4) g4 gk4;have q5':callI defs (k+13) 35 [.loc nk,.int v,.loc nn,plD nn p1 p2] (H3++J4)=.ok t.d H5:=(z5 (d:=d_law_both) rfl rfl).trans q5;obtain ⟨H6,q6,w6⟩:=wW (k+1) t is l9 bg l H5;have F:=fin _ (k0+1).toNat none none H6 103 (Zi P W l l0 l1') (spl _ _ _ l9);rw [e01] at F;exact qS (z4 rfl rfl (ek _ 0 false (by rw [z];rfl))) (Qr (z4 rfl rfl (ek _ 1 true (by rw [z];rfl))) (qT (bnd rfl (bnd (bnd rfl (bnd (bnd (bnd rfl (bnd rfl q5')) 112) rfl)) q6)) (qS (z4 rfl rfl (ek _ 2 false (by rw [z];rfl))) (qS (z4 rfl rfl (ek _ 3 false (by rw [z];rfl))) F))))
  ·
   obtain ⟨t,d,m,H5,W,hd,q5,g5⟩:=z2i (callI defs (k+12)) c v p1 p2 nn P.2.1 (z2j (k+10) P.1 P.2.1 nn) (H3++J4) g4;have q5':callI defs (k+13) 36 [.int v,.loc nn,plD nn p1 p2] (H3++J4)=.ok (.loc m) H5:=(z5 (d:=d_law_ahead) rfl rfl).trans q5;obtain ⟨H6,q6,w6⟩:=wW (k+1) t is l9 bg l H5;have un:=un2 g5;have ed:(((d+1).toNat:Nat):Int)-1=d:=by omega
   have F:=fin _ (d+1).toNat none (some t.d) H6 103 (Zi P W l l0 l1') (spl _ _ _ l9);rw [ed] at F;exact qS (z4 rfl rfl (ek _ 0 false (by rw [z];rfl))) (qS (z4 rfl rfl (ek _ 1 false (by rw [z];rfl))) (Qr (z4 rfl rfl (ek _ 2 true (by rw [z];rfl))) (z8r (ρ':=ρ (.int d) (.loc nk) (.int l) none none (some t.d)) (bnd rfl (bnd rfl q5')) (by rw [un];rfl) (qT (bnd rfl (bnd rfl q6)) (qS (z4 rfl rfl (ek _ 3 false (by rw [z];rfl))) F)))))
  ·
   obtain ⟨js,H5,X,hj,q5⟩:=Gn (callI defs (k+12)) P v nn (z2j (k+10) P.1 P.2.1 nn) (λ w v h g=>by
    obtain ⟨i,x,h',a,b,e,kk⟩:=z6m (callI defs (k+11)) c v w nn h g;exact ⟨i,x,h',a,b,(z5 (d:=d_law_more) rfl rfl).trans e,kk⟩) (λ new l h=>by
    obtain ⟨h',e,_⟩:=wW k new is l9 bg l h;exact ⟨h',e⟩) l (H3++J4) g4
   have q5':callI defs (k+13) 38 [.tup (is.map Itm.d),.int v,.loc nn,plD nn p1 p2,.int l] (H3++J4)=.ok (.tup (js.map Itm.d)) H5:=(z5 (d:=d_law_by_item) rfl rfl).trans q5;have F:=fin js 1 none none H5 (.inl rfl) X hj;exact qS (z4 rfl rfl (ek _ 0 false (by rw [z];rfl))) (qS (z4 rfl rfl (ek _ 1 false (by rw [z];rfl))) (qS (z4 rfl rfl (ek _ 2 false (by rw [z];rfl))) (Qr (z4 rfl rfl (ek _ 3 true (by rw [z];rfl))) (qT (x:=.int 0) (h1:=H3++J4) rfl (qT (bnd rfl (bnd rfl q5')) F)))))
 obtain ⟨_,h',R,rfl⟩:=R;refine ⟨h',?_⟩;have m3:∀ h,zw .Mod (.int w) (.int 3) h=.ok (.int (p1:Nat)) h:=λ h=>hp1▸mdk 102;have m33:∀ h,zw .Mod (.int (w/3)) (.int 3) h=.ok (.int (p2:Nat)) h:=λ h=>hp2▸mdk 102;have mk:∀ h,zw .Mod (.int u) (.int 3) h=.ok (.int k0) h:=λ h=>hk0▸mdk 102;have mp:∀ h,zw .Mod (.int (u/6)) (.int 4) h=.ok (.int pi) h:=λ h=>hpi▸mdk 102;have mv:∀ h,zw .FloorDiv (.int u) (.int 24) h=.ok (.int v) h:=λ h=>hv▸fdk 102;have ml:∀ h,zw .Mod (.int y) (.int ((lvA is:Int)-1)) h=.ok (.int l) h:=λ h=>hl▸mdk 103;exact ze (zb (bnd rfl (bnd rfl k24)) (zb (bnd (bnd rfl (bnd rfl (q0' _))) (bnd rfl k2)) (zb (bnd rfl (bnd rfl (q1' _))) (zb (d:=plD nn p1 p2) (bnd (bnd rfl (bnd (bnd (bnd rfl (bnd rfl (m3 _))) (bnd (bnd (bnd 109 (bnd rfl (m33 _))) 112) rfl)) rfl)) rfl) (zb (bnd rfl (bnd rfl (q42 _))) (zb (bnd rfl (bnd rfl (mk _))) (zb sk (zb (bnd 109 (bnd rfl (mp _))) (zb (bnd rfl (bnd rfl (mv _))) (zb (bnd rfl (bnd rfl k4)) (zb (bnd (bnd rfl (bnd rfl (q43 _))) (bnd (bnd rfl 112) (ml _))) R)))))))))))
end
theorem law_true (ns:List Int)(hb:∀ n∈ns,jR n=true):∃ h',callI defs 31 39 [.fl (ns.map .int)] []=.ok (.bl true) h':=by
 have c15:∀ (j:Nat) (k:Int) (h:Hh),0<=k/\k<1000->callI defs (j+1) 15 [.fl (ns.map .int),.int k] h=.ok (.int (j6 ns k)) h:=λ j k h hk=>(z5 (d:=d_law_cell) rfl rfl).trans (z5m _ h ns k hk hb);have c17:∀ (j m:Nat) (hm:m<=14) (c:Int) (h:Hh),∃ J,callI defs (j+1) 17 [.int c,.int (m:Nat)] h=.ok (.loc (h.length+J.length)) (h++(J++[.lst ((Nms c m).map .str)])):=λ j m hm c h=>by
  obtain ⟨J,e⟩:=OX (callI defs j) c m hm h;exact ⟨J,(z5 (d:=d_law_names) rfl rfl).trans e⟩
 obtain ⟨M,a,p1,p2,v,h',e,F,h1,h2,e1,e2⟩:=Ge (callI defs 29) ns (c15 28) (c17 28 12 102) (λ h1 h2 v h s=>z1y h1 h2 v h s);have pm:(M.drop a++M.take a).Perm M:=by
  have:=List.perm_append_comm (l₁:=M.drop a) (l₂:=M.take a)
  rw [Y1w] at this;exact this
 obtain ⟨h',e⟩:=z2k 17 ns (c15 29) (c17 29 14 102) ⟨h1,h2,M,v,F,pm⟩ rfl e1 e2 ((z5 (d:=d_law_program) rfl rfl).trans e);exact ⟨h',(z5 (d:=d_law) rfl rfl).trans e⟩
theorem dok {st:Stmt}{d:Df}{F:XU}{G:List (Str×Cn)}{nm q:Str}(h:∀ (kV doc pm:Value) (an:Option Addr) (cdv ct:Value) (us:XW),us.length=d.ps.length->bindArgs (PySem.W.fnOf nm q (jL st) (j7 st) (zr st) .none kV doc pm an cdv ct) ⟨us,[]⟩=pure (d.ps.zip us))(h1:j7 st=d.body.py ⟨d.N,F,G⟩:=by rfl)(h2:FnScope d.N d.ps (zr st):=by exact ⟨rfl,rfl,rfl,by decide +kernel,rfl,by decide +kernel,by decide +kernel⟩)(h3:okD d.body (zr st) ⟨d.N,F,G⟩ d.ps=true:=by decide +kernel)(h4:∀ x∈d.N,((zr st).names.lookup x=some .local\/(zr st).names.lookup x=some .cell)/\Ze x=true:=by decide +kernel):DefOk st d F G nm q:=⟨h1,h2,h3,h4,h⟩
abbrev DO (i:Nat) (d:Df) (x y:Str):=DefOk (top i) d (defs.map (·.name)) zh x y
theorem Ug:DO 7 d_parts_of "parts_of" "parts_of":=dok λ _ _ _ _ _ _=>Zn λ _=>rfl
theorem Zv:DO 8 d_items_by_name "items_by_name" "items_by_name":=dok λ _ _ _ _ _ _=>Zn λ _=>rfl
theorem z2l:DO 13 d_check "check" "check":=dok λ _ _ _ _ _ _=>Zn λ _=>rfl
theorem Jx:DO 14 d_refuse_twice "refuse_twice" "refuse_twice":=dok λ _ _ _ _ _ _=>Zn λ _=>rfl
theorem Z7:DO 15 d_check_function "check_function" "check_function":=dok λ _ _ _ _ _ _=>ZX λ _ _=>rfl
theorem Zw:DO 16 d_check_handler "check_handler" "check_handler":=dok λ _ _ _ _ _ _=>ZX λ _ _=>rfl
theorem Jy:DO 17 d_check_answer "check_answer" "check_answer":=dok λ _ _ _ _ _ _=>Zo λ _ _ _=>rfl
theorem Qx:DO 18 d_check_body "check_body" "check_body":=dok λ _ _ _ _ _ _=>Oh λ _ _ _ _ _=>rfl
theorem z2m:DO 19 d_inner "inner" "inner":=dok λ _ _ _ _ _ _=>Zo λ _ _ _=>rfl
theorem yl:DO 20 d_check_expression "check_expression" "check_expression":=dok λ _ _ _ _ _ _=>Oh λ _ _ _ _ _=>rfl
theorem Z8:DO 21 d_check_variable "check_variable" "check_variable":=dok λ _ _ _ _ _ _=>ZX λ _ _=>rfl
theorem Jz:DO 22 d_check_handle "check_handle" "check_handle":=dok λ _ _ _ _ _ _=>Zo λ _ _ _=>rfl
theorem Qy:DO 23 d_check_call "check_call" "check_call":=dok λ _ _ _ _ _ _=>Zo λ _ _ _=>rfl
theorem JL:DO 24 d_is_function "is_function" "is_function":=dok λ _ _ _ _ _ _=>ZX λ _ _=>rfl
theorem Zx:DO 25 d_may_be_handed "may_be_handed" "may_be_handed":=dok λ _ _ _ _ _ _=>ZX λ _ _=>rfl
theorem Uh:DO 27 d_law_cell "_law_cell" "_law_cell":=dok λ _ _ _ _ _ _=>ZX λ _ _=>rfl
theorem Ui:DO 28 d_law_next "_law_next" "_law_next":=dok λ _ _ _ _ _ _=>Zn λ _=>rfl
theorem Yi:DO 29 d_law_names "_law_names" "_law_names":=dok λ _ _ _ _ _ _=>ZX λ _ _=>rfl
theorem Uj:DO 30 d_law_some "_law_some" "_law_some":=dok λ _ _ _ _ _ _=>z7k λ _ _ _ _ _ _ _=>rfl
theorem Uk:DO 31 d_law_leaf "_law_leaf" "_law_leaf":=dok λ _ _ _ _ _ _=>ZX λ _ _=>rfl
theorem Ul:DO 32 d_law_call "_law_call" "_law_call":=dok λ _ _ _ _ _ _=>z7k λ _ _ _ _ _ _ _=>rfl
theorem Um:DO 33 d_law_good "_law_good" "_law_good":=dok λ _ _ _ _ _ _=>z7j λ _ _ _ _ _ _=>rfl
theorem JM:DO 34 d_law_handler "_law_handler" "_law_handler":=dok λ _ _ _ _ _ _=>Oh λ _ _ _ _ _=>rfl
theorem Yj:DO 35 d_law_items "_law_items" "_law_items":=dok λ _ _ _ _ _ _=>Zo λ _ _ _=>rfl
theorem JN:DO 36 d_law_program "_law_program" "_law_program":=dok λ _ _ _ _ _ _=>Zn λ _=>rfl
theorem Qz:DO 37 d_law_leaves "_law_leaves" "_law_leaves":=dok λ _ _ _ _ _ _=>Zn λ _=>rfl
theorem Go:DO 38 d_law_put "_law_put" "_law_put":=dok λ _ _ _ _ _ _=>Zo λ _ _ _=>rfl
theorem QA:DO 39 d_law_bodies "_law_bodies" "_law_bodies":=dok λ _ _ _ _ _ _=>Zn λ _=>rfl
theorem Yk:DO 40 d_law_count "_law_count" "_law_count":=dok λ _ _ _ _ _ _=>Zn λ _=>rfl
theorem JO:DO 41 d_law_spoiled "_law_spoiled" "_law_spoiled":=dok λ _ _ _ _ _ _=>Zo λ _ _ _=>rfl
theorem JA:DO 42 d_law_nameless "_law_nameless" "_law_nameless":=dok λ _ _ _ _ _ _=>Zo λ _ _ _=>rfl
theorem Zy:DO 43 d_law_countless "_law_countless" "_law_countless":=dok λ _ _ _ _ _ _=>Zo λ _ _ _=>rfl
theorem QB:DO 44 d_law_goless "_law_goless" "_law_goless":=dok λ _ _ _ _ _ _=>ZX λ _ _=>rfl
theorem Yl:DO 45 jV "_law_fault" "_law_fault":=dok λ _ _ _ _ _ _=>z50 λ _ _ _ _=>rfl
theorem JP:DO 46 d_law_refusal "_law_refusal" "_law_refusal":=dok λ _ _ _ _ _ _=>Zn λ _=>rfl
theorem Uo:DO 47 d_law_both "_law_both" "_law_both":=dok λ _ _ _ _ _ _=>z50 λ _ _ _ _=>rfl
theorem Ym:DO 48 d_law_ahead "_law_ahead" "_law_ahead":=dok λ _ _ _ _ _ _=>Zo λ _ _ _=>rfl
theorem Up:DO 49 d_law_more "_law_more" "_law_more":=dok λ _ _ _ _ _ _=>Zo λ _ _ _=>rfl
theorem JQ:DO 50 d_law_by_item "_law_by_item" "_law_by_item":=dok λ _ _ _ _ _ _=>Oh λ _ _ _ _ _=>rfl
theorem o_law:DO 51 d_law "law" "law":=dok λ _ _ _ _ _ _=>Zn λ _=>rfl
noncomputable def FnK (K:Y00)(x:Str)(i:Nat)(f:Addr)(fd:FuncData):Prop:=PySem.W.nsIn K mainGlobals x=some (some (.ref f))/\Fun K x x (top i) f fd
theorem fnk {K:Y00}{x:Str}{i:Nat}{f:Addr}{oc:Value}{od an:Option Addr}{sl:Array (Option Value)}{kV dc pm cd ct:Value}(a:PySem.W.nsIn K mainGlobals x=some (some (.ref f)))(l:K.lookup f=some ⟨oc,od,.func (PySem.W.fnOf x x (jL (top i)) (j7 (top i)) (zr (top i)) .none kV dc pm an cd ct),sl⟩)(c:PySem.W.codeIn K cd x=true)(k:PySem.W.keepIn K (.ref f)=true):FnK K x i f (PySem.W.fnOf x x (jL (top i)) (j7 (top i)) (zr (top i)) .none kV dc pm an cd ct):=⟨a,YA (st:=top i) l c k⟩
theorem FnK.row {K:Y00}{x:Str}{i:Nat}{f:Addr}{fd:FuncData}{h:Heap}{mg:XZ}{d:Df} (e:FnK K x i f fd) (X:K.In h) (G:h.Ns mainGlobals mg) (hx:d.name=x) (hb:(d.name==("__debug__":Str))=false) (o:DefOk (top i) d (defs.map (·.name)) zh x x):(d.name==("__debug__":Str))=false/\∃ st f fd,mg d.name=some (.ref f)/\PySem.W.nsIn K mainGlobals d.name=some (some (.ref f))/\Fun K d.name d.name st f fd/\DefOk st d (defs.map (·.name)) zh d.name d.name:=by
 subst hx;exact ⟨hb,_,_,_,Y15 X G e.1,e.1,e.2,o⟩
noncomputable def NoN (K:Y00):List Str->Prop
 | []=>True
 | x::r=>PySem.W.nsIn K mainGlobals x=some none/\NoN K r
theorem NoN.mem {K:Y00}{x:Str}:∀ {l:XU},NoN K l->x∈l->PySem.W.nsIn K mainGlobals x=some none
 | [],_,h=>nomatch h
 | _::_,q,h=>(Y03.mp h).elim (λ e=>e▸q.1) (NoN.mem q.2)
open PySem.W in
theorem all_mk {l:PySem.W.OpenLaw}{w:World}{K:Y00}{h:Heap}{mg:XZ}{fa f0 f1 f2 f3 f4 f5 f6 f7 f8 f9 f10 f11 f12 f13 f14 f15 f16 f17 f18 f19 f20 f21 f22 f23 f24 f25 f26 f27 f28 f29 f30 f31 f32 f33 f34 f35 f36 f37 f38 f39:Addr}{d0 d1 d2 d3 d4 d5 d6 d7 d8 d9 d10 d11 d12 d13 d14 d15 d16 d17 d18 d19 d20 d21 d22 d23 d24 d25 d26 d27 d28 d29 d30 d31 d32 d33 d34 d35 d36 d37 d38:FuncData} (X:K.In h) (G:h.Ns mainGlobals mg) (hfa:mg "law"=some (.ref fa))
    (e0:FnK K "parts_of" 7 f0 d0)
    (e1:FnK K "items_by_name" 8 f1 d1)
    (e2:FnK K "check" 13 f2 d2)
    (e3:FnK K "refuse_twice" 14 f3 d3)
    (e4:FnK K "check_function" 15 f4 d4)
    (e5:FnK K "check_handler" 16 f5 d5)
    (e6:FnK K "check_answer" 17 f6 d6)
    (e7:FnK K "check_body" 18 f7 d7)
    (e8:FnK K "inner" 19 f8 d8)
    (e9:FnK K "check_expression" 20 f9 d9)
    (e10:FnK K "check_variable" 21 f10 d10)
    (e11:FnK K "check_handle" 22 f11 d11)
    (e12:FnK K "check_call" 23 f12 d12)
    (e13:FnK K "is_function" 24 f13 d13)
    (e14:FnK K "may_be_handed" 25 f14 d14)
    (e15:FnK K "_law_cell" 27 f15 d15)
    (e16:FnK K "_law_next" 28 f16 d16)
    (e17:FnK K "_law_names" 29 f17 d17)
    (e18:FnK K "_law_some" 30 f18 d18)
    (e19:FnK K "_law_leaf" 31 f19 d19)
    (e20:FnK K "_law_call" 32 f20 d20)
    (e21:FnK K "_law_good" 33 f21 d21)
    (e22:FnK K "_law_handler" 34 f22 d22)
    (e23:FnK K "_law_items" 35 f23 d23)
    (e24:FnK K "_law_program" 36 f24 d24)
    (e25:FnK K "_law_leaves" 37 f25 d25)
    (e26:FnK K "_law_put" 38 f26 d26)
    (e27:FnK K "_law_bodies" 39 f27 d27)
    (e28:FnK K "_law_count" 40 f28 d28)
    (e29:FnK K "_law_spoiled" 41 f29 d29)
    (e30:FnK K "_law_nameless" 42 f30 d30)
    (e31:FnK K "_law_countless" 43 f31 d31)
    (e32:FnK K "_law_goless" 44 f32 d32)
    (e33:FnK K "_law_fault" 45 f33 d33)
    (e34:FnK K "_law_refusal" 46 f34 d34)
    (e35:FnK K "_law_both" 47 f35 d35)
    (e36:FnK K "_law_ahead" 48 f36 d36)
    (e37:FnK K "_law_more" 49 f37 d37)
    (e38:FnK K "_law_by_item" 50 f38 d38)
    {od an:Option Addr}{sl:Array (Option Value)}{oc kV dc pm cd ct:Value} (a:nsIn K mainGlobals "law"=some (some (.ref f39))) (l39:K.lookup f39=some ⟨oc,od,.func (PySem.W.fnOf "law" "law" (jL (top 51)) (j7 (top 51)) (zr (top 51)) .none kV dc pm an cd ct),sl⟩) (c39:codeIn K cd "law"=true) (k39:keepIn K (.ref f39)=true)
    (z:NoN K WJ)
    {gc0:Addr}{es0:Array DictEntry}{ep0:Nat} (ga0:nsIn K mainGlobals "FIRST_PART"=some (some (.ref gc0))) (gl0:K.lookup gc0=some { cls:=.type "dict",data:=.dict es0 ep0 }) (ge0:WR w K es0.toList g_FIRST_PART)
    {gt1:Tok} (ga1:nsIn K mainGlobals "CLAUSE"=some (some (.str "clause" gt1)))
    {gt2:Tok} (ga2:nsIn K mainGlobals "END"=some (some (.str "end" gt2)))
    {gt3:Tok} (ga3:nsIn K mainGlobals "FREE"=some (some (.str "free" gt3)))
    {xc0:Addr}
    {xc1:Addr}
    {xc2:Addr}
    {xc3:Addr}
    {xo0:Value}{xd0:Option Addr}{xk0:ClassData}{xs0:Array (Option Value)} (xa0:nsIn K mainGlobals "WrightError"=some (some (.ref xc0))) (xl0:K.lookup xc0=some ⟨xo0,xd0,.cls xk0,xs0⟩) (xe0:PySem.W.excIn K xc0 [.type "ValueError",.type "Exception",.type "BaseException",.type "object"] "ValueError.__new__"=true)
    {xo1:Value}{xd1:Option Addr}{xk1:ClassData}{xs1:Array (Option Value)} (xa1:nsIn K mainGlobals "NoName"=some (some (.ref xc1))) (xl1:K.lookup xc1=some ⟨xo1,xd1,.cls xk1,xs1⟩) (xe1:PySem.W.excIn K xc1 [.type "ValueError",.type "Exception",.type "BaseException",.type "object"] "ValueError.__new__"=true)
    {xo2:Value}{xd2:Option Addr}{xk2:ClassData}{xs2:Array (Option Value)} (xa2:nsIn K mainGlobals "NoCount"=some (some (.ref xc2))) (xl2:K.lookup xc2=some ⟨xo2,xd2,.cls xk2,xs2⟩) (xe2:PySem.W.excIn K xc2 [.type "ValueError",.type "Exception",.type "BaseException",.type "object"] "ValueError.__new__"=true)
    {xo3:Value}{xd3:Option Addr}{xk3:ClassData}{xs3:Array (Option Value)} (xa3:nsIn K mainGlobals "NoGo"=some (some (.ref xc3))) (xl3:K.lookup xc3=some ⟨xo3,xd3,.cls xk3,xs3⟩) (xe3:PySem.W.excIn K xc3 [.type "ValueError",.type "Exception",.type "BaseException",.type "object"] "ValueError.__new__"=true)
    (xm0_0:xk0.mro.contains (.ref xc0)=true)
    (xm1_1:xk1.mro.contains (.ref xc1)=true)
    (xm1_0:xk1.mro.contains (.ref xc0)=true)
    (xm2_2:xk2.mro.contains (.ref xc2)=true)
    (xm2_0:xk2.mro.contains (.ref xc0)=true)
    (xm3_3:xk3.mro.contains (.ref xc3)=true)
    (xm3_0:xk3.mro.contains (.ref xc0)=true)
    (xga0:findIn K (.ref xc0) "__getattribute__"=some (some (.builtin "BaseException.__getattribute__")))
    (xgn0:findIn K (.ref xc0) "__getattr__"=some none)
    (xgk0:findIn K (.ref xc0) "__class__"=some (some (.builtin "object.__class__")))
    (xmb0:mroIn K xc0 (.type "BaseException")=some true)
    (xmo0:mroIn K xc0 (.type "object")=some true)
    (xmv0:mroIn K xc0 (.type "ValueError")=some true)
    (xty0:PySem.W.typeIn K (.ref xc0)=some (.type "type"))
    (xk0_0:mroIn K xc0 (.ref xc0)=some true)
    (xk0_1:mroIn K xc0 (.ref xc1)=some false) (xn0_1:xc0≠xc1)
    (xk0_2:mroIn K xc0 (.ref xc2)=some false) (xn0_2:xc0≠xc2)
    (xk0_3:mroIn K xc0 (.ref xc3)=some false) (xn0_3:xc0≠xc3)
    (xga1:findIn K (.ref xc1) "__getattribute__"=some (some (.builtin "BaseException.__getattribute__")))
    (xgn1:findIn K (.ref xc1) "__getattr__"=some none)
    (xgk1:findIn K (.ref xc1) "__class__"=some (some (.builtin "object.__class__")))
    (xmb1:mroIn K xc1 (.type "BaseException")=some true)
    (xmo1:mroIn K xc1 (.type "object")=some true)
    (xmv1:mroIn K xc1 (.type "ValueError")=some true)
    (xty1:PySem.W.typeIn K (.ref xc1)=some (.type "type"))
    (xk1_0:mroIn K xc1 (.ref xc0)=some true)
    (xk1_1:mroIn K xc1 (.ref xc1)=some true)
    (xk1_2:mroIn K xc1 (.ref xc2)=some false) (xn1_2:xc1≠xc2)
    (xk1_3:mroIn K xc1 (.ref xc3)=some false) (xn1_3:xc1≠xc3)
    (xga2:findIn K (.ref xc2) "__getattribute__"=some (some (.builtin "BaseException.__getattribute__")))
    (xgn2:findIn K (.ref xc2) "__getattr__"=some none)
    (xgk2:findIn K (.ref xc2) "__class__"=some (some (.builtin "object.__class__")))
    (xmb2:mroIn K xc2 (.type "BaseException")=some true)
    (xmo2:mroIn K xc2 (.type "object")=some true)
    (xmv2:mroIn K xc2 (.type "ValueError")=some true)
    (xty2:PySem.W.typeIn K (.ref xc2)=some (.type "type"))
    (xk2_0:mroIn K xc2 (.ref xc0)=some true)
    (xk2_1:mroIn K xc2 (.ref xc1)=some false) (xn2_1:xc2≠xc1)
    (xk2_2:mroIn K xc2 (.ref xc2)=some true)
    (xk2_3:mroIn K xc2 (.ref xc3)=some false) (xn2_3:xc2≠xc3)
    (xga3:findIn K (.ref xc3) "__getattribute__"=some (some (.builtin "BaseException.__getattribute__")))
    (xgn3:findIn K (.ref xc3) "__getattr__"=some none)
    (xgk3:findIn K (.ref xc3) "__class__"=some (some (.builtin "object.__class__")))
    (xmb3:mroIn K xc3 (.type "BaseException")=some true)
    (xmo3:mroIn K xc3 (.type "object")=some true)
    (xmv3:mroIn K xc3 (.type "ValueError")=some true)
    (xty3:PySem.W.typeIn K (.ref xc3)=some (.type "type"))
    (xk3_0:mroIn K xc3 (.ref xc0)=some true)
    (xk3_1:mroIn K xc3 (.ref xc1)=some false) (xn3_1:xc3≠xc1)
    (xk3_2:mroIn K xc3 (.ref xc2)=some false) (xn3_2:xc3≠xc2)
    (xk3_3:mroIn K xc3 (.ref xc3)=some true)
   :∃ (cv:XY) (fd:FuncData),(∀ (s:Shared) (v:Value),BindsTo s fd ⟨[v],[]⟩ [("_law_script",v)])/\∀ base:Heap,K.In base->base.Ns mainGlobals mg->FnOk l.prog w K mg base (CXs l.prog w) 62 fa fd ["_law_script"] (OB K cv (callI defs 31 39)):=by
  have e:=hfa.symm.trans (Y15 X G a);cases e;have T:Tab l.prog w K mg defs zh:=by
    refine ⟨λ x hx=>?_,λ x c hx=>?_,λ i d hd hnc=>?_,λ x i hx=>?_⟩
    · exact PySem.W.mg_none_of X G (z.mem hx)
    · simp only [zh,Y03,Y0f,or_false] at hx;rcases hx with hq | hq | hq | hq | hq | hq | hq | hq
      · cases hq;exact ⟨by decide,_,Y15 X G ga0,z58 gl0 ge0 102⟩
      · cases hq;exact ⟨by decide,_,Y15 X G ga1,117⟩
      · cases hq;exact ⟨by decide,_,Y15 X G ga2,117⟩
      · cases hq;exact ⟨by decide,_,Y15 X G ga3,117⟩
      · cases hq;exact ⟨by decide,_,Y15 X G xa0,_,_,_,_,_,rfl,xe0,Y23,by decide⟩
      · cases hq;exact ⟨by decide,_,Y15 X G xa1,_,_,_,_,_,rfl,xe1,Y23,by decide⟩
      · cases hq;exact ⟨by decide,_,Y15 X G xa2,_,_,_,_,_,rfl,xe2,Y23,by decide⟩
      · cases hq;exact ⟨by decide,_,Y15 X G xa3,_,_,_,_,_,rfl,xe3,Y23,by decide⟩
    · match i,hd,hnc with
      | 0,hd,_=>cases hd;exact e0.row X G rfl 102 Ug
      | 1,hd,_=>cases hd;exact e1.row X G rfl 102 Zv
      | 2,hd,_=>cases hd;exact e2.row X G rfl 102 z2l
      | 3,hd,_=>cases hd;exact e3.row X G rfl 102 Jx
      | 4,hd,_=>cases hd;exact e4.row X G rfl 102 Z7
      | 5,hd,_=>cases hd;exact e5.row X G rfl 102 Zw
      | 6,hd,_=>cases hd;exact e6.row X G rfl 102 Jy
      | 7,hd,_=>cases hd;exact e7.row X G rfl 102 Qx
      | 8,hd,_=>cases hd;exact e8.row X G rfl 102 z2m
      | 9,hd,_=>cases hd;exact e9.row X G rfl 102 yl
      | 10,hd,_=>cases hd;exact e10.row X G rfl 102 Z8
      | 11,hd,_=>cases hd;exact e11.row X G rfl 102 Jz
      | 12,hd,_=>cases hd;exact e12.row X G rfl 102 Qy
      | 13,hd,_=>cases hd;exact e13.row X G rfl 102 JL
      | 14,hd,_=>cases hd;exact e14.row X G rfl 102 Zx
      | 15,hd,_=>cases hd;exact e15.row X G rfl 102 Uh
      | 16,hd,_=>cases hd;exact e16.row X G rfl 102 Ui
      | 17,hd,_=>cases hd;exact e17.row X G rfl 102 Yi
      | 18,hd,_=>cases hd;exact e18.row X G rfl 102 Uj
      | 19,hd,_=>cases hd;exact e19.row X G rfl 102 Uk
      | 20,hd,_=>cases hd;exact e20.row X G rfl 102 Ul
      | 21,hd,_=>cases hd;exact e21.row X G rfl 102 Um
      | 22,hd,_=>cases hd;exact e22.row X G rfl 102 JM
      | 23,hd,_=>cases hd;exact e23.row X G rfl 102 Yj
      | 24,hd,_=>cases hd;exact e24.row X G rfl 102 JN
      | 25,hd,_=>cases hd;exact e25.row X G rfl 102 Qz
      | 26,hd,_=>cases hd;exact e26.row X G rfl 102 Go
      | 27,hd,_=>cases hd;exact e27.row X G rfl 102 QA
      | 28,hd,_=>cases hd;exact e28.row X G rfl 102 Yk
      | 29,hd,_=>cases hd;exact e29.row X G rfl 102 JO
      | 30,hd,_=>cases hd;exact e30.row X G rfl 102 JA
      | 31,hd,_=>cases hd;exact e31.row X G rfl 102 Zy
      | 32,hd,_=>cases hd;exact e32.row X G rfl 102 QB
      | 33,hd,_=>cases hd;exact e33.row X G rfl 102 Yl
      | 34,hd,_=>cases hd;exact e34.row X G rfl 102 JP
      | 35,hd,_=>cases hd;exact e35.row X G rfl 102 Uo
      | 36,hd,_=>cases hd;exact e36.row X G rfl 102 Ym
      | 37,hd,_=>cases hd;exact e37.row X G rfl 102 Up
      | 38,hd,_=>cases hd;exact e38.row X G rfl 102 JQ
      | 39,hd,_=>cases hd;exact ⟨by decide,_,_,_,Y15 X G a,a,YA (st:=top 51) l39 c39 k39,o_law⟩
      | n+40,hd,_=>exact absurd hd (by simp [defs])
    · simp only [zh,Y03,Y0f,or_false] at hx;rcases hx with hq | hq | hq | hq | hq | hq | hq | hq
      · cases hq
      · cases hq
      · cases hq
      · cases hq
      · cases hq
      · cases hq
      · cases hq
      · cases hq
  have XC:z32 K mg (λ c=>([.ref xc0,.ref xc1,.ref xc2,.ref xc3]:List Value).getD c .none) zh:=by
    intro x c u hx;simp only [zh,Y03,Y0f,or_false] at hx;rcases hx with hq | hq | hq | hq | hq | hq | hq | hq
    · cases hq
    · cases hq
    · cases hq
    · cases hq
    · cases hq;refine ⟨Y15 X G xa0,λ D hD=>?_,_,rfl,WP xl0 xga0 xgn0 xgk0 xmb0 xmo0,WQ xmv0,λ y d w hy=>?_⟩;rotate_left
      · simp only [zh,Y03,Y0f,or_false] at hy;rcases hy with hq | hq | hq | hq | hq | hq | hq | hq
        · cases hq
        · cases hq
        · cases hq
        · cases hq
        · cases hq;exact j2 xl0 xty0 xk0_0 (.inl rfl)
        · cases hq;exact j2 xl1 xty1 xk0_1 (.inr xn0_1)
        · cases hq;exact j2 xl2 xty2 xk0_2 (.inr xn0_2)
        · cases hq;exact j2 xl3 xty3 xk0_3 (.inr xn0_3)
      simp only [Y03,Y0f,or_false] at hD;rcases hD with rfl
      · exact ⟨_,_,rfl,rfl,⟨_,_,xe0⟩,_,_,_,_,xl0,xm0_0⟩
    · cases hq;refine ⟨Y15 X G xa1,λ D hD=>?_,_,rfl,WP xl1 xga1 xgn1 xgk1 xmb1 xmo1,WQ xmv1,λ y d w hy=>?_⟩;rotate_left
      · simp only [zh,Y03,Y0f,or_false] at hy;rcases hy with hq | hq | hq | hq | hq | hq | hq | hq
        · cases hq
        · cases hq
        · cases hq
        · cases hq
        · cases hq;exact j2 xl0 xty0 xk1_0 (.inl rfl)
        · cases hq;exact j2 xl1 xty1 xk1_1 (.inl rfl)
        · cases hq;exact j2 xl2 xty2 xk1_2 (.inr xn1_2)
        · cases hq;exact j2 xl3 xty3 xk1_3 (.inr xn1_3)
      simp only [Y03,Y0f,or_false] at hD;rcases hD with rfl | rfl
      · exact ⟨_,_,rfl,rfl,⟨_,_,xe1⟩,_,_,_,_,xl1,xm1_1⟩
      · exact ⟨_,_,rfl,rfl,⟨_,_,xe1⟩,_,_,_,_,xl1,xm1_0⟩
    · cases hq;refine ⟨Y15 X G xa2,λ D hD=>?_,_,rfl,WP xl2 xga2 xgn2 xgk2 xmb2 xmo2,WQ xmv2,λ y d w hy=>?_⟩;rotate_left
      · simp only [zh,Y03,Y0f,or_false] at hy;rcases hy with hq | hq | hq | hq | hq | hq | hq | hq
        · cases hq
        · cases hq
        · cases hq
        · cases hq
        · cases hq;exact j2 xl0 xty0 xk2_0 (.inl rfl)
        · cases hq;exact j2 xl1 xty1 xk2_1 (.inr xn2_1)
        · cases hq;exact j2 xl2 xty2 xk2_2 (.inl rfl)
        · cases hq;exact j2 xl3 xty3 xk2_3 (.inr xn2_3)
      simp only [Y03,Y0f,or_false] at hD;rcases hD with rfl | rfl
      · exact ⟨_,_,rfl,rfl,⟨_,_,xe2⟩,_,_,_,_,xl2,xm2_2⟩
      · exact ⟨_,_,rfl,rfl,⟨_,_,xe2⟩,_,_,_,_,xl2,xm2_0⟩
    · cases hq;refine ⟨Y15 X G xa3,λ D hD=>?_,_,rfl,WP xl3 xga3 xgn3 xgk3 xmb3 xmo3,WQ xmv3,λ y d w hy=>?_⟩;rotate_left
      · simp only [zh,Y03,Y0f,or_false] at hy;rcases hy with hq | hq | hq | hq | hq | hq | hq | hq
        · cases hq
        · cases hq
        · cases hq
        · cases hq
        · cases hq;exact j2 xl0 xty0 xk3_0 (.inl rfl)
        · cases hq;exact j2 xl1 xty1 xk3_1 (.inr xn3_1)
        · cases hq;exact j2 xl2 xty2 xk3_2 (.inr xn3_2)
        · cases hq;exact j2 xl3 xty3 xk3_3 (.inl rfl)
      simp only [Y03,Y0f,or_false] at hD;rcases hD with rfl | rfl
      · exact ⟨_,_,rfl,rfl,⟨_,_,xe3⟩,_,_,_,_,xl3,xm3_3⟩
      · exact ⟨_,_,rfl,rfl,⟨_,_,xe3⟩,_,_,_,_,xl3,xm3_0⟩
  refine ⟨λ c=>([.ref xc0,.ref xc1,.ref xc2,.ref xc3]:List Value).getD c .none,PySem.W.fnOf "law" "law" (jL (top 51)) (j7 (top 51)) (zr (top 51)) .none kV dc pm an cd ct,λ s v=>.of_eq rfl,λ base _ _=>?_⟩;exact YY T XC 31 39 d_law _ _ (top 51) _ _ rfl (YA (st:=top 51) l39 c39 k39) o_law
end K19
end
namespace PySem.W.Fast
noncomputable def tw16781648254174119439 := ()
noncomputable def tw9110672720225464591 := ()
noncomputable def tw5825426371545323210 := ()
noncomputable def tw7002406917736236993 := ()
noncomputable def tw14605593556888353320 := ()
noncomputable def tw14523933584674479509 := ()
noncomputable def tw8679818559039414285 := ()
noncomputable def tw10624726507199501839 := ()
noncomputable def tw15441734336119402133 := ()
noncomputable def tw11950706100430014570 := ()
noncomputable def tw15801075034089318224 := ()
noncomputable def tw7446667148629597644 := ()
noncomputable def tw15280709764289294227 := ()
noncomputable def tw18154572428384188936 := ()
noncomputable def tw7817920455513821482 := ()
noncomputable def tw3539677769982458149 := ()
noncomputable def tw15408946943631145985 := ()
noncomputable def tw10285758810838579170 := ()
noncomputable def tw13477352117988221465 := ()
noncomputable def tw4273316283608796879 := ()
noncomputable def tw10881440314803354618 := ()
noncomputable def tw195455724747053837 := ()
noncomputable def tw2209308920496434262 := ()
noncomputable def tw6258592651560472401 := ()
noncomputable def tw2986251179958486371 := ()
noncomputable def tw5557626706789029670 := ()
noncomputable def tw17821459949950408364 := ()
noncomputable def tw7202583875224585211 := ()
noncomputable def tw14825636416538839138 := ()
noncomputable def tw4321676944715600022 := ()
noncomputable def tw10481292740020599949 := ()
noncomputable def tw2837020342059979221 := ()
noncomputable def tw6436273981268877973 := ()
noncomputable def tw17434237278206074143 := ()
noncomputable def tw2153699413381211044 := ()
noncomputable def tw9423647715012554407 := ()
noncomputable def tw18015535990992371135 := ()
noncomputable def tw6627002510873592628 := ()
noncomputable def tw1242369651294398459 := ()
noncomputable def tw4388499943703248516 := ()
noncomputable def tw14838787991845134984 := ()
noncomputable def tw6572118964814609183 := ()
noncomputable def tw616471338871323850 := ()
noncomputable def tw12055442398700142916 := ()
noncomputable def tw1357528723498101327 := ()
noncomputable def tw13577352177493986384 := ()
noncomputable def tw8187589733698932555 := ()
noncomputable def tw3727151721416085713 := ()
noncomputable def tw9597439017479913075 := ()
noncomputable def tw14244987170292959715 := ()
noncomputable def tw15315274570968413687 := ()
noncomputable def tw11353507851649557860 := ()
noncomputable def tw365191284510629152 := ()
noncomputable def tw2006584976798573324 := ()
noncomputable def tw8005134009339018665 := ()
noncomputable def tw10507427064091653154 := ()
noncomputable def tw3088208029629395661 := ()
noncomputable def tw9457056391709678897 := ()
noncomputable def tw4098629008094330485 := ()
noncomputable def tw10187749026884374911 := ()
noncomputable def tw339451170093434984 := ()
noncomputable def tw8801727741547342991 := ()
noncomputable def tw6059511128887506276 := ()
noncomputable def tw3364547088871006210 := ()
noncomputable def tw2960160918181271163 := ()
noncomputable def tw12550119029313675036 := ()
noncomputable def tw16461730677226844048 := ()
noncomputable def tw457245207185047250 := ()
noncomputable def tw9749705897979330347 := ()
noncomputable def tw16592235088916302972 := ()
noncomputable def tw845892344147850115 := ()
noncomputable def tw13693884038209242540 := ()
noncomputable def tw5125727379326118047 := ()
noncomputable def tw6768246817128055156 := ()
noncomputable def tw10619458638415675513 := ()
noncomputable def tw6913897596073973617 := ()
noncomputable def tw9075151846631962894 := ()
noncomputable def tw8725060548097384142 := ()
noncomputable def tw5599582165910100160 := ()
noncomputable def tw3502262940764537798 := ()
noncomputable def tw4328167693757416961 := ()
noncomputable def tw17857975136029345553 := ()
noncomputable def tw1490170290696210473 := ()
noncomputable def tw8327011818533347273 := ()
noncomputable def tw6064877909922601899 := ()
noncomputable def tw11387899907820637046 := ()
noncomputable def tw16982310134735970735 := ()
noncomputable def tw5585790708574096788 := ()
noncomputable def tw3951943775064180915 := ()
noncomputable def tw14013816983390239332 := ()
noncomputable def tw8670534664678969770 := ()
noncomputable def tw12080456679028877322 := ()
noncomputable def tw6342514364237732479 := ()
noncomputable def tw8015188504680461337 := ()
noncomputable def tw9154647592877776489 := ()
noncomputable def tw1927198915778173123 := ()
noncomputable def tw576990670207316369 := ()
noncomputable def tw17989032100645471072 := ()
noncomputable def tw9428596044732660759 := ()
noncomputable def tw12408180385619977232 := ()
noncomputable def tw13904835498530700217 := ()
noncomputable def tw16993918385033293133 := ()
noncomputable def tw5426210584703038366 := ()
noncomputable def tw16239698945149355631 := ()
noncomputable def tw18177268318405178365 := ()
noncomputable def tw3714378699926699736 := ()
noncomputable def tw8387543353029036464 := ()
noncomputable def tw18103215073419306288 := ()
noncomputable def tw16090043612740222091 := ()
noncomputable def tw5024369848688597769 := ()
noncomputable def tw6851856031919446283 := ()
noncomputable def tw11354614564941713002 := ()
noncomputable def tw12825362930397038376 := ()
noncomputable def tw4246145022150476852 := ()
noncomputable def tw17213177592052137542 := ()
noncomputable def tw12556707858517663147 := ()
noncomputable def tw10842866756429592623 := ()
noncomputable def tw17631039882291637268 := ()
noncomputable def tw1519442964214531960 := ()
noncomputable def tw1853555332780948739 := ()
noncomputable def tw13099522192207377602 := ()
noncomputable def tw12070471198797582386 := ()
noncomputable def tw9815968045587143416 := ()
noncomputable def tw17266352467596379785 := ()
noncomputable def tw16237244962986827793 := ()
noncomputable def tw5370735926258582844 := ()
noncomputable def tw9044484679783106955 := ()
noncomputable def tw10769774049455495159 := ()
noncomputable def tw17430406899880951695 := ()
noncomputable def tw7517218593644541976 := ()
noncomputable def tw7377713092683517111 := ()
noncomputable def tw15352606213590579683 := ()
noncomputable def tw13076881668981395545 := ()
noncomputable def tw15050798279307180732 := ()
noncomputable def tw11838384989362649214 := ()
noncomputable def tw3753432222650838637 := ()
noncomputable def tw9543167138753344432 := ()
noncomputable def tw16501884690289664631 := ()
noncomputable def tw821869804213909599 := ()
noncomputable def tw7433227288374018765 := ()
noncomputable def tw14616038382351257100 := ()
end PySem.W.Fast
open PySem PySem.W
set_option maxRecDepth 100000 in
set_option maxHeartbeats 0 in
theorem PySem.Challenge.cw_deedwright_k19_the_first_wrong_thing_holds : PySem.Challenge.rw_deedwright_k19_the_first_wrong_thing.Holds := by
 w_on;o_law;k_head;(case hw=>w_witness2)
 k_fill
 refine PI.walk_ofB (l:=PySem.Challenge.rw_deedwright_k19_the_first_wrong_thing) (k:=62) (c:=PI.callI K19.defs 31 39) (x:="_law_script") rfl rfl ⟨rfl,by decide,by decide⟩ (λ w h Y=>PySem.W.kIn_of Y) ?F ?S
 case F =>
  intro w mg fa h KX G hmg;refine' K19.all_mk (l:=PySem.Challenge.rw_deedwright_k19_the_first_wrong_thing) (w:=w) KX G hmg (K19.fnk ?a0 ?l0 ?c0 ?k0) (K19.fnk ?a1 ?l1 ?c1 ?k1) (K19.fnk ?a2 ?l2 ?c2 ?k2) (K19.fnk ?a3 ?l3 ?c3 ?k3) (K19.fnk ?a4 ?l4 ?c4 ?k4) (K19.fnk ?a5 ?l5 ?c5 ?k5) (K19.fnk ?a6 ?l6 ?c6 ?k6) (K19.fnk ?a7 ?l7 ?c7 ?k7) (K19.fnk ?a8 ?l8 ?c8 ?k8) (K19.fnk ?a9 ?l9 ?c9 ?k9) (K19.fnk ?a10 ?l10 ?c10 ?k10) (K19.fnk ?a11 ?l11 ?c11 ?k11) (K19.fnk ?a12 ?l12 ?c12 ?k12) (K19.fnk ?a13 ?l13 ?c13 ?k13) (K19.fnk ?a14 ?l14 ?c14 ?k14) (K19.fnk ?a15 ?l15 ?c15 ?k15) (K19.fnk ?a16 ?l16 ?c16 ?k16) (K19.fnk ?a17 ?l17 ?c17 ?k17) (K19.fnk ?a18 ?l18 ?c18 ?k18) (K19.fnk ?a19 ?l19 ?c19 ?k19) (K19.fnk ?a20 ?l20 ?c20 ?k20) (K19.fnk ?a21 ?l21 ?c21 ?k21) (K19.fnk ?a22 ?l22 ?c22 ?k22) (K19.fnk ?a23 ?l23 ?c23 ?k23) (K19.fnk ?a24 ?l24 ?c24 ?k24) (K19.fnk ?a25 ?l25 ?c25 ?k25) (K19.fnk ?a26 ?l26 ?c26 ?k26) (K19.fnk ?a27 ?l27 ?c27 ?k27) (K19.fnk ?a28 ?l28 ?c28 ?k28) (K19.fnk ?a29 ?l29 ?c29 ?k29) (K19.fnk ?a30 ?l30 ?c30 ?k30) (K19.fnk ?a31 ?l31 ?c31 ?k31) (K19.fnk ?a32 ?l32 ?c32 ?k32) (K19.fnk ?a33 ?l33 ?c33 ?k33) (K19.fnk ?a34 ?l34 ?c34 ?k34) (K19.fnk ?a35 ?l35 ?c35 ?k35) (K19.fnk ?a36 ?l36 ?c36 ?k36) (K19.fnk ?a37 ?l37 ?c37 ?k37) (K19.fnk ?a38 ?l38 ?c38 ?k38) ?a39 ?l39 ?c39 ?k39 ⟨?_,?_,?_,?_,?_,?_,?_,?_,?_,?_,?_,?_,?_,?_,?_,?_,?_,?_,?_,?_,?_,⟨⟩⟩ ?ga0 ?gl0 ?ge0 ?ga1 ?ga2 ?ga3 ?xa0 ?xl0 ?xe0 ?xa1 ?xl1 ?xe1 ?xa2 ?xl2 ?xe2 ?xa3 ?xl3 ?xe3 ?xm0_0 ?xm1_1 ?xm1_0 ?xm2_2 ?xm2_0 ?xm3_3 ?xm3_0 ?xga0 ?xgn0 ?xgk0 ?xmb0 ?xmo0 ?xmv0 ?xty0 ?xk0_0 ?xk0_1 ?xn0_1 ?xk0_2 ?xn0_2 ?xk0_3 ?xn0_3 ?xga1 ?xgn1 ?xgk1 ?xmb1 ?xmo1 ?xmv1 ?xty1 ?xk1_0 ?xk1_1 ?xk1_2 ?xn1_2 ?xk1_3 ?xn1_3 ?xga2 ?xgn2 ?xgk2 ?xmb2 ?xmo2 ?xmv2 ?xty2 ?xk2_0 ?xk2_1 ?xn2_1 ?xk2_2 ?xk2_3 ?xn2_3 ?xga3 ?xgn3 ?xgk3 ?xmb3 ?xmo3 ?xmv3 ?xty3 ?xk3_0 ?xk3_1 ?xn3_1 ?xk3_2 ?xn3_2 ?xk3_3
  all_goals try k_is
  (case ge0=>(refine ⟨⟨rfl,117,?hx⟩,?hr⟩;(case hx=>exact 117);(case hr=>(refine ⟨⟨rfl,117,?hx⟩,?hr⟩;(case hx=>exact 117);(case hr=>(refine ⟨⟨rfl,117,?hx⟩,?hr⟩;(case hx=>exact 117);(case hr=>(refine ⟨⟨rfl,117,?hx⟩,?hr⟩;(case hx=>exact 117);(case hr=>(refine ⟨⟨rfl,117,?hx⟩,?hr⟩;(case hx=>exact 117);(case hr=>(refine ⟨⟨rfl,117,?hx⟩,?hr⟩;(case hx=>exact 117);(case hr=>(refine ⟨⟨rfl,117,?hx⟩,?hr⟩;(case hx=>exact 117);(case hr=>(refine ⟨⟨rfl,117,?hx⟩,?hr⟩;(case hx=>exact 117);(case hr=>(refine ⟨⟨rfl,117,?hx⟩,?hr⟩;(case hx=>exact 117);(case hr=>exact trivial)))))))))))))))))))
  (case xe0=>k_exc)
  (case xe1=>k_exc)
  (case xe2=>k_exc)
  (case xe3=>k_exc)
  (case xm0_0=>rfl)
  (case xm1_1=>rfl)
  (case xm1_0=>rfl)
  (case xm2_2=>rfl)
  (case xm2_0=>rfl)
  (case xm3_3=>rfl)
  (case xm3_0=>rfl)
  (case xn0_1=>decide)
  (case xn0_2=>decide)
  (case xn0_3=>decide)
  (case xn1_2=>decide)
  (case xn1_3=>decide)
  (case xn2_1=>decide)
  (case xn2_3=>decide)
  (case xn3_1=>decide)
  (case xn3_2=>decide)
 case S =>
  exact λ ns _ hb=>K19.law_true ns λ n hn=>decide_eq_true (hb n hn)
#print axioms PySem.Challenge.cw_deedwright_k19_the_first_wrong_thing_holds
