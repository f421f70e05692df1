import PyProof.Rows.All
import Wide.All
import OpenK.AllK
import Wide.FinOn
import Lean
import PyProof.EqAt
import PyProof.EqKinds
import PyProof.TupleCall
import KE.KIntText
import PyProof.NeKinds
import PyProof.FString4
import PyProof.StrLawsRepr
import PyProof.ZipIter
import PyProof.TupleIter
import KE.KRevIter
import KE.KDictOf
import PyProof.AttrMissHeap
import KE.KItemsList
import PyProof.StrLawsTight
import PySem.Challenge.RW_deedwright_k44_blocks_handed_on
set_option Elab.async false
set_option linter.all false
set_option maxRecDepth 100000
noncomputable section
section
open PySem PySem.Spec PyProof.Rows PySem.W PySem.Calls
abbrev Y00:=@PySem.W.Frag
abbrev Y01:=@Heap.get?_push_of_some
abbrev Y02:=@List.mem_cons_of_mem
abbrev Y03:=@List.mem_cons_self
abbrev Y04:=@Nat.le_refl
abbrev Y05:=@Heap.lt_size
abbrev Y06:=@List.mem_cons
abbrev Y07:=@Nat.lt_of_lt_of_le
abbrev Y08:=@List.getElem?_append_right
abbrev Y09:=@List.length_cons
abbrev Y0a:=@List.mem_singleton
abbrev Y0b:=@List.size_toArray
abbrev Y0c:=@Heap.get?_push_size
abbrev Y0d:=@List.length_map
abbrev Y0e:=@List.getElem?_eq_some_iff
abbrev Y0f:=@List.getElem?_eq_getElem
abbrev Y0g:=@Nat.ne_of_lt
abbrev Y0h:=@List.length_append
abbrev Y0i:=@List.map_cons
abbrev Y0j:=@Nat.le_of_ble_eq_true
abbrev Y0k:=@List.not_mem_nil
abbrev Y0l:=@List.append_assoc
abbrev Y0m:=@List.mem_append_right
abbrev Y0n:=@List.getElem?_set_self
abbrev Y0o:=@PySem.W.mg_none_of
abbrev Y0p:=@Bool.and_eq_true
abbrev Y0q:=@List.getD_eq_getElem?_getD
abbrev Y0r:=@List.length_set
abbrev Y0s:=@Nat.lt_irrefl
abbrev Y0t:=@Bool.false_ne_true
abbrev Y0u:=@List.getElem?_map
abbrev Y0v:=@PySem.mem_of_lookup
abbrev Y0w:=@List.mem_map
abbrev Y0x:=@PyProof.Rows.callWith_type1
abbrev Y0y:=@List.append_nil
abbrev Y0z:=@List.mem_append_left
abbrev Y10:=@List.getElem?_append_left
abbrev Y11:=@Nat.sub_self
abbrev Y12:=@Heap.get?_update_self
abbrev Y13:=@PySem.W.kia_one
abbrev Y14:=@List.nil_append
abbrev Y15:=@Nat.le_trans
abbrev Y16:=@Heap.get?_update_other
abbrev Y17:=@Nat.ne_of_gt
abbrev Y18:=@List.mem_range'_1
abbrev Y19:=@List.mem_append
abbrev Y1a:=@PySem.W.mg_of
abbrev Y1b:=@List.filterMap_cons
abbrev Y1c:=@PySem.F.slot_zip_next
abbrev Y1d:=@Nat.zero_le
abbrev Y1e:=@List.mem_of_getElem?
abbrev Y1f:=@List.getElem?_set_ne
abbrev Y1g:=@Heap.size_push
abbrev Y1h:=@Array.getElem?_eq_getElem
abbrev Y1i:=@List.nodup_cons
abbrev Y1j:=@List.find?_cons
abbrev Y1k:=@List.all_eq_true
abbrev Y1l:=@List.any_cons
abbrev Y1m:=@List.reverse_cons
abbrev Y1n:=@List.replicate_succ
abbrev Y1o:=@List.map_append
abbrev Y1p:=@List.length_reverse
abbrev Y1q:=@PySem.F.slot_tuple_iterator_next
abbrev Y1r:=@List.getElem?_of_mem
abbrev Y1s:=@PyProof.Rows.slot_tuple_getitem
abbrev Y1t:=@List.length_nil
abbrev Y1u:=@Int.toNat_natCast
abbrev Y1v:=@Nat.add_sub_cancel_left
abbrev Y1w:=@Array.length_toList
abbrev Y1x:=@Nat.lt_succ_self
abbrev Y1y:=@List.length_take
abbrev Y1z:=@PySem.W.cellsFrom_some
abbrev Y20:=@Int.emod_lt_of_pos
abbrev Y21:=@Bool.false_eq_true
abbrev Y22:=@Nat.lt_trans
abbrev Y23:=@List.set_append_right
abbrev Y24:=@List.forIn_cons
abbrev Y25:=@Int.emod_nonneg
abbrev Y26:=@Nat.lt_succ_of_lt
abbrev Y27:=@List.flatten_cons
abbrev Y28:=@Heap.get?_none_of_le
abbrev Y29:=@List.forIn_nil
abbrev Y2a:=@List.range'_succ
abbrev Y2b:=@List.lookup_cons
abbrev Y2c:=@F.plain_extend_loop
abbrev Y2d:=@Option.isSome_iff_exists
abbrev Y2e:=@List.map_nil
abbrev Y2f:=@PySem.F.args_zip_next_1
abbrev Y2g:=@List.of_mem_zip
abbrev Y2h:=@PySem.F.entry_zip_next
abbrev Y2i:=@Array.getElem?_eq_none
abbrev Y2j:=@Bool.eq_false_iff
abbrev Y2k:=@Nat.le_of_lt
abbrev Y2l:=@List.map_map
abbrev Y2m:=@List.length_replicate
abbrev Y2n:=@Option.map_some
abbrev Y2o:=@Nat.le_succ
abbrev Y2p:=@List.length_zip
abbrev Y2q:=@List.filterMap_map
abbrev Y2r:=@List.getElem?_zip_eq_some
abbrev Y2s:=@PySem.W.kitx_list
abbrev Y2t:=@PySem.F.args_tuple_add_2
abbrev Y2u:=@PySem.F.entry_tuple_add
abbrev Y2v:=@List.pairwise_lt_range'
abbrev Y2w:=@List.all_cons
abbrev Y2x:=@Nat.le_add_right
abbrev Y2y:=@List.zipIdx_cons
abbrev Y2z:=@List.mem_reverse
abbrev Y30:=@List.length_drop
abbrev Y31:=@PySem.F.slot_tuple_add
abbrev Y32:=@List.find?_cons_of_pos
abbrev Y33:=@List.find?_cons_of_neg
abbrev Y34:=@List.zipIdx_nil
abbrev Y35:=@List.length_singleton
abbrev Y36:=@List.getElem?_reverse
abbrev Y37:=@Array.getElem?_toList
abbrev Y38:=@PySem.W.hideAll_none
abbrev Y39:=@List.mem_range
abbrev Y3a:=@Nat.add_lt_add_left
abbrev Y3b:=@PySem.F.args_tuple_iterator_next_1
abbrev Y3c:=@PySem.W.callWith_K
abbrev Y3d:=@PySem.F.entry_tuple_iterator_next
abbrev Y3e:=@Nat.lt_of_le_of_lt
abbrev Y3f:=@List.mem_filterMap
abbrev Y3g:=@List.map_take
abbrev Y3h:=@List.lookup_append
abbrev Y3i:=@Option.isSome_map
abbrev Y3j:=@Option.getD_some
abbrev Y3k:=@Option.bind_some
end
namespace L2
open PySem PySem.Spec PyProof.Rows
abbrev Key:=Sum Int Str
def Jx:Key->Value->Bool
 | .inl k,v=>Value.isInt k v
 | .inr x,v=>Value.isStrOf x v
def z5h (w:World):Key->Int
 | .inl k=>hashInt k
 | .inr x=>hashStr w x
theorem zJ:∀ {k:Key}{v:Value},Jx k v=true->(∃ i t,k=Sum.inl i/\v=Value.int i t)\/(∃ x t,k=Sum.inr x/\v=Value.str x t)
 | .inl i,v,h=>by
  obtain ⟨t,e⟩:=Value.isInt_shape (k:=i) (v:=v) h;exact .inl ⟨i,t,rfl,e⟩
 | .inr x,v,h=>by
  obtain ⟨t,e⟩:=Value.isStrOf_shape (x:=x) (v:=v) h;exact .inr ⟨x,t,rfl,e⟩
theorem UN (i:Int)(t:Tok):Jx (.inl i) (.int i t)=true:=by simp [Jx,Value.isInt]
theorem UO (x:Str)(t:Tok):Jx (.inr x) (.str x t)=true:=by simp [Jx,Value.isStrOf]
theorem z0y (a b:Int):decide ((Sum.inl a:Key)=Sum.inl b)=(a==b):=by
 by_cases e:a=b
 ·subst e;simp
 ·have h:¬ (Sum.inl a:Key)=Sum.inl b:=λ q=>e (Sum.inl.inj q);rw [decide_eq_false h];exact (beq_eq_false_iff_ne.mpr e).symm
theorem z0z (a b:Str):decide ((Sum.inr a:Key)=Sum.inr b)=decide (a=b):=by
 by_cases e:a=b
 ·subst e;simp
 ·have h:¬ (Sum.inr a:Key)=Sum.inr b:=λ q=>e (Sum.inr.inj q);rw [decide_eq_false h,decide_eq_false e]
theorem z1a (a:Int)(b:Str):decide ((Sum.inl a:Key)=Sum.inr b)=false:=decide_eq_false (λ q=>nomatch q)
theorem z1b (a:Str)(b:Int):decide ((Sum.inr a:Key)=Sum.inl b)=false:=decide_eq_false (λ q=>nomatch q)
def zB (prog:Program)(w:World):PySem.KeyKind prog w Key where
 is:=Jx
 hash:=z5h w
 inj:=λ v a b ha hb=>by
  rcases zJ ha with ⟨i,t,rfl,rfl⟩ | ⟨x,t,rfl,rfl⟩
  ·rcases zJ hb with ⟨j,u,rfl,e⟩ | ⟨y,u,rfl,e⟩
   ·injection e with e1 _;rw [e1]
   ·exact nomatch e
  ·rcases zJ hb with ⟨j,u,rfl,e⟩ | ⟨y,u,rfl,e⟩
   ·exact nomatch e
   ·injection e with e1 _;rw [e1]
 byValue:=λ k v h=>by
  rcases zJ h with ⟨i,t,rfl,rfl⟩ | ⟨x,t,rfl,rfl⟩<;>rfl
 pyHash:=λ hv h=>by
  rcases zJ hv with ⟨i,t,rfl,rfl⟩ | ⟨x,t,rfl,rfl⟩
  ·exact wpAny_pyHash_int h
  ·exact wpAny_pyHash_str h
 eqBool:=λ hu hv h=>by
  rcases zJ hu with ⟨i,t,rfl,rfl⟩ | ⟨x,t,rfl,rfl⟩
  ·rcases zJ hv with ⟨j,u,rfl,rfl⟩ | ⟨y,u,rfl,rfl⟩
   ·rw [z0y] at h;exact wpAny_eqBool_int h
   ·rw [z1a] at h;exact SeqAt.EqAt.int_str i t y u _ _ _ _ h
  ·rcases zJ hv with ⟨j,u,rfl,rfl⟩ | ⟨y,u,rfl,rfl⟩
   ·rw [z1b] at h;exact SeqAt.EqAt.str_int x t j u _ _ _ _ h
   ·rw [z0z] at h;exact wpAny_eqBool_str h
 «strs»:=λ k x t v h=>by
  rcases zJ h with ⟨i,u,rfl,e⟩ | ⟨y,u,rfl,e⟩
  ·exact nomatch e
  ·injection e with e1 _;subst e1;cases v<;>rfl
theorem Q2 (prog:Program)(w:World)(i:Int)(t:Tok):(zB prog w).is (.inl i) (.int i t)=true:=UN i t
theorem Q3 (prog:Program)(w:World)(x:Str)(t:Tok):(zB prog w).is (.inr x) (.str x t)=true:=UO x t
inductive V where
 | non | bl (b:Bool) | int (i:Int) | str (x:Str) | byt (b:Array UInt8) | flt (b:UInt64) | ref (a:Addr) | ty (n:String)
 deriving DecidableEq
def RelV:V->Value->Prop
 | .non,u=>u=Value.none
 | .bl b,u=>u=Value.bool b
 | .int i,u=>∃ t,u=Value.int i t
 | .str x,u=>∃ t,u=Value.str x t
 | .byt b,u=>∃ t,u=Value.bytes b t
 | .flt b,u=>∃ t,u=Value.float b t
 | .ref a,u=>u=Value.ref a
 | .ty n,u=>u=Value.type n
abbrev Vals:List V->List Value->Prop:=Paired RelV
theorem Vals.length {xs:List V}{us:List Value}(r:Vals xs us):xs.length=us.length:=Paired.length r
theorem Vals.get:∀ {xs:List V}{us:List Value}{i:Nat}{x:V},Vals xs us->xs[i]?=some x->∃ u,us[i]?=some u/\RelV x u
 | _,_,_,_,.nil,e=>by simp at e
 | _,_,0,_,.cons r _,e=>by simp at e;subst e;exact ⟨_,rfl,r⟩
 | _,_,i+1,x,.cons _ t,e=>by
  obtain ⟨u,h1,h2⟩:=Vals.get (i:=i) (x:=x) t (by simpa using e);exact ⟨u,by simpa using h1,h2⟩
theorem Vals.set {x:V}{u:Value}(r:RelV x u):∀ {xs:List V}{us:List Value} (i:Nat),Vals xs us->Vals (xs.set i x) (us.set i u)
 | _,_,_,.nil=>.nil
 | _,_,0,.cons _ t=>.cons r t
 | _,_,i+1,.cons q t=>.cons q (Vals.set r i t)
theorem Vals.append:∀ {xs ys:List V}{us ws:List Value},Vals xs us->Vals ys ws->Vals (xs++ys) (us++ws)
 | _,_,_,_,.nil,s=>s
 | _,_,_,_,.cons r t,s=>.cons r (Vals.append t s)
theorem Vals.take:∀ {xs:List V}{us:List Value} (n:Nat),Vals xs us->Vals (xs.take n) (us.take n)
 | _,_,0,_=>.nil
 | _,_,_+1,.nil=>.nil
 | _,_,n+1,.cons r t=>.cons r (Vals.take n t)
theorem Vals.drop:∀ {xs:List V}{us:List Value} (n:Nat),Vals xs us->Vals (xs.drop n) (us.drop n)
 | _,_,0,r=>r
 | _,_,_+1,.nil=>.nil
 | _,_,n+1,.cons _ t=>Vals.drop n t
def RelO:Option V->Option Value->Prop
 | some v,some u=>RelV v u
 | none,none=>True
 | _,_=>False
def KV {κ:Type}:List (κ×V)->List (κ×Value)->Prop:=Paired λ (p:κ×V) (q:κ×Value)=>p.1=q.1/\RelV p.2 q.2
def kV:Key->V
 | .inl i=>.int i
 | .inr x=>.str x
inductive HO where
 | lst (xs:List V)
 | tup (xs:List V)
 | dK (kvs:List (Key×V)) | dT (kvs:List (List Key×V))
 | set (S:Int->Bool) (n:Nat)
 | ins (C dx:Addr) (fs:List (Str×V))
 | own (x:Addr)
 | xd (fs:List (Str×V))
 | met (f x:Addr)
 | rng (lo hi:Int)
 | frz (o:Obj) (u:HO)
 | tbl (ps:Array Value)
 | ext (φ:Heap->Prop)
abbrev Hp:=Addr->Option HO
def upd (H:Hp)(a:Addr)(o:HO):Hp:=λ b=>if b=a then some o else H b
theorem zx {H:Hp}{a:Addr}{o:HO}:upd H a o a=some o:=by unfold upd;rw [if_pos rfl]
theorem zo {H:Hp}{a b:Addr}{o:HO}(h:b≠a):upd H a o b=H b:=by unfold upd;rw [if_neg h]
theorem z3i {H:Hp}{a b:Addr}{o u:HO}(h:H a=some o)(h':H b=some u)(d:o≠u):a≠b:=by
 intro e;subst e;rw [h] at h';exact d (Option.some.inj h')
theorem jy {H:Hp}{a b:Addr}{o:HO}(h:H a=some o)(h':H b=none):a≠b:=by
 intro e;subst e;rw [h] at h';cases h'
section
variable (P:Program)(w:World)
def ObjOk (H:Hp)(h:Heap)(a:Addr):HO->Prop
 | .lst xs=>xs.length<=sizeLine/\∃ (its:List Value) (n:Nat),Vals xs its/\h.get? a=some { cls:=.type "list",data:=.seq its.toArray n }
 | .tup xs=>xs.length<=sizeLine/\∃ its:List Value,Vals xs its/\IsTup h a its.toArray
 | .dK kvs=>kvs.length<=sizeLine/\(a==sysModules)=false/\∃ vs,KV kvs vs/\h.DictOf (zB P w) a vs
 | .dT kvs=>kvs.length<=sizeLine/\(a==sysModules)=false/\∃ xs:List (List Key×Addr×Value),
   Paired (λ (p:List Key×V) (q:List Key×Addr×Value)=>p.1=q.1/\H q.2.1=some (.tup (p.1.map kV))/\RelV p.2 q.2.2) kvs xs /\
   ∃ o es ep,h.get? a=some o/\o.ExactDict/\o.data=.dict es ep/\es.toList=xs.map (entryOfKey (tupleKind (zB P w)))/\(xs.map (·.1)).Nodup
 | .set S n=>h.SetOf (intKind P w) a S n
 | .ins C dx fs=>H dx=some (.own a)/\fs.length<=1000/\dx≠a/\h.get? a=some (PySem.W.instObj C dx) /\
   ∃ mA,h.Ns1 dx mA/\(∀ f,RelO (fs.lookup f) (mA f))/\PySem.Within mA (fs.map (·.1))
 | .own _=>∃ o,h.get? a=some o
 | .xd fs=>∃ mA,h.Ns1 a mA/\∀ f,RelO (fs.lookup f) (mA f)
 | .rng lo hi=>∃ t u v,h.get? a=some { cls:=.type "range",data:=.fields #[.int lo t,.int hi u,.int 1 v] }
 | .frz o u=>h.get? a=some o/\ObjOk H h a u
 | .tbl ps=>h.get? a=some { cls:=.none,data:=.fields ps }
 | .met f x=>h.get? a=some (PySem.W.methodObj (.ref f) (.ref x))
 | .ext φ=>φ h/\(∃ o,h.get? a=some o)/\∀ h1 h2:Heap,φ h1->(∀ o,h1.get? a=some o->h2.get? a=some o)->φ h2
def HOk (H:Hp)(h:Heap):Prop:=∀ a o,H a=some o->ObjOk P w H h a o
end
section
variable {P:Program}{w:World}{H H':Hp}{h h':Heap}{a:Addr}{o:HO}
theorem ObjOk.lt (x:ObjOk P w H h a o):a<h.objs.size:=by
 cases o with
 | lst xs=>obtain ⟨_,_,_,_,e⟩:=x;exact Y05 e
 | tup xs=>obtain ⟨_,_,_,p⟩:=x;exact p.lt
 | dK kvs=>obtain ⟨_,_,_,_,o,_,_,e,_⟩:=x;exact Y05 e
 | dT kvs=>obtain ⟨_,_,_,_,o,_,_,e,_⟩:=x;exact Y05 e
 | set S n=>obtain ⟨o,_,_,_,e,_⟩:=x;exact Y05 e
 | ins C dx fs=>obtain ⟨_,_,_,e,_⟩:=x;exact Y05 e
 | own y=>obtain ⟨_,e⟩:=x;exact Y05 e
 | xd fs=>obtain ⟨_,⟨_,_,_,e,_⟩,_⟩:=x;exact Y05 e
 | rng lo hi=>obtain ⟨_,_,_,e⟩:=x;exact Y05 e
 | frz ob u=>obtain ⟨e,_⟩:=x;exact Y05 e
 | tbl ps=>exact Y05 (show h.get? a=some _ from x)
 | met f y=>exact Y05 (show h.get? a=some _ from x)
 | ext φ=>obtain ⟨_,⟨_,e⟩,_⟩:=x;exact Y05 e
theorem Paired.mapP {α β:Type}{F G:α->β->Prop}:∀ {l₁:List α}{l₂:List β},Paired F l₁ l₂->(∀ a b,F a b->G a b)->Paired G l₁ l₂
 | _,_,.nil,_=>.nil
 | _,_,.cons r t,f=>.cons (f _ _ r) (Paired.mapP t f)
theorem ObjOk.stay (x:ObjOk P w H h a o)(k:∀ b u,(b=a\/H b=some (.own a))->h.get? b=some u->h'.get? b=some u)
  (ho:∀ b,H b=some (.own a)->H' b=some (.own a)) (ht:∀ b xs,H b=some (.tup xs)->H' b=some (.tup xs)):ObjOk P w H' h' a o:=by
 induction o with
 | lst xs=>obtain ⟨z,its,n,r,e⟩:=x;exact ⟨z,its,n,r,k _ _ (.inl rfl) e⟩
 | tup xs=>obtain ⟨z,its,r,ob,e,c⟩:=x;exact ⟨z,its,r,ob,k _ _ (.inl rfl) e,c⟩
 | dK kvs=>obtain ⟨z,y,vs,r,ob,es,ep,e,c⟩:=x;exact ⟨z,y,vs,r,ob,es,ep,k _ _ (.inl rfl) e,c⟩
 | dT kvs =>
  obtain ⟨z,y,xs,r,ob,es,ep,e,c⟩:=x;exact ⟨z,y,xs,Paired.mapP r λ p q z=>⟨z.1,ht _ _ z.2.1,z.2.2⟩,ob,es,ep,k _ _ (.inl rfl) e,c⟩
 | set S n=>obtain ⟨ob,es,ep,t,e,c⟩:=x;exact ⟨ob,es,ep,t,k _ _ (.inl rfl) e,c⟩
 | ins C dx fs =>
  obtain ⟨d,z,ne,e,mA,⟨od,es,ep,e2,c⟩,r⟩:=x;exact ⟨ho _ d,z,ne,k _ _ (.inl rfl) e,mA,⟨od,es,ep,k _ _ (.inr d) e2,c⟩,r⟩
 | own y=>obtain ⟨ob,e⟩:=x;exact ⟨ob,k _ _ (.inl rfl) e⟩
 | xd fs=>obtain ⟨mA,⟨od,es,ep,e,c⟩,r⟩:=x;exact ⟨mA,⟨od,es,ep,k _ _ (.inl rfl) e,c⟩,r⟩
 | rng lo hi=>obtain ⟨t,u,v,e⟩:=x;exact ⟨t,u,v,k _ _ (.inl rfl) e⟩
 | frz ob u ih=>obtain ⟨e,q⟩:=x;exact ⟨k _ _ (.inl rfl) e,ih q⟩
 | tbl ps =>
  have e:h.get? a=some { cls:=.none,data:=.fields ps }:=x;show h'.get? a=some { cls:=.none,data:=.fields ps };exact k a _ (.inl rfl) e
 | met f y =>
  have e:h.get? a=some (PySem.W.methodObj (.ref f) (.ref y)):=x;show h'.get? a=some (PySem.W.methodObj (.ref f) (.ref y));exact k a _ (.inl rfl) e
 | ext φ=>obtain ⟨p,⟨o,e⟩,st⟩:=x;exact ⟨st _ _ p λ o q=>k _ _ (.inl rfl) q,⟨o,k _ _ (.inl rfl) e⟩,st⟩
theorem HOk.lt (x:HOk P w H h)(e:H a=some o):a<h.objs.size:=(x a o e).lt
theorem HOk.fresh (x:HOk P w H h)(e:h.objs.size<=a):H a=none:=by
 cases q:H a with
 | none=>rfl
 | some u=>exact absurd (Y07 (x.lt q) e) (Y0s _)
theorem HOk.kept (x:HOk P w H h)(k:∀ b u,h.get? b=some u->h'.get? b=some u):HOk P w H h':=λ a o e =>
 (x a o e).stay (λ b u _ q=>k b u q) (λ _ q=>q) λ _ _ q=>q
theorem HOk.laid (x:HOk P w H h)(k:∀ b u,h.get? b=some u->h'.get? b=some u)(hp:h.objs.size<=a)(new:ObjOk P w (upd H a o) h' a o):HOk P w (upd H a o) h':=λ b u e=>by
 have hn:=x.fresh hp;by_cases hb:b=a
 ·subst hb;rw [zx] at e;cases e;exact new
 ·rw [zo hb] at e;exact (x b u e).stay (λ c v _ q=>k c v q) (λ c q=>by rw [zo (jy q hn)];exact q) λ c xs q=>by rw [zo (jy q hn)];exact q
end
def Rd (H:Hp)(a:Addr)(u:HO):Prop:=H a=some u\/∃ o,H a=some (.frz o u)
theorem Rd.ok {P:Program}{w:World}{H:Hp}{h:Heap}{a:Addr}{u:HO}(r:Rd H a u)(x:HOk P w H h):ObjOk P w H h a u:=by
 rcases r with r | ⟨o,r⟩
 ·exact x a u r
 ·obtain ⟨_,q⟩:=x a _ r;exact q
def Mut:Option HO->Prop
 | some (.lst _)=>True
 | some (.dK _)=>True
 | some (.dT _)=>True
 | some (.set _ _)=>True
 | some (.ins _ _ _)=>True
 | some (.ext _)=>True
 | _=>False
section
variable {P:Program}{w:World}{H:Hp}{h h':Heap}{x e:Addr}{o':HO}
theorem HOk.write (ok:HOk P w H h)(mu:Mut (H x))(he:e=x\/H e=some (.own x))(k:∀ b u,b≠e->h.get? b=some u->h'.get? b=some u)(heo:∃ u,h'.get? e=some u)
  (new:ObjOk P w (upd H x o') h' x o'):HOk P w (upd H x o') h':=λ b u q=>by
 have nown:∀ c y,H c=some (.own y)->c≠x:=λ c y r z=>by subst z;rw [r] at mu;exact mu
 have ntup:∀ c xs,H c=some (.tup xs)->c≠x:=λ c xs r z=>by subst z;rw [r] at mu;exact mu
 by_cases hb:b=x
 ·subst hb;rw [zx] at q;cases q;exact new
 ·rw [zo hb] at q;by_cases hbe:b=e
  ·have q':H b=some (.own x):=by
    rcases he with z | z
    ·exact absurd (hbe.trans z) hb
    ·rw [hbe];exact z
   rw [q] at q';cases q';obtain ⟨v,hv⟩:=heo;exact ⟨v,by rw [hbe];exact hv⟩
  ·refine (ok b u q).stay (λ c v hc r=>k c v ?_ r) (λ c r=>by rw [zo (nown c b r)];exact r) λ c xs r=>by rw [zo (ntup c xs r)];exact r
   rcases hc with rfl | hc
   ·exact hbe
   ·rintro rfl
    rcases he with z | z
    ·exact nown c b hc z
    ·rw [hc] at z;cases z;exact hb rfl
end
structure Un (fs ex:List Addr)(H H':Hp)(h h':Heap):Prop where
 keep:∀ b o,h.get? b=some o->H b=none->b∉fs->b∉ex->h'.get? b=some o
 slot:∀ b o,h.get? b=some o->H b=none->b∈fs->b∉ex->∃ sl,h'.get? b=some { o with slots:=sl }
 free:∀ b o,h.get? b=some o->H b=none->b∉ex->H' b=none
 there:∀ b o,h.get? b=some o->b∉ex->∃ o',h'.get? b=some o'
 tups:∀ b xs,H b=some (.tup xs)->H' b=some (.tup xs)
 frzs:∀ b o u,H b=some (.frz o u)->H' b=some (.frz o u)
 tbls:∀ b ps,H b=some (.tbl ps)->∃ more,H' b=some (.tbl (ps++more))
section
variable {fs fs' ex ex':List Addr}{H H1 H2:Hp}{h h1 h2 h':Heap}{a x e:Addr}{o:HO}
theorem Un.any (u:Un fs ex H H1 h h1){b:Addr}{ob:Obj}(q:h.get? b=some ob)(n:H b=none)(hx:b∉ex):∃ sl,h1.get? b=some { ob with slots:=sl }:=by
 by_cases hb:b∈fs
 ·exact u.slot b ob q n hb hx
 ·exact ⟨ob.slots,u.keep b ob q n hb hx⟩
theorem Un.kept (k:∀ b u,h.get? b=some u->h'.get? b=some u):Un fs ex H H h h' :=
 ⟨λ b ob q _ _ _=>k b ob q,λ b ob q _ _ _=>⟨ob.slots,k b ob q⟩,λ _ _ _ n _=>n,λ b ob q _=>⟨ob,k b ob q⟩,λ _ _ q=>q,λ _ _ _ q=>q,λ _ ps q=>⟨#[],by rw [q];simp⟩⟩
theorem Un.refl:Un fs ex H H h h:=Un.kept λ _ _ q=>q
theorem Un.laid (k:∀ b u,h.get? b=some u->h'.get? b=some u)(hp:h.objs.size<=a)(hn:H a=none):Un fs ex H (upd H a o) h h' where
 keep:=λ b u q _ _ _=>k b u q
 slot:=λ b u q _ _ _=>⟨u.slots,k b u q⟩
 free:=λ b u q n _=>by rw [zo (Y0g (Y07 (Y05 q) hp))];exact n
 there:=λ b u q _=>⟨u,k b u q⟩
 tups:=λ b xs q=>by rw [zo (jy q hn)];exact q
 frzs:=λ b u xs q=>by rw [zo (jy q hn)];exact q
 tbls:=λ b ps q=>⟨#[],by rw [zo (jy q hn),q];simp⟩
theorem Un.write (mu:Mut (H x))(he:e=x\/H e=some (.own x))(k:∀ b u,b≠e->h.get? b=some u->h'.get? b=some u)(heo:∃ u,h'.get? e=some u):Un fs ex H (upd H x o) h h':=by
 have hx:∀ b,H b=none->b≠x:=λ b n z=>by subst z;rw [n] at mu;exact mu
 have hb:∀ b,H b=none->b≠e:=λ b n z=>by
  subst z;rcases he with r | r
  ·exact hx b n r
  ·rw [n] at r;cases r
 have hm:∀ b u,H b=some u->¬ Mut (some u)->b≠x:=λ b u q nm z=>by subst z;rw [q] at mu;exact nm mu
 refine ⟨λ b u q n _ _=>k b u (hb b n) q,λ b u q n _ _=>⟨u.slots,k b u (hb b n) q⟩,λ b u q n _=>by rw [zo (hx b n)];exact n,λ b u q _=>?_,
  λ b xs q=>by rw [zo (hm b _ q λ z=>z)];exact q,λ b u xs q=>by rw [zo (hm b _ q λ z=>z)];exact q,λ b ps q=>⟨#[],by rw [zo (hm b _ q λ z=>z),q];simp⟩⟩
 by_cases hbe:b=e
 ·subst hbe;exact heo
 ·exact ⟨u,k b u hbe q⟩
end
def trk (h:Heap)(H:Hp):List Addr:=(List.range h.objs.size).filter λ a=>(H a).isSome
def Wc (h:Heap)(H:Hp):Heap:=PySem.W.hideAll h (trk h H)
theorem UP (h:Heap)(H:Hp):(Wc h H).objs.size=h.objs.size:=PySem.W.hideAll_size _ _
theorem VE {h:Heap}{H:Hp}{b:Addr}{o:Obj}(e:h.get? b=some o)(n:H b=none):(Wc h H).get? b=some o :=
 PySem.W.hideAll_get _ e λ hm=>by
  have q:(H b).isSome=true:=(List.mem_filter.mp hm).2;rw [n] at q;simp at q
theorem Ou {h:Heap}{H:Hp}{b:Addr}{o:Obj}(e:(Wc h H).get? b=some o):h.get? b=some o/\H b=none:=by
 have e':h.get? b=some o:=PySem.W.of_hideAll (trk h H) e;refine ⟨e',?_⟩;cases q:H b with
 | none=>rfl
 | some x =>
  have hm:b∈trk h H:=List.mem_filter.mpr ⟨Y39.mpr (Y05 e'),by simp [q]⟩;have z:(Wc h H).get? b=none:=Y38 (trk h H) hm;rw [z] at e;cases e
def Ov (g h:Heap)(L:Addr):List (Addr×Obj):=(List.range h.objs.size).filterMap λ a=>if a=L\/(g.get? a).isSome=true then none else (h.get? a).map λ o=>(a,o)
def yo (g h:Heap)(L d:Addr):List (Addr×Obj):=(Ov g h L).filter λ p=>decide (p.1≠d)
structure Mod (K:Y00)(mg:Str->Option Value)(base:Heap):Prop where
 kin:K.In base
 glob:base.Ns mainGlobals mg
 blt:∃ mb,base.Ns builtinsNs mb/\∀ x:Str,x≠"__name__"->mb x=bootBuiltins x
 nolimit:base.NoLimit
structure Cx where
 prog:Program
 w:World
 K:Y00
 mg:Str->Option Value
 base:Heap
 A:Around
 N:List Str
 s₀:Shared
 H₀:Hp
 env:Env
 outer:List Env
 stack:List Env
 ex:List Addr
 fn:Str->Bool
 calm:Bool
 pn:List (Addr×Obj)
 xe:Value->Shared->Prop
def frs (l:List Env):List Addr:=l.filterMap (·.frame)
abbrev Cx.fs (X:Cx):List Addr:=frs X.outer
def Vis (sc:Scope)(x:Str):Prop:=sc.names.lookup x=some .local\/sc.names.lookup x=some .cell\/sc.names.lookup x=some .free
def Loc (sc:Scope)(x:Str):Prop:=sc.names.lookup x=some .local\/sc.names.lookup x=some .cell
def z5i (env:Env)(h:Heap)(m:Str->Option Value)(x:Str)(u:Value):Prop :=
 (env.kindOf x=some .local/\m x=some u)\/((env.kindOf x=some .cell\/env.kindOf x=some .free)/\∃ c,env.cells.lookup x=some c/\h.IsCell c (some u))
structure Cx.Ok (X:Cx):Prop where
 mod:Mod X.K X.mg X.base
 kind:X.env.scope.kind=.function
 glob:X.env.globals=mainGlobals
 blt:X.env.builtins=builtinsNs
 above:X.s₀.heap.objs.size<=X.env.locals
 inj:∀ x y c,X.env.cells.lookup x=some c->X.env.cells.lookup y=some c->x=y
 has:∀ x,(X.env.kindOf x=some .cell\/X.env.kindOf x=some .free)->∃ c,X.env.cells.lookup x=some c
 cab:∀ x c,X.fn x=true->X.env.cells.lookup x=some c->X.s₀.heap.objs.size<=c
 hd:X.calm=true->X.A.handled=none
 frames:X.A.frames=some X.stack
 stk:X.stack=X.outer\/(X.stack=X.env::X.outer/\X.env.frame=some X.env.locals)
 exf:∀ b∈X.ex,b≠X.env.locals/\∀ x c,X.env.cells.lookup x=some c->c≠b
 bs:∀ b o,X.base.get? b=some o->X.s₀.heap.get? b=some o/\X.H₀ b=none
 bsz:X.base.objs.size<=X.s₀.heap.objs.size
 noex:∀ b o,X.base.get? b=some o->b∉X.ex
 exfs:∀ b∈X.ex,b∉X.fs
 funs:X.s₀.heap.FunFrames X.base X.outer
 frf:∀ b∈X.fs,X.H₀ b=none
structure Inv (X:Cx)(pins:List (Addr×Obj))(σ:List (Option V))(H:Hp)(s:Shared):Prop where
 ok:X.Ok
 os:s.os=X.s₀.os
 bare:AllBare s.gens
 base:Un X.fs X.ex X.H₀ H X.s₀.heap s.heap
 loc:∃ m,s.heap.Ns X.env.locals m/\∀ (i:Nat) (x:Str) (v:V),X.N[i]?=some x->σ[i]?=some (some v)->Vis X.env.scope x->∃ u,RelV v u/\z5i X.env s.heap m x u
 cell:∀ x c,X.env.cells.lookup x=some c->∃ v,s.heap.IsCell c v
 free:H X.env.locals=none
 freeC:∀ x c,X.env.cells.lookup x=some c->H c=none
 pin:∀ p∈X.pn++pins,s.heap.get? p.1=some p.2/\H p.1=none/\p.1≠X.env.locals/\p.1∉X.fs/\∀ v,p.2.data≠.cell v
 hok:HOk X.prog X.w H s.heap
 len:σ.length=X.N.length
section
variable {X:Cx}{pins:List (Addr×Obj)}{σ:List (Option V)}{H H':Hp}{s:Shared}{h':Heap}
theorem Cx.Ok.nofr (ok:X.Ok){b:Addr}{o:Obj}(e:X.base.get? b=some o):b∉X.fs:=λ hb=>by
 have:=(ok.funs.mem hb).1
 rw [e] at this;cases this
theorem Inv.bs (I:Inv X pins σ H s):∀ b o,X.base.get? b=some o->s.heap.get? b=some o/\H b=none:=λ b o e =>
 ⟨I.base.keep b o (I.ok.bs b o e).1 (I.ok.bs b o e).2 (I.ok.nofr e) (I.ok.noex b o e),I.base.free b o (I.ok.bs b o e).1 (I.ok.bs b o e).2 (I.ok.noex b o e)⟩
theorem Inv.bk (I:Inv X pins σ H s):∀ b o,X.base.get? b=some o->s.heap.get? b=some o:=λ b o e=>(I.bs b o e).1
theorem Inv.mod (I:Inv X pins σ H s):Mod X.K X.mg X.base:=I.ok.mod
theorem Inv.kIn (I:Inv X pins σ H s):X.K.In s.heap:=I.ok.mod.kin.keeps I.bk
theorem Inv.lt (I:Inv X pins σ H s):X.env.locals<s.heap.objs.size:=let ⟨_,hn,_⟩:=I.loc;hn.lt
theorem Inv.sz (I:Inv X pins σ H s):X.s₀.heap.objs.size<=s.heap.objs.size:=Y15 I.ok.above (Y2k I.lt)
theorem Inv.nofs (I:Inv X pins σ H s){a:Addr}(h:s.heap.objs.size<=a):a∉X.fs:=λ hb=>by
 obtain ⟨_,o,ho,_⟩:=I.ok.funs.mem hb;exact absurd (Y07 (Y05 ho) (Y15 I.sz h)) (Y0s _)
theorem Inv.cne (I:Inv X pins σ H s):∀ x c,X.env.cells.lookup x=some c->c≠X.env.locals:=λ x c e z=>by
 obtain ⟨v,o,ho,hd⟩:=I.cell x c e;obtain ⟨m,⟨o',es,ep,ho',hd',_⟩,_⟩:=I.loc;rw [z,ho'] at ho;cases ho;rw [hd'] at hd;cases hd
theorem Inv.funs (I:Inv X pins σ H s):s.heap.FunFrames X.base X.outer:=by
 have all:∀ (l:List Env),(∀ b∈frs l,b∈X.fs)->X.s₀.heap.FunFrames X.base l->s.heap.FunFrames X.base l:=by
  intro l
  induction l with
  | nil=>intro _ _;trivial
  | cons env r ih =>
   intro hs hl;obtain ⟨hk,⟨L,o,hf,hn,ho,hd⟩,hr⟩:=hl;have hL:L∈X.fs:=hs L (by unfold frs;rw [Y1b,hf];exact Y03);obtain ⟨sl,e⟩:=I.base.slot L o ho (I.ok.frf L hL) hL λ z=>I.ok.exfs L z hL;exact ⟨hk,⟨L,_,hf,hn,e,hd⟩,ih (λ b hb=>hs b (by unfold frs;rw [Y1b,hf];exact Y02 _ hb)) hr⟩
 exact all X.outer (λ _ hb=>hb) I.ok.funs
theorem Inv.stack (I:Inv X pins σ H s):s.heap.FunFrames X.base X.stack:=by
 rcases I.ok.stk with e | ⟨e,hf⟩
 ·rw [e];exact I.funs
 ·rw [e];obtain ⟨m,hn,_⟩:=I.loc;refine .cons (by rw [I.ok.kind];decide) hf hn ?_ I.funs;exact Y28 (Y15 I.ok.bsz I.ok.above)
theorem Inv.stkSub (I:Inv X pins σ H s):∀ b∈frs X.stack,b∈X.env.locals::X.fs:=λ b hb=>by
 rcases I.ok.stk with e | ⟨e,hf⟩
 ·rw [e] at hb;exact Y02 _ hb
 ·rw [e] at hb;unfold frs at hb;rw [Y1b,hf] at hb;exact hb
theorem Inv.stkFree (I:Inv X pins σ H s):∀ b∈frs X.stack,H b=none:=λ b hb=>by
 rcases Y06.mp (I.stkSub b hb) with e | hb
 ·rw [e];exact I.free
 ·obtain ⟨_,o,ho,_⟩:=I.ok.funs.mem hb;exact I.base.free b o ho (I.ok.frf b hb) λ z=>I.ok.exfs b z hb
theorem Inv.step {g':Array GenState}{t':Nat}{d':Drawn}{ch:List Addr}(I:Inv X pins σ H s)
  (hch:∀ b∈ch,(b∈X.ex\/X.s₀.heap.objs.size<=b)/\b≠X.env.locals/\(∀ x c,X.env.cells.lookup x=some c->c≠b)/\∀ p∈X.pn++pins,p.1≠b)
  (keep:∀ b o,b≠X.env.locals->b∉X.fs->b∉ch->s.heap.get? b=some o->H b=none->h'.get? b=some o)
  (slot:∀ b o,b≠X.env.locals->b∈X.fs->b∉ch->s.heap.get? b=some o->H b=none->∃ sl,h'.get? b=some { o with slots:=sl }) (free:∀ b o,b∉ch->s.heap.get? b=some o->H b=none->H' b=none)
  (there:∀ b o,b∉ch->s.heap.get? b=some o->∃ o',h'.get? b=some o')
  (tups:∀ b xs,H b=some (.tup xs)->H' b=some (.tup xs)) (frzs:∀ b o u,H b=some (.frz o u)->H' b=some (.frz o u)) (tbls:∀ b ps,H b=some (.tbl ps)->∃ more,H' b=some (.tbl (ps++more)))
  (ns:∀ m,s.heap.Ns X.env.locals m->h'.Ns X.env.locals m) (hok:HOk X.prog X.w H' h') (hg:AllBare g') :
  Inv X pins σ H' { s with heap:=h',gens:=g',drawn:=d',toks:=t' }:=by
 have neL:∀ b o,X.s₀.heap.get? b=some o->b≠X.env.locals:=λ b o e=>Y0g (Y07 (Y05 e) I.ok.above);have neC:∀ b o,X.s₀.heap.get? b=some o->b∉X.ex->b∉ch:=λ b o e hx hb=>by
  rcases (hch b hb).1 with z | z
  ·exact hx z
  ·exact absurd (Y07 (Y05 e) z) (Y0s _)
 have cellK:∀ x c,X.env.cells.lookup x=some c->∀ v,s.heap.IsCell c v->h'.IsCell c v:=λ x c e v ⟨o,ho,hd⟩=>by
  have nch:c∉ch:=λ z=>(hch c z).2.2.1 x c e rfl;by_cases hc:c∈X.fs
  ·obtain ⟨sl,q⟩:=slot c o (I.cne x c e) hc nch ho (I.freeC x c e);exact ⟨_,q,hd⟩
  ·exact ⟨o,keep c o (I.cne x c e) hc nch ho (I.freeC x c e),hd⟩
 refine ⟨I.ok,I.os,hg,⟨λ b o e n hb hx=>?_,λ b o e n hb hx=>?_,λ b o e n hx=>?_,λ b o e hx=>?_,λ b xs e=>tups b xs (I.base.tups b xs e),λ b o xs e=>frzs b o xs (I.base.frzs b o xs e),λ b ps e=>?_⟩,?_,λ x c e=>?_,?_,λ x c e=>?_,λ p hp=>?_,hok,I.len⟩
 ·exact keep b o (neL b o e) hb (neC b o e hx) (I.base.keep b o e n hb hx) (I.base.free b o e n hx)
 ·obtain ⟨sl,e1⟩:=I.base.slot b o e n hb hx;obtain ⟨sl',e2⟩:=slot b _ (neL b o e) hb (neC b o e hx) e1 (I.base.free b o e n hx);exact ⟨sl',e2⟩
 ·obtain ⟨o',e1⟩:=I.base.there b o e hx;exact free b o' (neC b o e hx) e1 (I.base.free b o e n hx)
 ·obtain ⟨o',e1⟩:=I.base.there b o e hx;exact there b o' (neC b o e hx) e1
 ·obtain ⟨m1,e1⟩:=I.base.tbls b ps e;obtain ⟨m2,e2⟩:=tbls b _ e1;exact ⟨m1++m2,by rw [e2,Array.append_assoc]⟩
 ·obtain ⟨m,hn,hl⟩:=I.loc;refine ⟨m,ns m hn,λ i x v e1 e2 e3=>?_⟩;obtain ⟨u,r,l⟩:=hl i x v e1 e2 e3;refine ⟨u,r,?_⟩;rcases l with l | ⟨k,c,e,z⟩
  ·exact .inl l
  ·exact .inr ⟨k,c,e,cellK x c e _ z⟩
 ·obtain ⟨v,z⟩:=I.cell x c e;exact ⟨v,cellK x c e v z⟩
 ·obtain ⟨m,⟨o,_,_,ho,_⟩,_⟩:=I.loc;exact free _ o (λ z=>(hch _ z).2.1 rfl) ho I.free
 ·obtain ⟨v,o,ho,hd⟩:=I.cell x c e;exact free c o (λ z=>(hch c z).2.2.1 x c e rfl) ho (I.freeC x c e)
 ·obtain ⟨e,n,ne,nf,d⟩:=I.pin p hp;have nch:p.1∉ch:=λ z=>(hch p.1 z).2.2.2 p hp rfl;exact ⟨keep p.1 p.2 ne nf nch e n,free p.1 p.2 nch e n,ne,nf,d⟩
theorem Inv.un {t':Nat}(I:Inv X pins σ H s)(u:Un X.fs [] H H' s.heap h')(hok:HOk X.prog X.w H' h'):Inv X pins σ H' { s with heap:=h',toks:=t' }:=by
 obtain ⟨m,⟨o,es,ep,ho,r⟩,_⟩:=id I.loc;obtain ⟨sl,hL⟩:=u.any ho I.free (by simp);exact I.step (g':=s.gens) (d':=s.drawn) (ch:=[]) (λ _ z=>nomatch z) (λ b o _ hb _ e n=>u.keep b o e n hb (by simp)) (λ b o _ hb _ e n=>u.slot b o e n hb (by simp)) (λ b o _ e n=>u.free b o e n (by simp)) (λ b o _ e=>u.there b o e (by simp)) u.tups u.frzs u.tbls (λ m' hm=>by
  obtain ⟨o',es',ep',ho',r'⟩:=hm;rw [ho] at ho';cases ho';exact ⟨_,es',ep',hL,r'⟩) hok I.bare
theorem Inv.call {g':Array GenState}{t':Nat}{d':Drawn}{ch:List Addr}(I:Inv X pins σ H s)(u:Un (frs X.stack) ch H H' s.heap h')(hok:HOk X.prog X.w H' h')(hg:AllBare g')
  (hch:∀ b∈ch,(b∈X.ex\/X.s₀.heap.objs.size<=b)/\b≠X.env.locals/\(∀ x c,X.env.cells.lookup x=some c->c≠b)/\∀ p∈X.pn++pins,p.1≠b) :
  Inv X pins σ H' { s with heap:=h',gens:=g',drawn:=d',toks:=t' }:=by
 obtain ⟨m,⟨o,es,ep,ho,r⟩,_⟩:=id I.loc;obtain ⟨sl,hL⟩:=u.any ho I.free λ z=>(hch _ z).2.1 rfl;exact I.step (ch:=ch) hch (λ b o hL hb hc e n=>u.keep b o e n (λ z=>(Y06.mp (I.stkSub b z)).elim hL hb) hc) (λ b o _ _ hc e n=>u.any e n hc) (λ b o hc e n=>u.free b o e n hc) (λ b o hc e=>u.there b o e hc) u.tups u.frzs u.tbls (λ m' hm=>by
  obtain ⟨o',es',ep',ho',r'⟩:=hm;rw [ho] at ho';cases ho';exact ⟨_,es',ep',hL,r'⟩) hok hg
theorem Inv.turned {t':Nat}{it:Addr}(I:Inv X pins σ H s)(k:∀ b o,b≠it->s.heap.get? b=some o->h'.get? b=some o)(hn:H it=none)(hL:it≠X.env.locals)
  (h1:it∈X.ex\/X.s₀.heap.objs.size<=it) (h2:∀ x c,X.env.cells.lookup x=some c->c≠it) (h3:∀ p∈X.pn++pins,p.1≠it):Inv X pins σ H { s with heap:=h',toks:=t' }:=by
 have nit:∀ b u,H b=some u->b≠it:=λ b u e z=>by rw [z,hn] at e;cases e
 refine I.step (g':=s.gens) (d':=s.drawn) (ch:=[it]) (λ b hb=>?_) (λ b o _ _ hc e _=>k b o (λ z=>hc (by simp [z])) e) (λ b o _ _ hc e _=>⟨o.slots,k b o (λ z=>hc (by simp [z])) e⟩) (λ _ _ _ _ n=>n)
  (λ b o hc e=>⟨o,k b o (λ z=>hc (by simp [z])) e⟩) (λ _ _ e=>e) (λ _ _ _ e=>e) (λ b ps e=>⟨#[],by rw [e];simp⟩) (λ m hm=>?_) (λ b u e=>?_) I.bare
 ·have e:b=it:=by simpa using hb
  subst e;exact ⟨h1,hL,h2,h3⟩
 ·obtain ⟨o,es,ep,ho,r⟩:=hm;exact ⟨o,es,ep,k _ o (Ne.symm hL) ho,r⟩
 ·refine (I.hok b u e).stay (λ c v hc q=>k c v ?_ q) (λ _ q=>q) λ _ _ q=>q;rcases hc with z | z
  ·rw [z];exact nit b u e
  ·exact nit c _ z
theorem Inv.tok (I:Inv X pins σ H s)(t:Nat):Inv X pins σ H { s with toks:=t }:=I.un (h':=s.heap) (t':=t) Un.refl I.hok
theorem Inv.kept {t':Nat}(I:Inv X pins σ H s)(k:∀ b u,s.heap.get? b=some u->h'.get? b=some u):Inv X pins σ H { s with heap:=h',toks:=t' }:=I.un (Un.kept k) (I.hok.kept k)
theorem Inv.laid {a:Addr}{o:HO}{t':Nat}(I:Inv X pins σ H s)(k:∀ b u,s.heap.get? b=some u->h'.get? b=some u)(hp:s.heap.objs.size<=a)(new:ObjOk X.prog X.w (upd H a o) h' a o) :
  Inv X pins σ (upd H a o) { s with heap:=h',toks:=t' }:=I.un (Un.laid k hp (I.hok.fresh hp)) (I.hok.laid k hp new)
theorem Inv.write {x e:Addr}{o:HO}{t':Nat}(I:Inv X pins σ H s)(mu:Mut (H x))(he:e=x\/H e=some (.own x))(k:∀ b u,b≠e->s.heap.get? b=some u->h'.get? b=some u)(heo:∃ u,h'.get? e=some u)
  (new:ObjOk X.prog X.w (upd H x o) h' x o):Inv X pins σ (upd H x o) { s with heap:=h',toks:=t' }:=I.un (Un.write mu he k heo) (I.hok.write mu he k heo new)
theorem Inv.weak {σ':List (Option V)}(I:Inv X pins σ H s)(hl:σ'.length=σ.length)(w:∀ (i:Nat) v,σ'[i]?=some (some v)->σ[i]?=some (some v)):Inv X pins σ' H s :=
 ⟨I.ok,I.os,I.bare,I.base,let ⟨m,hn,hl'⟩:=I.loc;⟨m,hn,λ i x v e1 e2 e3=>hl' i x v e1 (w i v e2) e3⟩,I.cell,I.free,I.freeC,I.pin,I.hok,hl.trans I.len⟩
theorem Inv.pins_of {pins':List (Addr×Obj)}(I:Inv X pins σ H s)(h:∀ p∈pins',s.heap.get? p.1=some p.2/\H p.1=none/\p.1≠X.env.locals/\p.1∉X.fs/\∀ v,p.2.data≠.cell v):Inv X pins' σ H s :=
 ⟨I.ok,I.os,I.bare,I.base,I.loc,I.cell,I.free,I.freeC,λ p hp=>(Y19.mp hp).elim (λ z=>I.pin p (Y0z _ z)) (h p),I.hok,I.len⟩
theorem Q4 {N:List Str}(hN:N.Nodup){i j:Nat}{x:Str}(a:N[i]?=some x)(b:N[j]?=some x):i=j:=by
 obtain ⟨h1,e1⟩:=Y0e.mp a;obtain ⟨h2,e2⟩:=Y0e.mp b;exact (List.getElem_inj hN).mp (e1.trans e2.symm)
theorem Jy {M:Model}{A:Around}{E:Value->Shared->Prop}{i:Nat}{x:Str}{v:V}{u:Value}{Q:Unit->Shared->Prop}(I:Inv X pins σ H s)(hN:X.N.Nodup)(hi:X.N[i]?=some x)(hx:Loc X.env.scope x)(r:RelV v u)
  (h:∀ s',Inv X pins (σ.set i (some v)) H s'->(∃ a,Heap.SameBut a s.heap s'.heap/\(a=X.env.locals\/X.env.cells.lookup x=some a))->Q () s') (hf:X.fn x=true\/X.env.scope.names.lookup x=some .local:=by first | exact .inl rfl | exact .inr rfl | assumption):wpAny M A (storeName X.env x u) Q E s:=by
 obtain ⟨m,hn,hl⟩:=id I.loc;have hcls:(X.env.scope.kind==.class||(X.env.scope.kind==.module&&X.env.locals != X.env.globals))=false:=by rw [I.ok.kind];rfl
 have hiσ:i<σ.length:=by rw [I.len];exact (Y0e.mp hi).1
 have cne:=I.cne;have tracked:∀ {a:Addr}{h':Heap},(∃ o,s.heap.get? a=some o/\H a=none)->Heap.SameBut a s.heap h'->HOk X.prog X.w H h':=λ {a h'} ha hs b ob e=>by
  obtain ⟨_,_,hfree⟩:=ha;refine (I.hok b ob e).stay (λ c w' hc q=>(hs.2 c ?_).trans q) (λ _ q=>q) λ _ _ q=>q
  rintro rfl
  rcases hc with rfl | hc
  ·rw [hfree] at e;cases e
  ·rw [hfree] at hc;cases hc
 rcases hx with hk | hk
 ·refine wpAny_storeName_local hk hn (λ h' hn' hs=>?_) hcls;obtain ⟨oL,_,_,hoL,_⟩:=id hn;refine h _ ⟨I.ok,I.os,I.bare,⟨λ b o e n hb hx=>?_,λ b o e n hb hx=>?_,I.base.free,λ b o e hx=>?_,I.base.tups,I.base.frzs,I.base.tbls⟩,⟨_,hn',λ j y v' e1 e2 e3=>?_⟩,λ y c e=>?_,I.free,I.freeC,λ p hp=>?_,tracked ⟨oL,hoL,I.free⟩ hs,by simpa using I.len⟩ ⟨_,hs,.inl rfl⟩
  ·exact (hs.2 b (Y0g (Y07 (Y05 e) I.ok.above))).trans (I.base.keep b o e n hb hx)
  ·obtain ⟨sl,e1⟩:=I.base.slot b o e n hb hx;exact ⟨sl,(hs.2 b (Y0g (Y07 (Y05 e) I.ok.above))).trans e1⟩
  ·obtain ⟨o',e1⟩:=I.base.there b o e hx;exact ⟨o',(hs.2 b (Y0g (Y07 (Y05 e) I.ok.above))).trans e1⟩
  ·by_cases hj:j=i
   ·subst hj;rw [hi] at e1;cases e1;rw [Y0n hiσ] at e2;cases e2;exact ⟨u,r,.inl ⟨hk,by simp⟩⟩
   ·rw [Y1f (Ne.symm hj)] at e2;obtain ⟨u',r',q⟩:=hl j y v' e1 e2 e3;refine ⟨u',r',?_⟩;rcases q with ⟨k,e⟩ | ⟨k,c,e,z⟩
    ·refine .inl ⟨k,?_⟩
     have:y≠x:=λ e=>hj (Q4 hN e1 (e▸hi))
     simp [this,e]
    ·exact .inr ⟨k,c,e,z.sameBut hs (cne y c e)⟩
  ·obtain ⟨w',z⟩:=I.cell y c e;exact ⟨w',z.sameBut hs (cne y c e)⟩
  ·obtain ⟨e,n,ne,nf,d⟩:=I.pin p hp;exact ⟨(hs.2 p.1 ne).trans e,n,ne,nf,d⟩
 ·have hfn:X.fn x=true:=by
   rcases hf with z | z
   ·exact z
   ·rw [z] at hk;cases hk
  obtain ⟨c,hc⟩:=I.ok.has x (.inl hk);obtain ⟨w',z⟩:=I.cell x c hc;refine wpAny_storeName_cell I.ok.kind hk hc z (λ h' hc' hs=>?_);obtain ⟨oc,hoc,hocd⟩:=id z;refine h { s with heap:=h' } ⟨I.ok,I.os,I.bare,⟨λ b o e n hb hx=>?_,λ b o e n hb hx=>?_,I.base.free,λ b o e hx=>?_,I.base.tups,I.base.frzs,I.base.tbls⟩,⟨m,hn.sameBut hs (Ne.symm (cne x c hc)),λ j y v' e1 e2 e3=>?_⟩,λ y c' e=>?_,I.free,I.freeC,λ p hp=>?_,tracked ⟨oc,hoc,I.freeC x c hc⟩ hs,by simpa using I.len⟩ ⟨c,hs,.inr hc⟩
  ·exact (hs.2 b (Y0g (Y07 (Y05 e) (I.ok.cab x c hfn hc)))).trans (I.base.keep b o e n hb hx)
  ·obtain ⟨sl,e1⟩:=I.base.slot b o e n hb hx;exact ⟨sl,(hs.2 b (Y0g (Y07 (Y05 e) (I.ok.cab x c hfn hc)))).trans e1⟩
  ·obtain ⟨o',e1⟩:=I.base.there b o e hx;exact ⟨o',(hs.2 b (Y0g (Y07 (Y05 e) (I.ok.cab x c hfn hc)))).trans e1⟩
  ·by_cases hj:j=i
   ·subst hj;rw [hi] at e1;cases e1;rw [Y0n hiσ] at e2;cases e2;exact ⟨u,r,.inr ⟨.inl hk,c,hc,hc'⟩⟩
   ·rw [Y1f (Ne.symm hj)] at e2;obtain ⟨u',r',q⟩:=hl j y v' e1 e2 e3;refine ⟨u',r',?_⟩;rcases q with q | ⟨k,c',e,z'⟩
    ·exact .inl q
    ·refine .inr ⟨k,c',e,z'.sameBut hs ?_⟩
     rintro rfl
     exact hj (Q4 hN e1 (I.ok.inj _ _ _ e hc▸hi))
  ·by_cases hcc:c'=c
   ·subst hcc;exact ⟨_,hc'⟩
   ·obtain ⟨w2,z2⟩:=I.cell y c' e;exact ⟨w2,z2.sameBut hs hcc⟩
  ·obtain ⟨e,n,ne,nf,d⟩:=I.pin p hp;refine ⟨(hs.2 p.1 ?_).trans e,n,ne,nf,d⟩;intro q;rw [q,hoc] at e;have q':oc=p.2:=Option.some.inj e;exact d w' (by rw [<- q'];exact hocd)
theorem Q5 {M:Model}{A:Around}{E:Value->Shared->Prop}{i:Nat}{x:Str}{v:V}{u:Value}{Q:Unit->Shared->Prop}(I:Inv X pins σ H s)(hN:X.N.Nodup)(hi:X.N[i]?=some x)(hx:Loc X.env.scope x)(r:RelV v u)
  (h:∀ s',Inv X pins (σ.set i (some v)) H s'->Q () s') (hf:X.fn x=true\/X.env.scope.names.lookup x=some .local:=by first | exact .inl rfl | exact .inr rfl | assumption):wpAny M A (storeName X.env x u) Q E s :=
 Jy I hN hi hx r (λ s' I' _=>h s' I') hf
theorem Inv.call' {s':Shared}{ch:List Addr}(I:Inv X pins σ H s)(ho:s'.os=s.os)(u:Un (frs X.stack) ch H H' s.heap s'.heap)(hok:HOk X.prog X.w H' s'.heap)(hg:AllBare s'.gens)
  (hch:∀ b∈ch,(b∈X.ex\/X.s₀.heap.objs.size<=b)/\b≠X.env.locals/\(∀ x c,X.env.cells.lookup x=some c->c≠b)/\∀ p∈X.pn++pins,p.1≠b):Inv X pins σ H' s':=by
 obtain ⟨h',g',d',t',o'⟩:=s';have e:o'=s.os:=ho;subst e;exact I.call (g':=g') (t':=t') (d':=d') u hok hg hch
end
abbrev XK:=Value->Option Addr->Hp->Prop
abbrev St:=List (Option V)
abbrev VK:=V->Hp->Prop
abbrev TE:=St->Hp->VK->Prop
abbrev TT:=St->Hp->(Bool->Hp->Prop)->Prop
abbrev TA:=St->Hp->(List V->Hp->Prop)->Prop
structure Ends where
 nx:St->Hp->Prop
 rt:VK
 bk:St->Hp->Prop:=λ _ _=>False
 ct:St->Hp->Prop:=λ _ _=>False
abbrev TS:=Ends->St->Hp->Prop
def EP (X:Cx)(pins:List (Addr×Obj))(σ:St)(Q:VK)(u:Value)(s':Shared):Prop:=∃ v H',Inv X pins σ H' s'/\RelV v u/\Q v H'
def TP (X:Cx)(pins:List (Addr×Obj))(σ:St)(Q:Bool->Hp->Prop)(b:Bool)(s':Shared):Prop:=∃ H',Inv X pins σ H' s'/\Q b H'
def AP (X:Cx)(pins:List (Addr×Obj))(σ:St)(Q:List V->Hp->Prop)(us:List Value)(s':Shared):Prop:=∃ vs H',Inv X pins σ H' s'/\Vals vs us/\Q vs H'
def SP (X:Cx)(pins:List (Addr×Obj))(D:Ends)(f:Flow)(s':Shared):Prop :=
 match f with
 | .next=>∃ σ' H',Inv X pins σ' H' s'/\D.nx σ' H'
 | .brk=>∃ σ' H',Inv X pins σ' H' s'/\D.bk σ' H'
 | .cont=>∃ σ' H',Inv X pins σ' H' s'/\D.ct σ' H'
 | .ret u=>∃ v σ' H',Inv X pins σ' H' s'/\RelV v u/\D.rt v H'
def PE (X:Cx)(e:Expr)(t:TE):Prop :=
 ∀ (pins:List (Addr×Obj)) (s:Shared) (σ:St) (H:Hp) (Q:VK),Inv X pins σ H s->t σ H Q->wpAny (model X.prog X.w) X.A (eval e X.env) (EP X pins σ Q) X.xe s
def PT (X:Cx)(e:Expr)(t:TT):Prop :=
 ∀ (pins:List (Addr×Obj)) (s:Shared) (σ:St) (H:Hp) (Q:Bool->Hp->Prop),Inv X pins σ H s->t σ H Q->wpAny (model X.prog X.w) X.A (isTrue e X.env (eval e X.env)) (TP X pins σ Q) X.xe s
def PW (X:Cx)(e:Expr)(t:TT):Prop :=
 ∀ (whole:Sem Value) (pins:List (Addr×Obj)) (s:Shared) (σ:St) (H:Hp) (Q:Bool->Hp->Prop),Inv X pins σ H s->t σ H Q->wpAny (model X.prog X.w) X.A (isTrue e X.env whole) (TP X pins σ Q) X.xe s
theorem PW.pt {X:Cx}{e:Expr}{t:TT}(h:PW X e t):PT X e t:=h _
def PA (X:Cx)(es:List Expr)(t:TA):Prop :=
 ∀ (pos:Pos) (pins:List (Addr×Obj)) (s:Shared) (σ:St) (H:Hp) (Q:List V->Hp->Prop),Inv X pins σ H s->t σ H Q->wpAny (model X.prog X.w) X.A (spliced (backTo pos (starEach es X.env))) (AP X pins σ Q) X.xe s
def PS (X:Cx)(st:Stmt)(t:TS):Prop :=
 ∀ (pins:List (Addr×Obj)) (s:Shared) (σ:St) (H:Hp) (D:Ends),Inv X pins σ H s->t D σ H->wpAny (model X.prog X.w) X.A (exec st X.env) (SP X pins D) X.xe s
def PSs (X:Cx)(st:List Stmt)(t:TS):Prop :=
 ∀ (pins:List (Addr×Obj)) (s:Shared) (σ:St) (H:Hp) (D:Ends),Inv X pins σ H s->t D σ H->wpAny (model X.prog X.w) X.A (execs st X.env) (SP X pins D) X.xe s
theorem thn {α:Type}{t:Sem α}{Q Q':α->Shared->Prop}{M:Model}{A:Around}{E:Value->Shared->Prop}{s:Shared}(h:wpAny M A t Q E s)(hQ:∀ a s,Q a s->Q' a s):wpAny M A t Q' E s:=wpAny_mono h hQ λ _ _ x=>x
section
variable {X:Cx}
theorem bin {a b:Expr}{ta tb:TE}(ha:PE X a ta)(hb:PE X b tb){pins:List (Addr×Obj)}{s:Shared}{σ:St}{H:Hp}{R:V->V->Hp->Prop}(I:Inv X pins σ H s)(h:ta σ H λ x H1=>tb σ H1 λ y H2=>R x y H2)
  {α:Type}{Q:α->Shared->Prop}{f:Value->Value->Sem α}
  (hf:∀ v u s2 x y H2,Inv X pins σ H2 s2->RelV x v->RelV y u->R x y H2->wpAny (model X.prog X.w) X.A (f v u) Q X.xe s2) :
  wpAny (model X.prog X.w) X.A (eval a X.env) (λ v s₁=>wpAny (model X.prog X.w) X.A (eval b X.env) (λ u s₂=>wpAny (model X.prog X.w) X.A (f v u) Q X.xe s₂) X.xe s₁) X.xe s:=by
 refine thn (ha pins s σ H _ I h) λ v s1 ⟨x,H1,I1,r1,q1⟩=>?_;refine thn (hb pins s1 σ H1 _ I1 q1) λ u s2 ⟨y,H2,I2,r2,q2⟩=>?_;exact hf v u s2 x y H2 I2 r1 r2 q2
def z3j (i:Nat):TE:=λ σ H Q=>∃ v,σ[i]?=some (some v)/\Q v H
def tC (v:V):TE:=λ _ H Q=>Q v H
theorem VF {i:Nat}{x:Str}{pos:Pos} (hN:X.N[i]?=some x) (hv:Vis X.env.scope x) (hd:(x==("__debug__":Str))=false:=by decide) (hcd:(x==("__classdict__":Str))=false:=by decide):PE X (.Name x pos) (z3j i):=by
 intro pins s σ H Q I h;obtain ⟨v,e,h⟩:=h;obtain ⟨m,hn,hl⟩:=I.loc;obtain ⟨u,r,l⟩:=hl i x v hN e hv;have fin:EP X pins σ Q u s:=⟨v,H,I,r,h⟩;rcases l with ⟨hk,hm⟩ | ⟨hk,c,hc,hcell⟩
 ·exact wpAny_Name (wpAny_loadName_local I.ok.kind hk hn hm fin) hd
 ·rcases hk with hk | hk
  ·exact wpAny_Name (wpAny_loadName_cell I.ok.kind hk hc hcell fin) hd
  ·exact wpAny_Name (wpAny_loadName_free I.ok.kind hk hc hcell fin hcd) hd
theorem z1c {i j pos}:PE X (.Constant (.int i) j pos) (tC (.int i)):=λ _ _ _ H _ I h=>wpAny_Constant_int ⟨.int i,H,I.tok _,⟨_,rfl⟩,h⟩
theorem z3k {b j pos}:PE X (.Constant (.bool b) j pos) (tC (.bl b)):=λ _ _ _ H _ I h=>Constant_bool ⟨.bl b,H,I,rfl,h⟩
theorem z1d {j pos}:PE X (.Constant .none j pos) (tC .non):=λ _ _ _ H _ I h=>Constant_none ⟨.non,H,I,rfl,h⟩
theorem VG {x j pos}:PE X (.Constant (.str x) j pos) (tC (.str x)):=λ _ _ _ H _ I h=>Calls.Constant_str ⟨.str x,H,I.tok _,⟨_,rfl⟩,h⟩
def Gl (X:Cx)(x:Str):Prop:=X.env.kindOf x=some .globalImplicit
theorem We {E:Value->Shared->Prop}{pins:List (Addr×Obj)}{s:Shared}{σ:St}{H:Hp}{x:Str}{u:Value}{pos:Pos}{Q:Value->Shared->Prop}(I:Inv X pins σ H s)(hg:Gl X x)(hm:X.mg x=some u)(h:Q u s)
  (hd:(x==("__debug__":Str))=false:=by decide):wpAny (model X.prog X.w) X.A (eval (.Name x pos) X.env) Q E s :=
 Calls.Name_function_global I.ok.kind hg (Calls.loadGlobal_global (by rw [I.ok.glob];exact I.mod.glob.keeps I.bk) hm h) hd
theorem jS {E:Value->Shared->Prop}{pins:List (Addr×Obj)}{s:Shared}{σ:St}{H:Hp}{x:Str}{u:Value}{pos:Pos}{Q:Value->Shared->Prop}(I:Inv X pins σ H s)(hg:Gl X x)(hm:X.mg x=none)(hv:bootBuiltins x=some u)(h:Q u s)
  (hn:x≠"__name__":=by decide) (hd:(x==("__debug__":Str))=false:=by decide):wpAny (model X.prog X.w) X.A (eval (.Name x pos) X.env) Q E s:=by
 obtain ⟨mb,h1,h2⟩:=I.mod.blt;exact Calls.Name_function_global I.ok.kind hg (Calls.loadGlobal_builtin (by rw [I.ok.glob];exact I.mod.glob.keeps I.bk) hm (by rw [I.ok.blt];exact h1.keeps I.bk) ((h2 x hn).trans hv) h) hd
theorem jB {x:Str}{v:V}{u:Value}{pos:Pos} (hg:Gl X x) (hm:X.mg x=some u) (r:RelV v u) (hd:(x==("__debug__":Str))=false:=by decide):PE X (.Name x pos) (tC v) :=
 λ _ _ _ H _ I h=>We I hg hm ⟨v,H,I,r,h⟩ hd
theorem Ox {x:Str}{v:V}{u:Value}{pos:Pos} (hg:Gl X x) (hm:X.mg x=none) (hv:bootBuiltins x=some u) (r:RelV v u) (hn:x≠"__name__":=by decide) (hd:(x==("__debug__":Str))=false:=by decide):PE X (.Name x pos) (tC v) :=
 λ _ _ _ H _ I h=>jS I hg hm hv ⟨v,H,I,r,h⟩ hn hd
variable {a b:Expr}{ta tb:TE}{pos:Pos}
def tB (t:TE):TT:=λ σ H Q=>t σ H λ x H1=>∃ c,x=.bl c/\Q c H1
theorem z1e {e:Expr}{t:TE}(h:PE X e t)(he:∀ whole,isTrue e X.env whole=(do let v <- whole;standAt e.pos;holding [v] (truthy v)):=by intro _;rfl):PT X e (tB t):=by
 intro pins s σ H Q I hw;refine isTrue_plain (thn (h pins s σ H _ I hw) λ v s1 ⟨x,H1,I1,r1,q1⟩=>?_) (he _);obtain ⟨d,rfl,q⟩:=q1;cases r1;exact wpAny_truthy_bool ⟨H1,I1,q⟩
variable {tA tB':TT}{yo:List Expr}
def z5j (t u:TT):TT:=λ σ H Q=>t σ H λ c H1=>if c=true then u σ H1 Q else Q false H1
def tOr (t u:TT):TT:=λ σ H Q=>t σ H λ c H1=>if c=true then Q true H1 else u σ H1 Q
def z5k (t:TT):TT:=λ σ H Q=>t σ H λ c H1=>Q (!c) H1
theorem Oy (ha:PT X a tA):PW X (.BoolOp .And [a] pos) tA:=by
 intro wh pins s σ H Q I h;refine isTrue_and (thn (ha pins s σ H Q I h) λ c s1 e=>?_);cases c with
 | true=>exact isTrue_and_nil e
 | false=>exact e
theorem z1f (ha:PT X a tA):PW X (.BoolOp .Or [a] pos) tA:=by
 intro wh pins s σ H Q I h;refine isTrue_or (thn (ha pins s σ H Q I h) λ c s1 e=>?_);cases c with
 | false=>exact isTrue_or_nil e
 | true=>exact e
theorem VH (ha:PT X a tA)(hb:PW X (.BoolOp .And (b::yo) pos) tB'):PW X (.BoolOp .And (a::b::yo) pos) (z5j tA tB'):=by
 intro wh pins s σ H Q I h;refine isTrue_and (thn (ha pins s σ H _ I h) λ c s1 ⟨H1,I1,q1⟩=>?_);cases c with
 | true=>exact hb wh pins s1 σ H1 Q I1 q1
 | false=>exact ⟨H1,I1,q1⟩
theorem z04 (ha:PT X a tA)(hb:PW X (.BoolOp .Or (b::yo) pos) tB'):PW X (.BoolOp .Or (a::b::yo) pos) (tOr tA tB'):=by
 intro wh pins s σ H Q I h;refine isTrue_or (thn (ha pins s σ H _ I h) λ c s1 ⟨H1,I1,q1⟩=>?_);cases c with
 | true=>exact ⟨H1,I1,q1⟩
 | false=>exact hb wh pins s1 σ H1 Q I1 q1
theorem z1g (ha:PT X a tA):PT X (.UnaryOp .Not a pos) (z5k tA):=by
 intro pins s σ H Q I h;exact isTrue_not (ha pins s σ H (λ c H1=>Q (!c) H1) I h)
def z3l (ta tb:TE):TE:=λ σ H Q=>ta σ H λ x H1=>∃ c,x=.bl c/\if c=true then tb σ H1 Q else Q (.bl false) H1
def z5l (ta tb:TE):TE:=λ σ H Q=>ta σ H λ x H1=>∃ c,x=.bl c/\if c=true then Q (.bl true) H1 else tb σ H1 Q
def z3m (ta:TE):TE:=λ σ H Q=>ta σ H λ x H1=>∃ c,x=.bl c/\Q (.bl (!c)) H1
theorem VI {op}{t:TE}(h:PE X a t):PE X (.BoolOp op [a] pos) t:=λ pins s σ H Q I hw=>BoolOp_one (h pins s σ H Q I hw)
theorem VJ (ha:PE X a ta)(hb:PE X (.BoolOp .And (b::yo) pos) tb):PE X (.BoolOp .And (a::b::yo) pos) (z3l ta tb):=by
 intro pins s σ H Q I h;refine BoolOp_and (thn (ha pins s σ H _ I h) λ v s1 ⟨x,H1,I1,r1,q1⟩=>?_);obtain ⟨c,rfl,q1⟩:=q1;cases r1;refine wpAny_truthy_bool ?_;cases c with
 | true=>exact hb pins s1 σ H1 Q I1 q1
 | false=>exact ⟨.bl false,H1,I1,rfl,q1⟩
theorem z05 (ha:PE X a ta)(hb:PE X (.BoolOp .Or (b::yo) pos) tb):PE X (.BoolOp .Or (a::b::yo) pos) (z5l ta tb):=by
 intro pins s σ H Q I h;refine BoolOp_or (thn (ha pins s σ H _ I h) λ v s1 ⟨x,H1,I1,r1,q1⟩=>?_);obtain ⟨c,rfl,q1⟩:=q1;cases r1;refine wpAny_truthy_bool ?_;cases c with
 | false=>exact hb pins s1 σ H1 Q I1 q1
 | true=>exact ⟨.bl true,H1,I1,rfl,q1⟩
theorem z1h (ha:PE X a ta):PE X (.UnaryOp .Not a pos) (z3m ta):=by
 intro pins s σ H Q I h;refine UnaryOp_ (thn (ha pins s σ H _ I h) λ v s1 ⟨x,H1,I1,r1,q1⟩=>?_);obtain ⟨c,rfl,q1⟩:=q1;cases r1;exact not_of (wpAny_truthy_bool ⟨.bl (!c),H1,I1,rfl,q1⟩)
def tIf (t:TT)(ta tb:TE):TE:=λ σ H Q=>t σ H λ c H1=>if c=true then ta σ H1 Q else tb σ H1 Q
theorem VL {c:Expr}(hc:PT X c tA)(ha:PE X a ta)(hb:PE X b tb):PE X (.IfExp c a b pos) (tIf tA ta tb):=by
 intro pins s σ H Q I h;refine wpAny_IfExp (thn (hc pins s σ H _ I h) λ d s1 ⟨H1,I1,q1⟩=>?_);cases d with
 | true=>exact ha pins s1 σ H1 Q I1 q1
 | false=>exact hb pins s1 σ H1 Q I1 q1
end
def SqL (K:Y00)(H:Hp)(a:Addr)(xs:List V):Prop :=
 Rd H a (.lst xs) \/
  ∃ (o:Obj) (its:Array Value) (n:Nat),K.lookup a=some o/\o.cls=.type "list"/\o.dict=none/\o.data=.seq its n/\its.size<=sizeLine/\Vals xs its.toList
def SqT (K:Y00)(H:Hp)(a:Addr)(xs:List V):Prop :=
 Rd H a (.tup xs) \/
  ∃ (o:Obj) (its:Array Value) (n:Nat),K.lookup a=some o/\o.cls=.type "tuple"/\o.data=.seq its n/\its.size<=sizeLine/\Vals xs its.toList
def z5m:Value->Option V
 | .none=>some .non
 | .bool b=>some (.bl b)
 | .int i _=>some (.int i)
 | .str x _=>some (.str x)
 | .bytes b _=>some (.byt b)
 | .float b _=>some (.flt b)
 | .ref a=>some (.ref a)
 | .type n=>some (.ty n)
 | _=>none
theorem RelV.abs {x:V}{u:Value}(r:RelV x u):z5m u=some x:=by
 cases x with
 | non=>cases r;rfl
 | bl _=>cases r;rfl
 | int _=>obtain ⟨t,rfl⟩:=r;rfl
 | str _=>obtain ⟨t,rfl⟩:=r;rfl
 | byt _=>obtain ⟨t,rfl⟩:=r;rfl
 | flt _=>obtain ⟨t,rfl⟩:=r;rfl
 | ref _=>cases r;rfl
 | ty _=>cases r;rfl
theorem RelV.inj {x y:V}{u:Value}(r:RelV x u)(q:RelV y u):x=y:=Option.some.inj (r.abs.symm.trans q.abs)
theorem Vals.inj:∀ {xs ys:List V}{us:List Value},Vals xs us->Vals ys us->xs=ys
 | _,_,_,.nil,.nil=>rfl
 | _,_,_,.cons r t,.cons r' t'=>by rw [r.inj r',Vals.inj t t']
section
variable {X:Cx}{pins:List (Addr×Obj)}{σ:St}{H:Hp}{s:Shared}{a:Addr}{xs ys:List V}
theorem SqL.of {K:Y00}(h:H a=some (.lst xs)):SqL K H a xs:=.inl (.inl h)
theorem SqT.of {K:Y00}(h:H a=some (.tup xs)):SqT K H a xs:=.inl (.inl h)
theorem Inv.list (I:Inv X pins σ H s)(h:SqL X.K H a xs):∃ its:List Value,Vals xs its/\PlainL s.heap a its.toArray/\xs.length<=sizeLine:=by
 rcases h with h | ⟨o,its,n,hk,hc,hd,hs,hz,r⟩
 ·obtain ⟨z,its,n,r,e⟩:=h.ok I.hok;exact ⟨its,r,⟨_,n,e,rfl,rfl,rfl⟩,z⟩
 ·refine ⟨its.toList,r,⟨o,n,I.kIn a o hk,hc,hd,by simpa using hs⟩,?_⟩;have e:=r.length;simp only [Y1w] at e;omega
theorem Inv.tuple (I:Inv X pins σ H s)(h:SqT X.K H a xs):∃ its:List Value,Vals xs its/\IsTup s.heap a its.toArray/\xs.length<=sizeLine:=by
 rcases h with h | ⟨o,its,n,hk,hc,hs,hz,r⟩
 ·obtain ⟨z,its,r,p⟩:=h.ok I.hok;exact ⟨its,r,p,z⟩
 ·refine ⟨its.toList,r,⟨o,I.kIn a o hk,hc,n,by simpa using hs⟩,?_⟩;have e:=r.length;simp only [Y1w] at e;omega
theorem Inv.list_inj (I:Inv X pins σ H s)(h:SqL X.K H a xs)(h':SqL X.K H a ys):xs=ys:=by
 obtain ⟨its,r,⟨o,n,e,_,_,d⟩,_⟩:=I.list h;obtain ⟨its',r',⟨o',n',e',_,_,d'⟩,_⟩:=I.list h';rw [e] at e';cases e';rw [d] at d';injection d' with d1 _
 have:its=its':=by simpa using congrArg Array.toList d1
 subst this;exact r.inj r'
theorem Inv.tuple_inj (I:Inv X pins σ H s)(h:SqT X.K H a xs)(h':SqT X.K H a ys):xs=ys:=by
 obtain ⟨its,r,⟨o,e,_,n,d⟩,_⟩:=I.tuple h;obtain ⟨its',r',⟨o',e',_,n',d'⟩,_⟩:=I.tuple h';rw [e] at e';cases e';rw [d] at d';injection d' with d1 _
 have:its=its':=by simpa using congrArg Array.toList d1
 subst this;exact r.inj r'
end
abbrev Cx.wish (X:Cx)(E:Value->Shared->Prop):Cx:={ X with xe:=E }
abbrev Cx.nox (X:Cx):Cx:=X.wish λ _ _=>False
theorem Cx.Ok.wish {X:Cx}(ok:X.Ok)(E:Value->Shared->Prop):(X.wish E).Ok :=
 ⟨ok.mod,ok.kind,ok.glob,ok.blt,ok.above,ok.inj,ok.has,ok.cab,ok.hd,ok.frames,ok.stk,ok.exf,ok.bs,ok.bsz,ok.noex,ok.exfs,ok.funs,ok.frf⟩
theorem Cx.Ok.unwish {X:Cx}{E:Value->Shared->Prop}(ok:(X.wish E).Ok):X.Ok :=
 ⟨ok.mod,ok.kind,ok.glob,ok.blt,ok.above,ok.inj,ok.has,ok.cab,ok.hd,ok.frames,ok.stk,ok.exf,ok.bs,ok.bsz,ok.noex,ok.exfs,ok.funs,ok.frf⟩
section
variable {X:Cx}{pins:List (Addr×Obj)}{σ:St}{H:Hp}{s:Shared}{E:Value->Shared->Prop}
theorem Inv.wish (I:Inv X pins σ H s)(E:Value->Shared->Prop):Inv (X.wish E) pins σ H s:=⟨I.ok.wish E,I.os,I.bare,I.base,I.loc,I.cell,I.free,I.freeC,I.pin,I.hok,I.len⟩
theorem Inv.unwish (I:Inv (X.wish E) pins σ H s):Inv X pins σ H s:=⟨I.ok.unwish,I.os,I.bare,I.base,I.loc,I.cell,I.free,I.freeC,I.pin,I.hok,I.len⟩
theorem SP.unwish {D:Ends}{f:Flow}{s':Shared}(h:SP (X.wish E) pins D f s'):SP X pins D f s':=by
 cases f with
 | next=>obtain ⟨σ',H',I,q⟩:=h;exact ⟨σ',H',I.unwish,q⟩
 | brk=>obtain ⟨σ',H',I,q⟩:=h;exact ⟨σ',H',I.unwish,q⟩
 | cont=>obtain ⟨σ',H',I,q⟩:=h;exact ⟨σ',H',I.unwish,q⟩
 | ret u=>obtain ⟨v,σ',H',I,r,q⟩:=h;exact ⟨v,σ',H',I.unwish,r,q⟩
end
section
variable {X:Cx}{st:Stmt}{yo:List Stmt}{t u:TS}{e:Expr}{te:TE}{pos:Pos}
def z3n:TS:=λ D σ H=>D.nx σ H
def z5n (t u:TS):TS:=λ D σ H=>t { D with nx:=u D } σ H
theorem Oz:PSs X [] z3n:=λ _ _ σ H _ I h=>wpAny_execs_nil ⟨σ,H,I,h⟩
theorem VM (h1:PS X st t)(h2:PSs X yo u):PSs X (st::yo) (z5n t u):=by
 intro pins s σ H D I h;refine wpAny_execs_cons (thn (h1 pins s σ H { D with nx:=u D } I h) λ f s1 q=>?_);cases f with
 | next =>
  obtain ⟨σ',H',I',q⟩:=q;exact h2 pins s1 σ' H' D I' q
 | ret v=>exact q
 | brk=>exact q
 | cont=>exact q
theorem Inv.quiet {pins:List (Addr×Obj)}{σ:St}{H:Hp}{s:Shared}(I:Inv X pins σ H s):interactive X.env=false:=by simp [interactive,I.ok.kind]
def z3o (te:TE):TS:=λ D σ H=>te σ H λ _ H1=>D.nx σ H1
theorem OA (he:PE X e te)(hs:swapsWith e none pos.line X.env=pure false:=by rfl):PS X (.Expr e pos) (z3o te):=by
 intro pins s σ H D I h;exact wpAny_Expr_any (thn (he pins s σ H _ I h) λ v s1 ⟨x,H1,I1,r1,q1⟩=>⟨σ,H1,I1,q1⟩) I.quiet hs
def z5o (te:TE):TS:=λ D σ H=>te σ H D.rt
theorem z1i (he:PE X e te):PS X (.Return (some e) pos) (z5o te):=by
 intro pins s σ H D I h;exact wpAny_Return_some (thn (he pins s σ H _ I h) λ v s1 ⟨x,H1,I1,r1,q1⟩=>⟨x,σ,H1,I1,r1,q1⟩)
def z3p:TS:=λ D _ H=>D.rt .non H
theorem OB:PS X (.Return none pos) z3p:=λ _ _ σ H _ I h=>wpAny_Return_none ⟨.non,σ,H,I,rfl,h⟩
def z5p (c:TT)(t u:TS):TS:=λ D σ H=>c σ H λ b H1=>if b=true then t D σ H1 else u D σ H1
theorem z3q {c:Expr}{a b:List Stmt}{tc:TT}(hc:PT X c tc)(ha:PSs X a t)(hb:PSs X b u):PS X (.If c a b pos) (z5p tc t u):=by
 intro pins s σ H D I h;refine wpAny_If (thn (hc pins s σ H _ I h) λ d s1 ⟨H1,I1,q1⟩=>?_);cases d with
 | true=>exact ha pins s1 σ H1 D I1 q1
 | false=>exact hb pins s1 σ H1 D I1 q1
end
abbrev TG:=V->St->Hp->(St->Hp->Prop)->Prop
abbrev TGs:=List V->St->Hp->(St->Hp->Prop)->Prop
def PG (X:Cx)(target:Expr)(t:TG):Prop :=
 ∀ (pins:List (Addr×Obj)) (s:Shared) (σ:St) (H:Hp) (v:V) (u:Value) (Q:St->Hp->Prop),Inv X pins σ H s->RelV v u->t v σ H Q ->
  wpAny (model X.prog X.w) X.A (assign target X.env u) (λ _ s'=>∃ σ' H',Inv X pins σ' H' s'/\Q σ' H') X.xe s
def PGs (X:Cx)(ts:List Expr)(t:TGs):Prop :=
 ∀ (pins:List (Addr×Obj)) (s:Shared) (σ:St) (H:Hp) (vs:List V) (us:List Value) (Q:St->Hp->Prop),Inv X pins σ H s->Vals vs us->t vs σ H Q ->
  wpAny (model X.prog X.w) X.A (assignInOrder ((assignEach ts X.env).map (·.2)) us) (λ _ s'=>∃ σ' H',Inv X pins σ' H' s'/\Q σ' H') X.xe s
abbrev OC:=V->V->V->Hp->(Hp->Prop)->Prop
def z1j (X:Cx)(t:OC):Prop :=
 ∀ (pins:List (Addr×Obj)) (s:Shared) (σ:St) (H:Hp) (o i v:V) (ov iv u:Value) (Q:Hp->Prop),Inv X pins σ H s->RelV o ov->RelV i iv->RelV v u->t o i v H Q ->
  wpAny (model X.prog X.w) X.A (setItem ov iv u) (λ _ s'=>∃ H',Inv X pins σ H' s'/\Q H') X.xe s
section
variable {X:Cx}{pos:Pos}
def U2 (i:Nat):TG:=λ v σ H Q=>Q (σ.set i (some v)) H
theorem U3 {i:Nat}{x:Str}(hN:X.N.Nodup)(hi:X.N[i]?=some x)(hx:Loc X.env.scope x)(hf:X.fn x=true\/X.env.scope.names.lookup x=some .local:=by first | exact .inl rfl | exact .inr rfl | assumption):PG X (.Name x pos) (U2 i):=by
 intro pins s σ H v u Q I r h;exact wpAny_assign_Name (Q5 I hN hi hx r (λ s' I'=>⟨_,H,I',h⟩) hf)
def z3r:TGs:=λ vs σ H Q=>vs=[]/\Q σ H
def z06 (t:TG)(u:TGs):TGs:=λ vs σ H Q=>∃ v r,vs=v::r/\t v σ H λ σ' H'=>u r σ' H' Q
theorem OD:PGs X [] z3r:=by
 intro pins s σ H vs us Q I r h;obtain ⟨e,h⟩:=h;subst e;cases r;exact assignInOrder_nil ⟨σ,H,I,h⟩
theorem VN {e:Expr}{es:List Expr}{t:TG}{u:TGs}(h1:PG X e t)(h2:PGs X es u)
  (hs:(assignEach (e::es) X.env).map (·.2)=assign e X.env::(assignEach es X.env).map (·.2):=by rfl):PGs X (e::es) (z06 t u):=by
 intro pins s σ H vs us Q I r h;obtain ⟨v,vr,e1,h⟩:=h;subst e1;cases r with
 | cons r rr =>
  rw [hs];refine assignInOrder_cons (thn (h1 pins s σ H _ _ _ I r h) λ _ s1 ⟨σ1,H1,I1,q1⟩=>?_);exact h2 pins s1 σ1 H1 _ _ Q I1 rr q1
def z5q (K:Y00)(n:Nat)(t:TGs):TG:=λ v σ H Q=>∃ a xs,v=.ref a/\SqT K H a xs/\xs.length=n/\t xs σ H Q
theorem z1k {es:List Expr}{k:Nat}{t:TGs}{n:Nat}(hc:X.calm=true)(h:PGs X es t)
  (hn:(assignEach es X.env).length=n:=by rfl) (hst:(assignEach es X.env).findIdx? (·.1)=none:=by rfl):PG X (.Tuple es k pos) (z5q X.K n t):=by
 intro pins s σ H v u Q I r hw;obtain ⟨a,xs,e1,hq,hl,hw⟩:=hw;subst e1;cases r;obtain ⟨its,rv,ht,hz⟩:=I.tuple hq;refine assign_Tuple_tuple (I.ok.hd hc) ht (by simp [hn,<- hl,rv.length]) hst λ h' hx=>?_;have I1:Inv X pins σ H { s with heap:=h' }:=I.kept (t':=s.toks) λ b o e=>hx b o (Y0g (Y05 e)) e;exact h pins _ σ H xs _ Q I1 (by simpa using rv) hw
def z5r (to ti:TE)(t:OC):TG:=λ v σ H Q=>to σ H λ o H1=>ti σ H1 λ i H2=>t o i v H2 λ H3=>Q σ H3
theorem z1l {o i:Expr}{to ti:TE}{t:OC}(ho:PE X o to)(hi:PE X i ti)(hs:z1j X t)
  (ha:∀ v,assign (.Subscript o i pos) X.env v=(do
   let ov <- holding [v] (eval o X.env)
   let iv <- holding [v,ov] (eval i X.env)
   standAt pos
   holding [v,ov,iv] (setItem ov iv v)
   release [v,ov,iv] []):=by intro _;rfl):PG X (.Subscript o i pos) (z5r to ti t):=by
 intro pins s σ H v u Q I r h;rw [ha];refine wpAny_bind (wpAny_holding (thn (ho pins s σ H _ I h) λ ov s1 ⟨x,H1,I1,r1,q1⟩=>?_));refine wpAny_bind (wpAny_holding (thn (hi pins s1 σ H1 _ I1 q1) λ iv s2 ⟨y,H2,I2,r2,q2⟩=>?_));refine wpAny_bind (wpAny_standAt (wpAny_bind (wpAny_holding (thn (hs pins s2 σ H2 x y v ov iv u _ I2 r1 r2 r q2) λ _ s3 ⟨H3,I3,q3⟩=>?_))));exact wpAny_release ⟨σ,H3,I3,q3⟩
def z1m (te:TE)(g:TG):TS:=λ D σ H=>te σ H λ x H1=>g x σ H1 D.nx
theorem z1n {tg e:Expr}{te:TE}{g:TG}(he:PE X e te)(hg:PG X tg g)(hs:swapsWithSole [tg] e pos.line X.env=pure false:=by rfl)(hw:swappedStores [tg] e X.env=pure none:=by rfl)
  (h1:(assignEach [tg] X.env).map (·.2)=[assign tg X.env]:=by rfl):PS X (.Assign [tg] e pos) (z1m te g):=by
 intro pins s σ H D I h;refine wpAny_Assign_stores (thn (he pins s σ H _ I h) λ v s1 ⟨x,H1,I1,r1,q1⟩=>?_) hs hw;rw [h1];exact thn (hg pins s1 σ H1 x v _ I1 r1 q1) λ _ s2 q=>q
theorem z1o {i:Nat}{x:Str}{e:Expr}{te:TE}{pos':Pos}(hN:X.N.Nodup)(hi:X.N[i]?=some x)(hx:Loc X.env.scope x)(he:PE X e te)(hs:swapsWith e (some (.Name x pos')) pos.line X.env=pure false:=by rfl)(hf:X.fn x=true\/X.env.scope.names.lookup x=some .local:=by first | exact .inl rfl | exact .inr rfl | assumption) :
  PS X (.Assign [.Name x pos'] e pos) (z1m te (U2 i)):=by
 intro pins s σ H D I h;refine wpAny_Assign_Name (thn (he pins s σ H _ I h) λ v s1 ⟨y,H1,I1,r1,q1⟩=>?_) hs;exact Q5 I1 hN hi hx r1 (λ s2 I2=>⟨_,H1,I2,q1⟩) hf
end
section
variable {X:Cx}{pos:Pos}
def QV (c:TT)(tb:TS):TS:=λ D σ H=>∃ W:Nat->St->Hp->Prop,(∃ m,W m σ H)/\∀ m σ H,W m σ H ->
 c σ H λ b H1=>if b=true then ∃ N:St->Hp->Prop,(∀ σ' H',N σ' H'->∃ m',m'<m/\W m' σ' H')/\tb { D with nx:=N,ct:=N,bk:=D.nx } σ H1 else D.nx σ H1
theorem VO {c:Expr}{body:List Stmt}{tc:TT}{tb:TS}(hp:PassesOwn (model X.prog X.w) X.A X.env X.xe)(hc:PT X c tc)(hb:PSs X body tb):PS X (.While c body [] pos) (QV tc tb):=by
 intro pins s σ H D I h;obtain ⟨W,⟨m0,w0⟩,turn⟩:=h;refine wpAny_While (codeAny_whileLoop (λ n s'=>∃ σ' H',Inv X pins σ' H' s'/\W n σ' H') ?_ m0 ⟨σ,H,I,w0⟩)
 rintro n s1 ⟨σ1,H1,I1,w1⟩
 refine wpAny_passesOwn hp (thn (hc pins s1 σ1 H1 _ I1 (turn n σ1 H1 w1)) λ b s2 ⟨H2,I2,q2⟩=>?_);cases b with
 | true =>
  obtain ⟨N,hN,q2⟩:=q2;rw [if_pos rfl];refine wpAny_passesOwn hp (thn (hb pins s2 σ1 H2 _ I2 q2) λ f s3 q3=>?_);cases f with
  | next =>
   obtain ⟨σ3,H3,I3,n3⟩:=q3;obtain ⟨m',hm,w3⟩:=hN σ3 H3 n3;exact ⟨m',hm,σ3,H3,I3,w3⟩
  | cont =>
   obtain ⟨σ3,H3,I3,n3⟩:=q3;obtain ⟨m',hm,w3⟩:=hN σ3 H3 n3;exact ⟨m',hm,σ3,H3,I3,w3⟩
  | brk=>exact q3
  | ret v=>exact q3
 | false =>
  rw [if_neg Y0t];exact wpAny_execs_nil ⟨σ1,H2,I2,q2⟩
end
structure It where
 go:Nat->Hp->Prop
 yld:Nat->Hp->V->Hp->Prop
 stop:Nat->Hp->Prop
def yf (X:Cx)(pins:List (Addr×Obj))(H:Hp)(b:Addr):Prop :=
 H b=none/\b≠X.env.locals/\b∉X.fs/\(b∈X.ex\/X.s₀.heap.objs.size<=b)/\(∀ x c,X.env.cells.lookup x=some c->c≠b)/\∀ p∈X.pn++pins,p.1≠b
theorem Inv.fpOk {X:Cx}{pins:List (Addr×Obj)}{σ:St}{H H':Hp}{s:Shared}{b:Addr}(I:Inv X pins σ H s)(hb:s.heap.objs.size<=b)(hn:H' b=none):yf X pins H' b:=by
 refine ⟨hn,Y17 (Y07 I.lt hb),I.nofs hb,.inr (Y15 I.sz hb),λ x c e z=>?_,λ p hp z=>?_⟩
 ·obtain ⟨v,q⟩:=I.cell x c e;exact absurd (Y07 q.lt (by rw [z];exact hb)) (Y0s _)
 ·exact absurd (Y07 (Y05 (I.pin p hp).1) (by rw [z];exact hb)) (Y0s _)
structure Turn (P:Program)(w:World)(K:Y00)(tg:Expr)(J:It)(fp:List Addr)(it:Addr)(tn:Nat->Heap->Prop):Prop where
 mem:it∈fp
 obj:∀ i h,tn i h->∀ b∈fp,∃ o,h.get? b=some o/\∀ v,o.data≠.cell v
 keep:∀ i h h',tn i h->(∀ b∈fp,∀ o,h.get? b=some o->h'.get? b=some o)->tn i h'
 item:∀ (X:Cx),X.prog=P->X.w=w->X.K=K->X.calm=true->∀ (i:Nat) (pins:List (Addr×Obj)) (s:Shared) (σ:St) (H:Hp) (E:Value->Shared->Prop),Inv X pins σ H s->(∀ b∈fp,yf X pins H b)->tn i s.heap->J.go i H ->
  wpAny (model P w) X.A (pyNext (.ref it)) (λ r s1=>∃ u,r=some u /\
   wpAny (model P w) X.A (letOwnedTupleGo tg (.ref it) u) (λ _ s2=>∃ x H',Inv X pins σ H' s2/\RelV x u/\J.yld i H x H'/\tn (i+1) s2.heap/\∀ b∈fp,H' b=none) E s1) E s
 done:∀ (X:Cx),X.prog=P->X.w=w->X.K=K->X.calm=true->∀ (i:Nat) (pins:List (Addr×Obj)) (s:Shared) (σ:St) (H:Hp) (E:Value->Shared->Prop),Inv X pins σ H s->(∀ b∈fp,yf X pins H b)->tn i s.heap->J.stop i H ->
  wpAny (model P w) X.A (pyNext (.ref it)) (λ r s1=>r=none/\Inv X pins σ H s1) E s
 self:∀ (A:Around) (i:Nat) (s:Shared) (Q:Value->Shared->Prop) (E:Value->Shared->Prop),tn i s.heap->Q (.ref it) s->wpAny (model P w) A (pyIter (.ref it)) Q E s
abbrev TI:=St->Hp->(It->Hp->Prop)->Prop
def PIE (X:Cx)(pins:List (Addr×Obj))(σ:St)(tg:Expr)(R:It->Hp->Prop)(itv:Value)(s2:Shared):Prop :=
 ∃ (it:Addr) (fp:List Addr) (tn:Nat->Heap->Prop) (J:It) (H':Hp),itv=.ref it/\Inv X pins σ H' s2/\Turn X.prog X.w X.K tg J fp it tn/\tn 0 s2.heap/\(∀ b∈fp,yf X pins H' b)/\R J H'
def PI (X:Cx)(tg iter:Expr)(wi:TI):Prop :=
 ∀ (pins:List (Addr×Obj)) (s:Shared) (σ:St) (H:Hp) (R:It->Hp->Prop),Inv X pins σ H s->wi σ H R ->
  wpAny (model X.prog X.w) X.A (eval iter X.env) (λ v s1=>wpAny (model X.prog X.w) X.A (pyIter v) (PIE X pins σ tg R) X.xe s1) X.xe s
theorem Zm {M:Model}{A:Around}{E:Value->Shared->Prop}{s:Shared}{tg:Expr}{it:Addr}{u:Value}{o:Obj}{n:String}{vs:Array Value}{Q:Unit->Shared->Prop}(ho:s.heap.get? it=some o)(hc:o.cls=.type n)(hd:o.data=.fields vs)
    (hn:["enumerate","zip","dict_itemiterator","dict_reverseitemiterator","odict_iterator","itertools.zip_longest","itertools.pairwise"].contains n=false) (hQ:Q () s):wpAny M A (letOwnedTupleGo tg (.ref it) u) Q E s:=by
  unfold letOwnedTupleGo;cases tg<;>first
    | exact wpAny_pure hQ
    | (cases u<;>first
        | exact wpAny_pure hQ
        | (refine wpAny_bind (wpAny_load ho ?_)
           rw [hc,hd];show wpAny M A (if (["enumerate","zip","dict_itemiterator","dict_reverseitemiterator","odict_iterator","itertools.zip_longest","itertools.pairwise"].contains n&&vs[0]?==some (rawInt _))=true then _ else _) Q E s;rw [if_neg (by intro h;rw [hn,Bool.false_and] at h;cases h)];exact wpAny_pure hQ))
def Itl (K:Y00)(a:Addr):It :=
 ⟨λ i H=>∃ xs x,SqL K H a xs/\xs[i]?=some x,λ i H x H'=>H'=H/\∀ xs,SqL K H a xs->xs[i]?=some x,λ i H=>∃ xs,SqL K H a xs/\xs.length<=i⟩
def Itt (K:Y00)(a:Addr):It :=
 ⟨λ i H=>∃ xs x,SqT K H a xs/\xs[i]?=some x,λ i H x H'=>H'=H/\∀ xs,SqT K H a xs->xs[i]?=some x,λ i H=>∃ xs,SqT K H a xs/\xs.length<=i⟩
def Itr (lo:Int)(n:Nat):It:=⟨λ i _=>i<n,λ i H x H'=>H'=H/\x=.int (lo+i),λ i _=>n<=i⟩
theorem Jz {P:Program}{w:World}{K:Y00}{tg:Expr}(a it:Addr):Turn P w K tg (Itl K a) [it] it (λ i h=>h.IsListIter it a i) where
 mem:=by simp
 obj:=λ i h st b hb=>by
  have e:b=it:=by simpa using hb
  subst e;obtain ⟨o,e,c,d⟩:=st;exact ⟨o,e,λ v z=>by rw [d] at z;cases z⟩
 keep:=λ i h h' st k=>st.at λ o e=>k it (by simp) o e
 item:=by
  intro X hP hw hK hc i pins s σ H E I hf st hg;subst hP hw hK;obtain ⟨xs,x,hq,hx⟩:=hg;obtain ⟨its,rv,p,hz⟩:=I.list hq;obtain ⟨u,hu,ru⟩:=rv.get hx;obtain ⟨f0,f1,f2,f3,f4,f5⟩:=hf it (by simp);refine wpAny_pyNext_list_item st p.isList (x:=u) (by simpa using hu) λ h' st' sb=>?_;have I1:Inv X pins σ H { s with heap:=h' }:=I.turned (t':=s.toks) (λ b o hb e=>(sb.2 b hb).trans e) f0 f1 f3 f4 f5;obtain ⟨o,e,c,d⟩:=id st';exact ⟨u,rfl,Zm (s:={ s with heap:=h' }) e c d (by decide) ⟨x,H,I1,ru,⟨rfl,λ ys hy=>by rw [I.list_inj hy hq];exact hx⟩,st',λ b hb=>(hf b hb).1⟩⟩
 done:=by
  intro X hP hw hK hc i pins s σ H E I hf st hg;subst hP hw hK;obtain ⟨xs,hq,hx⟩:=hg;obtain ⟨its,rv,p,hz⟩:=I.list hq;obtain ⟨f0,f1,f2,f3,f4,f5⟩:=hf it (by simp);have hl:=rv.length;exact wpAny_pyNext_list_end (I.ok.hd hc) st p.isList (by simp;omega) λ h' eb=>⟨rfl,I.turned (t':=s.toks) (λ b o hb e=>eb b o hb e) f0 f1 f3 f4 f5⟩
 self:=λ _ _ _ _ _ st h=>wpAny_pyIter_listiter st h
theorem QW {P:Program}{w:World}{K:Y00}{tg:Expr}(a it:Addr):Turn P w K tg (Itt K a) [it] it (λ i h=>h.IsTupleIter it a i) where
 mem:=by simp
 obj:=λ i h st b hb=>by
  have e:b=it:=by simpa using hb
  subst e;obtain ⟨o,e,c,d⟩:=st;exact ⟨o,e,λ v z=>by rw [d] at z;cases z⟩
 keep:=λ i h h' st k=>st.at λ o e=>k it (by simp) o e
 item:=by
  intro X hP hw hK hc i pins s σ H E I hf st hg;subst hP hw hK;obtain ⟨xs,x,hq,hx⟩:=hg;obtain ⟨its,rv,p,hz⟩:=I.tuple hq;obtain ⟨u,hu,ru⟩:=rv.get hx;obtain ⟨f0,f1,f2,f3,f4,f5⟩:=hf it (by simp);refine wpAny_pyNext_tuple_item st (show s.heap.IsTuple a its.toArray from p) (x:=u) (by simpa using hu) λ h' st' sb=>?_;have I1:Inv X pins σ H { s with heap:=h' }:=I.turned (t':=s.toks) (λ b o hb e=>(sb.2 b hb).trans e) f0 f1 f3 f4 f5;obtain ⟨o,e,c,d⟩:=id st';exact ⟨u,rfl,Zm (s:={ s with heap:=h' }) e c d (by decide) ⟨x,H,I1,ru,⟨rfl,λ ys hy=>by rw [I.tuple_inj hy hq];exact hx⟩,st',λ b hb=>(hf b hb).1⟩⟩
 done:=by
  intro X hP hw hK hc i pins s σ H E I hf st hg;subst hP hw hK;obtain ⟨xs,hq,hx⟩:=hg;obtain ⟨its,rv,p,hz⟩:=I.tuple hq;obtain ⟨f0,f1,f2,f3,f4,f5⟩:=hf it (by simp);have hl:=rv.length;exact wpAny_pyNext_tuple_end (I.ok.hd hc) st (show s.heap.IsTuple a its.toArray from p) (by simp;omega) λ h' eb=>⟨rfl,I.turned (t':=s.toks) (λ b o hb e=>eb b o hb e) f0 f1 f3 f4 f5⟩
 self:=λ _ _ _ _ _ st h=>wpAny_pyIter_tupleiter st h
theorem QX {P:Program}{w:World}{K:Y00}{tg:Expr}(it:Addr)(lo:Int)(n:Nat):Turn P w K tg (Itr lo n) [it] it (λ i h=>IsRangeIter h it (lo+(i:Nat)*1) ((n:Int)-(i:Nat)) 1) where
 mem:=by simp
 obj:=λ i h st b hb=>by
  have e:b=it:=by simpa using hb
  subst e;exact ⟨_,st,λ v z=>by
   have z':Data.fields _=Data.cell v:=z;cases z'⟩
 keep:=λ i h h' st k=>k it (by simp) _ st
 item:=by
  intro X hP hw hK hc i pins s σ H E I hf st hg;subst hP hw hK;obtain ⟨f0,f1,f2,f3,f4,f5⟩:=hf it (by simp);have W:=Walks.range (prog:=X.prog) (w:=X.w) (I.ok.hd hc) it lo 1 n;refine W.item i s _ _ hg st λ v h' tk hv st' kk=>?_;obtain ⟨t,rfl⟩:=hv;have I1:Inv X pins σ H { s with heap:=h',toks:=tk }:=I.turned (λ b o hb e=>kk b o (by simpa using hb) e) f0 f1 f3 f4 f5;refine ⟨_,rfl,Zm (s:={ s with heap:=h',toks:=tk }) (n:="range_iterator") st' rfl rfl (by decide) ⟨.int (lo+i),H,I1,⟨t,?_⟩,⟨rfl,rfl⟩,st',λ b hb=>(hf b hb).1⟩⟩;rw [Int.mul_one]
 done:=by
  intro X hP hw hK hc i pins s σ H E I hf st hg;subst hP hw hK;obtain ⟨f0,f1,f2,f3,f4,f5⟩:=hf it (by simp);exact wpAny_pyNext_range_end (I.ok.hd hc) st (by have:n<=i:=hg;omega) λ h' eb=>⟨rfl,I.turned (t':=s.toks) (λ b o hb e=>eb b o hb e) f0 f1 f3 f4 f5⟩
 self:=λ _ _ _ _ _ st h=>wpAny_pyIter_rangeiter st h
section
variable {X:Cx}{tg:Expr}
def z3s (K:Y00)(tl:TE):TI:=λ σ H R=>tl σ H λ x H1=>∃ a,x=.ref a/\(∃ xs,SqL K H1 a xs)/\R (Itl K a) H1
theorem OE {l:Expr}{tl:TE}(hl:PE X l tl):PI X tg l (z3s X.K tl):=by
 intro pins s σ H R I h;refine thn (hl pins s σ H _ I h) λ v s1 ⟨x,H1,I1,r1,q1⟩=>?_;obtain ⟨a,e,⟨xs,hq⟩,q⟩:=q1;subst e;cases r1;obtain ⟨its,rv,p,hz⟩:=I1.list hq;refine wpAny_pyIter_list p.isList ?_;refine ⟨s1.heap.objs.size,[s1.heap.objs.size],_,_,H1,rfl,I1.kept (t':=s1.toks) λ b o e=>Y01 _ e,Jz a _,⟨_,Y0c _ rfl,rfl,rfl⟩,λ b hb=>?_,q⟩;have e:b=s1.heap.objs.size:=by simpa using hb
 subst e;exact I1.fpOk (Y04 _) (I1.hok.fresh (Y04 _))
theorem VP {pins:List (Addr×Obj)}{σ:St}{H:Hp}{s:Shared}{R:It->Hp->Prop}{E:Value->Shared->Prop}{lo hi:Int}{t u v:Tok}{tk:Nat}(I:Inv X pins σ H s)(h1:-(2 ^ 62)<=lo)(h2:lo<2 ^ 62)(h3:-(2 ^ 62)<=hi)(h4:hi<2 ^ 62)
  (q:R (Itr lo (hi-lo).toNat) H):wpAny (model X.prog X.w) X.A (pyIter (.ref s.heap.objs.size)) (PIE X pins σ tg R) E { s with heap:=s.heap.push { cls:=.type "range",data:=.fields #[.int lo t,.int hi u,.int 1 v] },toks:=tk }:=by
 refine wpAny_pyIter_range (IsRange.new ..) (small_one h1 h2 h3 h4) ?_;have I1:Inv X pins σ H { s with heap:=s.heap.push { cls:=.type "range",data:=.fields #[.int lo t,.int hi u,.int 1 v] },toks:=tk }:=I.kept λ b o e=>Y01 _ e;refine ⟨(s.heap.push { cls:=.type "range",data:=.fields #[.int lo t,.int hi u,.int 1 v] }).objs.size,[(s.heap.push { cls:=.type "range",data:=.fields #[.int lo t,.int hi u,.int 1 v] }).objs.size],_,_,H,rfl,
  I1.kept (t':=tk) λ b o e=>Y01 _ e,QX _ lo (hi-lo).toNat,?_,λ b hb=>?_,q⟩
 ·have e1:lo+((0:Nat):Int)*1=lo:=by simp
  have e2:(((hi-lo).toNat:Nat):Int)-((0:Nat):Int)=Builtin.Range.rangeSize lo hi 1:=by rw [rangeSize_one];split<;>omega
  show IsRangeIter _ _ (lo+((0:Nat):Int)*1) ((((hi-lo).toNat:Nat):Int)-((0:Nat):Int)) 1;rw [e1,e2];exact Y0c _ rfl
 ·have e:b=(s.heap.push { cls:=.type "range",data:=.fields #[.int lo t,.int hi u,.int 1 v] }).objs.size:=by simpa using hb
  subst e;exact I1.fpOk (Y04 _) (I1.hok.fresh (Y04 _))
def z3t (ta:TA):TI:=λ σ H R=>ta σ H λ vs H1=>∃ j:Int,vs=[.int j]/\-(2 ^ 62)<=j/\j<2 ^ 62/\R (Itr 0 j.toNat) H1
theorem UQ {a:Expr}{ta:TA}{p pos:Pos} (hg:Gl X "range") (hm:X.mg "range"=none) (ha:PA X [a] ta) (hs:starEach [a] X.env=[(false,eval a X.env)]:=by rfl):PI X tg (.Call (.Name "range" p) [a] [] pos) (z3t ta):=by
 intro pins s σ H R I h;refine Call_ (jS I hg hm boot_range (Y0x (thn (ha pos pins s σ H _ I h) λ us s1 ⟨vs,H1,I1,r1,q1⟩=>?_) hs rfl));obtain ⟨j,e,q1,q2,q⟩:=q1;subst e;cases r1 with
 | cons r rr =>
  cases rr;obtain ⟨t,rfl⟩:=r;exact call_range_1 (VP I1 (by omega) (by omega) q1 q2 (by simpa using q))
def z1p (wi:TI)(g:TG)(tb:TS):TS:=λ D σ H=>wi σ H λ J H1=>∃ W:Nat->Nat->St->Hp->Prop,(∃ m,W 0 m σ H1)/\∀ i m σ H,W i m σ H ->
 (J.stop i H/\D.nx σ H)\/(J.go i H/\∃ N:St->Hp->Prop,(∀ σ' H',N σ' H'->∃ m',m'<m/\W (i+1) m' σ' H')/\∀ x H',J.yld i H x H'->g x σ H' λ σ2 H2=>tb { D with nx:=N,ct:=N,bk:=D.nx } σ2 H2)
def qm (fp:List Addr)(h:Heap):List (Addr×Obj):=fp.filterMap λ b=>(h.get? b).map λ o=>(b,o)
theorem jT {fp:List Addr}{h:Heap}{b:Addr}{o:Obj}(hb:b∈fp)(e:h.get? b=some o):(b,o)∈qm fp h:=Y3f.mpr ⟨b,hb,by rw [e];rfl⟩
theorem JA {fp:List Addr}{h:Heap}{p:Addr×Obj}(hp:p∈qm fp h):p.1∈fp/\h.get? p.1=some p.2:=by
 obtain ⟨b,hb,e⟩:=Y3f.mp hp;cases q:h.get? b with
 | none=>rw [q] at e;cases e
 | some o =>
  rw [q] at e;have e':(b,o)=p:=Option.some.inj e;subst e';exact ⟨hb,q⟩
theorem Inv.pinned {pins:List (Addr×Obj)}{σ:St}{H:Hp}{s:Shared}{fp:List Addr}(I:Inv X pins σ H s)(hf:∀ b∈fp,yf X pins H b)(ho:∀ b∈fp,∃ o,s.heap.get? b=some o/\∀ v,o.data≠.cell v):Inv X (pins++qm fp s.heap) σ H s :=
 I.pins_of λ p hp=>(Y19.mp hp).elim (λ z=>I.pin p (Y0m _ z)) λ z=>by
  obtain ⟨hb,e⟩:=JA z;obtain ⟨f0,f1,f2,_⟩:=hf p.1 hb;obtain ⟨o,e',d⟩:=ho p.1 hb;rw [e] at e';cases e';exact ⟨e,f0,f1,f2,d⟩
theorem Inv.unpinned {pins pl:List (Addr×Obj)}{σ:St}{H:Hp}{s:Shared}(I:Inv X (pins++pl) σ H s):Inv X pins σ H s:=I.pins_of λ p hp=>I.pin p (Y0m _ (Y0z _ hp))
theorem z1q {iter:Expr}{body:List Stmt}{wi:TI}{g:TG}{tb:TS}{pos:Pos}(hp:PassesOwn (model X.prog X.w) X.A X.env X.xe)(hc:X.calm=true)(hi:PI X tg iter wi)(hg:PG X tg g)(hb:PSs X body tb)
  (hs:∀ x,foldedSetIterable iter X.env x=pure x:=by intro _;rfl):PS X (.For tg iter body [] pos) (z1p wi g tb):=by
 intro pins s σ H D I h;refine wpAny_For (thn (hi pins s σ H _ I h) λ v s1 h1=>thn h1 λ itv s2 h2=>?_) hs;obtain ⟨it,fp,tn,J,H2,e,I2,T,st2,f2,W,⟨m0,w0⟩,turn⟩:=h2;subst e;have stat:∀ {H':Hp},(∀ b∈fp,H' b=none)->∀ b∈fp,yf X pins H' b:=λ hn b hb=>⟨hn b hb,(f2 b hb).2⟩;refine codeAny_forLoop_any (λ n s'=>∃ i σ' H',Inv X pins σ' H' s'/\tn i s'.heap/\(∀ b∈fp,H' b=none)/\W i n σ' H') ?_ m0 ⟨0,σ,H2,I2,st2,λ b hb=>(f2 b hb).1,w0⟩
 rintro n s3 ⟨i,σ3,H3,I3,st3,fr3,w3⟩
 rcases turn i n σ3 H3 w3 with ⟨stop,qn⟩ | ⟨go,N,hN,step⟩
 ·refine wpAny_passesOwn hp (thn (T.done X rfl rfl rfl hc i pins s3 σ3 H3 X.xe I3 (stat fr3) st3 stop) λ r s4 ⟨hr,I4⟩=>?_);subst hr;exact wpAny_execs_nil ⟨σ3,H3,I4,qn⟩
 ·refine wpAny_passesOwn hp (thn (T.item X rfl rfl rfl hc i pins s3 σ3 H3 X.xe I3 (stat fr3) st3 go) λ r s4 ⟨u,hr,h4⟩=>?_);subst hr;refine wpAny_passesOwn hp (thn h4 λ _ s5 ⟨x,H5,I5,r5,y5,st5,fr5⟩=>?_);have I5':=I5.pinned (stat fr5) (T.obj _ _ st5);refine wpAny_passesOwn hp (thn (hg _ s5 σ3 H5 x u _ I5' r5 (step x H5 y5)) λ _ s6 ⟨σ6,H6,I6,q6⟩=>?_);refine wpAny_passesOwn hp (thn (hb _ s6 σ6 H6 _ I6 q6) λ f s7 q7=>?_);have again:∀ {σ7:St}{H7:Hp},Inv X (pins++qm fp s5.heap) σ7 H7 s7->N σ7 H7->∃ m,m<n/\∃ i σ' H',Inv X pins σ' H' s7/\tn i s7.heap/\(∀ b∈fp,H' b=none)/\W i m σ' H':=λ {σ7 H7} I7 n7=>by
   obtain ⟨m',hm,w7⟩:=hN σ7 H7 n7;refine ⟨m',hm,i+1,σ7,H7,I7.unpinned,T.keep _ _ _ st5 λ b hb o e=>(I7.pin (b,o) (Y0m _ (Y0m _ (jT hb e)))).1,λ b hb=>?_,w7⟩;obtain ⟨o,e,d⟩:=T.obj _ _ st5 b hb;exact (I7.pin (b,o) (Y0m _ (Y0m _ (jT hb e)))).2.1
  cases f with
  | next=>obtain ⟨σ7,H7,I7,n7⟩:=q7;exact again I7 n7
  | cont=>obtain ⟨σ7,H7,I7,n7⟩:=q7;exact again I7 n7
  | brk=>obtain ⟨σ7,H7,I7,q7⟩:=q7;exact ⟨σ7,H7,I7.unpinned,q7⟩
  | ret v=>obtain ⟨x7,σ7,H7,I7,r7,q7⟩:=q7;exact ⟨x7,σ7,H7,I7.unpinned,r7,q7⟩
end
abbrev R2:=V->V->Hp->VK->Prop
def OpR (X:Cx)(f:Value->Value->Sem Value)(r:R2):Prop :=
 ∀ (pins:List (Addr×Obj)) (s:Shared) (σ:St) (H:Hp) (x y:V) (v u:Value) (Q:VK),Inv X pins σ H s->RelV x v->RelV y u->r x y H Q ->
  wpAny (model X.prog X.w) X.A (f v u) (EP X pins σ Q) X.xe s
def UnR (X:Cx)(f:Value->Sem Value)(r:V->Hp->VK->Prop):Prop :=
 ∀ (pins:List (Addr×Obj)) (s:Shared) (σ:St) (H:Hp) (x:V) (v:Value) (Q:VK),Inv X pins σ H s->RelV x v->r x H Q ->
  wpAny (model X.prog X.w) X.A (f v) (EP X pins σ Q) X.xe s
def zY (X:Cx)(f:Value)(r:List V->Hp->VK->Prop):Prop :=
 ∀ (pins:List (Addr×Obj)) (s:Shared) (σ:St) (H:Hp) (xs:List V) (us:List Value) (Q:VK),Inv X pins σ H s->Vals xs us->r xs H Q ->
  wpAny (model X.prog X.w) X.A (call f us) (EP X pins σ Q) X.xe s
def tOp (r:R2)(ta tb:TE):TE:=λ σ H Q=>ta σ H λ x H1=>tb σ H1 λ y H2=>r x y H2 Q
def tUn (r:V->Hp->VK->Prop)(ta:TE):TE:=λ σ H Q=>ta σ H λ x H1=>r x H1 Q
def rI (C:Int->Int->Prop)(g:Int->Int->V):R2:=λ x y H Q=>∃ i j,x=.int i/\y=.int j/\C i j/\Q (g i j) H
def rI0 (g:Int->Int->V):R2:=λ x y H Q=>∃ i j,x=.int i/\y=.int j/\Q (g i j) H
def rU (g:Int->V):V->Hp->VK->Prop:=λ x H Q=>∃ i,x=.int i/\Q (g i) H
section
variable {X:Cx}{a b c:Expr}{ta tb tc:TE}{pos:Pos}
theorem z1r (ha:PE X a ta)(hb:PE X b tb){pins:List (Addr×Obj)}{s:Shared}{σ:St}{H:Hp}{R:V->V->Hp->Prop}(I:Inv X pins σ H s)
  (h:ta σ H λ x H1=>tb σ H1 λ y H2=>R x y H2) {Q:Value->Shared->Prop}{f:Value->Value->Sem Value}
  (hf:∀ v u s2 x y H2,Inv X pins σ H2 s2->RelV x v->RelV y u->R x y H2->wpAny (model X.prog X.w) X.A (f v u) Q X.xe s2) :
  wpAny (model X.prog X.w) X.A (eval a X.env) (λ v s₁=>wpAny (model X.prog X.w) X.A (eval b X.env) (λ u s₂=>wpAny (model X.prog X.w) X.A (f v u) Q X.xe s₂) X.xe s₁) X.xe s:=by
 refine thn (ha pins s σ H _ I h) λ v s1 ⟨x,H1,I1,r1,q1⟩=>?_;refine thn (hb pins s1 σ H1 _ I1 q1) λ u s2 ⟨y,H2,I2,r2,q2⟩=>?_;exact hf v u s2 x y H2 I2 r1 r2 q2
theorem z3u {op:Operator}{r:R2}(ho:OpR X (binaryOp op) r)(ha:PE X a ta)(hb:PE X b tb):PE X (.BinOp a op b pos) (tOp r ta tb):=by
 intro pins s σ H Q I h;exact wpAny_BinOp (z1r ha hb I h λ v u s2 x y H2 I2 rx ry q=>ho pins s2 σ H2 x y v u Q I2 rx ry q)
theorem VQ {op:UnaryOp}{r:V->Hp->VK->Prop}(ho:UnR X (unaryOp op) r)(ha:PE X a ta):PE X (.UnaryOp op a pos) (tUn r ta):=by
 intro pins s σ H Q I h;exact UnaryOp_ (thn (ha pins s σ H _ I h) λ v s1 ⟨x,H1,I1,r1,q1⟩=>ho pins s1 σ H1 x v Q I1 r1 q1)
theorem opI {f:Value->Value->Sem Value}{C:Int->Int->Prop}{g:Int->Int->Int}
  (rule:∀ (i j:Int) (t u:Tok) (s:Shared) (Q:Value->Shared->Prop) (E:Value->Shared->Prop),C i j->Q (.int (g i j) s.toks) { s with toks:=s.toks+1 }->wpAny (model X.prog X.w) X.A (f (.int i t) (.int j u)) Q E s) :
  OpR X f (rI C λ i j=>.int (g i j)):=by
 intro pins s σ H x y v u Q I rx ry h;obtain ⟨i,j,rfl,rfl,hc,q⟩:=h;obtain ⟨t,rfl⟩:=rx;obtain ⟨t',rfl⟩:=ry;exact rule i j t t' s _ _ hc ⟨.int (g i j),H,I.tok _,⟨_,rfl⟩,q⟩
theorem OF {f:Value->Value->Sem Value}{g:Int->Int->Int}
  (rule:∀ (i j:Int) (t u:Tok) (s:Shared) (Q:Value->Shared->Prop) (E:Value->Shared->Prop),Q (.int (g i j) s.toks) { s with toks:=s.toks+1 }->wpAny (model X.prog X.w) X.A (f (.int i t) (.int j u)) Q E s) :
  OpR X f (rI0 λ i j=>.int (g i j)):=by
 intro pins s σ H x y v u Q I rx ry h;obtain ⟨i,j,rfl,rfl,q⟩:=h;obtain ⟨t,rfl⟩:=rx;obtain ⟨t',rfl⟩:=ry;exact rule i j t t' s _ _ ⟨.int (g i j),H,I.tok _,⟨_,rfl⟩,q⟩
theorem OG {f:Value->Value->Sem Value}{g:Int->Int->Bool}
  (rule:∀ (i j:Int) (t u:Tok) (s:Shared) (Q:Value->Shared->Prop) (E:Value->Shared->Prop),Q (.bool (g i j)) s->wpAny (model X.prog X.w) X.A (f (.int i t) (.int j u)) Q E s) :
  OpR X f (rI0 λ i j=>.bl (g i j)):=by
 intro pins s σ H x y v u Q I rx ry h;obtain ⟨i,j,rfl,rfl,q⟩:=h;obtain ⟨t,rfl⟩:=rx;obtain ⟨t',rfl⟩:=ry;exact rule i j t t' s _ _ ⟨.bl (g i j),H,I,rfl,q⟩
def z5s (i j:Int):Prop:=0<j/\j<1073741824
def z5t (i j:Int):Prop:=0<=j/\j<=1000000/\i.natAbs<2 ^ 64
def z6y (i j:Int):Prop:=(-(2 ^ 64)<i/\i<2 ^ 64)\/(-(2 ^ 64)<j/\j<2 ^ 64)
theorem QY (k:Nat):(0:Int)<=2 ^ k:=by
 rw [two_pow_cast];exact Int.natCast_nonneg _
theorem z1s:OpR X (binaryOp .Add) (rI0 λ i j=>.int (i+j)):=OF λ _ _ _ _ _ _ _ q=>add_int q
theorem z1t:OpR X (binaryOp .Sub) (rI0 λ i j=>.int (i-j)):=OF λ _ _ _ _ _ _ _ q=>sub_int q
theorem OH:OpR X (binaryOp .FloorDiv) (rI z5s λ i j=>.int (i/j)):=opI λ i j _ _ _ _ _ hc q=>by
 have h1:(0:Int)<j:=hc.1;have h2:j<1073741824:=hc.2;exact floordiv_int (by omega) (by rw [Int.fdiv_eq_ediv_of_nonneg i (by omega)];exact q) (.inl (PyProof.noPylong_small (by omega)))
theorem z1u:OpR X (binaryOp .Mod) (rI (λ _ j=>0<j) λ i j=>.int (i%j)):=opI λ i j _ _ _ _ _ hc q=>by
 have h1:(0:Int)<j:=hc;exact mod_int' (by omega) (by rw [Int.fmod_eq_emod_of_nonneg i (by omega)];exact q)
theorem z1v:OpR X (binaryOp .Pow) (rI z5t λ i j=>.int (i ^ j.toNat)):=opI λ _ _ _ _ _ _ _ hc q=>pow_int_small hc.1 hc.2.1 hc.2.2 q
theorem z1w:OpR X (binaryOp .RShift) (rI (λ _ j=>0<=j) λ i j=>.int (i/2 ^ j.toNat)):=opI λ i j _ _ _ _ _ hc q =>
 rshift_int hc (by rw [Int.fdiv_eq_ediv_of_nonneg i (QY _)];exact q)
theorem z1x:OpR X (binaryOp .BitAnd) (rI0 λ i j=>.int (Builtin.bitAnd i j)):=OF λ _ _ _ _ _ _ _ q=>and_int q
theorem z3v:OpR X (binaryOp .BitOr) (rI0 λ i j=>.int (Builtin.bitOr i j)):=OF λ _ _ _ _ _ _ _ q=>or_int q
theorem unI {f:Value->Sem Value}{g:Int->Int}
  (rule:∀ (i:Int) (t:Tok) (s:Shared) (Q:Value->Shared->Prop) (E:Value->Shared->Prop),Q (.int (g i) s.toks) { s with toks:=s.toks+1 }->wpAny (model X.prog X.w) X.A (f (.int i t)) Q E s) :
  UnR X f (rU λ i=>.int (g i)):=by
 intro pins s σ H x v Q I rx h;obtain ⟨i,rfl,q⟩:=h;obtain ⟨t,rfl⟩:=rx;exact rule i t s _ _ ⟨.int (g i),H,I.tok _,⟨_,rfl⟩,q⟩
theorem z1y:UnR X (unaryOp .USub) (rU λ i=>.int (-i)):=unI λ _ _ _ _ _ q=>neg_int q
theorem z1z:UnR X (unaryOp .Invert) (rU λ i=>.int (Builtin.bitNot i)):=unI λ _ _ _ _ _ q=>invert_int q
end
section
variable {X:Cx}{a b c:Expr}{ta tb tc:TE}{pos:Pos}
theorem Zn {pins:List (Addr×Obj)}{σ:St}{H:Hp}{s:Shared}{Q:VK}{k k':Bool}(I:Inv X pins σ H s)(q:Q (.bl k) H)(e:k=k'):EP X pins σ Q (.bool k') s:=by
 subst e;exact ⟨.bl k,H,I,rfl,q⟩
theorem z3w:OpR X (compareOp .Lt) (rI0 λ i j=>.bl (decide (i<j))):=OG λ _ _ _ _ _ _ _ q=>lt_int q
theorem z3x:OpR X (compareOp .LtE) (rI0 λ i j=>.bl (decide (i<=j))):=OG λ _ _ _ _ _ _ _ q=>le_int q
theorem z3y:OpR X (compareOp .Gt) (rI0 λ i j=>.bl (decide (j<i))):=OG λ _ _ _ _ _ _ _ q=>gt_int q
theorem z3z:OpR X (compareOp .GtE) (rI0 λ i j=>.bl (decide (j<=i))):=OG λ _ _ _ _ _ _ _ q=>ge_int q
theorem UR:OpR X (compareOp .In) (λ x y H Q=>∃ i j,x=.str i/\y=.str j/\Q (.bl (!(Builtin.Str.occurrences j i 0 j.length 1).isEmpty)) H):=by
 intro pins s σ H x y v u Q I rx ry h;obtain ⟨i,j,rfl,rfl,q⟩:=h;obtain ⟨t,rfl⟩:=rx;obtain ⟨t',rfl⟩:=ry;exact in_str (Zn I q rfl)
theorem U4 {op:CmpOp}{r:R2}(ho:OpR X (compareOp op) r)(ha:PE X a ta)(hb:PE X b tb)(hm:behindInMarks op b=false):PE X (.Compare a [op] [b] pos) (tOp r ta tb):=by
 intro pins s σ H Q I h;exact wpAny_Compare1 (z1r ha hb I h λ v u s2 x y H2 I2 rx ry q=>ho pins s2 σ H2 x y v u Q I2 rx ry q) hm
def VR (t:TE):TT:=λ σ H Q=>t σ H λ x H'=>∃ k,x=.bl k/\Q k H'
theorem U5 {op:CmpOp}{r:R2}(ho:OpR X (compareOp op) r)(ha:PE X a ta)(hb:PE X b tb)(hm:behindInMarks op b=false):PT X (.Compare a [op] [b] pos) (VR (tOp r ta tb)):=by
 intro pins s σ H Q I h;refine wpAny_isTrue_Compare1 (thn (ha pins s σ H _ I h) λ v s1 ⟨x,H1,I1,r1,q1⟩=>thn (hb pins s1 σ H1 _ I1 q1) λ u s2 ⟨y,H2,I2,r2,q2⟩ =>
  thn (ho pins s2 σ H2 x y v u _ I2 r1 r2 q2) λ c s3 ⟨z,H3,I3,r3,k,e,q3⟩=>?_) hm
 subst e;cases r3;exact wpAny_truthy_bool ⟨H3,I3,q3⟩
theorem yg:(sizeLine:Nat)<2 ^ 63:=by rw [sizeLine_eq];decide
theorem QZ:OpR X (binaryOp .Add) (λ x y H Q=>∃ i j,x=.str i/\y=.str j/\i.length+j.length<=sizeLine/\Q (.str (i++j)) H):=by
 intro pins s σ H x y v u Q I rx ry h;obtain ⟨i,j,rfl,rfl,hz,q⟩:=h;obtain ⟨t,rfl⟩:=rx;obtain ⟨t',rfl⟩:=ry;exact add_str (λ t' tk=>⟨.str (i++j),H,I.tok _,⟨_,rfl⟩,q⟩) hz
theorem qo {x:V}{us:List Value}(r:Vals [x] us):∃ u,us=[u]/\RelV x u:=by
 cases r with
 | cons r1 r2=>cases r2;exact ⟨_,rfl,r1⟩
theorem z07 {x y:V}{us:List Value}(r:Vals [x,y] us):∃ u w',us=[u,w']/\RelV x u/\RelV y w':=by
 cases r with
 | cons r1 r2 =>
  cases r2 with
  | cons r3 r4=>cases r4;exact ⟨_,_,rfl,r1,r3⟩
theorem VS:zY X (.builtin "abs") (λ xs H Q=>∃ i,xs=[.int i]/\Q (.int (if i<0 then -i else i)) H):=by
 intro pins s σ H xs us Q I r h;obtain ⟨i,rfl,q⟩:=h;obtain ⟨u,rfl,t,rfl⟩:=qo r;exact call_abs_int λ u tk=>⟨.int (if i<0 then -i else i),H,I.tok _,⟨_,rfl⟩,q⟩
theorem JB:zY X (.type "int") (λ xs H Q=>(∃ i,xs=[.int i]/\Q (.int i) H)\/∃ k,xs=[.bl k]/\Q (.int (if k then 1 else 0)) H):=by
 intro pins s σ H xs us Q I r h;rcases h with ⟨i,rfl,q⟩ | ⟨k,rfl,q⟩
 ·obtain ⟨u,rfl,t,rfl⟩:=qo r;exact call_int_int ⟨.int i,H,I,⟨_,rfl⟩,q⟩
 ·obtain ⟨u,rfl,r1⟩:=qo r;cases r1;exact call_int_bool ⟨.int (if k then 1 else 0),H,I.tok _,⟨_,rfl⟩,q⟩
theorem Wf:zY X (.type "str") (λ xs H Q=>∃ i,xs=[.int i]/\i.natAbs.log2<1920/\Q (.str (toString i)) H):=by
 intro pins s σ H xs us Q I r h;obtain ⟨i,rfl,hz,q⟩:=h;obtain ⟨u,rfl,t,rfl⟩:=qo r;exact PySem.P.str_of_int hz ⟨.str _,H,I.tok _,⟨_,rfl⟩,q⟩
def z5u (K:Y00)(x:V)(H:Hp)(n:Nat):Prop :=
 match x with
 | .str y=>y.length<=sizeLine/\n=y.length
 | .byt y=>y.size<=sizeLine/\n=y.size
 | .ref p=>(∃ xs,SqL K H p xs/\n=xs.length)\/∃ xs,SqT K H p xs/\n=xs.length
 | _=>False
theorem VT:zY X (.builtin "len") (λ xs H Q=>∃ x n,xs=[x]/\z5u X.K x H n/\Q (.int n) H):=by
 intro pins s σ H xs us Q I r h;obtain ⟨x,n,rfl,e,q⟩:=h;obtain ⟨u,rfl,rx⟩:=qo r;have hl:=yg;have hs:sizeLine=16777216:=sizeLine_eq;cases x with
 | str y =>
  obtain ⟨t,rfl⟩:=rx;obtain ⟨hy,e'⟩:y.length<=sizeLine/\n=y.length:=e;subst e';exact len_str (by omega) ⟨.int _,H,I.tok _,⟨_,rfl⟩,q⟩
 | byt y =>
  obtain ⟨t,rfl⟩:=rx;obtain ⟨hy,e'⟩:y.size<=sizeLine/\n=y.size:=e;subst e';exact PySem.W.len_bytes (by omega) ⟨.int _,H,I.tok _,⟨_,rfl⟩,q⟩
 | ref p =>
  cases rx;have e':(∃ xs,SqL X.K H p xs/\n=xs.length)\/∃ xs,SqT X.K H p xs/\n=xs.length:=e;rcases e' with ⟨xs,hx,e'⟩ | ⟨xs,hx,e'⟩
  ·subst e';obtain ⟨its,r',pl,hz⟩:=I.list hx;have hlen:=r'.length;exact Calls.call_len_list pl.isList (by simp only [Y0b];omega) ⟨.int xs.length,H,I.tok _,⟨_,by simp only [Y0b];rw [hlen]⟩,q⟩
  ·subst e';obtain ⟨its,r',pl,hz⟩:=I.tuple hx;have hlen:=r'.length;exact len_tuple pl (by simp only [Y0b];omega) ⟨.int xs.length,H,I.tok _,⟨_,by simp only [Y0b];rw [hlen]⟩,q⟩
 | _=>exact (show False from e).elim
end
structure ObjM (h:Heap)(x dx C:Addr)(mA:Str->Option Value):Prop where
 obj:h.get? x=some (PySem.W.instObj C dx)
 ns:h.Ns1 dx mA
 ne:dx≠x
theorem US {h:Heap}{dx:Addr}{mA:Str->Option Value}(n:h.Ns1 dx mA):∃ od,h.get? dx=some od/\∀ name,PySem.W.lookIn name od=some (mA name):=by
 obtain ⟨o,es,ep,ho,hd,hk,_,hm⟩:=n;refine ⟨o,ho,λ name=>?_⟩;have e:=hm name;unfold nsFind findBy at e;rw [<- Array.find?_toList] at e;unfold PySem.W.lookIn;rw [hd];dsimp only
 split
 ·rename_i y q;rw [q] at e;exact congrArg some e
 ·rename_i q;rw [q] at e;have a:es.toList.any (·.refKey)=false:=by
   rw [List.any_eq_false];intro y hy;obtain ⟨z,t,hkey⟩:=hk y (Array.mem_toList_iff.mp hy);simp [DictEntry.refKey,hkey]
  have a':¬ es.toList.any (·.refKey)=true:=by rw [a];exact Y0t
  rw [if_neg a'];exact congrArg some e
theorem ObjM.look {h:Heap}{x dx C:Addr}{mA:Str->Option Value}(I:ObjM h x dx C mA):∃ od,PySem.W.InstAt h x (PySem.W.instObj C dx) C (some od)/\∀ name,PySem.W.lookIn name od=some (mA name) :=
 let ⟨od,ho,hl⟩:=US I.ns
 ⟨od,⟨I.obj,rfl,rfl,ho⟩,hl⟩
section
variable {prog:Program}{w:World}{A:Around}{E:Value->Shared->Prop}{s:Shared}{K:Y00}{x dx C f:Addr}{mA:Str->Option Value}{name:Str}{v:Value}
theorem OI {expr:Bool}{Q:Value->Shared->Prop}(X:K.In s.heap)(I:ObjM s.heap x dx C mA)(hg:PySem.W.plainGet K C name=true)(hh:PySem.W.hasDictIn K C=true)
  (ha:PySem.W.findIn K (.ref C) name=some none) (hv:mA name=some v) (hv':PySem.W.handedIn v=true) (h:Q v { s with toks:=s.toks+1 }) :
  wpAny (model prog w) A (getAttr (.ref x) name expr) Q E s:=by
 obtain ⟨od,J,hl⟩:=I.look;exact PySem.W.get_value X J (PySem.W.plainGet_of hg).1 (PySem.W.findObj_own hh ha rfl (by rw [hl,hv])) hv' h
theorem OJ {ns:List Str}{Q:Unit->Shared->Prop}(X:K.In s.heap)(I:ObjM s.heap x dx C mA)
  (hs:PySem.W.findIn K (.ref C) "__setattr__"=some (some (.builtin "object.__setattr__"))) (hp:PySem.W.plainOver K C=true) (ht:PySem.W.takerIn K C name=some none) (hh:PySem.W.hasDictIn K C=true)
  (hw:PySem.Within mA ns) (hsz:ns.length<=sizeLine)
  (h:∀ h',ObjM h' x dx C (λ y=>if y=name then some v else mA y)->Heap.SameBut dx s.heap h'->Q () { s with heap:=h',toks:=s.toks+2 }) :
  wpAny (model prog w) A (setAttr (.ref x) name v) Q E s:=by
 obtain ⟨od,J,hl⟩:=I.look;refine PySem.W.set_plain X J hs (PySem.W.osa_open (s:={ s with toks:=s.toks+1 }) (r:=none) X J hp ht λ b=>?_);obtain ⟨cd,hc,hd'⟩:=PySem.W.any_some hh;have hx:s.heap.get? x=some ⟨.ref C,some dx,.plain,#[]⟩:=I.obj;refine wpAny_bind (wpAny_pure (wpAny_bind (wpAny_bind (wpAny_loadPart hx (wpAny_bind (PySem.W.Looks.here (s:={ s with toks:=s.toks+1 }) (PySem.W.looks_clsIn X hc) ?_))))));rw [hd'];refine wpAny_pure (a:=some dx) (wpAny_bind (wpAny_pure (wpAny_bind ?_)));refine wpAny_nsSet1 (s:={ s with toks:=s.toks+1 }) I.ns λ h' hn2 hs2=>?_;obtain ⟨oD,esD,epD,hoD,hdD,hcD⟩:=hn2.count (PySem.Within.cons name v hw);refine wpAny_bind (wpAny_lookBehind hoD (by rw [hdD];exact pastItsLine_dict (Y15 hcD (by rw [Y09];omega))) ?_);exact wpAny_pure (h _ ⟨(hs2.2 _ (Ne.symm I.ne)).trans I.obj,hn2,I.ne⟩ hs2)
theorem VU {R:Result->Shared->Prop}{vs:List Value}{kw:List (Str×Value)}(X:K.In s.heap)(hm:PySem.W.makesIn K C=true)
    (hi:PySem.W.findIn K (.ref C) "__init__"=some (some (.ref f))) (hf:PySem.W.typeIn K (.ref f)=some (.type "function"))
    (h:codeAny (model prog w) (A.under (.builtin "type.__call__" ⟨.ref C::vs,kw⟩)) (.call (.ref f) ⟨.ref (s.heap.objs.size+1)::vs,kw⟩) (PySem.W.InitBack (s.heap.objs.size+1) R)
      { s with heap:=(s.heap.push PySem.W.emptyDict).push (PySem.W.instObj C s.heap.objs.size) }) :
    codeAny (model prog w) A (.call (.ref C) ⟨vs,kw⟩) R s:=by
  obtain ⟨hh,g,d,t,os⟩:=s;exact PySem.W.make_core (PySem.W.makes_of X hm) (PySem.W.looks_findIn X hi) (λ self=>PySem.W.bind_fn X self hf) (.inl rfl) h
end
def wK (f:Str)(v:V):List (Str×V)->List (Str×V)
 | []=>[(f,v)]
 | (g,x)::r=>if g=f then (g,v)::r else (g,x)::wK f v r
theorem yV (f g:Str)(v:V):∀ fs:List (Str×V),(wK f v fs).lookup g=if g=f then some v else fs.lookup g
 | []=>by
  show List.lookup g [(f,v)]=_;by_cases h:g=f
  ·have hb:(g==f)=true:=beq_iff_eq.mpr h;simp only [List.lookup,hb,if_pos h]
  ·have hb:(g==f)=false:=beq_eq_false_iff_ne.mpr h;simp only [List.lookup,hb,if_neg h]
 | (k,x)::r=>by
  have ih:=yV f g v r;rw [show wK f v ((k,x)::r)=(if k=f then (k,v)::r else (k,x)::wK f v r) from rfl];by_cases hk:k=f
  ·rw [if_pos hk];by_cases h:g=k
   ·have hb:(g==k)=true:=beq_iff_eq.mpr h;simp only [List.lookup,hb,if_pos (h.trans hk)]
   ·have hb:(g==k)=false:=beq_eq_false_iff_ne.mpr h;simp only [List.lookup,hb,if_neg (λ e:g=f=>h (e.trans hk.symm))]
  ·rw [if_neg hk];by_cases h:g=k
   ·have hb:(g==k)=true:=beq_iff_eq.mpr h;simp only [List.lookup,hb,if_neg (λ e:g=f=>hk (h.symm.trans e))]
   ·have hb:(g==k)=false:=beq_eq_false_iff_ne.mpr h;simp only [List.lookup,hb];exact ih
theorem yH (f:Str)(v:V):∀ fs:List (Str×V),f∈(wK f v fs).map (·.1)/\∀ g,g∈fs.map (·.1)->g∈(wK f v fs).map (·.1)
 | []=>⟨by simp [wK],λ g h=>by simp at h⟩
 | (k,x)::r=>by
  obtain ⟨i1,i2⟩:=yH f v r;rw [show wK f v ((k,x)::r)=(if k=f then (k,v)::r else (k,x)::wK f v r) from rfl];by_cases hk:k=f
  ·rw [if_pos hk];subst hk;exact ⟨by simp,λ g h=>by simpa using h⟩
  ·rw [if_neg hk];refine ⟨?_,λ g h=>?_⟩
   ·rw [Y0i];exact Y02 _ i1
   ·rw [Y0i] at h ⊢;rcases Y06.mp h with e | e
    ·exact Y06.mpr (.inl e)
    ·exact Y02 _ (i2 g e)
theorem yW (f:Str)(v:V):∀ fs:List (Str×V),(wK f v fs).length<=fs.length+1
 | []=>by simp [wK]
 | (k,x)::r=>by
  have ih:=yW f v r;rw [show wK f v ((k,x)::r)=(if k=f then (k,v)::r else (k,x)::wK f v r) from rfl];by_cases hk:k=f
  ·rw [if_pos hk,Y09,Y09];omega
  ·rw [if_neg hk,Y09,Y09];omega
theorem RelO.some_of {v:V}{o:Option Value}(r:RelO (some v) o):∃ u,o=some u/\RelV v u:=by
 cases o with
 | none=>exact (show False from r).elim
 | some u=>exact ⟨u,rfl,r⟩
theorem UT {v:V}{u:Value}(r:RelV v u):PySem.W.handedIn u=true:=by
 cases v with
 | non=>cases (show u=Value.none from r);rfl
 | bl b=>cases (show u=Value.bool b from r);rfl
 | int i=>obtain ⟨t,e⟩:=(show ∃ t,u=Value.int i t from r);cases e;rfl
 | str x=>obtain ⟨t,e⟩:=(show ∃ t,u=Value.str x t from r);cases e;rfl
 | byt b=>obtain ⟨t,e⟩:=(show ∃ t,u=Value.bytes b t from r);cases e;rfl
 | flt b=>obtain ⟨t,e⟩:=(show ∃ t,u=Value.float b t from r);cases e;rfl
 | ref a=>cases (show u=Value.ref a from r);rfl
 | ty n=>cases (show u=Value.type n from r);rfl
section
variable {P:Program}{w:World}{H H':Hp}{h h':Heap}{a C dx:Addr}{fs fs':List (Str×V)}
theorem Wg (hok:HOk P w H h)(e:H a=some (.ins C dx fs)):∃ mA,ObjM h a dx C mA/\(∀ f,RelO (fs.lookup f) (mA f))/\PySem.Within mA (fs.map (·.1))/\fs.length<=1000/\H dx=some (.own a):=by
 obtain ⟨d,z,ne,ob,mA,n,r,q⟩:=(show ObjOk P w H h a (.ins C dx fs) from hok a _ e);exact ⟨mA,⟨ob,n,ne⟩,r,q,z,d⟩
end
structure Cls (K:Y00)(C:Addr):Prop where
 pg:PySem.W.plainGet K C Str.empty=true
 hd:PySem.W.hasDictIn K C=true
 po:PySem.W.plainOver K C=true
 sa:PySem.W.findIn K (.ref C) "__setattr__"=some (some (.builtin "object.__setattr__"))
theorem Cls.get {K:Y00}{C:Addr}(c:Cls K C)(f:Str):PySem.W.plainGet K C f=true:=c.pg
def NoAttr (K:Y00)(C:Addr)(f:Str):Prop:=PySem.W.findIn K (.ref C) f=some none
theorem NoAttr.taker {K:Y00}{C:Addr}{f:Str}(n:NoAttr K C f):PySem.W.takerIn K C f=some none:=by
 unfold PySem.W.takerIn;rw [show PySem.W.findIn K (.ref C) f=some none from n];rfl
structure Con (K:Y00)(C:Addr)(f:Str)(v:V)(u:Value):Prop where
 at_:PySem.W.findIn K (.ref C) f=some (some u)
 rel:RelV v u
 get:PySem.W.specialIn K u "__get__"=some none
 cp:PySem.W.copiedNames.contains f=false
structure Meth (K:Y00)(C:Addr)(m:Str)(f:Addr):Prop where
 at_:PySem.W.findIn K (.ref C) m=some (some (.ref f))
 fn:PySem.W.isFn K (.ref f)=true
 kp:PySem.W.keepIn K (.ref f)=true
section
variable {X:Cx}{pins:List (Addr×Obj)}{σ:St}{H:Hp}{s:Shared}{a C dx:Addr}{fs:List (Str×V)}{f:Str}{v:V}{A:Around}{E:Value->Shared->Prop}
theorem Y0 {b:Bool}{Q:Value->Shared->Prop}(I:Inv X pins σ H s)(e:H a=some (.ins C dx fs))(c:Cls X.K C)(n:NoAttr X.K C f)(l:fs.lookup f=some v)
  (h:∀ u s',Inv X pins σ H s'->RelV v u->Q u s'):wpAny (model X.prog X.w) A (getAttr (.ref a) f b) Q E s:=by
 obtain ⟨mA,O,r,_,_,_⟩:=Wg I.hok e;obtain ⟨u,hu,ru⟩:=RelO.some_of (v:=v) (o:=mA f) (by rw [<- l];exact r f);exact OI I.kIn O (c.get f) c.hd n hu (UT ru) (h u _ (I.tok _) ru)
theorem Y1 {y:V}{u:Value}{Q:Unit->Shared->Prop}(I:Inv X pins σ H s)(e:H a=some (.ins C dx fs))(c:Cls X.K C)(n:NoAttr X.K C f)(hl:fs.length<1000)(ry:RelV y u)
  (h:∀ s',Inv X pins σ (upd H a (.ins C dx (wK f y fs))) s'->Q () s'):wpAny (model X.prog X.w) A (setAttr (.ref a) f u) Q E s:=by
 obtain ⟨mA,O,r,wi,_,ho⟩:=Wg I.hok e;have hz:(fs.map (·.1)).length<=sizeLine:=by rw [Y0d,sizeLine_eq];omega
 refine OJ I.kIn O c.sa c.po n.taker c.hd wi hz λ h' O' sb=>h _ ?_;have hd:∃ o,h'.get? dx=some o:=let ⟨o,_,_,e',_⟩:=O'.ns;⟨o,e'⟩;refine I.write (x:=a) (e:=dx) (by rw [e];exact True.intro) (.inr ho) (λ b q hb z=>(sb.2 b hb).trans z) hd ?_;refine ⟨by rw [zo O.ne];exact ho,?_,O.ne,O'.obj,_,O'.ns,λ g=>?_,λ g hg=>?_⟩
 ·have:=yW f y fs;omega
 ·show RelO ((wK f y fs).lookup g) (if g=f then some u else mA g);rw [yV];by_cases q:g=f
  ·rw [if_pos q,if_pos q];exact ry
  ·rw [if_neg q,if_neg q];exact r g
 ·by_cases q:g=f
  ·rw [q];exact (yH f y fs).1
  ·refine (yH f y fs).2 g (wi g λ z=>hg ?_);show (if g=f then some u else mA g)=none;rw [if_neg q];exact z
theorem Inv.made (I:Inv X pins σ H s):Inv X pins σ (upd (upd H s.heap.objs.size (.own (s.heap.objs.size+1))) (s.heap.objs.size+1) (.ins C s.heap.objs.size []))
    { s with heap:=(s.heap.push PySem.W.emptyDict).push (PySem.W.instObj C s.heap.objs.size) }:=by
  have e1:(s.heap.push PySem.W.emptyDict).get? s.heap.objs.size=some PySem.W.emptyDict:=Y0c s.heap rfl;have e2:((s.heap.push PySem.W.emptyDict).push (PySem.W.instObj C s.heap.objs.size)).get? (s.heap.objs.size+1)=some (PySem.W.instObj C s.heap.objs.size):=by
    have:=Y0c (s.heap.push PySem.W.emptyDict) (o:=PySem.W.instObj C s.heap.objs.size) rfl
    rwa [Y1g] at this
  have e3:(s.heap.push PySem.W.emptyDict).Ns s.heap.objs.size (λ _=>none):=⟨PySem.W.emptyDict,#[],_,e1,rfl,(λ e he=>absurd he (by simp)),λ _=>rfl⟩;have I1:=I.laid (a:=s.heap.objs.size) (o:=.own (s.heap.objs.size+1)) (h':=s.heap.push PySem.W.emptyDict) (t':=s.toks) (λ b u q=>Y01 _ q) (Y04 _) ⟨_,e1⟩;refine I1.laid (a:=s.heap.objs.size+1) (o:=.ins C s.heap.objs.size []) (t':=s.toks) (λ b u q=>Y01 _ q) (Nat.le_of_eq (Y1g _ _)) ?_;have ne:s.heap.objs.size≠s.heap.objs.size+1:=Y0g (Y1x _);refine ⟨by rw [zo ne,zx],Y1d _,ne,e2,λ _=>none,(Heap.Ns1.of_empty e3).at λ o q=>Y01 _ q,λ _=>True.intro,λ y hy=>absurd rfl hy⟩
theorem OK {prog:Program}{w:World}{env:Env}{e:Expr}{f:Str}{pos:Pos}{s:Shared}{Q:Value->Shared->Prop}(hb:attributeBase e f env (eval e env)=eval e env)
  (h:wpAny (model prog w) A (eval e env) (λ o s₁=>wpAny (model prog w) A (getAttr o f true) Q E s₁) E s):wpAny (model prog w) A (eval (.Attribute e f pos) env) Q E s :=
 Attribute_any_ h (by rw [arm_eval_Attribute,hb])
end
def z5v (K:Y00)(ta:TE)(f:Str):TE:=λ σ H Q=>ta σ H λ x H1=>∃ a C dx fs v,x=.ref a/\H1 a=some (.ins C dx fs)/\Cls K C/\NoAttr K C f/\fs.lookup f=some v/\Q v H1
def z5w (K:Y00)(ta tv:TE)(f:Str):TS:=λ D σ H=>tv σ H λ y H1=>ta σ H1 λ x H2=>∃ a C dx fs,x=.ref a/\H2 a=some (.ins C dx fs)/\Cls K C/\NoAttr K C f/\fs.length<1000 /\
 D.nx σ (upd H2 a (.ins C dx (wK f y fs)))
section
variable {X:Cx}{o e value:Expr}{f:Str}{pos pos' tpos:Pos}{ta tv:TE}
theorem z21 (he:PE X e ta)(hb:attributeBase e f X.env (eval e X.env)=eval e X.env):PE X (.Attribute e f pos) (z5v X.K ta f):=by
 intro pins s σ H Q I h;refine OK hb (thn (he pins s σ H _ I h) λ u s1 ⟨x,H1,I1,rx,a,C,dx,fs,v,ex,ea,c,n,l,q⟩=>?_);subst ex;obtain rfl:u=Value.ref a:=rx;exact Y0 I1 ea c n l λ u' s2 I2 ru=>⟨v,H1,I2,ru,q⟩
theorem z22 (ha:PE X o ta)(hv:PE X value tv)(hs:swapsWith value (some (.Attribute o f pos')) pos.line X.env=pure false):PS X (.Assign [.Attribute o f pos'] value pos) (z5w X.K ta tv f):=by
 intro pins s σ H D I h;refine plainObj_wpAny_Assign_Attribute (thn (hv pins s σ H _ I h) λ u s1 ⟨y,H1,I1,ry,q⟩=>thn (ha pins s1 σ H1 _ I1 q) λ ov s2 ⟨x,H2,I2,rx,a,C,dx,fs,ex,ea,c,n,l,q2⟩=>?_) hs;subst ex;obtain rfl:ov=Value.ref a:=rx;exact Y1 I2 ea c n l ry λ s3 I3=>⟨σ,_,I3,q2⟩
end
section
variable {X:Cx}{pins:List (Addr×Obj)}{σ:St}{H:Hp}{s:Shared}{A:Around}{E:Value->Shared->Prop}{Q:Value->Shared->Prop}{c:Value}{b:Bool}
inductive TyOf (K:Y00)(H:Hp):V->Value->Prop where
 | non:TyOf K H .non (.type "NoneType")
 | bl (x:Bool):TyOf K H (.bl x) (.type "bool")
 | int (i:Int):TyOf K H (.int i) (.type "int")
 | str (x:Str):TyOf K H (.str x) (.type "str")
 | flt (x:UInt64):TyOf K H (.flt x) (.type "float")
 | lst {a:Addr}{xs:List V} (e:H a=some (.lst xs)):TyOf K H (.ref a) (.type "list")
 | frz {a:Addr}{o:Obj}{xs:List V} (e:H a=some (.frz o (.lst xs))):TyOf K H (.ref a) (.type "list")
 | tup {a:Addr}{xs:List V} (e:H a=some (.tup xs)):TyOf K H (.ref a) (.type "tuple")
 | dK {a:Addr}{kvs:List (Key×V)} (e:H a=some (.dK kvs)):TyOf K H (.ref a) (.type "dict")
 | dT {a:Addr}{kvs:List (List Key×V)} (e:H a=some (.dT kvs)):TyOf K H (.ref a) (.type "dict")
 | ins {a C dx:Addr}{fs:List (Str×V)} (e:H a=some (.ins C dx fs)) (cl:Cls K C) (ha:PySem.W.findIn K (.ref C) "__class__"=some (some (.builtin "object.__class__")))
   (hn:PySem.W.specialIn K (.builtin "object.__class__") "__get__"=some (some (.builtin "getset_descriptor.__get__"))) (htk:PySem.W.takesIn K (.builtin "object.__class__")=some true)
   (hm:PySem.W.mroIn K C (.type "object")=some true):TyOf K H (.ref a) (.ref C)
theorem wB {x:V}{u t:Value}(I:Inv X pins σ H s)(rx:RelV x u)(ty:TyOf X.K H x t)(e:PySem.W.kitOne X.K t c=some b)(h:∀ tk,Q (.bool b) { s with toks:=tk }) :
  wpAny (model X.prog X.w) A (call (.builtin "isinstance") [u,c]) Q E s:=by
 cases ty with
 | non=>cases (show u=Value.none from rx);exact Y13 PySem.W.kitx_none I.kIn True.intro e (λ z=>nomatch z) h
 | bl y=>cases (show u=Value.bool y from rx);exact Y13 PySem.W.kitx_bool I.kIn True.intro e (λ z=>nomatch z) h
 | int i=>obtain ⟨t,q⟩:=(show ∃ t,u=Value.int i t from rx);cases q;exact Y13 PySem.W.kitx_int I.kIn True.intro e (λ z=>nomatch z) h
 | str y=>obtain ⟨t,q⟩:=(show ∃ t,u=Value.str y t from rx);cases q;exact Y13 PySem.W.kitx_str I.kIn True.intro e (λ z=>nomatch z) h
 | flt y=>obtain ⟨t,q⟩:=(show ∃ t,u=Value.float y t from rx);cases q;exact Y13 PySem.W.kitx_float I.kIn True.intro e (λ z=>nomatch z) h
 | @lst a xs ea =>
  cases (show u=Value.ref a from rx);obtain ⟨_,_,n,_,h1⟩:=(show ObjOk X.prog X.w H s.heap a (.lst xs) from I.hok a _ ea);exact Y13 Y2s I.kIn ⟨_,h1,rfl⟩ e (λ z=>nomatch z) h
 | @frz a ob xs ea =>
  cases (show u=Value.ref a from rx);obtain ⟨_,_,_,n,_,h1⟩:=(show ObjOk X.prog X.w H s.heap a (.frz ob (.lst xs)) from I.hok a _ ea);exact Y13 Y2s I.kIn ⟨_,h1,rfl⟩ e (λ z=>nomatch z) h
 | @tup a xs ea =>
  cases (show u=Value.ref a from rx);obtain ⟨_,_,_,p⟩:=(show ObjOk X.prog X.w H s.heap a (.tup xs) from I.hok a _ ea);obtain ⟨o,h1,h2,_⟩:=p;exact Y13 PySem.W.kitx_tuple I.kIn ⟨o,h1,h2⟩ e (λ z=>nomatch z) h
 | @dK a kvs ea =>
  cases (show u=Value.ref a from rx);obtain ⟨_,_,vs,_,p⟩:=(show ObjOk X.prog X.w H s.heap a (.dK kvs) from I.hok a _ ea);obtain ⟨o,es,ep,h1,h2,_⟩:=p;exact Y13 PySem.W.kitx_dict I.kIn ⟨o,h1,h2.1⟩ e (λ z=>nomatch z) h
 | @dT a kvs ea =>
  cases (show u=Value.ref a from rx);obtain ⟨_,_,xs,_,o,es,ep,h1,h2,_⟩:=(show ObjOk X.prog X.w H s.heap a (.dT kvs) from I.hok a _ ea);exact Y13 PySem.W.kitx_dict I.kIn ⟨o,h1,h2.1⟩ e (λ z=>nomatch z) h
 | @ins a C dx fs ea cl ha hn htk hm =>
  cases (show u=Value.ref a from rx);obtain ⟨mA,O,_⟩:=Wg I.hok ea;obtain ⟨od,J,_⟩:=O.look;exact Y13 (PySem.W.kitx_own (cl.get _) cl.hd ha hn htk hm) I.kIn J e (λ z=>nomatch z) h
end
structure Room (k:Nat)(A:Around):Prop where
 hd:A.handled=none
 dp:A.depth+3*k+5<recursionLimit
 un:A.units+16*k+200<cLine
theorem Room.mono {j k:Nat}{A:Around}(r:Room k A)(h:j<=k):Room j A:=⟨r.hd,by have:=r.dp;omega,by have:=r.un;omega⟩
theorem Room.deeper {k:Nat}{A:Around}(r:Room (k+1) A)(env:Env):Room k (A.deeper env) :=
 ⟨r.hd,by have:=r.dp;show A.depth+1+3*k+5<_;omega,by have:=r.un;show A.units+3+16*k+200<_;omega⟩
theorem Y2 {A:Around}{C:Addr}{us:List Value}{kw:List (Str×Value)}:(A.under (.builtin "type.__call__" ⟨.ref C::us,kw⟩)).depth=A.depth+1:=by
 first | rfl | simp [Around.under,Code.weight,Code.isCreation,Code.isGuard,Code.isCaller,Code.frames,Code.isFrame,guardIds]
theorem Y3 {A:Around}{C:Addr}{us:List Value}{kw:List (Str×Value)}:(A.under (.builtin "type.__call__" ⟨.ref C::us,kw⟩)).units=A.units+1:=by
 first | rfl | simp [Around.under,Code.cUnits,Code.frames,Code.isFrame]
theorem Room.make {k:Nat}{A:Around}(r:Room (k+1) A)(C:Addr)(us:List Value)(kw:List (Str×Value)):Room k (A.under (.builtin "type.__call__" ⟨.ref C::us,kw⟩)) :=
 ⟨r.hd,by have:=r.dp;rw [Y2];omega,by have:=r.un;rw [Y3];omega⟩
theorem Room.depth {k:Nat}{A:Around}(r:Room k A):A.depth<recursionLimit:=by have:=r.dp;omega
theorem Room.units {k:Nat}{A:Around}(r:Room k A):A.units+64<cLine:=by have:=r.un;omega
def z5x:TA:=λ _ H Q=>Q [] H
def VW (ta:TE)(tr:TA):TA:=λ σ H Q=>ta σ H λ x H1=>tr σ H1 λ xs H2=>Q (x::xs) H2
section
variable {X:Cx}{e:Expr}{es:List Expr}{te:TE}{t:TA}{pos:Pos}
theorem zM:PA X [] z5x:=λ _ _ _ _ H Q I h=>Calls.spliced_nil ⟨[],H,I,.nil,h⟩
theorem zw (ha:PE X e te)(hr:PA X es t)(hs:starEach (e::es) X.env=(false,eval e X.env)::starEach es X.env:=by rfl):PA X (e::es) (VW te t):=by
 intro pos pins s σ H Q I h;rw [hs];show wpAny _ _ (spliced ((false,eval e X.env)::backTo pos (starEach es X.env))) _ _ s;refine Calls.spliced_cons (thn (ha pins s σ H _ I h) λ u s1 ⟨x,H1,I1,r1,q1⟩=>?_);exact thn (hr pos pins s1 σ H1 _ I1 q1) λ us s2 ⟨xs,H2,I2,r2,q2⟩=>⟨x::xs,H2,I2,.cons r1 r2,q2⟩
def z5y (t:TA):TE:=λ σ H Q=>t σ H λ xs H1=>xs.length<=sizeLine/\∀ p,H1 p=none->Q (.ref p) (upd H1 p (.tup xs))
def z5z (t:TA):TE:=λ σ H Q=>t σ H λ xs H1=>xs.length<=sizeLine/\∀ p,H1 p=none->Q (.ref p) (upd H1 p (.lst xs))
theorem z23 {x1}(h:PA X es t):PE X (.Tuple es x1 pos) (z5y t):=by
 intro pins s σ H Q I hq;refine wpAny_Tuple_spliced (thn (h pos pins s σ H _ I hq) λ us s1 ⟨xs,H1,I1,r,z,q⟩=>⟨by rw [<- r.length];exact z,?_⟩);have hf:H1 s1.heap.objs.size=none:=I1.hok.fresh (Y04 _);refine ⟨.ref s1.heap.objs.size,upd H1 s1.heap.objs.size (.tup xs),I1.laid (t':=s1.toks) (λ b u e=>Y01 _ e) (Y04 _) ?_,rfl,q _ hf⟩;exact ⟨z,us,r,⟨_,Y0c _ rfl,rfl,_,rfl⟩⟩
theorem Y4 (h:PA X es t):PE X (.List es pos) (z5z t):=by
 intro pins s σ H Q I hq;refine wpAny_List_spliced (thn (h pos pins s σ H _ I hq) λ us s1 ⟨xs,H1,I1,r,z,q⟩=>⟨by rw [<- r.length];exact z,?_⟩);have hf:H1 s1.heap.objs.size=none:=I1.hok.fresh (Y04 _);refine ⟨.ref s1.heap.objs.size,upd H1 s1.heap.objs.size (.lst xs),I1.laid (t':=s1.toks) (λ b u e=>Y01 _ e) (Y04 _) ?_,rfl,q _ hf⟩;exact ⟨z,us,0,r,Y0c _ rfl⟩
end
abbrev Sp:=List V->Hp->VK->XK->Prop
abbrev CXT:=List Env->Hp->Shared->XK->Value->Shared->Prop
structure Env0 (P:Program)(w:World)(K:Y00)(mg:Str->Option Value)(base:Heap)(A:Around)(outer:List Env)(s:Shared)(H:Hp):Prop where
 frames:A.frames=some outer
 mod:Mod K mg base
 bs:∀ b o,base.get? b=some o->s.heap.get? b=some o/\H b=none
 bsz:base.objs.size<=s.heap.objs.size
 funs:s.heap.FunFrames base outer
 frf:∀ b∈frs outer,H b=none
 hok:HOk P w H s.heap
 bare:AllBare s.gens
def CE (outer:List Env)(P:Program)(w:World)(H:Hp)(s:Shared)(Q:VK)(u:Value)(s':Shared):Prop :=
 ∃ v H',s'.os=s.os/\AllBare s'.gens/\Un (frs outer) [] H H' s.heap s'.heap/\HOk P w H' s'.heap/\RelV v u/\Q v H'
def CR (CX:CXT)(outer:List Env)(P:Program)(w:World)(H:Hp)(s:Shared)(Q:VK)(E:XK)(r:Result)(s':Shared):Prop :=
 match r with
 | .ok (.ret u)=>CE outer P w H s Q u s'
 | .ok _=>False
 | .error e=>CX outer H s E e s'
structure FnOk (P:Program)(w:World)(K:Y00)(mg:Str->Option Value)(base:Heap)(CX:CXT)(k:Nat)(f:Addr)(fd:FuncData)(ps:List Str)(sp:Sp):Prop where
 len:∀ vs H Q E,sp vs H Q E->vs.length=ps.length
 run:∀ (A:Around) (outer:List Env) (s:Shared) (H:Hp) (args:Args) (us:List Value) (vs:List V) (Q:VK) (E:XK),Room k A->Env0 P w K mg base A outer s H->BindsTo s fd args (ps.zip us)->Vals vs us->sp vs H Q E ->
  codeAny (model P w) A (.call (.ref f) args) (CR CX outer P w H s Q E) s
theorem Env0.make {P:Program}{w:World}{K:Y00}{mg:Str->Option Value}{base:Heap}{A:Around}{outer:List Env}{s:Shared}{H:Hp}(e:Env0 P w K mg base A outer s H)(C:Addr)(us:List Value)(kw:List (Str×Value)) :
  Env0 P w K mg base (A.under (.builtin "type.__call__" ⟨.ref C::us,kw⟩)) outer s H:=⟨by first | exact e.frames | (simpa [Around.under,Code.envs,Code.isFrame,pushEnvs] using e.frames),e.mod,e.bs,e.bsz,e.funs,e.frf,e.hok,e.bare⟩
section
variable {X:Cx}{pins:List (Addr×Obj)}{σ:St}{H:Hp}{s s':Shared}
theorem Inv.env0 (I:Inv X pins σ H s):Env0 X.prog X.w X.K X.mg X.base X.A X.stack s H :=
 ⟨I.ok.frames,I.ok.mod,I.bs,Y15 I.ok.bsz I.sz,I.stack,I.stkFree,I.hok,I.bare⟩
theorem Inv.after {Q:VK}{u:Value}(I:Inv X pins σ H s)(h:CE X.stack X.prog X.w H s Q u s'):EP X pins σ Q u s':=by
 obtain ⟨v,H',os,bare,un,hok,r,q⟩:=h;obtain ⟨hh,g,d,t,os'⟩:=s';obtain rfl:os'=s.os:=os;exact ⟨v,H',I.call (h':=hh) (g':=g) (d':=d) (t':=t) (ch:=[]) un hok bare (λ b z=>absurd z (by simp)),r,q⟩
end
def Binds (K:Y00)(fd:FuncData)(ps:List Str)(ds:List Value):Prop :=
 ∀ (s:Shared) (us:List Value),K.In s.heap->(us++ds).length=ps.length->BindsTo s fd ⟨us,[]⟩ (ps.zip (us++ds))
theorem Binds.all {K:Y00}{fd:FuncData}{ps:List Str}(h:∀ us:List Value,us.length=ps.length->bindArgs fd ⟨us,[]⟩=pure (ps.zip us)):Binds K fd ps []:=λ s us _ hl=>by
 rw [Y0y] at hl ⊢;exact .of_eq (h us hl)
section
variable {X:Cx}{CX:CXT}{k:Nat}{f C:Addr}{fd:FuncData}{ps:List Str}{sp:Sp}{dvs:List V}{ds:List Value}{E:XK}{x m:Str}{p pos apos:Pos}{e o:Expr}{es:List Expr}{ta:TE}{t:TA}
structure Mk (K:Y00)(C f:Addr):Prop where
 makes:PySem.W.makesIn K C=true
 init:PySem.W.findIn K (.ref C) "__init__"=some (some (.ref f))
 fn:PySem.W.isFn K (.ref f)=true
 kp:PySem.W.keepIn K (.ref C)=true
end
section
variable {X:Cx}{CX:CXT}{k:Nat}{f C:Addr}{fd:FuncData}{ps ks:List Str}{sp:Sp}{E:XK}{x m:Str}{p pos apos kpos:Pos}{e o:Expr}{es:List Expr}{kws:List Keyword}{te ta:TE}{t tk:TA}{nm:Option Str}
structure KBinds (K:Y00)(fd:FuncData)(ps ks:List Str)(g:List Value->List Value->List Value)(gV:List V->List V->List V):Prop where
 to:∀ (s:Shared) (us ws:List Value),K.In s.heap->(g us ws).length=ps.length->BindsTo s fd ⟨us,ks.zip ws⟩ (ps.zip (g us ws))
 rel:∀ {vs:List V}{us:List Value}{zs:List V}{ws:List Value},Vals vs us->Vals zs ws->Vals (gV vs zs) (g us ws)
variable {g:List Value->List Value->List Value}{gV:List V->List V->List V}
end
structure FnScope (N P:List Str)(sc:Scope):Prop where
 kind:sc.kind=.function
 co:sc.isCoroutine=false
 gen:sc.isGenerator=false
 nd:N.Nodup
 pre:N.take P.length=P
 par:∀ x∈P,sc.names.lookup x=some .local\/sc.names.lookup x=some .cell
 nofree:∀ y∈sc.names,y.2≠.free
theorem JC {kindOf:Str->Option NameKind}{x:Str}:∀ {binds:List (Str×Value)}{m:Str->Option Value},(∀ v,(x,v)∉binds)->bindL kindOf binds m x=m x
 | [],_,_=>rfl
 | (n,v)::r,m,h=>by
  unfold bindL;rw [JC λ w hw=>h w (Y02 _ hw)]
  split
  ·have:x≠n:=by rintro rfl;exact h v Y03
   simp [this]
  ·rfl
theorem JD {kindOf:Str->Option NameKind}{x:Str}:∀ {binds:List (Str×Value)}{m:Str->Option Value},(∀ v,(x,v)∉binds)->bindC kindOf binds m x=m x
 | [],_,_=>rfl
 | (n,v)::r,m,h=>by
  unfold bindC;rw [JD λ w hw=>h w (Y02 _ hw)]
  split
  ·rfl
  ·have:x≠n:=by rintro rfl;exact h v Y03
   simp [this]
theorem JE {kindOf:Str->Option NameKind}{x:Str}{v:Value}:∀ {P:List Str}{vs:List Value}{i:Nat}{m:Str->Option Value},P.Nodup->P[i]?=some x->vs[i]?=some v->kindOf x=some .local ->
  bindL kindOf (P.zip vs) m x=some v
 | [],_,_,_,_,h,_,_=>by simp at h
 | _::_,[],_,_,_,_,h,_=>by simp at h
 | p::P,w::vs,0,m,nd,h1,h2,hk=>by
  simp at h1 h2;subst h1;subst h2;show bindL kindOf ((p,w)::P.zip vs) m p=_;unfold bindL;rw [JC λ v hv=>(Y1i.mp nd).1 (Y2g hv).1,if_pos hk];simp
 | p::P,w::vs,i+1,m,nd,h1,h2,hk=>by
  show bindL kindOf ((p,w)::P.zip vs) m x=_;unfold bindL;exact JE (i:=i) (Y1i.mp nd).2 (by simpa using h1) (by simpa using h2) hk
theorem JF {kindOf:Str->Option NameKind}{x:Str}{v:Value}:∀ {P:List Str}{vs:List Value}{i:Nat}{m:Str->Option Value},P.Nodup->P[i]?=some x->vs[i]?=some v->kindOf x≠some .local ->
  bindC kindOf (P.zip vs) m x=some v
 | [],_,_,_,_,h,_,_=>by simp at h
 | _::_,[],_,_,_,_,h,_=>by simp at h
 | p::P,w::vs,0,m,nd,h1,h2,hk=>by
  simp at h1 h2;subst h1;subst h2;show bindC kindOf ((p,w)::P.zip vs) m p=_;unfold bindC;rw [JD λ v hv=>(Y1i.mp nd).1 (Y2g hv).1,if_neg hk];simp
 | p::P,w::vs,i+1,m,nd,h1,h2,hk=>by
  show bindC kindOf ((p,w)::P.zip vs) m x=_;unfold bindC;exact JF (i:=i) (Y1i.mp nd).2 (by simpa using h1) (by simpa using h2) hk
def start (N:List Str)(vs:List V):St:=vs.map some++List.replicate (N.length-vs.length) none
def Wh (CX:CXT)(P:Program)(w:World)(K:Y00)(mg:Str->Option Value)(base:Heap)(N:List Str)(qual:Str)(scope:Scope)(f:Addr)(cd:Value)(A:Around)(outer:List Env)(s:Shared)(H:Hp)(E:XK):Cx where
 prog:=P
 w:=w
 K:=K
 mg:=mg
 base:=base
 A:=A.deeper (envOfC qual scope s.heap.objs.size f cd)
 N:=N
 s₀:=s
 H₀:=H
 env:=envOfC qual scope s.heap.objs.size f cd
 outer:=outer
 stack:=envOfC qual scope s.heap.objs.size f cd::outer
 ex:=[]
 calm:=true
 fn:=λ _=>true
 pn:=[]
 xe:=λ e s'=>wpAny (model P w) (A.deeper (envOfC qual scope s.heap.objs.size f cd)) (leaving (envOfC qual scope s.heap.objs.size f cd) e) (λ _ s''=>CX outer H s E e s'') (λ e' s''=>CX outer H s E e' s'') s'
theorem Q6 {sc:Scope}{n:Nat}{x:Str}(h:sc.names.lookup x=some .cell):∃ c,(cellsFrom n sc.names []).lookup x=some c:=by
 have q:=Y1z sc.names n [] (.inl h);exact Y2d.mp q
theorem UU {CX:CXT}{P:Program}{w:World}{K:Y00}{mg:Str->Option Value}{base:Heap}{N ps:List Str}{qual:Str}{scope:Scope}{f:Addr}{cd:Value}{A:Around}{outer:List Env}{s s1:Shared}{H:Hp}{E:XK}{us:List Value}{vs:List V}
  (S:FnScope N ps scope) (hd:A.handled=none) (e0:Env0 P w K mg base A outer s H) (hl:vs.length=ps.length) (r:Vals vs us)
  (x:InCallC s s.heap.objs.size (bindL (envOfC qual scope s.heap.objs.size f cd).kindOf (ps.zip us) λ _=>none) (cellsFrom (s.heap.objs.size+1) scope.names []) (bindC (envOfC qual scope s.heap.objs.size f cd).kindOf (ps.zip us) λ _=>none) s1) :
  Inv (Wh CX P w K mg base N qual scope f cd A outer s H E) [] (start N vs) H s1:=by
 have hpl:ps.length<=N.length:=by have:=congrArg List.length S.pre;rw [Y1y] at this;omega
 obtain ⟨h1,tk,rfl,hk⟩:=x.done;have noA:∀ b:Addr,b∉(Wh CX P w K mg base N qual scope f cd A outer s H E).ex:=λ b z=>absurd (show b∈([]:List Addr) from z) (by simp);refine ⟨⟨e0.mod,S.kind,rfl,rfl,Y04 _,λ y z c h1 h2=>?_,λ y hy=>?_,λ y c _ h=>?_,λ _=>hd,Around.frames_deeper e0.frames,.inr ⟨rfl,rfl⟩,λ b z=>absurd z (noA b),e0.bs,e0.bsz,λ b _ _=>noA b,λ b z=>absurd z (noA b),e0.funs,e0.frf⟩,
  rfl,e0.bare,Un.kept hk,⟨_,x.toInCall.ns,λ i y v h1 h2 h3=>?_⟩,λ y c h=>⟨_,x.cell y c h⟩,e0.hok.fresh (Y04 _),λ y c h=>?_,λ p hp=>absurd (show p∈([]:List (Addr×Obj)) from hp) (by simp),e0.hok.kept hk,?_⟩
 ·exact name_of_addr x.apart (Y0v h1) (Y0v h2)
 ·have hy:scope.names.lookup y=some .cell\/scope.names.lookup y=some .free:=hy;rcases hy with hy | hy
  ·exact Q6 hy
  ·exact absurd rfl (S.nofree _ (Y0v hy))
 ·exact Y2k (x.above y c (Y0v h))
 ·have hi:i<vs.length:=by
   unfold start at h2;by_cases hi:i<vs.length
   ·exact hi
   ·rw [Y08 (by simpa using hi)] at h2;rw [List.getElem?_replicate] at h2;split at h2<;>cases h2
  have ha:vs[i]?=some v:=by
   unfold start at h2;rw [Y10 (by simpa using hi),Y0u] at h2;cases e:vs[i]? with
   | none=>rw [e] at h2;cases h2
   | some a=>rw [e] at h2;cases h2;rfl
  obtain ⟨u,hu,rv⟩:=r.get ha;have hp:ps[i]?=some y:=by
   rw [<- S.pre,List.getElem?_take_of_lt (by omega)];exact h1
  have ndP:ps.Nodup:=by rw [<- S.pre];exact S.nd.sublist (List.take_sublist _ _)
  refine ⟨u,rv,?_⟩;rcases S.par y (Y1e hp) with k | k
  ·exact .inl ⟨k,JE ndP hp hu k⟩
  ·obtain ⟨c,e⟩:=Q6 (n:=s.heap.objs.size+1) k;refine .inr ⟨.inl k,c,e,?_⟩;have q:=x.cell y c e;rw [JF ndP hp hu (by show scope.names.lookup y≠_;rw [k];decide)] at q;exact q
 ·exact e0.hok.fresh (Y2k (x.above y c (Y0v h)))
 ·unfold start;show _=N.length;rw [Y0h,Y0d,Y2m];omega
theorem z40 {CX:CXT}{P:Program}{w:World}{K:Y00}{mg:Str->Option Value}{base:Heap}{k:Nat}{f:Addr}{name qual:Str}{params:Arguments}{body:List Stmt}{scope:Scope}{dV kV doc pm cdv ct oc:Value}{an od:Option Addr}
  {osl:Array (Option Value)}{N ps:List Str}{sp:Sp} (lk:K.lookup f=some ⟨oc,od,.func (PySem.W.fnOf name qual params body scope dV kV doc pm an cdv ct),osl⟩) (hcd:PySem.W.codeIn K cdv qual=true) (S:FnScope N ps scope)
  (len:∀ vs H Q E,sp vs H Q E->vs.length=ps.length)
  (hbody:∀ (A:Around) (outer:List Env) (s:Shared) (H:Hp) (vs:List V) (Q:VK) (E:XK),Room k (A.deeper (envOfC qual scope s.heap.objs.size f cdv))->sp vs H Q E ->
   ∃ t,PSs (Wh CX P w K mg base N qual scope f cdv A outer s H E) body t/\t { nx:=λ _ H'=>Q .non H',rt:=Q } (start N vs) H) :
  FnOk P w K mg base CX (k+1) f (PySem.W.fnOf name qual params body scope dV kV doc pm an cdv ct) ps sp:=by
 refine ⟨len,λ A outer s H args us vs Q E hr e0 hb r hsp=>?_⟩;have hl:=len _ _ _ _ hsp;have KX:K.In s.heap:=e0.mod.kin.keeps λ b o e=>(e0.bs b o e).1;have lim:s.heap.NoLimit:=e0.mod.nolimit.keeps λ b o e=>(e0.bs b o e).1;have hkind:∀ y∈ps.zip us,scope.names.lookup y.1=some .local\/(scope.names.lookup y.1=some .cell/\((cellsFrom (s.heap.objs.size+1) scope.names []).lookup y.1).isSome=true):=λ ⟨n,v⟩ hy=>by
  rcases S.par n (Y2g hy).1 with q | q
  ·exact .inl q
  ·exact .inr ⟨q,Y1z _ _ _ (.inl q)⟩
 refine codeAny_call_function hr.depth (KX _ _ lk) rfl S.co S.gen rfl (PySem.W.codeRec_of KX hcd) (hb _ _ _ _ ?_);refine wpAny_newFunctionEnv_cells S.kind hkind λ env he s1 x=>?_;subst he;refine ⟨lim.keeps x.toInCall.keep,codeAny_func ?_⟩;obtain ⟨t,ht,hq⟩:=hbody A outer s H vs Q E (hr.deeper _) hsp;have I:Inv (Wh CX P w K mg base N qual scope f cdv A outer s H E) [] (start N vs) H s1:=UU S hr.hd e0 hl r x;refine wpAny_mono (ht [] s1 (start N vs) H _ I hq) (λ fl s' hs=>?_) λ e s' hs=>hs;have fin:∀ {σ':St}{H':Hp}{v:V}{u:Value},Inv (Wh CX P w K mg base N qual scope f cdv A outer s H E) [] σ' H' s'->RelV v u->Q v H'->CE outer P w H s Q u s' :=
  λ {σ' H' v u} J rv q=>⟨v,H',J.os,J.bare,J.base,J.hok,rv,q⟩
 cases fl with
 | ret u =>
  obtain ⟨v,σ',H',J,rv,q⟩:=hs;exact fin J rv q
 | next =>
  obtain ⟨σ',H',J,q⟩:=hs;exact fin (v:=V.non) (u:=Value.none) J rfl q
 | brk =>
  obtain ⟨_,_,_,q⟩:=hs;exact False.elim q
 | cont =>
  obtain ⟨_,_,_,q⟩:=hs;exact False.elim q
section
variable {X:Cx}{x:Str}{p pos:Pos}{e:Expr}{es:List Expr}{t:TA}{id T:String}{r:List V->Hp->VK->Prop}
def tCB (r:List V->Hp->VK->Prop)(t:TA):TE:=λ σ H Q=>t σ H λ vs H1=>r vs H1 Q
theorem wC (hc:zY X (.builtin id) r) (hg:Gl X x) (hm:X.mg x=none) (hv:bootBuiltins x=some (.builtin id)) (ha:PA X (e::es) t) (hn:x≠"__name__":=by decide) (hdb:(x==("__debug__":Str))=false:=by decide)
  (he:starEach (e::es) X.env=(false,eval e X.env)::starEach es X.env:=by rfl) (hpl:(backTo pos (starEach es X.env)).any (·.1)=false:=by rfl):PE X (.Call (.Name x p) (e::es) [] pos) (tCB r t):=by
 intro pins s σ H Q I h;refine wpAny_Call_Name_kw (jS I hg hm hv ?_ hn hdb);exact PyProof.Rows.callWith_builtin1 (thn (ha pos pins s σ H _ I h) λ us s1 ⟨vs,H1,I1,r1,q1⟩=>hc pins s1 σ H1 vs us Q I1 r1 q1) he hpl
theorem wD (hc:zY X (.type T) r) (hg:Gl X x) (hm:X.mg x=none) (hv:bootBuiltins x=some (.type T)) (ha:PA X (e::es) t) (hn:x≠"__name__":=by decide) (hdb:(x==("__debug__":Str))=false:=by decide)
  (he:starEach (e::es) X.env=(false,eval e X.env)::starEach es X.env:=by rfl) (hpl:(backTo pos (starEach es X.env)).any (·.1)=false:=by rfl):PE X (.Call (.Name x p) (e::es) [] pos) (tCB r t):=by
 intro pins s σ H Q I h;refine wpAny_Call_Name_kw (jS I hg hm hv ?_ hn hdb);exact Y0x (thn (ha pos pins s σ H _ I h) λ us s1 ⟨vs,H1,I1,r1,q1⟩=>hc pins s1 σ H1 vs us Q I1 r1 q1) he hpl
end
end L2
namespace HT
open PySem PyProof.Rows
section
variable {prog:Program}{w:World}{A:Around}{E:Value->Shared->Prop}{s:Shared}
theorem cat_tup {t b:Addr}{vs ws:List Value}{Q:Value->Shared->Prop}(ht:IsTup s.heap t vs.toArray)(hb:IsTup s.heap b ws.toArray)(hv:vs≠[])
  (h1:ws=[]->Q (.ref t) s) (h2:ws≠[]->Q (.ref s.heap.objs.size) { s with heap:=s.heap.push { cls:=.type "tuple",data:=.seq (vs++ws).toArray } })
  (hsz:vs.length+ws.length<=sizeLine):wpAny (model prog w) A (binaryOp .Add (.ref t) (.ref b)) Q E s:=by
 obtain ⟨⟨cls,dd,data,sl⟩,ho,hc,n,hd⟩:=id ht;obtain ⟨⟨cls2,dd2,data2,sl2⟩,ho2,hc2,n2,hd2⟩:=id hb;simp only at hc hd hc2 hd2;subst hc hd hc2 hd2;have e:vs.toArray++ws.toArray=(vs++ws).toArray:=by simp
 by_cases hw:ws=[]
 ·exact concat_meets ⟨_,ho,rfl⟩ ⟨_,ho2,rfl⟩ noFill_tuple_add seq_tuple_add Y31 Y2u (Y2t _ _)
   (tuple_addW1 t b vs.toArray ws.toArray n n2 dd dd2 sl sl2 (by simpa using hv) (by simp [hw])) ⟨ho,ho2,h1 hw⟩
 ·refine concat_meets ⟨_,ho,rfl⟩ ⟨_,ho2,rfl⟩ noFill_tuple_add seq_tuple_add Y31 Y2u (Y2t _ _)
   (tuple_addW2 t b vs.toArray ws.toArray n n2 dd dd2 sl sl2 (by simpa using hv) (by simpa using hw) (by rw [Y0b,Y0b];exact hsz)) ⟨ho,ho2,?_⟩
  rw [e];exact h2 hw
def sIx (n d:Nat):Option Int->Nat
 | none=>d
 | some v=>if v<0 then (v+(n:Int)).toNat else min v.toNat n
theorem z24 (n d:Nat)(hd:d<=n)(o:Option Int):sIx n d o<=n:=by
 cases o with
 | none=>exact hd
 | some v =>
  show (if v<0 then (v+(n:Int)).toNat else min v.toNat n)<=n;by_cases hv:v<0
  ·rw [if_pos hv];omega
  ·rw [if_neg hv];exact Nat.min_le_right _ _
theorem U6 (v:Int)(n d:Nat):(if v<0 then max (v+(n:Int)) 0 else min v (n:Int))=((sIx n d (some v):Nat):Int):=by
 show (if v<0 then max (v+(n:Int)) 0 else min v (n:Int))=(((if v<0 then (v+(n:Int)).toNat else min v.toNat n):Nat):Int);by_cases hv:v<0
 ·simp only [if_pos hv];omega
 ·simp only [if_neg hv];omega
theorem Y5 (lo hi:Option Int)(n:Nat):Builtin.Slice.sliceAdjust lo hi 1 (n:Int)=(((sIx n 0 lo:Nat):Int),((sIx n n hi:Nat):Int)):=by
 have h1:¬ ((1:Int)<0):=by omega
 unfold Builtin.Slice.sliceAdjust;simp only [h1,if_false];refine Prod.ext ?_ ?_
 ·cases lo with
  | none=>rfl
  | some v=>exact U6 v n 0
 ·cases hi with
  | none=>rfl
  | some v=>exact U6 v n n
theorem Y6 (i j:Nat):Builtin.Slice.slicePlaces (i:Int) (j:Int) 1=j-i:=by
 unfold Builtin.Slice.slicePlaces;have h1:(1:Int) > 0:=by omega
 simp only [h1,if_true,Int.ediv_one]
 split<;>omega
theorem Zo {v:Value}{o:Option Int}{Q:Option Int->Shared->Prop}(p:IsPart v o)(h:Q o s):wpAny (model prog w) A (Builtin.Slice.slicePartIndex v) Q E s:=by
 cases p with
 | none=>exact slicePart_none h
 | int i t=>exact slicePart_int h
theorem wE {sl:Addr}{vl vu:Value}{lo hi:Option Int}{n:Nat}{Q:Int×Int×Nat->Shared->Prop}(hs:s.heap.IsSliceOf sl vl vu .none)(pl:IsPart vl lo)(pu:IsPart vu hi)
  (h:Q (((sIx n 0 lo:Nat):Int),1,sIx n n hi-sIx n 0 lo) s):wpAny (model prog w) A (Builtin.Slice.sliceApplied (.ref sl) (pure (n:Int))) Q E s:=by
 obtain ⟨os,hos,hcs,hds⟩:=id hs;unfold Builtin.Slice.sliceApplied Builtin.Slice.sliceFields;refine wpAny_bind (wpAny_bind (wpAny_field hos hds (x:=vl) rfl (wpAny_bind (wpAny_field hos hds (x:=vu) rfl (wpAny_bind (wpAny_field hos hds (x:=.none) rfl (wpAny_pure ?_)))))));refine wpAny_bind (slicePart_none ?_);show wpAny _ _ (if ((1:Int)==0)=true then _ else _) _ _ s;rw [if_neg (by decide)];refine wpAny_bind (Zo pl (wpAny_bind (Zo pu (wpAny_bind (wpAny_pure ?_)))));show wpAny _ _ (match Builtin.Slice.sliceAdjust lo hi 1 (n:Int) with | (lo,hi)=>pure (lo,(1:Int),Builtin.Slice.slicePlaces lo hi 1)) _ _ s
 rw [Y5 lo hi n];show wpAny _ _ (pure (((sIx n 0 lo:Nat):Int),(1:Int),Builtin.Slice.slicePlaces ((sIx n 0 lo:Nat):Int) ((sIx n n hi:Nat):Int) 1)) _ _ s;rw [Y6];exact wpAny_pure h
theorem VX (xs:Array Value)(i k:Nat):((List.range k).filterMap λ (m:Nat)=>xs[((i:Int)+(m:Int)*1).toNat]?).toArray=((xs.toList.drop i).take k).toArray:=by
 have e:(λ (m:Nat)=>xs[((i:Int)+(m:Int)*1).toNat]?)=λ m=>xs[i+m]?:=by
  funext m
  have:((i:Int)+(m:Int)*1).toNat=i+m:=by omega
  rw [this]
 rw [e]
 have:=pick_run xs i k
 rw [Y2q] at this;have e2:((λ x=>xs[x]?)∘λ x=>i+x)=λ m=>xs[i+m]?:=rfl;rw [e2] at this;rw [this]
theorem getItem_tuple_cut {t sl:Addr}{items:Array Value}{vl vu:Value}{lo hi:Option Int}{Q:Value->Shared->Prop}(ht:IsTup s.heap t items)(hs:s.heap.IsSliceOf sl vl vu .none)(pl:IsPart vl lo)(pu:IsPart vu hi)
  (hw:¬ (sIx items.size 0 lo=0/\sIx items.size items.size hi=items.size))
  (h:Q (.ref s.heap.objs.size) { s with heap:=s.heap.push { cls:=.type "tuple",data:=.seq ((items.toList.drop (sIx items.size 0 lo)).take (sIx items.size items.size hi-sIx items.size 0 lo)).toArray } })
  (hsz:items.size<=sizeLine):wpAny (model prog w) A (getItem (.ref t) (.ref sl)) Q E s:=by
 have htake:sizeOk (.seq ((items.toList.drop (sIx items.size 0 lo)).take (sIx items.size items.size hi-sIx items.size 0 lo)).toArray):=by
  show ((items.toList.drop (sIx items.size 0 lo)).take (sIx items.size items.size hi-sIx items.size 0 lo)).toArray.size<=sizeLine;rw [Y0b,Y1y,Y30,Y1w];omega
 have hj:sIx items.size items.size hi<=items.size:=z24 _ _ (Y04 _) hi;obtain ⟨os,hos,hcs,hds⟩:=id hs;have hTs:s.TypeIs (.ref sl) "slice":=⟨os,hos,hcs⟩;unfold getItem
 try with_reducible refine wpAny_holding ?_
 first | refine wpAny_bind (wpAny_pure ?_) | skip
 refine wpAny_bind (wpAny_sequenceKey ht.typeIs (by decide) ?_);refine wpAny_bind (wpAny_callSpecial?_slot (name:=Str.ofString "__getitem__") ht.typeIs Y1s
  (wpAny_call_entry Y1s ht.typeIs entry_tuple_getitem ?_ (args_tuple_getitem _ _)))
 show wpAny _ _ (Builtin.Tuple.tupleItemsOf (.ref t) >>= _) _ _ s;refine wpAny_bind (tupleItemsOf_ ht ?_);refine wpAny_bind (wpAny_typeOf hTs ?_);rw [if_pos (by decide)];refine wpAny_bind (wE hs pl pu ?_);have hno:¬ ((((sIx items.size 0 lo:Nat):Int)==0&&(1:Int)==1&&(sIx items.size items.size hi-sIx items.size 0 lo)==items.size)=true):=by
  intro q;rw [Y0p,Y0p] at q;have q1:((sIx items.size 0 lo:Nat):Int)=0:=eq_of_beq q.1.1;have q2:sIx items.size items.size hi-sIx items.size 0 lo=items.size:=eq_of_beq q.2;exact hw ⟨by omega,by omega⟩
 show wpAny _ _ (if (((sIx items.size 0 lo:Nat):Int)==0&&(1:Int)==1&&(sIx items.size items.size hi-sIx items.size 0 lo)==items.size)=true then _ else _) _ _ s;rw [if_neg hno,VX]
 first
  | exact wpAny_bind (m:=Builtin.Tuple.tupleExact _) (wpAny_newObj_type (wpAny_pure ⟨_,rfl,wpAny_pure h⟩) htake)
  | exact wpAny_bind (m:=Builtin.Tuple.tupleExact _) (wpAny_newObj_type (wpAny_bind (wpAny_pure (wpAny_pure ⟨_,rfl,wpAny_pure h⟩))) htake)
  | exact wpAny_bind (wpAny_bind (m:=Builtin.Tuple.tupleExact _) (wpAny_newObj_type (wpAny_pure (wpAny_pure ⟨_,rfl,wpAny_pure h⟩)) htake))
  | exact wpAny_bind (wpAny_bind (m:=Builtin.Tuple.tupleExact _) (wpAny_newObj_type (wpAny_pure ⟨_,rfl,wpAny_pure h⟩) htake))
end
end HT
namespace L2
open PySem PySem.Spec PyProof.Rows
abbrev TO:=St->Hp->(Option Int->Hp->Prop)->Prop
def PO (X:Cx)(e:Option Expr)(t:TO):Prop :=
 ∀ (pins:List (Addr×Obj)) (s:Shared) (σ:St) (H:Hp) (Q:Option Int->Hp->Prop),Inv X pins σ H s->t σ H Q ->
  wpAny (model X.prog X.w) X.A (evalPart e X.env) (λ u s'=>∃ o H',Inv X pins σ H' s'/\IsPart u o/\Q o H') X.xe s
def OL:TO:=λ _ H Q=>Q none H
def z41 (t:TE):TO:=λ σ H Q=>t σ H λ x H1=>∃ i,x=.int i/\Q (some i) H1
section
variable {X:Cx}{e:Expr}{te:TE}{lo hi:Option Expr}{tl th:TO}{pos p2:Pos}
theorem OM:PO X none OL:=by
 intro pins s σ H Q I h;rw [evalPart_none];exact wpAny_pure ⟨none,H,I,.none,h⟩
theorem ON (h:PE X e te):PO X (some e) (z41 te):=by
 intro pins s σ H Q I hw;rw [evalPart_some];refine thn (h pins s σ H _ I hw) λ u s1 ⟨x,H1,I1,r1,q1⟩=>?_;obtain ⟨i,rfl,q⟩:=q1;obtain ⟨t,rfl⟩:=r1;exact ⟨some i,H1,I1,.int i t,q⟩
def SlR (X:Cx)(r:V->Option Int->Option Int->Hp->VK->Prop):Prop :=
 ∀ (pins:List (Addr×Obj)) (s:Shared) (σ:St) (H:Hp) (x:V) (v vl vu:Value) (lo hi:Option Int) (sl:Addr) (Q:VK),Inv X pins σ H s->RelV x v->s.heap.IsSliceOf sl vl vu .none->IsPart vl lo->IsPart vu hi->r x lo hi H Q ->
  ∃ T id,typeLookup (.type T) "__getitem__"=pure (some (.builtin id))/\s.TypeIs v T/\wpAny (model X.prog X.w) X.A (getItem v (.ref sl)) (EP X pins σ Q) X.xe s
def tSl (r:V->Option Int->Option Int->Hp->VK->Prop)(te:TE)(tl th:TO):TE:=λ σ H Q=>te σ H λ x H1=>tl σ H1 λ l H2=>th σ H2 λ u H3=>r x l u H3 Q
theorem VY {r:V->Option Int->Option Int->Hp->VK->Prop}(hr:SlR X r)(he:PE X e te)(hl:PO X lo tl)(hu:PO X hi th):PE X (.Subscript e (.Slice lo hi none p2) pos) (tSl r te tl th):=by
 intro pins s σ H Q I h;refine Subscript_ (thn (he pins s σ H _ I h) λ v s1 ⟨x,H1,I1,r1,q1⟩=>?_);refine wpAny_Slice (thn (hl pins s1 σ H1 _ I1 q1) λ vl s2 ⟨l,H2,I2,pl,q2⟩=>thn (hu pins s2 σ H2 _ I2 q2) λ vu s3 ⟨u,H3,I3,pu,q3⟩=>?_);rw [evalPart_none];refine wpAny_pure ?_;have I4:Inv X pins σ H3 { s3 with heap:=s3.heap.push { cls:=.type "slice",data:=.fields #[vl,vu,.none] } }:=I3.kept (t':=s3.toks) λ b ob q=>Y01 _ q;obtain ⟨T,id,hT,ht,hg⟩:=hr pins { s3 with heap:=s3.heap.push { cls:=.type "slice",data:=.fields #[vl,vu,.none] } } σ H3 x v vl vu l u s3.heap.objs.size Q I4 r1 (Heap.IsSliceOf.new ..) pl pu q3;show wpAny (model X.prog X.w) X.A (subscriptTail e (.Slice lo hi none p2) v (.ref s3.heap.objs.size)) (EP X pins σ Q) X.xe { s3 with heap:=s3.heap.push { cls:=.type "slice",data:=.fields #[vl,vu,.none] } };exact tail_any (ops:=[.ref s3.heap.objs.size,v]) ht hT hg (by with_unfolding_all rfl)
def Q7 (xs:List V)(lo hi:Option Int):List V:=(xs.drop (HT.sIx xs.length 0 lo)).take (HT.sIx xs.length xs.length hi-HT.sIx xs.length 0 lo)
theorem yX (xs:List V)(lo hi:Option Int):(Q7 xs lo hi).length<=xs.length:=by
 unfold Q7;rw [Y1y,Y30];omega
def z60 (K:Y00):V->Option Int->Option Int->Hp->VK->Prop:=λ x lo hi H Q=>∃ a xs,x=.ref a/\SqT K H a xs /\
 ¬ (HT.sIx xs.length 0 lo=0/\HT.sIx xs.length xs.length hi=xs.length)/\∀ p,H p=none->Q (.ref p) (upd H p (.tup (Q7 xs lo hi)))
theorem z25:SlR X (z60 X.K):=by
 intro pins s σ H x v vl vu lo hi sl Q I rx hs pl pu h;obtain ⟨a,xs,rfl,hx,hw,q⟩:=h;cases rx;obtain ⟨its,r,ht,hz⟩:=I.tuple hx;have hlen:its.toArray.size=xs.length:=by rw [Y0b];exact r.length.symm
 refine ⟨"tuple",_,PyProof.Rows.slot_tuple_getitem.lookup,ht.typeIs,?_⟩;refine HT.getItem_tuple_cut ht hs pl pu (by rw [hlen];exact hw) ?_ (by rw [hlen];exact hz);rw [hlen];refine ⟨.ref s.heap.objs.size,_,I.laid (t':=s.toks) (o:=.tup (Q7 xs lo hi)) (λ b ob q=>Y01 _ q) (Y04 _) ?_,rfl,q _ (I.hok.fresh (Y04 _))⟩;exact ⟨Y15 (yX xs lo hi) hz,_,(r.drop (HT.sIx xs.length 0 lo)).take (HT.sIx xs.length xs.length hi-HT.sIx xs.length 0 lo),IsTup.new _ _⟩
def z42 (K:Y00):R2:=λ x y H Q=>∃ a b xs ys,x=.ref a/\y=.ref b/\SqT K H a xs/\SqT K H b ys/\xs≠[]/\xs.length+ys.length<=sizeLine /\
 (ys=[]->Q (.ref a) H)/\(ys≠[]->∀ p,H p=none->Q (.ref p) (upd H p (.tup (xs++ys))))
theorem Vals.nil_iff {xs:List V}{us:List Value}(r:Vals xs us):us=[] ↔ xs=[]:=by
 cases r with
 | nil=>simp
 | cons _ _=>simp
theorem OO:OpR X (binaryOp .Add) (z42 X.K):=by
 intro pins s σ H x y v u Q I rx ry h;obtain ⟨a,b,xs,ys,rfl,rfl,ha,hb,hx,hz,q1,q2⟩:=h;cases rx;cases ry;obtain ⟨its,r1,p1,_⟩:=I.tuple ha;obtain ⟨its2,r2,p2,_⟩:=I.tuple hb;refine HT.cat_tup p1 p2 (λ z=>hx (r1.nil_iff.mp z)) (λ z=>⟨.ref a,H,I,rfl,q1 (r2.nil_iff.mp z)⟩) (λ z=>?_) (by rw [<- r1.length,<- r2.length];exact hz);refine ⟨.ref s.heap.objs.size,_,I.laid (t':=s.toks) (o:=.tup (xs++ys)) (λ b ob q=>Y01 _ q) (Y04 _) ?_,rfl,q2 (λ w=>z (r2.nil_iff.mpr w)) _ (I.hok.fresh (Y04 _))⟩;exact ⟨by rw [Y0h];exact hz,_,r1.append r2,IsTup.new _ _⟩
end
def ixN (n:Nat)(i:Int):Option Nat:=if 0<=i then (if i<n then some i.toNat else none) else if -(n:Int)<=i then some (i+n).toNat else none
def atI {α:Type}(xs:List α)(i:Int):Option α:=(ixN xs.length i).bind λ j=>xs[j]?
theorem U7 {n:Nat}{i:Int}{j:Nat}(h:ixN n i=some j):seqIndex? i n=some j/\j<n/\-(n:Int)<=i/\i<n:=by
 unfold ixN at h;by_cases h0:0<=i
 ·rw [if_pos h0] at h;by_cases h1:i<n
  ·rw [if_pos h1] at h;have e:i.toNat=j:=Option.some.inj h;exact ⟨by rw [seqIndex_of h0 h1,e],by omega,by omega,h1⟩
  ·rw [if_neg h1] at h;cases h
 ·rw [if_neg h0] at h;by_cases h1:-(n:Int)<=i
  ·rw [if_pos h1] at h;have e:(i+n).toNat=j:=Option.some.inj h;exact ⟨by rw [seqIndex_neg (by omega) h1,e],by omega,h1,by omega⟩
  ·rw [if_neg h1] at h;cases h
theorem Wi {α:Type}{xs:List α}{i:Int}{v:α}(h:atI xs i=some v):∃ j,seqIndex? i xs.length=some j/\xs[j]?=some v/\j<xs.length/\-(xs.length:Int)<=i/\i<xs.length:=by
 unfold atI at h;cases e:ixN xs.length i with
 | none=>rw [e] at h;cases h
 | some j =>
  rw [e] at h;obtain ⟨h1,h2,h3,h4⟩:=U7 e;exact ⟨j,h1,h,h2,h3,h4⟩
def U8 (b:Expr):Prop:=∀ o i,subscripted b false o i=operate [o,i] (getItem o i)
def IxR (X:Cx)(r:R2):Prop :=
 ∀ (value slice:Expr) (pins:List (Addr×Obj)) (s:Shared) (σ:St) (H:Hp) (x y:V) (v u:Value) (Q:VK),Inv X pins σ H s->RelV x v->RelV y u->r x y H Q ->
  subscripted slice false v u=operate [v,u] (getItem v u)->wpAny (model X.prog X.w) X.A (subscriptTail value slice v u) (EP X pins σ Q) X.xe s
def MtR (X:Cx)(id:String)(r:V->List V->Hp->VK->Prop):Prop :=
 ∀ (pins:List (Addr×Obj)) (s:Shared) (σ:St) (H:Hp) (x:V) (xs:List V) (v:Value) (us:List Value) (Q:VK),Inv X pins σ H s->RelV x v->Vals xs us->r x xs H Q ->
  wpAny (model X.prog X.w) X.A (call (.builtin id) (v::us)) (EP X pins σ Q) X.xe s
section
variable {X:Cx}{a b:Expr}{ta tb:TE}{pos:Pos}
theorem VZ {r:R2}(hr:IxR X r)(ha:PE X a ta)(hb:PE X b tb)(hs:U8 b):PE X (.Subscript a b pos) (tOp r ta tb):=by
 intro pins s σ H Q I h;exact Subscript_ (z1r ha hb I h λ v u s2 x y H2 I2 rx ry q=>hr a b pins s2 σ H2 x y v u Q I2 rx ry q (hs _ _))
def z61 (K:Y00):R2:=λ x y H Q=>∃ p xs i v,x=.ref p/\y=.int i/\SqL K H p xs/\atI xs i=some v/\Q v H
def z62 (K:Y00):R2:=λ x y H Q=>∃ p xs i v,x=.ref p/\y=.int i/\SqT K H p xs/\atI xs i=some v/\Q v H
def z63:R2:=λ x y H Q=>∃ z i c,x=.str z/\y=.int i/\z.length<=sizeLine/\atI z.cps.toList i=some c/\Q (.str ⟨#[c]⟩) H
theorem U9:IxR X (z61 X.K):=by
 intro value slice pins s σ H x y v u Q I rx ry h hs;obtain ⟨p,xs,i,z,rfl,rfl,hq,he,q⟩:=h;cases rx;obtain ⟨t,rfl⟩:=ry;obtain ⟨its,r,pl,hz⟩:=I.list hq;obtain ⟨j,h1,h2,h3,h4,h5⟩:=Wi he;obtain ⟨w,ew,rw'⟩:=r.get h2;have hl:=r.length;have hn:=yg;have fin:EP X pins σ Q w s:=⟨z,H,I,rw',q⟩;by_cases h0:0<=i
 ·have hj:i.toNat=j:=by
   rw [seqIndex_of h0 h5] at h1;exact Option.some.inj h1
  exact item_listR pl.isList h0 (by omega) (by rw [hj];simpa using ew) fin hs
 ·have hj:(i+(its.toArray.size:Int)).toNat=j:=by
   rw [seqIndex_neg (by omega) h4] at h1;rw [Y0b,<- hl];exact Option.some.inj h1
  exact subscriptTail_builtinR (x:=w) pl.isList.typeIs slot_list_getitem.lookup
   (wpAny_getItem_list_neg (Q:=λ r s'=>r=w/\EP X pins σ Q r s') pl.isList (by omega) (by rw [Y0b]<;>omega) (by omega) (by rw [hj];simpa using ew) ⟨rfl,fin⟩) hs
theorem z26:IxR X (z62 X.K):=by
 intro value slice pins s σ H x y v u Q I rx ry h hs;obtain ⟨p,xs,i,z,rfl,rfl,hq,he,q⟩:=h;cases rx;obtain ⟨t,rfl⟩:=ry;obtain ⟨its,r,pl,hz⟩:=I.tuple hq;obtain ⟨j,h1,h2,h3,h4,h5⟩:=Wi he;obtain ⟨w,ew,rw'⟩:=r.get h2;have hl:=r.length;have hn:=yg;have fin:EP X pins σ Q w s:=⟨z,H,I,rw',q⟩;exact subscriptTail_builtinR (x:=w) pl.typeIs slot_tuple_getitem.lookup
  (getItem_tuple (j:=j) (Q:=λ r s'=>r=w/\EP X pins σ Q r s') pl (by omega) (by omega) (by rw [Y0b,<- hl];exact h1) (by simpa using ew) ⟨rfl,fin⟩) hs
theorem z27:IxR X z63:=by
 intro value slice pins s σ H x y v u Q I rx ry h hs;obtain ⟨z,i,c,rfl,rfl,hz,he,q⟩:=h;obtain ⟨t,rfl⟩:=rx;obtain ⟨t',rfl⟩:=ry;obtain ⟨j,h1,h2,h3,h4,h5⟩:=Wi he;have hl:z.cps.toList.length=z.length:=by simp [Str.length]
 rw [hl] at h1 h4 h5;have hn:=yg;exact tail_any (typeIs_str s z t) slot_str_getitem.lookup (getItem_str (c:=c) (by
  have e1:decide (i < -(2 ^ 63:Int))=false:=decide_eq_false (by omega);have e2:decide (i >= 2 ^ 63)=false:=decide_eq_false (by omega);rw [e1,e2,Bool.or_false]) (by rw [h1];simpa using h2) ⟨.str ⟨#[c]⟩,H,I.tok _,⟨_,rfl⟩,q⟩) hs
theorem Y7 (its:List Value)(n j:Nat)(u:Value):Obj.mapSeq (·.setIfInBounds j u) { cls:=.type "list",data:=.seq its.toArray n }={ cls:=.type "list",data:=.seq (its.set j u).toArray n }:=by
 simp [Obj.mapSeq]
theorem Inv.lst {pins:List (Addr×Obj)}{σ:St}{H:Hp}{s:Shared}{p:Addr}{xs:List V}(I:Inv X pins σ H s)(h:H p=some (.lst xs)) :
  ∃ (its:List Value) (n:Nat),Vals xs its/\s.heap.get? p=some { cls:=.type "list",data:=.seq its.toArray n }/\xs.length<=sizeLine:=by
 obtain ⟨z,its,n,r,e⟩:=I.hok p _ h;exact ⟨its,n,r,e,z⟩
theorem Inv.lstUpd {pins:List (Addr×Obj)}{σ:St}{H:Hp}{s:Shared}{p:Addr}{xs ys:List V}{its its':List Value}{n n':Nat}{f:Obj->Obj}(I:Inv X pins σ H s)(h:H p=some (.lst xs))
  (ho:s.heap.get? p=some { cls:=.type "list",data:=.seq its.toArray n }) (hf:f { cls:=.type "list",data:=.seq its.toArray n }={ cls:=.type "list",data:=.seq its'.toArray n' }) (r:Vals ys its') (hz:ys.length<=sizeLine) (t:Nat) :
  Inv X pins σ (upd H p (.lst ys)) { s with heap:=s.heap.update p f,toks:=t }:=by
 have e:(s.heap.update p f).get? p=some { cls:=.type "list",data:=.seq its'.toArray n' }:=by
  rw [Y12 f ho (by rw [hf]<;>rfl),hf]
 refine I.write (x:=p) (e:=p) (by rw [h];trivial) (.inl rfl) (λ b u hb q=>(Y16 _ _ (Ne.symm hb)).trans q) ⟨_,e⟩ ?_;exact ⟨hz,its',n',r,e⟩
def z43:V->V->V->Hp->(Hp->Prop)->Prop:=λ o i v H Q=>∃ p xs k j,o=.ref p/\i=.int k/\H p=some (.lst xs)/\ixN xs.length k=some j/\Q (upd H p (.lst (xs.set j v)))
theorem G0:z1j X z43:=by
 intro pins s σ H o i v ov iv u Q I ro ri rv h;obtain ⟨p,xs,k,j,rfl,rfl,hp,hj,q⟩:=h;cases ro;obtain ⟨t,rfl⟩:=ri;obtain ⟨its,n,r,ho,hz⟩:=I.lst hp;obtain ⟨h1,h2,h3,h4⟩:=U7 hj;have hl:=r.length;have hn:=yg;have I':Inv X pins σ (upd H p (.lst (xs.set j v))) { s with heap:=s.heap.update p (Obj.mapSeq (·.setIfInBounds j u)) } :=
  I.lstUpd hp ho (Y7 its n j u) (r.set rv j) (by rw [Y0r];exact hz) s.toks
 by_cases h0:0<=k
 ·have hk:k.toNat=j:=by
   rw [seqIndex_of h0 h4] at h1;exact Option.some.inj h1
  exact PySem.W.ki_setAt ho h0 (by omega) (by rw [Y0b,<- hl];exact h4) (by rw [hk];exact ⟨_,I',q⟩)
 ·have hk:(k+(its.toArray.size:Int)).toNat=j:=by
   rw [seqIndex_neg (by omega) h3] at h1;rw [Y0b,<- hl];exact Option.some.inj h1
  exact PySem.W.ki_setBack ho (by omega) (by rw [Y0b,<- hl];exact h3) (by omega) (by rw [hk];exact ⟨_,I',q⟩)
theorem Wj (lo hi:Option Int)(n:Nat):(sliceBounds lo hi none n).1=((HT.sIx n 0 lo:Nat):Int)/\(sliceBounds lo hi none n).2.1=((HT.sIx n n hi:Nat):Int)/\(sliceBounds lo hi none n).2.2=1:=by
 refine ⟨?_,?_,rfl⟩
 ·cases lo with
  | none=>simp [sliceBounds,HT.sIx]
  | some i =>
   simp only [sliceBounds,HT.sIx,Option.getD_none,show (1:Int) > 0 by decide,if_true];by_cases h:i<0
   ·simp only [h,if_true]<;>omega
   ·simp only [h,if_false]<;>omega
 ·cases hi with
  | none=>simp [sliceBounds,HT.sIx]
  | some i =>
   simp only [sliceBounds,HT.sIx,Option.getD_none,show (1:Int) > 0 by decide,if_true];by_cases h:i<0
   ·simp only [h,if_true]<;>omega
   ·simp only [h,if_false]<;>omega
theorem Jg (its:List Value)(lo hi:Option Int):slicePick its.toArray lo hi none=((its.drop (HT.sIx its.length 0 lo)).take (HT.sIx its.length its.length hi-HT.sIx its.length 0 lo)).toArray:=by
 obtain ⟨h1,h2,h3⟩:=Wj lo hi its.toArray.size;unfold slicePick;rw [h1,h2,h3];simp only [sliceRange_one,pick_run,Y0b]<;>rfl
def z64 (K:Y00):V->Option Int->Option Int->Hp->VK->Prop:=λ x lo hi H Q=>∃ a xs,x=.ref a/\SqL K H a xs/\∀ p,H p=none->Q (.ref p) (upd H p (.lst (Q7 xs lo hi)))
theorem Ua:SlR X (z64 X.K):=by
 intro pins s σ H x v vl vu lo hi sl Q I rx hs pl pu h;obtain ⟨a,xs,rfl,hx,q⟩:=h;cases rx;obtain ⟨its,r,ht,hz⟩:=I.list hx;have hlen:=r.length;refine ⟨"list",_,slot_list_getitem.lookup,ht.isList.typeIs,?_⟩;refine wpAny_getItem_list_slice ht.isList hs pl pu .none (by simp) ?_ (by rw [Y0b]<;>omega);rw [Jg,<- hlen];refine ⟨.ref s.heap.objs.size,_,I.laid (t':=s.toks) (o:=.lst (Q7 xs lo hi)) (λ b ob q=>Y01 _ q) (Y04 _) ?_,rfl,q _ (I.hok.fresh (Y04 _))⟩;exact ⟨Y15 (yX xs lo hi) hz,_,0,(r.drop (HT.sIx xs.length 0 lo)).take (HT.sIx xs.length xs.length hi-HT.sIx xs.length 0 lo),Y0c _ rfl⟩
def jL:V->Bool
 | .non=>true
 | .bl _=>true
 | .int _=>true
 | .str _=>true
 | _=>false
def eqV:V->V->Bool
 | .non,.non=>true
 | .bl a,.bl b=>a==b
 | .bl a,.int b=>(if a then 1 else 0)==b
 | .int a,.bl b=>a==(if b then 1 else 0)
 | .int a,.int b=>a==b
 | .str a,.str b=>a==b
 | _,_=>false
theorem G1 {A:Around}{s:Shared}{y x:V}{u v:Value}(ry:RelV y u)(rx:RelV x v)(fy:jL y=true)(fx:jL x=true):SeqAt.EqAt A s u v (eqV y x):=by
 cases y with
 | non =>
  cases ry;cases x with
  | non=>cases rx;exact SeqAt.EqAt.same _
  | bl b=>cases rx;exact SeqAt.EqAt.none_bool b
  | int b=>obtain ⟨t,rfl⟩:=rx;exact SeqAt.EqAt.none_int b t
  | str b=>obtain ⟨t,rfl⟩:=rx;exact SeqAt.EqAt.none_str b t
  | _=>exact absurd (show false=true from fx) Y0t
 | bl a =>
  cases ry;cases x with
  | non=>cases rx;exact SeqAt.EqAt.bool_none a
  | bl b=>cases rx;exact SeqAt.EqAt.bool_bool a b
  | int b=>obtain ⟨t,rfl⟩:=rx;exact SeqAt.EqAt.bool_int a b t
  | str b=>obtain ⟨t,rfl⟩:=rx;exact SeqAt.EqAt.bool_str a b t
  | _=>exact absurd (show false=true from fx) Y0t
 | int a =>
  obtain ⟨t',rfl⟩:=ry;cases x with
  | non=>cases rx;exact SeqAt.EqAt.int_none a t'
  | bl b=>cases rx;exact SeqAt.EqAt.int_bool a t' b
  | int b=>obtain ⟨t,rfl⟩:=rx;exact SeqAt.EqAt.int_int a t' b t
  | str b=>obtain ⟨t,rfl⟩:=rx;exact SeqAt.EqAt.int_str a t' b t
  | _=>exact absurd (show false=true from fx) Y0t
 | str a =>
  obtain ⟨t',rfl⟩:=ry;cases x with
  | non=>cases rx;exact SeqAt.EqAt.str_none a t'
  | bl b=>cases rx;exact SeqAt.EqAt.str_bool a t' b
  | int b=>obtain ⟨t,rfl⟩:=rx;exact SeqAt.EqAt.str_int a t' b t
  | str b=>obtain ⟨t,rfl⟩:=rx;exact SeqAt.EqAt.str_str a t' b t
  | _=>exact absurd (show false=true from fx) Y0t
 | _=>exact absurd (show false=true from fy) Y0t
def eqU (x:V)(u:Value):Bool:=match u with
 | .none=>eqV .non x
 | .bool b=>eqV (.bl b) x
 | .int i _=>eqV (.int i) x
 | .str z _=>eqV (.str z) x
 | _=>false
theorem Wk {x y:V}{u:Value}(r:RelV y u)(f:jL y=true):eqU x u=eqV y x:=by
 cases y with
 | non=>cases r;rfl
 | bl b=>cases r;rfl
 | int i=>obtain ⟨t,rfl⟩:=r;rfl
 | str z=>obtain ⟨t,rfl⟩:=r;rfl
 | _=>exact absurd (show false=true from f) Y0t
theorem yp {x:V}:∀ {xs:List V}{us:List Value},Vals xs us->xs.all jL=true->us.any (eqU x)=xs.any λ y=>eqV y x
 | _,_,.nil,_=>rfl
 | y::xs,u::us,.cons r t,f=>by
  rw [Y2w,Y0p] at f;rw [Y1l,Y1l,Wk r f.1,yp t f.2]
theorem qp {A:Around}{s:Shared}{x:V}{v:Value}(rx:RelV x v)(fx:jL x=true):∀ {xs:List V}{us:List Value},Vals xs us->xs.all jL=true->∀ u∈us,SeqAt.EqAt A s u v (eqU x u)
 | _,_,.nil,_=>λ u hu=>by cases hu
 | y::xs,u::us,.cons r t,f=>λ u' hu=>by
  rw [Y2w,Y0p] at f;rcases Y06.mp hu with rfl | hu
  ·rw [Wk r f.1];exact G1 r rx f.1 fx
  ·exact qp rx fx t f.2 u' hu
def inV (x:V)(xs:List V):Bool:=xs.any λ y=>eqV y x
def rIn (K:Y00)(neg:Bool):R2:=λ x y H Q=>∃ p xs,y=.ref p/\(SqL K H p xs\/SqT K H p xs)/\jL x=true/\xs.all jL=true/\Q (.bl (if neg then !inV x xs else inV x xs)) H
theorem UV:OpR X (compareOp .In) (rIn X.K false):=by
 intro pins s σ H x y v u Q I rx ry h;obtain ⟨p,xs,rfl,hq,fx,fs,q⟩:=h;cases ry;rcases hq with hq | hq
 ·obtain ⟨its,r,pl,hz⟩:=I.list hq;refine SeqAt.in_listAt (eqU x) pl.isList (λ w hw=>qp rx fx r fs w (by simpa using hw)) ⟨.bl _,H,I,rfl,?_⟩;rw [show its.toArray.any (eqU x)=its.any (eqU x) by simp,yp r fs];exact q
 ·obtain ⟨its,r,pl,hz⟩:=I.tuple hq;refine SeqAt.in_tupleAt (eqU x) pl (λ w hw=>qp rx fx r fs w (by simpa using hw)) ⟨.bl _,H,I,rfl,?_⟩;rw [show its.toArray.any (eqU x)=its.any (eqU x) by simp,yp r fs];exact q
theorem Wl:OpR X (compareOp .NotIn) (rIn X.K true):=by
 intro pins s σ H x y v u Q I rx ry h;obtain ⟨p,xs,rfl,hq,fx,fs,q⟩:=h;cases ry;rcases hq with hq | hq
 ·obtain ⟨its,r,pl,hz⟩:=I.list hq;refine SeqAt.notIn_listAt (eqU x) pl.isList (λ w hw=>qp rx fx r fs w (by simpa using hw)) ⟨.bl _,H,I,rfl,?_⟩;rw [show its.toArray.any (eqU x)=its.any (eqU x) by simp,yp r fs];exact q
 ·obtain ⟨its,r,pl,hz⟩:=I.tuple hq;refine SeqAt.notIn_tupleAt (eqU x) pl (λ w hw=>qp rx fx r fs w (by simpa using hw)) ⟨.bl _,H,I,rfl,?_⟩;rw [show its.toArray.any (eqU x)=its.any (eqU x) by simp,yp r fs];exact q
theorem Wm:OpR X (compareOp .NotIn) (λ x y H Q=>∃ i j,x=.str i/\y=.str j/\Q (.bl (!(!(Builtin.Str.occurrences j i 0 j.length 1).isEmpty))) H):=by
 intro pins s σ H x y v u Q I rx ry h;obtain ⟨i,j,rfl,rfl,q⟩:=h;obtain ⟨t,rfl⟩:=rx;obtain ⟨t',rfl⟩:=ry;exact notIn_str ⟨.bl _,H,I,rfl,q⟩
theorem Wn:zY X (.type "list") (λ xs H Q=>∃ p ys,xs=[.ref p]/\(SqL X.K H p ys\/SqT X.K H p ys)/\∀ l,H l=none->Q (.ref l) (upd H l (.lst ys))):=by
 intro pins s σ H xs us Q I r h;obtain ⟨p,ys,rfl,hq,q⟩:=h;obtain ⟨u,rfl,rx⟩:=qo r;cases rx;have fin:∀ (its:List Value),Vals ys its->ys.length<=sizeLine->∀ (h':Heap) (c':Nat),(∀ b o',s.heap.get? b=some o'->h'.get? b=some o') ->
   h'.get? s.heap.objs.size=some { cls:=.type "list",dict:=none,data:=.seq its.toArray c',slots:=#[] }->EP X pins σ Q (.ref s.heap.objs.size) { s with heap:=h' }:=λ its r' hz h' c' kp e =>
  ⟨.ref s.heap.objs.size,_,I.laid (t':=s.toks) kp (Y04 _) (show ObjOk X.prog X.w _ h' _ (.lst ys) from ⟨hz,its,c',r',e⟩),rfl,q _ (I.hok.fresh (Y04 _))⟩
 rcases hq with hq | hq
 ·obtain ⟨its,r',pl,hz⟩:=I.list hq;have hlen:=r'.length;obtain ⟨o,ho,hc,n,hd⟩:=pl.isList;exact call_list_seq p (.inl rfl) ho hc hd (λ h' c' kp e=>fin its r' hz h' c' kp e) (by simp only [Y0b]<;>omega)
 ·obtain ⟨its,r',pl,hz⟩:=I.tuple hq;have hlen:=r'.length;obtain ⟨o,ho,hc,n,hd⟩:=pl;exact call_list_seq p (.inr rfl) ho hc hd (λ h' c' kp e=>fin its r' hz h' c' kp e) (by simp only [Y0b]<;>omega)
theorem Jh:zY X (.type "tuple") (λ xs H Q=>∃ p ys,xs=[.ref p]/\((SqL X.K H p ys/\∀ l,H l=none->Q (.ref l) (upd H l (.tup ys)))\/(SqT X.K H p ys/\Q (.ref p) H))):=by
 intro pins s σ H xs us Q I r h;obtain ⟨p,ys,rfl,h⟩:=h;obtain ⟨u,rfl,rx⟩:=qo r;cases rx;rcases h with ⟨hq,q⟩ | ⟨hq,q⟩
 ·obtain ⟨its,r',pl,hz⟩:=I.list hq;have hlen:=r'.length;refine call_tuple_list pl.isList (λ h' kp=>?_) (by simp only [Y0b]<;>omega);have I1:Inv X pins σ H { s with heap:=h' }:=I.kept (t':=s.toks) kp;have I2:Inv X pins σ (upd H h'.objs.size (.tup ys)) { s with heap:=h'.push { cls:=.type "tuple",data:=.seq its.toArray } } :=
   I1.laid (t':=s.toks) (λ b o e=>Y01 _ e) (Y04 _) (show ObjOk X.prog X.w _ _ _ (.tup ys) from ⟨hz,its,r',IsTup.new _ _⟩)
  exact ⟨.ref h'.objs.size,_,I2,rfl,q _ (I1.hok.fresh (Y04 _))⟩
 ·obtain ⟨its,r',pl,hz⟩:=I.tuple hq;exact call_tuple_same pl ⟨.ref p,H,I,rfl,q⟩
def tyV (K:Y00)(T:String)(x:V)(H:Hp):Prop:=match x with
 | .str _=>T="str"
 | .int _=>T="int"
 | .ref p=>(T="list"/\∃ xs,SqL K H p xs)\/(T="tuple"/\∃ o,K.lookup p=some o/\o.cls=.type "tuple"/\o.dict=none) \/
   (T="dict"/\((∃ kvs,H p=some (.dK kvs))\/∃ kvs,H p=some (.dT kvs)))\/(T="set"/\∃ S n,H p=some (.set S n))
 | _=>False
theorem G2 {pins:List (Addr×Obj)}{σ:St}{H:Hp}{s:Shared}{T:String}{x:V}{v:Value}(I:Inv X pins σ H s)(r:RelV x v)(ty:tyV X.K T x H) :
  s.TypeIs v T/\∀ a,v=.ref a->∃ ob,s.heap.get? a=some ob/\ob.dict=none:=by
 cases x with
 | str z =>
  obtain ⟨t,rfl⟩:=r;cases (show T="str" from ty);exact ⟨typeIs_str s z t,λ _ e=>nomatch e⟩
 | int i =>
  obtain ⟨t,rfl⟩:=r;cases (show T="int" from ty);exact ⟨typeIs_int s i t,λ _ e=>nomatch e⟩
 | ref p =>
  cases r;rcases ty with ⟨rfl,xs,hq⟩ | ⟨rfl,o,hk,hc,hd⟩ | ⟨rfl,hk⟩ | ⟨rfl,S,n,hk⟩
  ·obtain ⟨its,_,pl,_⟩:=I.list hq;refine ⟨pl.isList.typeIs,λ a e=>?_⟩;cases e;obtain ⟨o,n,e,c,hd,_⟩:=pl;exact ⟨o,e,hd⟩
  ·refine ⟨⟨o,I.kIn p o hk,hc⟩,λ a e=>?_⟩;cases e;exact ⟨o,I.kIn _ o hk,hd⟩
  ·have z:∃ o,s.heap.get? p=some o/\o.ExactDict:=by
    rcases hk with ⟨kvs,hk⟩ | ⟨kvs,hk⟩
    ·obtain ⟨_,_,_,_,o,_,_,e,ex,_⟩:=I.hok p _ hk;exact ⟨o,e,ex⟩
    ·obtain ⟨_,_,_,_,o,_,_,e,ex,_⟩:=I.hok p _ hk;exact ⟨o,e,ex⟩
   obtain ⟨o,e,ex⟩:=z;refine ⟨⟨o,e,ex.1⟩,λ a e2=>?_⟩;cases e2;exact ⟨o,e,ex.2.1⟩
  ·obtain ⟨o,_,_,_,e,ex,_⟩:=I.hok p _ hk;refine ⟨⟨o,e,ex.1⟩,λ a e2=>?_⟩;cases e2;exact ⟨o,e,ex.2.1⟩
 | _=>exact False.elim ty
def z65 (K:Y00)(T:String)(r:V->List V->Hp->VK->Prop)(to:TE):TE:=λ σ H Q=>to σ H λ x H1=>tyV K T x H1/\r x [] H1 Q
def tBM (K:Y00)(T:String)(r:V->List V->Hp->VK->Prop)(to:TE)(t:TA):TE:=λ σ H Q=>to σ H λ x H1=>tyV K T x H1/\t σ H1 λ xs H2=>r x xs H2 Q
variable {o e:Expr}{es:List Expr}{to:TE}{t:TA}{name:Str}{apos cpos:Pos}{T id:String}{r:V->List V->Hp->VK->Prop}
theorem z28 (pa:PlainAttrs T) (slot:Slot T name id) (hty:typeOf (.builtin id)=pure (.type "method_descriptor")) (hm:MtR X id r) (ho:PE X o to)
  (hbase:attributeBase o name X.env (eval o X.env)=eval o X.env:=by rfl) (hline:(apos.endLine==cpos.line)=true:=by rfl):PE X (.Call (.Attribute o name apos) [] [] cpos) (z65 X.K T r to):=by
 intro pins s σ H Q I h;refine wpAny_Call_method0_late hbase hline (thn (ho pins s σ H _ I h) λ v s1 ⟨x,H1,I1,r1,ty,q1⟩=>?_);obtain ⟨h1,h2⟩:=G2 I1 r1 ty;exact ⟨T,id,pa,slot,hty,h1,h2,Calls.callWith_builtin rfl (PySem.evalArgs_none (hm pins s1 σ H1 x [] v [] Q I1 r1 .nil q1))⟩
theorem z44 (pa:PlainAttrs T) (slot:Slot T name id) (hty:typeOf (.builtin id)=pure (.type "method_descriptor")) (hm:MtR X id r) (ho:PE X o to) (ha:PA X (e::es) t)
  (hbase:attributeBase o name X.env (eval o X.env)=eval o X.env:=by rfl)
  (hfew:((backTo cpos (starEach (e::es) X.env)).all (λ x=>!x.1)&&(backToKw cpos (keywordEach [] X.env)).all (λ x=>x.1.isSome)
   && decide ((e::es).length+([]:List Keyword).length+(if ([]:List Keyword).isEmpty then 0 else 1)<30))=true:=by rfl)
  (hline:(apos.endLine==cpos.line)=true:=by rfl) (hs:starEach (e::es) X.env=(false,eval e X.env)::starEach es X.env:=by rfl) (hplain:(backTo cpos (starEach es X.env)).any (·.1)=false:=by rfl) :
  PE X (.Call (.Attribute o name apos) (e::es) [] cpos) (tBM X.K T r to t):=by
 intro pins s σ H Q I h;refine wpAny_Call_method_late hbase hfew hline rfl (thn (ho pins s σ H _ I h) λ v s1 ⟨x,H1,I1,r1,ty,q1⟩=>?_);obtain ⟨h1,h2⟩:=G2 I1 r1 ty;refine ⟨T,id,pa,slot,hty,h1,h2,?_⟩;have hA:=ha cpos pins s1 σ H1 _ I1 q1;rw [hs] at hA ⊢;refine Calls.callWith_builtin (by show (false||(backTo cpos (starEach es X.env)).any (·.1))=false;rw [hplain]<;>rfl) (Calls.evalArgs_plain ?_);exact thn hA λ us s2 ⟨vs,H2,I2,r2,q2⟩=>hm pins s2 σ H2 x vs v us Q I2 r1 r2 q2
end
def MtM (X:Cx)(id:String)(r:V->List V->Hp->VK->Prop):Prop :=
 ∀ (pins:List (Addr×Obj)) (s:Shared) (σ:St) (H:Hp) (x:V) (xs:List V) (v:Value) (us:List Value) (Q:VK),Inv X pins σ H s->RelV x v->Vals xs us->r x xs H Q ->
  wpAny (model X.prog X.w) X.A (call (.builtin id) (v::us)) (EP X pins σ Q) X.xe s
theorem Vals.one:∀ {x:V}{us:List Value},Vals [x] us->∃ u,us=[u]/\RelV x u
 | _,_,.cons r .nil=>⟨_,rfl,r⟩
theorem Vals.zero:∀ {us:List Value},Vals [] us->us=[]
 | _,.nil=>rfl
theorem Vals.dropLast {xs:List V}{us:List Value}(h:Vals xs us):Vals xs.dropLast us.dropLast:=by
 induction h with
 | nil=>exact .nil
 | cons r t ih =>
  cases t with
  | nil=>exact .nil
  | cons q t'=>exact .cons r ih
theorem Vals.rep {xs:List V}{us:List Value}(h:Vals xs us):∀ k:Nat,Vals (List.replicate k xs).flatten (List.replicate k us).flatten
 | 0=>.nil
 | k+1=>by
  rw [Y1n,Y1n,Y27,Y27];exact Vals.append h (Vals.rep h k)
theorem Y8 {α:Type}(l:List α):l.eraseIdx (l.length-1)=l.dropLast:=by
 induction l with
 | nil=>rfl
 | cons a r ih =>
  cases r with
  | nil=>rfl
  | cons b r =>
   have e:(a::b::r).length-1=((b::r).length-1)+1:=by
    have h1:(a::b::r).length=r.length+2:=rfl;have h2:(b::r).length=r.length+1:=rfl;omega
   rw [e,List.eraseIdx_cons_succ,ih]
   all_goals rfl
theorem JG (its:List Value):∀ (k:Nat) (acc:List Value),
  List.foldl (λ x1 x2=>x1++x2) acc.toArray (List.replicate k its.toArray)=(acc++(List.replicate k its).flatten).toArray
 | 0,acc=>by simp
 | k+1,acc=>by
  have e:acc.toArray++its.toArray=(acc++its).toArray:=by simp
  have e2:(acc++its)++(List.replicate k its).flatten=acc++(List.replicate (k+1) its).flatten:=by
   rw [Y1n,Y27,Y0l]
  rw [<- e2,<- JG its k (acc++its),<- e,Y1n,List.foldl_cons]
section
variable {X:Cx}{pins:List (Addr×Obj)}{σ:St}{H:Hp}{s:Shared}{l b:Addr}{xs ys zs:List V}
theorem Inv.lset {its its':List Value}{n:Nat}{f:Array Value->Array Value}{t':Nat}(I:Inv X pins σ H s)(hH:H l=some (.lst xs))
  (e:s.heap.get? l=some { cls:=.type "list",data:=.seq its.toArray n }) (hf:f its.toArray=its'.toArray) (hv:Vals ys its') (hz:ys.length<=sizeLine) :
  Inv X pins σ (upd H l (.lst ys)) { s with heap:=s.heap.update l (Obj.mapSeq f),toks:=t' }:=by
 have q:=PySem.IsL.update e f;rw [hf] at q;refine I.write (x:=l) (e:=l) (by rw [hH];exact trivial) (.inl rfl) (λ b' u hb hu=>(Y16 s.heap (Obj.mapSeq f) (Ne.symm hb)).trans hu) ⟨_,q⟩ ?_;exact ⟨hz,its',_,hv,q⟩
theorem Inv.lnew {its:List Value}{t':Nat}(I:Inv X pins σ H s)(hv:Vals ys its)(hz:ys.length<=sizeLine) :
  Inv X pins σ (upd H s.heap.objs.size (.lst ys)) { s with heap:=s.heap.push { cls:=.type "list",data:=.seq its.toArray },toks:=t' } :=
 I.laid (λ _ _ q=>Y01 _ q) (Y04 _) ⟨hz,its,0,hv,Y0c _ rfl⟩
theorem Inv.fresh (I:Inv X pins σ H s):H s.heap.objs.size=none:=I.hok.fresh (Y04 _)
theorem Inv.lstM (I:Inv X pins σ H s)(hH:H l=some (.lst xs)):xs.length<=sizeLine/\∃ (its:List Value) (n:Nat),Vals xs its/\xs.length=its.length/\s.heap.get? l=some { cls:=.type "list",data:=.seq its.toArray n }:=by
 obtain ⟨z,its,n,r,e⟩:=I.hok l _ hH;exact ⟨z,its,n,r,r.length,e⟩
theorem G3 {n:Nat}(h:n<=sizeLine):Builtin.List.listTooLong n=false:=by
 unfold Builtin.List.listTooLong;exact decide_eq_false (by omega)
end
section
variable {X:Cx}
def OP:V->List V->Hp->VK->Prop:=λ x vs H Q=>∃ l xs y,x=.ref l/\vs=[y]/\H l=some (.lst xs)/\xs.length<sizeLine/\Q .non (upd H l (.lst (xs++[y])))
theorem UW:MtM X "list.append" OP:=by
 intro pins s σ H x vs v us Q I rx rv h;obtain ⟨l,xs,y,rfl,rfl,hH,hz,q⟩:=h;cases rx;obtain ⟨u,rfl,ru⟩:=rv.one;obtain ⟨z,its,n,r,hl,e⟩:=I.lstM hH;refine call_meets F.slot_list_append ⟨_,e,rfl⟩ F.entry_list_append (F.args_list_append_2 _ _) (PySem.list_append l its.toArray n u (by rw [Y0b];omega)) ⟨e,?_⟩;refine ⟨.non,_,I.lset (its':=its++[u]) hH e (by simp) (r.append (.cons ru .nil)) ?_,rfl,q⟩;rw [Y0h,Y35];omega
def z66:V->List V->Hp->VK->Prop:=λ x vs H Q=>∃ l xs y,x=.ref l/\vs=[]/\H l=some (.lst xs)/\xs[xs.length-1]?=some y/\Q y (upd H l (.lst xs.dropLast))
theorem z29:MtM X "list.pop" z66:=by
 intro pins s σ H x vs v us Q I rx rv h;obtain ⟨l,xs,y,rfl,rfl,hH,hy,q⟩:=h;cases rx;have hus:=rv.zero;subst hus;obtain ⟨z,its,n,r,hl,e⟩:=I.lstM hH;obtain ⟨u,hu,ru⟩:=r.get hy;have hy':its.toArray[its.toArray.size-1]?=some u:=by
  show its.toArray[its.length-1]?=some u;rw [<- Y37,<- hl];exact hu
 refine call_meets F.slot_list_pop ⟨_,e,rfl⟩ F.entry_list_pop (F.args_list_pop_1 _) (MeetsSeq.list_pop_last l its.toArray n u hy' (by rw [Y0b];omega)) ⟨e,?_⟩;refine ⟨y,_,I.lset (its':=its.dropLast) hH e ?_ r.dropLast ?_,ru,q⟩
 ·show its.toArray.eraseIdxIfInBounds (its.toArray.size-1)=its.dropLast.toArray;rw [Y0b,List.eraseIdxIfInBounds_toArray,Y8]
 ·rw [List.length_dropLast];omega
def z67:R2:=λ x y H Q=>∃ l b xs zs,x=.ref l/\y=.ref b/\H l=some (.lst xs)/\H b=some (.lst zs)/\xs.length+zs.length<=sizeLine/\∀ p,H p=none->Q (.ref p) (upd H p (.lst (xs++zs)))
theorem z2a:OpR X (binaryOp .Add) z67:=by
 intro pins s σ H x y v u Q I rx ry h;obtain ⟨l,b,xs,zs,rfl,rfl,hH,hB,hz,q⟩:=h;cases rx;cases ry;obtain ⟨z,its,n,r,hl,e⟩:=I.lstM hH;obtain ⟨z2,its2,n2,r2,hl2,e2⟩:=I.lstM hB;refine PySem.P.add_list e e2 ?_ (by rw [Y0b,Y0b];omega);have ea:its.toArray++its2.toArray=(its++its2).toArray:=by simp
 rw [ea];exact ⟨.ref _,_,I.lnew (t':=s.toks) (r.append r2) (by rw [Y0h];omega),rfl,q _ I.fresh⟩
def z68:R2:=λ x y H Q=>∃ l k xs,x=.ref l/\y=.int k/\H l=some (.lst xs)/\-(2 ^ 63)<=k/\k<2 ^ 63/\xs.length*k.toNat<=sizeLine /\
 ∀ p,H p=none->Q (.ref p) (upd H p (.lst (List.replicate k.toNat xs).flatten))
theorem OQ {α:Type}(xs:List α)(k:Nat):(List.replicate k xs).flatten.length=k*xs.length:=by
 induction k with
 | zero=>simp
 | succ k ih=>rw [Y1n,Y27,Y0h,ih,Nat.succ_mul,Nat.add_comm]
theorem z2b:OpR X (binaryOp .Mult) z68:=by
 intro pins s σ H x y v u Q I rx ry h;obtain ⟨l,k,xs,rfl,rfl,hH,h1,h2,hz,q⟩:=h;cases rx;obtain ⟨t,rfl⟩:=ry;obtain ⟨z,its,n,r,hl,e⟩:=I.lstM hH;have hlen:its.toArray.size*k.toNat<=sizeLine:=by rw [Y0b,<- hl];exact hz
 have hcap:¬ its.toArray.size*k.toNat > (2 ^ 63-1)/8:=by
  have:(sizeLine:Nat)<=(2 ^ 63-1)/8:=by decide
  omega
 have hfit:¬ (!Builtin.List.listFitsIndex k)=true:=by
  rw [fitsIndex_both h1 h2];exact Y0t
 have hlong:¬ Builtin.List.listTooLong (its.toArray.size*k.toNat)=true:=by
  rw [G3 hlen];exact Y0t
 have hnew:List.foldl (λ x1 x2=>x1++x2) #[] (List.replicate (if its.toArray.isEmpty=true then 0 else k.toNat) its.toArray)=(List.replicate k.toNat its).flatten.toArray:=by
  have f0:∀ m:Nat,List.foldl (λ x1 x2=>x1++x2) #[] (List.replicate m its.toArray)=(List.replicate m its).flatten.toArray:=λ m=>by
   have:=JG its m []
   rw [Y14] at this;exact this
  rw [f0];cases its with
  | nil=>simp
  | cons a r'=>rw [if_neg (by simp)]
 refine wpAny_binaryOp_repeat_ref (T:="list") (U:="int") (by decide) ⟨_,e,rfl⟩ (λ s'=>typeIs_int s' k t) noFill_list_mul F.fills_int_mul F.slot_int_rmul repeat_list F.slot_int_index.lookup
  (call_meets F.slot_int_rmul (typeIs_int s k t) F.entry_int_rmul (F.args_int_rmul_2 _ _) (int___rmul___int_list k t l its.toArray n)
   ⟨e,rfl,⟨_,e,rfl⟩,call_meets F.slot_list_mul ⟨_,e,rfl⟩ F.entry_list_mul (F.args_list_mul_2 _ _) (AutoListH.list___mul___list_int_3 l its.toArray n k t hfit hcap hlong) ⟨e,?_⟩⟩)
 rw [hnew];exact ⟨.ref _,_,I.lnew (t':=s.toks) (r.rep k.toNat) (by rw [OQ,Nat.mul_comm];exact hz),rfl,q _ I.fresh⟩
end
end L2
namespace Att
open PySem PySem.W PySem.Calls PyProof.Rows
theorem Z2 {P:Params}{h:Heap}:∀ (ns:List Int) (vs:List Value),WellAll P h vs (ns.map WData.int)->IntsAre vs ns:=by
 intro ns
 induction ns with
 | nil =>
  intro vs w;rw [Y2e] at w;cases w;exact .nil
 | cons n ns ih =>
  intro vs w;rw [Y0i] at w;cases w with
  | cons a b =>
   cases a;exact .cons _ _ (ih _ b)
theorem script_of {l:OpenLaw}{n:Nat}(hn:l.most=some n){P:Params}{h:Heap}{args:List WData}{vals:List Value}
  (hpre:l.row.toRowW.claim.pre args=true) (hwl:WellAll P h vals args) :
  ∃ a vs ns,vals=[Value.ref a]/\args=[WData.list (ns.map WData.int)]/\h.get? a=some { cls:=.type "list",data:=.seq vs.toArray }/\IntsAre vs ns/\ns.length<=n:=by
 have hsh:WShape.hasAll [] args [.list .int]=true:=(pre_splitW hpre).1;have hc:l.pre.holds [] { args:=args }=true:=(pre_splitW hpre).2;obtain ⟨d,r,rfl,h1,h2⟩:=hasAllW_cons hsh;obtain rfl:=hasAllW_nil h2;obtain ⟨xs,rfl,h3⟩:=hasW_list h1;obtain ⟨ns,rfl⟩:=items_int h3;have hlen:ns.length<=n:=by
  unfold OpenLaw.pre at hc;have h4:(WTm.not (.lt (.lit (.int (n:Int))) (.len (.arg 0)))).holds [] { args:=[.list (ns.map .int)] }=true:=by
   have h4:=(holds_andW hc).1;rw [hn] at h4;exact h4
  have h5:=condW_of h4 (w_not (w_lt w_lit (w_len_list (w_arg rfl))));rw [Y0d] at h5;refine Nat.le_of_not_lt λ q=>?_;have q':(n:Int)<((ns.length:Nat):Int):=by omega
  first
   | (rw [decide_eq_true q'] at h5;exact absurd h5 (by decide))
   | (simp at h5;omega)
 cases hwl with
 | cons w1 w2 =>
  cases w2;cases w1 with
  | list ho hall=>exact ⟨_,_,ns,rfl,rfl,ho,Z2 ns _ hall,hlen⟩
theorem post_true (l:OpenLaw)(args:List WData):l.row.toRowW.claim.post args (.bool true) args=true :=
 postW_of (r:=l.row.toRowW) (X:=(true==true))
  (show WShape.has [] (.bool true) .bool=true by first | rfl | decide | simp [WShape.has,WShape.arms,WShape.armsAll])
  (show (WTm.eq .res (.lit (.bool true))).value [] { args:=args,res:=some (.bool true),after:=args }=some (.bool (true==true)) from w_eq_bool (w_res rfl) w_lit) rfl
section
variable {prog:Program}{w:World}{A:Around}{E:Value->Shared->Prop}{s:Shared}{K:Frag}
def z69 (h:Heap)(L d:Addr):List (Addr×Obj):=(List.range h.objs.size).filterMap λ a=>if a=L\/a=d then none else (h.get? a).map λ o=>(a,o)
end
end Att
namespace L2
open PySem PySem.Spec PyProof.Rows
theorem JH:∀ {vs:List Value}{ns:List Int},IntsAre vs ns->Vals (ns.map V.int) vs
 | _,_,.nil=>.nil
 | _,_,.cons n t h=>.cons ⟨t,rfl⟩ (JH h)
def z2c (H:Hp):Prop:=∀ b,H b=none\/∃ o xs,H b=some (.frz o (.lst xs))
theorem G4 {P:Program}{w:World}{K:Y00}{mg mb:Str->Option Value}{CX:CXT}{k:Nat}{fa a:Addr}{fd:FuncData}{x:Str}{sp:Sp}{s₁:Shared}{vs:List Value}{ns:List Int}
  (KX:K.In s₁.heap) (hns:s₁.heap.Ns mainGlobals mg) (hb:s₁.heap.Ns builtinsNs mb) (hbb:∀ x:Str,x≠"__name__"->mb x=bootBuiltins x) (hlim:s₁.heap.NoLimit) (hg:s₁.gens=#[])
  (ha:s₁.heap.get? a=some { cls:=.type "list",data:=.seq vs.toArray }) (hi:IntsAre vs ns) (hl:ns.length<=sizeLine) (hr:Room k callerA)
  (F:∀ base:Heap,K.In base->base.Ns mainGlobals mg->FnOk P w K mg base CX k fa fd [x] sp) (hbind:∀ (s:Shared) (u:Value),BindsTo s fd ⟨[u],[]⟩ [(x,u)])
  (hsp:∀ H:Hp,z2c H->SqL K H a (ns.map V.int)->sp [.ref a] H (λ v _=>v=.bl true) λ _ _ _=>False)
  (hCX:∀ H e s',CX [] H s₁ (λ _ _ _=>False) e s'->False) :
  codeAny (model P w) callerA (.call (.ref fa) ⟨[.ref a],[]⟩) (λ r s'=>r=.ok (.ret (.bool true))/\OldK s₁.heap s'.heap/\s'.os=s₁.os/\AllBare s'.gens) s₁:=by
 have rv:=JH hi;have lenV:=hi.length;have core:∀ H:Hp,z2c H->SqL K H a (ns.map V.int)->HOk P w H s₁.heap->(∀ b,H b≠none->b=a)->(H a≠none->K.lookup a=none) ->
   codeAny (model P w) callerA (.call (.ref fa) ⟨[.ref a],[]⟩) (λ r s'=>r=.ok (.ret (.bool true))/\OldK s₁.heap s'.heap/\s'.os=s₁.os/\AllBare s'.gens) s₁:=by
  intro H hO hS hok hA hK;have base_of:∀ {b:Addr}{o:Obj},s₁.heap.get? b=some o->H b=none->(Wc s₁.heap H).get? b=some o:=λ e n=>VE e n;have noA:∀ {b:Addr}{o:Obj}{es:Array DictEntry}{ep:Nat},s₁.heap.get? b=some o->o.data=.dict es ep->H b=none:=λ {b o es ep} e d=>by
   cases q:H b with
   | none=>rfl
   | some u =>
    have e':b=a:=hA b (by rw [q];simp);subst e';rw [ha] at e;cases e;have d':Data.seq vs.toArray _=Data.dict es ep:=d;cases d'
  have nsK:∀ {b:Addr}{m:Str->Option Value},s₁.heap.Ns b m->(Wc s₁.heap H).Ns b m:=λ {b m} ⟨o,es,ep,e,d,r⟩=>⟨o,es,ep,base_of e (noA e d),d,r⟩;have hKb:K.In (Wc s₁.heap H):=λ b o e=>base_of (KX b o e) (by
   cases q:H b with
   | none=>rfl
   | some u =>
    have e':b=a:=hA b (by rw [q];simp);subst e';rw [hK (by rw [q];simp)] at e;cases e)
  have hM:Mod K mg (Wc s₁.heap H):=⟨hKb,nsK hns,⟨mb,nsK hb,hbb⟩,let ⟨mc,h1,h2⟩:=hlim;⟨mc,nsK h1,h2⟩⟩;have e0:Env0 P w K mg (Wc s₁.heap H) callerA [] s₁ H:=⟨rfl,hM,λ b o e=>Ou e,Nat.le_of_eq (UP _ _),trivial,λ b hb=>absurd (show b∈([]:List Addr) from hb) (by simp),hok,.of_eq hg⟩;refine codeAny_mono ((F _ hKb (nsK hns)).run callerA [] s₁ H ⟨[.ref a],[]⟩ [.ref a] [.ref a] _ _ hr e0 (hbind s₁ (.ref a)) (.cons rfl .nil) (hsp H hO hS)) λ r s' h=>?_;cases r with
  | error e=>exact (hCX H e s' h).elim
  | ok fl =>
   cases fl with
   | next=>exact False.elim h
   | brk=>exact False.elim h
   | cont=>exact False.elim h
   | ret u =>
    obtain ⟨v,H',os,bare,un,hok',r',q⟩:=h;have q':v=.bl true:=q;subst q';obtain rfl:u=Value.bool true:=r';refine ⟨rfl,OldK.of_keep λ b o e=>?_,os,bare⟩;cases q:H b with
    | none=>exact un.keep b o e q (by intro z;exact absurd (show b∈([]:List Addr) from z) (by simp)) (by simp)
    | some u =>
     rcases hO b with z | ⟨ob,xs,z⟩
     ·rw [q] at z;cases z
     ·have z2:=un.frzs b ob _ z;obtain ⟨e1,_⟩:=hok b _ z;obtain ⟨e2,_⟩:=hok' b _ z2;rw [e] at e1;cases e1;exact e2
 cases hk:K.lookup a with
 | some o =>
  have e:=KX a o hk;rw [ha] at e;cases e;refine core (λ _=>none) (λ _=>.inl rfl) (.inr ⟨_,vs.toArray,_,hk,rfl,rfl,rfl,by rw [Y0b,lenV];exact hl,by simpa using rv⟩) (λ b u z=>by have z':(none:Option HO)=some u:=z;cases z') (λ b z=>absurd rfl z) λ z=>absurd rfl z
 | none =>
  refine core (λ b=>if b=a then some (.frz { cls:=.type "list",data:=.seq vs.toArray } (.lst (ns.map V.int))) else none) (λ b=>?_) (.inl (.inr ⟨{ cls:=.type "list",data:=.seq vs.toArray },if_pos rfl⟩)) (λ b u z=>?_) (λ b z=>?_) λ _=>hk
  ·by_cases hb:b=a
   ·exact .inr ⟨_,_,if_pos hb⟩
   ·exact .inl (if_neg hb)
  ·by_cases hb:b=a
   ·have z':=(if_pos hb).symm.trans z;cases z';subst hb;exact ⟨ha,by rw [Y0d];exact hl,vs,_,rv,ha⟩
   ·have z':=(if_neg hb).symm.trans z;cases z'
  ·by_cases hb:b=a
   ·exact hb
   ·exact absurd (if_neg hb) z
abbrev KOf {K:Y00}{h:Heap}(_:K.In h):Y00:=K
def ja (s:Stmt):Arguments:=match s with
 | .FunctionDef _ a _ _ _ _ _ _ _ _=>a
 | _=>{ posonlyargs:=[],args:=[],vararg:=none,kwonlyargs:=[],kw_defaults:=[],kwarg:=none,defaults:=[] }
def zR (s:Stmt):List Stmt:=match s with
 | .FunctionDef _ _ b _ _ _ _ _ _ _=>b
 | _=>[]
def zy (s:Stmt):Scope:=match s with
 | .FunctionDef _ _ _ _ _ _ sc _ _ _=>sc
 | _=>{ kind:=.function,names:=[],isGenerator:=false,isCoroutine:=false }
abbrev CX0:CXT:=λ _ _ _ _ _ _=>False
structure Fun (K:Y00)(x qual:Str)(st:Stmt)(f:Addr)(fd:FuncData):Prop where
 ex:∃ (oc:Value) (od:Option Addr) (kV doc pm:Value) (an:Option Addr) (cdv ct:Value) (osl:Array (Option Value)),
  fd=PySem.W.fnOf x qual (ja st) (zR st) (zy st) .none kV doc pm an cdv ct/\K.lookup f=some ⟨oc,od,.func fd,osl⟩/\PySem.W.codeIn K cdv qual=true
 kp:PySem.W.keepIn K (.ref f)=true
section
variable {P:Program}{w:World}{K:Y00}{mg:Str->Option Value}{base:Heap}
theorem Fun.binds {x qual:Str}{st:Stmt}{f:Addr}{fd:FuncData}{ps:List Str}(F:Fun K x qual st f fd)
  (h:∀ (kV doc pm:Value) (an:Option Addr) (cdv ct:Value) (us:List Value),us.length=ps.length->bindArgs (PySem.W.fnOf x qual (ja st) (zR st) (zy st) .none kV doc pm an cdv ct) ⟨us,[]⟩=pure (ps.zip us)):Binds K fd ps []:=by
 obtain ⟨oc,od,kV,doc,pm,an,cdv,ct,osl,rfl,lk,hcd⟩:=F.ex;exact .all (h kV doc pm an cdv ct)
theorem yI {x qual:Str}{st:Stmt}{f:Addr}{oc:Value}{od an:Option Addr}{osl:Array (Option Value)}{kV doc pm cdv ct:Value}(l:K.lookup f=some ⟨oc,od,.func (PySem.W.fnOf x qual (ja st) (zR st) (zy st) .none kV doc pm an cdv ct),osl⟩)
  (c:PySem.W.codeIn K cdv qual=true) (k:PySem.W.keepIn K (.ref f)=true):Fun K x qual st f (PySem.W.fnOf x qual (ja st) (zR st) (zy st) .none kV doc pm an cdv ct):=⟨⟨oc,od,kV,doc,pm,an,cdv,ct,osl,rfl,l,c⟩,k⟩
end
theorem z08 {A:Around}{k:Nat}(hr:Room k A):A.units+1<cLine:=Y3e (Nat.add_le_add_left (by decide:1<=64) _) hr.units
theorem JI {n:Nat}(h:n<=1000):n<sizeLine:=Y3e h (by decide)
section
variable {X:Cx}
theorem pv (i:Nat) {x:Str}{pos:Pos} (hN:X.N[i]?=some x:=by rfl) (hv:Vis X.env.scope x:=by first | exact Or.inl rfl | exact Or.inr (Or.inl rfl) | exact Or.inr (Or.inr rfl)) (hd:(x==("__debug__":Str))=false:=by decide)
  (hcd:(x==("__classdict__":Str))=false:=by decide):PE X (.Name x pos) (z3j i):=VF hN hv hd hcd
end
theorem Z3 {A B:Prop}(h:B):if false=true then A else B:=by
 rw [if_neg Y0t];exact h
theorem Z4 {A B:Prop}(h:A):if true=true then A else B:=by
 rw [if_pos rfl];exact h
def z6z (H H':Hp):Prop:=∀ b o,H b=some o->H' b=some o
section
variable {κ:Type}[DecidableEq κ]
def yJ (kvs:List (κ×V))(k:κ):Option V:=(kvs.find? λ kv=>decide (kv.1=k)).map (·.2)
def wL (kvs:List (κ×V))(k:κ)(v:V):List (κ×V) :=
 if (kvs.any λ kv=>decide (kv.1=k))=true then kvs.map (λ kv=>if kv.1=k then (kv.1,v) else kv) else kvs++[(k,v)]
def z6v (kvs:List (κ×V))(k:κ):List (κ×V):=kvs.filter λ kv=>decide (kv.1≠k)
theorem qr {p:κ×V}{r:List (κ×V)}{k:κ}(e:p.1=k):yJ (p::r) k=some p.2:=by simp [yJ,Y1j,e]
theorem qt {p:κ×V}{r:List (κ×V)}{k:κ}(e:¬ p.1=k):yJ (p::r) k=yJ r k:=by simp [yJ,Y1j,e]
theorem Q8 (k:κ):∀ kvs:List (κ×V),(kvs.any λ kv=>decide (kv.1=k))=(yJ kvs k).isSome
 | []=>rfl
 | p::r=>by
  rw [Y1l];by_cases e:p.1=k
  ·simp only [qr e,decide_eq_true e,Bool.true_or,Option.isSome_some]
  ·rw [qt e,decide_eq_false e,Bool.false_or];exact Q8 k r
theorem qw (kvs:List (κ×V))(k:κ)(v:V):(wL kvs k v).length<=kvs.length+1:=by
 unfold wL
 split
 ·rw [Y0d];omega
 ·rw [Y0h,Y09,Y1t];omega
theorem RelO.isSome_eq {o:Option V}{u:Option Value}(r:RelO o u):o.isSome=u.isSome:=by
 cases o with
 | none=>cases u with
  | none=>rfl
  | some _=>exact (show False from r).elim
 | some _=>cases u with
  | none=>exact (show False from r).elim
  | some _=>rfl
theorem KV.val {kvs:List (κ×V)}{vs:List (κ×Value)}(r:KV kvs vs)(k:κ):RelO (yJ kvs k) (valueAt vs k):=by
 unfold KV at r
 induction r with
 | nil=>exact True.intro
 | @cons p q ps qs h t ih =>
  obtain ⟨h1,h2⟩:=h;by_cases e:p.1=k
  ·have e':q.1=k:=h1.symm.trans e;have b:valueAt (q::qs) k=some q.2:=by simp [valueAt,Y1j,e']
   rw [qr e,b];exact h2
  ·have e':¬ q.1=k:=λ z=>e (h1.trans z);have b:valueAt (q::qs) k=valueAt qs k:=by simp [valueAt,Y1j,e']
   rw [qt e,b];exact ih
theorem KV.any {kvs:List (κ×V)}{vs:List (κ×Value)}(r:KV kvs vs)(k:κ):(kvs.any λ kv=>decide (kv.1=k))=vs.any λ kv=>decide (kv.1=k):=by
 unfold KV at r
 induction r with
 | nil=>rfl
 | cons h t ih=>rw [Y1l,Y1l,ih,h.1]
theorem KV.repl {kvs:List (κ×V)}{vs:List (κ×Value)}(r:KV kvs vs)(k:κ){y:V}{u:Value}(ry:RelV y u) :
  KV (kvs.map λ kv=>if kv.1=k then (kv.1,y) else kv) (vs.map λ kv=>if kv.1=k then (kv.1,u) else kv):=by
 unfold KV at r ⊢
 induction r with
 | nil=>exact .nil
 | @cons p q ps qs h t ih =>
  rw [Y0i,Y0i];refine .cons ?_ ih;obtain ⟨h1,h2⟩:=h;by_cases e:p.1=k
  ·rw [if_pos e,if_pos (h1.symm.trans e)];exact ⟨h1,ry⟩
  ·rw [if_neg e,if_neg (λ z=>e (h1.trans z))];exact ⟨h1,h2⟩
theorem KV.put {kvs:List (κ×V)}{vs:List (κ×Value)}(r:KV kvs vs)(k:κ){y:V}{u:Value}(ry:RelV y u):KV (wL kvs k y) (stored vs k u):=by
 unfold wL stored;rw [r.any k];by_cases e:(vs.any λ kv=>decide (kv.1=k))=true
 ·rw [if_pos e,if_pos e];exact r.repl k ry
 ·rw [if_neg e,if_neg e];exact Paired.snoc r ⟨rfl,ry⟩
theorem KV.length {kvs:List (κ×V)}{vs:List (κ×Value)}(r:KV kvs vs):kvs.length=vs.length:=Paired.length r
end
theorem yq {P:Program}{w:World}{k:Key}{u:Value}(r:RelV (kV k) u):(zB P w).is k u=true:=by
 cases k with
 | inl i=>obtain ⟨t,e⟩:=(show ∃ t,u=Value.int i t from r);subst e;exact Q2 P w i t
 | inr x=>obtain ⟨t,e⟩:=(show ∃ t,u=Value.str x t from r);subst e;exact Q3 P w x t
theorem JJ {P:Program}{w:World}:∀ {ks:List Key}{us:List Value},Vals (ks.map kV) us->ItemsAre (zB P w) ks us
 | [],_,r=>by rw [Y2e] at r;cases r;exact .nil
 | k::ks,_,r=>by
  rw [Y0i] at r;cases r with
  | cons h t=>exact .cons (yq h) (JJ t)
abbrev KT (H:Hp):List (List Key×V)->List (List Key×Addr×Value)->Prop:=Paired λ p q=>p.1=q.1/\H q.2.1=some (.tup (p.1.map kV))/\RelV p.2 q.2.2
theorem KT.val {H:Hp}{kvs:List (List Key×V)}{xs:List (List Key×Addr×Value)}(r:KT H kvs xs)(k:List Key):RelO (yJ kvs k) ((atKey xs k).map (·.2)):=by
 induction r with
 | nil=>exact True.intro
 | @cons p q ps qs h t ih =>
  obtain ⟨h1,_,h2⟩:=h;by_cases e:p.1=k
  ·have e':q.1=k:=h1.symm.trans e;have b:atKey (q::qs) k=some q.2:=by simp [atKey,Y1j,e']
   rw [qr e,b];exact h2
  ·have e':¬ q.1=k:=λ z=>e (h1.trans z);have b:atKey (q::qs) k=atKey qs k:=by simp [atKey,Y1j,e']
   rw [qt e,b];exact ih
theorem KT.repl {H:Hp}{kvs:List (List Key×V)}{xs:List (List Key×Addr×Value)}(r:KT H kvs xs)(k:List Key){y:V}{u:Value}(ry:RelV y u) :
  KT H (kvs.map λ kv=>if kv.1=k then (kv.1,y) else kv) (xs.map (putAt k u)):=by
 induction r with
 | nil=>exact .nil
 | @cons p q ps qs h t ih =>
  rw [Y0i,Y0i];refine .cons ?_ ih;obtain ⟨h1,h2,h3⟩:=h;unfold putAt;by_cases e:p.1=k
  ·rw [if_pos e,if_pos (h1.symm.trans e)];exact ⟨h1,h2,ry⟩
  ·rw [if_neg e,if_neg (λ z=>e (h1.trans z))];exact ⟨h1,h2,h3⟩
theorem KT.put {H:Hp}{kvs:List (List Key×V)}{xs:List (List Key×Addr×Value)}(r:KT H kvs xs)(k:List Key){b:Addr}{y:V}{u:Value}(hb:H b=some (.tup (k.map kV)))(ry:RelV y u) :
  KT H (wL kvs k y) (storedH xs k b u):=by
 have e:(kvs.any λ kv=>decide (kv.1=k))=(atKey xs k).isSome:=by
  rw [Q8,(r.val k).isSome_eq,Y3i]
 unfold wL storedH;rw [e];by_cases q:(atKey xs k).isSome=true
 ·rw [if_pos q,if_pos q];exact r.repl k ry
 ·rw [if_neg q,if_neg q];exact Paired.snoc r ⟨rfl,hb,ry⟩
theorem KT.keeps {H H':Hp}{kvs:List (List Key×V)}{xs:List (List Key×Addr×Value)}(r:KT H kvs xs)(ht:∀ b ys,H b=some (.tup ys)->H' b=some (.tup ys)):KT H' kvs xs :=
 Paired.mapP r λ _ _ z=>⟨z.1,ht _ _ z.2.1,z.2.2⟩
section
variable {P:Program}{w:World}{H:Hp}{h:Heap}{a:Addr}
theorem G5 {u:HO}(ok:HOk P w H h)(e:Rd H a u):ObjOk P w H h a u:=e.ok ok
theorem Ub {kvs:List (Key×V)}(ok:HOk P w H h)(e:Rd H a (.dK kvs)):kvs.length<=sizeLine/\(a==sysModules)=false/\∃ vs,KV kvs vs/\h.DictOf (zB P w) a vs :=
 show ObjOk P w H h a (.dK kvs) from G5 ok e
theorem z09 {kvs:List (Key×V)}(ok:HOk P w H h)(e:H a=some (.dK kvs)):kvs.length<=sizeLine/\(a==sysModules)=false/\∃ vs,KV kvs vs/\h.DictOf (zB P w) a vs:=Ub ok (.inl e)
theorem Zp {ks:List Key}(ok:HOk P w H h)(e:H a=some (.tup (ks.map kV))):(tupleKind (zB P w)).is h ks a:=by
 obtain ⟨_,its,r,o,h1,h2,n,h3⟩:=(show ObjOk P w H h a (.tup (ks.map kV)) from ok a _ e);exact ⟨o,its.toArray,n,h1,h2,h3,by simpa using JJ r⟩
theorem Uc {kvs:List (List Key×V)}(ok:HOk P w H h)(e:Rd H a (.dT kvs)):kvs.length<=sizeLine/\(a==sysModules)=false /\
  ∃ xs,KT H kvs xs/\h.DictOfH (tupleKind (zB P w)) a xs:=by
 obtain ⟨z,y,xs,r,o,es,ep,h1,h2,h3,h4,h5⟩:=(show ObjOk P w H h a (.dT kvs) from G5 ok e);refine ⟨z,y,xs,r,o,es,ep,h1,h2,h3,h4,λ x hx=>?_,h5⟩;have all:∀ {l:List (List Key×V)}{m:List (List Key×Addr×Value)},KT H l m->∀ x∈m,(tupleKind (zB P w)).is h x.1 x.2.1:=by
  intro l m q
  induction q with
  | nil=>intro x hx;exact nomatch hx
  | @cons p q ps qs hq t ih =>
   intro x hx;rcases Y06.mp hx with e | hx
   ·subst e;exact Zp ok (by rw [<- hq.1];exact hq.2.1)
   ·exact ih x hx
 exact all r x hx
theorem z45 {kvs:List (List Key×V)}(ok:HOk P w H h)(e:H a=some (.dT kvs)):kvs.length<=sizeLine/\(a==sysModules)=false /\
  ∃ xs,KT H kvs xs/\h.DictOfH (tupleKind (zB P w)) a xs:=Uc ok (.inl e)
end
def DGet (H:Hp)(a:Addr)(y:V)(r:Option V):Prop :=
 (∃ kvs k,Rd H a (.dK kvs)/\y=kV k/\r=yJ kvs k)\/∃ kvs k b,Rd H a (.dT kvs)/\y=.ref b/\H b=some (.tup (k.map kV))/\r=yJ kvs k
def DPut (H:Hp)(a:Addr)(y v:V)(H':Hp):Prop :=
 (∃ kvs k,H a=some (.dK kvs)/\y=kV k/\kvs.length<sizeLine/\H'=upd H a (.dK (wL kvs k v))) \/
 ∃ kvs k b,H a=some (.dT kvs)/\y=.ref b/\H b=some (.tup (k.map kV))/\kvs.length<sizeLine/\H'=upd H a (.dT (wL kvs k v))
theorem DGet.k {H:Hp}{a:Addr}{kvs:List (Key×V)}{k:Key}(e:H a=some (.dK kvs)):DGet H a (kV k) (yJ kvs k):=.inl ⟨kvs,k,.inl e,rfl,rfl⟩
theorem DPut.k {H:Hp}{a:Addr}{kvs:List (Key×V)}{k:Key}{v:V}(e:H a=some (.dK kvs))(hl:kvs.length<sizeLine):DPut H a (kV k) v (upd H a (.dK (wL kvs k v))):=.inl ⟨kvs,k,e,rfl,hl,rfl⟩
section
variable {X:Cx}{pins:List (Addr×Obj)}{σ:St}{H:Hp}{s:Shared}{a:Addr}{y v:V}{u r:Value}{o:Option V}{A:Around}{E:Value->Shared->Prop}
theorem Inv.big (I:Inv X pins σ H s):sysModules<s.heap.objs.size:=by
 have h:mainGlobals<s.heap.objs.size:=(I.mod.glob.keeps I.bk).lt;exact Y22 (by decide) h
theorem UX {Q:Value->Shared->Prop}(hu:A.units+1<cLine)(I:Inv X pins σ H s)(g:DGet H a y (some v))(ry:RelV y u)(h:∀ w' s',Inv X pins σ H s'->RelV v w'->Q w' s') :
  wpAny (model X.prog X.w) A (getItem (.ref a) u) Q E s:=by
 rcases g with ⟨kvs,k,e,ey,l⟩ | ⟨kvs,k,b,e,ey,eb,l⟩
 ·subst ey;obtain ⟨z,hd,vs,rel,dd⟩:=Ub I.hok e;obtain ⟨w',hw,rw'⟩:=RelO.some_of (v:=v) (o:=valueAt vs k) (by rw [l];exact rel.val k);exact wpAny_getItem_of (yq ry) dd.mapOf hw (h w' _ (I.tok _) rw')
 ·subst ey;cases (show u=Value.ref b from ry);obtain ⟨z,hd,xs,rel,dd⟩:=Uc I.hok e;obtain ⟨w',hw,rw'⟩:=RelO.some_of (v:=v) (o:=(atKey xs k).map (·.2)) (by rw [l];exact rel.val k);obtain ⟨p,hp,hp2⟩:=Option.map_eq_some_iff.mp hw;refine wpAny_getItem_heap (tupleKind_room_in1 hu) (Zp I.hok eb) dd hp ?_;rw [hp2];exact h w' _ (I.tok _) rw'
theorem z6a {Q:Value->Shared->Prop}(hu:A.units+1<cLine)(I:Inv X pins σ H s)(g:DGet H a y o)(ry:RelV y u)(h:∀ s',Inv X pins σ H s'->Q (.bool o.isSome) s') :
  wpAny (model X.prog X.w) A (compareOp .In u (.ref a)) Q E s:=by
 rcases g with ⟨kvs,k,e,ey,l⟩ | ⟨kvs,k,b,e,ey,eb,l⟩
 ·subst ey;obtain ⟨z,hd,vs,rel,dd⟩:=Ub I.hok e;refine wpAny_in_of (yq ry) hd dd.mapOf ?_;rw [<- (rel.val k).isSome_eq,<- l];exact h _ (I.tok _)
 ·subst ey;cases (show u=Value.ref b from ry);obtain ⟨z,hd,xs,rel,dd⟩:=Uc I.hok e;refine wpAny_in_heap (tupleKind_room_in1 hu) (Zp I.hok eb) hd dd ?_;have q:=(rel.val k).isSome_eq;rw [Y3i] at q;rw [<- q,<- l];exact h _ (I.tok _)
theorem OR {Q:Value->Shared->Prop}(hu:A.units+1<cLine)(I:Inv X pins σ H s)(g:DGet H a y o)(ry:RelV y u)(h:∀ s',Inv X pins σ H s'->Q (.bool (!o.isSome)) s') :
  wpAny (model X.prog X.w) A (compareOp .NotIn u (.ref a)) Q E s:=by
 rcases g with ⟨kvs,k,e,ey,l⟩ | ⟨kvs,k,b,e,ey,eb,l⟩
 ·subst ey;obtain ⟨z,hd,vs,rel,dd⟩:=Ub I.hok e;refine wpAny_notIn_of (yq ry) hd dd.mapOf ?_;rw [<- (rel.val k).isSome_eq,<- l];exact h _ (I.tok _)
 ·subst ey;cases (show u=Value.ref b from ry);obtain ⟨z,hd,xs,rel,dd⟩:=Uc I.hok e;refine wpAny_notIn_heap (tupleKind_room_in1 hu) (Zp I.hok eb) hd dd ?_;have q:=(rel.val k).isSome_eq;rw [Y3i] at q;rw [<- q,<- l];exact h _ (I.tok _)
theorem Wo {h':Heap}{t':Nat}{ob:HO}(I:Inv X pins σ H s)(mu:Mut (H a))(hs:Heap.SameBut a s.heap h')(he:∃ q,h'.get? a=some q)(new:ObjOk X.prog X.w (upd H a ob) h' a ob) :
  Inv X pins σ (upd H a ob) { s with heap:=h',toks:=t' } :=
 I.write (x:=a) (e:=a) mu (.inl rfl) (λ b q hb z=>(hs.2 b hb).trans z) he new
theorem Y9 {P:Program}{w:World}{H':Hp}{h':Heap}{kvs:List (Key×V)}{vs:List (Key×Value)}(z:kvs.length<=sizeLine)(hd:(a==sysModules)=false)(rel:KV kvs vs)(dd:h'.DictOf (zB P w) a vs) :
  ObjOk P w H' h' a (.dK kvs):=⟨z,hd,vs,rel,dd⟩
theorem UY {H':Hp}{Q:Unit->Shared->Prop}(hu:A.units+1<cLine)(I:Inv X pins σ H s)(g:DPut H a y v H')(ry:RelV y u)(rv:RelV v r)(h:∀ s',Inv X pins σ H' s'->Q () s') :
  wpAny (model X.prog X.w) A (setItem (.ref a) u r) Q E s:=by
 rcases g with ⟨kvs,k,e,ey,l,eH⟩ | ⟨kvs,k,b,e,ey,eb,l,eH⟩
 ·subst ey eH;obtain ⟨z,hd,vs,rel,dd⟩:=z09 I.hok e;have hz:vs.length<=sizeLine:=by rw [<- rel.length];exact z
  have hl:(wL kvs k v).length<=sizeLine:=by have:=qw kvs k v;omega
  refine wpAny_setItem_pairs (hsz:=hz) (yq ry) dd λ h' dd' hs=>h _ ?_;have he:∃ q,h'.get? a=some q:=let ⟨q,_,_,hq,_⟩:=dd';⟨q,hq⟩;exact Wo I (by rw [e];exact True.intro) hs he (Y9 hl hd (rel.put k rv) dd')
 ·subst ey eH;cases (show u=Value.ref b from ry);obtain ⟨z,hd,xs,rel,dd⟩:=z45 I.hok e;have hz:xs.length<=sizeLine:=by rw [<- Paired.length rel];exact z
  have hl:(wL kvs k v).length<=sizeLine:=by have:=qw kvs k v;omega
  refine wpAny_setItem_heap (hsz:=hz) (tupleKind_room_in1 hu) (Zp I.hok eb) dd λ h' dd' hs=>h _ ?_;obtain ⟨q,es,ep,hq,h2,h3,h4,_,h5⟩:=dd';refine Wo I (by rw [e];exact True.intro) hs ⟨q,hq⟩ ⟨hl,hd,_,(rel.put k eb rv).keeps λ c ys ec=>?_,q,es,ep,hq,h2,h3,h4,h5⟩;rw [zo (z3i ec e (λ z=>nomatch z))];exact ec
end
theorem Q9 {P:Program}{w:World}{H:Hp}(h:Heap)(hb:sysModules<h.objs.size):ObjOk P w H (h.push { cls:=.type "dict",data:=.dict #[] }) h.objs.size (.dK []) :=
 ⟨Y1d _,beq_eq_false_iff_ne.mpr (Ne.symm (Y0g hb)),[],.nil,Heap.DictOf.new h⟩
def z2d:TE:=λ _ H Q=>∀ p,H p=none->Q (.ref p) (upd H p (.dK []))
section
variable {X:Cx}{pos:Pos}
theorem G6:PE X (.Dict [] [] pos) z2d:=λ pins s σ H Q I h =>
 wpAny_Dict_empty ⟨.ref s.heap.objs.size,_,I.laid (a:=s.heap.objs.size) (o:=.dK []) (t':=s.toks) (λ _ _ q=>Y01 _ q) (Y04 _) (Q9 s.heap I.big),rfl,h _ (I.hok.fresh (Y04 _))⟩
end
def Wp:List (TE×TE)->St->Hp->(List (V×V)->Hp->Prop)->Prop
 | [],_,H,Q=>Q [] H
 | (tk,tv)::r,σ,H,Q=>tk σ H λ x H1=>tv σ H1 λ y H2=>Wp r σ H2 λ ps H3=>Q ((x,y)::ps) H3
abbrev VV:List (V×V)->List (Value×Value)->Prop:=Paired λ p q=>RelV p.1 q.1/\RelV p.2 q.2
def PPs (X:Cx)(pos:Pos)(keys:List (Option Expr))(values:List Expr)(trs:List (TE×TE)):Prop :=
 ∀ (pins:List (Addr×Obj)) (s:Shared) (σ:St) (H:Hp) (Q:List (V×V)->Hp->Prop),Inv X pins σ H s->Wp trs σ H Q ->
  wpAny (model X.prog X.w) X.A (evalPairs (pairTrees keys values X.env pos)) (λ vs s'=>∃ ps H',Inv X pins σ H' s'/\VV ps vs/\Q ps H') X.xe s
theorem OS {X:Cx}{pos:Pos}:PPs X pos [] [] []:=λ pins s σ H Q I h=>pairTrees_nil_walk ⟨[],H,I,.nil,h⟩
theorem G7 {X:Cx}{pos:Pos}{k v:Expr}{ks:List (Option Expr)}{vs:List Expr}{tk tv:TE}{trs:List (TE×TE)}(hk:PE X k tk)(hv:PE X v tv)(hr:PPs X pos ks vs trs) :
  PPs X pos (some k::ks) (v::vs) ((tk,tv)::trs):=λ pins s σ H Q I h =>
 pairTrees_cons_walk (thn (hk pins s σ H _ I h) λ u s1 ⟨x,H1,I1,rx,q1⟩=>thn (hv pins s1 σ H1 _ I1 q1) λ w2 s2 ⟨y,H2,I2,ry,q2⟩ =>
  thn (hr pins s2 σ H2 _ I2 q2) λ ws s3 ⟨ps,H3,I3,rel,q3⟩=>⟨(x,y)::ps,H3,I3,.cons ⟨rx,ry⟩ rel,q3⟩)
def we (kvs more:List (Key×V)):List (Key×V):=more.foldl (λ acc kv=>wL acc kv.1 kv.2) kvs
theorem KV.merge:∀ {more:List (Key×V)}{rs:List (Key×Value)}{kvs:List (Key×V)}{vs:List (Key×Value)},KV more rs->KV kvs vs->KV (we kvs more) (merged vs rs):=by
 intro more rs kvs vs r;unfold KV at r
 induction r generalizing kvs vs with
 | nil=>intro q;exact q
 | @cons p q ps qs h t ih =>
  intro r0;have e:KV (wL kvs p.1 p.2) (stored vs q.1 q.2):=by
   have:=r0.put p.1 h.2
   rw [<- h.1];exact this
  exact ih e
theorem wf:∀ (more kvs:List (Key×V)),(we kvs more).length<=kvs.length+more.length
 | [],kvs=>by show kvs.length<=kvs.length+0;omega
 | p::r,kvs=>by
  have h1:=wf r (wL kvs p.1 p.2);have h2:=qw kvs p.1 p.2;show (we (wL kvs p.1 p.2) r).length<=_;rw [Y09];omega
theorem Zq {P:Program}{w:World}:∀ {kvs:List (Key×V)}{ws:List (Value×Value)},VV (kvs.map λ kv=>(kV kv.1,kv.2)) ws->∃ rs,Carries (zB P w) ws rs/\KV kvs rs
 | [],_,r=>by rw [Y2e] at r;cases r;exact ⟨[],True.intro,.nil⟩
 | p::kvs,_,r=>by
  rw [Y0i] at r;cases r with
  | @cons a b as bs h t =>
   obtain ⟨rs,c,q⟩:=Zq (P:=P) (w:=w) t;obtain ⟨b1,b2⟩:=b;exact ⟨(p.1,b2)::rs,⟨yq h.1,rfl,c⟩,.cons ⟨rfl,h.2⟩ q⟩
def z46 (trs:List (TE×TE)):TE:=λ σ H Q=>∀ p,H p=none->Wp trs σ (upd H p (.dK [])) λ ps H2=>H2 p=some (.dK [])/\∃ kvs:List (Key×V),ps=kvs.map (λ kv=>(kV kv.1,kv.2))/\kvs.length<=15/\Q (.ref p) (upd H2 p (.dK (we [] kvs)))
theorem OT {X:Cx}{pos:Pos}{keys:List (Option Expr)}{values:List Expr}{trs:List (TE×TE)}(h:PPs X pos keys values trs)(hall:keys.all (·.isSome)=true)(hl:keys.length=values.length)(h0:keys≠[])
  (h15:keys.length<=15):PE X (.Dict keys values pos) (z46 trs):=by
 intro pins s σ H Q I q;have hn:=I.hok.fresh (Y04 s.heap.objs.size);have I1:=I.laid (a:=s.heap.objs.size) (o:=.dK []) (h':=s.heap.push { cls:=.type "dict",data:=.dict #[] }) (t':=s.toks) (λ _ _ q=>Y01 _ q) (Y04 _) (Q9 s.heap I.big);refine wpAny_Dict_walk (knd:=zB X.prog X.w) hall hl h0 h15 (thn (h pins _ σ _ _ I1 (q _ hn)) λ ws s2 ⟨ps,H2,I2,rel,e,kvs,ep,lk,q2⟩=>?_);subst ep;obtain ⟨rs,c,rk⟩:=Zq (P:=X.prog) (w:=X.w) rel;obtain ⟨z,hd,vs0,r0,dd⟩:=z09 I2.hok e;cases r0;refine ⟨rs,c,dd,λ h' dd' hs=>⟨.ref s.heap.objs.size,_,?_,rfl,q2⟩⟩;have hz:(we [] kvs).length<=sizeLine:=by
  have h1:=wf kvs [];rw [Y1t] at h1;rw [sizeLine_eq];omega
 have he:∃ q,h'.get? s.heap.objs.size=some q:=let ⟨q,_,_,hq,_⟩:=dd';⟨q,hq⟩;exact Wo I2 (by rw [e];exact True.intro) hs he (Y9 hz hd (rk.merge .nil) dd')
structure M1 (X:Cx)(o:Expr)(m:Str)(apos:Pos)(e:Expr)(cpos:Pos):Prop where
 base:attributeBase o m X.env (eval o X.env)=eval o X.env
 few:((backTo cpos (starEach [e] X.env)).all (λ x=>!x.1)&&(backToKw cpos (keywordEach [] X.env)).all (λ x=>x.1.isSome)
  && decide (([e]:List Expr).length+([]:List Keyword).length+(if ([]:List Keyword).isEmpty then 0 else 1)<30))=true
 line:(apos.endLine==cpos.line)=true
 trees:backTo cpos (starEach [e] X.env)=[(false,eval e X.env)]
structure M2 (X:Cx)(o:Expr)(m:Str)(apos:Pos)(e f:Expr)(cpos:Pos):Prop where
 base:attributeBase o m X.env (eval o X.env)=eval o X.env
 few:((backTo cpos (starEach [e,f] X.env)).all (λ x=>!x.1)&&(backToKw cpos (keywordEach [] X.env)).all (λ x=>x.1.isSome)
  && decide (([e,f]:List Expr).length+([]:List Keyword).length+(if ([]:List Keyword).isEmpty then 0 else 1)<30))=true
 line:(apos.endLine==cpos.line)=true
 trees:backTo cpos (starEach [e,f] X.env)=[(false,eval e X.env),(false,eval f X.env)]
end L2
namespace L2
open PySem PyProof.Rows
open Sem (wp)
end L2
namespace L2
open PySem PySem.Spec PyProof.Rows
def Fl (h:Heap)(a:Addr)(C:Value)(T:Option Addr):Prop :=
 ∃ oe vs a0,h.get? a=some oe/\oe.cls=C/\oe.data=.fields vs/\vs[0]?=some a0/\1<vs.size /\
  (match T with
  | none=>vs[1]?=some Value.none
  | some t=>vs[1]?=some (Value.ref t)/\t≠a/\∃ oT ts,h.get? t=some oT/\oT.data=.fields ts/\3<ts.size)
theorem Ji {e1 e2:Env}(h:e1.frame=e2.frame):PySem.frameOf e1=PySem.frameOf e2:=by
 unfold PySem.frameOf;rw [h]
theorem Z5 {e:Value}{e1 e2:Env}(h:e1.frame=e2.frame):noteFrame e e1=noteFrame e e2:=by
 unfold noteFrame;rw [h,Ji h]
structure Wr (l fs:List Addr)(h h':Heap):Prop where
 keep:∀ b o,b∉l->b∉fs->h.get? b=some o->h'.get? b=some o
 slot:∀ b o,b∉l->b∈fs->h.get? b=some o->∃ sl,h'.get? b=some { o with slots:=sl }
theorem Wr.any {l fs:List Addr}{h h':Heap}(W:Wr l fs h h'){b:Addr}{o:Obj}(hb:b∉l)(e:h.get? b=some o):∃ sl,h'.get? b=some { o with slots:=sl }:=by
 by_cases hf:b∈fs
 ·exact W.slot b o hb hf e
 ·exact ⟨o.slots,W.keep b o hb hf e⟩
theorem ObjOk.there {P:Program}{w:World}{H:Hp}{h:Heap}{a:Addr}{o:HO}(x:ObjOk P w H h a o):∃ ob,h.get? a=some ob:=by
 cases o with
 | lst xs=>obtain ⟨_,_,_,_,e⟩:=x;exact ⟨_,e⟩
 | tup xs=>obtain ⟨_,_,_,ob,e,_⟩:=x;exact ⟨_,e⟩
 | dK kvs=>obtain ⟨_,_,_,_,o,_,_,e,_⟩:=x;exact ⟨_,e⟩
 | dT kvs=>obtain ⟨_,_,_,_,o,_,_,e,_⟩:=x;exact ⟨_,e⟩
 | set S n=>obtain ⟨o,_,_,_,e,_⟩:=x;exact ⟨_,e⟩
 | ins C dx fs=>obtain ⟨_,_,_,e,_⟩:=x;exact ⟨_,e⟩
 | own y=>obtain ⟨_,e⟩:=x;exact ⟨_,e⟩
 | xd fs=>obtain ⟨_,⟨_,_,_,e,_⟩,_⟩:=x;exact ⟨_,e⟩
 | rng lo hi=>obtain ⟨_,_,_,e⟩:=x;exact ⟨_,e⟩
 | frz ob u=>obtain ⟨e,_⟩:=x;exact ⟨_,e⟩
 | tbl ps=>exact ⟨_,(show h.get? a=some _ from x)⟩
 | met f y=>exact ⟨_,(show h.get? a=some _ from x)⟩
 | ext φ=>obtain ⟨_,⟨_,e⟩,_⟩:=x;exact ⟨_,e⟩
section
variable {M:Model}{A:Around}{E:Value->Shared->Prop}{s:Shared}{base:Heap}{env top:Env}{outer:List Env}{L a:Addr}{C:Value}{T:Option Addr}
theorem G8 {Q:Unit->Shared->Prop}(hfr:A.frames=some (top::outer))(ht:top.frame=some L)(hf:env.frame=some L)(hl:s.heap.FunFrames base (top::outer))(fl:Fl s.heap a C T)
    (h:∀ h' T',Wr (a::T.toList) (frs (top::outer)) s.heap h'->Fl h' a C (some T')->(T=some T'\/s.heap.get? T'=none)->Q () { s with heap:=h' }) :
    wpAny M A (noteFrame (.ref a) env) Q E s:=by
  rw [Z5 (e1:=env) (e2:=top) (hf.trans ht.symm)];have fl0:=fl;obtain ⟨oe,vs,a0,he,hc,hd,h0,hsz,hT⟩:=fl;subst hc;generalize hB:PySem.W.hideAll s.heap (a::(T.toList++frs (top::outer)))=B;have hkb:B.StaysIn s.heap:=λ b o e=>by rw [<- hB] at e;exact PySem.W.of_hideAll _ e
  have hen:B.get? a=none:=by rw [<- hB];exact Y38 _ (Y03 ..)
  have hl':s.heap.FunFrames B (top::outer):=by
    rw [<- hB];refine PySem.W.funFrames_hide hl λ env' he' b hb=>?_;exact Y02 _ (Y0m _ (Y3f.mpr ⟨env',he',hb⟩))
  have nf:∀ b,b∈frs (top::outer)->∀ o,s.heap.get? b=some o->∀ vs,o.data≠.fields vs:=λ b hb o e=>by
    obtain ⟨_,o',ho',hnf⟩:=hl.mem hb;rw [e] at ho';cases ho';exact hnf
  have unhid:∀ b o,b∉a::T.toList->b∉frs (top::outer)->s.heap.get? b=some o->B.get? b=some o:=λ b o hb hfb e=>by
    rw [<- hB];refine PySem.W.hideAll_get _ e λ z=>?_;rcases Y06.mp z with z | z
    · exact hb (z▸Y03 ..)
    · rcases Y19.mp z with z | z
      · exact hb (Y02 _ z)
      · exact hfb z
  have fin:∀ h',Heap.NotedW B (top::outer) a oe.cls a0 (rawInt L) s.heap h'->Q () { s with heap:=h' }:=λ h' hN=>by
    obtain ⟨n1,n2,⟨oe',vs',T',oT',ts',g1,⟨g2,g3⟩,g4,g5,g6,g7,g8,g9,g10⟩,n4⟩:=hN;have slot:∀ b o,b∈frs (top::outer)->s.heap.get? b=some o->∃ sl,h'.get? b=some { o with slots:=sl }:=λ b o hb e=>n4 b o e (nf b hb o e);refine h h' T' ⟨λ b o hb hfb e=>n1 b o (unhid b o hb hfb e),λ b o _ hb e=>slot b o hb e⟩ ⟨oe',vs',a0,g1,g2,g4,g3,(Array.getElem?_eq_some_iff.mp g5).1,g5,g7,oT',ts',g8,g9,(Array.getElem?_eq_some_iff.mp g10).1⟩ ?_;by_cases q1:T'∈a::T.toList
    · rcases Y06.mp q1 with z | z
      · exact absurd z g7
      · left;cases T with
        | none=>simp at z
        | some t => have z' : T' = t := by simpa using z
                    rw [z']
    · right;cases e:s.heap.get? T' with
      | none=>rfl
      | some o =>
        exfalso
        by_cases q2:T'∈frs (top::outer)
        · obtain ⟨sl,q⟩:=slot T' o q2 e;rw [g8] at q;have q':oT'={ o with slots:=sl }:=Option.some.inj q;rw [q'] at g9;exact nf T' q2 o e _ g9
        · have:=unhid T' o q1 q2 e
          rw [g6] at this;cases this
  cases T with
  | none =>
    unfold noteFrame;simp only [ht];refine wpAny_bind (wpAny_field he hd hT ?_);rw [if_neg (by decide)];exact wpAny_entryW hfr hl' ht he hkb hen hd hsz h0 fin
  | some t =>
    obtain ⟨h1,hta,oT,ts,hoT,hdT,hs3⟩:=hT;obtain ⟨fl3,h3⟩:∃ v,ts[3]?=some v:=⟨ts[3],by simp [hs3]⟩;have hnT:B.get? t=none:=by rw [<- hB];exact Y38 _ (by simp)
    unfold noteFrame;simp only [ht];refine wpAny_bind (wpAny_field he hd h1 ?_);rw [if_pos (show (Value.ref t != Value.none)=true from by simp)];refine wpAny_bind (wpAny_field hoT hdT h3 ?_);by_cases hfl:(fl3==rawInt L)=true
    · rw [if_pos hfl];exact wpAny_pure (h s.heap t ⟨λ b o _ _ e=>e,λ b o _ _ e=>⟨o.slots,e⟩⟩ fl0 (.inl rfl))
    · rw [if_neg hfl];refine wpAny_bind (wpAny_setField hoT hdT hs3 ?_);have other:∀ b,b≠t->(s.heap.update t (Obj.mapFields (·.setIfInBounds 3 Value.none))).get? b=s.heap.get? b:=λ b hb=>Y16 _ _ (Ne.symm hb);have noRecord:∀ b o,s.heap.get? b=some o->(∀ vs,o.data≠.fields vs)->b≠t:=λ b o hb hnf q=>by
        rw [q,hoT] at hb;injection hb with hb;subst hb;exact hnf ts hdT
      refine wpAny_entryW hfr (hl'.of_keeps λ b o hb hnf=>⟨o,(other b (noRecord b o hb hnf)).trans hb,rfl⟩) ht ((other a (Ne.symm hta)).trans he)
        (λ b o hbo=>(other b λ q=>by rw [q,hnT] at hbo;cases hbo).trans (hkb b o hbo)) hen hd hsz h0 ?_
      rintro h' ⟨x1,x2,x3,x4⟩
      exact fin h' ⟨x1,x2,x3,λ b o hb hnf=>x4 b o ((other b (noRecord b o hb hnf)).trans hb) hnf⟩
theorem Ya {t:Addr}{f:Option Addr}{Q:Unit->Shared->Prop}(fl:Fl s.heap a C (some t))
  (h:∀ h',Heap.SameBut t s.heap h'->Fl h' a C (some t)->Q () { s with heap:=h' }):wpAny M A (setFlight (.ref a) f) Q E s:=by
 obtain ⟨oe,vs,a0,he,hc,hd,h0,hsz,h1,hta,oT,ts,hoT,hdT,hs3⟩:=fl;unfold setFlight;refine wpAny_bind (wpAny_field he hd h1 ?_);rw [if_pos (show (Value.ref t != Value.none)=true from by simp)];refine wpAny_setField hoT hdT hs3 (h _ (Heap.SameBut.update ..) ?_);have hdT':=Obj.data_mapFields hdT (·.setIfInBounds 3 (f.elim Value.none λ f=>rawInt f));refine ⟨oe,vs,a0,(Y16 _ _ hta).trans he,hc,hd,h0,hsz,h1,hta,_,_,Y12 _ hoT (Obj.isFreed_of_fields hdT'),hdT',?_⟩;simpa using hs3
theorem Zr {t:Addr}{Q:Value->Shared->Prop}(fl:Fl s.heap a C (some t))(h:Q (.ref t) s):wpAny M A (field (.ref a) 1) Q E s:=by
 obtain ⟨oe,vs,a0,he,hc,hd,h0,hsz,h1,_⟩:=fl;exact wpAny_field he hd h1 h
end
theorem Fl.at {h h':Heap}{a:Addr}{C:Value}{T:Option Addr}(fl:Fl h a C T)(k:∀ b∈a::T.toList,∀ o,h.get? b=some o->h'.get? b=some o):Fl h' a C T:=by
 obtain ⟨oe,vs,a0,he,hc,hd,h0,hsz,hT⟩:=fl;refine ⟨oe,vs,a0,k a (by simp) _ he,hc,hd,h0,hsz,?_⟩;cases T with
 | none=>exact hT
 | some t =>
  obtain ⟨h1,hta,oT,ts,hoT,r⟩:=hT;exact ⟨h1,hta,oT,ts,k t (by simp) _ hoT,r⟩
theorem Fl.rec {h:Heap}{a:Addr}{C:Value}{T:Option Addr}(fl:Fl h a C T):∀ b∈a::T.toList,∃ o vs,h.get? b=some o/\o.data=.fields vs:=by
 obtain ⟨oe,vs,a0,he,hc,hd,h0,hsz,hT⟩:=fl;intro b hb;rcases Y06.mp hb with rfl | hb
 ·exact ⟨oe,vs,he,hd⟩
 ·cases T with
  | none=>simp at hb
  | some t =>
   have e:b=t:=by simpa using hb
   subst e;obtain ⟨h1,hta,oT,ts,hoT,hdT,_⟩:=hT;exact ⟨oT,ts,hoT,hdT⟩
def Ow (X:Cx)(pins:List (Addr×Obj))(H:Hp)(b:Addr):Prop:=H b=none/\X.s₀.heap.get? b=none/\b∉X.ex/\∀ p∈X.pn++pins,p.1≠b
structure XOk (X:Cx):Prop where
 top:∃ top outer L,X.stack=top::outer/\top.frame=some L/\X.env.frame=some L
 ex:∀ b∈X.ex,∃ o,(b,o)∈X.pn
structure Fly (X:Cx)(pins:List (Addr×Obj))(H:Hp)(h:Heap)(a:Addr)(C:Value)(T:Option Addr):Prop where
 fl:Fl h a C T
 ow:∀ b∈a::T.toList,Ow X pins H b
section
variable {X:Cx}{pins:List (Addr×Obj)}{σ:List (Option V)}{H H':Hp}{s:Shared}{h':Heap}
theorem Inv.ow (ok:XOk X)(I:Inv X pins σ H s)(hH:H'=H\/True){b:Addr}(n:s.heap.get? b=none)(hn:H' b=none):Ow X pins H' b:=by
 have nx:b∉X.ex:=λ z=>by
  obtain ⟨o,ho⟩:=ok.ex b z
  have:=(I.pin (b,o) (Y0z _ ho)).1
  rw [n] at this;cases this
 refine ⟨hn,?_,nx,λ p hp e=>?_⟩
 ·cases q:X.s₀.heap.get? b with
  | none=>rfl
  | some o =>
   obtain ⟨o',e⟩:=I.base.there b o q nx;rw [n] at e;cases e
 ·have:=(I.pin p hp).1
  rw [e,n] at this;cases this
theorem Inv.untracked (I:Inv X pins σ H s){b:Addr}(n:s.heap.get? b=none):H b=none:=by
 cases q:H b with
 | none=>rfl
 | some o =>
  obtain ⟨ob,e⟩:=(I.hok b o q).there;rw [n] at e;cases e
theorem Inv.wrote {l:List Addr}(I:Inv X pins σ H s)(W:Wr l (frs X.stack) s.heap h')(ow:∀ b∈l,Ow X pins H b)(rec:∀ b∈l,∃ o vs,s.heap.get? b=some o/\o.data=.fields vs) :
  Inv X pins σ H { s with heap:=h' }:=by
 have lL:X.env.locals∉l:=λ z=>by
  obtain ⟨o,vs,e,d⟩:=rec _ z;obtain ⟨m,⟨o',es,ep,ho',hd',_⟩,_⟩:=I.loc;rw [e] at ho';cases ho';rw [d] at hd';cases hd'
 have cL:∀ x c,X.env.cells.lookup x=some c->c∉l:=λ x c e z=>by
  obtain ⟨o,vs,e1,d⟩:=rec _ z;obtain ⟨v,o',ho',hd'⟩:=I.cell x c e;rw [e1] at ho';cases ho';rw [d] at hd';cases hd'
 have sL:∀ b o,X.s₀.heap.get? b=some o->b∉l:=λ b o e z=>by rw [(ow b z).2.1] at e;cases e
 have tL:∀ b o,H b=some o->b∉l:=λ b o e z=>by rw [(ow b z).1] at e;cases e
 have nL:∀ m,s.heap.Ns X.env.locals m->h'.Ns X.env.locals m:=λ m hm=>by
  obtain ⟨o,es,ep,ho,hd,r⟩:=hm;obtain ⟨sl,q⟩:=W.any lL ho;exact ⟨_,es,ep,q,hd,r⟩
 have cell:∀ x c,X.env.cells.lookup x=some c->∀ v,s.heap.IsCell c v->h'.IsCell c v:=λ x c e v ⟨o,ho,hd⟩=>by
  obtain ⟨sl,q⟩:=W.any (cL x c e) ho;exact ⟨_,q,hd⟩
 have fs0:∀ b,b≠X.env.locals->b∉X.fs->b∉frs X.stack:=λ b h1 h2 z=>(Y06.mp (I.stkSub b z)).elim h1 h2;have old:∀ b o,X.s₀.heap.get? b=some o->b≠X.env.locals:=λ b o e=>Y0g (Y07 (Y05 e) I.ok.above);refine ⟨I.ok,I.os,I.bare,⟨λ b o e n hb hx=>?_,λ b o e n hb hx=>?_,I.base.free,λ b o e hx=>?_,I.base.tups,I.base.frzs,I.base.tbls⟩,?_,λ x c e=>?_,I.free,I.freeC,λ p hp=>?_,λ b u e=>?_,I.len⟩
 ·exact W.keep b o (sL b o e) (fs0 b (old b o e) hb) (I.base.keep b o e n hb hx)
 ·obtain ⟨sl,e1⟩:=I.base.slot b o e n hb hx;obtain ⟨sl',e2⟩:=W.any (sL b o e) e1;exact ⟨sl',e2⟩
 ·obtain ⟨o',e1⟩:=I.base.there b o e hx;obtain ⟨sl,e2⟩:=W.any (sL b o e) e1;exact ⟨_,e2⟩
 ·obtain ⟨m,hn,hl⟩:=I.loc;refine ⟨m,nL m hn,λ i x v e1 e2 e3=>?_⟩;obtain ⟨u,r,q⟩:=hl i x v e1 e2 e3;refine ⟨u,r,?_⟩;rcases q with q | ⟨k,c,e,z⟩
  ·exact .inl q
  ·exact .inr ⟨k,c,e,cell x c e _ z⟩
 ·obtain ⟨v,z⟩:=I.cell x c e;exact ⟨v,cell x c e v z⟩
 ·obtain ⟨e,n,ne,nf,d⟩:=I.pin p hp;exact ⟨W.keep p.1 p.2 (λ z=>(ow p.1 z).2.2.2 p hp rfl) (fs0 p.1 ne nf) e,n,ne,nf,d⟩
 ·refine (I.hok b u e).stay (λ c v hc q=>?_) (λ _ q=>q) λ _ _ q=>q;have hc':∃ u,H c=some u:=hc.elim (λ z=>⟨u,z▸e⟩) λ z=>⟨_,z⟩;obtain ⟨u',e'⟩:=hc';exact W.keep c v (tL c u' e') (λ z=>by rw [I.stkFree c z] at e';cases e') q
variable {M:Model}{A:Around}{E:Value->Shared->Prop}{a:Addr}{C:Value}{T:Option Addr}{env:Env}
theorem Inv.note {Q:Unit->Shared->Prop}(ok:XOk X)(I:Inv X pins σ H s)(F:Fly X pins H s.heap a C T)(hfr:A.frames=some X.stack)(hen:env.frame=X.env.frame)
  (h:∀ h' T',Inv X pins σ H { s with heap:=h' }->Fly X pins H h' a C (some T')->Q () { s with heap:=h' }):wpAny M A (noteFrame (.ref a) env) Q E s:=by
 obtain ⟨top,outer,L,e1,e2,e3⟩:=ok.top;have hst:=I.stack;rw [e1] at hfr hst;refine G8 hfr e2 (hen.trans e3) hst F.fl λ h' T' W fl' new=>?_;rw [<- e1] at W;refine h h' T' (I.wrote W F.ow F.fl.rec) ⟨fl',λ b hb=>?_⟩;rcases Y06.mp hb with rfl | hb
 ·exact F.ow _ (Y03 ..)
 ·have e:b=T':=by simpa using hb
  subst e;rcases new with q | q
  ·exact F.ow _ (by rw [q];simp)
  ·exact I.ow ok (.inr trivial) q (I.untracked q)
theorem Inv.flight {t:Addr}{f:Option Addr}{Q:Unit->Shared->Prop}(I:Inv X pins σ H s)(F:Fly X pins H s.heap a C (some t))
  (h:∀ h',Inv X pins σ H { s with heap:=h' }->Fly X pins H h' a C (some t)->Q () { s with heap:=h' }):wpAny M A (setFlight (.ref a) f) Q E s:=by
 refine Ya F.fl λ h' sb fl'=>h h' (I.wrote (l:=[a,t]) ⟨λ b o hb _ e=>(sb.2 b λ z=>hb (by simp [z])).trans e,λ b o hb _ e=>⟨o.slots,(sb.2 b λ z=>hb (by simp [z])).trans e⟩⟩ (λ b hb=>F.ow b (by simpa using hb)) λ b hb=>F.fl.rec b (by simpa using hb)) ⟨fl',F.ow⟩
theorem Inv.passOn {α:Type}{t:Addr}{what:String}{Q:α->Shared->Prop}(I:Inv X pins σ H s)(F:Fly X pins H s.heap a C (some t))
  (h:∀ h',Inv X pins σ H { s with heap:=h' }->Fly X pins H h' a C (some t)->E (.ref a) { s with heap:=h' }):wpAny M A (passOn what (.ref a) env:Sem α) Q E s:=by
 unfold PySem.passOn;refine wpAny_bind (Zr F.fl ?_);rw [if_neg (show ¬ ((Value.ref t==Value.none)=true) from by simp)];exact wpAny_bind (I.flight F λ h' I' F'=>wpAny_throw (h h' I' F'))
theorem Inv.cameBack {t:Addr}(I:Inv X pins σ H s)(F:Fly X pins H s.heap a C (some t))
  (h:∀ h',Inv X pins σ H { s with heap:=h' }->Fly X pins H h' a C (some t)->E (.ref a) { s with heap:=h' }):cameBackBy M A env E (.ref a) s:=by
 unfold cameBackBy;refine wpAny_bind (Zr F.fl ?_);rw [if_neg (show ¬ ((Value.ref t==Value.none)=true) from by simp)];exact I.flight F λ h' I' F'=>h h' I' F'
end
abbrev ZK:=St->Value->Hp->Prop
def XE (X:Cx)(Z:ZK)(e:Value)(s':Shared):Prop:=∃ a C T σ' H',e=.ref a/\Inv X [] σ' H' s'/\Fly X [] H' s'.heap a C T/\Z σ' C H'
structure Thr (X:Cx)(Z:ZK):Prop extends XOk X where
 thr:∀ e s',XE X Z e s'->X.xe e s'
def CXs (P:Program)(w:World):CXT:=λ outer H s E e s'=>∃ a C t H',e=.ref a/\s'.os=s.os/\AllBare s'.gens/\Un (frs outer) [] H H' s.heap s'.heap/\HOk P w H' s'.heap /\
 Fl s'.heap a C (some t)/\(∀ b∈[a,t],H' b=none/\s.heap.get? b=none)/\E C none H'
theorem OU {P:Program}{w:World}{K:Y00}{mg:Str->Option Value}{base:Heap}{N:List Str}{qual:Str}{scope:Scope}{f:Addr}{cd:Value}{A:Around}{outer:List Env}{s:Shared}{H:Hp}{E:XK} :
  Thr (Wh (CXs P w) P w K mg base N qual scope f cd A outer s H E) (λ _ C H'=>E C none H') where
 top:=⟨_,_,_,rfl,rfl,rfl⟩
 ex:=λ b hb=>absurd (show b∈([]:List Addr) from hb) (by simp)
 thr:=by
  rintro e s' ⟨a,C,T,σ',H',rfl,I,F,z⟩
  have ok:XOk (Wh (CXs P w) P w K mg base N qual scope f cd A outer s H E):=⟨⟨_,_,_,rfl,rfl,rfl⟩,λ b hb=>absurd (show b∈([]:List Addr) from hb) (by simp)⟩;show wpAny (model P w) (A.deeper (envOfC qual scope s.heap.objs.size f cd)) (leaving (envOfC qual scope s.heap.objs.size f cd) (.ref a)) _ _ s';unfold leaving;refine wpAny_bind (I.note ok F I.ok.frames rfl λ h1 t I1 F1=>?_);refine I1.flight F1 λ h2 I2 F2=>?_;exact ⟨a,C,t,H',rfl,I2.os,I2.bare,I2.base,I2.hok,F2.fl,λ b hb=>⟨(F2.ow b (by simpa using hb)).1,(F2.ow b (by simpa using hb)).2.1⟩,z⟩
section
variable {X:Cx}{pins:List (Addr×Obj)}{σ:St}{H:Hp}{s s':Shared}
theorem Inv.thrown {E:XK}{e:Value}(ok:XOk X)(I:Inv X pins σ H s)(h:CXs X.prog X.w X.stack H s E e s'):∃ a C t H',e=.ref a/\Inv X pins σ H' s'/\Fly X pins H' s'.heap a C (some t)/\E C none H':=by
 obtain ⟨a,C,t,H',rfl,ho,hg,u,hok,fl,ow,q⟩:=h;have I':Inv X pins σ H' s':=I.call' (ch:=[]) ho u hok hg λ b hb=>absurd hb (by simp);refine ⟨a,C,t,H',rfl,I',⟨fl,λ b hb=>?_⟩,q⟩;obtain ⟨o1,o2⟩:=ow b (by simpa using hb);exact I.ow ok (.inr trivial) o2 o1
theorem Inv.nopins (I:Inv X pins σ H s):Inv X [] σ H s:=I.pins_of λ p hp=>absurd hp (by simp)
theorem Fly.nopins {h:Heap}{a:Addr}{C:Value}{T:Option Addr}(F:Fly X pins H h a C T):Fly X [] H h a C T :=
 ⟨F.fl,λ b hb=>⟨(F.ow b hb).1,(F.ow b hb).2.1,(F.ow b hb).2.2.1,λ p hp=>(F.ow b hb).2.2.2 p (by simp at hp;exact Y0z _ hp)⟩⟩
theorem Thr.go {Z:ZK}(th:Thr X Z){a:Addr}{C:Value}{T:Option Addr}(I:Inv X pins σ H s)(F:Fly X pins H s.heap a C T)(z:Z σ C H):X.xe (.ref a) s :=
 th.thr _ _ ⟨a,C,T,σ,H,rfl,I.nopins,F.nopins,z⟩
end
def G9 (sp:Sp)(dvs:List V)(Z:ZK)(t:TA):TE:=λ σ H Q=>t σ H λ vs H1=>sp (vs++dvs) H1 Q (λ C _ H'=>Z σ C H')
section
variable {X:Cx}{k:Nat}{f C:Addr}{fd:FuncData}{ps:List Str}{sp:Sp}{dvs:List V}{ds:List Value}{Z:ZK}{x m:Str}{p pos apos:Pos}{e o:Expr}{es:List Expr}{ta:TE}{t:TA}
theorem Ud {pins:List (Addr×Obj)}{σ:St}{H:Hp}{s:Shared}{Q:VK}{us:List Value}{vs:List V}(F:FnOk X.prog X.w X.K X.mg X.base (CXs X.prog X.w) k f fd ps sp)(hr:Room k X.A)(hb:Binds X.K fd ps ds)(hd:Vals dvs ds)(th:Thr X Z)
  (I:Inv X pins σ H s) (r:Vals vs us) (h:sp (vs++dvs) H Q (λ C _ H'=>Z σ C H')):wpAny (model X.prog X.w) X.A (call (.ref f) us) (EP X pins σ Q) X.xe s:=by
 have r2:Vals (vs++dvs) (us++ds):=r.append hd;have hl:(us++ds).length=ps.length:=by rw [<- r2.length];exact F.len _ _ _ _ h
 refine wpAny_call (codeAny_mono (F.run X.A X.stack s H ⟨us,[]⟩ (us++ds) (vs++dvs) Q _ hr I.env0 (hb s us I.kIn hl) r2 h) λ r s' hq=>?_);cases r with
 | error e =>
  have hq':CXs X.prog X.w X.stack H s (λ C _ H'=>Z σ C H') e s':=hq;obtain ⟨a,C,t,H',rfl,I',F',z⟩:=I.thrown th.toXOk hq';exact th.go I' F' z
 | ok fl =>
  cases fl with
  | ret u=>exact I.after hq
  | next=>exact False.elim hq
  | brk=>exact False.elim hq
  | cont=>exact False.elim hq
theorem Ga (F:FnOk X.prog X.w X.K X.mg X.base (CXs X.prog X.w) k f fd ps sp)(hr:Room k X.A)(hg:Gl X x)(hm:X.mg x=some (.ref f))(hk:PySem.W.keepIn X.K (.ref f)=true)(hb:Binds X.K fd ps ds)(hd:Vals dvs ds)(th:Thr X Z)
  (ha:PA X (e::es) t) (hdb:(x==("__debug__":Str))=false:=by decide) (he:starEach (e::es) X.env=(false,eval e X.env)::starEach es X.env:=by rfl) (hpl:(backTo pos (starEach es X.env)).any (·.1)=false:=by rfl) :
  PE X (.Call (.Name x p) (e::es) [] pos) (G9 sp dvs Z t):=by
 intro pins s σ H Q I h;refine wpAny_Call_Name_kw (We I hg hm ?_ hdb);refine Y3c (h₀:=X.base) I.ok.mod.kin hk (thn (ha pos pins s σ H _ I h) λ us s1 ⟨vs,H1,I1,r,q⟩=>⟨I1.kIn,?_⟩) he hpl;exact Ud F hr hb hd th I1 r q
end
def Jj (env:Env):List (Str×NameKind)->List (Str×Addr)->List (Str×Addr)
 | [],cs=>cs
 | (n,k)::r,cs=>Jj env r (if k==.free then (n,(env.cells.lookup n).getD 0)::cs else cs)
def Qa (scope:Scope)(env:Env):List (Str×Addr):=Jj env scope.names []
theorem Zs {scope:Scope}{env:Env}(h:∀ y∈scope.names,y.2=.free->∃ c,env.cells.lookup y.1=some c):closureFor scope env=pure (Qa scope env):=by
 unfold closureFor Qa;have go:∀ (l:List (Str×NameKind)) (cs:List (Str×Addr)),(∀ y∈l,y.2=.free->∃ c,env.cells.lookup y.1=some c) ->
   (forIn l cs λ (x:Str×NameKind) (r:List (Str×Addr))=>(match x with
    | (name,kind)=>if (kind==NameKind.free)=true then (do let a <- cellOf env name;pure (ForInStep.yield ((name,a)::r))) else (pure (ForInStep.yield r)):Sem (ForInStep (List (Str×Addr)))))=(pure (Jj env l cs):Sem (List (Str×Addr))):=by
  intro l
  induction l with
  | nil=>intro cs _;rfl
  | cons y r ih =>
   intro cs hl;obtain ⟨n,k⟩:=y;rw [Y24];by_cases hk:(k==NameKind.free)=true
   ·obtain ⟨c,hc⟩:=hl (n,k) (Y03 ..) (by simpa using hk);have e:cellOf env n=pure c:=by unfold cellOf;rw [hc]
    simp only [hk,if_true,e,pure_bind,Jj,hc,Y3j];exact ih _ λ y hy=>hl y (Y02 _ hy)
   ·simp only [hk,if_false,pure_bind,Jj,Y21];exact ih _ λ y hy=>hl y (Y02 _ hy)
 have:=go scope.names [] h
 first
  | (rw [this];rfl)
  | (simp only [bind_pure_comp] at this ⊢;rw [this];rfl)
  | (simp only [bind_pure_comp] at this ⊢;rw [this];simp)
theorem Qb {env:Env}:∀ {l:List (Str×NameKind)}{cs:List (Str×Addr)}{x:Str}{c:Addr},(∀ y∈l,y.2=.free->∃ c,env.cells.lookup y.1=some c)->(x,c)∈Jj env l cs->(x,c)∈cs\/env.cells.lookup x=some c
 | [],_,_,_,_,h=>.inl h
 | (n,k)::r,cs,x,c,hl,h=>by
  rcases Qb (l:=r) (λ y hy=>hl y (Y02 _ hy)) h with h | h
  ·by_cases hk:(k==NameKind.free)=true
   ·rw [if_pos hk] at h;rcases Y06.mp h with e | h
    ·obtain ⟨c',hc⟩:=hl (n,k) (Y03 ..) (by simpa using hk);rw [hc] at e;cases e;exact .inr hc
    ·exact .inl h
   ·rw [if_neg hk] at h;exact .inl h
  ·exact .inr h
theorem JK {env:Env}:∀ {l:List (Str×NameKind)}{cs:List (Str×Addr)}{p:Str×Addr},p∈cs->p∈Jj env l cs
 | [],_,_,h=>h
 | (n,k)::r,cs,p,h=>by
  unfold Jj;refine JK ?_
  split
  ·exact Y02 _ h
  ·exact h
theorem Zt {env:Env}:∀ {l:List (Str×NameKind)}{cs:List (Str×Addr)}{x:Str},(x,NameKind.free)∈l->∃ c,(x,c)∈Jj env l cs
 | (n,k)::r,cs,x,h=>by
  unfold Jj;rcases Y06.mp h with e | h
  ·cases e;exact ⟨(env.cells.lookup n).getD 0,JK (by rw [if_pos (by decide)];exact Y03 ..)⟩
  ·exact Zt h
theorem jg {α β:Type}[BEq α][LawfulBEq α]:∀ {l:List (α×β)}{x:α}{c:β},(x,c)∈l->∃ c',l.lookup x=some c'
 | (n,k)::r,x,c,h=>by
  rw [Y2b];cases e:x==n with
  | true=>exact ⟨k,rfl⟩
  | false =>
   rcases Y06.mp h with q | q
   ·cases q;simp at e
   ·exact jg q
def jr (scope:Scope)(C:Addr)(env:Env):List (Str×Addr):=cellsFrom (C+1) scope.names (Qa scope env)
theorem zN:∀ (l:List (Str×NameKind)) (n:Nat) (acc:List (Str×Addr)),cellsFrom n l acc=cellsFrom n l []++acc
 | [],_,_=>rfl
 | (x,k)::r,n,acc=>by
  unfold cellsFrom;by_cases hk:(k==NameKind.cell)=true
  ·rw [if_pos hk,if_pos hk,zN r (n+1) ((x,n)::acc),zN r (n+1) [(x,n)],Y0l];rfl
  ·rw [if_neg hk,if_neg hk];exact zN r n acc
theorem wg:∀ {l:List (Str×NameKind)}{n:Nat}{x:Str}{c:Addr},(x,c)∈cellsFrom n l []->(x,NameKind.cell)∈l
 | (y,k)::r,n,x,c,h=>by
  unfold cellsFrom at h;by_cases hk:(k==NameKind.cell)=true
  ·rw [if_pos hk,zN] at h;rcases Y19.mp h with h | h
   ·exact Y02 _ (wg h)
   ·have e:x=y:=by simpa using (Y0a.mp h▸rfl:(x,c).1=(y,n).1)
    have e2:k=.cell:=by simpa using hk
    rw [e,e2];exact Y03 ..
  ·rw [if_neg hk] at h;exact Y02 _ (wg h)
theorem Gb {scope:Scope}{C:Addr}{env:Env}{x:Str}{c:Addr}(h:(jr scope C env).lookup x=some c):(cellsFrom (C+1) scope.names []).lookup x=some c\/((cellsFrom (C+1) scope.names []).lookup x=none/\(Qa scope env).lookup x=some c):=by
 unfold jr at h;rw [zN,Y3h] at h;cases e:(cellsFrom (C+1) scope.names []).lookup x with
 | none=>rw [e] at h;exact .inr ⟨rfl,h⟩
 | some c'=>rw [e] at h;exact .inl h
theorem z2e {scope:Scope}{C:Addr}{env:Env}{x:Str}{c:Addr}(h:(cellsFrom (C+1) scope.names []).lookup x=some c):(jr scope C env).lookup x=some c:=by
 unfold jr;rw [zN,Y3h,h];rfl
theorem z2f {scope:Scope}{C:Addr}{env:Env}{x:Str}{c:Addr}(h:(Qa scope env).lookup x=some c)(h0:(cellsFrom (C+1) scope.names []).lookup x=none):(jr scope C env).lookup x=some c:=by
 unfold jr;rw [zN,Y3h,h0];exact h
theorem Zu {M:Model}{A:Around}{E:Value->Shared->Prop}{s:Shared}{scope:Scope}{globals:Addr}{closure:List (Str×Addr)}{qual:Str}{func:Option Addr}{code:Value}{e:Env}{builtins:Addr}{Q:Env->Shared->Prop}
  (hQ:Q (newEnv scope s.heap.objs.size globals (cellsFrom (s.heap.objs.size+1) scope.names closure) qual func code (some e) builtins) { s with heap:=pushCells (s.heap.push { cls:=.type "dict",data:=.dict #[] }) scope.names }) :
  wpAny M A (newFunctionEnv scope globals closure [] qual func code (some e) builtins) Q E s:=by
 simp only [newFunctionEnv,Option.isSome_some,if_true];refine wpAny_bind (wpAny_alloc ?_);refine wpAny_bind (wpAny_layCells _ (λ name kind cells=>by cases hkc:kind==NameKind.cell<;>simp [hkc]) _ _ _ _ ?_);rw [show ({ s with heap:=s.heap.push { cls:=.type "dict",data:=.dict #[] } }:Shared).heap.objs.size=s.heap.objs.size+1 from Y1g ..];refine wpAny_bind ?_;rw [Y29];exact wpAny_pure (wpAny_pure hQ)
abbrev zt (X:Cx)(NC:List Str)(scope:Scope)(C:Addr)(s:Shared)(H:Hp)(ex:List Addr)(pn:List (Addr×Obj))(xe:Value->Shared->Prop):Cx :=
  { X with N:=NC,s₀:=s,H₀:=H,env:=compEnvC scope (jr scope C X.env) C X.env,outer:=X.stack,stack:=X.stack,ex:=ex,fn:=λ x=>scope.names.lookup x==some .cell,calm:=true,pn:=pn,xe:=xe }
def ji (osc scope:Scope)(N NC:List Str)(cap:List (Option Nat)):Bool :=
 scope.kind==.function&&scope.names.all (λ y=>y.2 != .cell||scope.names.lookup y.1==some .cell) &&
 scope.names.all (λ y=>y.2 != .local||scope.names.lookup y.1==some .local) &&
 scope.names.all (λ y=>y.2 != .free||osc.names.lookup y.1==some .cell)&&cap.length==NC.length &&
 (List.range NC.length).all λ j=>match cap[j]?,NC[j]? with
  | some (some i),some x=>N[i]?==some x&&scope.names.lookup x==some .free
  | some none,some x=>scope.names.lookup x==some .local||scope.names.lookup x==some .cell
  | _,_=>false
def qx (cap:List (Option Nat))(σ:St):St:=cap.map λ o=>o.bind λ i=>(σ[i]?).bind id
theorem wM {scope:Scope}{env:Env}{x:Str}(hk:env.scope.kind=.function):∀ {names:List (Str×NameKind)},(∀ y∈names,y.2=.free->env.kindOf y.1=some .cell) ->
  (names.map λ (n,k)=>if (k==NameKind.free&&env.scope.kind==.function&&env.kindOf n==some .cell) then (n,NameKind.cell) else (n,k)).lookup x=(names.lookup x).map λ k=>if k=.free then .cell else k
 | [],_=>rfl
 | (n,k)::r,h=>by
  have ih:=wM (scope:=scope) (x:=x) hk (names:=r) λ y hy=>h y (Y02 _ hy);show List.lookup x ((if (k==NameKind.free&&env.scope.kind==.function&&env.kindOf n==some .cell)=true then (n,NameKind.cell) else (n,k))::_)=_;by_cases hkf:k=.free
  ·subst hkf;rw [if_pos (by rw [hk,h (n,.free) (Y03 ..) rfl];decide)];rw [Y2b,Y2b];cases e:x==n with
   | true=>rfl
   | false=>exact ih
  ·rw [if_neg (by intro z;simp only [Y0p,beq_iff_eq] at z;exact hkf z.1.1)];rw [Y2b,Y2b];cases e:x==n with
   | true=>simp [hkf]
   | false=>exact ih
section
variable {X:Cx}{pins:List (Addr×Obj)}{σ:St}{H H':Hp}{s s':Shared}
theorem Inv.repn {pn pins':List (Addr×Obj)}{xe:Value->Shared->Prop}(I:Inv X pins σ H s)(h:∀ p∈pn++pins',p∈X.pn++pins):Inv { X with pn:=pn,xe:=xe } pins' σ H s :=
 ⟨⟨I.ok.mod,I.ok.kind,I.ok.glob,I.ok.blt,I.ok.above,I.ok.inj,I.ok.has,I.ok.cab,I.ok.hd,I.ok.frames,I.ok.stk,I.ok.exf,I.ok.bs,I.ok.bsz,I.ok.noex,I.ok.exfs,I.ok.funs,I.ok.frf⟩,
  I.os,I.bare,I.base,I.loc,I.cell,I.free,I.freeC,λ p hp=>I.pin p (h p hp),I.hok,I.len⟩
theorem Inv.track {D:Addr}{o:HO}(I:Inv X pins σ H s)(hD:H D=none)(h0:X.s₀.heap.get? D=none)(hL:D≠X.env.locals)(hC:∀ x c,X.env.cells.lookup x=some c->c≠D)(hp:∀ p∈X.pn++pins,p.1≠D)
  (new:ObjOk X.prog X.w (upd H D o) s.heap D o):Inv X pins σ (upd H D o) s:=by
 have up:∀ b u,H b=some u->upd H D o b=some u:=λ b u e=>by rw [zo (jy e hD)];exact e
 refine ⟨I.ok,I.os,I.bare,⟨I.base.keep,I.base.slot,λ b u e n hx=>?_,I.base.there,λ b xs e=>up _ _ (I.base.tups b xs e),λ b u xs e=>up _ _ (I.base.frzs b u xs e),λ b ps e=>?_⟩,I.loc,I.cell,?_,λ x c e=>?_,λ p hq=>?_,λ b u e=>?_,I.len⟩
 ·rw [zo (λ z=>by rw [z,h0] at e;cases e)];exact I.base.free b u e n hx
 ·obtain ⟨more,q⟩:=I.base.tbls b ps e;exact ⟨more,up _ _ q⟩
 ·rw [zo (Ne.symm hL)];exact I.free
 ·rw [zo (hC x c e)];exact I.freeC x c e
 ·obtain ⟨e,n,r⟩:=I.pin p hq;exact ⟨e,by rw [zo (hp p hq)];exact n,r⟩
 ·by_cases hb:b=D
  ·subst hb;rw [zx] at e;cases e;exact new
  ·rw [zo hb] at e;exact (I.hok b u e).stay (λ _ _ _ q=>q) (λ c q=>up _ _ q) λ c xs q=>up _ _ q
end
def PF (X:Cx)(ifs:List Expr)(t:TT):Prop :=
 ∀ (pins:List (Addr×Obj)) (s:Shared) (σ:St) (H:Hp) (Q:Bool->Hp->Prop),Inv X pins σ H s->t σ H Q ->
  wpAny (model X.prog X.w) X.A (forIn ifs true λ c r=>if r=true then do let ok <- isTrue c X.env (eval c X.env);pure (ForInStep.yield ok) else pure (ForInStep.yield r)) (TP X pins σ Q) X.xe s
def OV:TT:=λ _ H Q=>Q true H
theorem z2g {X:Cx}:PF X [] OV:=λ pins s σ H Q I h=>wpAny_tests_nil ⟨H,I,h⟩
theorem Gc {X:Cx}{c:Expr}{t:TT}(h:PT X c t):PF X [c] t:=λ pins s σ H Q I q=>wpAny_tests_one (h pins s σ H Q I q)
theorem j5 {osc scope:Scope}{N NC:List Str}{cap:List (Option Nat)}(h:ji osc scope N NC cap=true) :
  scope.kind=.function/\(∀ y∈scope.names,y.2=.cell->scope.names.lookup y.1=some .cell)/\(∀ y∈scope.names,y.2=.local->scope.names.lookup y.1=some .local)/\(∀ y∈scope.names,y.2=.free->osc.names.lookup y.1=some .cell)/\cap.length=NC.length /\
  (∀ (j i:Nat),cap[j]?=some (some i)->∃ x,NC[j]?=some x/\N[i]?=some x/\scope.names.lookup x=some .free)/\∀ (j:Nat) (x:Str),cap[j]?=some none->NC[j]?=some x->scope.names.lookup x=some .local\/scope.names.lookup x=some .cell:=by
 unfold ji at h;simp only [Y0p,Y1k,bne_iff_ne,ne_eq,Bool.or_eq_true,beq_iff_eq,Y39] at h;obtain ⟨⟨⟨⟨⟨h1,h2⟩,h3⟩,h4⟩,h5⟩,h6⟩:=h;refine ⟨h1,λ y hy e=>(h2 y hy).resolve_left λ z=>z e,λ y hy e=>(h3 y hy).resolve_left λ z=>z e,λ y hy e=>(h4 y hy).resolve_left λ z=>z e,h5,λ j i e=>?_,λ j x e ex=>?_⟩
 ·have hj:j<NC.length:=by rw [<- h5];exact (Y0e.mp e).1
  have q:=h6 j hj;rw [e] at q;cases ex:NC[j]? with
  | none=>rw [ex] at q;simp at q
  | some x =>
   rw [ex] at q;simp only [Y0p,beq_iff_eq] at q;exact ⟨x,rfl,q.1,q.2⟩
 ·have hj:j<NC.length:=(Y0e.mp ex).1;have q:=h6 j hj;rw [e,ex] at q;simpa using q
section
variable {X:Cx}{pins:List (Addr×Obj)}{σ:St}{H₂:Hp}{s₂:Shared}{scope:Scope}{NC:List Str}{cap:List (Option Nat)}{fp:List Addr}
theorem Yb {C D:Addr}{h₁:Heap}{tk:Nat}{o:Obj}{xe:Value->Shared->Prop}(I:Inv X pins σ H₂ s₂)(hc:X.calm=true)(cok:ji X.env.scope scope X.N NC cap=true)(f2:∀ b∈fp,yf X pins H₂ b)(hfp:∀ b∈fp,∃ o,s₂.heap.get? b=some o)
  (hD:D=s₂.heap.objs.size) (hC:C=s₂.heap.objs.size+1) (old:∀ b o,s₂.heap.get? b=some o->h₁.get? b=some o) (hacc:h₁.get? D=some o) (ho:∀ v,o.data≠.cell v) {m:Str->Option Value} (ns:h₁.Ns C m) (own:CellsOk h₁ (C+1) (cellsFrom (C+1) scope.names [])) :
  Inv (zt X NC scope C s₂ H₂ fp [] xe) [(D,o)] (qx cap σ) H₂ { s₂ with heap:=h₁,toks:=tk }:=by
 obtain ⟨c1,c2,c3,c4,c5,c6,c7⟩:=j5 cok;have hfree:∀ y∈scope.names,y.2=.free->∃ c,X.env.cells.lookup y.1=some c:=λ y hy e=>I.ok.has y.1 (.inl (c4 y hy e));have clx:∀ x c,(Qa scope X.env).lookup x=some c->X.env.cells.lookup x=some c:=λ x c e=>by
  rcases Qb hfree (Y0v e) with z | z
  ·simp at z
  ·exact z
 have ccx:∀ x c,(jr scope C X.env).lookup x=some c->(cellsFrom (C+1) scope.names []).lookup x=some c\/X.env.cells.lookup x=some c:=λ x c e=>(Gb e).imp id λ z=>clx x c z.2;have hrel:∀ x,(compEnvC scope (jr scope C X.env) C X.env).kindOf x=(scope.names.lookup x).map λ k=>if k=.free then .cell else k:=λ x=>wM (scope:=scope) I.ok.kind λ y hy e=>c4 y hy e;have fresh:∀ b,s₂.heap.objs.size<=b->s₂.heap.get? b=none:=λ b hb=>Y28 hb;have sz:s₂.heap.objs.size<=C:=by rw [hC];exact Y2o _
 have szD:s₂.heap.objs.size<=D:=by rw [hD];exact Y04 _
 have ownF:∀ x c,(cellsFrom (C+1) scope.names []).lookup x=some c->s₂.heap.get? c=none/\s₂.heap.objs.size<=c:=λ x c e=>by
  have q:=(own.empty x c (Y0v e)).2;have q2:s₂.heap.objs.size<=c:=by rw [hC] at q;omega
  exact ⟨fresh c q2,q2⟩
 have cloF:∀ x c,X.env.cells.lookup x=some c->c<s₂.heap.objs.size:=λ x c e=>by
  obtain ⟨v,q⟩:=I.cell x c e;exact q.lt
 have inj:∀ x y c,(jr scope C X.env).lookup x=some c->(jr scope C X.env).lookup y=some c->x=y:=λ x y c e1 e2=>by
  rcases ccx x c e1 with z1 | z1<;>rcases ccx y c e2 with z2 | z2
  ·exact name_of_addr own.apart (Y0v z1) (Y0v z2)
  ·exact absurd (cloF y c z2) (Nat.not_lt.mpr (ownF x c z1).2)
  ·exact absurd (cloF x c z1) (Nat.not_lt.mpr (ownF y c z2).2)
  ·exact I.ok.inj x y c z1 z2
 have exC:∀ b∈fp,b≠C:=λ b hb z=>by
  obtain ⟨o,e⟩:=hfp b hb;rw [z,fresh C sz] at e;cases e
 have exD:∀ b∈fp,b≠D:=λ b hb z=>by
  obtain ⟨o,e⟩:=hfp b hb;rw [z,fresh D szD] at e;cases e
 refine ⟨⟨I.ok.mod,c1,I.ok.glob,I.ok.blt,sz,inj,λ x hx=>?_,λ x c z e=>?_,λ _=>I.ok.hd hc,I.ok.frames,.inl rfl,λ b hb=>⟨exC b hb,λ x c e=>?_⟩,
  I.bs,Y15 I.ok.bsz I.sz,λ b o e z=>?_,λ b hb z=>?_,I.stack,I.stkFree⟩,rfl,I.bare,Un.kept old,⟨m,ns,λ j x v e1 e2 e3=>?_⟩,λ x c e=>?_,I.hok.fresh sz,λ x c e=>?_,λ p hp=>?_,I.hok.kept old,?_⟩
 ·rw [hrel] at hx;have hxf:scope.names.lookup x=some .free\/scope.names.lookup x=some .cell:=by
   cases e:scope.names.lookup x with
   | none=>rw [e] at hx;simp at hx
   | some k =>
    rw [e] at hx;by_cases hk:k=.free
    ·rw [hk];exact .inl rfl
    ·simp only [Y2n,if_neg hk,Option.some.injEq] at hx;rcases hx with z | z
     ·rw [z];exact .inr rfl
     ·exact absurd z hk
  rcases hxf with hxf | hxf
  ·obtain ⟨c,hm⟩:=Zt (env:=X.env) (cs:=[]) (Y0v hxf);obtain ⟨c',hl⟩:=jg hm;exact Y2d.mp (Y1z _ _ _ (.inr (by rw [show (Qa scope X.env).lookup x=some c' from hl];rfl)))
  ·exact Y2d.mp (Y1z _ _ _ (.inl hxf))
 ·have hx:scope.names.lookup x=some .cell:=by simpa using z
  obtain ⟨c',hl⟩:=Y2d.mp (Y1z (x:=x) scope.names (C+1) [] (.inl hx));have e':(jr scope C X.env).lookup x=some c:=e;rw [z2e hl] at e';cases e';exact (ownF x _ hl).2
 ·rcases ccx x c e with z | z
  ·intro q;obtain ⟨o,eb⟩:=hfp b hb;rw [<- q,(ownF x c z).1] at eb;cases eb
  ·exact (f2 b hb).2.2.2.2.1 x c z
 ·obtain ⟨e1,e2⟩:=I.bs b o e
  have:=(f2 b z).2.2.2.1
  rcases this with q | q
  ·exact I.ok.noex b o e q
  ·exact absurd (Y07 (Y05 (I.ok.bs b o e).1) q) (Y0s _)
 ·rcases Y06.mp (I.stkSub b z) with q | q
  ·exact (f2 b hb).2.1 q
  ·exact (f2 b hb).2.2.1 q
 ·have ej:cap[j]?=some ((some ((cap[j]?.bind id).getD 0):Option Nat)):=by
   unfold qx at e2;rw [Y0u] at e2;cases q:cap[j]? with
   | none=>rw [q] at e2;simp at e2
   | some oo =>
    rw [q] at e2;cases oo with
    | none=>simp at e2
    | some i=>simp
  generalize ((cap[j]?.bind id).getD 0)=i at ej;obtain ⟨y,y1,y2,y3⟩:=c6 j i ej
  have:y=x:=Option.some.inj (y1.symm.trans e1)
  subst this;have ev:σ[i]?=some (some v):=by
   unfold qx at e2;rw [Y0u,ej] at e2;simp only [Y2n,Y3k,Option.some.injEq] at e2;cases q:σ[i]? with
   | none=>rw [q] at e2;simp at e2
   | some w=>rw [q] at e2;simp at e2;rw [e2]
  have kc:X.env.scope.names.lookup y=some .cell:=c4 (y,.free) (Y0v y3) rfl;obtain ⟨m',hn',hl'⟩:=I.loc;obtain ⟨u,r,q⟩:=hl' i y v y2 ev (.inr (.inl kc));refine ⟨u,r,.inr ⟨.inl (by rw [hrel,y3];rfl),?_⟩⟩;rcases q with ⟨k,_⟩ | ⟨k,c,e,z⟩
  ·rw [show X.env.kindOf y=some .cell from kc] at k;cases k
  ·obtain ⟨c',hm⟩:=Zt (env:=X.env) (cs:=[]) (Y0v y3);obtain ⟨c'',hl⟩:=jg hm
   have:=clx y c'' hl
   rw [e] at this;cases this;obtain ⟨oc,h1,h2⟩:=z;refine ⟨c,z2f hl ?_,oc,old c oc h1,h2⟩;cases eo:(cellsFrom (C+1) scope.names []).lookup y with
   | none=>rfl
   | some c2' =>
    have q1:=c2 (y,.cell) (wg (Y0v eo)) rfl;rw [y3] at q1;cases q1
 ·rcases ccx x c e with z | z
  ·exact ⟨none,(own.empty x c (Y0v z)).1⟩
  ·obtain ⟨v,oc,h1,h2⟩:=I.cell x c z;exact ⟨v,oc,old c oc h1,h2⟩
 ·rcases ccx x c e with z | z
  ·exact I.hok.fresh (ownF x c z).2
  ·exact I.freeC x c z
 ·have e:p=(D,o):=by simpa using hp
  subst e;refine ⟨hacc,I.hok.fresh szD,λ z=>by rw [hC,hD] at z;exact absurd z (Y0g (Y1x _)),λ z=>?_,ho⟩;obtain ⟨_,ob,e,_⟩:=I.stack.mem z;rw [fresh D szD] at e;cases e
 ·unfold qx;rw [Y0d];exact c5
theorem Zv {C:Addr}{pn pc:List (Addr×Obj)}{σ':St}{H':Hp}{s':Shared}{h':Heap}{xe:Value->Shared->Prop}(I:Inv X pins σ H₂ s₂)(f2:∀ b∈fp,yf X pins H₂ b)(hC:C=s₂.heap.objs.size+1)
  (J:Inv (zt X NC scope C s₂ H₂ fp pn xe) pc σ' H' s') (sb:Heap.SameBut C s'.heap h'):Inv X pins σ H' { s' with heap:=h' }:=by
 have fC:s₂.heap.get? C=none:=Y28 (by rw [hC];exact Y2o _);have nC:∀ b o,s₂.heap.get? b=some o->b≠C:=λ b o e z=>by rw [z,fC] at e;cases e
 have u:Un (frs X.stack) fp H₂ H' s₂.heap h':=by
  have v:Un (frs X.stack) fp H₂ H' s₂.heap s'.heap:=J.base;refine ⟨λ b o e n hb hx=>(sb.2 b (nC b o e)).trans (v.keep b o e n hb hx),λ b o e n hb hx=>?_,v.free,λ b o e hx=>?_,v.tups,v.frzs,v.tbls⟩
  ·obtain ⟨sl,q⟩:=v.slot b o e n hb hx;exact ⟨sl,(sb.2 b (nC b o e)).trans q⟩
  ·obtain ⟨o',q⟩:=v.there b o e hx;exact ⟨o',(sb.2 b (nC b o e)).trans q⟩
 have hok:HOk X.prog X.w H' h':=λ b o e=>by
  refine (J.hok b o e).stay (λ c w hc q=>(sb.2 c λ z=>?_).trans q) (λ _ q=>q) λ _ _ q=>q;have fr:H' C=none:=J.free;subst z;rcases hc with rfl | hc
  ·rw [fr] at e;cases e
  ·rw [fr] at hc;cases hc
 exact I.call' (s':={ s' with heap:=h' }) (ch:=fp) J.os u hok J.bare λ b hb=>⟨(f2 b hb).2.2.2.1,(f2 b hb).2.1,(f2 b hb).2.2.2.2.1,(f2 b hb).2.2.2.2.2⟩
end
def z47 (σ σ':St):Prop:=σ'.length=σ.length/\∀ (i:Nat) v,σ[i]?=some (some v)->σ'[i]?=some (some v)
section
variable {prog:Program}{w:World}{A:Around}{R:Result->Shared->Prop}{s:Shared}
theorem Wq {elt target iter:Expr}{ifs:List Expr}{scope:Scope}{pos:Pos}{it acc:Value}{env:Env}(I:Nat->Shared->Prop)
  (turn:∀ n s,I n s->wpAny (model prog w) A (pyNext it) (λ r s₁=>match r with
   | none=>R (.ok .next) s₁
   | some v=>wpAny (model prog w) A (letOwnedTupleGo target it v) (λ _ s₁'=>wpAny (model prog w) A (assign target env v) (λ _ s₂ =>
     wpAny (model prog w) A (forIn ifs true λ c r=>if r=true then do let ok <- isTrue c env (eval c env);pure (ForInStep.yield ok) else pure (ForInStep.yield r)) (λ ok s₃ =>
      if ok=true then wpAny (model prog w) A (eval elt env) (λ x s₄ =>
       wpAny (model prog w) A (call (.builtin "list.append") [acc,x]) (λ _ s₅=>∃ m,m<n/\I m s₅) (notedBy (model prog w) A env λ e s'=>R (.error e) s') s₄) (notedBy (model prog w) A env λ e s'=>R (.error e) s') s₃
      else ∃ m,m<n/\I m s₃) (notedBy (model prog w) A env λ e s'=>R (.error e) s') s₂) (notedBy (model prog w) A env λ e s'=>R (.error e) s') s₁') (notedBy (model prog w) A env λ e s'=>R (.error e) s') s₁) (notedBy (model prog w) A env λ e s'=>R (.error e) s') s)
  (n:Nat) (h:I n s):codeAny (model prog w) A (.compLoop (.ListComp elt [⟨target,iter,ifs,0⟩] scope pos) 0 it acc env) R s:=by
 refine codeAny_loop rfl I (λ n s hI=>?_) n h;show wpAny _ A ((compTurn (.ListComp elt [⟨target,iter,ifs,0⟩] scope pos) 0 it acc env).onRaise (λ x=>do noteFrame x env;theTreesLotGoes x)) _ _ s;refine wpAny_noted ?_;rw [compTurn_list];refine wpAny_bind (wpAny_standAt (wpAny_bind (wpAny_mono (turn n s hI) (λ r s₁ h₁=>?_) λ _ _ h'=>h')));cases r with
 | none=>exact wpAny_pure h₁
 | some v =>
  refine wpAny_bind (wpAny_mono h₁ (λ _ s₁' h₁'=>?_) λ _ _ h'=>h');refine wpAny_bind (wpAny_mono h₁' (λ _ s₂ h₂=>wpAny_bind (wpAny_mono h₂ (λ ok s₃ h₃=>?_) λ _ _ h'=>h')) λ _ _ h'=>h');cases ok with
  | false=>exact wpAny_pure ⟨rfl,h₃⟩
  | true =>
   exact wpAny_bind (wpAny_bind (wpAny_mono h₃ (λ x s₄ h₄=>wpAny_bind (wpAny_mono h₄ (λ _ s₅ h₅=>wpAny_pure (wpAny_pure ⟨rfl,h₅⟩)) λ _ _ h'=>h')) λ _ _ h'=>h'))
end
section
variable {X:Cx}{σ:St}{H:Hp}{s:Shared}
theorem Inv.repin {D:Addr}{o o':Obj}{h':Heap}(I:Inv X [(D,o)] σ H s)(hpn:∀ p∈X.pn,p.1≠D)(h0:X.s₀.heap.objs.size<=D)(ho':∀ v,o'.data≠.cell v)(sb:Heap.SameBut D s.heap h')(e':h'.get? D=some o') :
  Inv X [(D,o')] σ H { s with heap:=h' }:=by
 obtain ⟨e,n,ne,nf,d⟩:=I.pin (D,o) (Y0m _ (by simp));have I0:Inv X [] σ H s:=I.pins_of λ p hp=>absurd hp (by simp);have I1:Inv X [] σ H { s with heap:=h' }:=I0.turned (t':=s.toks) (it:=D) (λ b u hb q=>(sb.2 b hb).trans q) n ne (.inr h0) (λ x c ec z=>by
  obtain ⟨v,oc,h1,h2⟩:=I.cell x c ec;subst z;rw [e] at h1;cases h1;exact d v h2) λ p hp=>hpn p (by simpa using hp)
 refine I1.pins_of λ p hp=>?_;have q:p=(D,o'):=by simpa using hp
 subst q;exact ⟨e',n,ne,nf,ho'⟩
end
section
variable {X:Cx}{pins:List (Addr×Obj)}{σ:St}{H₂:Hp}{s₂:Shared}{scope:Scope}{NC:List Str}{cap:List (Option Nat)}{fp:List Addr}{elt tg iter:Expr}{ifs:List Expr}{pos:Pos}{Z:ZK}{J:It}{it:Addr}{tn:Nat->Heap->Prop}
 {g:TG}{tf:TT}{te:TE}{use:Option (Value->Sem Unit)}{Qv:Value->Shared->Prop}
theorem JL (hc:X.calm=true)(th:Thr X Z)(I:Inv X pins σ H₂ s₂)(T:Turn X.prog X.w X.K tg J fp it tn)(st2:tn 0 s₂.heap)(f2:∀ b∈fp,yf X pins H₂ b)(cok:ji X.env.scope scope X.N NC cap=true)
  (hg:∀ C pn xe,PG (zt X NC scope C s₂ H₂ fp pn xe) tg g)
  (hf:∀ C pn xe,Thr (zt X NC scope C s₂ H₂ fp pn xe) (λ _ C' H'=>Z σ C' H')->PF (zt X NC scope C s₂ H₂ fp pn xe) ifs tf)
  (hb:∀ C pn xe,Thr (zt X NC scope C s₂ H₂ fp pn xe) (λ _ C' H'=>Z σ C' H')->PE (zt X NC scope C s₂ H₂ fp pn xe) elt te)
  (W:Nat->Nat->List V->Hp->Prop) (m0:Nat) (w0:W 0 m0 [] H₂) {Fn:List V->Hp->Prop}
  (turn:∀ i m ys H2,W i m ys H2->(J.stop i H2/\Fn ys H2)\/(J.go i H2/\ys.length<sizeLine/\∀ x H3,J.yld i H2 x H3->g x (qx cap σ) H3 λ σ4 H4=>z47 (qx cap σ) σ4/\tf σ4 H4 λ b H5 =>
   if b=true then te σ4 H5 λ y H6=>∃ m',m'<m/\W (i+1) m' (ys++[y]) H6 else ∃ m',m'<m/\W (i+1) m' ys H5))
  (fin:∀ (C D:Addr) (s':Shared) (H':Hp) (ys:List V) (us:List Value) (n:Nat),Fn ys H'->Vals ys us->s'.heap.get? D=some { cls:=.type "list",data:=.seq us.toArray n }->H' D=none->H' C=none->D=s₂.heap.objs.size->C=s₂.heap.objs.size+1 ->
   (∃ m,s'.heap.Ns C m)->(∀ h',Heap.SameBut C s'.heap h'->Inv X pins σ H' { s' with heap:=h' })->compPost (model X.prog X.w) X.A X.xe use Qv (.ref D) C (.ok .next) s') :
  wpAny (model X.prog X.w) X.A (newList []) (λ acc s₃=>wpAny (model X.prog X.w) X.A (newFunctionEnv scope X.env.globals (Qa scope X.env) [] X.env.qual none .none (some X.env)) (λ cenv s₄ =>
   codeAny (model X.prog X.w) X.A (.compStart (.ListComp elt [⟨tg,iter,ifs,0⟩] scope pos) 0 (.ref it) acc { cenv with scope:=relabel scope X.env }) (compPost (model X.prog X.w) X.A X.xe use Qv acc cenv.locals) s₄) X.xe s₃) X.xe s₂:=by
 obtain ⟨c1,c2,c3,c4,c5,c6,c7⟩:=j5 cok;refine wpAny_newObj_type (Zu ?_);dsimp only;generalize hH2:s₂.heap.push { cls:=.type "list",dict:=none,data:=.seq ([]:List Value).toArray }=H2;generalize hh1:pushCells (H2.push { cls:=.type "dict",data:=.dict #[] }) scope.names=h₁;have hns₁:h₁.Ns H2.objs.size (λ _=>none):=hh1▸(Heap.Ns.new H2 (.type "dict")).keeps (pushCells_keeps _ _);have own₁:CellsOk h₁ (H2.objs.size+1) (cellsFrom (H2.objs.size+1) scope.names []):=by
  have ok:=cellsFrom_ok scope.names (H2.push { cls:=.type "dict",data:=.dict #[] }) (H2.objs.size+1) [] ⟨λ _ _ hm=>(nomatch hm),List.Pairwise.nil⟩ (by rw [Y1g];exact Y04 _);rw [Y1g,hh1] at ok;exact ok
 have hC:H2.objs.size=s₂.heap.objs.size+1:=by rw [<- hH2,Y1g]
 have hDC:s₂.heap.objs.size≠H2.objs.size:=by rw [hC];exact Y0g (Y1x _)
 have below:∀ b,b<s₂.heap.objs.size->b≠H2.objs.size:=λ b hb=>by rw [hC];exact Y0g (Y26 hb)
 have old:∀ b o,s₂.heap.get? b=some o->h₁.get? b=some o:=λ b o e=>hh1▸pushCells_keeps _ _ _ _ (Y01 _ (hH2▸Y01 _ e));have hacc:h₁.get? s₂.heap.objs.size=some { cls:=.type "list",data:=.seq ([]:List Value).toArray 0 }:=hh1▸pushCells_keeps _ _ _ _ (Y01 _ (hH2▸Y0c _ rfl));have hfp:∀ b∈fp,∃ o,s₂.heap.get? b=some o:=λ b hb=>let ⟨o,e,_⟩:=T.obj _ _ st2 b hb;⟨o,e⟩;have nodata:∀ (us:List Value) (n:Nat) v,({ cls:=.type "list",data:=.seq us.toArray n }:Obj).data≠.cell v:=λ us n v z=>by cases z
 have fpD:∀ b∈fp,b≠s₂.heap.objs.size:=λ b hb z=>by
  obtain ⟨o,e⟩:=hfp b hb;exact absurd (Y05 e) (by rw [z];exact Y0s _)
 generalize hEn:(notedBy (model X.prog X.w) X.A (compEnvC scope (jr scope H2.objs.size X.env) H2.objs.size X.env) λ e s'=>compPost (model X.prog X.w) X.A X.xe use Qv (.ref s₂.heap.objs.size) H2.objs.size (.error e) s')=En;have loop:∀ s₃:Shared,s₃={ s₂ with heap:=h₁,toks:=s₂.toks } ->
   codeAny (model X.prog X.w) X.A (.compLoop (.ListComp elt [⟨tg,iter,ifs,0⟩] scope pos) 0 (.ref it) (.ref s₂.heap.objs.size) (compEnvC scope (jr scope H2.objs.size X.env) H2.objs.size X.env))
    (compPost (model X.prog X.w) X.A X.xe use Qv (.ref s₂.heap.objs.size) H2.objs.size) s₃:=by
  rintro s₃ rfl
  refine Wq (λ k s'=>∃ i ys us n H',Vals ys us/\W i k ys H'/\tn i s'.heap/\(∀ b∈fp,H' b=none) /\
   Inv (zt X NC scope H2.objs.size s₂ H₂ fp [] En) [(s₂.heap.objs.size,{ cls:=.type "list",data:=.seq us.toArray n })] (qx cap σ) H' s') ?_ m0
   ⟨0,[],[],0,H₂,.nil,w0,T.keep _ _ _ st2 λ b _ o e=>old b o e,λ b hb=>(f2 b hb).1,Yb I hc cok f2 hfp rfl hC old hacc (nodata _ _) hns₁ own₁⟩
  rw [hEn]
  rintro k s' ⟨i,ys,us,n,H',rv,w,st,fr,Ic⟩
  have Fp:∀ {H':Hp}{us:List Value}{n:Nat},(∀ b∈fp,H' b=none)->∀ b∈fp,yf (zt X NC scope H2.objs.size s₂ H₂ fp [] En) [(s₂.heap.objs.size,({ cls:=.type "list",data:=.seq us.toArray n }:Obj))] H' b:=λ {H' us n} hn b hb=>by
   have q:=Ic.ok.exf b hb;refine ⟨hn b hb,q.1,λ z=>Ic.ok.exfs b hb z,.inl hb,q.2,λ p hp=>?_⟩;have e:p=(s₂.heap.objs.size,({ cls:=.type "list",data:=.seq us.toArray n }:Obj)):=by simpa using hp
   subst e;exact (fpD b hb).symm
  rcases turn i k ys H' w with ⟨stop,q⟩ | ⟨go,hlen,step⟩
  ·refine wpAny_mono (T.done (zt X NC scope H2.objs.size s₂ H₂ fp [] En) rfl rfl rfl rfl i _ s' _ H' En Ic (Fp fr) st stop) (λ r s4 h4=>?_) λ _ _ x=>x;obtain ⟨hr,I4⟩:=h4;subst hr;obtain ⟨m,ns,_⟩:=id I4.loc;obtain ⟨p1,p2,_⟩:=I4.pin _ (Y0m _ (Y0a.mpr rfl));exact fin _ _ s4 H' ys us n q rv p1 p2 I4.free rfl hC ⟨m,ns⟩ λ h' sb=>Zv I f2 hC I4 sb
  ·refine wpAny_mono (T.item (zt X NC scope H2.objs.size s₂ H₂ fp [] En) rfl rfl rfl rfl i _ s' _ H' En Ic (Fp fr) st go) (λ r s4 h4=>?_) λ _ _ x=>x;obtain ⟨u,hr,h4⟩:=h4;subst hr;refine wpAny_mono h4 (λ _ s5 h5=>?_) λ _ _ x=>x;obtain ⟨x,H5,I5,r5,y5,st5,fr5⟩:=h5;have I5':Inv (zt X NC scope H2.objs.size s₂ H₂ fp (qm fp s5.heap) En) [(s₂.heap.objs.size,{ cls:=.type "list",data:=.seq us.toArray n })] (qx cap σ) H5 s5 :=
    (I5.pinned (Fp fr5) (T.obj _ _ st5)).repn λ p hp=>by
     rcases Y19.mp hp with z | z
     ·exact Y0m _ (Y0m _ z)
     ·exact Y0m _ (Y0z _ z)
   have okx:XOk (zt X NC scope H2.objs.size s₂ H₂ fp (qm fp s5.heap) En):=by
    obtain ⟨top,outer,L,e1,e2,e3⟩:=th.top;exact ⟨⟨top,outer,L,e1,e2,e3⟩,λ b hb=>let ⟨o,e,_⟩:=T.obj _ _ st5 b hb;⟨o,jT hb e⟩⟩
   have thx:Thr (zt X NC scope H2.objs.size s₂ H₂ fp (qm fp s5.heap) En) (λ _ C' H'=>Z σ C' H'):=by
    refine ⟨okx,?_⟩
    rintro e s6 ⟨a,C',T',σ6,H6,rfl,I6,F6,z6⟩
    show En (.ref a) s6;rw [<- hEn];unfold notedBy;refine I6.note okx F6 I6.ok.frames rfl λ h7 t7 I7 F7=>?_;obtain ⟨m,ns,_⟩:=id I7.loc;have fin7:∃ m,h7.Ns H2.objs.size m/\∀ h',Heap.SameBut H2.objs.size h7 h'->∀ cenv:Env,cenv.locals=H2.objs.size->wpAny (model X.prog X.w) X.A (passOn "comprehension.variables-let-go" (.ref a) cenv:Sem Value) (λ _ _=>False) X.xe { s6 with heap:=h' }:=by
     refine ⟨m,ns,λ h' sb cenv _=>?_⟩;have I8:Inv X pins σ H6 { s6 with heap:=h' }:=Zv (s':={ s6 with heap:=h7 }) I f2 hC I7 sb;have F8:Fly X pins H6 h' a C' (some t7):=by
      refine ⟨F7.fl.at λ b hb o e=>(sb.2 b λ z=>?_).trans e,λ b hb=>?_⟩
      ·obtain ⟨o',vs,e1,e2⟩:=F7.fl.rec b hb;obtain ⟨oC,es,ep,e3,e4,_⟩:=ns;subst z;have q:o'=oC:=Option.some.inj (e1.symm.trans e3);rw [q] at e2;have q2:=e2.symm.trans e4;cases q2
      ·obtain ⟨o1,o2,_⟩:=F7.ow b hb;exact I.ow th.toXOk (.inr trivial) o2 o1
     exact I8.passOn F8 λ h9 I9 F9=>th.go I9 F9 z6
    show compPost _ _ _ _ _ _ _ (.error (.ref a)) _;cases use<;>exact fin7
   refine wpAny_mono (hg _ _ En _ s5 _ H5 x u _ I5' r5 (step x H5 y5)) (λ _ s6 h6=>?_) λ _ _ x=>x;obtain ⟨σ6,H6,I6,wk,q6⟩:=h6;refine wpAny_mono (hf _ _ En thx _ s6 σ6 H6 _ I6 q6) (λ b s7 h7=>?_) λ _ _ x=>x;obtain ⟨H7,I7,q7⟩:=h7;have back:∀ {s8:Shared}{H8:Hp}{ys':List V}{us':List Value}{n' m':Nat},Inv (zt X NC scope H2.objs.size s₂ H₂ fp (qm fp s5.heap) En) [(s₂.heap.objs.size,{ cls:=.type "list",data:=.seq us'.toArray n' })] σ6 H8 s8->Vals ys' us'->m'<k->W (i+1) m' ys' H8 ->
     ∃ m,m<k/\∃ i ys us n H',Vals ys us/\W i m ys H'/\tn i s8.heap/\(∀ b∈fp,H' b=none)/\Inv (zt X NC scope H2.objs.size s₂ H₂ fp [] En) [(s₂.heap.objs.size,{ cls:=.type "list",data:=.seq us.toArray n })] (qx cap σ) H' s8:=by
    intro s8 H8 ys' us' n' m' I8 rv8 hm w8;refine ⟨m',hm,i+1,ys',us',n',H8,rv8,w8,T.keep _ _ _ st5 λ b hb o e=>(I8.pin (b,o) (Y0z _ (jT hb e))).1,λ b hb=>?_,?_⟩
    ·obtain ⟨o,e,d⟩:=T.obj _ _ st5 b hb;exact (I8.pin (b,o) (Y0z _ (jT hb e))).2.1
    ·have I9:=I8.weak (σ':=qx cap σ) wk.1.symm wk.2;exact I9.repn λ p hp=>Y0m _ (by simpa using hp)
   cases b with
   | false =>
    obtain ⟨m',hm,w8⟩:=q7;exact back I7 rv hm w8
   | true =>
    refine wpAny_mono (hb _ _ En thx _ s7 σ6 H7 _ I7 q7) (λ y s8 h8=>?_) λ _ _ x=>x;obtain ⟨v,H8,I8,rv8,m',hm,w8⟩:=h8;obtain ⟨p1,p2,_⟩:=I8.pin _ (Y0m _ (Y0a.mpr rfl));have hlu:us.length=ys.length:=rv.length.symm;refine append_at p1 (hsz:=by show us.toArray.size<=sizeLine;rw [Y0b,hlu];exact Y2k hlen) λ h9 sb9 e9=>?_;rw [List.push_toArray] at e9;have I9:=I8.repin (λ p hp=>by
     have q:=(JA hp).1;exact fpD _ q) (Y04 _) (nodata _ _) sb9 e9
    exact back I9 (rv.append (.cons rv8 .nil)) hm w8
 exact codeAny_compStart_list (loop _ rfl) (T.self _ 0 _ _ _ (T.keep _ _ _ st2 λ b _ o e=>old b o e) (loop _ rfl))
end
def z48 (J:It)(H1:Hp)(cap:List (Option Nat))(σ:St)(g:TG)(tf:TT)(te:TE)(Q:VK):Prop:=∃ W:Nat->Nat->List V->Hp->Prop,(∃ m,W 0 m [] H1)/\∀ i m ys H2,W i m ys H2 ->
 (J.stop i H2/\ys.length<=sizeLine/\∀ p,H2 p=none->Q (.ref p) (upd H2 p (.lst ys))) \/
 (J.go i H2/\ys.length<sizeLine/\∀ x H3,J.yld i H2 x H3->g x (qx cap σ) H3 λ σ4 H4=>z47 (qx cap σ) σ4/\tf σ4 H4 λ b H5 =>
  if b=true then te σ4 H5 λ y H6=>∃ m',m'<m/\W (i+1) m' (ys++[y]) H6 else ∃ m',m'<m/\W (i+1) m' ys H5)
def Gd (Z:ZK)(cap:List (Option Nat))(wi:TI)(g:TG)(tf:ZK->TT)(te:ZK->TE):TE:=λ σ H Q=>wi σ H λ J H1=>z48 J H1 cap σ g (tf (λ _ C H'=>Z σ C H')) (te (λ _ C H'=>Z σ C H')) Q
section
variable {X:Cx}{scope:Scope}{NC:List Str}{cap:List (Option Nat)}{elt tg iter:Expr}{ifs:List Expr}{pos:Pos}{Z:ZK}{wi:TI}{g:TG}{tf:ZK->TT}{te:ZK->TE}
theorem OW (hc:X.calm=true)(th:Thr X Z)(hi:PI X tg iter wi)(cok:ji X.env.scope scope X.N NC cap=true)
  (hg:∀ C s H fp pn xe,PG (zt X NC scope C s H fp pn xe) tg g)
  (hf:∀ C s H fp pn xe Zc,Thr (zt X NC scope C s H fp pn xe) Zc->PF (zt X NC scope C s H fp pn xe) ifs (tf Zc))
  (hb:∀ C s H fp pn xe Zc,Thr (zt X NC scope C s H fp pn xe) Zc->PE (zt X NC scope C s H fp pn xe) elt (te Zc))
  (hs:∀ x,foldedSetIterable iter X.env x=pure x:=by intro _;rfl):PE X (.ListComp elt [⟨tg,iter,ifs,0⟩] scope pos) (Gd Z cap wi g tf te):=by
 intro pins s σ H Q I h;obtain ⟨c1,c2,c3,c4,c5,c6,c7⟩:=j5 cok;rw [eval_ListComp];refine wpAny_comprehension_free (use:=none) rfl hs (Zs λ y hy e=>I.ok.has y.1 (.inl (c4 y hy e))) c1 c3 (thn (hi pins s σ H _ I h) λ xv s₁ h₁=>thn h₁ λ itv s₂ h₂=>?_);obtain ⟨it,fp,tn,J,H2,rfl,I2,T,st2,f2,W,⟨m0,w0⟩,turn⟩:=h₂;refine JL hc th I2 T st2 f2 cok (λ C pn xe=>hg C s₂ H2 fp pn xe) (λ C pn xe t=>hf C s₂ H2 fp pn xe _ t) (λ C pn xe t=>hb C s₂ H2 fp pn xe _ t) W m0 w0 turn ?_
 rintro C D s' H' ys us n ⟨hlen,q⟩ rv e hn _ rfl rfl ⟨m,ns⟩ lv
 refine ⟨m,ns,λ h' sb=>?_⟩;have I':=lv h' sb;have eD:h'.get? s₂.heap.objs.size=some { cls:=.type "list",data:=.seq us.toArray n }:=(sb.2 _ (Y0g (Y1x _))).trans e;refine ⟨.ref s₂.heap.objs.size,_,I'.track (o:=.lst ys) hn (Y28 I2.sz) (Y17 I2.lt) (λ x c ec z=>?_) (λ p hp z=>?_) ⟨hlen,us,n,rv,eD⟩,rfl,q _ hn⟩
 ·obtain ⟨v,q⟩:=I2.cell x c ec;exact absurd q.lt (by rw [z];exact Y0s _)
 ·exact absurd (Y05 (I2.pin p hp).1) (by rw [z];exact Y0s _)
end
def z0a (K:Y00)(c D:Addr):Prop:=(∃ bmB newId,PySem.W.excIn K c bmB newId=true)/\∃ oc dd cd sl,K.lookup c=some ⟨oc,dd,.cls cd,sl⟩/\cd.mro.contains (.ref D)=true
abbrev z6w (X:Cx)(pins:List (Addr×Obj))(xe:Value->Shared->Prop):Cx:={ X with pn:=X.pn++pins,xe:=xe }
abbrev z6x (X:Cx)(pins:List (Addr×Obj))(a:Addr):Cx:={ X with A:=X.A.mark (some (.ref a)),calm:=false,pn:=X.pn++pins,xe:=λ _ _=>False }
def Its (x:Str):It:=⟨λ i _=>i<x.length,λ i H v H'=>H'=H/\∃ c,x.cps.toList[i]?=some c/\v=.str ⟨#[c]⟩,λ i _=>x.length<=i⟩
theorem Yc {P:Program}{w:World}{K:Y00}{tg:Expr}(it:Addr)(x:Str)(t:Tok):Turn P w K tg (Its x) [it] it (λ i h=>h.IsStrIter it "str_ascii_iterator" x t i) where
 mem:=by simp
 obj:=λ i h st b hb=>by
  have e:b=it:=by simpa using hb
  subst e;obtain ⟨o,e,c,d⟩:=st;exact ⟨o,e,λ v z=>by rw [d] at z;cases z⟩
 keep:=λ i h h' st k=>let ⟨o,e,r⟩:=st;⟨o,k it (by simp) o e,r⟩
 item:=by
  intro X hP hw hK hc i pins s σ H E I hf st hg;subst hP hw hK;obtain ⟨f0,f1,f2,f3,f4,f5⟩:=hf it (by simp);have hg':i<x.cps.size:=hg;refine wpAny_pyNext_ascii_item st (c:=x.cps[i]) (by simp [hg']) λ h' st' sb=>?_;have I1:Inv X pins σ H { s with heap:=h',toks:=s.toks+1 }:=I.turned (λ b o hb e=>(sb.2 b hb).trans e) f0 f1 f3 f4 f5;obtain ⟨o,e,c,d⟩:=id st';exact ⟨_,rfl,Zm (s:={ s with heap:=h',toks:=s.toks+1 }) e c d (by decide) ⟨.str ⟨#[x.cps[i]]⟩,H,I1,⟨_,rfl⟩,⟨rfl,x.cps[i],by simp [hg'],rfl⟩,st',λ b hb=>(hf b hb).1⟩⟩
 done:=by
  intro X hP hw hK hc i pins s σ H E I hf st hg;subst hP hw hK;obtain ⟨f0,f1,f2,f3,f4,f5⟩:=hf it (by simp);have hg':x.cps.size<=i:=hg;exact wpAny_pyNext_ascii_end (I.ok.hd hc) st (by simp [hg']) λ h' eb=>⟨rfl,I.turned (t':=s.toks) (λ b o hb e=>eb b o hb e) f0 f1 f3 f4 f5⟩
 self:=λ _ _ _ _ _ st h=>wpAny_pyIter_striter_ascii st h
theorem UZ {P:Program}{w:World}{K:Y00}{tg:Expr}(it:Addr)(x:Str)(t:Tok):Turn P w K tg (Its x) [it] it (λ i h=>h.IsStrIter it "str_iterator" x t i) where
 mem:=by simp
 obj:=λ i h st b hb=>by
  have e:b=it:=by simpa using hb
  subst e;obtain ⟨o,e,c,d⟩:=st;exact ⟨o,e,λ v z=>by rw [d] at z;cases z⟩
 keep:=λ i h h' st k=>let ⟨o,e,r⟩:=st;⟨o,k it (by simp) o e,r⟩
 item:=by
  intro X hP hw hK hc i pins s σ H E I hf st hg;subst hP hw hK;obtain ⟨f0,f1,f2,f3,f4,f5⟩:=hf it (by simp);have hg':i<x.cps.size:=hg;refine wpAny_pyNext_wide_item st (c:=x.cps[i]) (by simp [hg']) λ h' st' sb=>?_;have I1:Inv X pins σ H { s with heap:=h',toks:=s.toks+1 }:=I.turned (λ b o hb e=>(sb.2 b hb).trans e) f0 f1 f3 f4 f5;obtain ⟨o,e,c,d⟩:=id st';exact ⟨_,rfl,Zm (s:={ s with heap:=h',toks:=s.toks+1 }) e c d (by decide) ⟨.str ⟨#[x.cps[i]]⟩,H,I1,⟨_,rfl⟩,⟨rfl,x.cps[i],by simp [hg'],rfl⟩,st',λ b hb=>(hf b hb).1⟩⟩
 done:=by
  intro X hP hw hK hc i pins s σ H E I hf st hg;subst hP hw hK;obtain ⟨f0,f1,f2,f3,f4,f5⟩:=hf it (by simp);have hg':x.cps.size<=i:=hg;exact wpAny_pyNext_wide_end (I.ok.hd hc) st (by simp [hg']) λ h' eb=>⟨rfl,I.turned (t':=s.toks) (λ b o hb e=>eb b o hb e) f0 f1 f3 f4 f5⟩
 self:=λ _ _ _ _ _ st h=>wpAny_pyIter_striter_wide st h
section
variable {X:Cx}{tg:Expr}
theorem Zw:∀ {bs:List Bool}{us:List Value},Vals (bs.map V.bl) us->PyProof.Rows.LSm.BoolsAre us bs
 | [],_,r=>by cases r;exact .nil
 | b::bs,_,r=>by
  cases r with
  | cons r1 r2=>cases (show _=Value.bool b from r1);exact .cons b (Zw r2)
theorem Ge (hc:X.calm=true):zY X (.builtin "all") (λ xs H Q=>∃ (p:Addr) (bs:List Bool),xs=[.ref p]/\SqL X.K H p (bs.map V.bl)/\Q (.bl (bs.all id)) H):=by
 intro pins s σ H xs us Q I r h;obtain ⟨p,bs,rfl,hq,q⟩:=h;obtain ⟨u,rfl,ru⟩:=qo r;cases ru;obtain ⟨its,rv,pl,hz⟩:=I.list hq;have hb:=Zw rv;have hl:s.heap.IsList p its.toArray:=pl.isList;have hlt:p<s.heap.objs.size:=by obtain ⟨_,e,_⟩:=hl;exact Y05 e
 refine call_all_walk (wpAny_pyIter_list hl ?_);refine ⟨s.heap.objs.size,[s.heap.objs.size,p],[s.heap.objs.size],its.toArray.size,_,_,λ i=>(bs[i]?).getD true,rfl,Walks.list (A:=X.A.in1) (I.ok.hd hc) _ p (Y0g hlt) its.toArray,
  ⟨⟨_,Y0c _ rfl,rfl,rfl⟩,hl.push _⟩,λ i v s' Q' E' hP hQ=>?_,λ h' tk hk=>?_⟩
 ·obtain ⟨b,e,rfl⟩:=hb.get i v (by simpa using hP);simp only [e,Y3j] at hQ;exact wpAny_truthy_bool hQ
 ·have e:((List.range its.toArray.size).all λ i=>(bs[i]?).getD true)=bs.all id:=by
   rw [Y0b,hb.length];exact PyProof.Rows.LSm.range_all bs
  rw [e];exact ⟨.bl (bs.all id),H,I.kept (PyProof.Rows.LSm.kept_iter hk),rfl,q⟩
theorem V0:zY X (.type "int") (λ xs H Q=>∃ x n,xs=[.str x]/\PySem.intText? x=some n/\x.length<=640/\Q (.int n) H):=by
 intro pins s σ H xs us Q I r h;obtain ⟨x,n,rfl,hn,hl,q⟩:=h;obtain ⟨u,rfl,t,rfl⟩:=qo r;exact PySem.W.KIN.call_text hn hl ⟨.int n,H,I.tok _,⟨_,rfl⟩,q⟩
end
def z70 (X:Cx)(st:List Stmt)(t:TS):Prop :=
 ∀ (pins:List (Addr×Obj)) (s:Shared) (σ:St) (H:Hp) (D:Ends),Inv X pins σ H s->0<s.toks->t D σ H->wpAny (model X.prog X.w) X.A (execs st X.env) (SP X pins D) X.xe s
structure Walk (J:It)(xs:List V)(Pv:Hp->Prop):Prop where
 stop:∀ H,Pv H->J.stop xs.length H
 go:∀ i H,i<xs.length->Pv H->J.go i H
 yld:∀ i H x H',i<xs.length->Pv H->J.yld i H x H'->H'=H/\xs[i]?=some x
section
variable {P:Program}{w:World}{K:Y00}{mg:Str->Option Value}{base:Heap}
theorem Fun.okX {x qual:Str}{st:Stmt}{f:Addr}{fd:FuncData}{N ps:List Str}{k:Nat}{sp:Sp}(F:Fun K x qual st f fd)(S:FnScope N ps (zy st))(len:∀ vs H Q E,sp vs H Q E->vs.length=ps.length)
  (hbody:∀ (cdv:Value) (A:Around) (outer:List Env) (s:Shared) (H:Hp) (vs:List V) (Q:VK) (E:XK),Room k (A.deeper (envOfC qual (zy st) s.heap.objs.size f cdv))->sp vs H Q E ->
   ∃ t,PSs (Wh (CXs P w) P w K mg base N qual (zy st) f cdv A outer s H E) (zR st) t/\t { nx:=λ _ H'=>Q .non H',rt:=Q } (start N vs) H):FnOk P w K mg base (CXs P w) (k+1) f fd ps sp:=by
 obtain ⟨oc,od,kV,doc,pm,an,cdv,ct,osl,rfl,lk,hcd⟩:=F.ex;exact z40 lk hcd S len λ A outer s H vs Q E hr hsp=>hbody cdv A outer s H vs Q E hr hsp
end
abbrev TJ:=St->Hp->Str->(Str->Hp->Prop)->Prop
section
variable {X:Cx}{e v₁ v₂:Expr}{es:List Expr}{te:TE}{t:TJ}{c:Str}{k:Nat}{pos p:Pos}
def OX (K:Y00)(neg:Bool):R2:=λ x y H Q=>∃ p q xs,x=.ref p/\y=.ref q/\SqL K H p xs/\SqL K H q []/\Q (.bl (if neg then !xs.isEmpty else xs.isEmpty)) H
theorem Gf (hu:X.A.units<cLine):OpR X (compareOp .Eq) (OX X.K false):=by
 intro pins s σ H x y v u Q I rx ry h;obtain ⟨p,q,xs,rfl,rfl,h1,h2,hq⟩:=h;cases rx;cases ry;obtain ⟨its,r,pl,hz⟩:=I.list h1;obtain ⟨its2,r2,pl2,_⟩:=I.list h2;cases r2;cases xs with
 | nil =>
  cases r;exact SeqAt.eq_listAt (e:=λ _=>true) pl.isList pl2.isList rfl hu (λ j h1 _=>absurd h1 (by simp)) ⟨.bl true,H,I,rfl,hq⟩
 | cons a t =>
  cases r with
  | cons r1 r2=>exact SeqAt.eq_list_lengthsAt pl.isList pl2.isList (by simp) hu ⟨.bl false,H,I,rfl,hq⟩
theorem Gg (hu:X.A.units<cLine):OpR X (compareOp .NotEq) (OX X.K true):=by
 intro pins s σ H x y v u Q I rx ry h;obtain ⟨p,q,xs,rfl,rfl,h1,h2,hq⟩:=h;cases rx;cases ry;obtain ⟨its,r,pl,hz⟩:=I.list h1;obtain ⟨its2,r2,pl2,_⟩:=I.list h2;cases r2;cases xs with
 | nil =>
  cases r;exact SeqAt.RcNeAt.lists (e:=λ _=>true) pl.isList pl2.isList rfl hu (λ j h1 _=>absurd h1 (by simp)) _ _ _ _ ⟨.bl false,H,I,rfl,hq⟩
 | cons a t =>
  cases r with
  | cons r1 r2=>exact SeqAt.RcNeAt.lists_lengths pl.isList pl2.isList (by simp) hu _ _ _ _ ⟨.bl true,H,I,rfl,hq⟩
end
def SIt (h:Heap)(i a:Addr)(k:Nat)(xs:Array Value):Prop:=(h.IsListIter i a k/\h.IsList a xs)\/(h.IsTupleIter i a k/\h.IsTuple a xs)
theorem SIt.move {h h':Heap}{i a:Addr}{k:Nat}{xs:Array Value}(x:SIt h i a k xs)(hi:∀ o,h.get? i=some o->h'.get? i=some o)(ha:∀ o,h.get? a=some o->h'.get? a=some o):SIt h' i a k xs:=by
 rcases x with ⟨x,y⟩ | ⟨x,y⟩
 ·exact .inl ⟨x.at hi,y.at ha⟩
 ·exact .inr ⟨x.at hi,y.at ha⟩
theorem SIt.there {h:Heap}{i a:Addr}{k:Nat}{xs:Array Value}(x:SIt h i a k xs):∃ o,h.get? i=some o/\∀ v,o.data≠.cell v:=by
 rcases x with ⟨⟨o,e,_,d⟩,_⟩ | ⟨⟨o,e,_,d⟩,_⟩<;>exact ⟨o,e,λ v z=>by rw [d] at z;cases z⟩
section
variable {prog:Program}{w:World}{A:Around}{E:Value->Shared->Prop}{s:Shared}
theorem yr {it t:Addr}{i:Nat}{items:Array Value}{x:Value}{Q:Value->Shared->Prop}(hit:s.heap.IsTupleIter it t i)(ht:s.heap.IsTuple t items)(hx:items[i]?=some x)
  (hQ:∀ h',h'.IsTupleIter it t (i+1)->Heap.SameBut it s.heap h'->Q x { s with heap:=h' }):wpAny (model prog w) A (Builtin.SmallTypes.nextOf (.ref it)) Q E s:=by
 obtain ⟨o,ho,hc,hd⟩:=id hit;obtain ⟨ol,hol,_,nl,hdl⟩:=ht;unfold Builtin.SmallTypes.nextOf;refine wpAny_bind (wpAny_callSpecial?_slot (name:=Str.ofString "__next__") hit.typeIs Y1q
  (wpAny_call_entry Y1q hit.typeIs Y3d ?_ (Y3b _)))
 show wpAny _ _ (field (.ref it) 0 >>= _) _ _ s;refine wpAny_bind (wpAny_field ho hd (x:=.ref t) rfl ?_);show wpAny _ _ (if (Value.ref t==Value.none)=true then _ else _) _ _ s;rw [if_neg (show ¬ ((Value.ref t==Value.none)=true) from Y0t)];show wpAny _ _ (field (.ref it) 1 >>= _) _ _ s;refine wpAny_bind (wpAny_field ho hd (x:=.int i 0) rfl ?_);show wpAny _ _ (seqItems? (.ref t) >>= _) _ _ s;refine wpAny_bind (wpAny_seqItems hol hdl ?_);simp only [Y1u,hx];refine wpAny_bind (wpAny_setField ho hd (by simp) (wpAny_pure ⟨x,rfl,wpAny_pure (hQ _ ?_ (Heap.SameBut.update ..))⟩));exact ⟨_,Y12 _ ho (Obj.isFreed_of_fields (Obj.data_mapFields hd _)),(Obj.cls_mapFields ..).trans hc,by
  rw [Obj.data_mapFields hd];simp [rawInt]⟩
theorem yK {it t:Addr}{i:Nat}{items:Array Value}{Q:Value->Shared->Prop}(hh:A.handled=none)(hit:s.heap.IsTupleIter it t i)(ht:s.heap.IsTuple t items)(hx:items[i]?=none)
  (hE:∀ h' e,Heap.ExtBut it s.heap h'->(∃ o,h'.get? e=some o/\o.cls=.type "StopIteration")->E (.ref e) { s with heap:=h' }):wpAny (model prog w) A (Builtin.SmallTypes.nextOf (.ref it)) Q E s:=by
 obtain ⟨o,ho,hc,hd⟩:=id hit;obtain ⟨ol,hol,_,nl,hdl⟩:=ht;unfold Builtin.SmallTypes.nextOf;refine wpAny_bind (wpAny_callSpecial?_slot (name:=Str.ofString "__next__") hit.typeIs Y1q
  (wpAny_call_entry Y1q hit.typeIs Y3d ?_ (Y3b _)))
 show wpAny _ _ (field (.ref it) 0 >>= _) _ _ s;refine wpAny_bind (wpAny_field ho hd (x:=.ref t) rfl ?_);show wpAny _ _ (if (Value.ref t==Value.none)=true then _ else _) _ _ s;rw [if_neg (show ¬ ((Value.ref t==Value.none)=true) from Y0t)];show wpAny _ _ (field (.ref it) 1 >>= _) _ _ s;refine wpAny_bind (wpAny_field ho hd (x:=.int i 0) rfl ?_);show wpAny _ _ (seqItems? (.ref t) >>= _) _ _ s;refine wpAny_bind (wpAny_seqItems hol hdl ?_);simp only [Y1u,hx];refine wpAny_bind (wpAny_rule (wpAny_bind (wpAny_setField ho hd (by simp) ?_)));show wpAny _ _ (newExc (.type "StopIteration") [] >>= _) _ _ _;refine wpAny_bind ?_;simp only [newExc,newTuple];refine wpAny_bind (wpAny_newObj_type ?_ (by size_fits));refine wpAny_bind (m:=firstArgMember _ _) (wpAny_of_eq (a:=Value.none) (by first | rfl | (simp only [firstArgMember];rfl)) ?_);refine wpAny_newObj_type ?_ (by size_fits);simp only [raiseNew];refine wpAny_bind (wpAny_handled ?_)
 first | rw [show A.in1.handled=none from hh] | rw [hh]
 refine wpAny_bind (wpAny_pure (wpAny_throw ?_));exact hE _ _ (((Heap.SameBut.update ..).extBut.push _).push _) ⟨_,Y0c _ rfl,rfl⟩
theorem zK {i a:Addr}{k:Nat}{xs:Array Value}{x:Value}{Q:Value->Shared->Prop}(hne:a≠i)(h:SIt s.heap i a k xs)(hx:xs[k]?=some x)
  (hQ:∀ h',SIt h' i a (k+1) xs->Heap.SameBut i s.heap h'->Q x { s with heap:=h' }):wpAny (model prog w) A (Builtin.SmallTypes.nextOf (.ref i)) Q E s:=by
 rcases h with ⟨h1,h2⟩ | ⟨h1,h2⟩
 ·exact wpAny_nextOf_list_item h1 h2 hx λ h' h3 sb=>hQ h' (.inl ⟨h3,h2.extBut sb.extBut hne⟩) sb
 ·exact yr h1 h2 hx λ h' h3 sb=>hQ h' (.inr ⟨h3,h2.extBut sb.extBut hne⟩) sb
theorem jz {i a:Addr}{k:Nat}{xs:Array Value}{Q:Value->Shared->Prop}(hh:A.handled=none)(h:SIt s.heap i a k xs)(hx:xs[k]?=none)
  (hE:∀ h' e,Heap.ExtBut i s.heap h'->(∃ o,h'.get? e=some o/\o.cls=.type "StopIteration")->E (.ref e) { s with heap:=h' }):wpAny (model prog w) A (Builtin.SmallTypes.nextOf (.ref i)) Q E s:=by
 rcases h with ⟨h1,h2⟩ | ⟨h1,h2⟩
 ·exact wpAny_nextOf_list_end hh h1 h2 hx hE
 ·exact yK hh h1 h2 hx hE
theorem SIt.ext {h h':Heap}{i a b:Addr}{k:Nat}{xs:Array Value}(x:SIt h i a k xs)(hs:Heap.ExtBut b h h')(h1:i≠b)(h2:a≠b):SIt h' i a k xs:=x.move (λ o e=>hs i o h1 e) (λ o e=>hs a o h2 e)
theorem Zx {z TI TO i1 i2 l1 l2:Addr}{k1 k2:Nat}{xs ys:Array Value}{x y a b:Value}{Q:Value->Shared->Prop}(D:ZipApart z TI TO i1 i2 l1 l2)
  (hz:IsZip s.heap z TI TO .none) (hTI:IsPair s.heap TI (.ref i1) (.ref i2)) (hTO:IsPair s.heap TO a b)
  (h1:SIt s.heap i1 l1 k1 xs) (h2:SIt s.heap i2 l2 k2 ys) (hx:xs[k1]?=some x) (hy:ys[k2]?=some y)
  (hQ:∀ h',IsZip h' z TI TO (rawInt s.heap.objs.size)->IsPair h' TO x y->SIt h' i1 l1 (k1+1) xs->SIt h' i2 l2 (k2+1) ys->IsPair h' s.heap.objs.size x y->h'.objs.size=s.heap.objs.size+1 ->
   (∀ c o,c≠z->c≠TO->c≠i1->c≠i2->s.heap.get? c=some o->h'.get? c=some o)->Q (.ref s.heap.objs.size) { s with heap:=h' }) :
  wpAny (model prog w) A (Builtin.«zip.__next__» ⟨[.ref z],[]⟩) (λ fin s'=>∃ v,fin=.done (.ret v)/\Q v s') E s:=by
 show wpAny _ _ (field (.ref z) 2 >>= _) _ _ _;refine wpAny_bind (wpAny_field hz rfl (x:=.bool false) rfl ?_);show wpAny _ _ (field (.ref z) 3 >>= _) _ _ _;refine wpAny_bind (wpAny_field hz rfl (x:=.ref TI) rfl ?_);refine wpAny_bind (wpAny_seqItems hTI rfl ?_);show wpAny _ _ (Builtin.SmallTypes.ownedTupleIsFree (.ref z) >>= _) _ _ _;refine wpAny_bind ?_;unfold Builtin.SmallTypes.ownedTupleIsFree;refine wpAny_bind (wpAny_field hz rfl (x:=.none) rfl (wpAny_pure ?_));simp only [if_true];refine wpAny_bind (wpAny_rule ?_);refine wpAny_bind (wpAny_field hz rfl (x:=.ref TO) rfl ?_);refine wpAny_bind (wpAny_setField_rec hz (by simp) λ h₁ hz₁ hs₁=>?_);replace hz₁:IsZip h₁ z TI TO .ellipsis:=hz₁;refine wpAny_bind ?_;simp only [Y2y,Y34,Y24,Y29];refine wpAny_bind (wpAny_bind (wpAny_onRaise ?_));show wpAny _ _ (Builtin.SmallTypes.nextOf (.ref i1) >>= _) _ _ _;refine wpAny_bind (zK D.l1i1 (h1.ext hs₁.extBut D.i1z D.l1z) hx λ h₂ h1₂ hs₂=>wpAny_pure ?_);have hTO₂:IsPair h₂ TO a b:=hs₂.extBut _ _ D.TOi1 (hs₁.extBut _ _ D.TOz hTO);refine wpAny_bind (wpAny_seqItems hTO₂ rfl ?_);refine wpAny_bind (wpAny_updateSeq_pair hTO₂ λ h₃ hTO₃ hs₃=>?_);replace hTO₃:IsPair h₃ TO x b:=hTO₃;refine wpAny_bind (wpAny_letGo (wpAny_pure ?_));refine wpAny_bind (wpAny_bind (wpAny_onRaise ?_));show wpAny _ _ (Builtin.SmallTypes.nextOf (.ref i2) >>= _) _ _ _;refine wpAny_bind (zK D.l2i2 (((h2.ext hs₁.extBut D.i2z D.l2z).ext hs₂.extBut D.i12.symm D.l2i1).ext hs₃.extBut D.TOi2.symm D.l2TO) hy λ h₄ h2₄ hs₄=>wpAny_pure ?_);have hTO₄:IsPair h₄ TO x b:=hs₄.extBut _ _ D.TOi2 hTO₃;refine wpAny_bind (wpAny_seqItems hTO₄ rfl ?_);refine wpAny_bind (wpAny_updateSeq_pair hTO₄ λ h₅ hTO₅ hs₅=>?_);replace hTO₅:IsPair h₅ TO x y:=hTO₅;refine wpAny_bind (wpAny_letGo (wpAny_pure (wpAny_pure ?_)));refine wpAny_bind (wpAny_seqItems hTO₅ rfl ?_);refine wpAny_bind (wpAny_newTuple ?_);have hsz:h₅.objs.size=s.heap.objs.size:=by rw [hs₅.1,hs₄.1,hs₃.1,hs₂.1,hs₁.1]
 have hz₅:IsZip h₅ z TI TO .ellipsis:=hs₅.extBut _ _ D.TOz.symm (hs₄.extBut _ _ D.i2z.symm (hs₃.extBut _ _ D.TOz.symm (hs₂.extBut _ _ D.i1z.symm hz₁)));have hk₅:∀ c o,c≠z->c≠TO->c≠i1->c≠i2->s.heap.get? c=some o->h₅.get? c=some o:=λ c o c1 c2 c3 c4 e =>
  hs₅.extBut _ _ c2 (hs₄.extBut _ _ c4 (hs₃.extBut _ _ c2 (hs₂.extBut _ _ c3 (hs₁.extBut _ _ c1 e))))
 have h1₅:SIt h₅ i1 l1 (k1+1) xs:=((h1₂.ext hs₃.extBut D.TOi1.symm D.l1TO).ext hs₄.extBut D.i12 D.l1i2).ext hs₅.extBut D.TOi1.symm D.l1TO;have h2₅:SIt h₅ i2 l2 (k2+1) ys:=h2₄.ext hs₅.extBut D.TOi2.symm D.l2TO;have hzlt:z<h₅.objs.size:=Y05 hz₅;have hTOlt:TO<h₅.objs.size:=Y05 hTO₅;have hi1lt:i1<h₅.objs.size:=by obtain ⟨_,e,_⟩:=h1₅.there;exact Y05 e
 have hi2lt:i2<h₅.objs.size:=by obtain ⟨_,e,_⟩:=h2₅.there;exact Y05 e
 show wpAny _ _ (Builtin.SmallTypes.ownedTupleHandOut (.ref z) (.ref h₅.objs.size) >>= _) _ _ _;refine wpAny_bind ?_;unfold Builtin.SmallTypes.ownedTupleHandOut;have hz₆:IsZip (h₅.push { cls:=.type "tuple",data:=.seq #[x,y] }) z TI TO .ellipsis:=Y01 _ hz₅;refine wpAny_bind (wpAny_setField_rec hz₆ (by simp) λ h₇ hz₇ hs₇=>?_);replace hz₇:IsZip h₇ z TI TO (rawInt h₅.objs.size):=hz₇;refine wpAny_setField_rec hz₇ (by simp) λ h₈ hz₈ hs₈=>?_;replace hz₈:IsZip h₈ z TI TO (rawInt h₅.objs.size):=hz₈;have up:∀ c o,c≠z->h₅.get? c=some o->h₈.get? c=some o:=λ c o c1 e=>hs₈.extBut _ _ c1 (hs₇.extBut _ _ c1 (Y01 _ e));have hT₈:IsPair h₈ h₅.objs.size x y:=hs₈.extBut _ _ (Y17 hzlt) (hs₇.extBut _ _ (Y17 hzlt) (Y0c _ rfl));have hz8:h₈.objs.size=h₅.objs.size+1:=by rw [hs₈.1,hs₇.1,Y1g]
 rw [hsz] at hz₈ hT₈ hz8;refine wpAny_pure ⟨_,rfl,?_⟩;show Q (.ref h₅.objs.size) _;rw [hsz];exact hQ h₈ hz₈ (up _ _ D.TOz hTO₅) (h1₅.move (λ o e=>up _ o D.i1z e) (λ o e=>up _ o D.l1z e)) (h2₅.move (λ o e=>up _ o D.i2z e) (λ o e=>up _ o D.l2z e)) hT₈ hz8 λ c o c1 c2 c3 c4 e=>up c o c1 (hk₅ c o c1 c2 c3 c4 e)
theorem Jk {z TI TO i1 i2 l1 l2:Addr}{k1 k2:Nat}{xs ys:Array Value}{a b:Value}{Q:Fin->Shared->Prop}(hh:A.handled=none)(D:ZipApart z TI TO i1 i2 l1 l2)
  (hz:IsZip s.heap z TI TO .none) (hTI:IsPair s.heap TI (.ref i1) (.ref i2)) (hTO:IsPair s.heap TO a b)
  (h1:SIt s.heap i1 l1 k1 xs) (h2:SIt s.heap i2 l2 k2 ys) (hend:xs[k1]?=none\/ys[k2]?=none)
  (hE:∀ h' e,(∀ c o,c≠z->c≠TO->c≠i1->c≠i2->s.heap.get? c=some o->h'.get? c=some o)->(∃ o,h'.get? e=some o/\o.cls=.type "StopIteration")->E (.ref e) { s with heap:=h' }) :
  wpAny (model prog w) A (Builtin.«zip.__next__» ⟨[.ref z],[]⟩) Q E s:=by
 show wpAny _ _ (field (.ref z) 2 >>= _) _ _ _;refine wpAny_bind (wpAny_field hz rfl (x:=.bool false) rfl ?_);show wpAny _ _ (field (.ref z) 3 >>= _) _ _ _;refine wpAny_bind (wpAny_field hz rfl (x:=.ref TI) rfl ?_);refine wpAny_bind (wpAny_seqItems hTI rfl ?_);show wpAny _ _ (Builtin.SmallTypes.ownedTupleIsFree (.ref z) >>= _) _ _ _;refine wpAny_bind ?_;unfold Builtin.SmallTypes.ownedTupleIsFree;refine wpAny_bind (wpAny_field hz rfl (x:=.none) rfl (wpAny_pure ?_));simp only [if_true];refine wpAny_bind (wpAny_rule ?_);refine wpAny_bind (wpAny_field hz rfl (x:=.ref TO) rfl ?_);refine wpAny_bind (wpAny_setField_rec hz (by simp) λ h₁ hz₁ hs₁=>?_);replace hz₁:IsZip h₁ z TI TO .ellipsis:=hz₁;refine wpAny_bind ?_;simp only [Y2y,Y34,Y24,Y29];refine wpAny_bind (wpAny_bind (wpAny_onRaise ?_));show wpAny _ _ (Builtin.SmallTypes.nextOf (.ref i1) >>= _) _ _ _;cases hx:xs[k1]? with
 | none =>
  refine wpAny_bind (jz hh (h1.ext hs₁.extBut D.i1z D.l1z) hx λ h₂ e hs₂ he=>?_);obtain ⟨oe,hoe,hce⟩:=he;have hz₂:IsZip h₂ z TI TO .ellipsis:=hs₂ _ _ D.i1z.symm hz₁;have hez:e≠z:=λ x=>by subst x;rw [hz₂] at hoe;cases hoe;simp at hce
  refine wpAny_setField_rec hz₂ (by simp) λ h₃ _ hs₃=>hE h₃ e (λ c o c1 _ c3 _ x=>hs₃.extBut _ _ c1 (hs₂ _ _ c3 (hs₁.extBut _ _ c1 x))) ⟨oe,hs₃.extBut _ _ hez hoe,hce⟩
 | some x =>
  have hy:ys[k2]?=none:=by rcases hend with h | h;rw [hx] at h;cases h;exact h
  refine wpAny_bind (zK D.l1i1 (h1.ext hs₁.extBut D.i1z D.l1z) hx λ h₂ h1₂ hs₂=>wpAny_pure ?_);have hTO₂:IsPair h₂ TO a b:=hs₂.extBut _ _ D.TOi1 (hs₁.extBut _ _ D.TOz hTO);refine wpAny_bind (wpAny_seqItems hTO₂ rfl ?_);refine wpAny_bind (wpAny_updateSeq_pair hTO₂ λ h₃ hTO₃ hs₃=>?_);refine wpAny_bind (wpAny_letGo (wpAny_pure ?_));refine wpAny_bind (wpAny_bind (wpAny_onRaise ?_));show wpAny _ _ (Builtin.SmallTypes.nextOf (.ref i2) >>= _) _ _ _;refine wpAny_bind (jz hh (((h2.ext hs₁.extBut D.i2z D.l2z).ext hs₂.extBut D.i12.symm D.l2i1).ext hs₃.extBut D.TOi2.symm D.l2TO) hy λ h₄ e hs₄ he=>?_);obtain ⟨oe,hoe,hce⟩:=he;have hz₄:IsZip h₄ z TI TO .ellipsis:=hs₄ _ _ D.i2z.symm (hs₃.extBut _ _ D.TOz.symm (hs₂.extBut _ _ D.i1z.symm hz₁));have hez:e≠z:=λ x=>by subst x;rw [hz₄] at hoe;cases hoe;simp at hce
  refine wpAny_setField_rec hz₄ (by simp) λ h₅ _ hs₅=>hE h₅ e (λ c o c1 c2 c3 c4 x=>hs₅.extBut _ _ c1 (hs₄ _ _ c4 (hs₃.extBut _ _ c2 (hs₂.extBut _ _ c3 (hs₁.extBut _ _ c1 x))))) ⟨oe,hs₅.extBut _ _ hez hoe,hce⟩
theorem yL {z TI TO i1 i2 l1 l2:Addr}{k1 k2:Nat}{xs ys:Array Value}{x y a b:Value}{Q:Option Value->Shared->Prop}(D:ZipApart z TI TO i1 i2 l1 l2)
  (hz:IsZip s.heap z TI TO .none) (hTI:IsPair s.heap TI (.ref i1) (.ref i2)) (hTO:IsPair s.heap TO a b)
  (h1:SIt s.heap i1 l1 k1 xs) (h2:SIt s.heap i2 l2 k2 ys) (hx:xs[k1]?=some x) (hy:ys[k2]?=some y)
  (hQ:∀ h',IsZip h' z TI TO (rawInt s.heap.objs.size)->IsPair h' TO x y->SIt h' i1 l1 (k1+1) xs->SIt h' i2 l2 (k2+1) ys->IsPair h' s.heap.objs.size x y->h'.objs.size=s.heap.objs.size+1 ->
   (∀ c o,c≠z->c≠TO->c≠i1->c≠i2->s.heap.get? c=some o->h'.get? c=some o)->Q (some (.ref s.heap.objs.size)) { s with heap:=h' }) :
  wpAny (model prog w) A (pyNext (.ref z)) Q E s:=by
 have hT:s.TypeIs (.ref z) "zip":=⟨_,hz,rfl⟩;unfold pyNext;exact wpAny_bind (wpAny_attempt (wpAny_callSpecial?_slot (name:=Str.ofString "__next__") hT Y1c
  (wpAny_call_entry Y1c hT Y2h
   (Zx D hz hTI hTO h1 h2 hx hy λ h' a1 a2 a3 a4 a5 a6 a7=>wpAny_pure (hQ h' a1 a2 a3 a4 a5 a6 a7)) (Y2f _))))
theorem Z6 {z TI TO i1 i2 l1 l2:Addr}{k1 k2:Nat}{xs ys:Array Value}{a b:Value}{Q:Option Value->Shared->Prop}(hh:A.handled=none)(D:ZipApart z TI TO i1 i2 l1 l2)
  (hz:IsZip s.heap z TI TO .none) (hTI:IsPair s.heap TI (.ref i1) (.ref i2)) (hTO:IsPair s.heap TO a b)
  (h1:SIt s.heap i1 l1 k1 xs) (h2:SIt s.heap i2 l2 k2 ys) (hend:xs[k1]?=none\/ys[k2]?=none)
  (hQ:∀ h',(∀ c o,c≠z->c≠TO->c≠i1->c≠i2->s.heap.get? c=some o->h'.get? c=some o)->Q none { s with heap:=h' }):wpAny (model prog w) A (pyNext (.ref z)) Q E s:=by
 have hT:s.TypeIs (.ref z) "zip":=⟨_,hz,rfl⟩;unfold pyNext;refine wpAny_bind (wpAny_attempt (wpAny_callSpecial?_slot (name:=Str.ofString "__next__") hT Y1c
  (wpAny_call_entry Y1c hT Y2h (Jk hh D hz hTI hTO h1 h2 hend λ h' e hk he=>?_) (Y2f _))))
 obtain ⟨o,ho,hc⟩:=he;refine wpAny_bind (wpAny_isInstance (T:="StopIteration") (b:=true) ⟨o,ho,hc⟩ isSubtype_stop ?_);exact wpAny_pure (hQ _ hk)
end
def ItR (h:Heap)(i a:Addr)(k:Nat)(b:Bool):Prop:=if b=true then h.IsListIter i a k else h.IsTupleIter i a k
def SqB (K:Y00)(H:Hp)(a:Addr)(b:Bool)(xs:List V):Prop:=if b=true then SqL K H a xs else SqT K H a xs
theorem ItR.at {h h':Heap}{i a:Addr}{k:Nat}{b:Bool}(x:ItR h i a k b)(hi:∀ o,h.get? i=some o->h'.get? i=some o):ItR h' i a k b:=by
 cases b with
 | true=>exact Heap.IsListIter.at (show h.IsListIter i a k from x) hi
 | false=>exact Heap.IsTupleIter.at (show h.IsTupleIter i a k from x) hi
theorem ItR.rec {h:Heap}{i a:Addr}{k:Nat}{b:Bool}(x:ItR h i a k b):∃ o vs,h.get? i=some o/\o.data=.fields vs:=by
 cases b with
 | true=>obtain ⟨o,e,_,d⟩:=(show h.IsListIter i a k from x);exact ⟨o,_,e,d⟩
 | false=>obtain ⟨o,e,_,d⟩:=(show h.IsTupleIter i a k from x);exact ⟨o,_,e,d⟩
section
variable {X:Cx}{pins:List (Addr×Obj)}{σ:St}{H:Hp}{s:Shared}
theorem Inv.seqB {a:Addr}{b:Bool}{xs:List V}(I:Inv X pins σ H s)(h:SqB X.K H a b xs):∃ its:List Value,Vals xs its/\(∀ (i:Addr) (k:Nat) (h':Heap),ItR h' i a k b->(∀ o,s.heap.get? a=some o->h'.get? a=some o)->SIt h' i a k its.toArray)/\∃ o n,s.heap.get? a=some o/\o.data=.seq its.toArray n:=by
 cases b with
 | true =>
  obtain ⟨its,r,pl,_⟩:=I.list (show SqL X.K H a xs from h);have hl:s.heap.IsList a its.toArray:=pl.isList;obtain ⟨o,e,c,n,d⟩:=id hl;exact ⟨its,r,λ i k h' x ka=>.inl ⟨x,hl.at ka⟩,o,n,e,d⟩
 | false =>
  obtain ⟨its,r,pl,_⟩:=I.tuple (show SqT X.K H a xs from h);have hl:s.heap.IsTuple a its.toArray:=pl;obtain ⟨o,e,c,n,d⟩:=id hl;exact ⟨its,r,λ i k h' x ka=>.inr ⟨x,hl.at ka⟩,o,n,e,d⟩
theorem Inv.seqB_inj {a:Addr}{b:Bool}{xs ys:List V}(I:Inv X pins σ H s)(h:SqB X.K H a b xs)(h':SqB X.K H a b ys):xs=ys:=by
 cases b with
 | true=>exact I.list_inj (show SqL X.K H a xs from h) h'
 | false=>exact I.tuple_inj (show SqT X.K H a xs from h) h'
end
section
variable {X:Cx}{pins:List (Addr×Obj)}{σ:St}{H:Hp}{s:Shared}{h':Heap}
theorem Inv.turnedL {t':Nat}{l:List Addr}(I:Inv X pins σ H s)(k:∀ b o,b∉l->s.heap.get? b=some o->h'.get? b=some o)(hf:∀ b∈l,yf X pins H b):Inv X pins σ H { s with heap:=h',toks:=t' }:=by
 have nit:∀ b u,H b=some u->b∉l:=λ b u e z=>by rw [(hf b z).1] at e;cases e
 have hL:X.env.locals∉l:=λ z=>(hf _ z).2.1 rfl;refine I.step (g':=s.gens) (d':=s.drawn) (ch:=l) (λ b hb=>?_) (λ b o _ _ hc e _=>k b o hc e) (λ b o _ _ hc e _=>⟨o.slots,k b o hc e⟩) (λ _ _ _ _ n=>n)
  (λ b o hc e=>⟨o,k b o hc e⟩) (λ _ _ e=>e) (λ _ _ _ e=>e) (λ b ps e=>⟨#[],by rw [e];simp⟩) (λ m hm=>?_) (λ b u e=>?_) I.bare
 ·obtain ⟨_,f1,_,f3,f4,f5⟩:=hf b hb;exact ⟨f3,f1,f4,f5⟩
 ·obtain ⟨o,es,ep,ho,r⟩:=hm;exact ⟨o,es,ep,k _ o hL ho,r⟩
 ·refine (I.hok b u e).stay (λ c v hc q=>k c v ?_ q) (λ _ q=>q) λ _ _ q=>q;rcases hc with z | z
  ·rw [z];exact nit b u e
  ·exact nit c _ z
end
theorem ItR.ofS {h:Heap}{i a:Addr}{k m:Nat}{xs ys:Array Value}{b:Bool}{h0:Heap}(x:SIt h i a k xs)(q:ItR h0 i a m b)(y:SIt h0 i a m ys)(hc:∀ o,h0.get? a=some o->h.get? a=some o):ItR h i a k b:=by
 cases b with
 | true =>
  rcases x with ⟨x,_⟩ | ⟨_,⟨o,e,c,n,d⟩⟩
  ·exact x
  ·rcases y with ⟨_,⟨o',e',c',_⟩⟩ | ⟨⟨o',e',c',_⟩,_⟩
   ·have:=hc _ e';rw [e] at this;cases this;rw [c] at c';exact absurd c' (by decide)
   ·obtain ⟨o2,e2,c2,_⟩:=(show h0.IsListIter i a m from q);rw [e2] at e';cases e';rw [c2] at c';exact absurd c' (by decide)
 | false =>
  rcases x with ⟨_,⟨o,e,c,n,d⟩⟩ | ⟨x,_⟩
  ·rcases y with ⟨⟨o',e',c',_⟩,_⟩ | ⟨_,⟨o',e',c',_⟩⟩
   ·obtain ⟨o2,e2,c2,_⟩:=(show h0.IsTupleIter i a m from q);rw [e2] at e';cases e';rw [c2] at c';exact absurd c' (by decide)
   ·have:=hc _ e';rw [e] at this;cases this;rw [c] at c';exact absurd c' (by decide)
  ·exact x
def Itz (K:Y00)(l1 l2:Addr)(b1 b2:Bool)(n m:Nat):It :=
  ⟨λ i H=>i<n/\i<m/\∃ xs ys,SqB K H l1 b1 xs/\SqB K H l2 b2 ys/\xs.length=n/\ys.length=m,
   λ i H v H'=>∃ T,v=.ref T/\H T=none/\∀ xs ys,SqB K H l1 b1 xs->SqB K H l2 b2 ys->∃ x y,xs[i]?=some x/\ys[i]?=some y/\H'=upd H T (.tup [x,y]),
   λ i H=>(i=n\/i=m)/\∃ xs ys,SqB K H l1 b1 xs/\SqB K H l2 b2 ys/\xs.length=n/\ys.length=m⟩
def ZTn (z TI TO i1 i2 l1 l2:Addr)(b1 b2:Bool)(i:Nat)(h:Heap):Prop :=
 IsZip h z TI TO .none/\IsPair h TI (.ref i1) (.ref i2)/\(∃ a b,IsPair h TO a b)/\ItR h i1 l1 i b1/\ItR h i2 l2 i b2
theorem Gh {P:Program}{w:World}{K:Y00}{elts:List Expr}{x1}{pos:Pos}{z TI TO i1 i2 l1 l2:Addr}(D:ZipApart z TI TO i1 i2 l1 l2)(hT1:l1≠TI)(hT2:l2≠TI)(b1 b2:Bool)(n m:Nat) :
  Turn P w K (.Tuple elts x1 pos) (Itz K l1 l2 b1 b2 n m) [z,TI,TO,i1,i2] z (ZTn z TI TO i1 i2 l1 l2 b1 b2) where
 mem:=by simp
 obj:=λ i h st b hb=>by
  obtain ⟨z0,zI,⟨a,c,zO⟩,t1,t2⟩:=st;have sq:∀ {i a k b},ItR h i a k b->∃ o,h.get? i=some o/\∀ v,o.data≠.cell v:=λ t=>by
   obtain ⟨o,vs,e,d⟩:=t.rec;exact ⟨o,e,λ v q=>by rw [d] at q;cases q⟩
  simp only [Y06,Y0k,or_false] at hb;rcases hb with rfl | rfl | rfl | rfl | rfl
  ·exact ⟨_,z0,λ v q=>by cases q⟩
  ·exact ⟨_,zI,λ v q=>by cases q⟩
  ·exact ⟨_,zO,λ v q=>by cases q⟩
  ·exact sq t1
  ·exact sq t2
 keep:=λ i h h' st k=>by
  obtain ⟨z0,zI,⟨a,c,zO⟩,t1,t2⟩:=st;exact ⟨k z (by simp) _ z0,k TI (by simp) _ zI,⟨a,c,k TO (by simp) _ zO⟩,t1.at λ o e=>k i1 (by simp) o e,t2.at λ o e=>k i2 (by simp) o e⟩
 item:=by
  intro X hP hw hK hc i pins s σ H E I hf st hg;subst hP hw hK;obtain ⟨hi,hj,xs,ys,hx,hy,lx,ly⟩:=hg;obtain ⟨z0,zI,⟨a,c,zO⟩,t1,t2⟩:=st;obtain ⟨its1,v1,k1,o1,n1,e1,d1⟩:=I.seqB hx;obtain ⟨its2,v2,k2,o2,n2,e2,d2⟩:=I.seqB hy;have S1:=k1 i1 i s.heap t1 λ _ e=>e;have S2:=k2 i2 i s.heap t2 λ _ e=>e;have gx:xs[i]?=some (xs[i]'(by omega)):=Y0f _;have gy:ys[i]?=some (ys[i]'(by omega)):=Y0f _;generalize xs[i]'(by omega)=x at gx;generalize ys[i]'(by omega)=y at gy;obtain ⟨u,hu,ru⟩:=v1.get gx;obtain ⟨v,hv,rv⟩:=v2.get gy;refine yL D z0 zI zO S1 S2 (x:=u) (y:=v) (by simpa using hu) (by simpa using hv) λ h' a1 a2 a3 a4 a5 a6 a7=>?_;refine ⟨_,rfl,wpAny_letOwnedTupleGo_zip (s:={ s with heap:=h' }) a1 λ h'' q1 q2=>?_⟩;have up:∀ b o,b∉[z,TI,TO,i1,i2]->s.heap.get? b=some o->h''.get? b=some o:=λ b o hb e=>by
   simp only [Y06,Y0k,or_false,not_or] at hb;exact (q2.2 b hb.1).trans (a7 b o hb.1 hb.2.2.1 hb.2.2.2.1 hb.2.2.2.2 e)
  have I1:Inv X pins σ H { s with heap:=h'',toks:=s.toks }:=I.turnedL up hf;have F:=I.fpOk (b:=s.heap.objs.size) (H':=H) (Y04 _) (I.hok.fresh (Y04 _));have h0:X.s₀.heap.get? s.heap.objs.size=none:=by
   cases q:X.s₀.heap.get? s.heap.objs.size with
   | none=>rfl
   | some o=>exact absurd (Y07 (Y05 q) I.sz) (Y0s _)
  have zs:s.heap.objs.size≠z:=Y17 (Y05 z0);have T':IsPair h'' s.heap.objs.size u v:=(q2.2 _ zs).trans a5;have I2:Inv X pins σ (upd H s.heap.objs.size (.tup [x,y])) { s with heap:=h'',toks:=s.toks }:=I1.track F.1 h0 F.2.1 F.2.2.2.2.1 F.2.2.2.2.2 ⟨by show 2<=sizeLine;rw [sizeLine_eq];decide,[u,v],.cons ru (.cons rv .nil),⟨_,T',rfl,0,rfl⟩⟩;have l1lt:l1<s.heap.objs.size:=Y05 e1;have l2lt:l2<s.heap.objs.size:=Y05 e2;have l1f:l1∉[z,TI,TO,i1,i2]:=by simp [D.l1z,D.l1TO,D.l1i1,D.l1i2,hT1]
  have l2f:l2∉[z,TI,TO,i1,i2]:=by simp [D.l2z,D.l2TO,D.l2i1,D.l2i2,hT2]
  have S1':SIt h'' i1 l1 (i+1) its1.toArray:=a3.move (λ o e=>(q2.2 _ D.i1z).trans e) (λ o e=>(q2.2 _ D.l1z).trans e);have S2':SIt h'' i2 l2 (i+1) its2.toArray:=a4.move (λ o e=>(q2.2 _ D.i2z).trans e) (λ o e=>(q2.2 _ D.l2z).trans e);refine ⟨.ref s.heap.objs.size,_,I2,rfl,⟨_,rfl,F.1,λ xs' ys' hx' hy'=>?_⟩,⟨q1,?_,⟨u,v,?_⟩,?_,?_⟩,λ b hb=>?_⟩
  ·rw [I.seqB_inj hx' hx,I.seqB_inj hy' hy];exact ⟨x,y,gx,gy,rfl⟩
  ·exact (q2.2 _ D.TIz).trans (a7 TI _ D.TIz D.TITO D.TIi1 D.TIi2 zI)
  ·exact (q2.2 _ D.TOz).trans a2
  ·exact ItR.ofS S1' t1 S1 λ o e=>up l1 o l1f e
  ·exact ItR.ofS S2' t2 S2 λ o e=>up l2 o l2f e
  ·have hb':=hf b hb;have ne:b≠s.heap.objs.size:=by
    obtain ⟨o,e,_⟩:∃ o,s.heap.get? b=some o/\True:=by
     simp only [Y06,Y0k,or_false] at hb;rcases hb with rfl | rfl | rfl | rfl | rfl
     ·exact ⟨_,z0,trivial⟩
     ·exact ⟨_,zI,trivial⟩
     ·exact ⟨_,zO,trivial⟩
     ·obtain ⟨o,vs,e,_⟩:=t1.rec;exact ⟨o,e,trivial⟩
     ·obtain ⟨o,vs,e,_⟩:=t2.rec;exact ⟨o,e,trivial⟩
    exact Y0g (Y05 e)
   rw [zo ne];exact hb'.1
 done:=by
  intro X hP hw hK hc i pins s σ H E I hf st hg;subst hP hw hK;obtain ⟨hi,xs,ys,hx,hy,lx,ly⟩:=hg;obtain ⟨z0,zI,⟨a,c,zO⟩,t1,t2⟩:=st;obtain ⟨its1,v1,k1,o1,n1,e1,d1⟩:=I.seqB hx;obtain ⟨its2,v2,k2,o2,n2,e2,d2⟩:=I.seqB hy;have S1:=k1 i1 i s.heap t1 λ _ e=>e;have S2:=k2 i2 i s.heap t2 λ _ e=>e;refine Z6 (I.ok.hd hc) D z0 zI zO S1 S2 ?_ λ h' a1=>⟨rfl,I.turnedL (t':=s.toks) (l:=[z,TI,TO,i1,i2]) (λ b o hb e=>?_) hf⟩
  ·rcases hi with q | q
   ·exact .inl (by simp;rw [<- v1.length,lx,q];exact Y04 _)
   ·exact .inr (by simp;rw [<- v2.length,ly,q];exact Y04 _)
  ·simp only [Y06,Y0k,or_false,not_or] at hb;exact a1 b o hb.1 hb.2.2.1 hb.2.2.2.1 hb.2.2.2.2 e
 self:=λ _ _ _ _ _ st h=>wpAny_pyIter_zip st.1 h
end L2
set_option maxHeartbeats 4000000
namespace L2
open PySem PySem.Spec PyProof.Rows
def itN (b:Bool):String:=if b=true then "list_iterator" else "tuple_iterator"
def SqH (h:Heap)(a:Addr)(b:Bool)(xs:Array Value):Prop:=if b=true then h.IsList a xs else h.IsTuple a xs
abbrev OY (b1:Bool)(h:Heap)(l1:Addr):Heap:=h.push { cls:=.type (itN b1),data:=.fields #[.ref l1,.int 0 0] }
abbrev OZ (b1 b2:Bool)(h:Heap)(l1 l2:Addr):Heap:=(OY b1 h l1).push { cls:=.type (itN b2),data:=.fields #[.ref l2,.int 0 0] }
abbrev B0 (b1 b2:Bool)(h:Heap)(l1 l2:Addr):Heap:=(OZ b1 b2 h l1 l2).push { cls:=.type "tuple",data:=.seq #[.ref h.objs.size,.ref (OY b1 h l1).objs.size] }
abbrev B1 (b1 b2:Bool)(h:Heap)(l1 l2:Addr):Heap:=(B0 b1 b2 h l1 l2).push { cls:=.type "tuple",data:=.seq #[.none,.none] }
abbrev V1 (b1 b2:Bool)(h:Heap)(l1 l2:Addr):Heap:=(B1 b1 b2 h l1 l2).push { cls:=.type "zip",data:=.fields #[.none,.bool false,.bool false,.ref (OZ b1 b2 h l1 l2).objs.size,.ref (B0 b1 b2 h l1 l2).objs.size] }
theorem Yd (b1 b2:Bool)(l1 l2:Addr)(xs ys:Array Value) :
  Meets (Builtin.«zip.__new__» ⟨[.type "zip",.ref l1,.ref l2],[]⟩) (λ _ R s=>SqH s.heap l1 b1 xs/\SqH s.heap l2 b2 ys /\
   R (.ok (.ret (.ref (B1 b1 b2 s.heap l1 l2).objs.size))) { s with heap:=V1 b1 b2 s.heap l1 l2 }) :=
 .of_wp λ prog w A R s h=>by
  obtain ⟨hp,g,d,tk,os⟩:=s;obtain ⟨hl1,hl2,h⟩:=h;have hsub:=PySem.sub_zip;cases b1<;>cases b2
  ·have hL1:Heap.IsTuple (Shared.heap ⟨hp,g,d,tk,os⟩) l1 xs:=hl1;have hL2:Heap.IsTuple (Shared.heap ⟨hp.push { cls:=.type "tuple_iterator",data:=.fields #[.ref l1,.int 0 0] },g,d,tk,os⟩) l2 ys:=Heap.IsTuple.at (show hp.IsTuple l2 ys from hl2) λ o e=>Y01 _ e
   wp_walk using wpAny_pyIter_tuple hL1,wpAny_pyIter_tuple hL2
   exact ⟨_,rfl,h⟩
  ·have hL1:Heap.IsTuple (Shared.heap ⟨hp,g,d,tk,os⟩) l1 xs:=hl1;have hL2:Heap.IsList (Shared.heap ⟨hp.push { cls:=.type "tuple_iterator",data:=.fields #[.ref l1,.int 0 0] },g,d,tk,os⟩) l2 ys:=Heap.IsList.push (show hp.IsList l2 ys from hl2) _
   wp_walk using wpAny_pyIter_tuple hL1,wpAny_pyIter_list hL2
   exact ⟨_,rfl,h⟩
  ·have hL1:Heap.IsList (Shared.heap ⟨hp,g,d,tk,os⟩) l1 xs:=hl1;have hL2:Heap.IsTuple (Shared.heap ⟨hp.push { cls:=.type "list_iterator",data:=.fields #[.ref l1,.int 0 0] },g,d,tk,os⟩) l2 ys:=Heap.IsTuple.at (show hp.IsTuple l2 ys from hl2) λ o e=>Y01 _ e
   wp_walk using wpAny_pyIter_list hL1,wpAny_pyIter_tuple hL2
   exact ⟨_,rfl,h⟩
  ·have hL1:Heap.IsList (Shared.heap ⟨hp,g,d,tk,os⟩) l1 xs:=hl1;have hL2:Heap.IsList (Shared.heap ⟨hp.push { cls:=.type "list_iterator",data:=.fields #[.ref l1,.int 0 0] },g,d,tk,os⟩) l2 ys:=Heap.IsList.push (show hp.IsList l2 ys from hl2) _
   wp_walk using wpAny_pyIter_list hL1,wpAny_pyIter_list hL2
   exact ⟨_,rfl,h⟩
theorem Ue {h:Heap}{i a:Addr}(b:Bool)(e:h.get? i=some { cls:=.type (itN b),data:=.fields #[.ref a,.int 0 0] }):ItR h i a 0 b:=by
 cases b with
 | true=>exact (show h.IsListIter i a 0 from ⟨_,e,rfl,rfl⟩)
 | false=>exact (show h.IsTupleIter i a 0 from ⟨_,e,rfl,rfl⟩)
section
variable {prog:Program}{w:World}{A:Around}{E:Value->Shared->Prop}{s:Shared}
theorem yM {l1 l2:Addr}{xs ys:Array Value}{Q:Value->Shared->Prop}(b1 b2:Bool)(hl1:SqH s.heap l1 b1 xs)(hl2:SqH s.heap l2 b2 ys)
  (h:∀ h',ZTn (s.heap.objs.size+4) (s.heap.objs.size+2) (s.heap.objs.size+3) s.heap.objs.size (s.heap.objs.size+1) l1 l2 b1 b2 0 h'->(∀ c o,s.heap.get? c=some o->h'.get? c=some o)->Q (.ref (s.heap.objs.size+4)) { s with heap:=h' }) :
  wpAny (model prog w) A (call (.type "zip") [.ref l1,.ref l2]) Q E s:=by
 refine callType_new PySem.F.called_zip (by decide) (PySem.F.typeCall_zip_2 _ _) (PySem.F.newCall_zip_2 _ _) (λ obj=>PySem.F.args_object_init_3 obj _ _) PySem.F.entry_zip_new
  (Yd b1 b2 l1 l2 xs ys) ⟨hl1,hl2,?_⟩
 have z1:(OY b1 s.heap l1).objs.size=s.heap.objs.size+1:=Y1g ..
 have z2:(OZ b1 b2 s.heap l1 l2).objs.size=s.heap.objs.size+2:=by rw [Y1g,z1]
 have z3:(B0 b1 b2 s.heap l1 l2).objs.size=s.heap.objs.size+3:=by rw [Y1g,z2]
 have z4:(B1 b1 b2 s.heap l1 l2).objs.size=s.heap.objs.size+4:=by rw [Y1g,z3]
 have g5:(V1 b1 b2 s.heap l1 l2).get? (B1 b1 b2 s.heap l1 l2).objs.size=some _:=Y0c _ rfl;have g4:(V1 b1 b2 s.heap l1 l2).get? (B0 b1 b2 s.heap l1 l2).objs.size=some _:=Y01 _ (Y0c _ rfl);have g3:(V1 b1 b2 s.heap l1 l2).get? (OZ b1 b2 s.heap l1 l2).objs.size=some _:=Y01 _ (Y01 _ (Y0c _ rfl));have g2:(V1 b1 b2 s.heap l1 l2).get? (OY b1 s.heap l1).objs.size=some _:=Y01 _ (Y01 _ (Y01 _ (Y0c _ rfl)));have g1:(V1 b1 b2 s.heap l1 l2).get? s.heap.objs.size=some _:=Y01 _ (Y01 _ (Y01 _ (Y01 _ (Y0c _ rfl))));show _/\_;rw [z2,z3,z4] at g5;rw [z1,z2] at g3;rw [z3] at g4;rw [z1] at g2;rw [z4];exact ⟨⟨_,g5,rfl⟩,h _ ⟨g5,g3,⟨_,_,g4⟩,Ue b1 g1,Ue b2 g2⟩ λ c o x =>
  Y01 _ (Y01 _ (Y01 _ (Y01 _ (Y01 _ x))))⟩
end
section
variable {X:Cx}
theorem Zy:bootBuiltins "zip"=some (.type "zip"):=by decide +kernel
def z49 (K:Y00)(ta:TA):TI:=λ σ H R=>ta σ H λ vs H1=>∃ l1 l2 b1 b2 xs ys,vs=[.ref l1,.ref l2]/\SqB K H1 l1 b1 xs/\SqB K H1 l2 b2 ys/\R (Itz K l1 l2 b1 b2 xs.length ys.length) H1
theorem Inv.seqH {pins:List (Addr×Obj)}{σ:St}{H:Hp}{s:Shared}{a:Addr}{b:Bool}{xs:List V}(I:Inv X pins σ H s)(h:SqB X.K H a b xs):∃ its:Array Value,SqH s.heap a b its/\a<s.heap.objs.size:=by
 cases b with
 | true =>
  obtain ⟨its,r,pl,_⟩:=I.list (show SqL X.K H a xs from h);obtain ⟨o,e,_⟩:=id pl.isList;exact ⟨_,pl.isList,Y05 e⟩
 | false =>
  obtain ⟨its,r,pl,_⟩:=I.tuple (show SqT X.K H a xs from h);obtain ⟨o,e,_⟩:=id pl;exact ⟨_,pl,Y05 e⟩
theorem z2h {a b:Expr}{ta:TA}{p pos:Pos}{elts:List Expr}{x1}{pos':Pos} (hg:Gl X "zip") (hm:X.mg "zip"=none) (ha:PA X [a,b] ta) (hs:starEach [a,b] X.env=(false,eval a X.env)::starEach [b] X.env) (hs2:(backTo pos (starEach [b] X.env)).any (·.1)=false):PI X (.Tuple elts x1 pos') (.Call (.Name "zip" p) [a,b] [] pos) (z49 X.K ta):=by
 intro pins s σ H R I h;refine Call_ (jS I hg hm Zy (Y0x (thn (ha pos pins s σ H _ I h) λ us s1 ⟨vs,H1,I1,r1,q1⟩=>?_) hs hs2));obtain ⟨l1,l2,b1,b2,xs,ys,e,hx,hy,q⟩:=q1;subst e;cases r1 with
 | cons r rr =>
  cases rr with
  | cons r' rr' =>
   cases rr';cases r;cases r';obtain ⟨i1,s1',t1⟩:=I1.seqH hx;obtain ⟨i2,s2',t2⟩:=I1.seqH hy;refine yM b1 b2 s1' s2' λ h' st k=>?_;have D:ZipApart (s1.heap.objs.size+4) (s1.heap.objs.size+2) (s1.heap.objs.size+3) s1.heap.objs.size (s1.heap.objs.size+1) l1 l2:=by constructor<;>first | exact Y0g (by omega) | exact Y17 (by omega) | exact Y0g (Y07 t1 (by omega)) | exact Y0g (Y07 t2 (by omega))
   refine wpAny_pyIter_zip (s:={ s1 with heap:=h' }) st.1 ?_;refine ⟨_,_,_,_,H1,rfl,I1.kept (t':=s1.toks) k,Gh D (Y0g (Y07 t1 (by omega))) (Y0g (Y07 t2 (by omega))) b1 b2 xs.length ys.length,st,λ b' hb=>?_,q⟩;have hb':s1.heap.objs.size<=b':=by
    simp only [Y06,Y0k,or_false] at hb;rcases hb with rfl | rfl | rfl | rfl | rfl
    all_goals first | exact Y04 _ | exact Y2x _ _
   exact I1.fpOk hb' (I1.hok.fresh hb')
end
section
variable {X:Cx}{Z:ZK}{tg iter:Expr}{body:List Stmt}{wi:TI}{g:TG}{tb:TS}{pos:Pos}
theorem JM (ok:XOk X):PassesOwn (model X.prog X.w) X.A X.env (XE X Z):=by
 rintro e s' ⟨a,C,T,σ',H',rfl,I,F,z⟩
 refine I.note ok F I.ok.frames rfl λ h1 t I1 F1=>?_;exact I1.cameBack F1 λ h2 I2 F2=>⟨a,C,some t,σ',H',rfl,I2,F2,z⟩
theorem Thr.wished (th:Thr X Z):Thr (X.wish (XE X Z)) Z:=by
 refine ⟨⟨th.top,th.ex⟩,?_⟩
 rintro e s' ⟨a,C,T,σ',H',rfl,I,F,z⟩
 exact ⟨a,C,T,σ',H',rfl,I.unwish,⟨F.fl,F.ow⟩,z⟩
theorem B2 (th:Thr X Z)(hc:X.calm=true)(hi:PI (X.wish (XE X Z)) tg iter wi)(hg:PG (X.wish (XE X Z)) tg g)(hb:PSs (X.wish (XE X Z)) body tb)
  (hs:∀ x,foldedSetIterable iter X.env x=pure x:=by intro _;rfl):PS X (.For tg iter body [] pos) (z1p wi g tb):=by
 intro pins s σ H D I h;refine wpAny_mono (z1q (X:=X.wish (XE X Z)) (JM th.toXOk) hc hi hg hb hs pins s σ H D (I.wish _) h) (λ f s' q=>q.unwish) λ e s' x=>th.thr e s' x
end
section
variable {X:Cx}{scope:Scope}{NC:List Str}{cap:List (Option Nat)}{elt tg iter:Expr}{ifs:List Expr}{pos pos' spos:Pos}{Z:ZK}{wi:TI}{g:TG}{tf:ZK->TT}{te:ZK->TE}{i:Nat}{x:Str}
theorem B3 (hc:X.calm=true)(th:Thr X Z)(hi:PI X tg iter wi)(cok:ji X.env.scope scope X.N NC cap=true)
  (hg:∀ C s H fp pn xe,PG (zt X NC scope C s H fp pn xe) tg g)
  (hf:∀ C s H fp pn xe Zc,Thr (zt X NC scope C s H fp pn xe) Zc->PF (zt X NC scope C s H fp pn xe) ifs (tf Zc))
  (hb:∀ C s H fp pn xe Zc,Thr (zt X NC scope C s H fp pn xe) Zc->PE (zt X NC scope C s H fp pn xe) elt (te Zc))
  (hs:∀ x,foldedSetIterable iter X.env x=pure x) (hN:X.N.Nodup) (hx:X.N[i]?=some x) (hlo:X.env.scope.names.lookup x=some .local)
  (hsw:swapsWith (.ListComp elt [⟨tg,iter,ifs,0⟩] scope pos) (some (.Name x pos')) spos.line X.env=pure true) :
  PS X (.Assign [.Name x pos'] (.ListComp elt [⟨tg,iter,ifs,0⟩] scope pos) spos) (z1m (Gd Z cap wi g tf te) (U2 i)):=by
 intro pins s σ H D I h;obtain ⟨c1,c2,c3,c4,c5,c6,c7⟩:=j5 cok;rw [exec_Assign_Name_used _ _ _ _ hsw];refine wpAny_bind (wpAny_standAt (wpAny_bind ?_));show wpAny _ X.A (do let _ <- comprehension (.ListComp elt [⟨tg,iter,ifs,0⟩] scope pos) scope X.env _ (newList []) false (eval iter X.env) (some (assign (.Name x pos') X.env))) _ _ s;refine wpAny_bind (wpAny_mono (wpAny_comprehension_free (use:=some (assign (.Name x pos') X.env)) (Q:=λ _ s'=>SP X pins D .next s') rfl hs (Zs λ y hy e=>I.ok.has y.1 (.inl (c4 y hy e))) c1 c3
  (thn (hi pins s σ H _ I h) λ xv s₁ h₁=>thn h₁ λ itv s₂ h₂=>?_)) (λ _ s' hq=>wpAny_pure (wpAny_pure hq)) λ _ _ e=>e)
 obtain ⟨it,fp,tn,J,H2,rfl,I2,T,st2,f2,W,⟨m0,w0⟩,turn⟩:=h₂;refine JL hc th I2 T st2 f2 cok (λ C pn xe=>hg C s₂ H2 fp pn xe) (λ C pn xe t=>hf C s₂ H2 fp pn xe _ t) (λ C pn xe t=>hb C s₂ H2 fp pn xe _ t) W m0 w0 turn ?_
 rintro C D' s' H' ys us n ⟨hlen,q⟩ rv e hn hnC rfl rfl ⟨m,ns⟩ lv
 have I':Inv X pins σ H' s':=lv s'.heap (Heap.SameBut.refl _ _);have I3:Inv X pins σ (upd H' s₂.heap.objs.size (.lst ys)) s':=I'.track (o:=.lst ys) hn (Y28 I2.sz) (Y17 I2.lt) (λ y c ec z=>by
  obtain ⟨v,q⟩:=I2.cell y c ec;exact absurd q.lt (by rw [z];exact Y0s _)) (λ p hp z=>absurd (Y05 (I2.pin p hp).1) (by rw [z];exact Y0s _)) ⟨hlen,us,n,rv,e⟩
 have fC:yf X pins (upd H' s₂.heap.objs.size (.lst ys)) (s₂.heap.objs.size+1):=I2.fpOk (Y2o _) (by rw [zo (Nat.succ_ne_self _)];exact hnC);show wpAny _ X.A (assign (.Name x pos') X.env (.ref s₂.heap.objs.size)) _ _ _;refine wpAny_assign_Name (Jy I3 hN hx (.inl hlo) (v:=.ref s₂.heap.objs.size) rfl (λ s'' I4 ⟨a,sb,ha⟩=>?_) (.inr hlo));have nC:s₂.heap.objs.size+1≠a:=by
  rcases ha with rfl | ha
  ·exact fC.2.1
  ·exact λ z=>fC.2.2.2.2.1 x a ha z.symm
 refine ⟨m,ns.sameBut sb nC,λ h' sb'=>⟨_,_,I4.turned (t':=s''.toks) (λ b o hb e=>(sb'.2 b hb).trans e) fC.1 fC.2.1 fC.2.2.2.1 fC.2.2.2.2.1 fC.2.2.2.2.2,q _ hn⟩⟩
end
def Itv (K:Y00)(a:Addr)(n:Nat):It :=
 ⟨λ i H=>i<n/\∃ xs,SqL K H a xs/\xs.length=n,λ i H x H'=>H'=H/\∀ xs,SqL K H a xs->xs[n-1-i]?=some x,λ i _=>i=n⟩
theorem Gi {P:Program}{w:World}{K:Y00}{tg:Expr}(a it:Addr)(n:Nat):Turn P w K tg (Itv K a n) [it] it (λ i h=>h.IsRevIter it a ((n:Int)-1-(i:Int))) where
 mem:=by simp
 obj:=λ i h st b hb=>by
  have e:b=it:=by simpa using hb
  subst e;obtain ⟨o,e,c,d⟩:=st;exact ⟨o,e,λ v z=>by rw [d] at z;cases z⟩
 keep:=λ i h h' st k=>st.at λ o e=>k it (by simp) o e
 item:=by
  intro X hP hw hK hc i pins s σ H E I hf st hg;subst hP hw hK;obtain ⟨hi,xs,hq,hn⟩:=hg;obtain ⟨its,rv,p,hz⟩:=I.list hq;have hx:xs[n-1-i]?=some (xs[n-1-i]'(by omega)):=Y0f _;obtain ⟨u,hu,ru⟩:=rv.get hx;obtain ⟨f0,f1,f2,f3,f4,f5⟩:=hf it (by simp);have e1:((n:Int)-1-(i:Int))=((n-1-i:Nat):Int):=by omega
  rw [e1] at st;refine wpAny_pyNext_rev_item st p.isList (x:=u) (by simpa using hu) λ h' st' sb=>?_;have I1:Inv X pins σ H { s with heap:=h' }:=I.turned (t':=s.toks) (λ b o hb e=>(sb.2 b hb).trans e) f0 f1 f3 f4 f5;have e2:((n-1-i:Nat):Int)-1=(n:Int)-1-((i+1:Nat):Int):=by omega
  rw [e2] at st';obtain ⟨o,e,c,d⟩:=id st';exact ⟨u,rfl,Zm (s:={ s with heap:=h' }) e c d (by decide) ⟨_,H,I1,ru,⟨rfl,λ ys hy=>by rw [I.list_inj hy hq];exact hx⟩,st',λ b hb=>(hf b hb).1⟩⟩
 done:=by
  intro X hP hw hK hc i pins s σ H E I hf st hg;subst hP hw hK;have hg':i=n:=hg;subst hg';obtain ⟨f0,f1,f2,f3,f4,f5⟩:=hf it (by simp);have e1:((i:Int)-1-(i:Int))=-1:=by omega
  rw [e1] at st;exact wpAny_pyNext_rev_end (I.ok.hd hc) st λ h' eb=>⟨rfl,I.turned (t':=s.toks) (λ b o hb e=>eb b o hb e) f0 f1 f3 f4 f5⟩
 self:=λ _ _ _ _ _ st h=>wpAny_pyIter_revIter st h
theorem V2:typeLookup (.type "list_reverseiterator") "__len__"=pure none:=by rw [typeLookup_type,builtinLookup_eq_fast];kernel_rfl
theorem Gj:typeLookup (.type "list_reverseiterator") "__length_hint__"=pure (some (.builtin "list_reverseiterator.__length_hint__")):=by rw [typeLookup_type,builtinLookup_eq_fast];kernel_rfl
section
variable {prog:Program}{w:World}{A:Around}{s:Shared}{R:Result->Shared->Prop}
variable {I:Addr}{fp wr:List Addr}{G:Array GenState->Array GenState->Prop}{n:Nat}{P:Nat->Value->Prop}{St:Nat->Shared->Prop}
theorem B4 (W:WalksS prog w A.in1 I fp wr G n P St) (hT:∀ i s,St i s->s.TypeIs (.ref I) "list_reverseiterator") (S:Addr) (res:Value) (c₀:Nat) (hst:St 0 s) (hSf:S∉fp) (hI:I∈fp)
  (hS:s.heap.get? S=some { cls:=.type "list",data:=.seq #[] c₀ }) (hn:n<=sizeLine)
  (hR:∀ s' acc' c',Moved (S::wr) G s s'->s'.heap.get? S=some { cls:=.type "list",dict:=none,data:=.seq acc' c',slots:=#[] }->ItemsOf P acc' n->R (.ok (.ret res)) s') :
  wpAny (model prog w) A.in1 (Builtin.List.listExtendWith (.ref S) (.ref I) res)
   (λ fin s'=>match fin with | .done f=>R (.ok f) s' | .again c'=>c'.quiet=true/\codeAny (model prog w) A c' R s') (λ e s'=>R (.error e) s') s:=by
 have hSI:S≠I:=λ e=>hSf (e▸hI);have h1:Builtin.List.listSameRef (.ref S) (.ref I)=false:=by simp [Builtin.List.listSameRef,hSI]
 unfold Builtin.List.listExtendWith;refine wpAny_bind (wpAny_typeOf (hT 0 _ hst) ?_);rw [if_neg (by rw [h1];decide)];refine wpAny_bind (W.self 0 _ _ _ hst ?_);refine wpAny_bind (wpAny_holding ?_);unfold Builtin.List.listLengthHint;refine wpAny_bind (wpAny_specialOf (hT 0 _ hst) V2 ?_);show wpAny _ A.in1 (specialOf (Value.ref I) (Str.ofString "__length_hint__") >>= _) _ _ _;refine wpAny_bind (wpAny_specialOf (hT 0 _ hst) Gj ?_);generalize hid:("list_reverseiterator.__length_hint__":String)=id0
 wp_delta
 rw [show splitId id0=some ("list_reverseiterator","__length_hint__") from by subst hid;decide +kernel];subst hid;refine wpAny_bind (wpAny_isInstance (b:=true) (hT 0 _ hst) (by rw [isSubtype_type];kernel_rfl) ?_);refine wpAny_pure ?_;rw [if_neg (by decide)];exact wpAny_pure ⟨plainId_quiet Y2c _,codeAny_extend_loopS W hn _ hSf _ n 0 _ _ _ rfl (Y1d _) hst hS (ItemsOf.nil P) λ s' acc' c' hm hS' hacc=>hR s' acc' c' hm hS' hacc⟩
theorem Gk (W:WalksS prog w A.in1 I fp wr G n P St) (hT:∀ i s,St i s->s.TypeIs (.ref I) "list_reverseiterator") (S:Addr) (hst:St 0 s) (hSf:S∉fp) (hI:I∈fp)
  (hS:s.heap.get? S=some { cls:=.type "list",data:=.seq #[] }) (hn:n<=sizeLine)
  (hR:∀ s' acc' c',Moved (S::wr) G s s'->s'.heap.get? S=some { cls:=.type "list",dict:=none,data:=.seq acc' c',slots:=#[] }->ItemsOf P acc' n->R (.ok (.ret .none)) s') :
  wpAny (model prog w) A.in1 (Builtin.«list.__init__» ⟨[.ref S,.ref I],[]⟩)
   (λ fin s'=>match fin with | .done f=>R (.ok f) s' | .again c'=>c'.quiet=true/\codeAny (model prog w) A c' R s') (λ e s'=>R (.error e) s') s:=by
 show wpAny _ A.in1 (do let old <- Builtin.List.listItems (.ref S);Builtin.List.listUpdate (.ref S) (λ _=>#[]);letGo old.toList.reverse;Builtin.List.listExtendWith (.ref S) (.ref I) .none) _ _ s;refine wpAny_bind ?_;unfold Builtin.List.listItems;refine wpAny_bind (wpAny_seqItems hS rfl (wpAny_pure ?_));show wpAny _ A.in1 (updateSeq S (λ _=>#[]) >>= λ _=>letGo (#[]:Array Value).toList.reverse >>= λ _=>Builtin.List.listExtendWith (.ref S) (.ref I) .none) _ _ s;refine wpAny_bind (wpAny_updateSeq hS rfl ?_);have hS2:=Y12 (Obj.mapSeq (λ _=>(#[]:Array Value))) hS rfl;have oth:∀ b o,b≠S->s.heap.get? b=some o->(s.heap.update S (Obj.mapSeq (λ _=>(#[]:Array Value)))).get? b=some o:=λ b o hb e=>(Y16 _ _ (Ne.symm hb)).trans e;refine wpAny_bind (wpAny_letGo ?_);refine B4 W hT S .none _ (W.frame 0 s _ s.toks hst (Y04 _) λ b hb o e=>oth b o (λ h=>hSf (h▸hb)) e) hSf hI hS2 hn λ s' acc' c' hm hS' hacc=>?_;exact hR s' acc' c' (Moved.trans W.gtrans ((Moved.refl W.grefl).then_heap (Y04 _) λ b o hb e=>oth b o (λ h=>hb (h▸Y03)) e) hm) hS' hacc
end
section
variable {prog:Program}{w:World}{A:Around}{E:Value->Shared->Prop}{s:Shared}
theorem Gm {I l:Addr}{items:Array Value}{Q:Value->Shared->Prop}(hh:A.handled=none)(hne:l≠I)(hI:I<s.heap.objs.size)(hit:s.heap.IsRevIter I l ((items.size:Int)-1))(hl:s.heap.IsList l items)(hn:items.size<=sizeLine)
  (hQ:∀ s' acc c,(∀ b o,b≠I->s.heap.get? b=some o->s'.heap.get? b=some o)->s'.gens=s.gens->s'.drawn=s.drawn->s'.os=s.os->s.toks<=s'.toks ->
   s'.heap.get? s.heap.objs.size=some { cls:=.type "list",data:=.seq acc c }->acc.toList=items.toList.reverse->Q (.ref s.heap.objs.size) s') :
  wpAny (model prog w) A (call (.type "list") [.ref I]) Q E s:=by
 have hll:l<s.heap.objs.size:=by obtain ⟨_,e,_⟩:=hl;exact Y05 e
 have W:=(Walks.listRev (prog:=prog) (w:=w) (A:=A.in1.in1) hh I l hne items).toS;have hfp:∀ b∈[I,l],b<s.heap.objs.size:=λ b hb=>by simp at hb;rcases hb with rfl | rfl<;>assumption
 have hSf:s.heap.objs.size∉[I,l]:=λ hm=>Y0s _ (hfp _ hm);refine callType_codes (Q₁:=λ obj s₁=>obj=.ref s.heap.objs.size/\s₁={ s with heap:=s.heap.push { cls:=.type "list",data:=.seq #[] } }) F.called_list (F.typeCall_list_1 _) F.entry_list_init (code_list_new _ ⟨rfl,rfl⟩) λ obj s₁ h₁=>?_;obtain ⟨rfl,rfl⟩:=h₁;have hS:(s.heap.push { cls:=.type "list",data:=.seq #[] }).get? s.heap.objs.size=some { cls:=.type "list",data:=.seq #[] }:=Y0c _ rfl;have st0:0<=items.size/\s.heap.IsRevIter I l ((items.size:Int)-1-((0:Nat):Int))/\s.heap.IsList l items:=⟨Y1d _,by simpa using hit,hl⟩;refine ⟨⟨_,hS,rfl⟩,F.args_list_init_2 _ _,Gk W (λ i s x=>x.2.1.typeIs) _ (W.frame 0 s _ s.toks st0 (Y04 _) λ b _ o e=>Y01 _ e) hSf (by simp) hS hn λ s' acc' c' hm hS' hacc=>?_⟩;refine ⟨rfl,hQ s' acc' c' (λ b o hb e=>hm.heap b o ?_ (Y01 _ e)) hm.gens hm.drawn hm.os hm.toks hS' ?_⟩
 ·have:=Y05 e
  simp;exact ⟨Y0g this,hb⟩
 ·obtain ⟨a1,a2⟩:=hacc;apply List.ext_getElem?;intro i;rw [Y37];by_cases hi:i<acc'.size
  ·have e:=a2 i _ (Y1h hi);rw [Y1h hi,Y36 (by rw [Y1w];omega),Y1w,Y37,e]
  ·rw [Y2i (by omega),List.getElem?_eq_none (by rw [Y1p,Y1w];omega)]
variable {X:Cx}
def rLR (K:Y00):List V->Hp->VK->Prop:=λ xs H Q=>∃ p ys,xs=[.ref p]/\SqL K H p ys/\∀ l,H l=none->Q (.ref l) (upd H l (.lst ys.reverse))
theorem Vals.rev:∀ {xs:List V}{us:List Value},Vals xs us->Vals xs.reverse us.reverse
 | _,_,.nil=>.nil
 | _,_,.cons r t=>by rw [Y1m,Y1m];exact (Vals.rev t).append (.cons r .nil)
theorem Ye {a:Expr}{ta:TA}{p p' pos pos':Pos} (hc:X.calm=true) (hg:Gl X "reversed") (hm:X.mg "reversed"=none) (hg2:Gl X "list") (hm2:X.mg "list"=none) (ha:PA X [a] ta) (hs:starEach [a] X.env=[(false,eval a X.env)]) :
  PE X (.Call (.Name "list" p) [.Call (.Name "reversed" p') [a] [] pos'] [] pos) (λ σ H Q=>ta σ H λ vs H1=>rLR X.K vs H1 Q):=by
 intro pins s σ H Q I h;refine wpAny_Call_Name_kw (jS I hg2 hm2 boot_list ?_ (by decide) (by decide));refine Y0x ?_ rfl rfl;show wpAny _ _ (spliced ((false,eval (.Call (.Name "reversed" p') [a] [] pos') X.env)::[])) _ _ s;refine Calls.spliced_cons (Call_ (jS I hg hm boot_reversed (Y0x (thn (ha pos' pins s σ H _ I h) λ us s1 ⟨vs,H1,I1,r1,q1⟩=>?_) hs rfl) (by decide) (by decide)));obtain ⟨b,xs,e,hq,q⟩:=q1;subst e;cases r1 with
 | cons r rr =>
  cases rr;cases r;obtain ⟨its,rv,pl,hz⟩:=I1.list hq;have hl:=rv.length;have hb:b<s1.heap.objs.size:=by obtain ⟨_,e,_⟩:=pl.isList;exact Y05 e
  refine call_reversed_list pl.isList ?_;refine wpAny_pure ?_;refine Gm (s:={ s1 with heap:=s1.heap.push (revObj b ((its.toArray.size:Int)-1)) }) (items:=its.toArray) (I1.ok.hd hc) (Y0g hb) (by simp) ⟨_,Y0c _ rfl,rfl,rfl⟩ (pl.isList.push _) (by simp only [Y0b];omega) λ s' acc c k1 k2 k3 k4 k5 k6 k7=>?_;obtain ⟨hp',g',d',tk',os'⟩:=s';simp only at k2 k3 k4;subst k2 k3 k4;have kp:∀ b' o,s1.heap.get? b'=some o->hp'.get? b'=some o:=λ b' o e=>k1 b' o (Y0g (Y05 e)) (Y01 _ e);have sz:s1.heap.objs.size<=(s1.heap.push (revObj b ((its.toArray.size:Int)-1))).objs.size:=by simp
  refine ⟨.ref _,_,I1.laid (t':=tk') kp sz (show ObjOk X.prog X.w _ hp' _ (.lst xs.reverse) from ⟨by rw [Y1p];exact hz,its.reverse,c,rv.rev,?_⟩),rfl,q _ (I1.hok.fresh sz)⟩;have ea:acc=its.reverse.toArray:=by
   have:=congrArg List.toArray k7
   simpa using this
  rw [<- ea];exact k6
end
theorem JN:Manifest.owners.lookup (String.ofList ['d','e','s','r','e','v','e','r'].reverse)=some Manifest.sig_reversed:=by kernel_rfl
theorem rvt_next:Slot "reversed" "__next__" "reversed.__next__":=.of (owner:="reversed") (n:="__next__") (by rw [typeLookup_type,builtinLookup_eq_fast];kernel_rfl) (by decide +kernel) (by decide +kernel) (by decide +kernel) (by first | exact .inl (by decide +kernel) | exact .inr (by decide +kernel)) (by rw [isSubtype_type];kernel_rfl)
theorem ZA:entryFor table "reversed.__next__"=some Builtin.«reversed.__next__»:=entryFor_of_tree (by kernel_rfl)
theorem ZB (a:Value):argsOk "reversed.__next__" ⟨[a],[]⟩:=by unfold argsOk;rw [signature?_of (id:="reversed.__next__") (n:=['_','_','t','x','e','n','_','_']) (o:=['d','e','s','r','e','v','e','r']) (by kernel_rfl) JN];kernel_rfl
theorem Qc:Slot "reversed" "__iter__" "reversed.__iter__":=.of (owner:="reversed") (n:="__iter__") (by rw [typeLookup_type,builtinLookup_eq_fast];kernel_rfl) (by decide +kernel) (by decide +kernel) (by decide +kernel) (by first | exact .inl (by decide +kernel) | exact .inr (by decide +kernel)) (by rw [isSubtype_type];kernel_rfl)
theorem Yf (a:Value):argsOk "reversed.__iter__" ⟨[a],[]⟩:=by unfold argsOk;rw [signature?_of (id:="reversed.__iter__") (n:=['_','_','r','e','t','i','_','_']) (o:=['d','e','s','r','e','v','e','r']) (by kernel_rfl) JN];kernel_rfl
theorem Yg:entryFor table "reversed.__iter__"=some Builtin.«dict_keyiterator.__iter__»:=entryFor_alias (id':="dict_keyiterator.__iter__") (by kernel_rfl) (by first | rfl | decide +kernel | (unfold String.splitOn;simp +decide [String.splitOnAux])) (by decide +kernel) (by kernel_rfl)
theorem Gn:Slot "reversed" "__init__" "object.__init__":=.of (owner:="object") (n:="__init__") (by rw [typeLookup_type,builtinLookup_eq_fast];kernel_rfl) (by decide +kernel) (by decide +kernel) (by decide +kernel) (by first | exact .inl (by decide +kernel) | exact .inr (by decide +kernel)) (by rw [isSubtype_type];kernel_rfl)
theorem Yh:TypeCalled "reversed" "reversed.__new__" "object.__init__":=⟨by decide +kernel,by decide +kernel,⟨_,_,PySem.F.mro_reversed⟩,PySem.F.made_reversed,by decide +kernel,by rw [isSubtype_type];kernel_rfl,Gn⟩
theorem Yi (a b:Value):argsOk "object.__init__" ⟨[a,b],[]⟩:=by unfold argsOk;rw [signature?_of (id:="object.__init__") (n:=['_','_','t','i','n','i','_','_']) (o:=['t','c','e','j','b','o']) (by kernel_rfl) PySem.F.owner_object];kernel_rfl
theorem V3:typeLookup (.type "tuple") "__reversed__"=pure none:=by rw [typeLookup_type,builtinLookup_eq_fast];kernel_rfl
theorem Yj:isSubtype (.type "tuple") (.type "dict")=pure false:=by rw [isSubtype_type];kernel_rfl
def ZC (l:Addr)(i:Int):Obj:={ cls:=.type "reversed",data:=.fields #[.ref l,rawInt i] }
def IsRvt (h:Heap)(a l:Addr)(i:Int):Prop:=∃ o,h.get? a=some o/\o.cls=.type "reversed"/\o.data=.fields #[.ref l,rawInt i]
theorem IsRvt.typeIs {s:Shared}{a l:Addr}{i:Int}(x:IsRvt s.heap a l i):s.TypeIs (.ref a) "reversed":=let ⟨o,ho,hc,_⟩:=x;⟨o,ho,hc⟩
theorem IsRvt.at {h h':Heap}{a l:Addr}{i:Int}(x:IsRvt h a l i)(e:∀ o,h.get? a=some o->h'.get? a=some o):IsRvt h' a l i:=let ⟨o,ho,r⟩:=x;⟨o,e _ ho,r⟩
theorem V4 (t:Addr)(its:Array Value)(hz:(its.size:Int)<2 ^ 63):Meets (Builtin.«reversed.__new__» ⟨[.type "reversed",.ref t],[]⟩) (λ _ R s=>IsTup s.heap t its/\∀ tk,R (.ok (.ret (.ref s.heap.objs.size))) { s with heap:=s.heap.push (ZC t ((its.size:Int)-1)),toks:=tk }) :=
 .of_wp λ prog w A R s h=>by
  obtain ⟨ht,h⟩:=h;unfold Builtin.«reversed.__new__»;refine wpAny_bind (wpAny_of_eq (newClass_reversed _) ?_)
  try dsimp only
  refine wpAny_bind (wpAny_of_eq (a:=()) (by first | rfl | kernel_rfl) ?_);refine wpAny_bind (wpAny_of_eq (a:=()) (by first | rfl | kernel_rfl) ?_)
  try dsimp only
  refine wpAny_bind (wpAny_specialOf ht.typeIs V3 ?_)
  try dsimp only
  refine wpAny_bind (wpAny_mono (Q:=λ b s'=>b=true/\s'=s) ?_ ?_ (λ _ _ e=>e))
  ·show wpAny _ _ (isInstance (.ref t) (.type "dict") >>= _) _ _ s;refine wpAny_bind (wpAny_isInstance (T:="tuple") (b:=false) ht.typeIs Yj ?_);simp only [Y21,if_false,pure_bind];refine wpAny_bind (wpAny_specialOf ht.typeIs slot_tuple_getitem.lookup ?_);simp only [];rw [if_pos (by decide)];exact wpAny_pure ⟨rfl,rfl⟩
  ·rintro b s' ⟨rfl,rfl⟩
   simp only [Bool.not_true,Y21,if_false];refine wpAny_bind (len_tuple ht hz ?_);refine wpAny_bind (wpAny_of_eq (a:=some (its.size:Int)) rfl ?_);simp only [];refine wpAny_bind (m:=Builtin.SmallTypes.newRecord (Value.type "reversed") [Value.ref t,rawInt ((its.size:Int)-1)]) ?_;show wpAny _ _ (newObj (.type "reversed") (.fields #[Value.ref t,rawInt ((its.size:Int)-1)])) _ _ _;refine wpAny_newObj_type ?_ (by size_fits);exact wpAny_pure ⟨_,rfl,h _⟩
section
variable {prog:Program}{w:World}{A:Around}{E:Value->Shared->Prop}{s:Shared}
theorem Go {t:Addr}{its:Array Value}{Q:Value->Shared->Prop}(ht:IsTup s.heap t its)(hz:(its.size:Int)<2 ^ 63)
  (h:∀ tk,Q (.ref s.heap.objs.size) { s with heap:=s.heap.push (ZC t ((its.size:Int)-1)),toks:=tk }):wpAny (model prog w) A (call (.type "reversed") [.ref t]) Q E s:=by
 refine callType_new Yh (by decide) (PySem.F.typeCall_reversed_1 _) (PySem.F.newCall_reversed_1 _) (λ obj=>Yi obj _) PySem.F.entry_reversed_new (V4 t its hz) ⟨ht,λ tk=>?_⟩;exact ⟨⟨_,Y0c _ rfl,rfl⟩,h tk⟩
theorem Gp {it t:Addr}{i:Nat}{its:Array Value}{x:Value}{Q:Option Value->Shared->Prop}(hit:IsRvt s.heap it t (i:Int))(ht:IsTup s.heap t its)(hx:its[i]?=some x)(hz:(its.size:Int)<2 ^ 63)
  (hQ:∀ h' tk,IsRvt h' it t ((i:Int)-1)->Heap.SameBut it s.heap h'->Q (some x) { s with heap:=h',toks:=tk }):wpAny (model prog w) A (pyNext (.ref it)) Q E s:=by
 obtain ⟨o,ho,hc,hd⟩:=id hit;have hi:i<its.size:=by
  by_cases h:i<its.size
  ·exact h
  ·rw [Y2i (by omega)] at hx;cases hx
 unfold pyNext;refine wpAny_bind (wpAny_attempt (wpAny_callSpecial?_slot (name:=Str.ofString "__next__") hit.typeIs rvt_next (wpAny_call_entry rvt_next hit.typeIs ZA ?_ (ZB _))));unfold Builtin.«reversed.__next__»;refine wpAny_bind (wpAny_of_eq (a:=(Value.ref it,[])) rfl ?_)
 try dsimp only
 refine wpAny_bind (wpAny_field ho hd (x:=.ref t) rfl ?_);refine wpAny_bind (wpAny_field ho hd (x:=rawInt (i:Int)) rfl ?_);show wpAny _ _ (if (i:Int)<0 then _ else _) _ _ s;rw [if_neg (by omega)];show wpAny _ _ (specialOf (.ref t) "__getitem__" >>= _) _ _ s;refine wpAny_bind (wpAny_specialOf ht.typeIs slot_tuple_getitem.lookup ?_);simp only [Option.isNone,Y21,if_false];refine wpAny_bind (wpAny_mkInt ?_);refine wpAny_bind (wpAny_attempt (getItem_tuple (s:={ s with toks:=s.toks+1 }) (j:=i) (x:=x) ht (by omega) (by omega) (by unfold seqIndex?;simp only [];split<;>simp_all<;>omega) hx ?_));simp only [];refine wpAny_bind (wpAny_field (s:={ s with toks:=s.toks+1 }) ho hd (x:=rawInt (i:Int)) rfl ?_);show wpAny _ _ (setField (.ref it) 1 (rawInt ((i:Int)-1)) >>= _) _ _ _;refine wpAny_bind (wpAny_setField (s:={ s with toks:=s.toks+1 }) ho hd (by simp) ?_);refine wpAny_pure ⟨x,rfl,wpAny_pure (hQ _ _ ?_ (Heap.SameBut.update ..))⟩;exact ⟨_,Y12 _ ho (Obj.isFreed_of_fields (Obj.data_mapFields hd _)),(Obj.cls_mapFields ..).trans hc,by rw [Obj.data_mapFields hd];simp⟩
theorem B5 {it t:Addr}{Q:Option Value->Shared->Prop}(hh:A.handled=none)(hit:IsRvt s.heap it t (-1))
  (hQ:∀ h',Heap.ExtBut it s.heap h'->Q none { s with heap:=h' }):wpAny (model prog w) A (pyNext (.ref it)) Q E s:=by
 obtain ⟨o,ho,hc,hd⟩:=id hit;unfold pyNext;refine wpAny_bind (wpAny_attempt (wpAny_callSpecial?_slot (name:=Str.ofString "__next__") hit.typeIs rvt_next (wpAny_call_entry rvt_next hit.typeIs ZA ?_ (ZB _))));unfold Builtin.«reversed.__next__»;refine wpAny_bind (wpAny_of_eq (a:=(Value.ref it,[])) rfl ?_)
 try dsimp only
 refine wpAny_bind (wpAny_field ho hd (x:=.ref t) rfl ?_);refine wpAny_bind (wpAny_field ho hd (x:=rawInt (-1)) rfl ?_);show wpAny _ _ (if (-1:Int)<0 then _ else _) _ _ s;rw [if_pos (by decide)];refine wpAny_bind (wpAny_rule ?_);refine wpAny_bind (wpAny_mono (Q:=λ _ s'=>∃ h',s'={ s with heap:=h' }/\Heap.SameBut it s.heap h') ?_ ?_ (λ _ _ e=>e))
 ·show wpAny _ _ (setField (.ref it) 1 (rawInt (-1)) >>= λ _=>setField (.ref it) 0 .none) _ _ s;refine wpAny_bind (wpAny_setField ho hd (by simp) ?_);refine wpAny_setField (Y12 _ ho (Obj.isFreed_of_fields (Obj.data_mapFields hd _))) (Obj.data_mapFields hd _) (by simp) ?_;exact ⟨_,rfl,(Heap.SameBut.update ..).trans (Heap.SameBut.update ..)⟩
 ·rintro _ s' ⟨h1,rfl,sb⟩
  refine wpAny_bind ?_;unfold Builtin.SmallTypes.stopIteration;refine wpAny_bind ?_;simp only [newExc,newTuple];refine wpAny_bind (wpAny_newObj_type ?_ (by size_fits));refine wpAny_bind (m:=firstArgMember _ _) (wpAny_of_eq (a:=Value.none) (by first | rfl | (simp only [firstArgMember];rfl)) ?_);refine wpAny_newObj_type ?_ (by size_fits);simp only [raiseNew];refine wpAny_bind (wpAny_handled ?_)
  first | rw [show A.in1.handled=none from hh] | rw [hh]
  refine wpAny_bind (wpAny_pure (wpAny_throw ?_));refine wpAny_bind (wpAny_isInstance (T:="StopIteration") (b:=true) ⟨_,Y0c _ rfl,rfl⟩ isSubtype_stop ?_);exact wpAny_pure (hQ _ ((sb.extBut.push _).push _))
theorem Qd {it t:Addr}{i:Int}{Q:Value->Shared->Prop}(hit:IsRvt s.heap it t i)(h:Q (.ref it) s):wpAny (model prog w) A (pyIter (.ref it)) Q E s:=by
 refine wpAny_pyIter_slot hit.typeIs Qc (wpAny_call_entry Qc hit.typeIs Yg ?_ (Yf _));show wpAny _ _ (ret (.ref it)) _ _ s;exact wpAny_pure ⟨_,rfl,"reversed",_,hit.typeIs,rvt_next.lookup,h⟩
end
def Itw (K:Y00)(a:Addr)(n:Nat):It :=
 ⟨λ i H=>i<n/\∃ xs,SqT K H a xs/\xs.length=n,λ i H x H'=>H'=H/\∀ xs,SqT K H a xs->xs[n-1-i]?=some x,λ i _=>i=n⟩
theorem Gq {P:Program}{w:World}{K:Y00}{tg:Expr}(a it:Addr)(n:Nat):Turn P w K tg (Itw K a n) [it] it (λ i h=>IsRvt h it a ((n:Int)-1-(i:Int))) where
 mem:=by simp
 obj:=λ i h st b hb=>by
  have eb:b=it:=by simpa using hb
  subst eb;obtain ⟨o,e1,e2,e3⟩:=st;exact ⟨o,e1,λ v z=>by rw [e3] at z;cases z⟩
 keep:=λ i h h' st k=>st.at λ o e=>k it (by simp) o e
 item:=by
  intro X hP hw hK hc i pins s σ H E I hf st hg;subst hP hw hK;obtain ⟨hi,xs,hq,hn⟩:=hg;obtain ⟨its,rv,p,hz⟩:=I.tuple hq;have hl:=rv.length;have ln:=yg;have hx:xs[n-1-i]?=some (xs[n-1-i]'(by omega)):=Y0f _;obtain ⟨u,hu,ru⟩:=rv.get hx;obtain ⟨f0,f1,f2,f3,f4,f5⟩:=hf it (by simp);have e1:((n:Int)-1-(i:Int))=((n-1-i:Nat):Int):=by omega
  rw [e1] at st;refine Gp st p (x:=u) (by simpa using hu) (by rw [Y0b];omega) λ h' tk st' sb=>?_;have I1:Inv X pins σ H { s with heap:=h',toks:=tk }:=I.turned (t':=tk) (λ b o hb e=>(sb.2 b hb).trans e) f0 f1 f3 f4 f5;have e2:((n-1-i:Nat):Int)-1=(n:Int)-1-((i+1:Nat):Int):=by omega
  rw [e2] at st';obtain ⟨o,g1,g2,g3⟩:=id st';exact ⟨u,rfl,Zm (s:={ s with heap:=h',toks:=tk }) g1 g2 g3 (by decide) ⟨_,H,I1,ru,⟨rfl,λ ys hy=>by rw [I.tuple_inj hy hq];exact hx⟩,st',λ b hb=>(hf b hb).1⟩⟩
 done:=by
  intro X hP hw hK hc i pins s σ H E I hf st hg;subst hP hw hK;have hg':i=n:=hg;subst hg';obtain ⟨f0,f1,f2,f3,f4,f5⟩:=hf it (by simp);have e1:((i:Int)-1-(i:Int))=-1:=by omega
  rw [e1] at st;exact B5 (I.ok.hd hc) st λ h' eb=>⟨rfl,I.turned (t':=s.toks) (λ b o hb e=>eb b o hb e) f0 f1 f3 f4 f5⟩
 self:=λ _ _ _ _ _ st h=>Qd st h
section
variable {X:Cx}{tg:Expr}
def z4a (K:Y00)(ta:TA):TI:=λ σ H R=>ta σ H λ vs H1=>∃ a xs,vs=[.ref a]/\((SqL K H1 a xs/\R (Itv K a xs.length) H1)\/(SqT K H1 a xs/\R (Itw K a xs.length) H1))
theorem B6 {a:Expr}{ta:TA}{p pos:Pos} (hg:Gl X "reversed") (hm:X.mg "reversed"=none) (ha:PA X [a] ta) (hs:starEach [a] X.env=[(false,eval a X.env)]):PI X tg (.Call (.Name "reversed" p) [a] [] pos) (z4a X.K ta):=by
 intro pins s σ H R I h;refine Call_ (jS I hg hm boot_reversed (Y0x (thn (ha pos pins s σ H _ I h) λ us s1 ⟨vs,H1,I1,r1,q1⟩=>?_) hs rfl));obtain ⟨b,xs,e,hq⟩:=q1;subst e;cases r1 with
 | cons r rr =>
  cases rr;cases r;rcases hq with ⟨hq,q⟩ | ⟨hq,q⟩
  ·obtain ⟨its,rv,pl,hz⟩:=I1.list hq;refine call_reversed_list pl.isList ?_;have hl:(its.toArray.size:Int)=(xs.length:Int):=by rw [Y0b,rv.length]
   have it0:(s1.heap.push (revObj b ((its.toArray.size:Int)-1))).IsRevIter s1.heap.objs.size b ((xs.length:Int)-1-((0:Nat):Int)):=⟨_,Y0c _ rfl,rfl,by rw [hl];simp [revObj]⟩;refine wpAny_pyIter_revIter (s:={ s1 with heap:=s1.heap.push (revObj b ((its.toArray.size:Int)-1)) }) it0 ?_;refine ⟨s1.heap.objs.size,[s1.heap.objs.size],_,_,H1,rfl,I1.kept (t':=s1.toks) λ b' o e=>Y01 _ e,Gi b _ xs.length,it0,λ b' hb=>?_,q⟩;have e:b'=s1.heap.objs.size:=by simpa using hb
   subst e;exact I1.fpOk (Y04 _) (I1.hok.fresh (Y04 _))
  ·obtain ⟨its,rv,pl,hz⟩:=I1.tuple hq;have ln:=yg;have hl:(its.toArray.size:Int)=(xs.length:Int):=by rw [Y0b,rv.length]
   refine Go pl (by have:=rv.length;rw [Y0b];omega) λ tk=>?_;have it0:IsRvt (s1.heap.push (ZC b ((its.toArray.size:Int)-1))) s1.heap.objs.size b ((xs.length:Int)-1-((0:Nat):Int)):=⟨_,Y0c _ rfl,rfl,by rw [hl];simp [ZC]⟩;refine Qd (s:={ s1 with heap:=s1.heap.push (ZC b ((its.toArray.size:Int)-1)),toks:=tk }) it0 ?_;refine ⟨s1.heap.objs.size,[s1.heap.objs.size],_,_,H1,rfl,I1.kept (t':=tk) λ b' o e=>Y01 _ e,Gq b _ xs.length,it0,λ b' hb=>?_,q⟩;have e:b'=s1.heap.objs.size:=by simpa using hb
   subst e;exact I1.fpOk (Y04 _) (I1.hok.fresh (Y04 _))
end
open HT in
theorem B7 {prog:Program}{w:World}{A:Around}{E:Value->Shared->Prop}{s:Shared}{t sl:Addr}{items:Array Value}{vl vu:Value}{lo hi:Option Int}{Q:Value->Shared->Prop}(ht:IsTup s.heap t items)(hs:s.heap.IsSliceOf sl vl vu .none)(pl:IsPart vl lo)(pu:IsPart vu hi)
  (h1:sIx items.size 0 lo=0) (h2:sIx items.size items.size hi=items.size) (h:Q (.ref t) s):wpAny (model prog w) A (getItem (.ref t) (.ref sl)) Q E s:=by
 obtain ⟨os,hos,hcs,hds⟩:=id hs;have hTs:s.TypeIs (.ref sl) "slice":=⟨os,hos,hcs⟩;unfold getItem
 try with_reducible refine wpAny_holding ?_
 first | refine wpAny_bind (wpAny_pure ?_) | skip
 refine wpAny_bind (wpAny_sequenceKey ht.typeIs (by decide) ?_);refine wpAny_bind (wpAny_callSpecial?_slot (name:=Str.ofString "__getitem__") ht.typeIs Y1s (wpAny_call_entry Y1s ht.typeIs entry_tuple_getitem ?_ (args_tuple_getitem _ _)));show wpAny _ _ (Builtin.Tuple.tupleItemsOf (.ref t) >>= _) _ _ s;refine wpAny_bind (tupleItemsOf_ ht ?_);refine wpAny_bind (wpAny_typeOf hTs ?_);rw [if_pos (by decide)];refine wpAny_bind (wE hs pl pu ?_);have hy:(((sIx items.size 0 lo:Nat):Int)==0&&(1:Int)==1&&(sIx items.size items.size hi-sIx items.size 0 lo)==items.size)=true:=by rw [h1,h2];simp
 show wpAny _ _ (if (((sIx items.size 0 lo:Nat):Int)==0&&(1:Int)==1&&(sIx items.size items.size hi-sIx items.size 0 lo)==items.size)=true then _ else _) _ _ s;rw [if_pos hy];refine wpAny_bind ?_;unfold Builtin.Tuple.tupleIsExact;refine wpAny_bind (wpAny_typeOf ht.typeIs (wpAny_pure ?_));rw [if_pos (by decide)];refine wpAny_bind (wpAny_rule ?_);exact wpAny_pure ⟨_,rfl,wpAny_pure h⟩
def z6b (K:Y00):V->Option Int->Option Int->Hp->VK->Prop:=λ x lo hi H Q=>∃ a xs,x=.ref a/\SqT K H a xs/\HT.sIx xs.length 0 lo=0/\HT.sIx xs.length xs.length hi=xs.length/\Q (.ref a) H
theorem B8 {X:Cx}:SlR X (z6b X.K):=by
 intro pins s σ H x v vl vu lo hi sl Q I rx hs pl pu h;obtain ⟨a,xs,rfl,hx,w1,w2,q⟩:=h;cases rx;obtain ⟨its,r,ht,hz⟩:=I.tuple hx;have hlen:its.toArray.size=xs.length:=by rw [Y0b];exact r.length.symm
 exact ⟨"tuple",_,PyProof.Rows.slot_tuple_getitem.lookup,ht.typeIs,B7 ht hs pl pu (by rw [hlen];exact w1) (by rw [hlen];exact w2) ⟨.ref a,H,I,rfl,q⟩⟩
theorem jt:entryFor table "dict.update.loop"=some Builtin.«dict.update.loop»:=entryFor_of_tree (by kernel_rfl)
theorem zF:plainId "dict.update.loop"=true:=by decide +kernel
theorem Qe:typeLookup (.type "list") "keys"=pure none:=by rw [typeLookup_type,builtinLookup_eq_fast];kernel_rfl
section
variable {prog:Program}{w:World}{A:Around}{E:Value->Shared->Prop}{s:Shared}
theorem Jl {a:Addr}{xs:Array Value}{k:Nat}{sl:Array (Option Value)}{Q:Option Value->Shared->Prop} (hx:s.heap.get? a=some { cls:=.type "list",dict:=none,data:=.seq xs k,slots:=sl }) (hA:A.handled=none)
  (h:∀ h' tk,(∀ b ob,s.heap.get? b=some ob->h'.get? b=some ob)->Q none { s with heap:=h',toks:=tk }) :
  wpAny (model prog w) A (getAttr? (.ref a) "keys") Q E s:=by
 obtain ⟨hp,g,d,tk,os⟩:=s;have hT:∀ tk',(⟨hp,g,d,tk',os⟩:Shared).TypeIs (.ref a) "list":=λ _=>⟨_,hx,rfl⟩;have f1:=sub_AttributeError;have f3:=F.slot_list_getattribute.lookup;have f4:=F.slot_list_getattribute.bind (.ref a);have f5:=am_list_getattr_none;have hname:(["__module__","__name__","__qualname__","__doc__","__annotations__"]:List Str).contains "keys"=false:=by decide +kernel
 have hsz:(Str.ofString "keys").length+100<=sizeLine:=by decide +kernel
 unfold getAttr? getAttrBy? getAttrBy
 repeat (any_goals (first | assumption | exact hT _ | ((with_reducible show wpAny _ _ (call (Value.builtin "list.__getattribute__") _ _) _ _ _);refine call_meets F.slot_list_getattribute (hT _) am_entry_list_getattribute (F.args_list_getattribute_2 _ _) (meets_getattribute_miss_list a xs k sl "keys" _ Qe hname hsz) ⟨hx,hA,λ h' tk' e hx'=>?_⟩) | wp_step))
 obtain ⟨t',u',he⟩:=hx'.there;show wpAny _ _ (getattributeRaised _ _ _ _ _ _ _) _ _ _;unfold getattributeRaised
 repeat (any_goals (first | assumption | wp_step))
 exact h _ _ hx'.keeps
end
section
variable {prog:Program}{w:World}{A:Around}{R:Result->Shared->Prop}{I:Addr}{fp wr:List Addr}{G:Array GenState->Array GenState->Prop}{n:Nat}{P:Nat->Value->Prop}{St:Nat->Shared->Prop}{K:Type}[DecidableEq K]{knd:KeyKind prog w K}
def Two (h:Heap)(a:Addr)(x y:Value):Prop:=∃ o n,h.get? a=some o/\o.cls=.type "tuple"/\o.data=.seq #[x,y] n
theorem Yk (kvs:List (K×Value)):∀ (more:List (K×Value)),(merged kvs more).length<=kvs.length+more.length:=by
 intro more
 induction more generalizing kvs with
 | nil=>exact Y04 _
 | cons p r ih =>
  have h1:=ih (stored kvs p.1 p.2);have h2:(stored kvs p.1 p.2).length<=kvs.length+1:=by
   unfold stored
   split
   ·rw [Y0d];exact Y2o _
   ·rw [Y0h];exact Y04 _
  show (merged (stored kvs p.1 p.2) r).length<=_;rw [Y09];omega
theorem V5 (W:WalksS prog w A.in1 I fp wr G n P St)(D:Addr)(hDf:D∉fp)(more:List (K×Value))(hn:n<=1000000)(hml:more.length=n)(s₀:Shared)
  (hval:∀ (i:Nat) (v:Value),P i v->∃ a kv vv k,v=.ref a/\a∉D::wr/\Two s₀.heap a kv vv/\more[i]?=some (k,vv)/\knd.is k kv=true) :
  ∀ (k i:Nat) (s:Shared) (ti:Tok),n-i=k->i<=n->St i s->Moved (D::wr) G s₀ s->s.heap.DictOf knd D (merged [] (more.take i)) ->
   (∀ s',Moved (D::wr) G s₀ s'->s'.heap.DictOf knd D (merged [] more)->R (.ok (.ret .none)) s') ->
   codeAny (model prog w) A (.builtin "dict.update.loop" ⟨[.ref D,.ref I,.int (i:Nat) ti,.none],[]⟩) R s:=by
 have hDw:D∉wr:=λ h=>hDf (W.sub _ h);have hsub:∀ b∈wr,b∈D::wr:=λ b hb=>Y02 _ hb;intro k
 induction k with
 | zero =>
  intro i s ti hk hi hst mv hS hR;have hin:i=n:=by omega
  subst hin;refine codeAny_builtin jt ?_;rw [Around.under_plainId zF _];show wpAny _ A.in1 (pyNext (.ref I) >>= _) _ _ s;refine wpAny_bind (W.done s _ _ hst λ s' hm=>?_);show wpAny _ A.in1 (Builtin.Dict.addKeywords D [] >>= λ _=>ret Value.none) _ _ s';refine wpAny_bind (wpAny_pure (wpAny_pure (hR s' (mv.trans W.gtrans (hm.mono hsub)) ?_)));rw [<- hml,List.take_length] at hS;obtain ⟨o,es,ep,ho,r⟩:=hS;exact ⟨o,es,ep,hm.heap D _ hDw ho,r⟩
 | succ k ih =>
  intro i s ti hk hi hst mv hS hR;have hlt:i<n:=by omega
  refine codeAny_builtin jt ?_;rw [Around.under_plainId zF _];show wpAny _ A.in1 (pyNext (.ref I) >>= _) _ _ s;refine wpAny_bind (W.item i s _ _ hlt hst λ v s' hP hst' hm=>?_);obtain ⟨a,kv,vv,kk,rfl,ha,⟨o,n',ho,hoc,hod⟩,hmi,hkk⟩:=hval i v hP;have mv':=mv.trans W.gtrans (hm.mono hsub);have ho':=mv'.heap a o ha ho;have hS':s'.heap.DictOf knd D (merged [] (more.take i)):=by
   obtain ⟨o,es,ep,ho,r⟩:=hS;exact ⟨o,es,ep,hm.heap D _ hDw ho,r⟩
  have hT:s'.TypeIs (.ref a) "tuple":=⟨_,ho',hoc⟩;refine wpAny_bind (wpAny_holding ?_);have pr:∀ {Q:List Value->Shared->Prop}{E:Value->Shared->Prop},Q [kv,vv] s'->wpAny (model prog w) A.in1 (Builtin.Dict.pairItems (.ref a)) Q E s':=λ {Q E} q=>by
   unfold Builtin.Dict.pairItems;refine wpAny_bind (wpAny_typeOf hT ?_);rw [if_pos (by decide)];exact wpAny_bind (wpAny_seqItems ho' hod (wpAny_pure q))
  refine wpAny_bind (wpAny_tryCatch (pr ?_));show wpAny _ A.in1 (holding [kv,vv] (dictSet D kv vv)) _ _ s';refine wpAny_holding (wpAny_dictSet_pairs hkk hS' (λ h' hd' hsb=>?_) ?_)
  ·refine wpAny_pure ⟨plainId_quiet zF _,?_⟩;have e:((i:Int)+1)=((i+1:Nat):Int):=rfl;show codeAny _ A (.builtin "dict.update.loop" ⟨[.ref D,.ref I,.int ((i:Int)+1) 0,.none],[]⟩) R _;rw [e];refine ih (i+1) _ 0 (by omega) hlt (W.frame _ s' _ _ hst' (Y2o _) λ b hb o e=>?_) (mv'.then_heap (Y2o _) λ b o hb e=>?_) ?_ hR
   ·exact (hsb.2 b (λ h:b=D=>hDf (h▸hb))).trans e
   ·exact (hsb.2 b (λ h:b=D=>hb (h▸Y03))).trans e
   ·rw [merged_take_succ _ _ _ _ hmi];exact hd'
  ·have h1:=Yk ([]:List (K×Value)) (more.take i);rw [Y1t,Y1y] at h1;rw [sizeLine_eq];omega
end
section
variable {prog:Program}{w:World}{A:Around}{E:Value->Shared->Prop}{s:Shared}{K:Type}[DecidableEq K]{knd:KeyKind prog w K}
theorem Z7 {l:Addr}{items:Array Value}{c:Nat}{sl:Array (Option Value)}{more:List (K×Value)}{Q:Value->Shared->Prop} (hh:A.handled=none) (hl:s.heap.get? l=some { cls:=.type "list",dict:=none,data:=.seq items c,slots:=sl }) (hn:items.size<=1000000) (hml:more.length=items.size)
  (hval:∀ (i:Nat) (v:Value),items[i]?=some v->∃ a kv vv k,v=.ref a/\Two s.heap a kv vv/\more[i]?=some (k,vv)/\knd.is k kv=true)
  (h:∀ h' tk,h'.DictOf knd s.heap.objs.size (merged [] more)->(∀ b o,s.heap.get? b=some o->h'.get? b=some o)->Q (.ref s.heap.objs.size) { s with heap:=h',toks:=tk }) :
  wpAny (model prog w) A (call (.type "dict") [.ref l]) Q E s:=by
 refine callType_codes (Q₁:=λ obj s₁=>obj=.ref s.heap.objs.size/\s₁={ s with heap:=s.heap.push { cls:=.type "dict",data:=.dict #[] } }) F.kt_called_dict (F.kt_typeCall_dict_1 _) F.entry_dict_init (kt_code_dict_new _ ⟨rfl,rfl⟩) ?_
 rintro obj s₁ ⟨rfl,rfl⟩
 have hnew:(s.heap.push { cls:=.type "dict",data:=.dict #[] }).DictOf knd s.heap.objs.size []:=Heap.DictOf.new s.heap;have hl1:(s.heap.push { cls:=.type "dict",data:=.dict #[] }).get? l=some { cls:=.type "list",dict:=none,data:=.seq items c,slots:=sl }:=Y01 _ hl;have hT:Shared.TypeIs { s with heap:=s.heap.push { cls:=.type "dict",data:=.dict #[] } } (.ref l) "list":=⟨_,hl1,rfl⟩;refine ⟨hnew.typeIs,F.args_dict_init_2 _ _,?_⟩;unfold Builtin.«dict.__init__»;refine wpAny_bind ?_;unfold Builtin.Dict.selfAndRest;refine wpAny_bind (wpAny_notOrdered_dict hnew.typeIs ?_);show wpAny _ _ (pure (s.heap.objs.size,[Value.ref l])) _ _ _;refine wpAny_pure ?_;show wpAny _ _ (Builtin.Dict.updateFrom "dict.__init__" s.heap.objs.size (.ref l) [] .none) _ _ _;unfold Builtin.Dict.updateFrom;refine wpAny_bind (wpAny_typeOf hT ?_);rw [if_pos (by decide)];refine wpAny_bind (Jl hl1 hh λ h1 t1 k1=>?_);rw [if_pos (by decide)];refine wpAny_bind (wpAny_rule ?_);have hl2:h1.IsList l items:=⟨_,k1 _ _ hl1,rfl,c,rfl⟩;refine wpAny_bind (wpAny_pyIter_list hl2 ?_);have hlt:l<s.heap.objs.size:=Y05 hl;have sz1:s.heap.objs.size<h1.objs.size:=by
  obtain ⟨o,_,_,e,_⟩:=hnew;exact Y05 (k1 _ _ e)
 have hne:l≠h1.objs.size:=Y0g (Y22 hlt sz1);have old:∀ b o,s.heap.get? b=some o->h1.get? b=some o:=λ b o e=>k1 b o (Y01 _ e);refine wpAny_pure ⟨plainId_quiet zF _,?_⟩;have hDf:s.heap.objs.size∉[h1.objs.size,l]:=by
  simp only [Y06,Y0a,Y0k,or_false,not_or];exact ⟨Y0g sz1,Y17 hlt⟩
 refine V5 (knd:=knd) ((Walks.list (prog:=prog) (w:=w) (A:=A.in1.in1) hh h1.objs.size l hne items).toS) s.heap.objs.size hDf more hn hml _ (λ i v hv=>?_) items.size 0 _ 0 (by omega) (Y1d _) ⟨⟨_,Y0c _ rfl,rfl,rfl⟩,hl2.push _⟩ (Moved.refl λ _=>rfl) ?_ λ s' mv hd=>?_
 ·obtain ⟨a,kv,vv,k,e,⟨o,n',e1,e2,e3⟩,e4,e5⟩:=hval i v hv;have hla:=Y05 e1;refine ⟨a,kv,vv,k,e,?_,⟨o,n',Y01 _ (old a o e1),e2,e3⟩,e4,e5⟩;simp only [Y06,Y0a,Y0k,or_false,not_or];exact ⟨Y0g hla,Y0g (Y22 hla sz1)⟩
 ·obtain ⟨o,es,ep,ho,r⟩:=hnew;exact ⟨o,es,ep,Y01 _ (k1 _ _ ho),r⟩
 ·obtain ⟨h',g',d',tk',os'⟩:=s';have eg:g'=s.gens:=mv.gens;have ed:d'=s.drawn:=mv.drawn;have eo:os'=s.os:=mv.os;subst eg;subst ed;subst eo;refine ⟨rfl,h h' tk' hd λ b o e=>mv.heap b o ?_ (Y01 _ (old b o e))⟩;have hb:=Y05 e;simp only [Y06,Y0a,Y0k,or_false,not_or];exact ⟨Y0g hb,Y0g (Y22 hb sz1)⟩
end
section
variable {X:Cx}
theorem Qf {pins:List (Addr×Obj)}{σ:St}{H:Hp}{s:Shared}(I:Inv X pins σ H s):∀ {ys:List V}{kvs:List (Key×V)}{its:List Value},Paired (λ (x:V) (kv:Key×V)=>∃ a,x=.ref a/\SqT X.K H a [kV kv.1,kv.2]) ys kvs->Vals ys its ->
  ∃ more:List (Key×Value),KV kvs more/\more.length=its.length/\∀ (i:Nat) (v:Value),its[i]?=some v->∃ a kv vv k,v=.ref a/\Two s.heap a kv vv/\more[i]?=some (k,vv)/\(zB X.prog X.w).is k kv=true
 | _,_,_,.nil,.nil=>⟨[],.nil,rfl,λ i v h=>by simp at h⟩
 | _,_,_,@Paired.cons _ _ _ x kv ys kvs h t,.cons (b:=u) (l₂:=us) r rr=>by
  obtain ⟨more,m1,m2,m3⟩:=Qf I t rr;obtain ⟨a,rfl,q⟩:=h;have ru:u=.ref a:=r;subst ru;obtain ⟨its2,r2,⟨o,e1,e2,n,e3⟩,_⟩:=I.tuple q;cases r2 with
  | @cons _ kvv _ _ ra rt =>
   cases rt with
   | @cons _ vv _ _ rb rn =>
    cases rn;refine ⟨(kv.1,vv)::more,.cons ⟨rfl,rb⟩ m1,by rw [Y09,Y09,m2],λ i v hv=>?_⟩;cases i with
    | zero =>
     have:v=.ref a:=by simpa using hv.symm
     subst this;exact ⟨a,kvv,vv,kv.1,rfl,⟨o,n,e1,e2,e3⟩,rfl,yq ra⟩
    | succ i=>exact m3 i v (by simpa using hv)
def rDP (K:Y00):List V->Hp->VK->Prop:=λ xs H Q=>∃ p ys kvs,xs=[.ref p]/\SqL K H p ys/\ys.length<=1000000/\Paired (λ (x:V) (kv:Key×V)=>∃ a,x=.ref a/\SqT K H a [kV kv.1,kv.2]) ys kvs/\∀ l,H l=none->Q (.ref l) (upd H l (.dK (we [] kvs)))
theorem Yl (hc:X.calm=true):zY X (.type "dict") (rDP X.K):=by
 rintro pins s σ H xs us Q I r ⟨p,ys,kvs,rfl,hl,hn,hp,q⟩
 cases r with
 | cons r rr =>
  cases rr;cases r;obtain ⟨its,rv,⟨o,n,e1,e2,e3,e4⟩,hz⟩:=I.list hl;obtain ⟨c,dct,dat,sl⟩:=o;simp only at e2 e3 e4;subst e2 e3 e4;obtain ⟨more,m1,m2,m3⟩:=Qf I hp rv;have hle:=rv.length;have hkl:kvs.length=ys.length:=hp.length.symm;refine Z7 (knd:=zB X.prog X.w) (more:=more) (I.ok.hd hc) e1 (by simp only [Y0b];omega) (by simp only [Y0b];exact m2) (λ i v hv=>m3 i v (by simpa using hv)) λ h' tk dd old=>?_;have hz:(we [] kvs).length<=sizeLine:=by
   have h1:=wf kvs [];rw [Y1t] at h1;rw [sizeLine_eq];omega
  exact ⟨.ref _,_,I.laid (t':=tk) old (Y04 _) (Y9 hz (beq_eq_false_iff_ne.mpr (Ne.symm (Y0g I.big))) (m1.merge .nil) dd),rfl,q _ (I.hok.fresh (Y04 _))⟩
end
section
variable {X:Cx}
def z6c:V->Option Int->Option Int->Hp->VK->Prop:=λ x lo hi H Q=>∃ z,x=.str z/\z.length<=sizeLine/\Q (.str (Txt.slice z lo hi)) H
theorem z2i:SlR X z6c:=by
 intro pins s σ H x v vl vu lo hi sl Q I rx hs pl pu h;obtain ⟨z,rfl,hz,q⟩:=h;obtain ⟨t,rfl⟩:=rx;obtain ⟨os,hos,hcs,hds⟩:=hs;refine ⟨"str",_,F.slot_str_getitem.lookup,typeIs_str _ _ _,?_⟩;cases pl with
 | none =>
  cases pu with
  | none=>exact wpAny_getItem_str_slice (l:=none) (u:=none) (st:=none) ⟨os,hos,hcs,hds⟩ rfl (post_val_or_str ⟨Y15 (Txt.slice_le z _ _) hz,λ t' k=>⟨.str _,H,I.tok k,⟨t',rfl⟩,q⟩⟩)
  | int j uj=>exact wpAny_getItem_str_slice (l:=none) (u:=some (j,uj)) (st:=none) ⟨os,hos,hcs,hds⟩ rfl (post_val_or_str ⟨Y15 (Txt.slice_le z _ _) hz,λ t' k=>⟨.str _,H,I.tok k,⟨t',rfl⟩,q⟩⟩)
 | int i ui =>
  cases pu with
  | none=>exact wpAny_getItem_str_slice (l:=some (i,ui)) (u:=none) (st:=none) ⟨os,hos,hcs,hds⟩ rfl (post_val_or_str ⟨Y15 (Txt.slice_le z _ _) hz,λ t' k=>⟨.str _,H,I.tok k,⟨t',rfl⟩,q⟩⟩)
  | int j uj=>exact wpAny_getItem_str_slice (l:=some (i,ui)) (u:=some (j,uj)) (st:=none) ⟨os,hos,hcs,hds⟩ rfl (post_val_or_str ⟨Y15 (Txt.slice_le z _ _) hz,λ t' k=>⟨.str _,H,I.tok k,⟨t',rfl⟩,q⟩⟩)
end
def ZD:V->Bool
 | .non=>true
 | _=>false
def z2j (K:Y00):R2:=λ x y H Q=>∃ p xs,x=.non/\y=.ref p/\(SqL K H p xs\/SqT K H p xs)/\(∀ v∈xs,jL v=true\/∃ a ts,v=.ref a/\SqT K H a ts)/\Q (.bl (xs.any ZD)) H
section
variable {X:Cx}
theorem z2k {v:V}{u:Value}{H:Hp}{K:Y00}(r:RelV v u)(f:jL v=true\/∃ a ts,v=.ref a/\SqT K H a ts):eqU .non u=ZD v:=by
 rcases f with f | ⟨a,ts,rfl,_⟩
 ·rw [Wk r f];cases v<;>first | rfl | exact absurd (show false=true from f) Y0t
 ·cases r;rfl
theorem Ws {H:Hp}{K:Y00}:∀ {xs:List V}{us:List Value},Vals xs us->(∀ v∈xs,jL v=true\/∃ a ts,v=.ref a/\SqT K H a ts)->us.any (eqU .non)=xs.any ZD
 | _,_,.nil,_=>rfl
 | y::xs,u::us,.cons r t,f=>by
  rw [Y1l,Y1l,z2k r (f y (Y03 ..)),Ws t λ v hv=>f v (Y02 _ hv)]
theorem Wt {pins:List (Addr×Obj)}{σ:St}{H:Hp}{s:Shared}{A:Around}(I:Inv X pins σ H s)(hu:A.units<cLine):∀ {xs:List V}{us:List Value},Vals xs us->(∀ v∈xs,jL v=true\/∃ a ts,v=.ref a/\SqT X.K H a ts)->∀ u∈us,SeqAt.EqAt A s u .none (eqU .non u)
 | _,_,.nil,_=>λ u hu=>by cases hu
 | y::xs,u::us,.cons r t,f=>λ u' hu'=>by
  rcases Y06.mp hu' with rfl | hu'
  ·rcases f y (Y03 ..) with fy | ⟨a,ts,rfl,sq⟩
   ·rw [Wk r fy];exact G1 r (show RelV .non .none from rfl) fy rfl
   ·cases r;obtain ⟨its,_,pl,_⟩:=I.tuple sq;exact SeqAt.EqAt.tuple_none pl hu
  ·exact Wt I hu t (λ v hv=>f v (Y02 _ hv)) u' hu'
theorem Ym (hu:X.A.in1.units<cLine):OpR X (compareOp .In) (z2j X.K):=by
 intro pins s σ H x y v u Q I rx ry h;obtain ⟨p,xs,rfl,rfl,hq,fs,q⟩:=h;cases rx;cases ry;rcases hq with hq | hq
 ·obtain ⟨its,r,pl,hz⟩:=I.list hq;refine SeqAt.in_listAt (eqU .non) pl.isList (λ w hw=>Wt I hu r fs w (by simpa using hw)) ⟨.bl _,H,I,rfl,?_⟩;rw [show its.toArray.any (eqU .non)=its.any (eqU .non) by simp,Ws r fs];exact q
 ·obtain ⟨its,r,pl,hz⟩:=I.tuple hq;refine SeqAt.in_tupleAt (eqU .non) pl (λ w hw=>Wt I hu r fs w (by simpa using hw)) ⟨.bl _,H,I,rfl,?_⟩;rw [show its.toArray.any (eqU .non)=its.any (eqU .non) by simp,Ws r fs];exact q
end
end L2
namespace L2
open PySem PySem.W PySem.Spec PyProof.Rows PySem.Calls PySem.Builtin PySem.Builtin.ObjectAttr PySem.Builtin.Getset_descriptor
structure ExC (K:Y00)(C:Addr):Prop where
 ga:findIn K (.ref C) "__getattribute__"=some (some (.builtin "BaseException.__getattribute__"))
 ng:findIn K (.ref C) "__getattr__"=some none
 cl:findIn K (.ref C) "__class__"=some (some (.builtin "object.__class__"))
 bx:mroIn K C (.type "BaseException")=some true
 ob:mroIn K C (.type "object")=some true
 is:(clsIn K C).isSome=true
end L2
namespace L2
open PySem PySem.Spec PyProof.Rows
def Gr (C:Addr)(sp:Sp)(Z:ZK)(t:TA):TE:=λ σ H Q=>t σ H λ vs H1=>∀ x dx,H1 x=none->H1 dx=none->dx≠x ->
 sp (.ref x::vs) (upd (upd H1 dx (.own x)) x (.ins C dx [])) (λ v H2=>v=.non/\Q (.ref x) H2) (λ C _ H'=>Z σ C H')
section
variable {X:Cx}{k:Nat}{f C:Addr}{fd:FuncData}{ps:List Str}{sp:Sp}{Z:ZK}{x:Str}{p pos:Pos}{e:Expr}{es:List Expr}{t:TA}
theorem V6 {pins:List (Addr×Obj)}{σ:St}{H:Hp}{s:Shared}{Q:VK}{us:List Value}{vs:List V}(M:Mk X.K C f)(F:FnOk X.prog X.w X.K X.mg X.base (CXs X.prog X.w) k f fd ps sp)(hr:Room (k+1) X.A)(hb:Binds X.K fd ps [])
  (th:Thr X Z) (I:Inv X pins σ H s) (r:Vals vs us)
  (h:∀ x dx,H x=none->H dx=none->dx≠x->sp (.ref x::vs) (upd (upd H dx (.own x)) x (.ins C dx [])) (λ v H2=>v=.non/\Q (.ref x) H2) (λ C _ H'=>Z σ C H')) :
  wpAny (model X.prog X.w) X.A (call (.ref C) us) (EP X pins σ Q) X.xe s:=by
 have hq:=h (s.heap.objs.size+1) s.heap.objs.size (I.hok.fresh (Y2o _)) (I.hok.fresh (Y04 _)) (Y0g (Y1x _));have I2:=Inv.made (C:=C) I;have r2:Vals (V.ref (s.heap.objs.size+1)::vs) (Value.ref (s.heap.objs.size+1)::us):=.cons rfl r;have hl:((Value.ref (s.heap.objs.size+1)::us)++[]).length=ps.length:=by
  have e:=r2.length;rw [F.len _ _ _ _ hq] at e;rw [Y0y];exact e.symm
 have hb2:=hb _ (Value.ref (s.heap.objs.size+1)::us) I2.kIn hl;rw [Y0y] at hb2;refine wpAny_call (VU (f:=f) I.kIn M.makes M.init (beq_iff_eq.mp M.fn) (codeAny_mono (F.run _ X.stack _ _ ⟨Value.ref (s.heap.objs.size+1)::us,[]⟩ (Value.ref (s.heap.objs.size+1)::us) _ _ _ (hr.make C us [])
  (I2.env0.make C us []) hb2 r2 hq) λ r s' hq'=>?_))
 cases r with
 | error e =>
  have hq2:CXs X.prog X.w X.stack _ _ (λ C _ H'=>Z σ C H') e s':=hq';obtain ⟨a,C,t,H',rfl,I',F',z⟩:=I2.thrown th.toXOk hq2;exact th.go I' F' z
 | ok fl =>
  cases fl with
  | ret u =>
   obtain ⟨v,H',I3,rv,ev,q3⟩:=I2.after hq';subst ev;exact ⟨rv,⟨V.ref (s.heap.objs.size+1),H',I3,rfl,q3⟩⟩
  | next=>exact False.elim hq'
  | brk=>exact False.elim hq'
  | cont=>exact False.elim hq'
theorem Gs (M:Mk X.K C f)(F:FnOk X.prog X.w X.K X.mg X.base (CXs X.prog X.w) k f fd ps sp)(hr:Room (k+1) X.A)(hg:Gl X x)(hm:X.mg x=some (.ref C))(hb:Binds X.K fd ps [])(th:Thr X Z)
  (ha:PA X (e::es) t) (hdb:(x==("__debug__":Str))=false:=by decide) (he:starEach (e::es) X.env=(false,eval e X.env)::starEach es X.env:=by rfl) (hpl:(backTo pos (starEach es X.env)).any (·.1)=false:=by rfl) :
  PE X (.Call (.Name x p) (e::es) [] pos) (Gr C sp Z t):=by
 intro pins s σ H Q I h;refine wpAny_Call_Name_kw (We I hg hm ?_ hdb);refine Y3c (h₀:=X.base) I.ok.mod.kin M.kp (thn (ha pos pins s σ H _ I h) λ us s1 ⟨vs,H1,I1,r,q⟩=>⟨I1.kIn,?_⟩) he hpl;exact V6 M F hr hb th I1 r q
end
def z2l (X:Cx)(Z:ZK)(tf:TE)(t:TA):TE:=λ σ H Q=>tf σ H λ v H1=>∃ f k fd ps sp,v=.ref f/\FnOk X.prog X.w X.K X.mg X.base (CXs X.prog X.w) k f fd ps sp/\Room k X.A/\PySem.W.keepIn X.K (.ref f)=true/\Binds X.K fd ps [] /\
 t σ H1 λ vs H2=>sp vs H2 Q (λ C _ H'=>Z σ C H')
section
variable {X:Cx}{Z:ZK}{o i e:Expr}{p pos:Pos}{es:List Expr}{tf:TE}{t:TA}
theorem Gu (hf:PE X (.Subscript o i p) tf)(th:Thr X Z)(ha:PA X (e::es) t)(he:starEach (e::es) X.env=(false,eval e X.env)::starEach es X.env:=by rfl)(hpl:(backTo pos (starEach es X.env)).any (·.1)=false:=by rfl) :
  PE X (.Call (.Subscript o i p) (e::es) [] pos) (z2l X Z tf t):=by
 intro pins s σ H Q I h;have arm:eval (.Call (.Subscript o i p) (e::es) [] pos) X.env=(do callWith pos (<- eval (.Subscript o i p) X.env) [] (backTo pos (starEach (e::es) X.env)) (backToKw pos (keywordEach [] X.env))):=rfl;rw [arm];refine wpAny_bind (thn (hf pins s σ H _ I h) λ u s1 ⟨v,H1,I1,rv,q⟩=>?_);obtain ⟨f,k,fd,ps,sp,rfl,F,hr,hk,hb,q⟩:=q;cases (show u=Value.ref f from rv);refine Y3c (h₀:=X.base) I1.ok.mod.kin hk (thn (ha pos pins s1 σ H1 _ I1 q) λ us s2 ⟨vs,H2,I2,r,q2⟩=>⟨I2.kIn,?_⟩) he hpl;exact Ud F hr hb .nil th I2 r (by rw [Y0y];exact q2)
end
abbrev wj (h:Heap)(z TI TO:Addr)(f0:Value)(f1:Bool):Prop :=
 h.get? z=some { cls:=.type "zip",dict:=none,data:=.fields #[f0,.bool f1,.bool false,.ref TI,.ref TO],slots:=#[] }
def okF (f0:Value):Prop:=f0=.none\/∃ a t,f0=.int a t
section
variable {prog:Program}{w:World}{A:Around}{E:Value->Shared->Prop}{s:Shared}
theorem Qg {z TI TO:Addr}{f0:Value}{f1:Bool}{Q:Bool->Shared->Prop}(hz:wj s.heap z TI TO f0 f1)(ok:okF f0)(hT:Q true s)(hF:∀ h',wj h' z TI TO f0 true->Heap.SameBut z s.heap h'->Q false { s with heap:=h' }) :
  wpAny (model prog w) A (Builtin.SmallTypes.ownedTupleIsFree (.ref z)) Q E s:=by
 unfold Builtin.SmallTypes.ownedTupleIsFree;refine wpAny_bind (wpAny_field hz rfl (x:=f0) rfl ?_);rcases ok with rfl | ⟨a,t,rfl⟩
 ·exact wpAny_pure hT
 ·show wpAny _ _ (loadIfAlive a.toNat >>= _) _ _ _;refine wpAny_bind ?_;cases e:s.heap.get? a.toNat with
  | none =>
   have al:∀ {Q:Option Obj->Shared->Prop},Q none s->wpAny (model prog w) A (loadIfAlive a.toNat) Q E s:=λ {Q} h=>by
    have h':Q (s.heap.get? a.toNat) s:=by rw [e];exact h
    exact λ _ _ _=>h'
   exact al (wpAny_pure hT)
  | some o =>
   refine PySem.W.kdx_alive e ?_;show wpAny _ _ (field (.ref z) 1 >>= _) _ _ _;refine wpAny_bind (wpAny_field hz rfl (x:=.bool f1) rfl ?_);cases f1 with
   | true=>exact wpAny_pure (by have:=hF s.heap hz ⟨rfl,λ _ _=>rfl⟩;exact this)
   | false =>
    show wpAny _ _ (setField (.ref z) 1 (.bool true) >>= _) _ _ _;refine wpAny_bind (wpAny_setField_rec hz (by simp) λ h₁ hz₁ hs₁=>wpAny_pure (hF h₁ hz₁ hs₁))
theorem ZE {z TI TO i1 i2 l1 l2:Addr}{k1 k2:Nat}{xs ys:Array Value}{x y a b f0:Value}{f1:Bool}{Q:Value->Shared->Prop}(D:ZipApart z TI TO i1 i2 l1 l2)
  (hz:wj s.heap z TI TO f0 f1) (ok:okF f0) (hTI:IsPair s.heap TI (.ref i1) (.ref i2)) (hTO:IsPair s.heap TO a b)
  (h1:SIt s.heap i1 l1 k1 xs) (h2:SIt s.heap i2 l2 k2 ys) (hx:xs[k1]?=some x) (hy:ys[k2]?=some y)
  (hQ:∀ h' g0 g1,wj h' z TI TO g0 g1->okF g0->(∃ a b,IsPair h' TO a b)->SIt h' i1 l1 (k1+1) xs->SIt h' i2 l2 (k2+1) ys->IsPair h' s.heap.objs.size x y ->
   (∀ c o,c≠z->c≠TO->c≠i1->c≠i2->s.heap.get? c=some o->h'.get? c=some o)->Q (.ref s.heap.objs.size) { s with heap:=h' }) :
  wpAny (model prog w) A (Builtin.«zip.__next__» ⟨[.ref z],[]⟩) (λ fin s'=>∃ v,fin=.done (.ret v)/\Q v s') E s:=by
 show wpAny _ _ (field (.ref z) 2 >>= _) _ _ _;refine wpAny_bind (wpAny_field hz rfl (x:=.bool false) rfl ?_);show wpAny _ _ (field (.ref z) 3 >>= _) _ _ _;refine wpAny_bind (wpAny_field hz rfl (x:=.ref TI) rfl ?_);refine wpAny_bind (wpAny_seqItems hTI rfl ?_);show wpAny _ _ (Builtin.SmallTypes.ownedTupleIsFree (.ref z) >>= _) _ _ _;refine wpAny_bind (Qg hz ok ?_ λ h0 hz0 hs0=>?_)
 ·simp only [if_true];refine wpAny_bind (wpAny_rule ?_);refine wpAny_bind (wpAny_field hz rfl (x:=.ref TO) rfl ?_);refine wpAny_bind (wpAny_setField_rec hz (by simp) λ h₁ hz₁ hs₁=>?_);replace hz₁:wj h₁ z TI TO .ellipsis f1:=hz₁;refine wpAny_bind ?_;simp only [Y2y,Y34,Y24,Y29];refine wpAny_bind (wpAny_bind (wpAny_onRaise ?_));show wpAny _ _ (Builtin.SmallTypes.nextOf (.ref i1) >>= _) _ _ _;refine wpAny_bind (zK D.l1i1 (h1.ext hs₁.extBut D.i1z D.l1z) hx λ h₂ h1₂ hs₂=>wpAny_pure ?_);have hTO₂:IsPair h₂ TO a b:=hs₂.extBut _ _ D.TOi1 (hs₁.extBut _ _ D.TOz hTO);refine wpAny_bind (wpAny_seqItems hTO₂ rfl ?_);refine wpAny_bind (wpAny_updateSeq_pair hTO₂ λ h₃ hTO₃ hs₃=>?_);replace hTO₃:IsPair h₃ TO x b:=hTO₃;refine wpAny_bind (wpAny_letGo (wpAny_pure ?_));refine wpAny_bind (wpAny_bind (wpAny_onRaise ?_));show wpAny _ _ (Builtin.SmallTypes.nextOf (.ref i2) >>= _) _ _ _;refine wpAny_bind (zK D.l2i2 (((h2.ext hs₁.extBut D.i2z D.l2z).ext hs₂.extBut D.i12.symm D.l2i1).ext hs₃.extBut D.TOi2.symm D.l2TO) hy λ h₄ h2₄ hs₄=>wpAny_pure ?_);have hTO₄:IsPair h₄ TO x b:=hs₄.extBut _ _ D.TOi2 hTO₃;refine wpAny_bind (wpAny_seqItems hTO₄ rfl ?_);refine wpAny_bind (wpAny_updateSeq_pair hTO₄ λ h₅ hTO₅ hs₅=>?_);replace hTO₅:IsPair h₅ TO x y:=hTO₅;refine wpAny_bind (wpAny_letGo (wpAny_pure (wpAny_pure ?_)));refine wpAny_bind (wpAny_seqItems hTO₅ rfl ?_);refine wpAny_bind (wpAny_newTuple ?_);have hsz:h₅.objs.size=s.heap.objs.size:=by rw [hs₅.1,hs₄.1,hs₃.1,hs₂.1,hs₁.1]
  have hz₅:wj h₅ z TI TO .ellipsis f1:=hs₅.extBut _ _ D.TOz.symm (hs₄.extBut _ _ D.i2z.symm (hs₃.extBut _ _ D.TOz.symm (hs₂.extBut _ _ D.i1z.symm hz₁)));have hk₅:∀ c o,c≠z->c≠TO->c≠i1->c≠i2->s.heap.get? c=some o->h₅.get? c=some o:=λ c o c1 c2 c3 c4 e =>
   hs₅.extBut _ _ c2 (hs₄.extBut _ _ c4 (hs₃.extBut _ _ c2 (hs₂.extBut _ _ c3 (hs₁.extBut _ _ c1 e))))
  have h1₅:SIt h₅ i1 l1 (k1+1) xs:=((h1₂.ext hs₃.extBut D.TOi1.symm D.l1TO).ext hs₄.extBut D.i12 D.l1i2).ext hs₅.extBut D.TOi1.symm D.l1TO;have h2₅:SIt h₅ i2 l2 (k2+1) ys:=h2₄.ext hs₅.extBut D.TOi2.symm D.l2TO;have hzlt:z<h₅.objs.size:=Y05 hz₅;show wpAny _ _ (Builtin.SmallTypes.ownedTupleHandOut (.ref z) (.ref h₅.objs.size) >>= _) _ _ _;refine wpAny_bind ?_;unfold Builtin.SmallTypes.ownedTupleHandOut;have hz₆:wj (h₅.push { cls:=.type "tuple",data:=.seq #[x,y] }) z TI TO .ellipsis f1:=Y01 _ hz₅;refine wpAny_bind (wpAny_setField_rec hz₆ (by simp) λ h₇ hz₇ hs₇=>?_);replace hz₇:wj h₇ z TI TO (rawInt h₅.objs.size) f1:=hz₇;refine wpAny_setField_rec hz₇ (by simp) λ h₈ hz₈ hs₈=>?_;replace hz₈:wj h₈ z TI TO (rawInt h₅.objs.size) false:=hz₈;have up:∀ c o,c≠z->h₅.get? c=some o->h₈.get? c=some o:=λ c o c1 e=>hs₈.extBut _ _ c1 (hs₇.extBut _ _ c1 (Y01 _ e));have hT₈:IsPair h₈ h₅.objs.size x y:=hs₈.extBut _ _ (Y17 hzlt) (hs₇.extBut _ _ (Y17 hzlt) (Y0c _ rfl));rw [hsz] at hz₈ hT₈;refine wpAny_pure ⟨_,rfl,?_⟩;show Q (.ref h₅.objs.size) _;rw [hsz];exact hQ h₈ _ _ hz₈ (.inr ⟨_,_,rfl⟩) ⟨x,y,up _ _ D.TOz hTO₅⟩ (h1₅.move (λ o e=>up _ o D.i1z e) (λ o e=>up _ o D.l1z e)) (h2₅.move (λ o e=>up _ o D.i2z e) (λ o e=>up _ o D.l2z e)) hT₈ λ c o c1 c2 c3 c4 e=>up c o c1 (hk₅ c o c1 c2 c3 c4 e)
 ·simp only [Y21,if_false];refine wpAny_bind ?_;simp only [List.forIn_toArray,Y24,Y29];refine wpAny_bind (wpAny_bind (wpAny_holding ?_));show wpAny _ _ (Builtin.SmallTypes.nextOf (.ref i1) >>= _) _ _ _;refine wpAny_bind (zK D.l1i1 (h1.ext hs0.extBut D.i1z D.l1z) hx λ h₂ h1₂ hs₂=>wpAny_pure (wpAny_pure ?_));refine wpAny_bind (wpAny_bind (wpAny_holding ?_));show wpAny _ _ (Builtin.SmallTypes.nextOf (.ref i2) >>= _) _ _ _;refine wpAny_bind (zK D.l2i2 ((h2.ext hs0.extBut D.i2z D.l2z).ext hs₂.extBut D.i12.symm D.l2i1) hy λ h₄ h2₄ hs₄=>wpAny_pure (wpAny_pure (wpAny_pure ?_)));refine wpAny_bind (wpAny_newTuple (wpAny_pure ⟨_,rfl,?_⟩) (by show 2<=sizeLine;rw [sizeLine_eq];decide));have hsz:h₄.objs.size=s.heap.objs.size:=by rw [hs₄.1,hs₂.1,hs0.1]
  have hz₄:wj h₄ z TI TO f0 true:=hs₄.extBut _ _ D.i2z.symm (hs₂.extBut _ _ D.i1z.symm hz0);have up:∀ c o,h₄.get? c=some o->(h₄.push { cls:=.type "tuple",data:=.seq #[x,y] }).get? c=some o:=λ c o e=>Y01 _ e;have hk:∀ c o,c≠z->c≠TO->c≠i1->c≠i2->s.heap.get? c=some o->h₄.get? c=some o:=λ c o c1 c2 c3 c4 e=>hs₄.extBut _ _ c4 (hs₂.extBut _ _ c3 (hs0.extBut _ _ c1 e));have h1₄:SIt h₄ i1 l1 (k1+1) xs:=h1₂.ext hs₄.extBut D.i12 D.l1i2;show Q (.ref h₄.objs.size) _;have T':IsPair (h₄.push { cls:=.type "tuple",data:=.seq #[x,y] }) h₄.objs.size x y:=Y0c _ rfl;rw [hsz] at T' ⊢;exact hQ _ _ _ (up _ _ hz₄) ok ⟨a,b,up _ _ (hs₄.extBut _ _ D.TOi2 (hs₂.extBut _ _ D.TOi1 (hs0.extBut _ _ D.TOz hTO)))⟩ (h1₄.move (λ o e=>up _ o e) (λ o e=>up _ o e)) (h2₄.move (λ o e=>up _ o e) (λ o e=>up _ o e)) T' λ c o c1 c2 c3 c4 e=>up c o (hk c o c1 c2 c3 c4 e)
theorem Jm {z TI TO i1 i2 l1 l2:Addr}{k1 k2:Nat}{xs ys:Array Value}{a b f0:Value}{f1:Bool}{Q:Fin->Shared->Prop}(hh:A.handled=none)(D:ZipApart z TI TO i1 i2 l1 l2)
  (hz:wj s.heap z TI TO f0 f1) (ok:okF f0) (hTI:IsPair s.heap TI (.ref i1) (.ref i2)) (hTO:IsPair s.heap TO a b)
  (h1:SIt s.heap i1 l1 k1 xs) (h2:SIt s.heap i2 l2 k2 ys) (hend:xs[k1]?=none\/ys[k2]?=none)
  (hE:∀ h' e,(∀ c o,c≠z->c≠TO->c≠i1->c≠i2->s.heap.get? c=some o->h'.get? c=some o)->(∃ o,h'.get? e=some o/\o.cls=.type "StopIteration")->E (.ref e) { s with heap:=h' }) :
  wpAny (model prog w) A (Builtin.«zip.__next__» ⟨[.ref z],[]⟩) Q E s:=by
 show wpAny _ _ (field (.ref z) 2 >>= _) _ _ _;refine wpAny_bind (wpAny_field hz rfl (x:=.bool false) rfl ?_);show wpAny _ _ (field (.ref z) 3 >>= _) _ _ _;refine wpAny_bind (wpAny_field hz rfl (x:=.ref TI) rfl ?_);refine wpAny_bind (wpAny_seqItems hTI rfl ?_);show wpAny _ _ (Builtin.SmallTypes.ownedTupleIsFree (.ref z) >>= _) _ _ _;refine wpAny_bind (Qg hz ok ?_ λ h0 hz0 hs0=>?_)
 ·simp only [if_true];refine wpAny_bind (wpAny_rule ?_);refine wpAny_bind (wpAny_field hz rfl (x:=.ref TO) rfl ?_);refine wpAny_bind (wpAny_setField_rec hz (by simp) λ h₁ hz₁ hs₁=>?_);replace hz₁:wj h₁ z TI TO .ellipsis f1:=hz₁;refine wpAny_bind ?_;simp only [Y2y,Y34,Y24,Y29];refine wpAny_bind (wpAny_bind (wpAny_onRaise ?_));show wpAny _ _ (Builtin.SmallTypes.nextOf (.ref i1) >>= _) _ _ _;cases hx:xs[k1]? with
  | none =>
   refine wpAny_bind (jz hh (h1.ext hs₁.extBut D.i1z D.l1z) hx λ h₂ e hs₂ he=>?_);obtain ⟨oe,hoe,hce⟩:=he;have hz₂:wj h₂ z TI TO .ellipsis f1:=hs₂ _ _ D.i1z.symm hz₁;have hez:e≠z:=λ x=>by subst x;rw [hz₂] at hoe;cases hoe;simp at hce
   refine wpAny_setField_rec hz₂ (by simp) λ h₃ _ hs₃=>hE h₃ e (λ c o c1 _ c3 _ x=>hs₃.extBut _ _ c1 (hs₂ _ _ c3 (hs₁.extBut _ _ c1 x))) ⟨oe,hs₃.extBut _ _ hez hoe,hce⟩
  | some x =>
   have hy:ys[k2]?=none:=by rcases hend with h | h;rw [hx] at h;cases h;exact h
   refine wpAny_bind (zK D.l1i1 (h1.ext hs₁.extBut D.i1z D.l1z) hx λ h₂ h1₂ hs₂=>wpAny_pure ?_);have hTO₂:IsPair h₂ TO a b:=hs₂.extBut _ _ D.TOi1 (hs₁.extBut _ _ D.TOz hTO);refine wpAny_bind (wpAny_seqItems hTO₂ rfl ?_);refine wpAny_bind (wpAny_updateSeq_pair hTO₂ λ h₃ hTO₃ hs₃=>?_);refine wpAny_bind (wpAny_letGo (wpAny_pure ?_));refine wpAny_bind (wpAny_bind (wpAny_onRaise ?_));show wpAny _ _ (Builtin.SmallTypes.nextOf (.ref i2) >>= _) _ _ _;refine wpAny_bind (jz hh (((h2.ext hs₁.extBut D.i2z D.l2z).ext hs₂.extBut D.i12.symm D.l2i1).ext hs₃.extBut D.TOi2.symm D.l2TO) hy λ h₄ e hs₄ he=>?_);obtain ⟨oe,hoe,hce⟩:=he;have hz₄:wj h₄ z TI TO .ellipsis f1:=hs₄ _ _ D.i2z.symm (hs₃.extBut _ _ D.TOz.symm (hs₂.extBut _ _ D.i1z.symm hz₁));have hez:e≠z:=λ x=>by subst x;rw [hz₄] at hoe;cases hoe;simp at hce
   refine wpAny_setField_rec hz₄ (by simp) λ h₅ _ hs₅=>hE h₅ e (λ c o c1 c2 c3 c4 x=>hs₅.extBut _ _ c1 (hs₄ _ _ c4 (hs₃.extBut _ _ c2 (hs₂.extBut _ _ c3 (hs₁.extBut _ _ c1 x))))) ⟨oe,hs₅.extBut _ _ hez hoe,hce⟩
 ·simp only [Y21,if_false];refine wpAny_bind ?_;simp only [List.forIn_toArray,Y24,Y29];refine wpAny_bind (wpAny_bind (wpAny_holding ?_));show wpAny _ _ (Builtin.SmallTypes.nextOf (.ref i1) >>= _) _ _ _;cases hx:xs[k1]? with
  | none=>exact wpAny_bind (jz hh (h1.ext hs0.extBut D.i1z D.l1z) hx λ h₂ e hs₂ he=>hE h₂ e (λ c o c1 _ c3 _ x=>hs₂ _ _ c3 (hs0.extBut _ _ c1 x)) he)
  | some x =>
   have hy:ys[k2]?=none:=by rcases hend with h | h;rw [hx] at h;cases h;exact h
   refine wpAny_bind (zK D.l1i1 (h1.ext hs0.extBut D.i1z D.l1z) hx λ h₂ h1₂ hs₂=>wpAny_pure (wpAny_pure ?_));refine wpAny_bind (wpAny_bind (wpAny_holding ?_));show wpAny _ _ (Builtin.SmallTypes.nextOf (.ref i2) >>= _) _ _ _;exact wpAny_bind (jz hh ((h2.ext hs0.extBut D.i2z D.l2z).ext hs₂.extBut D.i12.symm D.l2i1) hy λ h₄ e hs₄ he=>hE h₄ e (λ c o c1 c2 c3 c4 x=>hs₄ _ _ c4 (hs₂.extBut _ _ c3 (hs0.extBut _ _ c1 x))) he)
theorem wF {z TI TO i1 i2 l1 l2:Addr}{k1 k2:Nat}{xs ys:Array Value}{x y a b f0:Value}{f1:Bool}{Q:Option Value->Shared->Prop}(D:ZipApart z TI TO i1 i2 l1 l2)
  (hz:wj s.heap z TI TO f0 f1) (ok:okF f0) (hTI:IsPair s.heap TI (.ref i1) (.ref i2)) (hTO:IsPair s.heap TO a b)
  (h1:SIt s.heap i1 l1 k1 xs) (h2:SIt s.heap i2 l2 k2 ys) (hx:xs[k1]?=some x) (hy:ys[k2]?=some y)
  (hQ:∀ h' g0 g1,wj h' z TI TO g0 g1->okF g0->(∃ a b,IsPair h' TO a b)->SIt h' i1 l1 (k1+1) xs->SIt h' i2 l2 (k2+1) ys->IsPair h' s.heap.objs.size x y ->
   (∀ c o,c≠z->c≠TO->c≠i1->c≠i2->s.heap.get? c=some o->h'.get? c=some o)->Q (some (.ref s.heap.objs.size)) { s with heap:=h' }) :
  wpAny (model prog w) A (pyNext (.ref z)) Q E s:=by
 have hT:s.TypeIs (.ref z) "zip":=⟨_,hz,rfl⟩;unfold pyNext;exact wpAny_bind (wpAny_attempt (wpAny_callSpecial?_slot (name:=Str.ofString "__next__") hT Y1c
  (wpAny_call_entry Y1c hT Y2h
   (ZE D hz ok hTI hTO h1 h2 hx hy λ h' g0 g1 a1 a2 a3 a4 a5 a6 a7=>wpAny_pure (hQ h' g0 g1 a1 a2 a3 a4 a5 a6 a7)) (Y2f _))))
theorem wY {z TI TO i1 i2 l1 l2:Addr}{k1 k2:Nat}{xs ys:Array Value}{a b f0:Value}{f1:Bool}{Q:Option Value->Shared->Prop}(hh:A.handled=none)(D:ZipApart z TI TO i1 i2 l1 l2)
  (hz:wj s.heap z TI TO f0 f1) (ok:okF f0) (hTI:IsPair s.heap TI (.ref i1) (.ref i2)) (hTO:IsPair s.heap TO a b)
  (h1:SIt s.heap i1 l1 k1 xs) (h2:SIt s.heap i2 l2 k2 ys) (hend:xs[k1]?=none\/ys[k2]?=none)
  (hQ:∀ h',(∀ c o,c≠z->c≠TO->c≠i1->c≠i2->s.heap.get? c=some o->h'.get? c=some o)->Q none { s with heap:=h' }):wpAny (model prog w) A (pyNext (.ref z)) Q E s:=by
 have hT:s.TypeIs (.ref z) "zip":=⟨_,hz,rfl⟩;unfold pyNext;refine wpAny_bind (wpAny_attempt (wpAny_callSpecial?_slot (name:=Str.ofString "__next__") hT Y1c
  (wpAny_call_entry Y1c hT Y2h (Jm hh D hz ok hTI hTO h1 h2 hend λ h' e hk he=>?_) (Y2f _))))
 obtain ⟨o,ho,hc⟩:=he;refine wpAny_bind (wpAny_isInstance (T:="StopIteration") (b:=true) ⟨o,ho,hc⟩ isSubtype_stop ?_);exact wpAny_pure (hQ _ hk)
end
def ZTm (z TI TO i1 i2 l1 l2:Addr)(b1 b2:Bool)(i:Nat)(h:Heap):Prop :=
 (∃ f0 f1,wj h z TI TO f0 f1/\okF f0)/\IsPair h TI (.ref i1) (.ref i2)/\(∃ a b,IsPair h TO a b)/\ItR h i1 l1 i b1/\ItR h i2 l2 i b2
theorem yY {prog:Program}{w:World}{A:Around}{E:Value->Shared->Prop}{s:Shared}{z TI TO:Addr}{f0:Value}{f1:Bool}{Q:Value->Shared->Prop}(hz:wj s.heap z TI TO f0 f1)(h:Q (.ref z) s):wpAny (model prog w) A (pyIter (.ref z)) Q E s:=by
 have hT:s.TypeIs (.ref z) "zip":=⟨_,hz,rfl⟩;refine wpAny_pyIter_slot hT PySem.F.slot_zip_iter (wpAny_call_entry PySem.F.slot_zip_iter hT PySem.F.entry_zip_iter ?_ (PySem.F.args_zip_iter_1 _));exact wpAny_pure ⟨_,rfl,"zip",_,hT,PySem.F.slot_zip_next.lookup,h⟩
theorem V7 {P:Program}{w:World}{K:Y00}{x1:Str}{pos:Pos}{z TI TO i1 i2 l1 l2:Addr}(D:ZipApart z TI TO i1 i2 l1 l2)(hT1:l1≠TI)(hT2:l2≠TI)(b1 b2:Bool)(n m:Nat) :
  Turn P w K (.Name x1 pos) (Itz K l1 l2 b1 b2 n m) [z,TI,TO,i1,i2] z (ZTm z TI TO i1 i2 l1 l2 b1 b2) where
 mem:=by simp
 obj:=λ i h st b hb=>by
  obtain ⟨⟨f0,f1,z0,okf⟩,zI,⟨a,c,zO⟩,t1,t2⟩:=st;have sq:∀ {i a k b},ItR h i a k b->∃ o,h.get? i=some o/\∀ v,o.data≠.cell v:=λ t=>by
   obtain ⟨o,vs,e,d⟩:=t.rec;exact ⟨o,e,λ v q=>by rw [d] at q;cases q⟩
  simp only [Y06,Y0k,or_false] at hb;rcases hb with rfl | rfl | rfl | rfl | rfl
  ·exact ⟨_,z0,λ v q=>by cases q⟩
  ·exact ⟨_,zI,λ v q=>by cases q⟩
  ·exact ⟨_,zO,λ v q=>by cases q⟩
  ·exact sq t1
  ·exact sq t2
 keep:=λ i h h' st k=>by
  obtain ⟨⟨f0,f1,z0,okf⟩,zI,⟨a,c,zO⟩,t1,t2⟩:=st;exact ⟨⟨f0,f1,k z (by simp) _ z0,okf⟩,k TI (by simp) _ zI,⟨a,c,k TO (by simp) _ zO⟩,t1.at λ o e=>k i1 (by simp) o e,t2.at λ o e=>k i2 (by simp) o e⟩
 item:=by
  intro X hP hw hK hc i pins s σ H E I hf st hg;subst hP hw hK;obtain ⟨hi,hj,xs,ys,hx,hy,lx,ly⟩:=hg;obtain ⟨⟨f0,f1,z0,okf⟩,zI,⟨a,c,zO⟩,t1,t2⟩:=st;obtain ⟨its1,v1,k1,o1,n1,e1,d1⟩:=I.seqB hx;obtain ⟨its2,v2,k2,o2,n2,e2,d2⟩:=I.seqB hy;have S1:=k1 i1 i s.heap t1 λ _ e=>e;have S2:=k2 i2 i s.heap t2 λ _ e=>e;have gx:xs[i]?=some (xs[i]'(by omega)):=Y0f _;have gy:ys[i]?=some (ys[i]'(by omega)):=Y0f _;generalize xs[i]'(by omega)=x at gx;generalize ys[i]'(by omega)=y at gy;obtain ⟨u,hu,ru⟩:=v1.get gx;obtain ⟨v,hv,rv⟩:=v2.get gy;refine wF D z0 okf zI zO S1 S2 (x:=u) (y:=v) (by simpa using hu) (by simpa using hv) λ h'' g0 g1 q1 okg a2 a3 a4 a5 a7=>?_;refine ⟨_,rfl,wpAny_pure ?_⟩;have up:∀ b o,b∉[z,TI,TO,i1,i2]->s.heap.get? b=some o->h''.get? b=some o:=λ b o hb e=>by
   simp only [Y06,Y0k,or_false,not_or] at hb;exact a7 b o hb.1 hb.2.2.1 hb.2.2.2.1 hb.2.2.2.2 e
  have I1:Inv X pins σ H { s with heap:=h'',toks:=s.toks }:=I.turnedL up hf;have F:=I.fpOk (b:=s.heap.objs.size) (H':=H) (Y04 _) (I.hok.fresh (Y04 _));have h0:X.s₀.heap.get? s.heap.objs.size=none:=by
   cases q:X.s₀.heap.get? s.heap.objs.size with
   | none=>rfl
   | some o=>exact absurd (Y07 (Y05 q) I.sz) (Y0s _)
  have zs:s.heap.objs.size≠z:=Y17 (Y05 z0);have T':IsPair h'' s.heap.objs.size u v:=a5;have I2:Inv X pins σ (upd H s.heap.objs.size (.tup [x,y])) { s with heap:=h'',toks:=s.toks }:=I1.track F.1 h0 F.2.1 F.2.2.2.2.1 F.2.2.2.2.2 ⟨by show 2<=sizeLine;rw [sizeLine_eq];decide,[u,v],.cons ru (.cons rv .nil),⟨_,T',rfl,0,rfl⟩⟩;have l1lt:l1<s.heap.objs.size:=Y05 e1;have l2lt:l2<s.heap.objs.size:=Y05 e2;have l1f:l1∉[z,TI,TO,i1,i2]:=by simp [D.l1z,D.l1TO,D.l1i1,D.l1i2,hT1]
  have l2f:l2∉[z,TI,TO,i1,i2]:=by simp [D.l2z,D.l2TO,D.l2i1,D.l2i2,hT2]
  have S1':SIt h'' i1 l1 (i+1) its1.toArray:=a3;have S2':SIt h'' i2 l2 (i+1) its2.toArray:=a4;refine ⟨.ref s.heap.objs.size,_,I2,rfl,⟨_,rfl,F.1,λ xs' ys' hx' hy'=>?_⟩,⟨⟨g0,g1,q1,okg⟩,?_,a2,?_,?_⟩,λ b hb=>?_⟩
  ·rw [I.seqB_inj hx' hx,I.seqB_inj hy' hy];exact ⟨x,y,gx,gy,rfl⟩
  ·exact a7 TI _ D.TIz D.TITO D.TIi1 D.TIi2 zI
  ·exact ItR.ofS S1' t1 S1 λ o e=>up l1 o l1f e
  ·exact ItR.ofS S2' t2 S2 λ o e=>up l2 o l2f e
  ·have hb':=hf b hb;have ne:b≠s.heap.objs.size:=by
    obtain ⟨o,e,_⟩:∃ o,s.heap.get? b=some o/\True:=by
     simp only [Y06,Y0k,or_false] at hb;rcases hb with rfl | rfl | rfl | rfl | rfl
     ·exact ⟨_,z0,trivial⟩
     ·exact ⟨_,zI,trivial⟩
     ·exact ⟨_,zO,trivial⟩
     ·obtain ⟨o,vs,e,_⟩:=t1.rec;exact ⟨o,e,trivial⟩
     ·obtain ⟨o,vs,e,_⟩:=t2.rec;exact ⟨o,e,trivial⟩
    exact Y0g (Y05 e)
   rw [zo ne];exact hb'.1
 done:=by
  intro X hP hw hK hc i pins s σ H E I hf st hg;subst hP hw hK;obtain ⟨hi,xs,ys,hx,hy,lx,ly⟩:=hg;obtain ⟨⟨f0,f1,z0,okf⟩,zI,⟨a,c,zO⟩,t1,t2⟩:=st;obtain ⟨its1,v1,k1,o1,n1,e1,d1⟩:=I.seqB hx;obtain ⟨its2,v2,k2,o2,n2,e2,d2⟩:=I.seqB hy;have S1:=k1 i1 i s.heap t1 λ _ e=>e;have S2:=k2 i2 i s.heap t2 λ _ e=>e;refine wY (I.ok.hd hc) D z0 okf zI zO S1 S2 ?_ λ h' a1=>⟨rfl,I.turnedL (t':=s.toks) (l:=[z,TI,TO,i1,i2]) (λ b o hb e=>?_) hf⟩
  ·rcases hi with q | q
   ·exact .inl (by simp;rw [<- v1.length,lx,q];exact Y04 _)
   ·exact .inr (by simp;rw [<- v2.length,ly,q];exact Y04 _)
  ·simp only [Y06,Y0k,or_false,not_or] at hb;exact a1 b o hb.1 hb.2.2.1 hb.2.2.2.1 hb.2.2.2.2 e
 self:=λ _ _ _ _ _ st h=>by
  obtain ⟨⟨f0,f1,z0,okf⟩,_⟩:=st;exact yY z0 h
section
variable {X:Cx}
theorem B9 {a b:Expr}{ta:TA}{p pos:Pos}{x1:Str}{pos':Pos} (hg:Gl X "zip") (hm:X.mg "zip"=none) (ha:PA X [a,b] ta) (hs:starEach [a,b] X.env=(false,eval a X.env)::starEach [b] X.env) (hs2:(backTo pos (starEach [b] X.env)).any (·.1)=false):PI X (.Name x1 pos') (.Call (.Name "zip" p) [a,b] [] pos) (z49 X.K ta):=by
 intro pins s σ H R I h;refine Call_ (jS I hg hm Zy (Y0x (thn (ha pos pins s σ H _ I h) λ us s1 ⟨vs,H1,I1,r1,q1⟩=>?_) hs hs2));obtain ⟨l1,l2,b1,b2,xs,ys,e,hx,hy,q⟩:=q1;subst e;cases r1 with
 | cons r rr =>
  cases rr with
  | cons r' rr' =>
   cases rr';cases r;cases r';obtain ⟨i1,s1',t1⟩:=I1.seqH hx;obtain ⟨i2,s2',t2⟩:=I1.seqH hy;refine yM b1 b2 s1' s2' λ h' st k=>?_;have D:ZipApart (s1.heap.objs.size+4) (s1.heap.objs.size+2) (s1.heap.objs.size+3) s1.heap.objs.size (s1.heap.objs.size+1) l1 l2:=by constructor<;>first | exact Y0g (by omega) | exact Y17 (by omega) | exact Y0g (Y07 t1 (by omega)) | exact Y0g (Y07 t2 (by omega))
   refine wpAny_pyIter_zip (s:={ s1 with heap:=h' }) st.1 ?_;refine ⟨_,_,_,_,H1,rfl,I1.kept (t':=s1.toks) k,V7 D (Y0g (Y07 t1 (by omega))) (Y0g (Y07 t2 (by omega))) b1 b2 xs.length ys.length,⟨⟨_,_,st.1,.inl rfl⟩,st.2⟩,λ b' hb=>?_,q⟩;have hb':s1.heap.objs.size<=b':=by
    simp only [Y06,Y0k,or_false] at hb;rcases hb with rfl | rfl | rfl | rfl | rfl
    all_goals first | exact Y04 _ | exact Y2x _ _
   exact I1.fpOk hb' (I1.hok.fresh hb')
end
theorem V8:typeLookup (.type "zip") "__len__"=pure none:=by rw [typeLookup_type,builtinLookup_eq_fast];kernel_rfl
theorem Yn:typeLookup (.type "zip") "__length_hint__"=pure none:=by rw [typeLookup_type,builtinLookup_eq_fast];kernel_rfl
structure ZL (h:Heap)(z TI TO i1 i2 l1 l2 S B:Addr)(xs ys:Array Value)(c i:Nat)(Ts:List Addr):Prop where
 zs:∃ f0 f1,wj h z TI TO f0 f1/\okF f0
 ti:IsPair h TI (.ref i1) (.ref i2)
 to:∃ a b,IsPair h TO a b
 s1:SIt h i1 l1 i xs
 s2:SIt h i2 l2 i ys
 ls:h.get? S=some { cls:=.type "list",dict:=none,data:=.seq (Ts.map Value.ref).toArray c,slots:=#[] }
 sz:Ts.length=i
 it:∀ (j:Nat) (T:Addr),Ts[j]?=some T->B<=T/\∃ x y,xs[j]?=some x/\ys[j]?=some y/\IsPair h T x y
 nd:Ts.Nodup
section
variable {prog:Program}{w:World}{A:Around}{R:Result->Shared->Prop}{z TI TO i1 i2 l1 l2 S B:Addr}{xs ys:Array Value}{res:Value}
theorem Ba (hh:A.handled=none)(D:ZipApart z TI TO i1 i2 l1 l2)(hS:∀ b∈[z,TI,TO,i1,i2,l1,l2],b≠S)(hB:∀ b∈[z,TI,TO,i1,i2,S],b<B)(hn:min xs.size ys.size<=sizeLine) :
  ∀ (k i:Nat) (s:Shared) (c:Nat) (Ts:List Addr),min xs.size ys.size-i=k->i<=min xs.size ys.size->ZL s.heap z TI TO i1 i2 l1 l2 S B xs ys c i Ts->B<=s.heap.objs.size ->
  (∀ (h':Heap) (c':Nat) (Ts':List Addr),(∀ b o,b∉[z,TO,i1,i2,S]->s.heap.get? b=some o->h'.get? b=some o)->h'.get? S=some { cls:=.type "list",dict:=none,data:=.seq (Ts'.map Value.ref).toArray c',slots:=#[] }->Ts'.length=min xs.size ys.size ->
   (∀ (j:Nat) (T:Addr),Ts'[j]?=some T->B<=T/\∃ x y,xs[j]?=some x/\ys[j]?=some y/\IsPair h' T x y)->Ts'.Nodup->R (.ok (.ret res)) { s with heap:=h' }) ->
  codeAny (model prog w) A (.builtin "list.extend.loop" ⟨[.ref S,.ref z,res],[]⟩) R s:=by
 intro k
 induction k with
 | zero =>
  intro i s c Ts hk hi Z hBs hR;obtain ⟨⟨f0,f1,z0,okf⟩,ti,⟨a,b,to⟩,s1,s2,ls,sz,it,nd⟩:=Z;refine codeAny_builtin F.entry_extend_loop ?_;rw [Around.under_plainId Y2c _];show wpAny _ A.in1 (pyNext (.ref z) >>= _) _ _ s;refine wpAny_bind (wY (by exact hh) D z0 okf ti to s1 s2 ?_ λ h' hk'=>?_)
  ·have:i=min xs.size ys.size:=by omega
   rcases Nat.le_total xs.size ys.size with q | q
   ·left;exact Y2i (by omega)
   ·right;exact Y2i (by omega)
  ·have nb:∀ T,B<=T->T≠z/\T≠TO/\T≠i1/\T≠i2:=λ T hT=>by
    have a1:=hB z (by simp);have a2:=hB TO (by simp);have a3:=hB i1 (by simp);have a4:=hB i2 (by simp);refine ⟨?_,?_,?_,?_⟩<;>(intro e;subst e;first | exact Y0s _ (Y07 a1 hT) | exact Y0s _ (Y07 a2 hT) | exact Y0s _ (Y07 a3 hT) | exact Y0s _ (Y07 a4 hT) | exact Y0s _ (Y07 a5 hT))
   refine wpAny_pure (hR h' c Ts (λ b o hb e=>?_) ?_ (by omega) (λ j T hj=>?_) nd)
   ·simp only [Y06,Y0k,or_false,not_or] at hb;exact hk' b o hb.1 hb.2.1 hb.2.2.1 hb.2.2.2.1 e
   ·exact hk' S _ (Ne.symm (hS z (by simp))) (Ne.symm (hS TO (by simp))) (Ne.symm (hS i1 (by simp))) (Ne.symm (hS i2 (by simp))) ls
   ·obtain ⟨q1,x,y,q2,q3,q4⟩:=it j T hj;obtain ⟨n1,n2,n3,n4⟩:=nb T q1;exact ⟨q1,x,y,q2,q3,hk' T _ n1 n2 n3 n4 q4⟩
 | succ k ih =>
  intro i s c Ts hk hi Z hBs hR;obtain ⟨⟨f0,f1,z0,okf⟩,ti,⟨a,b,to⟩,s1,s2,ls,sz,it,nd⟩:=Z;have lx:i<xs.size:=by omega
  have ly:i<ys.size:=by omega
  refine codeAny_builtin F.entry_extend_loop ?_;rw [Around.under_plainId Y2c _];show wpAny _ A.in1 (pyNext (.ref z) >>= _) _ _ s;refine wpAny_bind (wF D z0 okf ti to s1 s2 (x:=xs[i]) (y:=ys[i]) (Y1h lx) (Y1h ly) λ h' g0 g1 q1 okg q2 q3 q4 q5 q7=>?_);have nb:∀ T,B<=T->T≠z/\T≠TO/\T≠i1/\T≠i2/\T≠S:=λ T hT=>by
   have a1:=hB z (by simp);have a2:=hB TO (by simp);have a3:=hB i1 (by simp);have a4:=hB i2 (by simp);have a5:=hB S (by simp);refine ⟨?_,?_,?_,?_,?_⟩<;>(intro e;subst e;first | exact Y0s _ (Y07 a1 hT) | exact Y0s _ (Y07 a2 hT) | exact Y0s _ (Y07 a3 hT) | exact Y0s _ (Y07 a4 hT) | exact Y0s _ (Y07 a5 hT))
  have lsz:h'.get? S=some { cls:=.type "list",dict:=none,data:=.seq (Ts.map Value.ref).toArray c,slots:=#[] }:=q7 S _ (Ne.symm (hS z (by simp))) (Ne.symm (hS TO (by simp))) (Ne.symm (hS i1 (by simp))) (Ne.symm (hS i2 (by simp))) ls;show wpAny _ A.in1 (updateSeq S (·.push (.ref s.heap.objs.size)) >>= _) _ _ _;refine wpAny_bind ?_;have oth:∀ b o,b≠S->h'.get? b=some o->(h'.update S (Obj.mapSeq (·.push (.ref s.heap.objs.size)))).get? b=some o:=λ b o hb e=>(Y16 _ _ (Ne.symm hb)).trans e;have hnew:∀ T∈Ts,T≠s.heap.objs.size:=λ T hT e=>by
   obtain ⟨j,hj⟩:=Y1r hT;obtain ⟨_,x,y,_,_,q⟩:=it j T hj;exact Y0g (Y05 q) e
  have ar:((Ts.map Value.ref).toArray.push (.ref s.heap.objs.size))=((Ts++[s.heap.objs.size]).map Value.ref).toArray:=by simp
  have bs:B<=(h'.update S (Obj.mapSeq (·.push (.ref s.heap.objs.size)))).objs.size:=by
   exact Y15 hBs (Y2k (Y05 (oth _ _ (nb _ hBs).2.2.2.2 q5)))
  obtain ⟨c2,hS2⟩:∃ c2,(h'.update S (Obj.mapSeq (·.push (.ref s.heap.objs.size)))).get? S=some { cls:=.type "list",dict:=none,data:=.seq ((Ts++[s.heap.objs.size]).map Value.ref).toArray c2,slots:=#[] }:=by
   rw [<- ar];exact ⟨_,Y12 _ lsz rfl⟩
  refine wpAny_updateSeq lsz rfl (wpAny_pure ⟨plainId_quiet Y2c _,ih (i+1) _ c2 (Ts++[s.heap.objs.size]) (by omega) (by omega) ?_ bs λ h'' c' Ts' r1 r2 r3 r4 r5=>?_⟩) (by simp;omega) (by simp;omega)
  ·refine ⟨⟨g0,g1,oth z _ (hS z (by simp)) q1,okg⟩,?_,?_,?_,?_,?_,by simp [sz],λ j T hj=>?_,?_⟩
   ·exact oth TI _ (hS TI (by simp)) (q7 TI _ D.TIz D.TITO D.TIi1 D.TIi2 ti)
   ·obtain ⟨a',b',q2⟩:=q2;exact ⟨a',b',oth TO _ (hS TO (by simp)) q2⟩
   ·exact q3.move (λ o e=>oth i1 o (hS i1 (by simp)) e) (λ o e=>oth l1 o (hS l1 (by simp)) e)
   ·exact q4.move (λ o e=>oth i2 o (hS i2 (by simp)) e) (λ o e=>oth l2 o (hS l2 (by simp)) e)
   ·exact hS2
   ·rw [List.getElem?_append] at hj;split at hj
    ·obtain ⟨p1,x,y,p2,p3,p4⟩:=it j T hj;obtain ⟨n1,n2,n3,n4,n5⟩:=nb T p1;exact ⟨p1,x,y,p2,p3,oth T _ n5 (q7 T _ n1 n2 n3 n4 p4)⟩
    ·rename_i hjl;have ej:j=i:=by
      have:=(Y0e.mp hj).1
      simp at this;omega
     subst ej;rw [sz] at hj;simp at hj;subst hj;exact ⟨hBs,_,_,Y1h lx,Y1h ly,oth _ _ (nb _ hBs).2.2.2.2 q5⟩
   ·rw [List.nodup_append];exact ⟨nd,by simp,λ a ha b hb=>by rw [Y0a.mp hb];exact hnew a ha⟩
  ·refine hR h'' c' Ts' (λ b o hb e=>r1 b o hb ?_) r2 r3 r4 r5;simp only [Y06,Y0k,or_false,not_or] at hb;exact oth b o hb.2.2.2.2 (q7 b o hb.1 hb.2.1 hb.2.2.1 hb.2.2.2.1 e)
end
section
variable {prog:Program}{w:World}{A:Around}{E:Value->Shared->Prop}{s:Shared}{z TI TO i1 i2 l1 l2:Addr}{xs ys:Array Value}
theorem Gv {Q:Value->Shared->Prop}(hh:A.handled=none)(D:ZipApart z TI TO i1 i2 l1 l2)(hz:wj s.heap z TI TO .none false)(ti:IsPair s.heap TI (.ref i1) (.ref i2))(to:∃ a b,IsPair s.heap TO a b)(s1:SIt s.heap i1 l1 0 xs)(s2:SIt s.heap i2 l2 0 ys)(hn:min xs.size ys.size<=sizeLine)
  (hlt:∀ b∈[z,TI,TO,i1,i2,l1,l2],b<s.heap.objs.size)
  (hQ:∀ (h':Heap) (c':Nat) (Ts:List Addr),(∀ b o,b∉[z,TO,i1,i2]->s.heap.get? b=some o->h'.get? b=some o)->h'.get? s.heap.objs.size=some { cls:=.type "list",dict:=none,data:=.seq (Ts.map Value.ref).toArray c',slots:=#[] }->Ts.length=min xs.size ys.size ->
   (∀ (j:Nat) (T:Addr),Ts[j]?=some T->s.heap.objs.size+1<=T/\∃ x y,xs[j]?=some x/\ys[j]?=some y/\IsPair h' T x y)->Ts.Nodup->Q (.ref s.heap.objs.size) { s with heap:=h' }) :
  wpAny (model prog w) A (call (.type "list") [.ref z]) Q E s:=by
 refine callType_codes (Q₁:=λ obj s₁=>obj=.ref s.heap.objs.size/\s₁={ s with heap:=s.heap.push { cls:=.type "list",data:=.seq #[] } }) F.called_list (F.typeCall_list_1 _) F.entry_list_init (code_list_new _ ⟨rfl,rfl⟩) λ obj s₁ h₁=>?_;obtain ⟨rfl,rfl⟩:=h₁;have hS:(s.heap.push { cls:=.type "list",data:=.seq #[] }).get? s.heap.objs.size=some { cls:=.type "list",data:=.seq #[] }:=Y0c _ rfl;refine ⟨⟨_,hS,rfl⟩,F.args_list_init_2 _ _,?_⟩;show wpAny _ A.in1.in1 (do let old <- Builtin.List.listItems (.ref s.heap.objs.size);Builtin.List.listUpdate (.ref s.heap.objs.size) (λ _=>#[]);letGo old.toList.reverse;Builtin.List.listExtendWith (.ref s.heap.objs.size) (.ref z) .none) _ _ _;refine wpAny_bind ?_;unfold Builtin.List.listItems;refine wpAny_bind (wpAny_seqItems hS rfl (wpAny_pure ?_));show wpAny _ A.in1.in1 (updateSeq s.heap.objs.size (λ _=>#[]) >>= λ _=>letGo (#[]:Array Value).toList.reverse >>= λ _=>Builtin.List.listExtendWith (.ref s.heap.objs.size) (.ref z) .none) _ _ _;refine wpAny_bind (wpAny_updateSeq hS rfl ?_);have hS2:=Y12 (Obj.mapSeq (λ _=>(#[]:Array Value))) hS rfl;have oth:∀ b o,s.heap.get? b=some o->((s.heap.push { cls:=.type "list",data:=.seq #[] }).update s.heap.objs.size (Obj.mapSeq (λ _=>(#[]:Array Value)))).get? b=some o:=λ b o e=>(Y16 _ _ (Y17 (Y05 e))).trans (Y01 _ e);refine wpAny_bind (wpAny_letGo ?_);generalize hH:((s.heap.push { cls:=.type "list",data:=.seq #[] }).update s.heap.objs.size (Obj.mapSeq (λ _=>(#[]:Array Value))))=H1 at hS2 oth;have szH:s.heap.objs.size+1<=H1.objs.size:=Y05 hS2;have z1:=oth _ _ hz;have hne:s.heap.objs.size≠z:=Y17 (hlt z (by simp));have h1:Builtin.List.listSameRef (.ref s.heap.objs.size) (.ref z)=false:=by simp [Builtin.List.listSameRef,hne]
 have hT:∀ (g d t os),(⟨H1,g,d,t,os⟩:Shared).TypeIs (.ref z) "zip":=λ g d t os=>⟨_,z1,rfl⟩;unfold Builtin.List.listExtendWith;refine wpAny_bind (wpAny_typeOf (hT _ _ _ _) ?_);rw [if_neg (by rw [h1];decide)];refine wpAny_bind (yY (s:={ s with heap:=H1 }) z1 ?_);refine wpAny_bind (wpAny_holding ?_);unfold Builtin.List.listLengthHint;refine wpAny_bind (wpAny_specialOf (hT _ _ _ _) V8 ?_);show wpAny _ A.in1.in1 (specialOf (Value.ref z) (Str.ofString "__length_hint__") >>= _) _ _ _;refine wpAny_bind (wpAny_specialOf (hT _ _ _ _) Yn ?_);refine wpAny_pure ?_;show wpAny _ A.in1.in1 (rule "list.extend.makes-room" >>= λ _=>Builtin.List.listTouch (Value.ref s.heap.objs.size) >>= λ _=>again (Code.builtin "list.extend.loop" { pos:=[Value.ref s.heap.objs.size,Value.ref z,Value.none] })) _ _ _;refine wpAny_bind (wpAny_rule ?_);unfold Builtin.List.listTouch;refine wpAny_bind ?_;refine wpAny_bind ?_;show wpAny _ A.in1.in1 (updateSeq s.heap.objs.size _) _ _ _;refine wpAny_updateSeq hS2 rfl ?_;show wpAny _ A.in1.in1 (updateSeq s.heap.objs.size _) _ _ _;have hS3:=Y12 (Obj.mapSeq (λ x=>x.push Value.none)) hS2 rfl;have oth2:∀ b o,s.heap.get? b=some o->(H1.update s.heap.objs.size (Obj.mapSeq (λ x=>x.push Value.none))).get? b=some o:=λ b o e=>(Y16 _ _ (Y17 (Y05 e))).trans (oth b o e);refine wpAny_updateSeq hS3 rfl ?_;have hS4:=Y12 (Obj.mapSeq (λ x=>x.pop)) hS3 rfl;have oth3:∀ b o,s.heap.get? b=some o->((H1.update s.heap.objs.size (Obj.mapSeq (λ x=>x.push Value.none))).update s.heap.objs.size (Obj.mapSeq (λ x=>x.pop))).get? b=some o:=λ b o e=>(Y16 _ _ (Y17 (Y05 e))).trans (oth2 b o e);generalize ((H1.update s.heap.objs.size (Obj.mapSeq (λ x=>x.push Value.none))).update s.heap.objs.size (Obj.mapSeq (λ x=>x.pop)))=H2 at hS4 oth3;have szH2:s.heap.objs.size+1<=H2.objs.size:=Y05 hS4;have z2:=oth3 _ _ hz;refine wpAny_pure ⟨plainId_quiet Y2c _,?_⟩;obtain ⟨c4,hS5⟩:∃ c,H2.get? s.heap.objs.size=some { cls:=.type "list",dict:=none,data:=.seq #[] c,slots:=#[] }:=⟨_,hS4⟩;refine Ba (S:=s.heap.objs.size) (B:=s.heap.objs.size+1) (xs:=xs) (ys:=ys) (by exact hh) D (λ b hb=>Y0g (hlt b (by simpa using hb))) (λ b hb=>?_) hn _ 0 { s with heap:=H2 } c4 [] rfl (Y1d _) ?_ szH2 λ h' c' Ts r1 r2 r3 r4 r5=>?_
 ·simp only [Y06,Y0k,or_false] at hb;rcases hb with rfl | rfl | rfl | rfl | rfl | rfl
  ·exact Y26 (hlt _ (by simp))
  ·exact Y26 (hlt _ (by simp))
  ·exact Y26 (hlt _ (by simp))
  ·exact Y26 (hlt _ (by simp))
  ·exact Y26 (hlt _ (by simp))
  ·exact Y1x _
 ·obtain ⟨a,b,to⟩:=to;exact ⟨⟨_,_,z2,.inl rfl⟩,oth3 _ _ ti,⟨a,b,oth3 _ _ to⟩,s1.move (λ o e=>oth3 _ o e) (λ o e=>oth3 _ o e),s2.move (λ o e=>oth3 _ o e) (λ o e=>oth3 _ o e),hS5,rfl,λ j T hj=>by simp at hj,List.nodup_nil⟩
 ·refine ⟨rfl,hQ h' c' Ts (λ b o hb e=>r1 b o ?_ (oth3 _ _ e)) r2 r3 r4 r5⟩
  have:=Y05 e
  simp only [Y06,Y0k,or_false,not_or] at hb ⊢;exact ⟨hb.1,hb.2.1,hb.2.2.1,hb.2.2.2,Y0g this⟩
end
def Wu (H:Hp):List (Addr×V×V)->Hp
 | []=>H
 | p::r=>Wu (upd H p.1 (.tup [p.2.1,p.2.2])) r
theorem Wv {a:Addr}:∀ (ps:List (Addr×V×V)) (H:Hp),(∀ p∈ps,a≠p.1)->Wu H ps a=H a
 | [],H,_=>rfl
 | p::r,H,h=>(Wv r _ λ q hq=>h q (Y02 _ hq)).trans (zo (h p Y03))
section
variable {X:Cx}{pins:List (Addr×Obj)}{σ:St}
theorem Inv.trackP {s:Shared}:∀ (ps:List (Addr×V×V)) (H:Hp),Inv X pins σ H s->(ps.map (·.1)).Nodup->(∀ p∈ps,yf X pins H p.1/\X.s₀.heap.get? p.1=none)->(∀ p∈ps,∃ u v,RelV p.2.1 u/\RelV p.2.2 v/\IsPair s.heap p.1 u v)->Inv X pins σ (Wu H ps) s
 | [],H,I,_,_,_=>I
 | p::r,H,I,nd,f,v=>by
  have F:=f p Y03;obtain ⟨u,w,ru,rw',T⟩:=v p Y03;have nd':p.1∉r.map (·.1)/\(r.map (·.1)).Nodup:=Y1i.mp nd;refine Inv.trackP r _ (I.track F.1.1 F.2 F.1.2.1 F.1.2.2.2.2.1 F.1.2.2.2.2.2 ⟨by show 2<=sizeLine;rw [sizeLine_eq];decide,[u,w],.cons ru (.cons rw' .nil),⟨_,T,rfl,0,rfl⟩⟩) nd'.2 (λ q hq=>?_) λ q hq=>v q (Y02 _ hq);have G:=f q (Y02 _ hq);have ne:q.1≠p.1:=λ z=>nd'.1 (z▸List.mem_map_of_mem hq);exact ⟨⟨(zo ne).trans G.1.1,G.1.2⟩,G.2⟩
theorem Inv.seqB_len {H:Hp}{s:Shared}{a:Addr}{b:Bool}{xs:List V}(I:Inv X pins σ H s)(h:SqB X.K H a b xs):xs.length<=sizeLine:=by
 cases b with
 | true =>
  obtain ⟨its,r,pl,z⟩:=I.list (show SqL X.K H a xs from h);exact z
 | false =>
  obtain ⟨its,r,pl,z⟩:=I.tuple (show SqT X.K H a xs from h);exact z
def rLZ (K:Y00):List V->Hp->VK->Prop:=λ vs H Q=>∃ l1 l2 b1 b2 xs ys,vs=[.ref l1,.ref l2]/\SqB K H l1 b1 xs/\SqB K H l2 b2 ys /\
 ∀ (ts:List Addr) (l:Addr),ts.length=min xs.length ys.length->(∀ t∈ts,H t=none)->ts.Nodup->l∉ts->H l=none->Q (.ref l) (upd (Wu H (ts.zip (xs.zip ys))) l (.lst (ts.map V.ref)))
theorem JO:∀ (ts:List Addr),Vals (ts.map V.ref) (ts.map Value.ref)
 | []=>.nil
 | _::r=>.cons rfl (JO r)
theorem Yo {a b:Expr}{ta:TA}{p p' pos pos':Pos} (hc:X.calm=true) (hg:Gl X "zip") (hm:X.mg "zip"=none) (hg2:Gl X "list") (hm2:X.mg "list"=none) (ha:PA X [a,b] ta) (hs:starEach [a,b] X.env=(false,eval a X.env)::starEach [b] X.env) (hs2:(backTo pos' (starEach [b] X.env)).any (·.1)=false) :
  PE X (.Call (.Name "list" p) [.Call (.Name "zip" p') [a,b] [] pos'] [] pos) (λ σ H Q=>ta σ H λ vs H1=>rLZ X.K vs H1 Q):=by
 intro pins s σ H Q I h;refine wpAny_Call_Name_kw (jS I hg2 hm2 boot_list ?_ (by decide) (by decide));refine Y0x ?_ rfl rfl;show wpAny _ _ (spliced ((false,eval (.Call (.Name "zip" p') [a,b] [] pos') X.env)::[])) _ _ s;refine Calls.spliced_cons (Call_ (jS I hg hm Zy (Y0x (thn (ha pos' pins s σ H _ I h) λ us s1 ⟨vs,H1,I1,r1,q1⟩=>?_) hs hs2) (by decide) (by decide)));obtain ⟨l1,l2,b1,b2,xs,ys,e,hx,hy,q⟩:=q1;subst e;cases r1 with
 | cons r rr =>
  cases rr with
  | cons r' rr' =>
   cases rr';cases r;cases r';obtain ⟨i1,s1',t1⟩:=I1.seqH hx;obtain ⟨i2,s2',t2⟩:=I1.seqH hy;refine yM b1 b2 s1' s2' λ h' st k=>?_;have D:ZipApart (s1.heap.objs.size+4) (s1.heap.objs.size+2) (s1.heap.objs.size+3) s1.heap.objs.size (s1.heap.objs.size+1) l1 l2:=by constructor<;>first | exact Y0g (by omega) | exact Y17 (by omega) | exact Y0g (Y07 t1 (by omega)) | exact Y0g (Y07 t2 (by omega))
   refine wpAny_pure ?_;have I2:Inv X pins σ H1 { s1 with heap:=h',toks:=s1.toks }:=I1.kept (t':=s1.toks) k;obtain ⟨z0,zI,⟨za,zc,zO⟩,u1,u2⟩:=st;obtain ⟨its1,v1,k1,o1,n1,e1,d1⟩:=I2.seqB hx;obtain ⟨its2,v2,k2,o2,n2,e2,d2⟩:=I2.seqB hy;have S1:=k1 _ 0 h' u1 λ _ e=>e;have S2:=k2 _ 0 h' u2 λ _ e=>e;have hlx:=I2.seqB_len hx;have lz:s1.heap.objs.size+4<h'.objs.size:=Y05 z0;have l1v:=v1.length;have l2v:=v2.length;refine Gv (s:={ s1 with heap:=h' }) (xs:=its1.toArray) (ys:=its2.toArray) (I1.ok.hd hc) D z0 zI ⟨_,_,zO⟩ S1 S2 (by simp only [Y0b];omega) (λ b hb=>?_) λ h'' c' Ts a1 a2 a3 a4 a5=>?_
   ·simp only [Y06,Y0k,or_false] at hb;have lz0:s1.heap.objs.size<h'.objs.size:=Y3e (Y2x _ 4) lz;rcases hb with rfl | rfl | rfl | rfl | rfl | rfl | rfl
    ·exact lz
    ·exact Y22 (Y3a (by decide:2<4) _) lz
    ·exact Y22 (Y3a (by decide:3<4) _) lz
    ·exact lz0
    ·exact Y22 (Y3a (by decide:1<4) _) lz
    ·exact Y22 t1 lz0
    ·exact Y22 t2 lz0
   ·have fp:∀ b,s1.heap.objs.size<=b->yf X pins H1 b/\X.s₀.heap.get? b=none:=λ b hb=>⟨I1.fpOk hb (I1.hok.fresh hb),by
     cases q:X.s₀.heap.get? b with
     | none=>rfl
     | some o=>exact absurd (Y07 (Y05 q) (Y15 I1.sz hb)) (Y0s _)⟩
    have I3:Inv X pins σ H1 { s1 with heap:=h'',toks:=s1.toks }:=Inv.turnedL (s:={ s1 with heap:=h' }) (I:=I2) (t':=s1.toks) (l:=[s1.heap.objs.size+4,s1.heap.objs.size+3,s1.heap.objs.size,s1.heap.objs.size+1]) a1 (λ b hb=>by
     simp only [Y06,Y0k,or_false] at hb;rcases hb with rfl | rfl | rfl | rfl
     all_goals exact (fp _ (by omega)).1)
    have ge:∀ t∈Ts,h'.objs.size+1<=t:=λ t ht=>by
     obtain ⟨j,hj⟩:=Y1r ht;exact (a4 j t hj).1
    have a3':Ts.length=min xs.length ys.length:=by rw [a3,l1v,l2v];simp only [Y0b]
    have mp:(Ts.zip (xs.zip ys)).map (·.1)=Ts:=by
     rw [List.map_fst_zip];rw [Y2p];omega
    have mem:∀ p∈Ts.zip (xs.zip ys),p.1∈Ts:=λ p hp=>by rw [<- mp];exact List.mem_map_of_mem hp
    have I4:=I3.trackP (Ts.zip (xs.zip ys)) H1 (by rw [mp];exact a5) (λ p hp=>fp _ (by have:=ge _ (mem p hp);omega)) (λ p hp=>by
     obtain ⟨j,hj⟩:=Y1r hp;rw [Y2r] at hj;have hj2:=hj.2;rw [Y2r] at hj2;obtain ⟨_,x,y,gx,gy,T⟩:=a4 j p.1 hj.1;obtain ⟨x',gx',rx⟩:=v1.get hj2.1;obtain ⟨y',gy',ry⟩:=v2.get hj2.2;rw [List.getElem?_toArray,gx'] at gx;rw [List.getElem?_toArray,gy'] at gy;cases gx;cases gy;exact ⟨_,_,rx,ry,T⟩)
    have fS:=fp h'.objs.size (by omega);have nS:h'.objs.size∉Ts:=λ z=>absurd (ge _ z) (by omega);have eS:Wu H1 (Ts.zip (xs.zip ys)) h'.objs.size=none:=(Wv _ _ λ p hp z=>nS (by have:=mem p hp;rw [<- z] at this;exact this)).trans fS.1.1;have I5:=I4.track (o:=.lst (Ts.map V.ref)) eS fS.2 fS.1.2.1 fS.1.2.2.2.2.1 fS.1.2.2.2.2.2 (show ObjOk X.prog X.w _ h'' _ (.lst (Ts.map V.ref)) from ⟨by rw [Y0d];omega,Ts.map Value.ref,c',JO Ts,a2⟩);exact ⟨.ref _,_,I5,rfl,q Ts _ a3' (λ t ht=>(fp t (by have:=ge t ht;omega)).1.1) a5 nS fS.1.1⟩
end
end L2
namespace PI
open PySem L2
inductive D where
 | non | bl (b:Bool) | int (i:Int) | str (x:Str) | tup (xs:List D) | loc (n:Nat) | fl (xs:List D)
inductive O where
 | lst (xs:List D) | dK (kvs:List (Key×D)) | obj (x:Str) (fs:List (Str×D))
abbrev Hh:=List O
abbrev En:=List (Option D)
inductive Res (α:Type) where
 | ok (a:α) (h:Hh) | exc (c:Nat) (h:Hh) | no
def Res.bind {α β:Type}(r:Res α)(f:α->Hh->Res β):Res β:=match r with
 | .ok a h=>f a h
 | .exc c h=>.exc c h
 | .no=>.no
@[simp] theorem bind_ok {α β:Type}{a:α}{h:Hh}{f:α->Hh->Res β}:(Res.ok a h).bind f=f a h:=rfl
@[simp] theorem bind_exc {α β:Type}{c:Nat}{h:Hh}{f:α->Hh->Res β}:(Res.exc c h:Res α).bind f=.exc c h:=rfl
@[simp] theorem bind_no {α β:Type}{f:α->Hh->Res β}:(Res.no:Res α).bind f=.no:=rfl
inductive RS where
 | nx (ρ:En) (h:Hh) | rt (d:D) (h:Hh) | bk (ρ:En) (h:Hh) | ct (ρ:En) (h:Hh) | ex (c:Nat) (ρ:En) (h:Hh) | no
inductive Tg where
 | one (i:Nat) (p:Pos) | tup (is:List (Nat×Pos)) (p:Pos)
inductive M0 where
 | pop
inductive M1 where
 | append
inductive F1 where
 | str | int | all | abs | any
def F1.name:F1->Str
 | .str=>"str" | .int=>"int" | .all=>"all" | .abs=>"abs" | .any=>"any"
inductive Cv where
 | tup (xs:List Str) | int (i:Int) | fn (i:Nat) (x:Str) | oth
 deriving DecidableEq
inductive Cn where
 | int (i:Int) | str (x:Str) | tup (xs:List Str) | dic (kvs:List (Str×Cv)) | exc (c:Nat) (ups:List Nat) | cls (i:Nat) | isc (x:Str) (ys:List Str)
 deriving DecidableEq
set_option genInjectivity false
set_option genSizeOf false
mutual
inductive E where
 | non (p:Pos) | bl (b:Bool) (p:Pos) | int (i:Int) (p:Pos) | str (x:Str) (p:Pos)
 | var (i:Nat) (p:Pos)
 | bin (op:Operator) (a b:E) (p:Pos)
 | un (op:UnaryOp) (a:E) (p:Pos)
 | cmp (op:CmpOp) (a b:E) (p:Pos)
 | and (a b:E) (r:Es) (p:Pos)
 | or (a b:E) (r:Es) (p:Pos)
 | ite (c a b:E) (p:Pos)
 | call (f:Nat) (a:E) (r:Es) (p0 p:Pos)
 | len (a:E) (p0 p:Pos)
 | isi (T:Nat) (a:E) (p0 p1 p:Pos)
 | isC (x:Str) (ys:List Str) (a:E) (p0 p1 p:Pos)
 | sub (a i:E) (p:Pos)
 | tup (es:Es) (p:Pos)
 | ofL (l:L)
 | tupE (e:E) (p0 p:Pos)
 | listE (e:E) (p0 p:Pos)
 | dicP (e:E) (p0 p:Pos)
 | dispD (ks:List (Str×Pos)) (vs:Es) (p:Pos)
 | cut (a:E) (lo hi:Eo) (p2 p:Pos)
 | dic (p:Pos)
 | m0 (m:M0) (o:E) (p1 p:Pos)
 | m1 (m:M1) (o a:E) (p1 p:Pos)
 | c1 (f:F1) (a:E) (p0 p:Pos)
 | listR (e:E) (p0 p1 p2 p:Pos)
 | listZ (a b:E) (p0 p1 p2 p:Pos)
 | cmpN (neg:Bool) (a:E) (p1 p:Pos)
 | gcon (x:Str) (c:Cn) (p:Pos)
 | gsub (x:Str) (kvs:List (Str×Cv)) (i:E) (p0 p:Pos)
 | fld (a:E) (f:Str) (p:Pos)
 | callG (x:Str) (kvs:List (Str×Cv)) (key a:E) (r:Es) (p0 p1 p:Pos)
 | mk (i:Nat) (x:Str) (a:E) (r:Es) (p0 p:Pos)
inductive Es where
 | nil | cons (e:E) (r:Es)
inductive Eo where
 | none | some (e:E)
inductive L where
 | disp (es:Es) (p:Pos)
 | comp (elt:E) (t:Tg) (it:I) (c:Es) (NC:List Str) (cap:List (Option Nat)) (sc:Scope) (p:Pos)
inductive I where
 | seq (e:E) | lst (l:L) | rng (a:E) (p0 p:Pos) | rev (e:E) (p0 p:Pos)
 | zip (a b:E) (p0 p:Pos)
end
structure Rp where
 c:Str
 d:Str
 pa:Pos
 pc:Pos
 pd:Pos
 p:Pos
def Rp.py (e:Expr)(r:Rp):Expr:=.Call (.Attribute e "replace" r.pa) [.Constant (.str r.c) 0 r.pc,.Constant (.str r.d) 0 r.pd] [] r.p
inductive Fp where
 | c (x:Str) (p:Pos)
 | r (i:Nat) (p0 p:Pos)
def Fp.py (N:List Str):Fp->Expr
 | .c x p=>.Constant (.str x) 0 p
 | .r i p0 p=>.FormattedValue (.Name (N.getD i "") p0) 114 none p
inductive Ms where
 | s (x:Str) (p:Pos)
 | f (a b:Fp) (r:List Fp) (p:Pos)
def Ms.py (N:List Str):Ms->Expr
 | .s x p=>.Constant (.str x) 0 p
 | .f a b r p=>.JoinedStr (a.py N::b.py N::r.map (Fp.py N)) p
structure Xt where
 neg:Bool
 x:Str
 d:Option Nat
 pe:Pos
 p0:Pos
 p1:Pos
 p:Pos
 pn:Pos
def Xt.call (e:Str)(t:Xt):Expr:=.Call (.Name "isinstance" t.p0) [.Name e t.pe,.Name t.x t.p1] [] t.p
def Xt.py (e:Str)(t:Xt):Expr:=match t.neg with
 | true=>.UnaryOp .Not (t.call e) t.pn
 | false=>t.call e
def Xt.is (u:List Nat)(t:Xt):Bool:=match t.d with
 | some d=>u.contains d
 | none=>true
def Xt.val (u:List Nat)(t:Xt):Bool:=match t.neg with
 | true=>!(t.is u)
 | false=>t.is u
inductive Xv where
 | and (a b:Xt) (r:List Xt) (p:Pos) | lst (ts:List Xt) (p:Pos) | one (t:Xt)
def Xv.py (e:Str):Xv->Expr
 | .and a b r p=>.BoolOp .And (a.py e::b.py e::r.map (Xt.py e)) p
 | .lst ts p=>.List (ts.map (Xt.py e)) p
 | .one t=>t.py e
def cnE (v:Option Bool)(p:Pos):Expr:=match v with
 | none=>.Constant .none 0 p
 | some b=>.Constant (.bool b) 0 p
mutual
inductive S where
 | set (i:Nat) (e:E) (p1 p:Pos)
 | ret (e:E) (p:Pos)
 | iff (c:E) (a b:Ss) (p:Pos)
 | ex (e:E) (p:Pos)
 | put (o i v:E) (p1 p:Pos)
 | forr (t:Tg) (it:I) (b:Ss) (p:Pos)
 | whil (c:E) (b:Ss) (p:Pos)
 | setF (o:E) (f:Str) (v:E) (p1 p:Pos)
 | retN (p:Pos)
 | raw (st:Stmt)
inductive Ss where
 | nil | cons (s:S) (r:Ss)
end
set_option genInjectivity true
set_option genSizeOf true
structure Nm where
 N:List Str
 F:List Str
 G:List (Str×Cn):=[]
def yh:Nat->Str
 | 0=>"int" | 1=>"bool" | 2=>"str" | 3=>"tuple" | _=>"list"
def Uf:Nat->String
 | 0=>"int" | 1=>"bool" | 2=>"str" | 3=>"tuple" | _=>"list"
def Tg.py (N:List Str):Tg->Expr
 | .one i p=>.Name (N.getD i "") p
 | .tup is p=>.Tuple (is.map λ q=>.Name (N.getD q.1 "") q.2) 0 p
mutual
def E.py (n:Nm):E->Expr
 | .non p=>.Constant .none 0 p
 | .bl b p=>.Constant (.bool b) 0 p
 | .int i p=>.Constant (.int i) 0 p
 | .str x p=>.Constant (.str x) 0 p
 | .var i p=>.Name (n.N.getD i "") p
 | .bin op a b p=>.BinOp (a.py n) op (b.py n) p
 | .un op a p=>.UnaryOp op (a.py n) p
 | .cmp op a b p=>.Compare (a.py n) [op] [b.py n] p
 | .and a b r p=>.BoolOp .And (a.py n::b.py n::r.py n) p
 | .or a b r p=>.BoolOp .Or (a.py n::b.py n::r.py n) p
 | .ite c a b p=>.IfExp (c.py n) (a.py n) (b.py n) p
 | .call f a r p0 p=>.Call (.Name (n.F.getD f "") p0) (a.py n::r.py n) [] p
 | .len a p0 p=>.Call (.Name "len" p0) [a.py n] [] p
 | .isi T a p0 p1 p=>.Call (.Name "isinstance" p0) [a.py n,.Name (yh T) p1] [] p
 | .isC x _ a p0 p1 p=>.Call (.Name "isinstance" p0) [a.py n,.Name x p1] [] p
 | .sub a i p=>.Subscript (a.py n) (i.py n) p
 | .tup es p=>.Tuple (es.py n) 0 p
 | .ofL l=>l.py n
 | .tupE e p0 p=>.Call (.Name "tuple" p0) [e.py n] [] p
 | .listE e p0 p=>.Call (.Name "list" p0) [e.py n] [] p
 | .dicP e p0 p=>.Call (.Name "dict" p0) [e.py n] [] p
 | .dispD ks vs p=>.Dict (ks.map λ q=>some (.Constant (.str q.1) 0 q.2)) (vs.py n) p
 | .cut a lo hi p2 p=>.Subscript (a.py n) (.Slice (lo.py n) (hi.py n) .none p2) p
 | .dic p=>.Dict [] [] p
 | .m0 m o p1 p=>.Call (.Attribute (o.py n) (match m with | .pop=>"pop") p1) [] [] p
 | .m1 m o a p1 p=>.Call (.Attribute (o.py n) (match m with | .append=>"append") p1) [a.py n] [] p
 | .c1 f a p0 p=>.Call (.Name f.name p0) [a.py n] [] p
 | .cmpN neg a p1 p=>.Compare (a.py n) [if neg then .NotEq else .Eq] [.List [] p1] p
 | .listR e p0 p1 p2 p=>.Call (.Name "list" p0) [.Call (.Name "reversed" p1) [e.py n] [] p2] [] p
 | .listZ a b p0 p1 p2 p=>.Call (.Name "list" p0) [.Call (.Name "zip" p1) [a.py n,b.py n] [] p2] [] p
 | .gcon x _ p=>.Name x p
 | .gsub x _ i p0 p=>.Subscript (.Name x p0) (i.py n) p
 | .fld a f p=>.Attribute (a.py n) f p
 | .callG x _ key a r p0 p1 p=>.Call (.Subscript (.Name x p0) (key.py n) p1) (a.py n::r.py n) [] p
 | .mk _ x a r p0 p=>.Call (.Name x p0) (a.py n::r.py n) [] p
def Eo.py (n:Nm):Eo->Option Expr
 | .none=>.none
 | .some e=>.some (e.py n)
def L.py (n:Nm):L->Expr
 | .disp es p=>.List (es.py n) p
 | .comp elt t it c NC cap sc p=>.ListComp (elt.py ⟨NC,n.F,n.G⟩) [⟨t.py NC,it.py n,c.py ⟨NC,n.F,n.G⟩,0⟩] sc p
def I.py (n:Nm):I->Expr
 | .seq e=>e.py n
 | .lst l=>l.py n
 | .rng a p0 p=>.Call (.Name "range" p0) [a.py n] [] p
 | .rev e p0 p=>.Call (.Name "reversed" p0) [e.py n] [] p
 | .zip a b p0 p=>.Call (.Name "zip" p0) [a.py n,b.py n] [] p
def Es.py (n:Nm):Es->List Expr
 | .nil=>[]
 | .cons e r=>e.py n::r.py n
end
mutual
def S.py (n:Nm):S->Stmt
 | .set i e p1 p=>.Assign [.Name (n.N.getD i "") p1] (e.py n) p
 | .ret e p=>.Return (some (e.py n)) p
 | .iff c a b p=>.If (c.py n) (a.py n) (b.py n) p
 | .ex e p=>.Expr (e.py n) p
 | .put o i v p1 p=>.Assign [.Subscript (o.py n) (i.py n) p1] (v.py n) p
 | .forr t it b p=>.For (t.py n.N) (it.py n) (b.py n) [] p
 | .whil c b p=>.While (c.py n) (b.py n) [] p
 | .retN p=>.Return none p
 | .setF o f v p1 p=>.Assign [.Attribute (o.py n) f p1] (v.py n) p
 | .raw st=>st
def Ss.py (n:Nm):Ss->List Stmt
 | .nil=>[]
 | .cons s r=>s.py n::r.py n
end
mutual
def D.pd (h:Hh):D->Option PyData
 | .non=>some .none
 | .bl b=>some (.bool b)
 | .int i=>some (.int i)
 | .str x=>some (.str x)
 | .tup xs=>(D.pds h xs).map .tuple
 | .loc _=>none
 | .fl xs=>(D.pds h xs).map .list
def D.pds (h:Hh):List D->Option (List PyData)
 | []=>some []
 | x::r=>match D.pd h x,D.pds h r with
  | some a,some b=>some (a::b)
  | _,_=>none
end
def qy:D->Option Key
 | .int i=>some (.inl i)
 | .str x=>some (.inr x)
 | _=>none
def jC (kvs:List (Key×D))(k:Key):Option D:=(kvs.find? λ kv=>decide (kv.1=k)).map (·.2)
def rd (h:Hh)(n:Nat):Option (List D):=match h[n]? with
 | some (.lst xs)=>some xs
 | _=>none
def pdT (h:Hh):D->Option PyData
 | .loc n=>(rd h n).bind λ xs=>(D.pds h xs).map .list
 | d=>D.pd h d
def isI (h:Hh):D->Nat->Option Bool
 | .non,_=>some false
 | .bl _,T=>some (T==0||T==1)
 | .int _,T=>some (T==0)
 | .str _,T=>some (T==2)
 | .tup _,T=>some (T==3)
 | .loc n,T=>(rd h n).map λ _=>T==4
 | .fl _,T=>some (T==4)
def fits (i:Int):Bool:=decide (Builtin.Int.intBits i<=2 ^ 20)
def eqR (neg:Bool)(u v:Option PyData)(h:Hh):Res D:=match u,v with
 | some u,some v=>if u.canLay0=true/\v.canLay0=true/\u.depth<=60 then .ok (.bl (if neg then !PyData.eqv u v else PyData.eqv u v)) h else .no
 | _,_=>.no
def i2 (a b:D)(f:Int->Int->Res D):Res D:=match a,b with
 | .int i,.int j=>f i j
 | _,_=>.no
def z4b (a b:D)(h:Hh):Res D:=match a,b with
 | .int i,.int j=>.ok (.int (i+j)) h
 | .str x,.str y=>if x.length+y.length<=1000000 then .ok (.str (x++y)) h else .no
 | .loc n,.loc m=>match h[n]?,h[m]? with
  | some (.lst xs),some (.lst ys)=>if xs.length+ys.length<=1000000 then .ok (.loc h.length) (h++[.lst (xs++ys)]) else .no
  | _,_=>.no
 | .tup xs,.tup ys=>if xs.length+ys.length<=1000000 then .ok (.tup (xs++ys)) h else .no
 | _,_=>.no
def z4c (a b:D)(h:Hh):Res D:=match b with
 | .int j=>match a with
  | .int i=>if fits i=true/\fits j=true then .ok (.int (i*j)) h else .no
  | .str x=>if 0<=j/\j<=1000/\x.length<=1000 then .ok (.str (Txt.mul x j)) h else .no
  | .loc n=>match h[n]? with
   | some (.lst xs)=>if 0<=j/\j<=1000/\xs.length<=1000 then .ok (.loc h.length) (h++[.lst (List.replicate j.toNat xs).flatten]) else .no
   | _=>.no
  | _=>.no
 | _=>.no
def jE (op:Operator)(a b:D)(h:Hh):Res D:=match op with
 | .Add=>z4b a b h
 | .Mult=>z4c a b h
 | .Sub=>i2 a b λ i j=>.ok (.int (i-j)) h
 | .FloorDiv=>i2 a b λ i j=>if 0<j/\j<1073741824 then .ok (.int (i/j)) h else .no
 | .Mod=>i2 a b λ i j=>if 0<j then .ok (.int (i%j)) h else .no
 | .Pow=>i2 a b λ i j=>if 0<=j/\j<=1000000/\i.natAbs<2 ^ 64 then .ok (.int (i ^ j.toNat)) h else .no
 | .LShift=>i2 a b λ i j=>if fits i=true/\0<=j/\j<=1000000 then .ok (.int (i*2 ^ j.toNat)) h else .no
 | .RShift=>i2 a b λ i j=>if 0<=j then .ok (.int (i/2 ^ j.toNat)) h else .no
 | .BitAnd=>i2 a b λ i j=>.ok (.int (Builtin.bitAnd i j)) h
 | .BitOr=>i2 a b λ i j=>.ok (.int (Builtin.bitOr i j)) h
 | _=>.no
def vOf:D->V
 | .bl b=>.bl b
 | .int i=>.int i
 | .str x=>.str x
 | _=>.non
def JP:D->Bool
 | .non | .bl _ | .int _ | .str _=>true
 | _=>false
def ngB (neg b:Bool):Bool:=if neg then !b else b
@[simp] theorem ngB_f {b:Bool}:ngB false b=b:=rfl
@[simp] theorem ngB_t {b:Bool}:ngB true b=!b:=rfl
def isN:D->Bool
 | .non=>true
 | _=>false
def z0b:D->Bool
 | .tup _=>true
 | d=>JP d
def Ww (neg:Bool)(x:D)(ds:List D)(h:Hh):Res D:=if JP x=true/\ds.all JP=true then .ok (.bl (ngB neg (ds.any λ y=>eqV (vOf y) (vOf x)))) h else if neg=false/\isN x=true/\ds.all z0b=true then .ok (.bl (ds.any isN)) h else .no
def inD (neg:Bool)(x y:D)(h:Hh):Res D:=match y with
 | .tup ds=>Ww neg x ds h
 | .fl ds=>Ww neg x ds h
 | .loc n=>match h[n]? with
  | some (.lst ds)=>Ww neg x ds h
  | some (.dK kvs)=>(match qy x with | some k=>.ok (.bl (ngB neg (jC kvs k).isSome)) h | none=>.no)
  | _=>.no
 | .str z=>(match x with | .str u=>.ok (.bl (ngB neg (!(Builtin.Str.occurrences z u 0 z.length 1).isEmpty))) h | _=>.no)
 | _=>.no
def isV (neg:Bool)(a b:D)(h:Hh):Res D:=match b with
 | .non=>.ok (.bl (ngB neg (isN a))) h
 | .bl y=>match a with
  | .bl x=>.ok (.bl (ngB neg (x==y))) h
  | _=>.no
 | _=>.no
def zU (op:CmpOp)(a b:D)(h:Hh):Res D:=match op with
 | .Lt=>i2 a b λ i j=>.ok (.bl (decide (i<j))) h
 | .LtE=>i2 a b λ i j=>.ok (.bl (decide (i<=j))) h
 | .Gt=>i2 a b λ i j=>.ok (.bl (decide (j<i))) h
 | .GtE=>i2 a b λ i j=>.ok (.bl (decide (j<=i))) h
 | .Eq=>eqR false (pdT h a) (pdT h b) h
 | .NotEq=>eqR true (pdT h a) (pdT h b) h
 | .In=>inD false a b h
 | .NotIn=>inD true a b h
 | .Is=>isV false a b h
 | .IsNot=>isV true a b h
def unD (op:UnaryOp)(a:D)(h:Hh):Res D:=match op,a with
 | .Not,.bl b=>.ok (.bl (!b)) h
 | .Invert,.int i=>.ok (.int (Builtin.bitNot i)) h
 | .USub,.int i=>.ok (.int (-i)) h
 | _,_=>.no
def yN (a:D)(h:Hh):Res D:=match a with
 | .tup xs=>.ok (.int xs.length) h
 | .loc n=>match rd h n with | some xs=>.ok (.int xs.length) h | none=>.no
 | .str x=>if x.length<=1000000 then .ok (.int x.length) h else .no
 | .fl xs=>.ok (.int xs.length) h
 | _=>.no
def zX (a i:D)(h:Hh):Res D:=match a,i with
 | .tup xs,.int k=>match atI xs k with | some d=>.ok d h | none=>.no
 | .fl xs,.int k=>match atI xs k with | some d=>.ok d h | none=>.no
 | .str x,.int k=>if x.length<=1000000 then (match atI x.cps.toList k with | some c=>.ok (.str ⟨#[c]⟩) h | none=>.no) else .no
 | .loc n,y=>match h[n]? with
  | some (.dK kvs)=>match (qy y).bind (λ k=>jC kvs k) with | some d=>.ok d h | none=>.no
  | some (.lst xs)=>match y with
   | .int k=>match atI xs k with | some d=>.ok d h | none=>.no
   | _=>.no
  | _=>.no
 | _,_=>.no
def new (o:O)(h:Hh):Res D:=.ok (.loc h.length) (h++[o])
def ZF (kvs:List (Key×D))(k:Key)(v:D):List (Key×D):=if (kvs.any λ kv=>decide (kv.1=k))=true then kvs.map (λ kv=>if kv.1=k then (kv.1,v) else kv) else kvs++[(k,v)]
def onL (x:D)(h:Hh)(r:Res D):Res D:=match x with
 | .loc n=>match h[n]? with
  | some (.lst _)=>r
  | _=>.no
 | _=>.no
def m0D (m:M0)(o:D)(h:Hh):Res D:=match o with
 | .loc n=>match h[n]? with
  | some (.lst xs)=>match m with
   | .pop=>match xs.getLast? with | some x=>.ok x (h.set n (.lst xs.dropLast)) | none=>.no
  | _=>.no
 | _=>.no
def m1D (m:M1)(o a:D)(h:Hh):Res D:=match o with
 | .loc n=>match h[n]? with
  | some (.lst xs)=>match m with
   | .append=>if xs.length<1000000 then .ok .non (h.set n (.lst (xs++[a]))) else .no
  | _=>.no
 | _=>.no
def Yp (o i v:D)(h:Hh):Option Hh:=match o with
 | .loc n=>match h[n]? with
  | some (.lst xs)=>match i with
   | .int k=>(ixN xs.length k).map λ j=>h.set n (.lst (xs.set j v))
   | _=>none
  | some (.dK kvs)=>(qy i).bind λ k=>if kvs.length<1000000 then some (h.set n (.dK (ZF kvs k v))) else none
  | _=>none
 | _=>none
def zV (xs:List D)(lo hi:Option Int):List D:=(xs.drop (HT.sIx xs.length 0 lo)).take (HT.sIx xs.length xs.length hi-HT.sIx xs.length 0 lo)
def Jn (a:D)(lo hi:Option Int)(h:Hh):Res D:=match a with
 | .loc n=>match rd h n with
  | some xs=>new (.lst (zV xs lo hi)) h
  | none=>.no
 | .fl xs=>new (.lst (zV xs lo hi)) h
 | .str x=>if x.length<=1000000 then .ok (.str (Txt.slice x lo hi)) h else .no
 | .tup xs=>if HT.sIx xs.length 0 lo=0/\HT.sIx xs.length xs.length hi=xs.length then .ok (.tup xs) h else .ok (.tup (zV xs lo hi)) h
 | _=>.no
def z4d (d:D)(h:Hh):Res (Option Int):=match d with | .int i=>.ok (some i) h | _=>.no
def jZ (d:D)(h:Hh):Option (List D):=match d with
 | .tup xs=>some xs
 | .fl xs=>some xs
 | .loc n=>rd h n
 | _=>none
abbrev Ck:=List (Nat×List D)
def stay (c:Ck)(h:Hh):Prop:=∀ p∈c,rd h p.1=some p.2
def qY (t:Tg)(d:D)(ρ:En):Option En:=match t with
 | .one i _=>some (ρ.set i (some d))
 | .tup is _=>match d with
  | .tup xs=>if xs.length=is.length then some ((is.zip xs).foldl (λ ρ q=>ρ.set q.1.1 (some q.2)) ρ) else none
  | _=>none
def jX (cap:List (Option Nat))(ρ:En):En:=cap.map λ o=>o.bind λ i=>(ρ[i]?).bind id
def zZ (t:Tg)(ρ:En)(c:En->Hh->Res Bool)(e:En->Hh->Res D)(x:D)(h:Hh):Res (Option D):=match qY t x ρ with
 | some ρ'=>(c ρ' h).bind λ b h1=>if b then (e ρ' h1).bind λ d h2=>.ok (some d) h2 else .ok none h1
 | none=>.no
def zG (t:Tg)(b:En->Hh->RS)(x:D)(ρ:En)(h:Hh):RS:=match qY t x ρ with
 | some ρ'=>b ρ' h
 | none=>.no
def Gw (acc:List D):Option D->List D
 | some d=>acc++[d]
 | none=>acc
@[simp] theorem addO_some {acc:List D}{d:D}:Gw acc (some d)=acc++[d]:=rfl
@[simp] theorem addO_none {acc:List D}:Gw acc none=acc:=rfl
open Classical in
def zS (c:Ck)(f:D->Hh->Res (Option D)):List D->List D->Hh->Res (List D)
 | [],acc,h=>if stay c h then .ok acc h else .no
 | x::r,acc,h=>if stay c h then (f x h).bind λ o h'=>zS c f r (Gw acc o) h' else .no
open Classical in
def j8 (c:Ck)(f:D->En->Hh->RS):List D->En->Hh->RS
 | [],ρ,h=>if stay c h then .nx ρ h else .no
 | x::r,ρ,h=>if stay c h then (match f x ρ h with
   | .nx ρ' h'=>j8 c f r ρ' h'
   | .ct ρ' h'=>j8 c f r ρ' h'
   | .bk ρ' h'=>.nx ρ' h'
   | o=>o) else .no
def whL (c:En->Hh->Res Bool)(b:En->Hh->RS):Nat->En->Hh->RS
 | 0,_,_=>.no
 | n+1,ρ,h=>match c ρ h with
  | .ok true h1=>(match b ρ h1 with
   | .nx ρ' h'=>whL c b n ρ' h'
   | .ct ρ' h'=>whL c b n ρ' h'
   | .bk ρ' h'=>.nx ρ' h'
   | o=>o)
  | .ok false h1=>.nx ρ h1
  | .exc k h1=>.ex k ρ h1
  | .no=>.no
theorem ZG {c:En->Hh->Res Bool}{b:En->Hh->RS}:∀ (n:Nat) (ρ:En) (h:Hh),whL c b n ρ h≠.no->whL c b (n+1) ρ h=whL c b n ρ h
 | 0,ρ,h,z=>absurd rfl z
 | n+1,ρ,h,z=>by
  rw [whL] at z ⊢;rw [whL];cases ec:c ρ h with
  | ok t h1 =>
   cases t with
   | true =>
    rw [ec] at z;simp only at z ⊢;cases eb:b ρ h1 with
    | nx ρ' h'=>rw [eb] at z;exact ZG n ρ' h' z
    | ct ρ' h'=>rw [eb] at z;exact ZG n ρ' h' z
    | _=>rfl
   | false=>rfl
  | _=>rfl
theorem Gx {c:En->Hh->Res Bool}{b:En->Hh->RS}{n m:Nat}{ρ:En}{h:Hh}(hl:n<=m)(z:whL c b n ρ h≠.no):whL c b m ρ h=whL c b n ρ h:=by
 induction hl with
 | refl=>rfl
 | step _ ih=>rw [ZG _ _ _ (by rw [ih];exact z),ih]
open Classical in
def whR (c:En->Hh->Res Bool)(b:En->Hh->RS)(ρ:En)(h:Hh):RS:=if e:∃ n,whL c b n ρ h≠.no then whL c b (Classical.choose e) ρ h else .no
theorem Yq {c:En->Hh->Res Bool}{b:En->Hh->RS}{n:Nat}{ρ:En}{h:Hh}{r:RS}(e:whL c b n ρ h=r)(z:r≠.no):whR c b ρ h=r:=by
 have ex:∃ n,whL c b n ρ h≠.no:=⟨n,by rw [e];exact z⟩;unfold whR;rw [dif_pos ex];have z2:=Classical.choose_spec ex;rw [<- Gx (Nat.le_max_left (Classical.choose ex) n) z2,Gx (Nat.le_max_right (Classical.choose ex) n) (by rw [e];exact z),e]
theorem Wx {c:En->Hh->Res Bool}{b:En->Hh->RS}{ρ:En}{h:Hh}(z:whR c b ρ h≠.no):∃ n,whL c b n ρ h=whR c b ρ h:=by
 unfold whR at z ⊢;split at z
 ·rename_i e;exact ⟨_,by rw [dif_pos e]⟩
 ·exact absurd rfl z
theorem wG {c:En->Hh->Res Bool}{b:En->Hh->RS}{ρ ρ':En}{h h1 h':Hh}(ec:c ρ h=.ok true h1)(eb:b ρ h1=.nx ρ' h'):whR c b ρ h=whR c b ρ' h':=by
 by_cases z:whR c b ρ' h'=.no
 ·by_cases z2:whR c b ρ h=.no
  ·rw [z,z2]
  ·obtain ⟨n,e⟩:=Wx z2;cases n with
   | zero=>rw [<- e] at z2;exact absurd rfl z2
   | succ n =>
    rw [whL,ec] at e;simp only [eb] at e;rw [<- Yq e z2]
 ·obtain ⟨n,e⟩:=Wx z;exact Yq (n:=n+1) (by rw [whL,ec];simp only [eb];exact e) z
theorem qA {c:En->Hh->Res Bool}{b:En->Hh->RS}{ρ:En}{h h1:Hh}(ec:c ρ h=.ok false h1):whR c b ρ h=.nx ρ h1 :=
 Yq (n:=1) (by rw [whL,ec]) (by simp)
def tru (d:D)(h:Hh)(f:Bool->Hh->Res D):Res D:=match d with
 | .bl b=>f b h
 | _=>.no
def qB:List D->Option (List Bool)
 | []=>some []
 | .bl b::r=>(qB r).map (b::·)
 | _::_=>none
def c1D (f:F1)(a:D)(h:Hh):Res D:=match f,a with
 | .str,.int i=>if i.natAbs.log2<1920 then .ok (.str (toString i)) h else .no
 | .str,.str x=>.ok (.str x) h
 | .int,.int i=>.ok (.int i) h
 | .int,.bl b=>.ok (.int (if b then 1 else 0)) h
 | .int,.str x=>(match PySem.intText? x with | some n=>if x.length<=640 then .ok (.int n) h else .no | none=>.no)
 | .all,.loc n=>(match (rd h n).bind qB with | some bs=>.ok (.bl (bs.all id)) h | none=>.no)
 | .abs,.int i=>.ok (.int (if i<0 then -i else i)) h
 | .any,.loc n=>(match (rd h n).bind qB with | some bs=>.ok (.bl (bs.any id)) h | none=>.no)
 | _,_=>.no
def Qh {α:Type}(f:Str)(v:α):List (Str×α)->List (Str×α)
 | []=>[(f,v)]
 | (g,x)::r=>if g=f then (g,v)::r else (g,x)::Qh f v r
def Jo (x:D)(f:Str)(h:Hh):Res D:=match x with
 | .loc n=>(match h[n]? with
  | some (.obj _ fs)=>(match fs.lookup f with | some d=>.ok d h | none=>.no)
  | _=>.no)
 | _=>.no
def Bb (x:Str)(ys:List Str)(v:D)(h:Hh):Option Bool:=match v with
 | .loc n=>(match h[n]? with
  | some (.obj y _)=>if y∈ys then some (decide (y=x)) else none
  | _=>none)
 | _=>none
def qC (x:D)(f:Str)(v:D)(h:Hh):Option Hh:=match x with
 | .loc n=>(match h[n]? with
  | some (.obj y fs)=>if fs.length<1000 then some (h.set n (.obj y (Qh f v fs))) else none
  | _=>none)
 | _=>none
def mkR (n:Nat)(r:Res D):Res D:=match r with
 | .ok .non h=>.ok (.loc n) h
 | .exc c h=>.exc c h
 | _=>.no
def Qi (neg:Bool)(x:D)(h:Hh):Res D:=match x with
 | .fl xs=>.ok (.bl (ngB neg xs.isEmpty)) h
 | .loc n=>(match rd h n with | some xs=>.ok (.bl (ngB neg xs.isEmpty)) h | none=>.no)
 | _=>.no
def lrD (x:D)(h:Hh):Res D:=match x with
 | .fl xs=>new (.lst xs.reverse) h
 | .loc n=>(match rd h n with | some xs=>new (.lst xs.reverse) h | none=>.no)
 | _=>.no
def z4e (x:D)(h:Hh):Res (Ck×List D):=match x with
 | .fl xs=>.ok ([],xs.reverse) h
 | .tup xs=>.ok ([],xs.reverse) h
 | .loc n=>(match rd h n with | some xs=>.ok ([(n,xs)],xs.reverse) h | none=>.no)
 | _=>.no
def Cv.d:Cv->D
 | .tup xs=>.tup (xs.map .str)
 | .int i=>.int i
 | .fn _ _=>.non
 | .oth=>.non
def Cv.isFn:Cv->Bool
 | .fn _ _=>true
 | .oth=>true
 | _=>false
def z4f (kvs:List (Str×Cv))(y:D)(h:Hh):Res D:=match y with
 | .str k=>(match kvs.lookup k with | some c=>if c.isFn then .no else .ok c.d h | none=>.no)
 | _=>.no
def fnOf (kvs:List (Str×Cv))(y:D):Option Nat:=match y with
 | .str k=>(match kvs.lookup k with | some (.fn i _)=>some i | _=>none)
 | _=>none
def Ug:D->Option (Key×D)
 | .tup [k,v]=>(qy k).map λ q=>(q,v)
 | _=>none
def wn:List D->Option (List (Key×D))
 | []=>some []
 | x::r=>match Ug x,wn r with
  | some a,some b=>some (a::b)
  | _,_=>none
def wN (kvs more:List (Key×D)):List (Key×D):=more.foldl (λ acc kv=>ZF acc kv.1 kv.2) kvs
def Uh (x:D)(h:Hh):Res D:=match x with
 | .loc n=>(match rd h n with
  | some xs=>if xs.length<=1000000 then (match wn xs with | some kvs=>new (.dK (wN [] kvs)) h | none=>.no) else .no
  | none=>.no)
 | _=>.no
def Ui (ks:List (Str×Pos))(n:Nat)(xs:List D)(h:Hh):Res D:=match h[n]? with
 | some (.dK [])=>.ok (.loc n) (h.set n (.dK (wN [] ((ks.map λ q=>(Sum.inr q.1:Key)).zip xs))))
 | _=>.no
def z6d (d:D)(h:Hh):D:=match d with
 | .loc n=>(match rd h n with | some xs=>.tup xs | none=>.non)
 | d=>d
@[simp] theorem unpD_tup {xs:List D}{h:Hh}:z6d (.tup xs) h=.tup xs:=rfl
def Z8 (x:D)(h:Hh):Option (Ck×List D):=match x with
 | .tup xs=>some ([],xs)
 | .fl xs=>some ([],xs)
 | .loc n=>(rd h n).map λ xs=>([(n,xs)],xs)
 | _=>none
def w4 (q:D×D):D:=.tup [q.1,q.2]
def Qj (x y:D)(h:Hh):Res (Ck×List D):=match Z8 x h with
 | some p=>(match Z8 y h with
  | some q=>.ok (p.1++q.1,(p.2.zip q.2).map w4) h
  | none=>.no)
 | none=>.no
def lzD (x y:D)(h:Hh):Res D:=match Z8 x h with
 | some p=>(match Z8 y h with
  | some q=>new (.lst ((p.2.zip q.2).map w4)) h
  | none=>.no)
 | none=>.no
def Xv.run (u:List Nat)(h:Hh):Xv->D×Hh
 | .and a b r _=>(.bl (a.val u&&(b.val u&&r.all (Xt.val u))),h)
 | .lst ts _=>(.loc h.length,h++[.lst (ts.map λ t=>.bl (t.val u))])
 | .one t=>(.bl (t.val u),h)
noncomputable section
variable (cl:Nat->List D->Hh->Res D)
mutual
def E.ev:E->En->Hh->Res D
 | .non _,_,h=>.ok .non h
 | .bl b _,_,h=>.ok (.bl b) h
 | .int i _,_,h=>.ok (.int i) h
 | .str x _,_,h=>.ok (.str x) h
 | .var i _,ρ,h=>match ρ[i]? with | some (some d)=>.ok d h | _=>.no
 | .bin op a b _,ρ,h=>(a.ev ρ h).bind λ x h1=>(b.ev ρ h1).bind λ y h2=>jE op x y h2
 | .un op a _,ρ,h=>(a.ev ρ h).bind λ x h1=>unD op x h1
 | .cmp op a b _,ρ,h=>(a.ev ρ h).bind λ x h1=>(b.ev ρ h1).bind λ y h2=>zU op x y h2
 | .and a b r _,ρ,h=>(a.ev ρ h).bind λ x h1=>tru x h1 λ c h1=>if c then (b.ev ρ h1).bind λ y h2=>r.evAnd ρ y h2 else .ok (.bl false) h1
 | .or a b r _,ρ,h=>(a.ev ρ h).bind λ x h1=>tru x h1 λ c h1=>if c then .ok (.bl true) h1 else (b.ev ρ h1).bind λ y h2=>r.evOr ρ y h2
 | .ite c a b _,ρ,h=>(c.ev ρ h).bind λ x h1=>tru x h1 λ t h1=>if t then a.ev ρ h1 else b.ev ρ h1
 | .call f a r _ _,ρ,h=>(a.ev ρ h).bind λ x h1=>(r.ev ρ h1).bind λ xs h2=>cl f (x::xs) h2
 | .len a _ _,ρ,h=>(a.ev ρ h).bind λ x h1=>yN x h1
 | .isi T a _ _ _,ρ,h=>(a.ev ρ h).bind λ x h1=>match isI h1 x T with | some b=>.ok (.bl b) h1 | none=>.no
 | .isC y ys a _ _ _,ρ,h=>(a.ev ρ h).bind λ x h1=>match Bb y ys x h1 with | some b=>.ok (.bl b) h1 | none=>.no
 | .sub a i _,ρ,h=>(a.ev ρ h).bind λ x h1=>(i.ev ρ h1).bind λ y h2=>zX x y h2
 | .tup es _,ρ,h=>(es.ev ρ h).bind λ xs h1=>if xs.length<=1000 then .ok (.tup xs) h1 else .no
 | .ofL l,ρ,h=>(l.ev ρ h).bind λ xs h1=>new (.lst xs) h1
 | .tupE e _ _,ρ,h=>(e.ev ρ h).bind λ x h1=>match jZ x h1 with | some xs=>.ok (.tup xs) h1 | none=>.no
 | .listE e _ _,ρ,h=>(e.ev ρ h).bind λ x h1=>match jZ x h1 with | some xs=>new (.lst xs) h1 | none=>.no
 | .dicP e _ _,ρ,h=>(e.ev ρ h).bind λ x h1=>Uh x h1
 | .dispD ks vs _,ρ,h=>(vs.ev ρ (h++[.dK []])).bind λ xs h1=>Ui ks h.length xs h1
 | .cut a lo hi _ _,ρ,h=>(a.ev ρ h).bind λ x h1=>(lo.ev ρ h1).bind λ l h2=>(hi.ev ρ h2).bind λ u h3=>Jn x l u h3
 | .dic _,_,h=>new (.dK []) h
 | .m0 m o _ _,ρ,h=>(o.ev ρ h).bind λ x h1=>m0D m x h1
 | .m1 m o a _ _,ρ,h=>(o.ev ρ h).bind λ x h1=>onL x h1 ((a.ev ρ h1).bind λ y h2=>m1D m x y h2)
 | .c1 f a _ _,ρ,h=>(a.ev ρ h).bind λ x h1=>c1D f x h1
 | .cmpN neg a _ _,ρ,h=>(a.ev ρ h).bind λ x h1=>Qi neg x h1
 | .listR e _ _ _ _,ρ,h=>(e.ev ρ h).bind λ x h1=>lrD x h1
 | .listZ a b _ _ _ _,ρ,h=>(a.ev ρ h).bind λ x h1=>(b.ev ρ h1).bind λ y h2=>lzD x y h2
 | .gcon _ c _,_,h=>match c with | .int i=>.ok (.int i) h | .str x=>.ok (.str x) h | .tup xs=>.ok (.tup (xs.map .str)) h | .dic _=>.no | .exc _ _=>.no | .cls _=>.no | .isc _ _=>.no
 | .gsub _ kvs i _ _,ρ,h=>(i.ev ρ h).bind λ y h1=>z4f kvs y h1
 | .callG _ kvs key a r _ _ _,ρ,h=>(key.ev ρ h).bind λ y h1=>match fnOf kvs y with | some i=>(a.ev ρ h1).bind λ x h2=>(r.ev ρ h2).bind λ xs h3=>cl i (x::xs) h3 | none=>.no
 | .fld a f _,ρ,h=>(a.ev ρ h).bind λ x h1=>Jo x f h1
 | .mk i x a r _ _,ρ,h=>(a.ev ρ h).bind λ y h1=>(r.ev ρ h1).bind λ ys h2=>mkR h2.length (cl i (.loc h2.length::y::ys) (h2++[.obj x []]))
def Eo.ev:Eo->En->Hh->Res (Option Int)
 | .none,_,h=>.ok none h
 | .some e,ρ,h=>(e.ev ρ h).bind λ d h1=>z4d d h1
def L.ev:L->En->Hh->Res (List D)
 | .disp es _,ρ,h=>(es.ev ρ h).bind λ xs h1=>if xs.length<=1000 then .ok xs h1 else .no
 | .comp elt t it c _ cap _ _,ρ,h=>(it.ev ρ h).bind λ q h1=>if q.2.length<=1000000 then zS q.1 (zZ t (jX cap ρ) (λ ρ' h2=>c.evC ρ' h2) (λ ρ' h2=>elt.ev ρ' h2)) q.2 [] h1 else .no
def I.ev:I->En->Hh->Res (Ck×List D)
 | .seq e,ρ,h=>(e.ev ρ h).bind λ x h1=>match x with
  | .tup xs=>.ok ([],xs) h1
  | .fl xs=>.ok ([],xs) h1
  | .loc n=>match rd h1 n with | some xs=>.ok ([(n,xs)],xs) h1 | none=>.no
  | .str x=>.ok ([],x.cps.toList.map λ c=>.str ⟨#[c]⟩) h1
  | _=>.no
 | .lst l,ρ,h=>(l.ev ρ h).bind λ xs h1=>.ok ([],xs) h1
 | .rng a _ _,ρ,h=>(a.ev ρ h).bind λ x h1=>match x with
  | .int j=>if -1000000<=j/\j<=1000000 then .ok ([],(List.range j.toNat).map λ k=>.int (k:Nat)) h1 else .no
  | _=>.no
 | .rev e _ _,ρ,h=>(e.ev ρ h).bind λ x h1=>z4e x h1
 | .zip a b _ _,ρ,h=>(a.ev ρ h).bind λ x h1=>(b.ev ρ h1).bind λ y h2=>Qj x y h2
def Es.evC:Es->En->Hh->Res Bool
 | .nil,_,h=>.ok true h
 | .cons e _,ρ,h=>(e.ev ρ h).bind λ d h1=>match d with | .bl b=>.ok b h1 | _=>.no
def Es.ev:Es->En->Hh->Res (List D)
 | .nil,_,h=>.ok [] h
 | .cons e r,ρ,h=>(e.ev ρ h).bind λ x h1=>(r.ev ρ h1).bind λ xs h2=>.ok (x::xs) h2
def Es.evAnd:Es->En->D->Hh->Res D
 | .nil,_,x,h=>.ok x h
 | .cons e r,ρ,x,h=>tru x h λ c h1=>if c then (e.ev ρ h1).bind λ y h2=>r.evAnd ρ y h2 else .ok (.bl false) h1
def Es.evOr:Es->En->D->Hh->Res D
 | .nil,_,x,h=>.ok x h
 | .cons e r,ρ,x,h=>tru x h λ c h1=>if c then .ok (.bl true) h1 else (e.ev ρ h1).bind λ y h2=>r.evOr ρ y h2
end
def E.evT (e:E)(ρ:En)(h:Hh):Res Bool:=(e.ev cl ρ h).bind λ d h1=>match d with | .bl b=>.ok b h1 | _=>.no
def jj {α:Type}(ρ:En)(r:Res α)(f:α->Hh->RS):RS:=match r with
 | .ok a h=>f a h
 | .exc c h=>.ex c ρ h
 | .no=>.no
@[simp] theorem andS_ok {α:Type}{ρ:En}{a:α}{h:Hh}{f:α->Hh->RS}:jj ρ (.ok a h) f=f a h:=rfl
@[simp] theorem andS_exc {α:Type}{ρ:En}{c:Nat}{h:Hh}{f:α->Hh->RS}:jj ρ (.exc c h) f=.ex c ρ h:=rfl
def jY (o:RS)(f:En->Hh->RS):RS:=match o with
 | .nx ρ h=>f ρ h
 | o=>o
@[simp] theorem seqS_nx {ρ:En}{h:Hh}{f:En->Hh->RS}:jY (.nx ρ h) f=f ρ h:=rfl
@[simp] theorem seqS_rt {d:D}{h:Hh}{f:En->Hh->RS}:jY (.rt d h) f=.rt d h:=rfl
@[simp] theorem seqS_bk {ρ:En}{h:Hh}{f:En->Hh->RS}:jY (.bk ρ h) f=.bk ρ h:=rfl
@[simp] theorem seqS_ct {ρ:En}{h:Hh}{f:En->Hh->RS}:jY (.ct ρ h) f=.ct ρ h:=rfl
@[simp] theorem seqS_ex {c:Nat}{ρ:En}{h:Hh}{f:En->Hh->RS}:jY (.ex c ρ h) f=.ex c ρ h:=rfl
mutual
def S.run:S->En->Hh->RS
 | .set i e _ _,ρ,h=>jj ρ (e.ev cl ρ h) λ d h1=>.nx (ρ.set i (some d)) h1
 | .ret e _,ρ,h=>jj ρ (e.ev cl ρ h) λ d h1=>.rt d h1
 | .iff c a b _,ρ,h=>jj ρ (c.evT cl ρ h) λ t h1=>if t then a.run ρ h1 else b.run ρ h1
 | .ex e _,ρ,h=>jj ρ (e.ev cl ρ h) λ _ h1=>.nx ρ h1
 | .put o i v _ _,ρ,h=>jj ρ (v.ev cl ρ h) λ z h1=>jj ρ (o.ev cl ρ h1) λ x h2=>jj ρ (i.ev cl ρ h2) λ y h3=>match Yp x y z h3 with | some h4=>.nx ρ h4 | none=>.no
 | .forr t it b _,ρ,h=>jj ρ (it.ev cl ρ h) λ q h1=>j8 q.1 (zG t λ ρ' h'=>b.run ρ' h') q.2 ρ h1
 | .whil c b _,ρ,h=>whR (λ ρ' h'=>c.evT cl ρ' h') (λ ρ' h'=>b.run ρ' h') ρ h
 | .retN _,_,h=>.rt .non h
 | .setF o f v _ _,ρ,h=>jj ρ (v.ev cl ρ h) λ z h1=>jj ρ (o.ev cl ρ h1) λ x h2=>match qC x f z h2 with | some h3=>.nx ρ h3 | none=>.no
 | .raw _,_,_=>.no
def Ss.run:Ss->En->Hh->RS
 | .nil,ρ,h=>.nx ρ h
 | .cons s r,ρ,h=>jY (s.run ρ h) λ ρ' h'=>r.run ρ' h'
end
end
def z4g:Stmt->Nat->List Stmt
 | .If _ a b _,k=>if k=0 then a else b
 | .For _ _ b _ _,_=>b
 | .While _ b _ _,_=>b
 | .Try b _ _ _ _,_=>b
 | _,_=>[]
def z2m (l:List Stmt):Nat->List (Nat×Nat)->Stmt
 | i,[]=>l.getD i (.Pass ⟨0,0,0,0⟩)
 | i,(b,j)::r=>z2m (z4g (l.getD i (.Pass ⟨0,0,0,0⟩)) b) j r
def zH:Stmt->List Stmt
 | .ClassDef _ _ _ b _ _ _ _ _ _ _=>b
 | _=>[]
structure Df where
 name:Str
 ps:List Str
 N:List Str
 body:Ss
def Qk:RS->Res D
 | .rt v h'=>.ok v h'
 | .nx _ h'=>.ok .non h'
 | .ex c _ h'=>.exc c h'
 | _=>.no
def Df.run (cl:Nat->List D->Hh->Res D)(d:Df)(as:List D)(h:Hh):Res D :=
 Qk (d.body.run cl (as.map some++List.replicate (d.N.length-as.length) none) h)
def callI (ds:List Df):Nat->Nat->List D->Hh->Res D
 | 0,_,_,_=>.no
 | k+1,f,as,h=>match ds[f]? with
  | some d=>if as.length=d.ps.length then d.run (callI ds k) as h else .no
  | none=>.no
section
variable {i j:Int}{h:Hh}{x y:Str}{b c:Bool}{d e:D}{xs:List D}
@[simp] theorem bin_add:jE .Add (.int i) (.int j) h=.ok (.int (i+j)) h:=rfl
@[simp] theorem bin_sub:jE .Sub (.int i) (.int j) h=.ok (.int (i-j)) h:=rfl
@[simp] theorem bin_mul:jE .Mult (.int i) (.int j) h=if fits i=true/\fits j=true then .ok (.int (i*j)) h else .no:=rfl
@[simp] theorem bin_fdiv:jE .FloorDiv (.int i) (.int j) h=if 0<j/\j<1073741824 then .ok (.int (i/j)) h else .no:=rfl
@[simp] theorem bin_mod:jE .Mod (.int i) (.int j) h=if 0<j then .ok (.int (i%j)) h else .no:=rfl
@[simp] theorem bin_pow:jE .Pow (.int i) (.int j) h=if 0<=j/\j<=1000000/\i.natAbs<2 ^ 64 then .ok (.int (i ^ j.toNat)) h else .no:=rfl
@[simp] theorem bin_shl:jE .LShift (.int i) (.int j) h=if fits i=true/\0<=j/\j<=1000000 then .ok (.int (i*2 ^ j.toNat)) h else .no:=rfl
@[simp] theorem bin_shr:jE .RShift (.int i) (.int j) h=if 0<=j then .ok (.int (i/2 ^ j.toNat)) h else .no:=rfl
@[simp] theorem bin_and:jE .BitAnd (.int i) (.int j) h=.ok (.int (Builtin.bitAnd i j)) h:=rfl
@[simp] theorem bin_or:jE .BitOr (.int i) (.int j) h=.ok (.int (Builtin.bitOr i j)) h:=rfl
@[simp] theorem bin_adds:jE .Add (.str x) (.str y) h=if x.length+y.length<=1000000 then .ok (.str (x++y)) h else .no:=rfl
@[simp] theorem cmp_lt:zU .Lt (.int i) (.int j) h=.ok (.bl (decide (i<j))) h:=rfl
@[simp] theorem cmp_le:zU .LtE (.int i) (.int j) h=.ok (.bl (decide (i<=j))) h:=rfl
@[simp] theorem cmp_gt:zU .Gt (.int i) (.int j) h=.ok (.bl (decide (j<i))) h:=rfl
@[simp] theorem cmp_ge:zU .GtE (.int i) (.int j) h=.ok (.bl (decide (j<=i))) h:=rfl
@[simp] theorem cmp_eq:zU .Eq d e h=eqR false (pdT h d) (pdT h e) h:=rfl
@[simp] theorem cmp_ne:zU .NotEq d e h=eqR true (pdT h d) (pdT h e) h:=rfl
@[simp] theorem cmp_in:zU .In d e h=inD false d e h:=rfl
@[simp] theorem cmp_notin:zU .NotIn d e h=inD true d e h:=rfl
theorem Bc {neg:Bool}{ys:List Str}:Ww neg (.str x) (ys.map .str) h=.ok (.bl (ngB neg (ys.any λ y=>y==x))) h:=by
 unfold Ww;rw [if_pos ⟨rfl,by simp [JP]⟩,List.any_map];rfl
@[simp] theorem cmp_isN:zU .Is d .non h=.ok (.bl (match d with | .non=>true | _=>false)) h:=by cases d<;>rfl
@[simp] theorem cmp_isnotN:zU .IsNot d .non h=.ok (.bl (match d with | .non=>false | _=>true)) h:=by cases d<;>rfl
@[simp] theorem cmp_is:zU .Is (.bl b) (.bl c) h=.ok (.bl (b==c)) h:=rfl
@[simp] theorem cmp_isnot:zU .IsNot (.bl b) (.bl c) h=.ok (.bl (!(b==c))) h:=rfl
@[simp] theorem eqR_some {neg:Bool}{u v:PyData}:eqR neg (some u) (some v) h=if u.canLay0=true/\v.canLay0=true/\u.depth<=60 then .ok (.bl (if neg then !PyData.eqv u v else PyData.eqv u v)) h else .no:=rfl
@[simp] theorem pdT_non:pdT h .non=some .none:=by unfold pdT D.pd;rfl
@[simp] theorem pdT_bl:pdT h (.bl b)=some (.bool b):=by unfold pdT D.pd;rfl
@[simp] theorem pdT_int:pdT h (.int i)=some (.int i):=by unfold pdT D.pd;rfl
@[simp] theorem pdT_str:pdT h (.str x)=some (.str x):=by unfold pdT D.pd;rfl
@[simp] theorem pdT_tup:pdT h (.tup xs)=(D.pds h xs).map .tuple:=by unfold pdT D.pd;rfl
@[simp] theorem pdT_loc {n:Nat}:pdT h (.loc n)=(rd h n).bind λ xs=>(D.pds h xs).map .list:=rfl
@[simp] theorem pds_nil:D.pds h []=some []:=by unfold D.pds;rfl
@[simp] theorem un_not:unD .Not (.bl b) h=.ok (.bl (!b)) h:=rfl
@[simp] theorem un_invert:unD .Invert (.int i) h=.ok (.int (Builtin.bitNot i)) h:=rfl
@[simp] theorem un_usub:unD .USub (.int i) h=.ok (.int (-i)) h:=rfl
@[simp] theorem pdT_fl:pdT h (.fl xs)=(D.pds h xs).map .list:=by unfold pdT D.pd;rfl
@[simp] theorem len_fl:yN (.fl xs) h=.ok (.int xs.length) h:=rfl
@[simp] theorem sub_fl:zX (.fl xs) (.int i) h=match atI xs i with | some d=>.ok d h | none=>.no:=rfl
@[simp] theorem len_tup:yN (.tup xs) h=.ok (.int xs.length) h:=rfl
@[simp] theorem len_loc {n:Nat}:yN (.loc n) h=match rd h n with | some xs=>.ok (.int xs.length) h | none=>.no:=rfl
@[simp] theorem len_str:yN (.str x) h=if x.length<=1000000 then .ok (.int x.length) h else .no:=rfl
@[simp] theorem sub_tup:zX (.tup xs) (.int i) h=match atI xs i with | some d=>.ok d h | none=>.no:=rfl
@[simp] theorem bin_muls:jE .Mult (.str x) (.int j) h=if 0<=j/\j<=1000/\x.length<=1000 then .ok (.str (Txt.mul x j)) h else .no:=rfl
@[simp] theorem bin_addt {ys:List D}:jE .Add (.tup xs) (.tup ys) h=if xs.length+ys.length<=1000000 then .ok (.tup (xs++ys)) h else .no:=rfl
@[simp] theorem bin_addl {n m:Nat}:jE .Add (.loc n) (.loc m) h=(match h[n]?,h[m]? with
  | some (.lst xs),some (.lst ys)=>if xs.length+ys.length<=1000000 then .ok (.loc h.length) (h++[.lst (xs++ys)]) else .no
  | _,_=>.no):=rfl
theorem Wy:zX (.str x) (.int i) h=if x.length<=1000000 then (match atI x.cps.toList i with | some c=>.ok (.str ⟨#[c]⟩) h | none=>.no) else .no:=rfl
theorem Bd {n:Nat}{y:D}:zX (.loc n) y h=(match h[n]? with
  | some (.dK kvs)=>match (qy y).bind (λ k=>jC kvs k) with | some d=>.ok d h | none=>.no
  | some (.lst xs)=>match y with
   | .int k=>match atI xs k with | some d=>.ok d h | none=>.no
   | _=>.no
  | _=>.no):=rfl
@[simp] theorem tru_bl {f:Bool->Hh->Res D}:tru (.bl b) h f=f b h:=rfl
end
theorem zb {ds:List Df}{k i:Nat}{d:Df}{as:List D}{h:Hh}(hd:ds[i]?=some d)(hl:as.length=d.ps.length):callI ds (k+1) i as h=d.run (callI ds k) as h:=by
 unfold callI;rw [hd];exact if_pos hl
theorem z2n {α:Type}{P:List α->Prop}(f:P [])(us:List α)(hl:us.length=0):P us:=by
 cases us with
 | nil=>exact f
 | cons=>cases hl
theorem Gy {α:Type}{n:Nat}{P:List α->Prop}(f:∀ a us,us.length=n->P (a::us))(us:List α)(hl:us.length=n+1):P us:=by
 cases us with
 | nil=>cases hl
 | cons a r=>exact f a r (Nat.succ.inj hl)
theorem yt {α:Type}{P:List α->Prop}(f:∀ a,P [a]):∀ us:List α,us.length=1->P us:=Gy λ a=>z2n (P:=λ us=>P (a::us)) (f a)
theorem wO {α:Type}{P:List α->Prop}(f:∀ a b,P [a,b]):∀ us:List α,us.length=2->P us:=Gy λ a=>yt (P:=λ us=>P (a::us)) (f a)
theorem Yr {α:Type}{P:List α->Prop}(f:∀ a b c,P [a,b,c]):∀ us:List α,us.length=3->P us:=Gy λ a=>wO (P:=λ us=>P (a::us)) (f a)
theorem Ql {α:Type}{P:List α->Prop}(f:∀ a b c d,P [a,b,c,d]):∀ us:List α,us.length=4->P us:=Gy λ a=>Yr (P:=λ us=>P (a::us)) (f a)
theorem z2o {α:Type}{P:List α->Prop}(f:∀ a b c d e,P [a,b,c,d,e]):∀ us:List α,us.length=5->P us:=Gy λ a=>Ql (P:=λ us=>P (a::us)) (f a)
end PI
namespace PI
open PySem L2
def Fz (K:Y00)(H:Hp)(a:Addr)(vs:List V):Prop:=(∃ o,H a=some (.frz o (.lst vs)))\/∀ H',SqL K H' a vs
theorem Fz.sq {K:Y00}{H:Hp}{a:Addr}{vs:List V}(h:Fz K H a vs):SqL K H a vs:=h.elim (λ ⟨o,q⟩=>.inl (.inr ⟨o,q⟩)) λ q=>q H
mutual
inductive Rep (K:Y00)(μ:List Addr)(H:Hp):D->V->Prop
 | non:Rep K μ H .non .non
 | bl (b:Bool):Rep K μ H (.bl b) (.bl b)
 | int (i:Int):Rep K μ H (.int i) (.int i)
 | str (x:Str):Rep K μ H (.str x) (.str x)
 | tup {ds:List D}{vs:List V}{a:Addr}:SqT K H a vs->Reps K μ H ds vs->Rep K μ H (.tup ds) (.ref a)
 | loc {n:Nat}{a:Addr}:μ[n]?=some a->Rep K μ H (.loc n) (.ref a)
 | fl {ds:List D}{vs:List V}{a:Addr}:Fz K H a vs->Reps K μ H ds vs->Rep K μ H (.fl ds) (.ref a)
inductive Reps (K:Y00)(μ:List Addr)(H:Hp):List D->List V->Prop
 | nil:Reps K μ H [] []
 | cons {d:D}{v:V}{ds:List D}{vs:List V}:Rep K μ H d v->Reps K μ H ds vs->Reps K μ H (d::ds) (v::vs)
end
structure Ext (K:Y00)(μ:List Addr)(H:Hp)(μ':List Addr)(H':Hp):Prop where
 loc:∀ (n:Nat) a,μ[n]?=some a->μ'[n]?=some a
 tup:∀ a xs,SqT K H a xs->SqT K H' a xs
 fz:∀ a xs,Fz K H a xs->Fz K H' a xs
 oth:∀ a o,H a=some o->a∉μ->H' a=some o
 new:∀ a,a∈μ'->a∈μ\/H a=none
theorem Ext.refl {K:Y00}{μ:List Addr}{H:Hp}:Ext K μ H μ H:=⟨λ _ _ h=>h,λ _ _ h=>h,λ _ _ h=>h,λ _ _ h _=>h,λ _ h=>.inl h⟩
theorem Ext.sub {K:Y00}{μ μ1:List Addr}{H H1:Hp}(a:Ext K μ H μ1 H1){x:Addr}(h:x∈μ):x∈μ1:=by
 obtain ⟨n,hn⟩:=Y1r h;exact Y1e (a.loc n x hn)
theorem Ext.apart {K:Y00}{μ μ1:List Addr}{H H1:Hp}(a:Ext K μ H μ1 H1){x:Addr}{o:HO}(h:H x=some o)(n:x∉μ):x∉μ1:=λ z=>by
 rcases a.new x z with q | q
 ·exact n q
 ·rw [h] at q;cases q
theorem Ext.trans {K:Y00}{μ μ1 μ2:List Addr}{H H1 H2:Hp}(a:Ext K μ H μ1 H1)(b:Ext K μ1 H1 μ2 H2):Ext K μ H μ2 H2:=by
 refine ⟨λ n x h=>b.loc n x (a.loc n x h),λ x y h=>b.tup x y (a.tup x y h),λ x y h=>b.fz x y (a.fz x y h),λ x o h n=>b.oth x o (a.oth x o h n) (a.apart h n),λ x h=>?_⟩;rcases b.new x h with z | z
 ·exact a.new x z
 ·by_cases hx:x∈μ
  ·exact .inl hx
  ·right;cases e:H x with
   | none=>rfl
   | some o=>rw [a.oth x o e hx] at z;cases z
mutual
theorem Rep.mono {K:Y00}{μ μ':List Addr}{H H':Hp}(e:Ext K μ H μ' H'):∀ {d:D}{v:V},Rep K μ H d v->Rep K μ' H' d v
 | _,_,.non=>.non
 | _,_,.bl b=>.bl b
 | _,_,.int i=>.int i
 | _,_,.str x=>.str x
 | _,_,.tup h r=>.tup (e.tup _ _ h) (Reps.mono e r)
 | _,_,.loc h=>.loc (e.loc _ _ h)
 | _,_,.fl h r=>.fl (e.fz _ _ h) (Reps.mono e r)
theorem Reps.mono {K:Y00}{μ μ':List Addr}{H H':Hp}(e:Ext K μ H μ' H'):∀ {ds:List D}{vs:List V},Reps K μ H ds vs->Reps K μ' H' ds vs
 | _,_,.nil=>.nil
 | _,_,.cons h r=>.cons (Rep.mono e h) (Reps.mono e r)
end
mutual
theorem Rep.mono' {K:Y00}{μ μ':List Addr}{H:Hp}(e:∀ (n:Nat) a,μ[n]?=some a->μ'[n]?=some a):∀ {d:D}{v:V},Rep K μ H d v->Rep K μ' H d v
 | _,_,.non=>.non
 | _,_,.bl b=>.bl b
 | _,_,.int i=>.int i
 | _,_,.str x=>.str x
 | _,_,.tup h r=>.tup h (Reps.mono' e r)
 | _,_,.loc h=>.loc (e _ _ h)
 | _,_,.fl h r=>.fl h (Reps.mono' e r)
theorem Reps.mono' {K:Y00}{μ μ':List Addr}{H:Hp}(e:∀ (n:Nat) a,μ[n]?=some a->μ'[n]?=some a):∀ {ds:List D}{vs:List V},Reps K μ H ds vs->Reps K μ' H ds vs
 | _,_,.nil=>.nil
 | _,_,.cons h r=>.cons (Rep.mono' e h) (Reps.mono' e r)
end
theorem Reps.length {K:Y00}{μ:List Addr}{H:Hp}:∀ {ds:List D}{vs:List V},Reps K μ H ds vs->ds.length=vs.length
 | _,_,.nil=>rfl
 | _,_,.cons _ r=>by rw [Y09,Y09,r.length]
theorem Reps.get {K:Y00}{μ:List Addr}{H:Hp}:∀ {ds:List D}{vs:List V}{i:Nat}{d:D},Reps K μ H ds vs->ds[i]?=some d->∃ v,vs[i]?=some v/\Rep K μ H d v
 | _,_,_,_,.nil,e=>by simp at e
 | _,_,0,_,.cons h _,e=>by simp at e;subst e;exact ⟨_,rfl,h⟩
 | _,_,i+1,d,.cons _ r,e=>by
  obtain ⟨v,h1,h2⟩:=Reps.get (i:=i) (d:=d) r (by simpa using e);exact ⟨v,by simpa using h1,h2⟩
theorem Reps.append {K:Y00}{μ:List Addr}{H:Hp}:∀ {ds es:List D}{vs ws:List V},Reps K μ H ds vs->Reps K μ H es ws->Reps K μ H (ds++es) (vs++ws)
 | _,_,_,_,.nil,r=>r
 | _,_,_,_,.cons h t,r=>.cons h (t.append r)
theorem Reps.atI {K:Y00}{μ:List Addr}{H:Hp}{ds:List D}{vs:List V}{k:Int}{d:D}(r:Reps K μ H ds vs)(e:L2.atI ds k=some d):∃ v,L2.atI vs k=some v/\Rep K μ H d v:=by
 unfold L2.atI at e ⊢;rw [<- r.length];cases h:ixN ds.length k with
 | none=>rw [h] at e;cases e
 | some j =>
  rw [h] at e;exact r.get e
inductive RepKs (K:Y00)(μ:List Addr)(H:Hp):List (Key×D)->List (Key×V)->Prop
 | nil:RepKs K μ H [] []
 | cons {k:Key}{d:D}{v:V}{ds:List (Key×D)}{vs:List (Key×V)}:Rep K μ H d v->RepKs K μ H ds vs->RepKs K μ H ((k,d)::ds) ((k,v)::vs)
theorem RepKs.mono {K:Y00}{μ μ':List Addr}{H H':Hp}(e:Ext K μ H μ' H'):∀ {ds:List (Key×D)}{vs:List (Key×V)},RepKs K μ H ds vs->RepKs K μ' H' ds vs
 | _,_,.nil=>.nil
 | _,_,.cons h r=>.cons (h.mono e) (r.mono e)
theorem RepKs.length {K:Y00}{μ:List Addr}{H:Hp}:∀ {ds:List (Key×D)}{vs:List (Key×V)},RepKs K μ H ds vs->ds.length=vs.length
 | _,_,.nil=>rfl
 | _,_,.cons _ r=>by rw [Y09,Y09,r.length]
inductive RepFs (K:Y00)(μ:List Addr)(H:Hp):List (Str×D)->List (Str×V)->Prop
 | nil:RepFs K μ H [] []
 | cons {f:Str}{d:D}{v:V}{ds:List (Str×D)}{vs:List (Str×V)}:Rep K μ H d v->RepFs K μ H ds vs->RepFs K μ H ((f,d)::ds) ((f,v)::vs)
theorem RepFs.mono {K:Y00}{μ μ':List Addr}{H H':Hp}(e:Ext K μ H μ' H'):∀ {ds:List (Str×D)}{vs:List (Str×V)},RepFs K μ H ds vs->RepFs K μ' H' ds vs
 | _,_,.nil=>.nil
 | _,_,.cons h r=>.cons (h.mono e) (r.mono e)
theorem RepFs.mono' {K:Y00}{μ μ':List Addr}{H:Hp}(e:∀ (n:Nat) a,μ[n]?=some a->μ'[n]?=some a):∀ {ds:List (Str×D)}{vs:List (Str×V)},RepFs K μ H ds vs->RepFs K μ' H ds vs
 | _,_,.nil=>.nil
 | _,_,.cons h r=>.cons (h.mono' e) (r.mono' e)
theorem RepFs.length {K:Y00}{μ:List Addr}{H:Hp}:∀ {ds:List (Str×D)}{vs:List (Str×V)},RepFs K μ H ds vs->ds.length=vs.length
 | _,_,.nil=>rfl
 | _,_,.cons _ r=>by rw [Y09,Y09,r.length]
theorem RepFs.get {K:Y00}{μ:List Addr}{H:Hp}{f:Str}{d:D}:∀ {ds:List (Str×D)}{vs:List (Str×V)},RepFs K μ H ds vs->ds.lookup f=some d->∃ v,vs.lookup f=some v/\Rep K μ H d v
 | _,_,.nil,e=>by cases e
 | _,_,@RepFs.cons _ _ _ g _ _ _ _ h r,e=>by
  rw [List.lookup] at e ⊢;cases c:f==g with
  | true=>rw [c] at e;cases e;exact ⟨_,rfl,h⟩
  | false=>rw [c] at e;exact r.get e
theorem RepFs.put {K:Y00}{μ:List Addr}{H:Hp}{f:Str}{d:D}{v:V}(q:Rep K μ H d v):∀ {ds:List (Str×D)}{vs:List (Str×V)},RepFs K μ H ds vs->RepFs K μ H (Qh f d ds) (wK f v vs)
 | _,_,.nil=>.cons q .nil
 | _,_,@RepFs.cons _ _ _ g _ _ _ _ h r=>by
  rw [Qh,wK];by_cases c:g=f
  ·rw [if_pos c,if_pos c];exact .cons q r
  ·rw [if_neg c,if_neg c];exact .cons h (r.put q)
def j0:List Str:=["named","clauses","bound","doing","left","standing","record","used","end","tasks","numbers","known","block","held","went","name","kept"]
structure ClsN (K:Y00)(x:Str)(C:Addr):Prop where
 nm:PySem.W.nsIn K mainGlobals x=some (some (.ref C))
 cl:Cls K C
 na:∀ f∈j0,NoAttr K C f
def RepO (K:Y00)(μ:List Addr)(H:Hp)(a:Addr):O->Prop
 | .lst ds=>∃ vs,H a=some (.lst vs)/\Reps K μ H ds vs
 | .dK kvs=>∃ vs,H a=some (.dK vs)/\RepKs K μ H kvs vs
 | .obj x fs=>∃ C dx vs,H a=some (.ins C dx vs)/\ClsN K x C/\RepFs K μ H fs vs
theorem RepKs.mono' {K:Y00}{μ μ':List Addr}{H:Hp}(e:∀ (n:Nat) a,μ[n]?=some a->μ'[n]?=some a):∀ {ds:List (Key×D)}{vs:List (Key×V)},RepKs K μ H ds vs->RepKs K μ' H ds vs
 | _,_,.nil=>.nil
 | _,_,.cons h r=>.cons (h.mono' e) (r.mono' e)
theorem RepO.mono' {K:Y00}{μ μ':List Addr}{H:Hp}{a:Addr}{o:O}(e:∀ (n:Nat) a,μ[n]?=some a->μ'[n]?=some a)(r:RepO K μ H a o):RepO K μ' H a o:=by
 cases o with
 | lst ds=>obtain ⟨vs,q,r⟩:=r;exact ⟨vs,q,r.mono' e⟩
 | dK ds=>obtain ⟨vs,q,r⟩:=r;exact ⟨vs,q,r.mono' e⟩
 | obj x fs=>obtain ⟨C,dx,vs,q,c,r⟩:=r;exact ⟨C,dx,vs,q,c,r.mono' e⟩
structure HR (K:Y00)(μ:List Addr)(h:Hh)(H:Hp):Prop where
 len:μ.length=h.length
 inj:∀ (n m:Nat) (a:Addr),μ[n]?=some a->μ[m]?=some a->n=m
 obj:∀ (n:Nat) (a:Addr) (o:O),μ[n]?=some a->h[n]?=some o->RepO K μ H a o
theorem HR.fresh {K:Y00}{μ:List Addr}{h:Hh}{H:Hp}(r:HR K μ h H){p:Addr}(hp:H p=none):p∉μ:=λ z=>by
 obtain ⟨n,hn⟩:=Y1r z;have hl:n<h.length:=by rw [<- r.len];exact (Y0e.mp hn).1
 have:=r.obj n p h[n] hn (Y0f hl)
 cases e:h[n] with
 | lst ds=>rw [e] at this;obtain ⟨vs,q,_⟩:=this;rw [hp] at q;cases q
 | dK ds=>rw [e] at this;obtain ⟨vs,q,_⟩:=this;rw [hp] at q;cases q
 | obj x fs=>rw [e] at this;obtain ⟨C,dx,vs,q,_⟩:=this;rw [hp] at q;cases q
theorem zq {K:Y00}{μ:List Addr}{H:Hp}{p:Addr}{u:HO}(hp:H p=none):Ext K μ H μ (upd H p u) :=
 ⟨λ _ _ h=>h,λ a xs h=>by
  rcases h with h | h
  ·left;rcases h with h | ⟨o,h⟩
   ·exact .inl (by rw [zo (λ z=>by rw [z,hp] at h;cases h)];exact h)
   ·exact .inr ⟨o,by rw [zo (λ z=>by rw [z,hp] at h;cases h)];exact h⟩
  ·exact .inr h,λ a xs h=>by
  rcases h with ⟨o,h⟩ | h
  ·exact .inl ⟨o,by rw [zo (λ z=>by rw [z,hp] at h;cases h)];exact h⟩
  ·exact .inr h,λ a o h _=>by rw [zo (λ z=>by rw [z,hp] at h;cases h)];exact h,λ _ h=>.inl h⟩
theorem Ext.add {K:Y00}{μ μ':List Addr}{H H':Hp}{p:Addr}(e:Ext K μ H μ' H')(hp:H p=none):Ext K μ H (μ'++[p]) H' :=
 ⟨λ n a h=>by rw [Y10 (Y0e.mp (e.loc n a h)).1];exact e.loc n a h,e.tup,e.fz,e.oth,
  λ a h=>by
   rcases Y19.mp h with h | h
   ·exact e.new a h
   ·rw [Y0a.mp h];exact .inr hp⟩
theorem RepO.keep {K:Y00}{μ μ':List Addr}{H H':Hp}{a:Addr}{o:O}(e:Ext K μ H μ' H')(k:∀ u,H a=some u->H' a=some u)(r:RepO K μ H a o):RepO K μ' H' a o:=by
 cases o with
 | lst ds=>obtain ⟨vs,q,r⟩:=r;exact ⟨vs,k _ q,r.mono e⟩
 | dK ds=>obtain ⟨vs,q,r⟩:=r;exact ⟨vs,k _ q,r.mono e⟩
 | obj x fs=>obtain ⟨C,dx,vs,q,c,r⟩:=r;exact ⟨C,dx,vs,k _ q,c,r.mono e⟩
theorem Gz {H:Hp}{p a:Addr}{u w:HO}(hp:H p=none)(h:H a=some w):upd H p u a=some w:=by
 rw [zo (λ z=>by rw [z,hp] at h;cases h)];exact h
theorem HR.tup {K:Y00}{μ:List Addr}{h:Hh}{H:Hp}{p:Addr}{u:HO}(r:HR K μ h H)(hp:H p=none):HR K μ h (upd H p u) :=
 ⟨r.len,r.inj,λ n a o e1 e2=>(r.obj n a o e1 e2).keep (zq hp) λ _ q=>Gz hp q⟩
theorem HR.add {K:Y00}{μ:List Addr}{h:Hh}{H:Hp}{p:Addr}{o:O}(r:HR K μ h H)(hp:p∉μ)(q:∀ μ',(∀ (n:Nat) a,μ[n]?=some a->μ'[n]?=some a)->RepO K μ' H p o):HR K (μ++[p]) (h++[o]) H:=by
 have gr:∀ (n:Nat) a,μ[n]?=some a->(μ++[p])[n]?=some a:=λ n a e=>by rw [Y10 (Y0e.mp e).1];exact e
 refine ⟨by rw [Y0h,Y0h,r.len];rfl,λ n m a e1 e2=>?_,λ n a o1 e1 e2=>?_⟩
 ·have key:∀ (n:Nat) (a:Addr),(μ++[p])[n]?=some a->(n<μ.length/\μ[n]?=some a)\/(n=μ.length/\a=p):=λ n a e=>by
   by_cases hn:n<μ.length
   ·rw [Y10 hn] at e;exact .inl ⟨hn,e⟩
   ·right;rw [Y08 (by omega)] at e
    have:n-μ.length=0:=by
     cases q:n-μ.length with
     | zero=>rfl
     | succ z=>rw [q] at e;simp at e
    rw [this] at e;simp at e;exact ⟨by omega,e.symm⟩
  rcases key n a e1 with ⟨hn,q1⟩ | ⟨hn,q1⟩<;>rcases key m a e2 with ⟨hm,q2⟩ | ⟨hm,q2⟩
  ·exact r.inj n m a q1 q2
  ·exact absurd (Y1e q1) (q2▸hp)
  ·exact absurd (Y1e q2) (q1▸hp)
  ·omega
 ·by_cases hn:n<μ.length
  ·rw [Y10 hn] at e1;rw [Y10 (by rw [<- r.len];exact hn)] at e2;exact (r.obj n a o1 e1 e2).mono' gr
  ·rw [Y08 (by omega)] at e1;have hz:n-μ.length=0:=by
    cases z:n-μ.length with
    | zero=>rfl
    | succ y=>rw [z] at e1;simp at e1
   rw [hz] at e1;simp at e1;subst e1;rw [Y08 (by rw [<- r.len];omega),<- r.len,hz] at e2;simp at e2;subst e2;exact q _ gr
theorem HR.alloc {K:Y00}{μ:List Addr}{h:Hh}{H:Hp}{p:Addr}{u:HO}{o:O}(r:HR K μ h H)(hp:H p=none)(hm:p∉μ)(q:∀ μ',(∀ (n:Nat) a,μ[n]?=some a->μ'[n]?=some a)->RepO K μ' (upd H p u) p o):HR K (μ++[p]) (h++[o]) (upd H p u) :=
 (r.tup hp).add hm q
theorem HR.chg {K:Y00}{μ:List Addr}{h:Hh}{H:Hp}{n:Nat}{a:Addr}{o o':O}{u:HO}(r:HR K μ h H)(hn:h[n]?=some o)(ha:μ[n]?=some a)
  (q:∀ H',Ext K μ H μ H'->H' a=some u->RepO K μ H' a o'):HR K μ (h.set n o') (upd H a u)/\Ext K μ H μ (upd H a u):=by
 obtain ⟨w,hw,nt,nf⟩:∃ w,H a=some w/\(∀ xs,w≠.tup xs)/\∀ o x,w≠.frz o x:=by
  have z:=r.obj n a o ha hn;cases o with
  | lst ds=>obtain ⟨vs,e,_⟩:=z;exact ⟨_,e,λ _ y=>(nomatch y),λ _ _ y=>(nomatch y)⟩
  | dK ds=>obtain ⟨vs,e,_⟩:=z;exact ⟨_,e,λ _ y=>(nomatch y),λ _ _ y=>(nomatch y)⟩
  | obj x fs=>obtain ⟨C,dx,vs,e,_⟩:=z;exact ⟨_,e,λ _ y=>(nomatch y),λ _ _ y=>(nomatch y)⟩
 have ht:∀ b xs,SqT K H b xs->SqT K (upd H a u) b xs:=λ b xs z=>by
  rcases z with z | z
  ·left;rcases z with z | ⟨ob,z⟩
   ·exact .inl (by rw [zo (λ y=>by rw [y,hw] at z;exact nt _ (Option.some.inj z))];exact z)
   ·exact .inr ⟨ob,by rw [zo (λ y=>by rw [y,hw] at z;exact nf _ _ (Option.some.inj z))];exact z⟩
  ·exact .inr z
 have hf:∀ b xs,Fz K H b xs->Fz K (upd H a u) b xs:=λ b xs z=>by
  rcases z with ⟨ob,z⟩ | z
  ·exact .inl ⟨ob,by rw [zo (λ y=>by rw [y,hw] at z;exact nf _ _ (Option.some.inj z))];exact z⟩
  ·exact .inr z
 have ex:Ext K μ H μ (upd H a u):=⟨λ _ _ z=>z,ht,hf,λ b v e z=>by rw [zo (λ (y:b=a)=>z (by rw [y];exact Y1e ha))];exact e,λ _ z=>.inl z⟩;have hl:n<h.length:=(Y0e.mp hn).1;refine ⟨⟨by rw [Y0r];exact r.len,r.inj,λ m b v e1 e2=>?_⟩,ex⟩;by_cases hmn:m=n
 ·subst hmn;rw [Y0n hl] at e2;cases e2;rw [ha] at e1;cases e1;exact q _ ex zx
 ·rw [Y1f (Ne.symm hmn)] at e2;have nb:b≠a:=λ y=>hmn (r.inj m n a (y▸e1) ha);exact (r.obj m b v e1 e2).keep ex λ _ g=>by rw [zo nb];exact g
structure ER (K:Y00)(μ:List Addr)(ρ:En)(σ:St)(H:Hp):Prop where
 len:ρ.length=σ.length
 val:∀ (i:Nat) d,ρ[i]?=some (some d)->∃ v,σ[i]?=some (some v)/\Rep K μ H d v
theorem ER.mono {K:Y00}{μ μ':List Addr}{H H':Hp}{ρ:En}{σ:St}(r:ER K μ ρ σ H)(e:Ext K μ H μ' H'):ER K μ' ρ σ H' :=
 ⟨r.len,λ i d h=>let ⟨v,a,b⟩:=r.val i d h;⟨v,a,b.mono e⟩⟩
theorem ER.set {K:Y00}{μ:List Addr}{H:Hp}{ρ:En}{σ:St}{d:D}{v:V}(r:ER K μ ρ σ H)(q:Rep K μ H d v)(i:Nat):ER K μ (ρ.set i (some d)) (σ.set i (some v)) H:=by
 refine ⟨by rw [Y0r,Y0r,r.len],λ j e hj=>?_⟩;by_cases hij:i=j
 ·subst hij;rw [List.getElem?_set] at hj ⊢;have hl:i<ρ.length:=by
   by_cases hl:i<ρ.length
   ·exact hl
   ·rw [if_pos rfl,if_neg hl] at hj;cases hj
  rw [if_pos rfl,if_pos hl] at hj;rw [if_pos rfl,if_pos (by rw [<- r.len];exact hl)];cases hj;exact ⟨v,rfl,q⟩
 ·rw [Y1f hij] at hj ⊢;exact r.val j e hj
def PostE {α β:Type}(K:Y00)(cv:Nat->Value)(R:List Addr->Hp->α->β->Prop)(μ:List Addr)(H:Hp)(r:Res α)(Q:β->Hp->Prop)(Z:Value->Hp->Prop):Prop :=
 match r with
 | .ok d h'=>∀ μ' H' v,Ext K μ H μ' H'->HR K μ' h' H'->R μ' H' d v->Q v H'
 | .exc c h'=>∀ μ' H',Ext K μ H μ' H'->HR K μ' h' H'->Z (cv c) H'
 | .no=>False
def zv {α β:Type}(K:Y00)(cv:Nat->Value)(R:List Addr->Hp->α->β->Prop)(Z:ZK)(m:En->Hh->Res α):St->Hp->(β->Hp->Prop)->Prop :=
 λ σ H Q=>∃ μ ρ h,HR K μ h H/\ER K μ ρ σ H/\PostE K cv R μ H (m ρ h) Q (Z σ)
theorem ze {α β:Type}{K:Y00}{cv:Nat->Value}{R:List Addr->Hp->α->β->Prop}{Z:ZK}{m:En->Hh->Res α}{σ:St}{H:Hp}{Q:β->Hp->Prop}{G:Prop}(f:∀ μ ρ h,HR K μ h H->ER K μ ρ σ H->PostE K cv R μ H (m ρ h) Q (Z σ)->G)(x:zv K cv R Z m σ H Q):G:=by
 obtain ⟨μ,ρ,h,hr,er,q⟩:=x;exact f μ ρ h hr er q
theorem zf {α β γ δ:Type}{K:Y00}{cv:Nat->Value}{R:List Addr->Hp->α->β->Prop}{R':List Addr->Hp->γ->δ->Prop}{μ:List Addr}{ρ:En}{h:Hh}{σ:St}{H:Hp}{Z:ZK}{m:En->Hh->Res α}{f:α->Hh->Res γ}{Q:δ->Hp->Prop}{Q':β->Hp->Prop}
  (hr:HR K μ h H) (er:ER K μ ρ σ H) (p:PostE K cv R' μ H ((m ρ h).bind f) Q (Z σ))
  (go:∀ a h1 μ1 H1 x,m ρ h=.ok a h1->Ext K μ H μ1 H1->HR K μ1 h1 H1->ER K μ1 ρ σ H1->R μ1 H1 a x->PostE K cv R' μ1 H1 (f a h1) Q (Z σ)->Q' x H1) :
  zv K cv R Z m σ H Q':=by
 refine ⟨μ,ρ,h,hr,er,?_⟩;cases e:m ρ h with
 | ok a h1 =>
  rw [e,bind_ok] at p;intro μ1 H1 x e1 r1 q1;refine go a h1 μ1 H1 x e e1 r1 (er.mono e1) q1 ?_;unfold PostE at p ⊢;cases e2:f a h1 with
  | ok b h2=>rw [e2] at p;exact λ μ2 H2 v e3 r3 q3=>p μ2 H2 v (e1.trans e3) r3 q3
  | exc c h2=>rw [e2] at p;exact λ μ2 H2 e3 r3=>p μ2 H2 (e1.trans e3) r3
  | no=>rw [e2] at p;exact p
 | exc c h1=>rw [e,bind_exc] at p;exact p
 | no=>rw [e,bind_no] at p;exact p
theorem PostE.here {α β:Type}{K:Y00}{cv:Nat->Value}{R:List Addr->Hp->α->β->Prop}{μ:List Addr}{H:Hp}{d:α}{h:Hh}{v:β}{Q:β->Hp->Prop}{Z:Value->Hp->Prop}(p:PostE K cv R μ H (.ok d h) Q Z)(hr:HR K μ h H)(r:R μ H d v):Q v H :=
 p μ H v Ext.refl hr r
end PI
namespace PI
open PySem L2 PySem.Spec
open PyProof.Rows hiding St
section
variable {X:Cx}{pins:List (Addr×Obj)}{σ:St}{H:Hp}{s:Shared}{μ:List Addr}{h:Hh}
mutual
theorem jU (I:Inv X pins σ H s):∀ {d:D}{v:V}{u:Value}{p:PyData},Rep X.K μ H d v->RelV v u->D.pd h d=some p->∃ as,Reads s.heap u p as
 | .non,_,_,_,r,q,e=>by cases r;cases q;cases e;exact ⟨_,.none⟩
 | .bl b,_,_,_,r,q,e=>by cases r;cases q;cases e;exact ⟨_,.bool b⟩
 | .int i,_,_,_,r,q,e=>by cases r;obtain ⟨t,rfl⟩:=q;cases e;exact ⟨_,.int i t⟩
 | .str x,_,_,_,r,q,e=>by cases r;obtain ⟨t,rfl⟩:=q;cases e;exact ⟨_,.str x t⟩
 | .tup ds,_,_,_,r,q,e=>by
  cases r with
  | tup hs rs =>
   cases q;unfold D.pd at e;cases e1:D.pds h ds with
   | none=>rw [e1] at e;cases e
   | some ps =>
    rw [e1] at e;cases e;obtain ⟨its,rv,⟨o,g1,g2,n,g3⟩,_⟩:=I.tuple hs;obtain ⟨as,ra⟩:=readsAll_of I rs rv e1;exact ⟨_,.tuple g1 g2 g3 (by simpa using ra)⟩
 | .loc n,_,_,_,r,q,e=>by cases e
 | .fl ds,_,_,_,r,q,e=>by
  cases r with
  | fl hs rs =>
   cases q;unfold D.pd at e;cases e1:D.pds h ds with
   | none=>rw [e1] at e;cases e
   | some ps =>
    rw [e1] at e;cases e;obtain ⟨its,rv,⟨o,n,g1,g2,_,g3⟩,_⟩:=I.list hs.sq;obtain ⟨as,ra⟩:=readsAll_of I rs rv e1;exact ⟨_,.list g1 g2 g3 (by simpa using ra)⟩
theorem readsAll_of (I:Inv X pins σ H s):∀ {ds:List D}{vs:List V}{us:List Value}{ps:List PyData},Reps X.K μ H ds vs->Vals vs us->D.pds h ds=some ps->∃ as,ReadsAll s.heap us ps as
 | [],_,_,_,r,q,e=>by cases r;cases q;cases e;exact ⟨_,.nil⟩
 | d::ds,_,_,_,r,q,e=>by
  cases r with
  | cons r1 r2 =>
   cases q with
   | cons q1 q2 =>
    unfold D.pds at e;cases e1:D.pd h d with
    | none=>rw [e1] at e;cases e
    | some p =>
     cases e2:D.pds h ds with
     | none=>rw [e1,e2] at e;cases e
     | some ps =>
      rw [e1,e2] at e;cases e;obtain ⟨as,ra⟩:=jU I r1 q1 e1;obtain ⟨bs,rb⟩:=readsAll_of I r2 q2 e2;exact ⟨_,.cons ra rb⟩
end
theorem HR.rd (hr:HR X.K μ h H){n:Nat}{ds:List D}(e:rd h n=some ds){a:Addr}(m:μ[n]?=some a):∃ vs,SqL X.K H a vs/\Reps X.K μ H ds vs:=by
 unfold PI.rd at e;cases e1:h[n]? with
 | none=>rw [e1] at e;cases e
 | some o =>
  rw [e1] at e;have q:=hr.obj n a o m e1;cases o with
  | lst xs=>cases e;obtain ⟨vs,q1,q2⟩:=q;exact ⟨vs,SqL.of q1,q2⟩
  | dK xs=>cases e
  | obj _ _=>cases e
theorem qL (I:Inv X pins σ H s)(hr:HR X.K μ h H){d:D}{v:V}{u:Value}{p:PyData}(r:Rep X.K μ H d v)(q:RelV v u)(e:pdT h d=some p):∃ as,Reads s.heap u p as:=by
 cases d with
 | loc n =>
  cases r with
  | loc m =>
   cases q;rw [pdT_loc] at e;cases e1:rd h n with
   | none=>rw [e1] at e;cases e
   | some ds =>
    rw [e1] at e;cases e2:D.pds h ds with
    | none=>rw [show (some ds).bind (λ xs=>(D.pds h xs).map PyData.list)=(D.pds h ds).map PyData.list from rfl,e2] at e;cases e
    | some ps =>
     rw [show (some ds).bind (λ xs=>(D.pds h xs).map PyData.list)=(D.pds h ds).map PyData.list from rfl,e2] at e;cases e;obtain ⟨vs,hs,rs⟩:=hr.rd e1 m;obtain ⟨its,rv,⟨o,n',g1,g2,_,g3⟩,_⟩:=I.list hs;obtain ⟨as,ra⟩:=readsAll_of I rs rv e2;exact ⟨_,.list g1 g2 g3 (by simpa using ra)⟩
 | non=>exact jU (h:=h) I r q e
 | bl b=>exact jU (h:=h) I r q e
 | int i=>exact jU (h:=h) I r q e
 | str x=>exact jU (h:=h) I r q e
 | tup ds=>exact jU (h:=h) I r q e
 | fl ds=>exact jU (h:=h) I r q e
end
theorem yu {n:Nat}(h:n<=1000000):n<=sizeLine:=by rw [sizeLine_eq];omega
theorem Uj {n:Nat}(h:n<1000000):n<sizeLine:=by rw [sizeLine_eq];omega
section
variable {X:Cx}{cv:Nat->Value}
def r2 (K:Y00)(cv:Nat->Value)(f:D->D->Hh->Res D):R2:=λ x y H Q=>∃ μ h a b Z,HR K μ h H/\Rep K μ H a x/\Rep K μ H b y/\PostE K cv (Rep K) μ H (f a b h) Q Z
def r1 (K:Y00)(cv:Nat->Value)(f:D->Hh->Res D):V->Hp->VK->Prop:=λ x H Q=>∃ μ h a Z,HR K μ h H/\Rep K μ H a x/\PostE K cv (Rep K) μ H (f a h) Q Z
theorem Be:OpR X (binaryOp .Mult) (rI (λ i j=>Builtin.Int.intBits i<=2 ^ 20/\Builtin.Int.intBits j<=2 ^ 20) λ i j=>.int (i*j)):=opI λ _ _ _ _ _ _ _ hc q=>mul_int q (IntMulOk.of_bits hc.1 hc.2)
theorem Bf:OpR X (binaryOp .LShift) (rI (λ i j=>Builtin.Int.intBits i<=2 ^ 20/\0<=j/\j<=1000000) λ i j=>.int (i*2 ^ j.toNat)):=opI λ _ _ _ _ _ _ _ hc q=>lshift_int hc.2.1 (by have:=hc.1;have:=hc.2.2;omega) q
theorem z2p {x:Str}{j:Int}(h:0<=j/\j<=1000/\x.length<=1000):MulOk x j:=by
 obtain ⟨h0,h1,h2⟩:=h;refine ⟨by simp;omega,λ a b c=>?_,λ a b=>?_⟩
 ·have hj:1<=j:=by omega
  have:(2 ^ 63-1)/1000<=(2 ^ 63-1:Int)/j:=Int.le_ediv_of_mul_le (by omega) (by
   have:((2 ^ 63-1)/1000:Int)*j<=((2 ^ 63-1)/1000)*1000:=Int.mul_le_mul_of_nonneg_left h1 (by decide)
   have e:(((2 ^ 63-1)/1000:Int)*1000)<=2 ^ 63-1:=by decide
   omega)
  have e:(1000:Int)<(2 ^ 63-1)/1000:=by decide
  omega
 ·have hm:x.length*j.toNat<=1000*1000:=Nat.mul_le_mul h2 (by omega);unfold PySem.Builtin.Str.tooLong;exact decide_eq_false (by rw [sizeLine_eq];omega)
theorem Bg:OpR X (binaryOp .Mult) (λ x y H Q=>∃ z j,x=.str z/\y=.int j/\(0<=j/\j<=1000/\z.length<=1000)/\Q (.str (Txt.mul z j)) H):=by
 intro pins s σ H x y v u Q I rx ry h;obtain ⟨z,j,rfl,rfl,hc,q⟩:=h;obtain ⟨t,rfl⟩:=rx;obtain ⟨t',rfl⟩:=ry;exact SB.mul (z2p hc) λ t' k=>⟨.str _,H,I.tok _,⟨_,rfl⟩,q⟩
theorem Qm (t b:Addr)(xs ys:Array Value)(n m:Nat)(d1 d2:Option Addr)(s1 s2:Array (Option Value))(h0:xs.isEmpty=true) :
  Meets (Builtin.«tuple.__add__» ⟨[.ref t,.ref b],[]⟩) (λ _ R s =>
   s.heap.get? t=some ⟨.type "tuple",d1,.seq xs n,s1⟩ /\
   s.heap.get? b=some ⟨.type "tuple",d2,.seq ys m,s2⟩ /\
   R (.ok (.ret (Value.ref b))) s) :=
 .of_wp λ prog w A R s h=>by
  obtain ⟨hp,g,d,tk,os⟩:=s;obtain ⟨hl,hb,h⟩:=h;have f1:=AutoSeq1.idx_int;have f2:=AutoSeq1.sub_list_tuple;have f3:=AutoSeq1.sub_tuple_list;have f4:=AutoSeq1.sub_tuple_tuple;have f5:=AutoSeq1.sub_list_list
  wp_walk using AutoSeq1.wpAny_loadPart' hl,AutoSeq1.wpAny_loadPart' hb
  exact ⟨_,rfl,h⟩
theorem Bh {A:Around}{E:Value->Shared->Prop}{prog:Program}{w:World}{s:Shared}{t b:Addr}{vs ws:List Value}{Q:Value->Shared->Prop}(ht:IsTup s.heap t vs.toArray)(hb:IsTup s.heap b ws.toArray)(hv:vs=[])(h1:Q (.ref b) s) :
  wpAny (model prog w) A (binaryOp .Add (.ref t) (.ref b)) Q E s:=by
 obtain ⟨⟨cls,dd,data,sl⟩,ho,hc,n,hd⟩:=id ht;obtain ⟨⟨cls2,dd2,data2,sl2⟩,ho2,hc2,n2,hd2⟩:=id hb;simp only at hc hd hc2 hd2;subst hc hd hc2 hd2;exact concat_meets ⟨_,ho,rfl⟩ ⟨_,ho2,rfl⟩ noFill_tuple_add seq_tuple_add Y31 Y2u (Y2t _ _) (Qm t b vs.toArray ws.toArray n n2 dd dd2 sl sl2 (by simp [hv])) ⟨ho,ho2,h1⟩
theorem Reps.rep {K:Y00}{μ:List Addr}{H:Hp}{ds:List D}{vs:List V}(r:Reps K μ H ds vs):∀ k:Nat,Reps K μ H (List.replicate k ds).flatten (List.replicate k vs).flatten
 | 0=>.nil
 | k+1=>by rw [Y1n,Y1n,Y27,Y27];exact r.append (Reps.rep r k)
section
variable {K:Y00}{μ:List Addr}{H:Hp}{Q:VK}{Z:Value->Hp->Prop}
theorem jc {c:Prop}[Decidable c]{r:Res D}{G:Prop}(p:PostE K cv (Rep K) μ H (if c then r else .no) Q Z)(f:c->PostE K cv (Rep K) μ H r Q Z->G):G:=by
 by_cases hc:c
 ·rw [if_pos hc] at p;exact f hc p
 ·rw [if_neg hc] at p;exact p.elim
theorem jd {a b:D}{x y:V}{g:Int->Int->Res D}{G:Prop}(ra:Rep K μ H a x)(rb:Rep K μ H b y)(p:PostE K cv (Rep K) μ H (i2 a b g) Q Z)(f:∀ i j,x=.int i->y=.int j->PostE K cv (Rep K) μ H (g i j) Q Z->G):G:=by
 cases a with
 | int i =>
  cases b with
  | int j=>cases ra;cases rb;exact f i j rfl rfl p
  | _=>exact p.elim
 | _=>exact p.elim
theorem Qn {neg:Bool}{u v:Option PyData}{h:Hh}{G:Prop}(p:PostE K cv (Rep K) μ H (eqR neg u v h) Q Z)(f:∀ pu pv,u=some pu->v=some pv->pu.canLay0=true->pv.canLay0=true->pu.depth<=60->PostE K cv (Rep K) μ H (.ok (.bl (if neg then !PyData.eqv pu pv else PyData.eqv pu pv)) h) Q Z->G):G:=by
 cases u with
 | none=>exact p.elim
 | some pu =>
  cases v with
  | none=>exact p.elim
  | some pv=>exact jc p λ c q=>f pu pv rfl rfl c.1 c.2.1 c.2.2 q
end
theorem Bi:OpR X (binaryOp .Add) (r2 X.K cv z4b):=by
 intro pins s σ H x y v u Q I rx ry hh;obtain ⟨μ,h,a,b,Z,hr,ra,rb,p⟩:=hh;cases a with
 | int i =>
  cases b with
  | int j=>cases ra;cases rb;exact z1s pins s σ H _ _ v u Q I rx ry ⟨_,_,rfl,rfl,p.here hr (.int _)⟩
  | _=>exact p.elim
 | str i =>
  cases b with
  | str j=>cases ra;cases rb;exact jc p λ c p=>QZ pins s σ H _ _ v u Q I rx ry ⟨_,_,rfl,rfl,yu c,p.here hr (.str _)⟩
  | _=>exact p.elim
 | loc n =>
  cases b with
  | loc m =>
   cases ra with
   | loc ma =>
    cases rb with
    | loc mb =>
     have p:PostE X.K cv (Rep X.K) μ H (match h[n]?,h[m]? with
      | some (.lst xs),some (.lst ys)=>if xs.length+ys.length<=1000000 then .ok (.loc h.length) (h++[.lst (xs++ys)]) else .no
      | _,_=>.no) Q Z:=p
     cases e1:h[n]? with
     | none=>rw [e1] at p;exact p.elim
     | some o1 =>
      cases e2:h[m]? with
      | none=>rw [e1,e2] at p;cases o1<;>exact p.elim
      | some o2 =>
       rw [e1,e2] at p;cases o1 with
       | dK k=>exact p.elim
       | obj _ _=>exact p.elim
       | lst xs =>
        cases o2 with
        | dK k=>exact p.elim
        | obj _ _=>exact p.elim
        | lst ys =>
         refine jc p λ c p=>?_;obtain ⟨va,ha,qa⟩:=hr.obj n _ _ ma e1;obtain ⟨vb,hb,qb⟩:=hr.obj m _ _ mb e2;refine z2a pins s σ H _ _ v u Q I rx ry ⟨_,_,_,_,rfl,rfl,ha,hb,by rw [<- qa.length,<- qb.length];exact yu c,λ b hb=>?_⟩;have nb:b∉μ:=hr.fresh hb;refine p _ _ _ ((zq hb).add hb) (hr.alloc hb nb λ μ' g=>⟨_,zx,((qa.append qb).mono (zq hb)).mono' g⟩) (.loc ?_);rw [<- hr.len,Y08 (Y04 _),Y11];rfl
  | _=>exact p.elim
 | tup ds =>
  cases b with
  | tup es =>
   refine jc p λ c p=>?_;cases ra with
   | @tup _ vs a h1 r1 =>
    cases rb with
    | @tup _ ws b h2 r2 =>
     by_cases hv:vs=[]
     ·subst hv;cases r1;cases rx;cases ry;obtain ⟨its,q1,p1,_⟩:=I.tuple h1;obtain ⟨its2,q2,p2,_⟩:=I.tuple h2;cases q1;exact Bh p1 p2 rfl ⟨.ref b,H,I,rfl,p.here hr (.tup h2 r2)⟩
     ·refine OO pins s σ H _ _ v u Q I rx ry ⟨a,b,vs,ws,rfl,rfl,h1,h2,hv,by rw [<- r1.length,<- r2.length];exact yu c,λ hz=>?_,λ _ l hl=>?_⟩
      ·subst hz;cases r2;rw [Y0y] at p;exact p.here hr (.tup h1 r1)
      ·exact p μ _ _ (zq hl) (hr.tup hl) (.tup (SqT.of zx) ((r1.append r2).mono (zq hl)))
  | _=>exact p.elim
 | _=>exact p.elim
theorem Bj:OpR X (binaryOp .Mult) (r2 X.K cv z4c):=by
 intro pins s σ H x y v u Q I rx ry hh;obtain ⟨μ,h,a,b,Z,hr,ra,rb,p⟩:=hh;cases b with
 | int j =>
  cases rb;cases a with
  | int i=>cases ra;exact jc p λ c p=>Be pins s σ H _ _ v u Q I rx ry ⟨_,_,rfl,rfl,⟨of_decide_eq_true c.1,of_decide_eq_true c.2⟩,p.here hr (.int _)⟩
  | str z=>cases ra;exact jc p λ c p=>Bg pins s σ H _ _ v u Q I rx ry ⟨_,_,rfl,rfl,c,p.here hr (.str _)⟩
  | loc n =>
   cases ra with
   | loc ma =>
    have p:PostE X.K cv (Rep X.K) μ H (match h[n]? with
     | some (.lst xs)=>if 0<=j/\j<=1000/\xs.length<=1000 then .ok (.loc h.length) (h++[.lst (List.replicate j.toNat xs).flatten]) else .no
     | _=>.no) Q Z:=p
    cases e1:h[n]? with
    | none=>rw [e1] at p;exact p.elim
    | some o1 =>
     rw [e1] at p;cases o1 with
     | dK k=>exact p.elim
     | obj _ _=>exact p.elim
     | lst xs =>
      refine jc p λ c p=>?_;obtain ⟨va,ha,qa⟩:=hr.obj n _ _ ma e1;refine z2b pins s σ H _ _ v u Q I rx ry ⟨_,_,va,rfl,rfl,ha,by omega,by omega,?_,λ b hb=>?_⟩
      ·have hm:va.length*j.toNat<=1000*1000:=Nat.mul_le_mul (by rw [<- qa.length];exact c.2.2) (by omega);rw [sizeLine_eq];omega
      ·have nb:b∉μ:=hr.fresh hb;refine p _ _ _ ((zq hb).add hb) (hr.alloc hb nb λ μ' g=>⟨_,zx,((qa.rep j.toNat).mono (zq hb)).mono' g⟩) (.loc ?_);rw [<- hr.len,Y08 (Y04 _),Y11];rfl
  | _=>exact p.elim
 | _=>exact p.elim
theorem z2q (op:Operator):OpR X (binaryOp op) (r2 X.K cv (jE op)):=by
 cases op with
 | Add=>exact Bi
 | Mult=>exact Bj
 | Sub =>
  intro pins s σ H x y v u Q I rx ry q0;obtain ⟨μ,h,a,b,Z,hr,ra,rb,p⟩:=q0;exact jd ra rb p λ i j ex ey p=>z1t pins s σ H _ _ v u Q I rx ry ⟨i,j,ex,ey,p.here hr (.int _)⟩
 | FloorDiv =>
  intro pins s σ H x y v u Q I rx ry q0;obtain ⟨μ,h,a,b,Z,hr,ra,rb,p⟩:=q0;exact jd ra rb p λ i j ex ey p=>jc p λ c p=>OH pins s σ H _ _ v u Q I rx ry ⟨i,j,ex,ey,c,p.here hr (.int _)⟩
 | Mod =>
  intro pins s σ H x y v u Q I rx ry q0;obtain ⟨μ,h,a,b,Z,hr,ra,rb,p⟩:=q0;exact jd ra rb p λ i j ex ey p=>jc p λ c p=>z1u pins s σ H _ _ v u Q I rx ry ⟨i,j,ex,ey,c,p.here hr (.int _)⟩
 | Pow =>
  intro pins s σ H x y v u Q I rx ry q0;obtain ⟨μ,h,a,b,Z,hr,ra,rb,p⟩:=q0;exact jd ra rb p λ i j ex ey p=>jc p λ c p=>z1v pins s σ H _ _ v u Q I rx ry ⟨i,j,ex,ey,c,p.here hr (.int _)⟩
 | LShift =>
  intro pins s σ H x y v u Q I rx ry q0;obtain ⟨μ,h,a,b,Z,hr,ra,rb,p⟩:=q0;exact jd ra rb p λ i j ex ey p=>jc p λ c p=>Bf pins s σ H _ _ v u Q I rx ry ⟨i,j,ex,ey,⟨of_decide_eq_true c.1,c.2⟩,p.here hr (.int _)⟩
 | RShift =>
  intro pins s σ H x y v u Q I rx ry q0;obtain ⟨μ,h,a,b,Z,hr,ra,rb,p⟩:=q0;exact jd ra rb p λ i j ex ey p=>jc p λ c p=>z1w pins s σ H _ _ v u Q I rx ry ⟨i,j,ex,ey,c,p.here hr (.int _)⟩
 | BitAnd =>
  intro pins s σ H x y v u Q I rx ry q0;obtain ⟨μ,h,a,b,Z,hr,ra,rb,p⟩:=q0;exact jd ra rb p λ i j ex ey p=>z1x pins s σ H _ _ v u Q I rx ry ⟨i,j,ex,ey,p.here hr (.int _)⟩
 | BitOr =>
  intro pins s σ H x y v u Q I rx ry q0;obtain ⟨μ,h,a,b,Z,hr,ra,rb,p⟩:=q0;exact jd ra rb p λ i j ex ey p=>z3v pins s σ H _ _ v u Q I rx ry ⟨i,j,ex,ey,p.here hr (.int _)⟩
 | _ =>
  intro pins s σ H x y v u Q I rx ry q0;obtain ⟨μ,h,a,b,Z,hr,ra,rb,p⟩:=q0;exact p.elim
theorem Qo {K:Y00}{μ:List Addr}{H:Hp}{d:D}{v:V}(r:Rep K μ H d v)(f:JP d=true):v=vOf d/\jL v=true:=by
 cases r with
 | non=>exact ⟨rfl,rfl⟩
 | bl b=>exact ⟨rfl,rfl⟩
 | int i=>exact ⟨rfl,rfl⟩
 | str x=>exact ⟨rfl,rfl⟩
 | _=>cases f
theorem JQ {K:Y00}{μ:List Addr}{H:Hp}:∀ {ds:List D}{vs:List V},Reps K μ H ds vs->ds.all JP=true->vs=ds.map vOf/\vs.all jL=true
 | _,_,.nil,_=>⟨rfl,rfl⟩
 | _,_,.cons r t,f=>by
  rw [Y2w,Y0p] at f;obtain ⟨rfl,f1⟩:=Qo r f.1;obtain ⟨rfl,f2⟩:=JQ t f.2;exact ⟨rfl,by rw [Y2w,f1,f2];rfl⟩
theorem z6e (x:D)(ds:List D):inV (vOf x) (ds.map vOf)=ds.any λ y=>eqV (vOf y) (vOf x):=by unfold inV;rw [List.any_map];rfl
theorem ZH {K:Y00}{μ:List Addr}{H:Hp}:∀ {ds:List D}{vs:List V},Reps K μ H ds vs->ds.all z0b=true->(∀ v∈vs,jL v=true\/∃ a ts,v=.ref a/\SqT K H a ts)/\ds.any isN=vs.any ZD
 | _,_,.nil,_=>⟨λ v hv=>(nomatch hv),rfl⟩
 | d::ds,v::vs,.cons r t,f=>by
  rw [Y2w,Y0p] at f;obtain ⟨f1,f2⟩:=ZH t f.2;have g:(jL v=true\/∃ a ts,v=.ref a/\SqT K H a ts)/\isN d=ZD v:=by
   have f0:=f.1;cases r with
   | tup h1 h2=>exact ⟨.inr ⟨_,_,rfl,h1⟩,rfl⟩
   | non=>exact ⟨.inl rfl,rfl⟩
   | bl b=>exact ⟨.inl rfl,rfl⟩
   | int i=>exact ⟨.inl rfl,rfl⟩
   | str x=>exact ⟨.inl rfl,rfl⟩
   | _=>exact absurd (show false=true from f0) Y0t
  exact ⟨λ w hw=>by rcases Y06.mp hw with rfl | hw;exact g.1;exact f1 w hw,by rw [Y1l,Y1l,g.2,f2]⟩
theorem Wz {neg:Bool}{pins:List (Addr×Obj)}{s:Shared}{σ:St}{H:Hp}{v u:Value}{Q:VK}{μ:List Addr}{h:Hh}{a:D}{x:V}{Z':Value->Hp->Prop}{ds:List D}{vs:List V}{p':Addr}(op:CmpOp)(hop:OpR X (compareOp op) (rIn X.K neg))(hopN:neg=false->OpR X (compareOp op) (z2j X.K))
  (I:Inv X pins σ H s) (rx:RelV x v) (ry:RelV (.ref p') u) (hr:HR X.K μ h H) (ra:Rep X.K μ H a x) (sq:SqL X.K H p' vs\/SqT X.K H p' vs) (rs:Reps X.K μ H ds vs) (p:PostE X.K cv (Rep X.K) μ H (Ww neg a ds h) Q Z') :
  wpAny (model X.prog X.w) X.A (compareOp op v u) (EP X pins σ Q) X.xe s:=by
 unfold Ww at p;split at p
 ·rename_i c;obtain ⟨rfl,f1⟩:=Qo ra c.1;obtain ⟨rfl,f2⟩:=JQ rs c.2;refine hop pins s σ H _ _ v u Q I rx ry ⟨p',_,rfl,sq,f1,f2,?_⟩;rw [z6e];exact p.here hr (.bl _)
 ·split at p
  ·rename_i c;cases ra<;>first | (exact absurd c.2.1 Y0t) | skip
   obtain ⟨f1,f2⟩:=ZH rs c.2.2;refine hopN c.1 pins s σ H _ _ v u Q I rx ry ⟨p',_,rfl,rfl,sq,f1,?_⟩;rw [<- f2];exact p.here hr (.bl _)
  ·exact p.elim
theorem V9 {K:Y00}{μ:List Addr}{H:Hp}{d:D}{v:V}{k:Key}(r:Rep K μ H d v)(e:qy d=some k):v=kV k:=by
 unfold qy at e;cases r<;>first | (cases e;rfl) | cases e
theorem RepKs.none {K:Y00}{μ:List Addr}{H:Hp}{k:Key}:∀ {ds:List (Key×D)}{vs:List (Key×V)},RepKs K μ H ds vs->(jC ds k).isSome=(yJ vs k).isSome
 | _,_,.nil=>rfl
 | _,_,.cons (k:=k') (d:=d') (v:=v') h r=>by
  have ih:=RepKs.none (k:=k) r;by_cases hk:k'=k
  ·rw [qr (p:=(k',v')) hk];unfold jC;rw [Y32 (by simpa using hk)];rfl
  ·rw [qt (p:=(k',v')) hk,<- ih];unfold jC;rw [Y33 (by simpa using hk)]
theorem GA (hu:X.A.units+1<cLine)(neg:Bool):OpR X (compareOp (if neg then .NotIn else .In)) (r2 X.K cv (inD neg)):=by
 intro pins s σ H x y v u Q I rx ry hh;obtain ⟨μ,h,a,b,Z',hr,ra,rb,p⟩:=hh;have hop:OpR X (compareOp (if neg then .NotIn else .In)) (rIn X.K neg):=by cases neg with | true=>exact Wl | false=>exact UV
 have hopN:neg=false->OpR X (compareOp (if neg then .NotIn else .In)) (z2j X.K):=λ z=>by subst z;exact Ym hu
 unfold inD at p;cases rb with
 | tup h1 h2=>exact Wz _ hop hopN I rx ry hr ra (.inr h1) h2 p
 | fl h1 h2=>exact Wz _ hop hopN I rx ry hr ra (.inl h1.sq) h2 p
 | @loc nn b' m =>
  cases e1:h[nn]? with
  | none=>simp only [e1] at p;exact p.elim
  | some o =>
   have q:=hr.obj nn b' o m e1;cases o with
   | lst ds =>
    simp only [e1] at p;obtain ⟨vs,q1,q2⟩:=q;exact Wz _ hop hopN I rx ry hr ra (.inl (SqL.of q1)) q2 p
   | obj _ _=>simp only [e1] at p;exact p.elim
   | dK kvs =>
    simp only [e1] at p;obtain ⟨vs,q1,q2⟩:=q;cases e2:qy a with
    | none=>simp only [e2] at p;exact p.elim
    | some k =>
     simp only [e2] at p;have ey:=V9 ra e2;subst ey;cases ry;have p':=p.here hr (.bl _);rw [q2.none] at p';cases neg with
     | true=>exact OR hu I (DGet.k q1) rx λ s' I'=>⟨.bl _,H,I',rfl,p'⟩
     | false=>exact z6a hu I (DGet.k q1) rx λ s' I'=>⟨.bl _,H,I',rfl,p'⟩
 | str z =>
  cases ra with
  | str w =>
   cases neg with
   | true=>exact Wm pins s σ H _ _ v u Q I rx ry ⟨w,z,rfl,rfl,p.here hr (.bl _)⟩
   | false=>exact UR pins s σ H _ _ v u Q I rx ry ⟨w,z,rfl,rfl,p.here hr (.bl _)⟩
  | _=>exact p.elim
 | _=>exact p.elim
theorem GB (hu:X.A.units+64<cLine)(op:CmpOp):OpR X (compareOp op) (r2 X.K cv (zU op)):=by
 intro pins s σ H x y v u Q I rx ry hh;obtain ⟨μ,h,a,b,Z,hr,ra,rb,p⟩:=hh;cases op with
 | Lt=>exact jd ra rb p λ i j ex ey p=>z3w pins s σ H _ _ v u Q I rx ry ⟨i,j,ex,ey,p.here hr (.bl _)⟩
 | LtE=>exact jd ra rb p λ i j ex ey p=>z3x pins s σ H _ _ v u Q I rx ry ⟨i,j,ex,ey,p.here hr (.bl _)⟩
 | Gt=>exact jd ra rb p λ i j ex ey p=>z3y pins s σ H _ _ v u Q I rx ry ⟨i,j,ex,ey,p.here hr (.bl _)⟩
 | GtE=>exact jd ra rb p λ i j ex ey p=>z3z pins s σ H _ _ v u Q I rx ry ⟨i,j,ex,ey,p.here hr (.bl _)⟩
 | Eq =>
  refine Qn p λ pu pv e1 e2 c1 c2 c3 p=>?_;obtain ⟨as,q1⟩:=qL I hr ra rx e1;obtain ⟨bs,q2⟩:=qL I hr rb ry e2;exact SeqAt.compareEq_reads q1 q2 c1 c2 (by have:=Nat.min_le_left pu.depth pv.depth;omega) ⟨.bl _,H,I,rfl,p.here hr (.bl _)⟩
 | NotEq =>
  refine Qn p λ pu pv e1 e2 c1 c2 c3 p=>?_;obtain ⟨as,q1⟩:=qL I hr ra rx e1;obtain ⟨bs,q2⟩:=qL I hr rb ry e2;exact SeqAt.compareNe_reads q1 q2 c1 c2 (by have:=Nat.min_le_left pu.depth pv.depth;omega) ⟨.bl _,H,I,rfl,p.here hr (.bl _)⟩
 | In=>exact GA (cv:=cv) (by omega) false pins s σ H _ _ v u Q I rx ry ⟨μ,h,_,_,Z,hr,ra,rb,p⟩
 | NotIn=>exact GA (cv:=cv) (by omega) true pins s σ H _ _ v u Q I rx ry ⟨μ,h,_,_,Z,hr,ra,rb,p⟩
 | Is =>
  cases b with
  | non =>
   cases rb;cases ry;refine wpAny_is_plain (by cases ra<;>first | (cases rx;rfl) | (obtain ⟨t,rfl⟩:=rx;rfl)) (Zn I (p.here hr (.bl _)) ?_);cases ra<;>first | (cases rx;rfl) | (obtain ⟨t,rfl⟩:=rx;rfl)
  | bl y =>
   cases a with
   | bl x =>
    cases ra;cases rb;cases rx;cases ry;exact wpAny_is_plain rfl (Zn I (p.here hr (.bl _)) (by cases x<;>cases y<;>rfl))
   | _=>exact p.elim
  | _=>exact p.elim
 | IsNot =>
  cases b with
  | non =>
   cases rb;cases ry;refine wpAny_isNot_plain (by cases ra<;>first | (cases rx;rfl) | (obtain ⟨t,rfl⟩:=rx;rfl)) (Zn I (p.here hr (.bl _)) ?_);cases ra<;>first | (cases rx;rfl) | (obtain ⟨t,rfl⟩:=rx;rfl)
  | bl y =>
   cases a with
   | bl x =>
    cases ra;cases rb;cases rx;cases ry;exact wpAny_isNot_plain rfl (Zn I (p.here hr (.bl _)) (by cases x<;>cases y<;>rfl))
   | _=>exact p.elim
  | _=>exact p.elim
end
def RB:List Addr->Hp->Bool->Bool->Prop:=λ _ _ b c=>b=c
def spI (K:Y00)(cv:Nat->Value)(np:Nat)(c:List D->Hh->Res D):Sp:=λ vs H Q E =>
 vs.length=np/\∃ μ h ds,HR K μ h H/\Reps K μ H ds vs/\PostE K cv (Rep K) μ H (c ds h) Q (λ C H'=>E C none H')
def WA:List Str:=["len","isinstance","int","bool","str","tuple","list","range","max","min","sum","all","any","zip","reversed","sorted","set","enumerate","dict","abs","ValueError"]
def gOf (sc:Scope)(x:Str):Bool:=decide (sc.names.lookup x=some .globalImplicit)
def Uk (scope osc:Scope):Scope :=
  { scope with names:=scope.names.map λ (n,k)=>if (k==.free&&osc.kind==.function&&osc.names.lookup n==some .cell) then (n,.cell) else (n,k) }
def Tg.idx:Tg->List Nat
 | .one i _=>[i]
 | .tup is _=>is.map (·.1)
def Tg.ok (sc:Scope)(N:List Str)(t:Tg):Bool:=t.idx.all λ i=>decide (i<N.length)&&decide (sc.names.lookup (N.getD i "")=some .local\/sc.names.lookup (N.getD i "")=some .cell)
def Tg.okS (N:List Str)(t:Tg):Bool:=t.idx.all λ i=>decide (i<N.length)
def ZI (x:Str):Bool:=!(x==("__debug__":Str))&&!(x==("__classdict__":Str))
def Tg.forI (t:Tg):I->Bool
 | .zip _ _ _ _=>true
 | _=>true
mutual
def E.ok (sc:Scope)(n:Nm):E->Bool
 | .non _ | .bl _ _ | .int _ _ | .str _ _=>true
 | .var i _=>decide (i<n.N.length)
 | .bin _ a b _=>a.ok sc n&&b.ok sc n
 | .un op a _=>a.ok sc n&&(match op with | .Not=>a.okT | _=>true)
 | .cmp op a b _=>a.ok sc n&&b.ok sc n&&!behindInMarks op (b.py n)
 | .and a b r _=>a.ok sc n&&b.ok sc n&&r.ok sc n&&a.okT&&b.okT&&r.okT
 | .or a b r _=>a.ok sc n&&b.ok sc n&&r.ok sc n&&a.okT&&b.okT&&r.okT
 | .ite c a b _=>c.ok sc n&&a.ok sc n&&b.ok sc n&&c.okT
 | .call f a r _ _=>decide (f<n.F.length)&&!(n.G.any λ q=>decide (q.2=Cn.cls f))&&gOf sc (n.F.getD f "")&&a.ok sc n&&r.ok sc n
 | .len a _ _=>gOf sc "len"&&a.ok sc n
 | .isi T a _ _ _=>gOf sc "isinstance"&&gOf sc (yh T)&&decide (T<5)&&a.ok sc n
 | .isC x ys a _ _ _=>gOf sc "isinstance"&&gOf sc x&&decide ((x,Cn.isc x ys)∈n.G)&&a.ok sc n
 | .sub a i _=>a.ok sc n&&i.ok sc n
 | .tup es _=>es.ok sc n
 | .ofL l=>l.ok sc n
 | .tupE e _ _=>gOf sc "tuple"&&e.ok sc n
 | .listE e _ _=>gOf sc "list"&&e.ok sc n
 | .dicP e _ _=>gOf sc "dict"&&e.ok sc n
 | .dispD ks vs _=>vs.ok sc n&&decide (ks.length=(vs.py n).length)&&decide (ks.length<=15)&&decide (0<ks.length)
 | .cut a lo hi _ _=>a.ok sc n&&lo.ok sc n&&hi.ok sc n
 | .dic _=>true
 | .m0 _ o p1 p=>o.ok sc n&&decide (p1.endLine=p.line)
 | .m1 _ o a p1 p=>o.ok sc n&&a.ok sc n&&decide (p1.endLine=p.line)
 | .c1 f a _ _=>gOf sc f.name&&a.ok sc n
 | .cmpN _ a _ _=>a.ok sc n
 | .listR e _ _ _ _=>gOf sc "list"&&gOf sc "reversed"&&e.ok sc n
 | .listZ a b _ _ _ _=>gOf sc "list"&&gOf sc "zip"&&a.ok sc n&&b.ok sc n
 | .gcon x c _=>gOf sc x&&decide ((x,c)∈n.G)
 | .gsub x kvs i _ _=>gOf sc x&&decide ((x,Cn.dic kvs)∈n.G)&&i.ok sc n
 | .fld a f _=>a.ok sc n&&decide (f∈j0)
 | .callG x kvs key a r _ _ _=>gOf sc x&&decide ((x,Cn.dic kvs)∈n.G)&&key.ok sc n&&a.ok sc n&&r.ok sc n&&kvs.all (λ q=>match q.2 with | .fn i y=>decide (n.F[i]?=some y)&&!(n.G.any λ q=>decide (q.2=Cn.cls i)) | _=>true)
 | .mk i x a r _ _=>gOf sc x&&decide ((x,Cn.cls i)∈n.G)&&a.ok sc n&&r.ok sc n
def Eo.ok (sc:Scope)(n:Nm):Eo->Bool
 | .none=>true
 | .some e=>e.ok sc n
def L.ok (sc:Scope)(n:Nm):L->Bool
 | .disp es _=>es.ok sc n
 | .comp elt t it c NC cap csc _=>(it.ok sc n&&t.forI it)&&ji sc csc n.N NC cap&&decide NC.Nodup&&NC.all ZI&&t.ok csc NC&&elt.ok (Uk csc sc) ⟨NC,n.F,n.G⟩&&c.ok (Uk csc sc) ⟨NC,n.F,n.G⟩&&c.okT&&c.short
def I.ok (sc:Scope)(n:Nm):I->Bool
 | .seq e=>e.ok sc n
 | .lst l=>l.ok sc n
 | .rng a _ _=>gOf sc "range"&&a.ok sc n
 | .rev e _ _=>gOf sc "reversed"&&e.ok sc n
 | .zip a b _ _=>gOf sc "zip"&&a.ok sc n&&b.ok sc n
def Es.ok (sc:Scope)(n:Nm):Es->Bool
 | .nil=>true
 | .cons e r=>e.ok sc n&&r.ok sc n
def E.okT:E->Bool
 | .non _ | .bl _ _ | .int _ _ | .str _ _=>false
 | .ite _ _ _ _=>false
 | .ofL _=>false
 | .dic _=>false
 | .dispD _ _ _=>false
 | .gcon _ _ _=>false
 | .un op a _=>match op with | .Not=>a.okT | _=>true
 | _=>true
def Es.okT:Es->Bool
 | .nil=>true
 | .cons e r=>e.okT&&r.okT
def Es.short:Es->Bool
 | .nil=>true
 | .cons _ .nil=>true
 | .cons _ (.cons _ _)=>false
end
def TupK (K:Y00)(a:Addr)(xs:List Str):Prop:=∃ (o:Obj) (its:Array Value) (n:Nat),K.lookup a=some o/\o.cls=.type "tuple"/\o.data=.seq its n/\its.size<=sizeLine/\Vals (xs.map V.str) its.toList
def CvOk (K:Y00)(v:Value):Cv->Prop
 | .tup xs=>∃ a,v=.ref a/\TupK K a xs
 | .int i=>∃ t,v=.int i t
 | .fn _ x=>∃ f,v=.ref f/\PySem.W.nsIn K mainGlobals x=some (some (.ref f))
 | .oth=>∃ f,v=.ref f
def DicV (K:Y00):List (Str×Cv)->List (Key×Value)->Prop
 | [],[]=>True
 | kx::r,qv::s=>qv.1=.inr kx.1/\CvOk K qv.2 kx.2/\DicV K r s
 | _,_=>False
structure IsK (K:Y00)(C:Addr):Prop where
 ha:PySem.W.findIn K (.ref C) "__class__"=some (some (.builtin "object.__class__"))
 hn:PySem.W.specialIn K (.builtin "object.__class__") "__get__"=some (some (.builtin "getset_descriptor.__get__"))
 ht:PySem.W.takesIn K (.builtin "object.__class__")=some true
 hm:PySem.W.mroIn K C (.type "object")=some true
def Bk (P:Program)(w:World)(K:Y00)(v:Value):Cn->Prop
 | .int i=>∃ t,v=.int i t
 | .str x=>∃ t,v=.str x t
 | .tup xs=>∃ a,v=.ref a/\TupK K a xs
 | .cls _=>∃ a,v=.ref a
 | .isc x ys=>∃ D,v=.ref D/\∀ y∈ys,∃ C,PySem.W.nsIn K mainGlobals y=some (some (.ref C))/\IsK K C/\PySem.W.kitOne K (.ref C) (.ref D)=some (decide (y=x))
 | .exc _ _=>∃ a bmB newId initId B,v=.ref a/\PySem.W.excIn K a bmB newId=true/\ExcBaseFacts B newId initId bmB/\bmB.contains (.type "BaseException")=true
 | .dic kvs=>∃ a o es ep vs,v=.ref a/\K.lookup a=some o/\o.ExactDict/\o.data=.dict es ep/\KeysOf (zB P w) es/\Pairs (zB P w) es.toList vs/\(vs.map (·.1)).Nodup/\DicV K kvs vs
structure TstK (K:Y00)(G:List (Str×Cn))(cv:Nat->Value)(C:Addr)(u:List Nat):Prop where
 ec:ExC K C
 ve:PySem.W.kitOne K (.ref C) (.type "ValueError")=some true
 ot:∀ y d w,(y,Cn.exc d w)∈G->PySem.W.kitOne K (.ref C) (cv d)=some (u.contains d)
structure Kx (X:Cx)(Z:ZK)(k:Nat)(n:Nm)(cv:Nat->Value)(cl:Nat->List D->Hh->Res D):Prop where
 th:Thr X Z
 rm:Room (2*k+1) X.A
 nN:X.N=n.N
 nd:X.N.Nodup
 cm:X.calm=true
 kd:X.env.scope.kind=.function
 nm:∀ x∈n.N,Vis X.env.scope x/\ZI x=true
 bm:∀ x,x∈WA->X.mg x=none
 gc:∀ x c,(x,c)∈n.G->(x==("__debug__":Str))=false/\∃ v,X.mg x=some v/\Bk X.prog X.w X.K v c
 fn:∀ i x,n.F[i]?=some x->(n.G.any λ q=>decide (q.2=Cn.cls i))=false->(x==("__debug__":Str))=false/\∃ f fd ps,X.mg x=some (.ref f)/\PySem.W.nsIn X.K mainGlobals x=some (some (.ref f))/\PySem.W.keepIn X.K (.ref f)=true/\Binds X.K fd ps []/\(∀ ds h,cl i ds h≠.no->ds.length=ps.length) /\
  FnOk X.prog X.w X.K X.mg X.base (CXs X.prog X.w) (2*k) f fd ps (spI X.K cv ps.length (cl i))
 mc:∀ x i,(x,Cn.cls i)∈n.G->(x==("__debug__":Str))=false/\∃ C f fd ps,X.mg x=some (.ref C)/\Mk X.K C f/\ClsN X.K x C/\Binds X.K fd ps []/\(∀ ds h,cl i ds h≠.no->ds.length=ps.length) /\
  FnOk X.prog X.w X.K X.mg X.base (CXs X.prog X.w) (2*k) f fd ps (spI X.K cv ps.length (cl i))
 xc:∀ x c u,(x,Cn.exc c u)∈n.G->X.mg x=some (cv c)/\(∀ D∈u,∃ a d,cv c=.ref a/\cv D=.ref d/\z0a X.K a d)/\∃ a,cv c=.ref a/\TstK X.K n.G cv a u
theorem Kx.gl {X:Cx}{Z:ZK}{k:Nat}{n:Nm}{cv:Nat->Value}{cl:Nat->List D->Hh->Res D}(C:Kx X Z k n cv cl){x:Str}(h:gOf X.env.scope x=true):Gl X x:=show X.env.scope.names.lookup x=some .globalImplicit from of_decide_eq_true h
theorem GC {x:Str}(h:ZI x=true):(x==("__debug__":Str))=false/\(x==("__classdict__":Str))=false:=by unfold ZI at h;simpa using h
theorem jR {α:Type}(r:Res α):(r.bind λ a h=>.ok a h)=r:=by cases r<;>rfl
theorem zp {α β γ:Type}(r:Res α)(f:α->Hh->Res β)(q:β->Hh->Res γ):(r.bind f).bind q=r.bind λ a h=>(f a h).bind q:=by cases r<;>rfl
theorem PE.mono {X:Cx}{e:Expr}{t t':TE}(p:PE X e t)(h:∀ σ H Q,t' σ H Q->t σ H Q):PE X e t':=λ pins s σ H Q I q=>p pins s σ H Q I (h σ H Q q)
theorem PT.mono {X:Cx}{e:Expr}{t t':TT}(p:PT X e t)(h:∀ σ H Q,t' σ H Q->t σ H Q):PT X e t':=λ pins s σ H Q I q=>p pins s σ H Q I (h σ H Q q)
theorem PW.mono {X:Cx}{e:Expr}{t t':TT}(p:PW X e t)(h:∀ σ H Q,t' σ H Q->t σ H Q):PW X e t':=λ wh pins s σ H Q I q=>p wh pins s σ H Q I (h σ H Q q)
theorem PA.mono {X:Cx}{e:List Expr}{t t':TA}(p:PA X e t)(h:∀ σ H Q,t' σ H Q->t σ H Q):PA X e t':=λ ps pins s σ H Q I q=>p ps pins s σ H Q I (h σ H Q q)
def toB (d:D)(h:Hh):Res Bool:=match d with | .bl b=>.ok b h | _=>.no
theorem wP (cl:Nat->List D->Hh->Res D)(e:E)(ρ:En)(h:Hh):e.evT cl ρ h=(e.ev cl ρ h).bind toB:=rfl
section
variable {X:Cx}{Z:ZK}{k:Nat}{n:Nm}{cv:Nat->Value}{cl:Nat->List D->Hh->Res D}
theorem L.py_star (l:L)(r:List Expr)(env:Env):starEach (l.py n::r) env=(false,eval (l.py n) env)::starEach r env:=by cases l<;>rfl
theorem zh (e:E)(r:List Expr)(env:Env):starEach (e.py n::r) env=(false,eval (e.py n) env)::starEach r env:=by
 cases e with
 | ofL l=>exact L.py_star l r env
 | _=>rfl
theorem wQ:∀ (r:Es) (pos:Pos) (env:Env),(backTo pos (starEach (r.py n) env)).any (·.1)=false
 | .nil,_,_=>rfl
 | .cons e r,pos,env=>by
  show (backTo pos (starEach (e.py n::r.py n) env)).any (·.1)=false;rw [zh];exact wQ r pos env
theorem ZJ (e:E):U8 (e.py n):=by
 intro o i;cases e with
 | ofL l=>cases l<;>rfl
 | _=>rfl
theorem ZM {α:Type}{k:Str}{v:α}:∀ {l:List (Str×α)},l.lookup k=some v->(k,v)∈l
 | [],h=>by cases h
 | (x,y)::r,h=>by
  rw [List.lookup] at h;cases c:k==x with
  | true=>rw [c] at h;cases h;rw [eq_of_beq c];exact Y03 ..
  | false=>rw [c] at h;exact Y02 _ (ZM h)
theorem Ys (e:E)(f:Str)(env:Env)(w:Sem Value):attributeBase (e.py n) f env w=w:=by
 cases e with
 | ofL l=>cases l<;>rfl
 | _=>rfl
theorem zC {e:Expr}{m:En->Hh->Res D}(p:PE X e (zv X.K cv (Rep X.K) Z m))(he:∀ whole,isTrue e X.env whole=(do let v <- whole;standAt e.pos;holding [v] (truthy v))) :
  PT X e (zv X.K cv RB Z λ ρ h=>(m ρ h).bind toB):=by
 refine PT.mono (z1e p he) λ σ H Q=>ze λ μ ρ h hr er q=>?_;refine zf (m:=m) hr er q λ a h1 μ1 H1 x _ e1 r1 er1 qa p1=>?_;unfold toB at p1;cases qa with
 | bl b=>exact ⟨b,rfl,p1.here r1 rfl⟩
 | _=>exact p1.elim
def Es.evAndT (cl:Nat->List D->Hh->Res D):Es->En->Bool->Hh->Res Bool
 | .nil,_,c,h=>.ok c h
 | .cons e r,ρ,c,h=>if c then (e.evT cl ρ h).bind λ c' h2=>r.evAndT cl ρ c' h2 else .ok false h
def Es.evOrT (cl:Nat->List D->Hh->Res D):Es->En->Bool->Hh->Res Bool
 | .nil,_,c,h=>.ok c h
 | .cons e r,ρ,c,h=>if c then .ok true h else (e.evT cl ρ h).bind λ c' h2=>r.evOrT cl ρ c' h2
theorem Ul:∀ (r:Es) (ρ:En) (d:D) (h:Hh),(r.evAnd cl ρ d h).bind toB=(toB d h).bind λ c h1=>r.evAndT cl ρ c h1
 | .nil,ρ,d,h=>(jR (r:=toB d h)).symm
 | .cons e r,ρ,d,h=>by
  cases d with
  | bl b =>
   cases b with
   | false=>rfl
   | true =>
    show (((e.ev cl ρ h).bind λ y h2=>r.evAnd cl ρ y h2).bind toB)=((e.ev cl ρ h).bind toB).bind λ c' h2=>r.evAndT cl ρ c' h2;rw [zp,zp]
    congr 1
    funext y h2
    exact Ul r ρ y h2
  | _=>rfl
theorem GD:∀ (r:Es) (ρ:En) (d:D) (h:Hh),(r.evOr cl ρ d h).bind toB=(toB d h).bind λ c h1=>r.evOrT cl ρ c h1
 | .nil,ρ,d,h=>(jR (r:=toB d h)).symm
 | .cons e r,ρ,d,h=>by
  cases d with
  | bl b =>
   cases b with
   | true=>rfl
   | false =>
    show (((e.ev cl ρ h).bind λ y h2=>r.evOr cl ρ y h2).bind toB)=((e.ev cl ρ h).bind toB).bind λ c' h2=>r.evOrT cl ρ c' h2;rw [zp,zp]
    congr 1
    funext y h2
    exact GD r ρ y h2
  | _=>rfl
end
section
variable {X:Cx}{Z:ZK}{k:Nat}{n:Nm}{cv:Nat->Value}{cl:Nat->List D->Hh->Res D}
structure SE (X:Cx)(Z:ZK)(n:Nm)(cv:Nat->Value)(cl:Nat->List D->Hh->Res D)(e:E):Prop where
 pe:PE X (e.py n) (zv X.K cv (Rep X.K) Z (e.ev cl))
 pt:e.okT=true->PT X (e.py n) (zv X.K cv RB Z (e.evT cl))
def Jp (X:Cx)(Z:ZK)(n:Nm)(cv:Nat->Value)(cl:Nat->List D->Hh->Res D)(r:Es):Prop:=∀ (ks:List (Str×Pos)) (pos:Pos),ks.length=(r.py n).length ->
 ∃ trs,PPs X pos (ks.map λ q=>some (.Constant (.str q.1) 0 q.2)) (r.py n) trs/\∀ σ H (Q:List (V×V)->Hp->Prop),zv X.K cv (Reps X.K) Z (r.ev cl) σ H (λ us H'=>Q ((ks.map λ q=>V.str q.1).zip us) H')->Wp trs σ H Q
structure SEs (X:Cx)(Z:ZK)(n:Nm)(cv:Nat->Value)(cl:Nat->List D->Hh->Res D)(r:Es):Prop where
 pa:PA X (r.py n) (zv X.K cv (Reps X.K) Z (r.ev cl))
 an:∀ (b:E) (p:Pos),SE X Z n cv cl b->PE X (.BoolOp .And (b.py n::r.py n) p) (zv X.K cv (Rep X.K) Z λ ρ h=>(b.ev cl ρ h).bind λ y h2=>r.evAnd cl ρ y h2)
 anT:∀ (b:E) (p:Pos),SE X Z n cv cl b->b.okT=true->r.okT=true->PW X (.BoolOp .And (b.py n::r.py n) p) (zv X.K cv RB Z λ ρ h=>(b.evT cl ρ h).bind λ c h2=>r.evAndT cl ρ c h2)
 orr:∀ (b:E) (p:Pos),SE X Z n cv cl b->PE X (.BoolOp .Or (b.py n::r.py n) p) (zv X.K cv (Rep X.K) Z λ ρ h=>(b.ev cl ρ h).bind λ y h2=>r.evOr cl ρ y h2)
 orT:∀ (b:E) (p:Pos),SE X Z n cv cl b->b.okT=true->r.okT=true->PW X (.BoolOp .Or (b.py n::r.py n) p) (zv X.K cv RB Z λ ρ h=>(b.evT cl ρ h).bind λ c h2=>r.evOrT cl ρ c h2)
 ps:Jp X Z n cv cl r
theorem WB {v:V}{d:D}{Q:VK}{σ:St}{H:Hp}(hv:∀ K μ H,Rep K μ H d v)(p:zv X.K cv (Rep X.K) Z (λ _ h=>.ok d h) σ H Q):tC v σ H Q:=by
 obtain ⟨μ,ρ,h,hr,er,q⟩:=p;exact q.here hr (hv _ _ _)
theorem GE {f:D->D->Hh->Res D}{a b:E}{σ:St}{H:Hp}{Q:VK}(p:zv X.K cv (Rep X.K) Z (λ ρ h=>(a.ev cl ρ h).bind λ x h1=>(b.ev cl ρ h1).bind λ y h2=>f x y h2) σ H Q) :
  tOp (r2 X.K cv f) (zv X.K cv (Rep X.K) Z (a.ev cl)) (zv X.K cv (Rep X.K) Z (b.ev cl)) σ H Q:=by
 obtain ⟨μ,ρ,h,hr,er,q⟩:=p;refine zf (m:=a.ev cl) hr er q λ da h1 μ1 H1 x _ e1 r1 er1 qa p1=>?_;refine zf (m:=b.ev cl) r1 er1 p1 λ db h2 μ2 H2 y _ e2 r2 er2 qb p2=>?_;exact ⟨μ2,h2,da,db,_,r2,qa.mono e2,qb,p2⟩
theorem z0c {f:D->Hh->Res D}{a:E}{σ:St}{H:Hp}{Q:VK}(p:zv X.K cv (Rep X.K) Z (λ ρ h=>(a.ev cl ρ h).bind λ x h1=>f x h1) σ H Q) :
  tUn (r1 X.K cv f) (zv X.K cv (Rep X.K) Z (a.ev cl)) σ H Q:=by
 obtain ⟨μ,ρ,h,hr,er,q⟩:=p;refine zf (m:=a.ev cl) hr er q λ da h1 μ1 H1 x _ e1 r1 er1 qa p1=>?_;exact ⟨μ1,h1,da,_,r1,qa,p1⟩
theorem z0d (op:UnaryOp)(h:op=.Invert\/op=.USub):UnR X (unaryOp op) (r1 X.K cv (unD op)):=by
 intro pins s σ H x v Q I rx hh;obtain ⟨μ,h',a,Z',hr,ra,p⟩:=hh;rcases h with rfl | rfl
 ·unfold unD at p;cases ra with
  | int i=>exact z1z pins s σ H _ v Q I rx ⟨i,rfl,p.here hr (.int _)⟩
  | _=>exact p.elim
 ·unfold unD at p;cases ra with
  | int i=>exact z1y pins s σ H _ v Q I rx ⟨i,rfl,p.here hr (.int _)⟩
  | _=>exact p.elim
theorem Bm (hu:X.A.units+1<cLine):IxR X (λ x y H Q=>∃ a v,x=.ref a/\DGet H a y (some v)/\Q v H):=by
 intro value slice pins s σ H x y v u Q I rx ry h hs;obtain ⟨a,w,rfl,g,q⟩:=h;cases rx;have ty:s.TypeIs (.ref a) "dict":=by
  rcases g with ⟨kvs,k,e,ey,l⟩ | ⟨kvs,k,b,e,ey,eb,l⟩
  ·obtain ⟨_,_,vs,_,o,es,ep,e1,ex,_⟩:=e.ok I.hok;exact ⟨o,e1,ex.1⟩
  ·obtain ⟨_,_,xs,_,o,es,ep,e1,ex,_⟩:=e.ok I.hok;exact ⟨o,e1,ex.1⟩
 exact tail_any ty slot_dict_getitem.lookup (UX hu I g ry λ w' s' I' r'=>⟨w,H,I',r',q⟩) hs
theorem RepKs.val {K:Y00}{μ:List Addr}{H:Hp}{k:Key}{d:D}:∀ {ds:List (Key×D)}{vs:List (Key×V)},RepKs K μ H ds vs->jC ds k=some d->∃ v,yJ vs k=some v/\Rep K μ H d v
 | _,_,.nil,e=>by unfold jC at e;simp at e
 | _,_,.cons (k:=k') (d:=d') (v:=v') h r,e=>by
  by_cases hk:k'=k
  ·rw [qr (p:=(k',v')) hk];unfold jC at e;rw [Y32 (by simpa using hk)] at e;cases e;exact ⟨_,rfl,h⟩
  ·rw [qt (p:=(k',v')) hk];unfold jC at e;rw [Y33 (by simpa using hk)] at e;exact RepKs.val r e
theorem ZN {K:Y00}{μ:List Addr}{H:Hp}{d:D}{v:V}{k:Key}(r:Rep K μ H d v)(e:qy d=some k):v=kV k:=by
 unfold qy at e;cases r<;>first | (cases e;rfl) | cases e
theorem DicV.at {K:Y00}{k:Str}{c:Cv}:∀ {kvs:List (Str×Cv)}{vs:List (Key×Value)},DicV K kvs vs->kvs.lookup k=some c->∃ v,valueAt vs (Sum.inr k:Key)=some v/\CvOk K v c
 | [],[],_,e=>by cases e
 | [],_::_,h,_=>h.elim
 | _::_,[],h,_=>h.elim
 | (k',ys)::r,(q,v)::s,⟨h1,h2,h4⟩,e=>by
  rw [Y2b] at e;by_cases hk:k=k'
  ·subst hk;simp only [beq_self_eq_true] at e;cases e;refine ⟨v,?_,h2⟩;unfold valueAt;rw [Y32 (by simpa using h1)];rfl
  ·have hb:(k==k')=false:=by simpa using hk
   rw [hb] at e;obtain ⟨b,e1,e2⟩:=DicV.at h4 e;refine ⟨b,?_,e2⟩;unfold valueAt at e1 ⊢;rw [Y33 (by
    have h1':q=Sum.inr k':=h1;simp only [decide_eq_true_eq];intro z;rw [h1'] at z;exact hk (Sum.inr.inj z).symm)]
   exact e1
def CvV (K:Y00)(u:V):Cv->Prop
 | .tup xs=>∃ a,u=.ref a/\TupK K a xs
 | .int i=>u=.int i
 | .fn _ x=>∃ f,u=.ref f/\PySem.W.nsIn K mainGlobals x=some (some (.ref f))
 | .oth=>∃ f,u=.ref f
theorem CvOk.v {K:Y00}{v:Value}{c:Cv}(h:CvOk K v c):∃ u,RelV u v/\CvV K u c:=by
 cases c with
 | tup xs=>obtain ⟨a,rfl,t⟩:=h;exact ⟨.ref a,rfl,a,rfl,t⟩
 | int i=>obtain ⟨t,rfl⟩:=h;exact ⟨.int i,⟨t,rfl⟩,rfl⟩
 | fn i x=>obtain ⟨f,rfl,t⟩:=h;exact ⟨.ref f,rfl,f,rfl,t⟩
 | oth=>obtain ⟨f,rfl⟩:=h;exact ⟨.ref f,rfl,f,rfl⟩
theorem GF {kvs:List (Str×Cv)}:IxR X (λ x y H Q=>∃ a k c,x=.ref a/\y=.str k/\Bk X.prog X.w X.K (.ref a) (.dic kvs)/\kvs.lookup k=some c/\∀ u,CvV X.K u c->Q u H):=by
 intro value slice pins s σ H x y v u Q I rx ry h hs;obtain ⟨a,k,xs,rfl,rfl,ok,l,q⟩:=h;cases rx;obtain ⟨a',o,es,ep,vs,ea,e1,ex,ed,ks,ps,nd,dv⟩:=ok;cases ea;obtain ⟨b,e2,tk⟩:=dv.at l;obtain ⟨bu,tr,tk⟩:=tk.v;have eh:=I.kIn a o e1;have dd:s.heap.DictOf (zB X.prog X.w) a vs:=⟨o,es,ep,eh,ex,ed,ks,ps,nd⟩;exact tail_any ⟨o,eh,ex.1⟩ slot_dict_getitem.lookup (wpAny_getItem_of (yq (k:=.inr k) ry) dd.mapOf e2 ⟨bu,H,I.tok _,tr,q bu tk⟩) hs
theorem TupK.rep {K:Y00}{μ:List Addr}{H:Hp}{a:Addr}{xs:List Str}(h:TupK K a xs):Rep K μ H (.tup (xs.map .str)) (.ref a):=by
 have rs:∀ ys:List Str,Reps K μ H (ys.map D.str) (ys.map V.str):=λ ys=>by
  induction ys with
  | nil=>exact .nil
  | cons y r ih=>exact .cons (.str y) ih
 exact .tup (.inr h) (rs xs)
theorem CvV.rep {K:Y00}{μ:List Addr}{H:Hp}{u:V}{c:Cv}(h:CvV K u c)(nf:c.isFn=false):Rep K μ H c.d u:=by
 cases c with
 | tup xs=>obtain ⟨a,rfl,t⟩:=h;exact t.rep
 | int i=>cases h;exact .int i
 | fn i x=>cases nf
 | oth=>cases nf
theorem Bn (hu:X.A.units+1<cLine):IxR X (r2 X.K cv zX):=by
 intro value slice pins s σ H x y v u Q I rx ry hh hs;obtain ⟨μ,h,a,b,Z',hr,ra,rb,p⟩:=hh;cases ra with
 | tup h1 h2 =>
  cases rb with
  | int k =>
   rw [sub_tup] at p;split at p
   ·rename_i d e;obtain ⟨w,e1,e2⟩:=h2.atI e;exact z26 value slice pins s σ H _ _ v u Q I rx ry ⟨_,_,_,w,rfl,rfl,h1,e1,p.here hr e2⟩ hs
   ·exact p.elim
  | _=>exact p.elim
 | fl h1 h2 =>
  cases rb with
  | int k =>
   rw [sub_fl] at p;split at p
   ·rename_i d e;obtain ⟨w,e1,e2⟩:=h2.atI e;exact U9 value slice pins s σ H _ _ v u Q I rx ry ⟨_,_,_,w,rfl,rfl,h1.sq,e1,p.here hr e2⟩ hs
   ·exact p.elim
  | _=>exact p.elim
 | str z =>
  cases rb with
  | int k =>
   rw [Wy] at p;split at p
   ·rename_i c;split at p
    ·rename_i d e;exact z27 value slice pins s σ H _ _ v u Q I rx ry ⟨_,_,_,rfl,rfl,yu c,e,p.here hr (.str _)⟩ hs
    ·exact p.elim
   ·exact p.elim
  | _=>exact p.elim
 | @loc nn a m =>
  rw [Bd] at p;cases e1:h[nn]? with
  | none=>rw [e1] at p;exact p.elim
  | some o =>
   rw [e1] at p;have q:=hr.obj nn a o m e1;cases o with
   | lst xs =>
    obtain ⟨vs,q1,q2⟩:=q;cases rb with
    | int k =>
     cases e2:atI xs k with
     | none=>simp only [e2] at p;exact p.elim
     | some d =>
      simp only [e2] at p;obtain ⟨w,e3,e4⟩:=q2.atI e2;exact U9 value slice pins s σ H _ _ v u Q I rx ry ⟨_,_,_,w,rfl,rfl,SqL.of q1,e3,p.here hr e4⟩ hs
    | _=>exact p.elim
   | obj _ _=>exact p.elim
   | dK kvs =>
    obtain ⟨vs,q1,q2⟩:=q;cases e2:qy b with
    | none=>simp only [e2,Option.bind_none] at p;exact p.elim
    | some k =>
     simp only [e2,Y3k] at p;cases e3:jC kvs k with
     | none=>simp only [e3] at p;exact p.elim
     | some d =>
      simp only [e3] at p;obtain ⟨w,e4,e5⟩:=q2.val e3;have ey:=ZN rb e2;subst ey;exact Bm hu value slice pins s σ H _ _ v u Q I rx ry ⟨_,w,rfl,e4▸DGet.k q1,p.here hr e5⟩ hs
 | _=>exact p.elim
def z6f (K:Y00)(cv:Nat->Value):List V->Hp->VK->Prop:=λ xs H Q=>∃ x,xs=[x]/\r1 K cv yN x H Q
theorem Va:zY X (.builtin "len") (z6f X.K cv):=by
 intro pins s σ H xs us Q I r hh;obtain ⟨x,rfl,μ,h,a,Z',hr,ra,p⟩:=hh;refine VT pins s σ H _ us Q I r ⟨x,?_⟩;cases ra with
 | tup h1 h2=>exact ⟨_,rfl,.inr ⟨_,h1,h2.length⟩,p.here hr (.int _)⟩
 | @loc nn b m =>
  rw [len_loc] at p;cases e1:rd h nn with
  | none=>rw [e1] at p;exact p.elim
  | some ys =>
   rw [e1] at p;obtain ⟨vs,hs1,rs⟩:=hr.rd e1 m;exact ⟨_,rfl,.inl ⟨_,hs1,rs.length⟩,p.here hr (.int _)⟩
 | fl h1 h2=>exact ⟨_,rfl,.inl ⟨_,h1.sq,h2.length⟩,p.here hr (.int _)⟩
 | str y =>
  rw [len_str] at p;split at p
  ·rename_i c;exact ⟨_,rfl,⟨yu c,rfl⟩,p.here hr (.int _)⟩
  ·exact p.elim
 | _=>exact p.elim
def isD (T:Nat)(d:D)(h:Hh):Res D:=match isI h d T with | some b=>.ok (.bl b) h | none=>.no
theorem Yt {P:Nat->Prop}{T:Nat}(hT:T<5)(a:P 0)(b:P 1)(c:P 2)(d:P 3)(e:P 4):P T:=by
 match T,hT with | 0,_=>exact a | 1,_=>exact b | 2,_=>exact c | 3,_=>exact d | 4,_=>exact e
theorem GG (T:Nat)(hT:T<5):zY X (.builtin "isinstance") (λ xs H Q=>∃ x,xs=[x,.ty (Uf T)]/\r1 X.K cv (isD T) x H Q):=by
 intro pins s σ H xs us Q I r hh;obtain ⟨x,rfl,μ,h,a,Z',hr,ra,p⟩:=hh;obtain ⟨u,w',rfl,rx,rw'⟩:=z07 r;cases (show w'=Value.type (Uf T) from rw');unfold isD at p;have key:∀ (b:Bool),Q (.bl b) H->∀ tk,EP X pins σ Q (.bool b) { s with toks:=tk }:=λ b q tk=>⟨.bl b,H,I.tok _,rfl,q⟩;cases ra with
 | non =>
  have p1:Q (.bl false) H:=p.here hr (.bl _);refine wB I rx .non (b:=false) ?_ (key _ p1);apply Yt hT<;>rfl
 | bl y =>
  have p1:Q (.bl (T==0||T==1)) H:=p.here hr (.bl _);refine wB I rx (.bl y) (b:=(T==0||T==1)) ?_ (key _ p1);apply Yt hT<;>rfl
 | int y =>
  have p1:Q (.bl (T==0)) H:=p.here hr (.bl _);refine wB I rx (.int y) (b:=(T==0)) ?_ (key _ p1);apply Yt hT<;>rfl
 | str y =>
  have p1:Q (.bl (T==2)) H:=p.here hr (.bl _);refine wB I rx (.str y) (b:=(T==2)) ?_ (key _ p1);apply Yt hT<;>rfl
 | tup h1 h2 =>
  have p1:Q (.bl (T==3)) H:=p.here hr (.bl _);cases rx;obtain ⟨its,rv,⟨o,g1,g2,_⟩,_⟩:=I.tuple h1;refine Y13 PySem.W.kitx_tuple I.kIn ⟨_,g1,g2⟩ (b:=(T==3)) ?_ (λ z=>nomatch z) (key _ p1);apply Yt hT<;>rfl
 | fl h1 h2 =>
  have p1:Q (.bl (T==4)) H:=p.here hr (.bl _);cases rx;obtain ⟨its,rv,⟨o,n',g1,g2,_⟩,_⟩:=I.list h1.sq;refine Y13 Y2s I.kIn ⟨_,g1,g2⟩ (b:=(T==4)) ?_ (λ z=>nomatch z) (key _ p1);apply Yt hT<;>rfl
 | @loc nn b m =>
  cases e1:rd h nn with
  | none=>rw [show isI h (.loc nn) T=(rd h nn).map λ _=>T==4 from rfl,e1] at p;exact p.elim
  | some ys =>
   rw [show isI h (.loc nn) T=(rd h nn).map λ _=>T==4 from rfl,e1] at p;have p1:Q (.bl (T==4)) H:=p.here hr (.bl _);obtain ⟨vs,hs1,rs⟩:=hr.rd e1 m;cases rx;obtain ⟨its,rv,⟨o,n',g1,g2,_⟩,_⟩:=I.list hs1;refine Y13 Y2s I.kIn ⟨_,g1,g2⟩ (b:=(T==4)) ?_ (λ z=>nomatch z) (key _ p1);apply Yt hT<;>rfl
end
section
variable {X:Cx}{Z:ZK}{k:Nat}{n:Nm}{cv:Nat->Value}{cl:Nat->List D->Hh->Res D}
def rM0 (K:Y00)(cv:Nat->Value)(m:M0):V->List V->Hp->VK->Prop:=λ x vs H Q=>vs=[]/\r1 K cv (m0D m) x H Q
def rM1 (K:Y00)(cv:Nat->Value)(m:M1):V->List V->Hp->VK->Prop:=λ x vs H Q=>∃ y,vs=[y]/\r2 K cv (m1D m) x y H Q
theorem wR {K:Y00}{μ:List Addr}{H:Hp}{h:Hh}(hr:HR K μ h H){n:Nat}{a:Addr}{xs:List D}(m:μ[n]?=some a)(e:h[n]?=some (.lst xs)):∃ vs,H a=some (.lst vs)/\Reps K μ H xs vs:=hr.obj n a _ m e
theorem Reps.reverse {K:Y00}{μ:List Addr}{H:Hp}:∀ {ds:List D}{vs:List V},Reps K μ H ds vs->Reps K μ H ds.reverse vs.reverse
 | _,_,.nil=>.nil
 | _,_,.cons h r=>by rw [Y1m,Y1m];exact r.reverse.append (.cons h .nil)
theorem Reps.dropLast {K:Y00}{μ:List Addr}{H:Hp}:∀ {ds:List D}{vs:List V},Reps K μ H ds vs->Reps K μ H ds.dropLast vs.dropLast
 | _,_,.nil=>.nil
 | _,_,.cons h .nil=>.nil
 | _,_,.cons h (.cons h' r)=>.cons h (Reps.dropLast (.cons h' r))
theorem Reps.set {K:Y00}{μ:List Addr}{H:Hp}{d:D}{v:V}(q:Rep K μ H d v):∀ {ds:List D}{vs:List V} (i:Nat),Reps K μ H ds vs->Reps K μ H (ds.set i d) (vs.set i v)
 | _,_,_,.nil=>.nil
 | _,_,0,.cons _ r=>.cons q r
 | _,_,i+1,.cons h r=>.cons h (Reps.set q i r)
theorem Reps.take {K:Y00}{μ:List Addr}{H:Hp}:∀ {ds:List D}{vs:List V} (i:Nat),Reps K μ H ds vs->Reps K μ H (ds.take i) (vs.take i)
 | _,_,0,_=>.nil
 | _,_,_+1,.nil=>.nil
 | _,_,i+1,.cons h r=>.cons h (Reps.take i r)
theorem Reps.drop {K:Y00}{μ:List Addr}{H:Hp}:∀ {ds:List D}{vs:List V} (i:Nat),Reps K μ H ds vs->Reps K μ H (ds.drop i) (vs.drop i)
 | _,_,0,r=>r
 | _,_,_+1,.nil=>.nil
 | _,_,i+1,.cons _ r=>Reps.drop i r
theorem Reps.cut {K:Y00}{μ:List Addr}{H:Hp}{ds:List D}{vs:List V}(r:Reps K μ H ds vs)(lo hi:Option Int):Reps K μ H (zV ds lo hi) (Q7 vs lo hi):=by
 unfold zV Q7;rw [<- r.length];exact (r.drop _).take _
theorem Bo:MtR X "list.pop" (rM0 X.K cv .pop):=by
 intro pins s σ H x xs v us Q I rx rs hh;obtain ⟨rfl,μ,h,a,Z',hr,ra,p⟩:=hh;unfold m0D at p;cases ra with
 | @loc nn b m =>
  cases e1:h[nn]? with
  | none=>simp only [e1] at p;exact p.elim
  | some o =>
   cases o with
   | dK _=>simp only [e1] at p;exact p.elim
   | obj _ _=>simp only [e1] at p;exact p.elim
   | lst ds =>
    simp only [e1] at p;obtain ⟨vs,q1,q2⟩:=wR hr m e1;cases e2:ds.getLast? with
    | none=>simp only [e2] at p;exact p.elim
    | some d =>
     simp only [e2] at p;rw [List.getLast?_eq_getElem?] at e2;obtain ⟨w,e3,e4⟩:=q2.get e2;rw [q2.length] at e3;obtain ⟨hr',ex⟩:=hr.chg (u:=.lst vs.dropLast) (o':=.lst ds.dropLast) e1 m λ H' ex e=>⟨_,e,(q2.mono ex).dropLast⟩;exact z29 pins s σ H _ _ v us Q I rx rs ⟨b,vs,w,rfl,rfl,q1,e3,p μ _ w ex hr' (e4.mono ex)⟩
 | _=>exact p.elim
theorem Yu:MtR X "list.append" (rM1 X.K cv .append):=by
 intro pins s σ H x xs v us Q I rx rs hh;obtain ⟨y,rfl,μ,h,a,d,Z',hr,ra,rb,p⟩:=hh;unfold m1D at p;cases ra with
 | @loc nn b m =>
  cases e1:h[nn]? with
  | none=>simp only [e1] at p;exact p.elim
  | some o =>
   cases o with
   | dK _=>simp only [e1] at p;exact p.elim
   | obj _ _=>simp only [e1] at p;exact p.elim
   | lst ds =>
    simp only [e1] at p;obtain ⟨vs,q1,q2⟩:=wR hr m e1;split at p
    ·rename_i c;obtain ⟨hr',ex⟩:=hr.chg (u:=.lst (vs++[y])) (o':=.lst (ds++[d])) e1 m λ H' ex e=>⟨_,e,(q2.mono ex).append (.cons (rb.mono ex) .nil)⟩;exact UW pins s σ H _ _ v us Q I rx rs ⟨b,vs,y,rfl,rfl,q1,by rw [<- q2.length];exact Uj c,p μ _ .non ex hr' .non⟩
    ·exact p.elim
 | _=>exact p.elim
def z6g (K:Y00)(cv:Nat->Value):V->Option Int->Option Int->Hp->VK->Prop:=λ x lo hi H Q=>∃ μ h a Z,HR K μ h H/\Rep K μ H a x/\PostE K cv (Rep K) μ H (Jn a lo hi h) Q Z
theorem qM {K:Y00}{cv:Nat->Value}{μ:List Addr}{H:Hp}{h:Hh}{ds:List D}{vs:List V}{Q:VK}{Z:Value->Hp->Prop}(hr:HR K μ h H)(r:Reps K μ H ds vs)(p:PostE K cv (Rep K) μ H (new (.lst ds) h) Q Z) :
  ∀ b,H b=none->Q (.ref b) (upd H b (.lst vs)):=λ b hb=>by
 refine p _ _ _ ((zq hb).add hb) (hr.alloc hb (hr.fresh hb) λ μ' g=>⟨_,zx,(r.mono (zq hb)).mono' g⟩) (.loc ?_);rw [<- hr.len,Y08 (Y04 _),Y11];rfl
theorem Bp {xs:List D}{lo hi:Option Int}{h:Hh}:Jn (.tup xs) lo hi h=if HT.sIx xs.length 0 lo=0/\HT.sIx xs.length xs.length hi=xs.length then .ok (.tup xs) h else .ok (.tup (zV xs lo hi)) h:=rfl
theorem Bq {n:Nat}{lo hi:Option Int}{h:Hh}:Jn (.loc n) lo hi h=match rd h n with | some xs=>new (.lst (zV xs lo hi)) h | none=>.no:=rfl
theorem Br:SlR X (z6g X.K cv):=by
 intro pins s σ H x v vl vu lo hi sl Q I rx hs pl pu hh;obtain ⟨μ,h,a,Z',hr,ra,p⟩:=hh;cases ra with
 | tup h1 h2 =>
  rw [Bp] at p;split at p
  ·rename_i c;rw [h2.length] at c;exact B8 pins s σ H _ v vl vu lo hi sl Q I rx hs pl pu ⟨_,_,rfl,h1,c.1,c.2,p.here hr (.tup h1 h2)⟩
  ·rename_i c;rw [h2.length] at c;exact z25 pins s σ H _ v vl vu lo hi sl Q I rx hs pl pu ⟨_,_,rfl,h1,c,λ b hb=>p μ _ _ (zq hb) (hr.tup hb) (.tup (SqT.of zx) ((h2.cut lo hi).mono (zq hb)))⟩
 | fl h1 h2=>exact Ua pins s σ H _ v vl vu lo hi sl Q I rx hs pl pu ⟨_,_,rfl,h1.sq,qM hr (h2.cut lo hi) p⟩
 | str x =>
  simp only [Jn] at p;split at p
  ·rename_i c;exact z2i pins s σ H _ v vl vu lo hi sl Q I rx hs pl pu ⟨x,rfl,Y15 c (by decide),p.here hr (.str _)⟩
  ·exact p.elim
 | @loc nn b m =>
  rw [Bq] at p;cases e1:rd h nn with
  | none=>simp only [e1] at p;exact p.elim
  | some xs =>
   simp only [e1] at p;obtain ⟨vs,hs1,rs⟩:=hr.rd e1 m;exact Ua pins s σ H _ v vl vu lo hi sl Q I rx hs pl pu ⟨_,_,rfl,hs1,qM hr (rs.cut lo hi) p⟩
 | _=>exact p.elim
theorem JR {K:Y00}{μ:List Addr}{H:Hp}{h:Hh}{d:D}{v:V}{xs:List D}(hr:HR K μ h H)(r:Rep K μ H d v)(e:jZ d h=some xs):∃ a vs,v=.ref a/\((SqL K H a vs/\(∀ ys,d≠.tup ys))\/(SqT K H a vs/\d=.tup xs))/\Reps K μ H xs vs:=by
 unfold jZ at e;cases r with
 | tup h1 h2=>cases e;exact ⟨_,_,rfl,.inr ⟨h1,rfl⟩,h2⟩
 | fl h1 h2=>cases e;exact ⟨_,_,rfl,.inl ⟨h1.sq,λ _ z=>nomatch z⟩,h2⟩
 | @loc nn b m =>
  unfold PI.rd at e;cases e1:h[nn]? with
  | none=>simp only [e1] at e;cases e
  | some o =>
   cases o with
   | dK _=>simp only [e1] at e;cases e
   | obj _ _=>simp only [e1] at e;cases e
   | lst ds =>
    simp only [e1] at e;cases e;obtain ⟨vs,q1,q2⟩:=wR hr m e1;exact ⟨_,_,rfl,.inl ⟨SqL.of q1,λ _ z=>nomatch z⟩,q2⟩
 | _=>cases e
def z0e (d:D)(h:Hh):Res D:=match jZ d h with | some xs=>new (.lst xs) h | none=>.no
def z4h (d:D)(h:Hh):Res D:=match jZ d h with | some xs=>.ok (.tup xs) h | none=>.no
theorem Yv:zY X (.type "list") (λ xs H Q=>∃ x,xs=[x]/\r1 X.K cv z0e x H Q):=by
 intro pins s σ H xs us Q I r hh;obtain ⟨x,rfl,μ,h,a,Z',hr,ra,p⟩:=hh;unfold z0e at p;cases e:jZ a h with
 | none=>rw [e] at p;exact p.elim
 | some ds =>
  rw [e] at p;obtain ⟨b,vs,rfl,q1,q2⟩:=JR hr ra e;exact Wn pins s σ H _ us Q I r ⟨b,vs,rfl,q1.elim (λ z=>.inl z.1) (λ z=>.inr z.1),qM hr q2 p⟩
theorem Vb:zY X (.type "tuple") (λ xs H Q=>∃ x,xs=[x]/\r1 X.K cv z4h x H Q):=by
 intro pins s σ H xs us Q I r hh;obtain ⟨x,rfl,μ,h,a,Z',hr,ra,p⟩:=hh;unfold z4h at p;cases e:jZ a h with
 | none=>rw [e] at p;exact p.elim
 | some ds =>
  rw [e] at p;obtain ⟨b,vs,rfl,q1,q2⟩:=JR hr ra e;refine Jh pins s σ H _ us Q I r ⟨b,vs,rfl,?_⟩;rcases q1 with ⟨q1,_⟩ | ⟨q1,rfl⟩
  ·exact .inl ⟨q1,λ l hl=>p μ _ _ (zq hl) (hr.tup hl) (.tup (SqT.of zx) (q2.mono (zq hl)))⟩
  ·exact .inr ⟨q1,p.here hr ra⟩
theorem ZO {K:Y00}{μ:List Addr}{H:Hp}:∀ {ds:List D}{vs:List V}{bs:List Bool},Reps K μ H ds vs->qB ds=some bs->vs=bs.map V.bl
 | _,_,_,.nil,e=>by cases e;rfl
 | _,_,_,.cons r t,e=>by
  cases r with
  | bl b =>
   unfold qB at e;obtain ⟨bs',e1,rfl⟩:=Option.map_eq_some_iff.mp e;rw [ZO t e1];rfl
  | _=>cases e
theorem w5 {K:Y00}{μ:List Addr}{H:Hp}{h:Hh}{n:Nat}{a:Addr}{ds:List D}(hr:HR K μ h H)(m:μ[n]?=some a)(e:PI.rd h n=some ds):∃ vs,H a=some (.lst vs)/\Reps K μ H ds vs:=by
 unfold PI.rd at e;cases e1:h[n]? with
 | none=>simp only [e1] at e;cases e
 | some o =>
  cases o with
  | dK _=>simp only [e1] at e;cases e
  | obj _ _=>simp only [e1] at e;cases e
  | lst xs =>
   simp only [e1] at e;cases e;exact wR hr m e1
theorem Vc:zY X (.type "str") (λ xs H Q=>∃ x,xs=[x]/\r1 X.K cv (c1D .str) x H Q):=by
 intro pins s σ H xs us Q I r hh;obtain ⟨x,rfl,μ,h,a,Z',hr,ra,p⟩:=hh;unfold c1D at p;cases ra with
 | int i =>
  simp only at p;split at p
  ·rename_i c;exact Wf pins s σ H _ us Q I r ⟨i,rfl,c,p.here hr (.str _)⟩
  ·exact p.elim
 | str z =>
  obtain ⟨u,rfl,t,rfl⟩:=qo r;exact PySem.P.str_of_str ⟨.str z,H,I,⟨_,rfl⟩,p.here hr (.str _)⟩
 | _=>exact p.elim
theorem Vd:zY X (.type "int") (λ xs H Q=>∃ x,xs=[x]/\r1 X.K cv (c1D .int) x H Q):=by
 intro pins s σ H xs us Q I r hh;obtain ⟨x,rfl,μ,h,a,Z',hr,ra,p⟩:=hh;unfold c1D at p;cases ra with
 | int i=>exact JB pins s σ H _ us Q I r (.inl ⟨i,rfl,p.here hr (.int _)⟩)
 | bl b=>exact JB pins s σ H _ us Q I r (.inr ⟨b,rfl,p.here hr (.int _)⟩)
 | str z =>
  simp only at p;split at p
  ·rename_i n e;split at p
   ·rename_i c;exact V0 pins s σ H _ us Q I r ⟨z,n,rfl,e,c,p.here hr (.int _)⟩
   ·exact p.elim
  ·exact p.elim
 | _=>exact p.elim
theorem Ve:zY X (.builtin "abs") (λ xs H Q=>∃ x,xs=[x]/\r1 X.K cv (c1D .abs) x H Q):=by
 intro pins s σ H xs us Q I r hh;obtain ⟨x,rfl,μ,h,a,Z',hr,ra,p⟩:=hh;unfold c1D at p;cases ra with
 | int i=>exact VS pins s σ H _ us Q I r ⟨i,rfl,p.here hr (.int _)⟩
 | _=>exact p.elim
theorem Vf (hc:X.calm=true):zY X (.builtin "all") (λ xs H Q=>∃ x,xs=[x]/\r1 X.K cv (c1D .all) x H Q):=by
 intro pins s σ H xs us Q I r hh;obtain ⟨x,rfl,μ,h,a,Z',hr,ra,p⟩:=hh;unfold c1D at p;cases ra with
 | @loc nn b m =>
  simp only at p;split at p
  ·rename_i bs e;obtain ⟨ds,e1,e2⟩:=Option.bind_eq_some_iff.mp e;obtain ⟨vs,q1,q2⟩:=w5 hr m e1;have ev:=ZO q2 e2;subst ev;exact Ge hc pins s σ H _ us Q I r ⟨b,bs,rfl,SqL.of q1,p.here hr (.bl _)⟩
  ·exact p.elim
 | _=>exact p.elim
theorem GH (hc:X.calm=true):zY X (.builtin "any") (λ xs H Q=>∃ (p:Addr) (bs:List Bool),xs=[.ref p]/\SqL X.K H p (bs.map V.bl)/\Q (.bl (bs.any id)) H):=by
 intro pins s σ H xs us Q I r h;obtain ⟨p,bs,rfl,hq,q⟩:=h;obtain ⟨u,rfl,ru⟩:=qo r;cases ru;obtain ⟨its,rv,pl,hz⟩:=I.list hq;have hb:=Zw rv;have hl:s.heap.IsList p its.toArray:=pl.isList;have hlt:p<s.heap.objs.size:=by obtain ⟨_,e,_⟩:=hl;exact Y05 e
 refine call_any_walk (wpAny_pyIter_list hl ?_);refine ⟨s.heap.objs.size,[s.heap.objs.size,p],[s.heap.objs.size],its.toArray.size,_,_,λ i=>(bs[i]?).getD false,rfl,Walks.list (A:=X.A.in1) (I.ok.hd hc) _ p (Y0g hlt) its.toArray,
  ⟨⟨_,Y0c _ rfl,rfl,rfl⟩,hl.push _⟩,λ i v s' Q' E' hP hQ=>?_,λ h' tk hk=>?_⟩
 ·obtain ⟨b,e,rfl⟩:=hb.get i v (by simpa using hP);simp only [e,Y3j] at hQ;exact wpAny_truthy_bool hQ
 ·have e:((List.range its.toArray.size).any λ i=>(bs[i]?).getD false)=bs.any id:=by
   rw [Y0b,hb.length];exact PyProof.Rows.LSm.range_any bs
  rw [e];exact ⟨.bl (bs.any id),H,I.kept (PyProof.Rows.LSm.kept_iter hk),rfl,q⟩
theorem Vg (hc:X.calm=true):zY X (.builtin "any") (λ xs H Q=>∃ x,xs=[x]/\r1 X.K cv (c1D .any) x H Q):=by
 intro pins s σ H xs us Q I r hh;obtain ⟨x,rfl,μ,h,a,Z',hr,ra,p⟩:=hh;unfold c1D at p;cases ra with
 | @loc nn b m =>
  simp only at p;split at p
  ·rename_i bs e;obtain ⟨ds,e1,e2⟩:=Option.bind_eq_some_iff.mp e;obtain ⟨vs,q1,q2⟩:=w5 hr m e1;have ev:=ZO q2 e2;subst ev;exact GH hc pins s σ H _ us Q I r ⟨b,bs,rfl,SqL.of q1,p.here hr (.bl _)⟩
  ·exact p.elim
 | _=>exact p.elim
def z6h (K:Y00):OC:=λ o i v H Q=>∃ μ h a b c h',HR K μ h H/\Rep K μ H a o/\Rep K μ H b i/\Rep K μ H c v/\Yp a b c h=some h'/\∀ μ' H',Ext K μ H μ' H'->HR K μ' h' H'->Q H'
theorem RepKs.map {K:Y00}{μ:List Addr}{H:Hp}{k:Key}{d:D}{v:V}(q:Rep K μ H d v):∀ {ds:List (Key×D)}{vs:List (Key×V)},RepKs K μ H ds vs ->
  RepKs K μ H (ds.map λ kv=>if kv.1=k then (kv.1,d) else kv) (vs.map λ kv=>if kv.1=k then (kv.1,v) else kv)
 | _,_,.nil=>.nil
 | _,_,.cons (k:=k') h r=>by
  rw [Y0i,Y0i];by_cases e:k'=k
  ·rw [if_pos e,if_pos e];exact .cons q (RepKs.map q r)
  ·rw [if_neg e,if_neg e];exact .cons h (RepKs.map q r)
theorem RepKs.any {K:Y00}{μ:List Addr}{H:Hp}(k:Key):∀ {ds:List (Key×D)}{vs:List (Key×V)},RepKs K μ H ds vs->(ds.any λ kv=>decide (kv.1=k))=(vs.any λ kv=>decide (kv.1=k))
 | _,_,.nil=>rfl
 | _,_,.cons h r=>by rw [Y1l,Y1l,RepKs.any k r]
theorem RepKs.snoc {K:Y00}{μ:List Addr}{H:Hp}{k:Key}{d:D}{v:V}(q:Rep K μ H d v):∀ {ds:List (Key×D)}{vs:List (Key×V)},RepKs K μ H ds vs->RepKs K μ H (ds++[(k,d)]) (vs++[(k,v)])
 | _,_,.nil=>.cons q .nil
 | _,_,.cons h r=>.cons h (RepKs.snoc q r)
theorem RepKs.put {K:Y00}{μ:List Addr}{H:Hp}{k:Key}{d:D}{v:V}{ds:List (Key×D)}{vs:List (Key×V)}(r:RepKs K μ H ds vs)(q:Rep K μ H d v):RepKs K μ H (ZF ds k d) (wL vs k v):=by
 unfold ZF wL;rw [<- r.any k]
 split
 ·exact r.map q
 ·exact r.snoc q
theorem GI (hu:X.A.units+1<cLine):z1j X (z6h X.K):=by
 intro pins s σ H o i v ov iv u Q I ro ri rv hh;obtain ⟨μ,h,a,b,c,h',hr,ra,rb,rc,e,q⟩:=hh;unfold Yp at e;cases ra with
 | @loc nn p m =>
  cases e1:h[nn]? with
  | none=>simp only [e1] at e;cases e
  | some ob =>
   cases ob with
   | lst xs =>
    simp only [e1] at e;obtain ⟨vs,q1,q2⟩:=wR hr m e1;cases rb with
    | int k =>
     cases e2:ixN xs.length k with
     | none=>simp only [e2,Option.map_none] at e;cases e
     | some j =>
      simp only [e2,Y2n] at e;cases e;obtain ⟨hr',ex⟩:=hr.chg (u:=.lst (vs.set j v)) (o':=.lst (xs.set j c)) e1 m λ H' ex e=>⟨_,e,(q2.mono ex).set (rc.mono ex) j⟩;exact G0 pins s σ H _ _ v ov iv u Q I ro ri rv ⟨p,vs,k,j,rfl,rfl,q1,by rw [<- q2.length];exact e2,q μ _ ex hr'⟩
    | _=>cases e
   | obj _ _=>simp only [e1] at e;cases e
   | dK kvs =>
    simp only [e1] at e;obtain ⟨vs,q1,q2⟩:=(hr.obj nn p _ m e1:RepO X.K μ H p (.dK kvs));cases e2:qy b with
    | none=>simp only [e2,Option.bind_none] at e;cases e
    | some k =>
     simp only [e2,Y3k] at e;split at e
     ·rename_i hl;cases e;have ey:=ZN rb e2;subst ey;obtain ⟨hr',ex⟩:=hr.chg (u:=.dK (wL vs k v)) (o':=.dK (ZF kvs k c)) e1 m λ H' ex e=>⟨_,e,(q2.mono ex).put (rc.mono ex)⟩;cases ro;exact UY hu I (DPut.k q1 (by rw [<- q2.length];exact Uj hl)) ri rv λ s' I'=>⟨_,I',q μ _ ex hr'⟩
     ·cases e
 | _=>cases e
end
theorem jk {α β γ δ:Type}{K:Y00}{cv:Nat->Value}{R:List Addr->Hp->α->β->Prop}{R':List Addr->Hp->γ->δ->Prop}{μ0 μ:List Addr}{ρ:En}{h:Hh}{σ:St}{H0 H:Hp}{Z:ZK}{Zz:Value->Hp->Prop}{m:En->Hh->Res α}{f:α->Hh->Res γ}{Q:δ->Hp->Prop}{Q':β->Hp->Prop}
  (e0:Ext K μ0 H0 μ H) (hr:HR K μ h H) (er:ER K μ ρ σ H) (p:PostE K cv R' μ0 H0 ((m ρ h).bind f) Q Zz) (hz:∀ C H',Zz C H'->Z σ C H')
  (go:∀ a h1 μ1 H1 x,m ρ h=.ok a h1->Ext K μ H μ1 H1->HR K μ1 h1 H1->ER K μ1 ρ σ H1->R μ1 H1 a x->PostE K cv R' μ0 H0 (f a h1) Q Zz->Q' x H1) :
  zv K cv R Z m σ H Q':=by
 refine ⟨μ,ρ,h,hr,er,?_⟩;cases e:m ρ h with
 | ok a h1 =>
  rw [e,bind_ok] at p;exact λ μ1 H1 x e1 r1 q1=>go a h1 μ1 H1 x e e1 r1 (er.mono e1) q1 p
 | exc c h1 =>
  rw [e,bind_exc] at p;exact λ μ1 H1 e1 r1=>hz _ _ (p μ1 H1 (e0.trans e1) r1)
 | no=>rw [e,bind_no] at p;exact p
def Src (K:Y00)(μ0:List Addr)(H0:Hp)(c:Ck)(ds:List D)(J:It):Prop:=∀ μ h H,Ext K μ0 H0 μ H->HR K μ h H->stay c h ->
 (∀ i d,ds[i]?=some d->J.go i H/\∀ x H',J.yld i H x H'->Ext K μ H μ H'/\HR K μ h H'/\Rep K μ H' d x)/\J.stop ds.length H
def RJ (K:Y00):List Addr->Hp->(Ck×List D)->It->Prop:=λ μ H q J=>Src K μ H q.1 q.2 J
def RL (K:Y00)(H0:Hp):List Addr->Hp->List D->V->Prop:=λ μ H ds v=>∃ p vs,v=.ref p/\H p=some (.lst vs)/\Reps K μ H ds vs/\p∉μ/\H0 p=none
abbrev GJ (K:Y00)(cv:Nat->Value)(Z:ZK)(m:En->Hh->Res (List D)):TE:=λ σ H Q=>zv K cv (RL K H) Z m σ H Q
section
variable {K:Y00}{μ:List Addr}{H:Hp}{h:Hh}{ds:List D}{vs:List V}{a:Addr}
theorem yO {c:Ck}{J:It}(k:∀ μ1 h1 H1,Ext K μ H μ1 H1->HR K μ1 h1 H1->stay c h1->(∀ i d,ds[i]?=some d->J.go i H1/\∀ x H',J.yld i H1 x H'->H'=H1/\Rep K μ1 H1 d x)/\J.stop ds.length H1):Src K μ H c ds J:=λ μ1 h1 H1 ex hr st =>
 ⟨λ i d e=>⟨((k μ1 h1 H1 ex hr st).1 i d e).1,λ x H' y=>by obtain ⟨rfl,r⟩:=((k μ1 h1 H1 ex hr st).1 i d e).2 x H' y;exact ⟨Ext.refl,hr,r⟩⟩,(k μ1 h1 H1 ex hr st).2⟩
theorem Yw {c:Ck}(k:∀ μ1 h1 H1,Ext K μ H μ1 H1->HR K μ1 h1 H1->stay c h1->∃ vs,SqL K H1 a vs/\Reps K μ1 H1 ds vs):Src K μ H c ds (Itl K a):=yO λ μ1 h1 H1 ex hr st=>by
 obtain ⟨vs,q1,q2⟩:=k μ1 h1 H1 ex hr st;refine ⟨λ i d e=>?_,⟨vs,q1,by rw [<- q2.length];exact Y04 _⟩⟩;obtain ⟨w,e1,e2⟩:=q2.get e;refine ⟨⟨vs,w,q1,e1⟩,λ x H' y=>⟨y.1,?_⟩⟩
 have:=y.2 vs q1
 rw [e1] at this;cases this;exact e2
theorem Bs {n:Nat}(m:μ[n]?=some a):Src K μ H [(n,ds)] ds (Itl K a):=Yw λ μ1 h1 H1 ex hr st=>by
 have e:rd h1 n=some ds:=st (n,ds) (Y0a.mpr rfl);have m1:=ex.loc n a m;unfold PI.rd at e;cases e1:h1[n]? with
 | none=>simp only [e1] at e;cases e
 | some o =>
  cases o with
  | dK _=>simp only [e1] at e;cases e
  | obj _ _=>simp only [e1] at e;cases e
  | lst xs =>
   simp only [e1] at e;cases e;obtain ⟨vs,q1,q2⟩:=wR hr m1 e1;exact ⟨vs,SqL.of q1,q2⟩
theorem z2r (f:Fz K H a vs)(r:Reps K μ H ds vs):Src K μ H [] ds (Itl K a):=Yw λ μ1 h1 H1 ex hr st=>⟨vs,(ex.fz _ _ f).sq,r.mono ex⟩
theorem Bt (e:H a=some (.lst vs))(n:a∉μ)(r:Reps K μ H ds vs):Src K μ H [] ds (Itl K a):=Yw λ μ1 h1 H1 ex hr st=>⟨vs,SqL.of (ex.oth _ _ e n),r.mono ex⟩
theorem Bu (f:SqT K H a vs)(r:Reps K μ H ds vs):Src K μ H [] ds (Itt K a):=yO λ μ1 h1 H1 ex hr st=>by
 have q1:=ex.tup _ _ f;have q2:=r.mono ex;refine ⟨λ i d e=>?_,⟨vs,q1,by rw [<- q2.length];exact Y04 _⟩⟩;obtain ⟨w,e1,e2⟩:=q2.get e;refine ⟨⟨vs,w,q1,e1⟩,λ x H' y=>⟨y.1,?_⟩⟩
 have:=y.2 vs q1
 rw [e1] at this;cases this;exact e2
theorem Bv (z:Str):Src K μ H [] (z.cps.toList.map λ c=>.str ⟨#[c]⟩) (Its z):=yO λ μ1 h1 H1 ex hr st=>by
 refine ⟨λ i d e=>?_,by show z.length<=_;rw [Y0d];exact Nat.le_of_eq rfl⟩;rw [Y0u] at e;cases e1:z.cps.toList[i]? with
 | none=>rw [e1] at e;cases e
 | some c =>
  rw [e1] at e;cases e;refine ⟨?_,λ x H' y=>⟨y.1,?_⟩⟩
  ·have:=(Y0e.mp e1).1
   exact (by simpa using this:i<z.cps.size)
  ·obtain ⟨c',e2,rfl⟩:=y.2;rw [e1] at e2;cases e2;exact .str _
theorem GK {c:Ck}(k:∀ μ1 h1 H1,Ext K μ H μ1 H1->HR K μ1 h1 H1->stay c h1->∃ vs,SqL K H1 a vs/\Reps K μ1 H1 ds vs):Src K μ H c ds.reverse (Itv K a ds.length):=yO λ μ1 h1 H1 ex hr st=>by
 obtain ⟨vs,q1,q2⟩:=k μ1 h1 H1 ex hr st;have hl:=q2.length;refine ⟨λ i d e=>?_,by show _=_;rw [Y1p]⟩;have hi:i<ds.length:=by have:=(Y0e.mp e).1;rwa [Y1p] at this
 rw [Y36 hi] at e;obtain ⟨w,e1,e2⟩:=q2.get e;refine ⟨⟨hi,vs,q1,hl.symm⟩,λ x H' y=>⟨y.1,?_⟩⟩
 have:=y.2 vs q1
 rw [e1] at this;cases this;exact e2
theorem Bw (f:SqT K H a vs)(r:Reps K μ H ds vs):Src K μ H [] ds.reverse (Itw K a ds.length):=yO λ μ1 h1 H1 ex hr st=>by
 have q1:=ex.tup _ _ f;have q2:=r.mono ex;have hl:=q2.length;refine ⟨λ i d e=>?_,by show _=_;rw [Y1p]⟩;have hi:i<ds.length:=by have:=(Y0e.mp e).1;rwa [Y1p] at this
 rw [Y36 hi] at e;obtain ⟨w,e1,e2⟩:=q2.get e;refine ⟨⟨hi,vs,q1,hl.symm⟩,λ x H' y=>⟨y.1,?_⟩⟩
 have:=y.2 vs q1
 rw [e1] at this;cases this;exact e2
theorem Bx {n:Nat}(m:μ[n]?=some a):Src K μ H [(n,ds)] ds.reverse (Itv K a ds.length):=GK λ μ1 h1 H1 ex hr st=>by
 have e:rd h1 n=some ds:=st (n,ds) (Y0a.mpr rfl);obtain ⟨vs,q1,q2⟩:=w5 hr (ex.loc n a m) e;exact ⟨vs,SqL.of q1,q2⟩
theorem By (f:Fz K H a vs)(r:Reps K μ H ds vs):Src K μ H [] ds.reverse (Itv K a ds.length):=GK λ μ1 h1 H1 ex hr st=>⟨vs,(ex.fz _ _ f).sq,r.mono ex⟩
theorem qN {c:Ck}{d:D}{x:V}(r:Rep K μ H d x)(hr:HR K μ h H)(e:Z8 d h=some (c,ds)):∃ l b vs,x=.ref l/\SqB K H l b vs/\vs.length=ds.length/\∀ μ1 h1 H1,Ext K μ H μ1 H1->HR K μ1 h1 H1->stay c h1->∃ vs',SqB K H1 l b vs'/\Reps K μ1 H1 ds vs':=by
 cases r with
 | @tup xs vs a f r =>
  cases e;exact ⟨a,false,vs,rfl,f,r.length.symm,λ μ1 h1 H1 ex _ _=>⟨vs,ex.tup _ _ f,r.mono ex⟩⟩
 | @fl xs vs a f r =>
  cases e;exact ⟨a,true,vs,rfl,f.sq,r.length.symm,λ μ1 h1 H1 ex _ _=>⟨vs,(ex.fz _ _ f).sq,r.mono ex⟩⟩
 | @loc n a m =>
  have e:(PI.rd h n).map (λ xs=>(([(n,xs)],xs):Ck×List D))=some (c,ds):=e;cases e1:PI.rd h n with
  | none=>rw [e1] at e;cases e
  | some xs =>
   rw [e1] at e;cases e;obtain ⟨vs,q1,q2⟩:=w5 hr m e1;refine ⟨a,true,vs,rfl,SqL.of q1,q2.length.symm,λ μ1 h1 H1 ex hr1 st=>?_⟩;obtain ⟨vs',q3,q4⟩:=w5 hr1 (ex.loc n a m) (st (n,ds) (Y0a.mpr rfl));exact ⟨vs',SqL.of q3,q4⟩
 | _=>cases e
theorem Um {c1 c2:Ck}{ds es:List D}{l1 l2:Addr}{b1 b2:Bool}(k1:∀ μ1 h1 H1,Ext K μ H μ1 H1->HR K μ1 h1 H1->stay c1 h1->∃ vs',SqB K H1 l1 b1 vs'/\Reps K μ1 H1 ds vs')(k2:∀ μ1 h1 H1,Ext K μ H μ1 H1->HR K μ1 h1 H1->stay c2 h1->∃ vs',SqB K H1 l2 b2 vs'/\Reps K μ1 H1 es vs') :
  Src K μ H (c1++c2) ((ds.zip es).map w4) (Itz K l1 l2 b1 b2 ds.length es.length):=λ μ1 h1 H1 ex hr st=>by
 obtain ⟨vs,q1,r1⟩:=k1 μ1 h1 H1 ex hr λ p hp=>st p (Y0z _ hp);obtain ⟨ws,q2,r2⟩:=k2 μ1 h1 H1 ex hr λ p hp=>st p (Y0m _ hp);refine ⟨λ i d e=>?_,?_,vs,ws,q1,q2,r1.length.symm,r2.length.symm⟩
 ·rw [Y0u] at e;cases e1:(ds.zip es)[i]? with
  | none=>rw [e1] at e;cases e
  | some q =>
   rw [e1] at e;cases e;obtain ⟨z1,z2⟩:=Y2r.mp e1;obtain ⟨w1,g1,p1⟩:=r1.get z1;obtain ⟨w2,g2,p2⟩:=r2.get z2;refine ⟨⟨(Y0e.mp z1).1,(Y0e.mp z2).1,vs,ws,q1,q2,r1.length.symm,r2.length.symm⟩,λ x H' y=>?_⟩;obtain ⟨T,rfl,hT,f⟩:=y;obtain ⟨u,v,f1,f2,rfl⟩:=f vs ws q1 q2;rw [g1] at f1;cases f1;rw [g2] at f2;cases f2;exact ⟨zq hT,hr.tup hT,.tup (SqT.of zx) (.cons (p1.mono (zq hT)) (.cons (p2.mono (zq hT)) .nil))⟩
 ·rw [Y0d,Y2p];rcases Nat.le_total ds.length es.length with z | z
  ·exact .inl (Nat.min_eq_left z)
  ·exact .inr (Nat.min_eq_right z)
theorem Bz (j:Nat):Src K μ H [] ((List.range j).map λ (k:Nat)=>.int (k:Nat)) (Itr 0 j):=yO λ μ1 h1 H1 ex hr st=>by
 refine ⟨λ i d e=>?_,by show j<=_;rw [Y0d,List.length_range];exact Y04 _⟩;rw [Y0u] at e;cases e1:(List.range j)[i]? with
 | none=>rw [e1] at e;cases e
 | some c =>
  rw [e1] at e;cases e;obtain ⟨hi,e2⟩:=Y0e.mp e1;rw [List.length_range] at hi;rw [List.getElem_range] at e2;subst e2;refine ⟨hi,λ x H' y=>⟨y.1,?_⟩⟩;rw [y.2,Int.zero_add];exact .int _
end
section
variable {X:Cx}{Z:ZK}{k:Nat}{n:Nm}{cv:Nat->Value}{cl:Nat->List D->Hh->Res D}{tg:Expr}
theorem z2s {l:Expr}{tl:TE}(hl:PE X l tl):PI X tg l (λ σ H R=>tl σ H λ x H1=>(∃ a,x=.ref a/\(∃ xs,SqL X.K H1 a xs)/\R (Itl X.K a) H1)\/(∃ a,x=.ref a/\(∃ xs,SqT X.K H1 a xs)/\R (Itt X.K a) H1)\/∃ z,x=.str z/\R (Its z) H1):=by
 intro pins s σ H R I h;refine thn (hl pins s σ H _ I h) λ v s1 ⟨x,H1,I1,r1,q1⟩=>?_;rcases q1 with ⟨a,rfl,⟨xs,hq⟩,q⟩ | ⟨a,rfl,⟨xs,hq⟩,q⟩ | ⟨x,rfl,q⟩
 ·cases r1;obtain ⟨its,rv,p,hz⟩:=I1.list hq;refine wpAny_pyIter_list p.isList ?_;refine ⟨s1.heap.objs.size,[s1.heap.objs.size],_,_,H1,rfl,I1.kept (t':=s1.toks) λ b o e=>Y01 _ e,Jz a _,⟨_,Y0c _ rfl,rfl,rfl⟩,λ b hb=>?_,q⟩;have e:b=s1.heap.objs.size:=by simpa using hb
  subst e;exact I1.fpOk (Y04 _) (I1.hok.fresh (Y04 _))
 ·cases r1;obtain ⟨its,rv,p,hz⟩:=I1.tuple hq;refine wpAny_pyIter_tuple (show s1.heap.IsTuple a its.toArray from p) ?_;refine ⟨s1.heap.objs.size,[s1.heap.objs.size],_,_,H1,rfl,I1.kept (t':=s1.toks) λ b o e=>Y01 _ e,QW a _,⟨_,Y0c _ rfl,rfl,rfl⟩,λ b hb=>?_,q⟩;have e:b=s1.heap.objs.size:=by simpa using hb
  subst e;exact I1.fpOk (Y04 _) (I1.hok.fresh (Y04 _))
 ·obtain ⟨t,rfl⟩:=r1;have fp:∀ b∈[s1.heap.objs.size],yf X pins H1 b:=λ b hb=>by
   have e:b=s1.heap.objs.size:=by simpa using hb
   subst e;exact I1.fpOk (Y04 _) (I1.hok.fresh (Y04 _))
  cases ha:x.cps.all (·<128) with
  | false =>
   refine wpAny_pyIter_wide ha ?_;exact ⟨s1.heap.objs.size,[s1.heap.objs.size],_,_,H1,rfl,I1.kept (t':=s1.toks) λ b o e=>Y01 _ e,UZ _ x t,⟨_,Y0c _ rfl,rfl,rfl⟩,fp,q⟩
  | true =>
   refine wpAny_pyIter_ascii ha ?_;exact ⟨s1.heap.objs.size,[s1.heap.objs.size],_,_,H1,rfl,I1.kept (t':=s1.toks) λ b o e=>Y01 _ e,Yc _ x t,⟨_,Y0c _ rfl,rfl,rfl⟩,fp,q⟩
theorem PI.mono {iter:Expr}{t t':TI}(p:L2.PI X tg iter t)(h:∀ σ H R,t' σ H R->t σ H R):L2.PI X tg iter t':=λ pins s σ H R I q=>p pins s σ H R I (h σ H R q)
def gB (K:Y00)(t:Tg):TG:=λ v σ H Q=>∃ μ ρ d ρ' h,HR K μ h H/\ER K μ ρ σ H/\Rep K μ H d v/\qY t d ρ=some ρ' /\
 ∀ σ',ER K μ ρ' σ' H->σ'.length=σ.length->(∀ i,i∉t.idx->σ'[i]?=σ[i]?)->Q σ' H
theorem PG.mono {t t':TG}(p:PG X tg t)(h:∀ v σ H Q,t' v σ H Q->t v σ H Q):PG X tg t':=λ pins s σ H v u Q I r q=>p pins s σ H v u Q I r (h v σ H Q q)
def gNs:List (Nat×Pos)->TGs
 | []=>z3r
 | q::r=>z06 (U2 q.1) (gNs r)
theorem JS (hN:X.N.Nodup):∀ (is:List (Nat×Pos)),(∀ q∈is,q.1<X.N.length/\Loc X.env.scope (X.N.getD q.1 "")/\(X.fn (X.N.getD q.1 "")=true\/X.env.scope.names.lookup (X.N.getD q.1 "")=some .local)) ->
  PGs X (is.map λ q=>.Name (X.N.getD q.1 "") q.2) (gNs is)
 | [],_=>OD
 | q::r,h=>by
  have hq:=h q (Y03 ..);exact VN (U3 (i:=q.1) hN (by rw [Y0q,Y0f hq.1];rfl) hq.2.1 hq.2.2) (JS hN r λ z hz=>h z (Y02 _ hz))
theorem yP (N:List Str)(env:Env):∀ is:List (Nat×Pos),(assignEach (is.map λ q=>.Name (N.getD q.1 "") q.2) env).length=is.length/\(assignEach (is.map λ q=>.Name (N.getD q.1 "") q.2) env).findIdx? (·.1)=none
 | []=>⟨rfl,rfl⟩
 | q::r=>by
  have ih:=yP N env r;rw [Y0i];refine ⟨?_,?_⟩
  ·show ((false,_)::assignEach (r.map λ q=>.Name (N.getD q.1 "") q.2) env).length=_;rw [Y09,ih.1,Y09]
  ·show ((false,_)::assignEach (r.map λ q=>.Name (N.getD q.1 "") q.2) env).findIdx? (·.1)=none;rw [List.findIdx?_cons,ih.2];rfl
theorem Uo {K:Y00}{μ:List Addr}{H:Hp}:∀ (is:List (Nat×Pos)) {ds:List D}{vs:List V}{ρ:En}{σ:St}{Q:St->Hp->Prop},Reps K μ H ds vs->ds.length=is.length->ER K μ ρ σ H ->
  (∀ σ',ER K μ ((is.zip ds).foldl (λ ρ q=>ρ.set q.1.1 (some q.2)) ρ) σ' H->σ'.length=σ.length->(∀ i,i∉is.map (·.1)->σ'[i]?=σ[i]?)->Q σ' H)->gNs is vs σ H Q
 | [],_,_,ρ,σ,Q,r,hl,er,q=>by
  cases r with
  | nil=>exact ⟨rfl,q σ er rfl λ _ _=>rfl⟩
  | cons _ _=>cases hl
 | p::is,_,_,ρ,σ,Q,r,hl,er,q=>by
  cases r with
  | nil=>cases hl
  | cons r1 r2 =>
   refine ⟨_,_,rfl,?_⟩;refine Uo is r2 (by simpa using hl) (er.set r1 p.1) λ σ' e1 e2 e3=>?_;refine q σ' e1 (e2.trans Y0r) λ i hi=>?_;rw [Y0i] at hi;rw [e3 i λ z=>hi (Y02 _ z),Y1f λ z=>hi (by rw [<- z];exact Y03 ..)]
theorem z4i (hc:X.calm=true) (hN:X.N.Nodup) (t:Tg) (h:∀ i∈t.idx,i<X.N.length/\Loc X.env.scope (X.N.getD i "")/\(X.fn (X.N.getD i "")=true\/X.env.scope.names.lookup (X.N.getD i "")=some .local)):PG X (t.py X.N) (gB X.K t):=by
 cases t with
 | one i p =>
  have hq:=h i (Y0a.mpr rfl);refine PG.mono (U3 (i:=i) hN (by rw [Y0q,Y0f hq.1];rfl) hq.2.1 hq.2.2) λ v σ H Q ⟨μ,ρ,d,ρ',h,hr,er,r,e,q⟩=>?_;cases e;exact q _ (er.set r i) Y0r λ j hj=>Y1f λ z=>hj (by rw [<- z];exact Y0a.mpr rfl)
 | tup is p =>
  refine PG.mono (z1k (k:=0) (pos:=p) hc (JS hN is λ q hq=>h q.1 (Y0w.mpr ⟨q,hq,rfl⟩)) (yP X.N X.env is).1 (yP X.N X.env is).2) λ v σ H Q ⟨μ,ρ,d,ρ',h,hr,er,r,e,q⟩=>?_;unfold qY at e;cases r with
  | tup h1 h2 =>
   simp only at e;split at e
   ·rename_i c;cases e;exact ⟨_,_,rfl,h1,by rw [<- h2.length];exact c,Uo is h2 c er q⟩
   ·cases e
  | _=>cases e
end
theorem Up:(1000000:Nat)<sizeLine:=by rw [sizeLine_eq];decide
section
variable {X:Cx}{Z:ZK}{k:Nat}{n:Nm}{cv:Nat->Value}{cl:Nat->List D->Hh->Res D}
theorem z4j {K:Y00}{μ:List Addr}{H:Hp}{ρ:En}{σ:St}(cap:List (Option Nat))(er:ER K μ ρ σ H):ER K μ (jX cap ρ) (qx cap σ) H:=by
 refine ⟨by unfold jX qx;rw [Y0d,Y0d],λ j d e=>?_⟩;unfold jX at e;unfold qx;rw [Y0u] at e ⊢;cases e1:cap[j]? with
 | none=>rw [e1] at e;cases e
 | some o =>
  rw [e1] at e;cases o with
  | none=>cases e
  | some i =>
   have e':(ρ[i]?).bind id=some d:=Option.some.inj e;cases e2:ρ[i]? with
   | none=>rw [e2] at e';cases e'
   | some o2 =>
    rw [e2] at e';have e3:o2=some d:=e';subst e3;obtain ⟨v,q1,q2⟩:=er.val i d e2;exact ⟨v,by show some ((σ[i]?).bind id)=_;rw [q1];rfl,q2⟩
theorem GL {osc scope:Scope}{N NC:List Str}{cap:List (Option Nat)}{t:Tg}(cok:ji osc scope N NC cap=true)(ht:t.ok scope NC=true)(σ:St):∀ i∈t.idx,(qx cap σ)[i]?=some none:=by
 intro i hi;unfold Tg.ok at ht;have h1:=Y1k.mp ht i hi;rw [Y0p] at h1;have hl:i<NC.length:=of_decide_eq_true h1.1;have hloc:scope.names.lookup (NC.getD i "")=some .local\/scope.names.lookup (NC.getD i "")=some .cell:=of_decide_eq_true h1.2;unfold ji at cok;simp only [Y0p] at cok;obtain ⟨⟨⟨⟨⟨k1,k2⟩,k3⟩,k4⟩,k5⟩,k6⟩:=cok;have hj:=Y1k.mp k6 i (Y39.mpr hl);have hN:NC[i]?=some (NC.getD i ""):=by rw [Y0q,Y0f hl];rfl
 have hc:i<cap.length:=by rw [beq_iff_eq.mp k5];exact hl
 unfold qx;rw [Y0u];cases e:cap[i]? with
 | none=>rw [List.getElem?_eq_none_iff] at e;omega
 | some o =>
  cases o with
  | none=>rfl
  | some m =>
   exfalso
   rw [e,hN] at hj;simp only [Y0p,beq_iff_eq] at hj;have hfree:=hj.2;rcases hloc with z | z<;>(rw [hfree] at z;cases z)
theorem JT {scope:Scope}{NC:List Str}{cap:List (Option Nat)}{t:Tg}{mi:En->Hh->Res (Ck×List D)}{mc:En->Hh->Res Bool}{me:En->Hh->Res D}
  (cok:ji X.env.scope scope X.N NC cap=true) (ht:t.ok scope NC=true) {σ:St}{H:Hp}{Q:VK}
  (p:GJ X.K cv Z (λ ρ h=>(mi ρ h).bind λ q h1=>if q.2.length<=1000000 then zS q.1 (zZ t (jX cap ρ) mc me) q.2 [] h1 else .no) σ H Q) :
  Gd Z cap (zv X.K cv (RJ X.K) Z mi) (gB X.K t) (λ Zc=>zv X.K cv RB Zc mc) (λ Zc=>zv X.K cv (Rep X.K) Zc me) σ H Q:=by
 obtain ⟨μ,ρ,h,hr,er,p⟩:=p;refine jk (m:=mi) Ext.refl hr er p (λ _ _ z=>z) λ q h1 μ1 H1 J _ e1 r1 er1 src p1=>?_;split at p1;rotate_left
 ·exact p1.elim
 rename_i hlen;obtain ⟨c,ds⟩:=q;refine ⟨λ i m ys H2=>m=ds.length-i/\i<=ds.length/\∃ μ2 h2 acc,Ext X.K μ1 H1 μ2 H2/\HR X.K μ2 h2 H2/\Reps X.K μ2 H2 acc ys/\acc.length<=i/\PostE X.K cv (RL X.K H) μ H (zS c (zZ t (jX cap ρ) mc me) (ds.drop i) acc h2) Q (Z σ),
  ⟨ds.length,by simp,Y1d _,μ1,h1,[],Ext.refl,r1,.nil,Y04 _,p1⟩,?_⟩
 rintro i m ys H2 ⟨rfl,hi',μ2,h2,acc,e2,r2,ry,ha,p2⟩
 have hyl:ys.length<=i:=by rw [<- ry.length];exact ha
 have hll:ds.length<=1000000:=hlen;by_cases hlt:i<ds.length
 ·right;rw [List.drop_eq_getElem_cons hlt] at p2;unfold zS at p2;split at p2;rotate_left
  ·exact p2.elim
  rename_i st;obtain ⟨s1,s2⟩:=src μ2 h2 H2 e2 r2 st;obtain ⟨g1,g2⟩:=s1 i ds[i] (Y0f hlt);refine ⟨g1,by have:=Up;omega,λ x H3 y=>?_⟩;obtain ⟨e2',r2',rx⟩:=g2 x H3 y;replace e2:=e2.trans e2';replace r2:=r2';replace ry:=ry.mono e2';have er2:ER X.K μ2 ρ σ H3:=er1.mono e2;unfold zZ at p2;cases eb:qY t ds[i] (jX cap ρ) with
  | none=>rw [eb] at p2;exact p2.elim
  | some ρ' =>
   rw [eb] at p2;refine ⟨μ2,jX cap ρ,ds[i],ρ',h2,r2,z4j cap er2,rx,eb,λ σ4 er4 hl4 hs4=>⟨⟨hl4,λ j v ej=>?_⟩,?_⟩⟩
   ·have nj:j∉t.idx:=λ z=>by rw [GL cok ht σ j z] at ej;cases ej
    rw [hs4 j nj];exact ej
   have p3:PostE X.K cv (RL X.K H) μ H ((mc ρ' h2).bind λ b h3=>(if b then (me ρ' h3).bind λ d h4=>Res.ok (some d) h4 else Res.ok none h3).bind λ o h'=>zS c (zZ t (jX cap ρ) mc me) (ds.drop (i+1)) (Gw acc o) h') Q (Z σ):=by
    have p2':=p2;rw [zp] at p2';exact p2'
   refine jk (m:=mc) (R:=RB) (e1.trans e2) r2 er4 p3 (λ _ _ z=>z) λ b h3 μ3 H3' bb _ e3 r3 er5 qb p4=>?_;have qb':b=bb:=qb;subst qb';cases b with
   | false =>
    refine Z3 ⟨ds.length-(i+1),by omega,rfl,hlt,μ3,h3,acc,e2.trans e3,r3,ry.mono e3,Nat.le_succ_of_le ha,p4⟩
   | true =>
    refine Z4 ?_;have p5:PostE X.K cv (RL X.K H) μ H ((me ρ' h3).bind λ d h4=>zS c (zZ t (jX cap ρ) mc me) (ds.drop (i+1)) (acc++[d]) h4) Q (Z σ):=by
     have p4':=p4;rw [if_pos rfl,zp] at p4';exact p4'
    refine jk (m:=me) ((e1.trans e2).trans e3) r3 er5 p5 (λ _ _ z=>z) λ d h4 μ4 H4 v _ e4 r4 er6 qd p6=>?_;exact ⟨ds.length-(i+1),by omega,rfl,hlt,μ4,h4,acc++[d],(e2.trans e3).trans e4,r4,((ry.mono e3).mono e4).append (.cons qd .nil),by rw [Y0h];exact Nat.succ_le_succ ha,p6⟩
 ·left;have ei:i=ds.length:=by omega
  subst ei;rw [List.drop_length] at p2;unfold zS at p2;split at p2;rotate_left
  ·exact p2.elim
  rename_i st;refine ⟨(src μ2 h2 H2 e2 r2 st).2,by have:=Up;omega,λ a ha'=>?_⟩;have ex:=(e1.trans e2);have na:=r2.fresh ha';have n0:H a=none:=by
   cases e:H a with
   | none=>rfl
   | some o=>rw [ex.oth a o e λ z=>na (ex.sub z)] at ha';cases ha'
  exact p2 μ2 _ _ (ex.trans (zq ha')) (r2.tup ha') ⟨a,ys,rfl,zx,ry.mono (zq ha'),na,n0⟩
theorem GM {elt iter:Expr}{ifs:List Expr}{scope:Scope}{NC:List Str}{cap:List (Option Nat)}{t:Tg}{pos:Pos}{mi:En->Hh->Res (Ck×List D)}{mc:En->Hh->Res Bool}{me:En->Hh->Res D}
  (hc:X.calm=true) (th:Thr X Z) (hi:L2.PI X (t.py NC) iter (zv X.K cv (RJ X.K) Z mi)) (cok:ji X.env.scope scope X.N NC cap=true) (ht:t.ok scope NC=true)
  (hg:∀ C s H fp pn xe,PG (zt X NC scope C s H fp pn xe) (t.py NC) (gB X.K t))
  (hf:∀ C s H fp pn xe Zc,Thr (zt X NC scope C s H fp pn xe) Zc->PF (zt X NC scope C s H fp pn xe) ifs (zv X.K cv RB Zc mc))
  (hb:∀ C s H fp pn xe Zc,Thr (zt X NC scope C s H fp pn xe) Zc->PE (zt X NC scope C s H fp pn xe) elt (zv X.K cv (Rep X.K) Zc me))
  (hs:∀ x,foldedSetIterable iter X.env x=pure x) :
  PE X (.ListComp elt [⟨t.py NC,iter,ifs,0⟩] scope pos) (GJ X.K cv Z λ ρ h=>(mi ρ h).bind λ q h1=>if q.2.length<=1000000 then zS q.1 (zZ t (jX cap ρ) mc me) q.2 [] h1 else .no) :=
 PE.mono (OW hc th hi cok hg (tf:=λ Zc=>zv X.K cv RB Zc mc) (te:=λ Zc=>zv X.K cv (Rep X.K) Zc me) hf hb hs) λ σ H Q p=>JT cok ht p
theorem Kx.comp {scope:Scope}{NC:List Str}{cap:List (Option Nat)}(C:Kx X Z k n cv cl)(cok:ji X.env.scope scope X.N NC cap=true)(hnd:NC.Nodup)(hgood:NC.all ZI=true){Cc:Addr}{s:Shared}{H:Hp}{fp:List Addr}{pn:List (Addr×Obj)}{xe:Value->Shared->Prop}{Zc:ZK}
  (th:Thr (zt X NC scope Cc s H fp pn xe) Zc):Kx (zt X NC scope Cc s H fp pn xe) Zc k ⟨NC,n.F,n.G⟩ cv cl:=by
 obtain ⟨c1,c2,c3,c4,c5,c6,c7⟩:=j5 cok;refine ⟨th,C.rm,rfl,hnd,rfl,c1,λ x hx=>⟨?_,Y1k.mp hgood x hx⟩,C.bm,C.gc,C.fn,C.mc,C.xc⟩;obtain ⟨j,hj⟩:=Y1r hx;have cok':=cok;unfold ji at cok';simp only [Y0p] at cok';obtain ⟨⟨⟨⟨⟨k1,k2⟩,k3⟩,k4⟩,k5⟩,k6⟩:=cok';have hl:j<NC.length:=(Y0e.mp hj).1;have hk:=Y1k.mp k6 j (Y39.mpr hl);have rel:(relabel scope X.env).names.lookup x=(scope.names.lookup x).map λ k=>if k=.free then .cell else k:=wM (scope:=scope) C.kd λ y hy e=>c4 y hy e;rw [hj] at hk;show Vis (relabel scope X.env) x;unfold Vis;rw [rel];cases e:cap[j]? with
 | none=>rw [e] at hk;cases hk
 | some o =>
  rw [e] at hk;cases o with
  | none =>
   have hk':scope.names.lookup x=some .local\/scope.names.lookup x=some .cell:=by simpa using hk
   rcases hk' with hk' | hk'
   ·rw [hk'];exact .inl rfl
   ·rw [hk'];exact .inr (.inl rfl)
  | some m =>
   simp only [Y0p,beq_iff_eq] at hk;rw [hk.2];exact .inr (.inl rfl)
end
theorem RepKs.merge {K:Y00}{μ:List Addr}{H:Hp}:∀ {more:List (Key×D)}{mv:List (Key×V)}{ds:List (Key×D)}{vs:List (Key×V)},RepKs K μ H more mv->RepKs K μ H ds vs->RepKs K μ H (wN ds more) (we vs mv)
 | _,_,_,_,.nil,r=>r
 | _,_,ds,vs,@RepKs.cons _ _ _ k d v ds' vs' h t,r=>by
  have z:=RepKs.merge (ds:=ZF ds k d) (vs:=wL vs k v) t (r.put h);exact z
theorem RepKs.zip {K:Y00}{μ:List Addr}{H:Hp}:∀ (ks:List (Str×Pos)) {ds:List D}{vs:List V},Reps K μ H ds vs->RepKs K μ H ((ks.map λ q=>(Sum.inr q.1:Key)).zip ds) ((ks.map λ q=>(Sum.inr q.1:Key)).zip vs)
 | [],_,_,_=>.nil
 | q::ks,_,_,.nil=>.nil
 | q::ks,_,_,.cons h t=>.cons h (RepKs.zip ks t)
theorem JU {K:Y00}{μ:List Addr}{H:Hp}:∀ {ds:List D}{vs:List V}{kvs:List (Key×D)},Reps K μ H ds vs->wn ds=some kvs ->
  ∃ mv:List (Key×V),RepKs K μ H kvs mv/\Paired (λ (x:V) (kv:Key×V)=>∃ a,x=.ref a/\SqT K H a [kV kv.1,kv.2]) vs mv
 | _,_,_,.nil,e=>by
  unfold wn at e;cases e;exact ⟨[],.nil,.nil⟩
 | _,_,kvs,@Reps.cons _ _ _ d v ds vs h t,e=>by
  unfold wn at e;cases e1:Ug d with
  | none=>rw [e1] at e;simp at e
  | some a =>
   cases e2:wn ds with
   | none=>rw [e1,e2] at e;simp at e
   | some b =>
    rw [e1,e2] at e;simp only [Option.some.injEq] at e;subst e;obtain ⟨mv,m1,m2⟩:=JU t e2;unfold Ug at e1;split at e1
    ·rename_i k x;cases ek:qy k with
     | none=>rw [ek] at e1;simp at e1
     | some q =>
      rw [ek] at e1;simp only [Y2n,Option.some.injEq] at e1;subst e1;cases h with
      | tup h1 h2 =>
       cases h2 with
       | cons hk ht =>
        cases ht with
        | cons hx hn =>
         cases hn
         have:=ZN hk ek
         subst this;exact ⟨_,.cons hx m1,.cons ⟨_,rfl,h1⟩ m2⟩
    ·cases e1
theorem z2t {X:Cx}{Z:ZK}{n:Nm}{cv:Nat->Value}{cl:Nat->List D->Hh->Res D}:Jp X Z n cv cl .nil:=by
 intro ks pos hl;cases ks with
 | nil =>
  refine ⟨[],OS,λ σ H Q=>ze λ μ ρ h hr er q=>?_⟩;exact q.here hr .nil
 | cons _ _=>cases hl
theorem BA {X:Cx}{Z:ZK}{n:Nm}{cv:Nat->Value}{cl:Nat->List D->Hh->Res D}{e:E}{r:Es}(se:PE X (e.py n) (zv X.K cv (Rep X.K) Z (e.ev cl)))(sr:Jp X Z n cv cl r):Jp X Z n cv cl (.cons e r):=by
 intro ks pos hl;have hl:ks.length=(e.py n::r.py n).length:=hl;cases ks with
 | nil=>cases hl
 | cons k ks =>
  obtain ⟨trs,p1,p2⟩:=sr ks pos (by simpa using hl);refine ⟨(tC (.str k.1),zv X.K cv (Rep X.K) Z (e.ev cl))::trs,G7 VG se p1,λ σ H Q=>ze λ μ ρ h hr er q=>?_⟩;show zv X.K cv (Rep X.K) Z (e.ev cl) σ H _;refine zf (m:=e.ev cl) hr er q λ da h1 μ1 H1 x _ e1 r1 er1 qa p3=>?_;refine p2 σ H1 _ (zf (m:=r.ev cl) r1 er1 p3 λ ds h2 μ2 H2 xs _ e2 r2 er2 qb p4=>?_);exact p4.here r2 (.cons (qa.mono e2) qb)
section
variable {X:Cx}{cv:Nat->Value}
theorem Yx (hc:X.calm=true):zY X (.type "dict") (λ xs H Q=>∃ x,xs=[x]/\r1 X.K cv Uh x H Q):=by
 intro pins s σ H xs us Q I r hh;obtain ⟨x,rfl,μ,h,a,Z',hr,ra,p⟩:=hh;unfold Uh at p;cases ra with
 | @loc nn b mm =>
  simp only at p;cases e:rd h nn with
  | none=>rw [e] at p;exact p.elim
  | some ds =>
   rw [e] at p;simp only at p;split at p
   ·rename_i hl;cases e2:wn ds with
    | none=>rw [e2] at p;exact p.elim
    | some kvs =>
     rw [e2] at p;have e3:h[nn]?=some (.lst ds):=by
      unfold rd at e;cases e4:h[nn]? with
      | none=>rw [e4] at e;cases e
      | some o=>cases o with
       | lst xs=>rw [e4] at e;cases e;rfl
       | dK _=>rw [e4] at e;cases e
       | obj _ _=>rw [e4] at e;cases e
     obtain ⟨vs,q1,q2⟩:=wR hr mm e3;obtain ⟨mv,m1,m2⟩:=JU q2 e2;refine Yl hc pins s σ H _ us Q I r ⟨b,vs,mv,rfl,SqL.of q1,by rw [<- q2.length];exact hl,m2,λ l hb=>?_⟩;refine p _ _ _ ((zq hb).add hb) (hr.alloc hb (hr.fresh hb) λ μ' g=>⟨_,zx,((RepKs.merge m1 .nil).mono (zq hb)).mono' g⟩) (.loc ?_);rw [<- hr.len,Y08 (Y04 _),Y11];rfl
   ·exact p.elim
 | _=>exact p.elim
theorem Vh {ks:List (Str×Pos)}{n:Nat}{b:Addr}{μ0 μ1:List Addr}{H0 H1:Hp}{h1:Hh}{xs:List D}{us:List V}{Q:VK}{Z:Value->Hp->Prop}(hb:μ1[n]?=some b)(r1:HR X.K μ1 h1 H1)(qa:Reps X.K μ1 H1 xs us)(h15:ks.length<=15)(e0:Ext X.K μ0 H0 μ1 H1)(p:PostE X.K cv (Rep X.K) μ0 H0 (Ui ks n xs h1) Q Z) :
  H1 b=some (.dK [])/\∃ kvs:List (Key×V),((ks.map λ q=>V.str q.1).zip us)=kvs.map (λ kv=>(kV kv.1,kv.2))/\kvs.length<=15/\Q (.ref b) (upd H1 b (.dK (we [] kvs))):=by
 unfold Ui at p;split at p
 ·rename_i e;obtain ⟨vs,q1,q2⟩:=r1.obj n b _ hb e;cases q2;obtain ⟨hr2,ex2⟩:=r1.chg (o':=.dK (wN [] ((ks.map λ q=>(Sum.inr q.1:Key)).zip xs))) (u:=.dK (we [] ((ks.map λ q=>(Sum.inr q.1:Key)).zip us))) e hb λ H' ex eH=>⟨_,eH,RepKs.merge (RepKs.zip ks (qa.mono ex)) .nil⟩;refine ⟨q1,(ks.map λ q=>(Sum.inr q.1:Key)).zip us,?_,?_,p μ1 _ _ (e0.trans ex2) hr2 (.loc hb)⟩
  ·clear p hr2 ex2 qa h15 e q1
   induction ks generalizing us with
   | nil=>rfl
   | cons k ks ih =>
    cases us with
    | nil=>rfl
    | cons u us=>simp only [Y0i,List.zip_cons_cons];rw [ih];rfl
  ·rw [Y2p,Y0d];exact Y15 (Nat.min_le_left ..) h15
 ·exact p.elim
end
end PI
namespace PI
open PySem PySem.Spec PyProof.Rows L2
theorem JV {d:D}{h:Hh}{q:Ck×List D}(e:Z8 d h=some q):stay q.1 h:=by
 cases d with
 | tup xs=>cases e;intro p hp;cases hp
 | fl xs=>cases e;intro p hp;cases hp
 | loc n =>
  have e:(PI.rd h n).map (λ xs=>(([(n,xs)],xs):Ck×List D))=some q:=e;cases e1:PI.rd h n with
  | none=>rw [e1] at e;cases e
  | some xs =>
   rw [e1] at e;cases e;intro p hp;rw [Y0a.mp hp];exact e1
 | _=>cases e
section
variable {K:Y00}{μ:List Addr}{h:Hh}
theorem ZP:∀ (ts:List Addr) {H:Hp}{ds es:List D}{xs ys:List V},Reps K μ H ds xs->Reps K μ H es ys->ts.length=min xs.length ys.length->(∀ t∈ts,H t=none)->ts.Nodup->HR K μ h H ->
  Ext K μ H μ (Wu H (ts.zip (xs.zip ys)))/\HR K μ h (Wu H (ts.zip (xs.zip ys)))/\Reps K μ (Wu H (ts.zip (xs.zip ys))) ((ds.zip es).map w4) (ts.map V.ref)
 | [],H,ds,es,xs,ys,r1,r2,hl,_,_,hr=>by
  refine ⟨Ext.refl,hr,?_⟩;have l1:=r1.length;have l2:=r2.length;have e:(ds.zip es).map w4=[]:=by
   apply List.eq_nil_of_length_eq_zero;rw [Y0d,Y2p,l1,l2];exact hl.symm
  rw [e];exact .nil
 | t::ts,H,ds,es,xs,ys,r1,r2,hl,hn,nd,hr=>by
  cases r1 with
  | nil=>simp at hl
  | @cons d x ds xs rx r1 =>
   cases r2 with
   | nil=>simp at hl
   | @cons e y es ys ry r2 =>
    have ht:=hn t Y03;have nd':=Y1i.mp nd;have ex:Ext K μ H μ (upd H t (.tup [x,y])):=zq ht;obtain ⟨e1,e2,e3⟩:=ZP ts (r1.mono ex) (r2.mono ex) (by simp only [Y09] at hl;omega) (λ t' ht'=>(zo (show t'≠t from λ z=>nd'.1 (by rw [<- z];exact ht'))).trans (hn t' (Y02 _ ht'))) nd'.2 (hr.tup ht);have q:Rep K μ (upd H t (.tup [x,y])) (w4 (d,e)) (.ref t):=.tup (.inl (.inl zx)) (.cons (rx.mono ex) (.cons (ry.mono ex) .nil));exact ⟨ex.trans e1,e2,.cons (q.mono e1) e3⟩
theorem BB {cv:Nat->Value}{H:Hp}{d d2:D}{x y:V}{Q:VK}{Z:Value->Hp->Prop}(hr:HR K μ h H)(qa:Rep K μ H d x)(qb:Rep K μ H d2 y)(p:PostE K cv (Rep K) μ H (lzD d d2 h) Q Z):rLZ K [x,y] H Q:=by
 unfold lzD at p;cases g1:Z8 d h with
 | none=>rw [g1] at p;exact p.elim
 | some s1 =>
  cases g2:Z8 d2 h with
  | none=>simp only [g1,g2] at p;exact p.elim
  | some s2 =>
   simp only [g1,g2] at p;obtain ⟨l1,b1,_,rfl,_,_,w1⟩:=qN qa hr g1;obtain ⟨l2,b2,_,rfl,_,_,w2⟩:=qN qb hr g2;obtain ⟨vs,u1,r1⟩:=w1 μ h H Ext.refl hr (JV g1);obtain ⟨ws,u2,r2⟩:=w2 μ h H Ext.refl hr (JV g2);refine ⟨l1,l2,b1,b2,vs,ws,rfl,u1,u2,λ ts l hl hn nd hx hfree=>?_⟩;obtain ⟨e1,e2,e3⟩:=ZP ts r1 r2 hl hn nd hr;have p':PostE K cv (Rep K) μ (Wu H (ts.zip (vs.zip ws))) (new (.lst ((s1.2.zip s2.2).map w4)) h) Q Z:=λ μ' H' v ex r q=>p μ' H' v (e1.trans ex) r q;refine qM e2 e3 p' l ?_;refine (Wv _ _ λ q hq z=>hx ?_).trans hfree
   have:=Y2g (show (q.1,q.2)∈ts.zip (vs.zip ws) from hq)
   rw [z];exact this.1
end
end PI
namespace PI
open PySem L2 PySem.Spec
open PyProof.Rows hiding St
section
variable {X:Cx}{Z:ZK}{k:Nat}{n:Nm}{cv:Nat->Value}{cl:Nat->List D->Hh->Res D}
theorem z2u (T:Nat)(h:T<5):bootBuiltins (yh T)=some (.type (Uf T))/\yh T≠"__name__"/\(yh T==("__debug__":Str))=false/\yh T∈WA:=by
 match T,h with
 | 0,_=>exact ⟨rfl,by decide,by decide,by decide⟩
 | 1,_=>exact ⟨rfl,by decide,by decide,by decide⟩
 | 2,_=>exact ⟨rfl,by decide,by decide,by decide⟩
 | 3,_=>exact ⟨rfl,by decide,by decide,by decide⟩
 | 4,_=>exact ⟨rfl,by decide,by decide,by decide⟩
theorem getD_some {α:Type}{xs:List α}{i:Nat}{d:α}(h:i<xs.length):xs[i]?=some (xs.getD i d):=by
 rw [Y0q,Y0f h];rfl
theorem ZQ {α:Type}{xs:List α}{i:Nat}{d:α}(h:i<xs.length):xs.getD i d∈xs:=Y1e (getD_some h)
theorem PO.mono {X:Cx}{e:Option Expr}{t t':TO}(p:PO X e t)(h:∀ σ H Q,t' σ H Q->t σ H Q):PO X e t':=λ pins s σ H Q I q=>p pins s σ H Q I (h σ H Q q)
theorem ZR (o:E)(x:Str)(env:Env):attributeBase (o.py n) x env (eval (o.py n) env)=eval (o.py n) env:=by
 cases o with
 | ofL l=>cases l<;>(rfl)
 | _=>rfl
theorem BC (a : E)(pos : Pos)(env : Env) : ((backTo pos (starEach [a.py n] env)).all (λ x => !x.1)&&(backToKw pos (keywordEach [] env)).all (λ x => x.1.isSome)
      && decide (([a.py n]:List Expr).length+([]:List Keyword).length+(if ([]:List Keyword).isEmpty then 0 else 1)<30))=true:=by
  rw [zh];rfl
theorem z4k {K:Y00}{μ:List Addr}{H:Hp}{h:Hh}{m:M0}{d:D}{v:V}(hr:HR K μ h H)(r:Rep K μ H d v)(e:m0D m d h≠.no):tyV K "list" v H:=by
 unfold m0D at e;cases r with
 | @loc nn b mm =>
  cases e1:h[nn]? with
  | none=>simp only [e1] at e;exact absurd rfl e
  | some o =>
   cases o with
   | dK _=>simp only [e1] at e;exact absurd rfl e
   | obj _ _=>simp only [e1] at e;exact absurd rfl e
   | lst ds=>obtain ⟨vs,q1,q2⟩:=wR hr mm e1;exact .inl ⟨rfl,vs,SqL.of q1⟩
 | _=>exact absurd rfl e
theorem Reps.isEmpty {K:Y00}{μ:List Addr}{H:Hp}{ds:List D}{vs:List V}(r:Reps K μ H ds vs):ds.isEmpty=vs.isEmpty:=by cases r<;>rfl
theorem z2v {K:Y00}{cv:Nat->Value}{R:List Addr->Hp->D->V->Prop}{μ:List Addr}{H:Hp}{h:Hh}{d:D}{v:V}{r:Res D}{Q:VK}{Z:Value->Hp->Prop}(hr:HR K μ h H)(q:Rep K μ H d v)(p:PostE K cv R μ H (onL d h r) Q Z):tyV K "list" v H/\PostE K cv R μ H r Q Z:=by
 unfold onL at p;cases q with
 | @loc nn b mm =>
  cases e1:h[nn]? with
  | none=>simp only [e1] at p;exact p.elim
  | some o =>
   cases o with
   | dK _=>simp only [e1] at p;exact p.elim
   | obj _ _=>simp only [e1] at p;exact p.elim
   | lst ds=>simp only [e1] at p;obtain ⟨vs,q1,q2⟩:=wR hr mm e1;exact ⟨.inl ⟨rfl,vs,SqL.of q1⟩,p⟩
 | _=>exact p.elim
theorem yi (it:I){env:Env}:∀ x,foldedSetIterable (it.py n) env x=pure x:=by
 intro x;cases it with
 | seq e =>
  cases e with
  | ofL l=>cases l<;>(rfl)
  | _=>rfl
 | lst l=>cases l<;>(rfl)
 | rng a p0 p=>rfl
 | rev e p0 p=>rfl
 | zip a b p0 p=>rfl
theorem Uq {elt:E}{t:Tg}{it:I}{c:Es}{NC:List Str}{cap:List (Option Nat)}{csc:Scope}{p:Pos}(C:Kx X Z k n cv cl)(h:(L.comp elt t it c NC cap csc p).ok X.env.scope n=true) :
  (it.ok X.env.scope n=true/\t.forI it=true)/\ji X.env.scope csc X.N NC cap=true/\NC.Nodup/\NC.all ZI=true/\t.ok csc NC=true/\elt.ok (Uk csc X.env.scope) ⟨NC,n.F,n.G⟩=true/\c.ok (Uk csc X.env.scope) ⟨NC,n.F,n.G⟩=true/\c.okT=true/\c.short=true:=by
 have h:(_&&_)=true:=h;simp only [Y0p,decide_eq_true_eq] at h;obtain ⟨⟨⟨⟨⟨⟨⟨⟨k1,k2⟩,k3⟩,k4⟩,k5⟩,k6⟩,k7⟩,k8⟩,k9⟩:=h;exact ⟨k1,by rw [C.nN];exact k2,k3,k4,k5,k6,k7,k8,k9⟩
theorem Ur {Zc:ZK}{m:Nm}:PF X (Es.nil.py m) (zv X.K cv RB Zc (Es.nil.evC cl)):=by
 refine λ pins s σ H Q I q=>z2g pins s σ H Q I ?_;obtain ⟨μ,ρ,h,hr,er,q⟩:=q;exact q.here hr rfl
theorem Us {scope:Scope}{NC:List Str}{cap:List (Option Nat)}{t:Tg}(kd:X.env.scope.kind=.function)(cok:ji X.env.scope scope X.N NC cap=true)(hnd:NC.Nodup)(ht:t.ok scope NC=true){Cc:Addr}{s:Shared}{H:Hp}{fp:List Addr}{pn:List (Addr×Obj)}{xe:Value->Shared->Prop} :
  PG (zt X NC scope Cc s H fp pn xe) (t.py NC) (gB X.K t):=by
 refine z4i (X:=zt X NC scope Cc s H fp pn xe) rfl hnd t λ i hi=>?_;unfold Tg.ok at ht;have h1:=Y1k.mp ht i hi;rw [Y0p] at h1;have h2:scope.names.lookup (NC.getD i "")=some .local\/scope.names.lookup (NC.getD i "")=some .cell:=of_decide_eq_true h1.2;obtain ⟨c1,c2,c3,c4,c5,c6,c7⟩:=j5 cok;have rel:∀ x,(relabel scope X.env).names.lookup x=(scope.names.lookup x).map λ k=>if k=.free then .cell else k:=λ x=>wM (scope:=scope) kd λ y hy e=>c4 y hy e;refine ⟨of_decide_eq_true h1.1,?_,?_⟩
 ·show Loc (relabel scope X.env) _;unfold L2.Loc;rw [rel];rcases h2 with h2 | h2
  ·rw [h2];exact .inl rfl
  ·rw [h2];exact .inr rfl
 ·rcases h2 with h2 | h2
  ·refine .inr ?_;show (relabel scope X.env).names.lookup _=_;rw [rel,h2];rfl
  ·refine .inl ?_;show (scope.names.lookup _==some NameKind.cell)=true;rw [h2];rfl
theorem GN {X:Cx}{d:Addr}:zY X (.builtin "isinstance") (λ xs H Q=>∃ a C b dx vs,xs=[.ref a,.ref d]/\H a=some (.ins C dx vs)/\Cls X.K C/\IsK X.K C/\PySem.W.kitOne X.K (.ref C) (.ref d)=some b/\Q (.bl b) H):=by
 intro pins s σ H xs us Q I r h;obtain ⟨a,C,b,dx,vs,rfl,ea,cl,Z,e,q⟩:=h;obtain ⟨u,w',rfl,rx,rw'⟩:=z07 r;cases (show w'=Value.ref d from rw');exact wB I rx (.ins ea cl Z.ha Z.hn Z.ht Z.hm) e λ tk=>⟨.bl b,H,I.tok _,rfl,q⟩
mutual
theorem sE:∀ (e:E) (X:Cx) (Z:ZK) (k:Nat) (n:Nm) (cv:Nat->Value) (cl:Nat->List D->Hh->Res D),Kx X Z k n cv cl->e.ok X.env.scope n=true->SE X Z n cv cl e
 | .non p,X,Z,k,n,cv,cl,C,_=>⟨PE.mono z1d λ σ H Q q=>WB (λ _ _ _=>.non) q,λ z=>nomatch z⟩
 | .bl b p,X,Z,k,n,cv,cl,C,_=>⟨PE.mono z3k λ σ H Q q=>WB (λ _ _ _=>.bl b) q,λ z=>nomatch z⟩
 | .int i p,X,Z,k,n,cv,cl,C,_=>⟨PE.mono z1c λ σ H Q q=>WB (λ _ _ _=>.int i) q,λ z=>nomatch z⟩
 | .str x p,X,Z,k,n,cv,cl,C,_=>⟨PE.mono VG λ σ H Q q=>WB (λ _ _ _=>.str x) q,λ z=>nomatch z⟩
 | .var i p,X,Z,k,n,cv,cl,C,h=>by
  have hi:i<n.N.length:=of_decide_eq_true h;have hm:=C.nm _ (ZQ (d:=("":Str)) hi);have hv:=hm.1;have hg:=GC hm.2;have pe:PE X ((E.var i p).py n) (zv X.K cv (Rep X.K) Z ((E.var i p).ev cl)):=by
   refine PE.mono (VF (i:=i) (by rw [C.nN];exact getD_some hi) hv hg.1 hg.2) λ σ H Q=>ze λ μ ρ h hr er q=>?_;have q:PostE X.K cv (Rep X.K) μ H (match ρ[i]? with | some (some d)=>.ok d h | _=>.no) Q (Z σ):=q
   cases e:ρ[i]? with
   | none=>rw [e] at q;exact q.elim
   | some o =>
    cases o with
    | none=>rw [e] at q;exact q.elim
    | some d =>
     rw [e] at q;obtain ⟨v,e1,r1⟩:=er.val i d e;exact ⟨v,e1,q.here hr r1⟩
  exact ⟨pe,λ _=>by exact zC pe λ _=>rfl⟩
 | .bin op a b p,X,Z,k,n,cv,cl,C,h=>by
  have h':a.ok X.env.scope n=true/\b.ok X.env.scope n=true:=by have h:(_&&_)=true:=h;simpa using h
  have sa:=sE a X Z k n cv cl C h'.1;have sb:=sE b X Z k n cv cl C h'.2;have pe:PE X ((E.bin op a b p).py n) (zv X.K cv (Rep X.K) Z ((E.bin op a b p).ev cl)):=by
   refine PE.mono (z3u (z2q (cv:=cv) op) sa.pe sb.pe) λ σ H Q q=>?_;exact GE q
  exact ⟨pe,λ _=>by exact zC pe λ _=>rfl⟩
 | .un op a p,X,Z,k,n,cv,cl,C,h=>by
  have h':a.ok X.env.scope n=true:=by have h:(_&&_)=true:=h;simp at h;exact h.1
  have sa:=sE a X Z k n cv cl C h';cases op with
  | Not =>
   refine ⟨?_,λ z=>?_⟩
   ·skip;refine PE.mono (z1h sa.pe) λ σ H Q=>ze λ μ ρ h hr er q=>?_;refine zf (m:=a.ev cl) hr er q λ d h1 μ1 H1 x _ e1 r1 er1 qa p1=>?_;unfold unD at p1;cases qa with
    | bl b=>exact ⟨b,rfl,p1.here r1 (.bl _)⟩
    | _=>exact p1.elim
   ·skip;have z':a.okT=true:=by exact z
    refine PT.mono (z1g (sa.pt z')) λ σ H Q=>ze λ μ ρ h hr er q=>?_;refine ⟨μ,ρ,h,hr,er,?_⟩;have e1:(E.un .Not a p).evT cl ρ h=(a.evT cl ρ h).bind λ b h1=>.ok (!b) h1:=by
     rw [wP,wP,zp];show ((a.ev cl ρ h).bind λ x h1=>unD .Not x h1).bind toB=_;rw [zp]
     congr 1
     funext d h1
     unfold unD toB;cases d<;>rfl
    rw [e1] at q;cases e2:a.evT cl ρ h with
    | ok b h1 =>
     rw [e2] at q;intro μ1 H1 v x1 x2 x3;have x3':b=v:=x3;subst x3';exact q μ1 H1 (!b) x1 x2 rfl
    | exc c h1=>rw [e2] at q;exact q
    | no=>rw [e2] at q;exact q
  | Invert =>
   have pe:PE X ((E.un .Invert a p).py n) (zv X.K cv (Rep X.K) Z ((E.un .Invert a p).ev cl)):=by
    refine PE.mono (VQ (z0d (cv:=cv) .Invert (.inl rfl)) sa.pe) λ σ H Q q=>?_;exact z0c q
   exact ⟨pe,λ _=>by exact zC pe λ _=>rfl⟩
  | USub =>
   have pe:PE X ((E.un .USub a p).py n) (zv X.K cv (Rep X.K) Z ((E.un .USub a p).ev cl)):=by
    refine PE.mono (VQ (z0d (cv:=cv) .USub (.inr rfl)) sa.pe) λ σ H Q q=>?_;exact z0c q
   exact ⟨pe,λ _=>by exact zC pe λ _=>rfl⟩
  | UAdd =>
   have no:∀ {β:Type}{σ:St}{H:Hp}{R:List Addr->Hp->D->β->Prop}{Q:β->Hp->Prop},zv X.K cv R Z ((E.un .UAdd a p).ev cl) σ H Q->zv X.K cv (Rep X.K) Z (a.ev cl) σ H (λ _ _=>False):=by
    intro β σ H R Q ⟨μ,ρ,h,hr,er,q⟩;refine zf (m:=a.ev cl) hr er q λ d h1 μ1 H1 x _ e1 r1 er1 qa p1=>?_;unfold unD at p1;cases d<;>exact p1.elim
   have pe:PE X ((E.un .UAdd a p).py n) (zv X.K cv (Rep X.K) Z ((E.un .UAdd a p).ev cl)):=by
    refine PE.mono (VQ (r:=λ _ _ _=>False) (λ _ _ _ _ _ _ _ _ _ z=>z.elim) sa.pe) λ σ H Q q=>no q
   exact ⟨pe,λ _=>by exact zC pe λ _=>rfl⟩
 | .cmp op a b p,X,Z,k,n,cv,cl,C,h=>by
  have h':(a.ok X.env.scope n=true/\b.ok X.env.scope n=true)/\behindInMarks op (b.py n)=false:=by have h:(_&&_)=true:=h;simpa using h
  have sa:=sE a X Z k n cv cl C h'.1.1;have sb:=sE b X Z k n cv cl C h'.1.2;refine ⟨?_,λ _=>?_⟩
  ·skip;refine PE.mono (U4 (GB (cv:=cv) C.rm.units op) sa.pe sb.pe h'.2) λ σ H Q q=>?_;exact GE q
  ·skip;refine PT.mono (U5 (GB (cv:=cv) C.rm.units op) sa.pe sb.pe h'.2) λ σ H Q=>ze λ μ ρ h hr er q=>?_;have q:PostE X.K cv RB μ H (((a.ev cl ρ h).bind λ x h1=>(b.ev cl ρ h1).bind λ y h2=>zU op x y h2).bind toB) Q (Z σ):=q;rw [zp] at q;unfold VR;refine zf (m:=a.ev cl) hr er q λ da h1 μ1 H1 x _ e1 r1 er1 qa p1=>?_;rw [zp] at p1;refine zf (m:=b.ev cl) r1 er1 p1 λ db h2 μ2 H2 y _ e2 r2 er2 qb p2=>?_;refine ⟨μ2,h2,da,db,Z σ,r2,qa.mono e2,qb,?_⟩;cases e3:zU op da db h2 with
   | ok d h3 =>
    rw [e3] at p2;intro μ3 H3 v x1 x2 x3;unfold Res.bind toB at p2;cases x3 with
    | bl c=>exact ⟨c,rfl,p2 μ3 H3 c x1 x2 rfl⟩
    | _=>exact p2.elim
   | exc c h3=>rw [e3] at p2;exact p2
   | no=>rw [e3] at p2;exact p2
 | .and a b r p,X,Z,k,n,cv,cl,C,h=>by
  have h':((((a.ok X.env.scope n=true/\b.ok X.env.scope n=true)/\r.ok X.env.scope n=true)/\a.okT=true)/\b.okT=true)/\r.okT=true:=by have h:(_&&_)=true:=h;simpa using h
  have sa:=sE a X Z k n cv cl C h'.1.1.1.1.1;have sb:=sE b X Z k n cv cl C h'.1.1.1.1.2;have sr:=sEs r X Z k n cv cl C h'.1.1.1.2;refine ⟨?_,λ _=>?_⟩
  ·skip;refine PE.mono (VJ sa.pe (sr.an b p sb)) λ σ H Q=>ze λ μ ρ h hr er q=>?_;refine zf (m:=a.ev cl) hr er q λ d h1 μ1 H1 x _ e1 r1 er1 qa p1=>?_;unfold tru at p1;cases qa with
   | bl c =>
    refine ⟨c,rfl,?_⟩;cases c with
    | true=>exact Z4 ⟨μ1,ρ,h1,r1,er1,p1⟩
    | false=>exact Z3 (p1.here r1 (.bl _))
   | _=>exact p1.elim
  ·skip;refine PT.mono (PW.pt (VH (sa.pt h'.1.1.2) (sr.anT b p sb h'.1.2 h'.2))) λ σ H Q=>ze λ μ ρ h hr er q=>?_;have e0:(E.and a b r p).evT cl ρ h=(a.evT cl ρ h).bind λ c h1=>if c then (b.evT cl ρ h1).bind λ c' h2=>r.evAndT cl ρ c' h2 else .ok false h1:=by
    rw [wP,wP,zp];show ((a.ev cl ρ h).bind λ x h1=>tru x h1 λ c h1=>if c then (b.ev cl ρ h1).bind λ y h2=>r.evAnd cl ρ y h2 else .ok (.bl false) h1).bind toB=_;rw [zp]
    congr 1
    funext d h1
    unfold tru;cases d with
    | bl c =>
     cases c with
     | false=>rfl
     | true =>
      show ((b.ev cl ρ h1).bind λ y h2=>r.evAnd cl ρ y h2).bind toB=(b.evT cl ρ h1).bind λ c' h2=>r.evAndT cl ρ c' h2;rw [wP,zp,zp]
      congr 1
      funext y h2
      exact Ul r ρ y h2
    | _=>rfl
   rw [e0] at q;refine zf (m:=a.evT cl) (R:=RB) hr er q λ c h1 μ1 H1 x _ e1 r1 er1 qa p1=>?_;have qa':c=x:=qa;subst qa';cases c with
   | true=>exact Z4 ⟨μ1,ρ,h1,r1,er1,p1⟩
   | false=>exact Z3 (p1.here r1 rfl)
 | .or a b r p,X,Z,k,n,cv,cl,C,h=>by
  have h':((((a.ok X.env.scope n=true/\b.ok X.env.scope n=true)/\r.ok X.env.scope n=true)/\a.okT=true)/\b.okT=true)/\r.okT=true:=by have h:(_&&_)=true:=h;simpa using h
  have sa:=sE a X Z k n cv cl C h'.1.1.1.1.1;have sb:=sE b X Z k n cv cl C h'.1.1.1.1.2;have sr:=sEs r X Z k n cv cl C h'.1.1.1.2;refine ⟨?_,λ _=>?_⟩
  ·skip;refine PE.mono (z05 sa.pe (sr.orr b p sb)) λ σ H Q=>ze λ μ ρ h hr er q=>?_;refine zf (m:=a.ev cl) hr er q λ d h1 μ1 H1 x _ e1 r1 er1 qa p1=>?_;unfold tru at p1;cases qa with
   | bl c =>
    refine ⟨c,rfl,?_⟩;cases c with
    | true=>exact Z4 (p1.here r1 (.bl _))
    | false=>exact Z3 ⟨μ1,ρ,h1,r1,er1,p1⟩
   | _=>exact p1.elim
  ·skip;refine PT.mono (PW.pt (z04 (sa.pt h'.1.1.2) (sr.orT b p sb h'.1.2 h'.2))) λ σ H Q=>ze λ μ ρ h hr er q=>?_;have e0:(E.or a b r p).evT cl ρ h=(a.evT cl ρ h).bind λ c h1=>if c then .ok true h1 else (b.evT cl ρ h1).bind λ c' h2=>r.evOrT cl ρ c' h2:=by
    rw [wP,wP,zp];show ((a.ev cl ρ h).bind λ x h1=>tru x h1 λ c h1=>if c then .ok (.bl true) h1 else (b.ev cl ρ h1).bind λ y h2=>r.evOr cl ρ y h2).bind toB=_;rw [zp]
    congr 1
    funext d h1
    unfold tru;cases d with
    | bl c =>
     cases c with
     | true=>rfl
     | false =>
      show ((b.ev cl ρ h1).bind λ y h2=>r.evOr cl ρ y h2).bind toB=(b.evT cl ρ h1).bind λ c' h2=>r.evOrT cl ρ c' h2;rw [wP,zp,zp]
      congr 1
      funext y h2
      exact GD r ρ y h2
    | _=>rfl
   rw [e0] at q;refine zf (m:=a.evT cl) (R:=RB) hr er q λ c h1 μ1 H1 x _ e1 r1 er1 qa p1=>?_;have qa':c=x:=qa;subst qa';cases c with
   | true=>exact Z4 (p1.here r1 rfl)
   | false=>exact Z3 ⟨μ1,ρ,h1,r1,er1,p1⟩
 | .ite c a b p,X,Z,k,n,cv,cl,C,h=>by
  have h':((c.ok X.env.scope n=true/\a.ok X.env.scope n=true)/\b.ok X.env.scope n=true)/\c.okT=true:=by have h:(_&&_)=true:=h;simpa using h
  have sc:=sE c X Z k n cv cl C h'.1.1.1;have sa:=sE a X Z k n cv cl C h'.1.1.2;have sb:=sE b X Z k n cv cl C h'.1.2;refine ⟨?_,λ z=>nomatch z⟩;refine PE.mono (VL (sc.pt h'.2) sa.pe sb.pe) λ σ H Q=>ze λ μ ρ h hr er q=>?_;have e0:((c.ev cl ρ h).bind λ x h1=>tru x h1 λ t h1=>if t then a.ev cl ρ h1 else b.ev cl ρ h1)=(c.evT cl ρ h).bind λ t h1=>if t then a.ev cl ρ h1 else b.ev cl ρ h1:=by
   rw [wP,zp]
   congr 1
   funext d h1
   unfold tru toB;cases d<;>rfl
  have q:PostE X.K cv (Rep X.K) μ H ((c.ev cl ρ h).bind λ x h1=>tru x h1 λ t h1=>if t then a.ev cl ρ h1 else b.ev cl ρ h1) Q (Z σ):=q;rw [e0] at q;refine zf (m:=c.evT cl) (R:=RB) hr er q λ t h1 μ1 H1 x _ e1 r1 er1 qa p1=>?_;have qa':t=x:=qa;subst qa';cases t with
  | true=>exact Z4 ⟨μ1,ρ,h1,r1,er1,p1⟩
  | false=>exact Z3 ⟨μ1,ρ,h1,r1,er1,p1⟩
 | .call f a r p0 p,X,Z,k,n,cv,cl,C,h=>by
  have h':((f<n.F.length/\gOf X.env.scope (n.F.getD f "")=true)/\a.ok X.env.scope n=true)/\r.ok X.env.scope n=true:=by have h:(_&&_)=true:=h;simp only [Y0p,decide_eq_true_eq] at h;exact ⟨⟨⟨h.1.1.1.1,h.1.1.2⟩,h.1.2⟩,h.2⟩
  have hnc:(n.G.any λ q=>decide (q.2=Cn.cls f))=false:=by have h:(_&&_)=true:=h;simp only [Y0p,Bool.not_eq_true'] at h;exact h.1.1.1.2
  have sa:=sE a X Z k n cv cl C h'.1.2;have sr:=sEs r X Z k n cv cl C h'.2;obtain ⟨hdb,fa,fd,ps,hm,_,hk,hb,hl,F⟩:=C.fn f _ (getD_some (d:=("":Str)) h'.1.1.1) hnc;have pe:PE X ((E.call f a r p0 p).py n) (zv X.K cv (Rep X.K) Z ((E.call f a r p0 p).ev cl)):=by
   refine PE.mono (Ga F (C.rm.mono (by omega)) (C.gl h'.1.1.2) hm hk hb .nil C.th (zw sa.pe sr.pa (zh a _ _)) hdb (zh a _ _) (wQ r p X.env)) λ σ H Q=>ze λ μ ρ h hr er q=>?_;unfold G9 VW;refine zf (m:=a.ev cl) hr er q λ da h1 μ1 H1 x _ e1 r1 er1 qa p1=>?_;refine zf (m:=r.ev cl) r1 er1 p1 λ ds h2 μ2 H2 xs _ e2 r2 er2 qb p2=>?_;show spI X.K cv ps.length (cl f) ((x::xs)++[]) H2 Q λ C _ H'=>Z σ C H';rw [Y0y];have z:=hl (da::ds) h2 λ z=>by rw [z] at p2;exact p2
   exact ⟨by rw [Y09,<- qb.length,<- Y09 (a:=da)];exact z,μ2,h2,da::ds,r2,.cons (qa.mono e2) qb,p2⟩
  exact ⟨pe,λ _=>by exact zC pe λ _=>rfl⟩
 | .callG x kvs key a r p0 p1 p,X,Z,k,n,cv,cl,C,h=>by
  have h:(_&&_)=true:=h;simp only [Y0p,decide_eq_true_eq] at h;obtain ⟨⟨⟨⟨⟨hg,hG⟩,hk⟩,ha⟩,hr⟩,hall⟩:=h;have sk:=sE key X Z k n cv cl C hk;have sa:=sE a X Z k n cv cl C ha;have sr:=sEs r X Z k n cv cl C hr;obtain ⟨hd,v,hm,ok⟩:=C.gc x _ hG;have pe:PE X ((E.callG x kvs key a r p0 p1 p).py n) (zv X.K cv (Rep X.K) Z ((E.callG x kvs key a r p0 p1 p).ev cl)):=by
   have ok':=ok;obtain ⟨d,o,es,ep,vs,rfl,_⟩:=ok';refine PE.mono (Gu (VZ (GF (kvs:=kvs)) (jB (v:=.ref d) (C.gl hg) hm rfl hd) sk.pe (ZJ key)) C.th (zw sa.pe sr.pa (zh a _ _)) (zh a _ _) (wQ r p X.env)) λ σ H Q=>ze λ μ ρ h hr er q=>?_;refine zf (m:=key.ev cl) hr er q λ y h1 μ1 H1 z _ e1 r1 er1 qa q1=>?_;cases qa with
   | str kk =>
    unfold fnOf at q1;simp only at q1;cases l:kvs.lookup kk with
    | none=>rw [l] at q1;exact q1.elim
    | some c =>
     rw [l] at q1;cases c with
     | tup _=>exact q1.elim
     | int _=>exact q1.elim
     | oth=>exact q1.elim
     | fn i y =>
      simp only at q1;have hm2:(kk,Cv.fn i y)∈kvs:=ZM l;have hf:=Y1k.mp hall _ hm2;simp only [Y0p,decide_eq_true_eq,Bool.not_eq_true'] at hf;obtain ⟨hdb,fa,fd,ps,hm3,hns,hkp,hb,hl,F⟩:=C.fn i _ hf.1 hf.2;refine ⟨d,kk,_,rfl,rfl,ok,l,λ b tk=>?_⟩;obtain ⟨f,rfl,tk⟩:=tk;rw [hns] at tk;cases tk;refine ⟨fa,_,fd,ps,_,rfl,F,C.rm.mono (by omega),hkp,hb,?_⟩;refine zf (m:=a.ev cl) r1 er1 q1 λ da h2 μ2 H2 w _ e2 r2 er2 qb q2=>?_;refine zf (m:=r.ev cl) r2 er2 q2 λ ds h3 μ3 H3 ws _ e3 r3 er3 qc q3=>?_;have z:=hl (da::ds) h3 λ z=>by rw [z] at q3;exact q3
      exact ⟨by rw [Y09,<- qc.length,<- Y09 (a:=da)];exact z,μ3,h3,da::ds,r3,.cons (qb.mono e3) qc,q3⟩
   | _=>exact q1.elim
  exact ⟨pe,λ _=>by exact zC pe λ _=>rfl⟩
 | .fld a f p,X,Z,k,n,cv,cl,C,h=>by
  have h':a.ok X.env.scope n=true/\f∈j0:=by have h:(_&&_)=true:=h;simpa using h
  have sa:=sE a X Z k n cv cl C h'.1;have pe:PE X ((E.fld a f p).py n) (zv X.K cv (Rep X.K) Z ((E.fld a f p).ev cl)):=by
   refine PE.mono (z21 sa.pe (Ys a f _ _)) λ σ H Q=>ze λ μ ρ h hr er q=>?_;refine zf (m:=a.ev cl) hr er q λ da h1 μ1 H1 x _ e1 r1 er1 qa p1=>?_;unfold Jo at p1;cases qa with
   | @loc nn b m =>
    cases e2:h1[nn]? with
    | none=>simp only [e2] at p1;exact p1.elim
    | some o =>
     have q:=r1.obj nn b o m e2;cases o with
     | lst _=>simp only [e2] at p1;exact p1.elim
     | dK _=>simp only [e2] at p1;exact p1.elim
     | obj y fs =>
      simp only [e2] at p1;obtain ⟨Cc,dx,vs,q1,q2,q3⟩:=q;cases e3:fs.lookup f with
      | none=>rw [e3] at p1;exact p1.elim
      | some d =>
       rw [e3] at p1;obtain ⟨v,e4,e5⟩:=q3.get e3;exact ⟨b,Cc,dx,vs,v,rfl,q1,q2.cl,q2.na f h'.2,e4,p1.here r1 e5⟩
   | _=>exact p1.elim
  exact ⟨pe,λ _=>by exact zC pe λ _=>rfl⟩
 | .mk i x a r p0 p,X,Z,k,n,cv,cl,C,h=>by
  have h':((gOf X.env.scope x=true/\(x,Cn.cls i)∈n.G)/\a.ok X.env.scope n=true)/\r.ok X.env.scope n=true:=by have h:(_&&_)=true:=h;simpa using h
  have sa:=sE a X Z k n cv cl C h'.1.2;have sr:=sEs r X Z k n cv cl C h'.2;obtain ⟨hdb,Ca,f,fd,ps,hm,M,CN,hb,hl,F⟩:=C.mc x i h'.1.1.2;have pe:PE X ((E.mk i x a r p0 p).py n) (zv X.K cv (Rep X.K) Z ((E.mk i x a r p0 p).ev cl)):=by
   refine PE.mono (Gs M F C.rm (C.gl h'.1.1.1) hm hb C.th (zw sa.pe sr.pa (zh a _ _)) hdb (zh a _ _) (wQ r p X.env)) λ σ H Q=>ze λ μ ρ h hr er q=>?_;unfold Gr VW;refine zf (m:=a.ev cl) hr er q λ da h1 μ1 H1 y _ e1 r1 er1 qa p1=>?_;refine zf (m:=r.ev cl) r1 er1 p1 λ ds h2 μ2 H2 ys _ e2 r2 er2 qb p2=>?_;intro b dx hb1 hb2 ne;have e3:Ext X.K μ2 H2 μ2 (upd H2 dx (.own b)):=zq hb2;have hb3:upd H2 dx (.own b) b=none:=by rw [zo (Ne.symm ne)];exact hb1
   have r3:HR X.K μ2 h2 (upd H2 dx (.own b)):=r2.tup hb2;have nb:b∉μ2:=r3.fresh hb3;have r4:=r3.alloc (o:=.obj x []) (u:=.ins Ca dx []) hb3 nb λ μ' _=>⟨Ca,dx,[],zx,CN,.nil⟩;have e4:Ext X.K μ2 H2 (μ2++[b]) (upd (upd H2 dx (.own b)) b (.ins Ca dx [])):=e3.trans ((zq hb3).add hb3);have lb:(μ2++[b])[h2.length]?=some b:=by rw [<- r2.len];simp
   have ne0:cl i (.loc h2.length::da::ds) (h2++[.obj x []])≠.no:=λ z=>by rw [z] at p2;exact p2
   have z:=hl _ _ ne0;refine ⟨by rw [Y09,Y09,<- qb.length,<- Y09 (a:=da),<- Y09 (a:=D.loc h2.length)];exact z,μ2++[b],h2++[.obj x []],.loc h2.length::da::ds,r4,.cons (.loc lb) (.cons ((qa.mono e2).mono e4) (qb.mono e4)),?_⟩;cases ec:cl i (.loc h2.length::da::ds) (h2++[.obj x []]) with
   | no=>exact absurd ec ne0
   | exc c h3 =>
    rw [ec] at p2;exact λ μ3 H3 e5 r5=>p2 μ3 H3 (e4.trans e5) r5
   | ok d h3 =>
    rw [ec] at p2;cases d with
    | non =>
     intro μ3 H3 v e5 r5 q5;cases q5;exact ⟨rfl,p2 μ3 H3 (.ref b) (e4.trans e5) r5 (.loc (e5.loc _ _ lb))⟩
    | _=>exact p2.elim
  exact ⟨pe,λ _=>by exact zC pe λ _=>rfl⟩
 | .len a p0 p,X,Z,k,n,cv,cl,C,h=>by
  have h':gOf X.env.scope "len"=true/\a.ok X.env.scope n=true:=by have h:(_&&_)=true:=h;simpa using h
  have sa:=sE a X Z k n cv cl C h'.2;have pe:PE X ((E.len a p0 p).py n) (zv X.K cv (Rep X.K) Z ((E.len a p0 p).ev cl)):=by
   refine PE.mono (wC (Va (cv:=cv)) (C.gl h'.1) (C.bm _ (by decide)) PySem.boot_len (zw sa.pe zM (zh a _ _)) (by decide) (by decide) (zh a _ _) rfl) λ σ H Q=>ze λ μ ρ h hr er q=>?_;refine zf (m:=a.ev cl) hr er q λ da h1 μ1 H1 x _ e1 r1 er1 qa p1=>?_;exact ⟨x,rfl,μ1,h1,da,_,r1,qa,p1⟩
  exact ⟨pe,λ _=>by exact zC pe λ _=>rfl⟩
 | .isi T a p0 p1 p,X,Z,k,n,cv,cl,C,h=>by
  have h':((gOf X.env.scope "isinstance"=true/\gOf X.env.scope (yh T)=true)/\T<5)/\a.ok X.env.scope n=true:=by have h:(_&&_)=true:=h;simpa using h
  have sa:=sE a X Z k n cv cl C h'.2;obtain ⟨b1,b2,b3,b4⟩:=z2u T h'.1.2;have pe:PE X ((E.isi T a p0 p1 p).py n) (zv X.K cv (Rep X.K) Z ((E.isi T a p0 p1 p).ev cl)):=by
   refine PE.mono (wC (GG (cv:=cv) T h'.1.2) (C.gl h'.1.1.1) (C.bm _ (by decide)) PyProof.Rows.boot_isinstance (zw sa.pe (zw (Ox (v:=.ty (Uf T)) (C.gl h'.1.1.2) (C.bm _ b4) b1 rfl b2 b3) zM) (zh a _ _)) (by decide) (by decide) (zh a _ _) rfl) λ σ H Q=>ze λ μ ρ h hr er q=>?_;refine zf (m:=a.ev cl) hr er q λ da h1 μ1 H1 x _ e1 r1 er1 qa p1=>?_;exact ⟨x,rfl,μ1,h1,da,_,r1,qa,p1⟩
  exact ⟨pe,λ _=>by exact zC pe λ _=>rfl⟩
 | .isC x ys a p0 p1 p,X,Z,k,n,cv,cl,C,h=>by
  have h':((gOf X.env.scope "isinstance"=true/\gOf X.env.scope x=true)/\(x,Cn.isc x ys)∈n.G)/\a.ok X.env.scope n=true:=by have h:(_&&_)=true:=h;simpa using h
  have sa:=sE a X Z k n cv cl C h'.2;obtain ⟨hd,v,hm,Dd,rfl,ok⟩:=C.gc x _ h'.1.2;have pe:PE X ((E.isC x ys a p0 p1 p).py n) (zv X.K cv (Rep X.K) Z ((E.isC x ys a p0 p1 p).ev cl)):=by
   refine PE.mono (wC (GN (d:=Dd)) (C.gl h'.1.1.1) (C.bm _ (by decide)) PyProof.Rows.boot_isinstance (zw sa.pe (zw (jB (v:=.ref Dd) (C.gl h'.1.1.2) hm rfl hd) zM) (zh a _ _)) (by decide) (by decide) (zh a _ _) rfl) λ σ H Q=>ze λ μ ρ h hr er q=>?_;refine zf (m:=a.ev cl) hr er q λ da h1 μ1 H1 y _ e1 r1 er1 qa p1=>?_;unfold Bb at p1;cases qa with
   | @loc nn b m =>
    cases e2:h1[nn]? with
    | none=>simp only [e2] at p1;exact p1.elim
    | some o =>
     have q:=r1.obj nn b o m e2;cases o with
     | lst _=>simp only [e2] at p1;exact p1.elim
     | dK _=>simp only [e2] at p1;exact p1.elim
     | obj y fs =>
      simp only [e2] at p1;obtain ⟨Cc,dx,vs,q1,q2,q3⟩:=q;by_cases hy:y∈ys
      ·rw [if_pos hy] at p1;obtain ⟨C',g1,g2,g3⟩:=ok y hy;have e4:=q2.nm.symm.trans g1;cases e4;exact ⟨b,Cc,_,dx,vs,rfl,q1,q2.cl,g2,g3,p1.here r1 (.bl _)⟩
      ·rw [if_neg hy] at p1;exact p1.elim
   | _=>exact p1.elim
  exact ⟨pe,λ _=>by exact zC pe λ _=>rfl⟩
 | .sub a i p,X,Z,k,n,cv,cl,C,h=>by
  have h':a.ok X.env.scope n=true/\i.ok X.env.scope n=true:=by have h:(_&&_)=true:=h;simpa using h
  have sa:=sE a X Z k n cv cl C h'.1;have sb:=sE i X Z k n cv cl C h'.2;have pe:PE X ((E.sub a i p).py n) (zv X.K cv (Rep X.K) Z ((E.sub a i p).ev cl)):=by
   refine PE.mono (VZ (Bn (cv:=cv) (z08 C.rm)) sa.pe sb.pe (ZJ i)) λ σ H Q q=>?_;exact GE q
  exact ⟨pe,λ _=>by exact zC pe λ _=>rfl⟩
 | .tup es p,X,Z,k,n,cv,cl,C,h=>by
  have h':es.ok X.env.scope n=true:=by exact h
  have sr:=sEs es X Z k n cv cl C h';have pe:PE X ((E.tup es p).py n) (zv X.K cv (Rep X.K) Z ((E.tup es p).ev cl)):=by
   refine PE.mono (z23 sr.pa) λ σ H Q=>ze λ μ ρ h hr er q=>?_;refine zf (m:=es.ev cl) hr er q λ ds h1 μ1 H1 xs _ e1 r1 er1 qa p1=>?_;split at p1
   ·rename_i c;refine ⟨by rw [<- qa.length];exact Y2k (JI c),λ a ha=>?_⟩;exact p1 μ1 _ (.ref a) (zq ha) (r1.tup ha) (.tup (SqT.of zx) (qa.mono (zq ha)))
   ·exact p1.elim
  exact ⟨pe,λ _=>by exact zC pe λ _=>rfl⟩
 | .ofL l,X,Z,k,n,cv,cl,C,h=>by
  have sl:=sL l X Z k n cv cl C (by exact h);refine ⟨?_,λ z=>nomatch z⟩;refine PE.mono sl λ σ H Q=>ze λ μ ρ h hr er q=>?_;refine jk (m:=l.ev cl) Ext.refl hr er q (λ _ _ z=>z) λ ds h1 μ1 H1 x _ e1 r1 er1 qa p1=>?_;obtain ⟨p,vs,rfl,g1,g2,g3,g4⟩:=qa;refine p1 (μ1++[p]) H1 _ (e1.add g4) (r1.add g3 λ μ' gr=>⟨vs,g1,g2.mono' gr⟩) (.loc ?_);rw [<- r1.len,Y08 (Y04 _),Y11];rfl
 | .tupE e p0 p,X,Z,k,n,cv,cl,C,h=>by
  have h':gOf X.env.scope "tuple"=true/\e.ok X.env.scope n=true:=by have h:(_&&_)=true:=h;simpa using h
  have se:=sE e X Z k n cv cl C h'.2;have pe:PE X ((E.tupE e p0 p).py n) (zv X.K cv (Rep X.K) Z ((E.tupE e p0 p).ev cl)):=by
   refine PE.mono (wD (Vb (cv:=cv)) (C.gl h'.1) (C.bm _ (by decide)) PyProof.Rows.boot_tuple (zw se.pe zM (zh e _ _)) (by decide) (by decide) (zh e _ _) rfl) λ σ H Q=>ze λ μ ρ h hr er q=>?_;refine zf (m:=e.ev cl) hr er q λ da h1 μ1 H1 x _ e1 r1 er1 qa p1=>?_;exact ⟨x,rfl,μ1,h1,da,_,r1,qa,p1⟩
  exact ⟨pe,λ _=>by exact zC pe λ _=>rfl⟩
 | .listE e p0 p,X,Z,k,n,cv,cl,C,h=>by
  have h':gOf X.env.scope "list"=true/\e.ok X.env.scope n=true:=by have h:(_&&_)=true:=h;simpa using h
  have se:=sE e X Z k n cv cl C h'.2;have pe:PE X ((E.listE e p0 p).py n) (zv X.K cv (Rep X.K) Z ((E.listE e p0 p).ev cl)):=by
   refine PE.mono (wD (Yv (cv:=cv)) (C.gl h'.1) (C.bm _ (by decide)) PyProof.Rows.boot_list (zw se.pe zM (zh e _ _)) (by decide) (by decide) (zh e _ _) rfl) λ σ H Q=>ze λ μ ρ h hr er q=>?_;refine zf (m:=e.ev cl) hr er q λ da h1 μ1 H1 x _ e1 r1 er1 qa p1=>?_;exact ⟨x,rfl,μ1,h1,da,_,r1,qa,p1⟩
  exact ⟨pe,λ _=>by exact zC pe λ _=>rfl⟩
 | .dicP e p0 p,X,Z,k,n,cv,cl,C,h=>by
  have h':gOf X.env.scope "dict"=true/\e.ok X.env.scope n=true:=by have h:(_&&_)=true:=h;simpa using h
  have se:=sE e X Z k n cv cl C h'.2;have pe:PE X ((E.dicP e p0 p).py n) (zv X.K cv (Rep X.K) Z ((E.dicP e p0 p).ev cl)):=by
   refine PE.mono (wD (Yx (cv:=cv) C.cm) (C.gl h'.1) (C.bm _ (by decide)) rfl (zw se.pe zM (zh e _ _)) (by decide) (by decide) (zh e _ _) rfl) λ σ H Q=>ze λ μ ρ h hr er q=>?_;refine zf (m:=e.ev cl) hr er q λ da h1 μ1 H1 x _ e1 r1 er1 qa p1=>?_;exact ⟨x,rfl,μ1,h1,da,_,r1,qa,p1⟩
  exact ⟨pe,λ _=>by exact zC pe λ _=>rfl⟩
 | .dispD ks vs p,X,Z,k,n,cv,cl,C,h=>by
  have h':((vs.ok X.env.scope n=true/\ks.length=(vs.py n).length)/\ks.length<=15)/\0<ks.length:=by have h:(_&&_)=true:=h;simpa using h
  have sv:=sEs vs X Z k n cv cl C h'.1.1.1;obtain ⟨trs,pp,go⟩:=sv.ps ks p h'.1.1.2;refine ⟨?_,λ z=>nomatch z⟩;refine PE.mono (OT pp (by simp) (by rw [Y0d];exact h'.1.1.2) (λ z=>by have:=congrArg List.length z;rw [Y0d] at this;have:=h'.2;simp_all) (by rw [Y0d];exact h'.1.2)) λ σ H Q=>ze λ μ ρ h hr er q=>?_;intro b hb;have hr':HR X.K (μ++[b]) (h++[.dK []]) (upd H b (.dK [])):=hr.alloc hb (hr.fresh hb) λ μ' g=>⟨_,zx,.nil⟩;have e0:Ext X.K μ H (μ++[b]) (upd H b (.dK [])):=(zq hb).add hb;refine go σ _ _ (jk (m:=vs.ev cl) e0 hr' (er.mono e0) q (λ _ _ z=>z) λ ds h1 μ1 H1 us _ e1 r1 er1 qa p1=>?_);refine Vh (e1.loc h.length b ?_) r1 qa h'.1.2 (e0.trans e1) p1;rw [<- hr.len,Y08 (Y04 _),Y11];rfl
 | .cut a lo hi p2 p,X,Z,k,n,cv,cl,C,h=>by
  have h':(a.ok X.env.scope n=true/\lo.ok X.env.scope n=true)/\hi.ok X.env.scope n=true:=by have h:(_&&_)=true:=h;simpa using h
  have sa:=sE a X Z k n cv cl C h'.1.1;have sl:=sEo lo X Z k n cv cl C h'.1.2;have sh:=sEo hi X Z k n cv cl C h'.2;have pe:PE X ((E.cut a lo hi p2 p).py n) (zv X.K cv (Rep X.K) Z ((E.cut a lo hi p2 p).ev cl)):=by
   refine PE.mono (VY (Br (cv:=cv)) sa.pe sl sh) λ σ H Q=>ze λ μ ρ h hr er q=>?_;refine zf (m:=a.ev cl) hr er q λ da h1 μ1 H1 x _ e1 r1 er1 qa p1=>?_;refine zf (m:=lo.ev cl) (R:=λ _ _ a b=>a=b) r1 er1 p1 λ l h2 μ2 H2 l' _ e2 r2 er2 ql p2=>?_;have ql':l=l':=ql;subst ql';refine zf (m:=hi.ev cl) (R:=λ _ _ a b=>a=b) r2 er2 p2 λ u h3 μ3 H3 u' _ e3 r3 er3 qu p3=>?_;have qu':u=u':=qu;subst qu';exact ⟨μ3,h3,da,_,r3,(qa.mono e2).mono e3,p3⟩
  exact ⟨pe,λ _=>by exact zC pe λ _=>rfl⟩
 | .dic p,X,Z,k,n,cv,cl,C,h=>by
  refine ⟨?_,λ z=>nomatch z⟩;refine PE.mono G6 λ σ H Q=>ze λ μ ρ h hr er q=>?_;intro b hb;refine q _ _ _ ((zq hb).add hb) (hr.alloc hb (hr.fresh hb) λ μ' g=>⟨_,zx,.nil⟩) (.loc ?_);rw [<- hr.len,Y08 (Y04 _),Y11];rfl
 | .m0 m o p1 p,X,Z,k,n,cv,cl,C,h=>by
  have h':o.ok X.env.scope n=true/\p1.endLine=p.line:=by have h:(_&&_)=true:=h;simpa using h
  have so:=sE o X Z k n cv cl C h'.1;have hl:(p1.endLine==p.line)=true:=beq_iff_eq.mpr h'.2;have pe:PE X ((E.m0 m o p1 p).py n) (zv X.K cv (Rep X.K) Z ((E.m0 m o p1 p).ev cl)):=by
   cases m with
   | pop =>
    refine PE.mono (z28 PySem.F.plainAttrs_list PySem.F.slot_list_pop PySem.F.type_list_pop (Bo (cv:=cv)) so.pe (ZR o _ _) hl) λ σ H Q=>ze λ μ ρ h hr er q=>?_;refine zf (m:=o.ev cl) hr er q λ da h1 μ1 H1 x _ e1 r1 er1 qa p1=>?_;exact ⟨z4k r1 qa λ z=>by rw [z] at p1;exact p1,rfl,μ1,h1,da,_,r1,qa,p1⟩
  exact ⟨pe,λ _=>by exact zC pe λ _=>rfl⟩
 | .m1 m o a p1 p,X,Z,k,n,cv,cl,C,h=>by
  have h':(o.ok X.env.scope n=true/\a.ok X.env.scope n=true)/\p1.endLine=p.line:=by have h:(_&&_)=true:=h;simpa using h
  have so:=sE o X Z k n cv cl C h'.1.1;have sa:=sE a X Z k n cv cl C h'.1.2;have hl:(p1.endLine==p.line)=true:=beq_iff_eq.mpr h'.2;have pe:PE X ((E.m1 m o a p1 p).py n) (zv X.K cv (Rep X.K) Z ((E.m1 m o a p1 p).ev cl)):=by
   cases m with
   | append =>
    refine PE.mono (z44 PySem.F.plainAttrs_list PySem.F.slot_list_append PySem.F.type_list_append (Yu (cv:=cv)) so.pe (zw sa.pe zM (zh a _ _)) (ZR o _ _) (BC a _ _) hl (zh a _ _) rfl) λ σ H Q=>ze λ μ ρ h hr er q=>?_;refine zf (m:=o.ev cl) hr er q λ da h1 μ1 H1 x _ e1 r1 er1 qa p1=>?_;obtain ⟨ty,p1⟩:=z2v r1 qa p1;refine ⟨ty,?_⟩;refine zf (m:=a.ev cl) r1 er1 p1 λ db h2 μ2 H2 y _ e2 r2 er2 qb p2=>?_;exact ⟨y,rfl,μ2,h2,da,db,_,r2,qa.mono e2,qb,p2⟩
  exact ⟨pe,λ _=>by exact zC pe λ _=>rfl⟩
 | .gcon x c p,X,Z,k,n,cv,cl,C,h=>by
  have h':gOf X.env.scope x=true/\(x,c)∈n.G:=by have h:(_&&_)=true:=h;simpa using h
  obtain ⟨hd,v,hm,ok⟩:=C.gc x c h'.2;have pe:PE X ((E.gcon x c p).py n) (zv X.K cv (Rep X.K) Z ((E.gcon x c p).ev cl)):=by
   cases c with
   | int i =>
    obtain ⟨t,rfl⟩:=ok;refine PE.mono (jB (v:=.int i) (C.gl h'.1) hm ⟨t,rfl⟩ hd) λ σ H Q=>ze λ μ ρ h hr er q=>?_;exact q.here hr (.int i)
   | str z =>
    obtain ⟨t,rfl⟩:=ok;refine PE.mono (jB (v:=.str z) (C.gl h'.1) hm ⟨t,rfl⟩ hd) λ σ H Q=>ze λ μ ρ h hr er q=>?_;exact q.here hr (.str z)
   | tup xs =>
    obtain ⟨a,rfl,tk⟩:=ok;refine PE.mono (jB (v:=.ref a) (C.gl h'.1) hm rfl hd) λ σ H Q=>ze λ μ ρ h hr er q=>?_;exact q.here hr tk.rep
   | dic kvs =>
    obtain ⟨a,o,es,ep,vs,rfl,_⟩:=ok;refine PE.mono (jB (v:=.ref a) (C.gl h'.1) hm rfl hd) λ σ H Q=>ze λ μ ρ h hr er q=>?_;exact q.elim
   | cls i =>
    obtain ⟨a,rfl⟩:=ok;refine PE.mono (jB (v:=.ref a) (C.gl h'.1) hm rfl hd) λ σ H Q=>ze λ μ ρ h hr er q=>?_;exact q.elim
   | isc x' ys =>
    obtain ⟨a,rfl,_⟩:=ok;refine PE.mono (jB (v:=.ref a) (C.gl h'.1) hm rfl hd) λ σ H Q=>ze λ μ ρ h hr er q=>?_;exact q.elim
   | exc c u =>
    obtain ⟨a,_,_,_,_,rfl,_⟩:=ok;refine PE.mono (jB (v:=.ref a) (C.gl h'.1) hm rfl hd) λ σ H Q=>ze λ μ ρ h hr er q=>?_;exact q.elim
  exact ⟨pe,λ z=>by cases z⟩
 | .gsub x kvs i p0 p,X,Z,k,n,cv,cl,C,h=>by
  have h':(gOf X.env.scope x=true/\(x,Cn.dic kvs)∈n.G)/\i.ok X.env.scope n=true:=by have h:(_&&_)=true:=h;simpa using h
  obtain ⟨hd,v,hm,ok⟩:=C.gc x _ h'.1.2;have si:=sE i X Z k n cv cl C h'.2;have pe:PE X ((E.gsub x kvs i p0 p).py n) (zv X.K cv (Rep X.K) Z ((E.gsub x kvs i p0 p).ev cl)):=by
   have ok':=ok;obtain ⟨a,o,es,ep,vs,rfl,_⟩:=ok';refine PE.mono (VZ (GF (kvs:=kvs)) (jB (v:=.ref a) (C.gl h'.1.1) hm rfl hd) si.pe (ZJ i)) λ σ H Q=>ze λ μ ρ h hr er q=>?_;refine zf (m:=i.ev cl) hr er q λ d h1 μ1 H1 y _ e1 r1 er1 qa p1=>?_;unfold z4f at p1;cases qa with
   | str kk =>
    simp only at p1;split at p1
    ·rename_i xs l;split at p1
     ·exact p1.elim
     ·rename_i nf;exact ⟨a,kk,xs,rfl,rfl,ok,l,λ b tk=>p1.here r1 (tk.rep ((Bool.not_eq_true _).mp nf))⟩
    ·exact p1.elim
   | _=>exact p1.elim
  exact ⟨pe,λ _=>by exact zC pe λ _=>rfl⟩
 | .c1 f a p0 p,X,Z,k,n,cv,cl,C,h=>by
  have h':gOf X.env.scope f.name=true/\a.ok X.env.scope n=true:=by have h:(_&&_)=true:=h;simpa using h
  have sa:=sE a X Z k n cv cl C h'.2;have fin:∀ {σ H Q},zv X.K cv (Rep X.K) Z ((E.c1 f a p0 p).ev cl) σ H Q->zv X.K cv (Rep X.K) Z (a.ev cl) σ H λ x H1=>∃ y,[x]=[y]/\r1 X.K cv (c1D f) y H1 Q:=λ {σ H Q} ⟨μ,ρ,h,hr,er,q⟩=>by
   refine zf (m:=a.ev cl) hr er q λ da h1 μ1 H1 x _ e1 r1 er1 qa p1=>?_;exact ⟨x,rfl,μ1,h1,da,_,r1,qa,p1⟩
  have pe:PE X ((E.c1 f a p0 p).py n) (zv X.K cv (Rep X.K) Z ((E.c1 f a p0 p).ev cl)):=by
   cases f with
   | str=>exact PE.mono (wD (Vc (cv:=cv)) (C.gl h'.1) (C.bm _ (by decide)) PyProof.Rows.boot_str (zw sa.pe zM (zh a _ _)) (by decide) (by decide) (zh a _ _) rfl) λ σ H Q q=>fin q
   | int=>exact PE.mono (wD (Vd (cv:=cv)) (C.gl h'.1) (C.bm _ (by decide)) PyProof.Rows.boot_int (zw sa.pe zM (zh a _ _)) (by decide) (by decide) (zh a _ _) rfl) λ σ H Q q=>fin q
   | all=>exact PE.mono (wC (Vf (cv:=cv) C.cm) (C.gl h'.1) (C.bm _ (by decide)) PyProof.Rows.boot_all (zw sa.pe zM (zh a _ _)) (by decide) (by decide) (zh a _ _) rfl) λ σ H Q q=>fin q
   | any=>exact PE.mono (wC (Vg (cv:=cv) C.cm) (C.gl h'.1) (C.bm _ (by decide)) PyProof.Rows.boot_any (zw sa.pe zM (zh a _ _)) (by decide) (by decide) (zh a _ _) rfl) λ σ H Q q=>fin q
   | abs=>exact PE.mono (wC (Ve (cv:=cv)) (C.gl h'.1) (C.bm _ (by decide)) PyProof.Rows.boot_abs (zw sa.pe zM (zh a _ _)) (by decide) (by decide) (zh a _ _) rfl) λ σ H Q q=>fin q
  exact ⟨pe,λ _=>by exact zC pe λ _=>rfl⟩
 | .listR e p0 p1 p2 p,X,Z,k,n,cv,cl,C,h=>by
  have h':(gOf X.env.scope "list"=true/\gOf X.env.scope "reversed"=true)/\e.ok X.env.scope n=true:=by have h:(_&&_)=true:=h;simpa using h
  have se:=sE e X Z k n cv cl C h'.2;have pe:PE X ((E.listR e p0 p1 p2 p).py n) (zv X.K cv (Rep X.K) Z ((E.listR e p0 p1 p2 p).ev cl)):=by
   refine PE.mono (Ye C.cm (C.gl h'.1.2) (C.bm _ (by decide)) (C.gl h'.1.1) (C.bm _ (by decide)) (zw se.pe zM (zh e _ _)) (zh e _ _)) λ σ H Q=>ze λ μ ρ h hr er q=>?_;refine zf (m:=e.ev cl) hr er q λ d h1 μ1 H1 x _ e1 r1 er1 qa p1=>?_;unfold lrD at p1;cases qa with
   | @fl ds vs a f r=>exact ⟨a,vs,rfl,f.sq,qM r1 r.reverse p1⟩
   | @loc nn b m =>
    cases e2:PI.rd h1 nn with
    | none=>simp only [e2] at p1;exact p1.elim
    | some ds =>
     simp only [e2] at p1;obtain ⟨vs,q1,q2⟩:=w5 r1 m e2;exact ⟨b,vs,rfl,SqL.of q1,qM r1 q2.reverse p1⟩
   | _=>exact p1.elim
  exact ⟨pe,λ _=>by exact zC pe λ _=>rfl⟩
 | .listZ a b p0 p1 p2 p,X,Z,k,n,cv,cl,C,h=>by
  have h':((gOf X.env.scope "list"=true/\gOf X.env.scope "zip"=true)/\a.ok X.env.scope n=true)/\b.ok X.env.scope n=true:=by have h:(_&&_)=true:=h;simpa using h
  have sa:=sE a X Z k n cv cl C h'.1.2;have sb:=sE b X Z k n cv cl C h'.2;have pe:PE X ((E.listZ a b p0 p1 p2 p).py n) (zv X.K cv (Rep X.K) Z ((E.listZ a b p0 p1 p2 p).ev cl)):=by
   refine PE.mono (Yo C.cm (C.gl h'.1.1.2) (C.bm _ (by decide)) (C.gl h'.1.1.1) (C.bm _ (by decide)) (zw sa.pe (zw sb.pe zM (zh b _ _)) (zh a _ _)) (zh a _ _) (by rw [zh];rfl)) λ σ H Q=>ze λ μ ρ h hr er q=>?_;refine zf (m:=a.ev cl) hr er q λ d h1 μ1 H1 x _ e1 r1 er1 qa p1=>?_;refine zf (m:=b.ev cl) r1 er1 p1 λ d2 h2 μ2 H2 y _ e2 r2 er2 qb p2=>?_;exact BB r2 (qa.mono e2) qb p2
  exact ⟨pe,λ _=>by exact zC pe λ _=>rfl⟩
 | .cmpN neg a p1 p,X,Z,k,n,cv,cl,C,h=>by
  have h':a.ok X.env.scope n=true:=by exact h
  have sa:=sE a X Z k n cv cl C h';have hu:X.A.units<cLine:=by have:=C.rm.units;omega
  have hop:OpR X (compareOp (if neg then .NotEq else .Eq)) (OX X.K neg):=by cases neg with | true=>exact Gg hu | false=>exact Gf hu
  have hb:behindInMarks (if neg then .NotEq else .Eq) (.List [] p1)=false:=by cases neg<;>rfl
  have fin:∀ {μ1:List Addr}{h1:Hh}{H1:Hp}{x:V}{da:D}{Q:VK}{Z1:Value->Hp->Prop},HR X.K μ1 h1 H1->Rep X.K μ1 H1 da x->PostE X.K cv (Rep X.K) μ1 H1 (Qi neg da h1) Q Z1->∀ b,H1 b=none->OX X.K neg x (.ref b) (upd H1 b (.lst [])) Q:=λ {μ1 h1 H1 x da Q Z1} r1 qa p1 b hb'=>by
   unfold Qi at p1;have q2:=SqL.of (K:=X.K) (zx (H:=H1) (a:=b) (o:=.lst []));cases qa with
   | @fl ds vs a f r =>
    refine ⟨a,b,vs,rfl,rfl,((zq (μ:=μ1) hb').fz _ _ f).sq,q2,?_⟩;have z:=p1 μ1 (upd H1 b (.lst [])) _ (zq hb') (r1.tup hb') (.bl _);rw [r.isEmpty] at z;exact z
   | @loc nn a m =>
    cases e2:PI.rd h1 nn with
    | none=>simp only [e2] at p1;exact p1.elim
    | some ds =>
     simp only [e2] at p1;obtain ⟨vs,q1,r⟩:=w5 r1 m e2;refine ⟨a,b,vs,rfl,rfl,SqL.of (by rw [zo (by intro z;rw [z,hb'] at q1;cases q1)];exact q1),q2,?_⟩;have z:=p1 μ1 (upd H1 b (.lst [])) _ (zq hb') (r1.tup hb') (.bl _);rw [r.isEmpty] at z;exact z
   | _=>exact p1.elim
  have pe:PE X ((E.cmpN neg a p1 p).py n) (zv X.K cv (Rep X.K) Z ((E.cmpN neg a p1 p).ev cl)):=by
   refine PE.mono (U4 hop sa.pe (Y4 zM) hb) λ σ H Q=>ze λ μ ρ h hr er q=>?_;refine zf (m:=a.ev cl) hr er q λ da h1 μ1 H1 x _ e1 r1 er1 qa p1=>?_;exact ⟨Y1d _,λ b hb'=>fin r1 qa p1 b hb'⟩
  refine ⟨pe,λ _=>?_⟩;refine PT.mono (U5 hop sa.pe (Y4 zM) hb) λ σ H Q=>ze λ μ ρ h hr er q=>?_;have q:PostE X.K cv RB μ H (((a.ev cl ρ h).bind λ x h1=>Qi neg x h1).bind toB) Q (Z σ):=q;rw [zp] at q;unfold VR;refine zf (m:=a.ev cl) hr er q λ da h1 μ1 H1 x _ e1 r1 er1 qa p1=>?_;refine ⟨Y1d _,λ b hb'=>fin (Z1:=Z σ) r1 qa ?_ b hb'⟩;cases e3:Qi neg da h1 with
  | ok d h3 =>
   rw [e3] at p1;intro μ3 H3 v x1 x2 x3;unfold Res.bind toB at p1;cases x3 with
   | bl c=>exact ⟨c,rfl,p1 μ3 H3 c x1 x2 rfl⟩
   | _=>exact p1.elim
  | exc c h3=>rw [e3] at p1;exact p1
  | no=>rw [e3] at p1;exact p1
theorem sEo:∀ (e:Eo) (X:Cx) (Z:ZK) (k:Nat) (n:Nm) (cv:Nat->Value) (cl:Nat->List D->Hh->Res D),Kx X Z k n cv cl->e.ok X.env.scope n=true->PO X (e.py n) (zv X.K cv (λ _ _ a b=>a=b) Z (e.ev cl))
 | .none,X,Z,k,n,cv,cl,C,h=>by
  refine PO.mono OM λ σ H Q=>ze λ μ ρ h hr er q=>?_;exact q.here hr rfl
 | .some e,X,Z,k,n,cv,cl,C,h=>by
  have se:=sE e X Z k n cv cl C (by exact h);refine PO.mono (ON se.pe) λ σ H Q=>ze λ μ ρ h hr er q=>?_;refine zf (m:=e.ev cl) hr er q λ d h1 μ1 H1 x _ e1 r1 er1 qa p1=>?_;unfold z4d at p1;cases qa with
  | int i=>exact ⟨i,rfl,p1.here r1 rfl⟩
  | _=>exact p1.elim
theorem sL:∀ (l:L) (X:Cx) (Z:ZK) (k:Nat) (n:Nm) (cv:Nat->Value) (cl:Nat->List D->Hh->Res D),Kx X Z k n cv cl->l.ok X.env.scope n=true->PE X (l.py n) (GJ X.K cv Z (l.ev cl))
 | .disp es p,X,Z,k,n,cv,cl,C,h=>by
  have sr:=sEs es X Z k n cv cl C (by exact h);refine PE.mono (Y4 sr.pa) λ σ H Q=>ze λ μ ρ h hr er q=>?_;refine jk (m:=es.ev cl) Ext.refl hr er q (λ _ _ z=>z) λ ds h1 μ1 H1 xs _ e1 r1 er1 qa p1=>?_;split at p1
  ·rename_i c;refine ⟨by rw [<- qa.length];exact Y2k (JI c),λ a ha=>?_⟩;have na:=r1.fresh ha;have n0:H a=none:=by
    cases e:H a with
    | none=>rfl
    | some o=>rw [e1.oth a o e λ z=>na (e1.sub z)] at ha;cases ha
   exact p1 μ1 _ _ (e1.trans (zq ha)) (r1.tup ha) ⟨a,xs,rfl,zx,qa.mono (zq ha),na,n0⟩
  ·exact p1.elim
 | .comp elt t it c NC cap csc p,X,Z,k,n,cv,cl,C,h=>by
  obtain ⟨k1,k2',k3,k4,k5,k6,k7,k8,k9⟩:=Uq C h;have hit:=sI it X Z k n cv cl C k1.1 t k1.2 NC;exact GM (X:=X) (Z:=Z) (cv:=cv) (mi:=it.ev cl) (mc:=c.evC cl) (me:=elt.ev cl) (pos:=p) (elt:=elt.py ⟨NC,n.F,n.G⟩) (iter:=it.py n) (ifs:=c.py ⟨NC,n.F,n.G⟩) C.cm C.th hit k2' k5
   (λ Cc s H fp pn xe=>Us C.kd k2' k3 k5)
   (λ Cc s H fp pn xe Zc th=>by
    have Cc':=C.comp k2' k3 k4 th;cases c with
    | nil=>exact Ur
    | cons e r =>
     cases r with
     | cons _ _=>cases k9
     | nil =>
      have se:=sE e _ Zc k ⟨NC,n.F,n.G⟩ cv cl Cc' (by have k7:(_&&_)=true:=k7;simp at k7;exact k7.1);have ht:=se.pt (by have k8:(_&&_)=true:=k8;simp at k8;exact k8.1);exact Gc ht)
   (λ Cc s H fp pn xe Zc th=>(sE elt _ Zc k ⟨NC,n.F,n.G⟩ cv cl (C.comp k2' k3 k4 th) k6).pe) (yi it)
theorem sI:∀ (it:I) (X:Cx) (Z:ZK) (k:Nat) (n:Nm) (cv:Nat->Value) (cl:Nat->List D->Hh->Res D),Kx X Z k n cv cl->it.ok X.env.scope n=true->∀ t:Tg,t.forI it=true->∀ N,L2.PI X (t.py N) (it.py n) (zv X.K cv (RJ X.K) Z (it.ev cl))
 | .seq e,X,Z,k,n,cv,cl,C,h=>λ t ht N=>by
  have se:=sE e X Z k n cv cl C (by exact h);refine PI.mono (z2s se.pe) λ σ H Q=>ze λ μ ρ h hr er q=>?_;refine zf (m:=e.ev cl) hr er q λ d h1 μ1 H1 x _ e1 r1 er1 qa p1=>?_;cases qa with
  | tup g1 g2=>exact .inr (.inl ⟨_,rfl,⟨_,g1⟩,p1.here r1 (Bu g1 g2)⟩)
  | fl g1 g2=>exact .inl ⟨_,rfl,⟨_,g1.sq⟩,p1.here r1 (z2r g1 g2)⟩
  | str z=>exact .inr (.inr ⟨_,rfl,p1.here r1 (Bv z)⟩)
  | @loc nn a m =>
   cases e2:rd h1 nn with
   | none=>simp only [e2] at p1;exact p1.elim
   | some xs =>
    simp only [e2] at p1;obtain ⟨vs,hs1,rs⟩:=r1.rd e2 m;exact .inl ⟨_,rfl,⟨_,hs1⟩,p1.here r1 (Bs m)⟩
  | _=>exact p1.elim
 | .lst l,X,Z,k,n,cv,cl,C,h=>λ t ht N=>by
  have sl:=sL l X Z k n cv cl C (by exact h);refine PI.mono (OE sl) λ σ H Q=>ze λ μ ρ h hr er q=>?_;refine jk (m:=l.ev cl) Ext.refl hr er q (λ _ _ z=>z) λ ds h1 μ1 H1 x _ e1 r1 er1 qa p1=>?_;obtain ⟨p,vs,rfl,g1,g2,g3,g4⟩:=qa;exact ⟨p,rfl,⟨vs,SqL.of g1⟩,p1 μ1 H1 _ e1 r1 (Bt g1 g3 g2)⟩
 | .rng a p0 p,X,Z,k,n,cv,cl,C,h=>λ t ht N=>by
  have h':gOf X.env.scope "range"=true/\a.ok X.env.scope n=true:=by have h:(_&&_)=true:=h;simpa using h
  have sa:=sE a X Z k n cv cl C h'.2;refine PI.mono (UQ (C.gl h'.1) (C.bm _ (by decide)) (zw sa.pe zM (zh a _ _)) (zh a _ _)) λ σ H Q=>ze λ μ ρ h hr er q=>?_;refine zf (m:=a.ev cl) hr er q λ d h1 μ1 H1 x _ e1 r1 er1 qa p1=>?_;cases qa with
  | int j =>
   simp only at p1;split at p1
   ·rename_i c;exact ⟨j,rfl,by have:=c.1;omega,by have:=c.2;omega,p1.here r1 (Bz j.toNat)⟩
   ·exact p1.elim
  | _=>exact p1.elim
 | .rev e p0 p,X,Z,k,n,cv,cl,C,h=>λ t ht N=>by
  have h':gOf X.env.scope "reversed"=true/\e.ok X.env.scope n=true:=by have h:(_&&_)=true:=h;simpa using h
  have sa:=sE e X Z k n cv cl C h'.2;refine PI.mono (B6 (C.gl h'.1) (C.bm _ (by decide)) (zw sa.pe zM (zh e _ _)) (zh e _ _)) λ σ H Q=>ze λ μ ρ h hr er q=>?_;refine zf (m:=e.ev cl) hr er q λ d h1 μ1 H1 x _ e1 r1 er1 qa p1=>?_;unfold z4e at p1;cases qa with
  | @fl ds vs a f r =>
   simp only at p1;refine ⟨a,vs,rfl,.inl ⟨f.sq,?_⟩⟩;rw [<- r.length];exact p1.here r1 (By f r)
  | @tup ds vs a f r =>
   simp only at p1;refine ⟨a,vs,rfl,.inr ⟨f,?_⟩⟩;rw [<- r.length];exact p1.here r1 (Bw f r)
  | @loc nn b m =>
   cases e2:PI.rd h1 nn with
   | none=>simp only [e2] at p1;exact p1.elim
   | some ds =>
    simp only [e2] at p1;obtain ⟨vs,q1,q2⟩:=w5 r1 m e2;refine ⟨b,vs,rfl,.inl ⟨SqL.of q1,?_⟩⟩;rw [<- q2.length];exact p1.here r1 (Bx m)
  | _=>exact p1.elim
 | .zip a b p0 p,X,Z,k,n,cv,cl,C,h=>λ t ht N=>by
  cases t with
  | one i q =>
   have h':(gOf X.env.scope "zip"=true/\a.ok X.env.scope n=true)/\b.ok X.env.scope n=true:=by have h:(_&&_)=true:=h;simpa using h
   have sa:=sE a X Z k n cv cl C h'.1.2;have sb:=sE b X Z k n cv cl C h'.2;refine PI.mono (B9 (C.gl h'.1.1) (C.bm _ (by decide)) (zw sa.pe (zw sb.pe zM (zh b _ _)) (zh a _ _)) (zh a _ _) (by rw [zh];rfl)) λ σ H Q=>ze λ μ ρ h hr er q=>?_;refine zf (m:=a.ev cl) hr er q λ d h1 μ1 H1 x _ e1 r1 er1 qa p1=>?_;refine zf (m:=b.ev cl) r1 er1 p1 λ d2 h2 μ2 H2 y _ e2 r2 er2 qb p2=>?_;unfold Qj at p2;cases g1:Z8 d h2 with
   | none=>rw [g1] at p2;exact p2.elim
   | some s1 =>
    cases g2:Z8 d2 h2 with
    | none=>simp only [g1,g2] at p2;exact p2.elim
    | some s2 =>
     simp only [g1,g2] at p2;obtain ⟨l1,b1,vs,rfl,u1,v1,w1⟩:=qN (qa.mono e2) r2 g1;obtain ⟨l2,b2,ws,rfl,u2,v2,w2⟩:=qN qb r2 g2;refine ⟨l1,l2,b1,b2,vs,ws,rfl,u1,u2,?_⟩;rw [v1,v2];exact p2.here r2 (Um w1 w2)
  | tup is q =>
   have h':(gOf X.env.scope "zip"=true/\a.ok X.env.scope n=true)/\b.ok X.env.scope n=true:=by have h:(_&&_)=true:=h;simpa using h
   have sa:=sE a X Z k n cv cl C h'.1.2;have sb:=sE b X Z k n cv cl C h'.2;refine PI.mono (z2h (C.gl h'.1.1) (C.bm _ (by decide)) (zw sa.pe (zw sb.pe zM (zh b _ _)) (zh a _ _)) (zh a _ _) (by rw [zh];rfl)) λ σ H Q=>ze λ μ ρ h hr er q=>?_;refine zf (m:=a.ev cl) hr er q λ d h1 μ1 H1 x _ e1 r1 er1 qa p1=>?_;refine zf (m:=b.ev cl) r1 er1 p1 λ d2 h2 μ2 H2 y _ e2 r2 er2 qb p2=>?_;unfold Qj at p2;cases g1:Z8 d h2 with
   | none=>rw [g1] at p2;exact p2.elim
   | some s1 =>
    cases g2:Z8 d2 h2 with
    | none=>simp only [g1,g2] at p2;exact p2.elim
    | some s2 =>
     simp only [g1,g2] at p2;obtain ⟨l1,b1,vs,rfl,u1,v1,w1⟩:=qN (qa.mono e2) r2 g1;obtain ⟨l2,b2,ws,rfl,u2,v2,w2⟩:=qN qb r2 g2;refine ⟨l1,l2,b1,b2,vs,ws,rfl,u1,u2,?_⟩;rw [v1,v2];exact p2.here r2 (Um w1 w2)
theorem sEs:∀ (r:Es) (X:Cx) (Z:ZK) (k:Nat) (n:Nm) (cv:Nat->Value) (cl:Nat->List D->Hh->Res D),Kx X Z k n cv cl->r.ok X.env.scope n=true->SEs X Z n cv cl r
 | .nil,X,Z,k,n,cv,cl,C,_=>by
  refine ⟨?_,λ b p sb=>?_,λ b p sb hb _=>?_,λ b p sb=>?_,λ b p sb hb _=>?_,z2t⟩
  ·skip;refine PA.mono zM λ σ H Q=>ze λ μ ρ h hr er q=>?_;exact q.here hr .nil
  ·skip;refine PE.mono (VI sb.pe) λ σ H Q=>ze λ μ ρ h hr er q=>⟨μ,ρ,h,hr,er,?_⟩;have q:PostE X.K cv (Rep X.K) μ H ((b.ev cl ρ h).bind λ a h1=>.ok a h1) Q (Z σ):=q
   rwa [jR] at q
  ·skip;refine PW.mono (Oy (sb.pt hb)) λ σ H Q=>ze λ μ ρ h hr er q=>⟨μ,ρ,h,hr,er,?_⟩;have q:PostE X.K cv RB μ H ((b.evT cl ρ h).bind λ a h1=>.ok a h1) Q (Z σ):=q
   rwa [jR] at q
  ·skip;refine PE.mono (VI sb.pe) λ σ H Q=>ze λ μ ρ h hr er q=>⟨μ,ρ,h,hr,er,?_⟩;have q:PostE X.K cv (Rep X.K) μ H ((b.ev cl ρ h).bind λ a h1=>.ok a h1) Q (Z σ):=q
   rwa [jR] at q
  ·skip;refine PW.mono (z1f (sb.pt hb)) λ σ H Q=>ze λ μ ρ h hr er q=>⟨μ,ρ,h,hr,er,?_⟩;have q:PostE X.K cv RB μ H ((b.evT cl ρ h).bind λ a h1=>.ok a h1) Q (Z σ):=q
   rwa [jR] at q
 | .cons e r,X,Z,k,n,cv,cl,C,h=>by
  have h':e.ok X.env.scope n=true/\r.ok X.env.scope n=true:=by have h:(_&&_)=true:=h;simpa using h
  have se:=sE e X Z k n cv cl C h'.1;have sr:=sEs r X Z k n cv cl C h'.2;refine ⟨?_,λ b p sb=>?_,λ b p sb hb hr'=>?_,λ b p sb=>?_,λ b p sb hb hr'=>?_,BA se.pe sr.ps⟩
  ·skip;refine PA.mono (zw se.pe sr.pa (zh e _ _)) λ σ H Q=>ze λ μ ρ h hr er q=>?_;refine zf (m:=e.ev cl) hr er q λ da h1 μ1 H1 x _ e1 r1 er1 qa p1=>?_;refine zf (m:=r.ev cl) r1 er1 p1 λ ds h2 μ2 H2 xs _ e2 r2 er2 qb p2=>?_;exact p2.here r2 (.cons (qa.mono e2) qb)
  ·skip;refine PE.mono (VJ sb.pe (sr.an e p se)) λ σ H Q=>ze λ μ ρ h hr er q=>?_;refine zf (m:=b.ev cl) hr er q λ d h1 μ1 H1 x _ e1 r1 er1 qa p1=>?_;cases qa with
   | bl c =>
    refine ⟨c,rfl,?_⟩;cases c with
    | true=>exact Z4 ⟨μ1,ρ,h1,r1,er1,p1⟩
    | false=>exact Z3 (p1.here r1 (.bl _))
   | _=>exact p1.elim
  ·skip;have hr2:e.okT=true/\r.okT=true:=by have hr':(_&&_)=true:=hr';simpa using hr'
   refine PW.mono (VH (sb.pt hb) (sr.anT e p se hr2.1 hr2.2)) λ σ H Q=>ze λ μ ρ h hr er q=>?_;refine zf (m:=b.evT cl) (R:=RB) hr er q λ c h1 μ1 H1 x _ e1 r1 er1 qa p1=>?_;have qa':c=x:=qa;subst qa';cases c with
   | true=>exact Z4 ⟨μ1,ρ,h1,r1,er1,p1⟩
   | false=>exact Z3 (p1.here r1 rfl)
  ·skip;refine PE.mono (z05 sb.pe (sr.orr e p se)) λ σ H Q=>ze λ μ ρ h hr er q=>?_;refine zf (m:=b.ev cl) hr er q λ d h1 μ1 H1 x _ e1 r1 er1 qa p1=>?_;cases qa with
   | bl c =>
    refine ⟨c,rfl,?_⟩;cases c with
    | true=>exact Z4 (p1.here r1 (.bl _))
    | false=>exact Z3 ⟨μ1,ρ,h1,r1,er1,p1⟩
   | _=>exact p1.elim
  ·skip;have hr2:e.okT=true/\r.okT=true:=by have hr':(_&&_)=true:=hr';simpa using hr'
   refine PW.mono (z04 (sb.pt hb) (sr.orT e p se hr2.1 hr2.2)) λ σ H Q=>ze λ μ ρ h hr er q=>?_;refine zf (m:=b.evT cl) (R:=RB) hr er q λ c h1 μ1 H1 x _ e1 r1 er1 qa p1=>?_;have qa':c=x:=qa;subst qa';cases c with
   | true=>exact Z4 (p1.here r1 rfl)
   | false=>exact Z3 ⟨μ1,ρ,h1,r1,er1,p1⟩
end
end
def PostS (K:Y00)(cv:Nat->Value)(μ:List Addr)(H:Hp)(r:RS)(En:Ends)(Z:ZK):Prop :=
 match r with
 | .nx ρ h'=>∀ μ' H' σ',Ext K μ H μ' H'->HR K μ' h' H'->ER K μ' ρ σ' H'->En.nx σ' H'
 | .bk ρ h'=>∀ μ' H' σ',Ext K μ H μ' H'->HR K μ' h' H'->ER K μ' ρ σ' H'->En.bk σ' H'
 | .ct ρ h'=>∀ μ' H' σ',Ext K μ H μ' H'->HR K μ' h' H'->ER K μ' ρ σ' H'->En.ct σ' H'
 | .rt d h'=>∀ μ' H' v,Ext K μ H μ' H'->HR K μ' h' H'->Rep K μ' H' d v->En.rt v H'
 | .ex c ρ h'=>∀ μ' H' σ',Ext K μ H μ' H'->HR K μ' h' H'->ER K μ' ρ σ' H'->Z σ' (cv c) H'
 | .no=>False
def ZS (K:Y00)(cv:Nat->Value)(Z:ZK)(m:En->Hh->RS):TS:=λ En σ H=>∃ μ ρ h,HR K μ h H/\ER K μ ρ σ H/\PostS K cv μ H (m ρ h) En Z
theorem zE {K:Y00}{cv:Nat->Value}{Z:ZK}{m:En->Hh->RS}{En:Ends}{σ:St}{H:Hp}{G:Prop}(f:∀ μ ρ h,HR K μ h H->ER K μ ρ σ H->PostS K cv μ H (m ρ h) En Z->G)(x:ZS K cv Z m En σ H):G:=by
 obtain ⟨μ,ρ,h,hr,er,q⟩:=x;exact f μ ρ h hr er q
theorem PostS.ext {K:Y00}{cv:Nat->Value}{μ μ1:List Addr}{H H1:Hp}{r:RS}{En:Ends}{Z:ZK}(p:PostS K cv μ H r En Z)(e:Ext K μ H μ1 H1):PostS K cv μ1 H1 r En Z:=by
 unfold PostS at p ⊢;cases r with
 | nx ρ h=>exact λ μ' H' σ' e1 r1 q1=>p μ' H' σ' (e.trans e1) r1 q1
 | bk ρ h=>exact λ μ' H' σ' e1 r1 q1=>p μ' H' σ' (e.trans e1) r1 q1
 | ct ρ h=>exact λ μ' H' σ' e1 r1 q1=>p μ' H' σ' (e.trans e1) r1 q1
 | rt d h=>exact λ μ' H' σ' e1 r1 q1=>p μ' H' σ' (e.trans e1) r1 q1
 | ex c ρ h=>exact λ μ' H' σ' e1 r1 q1=>p μ' H' σ' (e.trans e1) r1 q1
 | no=>exact p
theorem zP {α β:Type}{K:Y00}{cv:Nat->Value}{R:List Addr->Hp->α->β->Prop}{μ:List Addr}{ρ:En}{h:Hh}{σ:St}{H:Hp}{Z:ZK}{m:En->Hh->Res α}{f:α->Hh->RS}{En:Ends}{Q':β->Hp->Prop}
  (hr:HR K μ h H) (er:ER K μ ρ σ H) (p:PostS K cv μ H (jj ρ (m ρ h) f) En Z)
  (go:∀ a h1 μ1 H1 x,m ρ h=.ok a h1->Ext K μ H μ1 H1->HR K μ1 h1 H1->ER K μ1 ρ σ H1->R μ1 H1 a x->PostS K cv μ1 H1 (f a h1) En Z->Q' x H1) :
  zv K cv R Z m σ H Q':=by
 refine ⟨μ,ρ,h,hr,er,?_⟩;unfold jj at p;cases e:m ρ h with
 | ok a h1 =>
  rw [e] at p;exact λ μ1 H1 x e1 r1 q1=>go a h1 μ1 H1 x e e1 r1 (er.mono e1) q1 (PostS.ext p e1)
 | exc c h1 =>
  rw [e] at p;exact λ μ1 H1 e1 r1=>p μ1 H1 σ e1 r1 (er.mono e1)
 | no=>rw [e] at p;exact p
def Xt.ok (sc:Scope)(n:Nm)(t:Xt):Bool:=gOf sc t.x&&!(t.x==("__debug__":Str))&&(match t.d with
 | some d=>n.G.any λ q=>q.1==t.x&&(match q.2 with | .exc d' _=>d'==d | _=>false)
 | none=>t.x==("ValueError":Str))
def Xv.ok (sc:Scope)(n:Nm):Xv->Bool
 | .and a b r _=>a.ok sc n&&b.ok sc n&&r.all (Xt.ok sc n)
 | .lst ts _=>ts.all (Xt.ok sc n)&&decide (ts.length<=1000)
 | .one t=>t.ok sc n
structure XK' (X:Cx)(n:Nm)(cv:Nat->Value)(j:Nat):Prop where
 is:Gl X "isinstance"
 mi:X.mg "isinstance"=none
 mv:X.mg "ValueError"=none
 hj:X.N[j]?=some (n.N.getD j "")
 vi:Vis X.env.scope (n.N.getD j "")
 nd:(n.N.getD j ""==("__debug__":Str))=false
 nc:(n.N.getD j ""==("__classdict__":Str))=false
 gc:∀ x c u,(x,Cn.exc c u)∈n.G->∃ a,X.mg x=some (.ref a)/\cv c=.ref a
def E.noC:E->Bool
 | .ofL (.comp _ _ _ _ _ _ _ _)=>false
 | _=>true
def Fp.ok (n:Nm):Fp->Bool
 | .c _ _=>true
 | .r i _ _=>decide (i<n.N.length)
def Ms.ok (n:Nm):Ms->Bool
 | .s _ _=>true
 | .f a b r _=>a.ok n&&b.ok n&&r.all (λ q=>q.ok n)
mutual
def S.ok (sc:Scope)(n:Nm):S->Bool
 | .set i e _ _=>decide (i<n.N.length)&&e.ok sc n
 | .ret e _=>e.ok sc n
 | .iff c a b _=>c.ok sc n&&c.okT&&a.ok sc n&&b.ok sc n
 | .ex e _=>e.ok sc n&&e.noC
 | .retN _=>true
 | .setF o f v _ _=>o.ok sc n&&v.ok sc n&&decide (f∈j0)&&v.noC
 | .put o i v _ _=>o.ok sc n&&i.ok sc n&&v.ok sc n
 | .forr t it b _=>t.okS n.N&&(it.ok sc n&&t.forI it)&&b.ok sc n
 | .whil c b _=>c.ok sc n&&c.okT&&b.ok sc n
 | .raw _=>true
def Ss.ok (sc:Scope)(n:Nm):Ss->Bool
 | .nil=>true
 | .cons s r=>s.ok sc n&&r.ok sc n
end
theorem PS.mono {X:Cx}{e:Stmt}{t t':TS}(p:PS X e t)(h:∀ En σ H,t' En σ H->t En σ H):PS X e t':=λ pins s σ H En I q=>p pins s σ H En I (h En σ H q)
theorem PSs.mono {X:Cx}{e:List Stmt}{t t':TS}(p:PSs X e t)(h:∀ En σ H,t' En σ H->t En σ H):PSs X e t':=λ pins s σ H En I q=>p pins s σ H En I (h En σ H q)
structure KxS (X:Cx)(Z:ZK)(k:Nat)(n:Nm)(cv:Nat->Value)(cl:Nat->List D->Hh->Res D):Prop extends Kx X Z k n cv cl where
 lo:∀ x∈n.N,Loc X.env.scope x/\(X.fn x=true\/X.env.scope.names.lookup x=some .local)
theorem KxS.wish {X:Cx}{Z:ZK}{k:Nat}{n:Nm}{cv:Nat->Value}{cl:Nat->List D->Hh->Res D}(C:KxS X Z k n cv cl):KxS (X.wish (XE X Z)) Z k n cv cl :=
 ⟨⟨C.th.wished,C.rm,C.nN,C.nd,C.cm,C.kd,C.nm,C.bm,C.gc,C.fn,C.mc,C.xc⟩,C.lo⟩
section
variable {X:Cx}{Z:ZK}{k:Nat}{n:Nm}{cv:Nat->Value}{cl:Nat->List D->Hh->Res D}
theorem yZ (e:E)(h:e.noC=true)(t:Option Expr)(l:Nat)(env:Env):swapsWith (e.py n) t l env=pure false:=by
 cases e with
 | ofL l =>
  cases l with
  | disp es p=>rfl
  | comp=>cases h
 | _=>rfl
theorem Yy (o i : E)(p1 : Pos)(env : Env) : ∀ v, assign (.Subscript (o.py n) (i.py n) p1) env v = (do
      let ov <- holding [v] (eval (o.py n) env)
      let iv <- holding [v,ov] (eval (i.py n) env)
      standAt p1
      holding [v,ov,iv] (setItem ov iv v)
      release [v,ov,iv] []):=by
  intro v;generalize o.py n=oo;cases i with
  | ofL l=>cases l<;>(rfl)
  | _=>rfl
theorem Yz (o i e:E)(p1:Pos)(l:Nat)(env:Env):swapsWithSole [.Subscript (o.py n) (i.py n) p1] (e.py n) l env=pure false:=by
 generalize o.py n=oo;generalize i.py n=ii;cases e with
 | ofL l=>cases l<;>(rfl)
 | _=>rfl
theorem WC (o i e:E)(p1:Pos)(env:Env):swappedStores [.Subscript (o.py n) (i.py n) p1] (e.py n) env=pure none:=by
 generalize o.py n=oo;generalize i.py n=ii;cases e with
 | ofL l=>cases l<;>(rfl)
 | _=>rfl
theorem YA (e:E)(h:e.noC=true)(t:Option Expr)(l:Nat)(env:Env):swapsWith (e.py n) t l env=pure false:=by
 cases e with
 | ofL l=>cases l with
  | disp es p=>rfl
  | comp _ _ _ _ _ _ _ _=>cases h
 | _=>rfl
theorem YB {c:E}{b:Ss}{p:Pos}{En:Ends}{σ:St}{H:Hp}{μ:List Addr}{ρ:PI.En}{h:Hh}(hr:HR X.K μ h H)(er:ER X.K μ ρ σ H)(q:PostS X.K cv μ H ((S.whil c b p).run cl ρ h) En Z) :
  QV (zv X.K cv RB Z (c.evT cl)) (ZS X.K cv Z (b.run cl)) En σ H:=by
 have q:PostS X.K cv μ H (whR (λ ρ' h'=>c.evT cl ρ' h') (λ ρ' h'=>b.run cl ρ' h') ρ h) En Z:=q;have nz:whR (λ ρ' h'=>c.evT cl ρ' h') (λ ρ' h'=>b.run cl ρ' h') ρ h≠.no:=λ z=>by rw [z] at q;exact q
 obtain ⟨n0,e0⟩:=Wx nz;rw [<- e0] at q;refine ⟨λ m σ H=>∃ μ ρ h,HR X.K μ h H/\ER X.K μ ρ σ H/\PostS X.K cv μ H (whL (λ ρ' h'=>c.evT cl ρ' h') (λ ρ' h'=>b.run cl ρ' h') m ρ h) En Z,⟨n0,μ,ρ,h,hr,er,q⟩,?_⟩
 rintro m σ1 H1 ⟨μ1,ρ1,h1,hr1,er1,q1⟩
 cases m with
 | zero=>exact q1.elim
 | succ m =>
  rw [whL] at q1;refine ⟨μ1,ρ1,h1,hr1,er1,?_⟩;cases ec:c.evT cl ρ1 h1 with
  | ok t h2 =>
   rw [ec] at q1;intro μ2 H2 x e2 r2 hx;have hx':t=x:=hx;subst hx';cases t with
   | false=>exact Z3 (q1 μ2 H2 σ1 e2 r2 (er1.mono e2))
   | true =>
    refine Z4 ⟨λ σ' H'=>∃ μ ρ h,HR X.K μ h H'/\ER X.K μ ρ σ' H'/\PostS X.K cv μ H' (whL (λ ρ' h'=>c.evT cl ρ' h') (λ ρ' h'=>b.run cl ρ' h') m ρ h) En Z,λ σ' H' z=>⟨m,Y1x m,z⟩,μ2,ρ1,h2,r2,er1.mono e2,?_⟩;simp only at q1;have q2:=PostS.ext q1 e2;cases eb:b.run cl ρ1 h2 with
    | nx ρ4 h4=>simp only [eb] at q2;exact λ μ4 H4 σ4 e4 r4 er4=>⟨μ4,ρ4,h4,r4,er4,PostS.ext q2 e4⟩
    | ct ρ4 h4=>simp only [eb] at q2;exact λ μ4 H4 σ4 e4 r4 er4=>⟨μ4,ρ4,h4,r4,er4,PostS.ext q2 e4⟩
    | bk ρ4 h4=>simp only [eb] at q2;exact q2
    | rt d h4=>simp only [eb] at q2;exact q2
    | ex c' ρ4 h4=>simp only [eb] at q2;exact q2
    | no=>simp only [eb] at q2;exact q2
  | exc k h2 =>
   rw [ec] at q1;exact λ μ2 H2 e2 r2=>q1 μ2 H2 σ1 e2 r2 (er1.mono e2)
  | no=>rw [ec] at q1;exact q1
theorem Vi {c:Expr}{body:List Stmt}{tc:TT}{tb:TS}{pos:Pos}(th:Thr X Z)(hc:PT (X.wish (XE X Z)) c tc)(hb:PSs (X.wish (XE X Z)) body tb):PS X (.While c body [] pos) (QV tc tb):=by
 intro pins s σ H D I h;refine wpAny_mono (VO (X:=X.wish (XE X Z)) (JM th.toXOk) hc hb pins s σ H D (I.wish _) h) (λ f s' q=>q.unwish) λ e s' x=>th.thr e s' x
theorem GO {t:Tg}{it:I}{b:Ss}{En:Ends}{σ:St}{H:Hp}{μ:List Addr}{ρ:PI.En}{h:Hh}(hr:HR X.K μ h H)(er:ER X.K μ ρ σ H)(q:PostS X.K cv μ H ((S.forr t it b p).run cl ρ h) En Z) :
  z1p (zv X.K cv (RJ X.K) Z (it.ev cl)) (gB X.K t) (ZS X.K cv Z (b.run cl)) En σ H:=by
 refine zP (m:=it.ev cl) hr er q λ qq h1 μ1 H1 J _ e1 r1 er1 src p1=>?_;obtain ⟨c,ds⟩:=qq;refine ⟨λ i m σ' H'=>m=ds.length-i/\i<=ds.length/\∃ μ2 ρ2 h2,Ext X.K μ1 H1 μ2 H'/\HR X.K μ2 h2 H'/\ER X.K μ2 ρ2 σ' H'/\PostS X.K cv μ2 H' (j8 c (zG t λ ρ' h'=>b.run cl ρ' h') (ds.drop i) ρ2 h2) En Z,
  ⟨ds.length,by simp,Y1d _,μ1,ρ,h1,Ext.refl,r1,er1,p1⟩,?_⟩
 rintro i m σ' H' ⟨rfl,hi,μ2,ρ2,h2,e2,r2,er2,p2⟩
 by_cases hlt:i<ds.length
 ·right;rw [List.drop_eq_getElem_cons hlt] at p2;unfold j8 at p2;split at p2;rotate_left
  ·exact p2.elim
  rename_i st;obtain ⟨s1,s2⟩:=src μ2 h2 H' e2 r2 st;obtain ⟨g1,g2⟩:=s1 i ds[i] (Y0f hlt);refine ⟨g1,λ σ3 H3=>ds.length-(i+1)=ds.length-(i+1)/\i+1<=ds.length/\∃ μ3 ρ3 h3,Ext X.K μ1 H1 μ3 H3/\HR X.K μ3 h3 H3/\ER X.K μ3 ρ3 σ3 H3/\PostS X.K cv μ3 H3 (j8 c (zG t λ ρ' h'=>b.run cl ρ' h') (ds.drop (i+1)) ρ3 h3) En Z,
   λ σ3 H3 z=>⟨ds.length-(i+1),by omega,z⟩,λ x H3 y=>?_⟩
  obtain ⟨e2',r2',rx⟩:=g2 x H3 y;replace p2:=PostS.ext p2 e2';replace e2:=e2.trans e2';replace r2:=r2';replace er2:=er2.mono e2';unfold zG at p2;cases eb:qY t ds[i] ρ2 with
  | none=>rw [eb] at p2;exact p2.elim
  | some ρ3 =>
   rw [eb] at p2;refine ⟨μ2,ρ2,ds[i],ρ3,h2,r2,er2,rx,eb,λ σ3 er3 _ _=>⟨μ2,ρ3,h2,r2,er3,?_⟩⟩;cases eo:b.run cl ρ3 h2 with
   | nx ρ4 h4 =>
    simp only [eo] at p2;exact λ μ4 H4 σ4 e4 r4 er4=>⟨rfl,hlt,μ4,ρ4,h4,e2.trans e4,r4,er4,PostS.ext p2 e4⟩
   | ct ρ4 h4 =>
    simp only [eo] at p2;exact λ μ4 H4 σ4 e4 r4 er4=>⟨rfl,hlt,μ4,ρ4,h4,e2.trans e4,r4,er4,PostS.ext p2 e4⟩
   | bk ρ4 h4=>simp only [eo] at p2;exact p2
   | rt d h4=>simp only [eo] at p2;exact p2
   | ex c' ρ4 h4=>simp only [eo] at p2;exact p2
   | no=>simp only [eo] at p2;exact p2
 ·left;have ei:i=ds.length:=by omega
  subst ei;rw [List.drop_length] at p2;unfold j8 at p2;split at p2;rotate_left
  ·exact p2.elim
  rename_i st;exact ⟨(src μ2 h2 H' e2 r2 st).2,p2 μ2 H' σ' Ext.refl r2 er2⟩
mutual
theorem sS:∀ (s:S) (X:Cx) (Z:ZK) (k:Nat) (n:Nm) (cv:Nat->Value) (cl:Nat->List D->Hh->Res D),KxS X Z k n cv cl->s.ok X.env.scope n=true->PS X (s.py n) (ZS X.K cv Z (s.run cl))
 | .set i e p1 p,X,Z,k,n,cv,cl,C,h=>by
  have h':i<n.N.length/\e.ok X.env.scope n=true:=by have h:(_&&_)=true:=h;simpa using h
  have hm:=C.lo _ (ZQ (d:=("":Str)) h'.1);have hN:X.N[i]?=some (n.N.getD i ""):=by rw [C.nN];exact getD_some h'.1
  have plain:swapsWith (e.py n) (some (.Name (n.N.getD i "") p1)) p.line X.env=pure false->PS X ((S.set i e p1 p).py n) (ZS X.K cv Z ((S.set i e p1 p).run cl)):=λ hs=>by
   have se:=sE e X Z k n cv cl C.toKx h'.2;refine PS.mono (z1o (i:=i) C.nd hN hm.1 se.pe hs hm.2) λ En σ H=>zE λ μ ρ h hr er q=>?_;refine zP (m:=e.ev cl) hr er q λ d h1 μ1 H1 x _ e1 r1 er1 qa p1=>?_;exact p1 μ1 H1 _ Ext.refl r1 (er1.set qa i)
  cases hn:e.noC with
  | true=>exact plain (yZ e hn _ _ _)
  | false =>
   cases e with
   | ofL l =>
    cases l with
    | disp es pp=>cases hn
    | comp elt t it c NC cap csc pp =>
     have hL:(L.comp elt t it c NC cap csc pp).ok X.env.scope n=true:=by exact h'.2
     obtain ⟨b,eb,hb⟩:∃ b,swapsWith ((E.ofL (.comp elt t it c NC cap csc pp)).py n) (some (.Name (n.N.getD i "") p1)) p.line X.env=pure b/\(b=true->X.env.scope.names.lookup (n.N.getD i "")=some .local):=by
      refine ⟨_,by rfl,λ z=>?_⟩;simp only [Y0p,beq_iff_eq] at z;exact z.1.1.2
     cases b with
     | false=>exact plain eb
     | true =>
      obtain ⟨k1,k2,k3,k4,k5,k6,k7,k8,k9⟩:=Uq C.toKx hL;have hit:=sI it X Z k n cv cl C.toKx k1.1 t k1.2 NC;have hff:∀ Cc s H fp pn xe Zc,Thr (zt X NC csc Cc s H fp pn xe) Zc->PF (zt X NC csc Cc s H fp pn xe) (c.py ⟨NC,n.F,n.G⟩) (zv X.K cv RB Zc (c.evC cl)):=λ Cc s H fp pn xe Zc th=>by
       have Cc':=C.toKx.comp k2 k3 k4 th;cases c with
       | nil=>exact Ur
       | cons e r =>
        cases r with
        | cons _ _=>cases k9
        | nil =>
         have se:=sE e _ Zc k ⟨NC,n.F,n.G⟩ cv cl Cc' (by have k7:(_&&_)=true:=k7;simp at k7;exact k7.1);have ht:=se.pt (by have k8:(_&&_)=true:=k8;simp at k8;exact k8.1);exact Gc ht
      have key:=B3 (X:=X) (i:=i) (cap:=cap) (pos:=pp) (pos':=p1) (spos:=p) (g:=gB X.K t) (tf:=λ Zc=>zv X.K cv RB Zc (c.evC cl)) (te:=λ Zc=>zv X.K cv (Rep X.K) Zc (elt.ev cl)) C.cm C.th hit k2 (λ Cc s H fp pn xe=>Us C.kd k2 k3 k5) hff
       (λ Cc s H fp pn xe Zc th=>(sE elt _ Zc k ⟨NC,n.F,n.G⟩ cv cl (C.toKx.comp k2 k3 k4 th) k6).pe) (yi it) C.nd hN (hb rfl) eb
      refine PS.mono key λ En σ H=>zE λ μ ρ h hr er q=>JT k2 k5 ⟨μ,ρ,h,hr,er,?_⟩;have q:PostS X.K cv μ H (jj ρ (((L.comp elt t it c NC cap csc pp).ev cl ρ h).bind λ xs h1=>new (.lst xs) h1) λ d h1=>.nx (ρ.set i (some d)) h1) En Z:=q;show PostE X.K cv (RL X.K H) μ H ((L.comp elt t it c NC cap csc pp).ev cl ρ h) _ (Z σ);cases el:(L.comp elt t it c NC cap csc pp).ev cl ρ h with
      | ok ds h1 =>
       rw [el] at q;intro μ1 H1 x e1 r1 ⟨pa,vs,ex,g1,g2,g3,g4⟩;subst ex;have er1:ER X.K (μ1++[pa]) ρ σ H1:=er.mono (e1.add g4);refine q (μ1++[pa]) H1 _ (e1.add g4) (r1.add g3 λ μ' gr=>⟨vs,g1,g2.mono' gr⟩) (er1.set (.loc ?_) i);rw [<- r1.len,Y08 (Y04 _),Y11];rfl
      | exc cc h1=>rw [el] at q;exact λ μ1 H1 e1 r1=>q μ1 H1 σ e1 r1 (er.mono e1)
      | no=>rw [el] at q;exact q
   | _=>cases hn
 | .ret e p,X,Z,k,n,cv,cl,C,h=>by
  have se:=sE e X Z k n cv cl C.toKx (by exact h);refine PS.mono (z1i se.pe) λ En σ H=>zE λ μ ρ h hr er q=>?_;refine zP (m:=e.ev cl) hr er q λ d h1 μ1 H1 x _ e1 r1 er1 qa p1=>?_;exact p1 μ1 H1 x Ext.refl r1 qa
 | .iff c a b p,X,Z,k,n,cv,cl,C,h=>by
  have h':((c.ok X.env.scope n=true/\c.okT=true)/\a.ok X.env.scope n=true)/\b.ok X.env.scope n=true:=by have h:(_&&_)=true:=h;simpa using h
  have sc:=sE c X Z k n cv cl C.toKx h'.1.1.1;have sa:=sSs a X Z k n cv cl C h'.1.2;have sb:=sSs b X Z k n cv cl C h'.2;refine PS.mono (z3q (sc.pt h'.1.1.2) sa sb) λ En σ H=>zE λ μ ρ h hr er q=>?_;refine zP (m:=c.evT cl) (R:=RB) hr er q λ t h1 μ1 H1 x _ e1 r1 er1 qa p1=>?_;have qa':t=x:=qa;subst qa';cases t with
  | true=>exact Z4 ⟨μ1,ρ,h1,r1,er1,p1⟩
  | false=>exact Z3 ⟨μ1,ρ,h1,r1,er1,p1⟩
 | .ex e p,X,Z,k,n,cv,cl,C,h=>by
  have h':e.ok X.env.scope n=true/\e.noC=true:=by have h:(_&&_)=true:=h;simpa using h
  have se:=sE e X Z k n cv cl C.toKx h'.1;refine PS.mono (OA se.pe (yZ e h'.2 _ _ _)) λ En σ H=>zE λ μ ρ h hr er q=>?_;refine zP (m:=e.ev cl) hr er q λ d h1 μ1 H1 x _ e1 r1 er1 qa p1=>?_;exact p1 μ1 H1 _ Ext.refl r1 er1
 | .retN p,X,Z,k,n,cv,cl,C,h=>by
  refine PS.mono OB λ En σ H=>zE λ μ ρ h hr er q=>?_;exact q μ H .non Ext.refl hr .non
 | .setF o f v p1 p,X,Z,k,n,cv,cl,C,h=>by
  have h':((o.ok X.env.scope n=true/\v.ok X.env.scope n=true)/\f∈j0)/\v.noC=true:=by have h:(_&&_)=true:=h;simpa using h
  have so:=sE o X Z k n cv cl C.toKx h'.1.1.1;have sv:=sE v X Z k n cv cl C.toKx h'.1.1.2;refine PS.mono (z22 so.pe sv.pe (YA v h'.2 _ _ _)) λ En σ H=>zE λ μ ρ h hr er q=>?_;refine zP (m:=v.ev cl) hr er q λ z h1 μ1 H1 x _ e1 r1 er1 qz p1=>?_;refine zP (m:=o.ev cl) r1 er1 p1 λ a h2 μ2 H2 y _ e2 r2 er2 qa p2=>?_;unfold qC at p2;cases qa with
  | @loc nn b m =>
   cases e3:h2[nn]? with
   | none=>simp only [e3] at p2;exact p2.elim
   | some ob =>
    have q:=r2.obj nn b ob m e3;cases ob with
    | lst _=>simp only [e3] at p2;exact p2.elim
    | dK _=>simp only [e3] at p2;exact p2.elim
    | obj w fs =>
     simp only [e3] at p2;obtain ⟨Cc,dx,vs,q1,q2,q3⟩:=q;split at p2
     ·rename_i hlt e4;split at e4
      ·rename_i hl;cases e4;obtain ⟨hr',ex⟩:=r2.chg (u:=.ins Cc dx (wK f x vs)) (o':=.obj w (Qh f z fs)) e3 m λ H' ex e=>⟨Cc,dx,_,e,q2,(q3.mono ex).put ((qz.mono e2).mono ex)⟩;exact ⟨b,Cc,dx,vs,rfl,q1,q2.cl,q2.na f h'.1.2,by rw [<- q3.length];exact hl,p2 μ2 _ σ ex hr' (er2.mono ex)⟩
      ·cases e4
     ·exact p2.elim
  | _=>exact p2.elim
 | .put o i v p1 p,X,Z,k,n,cv,cl,C,h=>by
  have h':(o.ok X.env.scope n=true/\i.ok X.env.scope n=true)/\v.ok X.env.scope n=true:=by have h:(_&&_)=true:=h;simpa using h
  have so:=sE o X Z k n cv cl C.toKx h'.1.1;have si:=sE i X Z k n cv cl C.toKx h'.1.2;have sv:=sE v X Z k n cv cl C.toKx h'.2;refine PS.mono (z1n sv.pe (z1l so.pe si.pe (GI (z08 C.rm)) (Yy o i p1 _)) (Yz o i v p1 _ _) (WC o i v p1 _) rfl) λ En σ H=>zE λ μ ρ h hr er q=>?_;refine zP (m:=v.ev cl) hr er q λ z h1 μ1 H1 x _ e1 r1 er1 qz p1=>?_;refine zP (m:=o.ev cl) r1 er1 p1 λ a h2 μ2 H2 y _ e2 r2 er2 qa p2=>?_;refine zP (m:=i.ev cl) r2 er2 p2 λ b h3 μ3 H3 w _ e3 r3 er3 qb p3=>?_;cases e:Yp a b z h3 with
  | none=>rw [e] at p3;exact p3.elim
  | some h4 =>
   rw [e] at p3;exact ⟨μ3,h3,a,b,z,h4,r3,qa.mono e3,qb,(qz.mono e2).mono e3,e,λ μ4 H4 e4 r4=>p3 μ4 H4 σ e4 r4 (er3.mono e4)⟩
 | .forr t it b p,X,Z,k,n,cv,cl,C,h=>by
  have h':(t.okS n.N=true/\it.ok X.env.scope n=true/\t.forI it=true)/\b.ok X.env.scope n=true:=by have h:(_&&_)=true:=h;simpa using h
  have hi:=sI it _ Z k n cv cl C.wish.toKx h'.1.2.1 t h'.1.2.2 n.N;have hb:=sSs b _ Z k n cv cl C.wish h'.2;have hg:PG (X.wish (XE X Z)) (t.py n.N) (gB X.K t):=by
   have z:=z4i (X:=X.wish (XE X Z)) C.cm C.nd t λ i hi=>by
    have h1:=Y1k.mp h'.1.1 i hi;have hl:i<n.N.length:=of_decide_eq_true h1;have hm:=C.lo _ (ZQ (d:=("":Str)) hl);have eN:(X.wish (XE X Z)).N=n.N:=C.nN;rw [eN];exact ⟨hl,hm⟩
   rw [show (X.wish (XE X Z)).N=n.N from C.nN] at z;exact z
  exact PS.mono (B2 C.th C.cm hi hg hb (yi it)) λ En σ H=>zE λ μ ρ h hr er q=>GO (p:=p) hr er q
 | .whil c b p,X,Z,k,n,cv,cl,C,h=>by
  have h':(c.ok X.env.scope n=true/\c.okT=true)/\b.ok X.env.scope n=true:=by have h:(_&&_)=true:=h;simpa using h
  have sc:=sE c _ Z k n cv cl C.wish.toKx h'.1.1;have hb:=sSs b _ Z k n cv cl C.wish h'.2;exact PS.mono (Vi C.th (sc.pt h'.1.2) hb) λ En σ H=>zE λ μ ρ h hr er q=>YB (p:=p) hr er q
 | .raw st,X,Z,k,n,cv,cl,C,h=>by
  refine λ pins s σ H En I q=>?_;obtain ⟨μ,ρ,h,hr,er,q⟩:=q;exact q.elim
theorem sSs:∀ (s:Ss) (X:Cx) (Z:ZK) (k:Nat) (n:Nm) (cv:Nat->Value) (cl:Nat->List D->Hh->Res D),KxS X Z k n cv cl->s.ok X.env.scope n=true->PSs X (s.py n) (ZS X.K cv Z (s.run cl))
 | .nil,X,Z,k,n,cv,cl,C,_=>by
  refine PSs.mono Oz λ En σ H=>zE λ μ ρ h hr er q=>?_;exact q μ H σ Ext.refl hr er
 | .cons s r,X,Z,k,n,cv,cl,C,h=>by
  have h':s.ok X.env.scope n=true/\r.ok X.env.scope n=true:=by have h:(_&&_)=true:=h;simpa using h
  have ss:=sS s X Z k n cv cl C h'.1;have sr:=sSs r X Z k n cv cl C h'.2;refine PSs.mono (VM ss sr) λ En σ H=>zE λ μ ρ h hr er q=>?_;have q:PostS X.K cv μ H (jY (s.run cl ρ h) λ ρ' h'=>r.run cl ρ' h') En Z:=q;refine ⟨μ,ρ,h,hr,er,?_⟩;cases e:s.run cl ρ h with
  | nx ρ' h1 =>
   rw [e] at q;exact λ μ1 H1 σ1 e1 r1 er1=>⟨μ1,ρ',h1,r1,er1,PostS.ext q e1⟩
  | bk ρ' h1=>rw [e] at q;exact q
  | ct ρ' h1=>rw [e] at q;exact q
  | rt d h1=>rw [e] at q;exact q
  | ex c ρ' h1=>rw [e] at q;exact q
  | no=>rw [e] at q;exact q
end
end
section
variable {X:Cx}{Z:ZK}{k:Nat}{n:Nm}{cv:Nat->Value}{cl:Nat->List D->Hh->Res D}
def okD (b:Ss)(sc:Scope)(n:Nm)(ps:List Str):Bool:=b.ok sc n
end
structure DefOk (st:Stmt)(d:Df)(F:List Str)(G:List (Str×Cn))(nm q:Str):Prop where
 body:zR st=d.body.py ⟨d.N,F,G⟩
 sc:FnScope d.N d.ps (zy st)
 ok:okD d.body (zy st) ⟨d.N,F,G⟩ d.ps=true
 nms:∀ x∈d.N,((zy st).names.lookup x=some .local\/(zy st).names.lookup x=some .cell)/\ZI x=true
 bd:∀ (kV doc pm:Value) (an:Option Addr) (cdv ct:Value) (us:List Value),us.length=d.ps.length ->
  bindArgs (PySem.W.fnOf nm q (ja st) (zR st) (zy st) .none kV doc pm an cdv ct) ⟨us,[]⟩=pure (d.ps.zip us)
structure Tab (P:Program)(w:World)(K:Y00)(mg:Str->Option Value)(ds:List Df)(G:List (Str×Cn)):Prop where
 bm:∀ x,x∈WA->mg x=none
 gc:∀ x c,(x,c)∈G->(x==("__debug__":Str))=false/\∃ v,mg x=some v/\Bk P w K v c
 fn:∀ (i:Nat) d,ds[i]?=some d->(G.any λ q=>decide (q.2=Cn.cls i))=false->(d.name==("__debug__":Str))=false/\∃ st f fd,mg d.name=some (.ref f)/\PySem.W.nsIn K mainGlobals d.name=some (some (.ref f))/\Fun K d.name d.name st f fd/\DefOk st d (ds.map (·.name)) G d.name d.name
 mc:∀ x i,(x,Cn.cls i)∈G->(x==("__debug__":Str))=false/\∃ d st C f fd nm q,ds[i]?=some d/\mg x=some (.ref C)/\Mk K C f/\ClsN K x C/\Fun K nm q st f fd/\DefOk st d (ds.map (·.name)) G nm q
theorem GP {K:Y00}{μ:List Addr}{H:Hp}{as:List D}{vs:List V}(N:List Str)(r:Reps K μ H as vs):ER K μ (as.map some++List.replicate (N.length-as.length) none) (L2.start N vs) H:=by
 unfold L2.start;refine ⟨by simp [r.length],λ i d h=>?_⟩;rw [List.getElem?_append] at h ⊢;rw [Y0d] at h ⊢;rw [<- r.length];split at h
 ·rename_i c;rw [if_pos c];rw [Y0u] at h ⊢;cases e:as[i]? with
  | none=>rw [e] at h;cases h
  | some a =>
   rw [e] at h;cases h;obtain ⟨v,e1,e2⟩:=r.get e;rw [e1];exact ⟨v,rfl,e2⟩
 ·exfalso
  rw [List.getElem?_replicate] at h;split at h<;>cases h
theorem JW {ds:List Df}{k i:Nat}{d:Df}(hd:ds[i]?=some d):∀ as h,callI ds k i as h≠.no->as.length=d.ps.length:=by
 intro as h q;cases k with
 | zero=>exact absurd rfl q
 | succ k =>
  unfold callI at q;rw [hd] at q;by_cases c:as.length=d.ps.length
  ·exact c
  ·exact absurd (if_neg c) q
section
variable {P:Program}{w:World}{K:Y00}{mg:Str->Option Value}{base:Heap}{ds:List Df}{G:List (Str×Cn)}{cv:Nat->Value}
def z0f (K:Y00)(mg:Str->Option Value)(cv:Nat->Value)(G:List (Str×Cn)):Prop:=∀ x c u,(x,Cn.exc c u)∈G->mg x=some (cv c)/\(∀ D∈u,∃ a d,cv c=.ref a/\cv D=.ref d/\z0a K a d)/\∃ a,cv c=.ref a/\TstK K G cv a u
def z4l:Cn->Bool
 | .exc _ _=>true
 | _=>false
theorem z2w (h:(G.all λ q=>!z4l q.2)=true):z0f K mg cv G:=λ x c u hm=>by
 have:=Y1k.mp h _ hm
 cases this
theorem YC (T:Tab P w K mg ds G)(XC:z0f K mg cv G):∀ (k i:Nat) (d:Df) (nm qn:Str) (st:Stmt) (f:Addr) (fd:FuncData),ds[i]?=some d->Fun K nm qn st f fd->DefOk st d (ds.map (·.name)) G nm qn ->
  FnOk P w K mg base (CXs P w) (2*k) f fd d.ps (spI K cv d.ps.length (callI ds k i))
 | 0,i,d,nm,qn,st,f,fd,hd,F,o=>by
  have no:∀ vs H Q E,¬ spI K cv d.ps.length (callI ds 0 i) vs H Q E:=λ vs H Q E ⟨_,_,_,_,_,_,z⟩=>z;exact ⟨λ vs H Q E h=>absurd h (no vs H Q E),λ A outer s H args us vs Q E _ _ _ _ h=>absurd h (no vs H Q E)⟩
 | k+1,i,d,nm,qn,st,f,fd,hd,F,o=>by
  have KC:∀ (cdv:Value) (A:Around) (outer:List Env) (s:Shared) (H:Hp) (E:XK),Room (2*k+1) (A.deeper (envOfC qn (zy st) s.heap.objs.size f cdv))->KxS (Wh (CXs P w) P w K mg base d.N qn (zy st) f cdv A outer s H E) (λ _ C H'=>E C none H') k ⟨d.N,ds.map (·.name),G⟩ cv (callI ds k):=λ cdv A outer s H E hr=>by
   refine ⟨⟨OU,hr,rfl,o.sc.nd,rfl,o.sc.kind,λ x hx=>⟨(o.nms x hx).1.elim .inl λ z=>.inr (.inl z),(o.nms x hx).2⟩,T.bm,T.gc,λ j x hj hnc=>?_,λ x j hx=>?_,λ x c u hm=>XC x c u hm⟩,λ x hx=>⟨(o.nms x hx).1,.inl rfl⟩⟩;rotate_left
   ·obtain ⟨h1,d',st',C',f',fd',nm',q',e',m',M',N',F',o'⟩:=T.mc x j hx;exact ⟨h1,C',f',fd',d'.ps,m',M',N',F'.binds o'.bd,JW e',YC T XC k j d' nm' q' st' f' fd' e' F' o'⟩
   have hj':(ds.map (·.name))[j]?=some x:=hj;rw [Y0u] at hj';cases e:ds[j]? with
   | none=>rw [e] at hj';cases hj'
   | some d' =>
    rw [e] at hj';cases hj';obtain ⟨h1,st',f',fd',m',s',F',o'⟩:=T.fn j d' e hnc;exact ⟨h1,f',fd',d'.ps,m',s',F'.kp,F'.binds o'.bd,JW e,YC T XC k j d' _ _ st' f' fd' e F' o'⟩
  have fin:∀ {H:Hp}{vs:List V}{Q:VK}{E:XK},spI K cv d.ps.length (callI ds (k+1) i) vs H Q E->ZS K cv (λ _ C H'=>E C none H') (d.body.run (callI ds k)) { nx:=λ _ H'=>Q .non H',rt:=Q } (L2.start d.N vs) H:=λ {H vs Q E} h=>by
   obtain ⟨hl,μ,h,as,hH,hv,p⟩:=h;refine ⟨μ,_,h,hH,GP d.N hv,?_⟩;have c:as.length=d.ps.length:=by rw [hv.length];exact hl
   rw [zb hd c] at p;have p1:=p;unfold Df.run Qk at p1;cases e:d.body.run (callI ds k) (as.map some++List.replicate (d.N.length-as.length) none) h with
   | nx ρ h1=>rw [e] at p1;exact λ μ1 H1 σ1 e1 r1 er1=>p1 μ1 H1 .non e1 r1 .non
   | rt v h1=>rw [e] at p1;exact p1
   | ex c ρ h1=>rw [e] at p1;exact λ μ1 H1 σ1 e1 r1 er1=>p1 μ1 H1 e1 r1
   | bk ρ h1=>rw [e] at p1;exact p1.elim
   | ct ρ h1=>rw [e] at p1;exact p1.elim
   | no=>rw [e] at p1;exact p1.elim
  exact F.okX o.sc (λ vs H Q E h=>h.1) λ cdv A outer s H vs Q E hr h=>⟨_,by rw [o.body];exact sSs d.body _ _ _ _ _ _ (KC cdv A outer s H E hr) o.ok,fin h⟩
end
theorem WD {K:Y00}{C E:Addr}{o:Value}{dd:Option Addr}{cd:ClassData}{sl:Array (Option Value)}{b:Bool} (l:K.lookup E=some ⟨o,dd,.cls cd,sl⟩) (ty:PySem.W.typeIn K (.ref E)=some (.type "type")) (m:PySem.W.mroIn K C (.ref E)=some b) (hb:b=true\/C≠E):PySem.W.kitOne K (.ref C) (.ref E)=some b:=by
 unfold PySem.W.kitOne;by_cases q:C=E
 ·subst q;rw [if_pos (by simp)];rcases hb with rfl | z
  ·rfl
  ·exact absurd rfl z
 ·rw [if_neg (λ z=>q (Value.ref.inj (eq_of_beq z)))];show (if ((PySem.W.clsIn K E).isSome&&PySem.W.typeIn K (.ref E)==some (.type "type"))=true then PySem.W.subIn K (.ref C) (.ref E) else none)=_;rw [if_pos (by rw [ty,Y0p];exact ⟨by unfold PySem.W.clsIn;rw [l];rfl,by decide⟩)];exact m
def ZT (w:World)(K:Y00):List DictEntry->List (Str×Cv)->Prop
 | [],[]=>True
 | e::r,kx::s=>(e.hash=hashStr w kx.1/\(∃ t,e.key=.str kx.1 t)/\CvOk K e.val kx.2)/\ZT w K r s
 | _,_=>False
theorem tupK_mk {K:Y00}{a:Addr}{d:Option Addr}{its:Array Value}{n:Nat}{sl:Array (Option Value)}{xs:List Str} (l:K.lookup a=some ⟨.type "tuple",d,.seq its n,sl⟩) (z:its.size<=sizeLine) (v:Vals (xs.map V.str) its.toList):TupK K a xs :=
 ⟨_,its,n,l,rfl,rfl,z,v⟩
theorem ZU {P:Program}{w:World}{K:Y00}:∀ {es:List DictEntry}{kvs:List (Str×Cv)},ZT w K es kvs->∃ vs,Pairs (zB P w) es vs/\DicV K kvs vs/\vs.map (·.1)=kvs.map (λ kx=>(Sum.inr kx.1:Key))/\∀ e∈es,∃ k,(zB P w).is k e.key=true/\e.hash=(zB P w).hash k
 | [],[],_=>⟨[],.nil,trivial,rfl,λ e h=>absurd h (by simp)⟩
 | [],_::_,h=>h.elim
 | _::_,[],h=>h.elim
 | e::r,(k,xs)::s,⟨⟨h1,⟨t,h2⟩,h4⟩,h5⟩=>by
  obtain ⟨vs,p,d,n,ks⟩:=ZU (P:=P) h5;have ik:(zB P w).is (.inr k) e.key=true:=yq (k:=.inr k) ⟨t,h2⟩;refine ⟨(.inr k,e.val)::vs,.cons ik rfl p,⟨rfl,h4,d⟩,by simp [n],λ e' he=>?_⟩;rcases Y06.mp he with rfl | he
  ·exact ⟨_,ik,h1⟩
  ·exact ks e' he
theorem GQ {P:Program}{w:World}{K:Y00}{a:Addr}{es:Array DictEntry}{ep:Nat}{kvs:List (Str×Cv)} (l:K.lookup a=some { cls:=.type "dict",data:=.dict es ep }) (h:ZT w K es.toList kvs) (nd:(kvs.map (·.1)).Nodup) :
  Bk P w K (.ref a) (.dic kvs):=by
 obtain ⟨vs,p,d,n,ks⟩:=ZU (P:=P) h;refine ⟨a,_,es,ep,vs,rfl,l,⟨rfl,rfl,rfl⟩,rfl,λ e he=>ks e (by simpa using he),p,?_,d⟩;rw [n];have e:kvs.map (λ kx=>(Sum.inr kx.1:Key))=(kvs.map (·.1)).map λ k=>(Sum.inr k:Key):=by simp
 rw [e];exact List.Pairwise.map _ (λ x y hxy z=>hxy (Sum.inr.inj z)) nd
theorem JX:∀ {ns:List Int},PySem.W.WData.weightAll (ns.map PySem.W.WData.int)<=2 ^ 20->∀ n∈ns,Builtin.Int.intBits n<=2 ^ 20
 | [],_,n,hn=>absurd hn (by simp)
 | m::r,h,n,hn=>by
  rw [Y0i,PySem.W.WData.weightAll] at h;rcases Y06.mp hn with rfl | hn
  ·have e:PySem.W.WData.weight (.int n)=Builtin.Int.intBits n:=by rw [PySem.W.WData.weight];rfl
   omega
  ·exact JX (by omega) n hn
def GR (K:Y00)(cv:Nat->Value)(c:List D->Hh->Res D):Sp:=spI K cv 1 c
theorem z2x {K:Y00}{cv:Nat->Value}{c:List D->Hh->Res D}{H:Hp}{a:Addr}{ns:List Int}{h':Hh}(hO:z2c H)(hS:SqL K H a (ns.map V.int))(e:c [.fl (ns.map D.int)] []=.ok (.bl true) h') :
  GR K cv c [.ref a] H (λ v _=>v=.bl true) (λ _ _ _=>False):=by
 have rp:∀ ms:List Int,Reps K [] H (ms.map D.int) (ms.map V.int):=λ ms=>by
  induction ms with
  | nil=>exact .nil
  | cons m r ih=>exact .cons (.int m) ih
 have fz:Fz K H a (ns.map V.int):=by
  rcases hS with h | h
  ·left;rcases h with h | h
   ·rcases hO a with z | ⟨o,xs,z⟩
    ·rw [h] at z;cases z
    ·rw [h] at z;cases z
   ·exact h
  ·exact .inr λ H'=>.inr h
 refine ⟨rfl,[],[],[.fl (ns.map D.int)],⟨rfl,λ n m b e1=>by simp at e1,λ n b o e1=>by simp at e1⟩,.cons (.fl fz (rp ns)) .nil,?_⟩
 ·rw [e];intro μ1 H1 v e1 r1 q1;cases q1;rfl
theorem walk_ofB {l:PySem.W.OpenLaw}{k:Nat}{q:Program}{loose:List Str}{XP:(Str->Option Value)->Heap->Prop}{YP:World->Heap->Prop}{d:DefRec}{K:Params->Y00}{c:List D->Hh->Res D}{x:Str}
  (hn:l.most=some 63) (hdf:d.params.defaults=[]) (hr:Room k callerA)
  (hY:∀ (w:World) (h:Heap),YP w h->(K w.params).In h)
  (F:∀ (w:World) (mg:Str->Option Value) (fa:Addr) (h:Heap),(K w.params).In h->h.Ns mainGlobals mg->mg d.name=some (.ref fa) ->
   ∃ (cv:Nat->Value) (fd:FuncData),(∀ (s:Shared) (u:Value),BindsTo s fd ⟨[u],[]⟩ [(x,u)]) /\
    ∀ base:Heap,(K w.params).In base->base.Ns mainGlobals mg->FnOk l.prog w (K w.params) mg base (CXs l.prog w) k fa fd [x] (GR (K w.params) cv c))
  (hc:∀ ns:List Int,ns.length<=63->(∀ n∈ns,Builtin.Int.intBits n<=2 ^ 20)->∃ h',c [.fl (ns.map D.int)] []=.ok (.bl true) h') :
  PySem.W.WalkO q loose XP YP l.row.toRowW d [] (λ f vs=>PySem.call f vs):=by
 intro w s₀ s₁ mg mb G Y fa o pm cd doc dV kV ho hd hcd hD hmg hg args vals as hpre hlay hrd hwl hlo;obtain rfl:dV=.none:=PySem.W.Dflts.none hD hdf;obtain rfl:kV=.none:=PySem.W.Dflts.noKw hD;obtain ⟨a,vs,ns,rfl,rfl,hobj,hints,hlen⟩:=Att.script_of hn hpre hwl;have hbits:∀ n∈ns,Builtin.Int.intBits n<=2 ^ 20:=by
  have h1:PySem.W.WData.layable (.list (ns.map .int))=true:=by
   have:=hlay
   unfold PySem.W.WData.layableAll at this;simpa using this
  have h2:=(PySem.W.layableW_iff.mp h1).2.2;exact JX (by simpa [PySem.W.WData.weight] using h2)
 have KX:=hY w _ Y;obtain ⟨cv,fd,hb,hF⟩:=F w mg fa _ KX G.T.g hmg;obtain ⟨h',e⟩:=hc ns hlen hbits;refine PySem.W.enter_call (codeAny_mono (G4 KX G.T.g G.T.b G.T.builtins G.T.nolimit hg hobj hints (Y15 hlen (by decide)) hr hF hb (λ H hO hS=>z2x hO hS e) (λ H e' s' z=>by
  obtain ⟨_,_,_,_,_,_,_,_,_,_,_,z⟩:=z;exact z)) λ r s' hq=>?_)
 obtain ⟨rfl,h2,h3,h4⟩:=hq;exact ⟨.inl ⟨.bool true,.bool true,[],rfl,λ _=>rfl,.bool true,Att.post_true l _,λ _=>⟨List.Pairwise.nil,λ _ hm=>(nomatch hm)⟩⟩,h2,h3,h4⟩
end PI
namespace PI
open PySem L2
section
variable {cl:Nat->List D->Hh->Res D}
theorem z6i {z0 z1 h}:E.ev cl (.non z0) z1 h=.ok .non h:=rfl
theorem YD {i z0 z1 h}:E.ev cl (.int i z0) z1 h=.ok (.int i) h:=rfl
theorem jF {i z0 ρ h}:E.ev cl (.var i z0) ρ h=match ρ[i]? with | some (some d)=>.ok d h | _=>.no:=rfl
theorem vun {op a z0 ρ h}:E.ev cl (.un op a z0) ρ h=(a.ev cl ρ h).bind λ x h1=>unD op x h1:=rfl
theorem GS {op a b z0 ρ h}:E.ev cl (.cmp op a b z0) ρ h=(a.ev cl ρ h).bind λ x h1=>(b.ev cl ρ h1).bind λ y h2=>zU op x y h2:=rfl
theorem z4m {c a b z0 ρ h}:E.ev cl (.ite c a b z0) ρ h=(c.ev cl ρ h).bind λ x h1=>tru x h1 λ t h1=>if t then a.ev cl ρ h1 else b.ev cl ρ h1:=rfl
theorem z6j {a z0 z1 ρ h}:E.ev cl (.len a z0 z1) ρ h=(a.ev cl ρ h).bind λ x h1=>yN x h1:=rfl
theorem z6k {T a z0 z1 z2 ρ h}:E.ev cl (.isi T a z0 z1 z2) ρ h=(a.ev cl ρ h).bind λ x h1=>match isI h1 x T with | some b=>.ok (.bl b) h1 | none=>.no:=rfl
theorem vsub {a i z0 ρ h}:E.ev cl (.sub a i z0) ρ h=(a.ev cl ρ h).bind λ x h1=>(i.ev cl ρ h1).bind λ y h2=>zX x y h2:=rfl
theorem z6l {es z0 ρ h}:E.ev cl (.tup es z0) ρ h=(es.ev cl ρ h).bind λ xs h1=>if xs.length<=1000 then .ok (.tup xs) h1 else .no:=rfl
theorem vofL {l ρ h}:E.ev cl (.ofL l) ρ h=(l.ev cl ρ h).bind λ xs h1=>new (.lst xs) h1:=rfl
theorem vlistE {e z0 z1 ρ h}:E.ev cl (.listE e z0 z1) ρ h=(e.ev cl ρ h).bind λ x h1=>match jZ x h1 with | some xs=>new (.lst xs) h1 | none=>.no:=rfl
theorem vdicP {e z0 z1 ρ h}:E.ev cl (.dicP e z0 z1) ρ h=(e.ev cl ρ h).bind λ x h1=>Uh x h1:=rfl
theorem z2y {ks vs z0 ρ h}:E.ev cl (.dispD ks vs z0) ρ h=(vs.ev cl ρ (h++[.dK []])).bind λ xs h1=>Ui ks h.length xs h1:=rfl
theorem vcut {a lo hi z0 z1 ρ h}:E.ev cl (.cut a lo hi z0 z1) ρ h=(a.ev cl ρ h).bind λ x h1=>(lo.ev cl ρ h1).bind λ l h2=>(hi.ev cl ρ h2).bind λ u h3=>Jn x l u h3:=rfl
theorem vm0 {m o z0 z1 ρ h}:E.ev cl (.m0 m o z0 z1) ρ h=(o.ev cl ρ h).bind λ x h1=>m0D m x h1:=rfl
theorem vm1 {m o a z0 z1 ρ h}:E.ev cl (.m1 m o a z0 z1) ρ h=(o.ev cl ρ h).bind λ x h1=>onL x h1 ((a.ev cl ρ h1).bind λ y h2=>m1D m x y h2):=rfl
theorem vc1 {f a z0 z1 ρ h}:E.ev cl (.c1 f a z0 z1) ρ h=(a.ev cl ρ h).bind λ x h1=>c1D f x h1:=rfl
theorem GT {e z0 z1 z2 z3 ρ h}:E.ev cl (.listR e z0 z1 z2 z3) ρ h=(e.ev cl ρ h).bind λ x h1=>lrD x h1:=rfl
theorem vlistZ {a b z0 z1 z2 z3 ρ h}:E.ev cl (.listZ a b z0 z1 z2 z3) ρ h=(a.ev cl ρ h).bind λ x h1=>(b.ev cl ρ h1).bind λ y h2=>lzD x y h2:=rfl
theorem z4n {z0 c z1 z2 h}:E.ev cl (.gcon z0 c z1) z2 h=match c with | .int i=>.ok (.int i) h | .str x=>.ok (.str x) h | .tup xs=>.ok (.tup (xs.map .str)) h | .dic _=>.no | .exc _ _=>.no | .cls _=>.no | .isc _ _=>.no:=rfl
theorem z2z {z0 kvs key a r z1 z2 z3 ρ h}:E.ev cl (.callG z0 kvs key a r z1 z2 z3) ρ h=(key.ev cl ρ h).bind λ y h1=>match fnOf kvs y with | some i=>(a.ev cl ρ h1).bind λ x h2=>(r.ev cl ρ h2).bind λ xs h3=>cl i (x::xs) h3 | none=>.no:=rfl
theorem z4o {a f z0 ρ h}:E.ev cl (.fld a f z0) ρ h=(a.ev cl ρ h).bind λ x h1=>Jo x f h1:=rfl
theorem vmk {i x a r z0 z1 ρ h}:E.ev cl (.mk i x a r z0 z1) ρ h=(a.ev cl ρ h).bind λ y h1=>(r.ev cl ρ h1).bind λ ys h2=>mkR h2.length (cl i (.loc h2.length::y::ys) (h2++[.obj x []])):=rfl
theorem ldisp {es z0 ρ h}:L.ev cl (.disp es z0) ρ h=(es.ev cl ρ h).bind λ xs h1=>if xs.length<=1000 then .ok xs h1 else .no:=rfl
theorem izip {a b z0 z1 ρ h}:I.ev cl (.zip a b z0 z1) ρ h=(a.ev cl ρ h).bind λ x h1=>(b.ev cl ρ h1).bind λ y h2=>Qj x y h2:=rfl
theorem z0g {e z0 ρ h}:Es.evC cl (.cons e z0) ρ h=(e.ev cl ρ h).bind λ d h1=>match d with | .bl b=>.ok b h1 | _=>.no:=rfl
theorem z30 {z0 h}:Es.ev cl .nil z0 h=.ok [] h:=rfl
theorem econs {e r ρ h}:Es.ev cl (.cons e r) ρ h=(e.ev cl ρ h).bind λ x h1=>(r.ev cl ρ h1).bind λ xs h2=>.ok (x::xs) h2:=rfl
theorem z31 {i e z0 z1 ρ h}:S.run cl (.set i e z0 z1) ρ h=jj ρ (e.ev cl ρ h) λ d h1=>.nx (ρ.set i (some d)) h1:=rfl
theorem BD {e z0 ρ h}:S.run cl (.ret e z0) ρ h=jj ρ (e.ev cl ρ h) λ d h1=>.rt d h1:=rfl
theorem yex {e z0 ρ h}:S.run cl (.ex e z0) ρ h=jj ρ (e.ev cl ρ h) λ _ h1=>.nx ρ h1:=rfl
theorem Ut {c b z0 ρ h}:S.run cl (.whil c b z0) ρ h=whR (λ ρ' h'=>c.evT cl ρ' h') (λ ρ' h'=>b.run cl ρ' h') ρ h:=rfl
theorem GU {o f v z0 z1 ρ h}:S.run cl (.setF o f v z0 z1) ρ h=jj ρ (v.ev cl ρ h) λ z h1=>jj ρ (o.ev cl ρ h1) λ x h2=>match qC x f z h2 with | some h3=>.nx ρ h3 | none=>.no:=rfl
theorem Jq {ρ h}:Ss.run cl .nil ρ h=.nx ρ h:=rfl
theorem wZ {s r ρ h}:Ss.run cl (.cons s r) ρ h=jY (s.run cl ρ h) λ ρ' h'=>r.run cl ρ' h':=rfl
end
section
variable {h l:Hh}{o u:O}{n k:Nat}{xs:List D}
theorem hx (h l:Hh)(k:Nat):(h++l)[h.length+k]?=l[k]?:=by
 rw [Y08 (by omega)];congr 1;omega
theorem G5 (e:h[n]?=some (.lst xs)):rd h n=some xs:=by unfold rd;rw [e]
end
theorem jl {c:Ck}{f:D->Hh->Res (Option D)}{h:Hh}(st:stay c h)(g:D->Option D):∀ (xs acc:List D),(∀ x∈xs,f x h=.ok (g x) h)->zS c f xs acc h=.ok (acc++xs.filterMap g) h
 | [],acc,_=>by simp [zS,st]
 | x::r,acc,e=>by
  have e1:=e x (Y03 ..);have ih:=jl st g r (Gw acc (g x)) λ y hy=>e y (Y02 _ hy);unfold zS;rw [if_pos st,e1,bind_ok,ih,Y1b];cases g x<;>simp
theorem eqS {a b:Str}{h:Hh}(ha:PyData.strOk a=true)(hb:PyData.strOk b=true):zU .Eq (.str a) (.str b) h=.ok (.bl (a==b)) h:=if_pos ⟨ha,hb,Y1d _⟩
theorem neS {a b:Str}{h:Hh}(ha:PyData.strOk a=true)(hb:PyData.strOk b=true):zU .NotEq (.str a) (.str b) h=.ok (.bl (!(a==b))) h:=if_pos ⟨ha,hb,Y1d _⟩
theorem eqI {a b:Int}{h:Hh}:zU .Eq (.int a) (.int b) h=.ok (.bl (a==b)) h:=rfl
theorem neI {a b:Int}{h:Hh}:zU .NotEq (.int a) (.int b) h=.ok (.bl (!(a==b))) h:=rfl
def qZ:Nat->Ss->Ss
 | 0,_=>.nil
 | _+1,.nil=>.nil
 | n+1,.cons s r=>.cons s (qZ n r)
def jw:Nat->Ss->Ss
 | 0,b=>b
 | _+1,.nil=>.nil
 | n+1,.cons _ r=>jw n r
theorem GV (cl:Nat->List D->Hh->Res D):∀ (n:Nat) (b:Ss) (ρ:En) (h:Hh),Ss.run cl b ρ h=jY (Ss.run cl (qZ n b) ρ h) λ ρ' h'=>Ss.run cl (jw n b) ρ' h'
 | 0,b,ρ,h=>by simp [qZ,jw,Jq,wZ]
 | n+1,.nil,ρ,h=>by simp [qZ,jw,Jq,wZ]
 | n+1,.cons s r,ρ,h=>by
  simp only [qZ,jw,Jq,wZ];cases S.run cl s ρ h with
  | nx ρ' h'=>simp only [seqS_nx];exact GV cl n r ρ' h'
  | _=>rfl
theorem Zf:∀ (bs:List Bool),qB (bs.map D.bl)=some bs
 | []=>rfl
 | b::r=>by simp [qB,Zf r]
def cs (x:Str):List Nat:=x.cps.toList
def mkS (l:List Nat):Str:=⟨l.toArray⟩
theorem JY (l:List Nat):cs (mkS l)=l:=by simp [cs,mkS]
theorem z0h (x:Str):mkS (cs x)=x:=by cases x;simp [cs,mkS]
theorem z32 {x y:Str}(h:cs x=cs y):x=y:=by rw [<- z0h x,<- z0h y,h]
theorem GW {a b:List Nat}(h:mkS a=mkS b):a=b:=by rw [<- JY a,<- JY b,h]
theorem Vj (x y:Str):cs (x++y)=cs x++cs y:=by
 show (x.cps++y.cps).toList=_;simp [cs]
theorem Vk (a b:List Nat):mkS a++mkS b=mkS (a++b):=z32 (by rw [Vj,JY,JY,JY])
theorem z33 (x:Str):x.length=(cs x).length:=by simp [cs,Str.length]
theorem GX (l:List Nat):(mkS l).length=l.length:=by rw [z33,JY]
theorem z0i {l:List Nat}(h:∀ c∈l,c<1114112):PyData.strOk (mkS l)=true:=by
 unfold PyData.strOk mkS;simpa using h
theorem Zg {i:Int}(h:i.natAbs<18446744073709551616):fits i=true:=by
 unfold fits Builtin.Int.intBits;refine decide_eq_true ?_
 split
 ·decide
 ·rename_i z;have hz:i.natAbs≠0:=by simpa using z
  have:i.natAbs.log2<64:=by
   rw [Nat.log2_lt hz];exact h
  omega
structure Wd (x:Str):Prop where
 ne:cs x≠[]
 len:(cs x).length<=20
 ch:∀ c∈cs x,c≠40/\c≠41/\c≠10/\c<1114112
section
variable {cl:Nat->List D->Hh->Res D}{ρ ρ':En}{h h' h2 h3:Hh}{c e:E}{a b r:Ss}{p p0 p1 p2 p3:Pos}{d x:D}{i:Nat}
theorem zk {o:RS}(hc:c.evT cl ρ h=.ok false h')(k:Ss.run cl r ρ h'=o):Ss.run cl (.cons (.iff c a .nil p) r) ρ h=o:=by
 rw [<- k];show jY (jj ρ (c.evT cl ρ h) λ t h1=>if t then a.run cl ρ h1 else Ss.nil.run cl ρ h1) (λ ρ' h'=>r.run cl ρ' h')=_;rw [hc];rfl
theorem z0j (hc:c.evT cl ρ h=.ok true h'):Ss.run cl (.cons (.iff c a b p) r) ρ h=jY (a.run cl ρ h') λ ρ' h'=>r.run cl ρ' h':=by
 show jY (jj ρ (c.evT cl ρ h) λ t h1=>if t then a.run cl ρ h1 else b.run cl ρ h1) (λ ρ' h'=>r.run cl ρ' h')=_;rw [hc];rfl
theorem j1 (hc:c.evT cl ρ h=.ok true h')(ha:a.run cl ρ h'=.rt d h2):Ss.run cl (.cons (.iff c a b p) r) ρ h=.rt d h2:=by rw [z0j hc,ha];rfl
theorem zQ {o:RS}(hc:c.evT cl ρ h=.ok true h')(ha:a.run cl ρ h'=.nx ρ' h2)(k:Ss.run cl r ρ' h2=o):Ss.run cl (.cons (.iff c a b p) r) ρ h=o:=by rw [<- k,z0j hc,ha];rfl
theorem zD (he:e.ev cl ρ h=.ok d h'):Ss.run cl (.cons (.ret e p) r) ρ h=.rt d h':=by
 show jY (jj ρ (e.ev cl ρ h) λ d h1=>.rt d h1) (λ ρ' h'=>r.run cl ρ' h')=_;rw [he];rfl
theorem zg {o:RS}(he:e.ev cl ρ h=.ok d h')(k:Ss.run cl r (ρ.set i (some d)) h'=o):Ss.run cl (.cons (.set i e p1 p) r) ρ h=o:=by
 rw [<- k];show jY (jj ρ (e.ev cl ρ h) λ d h1=>.nx (ρ.set i (some d)) h1) (λ ρ' h'=>r.run cl ρ' h')=_;rw [he];rfl
theorem wo {o:RS}(he:e.ev cl ρ h=.ok d h')(k:Ss.run cl r ρ h'=o):Ss.run cl (.cons (.ex e p) r) ρ h=o:=by
 rw [<- k];show jY (jj ρ (e.ev cl ρ h) λ d h1=>.nx ρ h1) (λ ρ' h'=>r.run cl ρ' h')=_;rw [he];rfl
theorem zj {o:RS}(q:o=.rt d h):Qk o=.ok d h:=by rw [q];rfl
theorem zW {o:RS}(q:o=.nx ρ h):Qk o=.ok .non h:=by rw [q];rfl
theorem bnd {α β:Type}{m:Res α}{f:α->Hh->Res β}{x:α}{y:Res β}(q:m=.ok x h)(g:f x h=y):m.bind f=y:=by rw [q];exact g
theorem jG {b:Bool}(q:e.evT cl ρ h=.ok b h'):e.ev cl ρ h=.ok (.bl b) h':=by
 have q:((e.ev cl ρ h).bind λ d h1=>match d with | .bl b=>.ok b h1 | _=>.no)=Res.ok b h':=q
 cases m:e.ev cl ρ h with
 | ok d h1 =>
  rw [m] at q;cases d with
  | bl b'=>cases q;rfl
  | _=>cases q
 | exc c h1=>rw [m] at q;cases q
 | no=>rw [m] at q;cases q
theorem GY {e':E}{r:Es}(ha:e.evT cl ρ h=.ok false h'):(E.and e e' r p).evT cl ρ h=.ok false h':=bnd (bnd (jG ha) rfl) rfl
theorem z4p {e':E}{t:Bool}(ha:e.evT cl ρ h=.ok true h')(hb:e'.evT cl ρ h'=.ok t h2):(E.and e e' .nil p).evT cl ρ h=.ok t h2:=bnd (bnd (jG ha) (bnd (jG hb) rfl)) rfl
theorem zi {a' b':E}{x y:D}{op:CmpOp}{t:Bool}(ha:a'.ev cl ρ h=.ok x h')(hb:b'.ev cl ρ h'=.ok y h2)(hc:zU op x y h2=.ok (.bl t) h3):E.evT cl (.cmp op a' b' p) ρ h=.ok t h3:=bnd (bnd ha (bnd hb hc)) rfl
theorem z34 {e':E}{t:Bool}(ha:e.evT cl ρ h=.ok true h')(hb:e'.evT cl ρ h'=.ok true h2)(hc:c.evT cl ρ h2=.ok t h3):(E.and e e' (.cons c .nil) p).evT cl ρ h=.ok t h3:=bnd (bnd (jG ha) (bnd (jG hb) (bnd (jG hc) rfl))) rfl
theorem j2 {o:RS}{tg:Tg}{it:I}{q:Ck×List D}(hi:it.ev cl ρ h=.ok q h')(hf:j8 q.1 (zG tg λ ρ' h'=>a.run cl ρ' h') q.2 ρ h'=.nx ρ' h2)(k:Ss.run cl r ρ' h2=o):Ss.run cl (.cons (.forr tg it a p) r) ρ h=o:=by
 rw [<- k];show jY (jj ρ (it.ev cl ρ h) λ q h1=>j8 q.1 (zG tg λ ρ' h'=>a.run cl ρ' h') q.2 ρ h1) (λ ρ' h'=>r.run cl ρ' h')=_;rw [hi,andS_ok,hf];rfl
theorem z35 {tg:Tg}{it:I}{q:Ck×List D}(hi:it.ev cl ρ h=.ok q h')(hf:j8 q.1 (zG tg λ ρ' h'=>a.run cl ρ' h') q.2 ρ h'=.rt d h2):Ss.run cl (.cons (.forr tg it a p) r) ρ h=.rt d h2:=by
 show jY (jj ρ (it.ev cl ρ h) λ q h1=>j8 q.1 (zG tg λ ρ' h'=>a.run cl ρ' h') q.2 ρ h1) (λ ρ' h'=>r.run cl ρ' h')=_;rw [hi,andS_ok,hf];rfl
theorem Uu {o:RS}{oe ie ve:E}{x y z:D}{h4:Hh}(hv:ve.ev cl ρ h=.ok z h')(ho:oe.ev cl ρ h'=.ok x h2)(hi:ie.ev cl ρ h2=.ok y h3)(hp:Yp x y z h3=some h4)(k:Ss.run cl r ρ h4=o):Ss.run cl (.cons (.put oe ie ve p1 p) r) ρ h=o:=by
 rw [<- k];show jY (jj ρ (ve.ev cl ρ h) λ z h1=>jj ρ (oe.ev cl ρ h1) λ x h2=>jj ρ (ie.ev cl ρ h2) λ y h3=>match Yp x y z h3 with | some h4=>.nx ρ h4 | none=>.no) (λ ρ' h'=>r.run cl ρ' h')=_
 rw [hv,andS_ok,ho,andS_ok,hi,andS_ok,hp];rfl
theorem j9 {o:RS}{ck:Ck}{f:D->En->Hh->RS}{l:List D}(hs:stay ck h)(hf:f x ρ h=.nx ρ' h')(k:j8 ck f l ρ' h'=o):j8 ck f (x::l) ρ h=o:=by
 rw [j8,if_pos hs,hf];exact k
theorem YE {n:Nat}{l:List D}(g:h[n]?=some (.lst l))(m:Res D):onL (.loc n) h m=m:=by
 show (match h[n]? with | some (.lst _)=>m | _=>.no)=m
 rw [g]
theorem fdk {i k:Int}(hk:0<k/\k<1073741824:=by decide):jE .FloorDiv (.int i) (.int k) h=.ok (.int (i/k)) h:=if_pos hk
theorem mdk {i k:Int}(hk:0<k:=by decide):jE .Mod (.int i) (.int k) h=.ok (.int (i%k)) h:=if_pos hk
theorem z0k {j:Int}(ha:e.ev cl ρ h=.ok (.int j) h')(hj:-1000000<=j/\j<=1000000):I.ev cl (.rng e p1 p2) ρ h=.ok ([],(List.range j.toNat).map λ k=>.int (k:Nat)) h':=bnd ha (if_pos hj)
theorem z36 {e':E}{t:Bool}(ha:e.evT cl ρ h=.ok false h')(hb:e'.evT cl ρ h'=.ok t h2):(E.or e e' .nil p).evT cl ρ h=.ok t h2:=bnd (bnd (jG ha) (bnd (jG hb) rfl)) rfl
theorem yQ {xs:List D}(he:e.ev cl ρ h=.ok x h')(hs:jZ x h'=some xs):E.ev cl (.tupE e p p1) ρ h=.ok (.tup xs) h':=bnd he (by
 show (match jZ x h' with | some xs=>Res.ok (D.tup xs) h' | none=>.no)=_
 rw [hs])
theorem ju {tg:Tg}{ct:En->Hh->Res Bool}{ce:En->Hh->Res D}(hb:qY tg x ρ=some ρ')(hc:ct ρ' h=.ok true h')(he:ce ρ' h'=.ok d h2):zZ tg ρ ct ce x h=.ok (some d) h2:=by
 show (match qY tg x ρ with | some ρ'=>(ct ρ' h).bind λ b h1=>if b then (ce ρ' h1).bind λ d h2=>.ok (some d) h2 else .ok none h1 | none=>.no)=_
 rw [hb];exact bnd hc (bnd he rfl)
theorem qO {n:Nat}{xs:List D}(he:e.ev cl ρ h=.ok (.loc n) h')(hr:rd h' n=some xs):I.ev cl (.seq e) ρ h=.ok ([(n,xs)],xs) h':=bnd he (by
 show (match rd h' n with | some xs=>Res.ok (([(n,xs)],xs):Ck×List D) h' | none=>.no)=_
 rw [hr])
theorem j3 {elt:E}{tg:Tg}{it:I}{ct:Es}{ns:List Str}{cap:List (Option Nat)}{sc:Scope}{q:Ck×List D}{xs:List D}(hi:it.ev cl ρ h=.ok q h')(hl:q.2.length<=1000000)(hc:zS q.1 (zZ tg (jX cap ρ) (λ ρ' h2=>ct.evC cl ρ' h2) (λ ρ' h2=>elt.ev cl ρ' h2)) q.2 [] h'=.ok xs h2):E.ev cl (.ofL (.comp elt tg it ct ns cap sc p)) ρ h=.ok (.loc h2.length) (h2++[.lst xs]):=bnd (bnd hi ((if_pos hl).trans hc)) rfl
theorem z37 {i:Int}(he:e.ev cl ρ h=.ok (.int i) h'):Eo.ev cl (.some e) ρ h=.ok (some i) h':=bnd he rfl
theorem z0l (n:Nat){s:Ss}{o:RS}(q:Ss.run cl (qZ n s) ρ h=.nx ρ' h')(k:Ss.run cl (jw n s) ρ' h'=o):Ss.run cl s ρ h=o:=by rw [GV cl n,q];exact k
theorem mlk {i j:Int}(hi:fits i=true)(hj:fits j=true):jE .Mult (.int i) (.int j) h=.ok (.int (i*j)) h:=if_pos ⟨hi,hj⟩
theorem zT {o:RS}(hc:c.evT cl ρ h=.ok false h')(hb:b.run cl ρ h'=.nx ρ' h2)(k:Ss.run cl r ρ' h2=o):Ss.run cl (.cons (.iff c a b p) r) ρ h=o:=by
 rw [<- k];show jY (jj ρ (c.evT cl ρ h) λ t h1=>if t then a.run cl ρ h1 else b.run cl ρ h1) (λ ρ' h'=>r.run cl ρ' h')=_;rw [hc];show jY (b.run cl ρ h') _=_;rw [hb];rfl
end
inductive Kd where
 | num (n:Int) | var (x:Str) | op (s:Str) | lett (x:Str) | ite | call (f:Str) (g:Option Str) | doo (d:Str) | handle (h:Str) | go | guard
inductive G where
 | nd (k:Kd) (ps:List G)
def z6m:Option Str->D
 | none=>.non
 | some g=>.str g
def Kd.enc:Kd->List D->D
 | .num n,ps=>.tup (.str "num"::.int n::ps)
 | .var x,ps=>.tup (.str "var"::.str x::ps)
 | .op s,ps=>.tup (.str "op"::.str s::ps)
 | .lett x,ps=>.tup (.str "let"::.str x::ps)
 | .ite,ps=>.tup (.str "if"::ps)
 | .call f g,ps=>.tup [.str "call",.str f,z6m g,.tup ps]
 | .doo d,ps=>.tup (.str "do"::.str d::ps)
 | .handle h,ps=>.tup (.str "handle"::.str h::ps)
 | .go,ps=>.tup (.str "go"::ps)
 | .guard,ps=>.tup (.str "guard"::ps)
mutual
def G.d:G->D
 | .nd k ps=>k.enc (G.ds ps)
def G.ds:List G->List D
 | []=>[]
 | g::r=>g.d::G.ds r
end
mutual
def G.size:G->Nat
 | .nd _ ps=>1+G.sizes ps
def G.sizes:List G->Nat
 | []=>0
 | g::r=>g.size+G.sizes r
end
def Kd.ok (k:Kd)(n:Nat):Bool:=match k with
 | .num _ | .var _=>n==0
 | .op _ | .lett _ | .handle _ | .go | .guard=>n==2
 | .ite=>n==3
 | .doo _=>n==1
 | .call _ _=>true
mutual
def G.ok:G->Bool
 | .nd k ps=>k.ok ps.length&&G.oks ps
def G.oks:List G->Bool
 | []=>true
 | g::r=>g.ok&&G.oks r
end
theorem yR:∀ gs:List G,G.ds gs=gs.map G.d
 | []=>by rw [G.ds];rfl
 | g::r=>by rw [G.ds,yR r];rfl
theorem YF (a:List G):(G.ds a).length=a.length:=by simp [yR]
theorem so:∀ x∈(["num","var","op","let","if","call","do","handle","go","guard","never","jump","once","many"]:List Str),PyData.strOk x=true:=by decide +kernel
theorem zL:PyData.strOk "call"=true:=so _ (by simp)
def Kd.isGuard:Kd->Bool
 | .guard=>true
 | _=>false
end PI
namespace K44
open PySem L2 PI
abbrev Q (l a b:Nat):PySem.Pos:=⟨l,a,l,b⟩
def z4q (i:Nat):Stmt:=PySem.Challenge.pw_deedwright_k44_blocks_handed_on.main.body.getD i (.Pass ⟨0,0,0,0⟩)
def wS:List (Str×Cv):=[("num",.int 2),("var",.int 2),("op",.int 2),("let",.int 2),("if",.int 1),("do",.int 2),("handle",.int 2),("go",.int 1),("guard",.int 1)]
def wq:List Str:=["let","if","handle","guard"]
def yj:List (Str×Cv):=[("op",.fn 20 "then_op"),("let",.oth),("if",.oth),("call",.fn 21 "then_call"),("do",.fn 22 "then_do"),("handle",.oth),("go",.oth),("guard",.oth)]
def zm:List (Str×Cn):=[("FIRST_PART",(.dic wS)),("GREATEST",(.int (1000000000000000000))),("FIRST_AHEAD",(.tup wq)),("THEN",(.dic yj)),("Walk",(.cls 44)),("Doing",(.cls 45)),("Standing",(.cls 46)),("Standing",(.isc "Standing" ["Walk","Doing","Standing"]))]
def d_parts_of:Df:=⟨"parts_of",["tree"],["tree"],(.cons (.iff (.cmp .Eq (.sub (.var 0 (Q 11 7 11)) (.int 0 (Q 11 12 13)) (Q 11 7 14)) (.str "call" (Q 11 18 24)) (Q 11 7 24)) (.cons (.ret (.sub (.var 0 (Q 12 15 19)) (.int 3 (Q 12 20 21)) (Q 12 15 22)) (Q 12 8 22)) .nil) .nil ⟨11,4,12,22⟩) (.cons (.ret (.cut (.var 0 (Q 13 11 15)) (.some (.gsub "FIRST_PART" wS (.sub (.var 0 (Q 13 27 31)) (.int 0 (Q 13 32 33)) (Q 13 27 34)) (Q 13 16 26) (Q 13 16 35))) .none (Q 13 16 36) (Q 13 11 37)) (Q 13 4 37)) .nil))⟩
def j6:Df:=⟨"stands_for",["name","block"],["name","block"],(.cons (.ret (.ite (.cmp .Eq (.var 0 (Q 15 23 27)) (.sub (.var 1 (Q 15 31 36)) (.int 0 (Q 15 37 38)) (Q 15 31 39)) (Q 15 23 39)) (.sub (.var 1 (Q 15 11 16)) (.int 1 (Q 15 17 18)) (Q 15 11 19)) (.var 0 (Q 15 45 49)) (Q 15 11 49)) (Q 15 4 49)) .nil)⟩
def e_items_by_name_1:E:=(.tup (.cons (.sub (.var 0 (Q 17 18 22)) (.int 1 (Q 17 23 24)) (Q 17 18 25)) (.cons (.var 0 (Q 17 27 31)) .nil)) (Q 17 17 32))
def c_items_by_name_1:Es:=.nil
def w6:Tg:=(.one 0 (Q 17 37 41))
def yv:Scope:={ kind:=.function,names:=[(".0",.local),("item",.local)],isGenerator:=false,isCoroutine:=false,more:=[] }
def jH:Df:=⟨"items_by_name",["program"],["program"],(.cons (.ret (.dicP (.ofL (.comp e_items_by_name_1 w6 (.seq (.var 0 (Q 17 45 52))) c_items_by_name_1 ["item"] [none] yv (Q 17 16 53))) (Q 17 11 15) (Q 17 11 54)) (Q 17 4 54)) .nil)⟩
def wt:Df:=⟨"is_function",["name","items"],["name","items"],(.cons (.ret (.and (.cmp .In (.var 0 (Q 20 11 15)) (.var 1 (Q 20 19 24)) (Q 20 11 24)) (.cmp .Eq (.sub (.sub (.var 1 (Q 20 29 34)) (.var 0 (Q 20 35 39)) (Q 20 29 40)) (.int 0 (Q 20 41 42)) (Q 20 29 43)) (.str "def" (Q 20 47 52)) (Q 20 29 52)) .nil (Q 20 11 52)) (Q 20 4 52)) .nil)⟩
def yk:Df:=⟨"begun_at",["f","items"],["f","items"],(.cons (.iff (.or (.un .Not (.call 3 (.var 0 (Q 22 23 24)) (.cons (.var 1 (Q 22 26 31)) .nil) (Q 22 11 22) (Q 22 11 32)) (Q 22 7 32)) (.cmp .IsNot (.sub (.sub (.var 1 (Q 22 36 41)) (.var 0 (Q 22 42 43)) (Q 22 36 44)) (.int 3 (Q 22 45 46)) (Q 22 36 47)) (.non (Q 22 55 59)) (Q 22 36 59)) .nil (Q 22 7 59)) (.cons (.raw (.Raise (some (.Call (.Name "NoName" (Q 23 14 20)) [(.JoinedStr [(.FormattedValue (.Name "f" (Q 23 24 25)) (-1) none (Q 23 23 26)),(.Constant (.str " is no function without block") 0 (Q 23 26 55))] (Q 23 21 56))] [] (Q 23 14 57))) none (Q 23 8 57))) .nil) .nil ⟨22,4,23,57⟩) (.cons (.ret (.sub (.var 1 (Q 24 11 16)) (.var 0 (Q 24 17 18)) (Q 24 11 19)) (Q 24 4 19)) .nil))⟩
def jI:Df:=⟨"check_numbers",["function","numbers"],["function","numbers","name"],(.cons (.iff (.cmp .NotEq (.len (.var 1 (Q 26 11 18)) (Q 26 7 10) (Q 26 7 19)) (.len (.sub (.var 0 (Q 26 27 35)) (.int 2 (Q 26 36 37)) (Q 26 27 38)) (Q 26 23 26) (Q 26 23 39)) (Q 26 7 39)) (.cons (.set 2 (.sub (.var 0 (Q 27 15 23)) (.int 1 (Q 27 24 25)) (Q 27 15 26)) (Q 27 8 12) (Q 27 8 26)) (.cons (.raw (.Raise (some (.Call (.Name "NoCount" (Q 28 14 21)) [(.JoinedStr [(.FormattedValue (.Name "name" (Q 28 25 29)) (-1) none (Q 28 24 30)),(.Constant (.str " is begun with too few or too many numbers") 0 (Q 28 30 72))] (Q 28 22 73))] [] (Q 28 14 74))) none (Q 28 8 74))) .nil)) .nil ⟨26,4,28,74⟩) .nil)⟩
def d_reckoned:Df:=⟨"reckoned",["sign","a","b"],["sign","a","b","told"],(.cons (.iff (.cmp .Eq (.var 0 (Q 32 7 11)) (.str "<" (Q 32 15 18)) (Q 32 7 18)) (.cons (.ret (.ite (.cmp .Lt (.var 1 (Q 33 20 21)) (.var 2 (Q 33 24 25)) (Q 33 20 25)) (.int 1 (Q 33 15 16)) (.int 0 (Q 33 31 32)) (Q 33 15 32)) (Q 33 8 32)) .nil) .nil ⟨32,4,33,32⟩) (.cons (.iff (.cmp .Eq (.var 0 (Q 34 7 11)) (.str "+" (Q 34 15 18)) (Q 34 7 18)) (.cons (.set 3 (.bin .Add (.var 1 (Q 35 15 16)) (.var 2 (Q 35 19 20)) (Q 35 15 20)) (Q 35 8 12) (Q 35 8 20)) .nil) (.cons (.iff (.cmp .Eq (.var 0 (Q 36 9 13)) (.str "-" (Q 36 17 20)) (Q 36 9 20)) (.cons (.set 3 (.bin .Sub (.var 1 (Q 37 15 16)) (.var 2 (Q 37 19 20)) (Q 37 15 20)) (Q 37 8 12) (Q 37 8 20)) .nil) (.cons (.set 3 (.bin .Mult (.var 1 (Q 39 15 16)) (.var 2 (Q 39 19 20)) (Q 39 15 20)) (Q 39 8 12) (Q 39 8 20)) .nil) ⟨36,4,39,20⟩) .nil) ⟨34,4,39,20⟩) (.cons (.ret (.ite (.cmp .Gt (.c1 .abs (.var 3 (Q 40 23 27)) (Q 40 19 22) (Q 40 19 28)) (.gcon "GREATEST" (.int (1000000000000000000)) (Q 40 31 39)) (Q 40 19 39)) (.non (Q 40 11 15)) (.var 3 (Q 40 45 49)) (Q 40 11 49)) (Q 40 4 49)) .nil)))⟩
def WE:Tg:=(.one 6 (Q 72 8 14))
def b_run_1:Ss:=(.cons (.iff (.cmp .Eq (.sub (.fld (.var 5 (Q 73 11 15)) "end" (Q 73 11 19)) (.int 0 (Q 73 20 21)) (Q 73 11 22)) (.str "asks" (Q 73 26 32)) (Q 73 11 32)) (.cons (.ex (.call 12 (.var 5 (Q 74 21 25)) (.cons (.var 6 (Q 74 27 33)) .nil) (Q 74 12 20) (Q 74 12 34)) (Q 74 12 34)) .nil) .nil ⟨73,8,74,34⟩) .nil)
def GZ:Df:=⟨"run",["program","f","numbers","answers","turns"],["program","f","numbers","answers","turns","walk","answer"],(.cons (.set 5 (.call 8 (.var 0 (Q 70 19 26)) (.cons (.var 1 (Q 70 28 29)) (.cons (.var 2 (Q 70 31 38)) (.cons (.var 4 (Q 70 40 45)) .nil))) (Q 70 11 18) (Q 70 11 46)) (Q 70 4 8) (Q 70 4 46)) (.cons (.ex (.call 13 (.var 5 (Q 71 12 16)) .nil (Q 71 4 11) (Q 71 4 17)) (Q 71 4 17)) (.cons (.forr WE (.seq (.var 3 (Q 72 18 25))) b_run_1 ⟨72,4,74,34⟩) (.cons (.ret (.tup (.cons (.fld (.var 5 (Q 75 12 16)) "end" (Q 75 12 20)) (.cons (.fld (.var 5 (Q 75 22 26)) "record" (Q 75 22 33)) (.cons (.fld (.var 5 (Q 75 35 39)) "used" (Q 75 35 44)) .nil))) (Q 75 11 45)) (Q 75 4 45)) .nil))))⟩
def yS:Df:=⟨"readied",["program","f","numbers","turns"],["program","f","numbers","turns","named","function","walk"],(.cons (.set 4 (.call 2 (.var 0 (Q 77 26 33)) .nil (Q 77 12 25) (Q 77 12 34)) (Q 77 4 9) (Q 77 4 34)) (.cons (.set 5 (.call 4 (.var 1 (Q 78 24 25)) (.cons (.var 4 (Q 78 27 32)) .nil) (Q 78 15 23) (Q 78 15 33)) (Q 78 4 12) (Q 78 4 33)) (.cons (.ex (.call 5 (.var 5 (Q 79 18 26)) (.cons (.var 2 (Q 79 28 35)) .nil) (Q 79 4 17) (Q 79 4 36)) (Q 79 4 36)) (.cons (.set 6 (.mk 44 "Walk" (.var 4 (Q 80 16 21)) (.cons (.call 9 (.var 0 (Q 80 39 46)) .nil (Q 80 23 38) (Q 80 23 47)) (.cons (.var 3 (Q 80 49 54)) .nil)) (Q 80 11 15) (Q 80 11 55)) (Q 80 4 8) (Q 80 4 55)) (.cons (.setF (.var 6 (Q 81 4 8)) "doing" (.mk 45 "Doing" (.sub (.var 5 (Q 81 23 31)) (.int 4 (Q 81 32 33)) (Q 81 23 34)) (.cons (.call 11 (.sub (.var 5 (Q 81 43 51)) (.int 2 (Q 81 52 53)) (Q 81 43 54)) (.cons (.var 2 (Q 81 56 63)) .nil) (Q 81 36 42) (Q 81 36 64)) (.cons (.tup (.cons (.non (Q 81 67 71)) (.cons (.non (Q 81 73 77)) .nil)) (Q 81 66 78)) (.cons (.non (Q 81 80 84)) .nil))) (Q 81 17 22) (Q 81 17 85)) (Q 81 4 14) (Q 81 4 85)) (.cons (.ret (.var 6 (Q 82 11 15)) (Q 82 4 15)) .nil))))))⟩
def qW:Tg:=(.one 3 (Q 87 16 22))
def qX:Ss:=(.cons (.put (.var 1 (Q 88 16 23)) (.tup (.cons (.sub (.var 2 (Q 88 24 28)) (.int 1 (Q 88 29 30)) (Q 88 24 31)) (.cons (.sub (.var 3 (Q 88 33 39)) (.int 0 (Q 88 40 41)) (Q 88 33 42)) .nil)) (Q 88 24 42)) (.var 3 (Q 88 46 52)) (Q 88 16 43) (Q 88 16 52)) .nil)
def jM:Tg:=(.one 2 (Q 85 8 12))
def b_clauses_by_deed_1:Ss:=(.cons (.iff (.cmp .Eq (.sub (.var 2 (Q 86 11 15)) (.int 0 (Q 86 16 17)) (Q 86 11 18)) (.str "handler" (Q 86 22 31)) (Q 86 11 31)) (.cons (.forr qW (.seq (.sub (.var 2 (Q 87 26 30)) (.int 2 (Q 87 31 32)) (Q 87 26 33))) qX ⟨87,12,88,52⟩) .nil) .nil ⟨86,8,88,52⟩) .nil)
def jv:Df:=⟨"clauses_by_deed",["program"],["program","clauses","item","clause"],(.cons (.set 1 (.dic (Q 84 14 16)) (Q 84 4 11) (Q 84 4 16)) (.cons (.forr jM (.seq (.var 0 (Q 85 16 23))) b_clauses_by_deed_1 ⟨85,4,88,52⟩) (.cons (.ret (.var 1 (Q 89 11 18)) (Q 89 4 18)) .nil)))⟩
def jV:Df:=⟨"doing_copied",["doing"],["doing","other"],(.cons (.set 1 (.mk 45 "Doing" (.non (Q 91 18 22)) (.cons (.fld (.var 0 (Q 91 24 29)) "known" (Q 91 24 35)) (.cons (.fld (.var 0 (Q 91 37 42)) "block" (Q 91 37 48)) (.cons (.fld (.var 0 (Q 91 50 55)) "held" (Q 91 50 60)) .nil))) (Q 91 12 17) (Q 91 12 61)) (Q 91 4 9) (Q 91 4 61)) (.cons (.setF (.var 1 (Q 92 4 9)) "tasks" (.fld (.var 0 (Q 92 18 23)) "tasks" (Q 92 18 29)) (Q 92 4 15) (Q 92 4 29)) (.cons (.setF (.var 1 (Q 93 4 9)) "numbers" (.fld (.var 0 (Q 93 20 25)) "numbers" (Q 93 20 33)) (Q 93 4 17) (Q 93 4 33)) (.cons (.setF (.var 1 (Q 94 4 9)) "went" (.fld (.var 0 (Q 94 17 22)) "went" (Q 94 17 27)) (Q 94 4 14) (Q 94 4 27)) (.cons (.ret (.var 1 (Q 95 11 16)) (Q 95 4 16)) .nil)))))⟩
def ZV:Tg:=(.one 3 (Q 98 8 12))
def b_linked_1:Ss:=(.cons (.set 2 (.tup (.cons (.var 3 (Q 99 17 21)) (.cons (.var 2 (Q 99 23 28)) .nil)) (Q 99 16 29)) (Q 99 8 13) (Q 99 8 29)) .nil)
def ZW:Df:=⟨"linked",["names","numbers"],["names","numbers","known","pair"],(.cons (.set 2 (.non (Q 97 12 16)) (Q 97 4 9) (Q 97 4 16)) (.cons (.forr ZV (.zip (.var 0 (Q 98 20 25)) (.var 1 (Q 98 27 34)) (Q 98 16 19) (Q 98 16 35)) b_linked_1 ⟨98,4,99,29⟩) (.cons (.ret (.var 2 (Q 100 11 16)) (Q 100 4 16)) .nil)))⟩
def yl:Df:=⟨"answered",["walk","answer"],["walk","answer"],(.cons (.setF (.var 0 (Q 102 4 8)) "end" (.non (Q 102 15 19)) (Q 102 4 12) (Q 102 4 19)) (.cons (.ex (.call 17 (.fld (.var 0 (Q 103 8 12)) "doing" (Q 103 8 18)) (.cons (.var 1 (Q 103 20 26)) .nil) (Q 103 4 7) (Q 103 4 27)) (Q 103 4 27)) (.cons (.ex (.call 13 (.var 0 (Q 104 12 16)) .nil (Q 104 4 11) (Q 104 4 17)) (Q 104 4 17)) .nil)))⟩
def w_walk_on_1:E:=(.cmp .Is (.fld (.var 0 (Q 106 10 14)) "end" (Q 106 10 18)) (.non (Q 106 22 26)) (Q 106 10 26))
def b_walk_on_1:Ss:=(.cons (.set 1 (.fld (.var 0 (Q 107 16 20)) "doing" (Q 107 16 26)) (Q 107 8 13) (Q 107 8 26)) (.cons (.iff (.cmp .Is (.fld (.var 1 (Q 108 11 16)) "tasks" (Q 108 11 22)) (.non (Q 108 26 30)) (Q 108 11 30)) (.cons (.ex (.call 23 (.var 0 (Q 109 18 22)) .nil (Q 109 12 17) (Q 109 12 23)) (Q 109 12 23)) .nil) (.cons (.set 2 (.sub (.fld (.var 1 (Q 111 19 24)) "tasks" (Q 111 19 30)) (.int 0 (Q 111 31 32)) (Q 111 19 33)) (Q 111 12 16) (Q 111 12 33)) (.cons (.setF (.var 1 (Q 112 12 17)) "tasks" (.sub (.fld (.var 1 (Q 112 26 31)) "tasks" (Q 112 26 37)) (.int 1 (Q 112 38 39)) (Q 112 26 40)) (Q 112 12 23) (Q 112 12 40)) (.cons (.ex (.call 14 (.var 0 (Q 113 20 24)) (.cons (.var 2 (Q 113 26 30)) .nil) (Q 113 12 19) (Q 113 12 31)) (Q 113 12 31)) .nil))) ⟨108,8,113,31⟩) .nil))
def qP:Df:=⟨"walk_on",["walk"],["walk","doing","task"],(.cons (.whil w_walk_on_1 b_walk_on_1 ⟨106,4,113,31⟩) .nil)⟩
def qD:Tg:=(.one 3 (Q 128 12 16))
def b_do_task_1:Ss:=(.cons (.setF (.var 2 (Q 129 12 17)) "tasks" (.tup (.cons (.var 3 (Q 129 27 31)) (.cons (.fld (.var 2 (Q 129 33 38)) "tasks" (Q 129 33 44)) .nil)) (Q 129 26 45)) (Q 129 12 23) (Q 129 12 45)) .nil)
def jo:Df:=⟨"do_task",["walk","task"],["walk","task","doing","part"],(.cons (.set 2 (.fld (.var 0 (Q 115 12 16)) "doing" (Q 115 12 22)) (Q 115 4 9) (Q 115 4 22)) (.cons (.iff (.cmp .Eq (.sub (.var 1 (Q 116 7 11)) (.int 0 (Q 116 12 13)) (Q 116 7 14)) (.str "num" (Q 116 18 23)) (Q 116 7 23)) (.cons (.ex (.call 17 (.var 2 (Q 117 12 17)) (.cons (.sub (.var 1 (Q 117 19 23)) (.int 1 (Q 117 24 25)) (Q 117 19 26)) .nil) (Q 117 8 11) (Q 117 8 27)) (Q 117 8 27)) .nil) (.cons (.iff (.cmp .Eq (.sub (.var 1 (Q 118 9 13)) (.int 0 (Q 118 14 15)) (Q 118 9 16)) (.str "var" (Q 118 20 25)) (Q 118 9 25)) (.cons (.ex (.call 17 (.var 2 (Q 119 12 17)) (.cons (.call 16 (.sub (.var 1 (Q 119 29 33)) (.int 1 (Q 119 34 35)) (Q 119 29 36)) (.cons (.fld (.var 2 (Q 119 38 43)) "known" (Q 119 38 49)) .nil) (Q 119 19 28) (Q 119 19 50)) .nil) (Q 119 8 11) (Q 119 8 51)) (Q 119 8 51)) .nil) (.cons (.iff (.cmp .Eq (.sub (.var 1 (Q 120 9 13)) (.int 0 (Q 120 14 15)) (Q 120 9 16)) (.str "then" (Q 120 20 26)) (Q 120 9 26)) (.cons (.ex (.callG "THEN" yj (.sub (.sub (.var 1 (Q 121 13 17)) (.int 1 (Q 121 18 19)) (Q 121 13 20)) (.int 0 (Q 121 21 22)) (Q 121 13 23)) (.var 0 (Q 121 25 29)) (.cons (.sub (.var 1 (Q 121 31 35)) (.int 1 (Q 121 36 37)) (Q 121 31 38)) .nil) (Q 121 8 12) (Q 121 8 24) (Q 121 8 39)) (Q 121 8 39)) .nil) (.cons (.iff (.cmp .Eq (.sub (.var 1 (Q 122 9 13)) (.int 0 (Q 122 14 15)) (Q 122 9 16)) (.str "drop" (Q 122 20 26)) (Q 122 9 26)) (.cons (.setF (.var 2 (Q 123 8 13)) "known" (.sub (.fld (.var 2 (Q 123 22 27)) "known" (Q 123 22 33)) (.int 1 (Q 123 34 35)) (Q 123 22 36)) (Q 123 8 19) (Q 123 8 36)) .nil) (.cons (.iff (.cmp .Eq (.sub (.var 1 (Q 124 9 13)) (.int 0 (Q 124 14 15)) (Q 124 9 16)) (.str "clean" (Q 124 20 27)) (Q 124 9 27)) (.cons (.ex (.m1 .append (.fld (.var 0 (Q 125 8 12)) "record" (Q 125 8 19)) (.var 1 (Q 125 27 31)) (Q 125 8 26) (Q 125 8 32)) (Q 125 8 32)) .nil) (.cons (.setF (.var 2 (Q 127 8 13)) "tasks" (.tup (.cons (.tup (.cons (.str "then" (Q 127 24 30)) (.cons (.var 1 (Q 127 32 36)) .nil)) (Q 127 23 37)) (.cons (.fld (.var 2 (Q 127 39 44)) "tasks" (Q 127 39 50)) .nil)) (Q 127 22 51)) (Q 127 8 19) (Q 127 8 51)) (.cons (.forr qD (.rev (.call 15 (.var 1 (Q 128 38 42)) .nil (Q 128 29 37) (Q 128 29 43)) (Q 128 20 28) (Q 128 20 44)) b_do_task_1 ⟨128,8,129,45⟩) .nil)) ⟨124,4,129,45⟩) .nil) ⟨122,4,129,45⟩) .nil) ⟨120,4,129,45⟩) .nil) ⟨118,4,129,45⟩) .nil) ⟨116,4,129,45⟩) .nil))⟩
def jW:Df:=⟨"ahead_of",["tree"],["tree","parts"],(.cons (.set 1 (.call 0 (.var 0 (Q 131 21 25)) .nil (Q 131 12 20) (Q 131 12 26)) (Q 131 4 9) (Q 131 4 26)) (.cons (.ret (.ite (.cmp .In (.sub (.var 0 (Q 132 24 28)) (.int 0 (Q 132 29 30)) (Q 132 24 31)) (.gcon "FIRST_AHEAD" (.tup wq) (Q 132 35 46)) (Q 132 24 46)) (.cut (.var 1 (Q 132 11 16)) .none (.some (.int 1 (Q 132 18 19))) (Q 132 17 19) (Q 132 11 20)) (.var 1 (Q 132 52 57)) (Q 132 11 57)) (Q 132 4 57)) .nil))⟩
def w_looked_up_1:E:=(.cmp .NotEq (.sub (.sub (.var 1 (Q 134 10 15)) (.int 0 (Q 134 16 17)) (Q 134 10 18)) (.int 0 (Q 134 19 20)) (Q 134 10 21)) (.var 0 (Q 134 25 29)) (Q 134 10 29))
def b_looked_up_1:Ss:=(.cons (.set 1 (.sub (.var 1 (Q 135 16 21)) (.int 1 (Q 135 22 23)) (Q 135 16 24)) (Q 135 8 13) (Q 135 8 24)) .nil)
def d_looked_up:Df:=⟨"looked_up",["name","known"],["name","known"],(.cons (.whil w_looked_up_1 b_looked_up_1 ⟨134,4,135,24⟩) (.cons (.ret (.sub (.sub (.var 1 (Q 136 11 16)) (.int 0 (Q 136 17 18)) (Q 136 11 19)) (.int 1 (Q 136 20 21)) (Q 136 11 22)) (Q 136 4 22)) .nil))⟩
def d_put:Df:=⟨"put",["doing","number"],["doing","number"],(.cons (.setF (.var 0 (Q 138 4 9)) "numbers" (.tup (.cons (.var 1 (Q 138 21 27)) (.cons (.fld (.var 0 (Q 138 29 34)) "numbers" (Q 138 29 42)) .nil)) (Q 138 20 43)) (Q 138 4 17) (Q 138 4 43)) .nil)⟩
def w_taken_1:E:=(.cmp .Lt (.len (.var 2 (Q 141 14 21)) (Q 141 10 13) (Q 141 10 22)) (.var 1 (Q 141 25 30)) (Q 141 10 30))
def b_taken_1:Ss:=(.cons (.ex (.m1 .append (.var 2 (Q 142 8 15)) (.sub (.fld (.var 0 (Q 142 23 28)) "numbers" (Q 142 23 36)) (.int 0 (Q 142 37 38)) (Q 142 23 39)) (Q 142 8 22) (Q 142 8 40)) (Q 142 8 40)) (.cons (.setF (.var 0 (Q 143 8 13)) "numbers" (.sub (.fld (.var 0 (Q 143 24 29)) "numbers" (Q 143 24 37)) (.int 1 (Q 143 38 39)) (Q 143 24 40)) (Q 143 8 21) (Q 143 8 40)) .nil))
def d_taken:Df:=⟨"taken",["doing","count"],["doing","count","numbers"],(.cons (.set 2 (.ofL (.disp .nil (Q 140 14 16))) (Q 140 4 11) (Q 140 4 16)) (.cons (.whil w_taken_1 b_taken_1 ⟨141,4,143,40⟩) (.cons (.ret (.listR (.var 2 (Q 144 25 32)) (Q 144 11 15) (Q 144 16 24) (Q 144 16 33) (Q 144 11 34)) (Q 144 4 34)) .nil)))⟩
def w9:Df:=⟨"took_turn",["walk"],["walk"],(.cons (.iff (.cmp .GtE (.fld (.var 0 (Q 146 7 11)) "used" (Q 146 7 16)) (.fld (.var 0 (Q 146 20 24)) "bound" (Q 146 20 30)) (Q 146 7 30)) (.cons (.setF (.var 0 (Q 147 8 12)) "end" (.tup (.cons (.str "spent" (Q 147 20 27)) .nil) (Q 147 19 29)) (Q 147 8 16) (Q 147 8 29)) (.cons (.ret (.bl false (Q 148 15 20)) (Q 148 8 20)) .nil)) .nil ⟨146,4,148,20⟩) (.cons (.setF (.var 0 (Q 149 4 8)) "used" (.bin .Add (.fld (.var 0 (Q 149 16 20)) "used" (Q 149 16 25)) (.int 1 (Q 149 28 29)) (Q 149 16 29)) (Q 149 4 13) (Q 149 4 29)) (.cons (.ret (.bl true (Q 150 11 15)) (Q 150 4 15)) .nil)))⟩
def qS:Df:=⟨"then_op",["walk","tree"],["walk","tree","pair","number"],(.cons (.set 2 (.call 18 (.fld (.var 0 (Q 152 17 21)) "doing" (Q 152 17 27)) (.cons (.int 2 (Q 152 29 30)) .nil) (Q 152 11 16) (Q 152 11 31)) (Q 152 4 8) (Q 152 4 31)) (.cons (.set 3 (.call 6 (.sub (.var 1 (Q 153 22 26)) (.int 1 (Q 153 27 28)) (Q 153 22 29)) (.cons (.sub (.var 2 (Q 153 31 35)) (.int 0 (Q 153 36 37)) (Q 153 31 38)) (.cons (.sub (.var 2 (Q 153 40 44)) (.int 1 (Q 153 45 46)) (Q 153 40 47)) .nil)) (Q 153 13 21) (Q 153 13 48)) (Q 153 4 10) (Q 153 4 48)) (.cons (.iff (.cmp .Is (.var 3 (Q 154 7 13)) (.non (Q 154 17 21)) (Q 154 7 21)) (.cons (.setF (.var 0 (Q 155 8 12)) "end" (.tup (.cons (.str "great" (Q 155 20 27)) .nil) (Q 155 19 29)) (Q 155 8 16) (Q 155 8 29)) .nil) (.cons (.ex (.call 17 (.fld (.var 0 (Q 157 12 16)) "doing" (Q 157 12 22)) (.cons (.var 3 (Q 157 24 30)) .nil) (Q 157 8 11) (Q 157 8 31)) (Q 157 8 31)) .nil) ⟨154,4,157,31⟩) .nil)))⟩
def wa:Df:=⟨"then_call",["walk","tree"],["walk","tree","doing","numbers","function","block"],(.cons (.set 2 (.fld (.var 0 (Q 172 12 16)) "doing" (Q 172 12 22)) (Q 172 4 9) (Q 172 4 22)) (.cons (.set 3 (.call 18 (.var 2 (Q 173 20 25)) (.cons (.len (.sub (.var 1 (Q 173 31 35)) (.int 3 (Q 173 36 37)) (Q 173 31 38)) (Q 173 27 30) (Q 173 27 39)) .nil) (Q 173 14 19) (Q 173 14 40)) (Q 173 4 11) (Q 173 4 40)) (.cons (.iff (.call 19 (.var 0 (Q 174 17 21)) .nil (Q 174 7 16) (Q 174 7 22)) (.cons (.set 4 (.sub (.fld (.var 0 (Q 175 19 23)) "named" (Q 175 19 29)) (.call 1 (.sub (.var 1 (Q 175 41 45)) (.int 1 (Q 175 46 47)) (Q 175 41 48)) (.cons (.fld (.var 2 (Q 175 50 55)) "block" (Q 175 50 61)) .nil) (Q 175 30 40) (Q 175 30 62)) (Q 175 19 63)) (Q 175 8 16) (Q 175 8 63)) (.cons (.set 5 (.tup (.cons (.sub (.var 4 (Q 176 17 25)) (.int 3 (Q 176 26 27)) (Q 176 17 28)) (.cons (.call 1 (.sub (.var 1 (Q 176 41 45)) (.int 2 (Q 176 46 47)) (Q 176 41 48)) (.cons (.fld (.var 2 (Q 176 50 55)) "block" (Q 176 50 61)) .nil) (Q 176 30 40) (Q 176 30 62)) .nil)) (Q 176 16 63)) (Q 176 8 13) (Q 176 8 63)) (.cons (.ex (.m1 .append (.fld (.var 0 (Q 177 8 12)) "left" (Q 177 8 17)) (.var 2 (Q 177 25 30)) (Q 177 8 24) (Q 177 8 31)) (Q 177 8 31)) (.cons (.setF (.var 0 (Q 178 8 12)) "doing" (.mk 45 "Doing" (.sub (.var 4 (Q 178 27 35)) (.int 4 (Q 178 36 37)) (Q 178 27 38)) (.cons (.call 11 (.sub (.var 4 (Q 178 47 55)) (.int 2 (Q 178 56 57)) (Q 178 47 58)) (.cons (.var 3 (Q 178 60 67)) .nil) (Q 178 40 46) (Q 178 40 68)) (.cons (.var 5 (Q 178 70 75)) (.cons (.non (Q 178 77 81)) .nil))) (Q 178 21 26) (Q 178 21 82)) (Q 178 8 18) (Q 178 8 82)) .nil)))) .nil ⟨174,4,178,82⟩) .nil)))⟩
def w_then_do_1:E:=(.and (.cmp .GtE (.var 4 (Q 192 10 12)) (.int 0 (Q 192 16 17)) (Q 192 10 17)) (.cmp .NotIn (.tup (.cons (.fld (.sub (.fld (.var 0 (Q 192 23 27)) "left" (Q 192 23 32)) (.sub (.fld (.var 0 (Q 192 33 37)) "standing" (Q 192 33 46)) (.var 4 (Q 192 47 49)) (Q 192 33 50)) (Q 192 23 51)) "name" (Q 192 23 56)) (.cons (.var 2 (Q 192 58 62)) .nil)) (Q 192 22 63)) (.fld (.var 0 (Q 192 71 75)) "clauses" (Q 192 71 83)) (Q 192 22 83)) .nil (Q 192 10 83))
def b_then_do_1:Ss:=(.cons (.set 4 (.bin .Sub (.var 4 (Q 193 13 15)) (.int 1 (Q 193 18 19)) (Q 193 13 19)) (Q 193 8 10) (Q 193 8 19)) .nil)
def qT:Df:=⟨"then_do",["walk","tree"],["walk","tree","deed","number","at","held","clause"],(.cons (.set 2 (.sub (.var 1 (Q 186 11 15)) (.int 1 (Q 186 16 17)) (Q 186 11 18)) (Q 186 4 8) (Q 186 4 18)) (.cons (.set 3 (.sub (.call 18 (.fld (.var 0 (Q 187 19 23)) "doing" (Q 187 19 29)) (.cons (.int 1 (Q 187 31 32)) .nil) (Q 187 13 18) (Q 187 13 33)) (.int 0 (Q 187 34 35)) (Q 187 13 36)) (Q 187 4 10) (Q 187 4 36)) (.cons (.iff (.un .Not (.call 19 (.var 0 (Q 188 21 25)) .nil (Q 188 11 20) (Q 188 11 26)) (Q 188 7 26)) (.cons (.retN (Q 189 8 14)) .nil) .nil ⟨188,4,189,14⟩) (.cons (.ex (.m1 .append (.fld (.var 0 (Q 190 4 8)) "record" (Q 190 4 15)) (.tup (.cons (.str "do" (Q 190 24 28)) (.cons (.var 2 (Q 190 30 34)) (.cons (.var 3 (Q 190 36 42)) .nil))) (Q 190 23 43)) (Q 190 4 22) (Q 190 4 44)) (Q 190 4 44)) (.cons (.set 4 (.bin .Sub (.len (.fld (.var 0 (Q 191 13 17)) "standing" (Q 191 13 26)) (Q 191 9 12) (Q 191 9 27)) (.int 1 (Q 191 30 31)) (Q 191 9 31)) (Q 191 4 6) (Q 191 4 31)) (.cons (.whil w_then_do_1 b_then_do_1 ⟨192,4,193,19⟩) (.cons (.iff (.cmp .Lt (.var 4 (Q 194 7 9)) (.int 0 (Q 194 12 13)) (Q 194 7 13)) (.cons (.setF (.var 0 (Q 195 8 12)) "end" (.tup (.cons (.str "asks" (Q 195 20 26)) (.cons (.var 2 (Q 195 28 32)) (.cons (.var 3 (Q 195 34 40)) .nil))) (Q 195 19 41)) (Q 195 8 16) (Q 195 8 41)) .nil) (.cons (.raw (z2m (zR (z4q 40)) 6 [(1,0)])) (.cons (.set 6 (.sub (.fld (.var 0 (Q 198 17 21)) "clauses" (Q 198 17 29)) (.tup (.cons (.fld (.sub (.var 5 (Q 198 30 34)) (.int 0 (Q 198 35 36)) (Q 198 30 37)) "name" (Q 198 30 42)) (.cons (.var 2 (Q 198 44 48)) .nil)) (Q 198 30 48)) (Q 198 17 49)) (Q 198 8 14) (Q 198 8 49)) (.cons (.setF (.var 0 (Q 199 8 12)) "doing" (.mk 45 "Doing" (.sub (.var 6 (Q 199 27 33)) (.int 3 (Q 199 34 35)) (Q 199 27 36)) (.cons (.call 11 (.cut (.var 6 (Q 199 45 51)) (.some (.int 1 (Q 199 52 53))) (.some (.int 3 (Q 199 54 55))) (Q 199 52 55) (Q 199 45 56)) (.cons (.tup (.cons (.var 3 (Q 199 59 65)) (.cons (.fld (.sub (.var 5 (Q 199 67 71)) (.int 0 (Q 199 72 73)) (Q 199 67 74)) "kept" (Q 199 67 79)) .nil)) (Q 199 58 80)) .nil) (Q 199 38 44) (Q 199 38 81)) (.cons (.tup (.cons (.non (Q 199 84 88)) (.cons (.non (Q 199 90 94)) .nil)) (Q 199 83 95)) (.cons (.var 5 (Q 199 97 101)) .nil))) (Q 199 21 26) (Q 199 21 102)) (Q 199 8 18) (Q 199 8 102)) .nil))) ⟨194,4,199,102⟩) .nil)))))))⟩
def Zh:Df:=⟨"leave",["walk"],["walk","number","piece","end"],(.cons (.set 1 (.sub (.fld (.fld (.var 0 (Q 223 13 17)) "doing" (Q 223 13 23)) "numbers" (Q 223 13 31)) (.int 0 (Q 223 32 33)) (Q 223 13 34)) (Q 223 4 10) (Q 223 4 34)) (.cons (.iff (.call 24 (.fld (.var 0 (Q 224 19 23)) "doing" (Q 224 19 29)) .nil (Q 224 7 18) (Q 224 7 30)) (.cons (.raw (z2m (zR (z4q 45)) 1 [(0,0)])) .nil) .nil ⟨224,4,225,48⟩) (.cons (.iff (.cmpN false (.fld (.var 0 (Q 226 7 11)) "left" (Q 226 7 16)) (Q 226 20 22) (Q 226 7 22)) (.cons (.setF (.var 0 (Q 227 8 12)) "end" (.tup (.cons (.str "done" (Q 227 20 26)) (.cons (.var 1 (Q 227 28 34)) .nil)) (Q 227 19 35)) (Q 227 8 16) (Q 227 8 35)) (.cons (.retN (Q 228 8 14)) .nil)) .nil ⟨226,4,228,14⟩) (.cons (.set 2 (.m0 .pop (.fld (.var 0 (Q 229 12 16)) "left" (Q 229 12 21)) (Q 229 12 25) (Q 229 12 27)) (Q 229 4 9) (Q 229 4 27)) (.cons (.iff (.isC "Standing" ["Walk","Doing","Standing"] (.var 2 (Q 230 18 23)) (Q 230 7 17) (Q 230 25 33) (Q 230 7 34)) (.cons (.ex (.m0 .pop (.fld (.var 0 (Q 231 8 12)) "standing" (Q 231 8 21)) (Q 231 8 25) (Q 231 8 27)) (Q 231 8 27)) (.cons (.set 3 (.sub (.sub (.fld (.var 0 (Q 232 14 18)) "named" (Q 232 14 24)) (.fld (.var 2 (Q 232 25 30)) "name" (Q 232 25 35)) (Q 232 14 36)) (.int 3 (Q 232 37 38)) (Q 232 14 39)) (Q 232 8 11) (Q 232 8 39)) (.cons (.setF (.var 0 (Q 233 8 12)) "doing" (.mk 45 "Doing" (.sub (.var 3 (Q 233 27 30)) (.int 2 (Q 233 31 32)) (Q 233 27 33)) (.cons (.call 11 (.cut (.var 3 (Q 233 42 45)) .none (.some (.int 2 (Q 233 47 48))) (Q 233 46 48) (Q 233 42 49)) (.cons (.tup (.cons (.var 1 (Q 233 52 58)) (.cons (.fld (.var 2 (Q 233 60 65)) "kept" (Q 233 60 70)) .nil)) (Q 233 51 71)) .nil) (Q 233 35 41) (Q 233 35 72)) (.cons (.tup (.cons (.non (Q 233 75 79)) (.cons (.non (Q 233 81 85)) .nil)) (Q 233 74 86)) (.cons (.non (Q 233 88 92)) .nil))) (Q 233 21 26) (Q 233 21 93)) (Q 233 8 18) (Q 233 8 93)) .nil))) (.cons (.setF (.var 0 (Q 235 8 12)) "doing" (.call 10 (.var 2 (Q 235 34 39)) .nil (Q 235 21 33) (Q 235 21 40)) (Q 235 8 18) (Q 235 8 40)) (.cons (.ex (.call 17 (.fld (.var 0 (Q 236 12 16)) "doing" (Q 236 12 22)) (.cons (.var 1 (Q 236 24 30)) .nil) (Q 236 8 11) (Q 236 8 31)) (Q 236 8 31)) .nil)) ⟨230,4,236,31⟩) .nil)))))⟩
def d_holds_alone:Df:=⟨"holds_alone",["doing"],["doing"],(.cons (.ret (.and (.cmp .IsNot (.fld (.var 0 (Q 238 11 16)) "held" (Q 238 11 21)) (.non (Q 238 29 33)) (Q 238 11 33)) (.un .Not (.fld (.var 0 (Q 238 43 48)) "went" (Q 238 43 53)) (Q 238 39 53)) .nil (Q 238 11 54)) (Q 238 4 54)) .nil)⟩
def wu:Df:=⟨"_law_cell_at",["_law_script","_law_k"],["_law_script","_law_k"],(.cons (.iff (.cmp .Lt (.var 1 (Q 257 7 13)) (.len (.var 0 (Q 257 20 31)) (Q 257 16 19) (Q 257 16 32)) (Q 257 7 32)) (.cons (.ret (.sub (.var 0 (Q 258 15 26)) (.var 1 (Q 258 27 33)) (Q 258 15 34)) (Q 258 8 34)) .nil) .nil ⟨257,4,258,34⟩) (.cons (.ret (.int 0 (Q 259 11 12)) (Q 259 4 12)) .nil))⟩
def qE:Df:=⟨"_law_whole",["_law_found_here"],["_law_found_here"],(.cons (.ret (.and (.isi 0 (.var 0 (Q 261 22 37)) (Q 261 11 21) (Q 261 39 42) (Q 261 11 43)) (.un .Not (.isi 1 (.var 0 (Q 261 64 79)) (Q 261 53 63) (Q 261 81 85) (Q 261 53 86)) (Q 261 49 86)) .nil (Q 261 11 87)) (Q 261 4 87)) .nil)⟩
def Jr:Tg:=(.tup [(2,(Q 265 8 16)),(3,(Q 265 18 28))] (Q 265 8 28))
def Js:Ss:=(.cons (.iff (.isi 2 (.var 3 (Q 266 22 32)) (Q 266 11 21) (Q 266 34 37) (Q 266 11 38)) (.cons (.iff (.un .Not (.isi 2 (.var 2 (Q 267 30 38)) (Q 267 19 29) (Q 267 40 43) (Q 267 19 44)) (Q 267 15 44)) (.cons (.ret (.bl false (Q 268 23 28)) (Q 268 16 28)) .nil) .nil ⟨267,12,268,28⟩) .nil) (.cons (.iff (.un .Not (.call 26 (.var 2 (Q 269 28 36)) .nil (Q 269 17 27) (Q 269 17 37)) (Q 269 13 37)) (.cons (.ret (.bl false (Q 270 19 24)) (Q 270 12 24)) .nil) .nil ⟨269,8,270,24⟩) .nil) ⟨266,8,270,24⟩) .nil)
def qF:Df:=⟨"_law_alike",["_law_found_here","_law_due"],["_law_found_here","_law_due","_law_one","_law_other"],(.cons (.iff (.or (.un .Not (.isi 3 (.var 0 (Q 263 22 37)) (Q 263 11 21) (Q 263 39 44) (Q 263 11 45)) (Q 263 7 45)) (.cmp .NotEq (.len (.var 0 (Q 263 53 68)) (Q 263 49 52) (Q 263 49 69)) (.len (.var 1 (Q 263 77 85)) (Q 263 73 76) (Q 263 73 86)) (Q 263 49 86)) .nil (Q 263 7 86)) (.cons (.ret (.bl false (Q 264 15 20)) (Q 264 8 20)) .nil) .nil ⟨263,4,264,20⟩) (.cons (.forr Jr (.zip (.var 0 (Q 265 36 51)) (.var 1 (Q 265 53 61)) (Q 265 32 35) (Q 265 32 62)) Js ⟨265,4,270,24⟩) (.cons (.ret (.cmp .Eq (.var 0 (Q 271 11 26)) (.var 1 (Q 271 30 38)) (Q 271 11 38)) (Q 271 4 38)) .nil)))⟩
def y0:Tg:=(.tup [(4,(Q 277 8 16)),(5,(Q 277 18 28))] (Q 277 8 28))
def b_law_right_1:Ss:=(.cons (.iff (.un .Not (.call 27 (.var 4 (Q 278 26 34)) (.cons (.var 5 (Q 278 36 46)) .nil) (Q 278 15 25) (Q 278 15 47)) (Q 278 11 47)) (.cons (.ret (.bl false (Q 279 19 24)) (Q 279 12 24)) .nil) .nil ⟨278,8,279,24⟩) .nil)
def qG:Df:=⟨"_law_right",["_law_found_here","_law_end","_law_record","_law_used"],["_law_found_here","_law_end","_law_record","_law_used","_law_one","_law_other"],(.cons (.iff (.or (.un .Not (.isi 3 (.var 0 (Q 273 22 37)) (Q 273 11 21) (Q 273 39 44) (Q 273 11 45)) (Q 273 7 45)) (.cmp .NotEq (.len (.var 0 (Q 273 53 68)) (Q 273 49 52) (Q 273 49 69)) (.int 3 (Q 273 73 74)) (Q 273 49 74)) .nil (Q 273 7 74)) (.cons (.ret (.bl false (Q 274 15 20)) (Q 274 8 20)) .nil) .nil ⟨273,4,274,20⟩) (.cons (.iff (.or (.un .Not (.isi 4 (.sub (.var 0 (Q 275 22 37)) (.int 1 (Q 275 38 39)) (Q 275 22 40)) (Q 275 11 21) (Q 275 42 46) (Q 275 11 47)) (Q 275 7 47)) (.cmp .NotEq (.len (.sub (.var 0 (Q 275 55 70)) (.int 1 (Q 275 71 72)) (Q 275 55 73)) (Q 275 51 54) (Q 275 51 74)) (.len (.var 2 (Q 275 82 93)) (Q 275 78 81) (Q 275 78 94)) (Q 275 51 94)) .nil (Q 275 7 94)) (.cons (.ret (.bl false (Q 276 15 20)) (Q 276 8 20)) .nil) .nil ⟨275,4,276,20⟩) (.cons (.forr y0 (.zip (.sub (.var 0 (Q 277 36 51)) (.int 1 (Q 277 52 53)) (Q 277 36 54)) (.var 2 (Q 277 56 67)) (Q 277 32 35) (Q 277 32 68)) b_law_right_1 ⟨277,4,279,24⟩) (.cons (.ret (.and (.call 27 (.sub (.var 0 (Q 280 22 37)) (.int 0 (Q 280 38 39)) (Q 280 22 40)) (.cons (.var 1 (Q 280 42 50)) .nil) (Q 280 11 21) (Q 280 11 51)) (.call 26 (.sub (.var 0 (Q 280 67 82)) (.int 2 (Q 280 83 84)) (Q 280 67 85)) .nil (Q 280 56 66) (Q 280 56 86)) (.cons (.cmp .Eq (.sub (.var 0 (Q 280 92 107)) (.int 2 (Q 280 108 109)) (Q 280 92 110)) (.var 3 (Q 280 114 123)) (Q 280 92 123)) .nil) (Q 280 11 124)) (Q 280 4 124)) .nil))))⟩
def e_law_names_1:E:=(.cmp .In (.var 0 (Q 296 12 21)) (.var 1 (Q 296 25 35)) (Q 296 12 35))
def c_law_names_1:Es:=.nil
def wv:Tg:=(.one 0 (Q 296 40 49))
def y7:Scope:={ kind:=.function,names:=[ (".0",.local),("_law_name",.local),("_law_words",.free)],isGenerator:=false,isCoroutine:=false,more:=[] }
def e_law_names_2:E:=(.sub (.var 2 (Q 297 27 37)) (.bin .Mod (.bin .Add (.bin .FloorDiv (.var 1 (Q 297 39 48)) (.int 64 (Q 297 52 54)) (Q 297 39 54)) (.var 0 (Q 297 57 63)) (Q 297 39 63)) (.int 21 (Q 297 67 69)) (Q 297 38 69)) (Q 297 27 70))
def c_law_names_2:Es:=.nil
def ww:Tg:=(.one 0 (Q 297 75 81))
def ya:Scope:={ kind:=.function,names:=[ (".0",.local),("_law_k",.local),("_law_cell",.free),("_law_tells",.free)],isGenerator:=false,isCoroutine:=false,more:=[] }
def yb:Tg:=(.one 10 (Q 290 12 18))
def b_law_names_4:Ss:=(.cons (.set 11 (.sub (.var 2 (Q 291 24 36)) (.bin .Mod (.bin .Add (.bin .FloorDiv (.bin .FloorDiv (.var 0 (Q 291 38 47)) (.int 64 (Q 291 51 53)) (Q 291 38 53)) (.bin .Add (.var 10 (Q 291 58 64)) (.int 1 (Q 291 67 68)) (Q 291 58 68)) (Q 291 38 69)) (.bin .Mult (.int 5 (Q 291 72 73)) (.var 10 (Q 291 76 82)) (Q 291 72 82)) (Q 291 38 82)) (.int 26 (Q 291 86 88)) (Q 291 37 88)) (Q 291 24 89)) (Q 291 12 21) (Q 291 12 89)) (.cons (.iff (.cmp .Eq (.var 10 (Q 292 15 21)) (.var 6 (Q 292 25 32)) (Q 292 15 32)) (.cons (.set 11 (.sub (.var 3 (Q 293 28 38)) (.bin .Mod (.bin .Add (.bin .FloorDiv (.var 0 (Q 293 40 49)) (.int 64 (Q 293 53 55)) (Q 293 40 55)) (.var 8 (Q 293 58 64)) (Q 293 40 64)) (.int 21 (Q 293 68 70)) (Q 293 39 70)) (Q 293 28 71)) (Q 293 16 25) (Q 293 16 71)) .nil) .nil ⟨292,12,293,71⟩) (.cons (.set 9 (.bin .Add (.var 9 (Q 294 24 33)) (.var 11 (Q 294 36 45)) (Q 294 24 45)) (Q 294 12 21) (Q 294 12 45)) .nil)))
def yc:Tg:=(.one 8 (Q 288 8 14))
def b_law_names_3:Ss:=(.cons (.set 9 (.str "" (Q 289 20 22)) (Q 289 8 17) (Q 289 8 22)) (.cons (.forr yb (.rng (.var 5 (Q 290 28 37)) (Q 290 22 27) (Q 290 22 38)) b_law_names_4 ⟨290,8,294,45⟩) (.cons (.ex (.m1 .append (.var 7 (Q 295 8 23)) (.var 9 (Q 295 31 40)) (Q 295 8 30) (Q 295 8 41)) (Q 295 8 41)) .nil)))
def qH:Df:=⟨"_law_names",["_law_cell","_law_many"],["_law_cell","_law_many","_law_letters","_law_tells","_law_words","_law_size","_law_at","_law_names_here","_law_k","_law_name","_law_j","_law_sign"],(.cons (.set 2 (.str "abcdefghijklmnopqrstuvwxyz" (Q 282 19 47)) (Q 282 4 16) (Q 282 4 47)) (.cons (.set 3 (.str "bcdfghjklmnpqrstvwxyz" (Q 283 17 40)) (Q 283 4 14) (Q 283 4 40)) (.cons (.set 4 (.ofL (.disp (.cons (.str "def" (Q 284 18 23)) (.cons (.str "handler" (Q 284 25 34)) (.cons (.str "on" (Q 284 36 40)) (.cons (.str "end" (Q 284 42 47)) (.cons (.str "let" (Q 284 49 54)) (.cons (.str "if" (Q 284 56 60)) (.cons (.str "call" (Q 284 62 68)) (.cons (.str "hand" (Q 284 70 76)) (.cons (.str "do" (Q 284 78 82)) (.cons (.str "handle" (Q 284 84 92)) (.cons (.str "go" (Q 284 94 98)) (.cons (.str "guard" (Q 284 100 107)) .nil)))))))))))) (Q 284 17 108))) (Q 284 4 14) (Q 284 4 108)) (.cons (.set 5 (.bin .Add (.int 1 (Q 285 16 17)) (.bin .Mod (.var 0 (Q 285 20 29)) (.int 8 (Q 285 32 33)) (Q 285 20 33)) (Q 285 16 33)) (Q 285 4 13) (Q 285 4 33)) (.cons (.set 6 (.bin .Mod (.bin .FloorDiv (.var 0 (Q 286 14 23)) (.int 8 (Q 286 27 28)) (Q 286 14 28)) (.var 5 (Q 286 31 40)) (Q 286 14 40)) (Q 286 4 11) (Q 286 4 40)) (.cons (.set 7 (.ofL (.disp .nil (Q 287 22 24))) (Q 287 4 19) (Q 287 4 24)) (.cons (.forr yc (.rng (.var 1 (Q 288 24 33)) (Q 288 18 23) (Q 288 18 34)) b_law_names_3 ⟨288,4,295,41⟩) (.cons (.iff (.c1 .any (.ofL (.comp e_law_names_1 wv (.seq (.var 7 (Q 296 53 68))) c_law_names_1 ["_law_name","_law_words"] [none,some 4] y7 (Q 296 11 69))) (Q 296 7 10) (Q 296 7 70)) (.cons (.set 7 (.ofL (.comp e_law_names_2 ww (.rng (.var 1 (Q 297 91 100)) (Q 297 85 90) (Q 297 85 101)) c_law_names_2 ["_law_k","_law_cell","_law_tells"] [none,some 0,some 3] ya (Q 297 26 102))) (Q 297 8 23) (Q 297 8 102)) .nil) .nil ⟨296,4,297,102⟩) (.cons (.ret (.var 7 (Q 298 11 26)) (Q 298 4 26)) .nil)))))))))⟩
def d_law_number:Df:=⟨"_law_number",["_law_cell"],["_law_cell","_law_rest"],(.cons (.set 1 (.bin .FloorDiv (.var 0 (Q 300 16 25)) (.int 6 (Q 300 29 30)) (Q 300 16 30)) (Q 300 4 13) (Q 300 4 30)) (.cons (.iff (.cmp .Eq (.bin .Mod (.var 0 (Q 301 7 16)) (.int 6 (Q 301 19 20)) (Q 301 7 20)) (.int 0 (Q 301 24 25)) (Q 301 7 25)) (.cons (.ret (.bin .Sub (.bin .Mod (.var 1 (Q 302 15 24)) (.int 7 (Q 302 27 28)) (Q 302 15 28)) (.int 3 (Q 302 31 32)) (Q 302 15 32)) (Q 302 8 32)) .nil) .nil ⟨301,4,302,32⟩) (.cons (.iff (.cmp .Eq (.bin .Mod (.var 0 (Q 303 7 16)) (.int 6 (Q 303 19 20)) (Q 303 7 20)) (.int 1 (Q 303 24 25)) (Q 303 7 25)) (.cons (.ret (.bin .Sub (.bin .Mod (.var 1 (Q 304 15 24)) (.int 2001 (Q 304 27 31)) (Q 304 15 31)) (.int 1000 (Q 304 34 38)) (Q 304 15 38)) (Q 304 8 38)) .nil) .nil ⟨303,4,304,38⟩) (.cons (.iff (.cmp .Eq (.bin .Mod (.var 0 (Q 305 7 16)) (.int 6 (Q 305 19 20)) (Q 305 7 20)) (.int 2 (Q 305 24 25)) (Q 305 7 25)) (.cons (.ret (.bin .Sub (.bin .Add (.bin .Pow (.int 10 (Q 306 15 17)) (.int 9 (Q 306 21 22)) (Q 306 15 22)) (.bin .Mod (.var 1 (Q 306 25 34)) (.int 5 (Q 306 37 38)) (Q 306 25 38)) (Q 306 15 38)) (.int 2 (Q 306 41 42)) (Q 306 15 42)) (Q 306 8 42)) .nil) .nil ⟨305,4,306,42⟩) (.cons (.iff (.cmp .Eq (.bin .Mod (.var 0 (Q 307 7 16)) (.int 6 (Q 307 19 20)) (Q 307 7 20)) (.int 3 (Q 307 24 25)) (Q 307 7 25)) (.cons (.ret (.bin .Sub (.bin .Pow (.int 10 (Q 308 15 17)) (.int 18 (Q 308 21 23)) (Q 308 15 23)) (.bin .Mod (.var 1 (Q 308 26 35)) (.int 3 (Q 308 38 39)) (Q 308 26 39)) (Q 308 15 39)) (Q 308 8 39)) .nil) .nil ⟨307,4,308,39⟩) (.cons (.iff (.cmp .Eq (.bin .Mod (.var 0 (Q 309 7 16)) (.int 6 (Q 309 19 20)) (Q 309 7 20)) (.int 4 (Q 309 24 25)) (Q 309 7 25)) (.cons (.ret (.bin .Sub (.bin .Mod (.var 1 (Q 310 15 24)) (.bin .Add (.bin .Mult (.int 2 (Q 310 28 29)) (.bin .Pow (.int 10 (Q 310 32 34)) (.int 18 (Q 310 38 40)) (Q 310 32 40)) (Q 310 28 40)) (.int 1 (Q 310 43 44)) (Q 310 28 44)) (Q 310 15 45)) (.bin .Pow (.int 10 (Q 310 48 50)) (.int 18 (Q 310 54 56)) (Q 310 48 56)) (Q 310 15 56)) (Q 310 8 56)) .nil) .nil ⟨309,4,310,56⟩) (.cons (.ret (.bin .Sub (.bin .Mod (.var 1 (Q 311 11 20)) (.int 3 (Q 311 23 24)) (Q 311 11 24)) (.bin .Pow (.int 10 (Q 311 27 29)) (.int 18 (Q 311 33 35)) (Q 311 27 35)) (Q 311 11 35)) (Q 311 4 35)) .nil)))))))⟩
def d_law_reckoned:Df:=⟨"_law_reckoned",["_law_sign","_law_one","_law_other"],["_law_sign","_law_one","_law_other","_law_found_here"],(.cons (.set 3 (.c1 .int (.cmp .Lt (.var 1 (Q 313 26 34)) (.var 2 (Q 313 37 47)) (Q 313 26 47)) (Q 313 22 25) (Q 313 22 48)) (Q 313 4 19) (Q 313 4 48)) (.cons (.iff (.cmp .Eq (.var 0 (Q 314 7 16)) (.str "+" (Q 314 20 23)) (Q 314 7 23)) (.cons (.set 3 (.bin .Add (.var 1 (Q 315 26 34)) (.var 2 (Q 315 37 47)) (Q 315 26 47)) (Q 315 8 23) (Q 315 8 47)) .nil) .nil ⟨314,4,315,47⟩) (.cons (.iff (.cmp .Eq (.var 0 (Q 316 7 16)) (.str "-" (Q 316 20 23)) (Q 316 7 23)) (.cons (.set 3 (.bin .Sub (.var 1 (Q 317 26 34)) (.var 2 (Q 317 37 47)) (Q 317 26 47)) (Q 317 8 23) (Q 317 8 47)) .nil) .nil ⟨316,4,317,47⟩) (.cons (.iff (.cmp .Eq (.var 0 (Q 318 7 16)) (.str "*" (Q 318 20 23)) (Q 318 7 23)) (.cons (.set 3 (.bin .Mult (.var 1 (Q 319 26 34)) (.var 2 (Q 319 37 47)) (Q 319 26 47)) (Q 319 8 23) (Q 319 8 47)) .nil) .nil ⟨318,4,319,47⟩) (.cons (.iff (.cmp .Gt (.c1 .abs (.var 3 (Q 320 11 26)) (Q 320 7 10) (Q 320 7 27)) (.bin .Pow (.int 10 (Q 320 30 32)) (.int 18 (Q 320 36 38)) (Q 320 30 38)) (Q 320 7 38)) (.cons (.ret (.non (Q 321 15 19)) (Q 321 8 19)) .nil) .nil ⟨320,4,321,19⟩) (.cons (.ret (.var 3 (Q 322 11 26)) (Q 322 4 26)) .nil))))))⟩
def ym:Df:=⟨"_law_draw",["_law_cell","_law_k"],["_law_cell","_law_k"],(.cons (.ret (.bin .Mod (.bin .Add (.bin .Add (.bin .Mult (.bin .Mult (.bin .Mod (.var 0 (Q 324 12 21)) (.int 1000003 (Q 324 24 31)) (Q 324 12 31)) (.bin .Add (.bin .Mult (.int 2 (Q 324 35 36)) (.var 1 (Q 324 39 45)) (Q 324 35 45)) (.int 1 (Q 324 48 49)) (Q 324 35 49)) (Q 324 12 50)) (.int 48271 (Q 324 53 58)) (Q 324 12 58)) (.bin .Mult (.int 7919 (Q 324 61 65)) (.var 1 (Q 324 68 74)) (Q 324 61 74)) (Q 324 12 74)) (.var 0 (Q 324 77 86)) (Q 324 12 86)) (.int 2147483647 (Q 324 90 100)) (Q 324 11 100)) (Q 324 4 100)) .nil)⟩
def qI:Df:=⟨"_law_ended",["_law_st","_law_end"],["_law_st","_law_end"],(.cons (.put (.var 0 (Q 326 4 11)) (.str "end" (Q 326 12 17)) (.var 1 (Q 326 21 29)) (Q 326 4 18) (Q 326 4 29)) (.cons (.ret (.non (Q 327 11 15)) (Q 327 4 15)) .nil))⟩
def wT:Df:=⟨"_law_turn",["_law_st"],["_law_st"],(.cons (.iff (.cmp .GtE (.sub (.var 0 (Q 329 7 14)) (.str "used" (Q 329 15 21)) (Q 329 7 22)) (.sub (.var 0 (Q 329 26 33)) (.str "turns" (Q 329 34 41)) (Q 329 26 42)) (Q 329 7 42)) (.cons (.ex (.call 33 (.var 0 (Q 330 19 26)) (.cons (.tup (.cons (.str "spent" (Q 330 29 36)) .nil) (Q 330 28 38)) .nil) (Q 330 8 18) (Q 330 8 39)) (Q 330 8 39)) (.cons (.ret (.bl false (Q 331 15 20)) (Q 331 8 20)) .nil)) .nil ⟨329,4,331,20⟩) (.cons (.put (.var 0 (Q 332 4 11)) (.str "used" (Q 332 12 18)) (.bin .Add (.sub (.var 0 (Q 332 22 29)) (.str "used" (Q 332 30 36)) (Q 332 22 37)) (.int 1 (Q 332 40 41)) (Q 332 22 41)) (Q 332 4 19) (Q 332 4 41)) (.cons (.ret (.bl true (Q 333 11 15)) (Q 333 4 15)) .nil)))⟩
def wU:Df:=⟨"_law_done",["_law_deed","_law_number_here","_law_st"],["_law_deed","_law_number_here","_law_st","_law_answer"],(.cons (.iff (.un .Not (.call 34 (.var 2 (Q 335 21 28)) .nil (Q 335 11 20) (Q 335 11 29)) (Q 335 7 29)) (.cons (.ret (.non (Q 336 15 19)) (Q 336 8 19)) .nil) .nil ⟨335,4,336,19⟩) (.cons (.put (.var 2 (Q 337 4 11)) (.str "record" (Q 337 12 20)) (.bin .Add (.sub (.var 2 (Q 337 24 31)) (.str "record" (Q 337 32 40)) (Q 337 24 41)) (.ofL (.disp (.cons (.tup (.cons (.str "do" (Q 337 46 50)) (.cons (.var 0 (Q 337 52 61)) (.cons (.var 1 (Q 337 63 79)) .nil))) (Q 337 45 80)) .nil) (Q 337 44 81))) (Q 337 24 81)) (Q 337 4 21) (Q 337 4 81)) (.cons (.iff (.cmpN false (.sub (.var 2 (Q 338 7 14)) (.str "answers" (Q 338 15 24)) (Q 338 7 25)) (Q 338 29 31) (Q 338 7 31)) (.cons (.ret (.call 33 (.var 2 (Q 339 26 33)) (.cons (.tup (.cons (.str "asks" (Q 339 36 42)) (.cons (.var 0 (Q 339 44 53)) (.cons (.var 1 (Q 339 55 71)) .nil))) (Q 339 35 72)) .nil) (Q 339 15 25) (Q 339 15 73)) (Q 339 8 73)) .nil) .nil ⟨338,4,339,73⟩) (.cons (.set 3 (.sub (.sub (.var 2 (Q 340 18 25)) (.str "answers" (Q 340 26 35)) (Q 340 18 36)) (.int 0 (Q 340 37 38)) (Q 340 18 39)) (Q 340 4 15) (Q 340 4 39)) (.cons (.put (.var 2 (Q 341 4 11)) (.str "answers" (Q 341 12 21)) (.cut (.sub (.var 2 (Q 341 25 32)) (.str "answers" (Q 341 33 42)) (Q 341 25 43)) (.some (.int 1 (Q 341 44 45))) .none (Q 341 44 46) (Q 341 25 47)) (Q 341 4 22) (Q 341 4 47)) (.cons (.ret (.var 3 (Q 342 11 22)) (Q 342 4 22)) .nil))))))⟩
def d_law_shift:Df:=⟨"_law_shift",["_law_cell","_law_k","_law_name"],["_law_cell","_law_k","_law_name","_law_number_here"],(.cons (.set 3 (.bin .Mod (.call 32 (.var 0 (Q 344 33 42)) (.cons (.var 1 (Q 344 44 50)) .nil) (Q 344 23 32) (Q 344 23 51)) (.bin .Pow (.int 10 (Q 344 54 56)) (.int 9 (Q 344 60 61)) (Q 344 54 61)) (Q 344 23 61)) (Q 344 4 20) (Q 344 4 61)) (.cons (.iff (.cmp .Eq (.bin .Mod (.var 3 (Q 345 7 23)) (.int 5 (Q 345 26 27)) (Q 345 7 27)) (.int 0 (Q 345 31 32)) (Q 345 7 32)) (.cons (.set 3 (.bin .Add (.bin .Mult (.var 3 (Q 346 27 43)) (.bin .Pow (.int 10 (Q 346 46 48)) (.int 9 (Q 346 52 53)) (Q 346 46 53)) (Q 346 27 53)) (.int 7 (Q 346 56 57)) (Q 346 27 57)) (Q 346 8 24) (Q 346 8 57)) .nil) .nil ⟨345,4,346,57⟩) (.cons (.ret (.tup (.cons (.str "op" (Q 347 12 16)) (.cons (.sub (.str "+-<*+-" (Q 347 18 26)) (.bin .Mod (.call 32 (.var 0 (Q 347 37 46)) (.cons (.bin .Add (.var 1 (Q 347 48 54)) (.int 1 (Q 347 57 58)) (Q 347 48 58)) .nil) (Q 347 27 36) (Q 347 27 59)) (.int 6 (Q 347 62 63)) (Q 347 27 63)) (Q 347 18 64)) (.cons (.tup (.cons (.str "var" (Q 347 67 72)) (.cons (.var 2 (Q 347 74 83)) .nil)) (Q 347 66 84)) (.cons (.tup (.cons (.str "num" (Q 347 87 92)) (.cons (.var 3 (Q 347 94 110)) .nil)) (Q 347 86 111)) .nil)))) (Q 347 11 112)) (Q 347 4 112)) .nil)))⟩
def jN:Df:=⟨"_law_simple",["_law_cell","_law_name","_law_deed","_law_param"],["_law_cell","_law_name","_law_deed","_law_param","_law_body"],(.cons (.set 4 (.call 36 (.var 0 (Q 349 27 36)) (.cons (.int 0 (Q 349 38 39)) (.cons (.var 3 (Q 349 41 51)) .nil)) (Q 349 16 26) (Q 349 16 52)) (Q 349 4 13) (Q 349 4 52)) (.cons (.iff (.cmp .Gt (.bin .Mod (.var 0 (Q 350 7 16)) (.int 3 (Q 350 19 20)) (Q 350 7 20)) (.int 0 (Q 350 23 24)) (Q 350 7 24)) (.cons (.set 4 (.tup (.cons (.str "do" (Q 351 21 25)) (.cons (.var 2 (Q 351 27 36)) (.cons (.var 4 (Q 351 38 47)) .nil))) (Q 351 20 48)) (Q 351 8 17) (Q 351 8 48)) .nil) .nil ⟨350,4,351,48⟩) (.cons (.ret (.tup (.cons (.str "def" (Q 352 12 17)) (.cons (.var 1 (Q 352 19 28)) (.cons (.tup (.cons (.var 3 (Q 352 31 41)) .nil) (Q 352 30 43)) (.cons (.non (Q 352 45 49)) (.cons (.var 4 (Q 352 51 60)) .nil))))) (Q 352 11 61)) (Q 352 4 61)) .nil)))⟩
def e_law_passer_1:E:=(.call 36 (.var 1 (Q 357 28 37)) (.cons (.bin .Add (.int 3 (Q 357 39 40)) (.bin .Mult (.int 2 (Q 357 43 44)) (.var 0 (Q 357 47 53)) (Q 357 43 53)) (Q 357 39 53)) (.cons (.sub (.var 2 (Q 357 55 66)) (.bin .Mod (.call 32 (.var 1 (Q 357 77 86)) (.cons (.bin .Add (.int 9 (Q 357 88 89)) (.var 0 (Q 357 92 98)) (Q 357 88 98)) .nil) (Q 357 67 76) (Q 357 67 99)) (.len (.var 2 (Q 357 106 117)) (Q 357 102 105) (Q 357 102 118)) (Q 357 67 118)) (Q 357 55 119)) .nil)) (Q 357 17 27) (Q 357 17 120))
def c_law_passer_1:Es:=.nil
def qJ:Tg:=(.one 0 (Q 357 125 131))
def ZX:Scope:={ kind:=.function,names:=[ (".0",.local),("_law_j",.local),("_law_shift",.globalImplicit),("_law_draw",.globalImplicit),("len",.globalImplicit),("_law_cell",.free),("_law_params",.free)],isGenerator:=false,isCoroutine:=false,more:=[] }
def d_law_passer:Df:=⟨"_law_passer",["_law_cell","_law_name","_law_block","_law_params","_law_onward"],["_law_cell","_law_name","_law_block","_law_params","_law_onward","_law_own","_law_args","_law_handed","_law_hand","_law_parts"],(.cons (.set 5 (.tup (.cons (.str "call" (Q 354 16 22)) (.cons (.var 2 (Q 354 24 34)) (.cons (.non (Q 354 36 40)) (.cons (.tup (.cons (.call 36 (.var 0 (Q 354 54 63)) (.cons (.int 0 (Q 354 65 66)) (.cons (.sub (.var 3 (Q 354 68 79)) (.bin .Mod (.call 32 (.var 0 (Q 354 90 99)) (.cons (.int 2 (Q 354 101 102)) .nil) (Q 354 80 89) (Q 354 80 103)) (.len (.var 3 (Q 354 110 121)) (Q 354 106 109) (Q 354 106 122)) (Q 354 80 122)) (Q 354 68 123)) .nil)) (Q 354 43 53) (Q 354 43 124)) .nil) (Q 354 42 126)) .nil)))) (Q 354 15 127)) (Q 354 4 12) (Q 354 4 127)) (.cons (.iff (.cmp .Is (.var 4 (Q 355 7 18)) (.non (Q 355 22 26)) (Q 355 7 26)) (.cons (.ret (.tup (.cons (.str "def" (Q 356 16 21)) (.cons (.var 1 (Q 356 23 32)) (.cons (.tupE (.var 3 (Q 356 40 51)) (Q 356 34 39) (Q 356 34 52)) (.cons (.var 2 (Q 356 54 64)) (.cons (.var 5 (Q 356 66 74)) .nil))))) (Q 356 15 75)) (Q 356 8 75)) .nil) .nil ⟨355,4,356,75⟩) (.cons (.set 6 (.ofL (.comp e_law_passer_1 qJ (.rng (.sub (.var 4 (Q 357 141 152)) (.int 1 (Q 357 153 154)) (Q 357 141 155)) (Q 357 135 140) (Q 357 135 156)) c_law_passer_1 ["_law_j","_law_cell","_law_params"] [none,some 0,some 3] ZX (Q 357 16 157))) (Q 357 4 13) (Q 357 4 157)) (.cons (.set 7 (.sub (.var 4 (Q 358 18 29)) (.int 2 (Q 358 30 31)) (Q 358 18 32)) (Q 358 4 15) (Q 358 4 32)) (.cons (.iff (.cmp .Is (.var 7 (Q 359 7 18)) (.non (Q 359 22 26)) (Q 359 7 26)) (.cons (.set 7 (.var 2 (Q 360 22 32)) (Q 360 8 19) (Q 360 8 32)) .nil) .nil ⟨359,4,360,32⟩) (.cons (.set 8 (.tup (.cons (.str "call" (Q 361 17 23)) (.cons (.sub (.var 4 (Q 361 25 36)) (.int 0 (Q 361 37 38)) (Q 361 25 39)) (.cons (.var 7 (Q 361 41 52)) (.cons (.tupE (.var 6 (Q 361 60 69)) (Q 361 54 59) (Q 361 54 70)) .nil)))) (Q 361 16 71)) (Q 361 4 13) (Q 361 4 71)) (.cons (.set 9 (.ofL (.disp (.cons (.var 5 (Q 362 18 26)) (.cons (.var 8 (Q 362 28 37)) .nil)) (Q 362 17 38))) (Q 362 4 14) (Q 362 4 38)) (.cons (.iff (.cmp .Eq (.bin .Mod (.call 32 (.var 0 (Q 363 17 26)) (.cons (.int 13 (Q 363 28 30)) .nil) (Q 363 7 16) (Q 363 7 31)) (.int 2 (Q 363 34 35)) (Q 363 7 35)) (.int 1 (Q 363 39 40)) (Q 363 7 40)) (.cons (.set 9 (.ofL (.disp (.cons (.var 8 (Q 364 22 31)) (.cons (.var 5 (Q 364 33 41)) .nil)) (Q 364 21 42))) (Q 364 8 18) (Q 364 8 42)) .nil) .nil ⟨363,4,364,42⟩) (.cons (.ret (.tup (.cons (.str "def" (Q 365 12 17)) (.cons (.var 1 (Q 365 19 28)) (.cons (.tupE (.var 3 (Q 365 36 47)) (Q 365 30 35) (Q 365 30 48)) (.cons (.var 2 (Q 365 50 60)) (.cons (.tup (.cons (.str "op" (Q 365 63 67)) (.cons (.sub (.str "+-<" (Q 365 69 74)) (.bin .Mod (.call 32 (.var 0 (Q 365 85 94)) (.cons (.int 14 (Q 365 96 98)) .nil) (Q 365 75 84) (Q 365 75 99)) (.int 3 (Q 365 102 103)) (Q 365 75 103)) (Q 365 69 104)) (.cons (.sub (.var 9 (Q 365 106 116)) (.int 0 (Q 365 117 118)) (Q 365 106 119)) (.cons (.sub (.var 9 (Q 365 121 131)) (.int 1 (Q 365 132 133)) (Q 365 121 134)) .nil)))) (Q 365 62 135)) .nil))))) (Q 365 11 136)) (Q 365 4 136)) .nil)))))))))⟩
def e_law_program_2:E:=(.var 0 (Q 381 23 32))
def c_law_program_2:Es:=(.cons (.cmp .NotEq (.var 0 (Q 381 68 77)) (.var 1 (Q 381 81 91)) (Q 381 68 91)) .nil)
def q8:Tg:=(.one 0 (Q 381 37 46))
def Z9:Scope:={ kind:=.function,names:=[ (".0",.local),("_law_name",.local),("_law_block",.free)],isGenerator:=false,isCoroutine:=false,more:=[] }
def jJ:Tg:=(.one 8 (Q 375 8 14))
def b_law_program_1:Ss:=(.cons (.set 10 (.call 25 (.var 0 (Q 376 33 44)) (.cons (.bin .Add (.int 4 (Q 376 46 47)) (.var 8 (Q 376 50 56)) (Q 376 46 56)) .nil) (Q 376 20 32) (Q 376 20 57)) (Q 376 8 17) (Q 376 8 57)) (.cons (.set 11 (.non (Q 377 22 26)) (Q 377 8 19) (Q 377 8 26)) (.cons (.iff (.cmp .Lt (.bin .Add (.var 8 (Q 378 11 17)) (.int 1 (Q 378 20 21)) (Q 378 11 21)) (.var 4 (Q 378 24 33)) (Q 378 11 33)) (.cons (.set 11 (.tup (.cons (.sub (.var 1 (Q 379 27 42)) (.bin .Add (.bin .Add (.int 4 (Q 379 43 44)) (.var 8 (Q 379 47 53)) (Q 379 43 53)) (.int 1 (Q 379 56 57)) (Q 379 43 57)) (Q 379 27 58)) (.cons (.sub (.var 9 (Q 379 60 71)) (.bin .Add (.var 8 (Q 379 72 78)) (.int 1 (Q 379 81 82)) (Q 379 72 82)) (Q 379 60 83)) (.cons (.sub (.ofL (.disp (.cons (.non (Q 379 86 90)) (.cons (.sub (.var 1 (Q 379 92 107)) (.bin .Mod (.bin .FloorDiv (.var 10 (Q 379 108 117)) (.int 21 (Q 379 121 123)) (Q 379 108 123)) (.var 5 (Q 379 126 135)) (Q 379 108 135)) (Q 379 92 136)) .nil)) (Q 379 85 137))) (.bin .Mod (.bin .FloorDiv (.var 10 (Q 379 138 147)) (.int 84 (Q 379 151 153)) (Q 379 138 153)) (.int 2 (Q 379 156 157)) (Q 379 138 157)) (Q 379 85 158)) .nil))) (Q 379 26 159)) (Q 379 12 23) (Q 379 12 159)) .nil) .nil ⟨378,8,379,159⟩) (.cons (.set 12 (.sub (.var 1 (Q 380 21 36)) (.bin .Add (.int 10 (Q 380 37 39)) (.bin .Mod (.bin .FloorDiv (.var 10 (Q 380 42 51)) (.int 168 (Q 380 55 58)) (Q 380 42 58)) (.int 2 (Q 380 61 62)) (Q 380 42 62)) (Q 380 37 62)) (Q 380 21 63)) (Q 380 8 18) (Q 380 8 63)) (.cons (.set 13 (.cut (.ofL (.comp e_law_program_2 q8 (.seq (.var 2 (Q 381 50 64))) c_law_program_2 ["_law_name","_law_block"] [none,some 12] Z9 (Q 381 22 92))) .none (.some (.sub (.var 9 (Q 381 94 105)) (.var 8 (Q 381 106 112)) (Q 381 94 113))) (Q 381 93 113) (Q 381 22 114)) (Q 381 8 19) (Q 381 8 114)) (.cons (.ex (.m1 .append (.var 7 (Q 382 8 18)) (.call 38 (.var 10 (Q 382 38 47)) (.cons (.sub (.var 1 (Q 382 49 64)) (.bin .Add (.int 4 (Q 382 65 66)) (.var 8 (Q 382 69 75)) (Q 382 65 75)) (Q 382 49 76)) (.cons (.var 12 (Q 382 78 88)) (.cons (.var 13 (Q 382 90 101)) (.cons (.var 11 (Q 382 103 114)) .nil)))) (Q 382 26 37) (Q 382 26 115)) (Q 382 8 25) (Q 382 8 116)) (Q 382 8 116)) .nil))))))
def e_law_program_3:E:=(.bin .Add (.int 1 (Q 374 19 20)) (.bin .Mod (.bin .FloorDiv (.call 25 (.var 1 (Q 374 36 47)) (.cons (.bin .Add (.int 4 (Q 374 49 50)) (.var 0 (Q 374 53 59)) (Q 374 49 59)) .nil) (Q 374 23 35) (Q 374 23 60)) (.int 7 (Q 374 64 65)) (Q 374 23 65)) (.int 3 (Q 374 68 69)) (Q 374 23 69)) (Q 374 19 69))
def c_law_program_3:Es:=.nil
def q9:Tg:=(.one 0 (Q 374 74 80))
def Za:Scope:={ kind:=.function,names:=[ (".0",.local),("_law_k",.local),("_law_cell_at",.globalImplicit),("_law_script",.free)],isGenerator:=false,isCoroutine:=false,more:=[] }
def qe:Tg:=(.one 8 (Q 372 8 14))
def b_law_program_4:Ss:=(.cons (.ex (.m1 .append (.var 7 (Q 373 8 18)) (.call 37 (.call 25 (.var 0 (Q 373 51 62)) (.cons (.bin .Add (.int 10 (Q 373 64 66)) (.var 8 (Q 373 69 75)) (Q 373 64 75)) .nil) (Q 373 38 50) (Q 373 38 76)) (.cons (.sub (.var 1 (Q 373 78 93)) (.var 8 (Q 373 94 100)) (Q 373 78 101)) (.cons (.sub (.var 6 (Q 373 103 113)) (.var 8 (Q 373 114 120)) (Q 373 103 121)) (.cons (.sub (.var 2 (Q 373 123 137)) (.bin .Mod (.var 8 (Q 373 138 144)) (.int 2 (Q 373 147 148)) (Q 373 138 148)) (Q 373 123 149)) .nil))) (Q 373 26 37) (Q 373 26 150)) (Q 373 8 25) (Q 373 8 151)) (Q 373 8 151)) .nil)
def wx:Df:=⟨"_law_program",["_law_script","_law_names_here","_law_variables"],["_law_script","_law_names_here","_law_variables","_law_cell","_law_many","_law_some","_law_deeds","_law_items","_law_k","_law_counts","_law_here","_law_onward","_law_block","_law_params","_law_number_here","_law_call_here","_law_shift_here"],(.cons (.set 3 (.call 25 (.var 0 (Q 367 29 40)) (.cons (.int 0 (Q 367 42 43)) .nil) (Q 367 16 28) (Q 367 16 44)) (Q 367 4 13) (Q 367 4 44)) (.cons (.set 4 (.bin .Add (.int 1 (Q 368 16 17)) (.bin .Mod (.var 3 (Q 368 20 29)) (.int 6 (Q 368 32 33)) (Q 368 20 33)) (Q 368 16 33)) (Q 368 4 13) (Q 368 4 33)) (.cons (.set 5 (.bin .Add (.int 1 (Q 369 16 17)) (.bin .Mod (.bin .FloorDiv (.var 3 (Q 369 20 29)) (.int 6 (Q 369 33 34)) (Q 369 20 34)) (.int 4 (Q 369 37 38)) (Q 369 20 38)) (Q 369 16 38)) (Q 369 4 13) (Q 369 4 38)) (.cons (.set 6 (.call 29 (.call 25 (.var 0 (Q 370 41 52)) (.cons (.int 2 (Q 370 54 55)) .nil) (Q 370 28 40) (Q 370 28 56)) (.cons (.int 4 (Q 370 58 59)) .nil) (Q 370 17 27) (Q 370 17 60)) (Q 370 4 14) (Q 370 4 60)) (.cons (.set 7 (.ofL (.disp .nil (Q 371 17 19))) (Q 371 4 14) (Q 371 4 19)) (.cons (.forr qe (.rng (.var 5 (Q 372 24 33)) (Q 372 18 23) (Q 372 18 34)) b_law_program_4 ⟨372,4,373,151⟩) (.cons (.set 9 (.ofL (.comp e_law_program_3 q9 (.rng (.var 4 (Q 374 90 99)) (Q 374 84 89) (Q 374 84 100)) c_law_program_3 ["_law_k","_law_script"] [none,some 0] Za (Q 374 18 101))) (Q 374 4 15) (Q 374 4 101)) (.cons (.forr jJ (.rng (.var 4 (Q 375 24 33)) (Q 375 18 23) (Q 375 18 34)) b_law_program_1 ⟨375,4,382,116⟩) (.cons (.set 14 (.tup (.cons (.str "num" (Q 383 24 29)) (.cons (.bin .Mod (.c1 .abs (.call 30 (.call 25 (.var 0 (Q 383 60 71)) (.cons (.int 14 (Q 383 73 75)) .nil) (Q 383 47 59) (Q 383 47 76)) .nil (Q 383 35 46) (Q 383 35 77)) (Q 383 31 34) (Q 383 31 78)) (.bin .Pow (.int 10 (Q 383 81 83)) (.int 18 (Q 383 87 89)) (Q 383 81 89)) (Q 383 31 89)) .nil)) (Q 383 23 90)) (Q 383 4 20) (Q 383 4 90)) (.cons (.set 15 (.tup (.cons (.str "call" (Q 384 22 28)) (.cons (.sub (.var 1 (Q 384 30 45)) (.int 4 (Q 384 46 47)) (Q 384 30 48)) (.cons (.sub (.var 1 (Q 384 50 65)) (.bin .Mod (.bin .FloorDiv (.var 3 (Q 384 66 75)) (.int 24 (Q 384 79 81)) (Q 384 66 81)) (.var 5 (Q 384 84 93)) (Q 384 66 93)) (Q 384 50 94)) (.cons (.tupE (.bin .Add (.ofL (.disp (.cons (.tup (.cons (.str "var" (Q 384 104 109)) (.cons (.sub (.var 2 (Q 384 111 125)) (.int 0 (Q 384 126 127)) (Q 384 111 128)) .nil)) (Q 384 103 129)) .nil) (Q 384 102 130))) (.bin .Mult (.ofL (.disp (.cons (.var 14 (Q 384 134 150)) .nil) (Q 384 133 151))) (.bin .Sub (.sub (.var 9 (Q 384 155 166)) (.int 0 (Q 384 167 168)) (Q 384 155 169)) (.int 1 (Q 384 172 173)) (Q 384 155 173)) (Q 384 133 174)) (Q 384 102 174)) (Q 384 96 101) (Q 384 96 175)) .nil)))) (Q 384 21 176)) (Q 384 4 18) (Q 384 4 176)) (.cons (.ex (.m1 .append (.var 7 (Q 385 4 14)) (.tup (.cons (.str "def" (Q 385 23 28)) (.cons (.sub (.var 1 (Q 385 30 45)) (.int 12 (Q 385 46 48)) (Q 385 30 49)) (.cons (.tup (.cons (.sub (.var 2 (Q 385 52 66)) (.int 0 (Q 385 67 68)) (Q 385 52 69)) .nil) (Q 385 51 71)) (.cons (.non (Q 385 73 77)) (.cons (.var 15 (Q 385 79 93)) .nil))))) (Q 385 22 94)) (Q 385 4 21) (Q 385 4 95)) (Q 385 4 95)) (.cons (.set 16 (.bin .Mod (.bin .FloorDiv (.var 3 (Q 386 22 31)) (.int 96 (Q 386 35 37)) (Q 386 22 37)) (.len (.var 7 (Q 386 44 54)) (Q 386 40 43) (Q 386 40 55)) (Q 386 22 55)) (Q 386 4 19) (Q 386 4 55)) (.cons (.ret (.tupE (.bin .Add (.cut (.var 7 (Q 387 17 27)) (.some (.var 16 (Q 387 28 43))) .none (Q 387 28 44) (Q 387 17 45)) (.cut (.var 7 (Q 387 48 58)) .none (.some (.var 16 (Q 387 60 75))) (Q 387 59 75) (Q 387 48 76)) (Q 387 17 76)) (Q 387 11 16) (Q 387 11 77)) (Q 387 4 77)) .nil)))))))))))))⟩
def ZY:Df:=⟨"_law_op",["_law_tree","_law_known","_law_blocks","_law_st"],["_law_tree","_law_known","_law_blocks","_law_st","_law_first","_law_second","_law_found_here"],(.cons (.set 4 (.call 42 (.sub (.var 0 (Q 389 28 37)) (.int 2 (Q 389 38 39)) (Q 389 28 40)) (.cons (.var 1 (Q 389 42 52)) (.cons (.var 2 (Q 389 54 65)) (.cons (.var 3 (Q 389 67 74)) .nil))) (Q 389 17 27) (Q 389 17 75)) (Q 389 4 14) (Q 389 4 75)) (.cons (.iff (.cmp .Is (.var 4 (Q 390 7 17)) (.non (Q 390 21 25)) (Q 390 7 25)) (.cons (.ret (.non (Q 391 15 19)) (Q 391 8 19)) .nil) .nil ⟨390,4,391,19⟩) (.cons (.set 5 (.call 42 (.sub (.var 0 (Q 392 29 38)) (.int 3 (Q 392 39 40)) (Q 392 29 41)) (.cons (.var 1 (Q 392 43 53)) (.cons (.var 2 (Q 392 55 66)) (.cons (.var 3 (Q 392 68 75)) .nil))) (Q 392 18 28) (Q 392 18 76)) (Q 392 4 15) (Q 392 4 76)) (.cons (.iff (.cmp .Is (.var 5 (Q 393 7 18)) (.non (Q 393 22 26)) (Q 393 7 26)) (.cons (.ret (.non (Q 394 15 19)) (Q 394 8 19)) .nil) .nil ⟨393,4,394,19⟩) (.cons (.set 6 (.call 31 (.sub (.var 0 (Q 395 36 45)) (.int 1 (Q 395 46 47)) (Q 395 36 48)) (.cons (.var 4 (Q 395 50 60)) (.cons (.var 5 (Q 395 62 73)) .nil)) (Q 395 22 35) (Q 395 22 74)) (Q 395 4 19) (Q 395 4 74)) (.cons (.iff (.cmp .Is (.var 6 (Q 396 7 22)) (.non (Q 396 26 30)) (Q 396 7 30)) (.cons (.ret (.call 33 (.var 3 (Q 397 26 33)) (.cons (.tup (.cons (.str "great" (Q 397 36 43)) .nil) (Q 397 35 45)) .nil) (Q 397 15 25) (Q 397 15 46)) (Q 397 8 46)) .nil) .nil ⟨396,4,397,46⟩) (.cons (.ret (.var 6 (Q 398 11 26)) (Q 398 4 26)) .nil)))))))⟩
def e_law_call_1:E:=(.var 0 (Q 411 17 25))
def c_law_call_1:Es:=(.cons (.cmp .Eq (.sub (.var 0 (Q 411 64 72)) (.int 1 (Q 411 73 74)) (Q 411 64 75)) (.sub (.var 1 (Q 411 79 94)) (.int 0 (Q 411 95 96)) (Q 411 79 97)) (Q 411 64 97)) .nil)
def yw:Tg:=(.one 0 (Q 411 30 38))
def WF:Scope:={ kind:=.function,names:=[ (".0",.local),("_law_one",.local),("_law_names_here",.free)],isGenerator:=false,isCoroutine:=false,more:=[] }
def yx:E:=(.sub (.ofL (.disp (.cons (.var 0 (Q 410 28 37)) (.cons (.sub (.var 1 (Q 410 39 50)) (.int 1 (Q 410 51 52)) (Q 410 39 53)) .nil)) (Q 410 27 54))) (.c1 .int (.cmp .Eq (.var 0 (Q 410 59 68)) (.sub (.var 1 (Q 410 72 83)) (.int 0 (Q 410 84 85)) (Q 410 72 86)) (Q 410 59 86)) (Q 410 55 58) (Q 410 55 87)) (Q 410 27 88))
def yy:Es:=.nil
def yz:Tg:=(.one 0 (Q 410 93 102))
def yA:Scope:={ kind:=.function,names:=[ (".0",.local),("_law_name",.local),("int",.globalImplicit),("_law_blocks",.free)],isGenerator:=false,isCoroutine:=false,more:=[] }
def jO:Tg:=(.one 5 (Q 401 8 16))
def b_law_call_3:Ss:=(.cons (.set 6 (.call 42 (.var 5 (Q 402 38 46)) (.cons (.var 1 (Q 402 48 58)) (.cons (.var 2 (Q 402 60 71)) (.cons (.var 3 (Q 402 73 80)) .nil))) (Q 402 27 37) (Q 402 27 81)) (Q 402 8 24) (Q 402 8 81)) (.cons (.iff (.cmp .Is (.var 6 (Q 403 11 27)) (.non (Q 403 31 35)) (Q 403 11 35)) (.cons (.ret (.non (Q 404 19 23)) (Q 404 12 23)) .nil) .nil ⟨403,8,404,23⟩) (.cons (.ex (.m1 .append (.var 4 (Q 405 8 20)) (.var 6 (Q 405 28 44)) (Q 405 8 27) (Q 405 8 45)) (Q 405 8 45)) .nil)))
def yn:Df:=⟨"_law_call",["_law_tree","_law_known","_law_blocks","_law_st"],["_law_tree","_law_known","_law_blocks","_law_st","_law_numbers","_law_arg","_law_number_here","_law_names_here","_law_item","_law_inner"],(.cons (.set 4 (.ofL (.disp .nil (Q 400 19 21))) (Q 400 4 16) (Q 400 4 21)) (.cons (.forr jO (.seq (.sub (.var 0 (Q 401 20 29)) (.int 3 (Q 401 30 31)) (Q 401 20 32))) b_law_call_3 ⟨401,4,405,45⟩) (.cons (.iff (.un .Not (.call 34 (.var 3 (Q 406 21 28)) .nil (Q 406 11 20) (Q 406 11 29)) (Q 406 7 29)) (.cons (.ret (.non (Q 407 15 19)) (Q 407 8 19)) .nil) .nil ⟨406,4,407,19⟩) (.cons (.set 7 (.ofL (.disp (.cons (.sub (.var 0 (Q 408 23 32)) (.int 1 (Q 408 33 34)) (Q 408 23 35)) (.cons (.sub (.var 0 (Q 408 37 46)) (.int 2 (Q 408 47 48)) (Q 408 37 49)) .nil)) (Q 408 22 50))) (Q 408 4 19) (Q 408 4 50)) (.cons (.iff (.cmp .IsNot (.var 2 (Q 409 7 18)) (.non (Q 409 26 30)) (Q 409 7 30)) (.cons (.set 7 (.ofL (.comp yx yz (.seq (.var 7 (Q 410 106 121))) yy ["_law_name","_law_blocks"] [none,some 2] yA (Q 410 26 122))) (Q 410 8 23) (Q 410 8 122)) .nil) .nil ⟨409,4,410,122⟩) (.cons (.set 8 (.sub (.ofL (.comp e_law_call_1 yw (.seq (.sub (.var 3 (Q 411 42 49)) (.str "program" (Q 411 50 59)) (Q 411 42 60))) c_law_call_1 ["_law_one","_law_names_here"] [none,some 7] WF (Q 411 16 98))) (.int 0 (Q 411 99 100)) (Q 411 16 101)) (Q 411 4 13) (Q 411 4 101)) (.cons (.set 9 (.non (Q 412 17 21)) (Q 412 4 14) (Q 412 4 21)) (.cons (.iff (.cmp .IsNot (.sub (.var 8 (Q 413 7 16)) (.int 3 (Q 413 17 18)) (Q 413 7 19)) (.non (Q 413 27 31)) (Q 413 7 31)) (.cons (.set 9 (.tup (.cons (.sub (.var 8 (Q 414 22 31)) (.int 3 (Q 414 32 33)) (Q 414 22 34)) (.cons (.sub (.var 7 (Q 414 36 51)) (.int 1 (Q 414 52 53)) (Q 414 36 54)) .nil)) (Q 414 21 55)) (Q 414 8 18) (Q 414 8 55)) .nil) .nil ⟨413,4,414,55⟩) (.cons (.ret (.call 42 (.sub (.var 8 (Q 415 22 31)) (.int 4 (Q 415 32 33)) (Q 415 22 34)) (.cons (.listZ (.sub (.var 8 (Q 415 45 54)) (.int 2 (Q 415 55 56)) (Q 415 45 57)) (.var 4 (Q 415 59 71)) (Q 415 36 40) (Q 415 41 44) (Q 415 41 72) (Q 415 36 73)) (.cons (.var 9 (Q 415 75 85)) (.cons (.var 3 (Q 415 87 94)) .nil))) (Q 415 11 21) (Q 415 11 95)) (Q 415 4 95)) .nil)))))))))⟩
def e_law_found_1:E:=(.var 1 (Q 420 16 32))
def c_law_found_1:Es:=(.cons (.cmp .Eq (.var 0 (Q 420 82 91)) (.sub (.var 2 (Q 420 95 104)) (.int 1 (Q 420 105 106)) (Q 420 95 107)) (Q 420 82 107)) .nil)
def wy:Tg:=(.tup [(0,(Q 420 37 46)),(1,(Q 420 48 64))] (Q 420 37 64))
def Jt:Scope:={ kind:=.function,names:=[ (".0",.local),("_law_name",.local),("_law_number_here",.local),("_law_tree",.free)],isGenerator:=false,isCoroutine:=false,more:=[] }
def d_law_found:Df:=⟨"_law_found",["_law_tree","_law_known","_law_blocks","_law_st"],["_law_tree","_law_known","_law_blocks","_law_st","_law_number_here"],(.cons (.iff (.cmp .Eq (.sub (.var 0 (Q 417 7 16)) (.int 0 (Q 417 17 18)) (Q 417 7 19)) (.str "num" (Q 417 23 28)) (Q 417 7 28)) (.cons (.ret (.sub (.var 0 (Q 418 15 24)) (.int 1 (Q 418 25 26)) (Q 418 15 27)) (Q 418 8 27)) .nil) .nil ⟨417,4,418,27⟩) (.cons (.iff (.cmp .Eq (.sub (.var 0 (Q 419 7 16)) (.int 0 (Q 419 17 18)) (Q 419 7 19)) (.str "var" (Q 419 23 28)) (Q 419 7 28)) (.cons (.ret (.sub (.ofL (.comp e_law_found_1 wy (.seq (.var 1 (Q 420 68 78))) c_law_found_1 ["_law_name","_law_number_here","_law_tree"] [none,none,some 0] Jt (Q 420 15 108))) (.un .USub (.int 1 (Q 420 110 111)) (Q 420 109 111)) (Q 420 15 112)) (Q 420 8 112)) .nil) .nil ⟨419,4,420,112⟩) (.cons (.iff (.cmp .Eq (.sub (.var 0 (Q 421 7 16)) (.int 0 (Q 421 17 18)) (Q 421 7 19)) (.str "op" (Q 421 23 27)) (Q 421 7 27)) (.cons (.ret (.call 40 (.var 0 (Q 422 23 32)) (.cons (.var 1 (Q 422 34 44)) (.cons (.var 2 (Q 422 46 57)) (.cons (.var 3 (Q 422 59 66)) .nil))) (Q 422 15 22) (Q 422 15 67)) (Q 422 8 67)) .nil) .nil ⟨421,4,422,67⟩) (.cons (.iff (.cmp .Eq (.sub (.var 0 (Q 423 7 16)) (.int 0 (Q 423 17 18)) (Q 423 7 19)) (.str "call" (Q 423 23 29)) (Q 423 7 29)) (.cons (.ret (.call 41 (.var 0 (Q 424 25 34)) (.cons (.var 1 (Q 424 36 46)) (.cons (.var 2 (Q 424 48 59)) (.cons (.var 3 (Q 424 61 68)) .nil))) (Q 424 15 24) (Q 424 15 69)) (Q 424 8 69)) .nil) .nil ⟨423,4,424,69⟩) (.cons (.set 4 (.call 42 (.sub (.var 0 (Q 425 34 43)) (.int 2 (Q 425 44 45)) (Q 425 34 46)) (.cons (.var 1 (Q 425 48 58)) (.cons (.var 2 (Q 425 60 71)) (.cons (.var 3 (Q 425 73 80)) .nil))) (Q 425 23 33) (Q 425 23 81)) (Q 425 4 20) (Q 425 4 81)) (.cons (.iff (.cmp .Is (.var 4 (Q 426 7 23)) (.non (Q 426 27 31)) (Q 426 7 31)) (.cons (.ret (.non (Q 427 15 19)) (Q 427 8 19)) .nil) .nil ⟨426,4,427,19⟩) (.cons (.ret (.call 35 (.sub (.var 0 (Q 428 21 30)) (.int 1 (Q 428 31 32)) (Q 428 21 33)) (.cons (.var 4 (Q 428 35 51)) (.cons (.var 3 (Q 428 53 60)) .nil)) (Q 428 11 20) (Q 428 11 61)) (Q 428 4 61)) .nil)))))))⟩
def e_law_1:E:=(.var 0 (Q 438 17 25))
def c_law_1:Es:=(.cons (.cmp .Eq (.sub (.var 0 (Q 438 63 71)) (.int 1 (Q 438 72 73)) (Q 438 63 74)) (.sub (.var 1 (Q 438 78 93)) (.int 12 (Q 438 94 96)) (Q 438 78 97)) (Q 438 63 97)) .nil)
def Uv:Tg:=(.one 0 (Q 438 30 38))
def BE:Scope:={ kind:=.function,names:=[ (".0",.local),("_law_one",.local),("_law_names_here",.free)],isGenerator:=false,isCoroutine:=false,more:=[] }
def e_law_2:E:=(.call 30 (.var 0 (Q 433 32 40)) .nil (Q 433 20 31) (Q 433 20 41))
def c_law_2:Es:=.nil
def WG:Tg:=(.one 0 (Q 433 46 54))
def Uw:Scope:={ kind:=.function,names:=[ (".0",.local),("_law_one",.local),("_law_number",.globalImplicit)],isGenerator:=false,isCoroutine:=false,more:=[] }
def d_law:Df:=⟨"law",["_law_script"],["_law_script","_law_names_here","_law_program_here","_law_numbers","_law_answers","_law_turns","_law_st","_law_body","_law_value","_law_handed","_law_others","_law_found_here"],(.cons (.set 1 (.call 29 (.call 25 (.var 0 (Q 430 46 57)) (.cons (.int 1 (Q 430 59 60)) .nil) (Q 430 33 45) (Q 430 33 61)) (.cons (.int 13 (Q 430 63 65)) .nil) (Q 430 22 32) (Q 430 22 66)) (Q 430 4 19) (Q 430 4 66)) (.cons (.set 2 (.call 39 (.var 0 (Q 431 37 48)) (.cons (.var 1 (Q 431 50 65)) (.cons (.call 29 (.call 25 (.var 0 (Q 431 91 102)) (.cons (.int 3 (Q 431 104 105)) .nil) (Q 431 78 90) (Q 431 78 106)) (.cons (.int 4 (Q 431 108 109)) .nil) (Q 431 67 77) (Q 431 67 110)) .nil)) (Q 431 24 36) (Q 431 24 111)) (Q 431 4 21) (Q 431 4 111)) (.cons (.set 3 (.ofL (.disp (.cons (.call 30 (.call 25 (.var 0 (Q 432 45 56)) (.cons (.int 15 (Q 432 58 60)) .nil) (Q 432 32 44) (Q 432 32 61)) .nil (Q 432 20 31) (Q 432 20 62)) .nil) (Q 432 19 63))) (Q 432 4 16) (Q 432 4 63)) (.cons (.set 4 (.ofL (.comp e_law_2 WG (.seq (.cut (.var 0 (Q 433 58 69)) (.some (.int 16 (Q 433 70 72))) (.some (.int 46 (Q 433 73 75))) (Q 433 70 75) (Q 433 58 76))) c_law_2 ["_law_one"] [none] Uw (Q 433 19 77))) (Q 433 4 16) (Q 433 4 77)) (.cons (.set 5 (.bin .Mod (.bin .FloorDiv (.call 25 (.var 0 (Q 434 30 41)) (.cons (.int 0 (Q 434 43 44)) .nil) (Q 434 17 29) (Q 434 17 45)) (.int 7200 (Q 434 49 53)) (Q 434 17 53)) (.int 2001 (Q 434 56 60)) (Q 434 17 60)) (Q 434 4 14) (Q 434 4 60)) (.cons (.iff (.cmp .Eq (.bin .Mod (.bin .FloorDiv (.call 25 (.var 0 (Q 435 20 31)) (.cons (.int 0 (Q 435 33 34)) .nil) (Q 435 7 19) (Q 435 7 35)) (.int 2400 (Q 435 39 43)) (Q 435 7 43)) (.int 3 (Q 435 46 47)) (Q 435 7 47)) (.int 0 (Q 435 51 52)) (Q 435 7 52)) (.cons (.set 5 (.bin .Mod (.bin .FloorDiv (.call 25 (.var 0 (Q 436 34 45)) (.cons (.int 0 (Q 436 47 48)) .nil) (Q 436 21 33) (Q 436 21 49)) (.int 7200 (Q 436 53 57)) (Q 436 21 57)) (.int 14 (Q 436 60 62)) (Q 436 21 62)) (Q 436 8 18) (Q 436 8 62)) .nil) .nil ⟨435,4,436,62⟩) (.cons (.set 6 (.dispD [("record",(Q 437 15 23)),("used",(Q 437 29 35)),("turns",(Q 437 40 47)),("answers",(Q 437 61 70)),("end",(Q 437 86 91)),("program",(Q 437 99 108))] (.cons (.ofL (.disp .nil (Q 437 25 27))) (.cons (.int 0 (Q 437 37 38)) (.cons (.var 5 (Q 437 49 59)) (.cons (.var 4 (Q 437 72 84)) (.cons (.non (Q 437 93 97)) (.cons (.var 2 (Q 437 110 127)) .nil)))))) (Q 437 14 128)) (Q 437 4 11) (Q 437 4 128)) (.cons (.set 7 (.sub (.ofL (.comp e_law_1 Uv (.seq (.var 2 (Q 438 42 59))) c_law_1 ["_law_one","_law_names_here"] [none,some 1] BE (Q 438 16 98))) (.int 0 (Q 438 99 100)) (Q 438 16 101)) (Q 438 4 13) (Q 438 4 101)) (.cons (.set 8 (.call 42 (.sub (.var 7 (Q 439 28 37)) (.int 4 (Q 439 38 39)) (Q 439 28 40)) (.cons (.listZ (.sub (.var 7 (Q 439 51 60)) (.int 2 (Q 439 61 62)) (Q 439 51 63)) (.var 3 (Q 439 65 77)) (Q 439 42 46) (Q 439 47 50) (Q 439 47 78) (Q 439 42 79)) (.cons (.non (Q 439 81 85)) (.cons (.var 6 (Q 439 87 94)) .nil))) (Q 439 17 27) (Q 439 17 95)) (Q 439 4 14) (Q 439 4 95)) (.cons (.iff (.cmp .IsNot (.var 8 (Q 440 7 17)) (.non (Q 440 25 29)) (Q 440 7 29)) (.cons (.ex (.call 33 (.var 6 (Q 441 19 26)) (.cons (.tup (.cons (.str "done" (Q 441 29 35)) (.cons (.var 8 (Q 441 37 47)) .nil)) (Q 441 28 48)) .nil) (Q 441 8 18) (Q 441 8 49)) (Q 441 8 49)) .nil) .nil ⟨440,4,441,49⟩) (.cons (.set 9 (.listE (.var 4 (Q 442 23 35)) (Q 442 18 22) (Q 442 18 36)) (Q 442 4 15) (Q 442 4 36)) (.cons (.set 10 (.listE (.var 3 (Q 443 23 35)) (Q 443 18 22) (Q 443 18 36)) (Q 443 4 15) (Q 443 4 36)) (.cons (.set 11 (.call 7 (.var 2 (Q 444 26 43)) (.cons (.sub (.var 1 (Q 444 45 60)) (.int 12 (Q 444 61 63)) (Q 444 45 64)) (.cons (.var 10 (Q 444 66 77)) (.cons (.var 9 (Q 444 79 90)) (.cons (.var 5 (Q 444 92 102)) .nil)))) (Q 444 22 25) (Q 444 22 103)) (Q 444 4 19) (Q 444 4 103)) (.cons (.iff (.or (.cmp .NotEq (.var 9 (Q 445 7 18)) (.var 4 (Q 445 22 34)) (Q 445 7 34)) (.cmp .NotEq (.var 10 (Q 445 38 49)) (.var 3 (Q 445 53 65)) (Q 445 38 65)) .nil (Q 445 7 65)) (.cons (.ret (.bl false (Q 446 15 20)) (Q 446 8 20)) .nil) .nil ⟨445,4,446,20⟩) (.cons (.ret (.call 28 (.var 11 (Q 447 22 37)) (.cons (.sub (.var 6 (Q 447 39 46)) (.str "end" (Q 447 47 52)) (Q 447 39 53)) (.cons (.sub (.var 6 (Q 447 55 62)) (.str "record" (Q 447 63 71)) (Q 447 55 72)) (.cons (.sub (.var 6 (Q 447 74 81)) (.str "used" (Q 447 82 88)) (Q 447 74 89)) .nil))) (Q 447 11 21) (Q 447 11 90)) (Q 447 4 90)) .nil)))))))))))))))⟩
def wb:Df:=⟨"__init__",["self","named","clauses","bound"],["self","named","clauses","bound"],(.cons (.setF (.var 0 (Q 46 8 12)) "named" (.var 1 (Q 46 21 26)) (Q 46 8 18) (Q 46 8 26)) (.cons (.setF (.var 0 (Q 47 8 12)) "clauses" (.var 2 (Q 47 23 30)) (Q 47 8 20) (Q 47 8 30)) (.cons (.setF (.var 0 (Q 48 8 12)) "bound" (.var 3 (Q 48 21 26)) (Q 48 8 18) (Q 48 8 26)) (.cons (.setF (.var 0 (Q 49 8 12)) "doing" (.non (Q 49 21 25)) (Q 49 8 18) (Q 49 8 25)) (.cons (.setF (.var 0 (Q 50 8 12)) "left" (.ofL (.disp .nil (Q 50 20 22))) (Q 50 8 17) (Q 50 8 22)) (.cons (.setF (.var 0 (Q 51 8 12)) "standing" (.ofL (.disp .nil (Q 51 24 26))) (Q 51 8 21) (Q 51 8 26)) (.cons (.setF (.var 0 (Q 52 8 12)) "record" (.ofL (.disp .nil (Q 52 22 24))) (Q 52 8 19) (Q 52 8 24)) (.cons (.setF (.var 0 (Q 53 8 12)) "used" (.int 0 (Q 53 20 21)) (Q 53 8 17) (Q 53 8 21)) (.cons (.setF (.var 0 (Q 54 8 12)) "end" (.non (Q 54 19 23)) (Q 54 8 16) (Q 54 8 23)) .nil)))))))))⟩
def jP:Df:=⟨"__init__",["self","body","known","block","held"],["self","body","known","block","held"],(.cons (.setF (.var 0 (Q 58 8 12)) "tasks" (.tup (.cons (.var 1 (Q 58 22 26)) (.cons (.non (Q 58 28 32)) .nil)) (Q 58 21 33)) (Q 58 8 18) (Q 58 8 33)) (.cons (.setF (.var 0 (Q 59 8 12)) "numbers" (.non (Q 59 23 27)) (Q 59 8 20) (Q 59 8 27)) (.cons (.setF (.var 0 (Q 60 8 12)) "known" (.var 2 (Q 60 21 26)) (Q 60 8 18) (Q 60 8 26)) (.cons (.setF (.var 0 (Q 61 8 12)) "block" (.var 3 (Q 61 21 26)) (Q 61 8 18) (Q 61 8 26)) (.cons (.setF (.var 0 (Q 62 8 12)) "held" (.var 4 (Q 62 20 24)) (Q 62 8 17) (Q 62 8 24)) (.cons (.setF (.var 0 (Q 63 8 12)) "went" (.bl false (Q 63 20 25)) (Q 63 8 17) (Q 63 8 25)) .nil))))))⟩
def jK:Df:=⟨"__init__",["self","name","kept"],["self","name","kept"],(.cons (.setF (.var 0 (Q 67 8 12)) "name" (.var 1 (Q 67 20 24)) (Q 67 8 17) (Q 67 8 24)) (.cons (.setF (.var 0 (Q 68 8 12)) "kept" (.var 2 (Q 68 20 24)) (Q 68 8 17) (Q 68 8 24)) .nil))⟩
def defs:List Df:=[d_parts_of,j6,jH,wt,yk,jI,d_reckoned,GZ,yS,jv,jV,ZW,yl,qP,jo,jW,d_looked_up,d_put,d_taken,w9,qS,wa,qT,Zh,d_holds_alone,wu,qE,qF,qG,qH,d_law_number,d_law_reckoned,ym,qI,wT,wU,d_law_shift,jN,d_law_passer,wx,ZY,yn,d_law_found,d_law,wb,jP,jK]
def wk (nd cs:D)(b:D)(d l s r:Nat)(u:Int)(e:D):O:=.obj "Walk" [("named",nd),("clauses",cs),("bound",b),("doing",.loc d),("left",.loc l),("standing",.loc s),("record",.loc r),("used",.int u),("end",e)]
def dg (bl:D)(ts ns kn:D):O:=.obj "Doing" [("tasks",ts),("numbers",ns),("known",kn),("block",bl),("held",.non),("went",.bl false)]
def M (h:Hh)(d:Nat)(bl ts ns kn:D)(J:Hh):Hh:=h.set d (dg bl ts ns kn)++J
section
variable {h:Hh}{w d:Nat}{bl ts ts' ns ns' kn kn':D}{J J':Hh}{o:O}
theorem M_d (hd:d<h.length):(M h d bl ts ns kn J)[d]?=some (dg bl ts ns kn):=by
 unfold M;rw [Y10 (by rw [Y0r];exact hd),Y0n hd]
theorem M_o (hw:h[w]?=some o)(ne:w≠d):(M h d bl ts ns kn J)[w]?=some o:=by
 unfold M;rw [Y10 (by rw [Y0r];exact (Y0e.mp hw).1),Y1f (Ne.symm ne)];exact hw
theorem z0m (hd:d<h.length):(M h d bl ts ns kn J).set d (dg bl ts' ns' kn')=M h d bl ts' ns' kn' J:=by
 unfold M;rw [List.set_append_left _ _ (by rw [Y0r];exact hd),List.set_set]
theorem z0n:M h d bl ts ns kn J++J'=M h d bl ts ns kn (J++J'):=Y0l ..
end
theorem a0 {α:Type}{a:α}{r:List α}:atI (a::r) 0=some a:=by simp [atI,ixN]
theorem ixk {n k:Nat}(h:k<n):ixN n (k:Int)=some k:=by unfold ixN;simp;omega
theorem atk {α:Type}{l:List α}{k:Nat}{a:α}(e:l[k]?=some a):atI l (k:Int)=some a:=by unfold atI;rw [ixk (Y0e.mp e).1];exact e
theorem a1 {α:Type}{a b:α}{r:List α}:atI (a::b::r) 1=some b:=atk (k:=1) rfl
theorem a2 {α:Type}{a b c:α}{r:List α}:atI (a::b::c::r) 2=some c:=atk (k:=2) rfl
theorem a3 {α:Type}{a b c d:α}{r:List α}:atI (a::b::c::d::r) 3=some d:=atk (k:=3) rfl
theorem a4 {α:Type}{a b c d e:α}{r:List α}:atI (a::b::c::d::e::r) 4=some e:=atk (k:=4) rfl
theorem rdl {h:Hh}{n:Nat}{l:List D}(g:h[n]?=some (.lst l)):PI.rd h n=some l:=by
 show (match h[n]? with | some (.lst xs)=>some xs | _=>none)=_
 rw [g]
theorem zn {h:Hh}{n:Nat}{y f:Str}{fs:List (Str×D)}{v:D}(g:h[n]?=some (.obj y fs))(q:fs.lookup f=some v):Jo (.loc n) f h=.ok v h:=by
 show (match h[n]? with | some (.obj _ fs)=>(match fs.lookup f with | some d=>Res.ok d h | none=>.no) | _=>.no)=_
 rw [g];simp only [q]
theorem jf {h:Hh}{n:Nat}{y f:Str}{fs fs':List (Str×D)}{z:D}(g:h[n]?=some (.obj y fs))(hl:fs.length<1000)(q:Qh f z fs=fs'):qC (.loc n) f z h=some (h.set n (.obj y fs')):=by
 show (match h[n]? with | some (.obj y fs)=>if fs.length<1000 then some (h.set n (.obj y (Qh f z fs))) else none | _=>none)=_
 rw [g];simp only [hl,if_true,q]
section
variable {h:Hh}{w d:Nat}{bl ts ts' ns ns' kn kn':D}{J J':Hh}{z:D}
theorem wV (hd:d<h.length):Jo (.loc d) "tasks" (M h d bl ts ns kn J)=.ok ts (M h d bl ts ns kn J):=zn (M_d hd) rfl
theorem JZ (hd:d<h.length):Jo (.loc d) "numbers" (M h d bl ts ns kn J)=.ok ns (M h d bl ts ns kn J):=zn (M_d hd) rfl
theorem BF (hd:d<h.length):Jo (.loc d) "known" (M h d bl ts ns kn J)=.ok kn (M h d bl ts ns kn J):=zn (M_d hd) rfl
theorem z38 (hd:d<h.length):Jo (.loc d) "held" (M h d bl ts ns kn J)=.ok .non (M h d bl ts ns kn J):=zn (M_d hd) rfl
theorem yB (hd:d<h.length):qC (.loc d) "tasks" z (M h d bl ts ns kn J)=some (M h d bl z ns kn J):=(jf (M_d hd) (by simp) rfl).trans (congrArg some (z0m hd))
theorem W4 (hd:d<h.length):qC (.loc d) "numbers" z (M h d bl ts ns kn J)=some (M h d bl ts z kn J):=(jf (M_d hd) (by simp) rfl).trans (congrArg some (z0m hd))
end
section
variable {cl:Nat->List D->Hh->Res D}{h:Hh}{w d:Nat}{bl ts ts' ns ns' kn kn':D}{J J':Hh}{v v1 v2:D}
theorem z4r (hd:d<h.length):d_put.run cl [.loc d,v] (M h d bl ts ns kn J)=.ok .non (M h d bl ts (.tup [v,ns]) kn J):=by
 simp [d_put,Df.run,wZ,Jq,GU,z6l,jF,z4o,Es.ev,JZ hd,W4 hd,Qk]
theorem z0o:(M h d bl ts ns kn J).length=h.length+J.length:=by unfold M;rw [Y0h,Y0r]
theorem wW {xs:List D}:(M h d bl ts ns kn (J++[.lst xs]))[h.length+J.length]?=some (.lst xs):=by
 unfold M;rw [Y08 (by rw [Y0r];omega),Y0r,Y1v,Y08 (Y04 _),Y11];rfl
theorem z39 {xs:List D}{o:O}:(M h d bl ts ns kn (J++[.lst xs])).set (h.length+J.length) o=M h d bl ts ns kn (J++[o]):=by
 unfold M;rw [Y23 _ _ (by rw [Y0r];omega),Y0r,Y1v,Y23 _ _ (Y04 _),Y11];rfl
theorem WH {c:D}{l:List D}(hd:d<h.length)(hl:l.length<1000):Ss.run cl b_taken_1 [some (.loc d),some c,some (.loc (h.length+J.length))] (M h d bl ts (.tup [v1,ns]) kn (J++[.lst l]))=.nx [some (.loc d),some c,some (.loc (h.length+J.length))] (M h d bl ts ns kn (J++[.lst (l++[v1])])):=by
 have:l.length<1000000:=by omega
 simp [b_taken_1,wZ,Jq,yex,GU,vm1,jF,vsub,YD,z4o,JZ hd,W4 hd,YE wW,m1D,wW,z39,a0,a1,this]
theorem yC {c:Int}{n:Nat}(l:List D)(X:Hh)(x:Bool)(q:X[n]?=some (.lst l))(e:decide ((l.length:Int)<c)=x):E.evT cl w_taken_1 [some (.loc d),some (.int c),some (.loc n)] X=.ok x X:=by
 simp [w_taken_1,E.evT,GS,z6j,jF,yN,rdl q,e]
theorem Qp (hd:d<h.length):d_taken.run cl [.loc d,.int 2] (M h d bl ts (.tup [v2,.tup [v1,ns]]) kn J)=.ok (.loc (h.length+J.length+1)) (M h d bl ts ns kn (J++[.lst [v2,v1],.lst [v1,v2]])):=by
 have e2:whR (λ ρ' h'=>w_taken_1.evT cl ρ' h') (λ ρ' h'=>b_taken_1.run cl ρ' h') [some (.loc d),some (.int 2),some (.loc (h.length+J.length))] (M h d bl ts (.tup [v2,.tup [v1,ns]]) kn (J++[.lst []]))=.nx [some (.loc d),some (.int 2),some (.loc (h.length+J.length))] (M h d bl ts ns kn (J++[.lst [v2,v1]])) :=
  (wG (yC _ _ true wW rfl) (WH hd (by decide))).trans ((wG (yC _ _ true wW rfl) (WH hd (by simp))).trans (qA (yC _ _ false wW rfl)))
 simp [d_taken,Df.run,wZ,Jq,z31,vofL,L.ev,Es.ev,new,z0n,z0o,Ut,e2,BD,GT,lrD,jF,rdl wW,Qk,Nat.add_assoc]
end
theorem Z0:PyData.strOk "<"=true:=by decide +kernel
theorem qg:PyData.strOk "+"=true:=by decide +kernel
theorem qh:PyData.strOk "-"=true:=by decide +kernel
theorem yd:PyData.strOk "*"=true:=by decide +kernel
theorem jm:PyData.strOk "num"=true:=by decide +kernel
theorem jn:PyData.strOk "var"=true:=by decide +kernel
theorem wX:PyData.strOk "then"=true:=by decide +kernel
theorem WI:PyData.strOk "drop"=true:=by decide +kernel
theorem ZZ:PyData.strOk "clean"=true:=by decide +kernel
theorem wc:PyData.strOk "op"=true:=by decide +kernel
def wH (s:Str)(a b:Int):Option Int:=if s="<" then some (if a<b then 1 else 0) else
 if (if s="+" then a+b else if s="-" then a-b else a*b).natAbs<=1000000000000000000 then some (if s="+" then a+b else if s="-" then a-b else a*b) else none
def opI:Option Int->D
 | none=>.non
 | some v=>.int v
def Sg (s:Str):Prop:=s="+"\/s="-"\/s="*"\/s="<"
def Sm (i:Int):Prop:=i.natAbs<=1000000000000000000
theorem Sm.fits {i:Int}(h:Sm i):fits i=true:=Zg (by unfold Sm at h;omega)
theorem BG {s:Str}{a b v:Int}(h:wH s a b=some v):Sm v:=by
 unfold wH at h;unfold Sm;by_cases q:s="<"
 ·rw [if_pos q] at h;cases h;split<;>decide
 ·rw [if_neg q] at h;generalize (if s="+" then a+b else if s="-" then a-b else a*b)=t at h;by_cases q:t.natAbs<=1000000000000000000
  ·rw [if_pos q] at h;cases h;exact q
  ·rw [if_neg q] at h;cases h
theorem O0 {t:Int}:(decide ((if t<0 then -t else t) > 1000000000000000000))=!(decide (t.natAbs<=1000000000000000000)):=by
 by_cases q:t.natAbs<=1000000000000000000
 ·rw [decide_eq_true q,decide_eq_false];rfl
  split<;>omega
 ·rw [decide_eq_false q,decide_eq_true];rfl
  split<;>omega
theorem J0 {cl:Nat->List D->Hh->Res D}{h:Hh}{s:Str}{a b:Int}(hs:Sg s)(ha:Sm a)(hb:Sm b):d_reckoned.run cl [.str s,.int a,.int b] h=.ok (opI (wH s a b)) h:=by
 have fin:∀ t:Int,Ss.run cl (jw 2 d_reckoned.body) [some (.str s),some (.int a),some (.int b),some (.int t)] h=.rt (opI (if t.natAbs<=1000000000000000000 then some t else none)) h:=λ t=>by
  have e:Ss.run cl (jw 2 d_reckoned.body) [some (.str s),some (.int a),some (.int b),some (.int t)] h=.rt (if (decide ((if t<0 then -t else t) > 1000000000000000000))=true then .non else .int t) h:=by
   simp only [d_reckoned,jw,wZ,Jq,BD,z4m,GS,vc1,jF,z4n,z6i,c1D];by_cases q:t<0
   ·simp [q]
    split<;>rfl
   ·simp [q]
    split<;>rfl
  rw [e,O0];by_cases q:t.natAbs<=1000000000000000000
  ·simp [q,opI]
  ·simp [q,opI]
 rcases hs with rfl | rfl | rfl | rfl
 ·rw [show wH "+" a b=(if (a+b).natAbs<=1000000000000000000 then some (a+b) else none) from rfl];exact zj (zk (zi rfl rfl (eqS qg Z0)) (zQ (zi rfl rfl (eqS qg qg)) rfl (fin _)))
 ·rw [show wH "-" a b=(if (a-b).natAbs<=1000000000000000000 then some (a-b) else none) from rfl];exact zj (zk (zi rfl rfl (eqS qh Z0)) (zT (zi rfl rfl (eqS qh qg)) (zQ (zi rfl rfl (eqS qh qh)) rfl rfl) (fin _)))
 ·rw [show wH "*" a b=(if (a*b).natAbs<=1000000000000000000 then some (a*b) else none) from rfl];exact zj (zk (zi rfl rfl (eqS yd Z0)) (zT (zi rfl rfl (eqS yd qg)) (zT (zi rfl rfl (eqS yd qh)) (zg (bnd rfl (bnd rfl (mlk ha.fits hb.fits))) rfl) rfl) (fin _)))
 ·rw [show wH "<" a b=some (if a<b then 1 else 0) from rfl];refine zj (j1 (zi rfl rfl (eqS Z0 Z0)) (zD ?_));simp only [z4m,GS,jF,YD];by_cases q:a<b
  ·simp [q,opI]
  ·simp [q,opI]
inductive T where
 | num (c:Int) | var (x:Str) | op (s:Str) (a b:T) | doo (x:Str) (a:T) | call (g:Str) (h:Option Str) (as:List T)
def hD:Option Str->D
 | none=>.non
 | some x=>.str x
mutual
def T.d:T->D
 | .num c=>.tup [.str "num",.int c]
 | .var x=>.tup [.str "var",.str x]
 | .op s a b=>.tup [.str "op",.str s,a.d,b.d]
 | .doo x a=>.tup [.str "do",.str x,a.d]
 | .call g h as=>.tup [.str "call",.str g,hD h,.tup (T.ds as)]
def T.ds:List T->List D
 | []=>[]
 | t::r=>t.d::T.ds r
end
theorem YF:∀ as:List T,(T.ds as).length=as.length
 | []=>rfl
 | t::r=>by rw [T.ds,Y09,Y09,YF r]
theorem yR:∀ as:List T,T.ds as=as.map T.d
 | []=>rfl
 | t::r=>by rw [T.ds,yR r];rfl
def knD:List (Str×Int)->D
 | []=>.non
 | p::r=>.tup [.tup [.str p.1,.int p.2],knD r]
structure KnOk (S:List Str)(kn:List (Str×Int)):Prop where
 all:∀ x∈S,∃ v,kn.lookup x=some v
 sok:∀ x∈S,PyData.strOk x=true
 key:∀ p∈kn,PyData.strOk p.1=true
 sm:∀ p∈kn,Sm p.2
theorem Vl {kn:List (Str×Int)}{x:Str}{v:Int}(h:∀ p∈kn,Sm p.2)(e:kn.lookup x=some v):Sm v:=by
 induction kn with
 | nil=>cases e
 | cons p r ih =>
  obtain ⟨y,u⟩:=p;by_cases q:(x==y)=true
  ·rw [List.lookup,q] at e;cases e;exact h _ Y03
  ·rw [List.lookup,Y2j.mpr q] at e;exact ih (λ p hp=>h p (Y02 _ hp)) e
section
variable {cl:Nat->List D->Hh->Res D}{h:Hh}
theorem O1 {x:Str}{v:Int}(hx:PyData.strOk x=true)(kn:List (Str×Int))(hk:∀ p∈kn,PyData.strOk p.1=true)(e:kn.lookup x=some v):d_looked_up.run cl [.str x,knD kn] h=.ok (.int v) h:=by
 have L:∃ r,whR (λ ρ' h'=>w_looked_up_1.evT cl ρ' h') (λ ρ' h'=>b_looked_up_1.run cl ρ' h') [some (.str x),some (knD kn)] h=.nx [some (.str x),some (.tup [.tup [.str x,.int v],r])] h:=by
  induction kn with
  | nil=>cases e
  | cons p r ih =>
   obtain ⟨y,u⟩:=p;have hy:=hk (y,u) Y03;have c:E.evT cl w_looked_up_1 [some (.str x),some (knD ((y,u)::r))] h=.ok (!(y==x)) h:=by
    simp [-cmp_ne,w_looked_up_1,E.evT,GS,vsub,jF,YD,knD,a0,neS hy hx]
   by_cases q:(x==y)=true
   ·have q':x=y:=eq_of_beq q;subst q';rw [List.lookup,beq_self_eq_true] at e;cases e;exact ⟨knD r,qA (by rw [c,beq_self_eq_true];rfl)⟩
   ·rw [List.lookup,Y2j.mpr q] at e;obtain ⟨r',ih⟩:=ih (λ p hp=>hk p (Y02 _ hp)) e;refine ⟨r',(wG (h1:=h) (ρ':=[some (.str x),some (knD r)]) (h':=h) ?_ ?_).trans ih⟩
    ·have:(y==x)=false:=by rw [beq_eq_false_iff_ne];intro z;rw [z,beq_self_eq_true] at q;exact q rfl
     rw [c,this];rfl
    ·simp [b_looked_up_1,wZ,Jq,z31,vsub,jF,YD,knD,a1]
 obtain ⟨r,L⟩:=L;simp [d_looked_up,Df.run,wZ,Jq,Ut,L,BD,vsub,jF,YD,a0,a1,Qk]
end
section
variable {cl:Nat->List D->Hh->Res D}{h:Hh}
theorem YG {s a b:D}:d_parts_of.run cl [.tup [.str "op",s,a,b]] h=.ok (.tup [a,b]) h:=zj (zk (zi rfl rfl (eqS wc zL)) rfl)
theorem YH {n:Nat}{s a b:D}:callI defs (n+2) 15 [.tup [.str "op",s,a,b]] h=.ok (.tup [a,b]) h:=by
 rw [zb (d:=jW) rfl rfl];exact zj (zg (bnd rfl (bnd rfl ((zb (d:=d_parts_of) rfl rfl).trans YG))) rfl)
theorem jp:PyData.strOk "do"=true:=by decide +kernel
theorem YI {s a:D}:d_parts_of.run cl [.tup [.str "do",s,a]] h=.ok (.tup [a]) h:=zj (zk (zi rfl rfl (eqS jp zL)) rfl)
theorem YJ {n:Nat}{s a:D}:callI defs (n+2) 15 [.tup [.str "do",s,a]] h=.ok (.tup [a]) h:=by
 rw [zb (d:=jW) rfl rfl];exact zj (zg (bnd rfl (bnd rfl ((zb (d:=d_parts_of) rfl rfl).trans YI))) rfl)
end
section
variable {n:Nat}{h:Hh}{w d l s r:Nat}{u:Int}{nd cs bd e bl ts ns kn:D}{J:Hh}
structure At (h:Hh)(w d l s r:Nat)(u:Int)(nd cs bd e:D):Prop where
 hw:h[w]?=some (wk nd cs bd d l s r u e)
 ne:w≠d
 hd:d<h.length
theorem At.doing (a:At h w d l s r u nd cs bd e):Jo (.loc w) "doing" (M h d bl ts ns kn J)=.ok (.loc d) (M h d bl ts ns kn J):=zn (M_o a.hw a.ne) rfl
theorem At.endF (a:At h w d l s r u nd cs bd e):Jo (.loc w) "end" (M h d bl ts ns kn J)=.ok e (M h d bl ts ns kn J):=zn (M_o a.hw a.ne) rfl
theorem At.setEnd {z:D}(a:At h w d l s r u nd cs bd e):qC (.loc w) "end" z (M h d bl ts ns kn J)=some (M (h.set w (wk nd cs bd d l s r u z)) d bl ts ns kn J):=by
 refine (jf (M_o a.hw a.ne) (by simp) rfl).trans (congrArg some ?_);show (M h d bl ts ns kn J).set w (wk nd cs bd d l s r u z)=_;unfold M;have lw:=(Y0e.mp a.hw).1;rw [List.set_append_left _ _ (by rw [Y0r];exact lw),List.set_comm _ _ (Ne.symm a.ne)]
theorem Qq {v:D}(hd:d<h.length):callI defs (n+1) 17 [.loc d,v] (M h d bl ts ns kn J)=.ok .non (M h d bl ts (.tup [v,ns]) kn J):=(zb (d:=d_put) rfl rfl).trans (z4r hd)
theorem YK {v:D}(a:At h w d l s r u nd cs bd e):callI defs (n+2) 14 [.loc w,.tup [.str "num",v]] (M h d bl ts ns kn J)=.ok .non (M h d bl ts (.tup [v,ns]) kn J):=by
 rw [zb (d:=jo) rfl rfl];exact zW (zg (bnd rfl a.doing) (zQ (zi rfl rfl (eqS jm jm)) (wo (bnd rfl (bnd rfl (Qq a.hd))) rfl) rfl))
theorem YL {x:Str}{v:Int}{kn':List (Str×Int)}(a:At h w d l s r u nd cs bd e)(hx:PyData.strOk x=true)(hk:∀ p∈kn',PyData.strOk p.1=true)(q:kn'.lookup x=some v):callI defs (n+2) 14 [.loc w,.tup [.str "var",.str x]] (M h d bl ts ns (knD kn') J)=.ok .non (M h d bl ts (.tup [.int v,ns]) (knD kn') J):=by
 rw [zb (d:=jo) rfl rfl];refine zW (zg (bnd rfl a.doing) (zT (zi rfl rfl (eqS jn jm)) (zQ (zi rfl rfl (eqS jn jn)) (wo (bnd rfl (bnd (bnd (bnd rfl (bnd (bnd (bnd rfl (BF a.hd)) rfl) ((zb (d:=d_looked_up) rfl rfl).trans (O1 hx kn' hk q)))) rfl) (Qq a.hd))) rfl) rfl) rfl))
end
section
variable {cl:Nat->List D->Hh->Res D}{ρ ρ':En}{h h' h2 h3:Hh}{e1 e2 oe ve:E}{r:Ss}{p p1:Pos}{x y z:D}{f:Str}
theorem zA {o:RS}(hv:ve.ev cl ρ h=.ok z h')(ho:oe.ev cl ρ h'=.ok x h2)(hp:qC x f z h2=some h3)(k:Ss.run cl r ρ h3=o):Ss.run cl (.cons (.setF oe f ve p1 p) r) ρ h=o:=by
 rw [<- k,wZ,GU,hv,andS_ok,ho,andS_ok,hp];rfl
theorem Qr (q1:e1.ev cl ρ h=.ok x h')(q2:e2.ev cl ρ h'=.ok y h2):E.ev cl (.tup (.cons e1 (.cons e2 .nil)) p) ρ h=.ok (.tup [x,y]) h2:=bnd (bnd q1 (bnd (bnd q2 rfl) rfl)) rfl
theorem wz {b:Ss}{i:Nat}(k:b.run cl (ρ.set i (some x)) h=.nx ρ' h'):zG (.one i p) (λ ρ' h'=>b.run cl ρ' h') x ρ h=.nx ρ' h':=k
theorem qi {f:D->En->Hh->RS}:j8 [] f [] ρ h=.nx ρ h:=if_pos (λ _ hp=>nomatch hp)
theorem Ux {c a b:E}{t:Bool}(hc:c.ev cl ρ h=.ok (.bl t) h')(k:(if t then a.ev cl ρ h' else b.ev cl ρ h')=.ok x h2):E.ev cl (.ite c a b p) ρ h=.ok x h2:=bnd hc k
theorem jQ {m:Nat}{l:List D}{i:Int}{v:D}(g:h[m]?=some (.lst l))(e:atI l i=some v):zX (.loc m) (.int i) h=.ok v h:=by
 have q:zX (.loc m) (.int i) h=match h[m]? with
  | some (.dK kvs)=>(match (qy (.int i)).bind (λ k=>jC kvs k) with | some d=>Res.ok d h | none=>.no)
  | some (.lst xs)=>(match atI xs i with | some d=>Res.ok d h | none=>.no)
  | _=>.no:=rfl
 rw [q,g];simp only [e]
end
section
variable {n:Nat}{h:Hh}{w d l s r:Nat}{u:Int}{nd cs bd e bl ts ns kn:D}{J:Hh}
theorem Zi {cl:Nat->List D->Hh->Res D}{a b:Option D}{c:Option D}{x:D}(hd:d<h.length):zG qD (λ ρ' h'=>b_do_task_1.run cl ρ' h') x [a,b,some (.loc d),c] (M h d bl ts ns kn J)=.nx [a,b,some (.loc d),some x] (M h d bl (.tup [x,ts]) ns kn J) :=
 wz (zA (Qr rfl (bnd rfl (wV hd))) rfl (yB hd) rfl)
theorem Vm {x a b:D}(q:At h w d l s r u nd cs bd e):callI defs (n+3) 14 [.loc w,.tup [.str "op",x,a,b]] (M h d bl ts ns kn J)=.ok .non (M h d bl (.tup [a,.tup [b,.tup [.tup [.str "then",.tup [.str "op",x,a,b]],ts]]]) ns kn J):=by
 rw [zb (d:=jo) rfl rfl];exact zW (zg (bnd rfl q.doing) (zT (zi rfl rfl (eqS wc jm)) (zT (zi rfl rfl (eqS wc jn)) (zT (zi rfl rfl (eqS wc wX)) (zT (zi rfl rfl (eqS wc WI)) (zT (zi rfl rfl (eqS wc ZZ))
  (zA (Qr rfl (bnd rfl (wV q.hd))) rfl (yB q.hd) (j2 (bnd (bnd rfl (bnd rfl YH)) rfl) (j9 (λ _ hp=>nomatch hp) (Zi q.hd) (j9 (λ _ hp=>nomatch hp) (Zi q.hd) qi)) rfl)) rfl) rfl) rfl) rfl) rfl))
theorem Vn {x a:D}(q:At h w d l s r u nd cs bd e):callI defs (n+3) 14 [.loc w,.tup [.str "do",x,a]] (M h d bl ts ns kn J)=.ok .non (M h d bl (.tup [a,.tup [.tup [.str "then",.tup [.str "do",x,a]],ts]]) ns kn J):=by
 rw [zb (d:=jo) rfl rfl];exact zW (zg (bnd rfl q.doing) (zT (zi rfl rfl (eqS jp jm)) (zT (zi rfl rfl (eqS jp jn)) (zT (zi rfl rfl (eqS jp wX)) (zT (zi rfl rfl (eqS jp WI)) (zT (zi rfl rfl (eqS jp ZZ))
  (zA (Qr rfl (bnd rfl (wV q.hd))) rfl (yB q.hd) (j2 (bnd (bnd rfl (bnd rfl YJ)) rfl) (j9 (λ _ hp=>nomatch hp) (Zi q.hd) qi) rfl)) rfl) rfl) rfl) rfl) rfl))
theorem yD {o:O}{xs:List D}:(M h d bl ts ns kn (J++[o,.lst xs]))[h.length+J.length+1]?=some (.lst xs):=by
 unfold M;rw [Y08 (by rw [Y0r];omega),Y0r,Nat.add_assoc,Y1v,Y08 (by omega),Y1v];rfl
theorem jq {k:Str}{i:Nat}{R:List D}{h2:Hh}(q:At h w d l s r u nd cs bd e)(hk:fnOf yj (.str k)=some i)(c:callI defs n i [.loc w,.tup (.str k::R)] (M h d bl ts ns kn J)=.ok .non h2):callI defs (n+1) 14 [.loc w,.tup [.str "then",.tup (.str k::R)]] (M h d bl ts ns kn J)=.ok .non h2:=by
 rw [zb (d:=jo) rfl rfl];refine zW (zg (bnd rfl q.doing) (zT (zi rfl rfl (eqS wX jm)) (zT (zi rfl rfl (eqS wX jn)) (zQ (zi rfl rfl (eqS wX wX)) (wo (d:=.non) (h':=h2) ?_ rfl) rfl) rfl) rfl));refine (z2z).trans (bnd (x:=.str k) (h:=M h d bl ts ns kn J) ?_ ?_)
 ·exact bnd rfl (bnd rfl (by show (match atI (D.str k::R) 0 with | some d=>Res.ok d _ | none=>.no)=_;rw [a0]))
 ·simp only [hk];exact bnd rfl (bnd rfl c)
theorem Vo {x:Str}{a b:D}{v1 v2 v:Int}(q:At h w d l s r u nd cs bd e)(hs:Sg x)(h1:Sm v1)(h2:Sm v2)(hv:wH x v1 v2=some v) :
  callI defs (n+2) 20 [.loc w,.tup [.str "op",.str x,a,b]] (M h d bl ts (.tup [.int v2,.tup [.int v1,ns]]) kn J)=.ok .non (M h d bl ts (.tup [.int v,ns]) kn (J++[.lst [.int v2,.int v1],.lst [.int v1,.int v2]])):=by
 rw [zb (d:=qS) rfl rfl];refine zW (zg (bnd (bnd rfl q.doing) (bnd rfl ((zb (d:=d_taken) rfl rfl).trans (Qp q.hd)))) (zg (d:=.int v) (bnd rfl (bnd (bnd (bnd rfl (bnd rfl (jQ yD a0))) (bnd (bnd (bnd rfl (bnd rfl (jQ yD a1))) rfl) rfl)) ((zb (d:=d_reckoned) rfl rfl).trans (by rw [J0 hs h1 h2,hv];rfl)))) (zT rfl (wo (bnd (bnd rfl q.doing) (bnd rfl (Qq q.hd))) rfl) rfl)))
theorem WJ {x:Str}{a b:D}{v1 v2:Int}(q:At h w d l s r u nd cs bd e)(hs:Sg x)(h1:Sm v1)(h2:Sm v2)(hv:wH x v1 v2=none) :
  callI defs (n+2) 20 [.loc w,.tup [.str "op",.str x,a,b]] (M h d bl ts (.tup [.int v2,.tup [.int v1,ns]]) kn J)=.ok .non (M (h.set w (wk nd cs bd d l s r u (.tup [.str "great"]))) d bl ts ns kn (J++[.lst [.int v2,.int v1],.lst [.int v1,.int v2]])):=by
 rw [zb (d:=qS) rfl rfl];refine zW (zg (bnd (bnd rfl q.doing) (bnd rfl ((zb (d:=d_taken) rfl rfl).trans (Qp q.hd)))) (zg (d:=.non) (bnd rfl (bnd (bnd (bnd rfl (bnd rfl (jQ yD a0))) (bnd (bnd (bnd rfl (bnd rfl (jQ yD a1))) rfl) rfl)) ((zb (d:=d_reckoned) rfl rfl).trans (by rw [J0 hs h1 h2,hv];rfl)))) (zQ rfl (zA rfl rfl q.setEnd rfl) rfl)))
end
def Lp (n:Nat)(ρ:En)(H:Hh):RS:=whR (λ ρ' h'=>w_walk_on_1.evT (callI defs (n+3)) ρ' h') (λ ρ' h'=>b_walk_on_1.run (callI defs (n+3)) ρ' h') ρ H
section
variable {n:Nat}{h:Hh}{w d l s r:Nat}{u:Int}{nd cs bd bl ts ns kn:D}{J:Hh}
theorem turn {tk:D}{h2:Hh}{x y:Option D}(q:At h w d l s r u nd cs bd .non)(c:callI defs (n+3) 14 [.loc w,tk] (M h d bl ts ns kn J)=.ok .non h2) :
  Lp n [some (.loc w),x,y] (M h d bl (.tup [tk,ts]) ns kn J)=Lp n [some (.loc w),some (.loc d),some tk] h2 :=
 wG (zi (bnd rfl q.endF) rfl rfl) (zg (bnd rfl q.doing) (zT (zi (bnd rfl (wV q.hd)) rfl rfl) (zg (bnd (bnd rfl (wV q.hd)) rfl) (zA (bnd (bnd rfl (wV q.hd)) rfl) rfl (yB q.hd) (wo (bnd rfl (bnd rfl c)) rfl))) rfl))
theorem z0p:fnOf yj (.str "do")=some 22:=by rfl
theorem Uy:fnOf yj (.str "call")=some 21:=by rfl
theorem z0q:fnOf yj (.str "op")=some 20:=by rfl
end
section
variable {n:Nat}{h:Hh}{w d l s r:Nat}{u:Int}{nd cs bd bl ts ns kn:D}{J:Hh}
theorem BH (hd:d<h.length):callI defs (n+1) 24 [.loc d] (M h d bl ts ns kn J)=.ok (.bl false) (M h d bl ts ns kn J):=by
 rw [zb (d:=d_holds_alone) rfl rfl];exact zj (zD (jG (GY (zi (bnd rfl (z38 hd)) rfl rfl))))
end
section
variable {n:Nat}{H:Hh}{m:Nat}
theorem Uz {cl:Nat->List D->Hh->Res D}{a b:Option D}{xs:List D}(g:H[m]?=some (.lst xs)):∀ (ps:List (Str×Int)) (kn:List (Str×Int)) (c:Option D),∃ c',j8 [(m,xs)] (zG ZV λ ρ' h'=>b_linked_1.run cl ρ' h') (ps.map λ p=>.tup [.str p.1,.int p.2]) [a,b,some (knD kn),c] H=.nx [a,b,some (knD (ps.reverse++kn)),c'] H
 | [],kn,c=>⟨c,if_pos (λ p hp=>by rw [Y0a.mp hp];exact rdl g)⟩
 | p::r,kn,c=>by
  obtain ⟨c',e⟩:=Uz (cl:=cl) (a:=a) (b:=b) g r (p::kn) (some (.tup [.str p.1,.int p.2]));refine ⟨c',j9 (λ p hp=>by rw [Y0a.mp hp];exact rdl g) (wz rfl) ?_⟩;rw [Y1m,Y0l];exact e
theorem Qs {names:List Str}{nums:List Int}(g:H[m]?=some (.lst (nums.map .int))):callI defs (n+1) 11 [.tup (names.map .str),.loc m] H=.ok (knD (names.zip nums).reverse) H:=by
 rw [zb (d:=ZW) rfl rfl];obtain ⟨c',e⟩:=Uz (cl:=callI defs n) (a:=some (.tup (names.map .str))) (b:=some (.loc m)) g (names.zip nums) [] none;rw [Y0y] at e;have hz:Qj (.tup (names.map .str)) (.loc m) H=.ok (([(m,nums.map .int)]:Ck),(names.zip nums).map λ p:Str×Int=>D.tup [.str p.1,.int p.2]) H:=by
  have q:Qj (.tup (names.map .str)) (.loc m) H=(match (PI.rd H m).map (λ xs=>(([(m,xs)],xs):Ck×List D)) with | some q=>Res.ok ([]++q.1,((names.map D.str).zip q.2).map w4) H | none=>.no):=rfl
  rw [q,rdl g];show Res.ok (([(m,nums.map .int)]:Ck),((names.map D.str).zip (nums.map D.int)).map w4) H=_;rw [List.zip_map,Y2l];rfl
 exact zj (zg rfl (j2 (izip.trans (bnd rfl (bnd rfl hz))) e rfl))
end
section
variable {n:Nat}{H R:Hh}{y f:Str}{fs fs':List (Str×D)}{z a b c e:D}
theorem jx (hl:fs.length<1000)(q:Qh f z fs=fs'):qC (.loc H.length) f z (H++(.obj y fs::R))=some (H++(.obj y fs'::R)):=by
 refine (jf (y:=y) (fs:=fs) ?_ hl q).trans (congrArg some ?_)
 ·rw [Y08 (Y04 _),Y11];rfl
 ·rw [Y23 _ _ (Y04 _),Y11];rfl
theorem O2 {cl:Nat->List D->Hh->Res D}{ρ:En}{p:Pos}:E.ev cl (.ofL (.disp .nil p)) ρ (H++(.obj y fs::R))=.ok (.loc (H.length+(R.length+1))) (H++(.obj y fs::(R++[.lst []]))):=by
 simp [vofL,ldisp,z30,new]
theorem z4s:callI defs (n+1) 44 [.loc H.length,a,b,c] (H++[.obj "Walk" []])=.ok .non (H++[.obj "Walk" [("named",a),("clauses",b),("bound",c),("doing",.non),("left",.loc (H.length+1)),("standing",.loc (H.length+2)),("record",.loc (H.length+3)),("used",.int 0),("end",.non)],.lst [],.lst [],.lst []]):=by
 rw [zb (d:=wb) rfl rfl];exact zW (zA rfl rfl (jx (Y0j rfl) rfl) (zA rfl rfl (jx (Y0j rfl) rfl) (zA rfl rfl (jx (Y0j rfl) rfl) (zA rfl rfl (jx (Y0j rfl) rfl) (zA O2 rfl (jx (Y0j rfl) rfl) (zA O2 rfl (jx (Y0j rfl) rfl) (zA O2 rfl (jx (Y0j rfl) rfl) (zA rfl rfl (jx (Y0j rfl) rfl) (zA rfl rfl (jx (Y0j rfl) rfl) rfl)))))))))
theorem O3:callI defs (n+1) 45 [.loc H.length,a,b,c,.non] (H++[.obj "Doing" []])=.ok .non (H++[dg c (.tup [a,.non]) .non b]):=by
 rw [zb (d:=jP) rfl rfl];exact zW (zA rfl rfl (jx (Y0j rfl) rfl) (zA rfl rfl (jx (Y0j rfl) rfl) (zA rfl rfl (jx (Y0j rfl) rfl) (zA rfl rfl (jx (Y0j rfl) rfl) (zA rfl rfl (jx (Y0j rfl) rfl) (zA rfl rfl (jx (Y0j rfl) rfl) rfl))))))
end
def wI (ns:D):List D->D
 | []=>ns
 | w::ws=>.tup [w,wI ns ws]
theorem W5 {ns v:D}:∀ ws:List D,wI ns (ws++[v])=wI (.tup [v,ns]) ws
 | []=>rfl
 | w::ws=>by rw [List.cons_append,wI,wI,W5 ws]
def ye (ts:D):List D->D
 | []=>ts
 | a::r=>.tup [a,ye ts r]
theorem W6 {ts v:D}:∀ ws:List D,ye ts (ws++[v])=ye (.tup [v,ts]) ws
 | []=>rfl
 | w::ws=>by rw [List.cons_append,ye,ye,W6 ws]
section
variable {cl:Nat->List D->Hh->Res D}{h:Hh}{w d:Nat}{bl ts ns kn:D}{J:Hh}
theorem J4 (hd:d<h.length):∀ (ws l:List D) (c:Nat),c=l.length+ws.length->c<1000->whR (λ ρ' h'=>w_taken_1.evT cl ρ' h') (λ ρ' h'=>b_taken_1.run cl ρ' h') [some (.loc d),some (.int c),some (.loc (h.length+J.length))] (M h d bl ts (wI ns ws) kn (J++[.lst l]))=.nx [some (.loc d),some (.int c),some (.loc (h.length+J.length))] (M h d bl ts ns kn (J++[.lst (l++ws)]))
 | [],l,c,hc,hl=>by rw [Y0y];exact qA (yC _ _ false wW (by rw [hc];simp))
 | w::ws,l,c,hc,hl=>by
  rw [Y09] at hc;have e:=J4 hd ws (l++[w]) c (by rw [Y0h];simp;omega) hl;rw [Y0l] at e;exact (wG (yC _ _ true wW (decide_eq_true (by omega))) (WH hd (by omega))).trans e
theorem O4 (hd:d<h.length)(vs:List D)(c:Nat)(hc:c=vs.length)(hl:c<1000):d_taken.run cl [.loc d,.int c] (M h d bl ts (wI ns vs.reverse) kn J)=.ok (.loc (h.length+J.length+1)) (M h d bl ts ns kn (J++[.lst vs.reverse,.lst vs])):=by
 have e2:=J4 (cl:=cl) (bl:=bl) (ts:=ts) (ns:=ns) (kn:=kn) (J:=J) hd vs.reverse [] c (by simp [hc]) hl;rw [Y14] at e2;simp [d_taken,Df.run,wZ,Jq,z31,vofL,L.ev,Es.ev,new,z0n,z0o,Ut,e2,BD,GT,lrD,jF,rdl wW,Qk,Nat.add_assoc]
def qK (g:Str)(bb:D)(as:List D):D:=.tup [.str "call",.str g,bb,.tup as]
theorem WK {g:Str}{bb:D}{as:List D}:d_parts_of.run cl [qK g bb as] h=.ok (.tup as) h:=zj (j1 (zi rfl rfl (eqS zL zL)) rfl)
theorem WL {n:Nat}{g:Str}{bb:D}{as:List D}:callI defs (n+2) 15 [qK g bb as] h=.ok (.tup as) h:=by
 rw [zb (d:=jW) rfl rfl];exact zj (zg (bnd rfl (bnd rfl ((zb (d:=d_parts_of) rfl rfl).trans WK))) rfl)
theorem W7 {a b:Option D}(hd:d<h.length):∀ (xs:List D) (ts:D) (c:Option D),∃ c',j8 [] (zG qD (λ ρ' h'=>b_do_task_1.run cl ρ' h')) xs [a,b,some (.loc d),c] (M h d bl ts ns kn J)=.nx [a,b,some (.loc d),c'] (M h d bl (ye ts xs.reverse) ns kn J)
 | [],ts,c=>⟨c,qi⟩
 | x::xs,ts,c=>by
  obtain ⟨c',e⟩:=W7 hd xs (.tup [x,ts]) (some x);refine ⟨c',?_⟩;rw [Y1m,W6];exact j9 (λ _ hp=>nomatch hp) (Zi hd) e
end
section
variable {n:Nat}{h:Hh}{w d l s r:Nat}{u:Int}{nd cs bd e bl ts ns kn:D}{J:Hh}
theorem Qt {g:Str}{bb:D}{as:List D}(q:At h w d l s r u nd cs bd e):callI defs (n+3) 14 [.loc w,qK g bb as] (M h d bl ts ns kn J)=.ok .non (M h d bl (ye (.tup [.tup [.str "then",qK g bb as],ts]) as) ns kn J):=by
 rw [zb (d:=jo) rfl rfl];obtain ⟨c',F⟩:=W7 (cl:=callI defs (n+2)) (bl:=bl) (ns:=ns) (kn:=kn) (J:=J) (a:=some (.loc w)) (b:=some (qK g bb as)) q.hd as.reverse (.tup [.tup [.str "then",qK g bb as],ts]) none;rw [List.reverse_reverse] at F;exact zW (zg (bnd rfl q.doing) (zT (zi rfl rfl (eqS zL jm)) (zT (zi rfl rfl (eqS zL jn)) (zT (zi rfl rfl (eqS zL wX)) (zT (zi rfl rfl (eqS zL WI)) (zT (zi rfl rfl (eqS zL ZZ))
  (zA (Qr rfl (bnd rfl (wV q.hd))) rfl (yB q.hd) (j2 (bnd (bnd rfl (bnd rfl WL)) rfl) F rfl)) rfl) rfl) rfl) rfl) rfl))
end
theorem z3a {h:Hh}{d:Nat}{bl ts ns kn:D}(e:h[d]?=some (dg bl ts ns kn)):M h d bl ts ns kn []=h:=by
 unfold M;rw [Y0y];obtain ⟨hd,q⟩:=Y0e.mp e;rw [<- q,List.set_getElem_self]
structure Fr where
 at_:Nat
 bl:D
 ts:D
 ns:D
 kn:D
abbrev frs (fr:List Fr):List D:=fr.reverse.map λ f=>.loc f.at_
structure St (H0 H:Hh)(w d l s r m c:Nat)(bd:Int)(kvs:List (Key×D))(u:Int)(e bl ts ns kn:D)(rc:List D)(fr:List Fr):Prop where
 hw:H[w]?=some (wk (.loc m) (.loc c) (.int bd) d l s r u e)
 hd:H[d]?=some (dg bl ts ns kn)
 hl:H[l]?=some (.lst (frs fr))
 hs:H[s]?=some (.lst [])
 hr:H[r]?=some (.lst rc)
 hm:H[m]?=some (.dK kvs)
 wd:w≠d
 wl:w≠l
 ws:w≠s
 wr:w≠r
 wm:w≠m
 dl:d≠l
 ds:d≠s
 dr:d≠r
 dm:d≠m
 lr:l≠r
 ls:l≠s
 lm:l≠m
 rs:r≠s
 rm:r≠m
 fs:∀ f∈fr,H[f.at_]?=some (dg f.bl f.ts f.ns f.kn)/\f.at_≠w/\f.at_≠l/\f.at_≠d/\f.at_≠r
 old:∀ (i:Nat) (o:O),H0[i]?=some o->H[i]?=some o
 ow:H0.length<=w
 ol:H0.length<=l
 od:H0.length<=d
 ore:H0.length<=r
theorem zu {H:Hh}{i:Nat}{o:O}(e:H[i]?=some o):i<H.length:=(Y0e.mp e).1
theorem zl {H:Hh}{i j:Nat}{o o':O}(ne:i≠j)(e:H[i]?=some o):(H.set j o')[i]?=some o:=by rw [Y1f (Ne.symm ne)];exact e
theorem zd {A B:Hh}{i:Nat}{o:O}(e:A[i]?=some o):(A++B)[i]?=some o:=by rw [Y10 (zu e)];exact e
section
variable {n:Nat}{H0 H:Hh}{w d l s r m c:Nat}{bd:Int}{kvs:List (Key×D)}{u:Int}{bl ts ns kn bl' ts' ns' kn' e e':D}{rc:List D}{fr:List Fr}{J:Hh}{x y:Option D}
theorem St.at (q:St H0 H w d l s r m c bd kvs u e bl ts ns kn rc fr):At H w d l s r u (.loc m) (.loc c) (.int bd) e:=⟨q.hw,q.wd,zu q.hd⟩
theorem St.self (q:St H0 H w d l s r m c bd kvs u e bl ts ns kn rc fr):M H d bl ts ns kn []=H:=z3a q.hd
theorem St.M (q:St H0 H w d l s r m c bd kvs u e bl ts ns kn rc fr):St H0 (M H d bl ts' ns' kn' J) w d l s r m c bd kvs u e bl ts' ns' kn' rc fr :=
 ⟨M_o q.hw q.wd,M_d (zu q.hd),M_o q.hl (Ne.symm q.dl),M_o q.hs (Ne.symm q.ds),M_o q.hr (Ne.symm q.dr),M_o q.hm (Ne.symm q.dm),q.wd,q.wl,q.ws,q.wr,q.wm,q.dl,q.ds,q.dr,q.dm,q.lr,q.ls,q.lm,q.rs,q.rm,
  λ f hf=>⟨M_o (q.fs f hf).1 (q.fs f hf).2.2.2.1,(q.fs f hf).2⟩,λ i o ho=>M_o (q.old i o ho) (by have:=zu ho;have:=q.od;omega),q.ow,q.ol,q.od,q.ore⟩
theorem St.setW (q:St H0 H w d l s r m c bd kvs u e bl ts ns kn rc fr)(v:Int)(e':D):St H0 (H.set w (wk (.loc m) (.loc c) (.int bd) d l s r v e')) w d l s r m c bd kvs v e' bl ts ns kn rc fr :=
 ⟨Y0n (zu q.hw),zl (Ne.symm q.wd) q.hd,zl (Ne.symm q.wl) q.hl,zl (Ne.symm q.ws) q.hs,zl (Ne.symm q.wr) q.hr,zl (Ne.symm q.wm) q.hm,q.wd,q.wl,q.ws,q.wr,q.wm,q.dl,q.ds,q.dr,q.dm,q.lr,q.ls,q.lm,q.rs,q.rm,
  λ f hf=>⟨zl (q.fs f hf).2.1 (q.fs f hf).1,(q.fs f hf).2⟩,λ i o ho=>zl (by have:=zu ho;have:=q.ow;omega) (q.old i o ho),q.ow,q.ol,q.od,q.ore⟩
theorem St.setR (q:St H0 H w d l s r m c bd kvs u e bl ts ns kn rc fr)(rc':List D):St H0 (H.set r (.lst rc')) w d l s r m c bd kvs u e bl ts ns kn rc' fr :=
 ⟨zl q.wr q.hw,zl q.dr q.hd,zl q.lr q.hl,zl (Ne.symm q.rs) q.hs,Y0n (zu q.hr),zl (Ne.symm q.rm) q.hm,q.wd,q.wl,q.ws,q.wr,q.wm,q.dl,q.ds,q.dr,q.dm,q.lr,q.ls,q.lm,q.rs,q.rm,
  λ f hf=>⟨zl (q.fs f hf).2.2.2.2 (q.fs f hf).1,(q.fs f hf).2⟩,λ i o ho=>zl (by have:=zu ho;have:=q.ore;omega) (q.old i o ho),q.ow,q.ol,q.od,q.ore⟩
theorem St.under {fr':List Fr}{b k:D}(q:St H0 H w d l s r m c bd kvs u e bl ts ns kn rc fr)(hf:∀ f∈fr',H[f.at_]?=some (dg f.bl f.ts f.ns f.kn)/\f.at_≠w/\f.at_≠l/\f.at_≠r) :
  St H0 (((H.set l (.lst (frs fr')))++[dg bl' b ns' k]).set w (wk (.loc m) (.loc c) (.int bd) H.length l s r u e)) w H.length l s r m c bd kvs u e bl' b ns' k rc fr':=by
 have ll:=zu q.hl;have lw:=zu q.hw;have E:((H.set l (.lst (frs fr')))++[dg bl' b ns' k]).length=H.length+1:=by simp
 have low:∀ (i:Nat) (o:O),H[i]?=some o->i≠l->i≠w->(((H.set l (.lst (frs fr')))++[dg bl' b ns' k]).set w (wk (.loc m) (.loc c) (.int bd) H.length l s r u e))[i]?=some o:=λ i o e n1 n2=>zl n2 (zd (zl n1 e));refine ⟨Y0n (by omega),zl (by omega) ?_,zl (Ne.symm q.wl) (zd (Y0n ll)),low _ _ q.hs (Ne.symm q.ls) (Ne.symm q.ws),low _ _ q.hr (Ne.symm q.lr) (Ne.symm q.wr),low _ _ q.hm (Ne.symm q.lm) (Ne.symm q.wm),by omega,q.wl,q.ws,q.wr,q.wm,by omega,by have:=zu q.hs;omega,by have:=zu q.hr;omega,by have:=zu q.hm;omega,q.lr,q.ls,q.lm,q.rs,q.rm,λ f h=>?_,λ i o ho=>?_,q.ow,q.ol,by have:=q.ow;omega,q.ore⟩
 ·rw [Y08 (by rw [Y0r];exact Y04 _),Y0r,Y11];rfl
 ·obtain ⟨a,b,c,d⟩:=hf f h;exact ⟨low _ _ a c b,b,c,by have:=zu a;omega,d⟩
 ·exact low _ _ (q.old i o ho) (by have:=zu ho;have:=q.ol;omega) (by have:=zu ho;have:=q.ow;omega)
theorem append_at {cl:Nat->List D->Hh->Res D}{ρ:En}{X X1 X2:Hh}{n:Nat}{xs:List D}{oe ae:E}{v:D}{p1 p:Pos}(ho:oe.ev cl ρ X=.ok (.loc n) X1)(g1:X1[n]?=some (.lst xs))(ha:ae.ev cl ρ X1=.ok v X2)(g:X2[n]?=some (.lst xs))(hl:xs.length<1000000) :
  E.ev cl (.m1 .append oe ae p1 p) ρ X=.ok .non (X2.set n (.lst (xs++[v]))):=by
 rw [vm1];refine bnd ho ?_;rw [YE g1];refine bnd ha ?_;simp [m1D,g,hl]
theorem BI {cl:Nat->List D->Hh->Res D}{ρ:En}{h h' h2 h3:Hh}{e1 e2 e3:E}{p:Pos}{x y z:D}(q1:e1.ev cl ρ h=.ok x h')(q2:e2.ev cl ρ h'=.ok y h2)(q3:e3.ev cl ρ h2=.ok z h3):E.ev cl (.tup (.cons e1 (.cons e2 (.cons e3 .nil))) p) ρ h=.ok (.tup [x,y,z]) h3:=bnd (bnd q1 (bnd (bnd q2 (bnd (bnd q3 rfl) rfl)) rfl)) rfl
theorem z4t {tk:D}{h2:Hh}(q:St H0 H w d l s r m c bd kvs u .non bl (.tup [tk,ts]) ns kn rc fr)(c:callI defs (n+3) 14 [.loc w,tk] (K44.M H d bl ts ns kn [])=.ok .non h2):Lp n [some (.loc w),x,y] H=Lp n [some (.loc w),some (.loc d),some tk] h2:=by
 have:=turn (x:=x) (y:=y) q.at c
 rw [q.self] at this;exact this
theorem J5 {z:List D}(q:St H0 H w d l s r m c bd kvs u (.tup z) bl ts ns kn rc fr):Lp n [some (.loc w),x,y] H=.nx [some (.loc w),x,y] H :=
 qA (zi (bnd rfl (zn q.hw rfl)) rfl rfl)
theorem O5 (q:St H0 H w d l s r m c bd kvs u e bl ts ns kn rc fr)(hu:u<bd):callI defs (n+1) 19 [.loc w] H=.ok (.bl true) (H.set w (wk (.loc m) (.loc c) (.int bd) d l s r (u+1) e)):=by
 rw [zb (d:=w9) rfl rfl];exact zj (zk (zi (bnd rfl (zn q.hw rfl)) (bnd rfl (zn q.hw rfl)) (cmp_ge.trans (by rw [decide_eq_false (by omega)]))) (zA (bnd (bnd rfl (zn q.hw rfl)) rfl) rfl (jf q.hw (by simp) rfl) rfl))
theorem UA (q:St H0 H w d l s r m c bd kvs u e bl ts ns kn rc fr)(hu:¬ u<bd):callI defs (n+1) 19 [.loc w] H=.ok (.bl false) (H.set w (wk (.loc m) (.loc c) (.int bd) d l s r u (.tup [.str "spent"]))):=by
 rw [zb (d:=w9) rfl rfl];exact zj (j1 (zi (bnd rfl (zn q.hw rfl)) (bnd rfl (zn q.hw rfl)) (cmp_ge.trans (by rw [decide_eq_true (by omega)]))) (zA rfl rfl (jf q.hw (by simp) rfl) rfl))
theorem z2n {m:Nat}(g:H[m]?=some (.lst [])):yN (.loc m) H=.ok (.int 0) H:=by simp [yN,rdl g]
theorem Zj {vs:List D}(q:St H0 H w d l s r m c bd kvs u e bl ts (wI ns vs.reverse) kn rc fr){k:Nat}(hl:k=vs.length)(hs:k<1000) :
  ∃ X1,callI defs (n+1) 18 [.loc d,.int k] H=.ok (.loc (H.length+1)) X1/\St H0 X1 w d l s r m c bd kvs u e bl ts ns kn rc fr/\X1[H.length+1]?=some (.lst vs):=by
 have T:callI defs (n+1) 18 [.loc d,.int k] (K44.M H d bl ts (wI ns vs.reverse) kn [])=_:=(zb (d:=d_taken) rfl rfl).trans (O4 (J:=[]) (zu q.hd) vs k hl hs);rw [q.self] at T;exact ⟨_,T,q.M,yD (J:=[])⟩
theorem Qu (q:St H0 H w d l s r m c bd kvs u e bl ts ns kn rc fr):callI defs (n+1) 24 [.loc d] H=.ok (.bl false) H:=by
 have A:=BH (n:=n) (bl:=bl) (ts:=ts) (ns:=ns) (kn:=kn) (J:=[]) (zu q.hd);rw [q.self] at A;exact A
theorem J6 {h2:Hh}(q:St H0 H w d l s r m c bd kvs u .non bl .non ns kn rc fr)(c:callI defs (n+3) 23 [.loc w] H=.ok .non h2):Lp n [some (.loc w),x,y] H=Lp n [some (.loc w),some (.loc d),y] h2 :=
 wG (zi (bnd rfl (zn q.hw rfl)) rfl rfl) (zg (bnd rfl (zn q.hw rfl)) (zQ (zi (bnd rfl (zn q.hd rfl)) rfl rfl) (wo (bnd rfl (bnd rfl c)) rfl) rfl))
def doD (x:Str)(v:Int):D:=.tup [.str "do",.str x,.int v]
def J7 (x:Str)(v:Int):D:=.tup [.str "asks",.str x,.int v]
abbrev WM:D:=.tup [.str "great"]
abbrev jA:D:=.tup [.str "spent"]
theorem Vp {x:Str}{a:D}{v:Int}(q:St H0 H w d l s r m c bd kvs u .non bl ts (.tup [.int v,ns]) kn rc fr)(hr:rc.length<1000000)(hu:u<bd):∃ H',callI defs (n+2) 22 [.loc w,.tup [.str "do",.str x,a]] H=.ok .non H'/\St H0 H' w d l s r m c bd kvs (u+1) (J7 x v) bl ts ns kn (rc++[doD x v]) fr:=by
 obtain ⟨X1,T,q1,g1⟩:=Zj (n:=n) (vs:=[.int v]) (k:=1) q rfl (by decide);have q2:=q1.setW (u+1) .non;have q3:=q2.setR (rc++[doD x v]);have q4:=q3.setW (u+1) (J7 x v);refine ⟨_,?_,q4⟩;rw [zb (d:=qT) rfl rfl];have ln:=z2n q3.hs;have W:∀ {ρ:En}{h:Hh},ρ[4]?=some (some (.int (-1)))->whR (λ ρ' h'=>w_then_do_1.evT (callI defs (n+1)) ρ' h') (λ ρ' h'=>b_then_do_1.run (callI defs (n+1)) ρ' h') ρ h=.nx ρ h:=λ {ρ h} e=>qA (GY (zi (x:=.int (-1)) (by rw [jF,e]) rfl rfl));refine zW (ρ:=[some (.loc w),some (.tup [.str "do",.str x,a]),some (.str x),some (.int v),some (.int (-1)),none,none]) (zg rfl (zg (bnd (bnd (bnd rfl (zn q.hw rfl)) (bnd rfl T)) (bnd rfl (jQ g1 a0))) (zk (bnd (bnd (bnd rfl (bnd rfl (O5 q1 hu))) rfl) rfl) (wo (append_at (bnd rfl (zn q2.hw rfl)) q2.hr rfl q2.hr hr) (zg (d:=.int (-1)) (bnd (bnd (bnd rfl (zn q3.hw rfl)) ln) rfl) ?_)))));show Ss.run _ (.cons (.whil w_then_do_1 b_then_do_1 _) _) _ _=_;rw [wZ,Ut,W rfl,seqS_nx];exact zQ rfl (zA rfl rfl (jf q3.hw (by simp) rfl) rfl) rfl
theorem YM {x:Str}{a:D}{v:Int}(q:St H0 H w d l s r m c bd kvs u .non bl ts (.tup [.int v,ns]) kn rc fr)(hu:¬ u<bd):∃ H',callI defs (n+2) 22 [.loc w,.tup [.str "do",.str x,a]] H=.ok .non H'/\St H0 H' w d l s r m c bd kvs u jA bl ts ns kn rc fr:=by
 obtain ⟨X1,T,q1,g1⟩:=Zj (n:=n) (vs:=[.int v]) (k:=1) q rfl (by decide);refine ⟨_,?_,q1.setW u jA⟩;rw [zb (d:=qT) rfl rfl];exact zj (zg rfl (zg (bnd (bnd (bnd rfl (zn q.hw rfl)) (bnd rfl T)) (bnd rfl (jQ g1 a0))) (j1 (bnd (bnd (bnd rfl (bnd rfl (UA q1 hu))) rfl) rfl) rfl)))
end
structure Fn where
 nm:Str
 ps:List Str
 blk:Option Str
 body:T
def fnD (f:Fn):D:=.tup [.str "def",.str f.nm,.tup (f.ps.map .str),hD f.blk,f.body.d]
abbrev Bl:=Option (Str×Str)
def blD:Bl->D
 | none=>.tup [.non,.non]
 | some p=>.tup [.str p.1,.str p.2]
def std:Bl->Str->Str
 | none,g=>g
 | some p,g=>if g==p.1 then p.2 else g
def jD (bl:Bl)(h:Option Str):Option Str:=h.map (std bl)
def inn:Option Str->Option Str->Option Bl
 | none,none=>some none
 | some b,some x=>some (some (b,x))
 | _,_=>none
def YN (bl:Bl):Prop:=∀ p,bl=some p->PyData.strOk p.1=true/\PyData.strOk p.2=true
theorem z4u:∀ {a b:Option Str}{bl:Bl},inn a b=some bl->D.tup [hD a,hD b]=blD bl
 | none,none,bl,e=>by cases e;rfl
 | some a,some b,bl,e=>by cases e;rfl
 | none,some b,bl,e=>by cases e
 | some b,none,bl,e=>by cases e
theorem z6n {H:Hh}{g:Str}(hg:PyData.strOk g=true):zU .Eq (.str g) .non H=.ok (.bl false) H:=if_pos ⟨hg,rfl,Y1d _⟩
theorem z4v {H:Hh}{g:Str}(hg:PyData.strOk g=true):zU .Eq .non (.str g) H=.ok (.bl false) H:=if_pos ⟨rfl,hg,Y1d _⟩
section
variable {n:Nat}{H:Hh}
theorem Qw {g:Str}:∀ {bl:Bl},PyData.strOk g=true->YN bl->callI defs (n+1) 1 [.str g,blD bl] H=.ok (.str (std bl g)) H
 | none,hg,_=>by
  rw [zb (d:=j6) rfl rfl];exact zj (zD (Ux (t:=false) (bnd rfl (bnd rfl (z6n hg))) rfl))
 | some p,hg,hb=>by
  rw [zb (d:=j6) rfl rfl];have c:zU .Eq (.str g) (.str p.1) H=.ok (.bl (g==p.1)) H:=eqS hg (hb p rfl).1;refine zj (zD (Ux (t:=(g==p.1)) (bnd rfl (bnd rfl c)) ?_));show _=Res.ok (D.str (if (g==p.1)=true then p.2 else g)) H;cases (g==p.1)
  ·exact if_neg (by decide)
  ·exact if_pos rfl
theorem Vq:∀ {h:Option Str}{bl:Bl},(∀ x,h=some x->PyData.strOk x=true)->YN bl->callI defs (n+1) 1 [hD h,blD bl] H=.ok (hD (jD bl h)) H
 | some x,bl,hx,hb=>Qw (hx x rfl) hb
 | none,none,_,_=>by
  rw [zb (d:=j6) rfl rfl];exact zj (zD (Ux (t:=true) rfl rfl))
 | none,some p,_,hb=>by
  rw [zb (d:=j6) rfl rfl];exact zj (zD (Ux (t:=false) (bnd rfl (bnd rfl (z4v (hb p rfl).1))) rfl))
theorem qk {H:Hh}{m:Nat}{f:Str}{kvs:List (Key×D)}{v:D}(g:H[m]?=some (.dK kvs))(e:jC kvs (.inr f)=some v):zX (.loc m) (.str f) H=.ok v H:=by
 have q:zX (.loc m) (.str f) H=match H[m]? with
  | some (.dK kvs)=>(match (qy (.str f)).bind (λ k=>jC kvs k) with | some d=>Res.ok d H | none=>.no)
  | some (.lst xs)=>.no
  | _=>.no:=rfl
 rw [q,g];show (match jC kvs (.inr f) with | some d=>Res.ok d H | none=>.no)=_
 rw [e]
end
section
variable {n:Nat}{H0 H:Hh}{w d l s r m c:Nat}{bd:Int}{kvs:List (Key×D)}{u:Int}{ts ns kn ts' ns' kn' bD:D}{rc:List D}{fr:List Fr}{J:Hh}{v:D}
theorem Qx {g:Str}{h:Option Str}{bl bl':Bl}{vs:List Int}{as:List D}{f:Fn}(q:St H0 H w d l s r m c bd kvs u .non (blD bl) ts (wI ns (vs.map .int).reverse) kn rc fr)(hl:as.length=vs.length)(hs:vs.length<1000)(hf:fr.length<1000000)(hg:PyData.strOk g=true)(hh:∀ x,h=some x->PyData.strOk x=true)(hb:YN bl)(hv:jC kvs (.inr (std bl g))=some (fnD f))(hi:inn f.blk (jD bl h)=some bl')(hu:u<bd) :
  ∃ H' d',callI defs (n+2) 21 [.loc w,qK g (hD h) as] H=.ok .non H'/\St H0 H' w d' l s r m c bd kvs (u+1) .non (blD bl') (.tup [f.body.d,.non]) .non (knD (f.ps.zip vs).reverse) rc (⟨d,blD bl,ts,ns,kn⟩::fr):=by
 obtain ⟨X1,T,q1,g1⟩:=Zj (n:=n) (vs:=vs.map .int) (k:=as.length) q (by simp [hl]) (by omega);have lw:=zu q.hw;have ll:=zu q.hl;have q2:=q1.setW (u+1) .non;have tk:=O5 (n:=n) q1 hu;generalize hX:X1.set w (wk (.loc m) (.loc c) (.int bd) d l s r (u+1) .non)=X2 at q2 tk;have g2:X2[H.length+1]?=some (.lst (vs.map .int)):=by rw [<- hX];exact zl (by omega) g1
 have q3:=q2.under (fr':=⟨d,blD bl,ts,ns,kn⟩::fr) (bl':=blD bl') (b:=.tup [f.body.d,.non]) (ns':=.non) (k:=knD (f.ps.zip vs).reverse) λ f hf=>by
  rcases Y06.mp hf with rfl | hf
  ·exact ⟨q2.hd,Ne.symm q2.wd,q2.dl,q2.dr⟩
  ·exact ⟨(q2.fs f hf).1,(q2.fs f hf).2.1,(q2.fs f hf).2.2.1,(q2.fs f hf).2.2.2.2⟩
 refine ⟨_,_,?_,q3⟩;rw [zb (d:=wa) rfl rfl];have ea:frs (⟨d,blD bl,ts,ns,kn⟩::fr)=frs fr++[.loc d]:=by simp [frs]
 rw [ea];have g3:(X2.set l (.lst (frs fr++[.loc d])))[H.length+1]?=some (.lst (vs.map .int)):=zl (by omega) g2;have l3:(X2.set l (.lst (frs fr++[.loc d]))).length=X2.length:=Y0r;have hw3:(X2.set l (.lst (frs fr++[.loc d])))[w]?=_:=zl q2.wl q2.hw;have A:=append_at (cl:=callI defs (n+1)) (ρ:=[some (.loc w),some (qK g (hD h) as),some (.loc d),some (.loc (H.length+1)),some (fnD f),some (.tup [hD f.blk,hD (jD bl h)])]) (X:=X2) (oe:=.fld (.var 0 ⟨0,0,0,0⟩) "left" ⟨0,0,0,0⟩) (ae:=.var 2 ⟨0,0,0,0⟩) (p1:=⟨0,0,0,0⟩) (p:=⟨0,0,0,0⟩) (v:=.loc d) (bnd rfl (zn q2.hw rfl)) q2.hl rfl q2.hl (by simpa [frs] using hf);generalize hX3:X2.set l (.lst (frs fr++[.loc d]))=X3 at g3 l3 hw3 A;have Dd:callI defs (n+1) 45 [.loc X3.length,f.body.d,knD (f.ps.zip vs).reverse,.tup [hD f.blk,hD (jD bl h)],.non] (X3++[.obj "Doing" []])=.ok .non (X3++[dg (.tup [hD f.blk,hD (jD bl h)]) (.tup [f.body.d,.non]) .non (knD (f.ps.zip vs).reverse)]):=O3;rw [<- z4u hi];refine zW (zg (bnd rfl (zn q.hw rfl)) (zg (bnd rfl (bnd rfl T)) (zQ (bnd (bnd rfl (bnd rfl tk)) rfl) (zg (bnd (bnd rfl (zn q2.hw rfl)) (bnd (bnd rfl (bnd (bnd (bnd rfl (zn q2.hd rfl)) rfl) (Qw hg hb))) (qk q2.hm hv))) (zg (Qr rfl (bnd rfl (bnd (bnd (bnd rfl (zn q2.hd rfl)) rfl) (Vq hh hb)))) (wo (d:=.non) (h':=X3) A
  (zA (z:=.loc X3.length) (vmk.trans (bnd rfl (bnd (bnd (bnd rfl (bnd rfl (Qs g3))) rfl) (by rw [Dd];rfl)))) rfl ((jf (zd hw3) (by simp) rfl).trans (by rw [l3];rfl)) rfl)))) rfl)))
theorem WN {g:Str}{h:D}{vs:List Int}{as:List D}(q:St H0 H w d l s r m c bd kvs u .non bD ts (wI ns (vs.map .int).reverse) kn rc fr)(hl:as.length=vs.length)(hs:vs.length<1000)(hu:¬ u<bd) :
  ∃ H',callI defs (n+2) 21 [.loc w,qK g h as] H=.ok .non H'/\St H0 H' w d l s r m c bd kvs u jA bD ts ns kn rc fr:=by
 obtain ⟨X1,T,q1,g1⟩:=Zj (n:=n) (vs:=vs.map .int) (k:=as.length) q (by simp [hl]) (by omega);refine ⟨_,?_,q1.setW u jA⟩;rw [zb (d:=wa) rfl rfl];exact zW (zg (bnd rfl (zn q.hw rfl)) (zg (bnd rfl (bnd rfl T)) (zk (bnd (bnd rfl (bnd rfl (UA q1 hu))) rfl) rfl)))
theorem O6 {i:Nat}(g:H[i]?=some (dg bD ts ns kn)):callI defs (n+2) 10 [.loc i] H=.ok (.loc H.length) (H++[dg bD ts ns kn]):=by
 rw [zb (d:=jV) rfl rfl];have Dd:callI defs (n+1) 45 [.loc H.length,.non,kn,bD,.non] (H++[.obj "Doing" []])=.ok .non (H++[dg bD (.tup [.non,.non]) .non kn]):=O3;exact zj (zg (d:=.loc H.length) (h':=H++[dg bD (.tup [.non,.non]) .non kn]) (vmk.trans (bnd rfl (bnd (bnd (bnd rfl (zn g rfl)) (bnd (bnd (bnd rfl (zn g rfl)) (bnd (bnd (bnd rfl (zn g rfl)) rfl) rfl)) rfl)) (by rw [Dd];rfl))))
  (zA (bnd rfl (zn (zd g) rfl)) rfl (jx (R:=[]) (Y0j rfl) rfl) (zA (bnd rfl (zn (zd g) rfl)) rfl (jx (R:=[]) (Y0j rfl) rfl) (zA (bnd rfl (zn (zd g) rfl)) rfl (jx (R:=[]) (Y0j rfl) rfl) rfl))))
theorem z0r {m:Nat}{xs:List D}(g:H[m]?=some (.lst xs)):Qi false (.loc m) H=.ok (.bl xs.isEmpty) H:=by
 show (match PI.rd H m with | some xs=>Res.ok (D.bl (ngB false xs.isEmpty)) H | none=>.no)=_
 rw [rdl g];rfl
theorem z3b {cl:Nat->List D->Hh->Res D}{ρ:En}{X:Hh}{n:Nat}{xs:List D}{oe:E}{v:D}{p1 p:Pos}(ho:oe.ev cl ρ H=.ok (.loc n) X)(g:X[n]?=some (.lst (xs++[v]))):E.ev cl (.m0 .pop oe p1 p) ρ H=.ok v (X.set n (.lst xs)):=by
 rw [vm0];refine bnd ho ?_;simp [m0D,g]
theorem z4w {m:Nat}{xs:List D}{v:D}(g:H[m]?=some (.lst (xs++[v]))):Qi false (.loc m) H=.ok (.bl false) H:=(z0r g).trans (by simp)
theorem z4x {i:Nat}(g:H[i]?=some (dg bD ts ns kn)):(match Bb "Standing" ["Walk","Doing","Standing"] (.loc i) H with | some b=>Res.ok (D.bl b) H | none=>.no)=.ok (.bl false) H:=by
 have e:Bb "Standing" ["Walk","Doing","Standing"] (.loc i) H=some false:=by
  show (match H[i]? with | some (.obj y _)=>if y∈(["Walk","Doing","Standing"]:List Str) then some (decide (y="Standing")) else none | _=>none)=_
  rw [g];show (if ("Doing":Str)∈(["Walk","Doing","Standing"]:List Str) then some (decide (("Doing":Str)="Standing")) else none)=_
  decide +kernel
 rw [e]
theorem WO {f:Fr}(q:St H0 H w d l s r m c bd kvs u .non bD ts (.tup [v,ns]) kn rc (f::fr)):∃ H' d',callI defs (n+3) 23 [.loc w] H=.ok .non H'/\St H0 H' w d' l s r m c bd kvs u .non f.bl f.ts (.tup [v,f.ns]) f.kn rc fr:=by
 have hl:H[l]?=some (.lst (frs fr++[.loc f.at_])):=by rw [q.hl];simp [frs]
 obtain ⟨gf,f1,f2,f3,f4⟩:=q.fs f Y03;have q3:=q.under (fr':=fr) (bl':=f.bl) (b:=f.ts) (ns':=f.ns) (k:=f.kn) λ x hx=>⟨(q.fs x (Y02 _ hx)).1,(q.fs x (Y02 _ hx)).2.1,(q.fs x (Y02 _ hx)).2.2.1,(q.fs x (Y02 _ hx)).2.2.2.2⟩;refine ⟨_,_,?_,q3.M (J:=[]) (ts':=f.ts) (ns':=.tup [v,f.ns]) (kn':=f.kn)⟩;have P:=Qq (n:=n+1) (bl:=f.bl) (ts:=f.ts) (ns:=f.ns) (kn:=f.kn) (J:=[]) (v:=v) (zu q3.hd);rw [q3.self] at P;have g1:(H.set l (.lst (frs fr)))[f.at_]?=_:=zl f2 gf;have gw:(H.set l (.lst (frs fr)))[w]?=_:=zl q.wl q.hw;have l1:(H.set l (.lst (frs fr))).length=H.length:=Y0r;have S:qC (.loc w) "doing" (.loc (H.set l (.lst (frs fr))).length) (H.set l (.lst (frs fr))++[dg f.bl f.ts f.ns f.kn])=_:=jf (zd gw) (by simp) rfl;rw [l1] at S;rw [zb (d:=Zh) rfl rfl];exact zW (zg (bnd (bnd (bnd rfl (zn q.hw rfl)) (zn q.hd rfl)) rfl) (zk (bnd (bnd (bnd rfl (zn q.hw rfl)) (bnd rfl (Qu q))) rfl) (zk (bnd (bnd (bnd rfl (zn q.hw rfl)) (z4w hl)) rfl) (zg (z3b (bnd rfl (zn q.hw rfl)) hl)
  (zT (bnd (bnd rfl (z4x g1)) rfl) (zA (bnd rfl (bnd rfl (O6 g1))) rfl (by rw [l1];exact S) (wo (bnd (bnd rfl (zn q3.hw rfl)) (bnd rfl P)) rfl)) rfl)))))
theorem WP (q:St H0 H w d l s r m c bd kvs u .non bD ts (.tup [v,ns]) kn rc []):callI defs (n+3) 23 [.loc w] H=.ok .non (H.set w (wk (.loc m) (.loc c) (.int bd) d l s r u (.tup [.str "done",v]))):=by
 rw [zb (d:=Zh) rfl rfl];exact zj (zg (bnd (bnd (bnd rfl (zn q.hw rfl)) (zn q.hd rfl)) rfl) (zk (bnd (bnd (bnd rfl (zn q.hw rfl)) (bnd rfl (Qu q))) rfl) (j1 (bnd (bnd (bnd rfl (zn q.hw rfl)) (z0r q.hl)) rfl) (zA rfl rfl (jf q.hw (by simp) rfl) rfl))))
end
structure Sta where
 u:Int
 rc:List D
 an:List Int
inductive Out where
 | val (v:Int) (s:Sta) | fin (e:D) (s:Sta)
def Out.bind (o:Out)(f:Int->Sta->Out):Out:=match o with
 | .val v s=>f v s
 | .fin e s=>.fin e s
def wJ (F:T->Sta->Out):List T->Sta->(List Int->Sta->Out)->Out
 | [],s,f=>f [] s
 | t::r,s,f=>(F t s).bind λ v s1=>wJ F r s1 λ vs s2=>f (v::vs) s2
def yE (bd:Int)(x:Str)(v:Int)(s1:Sta):Out:=if s1.u<bd then (match s1.an with
  | []=>.fin (J7 x v) ⟨s1.u+1,s1.rc++[doD x v],[]⟩
  | i::r=>.val i ⟨s1.u+1,s1.rc++[doD x v],r⟩) else .fin jA s1
def WQ (z:Str)(v w:Int)(s2:Sta):Out:=match wH z v w with
  | some i=>.val i s2
  | none=>.fin WM s2
section
variable (P:Str->Option Fn)(bd:Int)
def told:Nat->T->List (Str×Int)->Bl->Sta->Out
 | 0,_,_,_,s=>.fin .non s
 | _+1,.num c,_,_,s=>.val c s
 | _+1,.var x,kn,_,s=>.val ((kn.lookup x).getD 0) s
 | n+1,.op z a b,kn,bl,s=>(told n a kn bl s).bind λ v s1=>(told n b kn bl s1).bind λ w s2=>WQ z v w s2
 | n+1,.doo x a,kn,bl,s=>(told n a kn bl s).bind λ v s1=>yE bd x v s1
 | n+1,.call g h as,kn,bl,s=>wJ (λ t s=>told n t kn bl s) as s λ vs s1=>if s1.u<bd then (match P (std bl g) with
  | some f=>(match inn f.blk (jD bl h) with
   | some bl'=>told n f.body (f.ps.zip vs).reverse bl' { s1 with u:=s1.u+1 }
   | none=>.fin .non s1)
  | none=>.fin .non s1) else .fin jA s1
def Ok:Nat->T->List Str->Bl->Prop
 | 0,_,_,_=>False
 | _+1,.num c,_,_=>Sm c
 | _+1,.var x,S,_=>x∈S
 | n+1,.op z a b,S,bl=>Sg z/\Ok n a S bl/\Ok n b S bl
 | n+1,.doo x a,S,bl=>PyData.strOk x=true/\Ok n a S bl
 | n+1,.call g h as,S,bl=>PyData.strOk g=true/\(∀ x,h=some x->PyData.strOk x=true)/\(∀ t∈as,Ok n t S bl)/\as.length<100/\∃ f bl',P (std bl g)=some f/\inn f.blk (jD bl h)=some bl'/\f.ps.length=as.length/\(∀ x∈f.ps,PyData.strOk x=true)/\YN bl'/\Ok n f.body f.ps bl'
end
structure SOk (s:Sta):Prop where
 an:∀ a∈s.an,Sm a
 rc:(s.rc.length:Int)<=s.u
theorem z0s {x:Str}:∀ {kn:List (Str×Int)}{v:Int},(x,v)∈kn->∃ u,kn.lookup x=some u
 | [],v,h=>nomatch h
 | (y,w)::r,v,h=>by
  by_cases q:(x==y)=true
  ·exact ⟨w,by rw [List.lookup,q]⟩
  ·rcases Y06.mp h with e | h
   ·cases e;exact absurd (beq_self_eq_true _) q
   ·obtain ⟨u,e⟩:=z0s h;exact ⟨u,by rw [List.lookup,Y2j.mpr q];exact e⟩
theorem UB:∀ {ps:List Str}{vs:List Int}{x:Str},ps.length=vs.length->x∈ps->∃ v,(x,v)∈ps.zip vs
 | [],vs,x,_,h=>nomatch h
 | p::ps,[],x,e,h=>by cases e
 | p::ps,v::vs,x,e,h=>by
  rcases Y06.mp h with rfl | h
  ·exact ⟨v,Y03⟩
  ·obtain ⟨u,q⟩:=UB (Nat.succ.inj e) h;exact ⟨u,Y02 _ q⟩
theorem UC {ps:List Str}{vs:List Int}(e:ps.length=vs.length)(hp:∀ x∈ps,PyData.strOk x=true)(hv:∀ v∈vs,Sm v):KnOk ps (ps.zip vs).reverse:=by
 refine ⟨λ x hx=>?_,hp,λ p h=>?_,λ p h=>?_⟩
 ·obtain ⟨v,q⟩:=UB e hx;exact z0s (Y2z.mpr q)
 ·exact hp _ (Y2g (Y2z.mp h)).1
 ·exact hv _ (Y2g (Y2z.mp h)).2
section
variable {P:Str->Option Fn}{bd:Int}
theorem BJ {x:Str}{v:Int}{s:Sta}(h:SOk s){i:Int}{s':Sta}(e:yE bd x v s=.val i s'):Sm i/\SOk s':=by
 unfold yE at e;by_cases z:s.u<bd
 ·rw [if_pos z] at e;cases e4:s.an with
  | nil=>rw [e4] at e;cases e
  | cons i r =>
   rw [e4] at e;cases e;exact ⟨h.an _ (by rw [e4];exact Y03),λ a ha=>h.an a (by rw [e4];exact Y02 _ ha),by have:=h.rc;simp;omega⟩
 ·rw [if_neg z] at e;cases e
theorem BK {z:Str}{v w:Int}{s:Sta}(h:SOk s){i:Int}{s':Sta}(e:WQ z v w s=.val i s'):Sm i/\SOk s':=by
 unfold WQ at e;cases e3:wH z v w with
 | none=>rw [e3] at e;cases e
 | some i=>rw [e3] at e;cases e;exact ⟨BG e3,h⟩
theorem yF {o:Out}{f:Int->Sta->Out}{v:Int}{s':Sta}(e:o.bind f=.val v s'):∃ v1 s1,o=.val v1 s1/\f v1 s1=.val v s':=by
 cases o with
 | val v1 s1=>exact ⟨v1,s1,rfl,e⟩
 | fin e0 s1=>cases e
theorem Qy {F:T->Sta->Out}{v:Int}{s':Sta}:∀ (as:List T) (s:Sta) (f:List Int->Sta->Out),(∀ t∈as,∀ s,SOk s->∀ v s',F t s=.val v s'->Sm v/\SOk s')->SOk s->wJ F as s f=.val v s'->∃ vs s1,vs.length=as.length/\(∀ v∈vs,Sm v)/\SOk s1/\f vs s1=.val v s'
 | [],s,f,h,so,e=>⟨[],s,rfl,(λ _ h=>nomatch h),so,e⟩
 | t::r,s,f,h,so,e=>by
  obtain ⟨v1,s1,e1,e2⟩:=yF e;obtain ⟨a1,b1⟩:=h t Y03 s so v1 s1 e1;obtain ⟨vs,s2,l,a2,b2,e3⟩:=Qy r s1 _ (λ t ht=>h t (Y02 _ ht)) b1 e2;exact ⟨v1::vs,s2,by simp [l],λ v hv=>by rcases Y06.mp hv with rfl | hv;exact a1;exact a2 v hv,b2,e3⟩
theorem j7:∀ (n:Nat) (t:T) (S:List Str) (kn:List (Str×Int)) (bl:Bl) (s:Sta),Ok P n t S bl->KnOk S kn->SOk s->∀ v s',told P bd n t kn bl s=.val v s'->Sm v/\SOk s'
 | 0,t,S,kn,bl,s,o,k,h,v,s',e=>o.elim
 | n+1,.num c,S,kn,bl,s,o,k,h,v,s',e=>by cases e;exact ⟨o,h⟩
 | n+1,.var x,S,kn,bl,s,o,k,h,v,s',e=>by
  obtain ⟨u,q⟩:=k.all x o;have e:Out.val ((kn.lookup x).getD 0) s=.val v s':=e;rw [q] at e;cases e;exact ⟨Vl k.sm q,h⟩
 | n+1,.op z a b,S,kn,bl,s,o,k,h,v,s',e=>by
  obtain ⟨v1,s1,e1,e2⟩:=yF e;obtain ⟨a1,b1⟩:=j7 n a S kn bl s o.2.1 k h v1 s1 e1;obtain ⟨v2,s2,e3,e4⟩:=yF e2;obtain ⟨a2,b2⟩:=j7 n b S kn bl s1 o.2.2 k b1 v2 s2 e3;exact BK b2 e4
 | n+1,.doo x a,S,kn,bl,s,o,k,h,v,s',e=>by
  obtain ⟨v1,s1,e1,e2⟩:=yF e;exact BJ (j7 n a S kn bl s o.2 k h v1 s1 e1).2 e2
 | n+1,.call g hh as,S,kn,bl,s,o,k,h,v,s',e=>by
  obtain ⟨vs,s1,l,a1,b1,e1⟩:=Qy as s _ (λ t ht s so v s' e=>j7 n t S kn bl s (o.2.2.1 t ht) k so v s' e) h e;obtain ⟨f,bl',e2,e3,e4,e5,e6,e7⟩:=o.2.2.2.2;have e1:(if s1.u<bd then (match P (std bl g) with | some f=>(match inn f.blk (jD bl hh) with | some bl'=>told P bd n f.body (f.ps.zip vs).reverse bl' { s1 with u:=s1.u+1 } | none=>.fin .non s1) | none=>.fin .non s1) else Out.fin jA s1)=.val v s':=e1
  by_cases z:s1.u<bd
  ·rw [if_pos z,e2] at e1;have e1:(match inn f.blk (jD bl hh) with | some bl'=>told P bd n f.body (f.ps.zip vs).reverse bl' { s1 with u:=s1.u+1 } | none=>.fin .non s1)=.val v s':=e1
   rw [e3] at e1;exact j7 n f.body f.ps _ bl' { s1 with u:=s1.u+1 } e7 (UC (e4.trans l.symm) e5 a1) ⟨b1.an,by have:=b1.rc;show (s1.rc.length:Int)<=s1.u+1;omega⟩ v s' e1
  ·rw [if_neg z] at e1;cases e1
end
section
variable (n:Nat)(p0 p1 p2 p4:Option D)(ma:Nat)(al:List D)(w:Nat)
def Vr (k:Nat)(H:Hh)(an:List Int)(Hf:Hh):Prop:=∀ x y,∃ x' y' H1,Lp k [some (.loc w),x,y] H=.nx [some (.loc w),x',y'] H1/\∀ c,∃ c',j8 [(ma,al)] (zG WE λ ρ' h'=>b_run_1.run (callI defs (n+6)) ρ' h') (an.map .int) [p0,p1,p2,some (.loc ma),p4,some (.loc w),c] H1=.nx [p0,p1,p2,some (.loc ma),p4,some (.loc w),c'] Hf
def Rch (k:Nat)(H:Hh)(an:List Int)(k':Nat)(H':Hh)(an':List Int):Prop:=∀ Hf,Vr n p0 p1 p2 p4 ma al w k' H' an' Hf->Vr n p0 p1 p2 p4 ma al w k H an Hf
end
section
variable {n:Nat}{p0 p1 p2 p4:Option D}{ma:Nat}{al:List D}{H0 H:Hh}{w d l s r m c:Nat}{bd:Int}{kvs:List (Key×D)}{u:Int}{bl ts ns kn e:D}{rc:List D}{fr:List Fr}{k:Nat}
theorem Rch.tr {k1 k2:Nat}{H1 H2:Hh}{an a1 a2:List Int}(x:Rch n p0 p1 p2 p4 ma al w k H an k1 H1 a1)(y:Rch n p0 p1 p2 p4 ma al w k1 H1 a1 k2 H2 a2):Rch n p0 p1 p2 p4 ma al w k H an k2 H2 a2:=λ Hf h=>x Hf (y Hf h)
theorem Rch.step {H':Hh}{an:List Int}(e:∀ x y,∃ x' y',Lp k [some (.loc w),x,y] H=Lp k [some (.loc w),x',y'] H'):Rch n p0 p1 p2 p4 ma al w k H an k H' an:=λ Hf h x y=>by
 obtain ⟨x',y',e⟩:=e x y;obtain ⟨x2,y2,H1,e2,f⟩:=h x' y';exact ⟨x2,y2,H1,e.trans e2,f⟩
theorem qU:PyData.strOk "asks"=true:=by decide +kernel
inductive Nd:D->Prop
 | done (v:D):Nd (.tup [.str "done",v])
 | great:Nd WM
 | spent:Nd jA
theorem so_ends:PyData.strOk "done"=true/\PyData.strOk "great"=true/\PyData.strOk "spent"=true:=by decide +kernel
theorem Zk (g0:H0[ma]?=some (.lst al))(q:St H0 H w d l s r m c bd kvs u e bl ts ns kn rc fr)(h:Nd e)(an:List Int):Vr n p0 p1 p2 p4 ma al w k H an H:=λ x y=>by
 have st:stay [(ma,al)] H:=λ p hp=>by rw [Y0a.mp hp];exact rdl (q.old _ _ g0)
 have A:∀ c,∃ c',j8 [(ma,al)] (zG WE λ ρ' h'=>b_run_1.run (callI defs (n+6)) ρ' h') (an.map .int) [p0,p1,p2,some (.loc ma),p4,some (.loc w),c] H=.nx [p0,p1,p2,some (.loc ma),p4,some (.loc w),c'] H:=by
  induction an with
  | nil=>intro c;exact ⟨c,if_pos st⟩
  | cons a an ih =>
   intro c;obtain ⟨c',ih⟩:=ih (some (.int a));refine ⟨c',j9 st (wz ?_) ih⟩;cases h with
   | done v=>exact zk (zi (bnd (bnd rfl (zn q.hw rfl)) rfl) rfl (eqS so_ends.1 qU)) rfl
   | great=>exact zk (zi (bnd (bnd rfl (zn q.hw rfl)) rfl) rfl (eqS so_ends.2.1 qU)) rfl
   | spent=>exact zk (zi (bnd (bnd rfl (zn q.hw rfl)) rfl) rfl (eqS so_ends.2.2 qU)) rfl
 refine ⟨x,y,H,?_,A⟩;cases h with
 | done v=>exact J5 q
 | great=>exact J5 q
 | spent=>exact J5 q
theorem Vs {x:Str}{v:Int}(g0:H0[ma]?=some (.lst al))(q:St H0 H w d l s r m c bd kvs u (J7 x v) bl ts ns kn rc fr):Vr n p0 p1 p2 p4 ma al w k H [] H:=λ a b =>
 ⟨a,b,H,J5 q,λ c=>⟨c,if_pos (λ p hp=>by rw [Y0a.mp hp];exact rdl (q.old _ _ g0))⟩⟩
theorem O7 {x:Str}{v a:Int}{an:List Int}(g0:H0[ma]?=some (.lst al))(q:St H0 H w d l s r m c bd kvs u (J7 x v) bl ts ns kn rc fr):∃ H',Rch n p0 p1 p2 p4 ma al w k H (a::an) (n+1) H' an/\St H0 H' w d l s r m c bd kvs u .non bl ts (.tup [.int a,ns]) kn rc fr:=by
 have q1:=q.setW u .non;have q2:=q1.M (J:=[]) (ts':=ts) (ns':=.tup [.int a,ns]) (kn':=kn);have P:=Qq (n:=n+4) (bl:=bl) (ts:=ts) (ns:=ns) (kn:=kn) (J:=[]) (v:=.int a) (zu q1.hd);rw [q1.self] at P;refine ⟨_,λ Hf h b1 b2=>⟨b1,b2,H,J5 q,λ c0=>?_⟩,q2⟩;obtain ⟨x',y',H2,e2,f⟩:=h none none;obtain ⟨c',f⟩:=f (some (.int a));refine ⟨c',j9 (λ p hp=>by rw [Y0a.mp hp];exact rdl (q.old _ _ g0)) (wz (zQ (zi (bnd (bnd rfl (zn q.hw rfl)) rfl) rfl (eqS qU qU)) (wo (d:=.non) (h':=H2) (bnd rfl (bnd rfl ?_)) rfl) rfl)) f⟩;rw [zb (d:=yl) rfl rfl];have W:callI defs (n+5) 13 [.loc w] (K44.M (H.set w (wk (.loc m) (.loc c) (.int bd) d l s r u .non)) d bl ts (.tup [.int a,ns]) kn [])=.ok .non H2:=by
  rw [zb (d:=qP) rfl rfl];refine zW (ρ:=[some (.loc w),x',y']) ?_;show jY (Lp (n+1) [some (.loc w),none,none] _) _=_;rw [e2];rfl
 exact zW (zA rfl rfl (jf q.hw (by simp) rfl) (wo (bnd (bnd rfl (zn q1.hw rfl)) (bnd rfl P)) (wo (bnd rfl (bnd rfl W)) rfl)))
end
section
variable (n:Nat)(p0 p1 p2 p4:Option D)(ma:Nat)(al:List D)(H0:Hh)(w l s r m c:Nat)(bd:Int)(kvs:List (Key×D))
def Tl (o:Out)(k:Nat)(H:Hh)(an:List Int)(bl ts ns kn:D)(fr:List Fr):Prop:=match o with
 | .val v s'=>∃ k' H' d,Rch n p0 p1 p2 p4 ma al w k H an k' H' s'.an/\St H0 H' w d l s r m c bd kvs s'.u .non bl ts (.tup [.int v,ns]) kn s'.rc fr
 | .fin e s'=>∃ H' d bl' ts' ns' kn' fr',Vr n p0 p1 p2 p4 ma al w k H an H'/\St H0 H' w d l s r m c bd kvs s'.u e bl' ts' ns' kn' s'.rc fr'
end
section
variable {n:Nat}{p0 p1 p2 p4:Option D}{ma:Nat}{al:List D}{H0 H:Hh}{w d l s r m c:Nat}{bd:Int}{kvs:List (Key×D)}{u:Int}{bl ts ns kn bl' ts' ns' kn':D}{rc:List D}{fr fr':List Fr}{k:Nat}
theorem one {tk:D}{H':Hh}{an:List Int}(q:St H0 H w d l s r m c bd kvs u .non bl (.tup [tk,ts]) ns kn rc fr)(e:callI defs (k+3) 14 [.loc w,tk] (M H d bl ts ns kn [])=.ok .non H'):Rch n p0 p1 p2 p4 ma al w k H an k H' an :=
 Rch.step λ x y=>⟨_,_,z4t q e⟩
theorem Tl.after {o:Out}{k':Nat}{H':Hh}{an an':List Int}(h:Tl n p0 p1 p2 p4 ma al H0 w l s r m c bd kvs o k' H' an' bl ts ns kn fr)(R:Rch n p0 p1 p2 p4 ma al w k H an k' H' an'):Tl n p0 p1 p2 p4 ma al H0 w l s r m c bd kvs o k H an bl ts ns kn fr:=by
 cases o with
 | val v s'=>obtain ⟨k2,H2,d2,R2,q⟩:=h;exact ⟨k2,H2,d2,R.tr R2,q⟩
 | fin e s'=>obtain ⟨H2,d2,b2,t2,n2,k2,f2,G,q⟩:=h;exact ⟨H2,d2,b2,t2,n2,k2,f2,R _ G,q⟩
theorem Tl.bind {o:Out}{f:Int->Sta->Out}{an:List Int}(h:Tl n p0 p1 p2 p4 ma al H0 w l s r m c bd kvs o k H an bl' ts' ns' kn' fr')
  (g:∀ v s',o=.val v s'->∀ k' H' d',St H0 H' w d' l s r m c bd kvs s'.u .non bl' ts' (.tup [.int v,ns']) kn' s'.rc fr'->Tl n p0 p1 p2 p4 ma al H0 w l s r m c bd kvs (f v s') k' H' s'.an bl ts ns kn fr):Tl n p0 p1 p2 p4 ma al H0 w l s r m c bd kvs (o.bind f) k H an bl ts ns kn fr:=by
 cases o with
 | val v s'=>obtain ⟨k2,H2,d2,R2,q⟩:=h;exact (g v s' rfl k2 H2 d2 q).after R2
 | fin e s'=>exact h
theorem O8 {F:T->Sta->Out}(kn:D):∀ (as:List T) (ts ns:D) (a:Sta) (f:List Int->Sta->Out) (k:Nat) (H:Hh) (d:Nat),
  (∀ t∈as,∀ (k:Nat) (H:Hh) (d:Nat) (ts ns:D) (a:Sta),SOk a->St H0 H w d l s r m c bd kvs a.u .non bl (.tup [t.d,ts]) ns kn a.rc fr->Tl n p0 p1 p2 p4 ma al H0 w l s r m c bd kvs (F t a) k H a.an bl ts ns kn fr) ->
  (∀ t∈as,∀ s,SOk s->∀ v s',F t s=.val v s'->Sm v/\SOk s')->SOk a ->
  St H0 H w d l s r m c bd kvs a.u .non bl (ye ts (T.ds as)) ns kn a.rc fr ->
  (∀ (vs:List Int) (s':Sta),vs.length=as.length->(∀ v∈vs,Sm v)->SOk s'->∀ k' H' d',St H0 H' w d' l s r m c bd kvs s'.u .non bl ts (wI ns (vs.map .int).reverse) kn s'.rc fr->Tl n p0 p1 p2 p4 ma al H0 w l s r m c bd kvs (f vs s') k' H' s'.an bl' ts' ns' kn' fr') ->
  Tl n p0 p1 p2 p4 ma al H0 w l s r m c bd kvs (wJ F as a f) k H a.an bl' ts' ns' kn' fr'
 | [],ts,ns,a,f,k,H,d,h1,h2,so,q,g=>g [] a rfl (λ _ h=>nomatch h) so k H d q
 | t::as,ts,ns,a,f,k,H,d,h1,h2,so,q,g=>by
  refine Tl.bind (h1 t Y03 k H d (ye ts (T.ds as)) ns a so q) λ v s1 e k1 H1 d1 q1=>?_;obtain ⟨a1,b1⟩:=h2 t Y03 a so v s1 e;refine O8 kn as ts (.tup [.int v,ns]) s1 (λ vs s2=>f (v::vs) s2) k1 H1 d1 (λ t ht=>h1 t (Y02 _ ht)) (λ t ht=>h2 t (Y02 _ ht)) b1 q1 λ vs s2 l2 o2 b2 k2 H2 d2 q2=>?_;refine g (v::vs) s2 (by simp [l2]) (λ x hx=>by rcases Y06.mp hx with rfl | hx;exact a1;exact o2 x hx) b2 k2 H2 d2 ?_;rw [Y0i,Y1m,W5];exact q2
theorem yT {P:Str->Option Fn}(hP:∀ g f,P g=some f->jC kvs (.inr g)=some (fnD f))(hb:bd<=100000)(g0:H0[ma]?=some (.lst al)):∀ (N:Nat) (t:T) (S:List Str) (kn:List (Str×Int)) (bl:Bl) (k:Nat) (H:Hh) (d:Nat) (ts ns:D) (a:Sta) (fr:List Fr),Ok P N t S bl->KnOk S kn->YN bl->SOk a->fr.length+N<=100000->St H0 H w d l s r m c bd kvs a.u .non (blD bl) (.tup [t.d,ts]) ns (knD kn) a.rc fr ->
  Tl n p0 p1 p2 p4 ma al H0 w l s r m c bd kvs (told P bd N t kn bl a) k H a.an (blD bl) ts ns (knD kn) fr
 | 0,t,S,kn,bl,k,H,d,ts,ns,a,fr,o,h,ob,so,lf,q=>o.elim
 | N+1,.num i,S,kn,bl,k,H,d,ts,ns,a,fr,o,h,ob,so,lf,q=>⟨k,_,d,one q (YK (n:=k+1) q.at),q.M⟩
 | N+1,.var x,S,kn,bl,k,H,d,ts,ns,a,fr,o,h,ob,so,lf,q=>by
  obtain ⟨v,e⟩:=h.all x o;show Tl n p0 p1 p2 p4 ma al H0 w l s r m c bd kvs (.val ((kn.lookup x).getD 0) a) k H a.an (blD bl) ts ns (knD kn) fr;rw [e];exact ⟨k,_,d,one q (YL (n:=k+1) q.at (h.sok x o) h.key e),q.M⟩
 | N+1,.op z p t,S,kn,bl,k,H,d,ts,ns,a,fr,o,h,ob,so,lf,q=>by
  have R1:=one (n:=n) (p0:=p0) (p1:=p1) (p2:=p2) (p4:=p4) (ma:=ma) (al:=al) (an:=a.an) q (Vm (n:=k) q.at);refine Tl.after (Tl.bind (yT hP hb g0 N p S kn bl k _ d _ ns a fr o.2.1 h ob so (by omega) (q.M (ts':=.tup [p.d,.tup [t.d,.tup [.tup [.str "then",(T.op z p t).d],ts]]]) (ns':=ns) (kn':=knD kn) (J:=[]))) λ v1 s1 e1 k1 H1 d1 q1=>?_) R1;obtain ⟨a1,b1⟩:=j7 N p S kn bl a o.2.1 h so v1 s1 e1;refine Tl.bind (yT hP hb g0 N t S kn bl k1 H1 d1 _ _ s1 fr o.2.2 h ob b1 (by omega) q1) λ v2 s2 e2 k2 H2 d2 q2=>?_;obtain ⟨a2,b2⟩:=j7 N t S kn bl s1 o.2.2 h b1 v2 s2 e2;unfold WQ;cases e3:wH z v1 v2 with
  | some i=>exact ⟨k2,_,d2,one q2 (jq q2.at z0q (Vo (n:=k2) q2.at o.1 a1 a2 e3)),q2.M⟩
  | none =>
   have q3:=(q2.setW s2.u WM).M (J:=[]++[O.lst [D.int v2,D.int v1],O.lst [D.int v1,D.int v2]]) (ts':=ts) (ns':=ns) (kn':=knD kn);exact ⟨_,_,_,_,_,_,_,one q2 (jq q2.at z0q (WJ (n:=k2) q2.at o.1 a1 a2 e3)) _ (Zk g0 q3 .great _),q3⟩
 | N+1,.doo x p,S,kn,bl,k,H,d,ts,ns,a,fr,o,h,ob,so,lf,q=>by
  have R1:=one (n:=n) (p0:=p0) (p1:=p1) (p2:=p2) (p4:=p4) (ma:=ma) (al:=al) (an:=a.an) q (Vn (n:=k) q.at);refine Tl.after (Tl.bind (yT hP hb g0 N p S kn bl k _ d _ ns a fr o.2 h ob so (by omega) (q.M (ts':=.tup [p.d,.tup [.tup [.str "then",(T.doo x p).d],ts]]) (ns':=ns) (kn':=knD kn) (J:=[]))) λ v1 s1 e1 k1 H1 d1 q1=>?_) R1;obtain ⟨a1,b1⟩:=j7 N p S kn bl a o.2 h so v1 s1 e1;have lr:=b1.rc;have q2:=q1.M (J:=[]) (ts':=ts) (ns':=.tup [.int v1,ns]) (kn':=knD kn);unfold yE;by_cases z:s1.u<bd
  ·rw [if_pos z];obtain ⟨H2,c2,q3⟩:=Vp (n:=k1) (x:=x) (a:=p.d) q2 (by omega) z;have R2:=λ an=>one (n:=n) (p0:=p0) (p1:=p1) (p2:=p2) (p4:=p4) (ma:=ma) (al:=al) (an:=an) q1 (jq q1.at z0p c2);cases ea:s1.an with
   | nil=>exact ⟨H2,_,_,_,_,_,_,R2 [] _ (Vs g0 q3),q3⟩
   | cons i an =>
    obtain ⟨H3,R3,q4⟩:=O7 (n:=n) (p0:=p0) (p1:=p1) (p2:=p2) (p4:=p4) (k:=k1) (a:=i) (an:=an) g0 q3;exact ⟨n+1,H3,d1,(R2 (i::an)).tr R3,q4⟩
  ·rw [if_neg z];obtain ⟨H2,c2,q3⟩:=YM (n:=k1) (x:=x) (a:=p.d) q2 z;exact ⟨H2,_,_,_,_,_,_,one q1 (jq q1.at z0p c2) _ (Zk g0 q3 .spent _),q3⟩
 | N+1,.call g hh as,S,kn,bl,k,H,d,ts,ns,a,fr,o,h,ob,so,lf,q=>by
  have R1:=one (n:=n) (p0:=p0) (p1:=p1) (p2:=p2) (p4:=p4) (ma:=ma) (al:=al) (an:=a.an) q (Qt (n:=k) q.at);refine Tl.after (O8 (bl:=blD bl) (fr:=fr) (knD kn) as (.tup [.tup [.str "then",qK g (hD hh) (T.ds as)],ts]) ns a _ k _ d (λ t ht k H d ts ns a so q=>yT hP hb g0 N t S kn bl k H d ts ns a fr (o.2.2.1 t ht) h ob so (by omega) q) (λ t ht s so v s' e=>j7 N t S kn bl s (o.2.2.1 t ht) h so v s' e) so (q.M (ts':=ye (.tup [.tup [.str "then",qK g (hD hh) (T.ds as)],ts]) (T.ds as)) (ns':=ns) (kn':=knD kn) (J:=[])) λ vs s1 l1 o1 b1 k1 H1 d1 q1=>?_) R1;obtain ⟨f,bl',e2,e3,e4,e5,e6,e7⟩:=o.2.2.2.2;have la:=o.2.2.2.1;have q2:=q1.M (J:=[]) (ts':=ts) (ns':=wI ns (vs.map .int).reverse) (kn':=knD kn);have ll:(T.ds as).length=vs.length:=by rw [YF,l1]
  by_cases z:s1.u<bd
  ·rw [if_pos z,e2];show Tl n p0 p1 p2 p4 ma al H0 w l s r m c bd kvs (match inn f.blk (jD bl hh) with | some bl'=>told P bd N f.body (f.ps.zip vs).reverse bl' { s1 with u:=s1.u+1 } | none=>.fin .non s1) k1 H1 s1.an (blD bl) ts ns (knD kn) fr
   rw [e3];show Tl n p0 p1 p2 p4 ma al H0 w l s r m c bd kvs (told P bd N f.body (f.ps.zip vs).reverse bl' { s1 with u:=s1.u+1 }) k1 H1 s1.an (blD bl) ts ns (knD kn) fr;obtain ⟨H2,d2,c2,q3⟩:=Qx (n:=k1) (g:=g) (h:=hh) (as:=T.ds as) q2 ll (by omega) (by omega) o.1 o.2.1 ob (hP _ _ e2) e3 z;have R2:=one (n:=n) (p0:=p0) (p1:=p1) (p2:=p2) (p4:=p4) (ma:=ma) (al:=al) (an:=s1.an) q1 (jq q1.at Uy c2);refine Tl.after ?_ R2;have B:=yT hP hb g0 N f.body f.ps (f.ps.zip vs).reverse bl' k1 H2 d2 .non .non { s1 with u:=s1.u+1 } (⟨d1,blD bl,ts,ns,knD kn⟩::fr) e7 (UC (e4.trans l1.symm) e5 o1) e6 ⟨b1.an,by have:=b1.rc;show (s1.rc.length:Int)<=s1.u+1;omega⟩ (by rw [Y09];omega) q3;cases e8:told P bd N f.body (f.ps.zip vs).reverse bl' { s1 with u:=s1.u+1 } with
   | fin e s2=>rw [e8] at B;exact B
   | val v2 s2 =>
    rw [e8] at B;obtain ⟨k3,H3,d3,R3,q4⟩:=B;obtain ⟨H4,d4,c4,q5⟩:=WO (n:=k3) q4;exact ⟨k3,H4,d4,R3.tr (Rch.step λ x y=>⟨_,_,J6 q4 c4⟩),q5⟩
  ·rw [if_neg z];obtain ⟨H2,c2,q3⟩:=WN (n:=k1) (g:=g) (h:=hD hh) (as:=T.ds as) q2 ll (by omega) z;exact ⟨H2,_,_,_,_,_,_,one q1 (jq q1.at Uy c2) _ (Zk g0 q3 .spent _),q3⟩
end
def it (x:Str)(p b:D):D:=.tup [.str "def",.str x,p,.non,b]
theorem YO:PyData.strOk "def"=true:=by decide +kernel
theorem z4y:PyData.strOk "handler"=true:=by decide +kernel
def tab (qs:List (Str×D)):List (Key×D):=wN [] (qs.map λ q=>((Sum.inr q.1:Key),q.2))
theorem Vt:∀ (qs:List (Str×D)) (acc:List (Key×D)),(qs.map (·.1)).Nodup->(∀ q∈qs,(acc.any λ kv=>decide (kv.1=Sum.inr q.1))=false)->wN acc (qs.map λ q=>((Sum.inr q.1:Key),q.2))=acc++qs.map λ q=>((Sum.inr q.1:Key),q.2):=by
 intro qs
 induction qs with
 | nil=>intro acc _ _;simp [wN]
 | cons q r ih =>
  intro acc hn ha;rw [Y0i,Y1i] at hn;have e1:ZF acc (Sum.inr q.1) q.2=acc++[(Sum.inr q.1,q.2)]:=by
   unfold ZF;rw [if_neg (by rw [ha q (Y03 ..)];decide)]
  have:=ih (acc++[(Sum.inr q.1,q.2)]) hn.2 (λ z hz=>by
   rw [List.any_append,ha z (Y02 _ hz)]
   have:q.1≠z.1:=λ e=>hn.1 (Y0w.mpr ⟨z,hz,e.symm⟩)
   simp [this])
  show wN (ZF acc (Sum.inr q.1) q.2) (r.map λ q=>((Sum.inr q.1:Key),q.2))=_;rw [e1,this];simp
theorem Qz {qs:List (Str×D)}{n:Str}{d:D}(hn:(qs.map (·.1)).Nodup)(hm:(n,d)∈qs):jC (tab qs) (Sum.inr n)=some d:=by
 unfold tab;rw [Vt qs [] hn (by simp),Y14];unfold jC
 induction qs with
 | nil=>cases hm
 | cons q r ih =>
  rw [Y0i,Y1i] at hn;rw [Y0i,Y1j];rcases Y06.mp hm with e | e
  ·subst e;simp
  ·have:q.1≠n:=λ z=>hn.1 (Y0w.mpr ⟨(n,d),e,z.symm⟩)
   have z:decide ((Sum.inr q.1:Key)=Sum.inr n)=false:=by simp [this]
   simp only [z];exact ih hn.2 e
section
variable {n:Nat}{H:Hh}{m:Nat}{f x1:Str}{p b:D}{kvs:List (Key×D)}{v:D}{qs:List (Str×D)}
theorem inK (g:H[m]?=some (.dK kvs))(e:jC kvs (.inr f)=some v):zU .In (.str f) (.loc m) H=.ok (.bl true) H:=by
 have q:zU .In (.str f) (.loc m) H=match H[m]? with
  | some (.lst ds)=>Ww false (.str f) ds H
  | some (.dK kvs)=>(match qy (.str f) with | some k=>Res.ok (.bl (ngB false (jC kvs k).isSome)) H | none=>.no)
  | _=>.no:=rfl
 rw [q,g];show Res.ok (D.bl (ngB false (jC kvs (.inr f)).isSome)) H=_;rw [e];rfl
theorem z4z (g:H[m]?=some (.dK kvs))(e:jC kvs (.inr f)=some (it x1 p b)):callI defs (n+1) 3 [.str f,.loc m] H=.ok (.bl true) H:=by
 rw [zb (d:=wt) rfl rfl];exact zj (zD (jG (z4p (zi rfl rfl (inK g e)) (zi (bnd (bnd rfl (bnd rfl (qk g e))) rfl) rfl (eqS YO YO)))))
theorem BL (g:H[m]?=some (.dK kvs))(e:jC kvs (.inr f)=some (it x1 p b)):callI defs (n+2) 4 [.str f,.loc m] H=.ok (it x1 p b) H:=by
 rw [zb (d:=yk) rfl rfl];exact zj (zk (z36 (bnd (bnd (bnd rfl (bnd rfl (z4z g e))) rfl) rfl) (zi (bnd (bnd rfl (bnd rfl (qk g e))) rfl) rfl rfl)) (zD (bnd rfl (bnd rfl (qk g e)))))
theorem len_loc {xs:List D}(g:H[m]?=some (.lst xs)):yN (.loc m) H=.ok (.int xs.length) H:=by simp [yN,rdl g]
theorem BM {xs ys:List D}(g:H[m]?=some (.lst xs))(e:xs.length=ys.length):callI defs (n+1) 5 [it x1 (.tup ys) b,.loc m] H=.ok .non H:=by
 rw [zb (d:=jI) rfl rfl];exact zW (zk (zi (bnd rfl (len_loc g)) rfl (neI.trans (by rw [e];simp))) rfl)
def Itm (qs:List (Str×D)):Prop:=∀ q∈qs,∃ p h b,q.2=.tup [.str "def",.str q.1,p,h,b]
theorem UD {cl:Nat->List D->Hh->Res D}{a b:Option D}:∀ (qs:List (Str×D)) (c e:Option D),Itm qs->∃ c' e',j8 [] (zG jM λ ρ' h'=>b_clauses_by_deed_1.run cl ρ' h') (qs.map (·.2)) [a,b,c,e] H=.nx [a,b,c',e'] H
 | [],c,e,_=>⟨c,e,qi⟩
 | q::r,c,e,o=>by
  obtain ⟨p,hh,b',eq⟩:=o q Y03;obtain ⟨c',e',z⟩:=UD r (some q.2) e λ x hx=>o x (Y02 _ hx);refine ⟨c',e',?_⟩;rw [Y0i];refine j9 (λ _ hp=>nomatch hp) ?_ z;rw [eq];exact wz (zk (zi rfl rfl (eqS YO z4y)) rfl)
theorem Vu (o:Itm qs):callI defs (n+1) 9 [.tup (qs.map (·.2))] H=.ok (.loc H.length) (H++[.dK []]):=by
 rw [zb (d:=jv) rfl rfl];obtain ⟨c',e',z⟩:=UD (H:=H++[.dK []]) (cl:=callI defs n) (a:=some (.tup (qs.map (·.2)))) (b:=some (.loc H.length)) qs none none o;exact zj (zg rfl (j2 rfl z rfl))
def pr2:D->Option D
 | .tup (k::x::r)=>some (.tup [x,.tup (k::x::r)])
 | _=>none
theorem QA:∀ (qs:List (Str×D)),wn (qs.map λ q=>.tup [.str q.1,q.2])=some (qs.map λ q=>((Sum.inr q.1:Key),q.2))
 | []=>rfl
 | q::r=>by
  show (match Ug (.tup [.str q.1,q.2]),wn (r.map λ q=>.tup [.str q.1,q.2]) with | some a,some b=>some (a::b) | _,_=>none)=_
  rw [QA r];rfl
theorem BN (o:Itm qs)(hl:qs.length<=1000000):callI defs (n+1) 2 [.tup (qs.map (·.2))] H=.ok (.loc (H.length+1)) (H++[.lst (qs.map λ q=>.tup [.str q.1,q.2]),.dK (tab qs)]):=by
 have fm:(qs.map (·.2)).filterMap pr2=qs.map λ q=>D.tup [.str q.1,q.2]:=by
  clear hl
  induction qs with
  | nil=>rfl
  | cons q r ih =>
   obtain ⟨p,hh,b',eq⟩:=o q Y03;have e1:pr2 q.2=some (.tup [.str q.1,q.2]):=by rw [eq];rfl
   rw [Y0i,Y1b,e1];show _::_=_;rw [ih λ x hx=>o x (Y02 _ hx),Y0i]
 rw [zb (d:=jH) rfl rfl];have C:=jl (c:=[]) (f:=zZ w6 (jX [none] [some (.tup (qs.map (·.2)))]) (λ ρ' h2=>c_items_by_name_1.evC (callI defs n) ρ' h2) (λ ρ' h2=>e_items_by_name_1.ev (callI defs n) ρ' h2)) (h:=H) (λ _ hp=>nomatch hp) pr2 (qs.map (·.2)) [] λ x hx=>by
  obtain ⟨q,hq,rfl⟩:=Y0w.mp hx;obtain ⟨p,hh,b',eq⟩:=o q hq;rw [eq];exact ju rfl rfl rfl
 rw [fm,Y14] at C;have g:(H++[O.lst (qs.map λ q=>.tup [.str q.1,q.2])])[H.length]?=some (.lst (qs.map λ q=>.tup [.str q.1,q.2])):=by
  rw [Y08 (Y04 _),Y11];rfl
 refine zj (zD (vdicP.trans (bnd (j3 (q:=(([]:Ck),qs.map (λ q:Str×D=>q.2))) rfl (by rw [Y0d];exact hl) C) ?_)));show (match PI.rd (H++[O.lst _]) H.length with
  | some xs=>if xs.length<=1000000 then (match wn xs with | some kvs=>new (.dK (wN [] kvs)) (H++[O.lst _]) | none=>.no) else .no
  | none=>.no)=_
 rw [rdl g];simp only [Y0d,hl,if_true,QA];simp [new,tab]
theorem O9 {A:Hh}{o:List O}(i:Nat){x:O}(q:o[i]?=some x):(A++o)[A.length+i]?=some x:=by
 rw [Y08 (Y2x _ _),Y1v];exact q
theorem Vv {x:Str}{names:List Str}{nums:List Int}{bd:Int}(o:Itm qs)(nd:(qs.map (·.1)).Nodup)(hq:qs.length<=1000000)(hf:(f,it x (.tup (names.map .str)) b)∈qs)(g:H[m]?=some (.lst (nums.map .int)))(hl:nums.length=names.length) :
  ∃ R,callI defs (n+3) 8 [.tup (qs.map (·.2)),.str f,.loc m,.int bd] H=.ok (.loc (H.length+3)) R/\St H R (H.length+3) (H.length+7) (H.length+4) (H.length+5) (H.length+6) (H.length+1) (H.length+2) bd (tab qs) 0 .non (blD none) (.tup [b,.non]) .non (knD (names.zip nums).reverse) [] []:=by
 have e:=Qz nd hf;have A:=BN (n:=n+1) (H:=H) o hq;have g1:(H++[O.lst (qs.map λ q=>.tup [.str q.1,q.2]),.dK (tab qs)])[H.length+1]?=some (.dK (tab qs)):=O9 1 rfl;have gm:=zd (B:=[O.lst (qs.map λ q=>.tup [.str q.1,q.2]),.dK (tab qs)]) g;have l1:(H++[O.lst (qs.map λ q=>.tup [.str q.1,q.2]),.dK (tab qs)]).length=H.length+2:=by simp
 have od:∀ (i:Nat) (o:O),H[i]?=some o->(H++[O.lst (qs.map λ q=>.tup [.str q.1,q.2]),.dK (tab qs)])[i]?=some o:=λ i o=>zd;generalize (H++[O.lst (qs.map λ q=>.tup [.str q.1,q.2]),.dK (tab qs)])=H1 at A g1 gm l1 od;have hC:callI defs (n+2) 9 [.tup (qs.map (·.2))] H1=.ok (.loc H1.length) (H1++[O.dK []]):=Vu o;have B:callI defs (n+2) 44 [.loc (H1++[O.dK []]).length,.loc (H.length+1),.loc H1.length,.int bd] ((H1++[O.dK []])++[.obj "Walk" []])=_:=z4s;have l2:(H1++[O.dK []]).length=H.length+3:=by rw [Y0h,l1];rfl
 have W0:((H1++[O.dK []])++[O.obj "Walk" [("named",.loc (H.length+1)),("clauses",.loc H1.length),("bound",.int bd),("doing",.non),("left",.loc ((H1++[O.dK []]).length+1)),("standing",.loc ((H1++[O.dK []]).length+2)),("record",.loc ((H1++[O.dK []]).length+3)),("used",.int 0),("end",.non)],.lst [],.lst [],.lst []])[(H1++[O.dK []]).length]?=_:=O9 0 rfl;have W1:=O9 (A:=H1++[O.dK []]) (o:=[O.obj "Walk" [("named",.loc (H.length+1)),("clauses",.loc H1.length),("bound",.int bd),("doing",.non),("left",.loc ((H1++[O.dK []]).length+1)),("standing",.loc ((H1++[O.dK []]).length+2)),("record",.loc ((H1++[O.dK []]).length+3)),("used",.int 0),("end",.non)],.lst [],.lst [],.lst []]) 1 rfl;have W2:=O9 (A:=H1++[O.dK []]) (o:=[O.obj "Walk" [("named",.loc (H.length+1)),("clauses",.loc H1.length),("bound",.int bd),("doing",.non),("left",.loc ((H1++[O.dK []]).length+1)),("standing",.loc ((H1++[O.dK []]).length+2)),("record",.loc ((H1++[O.dK []]).length+3)),("used",.int 0),("end",.non)],.lst [],.lst [],.lst []]) 2 rfl;have W3:=O9 (A:=H1++[O.dK []]) (o:=[O.obj "Walk" [("named",.loc (H.length+1)),("clauses",.loc H1.length),("bound",.int bd),("doing",.non),("left",.loc ((H1++[O.dK []]).length+1)),("standing",.loc ((H1++[O.dK []]).length+2)),("record",.loc ((H1++[O.dK []]).length+3)),("used",.int 0),("end",.non)],.lst [],.lst [],.lst []]) 3 rfl;have od2:∀ (i:Nat) (o:O),H1[i]?=some o->((H1++[O.dK []])++[O.obj "Walk" [("named",.loc (H.length+1)),("clauses",.loc H1.length),("bound",.int bd),("doing",.non),("left",.loc ((H1++[O.dK []]).length+1)),("standing",.loc ((H1++[O.dK []]).length+2)),("record",.loc ((H1++[O.dK []]).length+3)),("used",.int 0),("end",.non)],.lst [],.lst [],.lst []])[i]?=some o:=λ i o h=>zd (zd h);have l3:((H1++[O.dK []])++[O.obj "Walk" [("named",.loc (H.length+1)),("clauses",.loc H1.length),("bound",.int bd),("doing",.non),("left",.loc ((H1++[O.dK []]).length+1)),("standing",.loc ((H1++[O.dK []]).length+2)),("record",.loc ((H1++[O.dK []]).length+3)),("used",.int 0),("end",.non)],.lst [],.lst [],.lst []]).length=H.length+7:=by rw [Y0h,l2];rfl
 rw [l2] at B;simp only [l2,l1] at B W0 W1 W2 W3 od2 l3;generalize hW:((H1++[O.dK []])++[O.obj "Walk" [("named",.loc (H.length+1)),("clauses",.loc (H.length+2)),("bound",.int bd),("doing",.non),("left",.loc (H.length+3+1)),("standing",.loc (H.length+3+2)),("record",.loc (H.length+3+3)),("used",.int 0),("end",.non)],.lst [],.lst [],.lst []])=H3 at B W0 W1 W2 W3 od2 l3;have gm3:=od2 _ _ gm;have Dd:callI defs (n+2) 45 [.loc H3.length,b,knD (names.zip nums).reverse,.tup [.non,.non],.non] (H3++[.obj "Doing" []])=.ok .non (H3++[dg (blD none) (.tup [b,.non]) .non (knD (names.zip nums).reverse)]):=O3;have S:qC (.loc (H.length+3)) "doing" (.loc H3.length) (H3++[dg (blD none) (.tup [b,.non]) .non (knD (names.zip nums).reverse)])=some ((H3++[dg (blD none) (.tup [b,.non]) .non (knD (names.zip nums).reverse)]).set (H.length+3) (wk (.loc (H.length+1)) (.loc (H.length+2)) (.int bd) (H.length+7) (H.length+4) (H.length+5) (H.length+6) 0 .non)) :=
  (jf (zd W0) (by simp) rfl).trans (by rw [l3];rfl)
 refine ⟨(H3++[dg (blD none) (.tup [b,.non]) .non (knD (names.zip nums).reverse)]).set (H.length+3) (wk (.loc (H.length+1)) (.loc (H.length+2)) (.int bd) (H.length+7) (H.length+4) (H.length+5) (H.length+6) 0 .non),?_,?_⟩
 ·rw [zb (d:=yS) rfl rfl];exact zj (zg (bnd rfl (bnd rfl A)) (zg (bnd rfl (bnd rfl (BL g1 e))) (wo (bnd rfl (bnd rfl (BM gm (by simp [hl])))) (zg (d:=.loc (H.length+3)) (h':=H3) (vmk.trans (bnd rfl (bnd (bnd (bnd rfl (bnd rfl hC)) rfl) (by rw [l2,l1,B];rfl)))) (zA (z:=.loc H3.length) (vmk.trans (bnd rfl (bnd (bnd (bnd rfl (bnd rfl (Qs gm3))) rfl) (by rw [Dd];rfl)))) rfl S rfl)))))
 ·refine ⟨Y0n (by simp [l3]),zl (by omega) ?_,zl (by omega) (zd W1),zl (by omega) (zd W2),zl (by omega) (zd W3),zl (by omega) (zd (od2 _ _ g1)),by omega,by omega,by omega,by omega,by omega,by omega,by omega,by omega,by omega,by omega,by omega,by omega,by omega,by omega,λ _ h=>(nomatch h),λ i o ho=>zl (by have:=zu ho;omega) (zd (od2 _ _ (od _ _ ho))),by omega,by omega,by omega,by omega⟩;rw [Y08 (by omega),show H.length+7-H3.length=0 from by omega];rfl
end
theorem BO {ck:Ck}{f:D->En->Hh->RS}{l:List D}{ρ ρ':En}{h h':Hh}(e:j8 ck f l ρ h=.nx ρ' h'):stay ck h:=by
 by_cases c:stay ck h
 ·exact c
 ·cases l with
  | nil=>rw [j8,if_neg c] at e;cases e
  | cons x l=>rw [j8,if_neg c] at e;cases e
def J8:Out->D×Sta
 | .val v s=>(.tup [.str "done",.int v],s)
 | .fin e s=>(e,s)
section
variable {n N:Nat}{H:Hh}{m ma:Nat}{bd:Int}{qs:List (Str×D)}{nums an:List Int}{f:Str}{names:List Str}{t:T}{P:Str->Option Fn}
theorem z50 (o:Itm qs)(nd:(qs.map (·.1)).Nodup)(hq:qs.length<=1000000)(hf:(f,it f (.tup (names.map .str)) t.d)∈qs)(g:H[m]?=some (.lst (nums.map .int)))(ga:H[ma]?=some (.lst (an.map .int)))(hl:nums.length=names.length)(hP:∀ g f,P g=some f->jC (tab qs) (.inr g)=some (fnD f))(hb:bd<=100000)(hN:N<=1000)(ot:Ok P N t names none)(k:KnOk names (names.zip nums).reverse)(ha:∀ a∈an,Sm a) :
  ∃ Hf rr,callI defs (n+7) 7 [.tup (qs.map (·.2)),.str f,.loc m,.loc ma,.int bd] H=.ok (.tup [(J8 (told P bd N t (names.zip nums).reverse none ⟨0,[],an⟩)).1,.loc rr,.int (J8 (told P bd N t (names.zip nums).reverse none ⟨0,[],an⟩)).2.u]) Hf/\Hf[rr]?=some (.lst (J8 (told P bd N t (names.zip nums).reverse none ⟨0,[],an⟩)).2.rc)/\H.length<=rr/\∀ (i:Nat) (o:O),H[i]?=some o->Hf[i]?=some o:=by
 obtain ⟨X,B,q⟩:=Vv (n:=n+3) (bd:=bd) o nd hq hf g hl;have T:=yT (n:=n) (p0:=some (.tup (qs.map (·.2)))) (p1:=some (.str f)) (p2:=some (.loc m)) (p4:=some (.int bd)) hP hb ga N t names (names.zip nums).reverse none (n+2) X _ .non .non ⟨0,[],an⟩ [] ot k (λ _ h=>nomatch h) ⟨ha,Int.le_refl _⟩ (by rw [Y1t];omega) q;have key:∃ Hf d bl ts ns kn fr,Vr n (some (.tup (qs.map (·.2)))) (some (.str f)) (some (.loc m)) (some (.int bd)) ma (an.map .int) (H.length+3) (n+2) X an Hf/\St H Hf (H.length+3) d (H.length+4) (H.length+5) (H.length+6) (H.length+1) (H.length+2) bd (tab qs) (J8 (told P bd N t (names.zip nums).reverse none ⟨0,[],an⟩)).2.u (J8 (told P bd N t (names.zip nums).reverse none ⟨0,[],an⟩)).1 bl ts ns kn (J8 (told P bd N t (names.zip nums).reverse none ⟨0,[],an⟩)).2.rc fr:=by
  cases e:told P bd N t (names.zip nums).reverse none ⟨0,[],an⟩ with
  | fin e' s'=>rw [e] at T;obtain ⟨Hf,d,bl,ts,ns,kn,fr,G,q⟩:=T;exact ⟨Hf,d,bl,ts,ns,kn,fr,G,q⟩
  | val v s' =>
   rw [e] at T;obtain ⟨k',H',d',R,q'⟩:=T;have q2:=q'.setW s'.u (.tup [.str "done",.int v]);exact ⟨_,_,_,_,_,_,_,R _ (Rch.step (λ x y=>⟨_,_,J6 q' (WP q')⟩) _ (Zk ga q2 (.done _) _)),q2⟩
 obtain ⟨Hf,d,bl,ts,ns,kn,fr,G,F⟩:=key;obtain ⟨x',y',H1,e1,f1⟩:=G none none;obtain ⟨c',f1⟩:=f1 none;have W:callI defs (n+6) 13 [.loc (H.length+3)] X=.ok .non H1:=by
  rw [zb (d:=qP) rfl rfl];refine zW (ρ:=[some (.loc (H.length+3)),x',y']) ?_;show jY (Lp (n+2) [some (.loc (H.length+3)),none,none] X) _=_;rw [e1];rfl
 have st:=BO f1;have g1:PI.rd H1 ma=some (an.map .int):=st _ Y03;refine ⟨Hf,H.length+6,?_,F.hr,by omega,F.old⟩;rw [zb (d:=GZ) rfl rfl];exact zj (zg (bnd rfl (bnd rfl B)) (wo (bnd rfl (bnd rfl W)) (j2 (qO rfl g1) f1 (zD (BI (bnd rfl (zn F.hw rfl)) (bnd rfl (zn F.hw rfl)) (bnd rfl (zn F.hw rfl)))))))
end
section
variable {cl:Nat->List D->Hh->Res D}{h:Hh}
theorem UE {ρ:En}{p1 p2 p3 p4 p5 p6 p7:Pos}{t:Int}(e:ρ[3]?=some (some (.int t))):E.evT cl (.cmp .Gt (.c1 .abs (.var 3 p1) p2 p3) (.bin .Pow (.int 10 p4) (.int 18 p5) p6) p7) ρ h=.ok (!(decide (t.natAbs<=1000000000000000000))) h:=by
 refine zi (x:=.int (if t<0 then -t else t)) (y:=.int 1000000000000000000) (h':=h) (h2:=h) (bnd (x:=.int t) (h:=h) (by rw [jF,e]) rfl) (bnd rfl (bnd rfl ?_)) ?_
 ·rfl
 ·rw [<- O0];rfl
theorem BP {s:Str}{a b:Int}(hs:Sg s)(ha:Sm a)(hb:Sm b):d_law_reckoned.run cl [.str s,.int a,.int b] h=.ok (opI (wH s a b)) h:=by
 have fin:∀ t:Int,Ss.run cl (jw 4 d_law_reckoned.body) [some (.str s),some (.int a),some (.int b),some (.int t)] h=.rt (opI (if t.natAbs<=1000000000000000000 then some t else none)) h:=λ t=>by
  by_cases q:t.natAbs<=1000000000000000000
  ·rw [if_pos q];refine zk (h':=h) ?_ rfl;rw [UE rfl,decide_eq_true q];rfl
  ·rw [if_neg q];refine j1 (h':=h) ?_ rfl;rw [UE rfl,decide_eq_false q];rfl
 rcases hs with rfl | rfl | rfl | rfl
 ·rw [show wH "+" a b=(if (a+b).natAbs<=1000000000000000000 then some (a+b) else none) from rfl];exact zj (zg rfl (zQ (zi rfl rfl (eqS qg qg)) rfl (zk (zi rfl rfl (eqS qg qh)) (zk (zi rfl rfl (eqS qg yd)) (fin _)))))
 ·rw [show wH "-" a b=(if (a-b).natAbs<=1000000000000000000 then some (a-b) else none) from rfl];exact zj (zg rfl (zk (zi rfl rfl (eqS qh qg)) (zQ (zi rfl rfl (eqS qh qh)) rfl (zk (zi rfl rfl (eqS qh yd)) (fin _)))))
 ·rw [show wH "*" a b=(if (a*b).natAbs<=1000000000000000000 then some (a*b) else none) from rfl];exact zj (zg rfl (zk (zi rfl rfl (eqS yd qg)) (zk (zi rfl rfl (eqS yd qh)) (zQ (zi rfl rfl (eqS yd yd)) (zg (bnd rfl (bnd rfl (mlk ha.fits hb.fits))) rfl) (fin _)))))
 ·have e:wH "<" a b=(if (if decide (a<b)=true then (1:Int) else 0).natAbs<=1000000000000000000 then some (if decide (a<b)=true then (1:Int) else 0) else none):=by
   rw [show wH "<" a b=some (if a<b then 1 else 0) from rfl];by_cases q:a<b<;>simp [q]
  rw [e];exact zj (zg rfl (zk (zi rfl rfl (eqS Z0 qg)) (zk (zi rfl rfl (eqS Z0 qh)) (zk (zi rfl rfl (eqS Z0 yd)) (fin _)))))
end
def kl (kn:List (Str×Int)):List D:=kn.reverse.map λ p=>.tup [.str p.1,.int p.2]
def fm (x:Str)(p:Str×Int):Option D:=if p.1==x then some (.int p.2) else none
theorem z6o {x y:Str}{u:Int}(h:(y==x)=true):[(y,u)].filterMap (fm x)=[.int u]:=by
 rw [Y1b,show fm x (y,u)=some (.int u) from if_pos h];rfl
theorem z6p {x y:Str}{u:Int}(h:(y==x)=false):[(y,u)].filterMap (fm x)=[]:=by
 rw [Y1b,show fm x (y,u)=none from if_neg (by rw [h];decide)];rfl
theorem J9 {x:Str}{v:Int}:∀ (kn:List (Str×Int)),kn.lookup x=some v->∃ l,kn.reverse.filterMap (fm x)=l++[.int v]
 | [],e=>by cases e
 | (y,u)::r,e=>by
  rw [Y1m,List.filterMap_append];by_cases q:(x==y)=true
  ·rw [List.lookup,q] at e;cases e
   have:(y==x)=true:=by rw [eq_of_beq q];exact beq_self_eq_true _
   exact ⟨_,by rw [z6o this]⟩
  ·rw [List.lookup,Y2j.mpr q] at e;obtain ⟨l,ih⟩:=J9 r e
   have:(y==x)=false:=by rw [beq_eq_false_iff_ne];intro z;rw [z,beq_self_eq_true] at q;exact q rfl
   exact ⟨l,by rw [z6p this,ih,Y0y]⟩
theorem BQ {l:List D}{v:D}:atI (l++[v]) (-1)=some v:=by
 unfold atI ixN;rw [if_neg (by decide),if_pos (by simp;omega)];show (l++[v])[((-1:Int)+((l++[v]).length:Nat)).toNat]?=_;rw [show ((-1:Int)+((l++[v]).length:Nat)).toNat=l.length from by simp;omega,Y08 (Y04 _),Y11];rfl
section
variable {H:Hh}{m:Nat}
theorem z51 {sl bb:D}{cl:Nat->List D->Hh->Res D}{x:Str}{v:Int}(hx:PyData.strOk x=true)(kn:List (Str×Int))(hk:∀ p∈kn,PyData.strOk p.1=true)(g:H[m]?=some (.lst (kl kn)))(hl:kn.length<=1000)(e:kn.lookup x=some v):∃ J,d_law_found.run cl [.tup [.str "var",.str x],.loc m,bb,sl] H=.ok (.int v) (H++J):=by
 obtain ⟨l,q⟩:=J9 kn e;refine ⟨[.lst (l++[.int v])],zj (zk (zi rfl rfl (eqS jn jm)) (j1 (zi rfl rfl (eqS jn jn)) (zD (vsub.trans (bnd (j3 (q:=([(m,kl kn)],kl kn)) (xs:=l++[.int v]) (h2:=H) (qO rfl (rdl g)) (by unfold kl;simp;omega) ?_) (bnd rfl (jQ (by rw [Y08 (Y04 _),Y11];rfl) BQ)))))))⟩;have c:=jl (c:=[(m,kl kn)]) (f:=zZ wy (jX [none,none,some 0] [some (.tup [.str "var",.str x]),some (.loc m),some bb,some sl,none]) (λ ρ' h2=>c_law_found_1.evC cl ρ' h2) (λ ρ' h2=>e_law_found_1.ev cl ρ' h2)) (h:=H) (λ p hp=>by rw [Y0a.mp hp];exact rdl g) (λ d=>match d with | .tup [.str y,.int u]=>fm x (y,u) | _=>none) (kl kn) [] (λ z hz=>by
  unfold kl at hz;obtain ⟨p,hp,rfl⟩:=Y0w.mp hz;have hy:=hk p (Y2z.mp hp);show zZ _ _ _ _ (.tup [.str p.1,.int p.2]) H=.ok (fm x p) H;simp [-cmp_eq,zZ,wy,qY,jX,c_law_found_1,e_law_found_1,z0g,GS,vsub,jF,YD,a1,eqS hy hx,fm];by_cases z:p.1=x<;>simp [z])
 refine c.trans ?_;rw [Y14];unfold kl;rw [Y2q,<- q];rfl
end
theorem Oa {h:Hh}{n m:Nat}{xs ys:List D}(g1:h[n]?=some (.lst xs))(g2:h[m]?=some (.lst ys))(hl:xs.length+ys.length<=1000000):jE .Add (.loc n) (.loc m) h=.ok (.loc h.length) (h++[.lst (xs++ys)]):=by
 rw [bin_addl,g1,g2];simp [hl,new]
def sdO (pg:D)(bd:Int)(rl al:Nat)(u:Int)(e:D):O:=.dK [(.inr "record",.loc rl),(.inr "used",.int u),(.inr "turns",.int bd),(.inr "answers",.loc al),(.inr "end",e),(.inr "program",pg)]
def Av (av:List Nat)(H:Hh)(rl al:Nat):Prop:=∀ i∈av,i≠rl/\i≠al/\i<H.length
section
variable {av:List Nat}{H B:Hh}{rl al x:Nat}{o:O}
theorem Av.app (h:Av av H rl al):Av av (H++B) rl al:=λ i hi=>⟨(h i hi).1,(h i hi).2.1,by rw [Y0h];have:=(h i hi).2.2;omega⟩
theorem Av.set (h:Av av H rl al):Av av (H.set x o) rl al:=λ i hi=>⟨(h i hi).1,(h i hi).2.1,by rw [Y0r];exact (h i hi).2.2⟩
theorem Av.new1 (h:Av av H rl al)(hx:H.length<=x):Av av H x al:=λ i hi=>⟨by have:=(h i hi).2.2;omega,(h i hi).2⟩
theorem Av.new2 (h:Av av H rl al)(hx:H.length<=x):Av av H rl x:=λ i hi=>⟨(h i hi).1,by have:=(h i hi).2.2;omega,(h i hi).2.2⟩
end
structure SD (pg:D)(av:List Nat)(bd:Int)(H:Hh)(sl:Nat)(a:Sta)(e:D):Prop where
 ex:∃ rl al,H[sl]?=some (sdO pg bd rl al a.u e)/\H[rl]?=some (.lst a.rc)/\H[al]?=some (.lst (a.an.map .int))/\rl≠sl/\al≠sl/\Av av H rl al
def ExS (sl:Nat)(H H':Hh):Prop:=∀ (i:Nat) (o:O),i≠sl->H[i]?=some o->H'[i]?=some o
theorem ExS.rfl' {sl:Nat}{H:Hh}:ExS sl H H:=λ _ _ _ h=>h
theorem ExS.tr {sl:Nat}{A B C:Hh}(x:ExS sl A B)(y:ExS sl B C):ExS sl A C:=λ i o n h=>y i o n (x i o n h)
theorem ExS.app {sl:Nat}{H B:Hh}:ExS sl H (H++B):=λ _ _ _=>zd
theorem ExS.set {sl:Nat}{H:Hh}{o:O}:ExS sl H (H.set sl o):=λ _ _ n h=>zl n h
theorem SD.app {pg:D}{av:List Nat}{bd:Int}{H B:Hh}{sl:Nat}{a:Sta}{e:D}(q:SD pg av bd H sl a e):SD pg av bd (H++B) sl a e:=by
 obtain ⟨rl,al,g1,g2,g3,n1,n2,n3⟩:=q.ex;exact ⟨rl,al,zd g1,zd g2,zd g3,n1,n2,n3.app⟩
theorem WR {H:Hh}{sl:Nat}{kvs kvs':List (Key×D)}{x:Str}{v:D}(g:H[sl]?=some (.dK kvs))(hl:kvs.length<1000000)(e:ZF kvs (.inr x) v=kvs'):Yp (.loc sl) (.str x) v H=some (H.set sl (.dK kvs')):=by
 show (match H[sl]? with
  | some (.lst xs)=>none
  | some (.dK kvs)=>if kvs.length<1000000 then some (H.set sl (.dK (ZF kvs (.inr x) v))) else none
  | _=>none)=_
 rw [g];simp only [hl,if_true,e]
theorem Ob {xs:List D}{s:Nat}(h:s<=xs.length):zV xs (some (s:Int)) none=xs.drop s:=by
 unfold zV HT.sIx;simp only [show ¬ ((s:Int)<0) from by omega,if_false,Y1u,Nat.min_eq_left h];rw [List.take_of_length_le (by simp)]
theorem zr {h:Hh}{x:O}:(h++[x])[h.length]?=some x:=by rw [Y08 (Y04 _),Y11];rfl
theorem UF {cl:Nat->List D->Hh->Res D}{ρ:En}{h h1:Hh}{e:E}{p:Pos}{x:D}(he:e.ev cl ρ h=.ok x h1):E.ev cl (.ofL (.disp (.cons e .nil) p)) ρ h=.ok (.loc h1.length) (h1++[.lst [x]]):=vofL.trans (bnd (ldisp.trans (bnd (econs.trans (bnd he (bnd z30 rfl))) rfl)) rfl)
section
variable {cl:Nat->List D->Hh->Res D}{ρ:En}{H:Hh}{sl:Nat}{a:Sta}{e pg:D}{av:List Nat}{bd:Int}{n:Nat}
theorem z3c (x:D){i:Nat}(eρ:ρ[i]?=some (some (.loc sl)))(q:SD pg av bd H sl a e)(lr:a.rc.length<999999) :
  ∃ H',SD pg av bd H' sl { a with rc:=a.rc++[x] } e/\ExS sl H H'/\∀ {te:E}{r:Ss}{o:RS}{p1 p2 p3 p4 p5 p6 p7 p8 p9:Pos},(∀ X,te.ev cl ρ X=.ok x X)->Ss.run cl r ρ H'=o->Ss.run cl (.cons (.put (.var i p1) (.str "record" p2) (.bin .Add (.sub (.var i p3) (.str "record" p4) p5) (.ofL (.disp (.cons te .nil) p6)) p7) p8 p9) r) ρ H=o:=by
 obtain ⟨rl,al,g1,g2,g3,n1,n2,n3⟩:=q.ex;have l1:=zu g1;have g4:(H++[O.lst [x]])[rl]?=some (.lst a.rc):=zd g2;have A:=Oa g4 zr (by simp;omega);have g5:((H++[O.lst [x]])++[O.lst (a.rc++[x])])[sl]?=some (sdO pg bd rl al a.u e):=zd (zd g1);refine ⟨((H++[O.lst [x]])++[O.lst (a.rc++[x])]).set sl (sdO pg bd (H++[O.lst [x]]).length al a.u e),⟨(H++[O.lst [x]]).length,al,Y0n (zu g5),zl (by simp;omega) zr,zl n2 (zd (zd g3)),by simp;omega,n2,((n3.new1 (by simp)).app.app).set⟩,ExS.app.tr (ExS.app.tr ExS.set),λ {te r o p1 p2 p3 p4 p5 p6 p7 p8 p9} ht h=>?_⟩;have vr:∀ (X:Hh) {p:Pos},E.ev cl (.var i p) ρ X=.ok (.loc sl) X:=λ X {p}=>by rw [jF,eρ]
 exact Uu (bnd (bnd (vr _) (bnd rfl (qk g1 rfl))) (bnd (UF (ht _)) A)) (vr _) rfl (WR g5 (Y0j rfl) rfl) h
theorem Zl {z:D}(q:SD pg av bd H sl a e):∃ H',callI defs (n+1) 33 [.loc sl,z] H=.ok .non H'/\SD pg av bd H' sl a z/\ExS sl H H':=by
 obtain ⟨rl,al,g1,g2,g3,n1,n2,n3⟩:=q.ex;refine ⟨H.set sl (sdO pg bd rl al a.u z),?_,⟨rl,al,Y0n (zu g1),zl n1 g2,zl n2 g3,n1,n2,n3.set⟩,ExS.set⟩;rw [zb (d:=qI) rfl rfl];exact zj (Uu rfl rfl rfl (WR g1 (Y0j rfl) rfl) rfl)
theorem Oc (q:SD pg av bd H sl a e)(hu:a.u<bd):∃ H',callI defs (n+2) 34 [.loc sl] H=.ok (.bl true) H'/\SD pg av bd H' sl { a with u:=a.u+1 } e/\ExS sl H H':=by
 obtain ⟨rl,al,g1,g2,g3,n1,n2,n3⟩:=q.ex;refine ⟨H.set sl (sdO pg bd rl al (a.u+1) e),?_,⟨rl,al,Y0n (zu g1),zl n1 g2,zl n2 g3,n1,n2,n3.set⟩,ExS.set⟩;rw [zb (d:=wT) rfl rfl];exact zj (zk (zi (bnd rfl (bnd rfl (qk g1 rfl))) (bnd rfl (bnd rfl (qk g1 rfl))) (cmp_ge.trans (by rw [decide_eq_false (by omega)]))) (Uu (bnd (bnd rfl (bnd rfl (qk g1 rfl))) rfl) rfl rfl (WR g1 (Y0j rfl) rfl) rfl))
theorem Ja (q:SD pg av bd H sl a e)(hu:¬ a.u<bd):∃ H',callI defs (n+2) 34 [.loc sl] H=.ok (.bl false) H'/\SD pg av bd H' sl a jA/\ExS sl H H':=by
 obtain ⟨rl,al,g1,g2,g3,n1,n2,n3⟩:=q.ex;obtain ⟨H',e1,q1,x1⟩:=Zl (n:=n) (z:=jA) q;refine ⟨H',?_,q1,x1⟩;rw [zb (d:=wT) rfl rfl];exact zj (j1 (zi (bnd rfl (bnd rfl (qk g1 rfl))) (bnd rfl (bnd rfl (qk g1 rfl))) (cmp_ge.trans (by rw [decide_eq_true (by omega)]))) (wo (bnd rfl (bnd rfl e1)) rfl))
def YQ:Out->D
 | .val v _=>.int v
 | .fin _ _=>.non
def BR:Out->Sta
 | .val _ s=>s
 | .fin _ s=>s
def BS:Out->D
 | .val _ _=>.non
 | .fin e _=>e
theorem z0t {m:Nat}{xs:List D}(g:H[m]?=some (.lst xs)):Qi false (.loc m) H=.ok (.bl xs.isEmpty) H:=by
 show (match PI.rd H m with | some xs=>Res.ok (D.bl (ngB false xs.isEmpty)) H | none=>.no)=_
 rw [rdl g];rfl
theorem z3d {x:Str}{v:Int}(q:SD pg av bd H sl a .non)(lr:a.rc.length<999999):∃ H',callI defs (n+3) 35 [.str x,.int v,.loc sl] H=.ok (YQ (yE bd x v a)) H'/\SD pg av bd H' sl (BR (yE bd x v a)) (BS (yE bd x v a))/\ExS sl H H':=by
 rw [zb (d:=wU) rfl rfl];have et:yE bd x v a=if a.u<bd then (match a.an with | []=>.fin (J7 x v) ⟨a.u+1,a.rc++[doD x v],[]⟩ | i::r=>.val i ⟨a.u+1,a.rc++[doD x v],r⟩) else .fin jA a:=rfl
 by_cases hu:a.u<bd
 ·rw [et,if_pos hu];obtain ⟨H1,e1,q1,x1⟩:=Oc (n:=n) q hu;obtain ⟨H2,q2,x2,R⟩:=z3c (cl:=callI defs (n+2)) (ρ:=[some (.str x),some (.int v),some (.loc sl),none]) (doD x v) (i:=2) rfl q1 lr;obtain ⟨rl,al,g1,g2,g3,n1,n2,n3⟩:=q2.ex;cases ea:a.an with
  | nil =>
   have g3:H2[al]?=some (.lst (a.an.map .int)):=g3;rw [ea] at g3;obtain ⟨H3,e3,q3,x3⟩:=Zl (n:=n+1) (z:=J7 x v) q2;refine ⟨H3,zj (zk (bnd (bnd (bnd rfl (bnd rfl e1)) rfl) rfl) (R (λ X=>BI rfl rfl rfl) (j1 (bnd (bnd (bnd rfl (bnd rfl (qk g1 rfl))) (z0t g3)) rfl) (zD (bnd rfl (bnd rfl e3)))))),?_,x1.tr (x2.tr x3)⟩;obtain ⟨r1,r2,y1,y2,y3,y4,y5,y6⟩:=q3.ex;have y3:H3[r2]?=some (.lst (a.an.map .int)):=y3;rw [ea] at y3;exact ⟨r1,r2,y1,y2,y3,y4,y5,y6⟩
  | cons i r =>
   have g3:H2[al]?=some (.lst (a.an.map .int)):=g3;rw [ea] at g3;have l1:=zu g1;have cutE:Jn (.loc al) (some 1) none H2=.ok (.loc H2.length) (H2++[.lst (r.map .int)]):=by
    show (match PI.rd H2 al with | some xs=>new (.lst (zV xs (some 1) none)) H2 | none=>.no)=_
    rw [rdl g3];show new (.lst (zV (.int i::r.map .int) (some 1) none)) H2=_
    have:zV (.int i::r.map .int) (some 1) none=r.map D.int:=by
     exact Ob (s:=1) (by simp)
    rw [this];rfl
   refine ⟨(H2++[O.lst (r.map D.int)]).set sl (sdO pg bd rl H2.length (a.u+1) .non),zj (zk (bnd (bnd (bnd rfl (bnd rfl e1)) rfl) rfl) (R (λ X=>BI rfl rfl rfl) (zk (bnd (bnd (bnd rfl (bnd rfl (qk g1 rfl))) (z0t g3)) rfl) (zg (bnd (bnd rfl (bnd rfl (qk g1 rfl))) (bnd rfl (jQ g3 a0))) (Uu (vcut.trans (bnd (bnd rfl (bnd rfl (qk g1 rfl))) (bnd rfl (bnd rfl cutE)))) rfl rfl (WR (zd g1) (Y0j rfl) rfl) rfl))))),⟨rl,H2.length,Y0n (by rw [Y0h];omega),zl n1 (zd g2),zl (by omega) zr,n1,by omega,((n3.new2 (Y04 _)).app).set⟩,x1.tr (x2.tr (ExS.app.tr ExS.set))⟩
 ·rw [et,if_neg hu];obtain ⟨H1,e1,q1,x1⟩:=Ja (n:=n) q hu;exact ⟨H1,zj (j1 (bnd (bnd (bnd rfl (bnd rfl e1)) rfl) rfl) rfl),q1,x1⟩
theorem SD.setL {ln:Nat}{o:O}(q:SD pg av bd H sl a e)(hm:ln∈av)(ne:sl≠ln):SD pg av bd (H.set ln o) sl a e:=by
 obtain ⟨rl,al,g1,g2,g3,n1,n2,n3⟩:=q.ex;exact ⟨rl,al,zl ne g1,zl (Ne.symm (n3 ln hm).1) g2,zl (Ne.symm (n3 ln hm).2.1) g3,n1,n2,n3.set⟩
theorem SD.more {o:O}(q:SD pg av bd H sl a e):SD pg (H.length::av) bd (H++[o]) sl a e:=by
 obtain ⟨rl,al,g1,g2,g3,n1,n2,n3⟩:=q.ex
 have:=zu g2
 have:=zu g3
 refine ⟨rl,al,zd g1,zd g2,zd g3,n1,n2,λ i hi=>?_⟩;rcases Y06.mp hi with rfl | hi
 ·exact ⟨by omega,by omega,by simp⟩
 ·exact n3.app i hi
theorem SD.less {i:Nat}(q:SD pg (i::av) bd H sl a e):SD pg av bd H sl a e:=by
 obtain ⟨rl,al,g1,g2,g3,n1,n2,n3⟩:=q.ex;exact ⟨rl,al,g1,g2,g3,n1,n2,λ i hi=>n3 i (Y02 _ hi)⟩
theorem SD.ne (q:SD pg av bd H sl a e):sl<H.length:=by
 obtain ⟨rl,al,g1,_⟩:=q.ex;exact zu g1
end
theorem z3e {ck:Ck}{f:D->En->Hh->RS}{l:List D}{x d:D}{ρ:En}{h h':Hh}(hs:stay ck h)(hf:f x ρ h=.rt d h'):j8 ck f (x::l) ρ h=.rt d h':=by
 rw [j8,if_pos hs,hf]
theorem z3f {cl:Nat->List D->Hh->Res D}{ρ:En}{h h':Hh}{x d:D}{p:Pos}{b:Ss}{i:Nat}(k:b.run cl (ρ.set i (some x)) h=.rt d h'):zG (.one i p) (λ ρ' h'=>b.run cl ρ' h') x ρ h=.rt d h':=k
def Ex2 (sl ln:Nat)(H H':Hh):Prop:=∀ (i:Nat) (o:O),i≠sl->i≠ln->H[i]?=some o->H'[i]?=some o
def lbD:Bl->D
 | none=>.non
 | some p=>.tup [.str p.1,.str p.2]
section
variable {pg:D}{av:List Nat}{bd:Int}{sl:Nat}
theorem Od {F:T->Sta->Out}{tr bb:D}{kn:List (Str×Int)}{m ln K:Nat}(hs:ln≠sl)(hml:m≠ln)(hms:m≠sl)(hav:ln∈av):∀ (as:List T) (a:Sta) (acc:List Int) (H:Hh) (x y:Option D),
  (∀ t∈as,∀ (H:Hh) (a:Sta),SOk a->H[m]?=some (.lst (kl kn))->SD pg av bd H sl a .non->∃ H',callI defs K 42 [t.d,.loc m,bb,.loc sl] H=.ok (YQ (F t a)) H'/\SD pg av bd H' sl (BR (F t a)) (BS (F t a))/\ExS sl H H') ->
  (∀ t∈as,∀ s,SOk s->∀ v s',F t s=.val v s'->Sm v/\SOk s')->SOk a->acc.length+as.length<1000->H[m]?=some (.lst (kl kn))->H[ln]?=some (.lst (acc.map .int))->SD pg av bd H sl a .non ->
  (∃ vs s1 x' y' H',(∀ f,wJ F as a f=f vs s1)/\vs.length=as.length/\(∀ v∈vs,Sm v)/\SOk s1/\j8 [] (zG jO λ ρ' h'=>b_law_call_3.run (callI defs K) ρ' h') (T.ds as) [some tr,some (.loc m),some bb,some (.loc sl),some (.loc ln),x,y,none,none,none] H=.nx [some tr,some (.loc m),some bb,some (.loc sl),some (.loc ln),x',y',none,none,none] H'/\H'[ln]?=some (.lst ((acc++vs).map .int))/\SD pg av bd H' sl s1 .non/\Ex2 sl ln H H') \/
  (∃ e s1 H',(∀ f,wJ F as a f=.fin e s1)/\j8 [] (zG jO λ ρ' h'=>b_law_call_3.run (callI defs K) ρ' h') (T.ds as) [some tr,some (.loc m),some bb,some (.loc sl),some (.loc ln),x,y,none,none,none] H=.rt .non H'/\SD pg av bd H' sl s1 e/\Ex2 sl ln H H')
 | [],a,acc,H,x,y,h1,h2,so,la,g,gl,q=>.inl ⟨[],a,x,y,H,λ _=>rfl,rfl,(λ _ h=>nomatch h),so,qi,by rw [Y0y];exact gl,q,λ _ _ _ _ h=>h⟩
 | t::as,a,acc,H,x,y,h1,h2,so,la,g,gl,q=>by
  obtain ⟨H1,e1,q1,x1⟩:=h1 t Y03 H a so g q;rw [Y09] at la;cases ep:F t a with
  | fin e s1 =>
   rw [ep] at e1 q1;refine .inr ⟨e,s1,H1,λ f=>by rw [wJ,ep];rfl,z3e (λ _ hp=>nomatch hp) (z3f (zg (bnd rfl (bnd rfl e1)) rfl)),q1,λ i o n1 n2 h=>x1 i o n1 h⟩
  | val v s1 =>
   obtain ⟨a1,b1⟩:=h2 t Y03 a so v s1 ep;rw [ep] at e1 q1;have q1:SD pg av bd H1 sl s1 .non:=q1;have gl1:=x1 _ _ hs gl;have g1:=x1 _ _ hms g;have q2:=q1.setL (o:=.lst ((acc++[v]).map .int)) hav (Ne.symm hs);have st:zG jO (λ ρ' h'=>b_law_call_3.run (callI defs K) ρ' h') t.d [some tr,some (.loc m),some bb,some (.loc sl),some (.loc ln),x,y,none,none,none] H=.nx [some tr,some (.loc m),some bb,some (.loc sl),some (.loc ln),some t.d,some (.int v),none,none,none] (H1.set ln (.lst ((acc++[v]).map .int))):=by
    rw [Y1o];exact wz (zg (bnd rfl (bnd rfl e1)) (zk rfl (wo (append_at rfl gl1 rfl gl1 (by rw [Y0d];omega)) rfl)))
   have x2:Ex2 sl ln H (H1.set ln (.lst ((acc++[v]).map .int))):=λ i o n1 n2 h=>zl n2 (x1 i o n1 h);rcases Od hs hml hms hav as s1 (acc++[v]) _ (some t.d) (some (.int v)) (λ t ht=>h1 t (Y02 _ ht)) (λ t ht=>h2 t (Y02 _ ht)) b1 (by rw [Y0h];show acc.length+1+as.length<1000;omega) (zl hml g1) (Y0n (zu gl1)) q2 with ⟨vs,s2,x',y',H',f1,f2,f3,f4,f5,f6,f7,f8⟩ | ⟨e,s2,H',f1,f2,f3,f4⟩
   ·exact .inl ⟨v::vs,s2,x',y',H',λ f=>by rw [wJ,ep];exact f1 _,by simp [f2],λ w hw=>by rcases Y06.mp hw with rfl | hw;exact a1;exact f3 w hw,f4,j9 (λ _ hp=>nomatch hp) st f5,by rw [f6,Y0l];rfl,f7,λ i o n1 n2 h=>f8 i o n1 n2 (x2 i o n1 n2 h)⟩
   ·exact .inr ⟨e,s2,H',λ f=>by rw [wJ,ep];exact f1 _,j9 (λ _ hp=>nomatch hp) st f2,f3,λ i o n1 n2 h=>f4 i o n1 n2 (x2 i o n1 n2 h)⟩
theorem d2 {cl:Nat->List D->Hh->Res D}{e1 e2:E}{ρ:En}{p0:Pos}{Y:Hh}{x y:D}(h1:e1.ev cl ρ Y=.ok x Y)(h2:e2.ev cl ρ Y=.ok y Y):E.ev cl (.ofL (.disp (.cons e1 (.cons e2 .nil)) p0)) ρ Y=.ok (.loc Y.length) (Y++[.lst [x,y]]):=vofL.trans (bnd (ldisp.trans (bnd (econs.trans (bnd h1 (bnd (econs.trans (bnd h2 (bnd z30 rfl))) rfl))) rfl)) rfl)
theorem BT {cl:Nat->List D->Hh->Res D}{g:Str}{h:Option Str}(hg:PyData.strOk g=true)(hh:∀ x,h=some x->PyData.strOk x=true){tr kd st nl:D}{x y:Option D}(H:Hh):∀ {bl:Bl},YN bl->∃ J L,(H++J)[L]?=some (.lst [.str (std bl g),hD (jD bl h)])/\∀ {r:Ss}{o:RS},Ss.run cl r [some (.tup [.str "call",.str g,hD h,tr]),some kd,some (lbD bl),some st,some nl,x,y,some (.loc L),none,none] (H++J)=o->Ss.run cl (.cons (.set 7 (.ofL (.disp (.cons (.sub (.var 0 ⟨408,23,408,32⟩) (.int 1 ⟨408,33,408,34⟩) ⟨408,23,408,35⟩) (.cons (.sub (.var 0 ⟨408,37,408,46⟩) (.int 2 ⟨408,47,408,48⟩) ⟨408,37,408,49⟩) .nil)) ⟨408,22,408,50⟩)) ⟨408,4,408,19⟩ ⟨408,4,408,50⟩) (.cons (.iff (.cmp .IsNot (.var 2 ⟨409,7,409,18⟩) (.non ⟨409,26,409,30⟩) ⟨409,7,409,30⟩) (.cons (.set 7 (.ofL (.comp yx yz (.seq (.var 7 ⟨410,106,410,121⟩)) yy ["_law_name","_law_blocks"] [none,some 2] yA ⟨410,26,410,122⟩)) ⟨410,8,410,23⟩ ⟨410,8,410,122⟩) .nil) .nil ⟨409,4,410,122⟩) r)) [some (.tup [.str "call",.str g,hD h,tr]),some kd,some (lbD bl),some st,some nl,x,y,none,none,none] H=o
 | none,hb=>⟨[O.lst [D.str g,hD h]],H.length,by cases h<;>exact zr,λ {r o} k=>zg (d:=.loc H.length) (h':=H++[O.lst [D.str g,hD h]]) (d2 rfl rfl) (zk rfl k)⟩
 | some p,hb=>by
  have c1:zU .Eq (.str g) (.str p.1) (((H++[O.lst [.str g,hD h]])++[O.lst [.str g,.str p.2]]))=.ok (.bl (g==p.1)) _:=eqS hg (hb p rfl).1;have s1:zX (.loc (H++[O.lst [.str g,hD h]]).length) (.int (if (g==p.1)=true then 1 else 0)) ((H++[O.lst [.str g,hD h]])++[O.lst [.str g,.str p.2]])=.ok (.str (std (some p) g)) ((H++[O.lst [.str g,hD h]])++[O.lst [.str g,.str p.2]]):=by
   show _=Res.ok (D.str (if (g==p.1)=true then p.2 else g)) _;cases (g==p.1)
   ·exact jQ zr a0
   ·exact jQ zr a1
  generalize hX:(H++[O.lst [.str g,hD h]])++[O.lst [.str g,.str p.2]]=X at c1 s1;have b2:∃ b:Bool,zU .Eq (hD h) (.str p.1) (X++[O.lst [hD h,.str p.2]])=.ok (.bl b) (X++[O.lst [hD h,.str p.2]])/\zX (.loc X.length) (.int (if b=true then 1 else 0)) (X++[O.lst [hD h,.str p.2]])=.ok (hD (jD (some p) h)) (X++[O.lst [hD h,.str p.2]]):=by
   cases h with
   | none=>exact ⟨false,z4v (hb p rfl).1,jQ zr a0⟩
   | some z =>
    refine ⟨z==p.1,eqS (hh z rfl) (hb p rfl).1,?_⟩;show _=Res.ok (D.str (if (z==p.1)=true then p.2 else z)) _;cases (z==p.1)
    ·exact jQ zr a0
    ·exact jQ zr a1
  obtain ⟨b,c2,s2⟩:=b2;have gX:X[H.length]?=some (.lst [.str g,hD h]):=by rw [<- hX];exact zd zr
  have st1:stay [(H.length,[.str g,hD h])] (H++[O.lst [.str g,hD h]]):=λ q hq=>by rw [Y0a.mp hq];exact rdl zr
  have st2:stay [(H.length,[.str g,hD h])] X:=λ q hq=>by rw [Y0a.mp hq];exact rdl gX
  have st3:stay [(H.length,[.str g,hD h])] (X++[O.lst [hD h,.str p.2]]):=λ q hq=>by rw [Y0a.mp hq];exact rdl (zd gX)
  refine ⟨[O.lst [.str g,hD h],O.lst [.str g,.str p.2],O.lst [hD h,.str p.2],.lst [.str (std (some p) g),hD (jD (some p) h)]],(X++[O.lst [hD h,.str p.2]]).length,?_,λ {r o} k=>?_⟩
  ·rw [show H++[O.lst [.str g,hD h],O.lst [.str g,.str p.2],O.lst [hD h,.str p.2],.lst [.str (std (some p) g),hD (jD (some p) h)]]=(X++[O.lst [hD h,.str p.2]])++[.lst [.str (std (some p) g),hD (jD (some p) h)]] from by rw [<- hX];simp];exact zr
  ·refine zg (d:=.loc H.length) (h':=H++[O.lst [D.str g,hD h]]) (d2 rfl rfl) (zQ rfl (zg (d:=.loc (X++[O.lst [hD h,.str p.2]]).length) (h':=(X++[O.lst [hD h,.str p.2]])++[.lst [.str (std (some p) g),hD (jD (some p) h)]]) (j3 (q:=([(H.length,[.str g,hD h])],[.str g,hD h])) (xs:=[.str (std (some p) g),hD (jD (some p) h)]) (h2:=X++[O.lst [hD h,.str p.2]]) (qO rfl (rdl zr)) (by simp) ?_) rfl) ?_)
   ·rw [zS,if_pos st1];refine bnd (x:=some (.str (std (some p) g))) (h:=X) (ju (d:=.str (std (some p) g)) (h2:=X) (h':=H++[O.lst [.str g,hD h]]) rfl rfl ?_) ?_
    ·exact vsub.trans (bnd (x:=.loc (H++[O.lst [.str g,hD h]]).length) (h:=X) ((d2 rfl rfl).trans (by rw [hX])) (bnd (bnd (bnd rfl (bnd rfl c1)) rfl) s1))
    ·rw [zS,if_pos st2];refine bnd (x:=some (hD (jD (some p) h))) (h:=X++[O.lst [hD h,.str p.2]]) (ju (d:=hD (jD (some p) h)) (h2:=X++[O.lst [hD h,.str p.2]]) (h':=X) rfl rfl ?_) ?_
     ·exact vsub.trans (bnd (d2 rfl rfl) (bnd (bnd (bnd rfl (bnd rfl c2)) rfl) s2))
     ·rw [zS,if_pos st3];rfl
   ·rw [show H++[O.lst [.str g,hD h],O.lst [.str g,.str p.2],O.lst [hD h,.str p.2],.lst [.str (std (some p) g),hD (jD (some p) h)]]=(X++[O.lst [hD h,.str p.2]])++[.lst [.str (std (some p) g),hD (jD (some p) h)]] from by rw [<- hX];simp] at k;exact k
end
def look (fs:List Fn)(g:Str):Option Fn:=fs.find? λ f=>f.nm==g
def pgD (fs:List Fn):D:=.tup (fs.map fnD)
structure FsOk (fs:List Fn):Prop where
 nd:(fs.map (·.nm)).Nodup
 ok:∀ f∈fs,PyData.strOk f.nm=true
 le:fs.length<=1000
def BU (g:Str):D->Option D
 | .tup (k::.str x::r)=>if x==g then some (.tup (k::.str x::r)) else none
 | _=>none
theorem WS {g:Str}{f:Fn}:BU g (fnD f)=if f.nm==g then some (fnD f) else none:=rfl
theorem W8 {g:Str}{f:Fn}:∀ {fs:List Fn},look fs g=some f->∃ l,(fs.map fnD).filterMap (BU g)=fnD f::l
 | [],e=>by cases e
 | x::r,e=>by
  unfold look at e;rw [Y0i,Y1b,WS];cases q:(x.nm==g) with
  | true =>
   rw [Y1j,q] at e;cases e;exact ⟨_,rfl⟩
  | false =>
   rw [Y1j,q] at e;obtain ⟨l,ih⟩:=W8 (fs:=r) e;exact ⟨l,ih⟩
theorem z0u {cl:Nat->List D->Hh->Res D}{fs:List Fn}(o:FsOk fs){g:Str}(hg:PyData.strOk g=true){f:Fn}(e:look fs g=some f){H:Hh}{f0:D->Hh->Res (Option D)}(hf:∀ f∈fs,f0 (fnD f) H=.ok (BU g (fnD f)) H):∃ l,zS [] f0 (fs.map fnD) [] H=.ok (fnD f::l) H:=by
 obtain ⟨l,q⟩:=W8 e;refine ⟨l,?_⟩;have c:=jl (c:=[]) (f:=f0) (h:=H) (λ _ hp=>nomatch hp) (BU g) (fs.map fnD) [] (λ z hz=>by
  obtain ⟨f,hf',rfl⟩:=Y0w.mp hz;exact hf f hf')
 rw [c,q];rfl
theorem WT {tg:Tg}{ρ ρ':En}{ct:En->Hh->Res Bool}{ce:En->Hh->Res D}{x:D}{h h':Hh}(hb:qY tg x ρ=some ρ')(hc:ct ρ' h=.ok false h'):zZ tg ρ ct ce x h=.ok none h':=by
 unfold zZ;rw [hb];exact bnd hc rfl
theorem ctE {cl:Nat->List D->Hh->Res D}{ρ:En}{h h' h2:Hh}{a b:E}{p:Pos}{t:Bool}{op:CmpOp}{x y:D}(ha:a.ev cl ρ h=.ok x h')(hb:b.ev cl ρ h'=.ok y h2)(hc:zU op x y h2=.ok (.bl t) h2):Es.evC cl (.cons (.cmp op a b p) .nil) ρ h=.ok t h2:=by
 rw [z0g];refine (bnd (x:=.bl t) (h:=h2) (bnd ha (bnd hb hc)) ?_);cases t<;>rfl
theorem z0v {H:Hh}{m:Nat}{names:List Str}{nums:List Int}(g:H[m]?=some (.lst (nums.map .int))):lzD (.tup (names.map .str)) (.loc m) H=.ok (.loc H.length) (H++[.lst (kl (names.zip nums).reverse)]):=by
 have q:lzD (.tup (names.map .str)) (.loc m) H=(match (PI.rd H m).map (λ xs=>(([(m,xs)],xs):Ck×List D)) with | some q=>new (.lst (((names.map D.str).zip q.2).map w4)) H | none=>.no):=rfl
 rw [q,rdl g];show new (.lst (((names.map D.str).zip (nums.map D.int)).map w4)) H=_;unfold kl;rw [List.zip_map,Y2l,List.reverse_reverse];rfl
section
variable {av:List Nat}{bd:Int}{sl:Nat}{fs:List Fn}
theorem pgE {H:Hh}{a:Sta}{e:D}(q:SD (pgD fs) av bd H sl a e):zX (.loc sl) (.str "program") H=.ok (pgD fs) H:=by
 obtain ⟨rl,al,g1,_⟩:=q.ex;exact qk g1 rfl
theorem WU {g:Str}{f:Fn}(e:look fs g=some f):f.nm=g/\f∈fs:=by
 unfold look at e;exact ⟨eq_of_beq (List.find?_some (p:=λ f:Fn=>f.nm==g) e),List.mem_of_find?_eq_some e⟩
abbrev RO (fs:List Fn)(av:List Nat)(bd:Int)(sl:Nat)(H:Hh)(r:Res D)(o:Out):Prop:=∃ HR,r=.ok (YQ o) HR/\SD (pgD fs) av bd HR sl (BR o) (BS o)/\ExS sl H HR
theorem yU (of:FsOk fs):∀ (N:Nat) (t:T) (S:List Str) (kn:List (Str×Int)) (bl:Bl) (k:Nat) (H:Hh) (m:Nat) (a:Sta) (av:List Nat),Ok (look fs) N t S bl->KnOk S kn->YN bl->SOk a->bd<=100000->2*N+3<=k->kn.length<=1000->H[m]?=some (.lst (kl kn))->m≠sl->SD (pgD fs) av bd H sl a .non ->
  RO fs av bd sl H (callI defs k 42 [t.d,.loc m,lbD bl,.loc sl] H) (told (look fs) bd N t kn bl a)
 | 0,t,S,kn,bl,k,H,m,a,av,o,h,ob,so,hb,lk,ll,g,nm,q=>o.elim
 | N+1,.num i,S,kn,bl,k,H,m,a,av,o,h,ob,so,hb,lk,ll,g,nm,q=>by
  obtain ⟨k,rfl⟩:∃ k',k=k'+1:=⟨k-1,by omega⟩;exact ⟨H,(zb (d:=d_law_found) rfl rfl).trans (zj (j1 (zi rfl rfl (eqS jm jm)) rfl)),q,ExS.rfl'⟩
 | N+1,.var x,S,kn,bl,k,H,m,a,av,o,h,ob,so,hb,lk,ll,g,nm,q=>by
  obtain ⟨k,rfl⟩:∃ k',k=k'+1:=⟨k-1,by omega⟩;obtain ⟨v,e⟩:=h.all x o;obtain ⟨J,e1⟩:=z51 (sl:=.loc sl) (bb:=lbD bl) (cl:=callI defs k) (h.sok x o) kn h.key g (by omega) e;have et:told (look fs) bd (N+1) (.var x) kn bl a=.val v a:=by show Out.val ((kn.lookup x).getD 0) a=_;rw [e];rfl
  rw [et];exact ⟨H++J,(zb (d:=d_law_found) rfl rfl).trans e1,q.app,ExS.app⟩
 | N+1,.doo x p,S,kn,bl,k,H,m,a,av,o,h,ob,so,hb,lk,ll,g,nm,q=>by
  obtain ⟨k,rfl⟩:∃ k',k=k'+5:=⟨k-5,by omega⟩;obtain ⟨H1,e1,q1,x1⟩:=yU of N p S kn bl (k+4) H m a av o.2 h ob so hb (by omega) ll g nm q;have et:told (look fs) bd (N+1) (.doo x p) kn bl a=(told (look fs) bd N p kn bl a).bind λ v s1=>yE bd x v s1:=rfl;rw [zb (d:=d_law_found) rfl rfl,et];cases ep:told (look fs) bd N p kn bl a with
  | fin e0 s1 =>
   rw [ep] at e1 q1;exact ⟨H1,zj (zk (zi rfl rfl (eqS jp jm)) (zk (zi rfl rfl (eqS jp jn)) (zk (zi rfl rfl (eqS jp wc)) (zk (zi rfl rfl (eqS jp zL)) (zg (bnd rfl (bnd rfl e1)) rfl))))),q1,x1⟩
  | val v1 s1 =>
   obtain ⟨a1,b1⟩:=j7 N p S kn bl a o.2 h so v1 s1 ep;rw [ep] at e1 q1;have q1:SD (pgD fs) av bd H1 sl s1 .non:=q1;have lr:=b1.rc;by_cases hu:s1.u<bd
   ·obtain ⟨HR,e3,qR,xR⟩:=z3d (n:=k+1) (x:=x) (v:=v1) q1 (by omega);exact ⟨HR,zj (zk (zi rfl rfl (eqS jp jm)) (zk (zi rfl rfl (eqS jp jn)) (zk (zi rfl rfl (eqS jp wc)) (zk (zi rfl rfl (eqS jp zL)) (zg (bnd rfl (bnd rfl e1)) (zk rfl (zD (bnd rfl (bnd rfl e3))))))))),qR,x1.tr xR⟩
   ·obtain ⟨HR,e3,qR,xR⟩:=Ja (n:=k+1) q1 hu;have dt:yE bd x v1 s1=.fin jA s1:=if_neg hu;refine ⟨HR,?_,by show SD (pgD fs) av bd HR sl (BR (yE bd x v1 s1)) (BS (yE bd x v1 s1));rw [dt];exact qR,x1.tr xR⟩;have ed:callI defs (k+4) 35 [.str x,.int v1,.loc sl] H1=.ok (YQ (yE bd x v1 s1)) HR:=by
     rw [zb (d:=wU) rfl rfl,dt];exact zj (j1 (bnd (bnd (bnd rfl (bnd rfl e3)) rfl) rfl) rfl)
    exact zj (zk (zi rfl rfl (eqS jp jm)) (zk (zi rfl rfl (eqS jp jn)) (zk (zi rfl rfl (eqS jp wc)) (zk (zi rfl rfl (eqS jp zL)) (zg (bnd rfl (bnd rfl e1)) (zk rfl (zD (bnd rfl (bnd rfl ed)))))))))
 | N+1,.op z p t,S,kn,bl,k,H,m,a,av,o,h,ob,so,hb,lk,ll,g,nm,q=>by
  obtain ⟨k,rfl⟩:∃ k',k=k'+5:=⟨k-5,by omega⟩;obtain ⟨H1,e1,q1,x1⟩:=yU of N p S kn bl (k+3) H m a av o.2.1 h ob so hb (by omega) ll g nm q;have et:told (look fs) bd (N+1) (.op z p t) kn bl a=(told (look fs) bd N p kn bl a).bind λ v s1=>(told (look fs) bd N t kn bl s1).bind λ w s2=>WQ z v w s2:=rfl;have key:RO fs av bd sl H (callI defs (k+4) 40 [(T.op z p t).d,.loc m,lbD bl,.loc sl] H) (told (look fs) bd (N+1) (.op z p t) kn bl a):=by
   rw [et,zb (d:=ZY) rfl rfl];cases ep:told (look fs) bd N p kn bl a with
   | fin e0 s1 =>
    rw [ep] at e1 q1;exact ⟨H1,zj (zg (bnd rfl (bnd rfl e1)) rfl),q1,x1⟩
   | val v1 s1 =>
    obtain ⟨a1,b1⟩:=j7 N p S kn bl a o.2.1 h so v1 s1 ep;rw [ep] at e1 q1;have q1:SD (pgD fs) av bd H1 sl s1 .non:=q1;obtain ⟨H3,e3,q3,x3⟩:=yU of N t S kn bl (k+3) H1 m s1 av o.2.2 h ob b1 hb (by omega) ll (x1 _ _ nm g) nm q1;show RO fs av bd sl H _ ((told (look fs) bd N t kn bl s1).bind λ w s2=>WQ z v1 w s2);cases e2:told (look fs) bd N t kn bl s1 with
    | fin e0 s2 =>
     rw [e2] at e3 q3;exact ⟨H3,zj (zg (bnd rfl (bnd rfl e1)) (zk rfl (zg (bnd rfl (bnd rfl e3)) rfl))),q3,x1.tr x3⟩
    | val v2 s2 =>
     obtain ⟨a2,b2⟩:=j7 N t S kn bl s1 o.2.2 h b1 v2 s2 e2;rw [e2] at e3 q3;have q3:SD (pgD fs) av bd H3 sl s2 .non:=q3;have rk:=BP (cl:=callI defs (k+2)) (h:=H3) o.1 a1 a2;show RO fs av bd sl H _ (WQ z v1 v2 s2);unfold WQ;cases er:wH z v1 v2 with
     | some i =>
      rw [er] at rk;exact ⟨H3,zj (zg (bnd rfl (bnd rfl e1)) (zk rfl (zg (bnd rfl (bnd rfl e3)) (zk rfl (zg (d:=.int i) (bnd rfl (bnd rfl ((zb (d:=d_law_reckoned) rfl rfl).trans rk))) rfl))))),q3,x1.tr x3⟩
     | none =>
      rw [er] at rk;obtain ⟨H4,e4,q4,x4⟩:=Zl (n:=k+2) (z:=WM) q3;exact ⟨H4,zj (zg (bnd rfl (bnd rfl e1)) (zk rfl (zg (bnd rfl (bnd rfl e3)) (zk rfl (zg (d:=.non) (bnd rfl (bnd rfl ((zb (d:=d_law_reckoned) rfl rfl).trans rk))) (j1 rfl (zD (bnd rfl (bnd rfl e4))))))))),q4,x1.tr (x3.tr x4)⟩
  obtain ⟨HR,eR,qR,xR⟩:=key;refine ⟨HR,?_,qR,xR⟩;rw [zb (d:=d_law_found) rfl rfl];exact zj (zk (zi rfl rfl (eqS wc jm)) (zk (zi rfl rfl (eqS wc jn)) (j1 (zi rfl rfl (eqS wc wc)) (zD (bnd rfl (bnd rfl eR))))))
 | N+1,.call gn hh as,S,kn,bl,k,H,m,a,av,o,h,ob,so,hb,lk,ll,g,nm,q=>by
  obtain ⟨k,rfl⟩:∃ k',k=k'+5:=⟨k-5,by omega⟩;have la:=o.2.2.2.1;have et:∀ f,wJ (λ t s=>told (look fs) bd N t kn bl s) as a f=wJ (λ t s=>told (look fs) bd N t kn bl s) as a f:=λ _=>rfl;have key:RO fs av bd sl H (callI defs (k+4) 41 [(T.call gn hh as).d,.loc m,lbD bl,.loc sl] H) (told (look fs) bd (N+1) (.call gn hh as) kn bl a):=by
   rw [zb (d:=yn) rfl rfl];show RO fs av bd sl H _ (wJ (λ t s=>told (look fs) bd N t kn bl s) as a λ vs s1=>if s1.u<bd then (match look fs (std bl gn) with | some f=>(match inn f.blk (jD bl hh) with | some bl'=>told (look fs) bd N f.body (f.ps.zip vs).reverse bl' { s1 with u:=s1.u+1 } | none=>.fin .non s1) | none=>.fin .non s1) else .fin jA s1)
   have lsl:=q.ne;have lm:=zu g;rcases Od (F:=λ t s=>told (look fs) bd N t kn bl s) (tr:=(T.call gn hh as).d) (bb:=lbD bl) (K:=k+3) (pg:=pgD fs) (av:=H.length::av) (bd:=bd) (ln:=H.length) (m:=m) (sl:=sl) (kn:=kn) (by omega) (by omega) nm Y03 as a [] (H++[.lst []]) none none (λ t ht H a so g q=>yU of N t S kn bl (k+3) H m a _ (o.2.2.1 t ht) h ob so hb (by omega) ll g nm q) (λ t ht s so v s' e=>j7 N t S kn bl s (o.2.2.1 t ht) h so v s' e) so (by rw [Y1t];omega) (zd g) zr q.more with ⟨vs,s1,x',y',H1,f1,f2,f3,f4,f5,f6,f7,f8⟩ | ⟨e,s1,H1,f1,f2,f3,f4⟩
   ·rw [f1];have xH:ExS sl H H1:=λ i o n1 hi=>f8 i o n1 (by have:=zu hi;omega) (zd hi);have q1:=f7.less;by_cases hu:s1.u<bd
    ·rw [if_pos hu];obtain ⟨f,bl',e2,e3,e4,e5,e6,e7⟩:=o.2.2.2.2;rw [e2];show RO fs av bd sl H _ (match inn f.blk (jD bl hh) with | some bl'=>told (look fs) bd N f.body (f.ps.zip vs).reverse bl' { s1 with u:=s1.u+1 } | none=>.fin .non s1)
     rw [e3];show RO fs av bd sl H _ (told (look fs) bd N f.body (f.ps.zip vs).reverse bl' { s1 with u:=s1.u+1 });obtain ⟨H2,t2,q2,x2⟩:=Oc (n:=k+1) f7 hu;have g2:=x2 _ _ (by omega) f6;obtain ⟨J,L,gL,R⟩:=BT (cl:=callI defs (k+3)) o.1 o.2.1 (tr:=.tup (T.ds as)) (kd:=.loc m) (st:=.loc sl) (nl:=.loc H.length) (x:=x') (y:=y') H2 ob;have q3:=q2.app (B:=J);have hst:PyData.strOk (std bl gn)=true:=by
      have:=WU e2
      rw [<- this.1];exact of.ok f this.2
     obtain ⟨l,P⟩:=z0u (cl:=callI defs (k+3)) of hst e2 (H:=H2++J) (f0:=zZ yw (jX [none,some 7] [some (T.call gn hh as).d,some (.loc m),some (lbD bl),some (.loc sl),some (.loc H.length),x',y',some (.loc L),none,none]) (λ ρ' h2=>c_law_call_1.evC (callI defs (k+3)) ρ' h2) (λ ρ' h2=>e_law_call_1.ev (callI defs (k+3)) ρ' h2)) λ f' hf'=>by
      rw [WS];have cq:∀ b,(f'.nm==std bl gn)=b->c_law_call_1.evC (callI defs (k+3)) [some (fnD f'),some (.loc L)] (H2++J)=.ok b (H2++J):=λ b hb=>ctE rfl (bnd rfl (bnd rfl (jQ gL a0))) (by rw [<- hb];exact eqS (of.ok f' hf') hst);cases hb:(f'.nm==std bl gn) with
      | true=>exact ju rfl (cq true hb) rfl
      | false=>exact WT rfl (cq false hb)
     have g3:((H2++J)++[O.lst (fnD f::l)])[H.length]?=some (.lst (vs.map .int)):=zd (zd g2);have LZ:=z0v (names:=f.ps) g3;have g4:=zr (h:=(H2++J)++[O.lst (fnD f::l)]) (x:=.lst (kl (f.ps.zip vs).reverse));have lH2:sl<H2.length:=q2.ne;obtain ⟨HR,e8,qR,xR⟩:=yU of N f.body f.ps (f.ps.zip vs).reverse bl' (k+3) _ _ { s1 with u:=s1.u+1 } (H.length::av) e7 (UC (e4.trans f2.symm) e5 f3) e6 ⟨f4.an,by have:=f4.rc;show (s1.rc.length:Int)<=s1.u+1;omega⟩ hb (by omega) (by rw [Y1p,Y2p];omega) g4 (by simp only [Y0h];omega) q3.app.app;refine ⟨HR,?_,qR.less,xH.tr (x2.tr (ExS.app.tr (ExS.app.tr (ExS.app.tr xR))))⟩;refine zj (zg (d:=.loc H.length) (h':=H++[O.lst []]) rfl (j2 (q:=(([]:Ck),T.ds as)) (h':=H++[O.lst []]) rfl f5 (zk (bnd (bnd (bnd rfl (bnd rfl t2)) rfl) rfl) (R ?_))));refine zg (d:=fnD f) (h':=(H2++J)++[O.lst (fnD f::l)]) (vsub.trans (bnd (j3 (q:=(([]:Ck),fs.map fnD)) (xs:=fnD f::l) (h2:=H2++J) (bnd (bnd rfl (bnd rfl (pgE q3))) rfl) (by rw [Y0d];have:=of.le;omega) P) (bnd rfl (jQ zr a0)))) (zg (d:=.non) rfl ?_);have gL':((H2++J)++[O.lst (fnD f::l)])[L]?=_:=zd gL;cases hk:f.blk with
     | none =>
      have hbl:lbD bl'=.non:=by
       rw [hk] at e3;cases hs:jD bl hh with
       | none=>rw [hs] at e3;cases e3;rfl
       | some z=>rw [hs] at e3;cases e3
      rw [hbl] at e8;have c3:∀ X:Hh,zU .IsNot (hD f.blk) .non X=.ok (.bl false) X:=λ X=>by rw [hk];rfl
      exact zk (zi (x:=hD f.blk) rfl rfl (c3 _)) (zD (bnd (x:=f.body.d) rfl (bnd (bnd (vlistZ.trans (bnd (x:=.tup (f.ps.map .str)) rfl (bnd rfl LZ))) rfl) e8)))
     | some b =>
      have c3:∀ X:Hh,zU .IsNot (hD f.blk) .non X=.ok (.bl true) X:=λ X=>by rw [hk];rfl
      cases hs:jD bl hh with
      | none=>rw [hk,hs] at e3;cases e3
      | some z =>
       have hbl:lbD bl'=.tup [hD f.blk,.str z]:=by
        rw [hk,hs] at e3;cases e3;rw [hk];rfl
       rw [hbl] at e8;rw [hs] at gL';exact zQ (zi (x:=hD f.blk) rfl rfl (c3 _)) (zg (d:=.tup [hD f.blk,.str z]) (Qr rfl (bnd rfl (bnd rfl (jQ gL' a1)))) rfl) (zD (bnd (x:=f.body.d) rfl (bnd (bnd (vlistZ.trans (bnd (x:=.tup (f.ps.map .str)) rfl (bnd rfl LZ))) rfl) e8)))
    ·rw [if_neg hu];obtain ⟨H2,t2,q2,x2⟩:=Ja (n:=k+1) q1 hu;exact ⟨H2,zj (zg (d:=.loc H.length) (h':=H++[O.lst []]) rfl (j2 (q:=(([]:Ck),T.ds as)) (h':=H++[O.lst []]) rfl f5 (j1 (bnd (bnd (bnd rfl (bnd rfl t2)) rfl) rfl) rfl))),q2,xH.tr x2⟩
   ·rw [f1];exact ⟨H1,zj (zg (d:=.loc H.length) (h':=H++[O.lst []]) rfl (z35 (q:=(([]:Ck),T.ds as)) (h':=H++[O.lst []]) rfl f2)),f3.less,λ i o n1 hi=>f4 i o n1 (by have:=zu hi;omega) (zd hi)⟩
  obtain ⟨HR,eR,qR,xR⟩:=key;refine ⟨HR,?_,qR,xR⟩;rw [zb (d:=d_law_found) rfl rfl];exact zj (zk (zi rfl rfl (eqS zL jm)) (zk (zi rfl rfl (eqS zL jn)) (zk (zi rfl rfl (eqS zL wc)) (j1 (zi rfl rfl (eqS zL zL)) (zD (bnd rfl (bnd rfl eR)))))))
end
section
variable {cl:Nat->List D->Hh->Res D}{h:Hh}{ρ:En}
theorem md6 {i:Nat}{k:Int}{c:Int}{b:Bool}{p1 p2 p3 p4 p5:Pos}{j:Int}(e:ρ[i]?=some (some (.int c)))(hk:0<k)(q:(c%k==j)=b):E.evT cl (.cmp .Eq (.bin .Mod (.var i p1) (.int k p2) p3) (.int j p4) p5) ρ h=.ok b h :=
 zi (bnd (x:=.int c) (h:=h) (by rw [jF,e]) (bnd rfl (mdk hk))) rfl (by rw [<- q];rfl)
theorem mdv {i:Nat}{k:Int}{c:Int}{p1 p2 p3:Pos}(e:ρ[i]?=some (some (.int c)))(hk:0<k):E.ev cl (.bin .Mod (.var i p1) (.int k p2) p3) ρ h=.ok (.int (c%k)) h:=bnd (x:=.int c) (h:=h) (by rw [jF,e]) (bnd rfl (mdk hk))
theorem Oe {p1 p2 p3:Pos}:E.ev cl (.bin .Pow (.int 10 p1) (.int 18 p2) p3) ρ h=.ok (.int 1000000000000000000) h:=rfl
theorem pw9 {p1 p2 p3:Pos}:E.ev cl (.bin .Pow (.int 10 p1) (.int 9 p2) p3) ρ h=.ok (.int 1000000000) h:=rfl
theorem Jb {c:Int}:∃ v,d_law_number.run cl [.int c] h=.ok (.int v) h/\Sm v:=by
 have f2:fits (2:Int)=true:=by decide
 have f18:fits (1000000000000000000:Int)=true:=Zg (by decide);have m:c%6=0\/c%6=1\/c%6=2\/c%6=3\/c%6=4\/c%6=5:=by omega
 rcases m with q | q | q | q | q | q
 ·exact ⟨c/6%7-3,zj (zg (bnd rfl (bnd rfl fdk)) (j1 (md6 rfl (by decide) (by rw [q];rfl)) (zD (bnd (mdv rfl (by decide)) rfl)))),by unfold Sm;omega⟩
 ·exact ⟨c/6%2001-1000,zj (zg (bnd rfl (bnd rfl fdk)) (zk (md6 rfl (by decide) (by rw [q];rfl)) (j1 (md6 rfl (by decide) (by rw [q];rfl)) (zD (bnd (mdv rfl (by decide)) rfl))))),by unfold Sm;omega⟩
 ·exact ⟨1000000000+c/6%5-2,zj (zg (bnd rfl (bnd rfl fdk)) (zk (md6 rfl (by decide) (by rw [q];rfl)) (zk (md6 rfl (by decide) (by rw [q];rfl)) (j1 (md6 rfl (by decide) (by rw [q];rfl)) (zD (bnd (bnd pw9 (bnd (mdv rfl (by decide)) rfl)) rfl)))))),by unfold Sm;omega⟩
 ·exact ⟨1000000000000000000-c/6%3,zj (zg (bnd rfl (bnd rfl fdk)) (zk (md6 rfl (by decide) (by rw [q];rfl)) (zk (md6 rfl (by decide) (by rw [q];rfl)) (zk (md6 rfl (by decide) (by rw [q];rfl)) (j1 (md6 rfl (by decide) (by rw [q];rfl)) (zD (bnd Oe (bnd (mdv rfl (by decide)) rfl)))))))),by unfold Sm;omega⟩
 ·exact ⟨c/6%2000000000000000001-1000000000000000000,zj (zg (bnd rfl (bnd rfl fdk)) (zk (md6 rfl (by decide) (by rw [q];rfl)) (zk (md6 rfl (by decide) (by rw [q];rfl)) (zk (md6 rfl (by decide) (by rw [q];rfl)) (zk (md6 rfl (by decide) (by rw [q];rfl)) (j1 (md6 rfl (by decide) (by rw [q];rfl)) (zD (bnd (bnd rfl (bnd (bnd (bnd rfl (bnd Oe (mlk f2 f18))) rfl) mdk)) (bnd Oe rfl))))))))),by unfold Sm;omega⟩
 ·exact ⟨c/6%3-1000000000000000000,zj (zg (bnd rfl (bnd rfl fdk)) (zk (md6 rfl (by decide) (by rw [q];rfl)) (zk (md6 rfl (by decide) (by rw [q];rfl)) (zk (md6 rfl (by decide) (by rw [q];rfl)) (zk (md6 rfl (by decide) (by rw [q];rfl)) (zk (md6 rfl (by decide) (by rw [q];rfl)) (zD (bnd (mdv rfl (by decide)) (bnd Oe rfl))))))))),by unfold Sm;omega⟩
end
def azS:Str:="abcdefghijklmnopqrstuvwxyz"
def teS:Str:="bcdfghjklmnpqrstvwxyz"
def TC:List Nat:=[98,99,100,102,103,104,106,107,108,109,110,112,113,114,115,116,118,119,120,121,122]
theorem z52:cs azS=(List.range 26).map (·+97):=by decide
theorem z53:cs teS=TC:=by decide
theorem z54 (i:Int)(h0:0<=i)(h1:i<26)(h:Hh):zX (.str azS) (.int i) h=.ok (.str (mkS [97+i.toNat])) h:=by
 rw [Wy,if_pos (by decide)]
 have:atI azS.cps.toList i=some (97+i.toNat):=by
  rw [<- Int.toNat_of_nonneg h0];refine atk ?_;show (cs azS)[i.toNat]?=_;rw [z52,Y0u,List.getElem?_range (by omega)];simp;omega
 rw [this];rfl
def tc (i:Int):Nat:=TC.getD i.toNat 0
theorem z0w (i:Int)(h0:0<=i)(h1:i<21)(h:Hh):zX (.str teS) (.int i) h=.ok (.str (mkS [tc i])) h:=by
 rw [Wy,if_pos (by decide)];have hl:i.toNat<TC.length:=by show i.toNat<21;omega
 have:atI teS.cps.toList i=some (tc i):=by
  conv=>lhs;rw [<- Int.toNat_of_nonneg h0]
  refine atk ?_;show (cs teS)[i.toNat]?=_;rw [z53,Y0f hl];unfold tc;rw [Y0q,Y0f hl];rfl
 rw [this];rfl
theorem QB (i:Int):tc i<1114112:=by
 unfold tc;rw [Y0q];cases e:TC[i.toNat]? with
 | none=>decide
 | some x =>
  have:∀ y∈TC,y<1114112:=by decide
  exact this x (Y1e e)
theorem z3g {i j:Int}(h0:0<=i)(h1:i<21)(h2:0<=j)(h3:j<21)(e:tc i=tc j):i=j:=by
 have:∀ a<21,∀ b<21,TC.getD a 0=TC.getD b 0->a=b:=by decide
 have:=this i.toNat (by omega) j.toNat (by omega) e
 omega
section
variable {cl:Nat->List D->Hh->Res D}{c:Int}{h:Hh}{a:Int}
def tk (c:Int)(k:Nat):Int:=(c/64+k)%21
def lk (c:Int)(j:Nat):Int:=(c/64/((j:Int)+1)+5*(j:Int))%26
def sgn (c a:Int)(k j:Nat):Nat:=if (j:Int)=a then tc (tk c k) else 97+(lk c j).toNat
theorem Vw {k j:Nat}:sgn c a k j<1114112:=by
 unfold sgn lk
 split
 ·exact QB _
 ·omega
theorem z55 {x y:List Nat}(hl:x.length+y.length<=1000):jE .Add (.str (mkS x)) (.str (mkS y)) h=.ok (.str (mkS (x++y))) h:=by
 rw [bin_adds,if_pos (by rw [GX,GX];omega),Vk]
theorem UG {d0 d1 d4 d5 d7:Option D}{k:Nat}:∀ (m j:Nat) (Z:List Nat) (x y:Option D),j+m<=8->Z.length=j->∃ x' y',j8 [] (zG yb λ ρ' h'=>b_law_names_4.run cl ρ' h') ((List.range' j m).map λ (i:Nat)=>D.int (i:Nat)) [some (.int c),d1,some (.str azS),some (.str teS),d4,d5,some (.int a),d7,some (.int (k:Nat)),some (.str (mkS Z)),x,y] h=.nx [some (.int c),d1,some (.str azS),some (.str teS),d4,d5,some (.int a),d7,some (.int (k:Nat)),some (.str (mkS (Z++(List.range' j m).map (sgn c a k)))),x',y'] h
 | 0,j,Z,x,y,_,_=>⟨x,y,by rw [show (List.range' j 0)=[] from rfl,Y2e,Y2e,Y0y];exact qi⟩
 | m+1,j,Z,x,y,hj,hZ=>by
  have f1:fits (5:Int)=true:=by decide
  have f2:fits (j:Int)=true:=Zg (by omega);have l0:0<=lk c j:=by unfold lk;omega
  have l1:lk c j<26:=by unfold lk;omega
  have t0:0<=tk c k:=by unfold tk;omega
  have t1:tk c k<21:=by unfold tk;omega
  obtain ⟨x',y',ih⟩:=UG (d0:=d0) (d1:=d1) (d4:=d4) (d5:=d5) (d7:=d7) (k:=k) m (j+1) (Z++[sgn c a k j]) (some (.int (j:Nat))) (some (.str (mkS [sgn c a k j]))) (by omega) (by simp [hZ]);refine ⟨x',y',?_⟩;rw [Y2a,Y0i,Y0i];rw [Y0l] at ih;refine j9 (λ _ hp=>nomatch hp) (wz (zg (d:=.str (mkS [97+(lk c j).toNat])) (h':=h) (bnd rfl (bnd (bnd (bnd (bnd (bnd rfl (bnd rfl fdk)) (bnd rfl (fdk (by omega)))) (bnd (bnd rfl (bnd rfl (mlk f1 f2))) rfl)) (bnd rfl mdk)) (z54 _ l0 l1 h))) ?_)) ih;by_cases e:(j:Int)=a
  ·have es:sgn c a k j=tc (tk c k):=if_pos e;rw [es];exact zQ (zi rfl rfl (eqI.trans (by rw [e,beq_self_eq_true]))) (zg (bnd rfl (bnd (bnd (bnd (bnd rfl (bnd rfl fdk)) rfl) (bnd rfl mdk)) (z0w _ t0 t1 h))) rfl) (zg (bnd rfl (bnd rfl (z55 (by simp;omega)))) rfl)
  ·have es:sgn c a k j=97+(lk c j).toNat:=if_neg e;rw [es];exact zk (zi rfl rfl (eqI.trans (by rw [show ((j:Int)==a)=false from by simpa using e]))) (zg (bnd rfl (bnd rfl (z55 (by simp;omega)))) rfl)
def nm (c a:Int)(sz:Nat)(k:Nat):Str:=mkS ((List.range' 0 sz).map (sgn c a k))
theorem z6q {ρ:En}{P:Hh}{l:List D}{v:D}{p1 p2 p3 p4:Pos}(e7:ρ[7]?=some (some (.loc P.length)))(e9:ρ[9]?=some (some v))(hl:l.length<1000):E.ev cl (.m1 .append (.var 7 p1) (.var 9 p2) p3 p4) ρ (P++[.lst l])=.ok .non (P++[.lst (l++[v])]):=by
 rw [vm1,jF,e7,bind_ok,YE zr,jF,e9,bind_ok];show (match (P++[O.lst l])[P.length]? with | some (.lst xs)=>if xs.length<1000000 then Res.ok D.non ((P++[O.lst l]).set P.length (.lst (xs++[v]))) else .no | _=>.no)=_
 rw [zr];simp only [show l.length<1000000 from by omega,if_true];rw [Y23 _ _ (Y04 _),Y11];rfl
theorem QC {d1 d4:Option D}{sz:Nat}{P:Hh}(hsz:sz<=8):∀ (m k:Nat) (l:List D) (x8 x9 x10 x11:Option D),k+m<=13->l.length=k->∃ y8 y9 y10 y11,j8 [] (zG yc λ ρ' h'=>b_law_names_3.run cl ρ' h') ((List.range' k m).map λ (i:Nat)=>D.int (i:Nat)) [some (.int c),d1,some (.str azS),some (.str teS),d4,some (.int (sz:Nat)),some (.int a),some (.loc P.length),x8,x9,x10,x11] (P++[.lst l])=.nx [some (.int c),d1,some (.str azS),some (.str teS),d4,some (.int (sz:Nat)),some (.int a),some (.loc P.length),y8,y9,y10,y11] (P++[.lst (l++(List.range' k m).map λ k=>.str (nm c a sz k))])
 | 0,k,l,x8,x9,x10,x11,_,_=>⟨x8,x9,x10,x11,by rw [show (List.range' k 0)=[] from rfl,Y2e,Y2e,Y0y];exact qi⟩
 | m+1,k,l,x8,x9,x10,x11,hk,hl=>by
  obtain ⟨x',y',e⟩:=UG (cl:=cl) (c:=c) (a:=a) (h:=P++[.lst l]) (d0:=none) (d1:=d1) (d4:=d4) (d5:=some (.int (sz:Nat))) (d7:=some (.loc P.length)) (k:=k) sz 0 [] x10 x11 (by omega) rfl;obtain ⟨y8,y9,y10,y11,ih⟩:=QC (P:=P) (d1:=d1) (d4:=d4) hsz m (k+1) (l++[.str (nm c a sz k)]) (some (.int (k:Nat))) (some (.str (nm c a sz k))) x' y' (by omega) (by simp [hl]);refine ⟨y8,y9,y10,y11,?_⟩;rw [Y2a,Y0i,Y0i];rw [Y0l l [.str (nm c a sz k)]] at ih;have e0:(Str.ofString "")=mkS []:=by decide
  refine j9 (λ _ hp=>nomatch hp) (wz (zg (d:=.str (mkS [])) (h':=P++[.lst l]) (by rw [<- e0];rfl) (j2 (z0k rfl (by omega)) ?_ (wo (z6q (l:=l) rfl rfl (by omega)) rfl)))) ih;rw [Y1u,List.range_eq_range'];exact e
end
theorem Zf:∀ l:List Bool,qB (l.map D.bl)=some l
 | []=>rfl
 | b::r=>by show (qB (r.map D.bl)).map (b::·)=_;rw [Zf r];rfl
def wds:List Str:=["def","handler","on","end","let","if","call","hand","do","handle","go","guard"]
structure Nms (M:Nat)(H:Hh)(o:Res D):Prop where
 ex:∃ (J:Hh) (ws:List Str) (mq:Nat),o=.ok (.loc mq) (H++J)/\(H++J)[mq]?=some (.lst (ws.map D.str))/\ws.length=M/\(∀ x∈ws,PyData.strOk x=true)/\ws.Nodup
theorem Of {f:Nat->Str}{M:Nat}(h:∀ i j,i<j->j<M->f i≠f j):((List.range' 0 M).map f).Nodup:=by
 rw [List.Nodup,List.pairwise_map];exact (Y2v (s:=0) (n:=M)).imp_of_mem λ ha hb lt=>h _ _ lt (by have:=Y18.mp hb;omega)
theorem YR {cl:Nat->List D->Hh->Res D}{ρ:En}{h h':Hh}{e:E}{p1 p2:Pos}{M:Nat}(ha:e.ev cl ρ h=.ok (.int (M:Nat)) h')(hM:M<=1000000):I.ev cl (.rng e p1 p2) ρ h=.ok ([],(List.range' 0 M).map λ k=>.int (k:Nat)) h':=by
 rw [z0k ha (by omega),Y1u,List.range_eq_range']
section
variable {n:Nat}{c:Int}{H:Hh}{M:Nat}
theorem z0x {i j:Nat}(hi:i<j)(hj:j<21):tc (tk c i)≠tc (tk c j):=λ e=>by
 have:=z3g (i:=tk c i) (j:=tk c j) (by unfold tk;omega) (by unfold tk;omega) (by unfold tk;omega) (by unfold tk;omega) e
 unfold tk at this;omega
theorem z56 {a:Int}{sz i j:Nat}(h0:0<=a)(h1:a<sz)(hi:i<j)(hj:j<21):nm c a sz i≠nm c a sz j:=λ e=>by
 have e:=GW e;have q:=congrArg (λ l=>l[a.toNat]?) e;have hi':a.toNat<sz:=by omega
 simp only [Y0u,List.getElem?_range' hi',Y2n,Option.some.injEq] at q
 have:((0+1*a.toNat:Nat):Int)=a:=by omega
 unfold sgn at q;rw [if_pos this,if_pos this] at q;exact z0x hi hj q
theorem WV (hM:M<=13):Nms M H (callI defs (n+1) 29 [.int c,.int (M:Nat)] H):=by
 rw [zb (d:=qH) rfl rfl];obtain ⟨sz,hsz⟩:∃ sz:Nat,(sz:Int)=1+c%8:=⟨(1+c%8).toNat,by omega⟩;have s8:sz<=8:=by omega
 have h0:0<=c/8%(sz:Int):=Y25 _ (by omega);have h1:c/8%(sz:Int)<sz:=Y20 _ (by omega);obtain ⟨y8,y9,y10,y11,lp⟩:=QC (cl:=callI defs n) (c:=c) (a:=c/8%(sz:Int)) (d1:=some (.int (M:Nat))) (d4:=some (.loc H.length)) (P:=H++[.lst (wds.map D.str)]) s8 M 0 [] none none none none (by omega) rfl;rw [Y14] at lp;generalize hns:((List.range' 0 M).map λ k=>nm c (c/8%(sz:Int)) sz k)=ns;have hnd:((List.range' 0 M).map λ k=>D.str (nm c (c/8%(sz:Int)) sz k))=ns.map D.str:=by rw [<- hns,Y2l];rfl
 rw [hnd] at lp;have nok:∀ x∈ns,PyData.strOk x=true:=λ x hx=>by
  rw [<- hns] at hx;obtain ⟨k,_,rfl⟩:=Y0w.mp hx;exact z0i λ z hz=>by
   obtain ⟨j,_,rfl⟩:=Y0w.mp hz;exact Vw
 have nlen:ns.length=M:=by rw [<- hns];simp
 generalize hP:H++[O.lst (wds.map D.str)]=P at lp;have gw:∀ (B:Hh),(P++B)[H.length]?=some (.lst (wds.map D.str)):=λ B=>zd (by rw [<- hP];exact zr);have an:E.evT (callI defs n) (.c1 .any (.ofL (.comp e_law_names_1 wv (.seq (.var 7 ⟨296,53,296,68⟩)) c_law_names_1 ["_law_name","_law_words"] [none,some 4] y7 ⟨296,11,296,69⟩)) ⟨296,7,296,10⟩ ⟨296,7,296,70⟩) [some (.int c),some (.int (M:Nat)),some (.str azS),some (.str teS),some (.loc H.length),some (.int (sz:Nat)),some (.int (c/8%(sz:Int))),some (.loc P.length),y8,y9,y10,y11] (P++[.lst (ns.map D.str)])=.ok ((ns.map λ x=>wds.any λ y=>y==x).any id) (P++[.lst (ns.map D.str)]++[.lst ((ns.map λ x=>wds.any λ y=>y==x).map D.bl)]):=by
  refine bnd (x:=.bl ((ns.map λ x=>wds.any λ y=>y==x).any id)) (bnd (j3 (q:=([(P.length,ns.map D.str)],ns.map D.str)) (xs:=(ns.map λ x=>wds.any λ y=>y==x).map D.bl) (h2:=P++[.lst (ns.map D.str)]) (qO rfl (rdl zr)) (by show (ns.map D.str).length<=1000000;rw [Y0d,nlen];omega) ?_) ?_) rfl
  ·have cc:=jl (c:=[(P.length,ns.map D.str)]) (f:=zZ wv (jX [none,some 4] [some (.int c),some (.int (M:Nat)),some (.str azS),some (.str teS),some (.loc H.length),some (.int (sz:Nat)),some (.int (c/8%(sz:Int))),some (.loc P.length),y8,y9,y10,y11]) (λ ρ' h2=>c_law_names_1.evC (callI defs n) ρ' h2) (λ ρ' h2=>e_law_names_1.ev (callI defs n) ρ' h2)) (h:=P++[.lst (ns.map D.str)]) (λ p hp=>by rw [Y0a.mp hp];exact rdl zr) (λ d=>match d with | .str x=>some (.bl (wds.any λ y=>y==x)) | _=>none) (ns.map D.str) [] (λ z hz=>by
    obtain ⟨x,hx,rfl⟩:=Y0w.mp hz;refine ju rfl rfl (bnd rfl (bnd rfl ?_));have q:zU .In (.str x) (.loc H.length) (P++[.lst (ns.map D.str)])=match (P++[O.lst (ns.map D.str)])[H.length]? with
     | some (.lst ds)=>Ww false (.str x) ds (P++[.lst (ns.map D.str)])
     | some (.dK kvs)=>(match qy (.str x) with | some k=>Res.ok (.bl (ngB false (jC kvs k).isSome)) (P++[.lst (ns.map D.str)]) | none=>.no)
     | _=>.no:=rfl
    rw [q,gw];exact Bc)
   refine cc.trans ?_;rw [Y14,Y2q,Y2l]
   congr 1
   exact List.filterMap_eq_map (f:=λ x=>D.bl (wds.any λ y=>y==x))▸rfl
  ·show (match (PI.rd _ (P++[O.lst (ns.map D.str)]).length).bind qB with | some bs=>Res.ok (D.bl (bs.any id)) _ | none=>.no)=_
   rw [rdl zr];show (match qB ((ns.map λ x=>wds.any λ y=>y==x).map D.bl) with | some bs=>Res.ok (D.bl (bs.any id)) _ | none=>.no)=_
   rw [Zf]
 by_cases hb:(ns.map λ x=>wds.any λ y=>y==x).any id=true
 ·rw [hb] at an
  let A:List O:=[O.lst (ns.map D.str),O.lst ((ns.map λ x=>wds.any λ y=>y==x).map D.bl)]
  have eA:P++[O.lst (ns.map D.str)]++[O.lst ((ns.map λ x=>wds.any λ y=>y==x).map D.bl)]=P++A:=Y0l ..
  rw [eA] at an;generalize A=A at an;have st:E.ev (callI defs n) (.ofL (.comp e_law_names_2 ww (.rng (.var 1 ⟨297,91,297,100⟩) ⟨297,85,297,90⟩ ⟨297,85,297,101⟩) c_law_names_2 ["_law_k","_law_cell","_law_tells"] [none,some 0,some 3] ya ⟨297,26,297,102⟩)) [some (.int c),some (.int (M:Nat)),some (.str azS),some (.str teS),some (.loc H.length),some (.int (sz:Nat)),some (.int (c/8%(sz:Int))),some (.loc P.length),y8,y9,y10,y11] (P++A)=.ok (.loc (P++A).length) (P++A++[.lst (((List.range' 0 M).map λ k=>mkS [tc (tk c k)]).map D.str)]):=by
   refine j3 (q:=([],(List.range' 0 M).map λ k=>.int (k:Nat))) (h2:=P++A) (YR rfl (by omega)) (by show _<=_;simp;omega) ?_;have cc:=jl (c:=[]) (f:=zZ ww (jX [none,some 0,some 3] [some (.int c),some (.int (M:Nat)),some (.str azS),some (.str teS),some (.loc H.length),some (.int (sz:Nat)),some (.int (c/8%(sz:Int))),some (.loc P.length),y8,y9,y10,y11]) (λ ρ' h2=>c_law_names_2.evC (callI defs n) ρ' h2) (λ ρ' h2=>e_law_names_2.ev (callI defs n) ρ' h2)) (h:=P++A) (λ _ hp=>nomatch hp) (λ d=>match d with | .int k=>some (.str (mkS [tc ((c/64+k)%21)])) | _=>none) ((List.range' 0 M).map λ k=>D.int (k:Nat)) [] (λ z hz=>by
    obtain ⟨k,hk,rfl⟩:=Y0w.mp hz;exact ju rfl rfl (bnd rfl (bnd (bnd (bnd (bnd rfl (bnd rfl fdk)) rfl) (bnd rfl mdk)) (z0w _ (by omega) (by omega) _))))
   refine cc.trans ?_;rw [Y14,Y2q,Y2l]
   congr 1
   exact List.filterMap_eq_map (f:=λ k:Nat=>D.str (mkS [tc (tk c k)]))▸rfl
  refine ⟨⟨[.lst (wds.map D.str)]++(A++[.lst (((List.range' 0 M).map λ k=>mkS [tc (tk c k)]).map D.str)]),(List.range' 0 M).map λ k=>mkS [tc (tk c k)],(P++A).length,?_,?_,by simp,?_,Of λ i j hi hj e=>z0x hi (by omega) (List.cons.inj (GW e)).1⟩⟩
  ·rw [<- Y0l,<- Y0l,hP];refine zj (zg rfl (zg rfl (zg (d:=.loc H.length) (h':=P) (by rw [<- hP];rfl) (zg (d:=.int (sz:Nat)) (bnd rfl (bnd (bnd rfl (bnd rfl mdk)) (by rw [hsz];rfl))) (zg (bnd (bnd rfl (bnd rfl fdk)) (bnd rfl (mdk (by omega)))) (zg rfl (j2 (YR rfl (by omega)) lp (zQ an (zg st rfl) rfl))))))))
  ·rw [<- Y0l,<- Y0l,hP];exact zr
  ·intro x hx;obtain ⟨k,_,rfl⟩:=Y0w.mp hx;exact z0i λ z hz=>by rw [Y0a.mp hz];exact QB _
 ·rw [Y2j.mpr hb] at an;refine ⟨⟨[.lst (wds.map D.str)]++([.lst (ns.map D.str)]++[.lst ((ns.map λ x=>wds.any λ y=>y==x).map D.bl)]),ns,P.length,?_,?_,nlen,nok,by rw [<- hns];exact Of λ i j hi hj=>z56 h0 h1 hi (by omega)⟩⟩
  ·rw [<- Y0l,<- Y0l,hP];refine zj (zg rfl (zg rfl (zg (d:=.loc H.length) (h':=P) (by rw [<- hP];rfl) (zg (d:=.int (sz:Nat)) (bnd rfl (bnd (bnd rfl (bnd rfl mdk)) (by rw [hsz];rfl))) (zg (bnd (bnd rfl (bnd rfl fdk)) (bnd rfl (mdk (by omega)))) (zg rfl (j2 (YR rfl (by omega)) lp (zk an rfl))))))))
  ·rw [<- Y0l,<- Y0l,hP];exact zd zr
end
def drw (c:Int)(k:Nat):Int:=(c%1000003*(2*(k:Int)+1)*48271+7919*(k:Int)+c)%2147483647
section
variable {n:Nat}{c:Int}{H:Hh}{k:Nat}
theorem mlt {i:Int}(h:i.natAbs<18446744073709551616):fits i=true:=Zg h
theorem Jc (hk:k<1000):callI defs (n+1) 32 [.int c,.int (k:Nat)] H=.ok (.int (drw c k)) H:=by
 rw [zb (d:=ym) rfl rfl];have h1:0<=c%1000003:=Y25 _ (by decide);have h2:c%1000003<1000003:=Y20 _ (by decide);have h3:0<=c%1000003*(2*(k:Int)+1):=Int.mul_nonneg h1 (by omega);have h4:c%1000003*(2*(k:Int)+1)<=1000003*2001:=Int.mul_le_mul (by omega) (by omega) (by omega) (by omega);exact zj (zD (bnd (bnd (bnd (bnd (bnd (bnd rfl (bnd rfl mdk)) (bnd (bnd (bnd rfl (bnd rfl (mlk (by decide) (mlt (by omega))))) rfl) (mlk (mlt (by omega)) (mlt (by omega))))) (bnd rfl (mlk (mlt (by omega)) (by decide)))) (bnd (bnd rfl (bnd rfl (mlk (by decide) (mlt (by omega))))) rfl)) rfl) (bnd rfl mdk)))
end
theorem Og {xs:List D}{s:Nat}(h:s<=xs.length):zV xs none (some (s:Int))=xs.take s:=by
 unfold zV HT.sIx;simp only [show ¬ ((s:Int)<0) from by omega,if_false,Y1u,Nat.min_eq_left h,List.drop_zero,Nat.sub_zero]
theorem BV (ns:List Int)(lo hi:Option Int):∃ cs:List Int,zV (ns.map D.int) lo hi=cs.map D.int/\cs.length<=ns.length:=by
 unfold zV;rw [<- List.map_drop,<- Y3g];exact ⟨_,rfl,by simp;omega⟩
theorem BW (ns:List Int)(a b:Int)(ha:0<=a)(hb:0<=b):(zV (ns.map D.int) (some a) (some b)).length<=(b-a).toNat:=by
 unfold zV HT.sIx;simp only [show ¬ (a<0) from by omega,show ¬ (b<0) from by omega,if_false,Y1y,Y30,Y0d];omega
section
variable {n:Nat}{H:Hh}{ns:List Int}{ρ:En}
theorem wA (k:Nat):∃ v,callI defs (n+1) 25 [.fl (ns.map .int),.int (k:Nat)] H=.ok (.int v) H:=by
 rw [zb (d:=wu) rfl rfl];have c:∀ {p1 p2 p3 p4 p5:Pos},E.evT (callI defs n) (.cmp .Lt (.var 1 p1) (.len (.var 0 p2) p3 p4) p5) [some (.fl (ns.map .int)),some (.int (k:Nat))] H=.ok (decide ((k:Int)<((ns.map D.int).length:Nat))) H:=zi rfl rfl rfl;by_cases h:k<ns.length
 ·refine ⟨ns[k],zj (j1 (h':=H) ?_ (zD (bnd rfl (bnd rfl (show (match atI (ns.map D.int) (k:Int) with | some d=>Res.ok d H | none=>.no)=_ by rw [atk (by rw [Y0u,Y0f h];rfl)])))))⟩
  exact c.trans (by rw [decide_eq_true (by rw [Y0d];omega)])
 ·refine ⟨0,zj (zk (h':=H) ?_ rfl)⟩;exact c.trans (by rw [decide_eq_false (by rw [Y0d];omega)])
theorem W9 {c:Ck}{f:D->Hh->Res (Option D)}{h:Hh}(st:stay c h):∀ (xs acc:List D),(∀ x∈xs,∃ v,f x h=.ok (some (.int v)) h/\Sm v)->∃ vs:List Int,zS c f xs acc h=.ok (acc++vs.map D.int) h/\vs.length=xs.length/\∀ v∈vs,Sm v
 | [],acc,_=>⟨[],by simp [zS,st],rfl,λ _ h=>nomatch h⟩
 | x::r,acc,e=>by
  obtain ⟨v,e1,s1⟩:=e x Y03;obtain ⟨vs,e2,l2,s2⟩:=W9 st r (acc++[.int v]) λ y hy=>e y (Y02 _ hy);refine ⟨v::vs,?_,by rw [Y09,Y09,l2],λ z hz=>?_⟩
  ·unfold zS;rw [if_pos st,e1,bind_ok,addO_some,e2,Y0l];rfl
  ·rcases Y06.mp hz with rfl | hz
   ·exact s1
   ·exact s2 z hz
end
theorem Vx {cl:Nat->List D->Hh->Res D}{ρ:En}{h h1 h2 h3 h4:Hh}{e1 e2 e3 e4:E}{p:Pos}{x y z u:D}(q1:e1.ev cl ρ h=.ok x h1)(q2:e2.ev cl ρ h1=.ok y h2)(q3:e3.ev cl ρ h2=.ok z h3)(q4:e4.ev cl ρ h3=.ok u h4):E.ev cl (.tup (.cons e1 (.cons e2 (.cons e3 (.cons e4 .nil)))) p) ρ h=.ok (.tup [x,y,z,u]) h4:=bnd (bnd q1 (bnd (bnd q2 (bnd (bnd q3 (bnd (bnd q4 rfl) rfl)) rfl)) rfl)) rfl
theorem Oh {cl:Nat->List D->Hh->Res D}{ρ:En}{h h1 h2 h3 h4 h5:Hh}{e1 e2 e3 e4 e5:E}{p:Pos}{x y z u v:D}(q1:e1.ev cl ρ h=.ok x h1)(q2:e2.ev cl ρ h1=.ok y h2)(q3:e3.ev cl ρ h2=.ok z h3)(q4:e4.ev cl ρ h3=.ok u h4)(q5:e5.ev cl ρ h4=.ok v h5):E.ev cl (.tup (.cons e1 (.cons e2 (.cons e3 (.cons e4 (.cons e5 .nil))))) p) ρ h=.ok (.tup [x,y,z,u,v]) h5:=bnd (bnd q1 (bnd (bnd q2 (bnd (bnd q3 (bnd (bnd q4 (bnd (bnd q5 rfl) rfl)) rfl)) rfl)) rfl)) rfl
theorem Wa {m:Nat}{xs:List D}(g:H[m]?=some (.lst xs)):jZ (.loc m) H=some xs:=by
 show PI.rd H m=_;exact rdl g
theorem sg6 (r:Int):∃ s,Sg s/\∀ h,zX (.str "+-<*+-") (.int (r%6)) h=.ok (.str s) h:=by
 have m:r%6=0\/r%6=1\/r%6=2\/r%6=3\/r%6=4\/r%6=5:=by omega
 unfold Sg;rcases m with q | q | q | q | q | q<;>rw [q]
 ·exact ⟨"+",.inl rfl,λ h=>rfl⟩
 ·exact ⟨"-",.inr (.inl rfl),λ h=>rfl⟩
 ·exact ⟨"<",.inr (.inr (.inr rfl)),λ h=>rfl⟩
 ·exact ⟨"*",.inr (.inr (.inl rfl)),λ h=>rfl⟩
 ·exact ⟨"+",.inl rfl,λ h=>rfl⟩
 ·exact ⟨"-",.inr (.inl rfl),λ h=>rfl⟩
theorem sg3 (r:Int):∃ s,Sg s/\∀ h,zX (.str "+-<") (.int (r%3)) h=.ok (.str s) h:=by
 have m:r%3=0\/r%3=1\/r%3=2:=by omega
 unfold Sg;rcases m with q | q | q<;>rw [q]
 ·exact ⟨"+",.inl rfl,λ h=>rfl⟩
 ·exact ⟨"-",.inr (.inl rfl),λ h=>rfl⟩
 ·exact ⟨"<",.inr (.inr (.inr rfl)),λ h=>rfl⟩
section
variable {n:Nat}{c:Int}{H:Hh}{k:Nat}
theorem UH {x:Str}(hk:k<900):∃ s v,Sg s/\Sm v/\callI defs (n+2) 36 [.int c,.int (k:Nat),.str x] H=.ok (T.op s (.var x) (.num v)).d H:=by
 obtain ⟨s,hs,es⟩:=sg6 (drw c (k+1));have D1:callI defs (n+1) 32 [.int c,.int (k:Nat)] H=_:=Jc (by omega);have D2:callI defs (n+1) 32 [.int c,.int ((k:Int)+1)] H=.ok (.int (drw c (k+1))) H:=Jc (k:=k+1) (by omega);have h0:0<=drw c k%1000000000:=Y25 _ (by decide);have h1:drw c k%1000000000<1000000000:=Y20 _ (by decide);have fin:∀ v:Int,Ss.run (callI defs (n+1)) (jw 2 d_law_shift.body) [some (.int c),some (.int (k:Nat)),some (.str x),some (.int v)] H=.rt (T.op s (.var x) (.num v)).d H:=λ v =>
  zD (Vx rfl (bnd rfl (bnd (bnd (bnd rfl (bnd rfl D2)) (bnd rfl mdk)) (es _))) rfl rfl)
 by_cases q:drw c k%1000000000%5=0
 ·refine ⟨s,drw c k%1000000000*1000000000+7,hs,by unfold Sm;omega,?_⟩;rw [zb (d:=d_law_shift) rfl rfl];exact zj (zg (bnd (bnd rfl (bnd rfl D1)) (bnd pw9 mdk)) (zQ (md6 rfl (by decide) (by rw [q];rfl)) (zg (bnd (bnd rfl (bnd pw9 (mlk (mlt (by omega)) (mlt (by decide))))) rfl) rfl) (fin _)))
 ·refine ⟨s,drw c k%1000000000,hs,by unfold Sm;omega,?_⟩;rw [zb (d:=d_law_shift) rfl rfl];exact zj (zg (bnd (bnd rfl (bnd rfl D1)) (bnd pw9 mdk)) (zk (md6 rfl (by decide) (beq_eq_false_iff_ne.mpr q)) (fin _)))
structure SimF (f:Fn):Prop where
 blk:f.blk=none
 one:f.ps.length=1
 sok:∀ p∈f.ps,PyData.strOk p=true
 go:∀ P N bl,Ok P (N+3) f.body f.ps bl
def Shp (ps:List Str)(t:T):Prop:=∃ s x v,Sg s/\x∈ps/\Sm v/\t=.op s (.var x) (.num v)
theorem Shp.ok {ps:List Str}{t:T}(h:Shp ps t){P:Str->Option Fn}{N:Nat}{bl:Bl}:Ok P (N+2) t ps bl:=by
 obtain ⟨s,x,v,h1,h2,h3,rfl⟩:=h;exact ⟨h1,h2,h3⟩
theorem Oi {nm dd p:Str}(hd:PyData.strOk dd=true)(hp:PyData.strOk p=true):∃ f:Fn,f.nm=nm/\SimF f/\callI defs (n+3) 37 [.int c,.str nm,.str dd,.str p] H=.ok (fnD f) H:=by
 obtain ⟨s,v,hs,hv,e⟩:=UH (n:=n) (c:=c) (H:=H) (k:=0) (x:=p) (by decide);have o1:∀ (P:Str->Option Fn) N bl,Ok P (N+2) (T.op s (.var p) (.num v)) [p] bl:=λ P N bl=>⟨hs,Y03,hv⟩;have so:∀ q∈[p],PyData.strOk q=true:=λ q hq=>by rw [Y0a.mp hq];exact hp
 by_cases q:c%3 > 0
 ·refine ⟨⟨nm,[p],none,.doo dd (.op s (.var p) (.num v))⟩,rfl,⟨rfl,rfl,so,λ P N bl=>⟨hd,o1 P N bl⟩⟩,?_⟩;rw [zb (d:=jN) rfl rfl];exact zj (zg (bnd rfl (bnd rfl e)) (zQ (zi (bnd rfl (bnd rfl mdk)) rfl (show zU .Gt (.int (c%3)) (.int 0) H=.ok (.bl true) H from by show Res.ok (D.bl (decide (c%3 > 0))) H=_;rw [decide_eq_true q])) rfl (zD (Oh rfl rfl rfl rfl rfl))))
 ·refine ⟨⟨nm,[p],none,.op s (.var p) (.num v)⟩,rfl,⟨rfl,rfl,so,λ P N bl=>o1 P (N+1) bl⟩,?_⟩;rw [zb (d:=jN) rfl rfl];exact zj (zg (bnd rfl (bnd rfl e)) (zk (zi (bnd rfl (bnd rfl mdk)) rfl (show zU .Gt (.int (c%3)) (.int 0) H=.ok (.bl false) H from by show Res.ok (D.bl (decide (c%3 > 0))) H=_;rw [decide_eq_false q])) (zD (Oh rfl rfl rfl rfl rfl))))
end
theorem UI {R:T->Prop}{c:Ck}{f:D->Hh->Res (Option D)}{h:Hh}(st:stay c h):∀ (xs acc:List D),(∀ x∈xs,∃ t:T,f x h=.ok (some t.d) h/\R t)->∃ ts:List T,zS c f xs acc h=.ok (acc++ts.map T.d) h/\ts.length=xs.length/\∀ t∈ts,R t
 | [],acc,_=>⟨[],by simp [zS,st],rfl,λ _ h=>nomatch h⟩
 | x::r,acc,e=>by
  obtain ⟨v,e1,s1⟩:=e x Y03;obtain ⟨vs,e2,l2,s2⟩:=UI st r (acc++[v.d]) λ y hy=>e y (Y02 _ hy);refine ⟨v::vs,?_,by rw [Y09,Y09,l2],λ z hz=>?_⟩
  ·unfold zS;rw [if_pos st,e1,bind_ok,addO_some,e2,Y0l];rfl
  ·rcases Y06.mp hz with rfl | hz
   ·exact s1
   ·exact s2 z hz
def PsT (blk:Str)(ps:List Str)(Hn:Str->Prop):Option (Str×Nat)->T->Prop
 | none,t=>∃ sh,Shp ps sh/\t=.call blk none [sh]
 | some (nx,cnt),t=>∃ s sh hnd args,Sg s/\Shp ps sh/\Hn hnd/\args.length=cnt/\(∀ a∈args,Shp ps a)/\(t=.op s (.call blk none [sh]) (.call nx (some hnd) args)\/t=.op s (.call nx (some hnd) args) (.call blk none [sh]))
def onD (hd:Option Str):Option (Str×Nat)->D
 | none=>.non
 | some (nx,cnt)=>.tup [.str nx,.int (cnt:Nat),hD hd]
section
variable {n:Nat}{c:Int}{H:Hh}{mp:Nat}{ps:List Str}
theorem z6r (g:H[mp]?=some (.lst (ps.map .str)))(h0:ps≠[])(r:Int):∃ x∈ps,zX (.loc mp) (.int (r%((ps.map D.str).length:Nat))) H=.ok (.str x) H:=by
 have hp:0<ps.length:=List.length_pos_iff.mpr h0;have a:0<=r%(ps.length:Int):=Y25 _ (by omega);have b:r%(ps.length:Int)<ps.length:=Y20 _ (by omega);obtain ⟨i,hi⟩:∃ i:Nat,r%(ps.length:Int)=i:=⟨(r%(ps.length:Int)).toNat,by omega⟩;rw [Y0d,hi];have hl:i<ps.length:=by omega
 exact ⟨ps[i],List.getElem_mem hl,jQ g (atk (by rw [Y0u,Y0f hl];rfl))⟩
theorem mdp (h0:ps≠[])(r:Int):jE .Mod (.int r) (.int ((ps.map D.str).length:Nat)) H=.ok (.int (r%((ps.map D.str).length:Nat))) H:=mdk (by rw [Y0d];have:=List.length_pos_iff.mpr h0;omega)
theorem shE (g:H[mp]?=some (.lst (ps.map .str)))(h0:ps≠[]){k j:Nat}(hk:k<900)(hj:j<900):∃ t,Shp ps t/\∀ {ρ:En}{ce ce2 ke je pe pe2:E}{p1 p2 p3 p4 p5 p6 p7 p8:Pos},ce.ev (callI defs (n+2)) ρ H=.ok (.int c) H->ce2.ev (callI defs (n+2)) ρ H=.ok (.int c) H->ke.ev (callI defs (n+2)) ρ H=.ok (.int (k:Nat)) H->je.ev (callI defs (n+2)) ρ H=.ok (.int (j:Nat)) H->pe.ev (callI defs (n+2)) ρ H=.ok (.loc mp) H->pe2.ev (callI defs (n+2)) ρ H=.ok (.loc mp) H ->
  E.ev (callI defs (n+2)) (.call 36 ce (.cons ke (.cons (.sub pe (.bin .Mod (.call 32 ce2 (.cons je .nil) p1 p2) (.len pe2 p3 p4) p5) p6) .nil)) p7 p8) ρ H=.ok t.d H:=by
 obtain ⟨x,hx,ex⟩:=z6r g h0 (drw c j);obtain ⟨s,v,hs,hv,es⟩:=UH (n:=n) (c:=c) (H:=H) (x:=x) (k:=k) hk;refine ⟨_,⟨s,x,v,hs,hx,hv,rfl⟩,λ {ρ ce ce2 ke je pe pe2 p1 p2 p3 p4 p5 p6 p7 p8} q1 q1' q2 q3 q4 q4'=>?_⟩;have D1:callI defs (n+2) 32 [.int c,.int (j:Nat)] H=_:=Jc (by omega);exact bnd q1 (bnd (bnd q2 (bnd (bnd (bnd q4 (bnd (bnd (bnd q1' (bnd (bnd q3 rfl) D1)) (bnd (bnd q4' (len_loc g)) (mdp h0 _))) ex)) rfl) rfl)) es)
theorem z57 {cl:Nat->List D->Hh->Res D}{ρ:En}{h h':Hh}{e1:E}{p:Pos}{x:D}(q1:e1.ev cl ρ h=.ok x h'):E.ev cl (.tup (.cons e1 .nil) p) ρ h=.ok (.tup [x]) h':=bnd (bnd q1 rfl) rfl
theorem Oj {nm blk:Str}{hd:Option Str}{on:Option (Str×Nat)}(g:H[mp]?=some (.lst (ps.map .str)))(h0:ps≠[])(hc:∀ p,on=some p->p.2<=100):∃ t J,PsT blk ps (λ x=>x=hd.getD blk) on t/\callI defs (n+3) 38 [.int c,.str nm,.str blk,.loc mp,onD hd on] H=.ok (fnD ⟨nm,ps,some blk,t⟩) (H++J):=by
 obtain ⟨sh,hsh,esh⟩:=shE (n:=n) (c:=c) g h0 (k:=0) (j:=2) (by decide) (by decide);rw [zb (d:=d_law_passer) rfl rfl];have own:∀ {ρ:En}{p1 p2 p3 p4 p5 p6 p7 p8 p9 p10 p11 p12 p13 p14 p15 p16 p17 p18 p19:Pos},ρ[0]?=some (some (.int c))->ρ[2]?=some (some (.str blk))->ρ[3]?=some (some (.loc mp))->E.ev (callI defs (n+2)) (.tup (.cons (.str "call" p1) (.cons (.var 2 p2) (.cons (.non p3) (.cons (.tup (.cons (.call 36 (.var 0 p4) (.cons (.int 0 p5) (.cons (.sub (.var 3 p6) (.bin .Mod (.call 32 (.var 0 p18) (.cons (.int 2 p7) .nil) p8 p9) (.len (.var 3 p19) p10 p11) p12) p13) .nil)) p14 p15) .nil) p16) .nil)))) p17) ρ H=.ok (T.call blk none [sh]).d H:=λ {ρ p1 p2 p3 p4 p5 p6 p7 p8 p9 p10 p11 p12 p13 p14 p15 p16 p17 p18 p19} e0 e2 e3 =>
  Vx rfl (by rw [jF,e2]) rfl (z57 (esh (by rw [jF,e0]) (by rw [jF,e0]) rfl rfl (by rw [jF,e3]) (by rw [jF,e3])))
 cases on with
 | none =>
  refine ⟨.call blk none [sh],[],⟨sh,hsh,rfl⟩,?_⟩;rw [Y0y];exact zj (zg (own rfl rfl rfl) (j1 rfl (zD (Oh rfl rfl (yQ rfl (Wa g)) rfl rfl))))
 | some p =>
  obtain ⟨nx,cnt⟩:=p;have hcnt:cnt<=100:=hc _ rfl;obtain ⟨args,ea,la,ra⟩:=UI (R:=Shp ps) (c:=[]) (h:=H) (f:=zZ qJ (jX [none,some 0,some 3] [some (.int c),some (.str nm),some (.str blk),some (.loc mp),some (onD hd (some (nx,cnt))),some (T.call blk none [sh]).d,none,none,none,none]) (λ ρ' h2=>c_law_passer_1.evC (callI defs (n+2)) ρ' h2) (λ ρ' h2=>e_law_passer_1.ev (callI defs (n+2)) ρ' h2)) (λ _ hp=>nomatch hp) ((List.range' 0 cnt).map λ k=>.int (k:Nat)) [] λ x hx=>by
   obtain ⟨j,hj,rfl⟩:=Y0w.mp hx;have hj:j<100:=by have:=(Y18.mp hj).2;omega
   obtain ⟨t,ht,et⟩:=shE (n:=n) (c:=c) g h0 (k:=3+2*j) (j:=9+j) (by omega) (by omega);refine ⟨t,ju rfl rfl ?_,ht⟩;exact et rfl rfl (bnd rfl (bnd (bnd rfl (bnd rfl (mlk (by decide) (mlt (by omega))))) (by rw [show ((3+2*j:Nat):Int)=3+2*(j:Int) from by omega];rfl))) (bnd rfl (bnd rfl (by rw [show ((9+j:Nat):Int)=9+(j:Int) from by omega];rfl))) rfl rfl
  rw [Y14,<- yR] at ea;have la:args.length=cnt:=by rw [la];simp
  obtain ⟨s,hs,es⟩:=sg3 (drw c 14);have D13:∀ X:Hh,callI defs (n+2) 32 [.int c,.int 13] X=.ok (.int (drw c 13)) X:=λ X=>Jc (k:=13) (by decide);have D14:∀ X:Hh,callI defs (n+2) 32 [.int c,.int 14] X=.ok (.int (drw c 14)) X:=λ X=>Jc (k:=14) (by decide)
  let hn:Str:=hd.getD blk
  have gA:(H++[O.lst (T.ds args)])[H.length]?=some (.lst (T.ds args)):=zr;have gp:(H++[O.lst (T.ds args)])[mp]?=some (.lst (ps.map .str)):=zd g;have hand:T.d (.call nx (some hn) args)=.tup [.str "call",.str nx,.str hn,.tup (T.ds args)]:=rfl;have ownd:T.d (.call blk none [sh])=.tup [.str "call",.str blk,.non,.tup [sh.d]]:=rfl;have fin:∀ (X:Hh) (L:Nat) (A B:T),X[mp]?=some (.lst (ps.map .str))->X[L]?=some (.lst [A.d,B.d])->Ss.run (callI defs (n+2)) (jw 8 d_law_passer.body) [some (.int c),some (.str nm),some (.str blk),some (.loc mp),some (onD hd (some (nx,cnt))),some (T.call blk none [sh]).d,some (.loc H.length),some (.str hn),some (T.call nx (some hn) args).d,some (.loc L)] X=.rt (fnD ⟨nm,ps,some blk,.op s A B⟩) X:=λ X L A B h1 h2 =>
   zD (Oh rfl rfl (yQ rfl (Wa h1)) rfl (Vx rfl (bnd rfl (bnd (bnd (bnd rfl (bnd rfl (D14 X))) (bnd rfl mdk)) (es X))) (bnd rfl (bnd rfl (jQ h2 a0))) (bnd rfl (bnd rfl (jQ h2 a1)))))
  have head:∀ {o:RS},Ss.run (callI defs (n+2)) (jw 5 d_law_passer.body) [some (.int c),some (.str nm),some (.str blk),some (.loc mp),some (onD hd (some (nx,cnt))),some (T.call blk none [sh]).d,some (.loc H.length),some (.str hn),none,none] (H++[O.lst (T.ds args)])=o->Ss.run (callI defs (n+2)) d_law_passer.body ([some (.int c),some (.str nm),some (.str blk),some (.loc mp),some (onD hd (some (nx,cnt))),none,none,none,none,none]) H=o:=λ {o} k=>by
   refine zg (own rfl rfl rfl) (zk rfl (zg (d:=.loc H.length) (h':=H++[O.lst (T.ds args)]) (j3 (q:=(([]:Ck),(List.range' 0 cnt).map λ k=>.int (k:Nat))) (xs:=T.ds args) (h2:=H) (YR rfl (by omega)) (by simp;omega) ea) ?_));cases hd with
   | none=>exact zg (d:=.non) rfl (zQ rfl rfl k)
   | some z=>exact zg (d:=.str z) rfl (zk rfl k)
  by_cases q:drw c 13%2=1
  ·refine ⟨.op s (.call nx (some hn) args) (.call blk none [sh]),[O.lst (T.ds args),O.lst [T.d (.call blk none [sh]),T.d (.call nx (some hn) args)],O.lst [T.d (.call nx (some hn) args),T.d (.call blk none [sh])]],⟨s,sh,hn,args,hs,hsh,rfl,la,ra,.inr rfl⟩,?_⟩;refine zj (head (zg (d:=T.d (.call nx (some hn) args)) (Vx rfl rfl rfl (yQ rfl (Wa gA))) (zg (d2 rfl rfl) (zQ (zi (bnd (bnd rfl (bnd rfl (D13 _))) (bnd rfl mdk)) rfl (eqI.trans (by rw [q];rfl))) (zg (d2 rfl rfl) rfl) ((fin _ _ _ _ (zd (zd gp)) zr).trans (by simp))))))
  ·refine ⟨.op s (.call blk none [sh]) (.call nx (some hn) args),[O.lst (T.ds args),O.lst [T.d (.call blk none [sh]),T.d (.call nx (some hn) args)]],⟨s,sh,hn,args,hs,hsh,rfl,la,ra,.inl rfl⟩,?_⟩;refine zj (head (zg (d:=T.d (.call nx (some hn) args)) (Vx rfl rfl rfl (yQ rfl (Wa gA))) (zg (d2 rfl rfl) (zk (zi (bnd (bnd rfl (bnd rfl (D13 _))) (bnd rfl mdk)) rfl (eqI.trans (by rw [beq_eq_false_iff_ne.mpr q]))) ((fin _ _ _ _ (zd gp) zr).trans (by simp))))))
end
theorem QD {α:Type}(enc:α->D){R:α->Prop}{c:Ck}{f:D->Hh->Res (Option D)}{h:Hh}(st:stay c h):∀ (xs acc:List D),(∀ x∈xs,∃ a:α,f x h=.ok (some (enc a)) h/\R a)->∃ ts:List α,zS c f xs acc h=.ok (acc++ts.map enc) h/\ts.length=xs.length/\∀ t∈ts,R t
 | [],acc,_=>⟨[],by simp [zS,st],rfl,λ _ h=>nomatch h⟩
 | x::r,acc,e=>by
  obtain ⟨v,e1,s1⟩:=e x Y03;obtain ⟨vs,e2,l2,s2⟩:=QD enc st r (acc++[enc v]) λ y hy=>e y (Y02 _ hy);refine ⟨v::vs,?_,by rw [Y09,Y09,l2],λ z hz=>?_⟩
  ·unfold zS;rw [if_pos st,e1,bind_ok,addO_some,e2,Y0l];rfl
  ·rcases Y06.mp hz with rfl | hz
   ·exact s1
   ·exact s2 z hz
theorem Jd {b:Str}:∀ {vs:List Str},vs.Nodup->vs.length<=(vs.filter λ x=>!(x==b)).length+1
 | [],_=>Y1d _
 | x::r,nd=>by
  rw [Y1i] at nd;rw [List.filter_cons];cases q:(x==b) with
  | true =>
   have e:(r.filter λ x=>!(x==b))=r:=List.filter_eq_self.mpr λ y hy=>by
    have:y≠b:=λ z=>nd.1 (by rw [eq_of_beq q,<- z];exact hy)
    simp [this]
   rw [if_neg (by decide),e];simp
  | false =>
   have:=Jd (b:=b) nd.2
   simp only [Bool.not_false,if_true,Y09];omega
def keep (b:Str):D->Option D
 | .str x=>if x==b then none else some (.str x)
 | _=>none
theorem QE {b x:Str}:keep b (.str x)=if x==b then none else some (.str x):=rfl
theorem QF {b:Str}:∀ (vs:List Str),(vs.map D.str).filterMap (keep b)=(vs.filter λ x=>!(x==b)).map D.str
 | []=>rfl
 | x::r=>by
  rw [Y0i,Y1b,List.filter_cons,QE,QF r];cases (x==b)<;>rfl
theorem z3h {l:List Str}(nd:l.Nodup){i j:Nat}(hi:i<l.length)(hj:j<l.length)(e:l[i]=l[j]):i=j:=by
 have p:=List.pairwise_iff_getElem.mp nd;rcases Nat.lt_trichotomy i j with h | h | h
 ·exact absurd e (p i j hi hj h)
 ·exact h
 ·exact absurd e.symm (p j i hj hi h)
structure Wd (ws:List Str)(N:Nat):Prop where
 ln:ws.length=N
 so:∀ x∈ws,PyData.strOk x=true
 nd:ws.Nodup
abbrev at_ (ws:List Str)(i:Nat):Str:=ws.getD i ""
theorem Wd.mem {ws:List Str}{N i:Nat}(o:Wd ws N)(h:i<N):at_ ws i∈ws:=by
 unfold at_;rw [Y0q,Y0f (by rw [o.ln];exact h)];exact List.getElem_mem _
theorem Wd.ok {ws:List Str}{N i:Nat}(o:Wd ws N)(h:i<N):PyData.strOk (at_ ws i)=true:=o.so _ (o.mem h)
theorem Wd.sub {ws:List Str}{N i m:Nat}{H:Hh}(o:Wd ws N)(h:i<N)(g:H[m]?=some (.lst (ws.map .str))):zX (.loc m) (.int (i:Nat)) H=.ok (.str (at_ ws i)) H :=
 jQ g (atk (by unfold at_;rw [Y0u,Y0q,Y0f (by rw [o.ln];exact h)];rfl))
theorem Wd.ne {ws:List Str}{N i j:Nat}(o:Wd ws N)(hi:i<N)(hj:j<N)(h:i≠j):at_ ws i≠at_ ws j:=λ e=>by
 unfold at_ at e;rw [Y0q,Y0q,Y0f (by rw [o.ln];exact hi),Y0f (by rw [o.ln];exact hj)] at e;exact h (z3h o.nd _ _ e)
section
variable {n:Nat}{ns:List Int}{ws vs ds:List Str}{mq mv md li:Nat}{r3 r4 r5:Option D}
theorem Wb (ow:Wd ws 13)(ov:Wd vs 4)(od:Wd ds 4)(nq:mq≠li)(nv:mv≠li)(ndl:md≠li):∀ (m k:Nat) (fs0:List Fn) (H:Hh) (x8:Option D),k+m<=4->fs0.length+m<=100->H[mq]?=some (.lst (ws.map .str))->H[mv]?=some (.lst (vs.map .str))->H[md]?=some (.lst (ds.map .str))->H[li]?=some (.lst (fs0.map fnD)) ->
  ∃ fs1 x8' H',fs1.map (·.nm)=(List.range' k m).map (at_ ws)/\(∀ f∈fs1,SimF f)/\j8 [] (zG qe λ ρ' h'=>b_law_program_4.run (callI defs (n+4)) ρ' h') ((List.range' k m).map λ i=>.int (i:Nat)) [some (.fl (ns.map .int)),some (.loc mq),some (.loc mv),r3,r4,r5,some (.loc md),some (.loc li),x8,none,none,none,none,none,none,none,none] H=.nx [some (.fl (ns.map .int)),some (.loc mq),some (.loc mv),r3,r4,r5,some (.loc md),some (.loc li),x8',none,none,none,none,none,none,none,none] H'/\H'[li]?=some (.lst ((fs0++fs1).map fnD))/\ExS li H H'
 | 0,k,fs0,H,x8,_,_,gq,gv,gd,gl=>⟨[],x8,H,rfl,(λ _ h=>nomatch h),qi,by rw [Y0y];exact gl,ExS.rfl'⟩
 | m+1,k,fs0,H,x8,hk,hl,gq,gv,gd,gl=>by
  obtain ⟨c,ec⟩:=wA (n:=n+3) (ns:=ns) (H:=H) (10+k);rw [show ((10+k:Nat):Int)=10+(k:Int) from by omega] at ec;obtain ⟨f,fn,fo,ef⟩:=Oi (n:=n+1) (c:=c) (H:=H) (nm:=at_ ws k) (dd:=at_ ds k) (p:=at_ vs (k%2)) (od.ok (by omega)) (ov.ok (by omega));have gl':(H.set li (.lst (fs0.map fnD++[fnD f])))[li]?=some (.lst ((fs0++[f]).map fnD)):=by rw [Y1o];exact Y0n (zu gl)
  obtain ⟨fs1,x8',H',a1,a2,a3,a4,a5⟩:=Wb ow ov od nq nv ndl m (k+1) (fs0++[f]) _ (some (.int (k:Nat))) (by omega) (by rw [Y0h];show fs0.length+1+m<=100;omega) (zl nq gq) (zl nv gv) (zl ndl gd) gl';refine ⟨f::fs1,x8',H',by rw [Y2a,Y0i,Y0i,a1,fn],λ g hg=>?_,?_,by rw [a4,Y0l];rfl,ExS.set.tr a5⟩
  ·rcases Y06.mp hg with rfl | hg
   ·exact fo
   ·exact a2 g hg
  ·rw [Y2a,Y0i];refine j9 (λ _ hp=>nomatch hp) (wz (wo (append_at rfl gl (bnd (bnd rfl (bnd rfl ec)) (bnd (bnd (bnd rfl (bnd rfl (ow.sub (by omega) gq))) (bnd (bnd (bnd rfl (bnd rfl (od.sub (by omega) gd))) (bnd (bnd (bnd rfl (bnd (bnd rfl (bnd rfl mdk)) (by rw [show (k:Int)%2=((k%2:Nat):Int) from by omega];exact ov.sub (by omega) gv))) rfl) rfl)) rfl)) ef)) gl (by rw [Y0d];omega)) rfl)) a3
end
theorem PsT.mono {blk:Str}{ps:List Str}{A B:Str->Prop}(h:∀ x,A x->B x):∀ {on:Option (Str×Nat)}{t:T},PsT blk ps A on t->PsT blk ps B on t
 | none,t,q=>q
 | some (nx,cnt),t,⟨s,sh,hnd,args,h1,h2,h3,h4⟩=>⟨s,sh,hnd,args,h1,h2,h hnd h3,h4⟩
structure PF (ws:List Str)(cn:Nat->Nat)(many some':Nat)(k:Nat)(f:Fn):Prop where
 nm:f.nm=at_ ws (4+k)
 ln:f.ps.length=cn k
 so:∀ p∈f.ps,PyData.strOk p=true
 bd:∃ b,f.blk=some b/\(b=at_ ws 10\/b=at_ ws 11)/\PsT b f.ps (λ x=>x=b\/∃ j,j<some'/\x=at_ ws j) (if k+1<many then some (at_ ws (4+(k+1)),cn (k+1)) else none) f.body
def Jp (ws:List Str)(cn:Nat->Nat)(many some':Nat):Nat->List Fn->Prop
 | _,[]=>True
 | k,f::r=>PF ws cn many some' k f/\Jp ws cn many some' (k+1) r
section
variable {n:Nat}{ns:List Int}{ws vs:List Str}{mq mv mc li:Nat}{r3 r6:Option D}{many some':Nat}{cs:List Nat}
theorem cnE {H:Hh}{k:Nat}(hl:cs.length=many)(g:H[mc]?=some (.lst (cs.map λ c=>.int (c:Nat))))(h:k<many):zX (.loc mc) (.int (k:Nat)) H=.ok (.int (cs.getD k 1:Nat)) H :=
 jQ g (atk (by rw [Y0u,Y0q,Y0f (by rw [hl];exact h)];rfl))
theorem BX {k:Nat}(hc:∀ c∈cs,1<=c/\c<=3):1<=cs.getD k 1/\cs.getD k 1<=3:=by
 rw [Y0q];cases e:cs[k]? with
 | none=>exact ⟨by decide,by decide⟩
 | some v=>exact hc v (Y1e e)
theorem iB {a:Int}{M:Nat}(h:0<M):∃ i:Nat,i<M/\a%(M:Int)=i:=⟨(a%(M:Int)).toNat,by have:=Y20 a (show 0<(M:Int) by omega);have:=Y25 a (show (M:Int)≠0 by omega);omega,by have:=Y25 a (show (M:Int)≠0 by omega);omega⟩
theorem BY (ow:Wd ws 13)(ov:Wd vs 4)(hl:cs.length=many)(hc:∀ c∈cs,1<=c/\c<=3)(hM:many<=6)(hs:0<some')(hs4:some'<=4){k:Nat}(hk:k<many){fs0:List Fn}{H:Hh}{x8 x10 x11 x12 x13:Option D}(lf:fs0.length<=100)(gq:H[mq]?=some (.lst (ws.map .str)))(gv:H[mv]?=some (.lst (vs.map .str)))(gc:H[mc]?=some (.lst (cs.map λ c=>.int (c:Nat))))(gl:H[li]?=some (.lst (fs0.map fnD))) :
  ∃ f y10 y11 y12 y13 H',PF ws (λ i=>cs.getD i 1) many some' k f/\zG jJ (λ ρ' h'=>b_law_program_1.run (callI defs (n+4)) ρ' h') (.int (k:Nat)) [some (.fl (ns.map .int)),some (.loc mq),some (.loc mv),r3,some (.int (many:Nat)),some (.int (some':Nat)),r6,some (.loc li),x8,some (.loc mc),x10,x11,x12,x13,none,none,none] H=.nx [some (.fl (ns.map .int)),some (.loc mq),some (.loc mv),r3,some (.int (many:Nat)),some (.int (some':Nat)),r6,some (.loc li),some (.int (k:Nat)),some (.loc mc),y10,y11,y12,y13,none,none,none] H'/\H'[li]?=some (.lst ((fs0++[f]).map fnD))/\ExS li H H':=by
 obtain ⟨c,ec⟩:=wA (n:=n+3) (ns:=ns) (H:=H) (4+k);rw [show ((4+k:Nat):Int)=4+(k:Int) from by omega] at ec;obtain ⟨jb,hjb,ejb⟩:=iB (a:=c/168) (M:=2) (by decide);obtain ⟨jh,hjh,ejh⟩:=iB (a:=c/84) (M:=2) (by decide);obtain ⟨js,hjs,ejs⟩:=iB (a:=c/21) (M:=some') hs;obtain ⟨c1,c3⟩:=BX (k:=k) hc
 let blk:=at_ ws (10+jb)
 have bok:PyData.strOk blk=true:=ow.ok (by omega)
 let ps:=(vs.filter λ x=>!(x==blk)).take (cs.getD k 1)
 have lp:ps.length=cs.getD k 1:=by
  have:=Jd (b:=blk) ov.nd
  rw [ov.ln] at this;show ((vs.filter λ x=>!(x==blk)).take (cs.getD k 1)).length=_;rw [Y1y];omega
 have sop:∀ p∈ps,PyData.strOk p=true:=λ p hp=>ov.so p (List.mem_filter.mp (List.mem_of_mem_take hp)).1
 let hd:Option Str:=if jh=0 then none else some (at_ ws js)
 let on:Option (Str×Nat):=if k+1<many then some (at_ ws (4+(k+1)),cs.getD (k+1) 1) else none
 have hon:∀ p,on=some p->p.2<=100:=λ p hp=>by
  by_cases q:k+1<many
  ·have:on=some (at_ ws (4+(k+1)),cs.getD (k+1) 1):=if_pos q
   rw [this] at hp;cases hp
   have:=BX (k:=k+1) hc
   show cs.getD (k+1) 1<=100;omega
  ·have:on=none:=if_neg q
   rw [this] at hp;cases hp
 have onE:∃ J y11,y11=some (onD hd on)/\∀ {o:RS}{y10:D},y10=.int c->Ss.run (callI defs (n+4)) (jw 3 b_law_program_1) [some (.fl (ns.map .int)),some (.loc mq),some (.loc mv),r3,some (.int (many:Nat)),some (.int (some':Nat)),r6,some (.loc li),some (.int (k:Nat)),some (.loc mc),some y10,some (onD hd on),x12,x13,none,none,none] (H++J)=o->Ss.run (callI defs (n+4)) (jw 2 b_law_program_1) [some (.fl (ns.map .int)),some (.loc mq),some (.loc mv),r3,some (.int (many:Nat)),some (.int (some':Nat)),r6,some (.loc li),some (.int (k:Nat)),some (.loc mc),some y10,some .non,x12,x13,none,none,none] H=o:=by
  by_cases q:k+1<many
  ·have e1:on=some (at_ ws (4+(k+1)),cs.getD (k+1) 1):=if_pos q;rw [e1];have s1:zX (.loc mq) (.int (4+(k:Int)+1)) H=.ok (.str (at_ ws (4+(k+1)))) H:=by rw [show 4+(k:Int)+1=((4+(k+1):Nat):Int) from by omega];exact ow.sub (by omega) gq
   have s2:zX (.loc mc) (.int ((k:Int)+1)) H=.ok (.int (cs.getD (k+1) 1:Nat)) H:=by rw [show (k:Int)+1=((k+1:Nat):Int) from by omega];exact cnE hl gc q
   have s3:zX (.loc mq) (.int (c/21%(some':Int))) H=.ok (.str (at_ ws js)) H:=by rw [ejs];exact ow.sub (by omega) gq
   have s4:zX (.loc H.length) (.int (c/84%2)) (H++[O.lst [.non,.str (at_ ws js)]])=.ok (hD hd) (H++[O.lst [.non,.str (at_ ws js)]]):=by
    have:c/84%2=jh:=ejh
    rw [this];by_cases z:jh=0
    ·rw [show hd=none from if_pos z,z];exact jQ zr a0
    ·rw [show hd=some (at_ ws js) from if_neg z,show jh=1 from by omega];exact jQ zr a1
   refine ⟨[O.lst [.non,.str (at_ ws js)]],_,rfl,λ {o y10} ey kk=>?_⟩;subst ey;exact zQ (zi rfl rfl (show zU .Lt _ _ _=.ok (.bl true) _ from by show Res.ok (D.bl (decide (_<_))) _=_;rw [decide_eq_true (by omega)])) (zg (d:=onD hd (some (at_ ws (4+(k+1)),cs.getD (k+1) 1))) (h':=H++[O.lst [.non,.str (at_ ws js)]]) (BI (bnd rfl (bnd rfl s1)) (bnd rfl (bnd rfl s2)) (vsub.trans (bnd (d2 rfl (bnd rfl (bnd (bnd (bnd rfl (bnd rfl fdk)) (bnd rfl (mdk (by omega)))) s3))) (bnd (bnd (bnd rfl (bnd rfl fdk)) (bnd rfl mdk)) s4)))) rfl) kk
  ·have e1:on=none:=if_neg q;rw [e1];refine ⟨[],_,rfl,λ {o y10} ey kk=>?_⟩;rw [Y0y] at kk;exact zk (zi rfl rfl (show zU .Lt _ _ _=.ok (.bl false) _ from by show Res.ok (D.bl (decide (_<_))) _=_;rw [decide_eq_false (by omega)])) kk
 obtain ⟨J,_,_,onE⟩:=onE;generalize hX:H++J=X at onE;have xX:∀ {i:Nat}{o:O},H[i]?=some o->X[i]?=some o:=λ h=>by rw [<- hX];exact zd h
 have s5:zX (.loc mq) (.int (10+c/168%2)) X=.ok (.str blk) X:=by
  have:c/168%2=jb:=ejb
  rw [this,show 10+(jb:Int)=((10+jb:Nat):Int) from by omega];exact ow.sub (by omega) (xX gq)
 have C:=jl (c:=[(mv,vs.map D.str)]) (f:=zZ q8 (jX [none,some 12] [some (.fl (ns.map .int)),some (.loc mq),some (.loc mv),r3,some (.int (many:Nat)),some (.int (some':Nat)),r6,some (.loc li),some (.int (k:Nat)),some (.loc mc),some (.int c),some (onD hd on),some (.str blk),x13,none,none,none]) (λ ρ' h2=>c_law_program_2.evC (callI defs (n+4)) ρ' h2) (λ ρ' h2=>e_law_program_2.ev (callI defs (n+4)) ρ' h2)) (h:=X) (λ q hq=>by rw [Y0a.mp hq];exact rdl (xX gv)) (keep blk) (vs.map D.str) [] (λ z hz=>by
  obtain ⟨x,hx,rfl⟩:=Y0w.mp hz;rw [QE];have cq:∀ b,(x==blk)=b->c_law_program_2.evC (callI defs (n+4)) [some (.str x),some (.str blk)] X=.ok (!b) X:=λ b hb=>ctE rfl rfl (by rw [<- hb];exact neS (ov.so x hx) bok);cases hb:(x==blk) with
  | true=>exact WT rfl (cq true hb)
  | false=>exact ju rfl (cq false hb) rfl)
 rw [Y14,QF] at C;have s6:zX (.loc mc) (.int (k:Nat)) (X++[O.lst ((vs.filter λ x=>!(x==blk)).map D.str)])=.ok (.int (cs.getD k 1:Nat)) (X++[O.lst ((vs.filter λ x=>!(x==blk)).map D.str)]):=cnE hl (zd (xX gc)) hk;have CU:Jn (.loc X.length) none (some (cs.getD k 1:Nat)) (X++[O.lst ((vs.filter λ x=>!(x==blk)).map D.str)])=.ok (.loc (X++[O.lst ((vs.filter λ x=>!(x==blk)).map D.str)]).length) ((X++[O.lst ((vs.filter λ x=>!(x==blk)).map D.str)])++[O.lst (ps.map D.str)]):=by
  show (match PI.rd _ X.length with | some xs=>new (.lst (zV xs none (some (cs.getD k 1:Nat)))) _ | none=>.no)=_
  rw [rdl zr];show new (.lst (zV _ none (some (cs.getD k 1:Nat)))) _=_;rw [Og (by rw [Y0d];have:=Jd (b:=blk) ov.nd;rw [ov.ln] at this;omega),<- Y3g];rfl
 generalize hY:(X++[O.lst ((vs.filter λ x=>!(x==blk)).map D.str)])++[O.lst (ps.map D.str)]=Y at CU;have gp:Y[(X++[O.lst ((vs.filter λ x=>!(x==blk)).map D.str)]).length]?=some (.lst (ps.map D.str)):=by rw [<- hY];exact zr
 have xY:∀ {i:Nat}{o:O},H[i]?=some o->Y[i]?=some o:=λ h=>by rw [<- hY];exact zd (zd (xX h))
 have pne:ps≠[]:=λ e=>by
  have z:([]:List Str).length=cs.getD k 1:=e▸lp;rw [Y1t] at z;omega
 obtain ⟨t,J2,hT,eT⟩:=Oj (n:=n+1) (c:=c) (nm:=at_ ws (4+k)) (blk:=blk) (hd:=hd) (on:=on) gp pne hon;have s7:zX (.loc mq) (.int (4+(k:Int))) Y=.ok (.str (at_ ws (4+k))) Y:=by rw [show 4+(k:Int)=((4+k:Nat):Int) from by omega];exact ow.sub (by omega) (xY gq)
 refine ⟨⟨at_ ws (4+k),ps,some blk,t⟩,some (.int c),some (onD hd on),some (.str blk),some (.loc (X++[O.lst ((vs.filter λ x=>!(x==blk)).map D.str)]).length),(Y++J2).set li (.lst (fs0.map fnD++[fnD ⟨at_ ws (4+k),ps,some blk,t⟩])),⟨rfl,lp,sop,blk,rfl,?_,?_⟩,?_,?_,?_⟩
 ·rcases (show jb=0\/jb=1 by omega) with z | z
  ·exact .inl (by show at_ ws (10+jb)=_;rw [z])
  ·exact .inr (by show at_ ws (10+jb)=_;rw [z])
 ·refine PsT.mono (λ x hx=>?_) hT;by_cases z:jh=0
  ·rw [show hd=none from if_pos z] at hx;exact .inl hx
  ·rw [show hd=some (at_ ws js) from if_neg z] at hx;exact .inr ⟨js,hjs,hx⟩
 ·exact wz (zg (bnd rfl (bnd rfl ec)) (zg rfl (onE rfl (zg (bnd rfl (bnd (bnd rfl (bnd (bnd (bnd rfl (bnd rfl fdk)) (bnd rfl mdk)) rfl)) s5)) (zg (vcut.trans (bnd (j3 (q:=([(mv,vs.map D.str)],vs.map D.str)) (qO rfl (rdl (xX gv))) (by show (vs.map D.str).length<=_;rw [Y0d,ov.ln];decide) C) (bnd rfl (bnd (z37 (bnd rfl (bnd rfl s6))) CU)))) (wo (append_at rfl (xY gl) (bnd rfl (bnd (bnd (bnd rfl (bnd rfl s7)) rfl) eT)) (zd (xY gl)) (by rw [Y0d];omega)) rfl))))))
 ·rw [Y1o];exact Y0n (zu (zd (xY gl)))
 ·exact λ i o hi h=>zl hi (zd (xY h))
theorem UJ (ow:Wd ws 13)(ov:Wd vs 4)(hl:cs.length=many)(hc:∀ c∈cs,1<=c/\c<=3)(hM:many<=6)(hs:0<some')(hs4:some'<=4)(nq:mq≠li)(nv:mv≠li)(nc:mc≠li):∀ (m k:Nat) (fs0:List Fn) (H:Hh) (x8 x10 x11 x12 x13:Option D),k+m=many->fs0.length+m<=100->H[mq]?=some (.lst (ws.map .str))->H[mv]?=some (.lst (vs.map .str))->H[mc]?=some (.lst (cs.map λ c=>.int (c:Nat)))->H[li]?=some (.lst (fs0.map fnD)) ->
  ∃ fs1 y8 y10 y11 y12 y13 H',fs1.length=m/\Jp ws (λ i=>cs.getD i 1) many some' k fs1/\j8 [] (zG jJ λ ρ' h'=>b_law_program_1.run (callI defs (n+4)) ρ' h') ((List.range' k m).map λ i=>.int (i:Nat)) [some (.fl (ns.map .int)),some (.loc mq),some (.loc mv),r3,some (.int (many:Nat)),some (.int (some':Nat)),r6,some (.loc li),x8,some (.loc mc),x10,x11,x12,x13,none,none,none] H=.nx [some (.fl (ns.map .int)),some (.loc mq),some (.loc mv),r3,some (.int (many:Nat)),some (.int (some':Nat)),r6,some (.loc li),y8,some (.loc mc),y10,y11,y12,y13,none,none,none] H'/\H'[li]?=some (.lst ((fs0++fs1).map fnD))/\ExS li H H'
 | 0,k,fs0,H,x8,x10,x11,x12,x13,_,_,gq,gv,gc,gl=>⟨[],x8,x10,x11,x12,x13,H,rfl,trivial,qi,by rw [Y0y];exact gl,ExS.rfl'⟩
 | m+1,k,fs0,H,x8,x10,x11,x12,x13,hk,lf,gq,gv,gc,gl=>by
  obtain ⟨f,z10,z11,z12,z13,H1,p1,p2,p3,p4⟩:=BY (n:=n) (ns:=ns) (r3:=r3) (r6:=r6) (x8:=x8) (x10:=x10) (x11:=x11) (x12:=x12) (x13:=x13) ow ov hl hc hM hs hs4 (k:=k) (by omega) (by omega) gq gv gc gl;obtain ⟨fs1,y8,y10,y11,y12,y13,H',a1,a2,a3,a4,a5⟩:=UJ ow ov hl hc hM hs hs4 nq nv nc m (k+1) (fs0++[f]) H1 (some (.int (k:Nat))) z10 z11 z12 z13 (by omega) (by rw [Y0h];show fs0.length+1+m<=100;omega) (p4 _ _ nq gq) (p4 _ _ nv gv) (p4 _ _ nc gc) p3;refine ⟨f::fs1,y8,y10,y11,y12,y13,H',by rw [Y09,a1],⟨p1,a2⟩,?_,by rw [a4,Y0l];rfl,p4.tr a5⟩;rw [Y2a,Y0i];exact j9 (λ _ hp=>nomatch hp) p2 a3
end
def Ex (H H':Hh):Prop:=∀ (i:Nat) (o:O),H[i]?=some o->H'[i]?=some o
theorem Ex.app {H B:Hh}:Ex H (H++B):=λ _ _=>zd
theorem Ex.tr {A B C:Hh}(x:Ex A B)(y:Ex B C):Ex A C:=λ i o h=>y i o (x i o h)
def j4 (ws vs:List Str)(cn:Nat->Nat)(j:Nat)(u:Int):Fn:=⟨at_ ws 12,[at_ vs 0],none,.call (at_ ws 4) (some (at_ ws j)) (.var (at_ vs 0)::List.replicate (cn 0-1) (.num u))⟩
structure Prg (ws vs:List Str)(fs:List Fn)(many some' s:Nat)(cn:Nat->Nat)(fsS fsP:List Fn)(j:Nat)(u:Int):Prop where
 bm:1<=many/\many<=6
 bs:1<=some'/\some'<=4
 bc:∀ k,1<=cn k/\cn k<=3
 nS:fsS.map (·.nm)=(List.range' 0 some').map (at_ ws)
 sS:∀ f∈fsS,SimF f
 lP:fsP.length=many
 pP:Jp ws cn many some' 0 fsP
 bj:j<some'
 bu:Sm u
 eq:fs=(fsS++fsP++[j4 ws vs cn j u]).drop s++(fsS++fsP++[j4 ws vs cn j u]).take s
theorem z6s {X:Hh}{L k:Nat}{x:D}(g:X[L]?=some (.lst [x]))(hk:k<=1000):jE .Mult (.loc L) (.int (k:Nat)) X=.ok (.loc X.length) (X++[.lst (List.replicate k x)]):=by
 show (match X[L]? with
   | some (.lst xs)=>if 0<=(k:Int)/\(k:Int)<=1000/\xs.length<=1000 then Res.ok (D.loc X.length) (X++[O.lst (List.replicate (k:Int).toNat xs).flatten]) else .no
   | _=>.no)=_
 rw [g];show (if 0<=(k:Int)/\(k:Int)<=1000/\[x].length<=1000 then Res.ok (D.loc X.length) (X++[O.lst (List.replicate (k:Int).toNat [x]).flatten]) else .no)=_;rw [if_pos ⟨by omega,by omega,by simp⟩,Y1u,List.flatten_replicate_singleton]
theorem z58 {X:Hh}{L s:Nat}{xs:List D}(g:X[L]?=some (.lst xs))(h:s<=xs.length):Jn (.loc L) (some (s:Int)) none X=.ok (.loc X.length) (X++[.lst (xs.drop s)]):=by
 show (match PI.rd X L with | some xs=>new (.lst (zV xs (some (s:Int)) none)) X | none=>.no)=_
 rw [rdl g];show new (.lst (zV xs (some (s:Int)) none)) X=_;rw [Ob h];rfl
theorem z59 {X:Hh}{L s:Nat}{xs:List D}(g:X[L]?=some (.lst xs))(h:s<=xs.length):Jn (.loc L) none (some (s:Int)) X=.ok (.loc X.length) (X++[.lst (xs.take s)]):=by
 show (match PI.rd X L with | some xs=>new (.lst (zV xs none (some (s:Int)))) X | none=>.no)=_
 rw [rdl g];show new (.lst (zV xs none (some (s:Int)))) X=_;rw [Og h];rfl
section
variable {n:Nat}{ns:List Int}{ws vs:List Str}{mq mv:Nat}{H:Hh}
theorem Vy (ow:Wd ws 13)(ov:Wd vs 4)(gq:H[mq]?=some (.lst (ws.map .str)))(gv:H[mv]?=some (.lst (vs.map .str))):∃ fs many some' s cn fsS fsP j u H',Prg ws vs fs many some' s cn fsS fsP j u/\callI defs (n+5) 39 [.fl (ns.map .int),.loc mq,.loc mv] H=.ok (pgD fs) H'/\Ex H H':=by
 obtain ⟨c,ec⟩:=wA (n:=n+3) (ns:=ns) (H:=H) 0;obtain ⟨cd,ecd⟩:=wA (n:=n+3) (ns:=ns) (H:=H) 2;obtain ⟨many,hm⟩:∃ m:Nat,1+c%6=m:=⟨(1+c%6).toNat,by omega⟩;obtain ⟨some',hs⟩:∃ m:Nat,1+c/6%4=m:=⟨(1+c/6%4).toNat,by omega⟩;obtain ⟨J,ds,md,en,gd,ld,sd,nd⟩:=(WV (n:=n+3) (c:=cd) (H:=H) (M:=4) (by decide)).ex;have od:Wd ds 4:=⟨ld,sd,nd⟩;generalize hA:H++J=A at en gd;have xA:Ex H A:=by rw [<- hA];exact Ex.app
 have gqA:=xA _ _ gq;have gvA:=xA _ _ gv;obtain ⟨fsS,x8,B,a1,a2,a3,a4,a5⟩:=Wb (n:=n) (ns:=ns) (li:=A.length) (mq:=mq) (mv:=mv) (md:=md) (r3:=some (.int c)) (r4:=some (.int (many:Nat))) (r5:=some (.int (some':Nat))) ow ov od (by have:=zu gqA;omega) (by have:=zu gvA;omega) (by have:=zu gd;omega) some' 0 [] (A++[.lst []]) none (by omega) (by rw [Y1t];omega) (zd gqA) (zd gvA) (zd gd) zr;have xB:Ex A B:=λ i o h=>a5 i o (by have:=zu h;omega) (zd h);have lS:fsS.length=some':=by have:=congrArg List.length a1;simpa using this
 have lB:A.length<B.length:=zu a4;obtain ⟨cs,ecs,lcs,bcs⟩:=QD (λ c:Nat=>D.int (c:Nat)) (R:=λ c=>1<=c/\c<=3) (c:=[]) (h:=B) (f:=zZ q9 (jX [none,some 0] [some (.fl (ns.map .int)),some (.loc mq),some (.loc mv),some (.int c),some (.int (many:Nat)),some (.int (some':Nat)),some (.loc md),some (.loc A.length),x8,none,none,none,none,none,none,none,none]) (λ ρ' h2=>c_law_program_3.evC (callI defs (n+4)) ρ' h2) (λ ρ' h2=>e_law_program_3.ev (callI defs (n+4)) ρ' h2)) (λ _ hp=>nomatch hp) ((List.range' 0 many).map λ k=>.int (k:Nat)) [] λ x hx=>by
  obtain ⟨k,hk,rfl⟩:=Y0w.mp hx;obtain ⟨v,ev⟩:=wA (n:=n+3) (ns:=ns) (H:=B) (4+k);rw [show ((4+k:Nat):Int)=4+(k:Int) from by omega] at ev;refine ⟨(1+v/7%3).toNat,ju rfl rfl ?_,by omega⟩;rw [show (((1+v/7%3).toNat:Nat):Int)=1+v/7%3 from by omega];exact bnd rfl (bnd (bnd (bnd (bnd rfl (bnd rfl ev)) (bnd rfl fdk)) (bnd rfl mdk)) rfl)
 rw [Y14] at ecs;have lcs:cs.length=many:=by rw [lcs];simp
 obtain ⟨fsP,y8,y10,y11,y12,y13,E',b1,b2,b3,b4,b5⟩:=UJ (n:=n) (ns:=ns) (li:=A.length) (mq:=mq) (mv:=mv) (mc:=B.length) (r3:=some (.int c)) (r6:=some (.loc md)) (cs:=cs) (some':=some') ow ov lcs bcs (by omega) (by omega) (by omega) (by have:=zu gqA;omega) (by have:=zu gvA;omega) (by omega) many 0 ([]++fsS) (B++[.lst (cs.map λ c=>.int (c:Nat))]) x8 none none none none (by omega) (by rw [Y14,lS];omega) (zd (xB _ _ gqA)) (zd (xB _ _ gvA)) zr (zd a4);rw [Y14] at b4;have xE:Ex A E':=λ i o h=>b5 i o (by have:=zu h;omega) (zd (xB i o h));have gcE:E'[B.length]?=some (.lst (cs.map λ c=>.int (c:Nat))):=b5 _ _ (by omega) zr;have gqE:=xE _ _ gqA;have gvE:=xE _ _ gvA;obtain ⟨w,ew⟩:=wA (n:=n+3) (ns:=ns) (H:=E') 14;obtain ⟨v,ev,sv⟩:=Jb (cl:=callI defs (n+3)) (h:=E') (c:=w);have ev:callI defs (n+4) 30 [.int w] E'=.ok (.int v) E':=(zb (d:=d_law_number) rfl rfl).trans ev;obtain ⟨u,hu⟩:∃ u:Int,(if v<0 then -v else v)%1000000000000000000=u:=⟨_,rfl⟩;have su:Sm u:=by unfold Sm;have:=Y25 (if v<0 then -v else v) (show (1000000000000000000:Int)≠0 by decide);have:=Y20 (if v<0 then -v else v) (show (0:Int)<1000000000000000000 by decide);omega
 obtain ⟨j,hj,ej⟩:=iB (a:=c/24) (M:=some') (by omega);have c0:=BX (k:=0) bcs;have q0:zX (.loc mv) (.int 0) E'=.ok (.str (at_ vs 0)) E':=ov.sub (i:=0) (by decide) gvE;have q4:zX (.loc mq) (.int 4) E'=.ok (.str (at_ ws 4)) E':=ow.sub (i:=4) (by decide) gqE;have qj:zX (.loc mq) (.int (c/24%(some':Int))) E'=.ok (.str (at_ ws j)) E':=by rw [ej];exact ow.sub (by omega) gqE
 let V:D:=.tup [.str "var",.str (at_ vs 0)]
 let U:D:=.tup [.str "num",.int u]
 have qc:zX (.loc B.length) (.int 0) ((E'++[O.lst [V]])++[O.lst [U]])=.ok (.int (cs.getD 0 1:Nat)) ((E'++[O.lst [V]])++[O.lst [U]]):=cnE (k:=0) lcs (zd (zd gcE)) (by omega);have ML:jE .Mult (.loc (E'++[O.lst [V]]).length) (.int ((cs.getD 0 1:Nat)-1:Int)) ((E'++[O.lst [V]])++[O.lst [U]])=.ok (.loc ((E'++[O.lst [V]])++[O.lst [U]]).length) (((E'++[O.lst [V]])++[O.lst [U]])++[O.lst (List.replicate (cs.getD 0 1-1) U)]):=by
  rw [show ((cs.getD 0 1:Nat)-1:Int)=((cs.getD 0 1-1:Nat):Int) from by omega];exact z6s zr (by omega)
 have AD:jE .Add (.loc E'.length) (.loc ((E'++[O.lst [V]])++[O.lst [U]]).length) (((E'++[O.lst [V]])++[O.lst [U]])++[O.lst (List.replicate (cs.getD 0 1-1) U)])=_:=Oa (zd (zd zr)) zr (by rw [Y35,Y2m];omega);generalize hF:((E'++[O.lst [V]])++[O.lst [U]])++[O.lst (List.replicate (cs.getD 0 1-1) U)]=F at ML AD;have xF:Ex E' F:=by rw [<- hF];exact Ex.app.tr (Ex.app.tr Ex.app)
 let as:List T:=.var (at_ vs 0)::List.replicate (cs.getD 0 1-1) (.num u)
 have das:[V]++List.replicate (cs.getD 0 1-1) U=T.ds as:=by rw [yR,Y0i,List.map_replicate];rfl
 rw [das] at AD;have gG:(F++[O.lst (T.ds as)])[F.length]?=some (.lst (T.ds as)):=zr;generalize hG:F++[O.lst (T.ds as)]=G at AD gG;have xG:Ex E' G:=by rw [<- hG];exact xF.tr Ex.app
 let main:Fn:=⟨at_ ws 12,[at_ vs 0],none,.call (at_ ws 4) (some (at_ ws j)) as⟩
 have q12:zX (.loc mq) (.int 12) G=.ok (.str (at_ ws 12)) G:=ow.sub (i:=12) (by decide) (xG _ _ gqE);have q0':zX (.loc mv) (.int 0) G=.ok (.str (at_ vs 0)) G:=ov.sub (i:=0) (by decide) (xG _ _ gvE);have lall:(fsS++fsP).length<=10:=by rw [Y0h,lS,b1];omega
 have glG:G[A.length]?=some (.lst ((fsS++fsP).map fnD)):=xG _ _ b4;have glK:(G.set A.length (.lst ((fsS++fsP).map fnD++[fnD main])))[A.length]?=some (.lst ((fsS++fsP++[main]).map fnD)):=by rw [Y1o (l₁:=fsS++fsP)];exact Y0n (zu glG)
 have xK:Ex A (G.set A.length (.lst ((fsS++fsP).map fnD++[fnD main]))):=λ i o h=>zl (by have:=zu h;omega) (xG i o (xE i o h));generalize hK:G.set A.length (.lst ((fsS++fsP).map fnD++[fnD main]))=K at glK xK;obtain ⟨s,hs',es⟩:=iB (a:=c/96) (M:=(fsS++fsP++[main]).length) (by rw [Y0h];exact Nat.succ_pos _);have LN:yN (.loc A.length) K=.ok (.int ((fsS++fsP++[main]).length:Nat)) K:=by rw [len_loc glK,Y0d]
 have C1:=z58 glK (s:=s) (by rw [Y0d];omega);have C2:=z59 (zd (B:=[O.lst (((fsS++fsP++[main]).map fnD).drop s)]) glK) (s:=s) (by rw [Y0d];omega);have AL:=Oa (h:=(K++[O.lst (((fsS++fsP++[main]).map fnD).drop s)])++[O.lst (((fsS++fsP++[main]).map fnD).take s)]) (n:=K.length) (m:=(K++[O.lst (((fsS++fsP++[main]).map fnD).drop s)]).length) (zd zr) zr (by rw [Y30,Y1y,Y0d,Y0h];show _-s+min s ((fsS++fsP).length+1)<=1000000;simp only [Y0h,Y35] at *;omega);rw [<- List.map_drop,<- Y3g,<- Y1o] at AL;rw [<- List.map_drop] at C1 C2;rw [<- Y3g] at C2;refine ⟨(fsS++fsP++[main]).drop s++(fsS++fsP++[main]).take s,many,some',s,λ i=>cs.getD i 1,fsS,fsP,j,u,((K++[O.lst (((fsS++fsP++[main]).drop s).map fnD)])++[O.lst (((fsS++fsP++[main]).take s).map fnD)])++[O.lst (((fsS++fsP++[main]).drop s++(fsS++fsP++[main]).take s).map fnD)],⟨by omega,by omega,λ k=>BX bcs,a1,a2,b1,b2,hj,su,rfl⟩,?_,xA.tr (xK.tr (Ex.app.tr (Ex.app.tr Ex.app)))⟩;rw [zb (d:=wx) rfl rfl];refine zj (zg (bnd rfl (bnd rfl ec)) (zg (d:=.int (many:Nat)) (by rw [<- hm];exact bnd rfl (bnd (bnd rfl (bnd rfl mdk)) rfl)) (zg (d:=.int (some':Nat)) (by rw [<- hs];exact bnd rfl (bnd (bnd (bnd rfl (bnd rfl fdk)) (bnd rfl mdk)) rfl)) (zg (bnd (bnd rfl (bnd rfl ecd)) (bnd rfl en)) (zg (d:=.loc A.length) (h':=A++[O.lst []]) rfl (j2 (YR rfl (by omega)) a3 (zg (j3 (q:=(([]:Ck),(List.range' 0 many).map λ k=>.int (k:Nat))) (xs:=cs.map λ c=>.int (c:Nat)) (h2:=B) (YR rfl (by omega)) (by simp;omega) ecs) (j2 (YR rfl (by omega)) b3 ?_))))))));refine zg (d:=U) (h':=E') (Qr rfl (bnd (bnd (bnd (bnd rfl (bnd rfl ew)) (bnd rfl ev)) rfl) (bnd Oe ((mdk (by decide)).trans (by rw [hu]))))) ?_;refine zg (d:=(T.call (at_ ws 4) (some (at_ ws j)) as).d) (h':=G) (Vx rfl (bnd rfl (bnd rfl q4)) (bnd rfl (bnd (bnd (bnd rfl (bnd rfl fdk)) (bnd rfl (mdk (by omega)))) qj)) (yQ (bnd (UF (Qr rfl (bnd rfl (bnd rfl q0)))) (bnd (bnd (UF rfl) (bnd (bnd (bnd rfl (bnd rfl qc)) rfl) ML)) AD)) (Wa gG))) ?_;refine wo (d:=.non) (h':=K) (by rw [<- hK];exact append_at (v:=fnD main) rfl glG (Oh rfl (bnd rfl (bnd rfl q12)) (z57 (bnd rfl (bnd rfl q0'))) rfl rfl) glG (by rw [Y0d];omega)) ?_;refine zg (d:=.int (s:Nat)) (h':=K) (bnd (bnd rfl (bnd rfl fdk)) (bnd (bnd rfl LN) ((mdk (by rw [Y0h];exact Int.natCast_pos.mpr (Nat.succ_pos _))).trans (by rw [es])))) (zD ?_);exact yQ (bnd (vcut.trans (bnd rfl (bnd rfl (bnd rfl C1)))) (bnd (vcut.trans (bnd rfl (bnd rfl (bnd rfl C2)))) AL)) (Wa zr)
end
theorem QG {f:Fn}:∀ {fs:List Fn},(fs.map (·.nm)).Nodup->f∈fs->look fs f.nm=some f
 | [],_,h=>nomatch h
 | x::r,nd,h=>by
  rw [Y0i,Y1i] at nd;unfold look;rw [Y1j];rcases Y06.mp h with rfl | h
  ·rw [beq_self_eq_true]
  ·have:(x.nm==f.nm)=false:=beq_eq_false_iff_ne.mpr λ e=>nd.1 (Y0w.mpr ⟨f,h,e.symm⟩)
   rw [this];exact QG nd.2 h
def Sim (fs:List Fn)(x:Str):Prop:=PyData.strOk x=true/\∃ g,look fs x=some g/\SimF g
theorem QH {ws:List Str}{cn:Nat->Nat}{many some':Nat}:∀ (fsP:List Fn) (k:Nat),Jp ws cn many some' k fsP->fsP.map (·.nm)=(List.range' (4+k) fsP.length).map (at_ ws)
 | [],k,_=>rfl
 | f::r,k,h=>by
  rw [Y0i,QH r (k+1) h.2,Y09,Y2a,Y0i,h.1.nm];rfl
section
variable {fs:List Fn}{ws vs:List Str}{cn:Nat->Nat}{many some':Nat}
theorem Ol {b x:Str}{ps:List Str}{sh:T}{N:Nat}(hb:PyData.strOk b=true)(hx:Sim fs x)(h:Shp ps sh):Ok (look fs) (N+4) (.call b none [sh]) ps (some (b,x)):=by
 obtain ⟨_,g,hg,sg⟩:=hx;refine ⟨hb,(λ x h=>nomatch h),(λ t ht=>by rw [Y0a.mp ht];exact h.ok),by simp,g,none,?_,?_,by rw [sg.one];rfl,sg.sok,(λ p h=>nomatch h),sg.go _ _ _⟩
 ·show look fs (if (b==b)=true then x else b)=_;rw [beq_self_eq_true,if_pos rfl];exact hg
 ·rw [sg.blk];rfl
theorem UK (ow:Wd ws 13)(hM:many<=6)(hc:∀ k,1<=cn k/\cn k<=3)(hS:∀ j,j<some'->Sim fs (at_ ws j)):∀ (fsP:List Fn) (k:Nat),Jp ws cn many some' k fsP->k+fsP.length=many->(∀ f∈fsP,look fs f.nm=some f)->∀ f r,fsP=f::r->∀ b,f.blk=some b->∀ x,Sim fs x->Ok (look fs) (2*fsP.length+2) f.body f.ps (some (b,x))
 | [],k,_,_,_,f,r,e,b,eb,x,hx=>by cases e
 | f::[],k,h,hl,hm,f',r,e,b,eb,x,hx=>by
  cases e;obtain ⟨b',eb',hb,hT⟩:=h.1.bd;rw [eb] at eb';cases eb';have hbo:PyData.strOk b=true:=by rcases hb with rfl | rfl<;>exact ow.ok (by decide)
  rw [if_neg (by simp at hl;omega)] at hT;obtain ⟨sh,h1,h2⟩:=hT;rw [h2];exact Ol (N:=0) hbo hx h1
 | f::f2::r2,k,h,hl,hm,f',r,e,b,eb,x,hx=>by
  cases e;obtain ⟨b',eb',hb,hT⟩:=h.1.bd;rw [eb] at eb';cases eb';have hbo:PyData.strOk b=true:=by rcases hb with rfl | rfl<;>exact ow.ok (by decide)
  have hk:k+1<many:=by simp at hl;omega
  rw [if_pos hk] at hT;obtain ⟨s,sh,hnd,args,hs,h1,h2,h3,h4,h5⟩:=hT;obtain ⟨b2,eb2,hb2,_⟩:=h.2.1.bd;have nb:at_ ws (4+(k+1))≠b:=by rcases hb with rfl | rfl<;>exact ow.ne (by omega) (by decide) (by omega)
  have hsd:Sim fs (std (some (b,x)) hnd):=by
   show Sim fs (if (hnd==b)=true then x else hnd);cases q:(hnd==b) with
   | true=>rw [if_pos rfl];exact hx
   | false =>
    rw [if_neg (by decide)];rcases h2 with z | ⟨j,hj,z⟩
    ·rw [z,beq_self_eq_true] at q;cases q
    ·rw [z];exact hS j hj
  have A:Ok (look fs) (2*r2.length+5) (.call b none [sh]) f.ps (some (b,x)):=Ol (N:=2*r2.length+1) hbo hx h1;have hno:PyData.strOk hnd=true:=by
   rcases h2 with z | ⟨j,hj,z⟩
   ·rw [z];exact hbo
   ·rw [z];exact (hS j hj).1
  have B:Ok (look fs) (2*r2.length+5) (.call (at_ ws (4+(k+1))) (some hnd) args) f.ps (some (b,x)):=by
   have nm2:=h.2.1.nm;refine ⟨ow.ok (by omega),(λ y hy=>by cases hy;exact hno),(λ t ht=>(h4 t ht).ok (N:=2*r2.length+2)),?_,f2,some (b2,std (some (b,x)) hnd),?_,?_,by rw [h.2.1.ln,h3],h.2.1.so,(λ p hp=>by cases hp;exact ⟨by rcases hb2 with rfl | rfl<;>exact ow.ok (by decide),hsd.1⟩),UK ow hM hc hS (f2::r2) (k+1) h.2 (by simp at hl ⊢;omega) (λ f hf=>hm f (Y02 _ hf)) f2 r2 rfl b2 eb2 _ hsd⟩
   ·rw [h3];have:=hc (k+1);omega
   ·show look fs (if (at_ ws (4+(k+1))==b)=true then x else at_ ws (4+(k+1)))=_;rw [beq_eq_false_iff_ne.mpr nb,if_neg (by decide),<- nm2];exact hm f2 (Y02 _ Y03)
   ·rw [eb2];rfl
  have e:2*(f::f2::r2).length+2=(2*r2.length+5)+1:=by simp;omega
  rw [e];rcases h5 with z | z<;>rw [z]
  ·exact ⟨hs,A,B⟩
  ·exact ⟨hs,B,A⟩
theorem BZ {s j:Nat}{fsS fsP:List Fn}{u:Int}(ow:Wd ws 13)(ov:Wd vs 4)(p:Prg ws vs fs many some' s cn fsS fsP j u):FsOk fs/\j4 ws vs cn j u∈fs/\look fs (at_ ws 12)=some (j4 ws vs cn j u)/\Ok (look fs) (2*many+3) (j4 ws vs cn j u).body [at_ vs 0] none:=by
 have pm:fs.Perm (fsS++fsP++[j4 ws vs cn j u]):=by
  rw [p.eq];exact (List.perm_append_comm).trans (by rw [List.take_append_drop])
 have nmE:(fsS++fsP++[j4 ws vs cn j u]).map (·.nm)=(List.range' 0 some'++List.range' 4 many++[12]).map (at_ ws):=by
  rw [Y1o,Y1o,Y1o,Y1o,p.nS,QH fsP 0 p.pP,p.lP];rfl
 have nd0:((List.range' 0 some'++List.range' 4 many++[12]).map (at_ ws)).Nodup:=by
  have hm:=p.bm;have hs:=p.bs;have lt:(List.range' 0 some'++List.range' 4 many++[12]).Pairwise (·<·):=by
   rw [List.pairwise_append,List.pairwise_append];refine ⟨⟨Y2v,Y2v,λ a ha b hb=>?_⟩,List.pairwise_singleton _ _,λ a ha b hb=>?_⟩
   ·have:=Y18.mp ha;have:=Y18.mp hb;omega
   ·rw [Y0a.mp hb];rcases Y19.mp ha with ha | ha
    ·have:=Y18.mp ha;omega
    ·have:=Y18.mp ha;omega
  have bnd13:∀ a∈(List.range' 0 some'++List.range' 4 many++[12]),a<13:=λ a ha=>by
   rcases Y19.mp ha with ha | ha
   ·rcases Y19.mp ha with ha | ha
    ·have:=Y18.mp ha;omega
    ·have:=Y18.mp ha;omega
   ·rw [Y0a.mp ha];decide
  rw [List.Nodup,List.pairwise_map];exact lt.imp_of_mem λ ha hb h=>ow.ne (bnd13 _ ha) (bnd13 _ hb) (Y0g h)
 have nd:(fs.map (·.nm)).Nodup:=by
  rw [(pm.map (·.nm)).nodup_iff,nmE];exact nd0
 have mem:∀ f,f∈fsS++fsP++[j4 ws vs cn j u]->f∈fs:=λ f hf=>pm.mem_iff.mpr hf;have lk:∀ f,f∈fsS++fsP++[j4 ws vs cn j u]->look fs f.nm=some f:=λ f hf=>QG nd (mem f hf);have okn:∀ f∈fs,PyData.strOk f.nm=true:=λ f hf=>by
  have:f.nm∈(fsS++fsP++[j4 ws vs cn j u]).map (·.nm):=Y0w.mpr ⟨f,pm.mem_iff.mp hf,rfl⟩
  rw [nmE] at this;obtain ⟨i,hi,e⟩:=Y0w.mp this;rw [<- e];refine ow.ok ?_;have hm:=p.bm;have hs:=p.bs;rcases Y19.mp hi with ha | ha
  ·rcases Y19.mp ha with ha | ha
   ·have:=Y18.mp ha;omega
   ·have:=Y18.mp ha;omega
  ·rw [Y0a.mp ha];decide
 have le:fs.length<=1000:=by
  rw [pm.length_eq,Y0h,Y0h,p.lP]
  have:=congrArg List.length p.nS
  simp at this;have hm:=p.bm;have hs:=p.bs;show _+_+1<=1000;omega
 have hS:∀ i,i<some'->Sim fs (at_ ws i):=λ i hi=>by
  have:at_ ws i∈fsS.map (·.nm):=by rw [p.nS];exact Y0w.mpr ⟨i,Y18.mpr ⟨Y1d _,by omega⟩,rfl⟩
  obtain ⟨f,hf,e⟩:=Y0w.mp this;have e:f.nm=at_ ws i:=e;refine ⟨ow.ok (by have:=p.bs;omega),f,?_,p.sS f hf⟩;rw [<- e];exact lk f (Y0z _ (Y0z _ hf))
 have mm:j4 ws vs cn j u∈fsS++fsP++[j4 ws vs cn j u]:=Y0m _ (Y0a.mpr rfl);refine ⟨⟨nd,okn,le⟩,mem _ mm,lk _ mm,?_⟩;have hm:=p.bm;have hs:=p.bs;have hj:=p.bj;have c0:=p.bc 0;cases eP:fsP with
 | nil=>have:=p.lP;rw [eP] at this;simp at this;omega
 | cons f0 r0 =>
  have pP:=p.pP;rw [eP] at pP;obtain ⟨b,eb,hb,_⟩:=pP.1.bd;have lP:=p.lP;rw [eP] at lP;have nm0:=pP.1.nm;have B:=UK ow hm.2 p.bc hS (f0::r0) 0 pP (by rw [lP];omega) (λ f hf=>lk f (Y0z _ (Y0m _ (by rw [eP];exact hf)))) f0 r0 rfl b eb (at_ ws j) (hS j hj);rw [lP] at B;refine ⟨ow.ok (by decide),(λ y hy=>by cases hy;exact ow.ok (by omega)),(λ t ht=>?_),?_,f0,some (b,at_ ws j),?_,?_,?_,pP.1.so,(λ q hq=>by cases hq;exact ⟨by rcases hb with rfl | rfl<;>exact ow.ok (by decide),ow.ok (by omega)⟩),B⟩
  ·rcases Y06.mp ht with rfl | ht
   ·exact Y03
   ·rw [(List.mem_replicate.mp ht).2];exact p.bu
  ·rw [Y09,Y2m];omega
  ·show look fs (at_ ws 4)=some f0
   have:f0.nm=at_ ws 4:=nm0
   rw [<- this];exact lk f0 (Y0z _ (Y0m _ (by rw [eP];exact Y03)))
  ·rw [eb];rfl
  ·rw [pP.1.ln,Y09,Y2m];omega
end
inductive Al:D->Prop
 | one {s:Str}:PyData.strOk s=true->Al (.tup [.str s])
 | two {s:Str} (v:Int):PyData.strOk s=true->Al (.tup [.str s,.int v])
 | three {s x:Str} (v:Int):PyData.strOk s=true->PyData.strOk x=true->Al (.tup [.str s,.str x,.int v])
section
variable {n:Nat}{H:Hh}
theorem WW {v:Int}:callI defs (n+1) 26 [.int v] H=.ok (.bl true) H:=by
 rw [zb (d:=qE) rfl rfl];exact zj (zD (jG rfl))
theorem z5a {d:D}(h:Al d):zU .Eq d d H=.ok (.bl true) H:=by
 cases h with
 | one h=>simp [pdT,D.pd,D.pds,PyData.canLay0,PyData.canLayAll0,PyData.depth,PyData.depthAll,PyData.eqv,PyData.eqvAll,h]
 | two v h=>simp [pdT,D.pd,D.pds,PyData.canLay0,PyData.canLayAll0,PyData.depth,PyData.depthAll,PyData.eqv,PyData.eqvAll,h]
 | three v h h2=>simp [pdT,D.pd,D.pds,PyData.canLay0,PyData.canLayAll0,PyData.depth,PyData.depthAll,PyData.eqv,PyData.eqvAll,h,h2]
theorem UL {e:D}(h:Al e):callI defs (n+2) 27 [e,e] H=.ok (.bl true) H:=by
 rw [zb (d:=qF) rfl rfl];have z:=z5a (H:=H) h;have sS:∀ {ρ:En}{x:Str},∃ ρ',ρ'=ρ/\True:=λ {ρ x}=>⟨ρ,rfl,trivial⟩;cases h with
 | @one s h=>exact zj (zk rfl (j2 (q:=([],[.tup [.str s,.str s]])) rfl (j9 (λ _ hp=>nomatch hp) (show zG _ _ _ _ _=_ from zQ rfl rfl rfl) qi) (zD (bnd rfl (bnd rfl z)))))
 | @two s v h=>exact zj (zk rfl (j2 (q:=([],[.tup [.str s,.str s],.tup [.int v,.int v]])) rfl (j9 (λ _ hp=>nomatch hp) (show zG _ _ _ _ _=_ from zQ rfl rfl rfl) (j9 (λ _ hp=>nomatch hp) (show zG _ _ _ _ _=_ from zT rfl (zk (bnd (bnd (bnd rfl (bnd rfl WW)) rfl) rfl) rfl) rfl) qi)) (zD (bnd rfl (bnd rfl z)))))
 | @three s x v h h2=>exact zj (zk rfl (j2 (q:=([],[.tup [.str s,.str s],.tup [.str x,.str x],.tup [.int v,.int v]])) rfl (j9 (λ _ hp=>nomatch hp) (show zG _ _ _ _ _=_ from zQ rfl rfl rfl) (j9 (λ _ hp=>nomatch hp) (show zG _ _ _ _ _=_ from zQ rfl rfl rfl) (j9 (λ _ hp=>nomatch hp) (show zG _ _ _ _ _=_ from zT rfl (zk (bnd (bnd (bnd rfl (bnd rfl WW)) rfl) rfl) rfl) rfl) qi))) (zD (bnd rfl (bnd rfl z)))))
theorem z5b {m:Nat}{xs:List D}(g:H[m]?=some (.lst xs)):isI H (.loc m) 4=some true:=by
 show (PI.rd H m).map (λ _=>4==4)=_;rw [rdl g];rfl
theorem UM {ck:Ck}(st:stay ck H){a b c d:Option D}:∀ (rc:List D) (x y:Option D),(∀ d∈rc,Al d)->∃ x' y',j8 ck (zG y0 λ ρ' h'=>b_law_right_1.run (callI defs (n+2)) ρ' h') ((rc.zip rc).map w4) [a,b,c,d,x,y] H=.nx [a,b,c,d,x',y'] H
 | [],x,y,o=>⟨x,y,if_pos st⟩
 | r::rc,x,y,o=>by
  obtain ⟨x',y',e⟩:=UM st rc (some r) (some r) λ z hz=>o z (Y02 _ hz);refine ⟨x',y',j9 st (show zG _ _ _ _ _=_ from ?_) e⟩;exact zk (bnd (bnd (bnd rfl (bnd rfl (UL (o r Y03)))) rfl) rfl) rfl
theorem z00 {e:D}(he:Al e){u:Int}{rc:List D}(ho:∀ d∈rc,Al d){r m:Nat}(g:H[r]?=some (.lst rc))(ge:H[m]?=some (.lst rc)):callI defs (n+3) 28 [.tup [e,.loc r,.int u],e,.loc m,.int u] H=.ok (.bl true) H:=by
 rw [zb (d:=qG) rfl rfl];have zz:Qj (.loc r) (.loc m) H=.ok (([(r,rc),(m,rc)]:Ck),(rc.zip rc).map w4) H:=by
  have q:Qj (.loc r) (.loc m) H=(match (PI.rd H r).map (λ xs=>(([(r,xs)],xs):Ck×List D)) with
   | some p=>(match (PI.rd H m).map (λ xs=>(([(m,xs)],xs):Ck×List D)) with
    | some q=>Res.ok (p.1++q.1,(p.2.zip q.2).map w4) H
    | none=>.no)
   | none=>.no):=rfl
  rw [q,rdl g,rdl ge];rfl
 have st:stay [(r,rc),(m,rc)] H:=λ p hp=>by
  rcases Y06.mp hp with rfl | hp
  ·exact rdl g
  ·rw [Y0a.mp hp];exact rdl ge
 obtain ⟨x',y',L⟩:=UM (n:=n) st (a:=some (.tup [e,.loc r,.int u])) (b:=some e) (c:=some (.loc m)) (d:=some (.int u)) rc none none ho;have is1:∀ {ρ:En}{p1 p2 p3 p4 p5 p6 p7:Pos},ρ[0]?=some (some (.tup [e,.loc r,.int u]))->E.evT (callI defs (n+2)) (.un .Not (.isi 4 (.sub (.var 0 p1) (.int 1 p2) p3) p4 p5 p6) p7) ρ H=.ok false H:=λ {ρ p1 p2 p3 p4 p5 p6 p7} q=>by
  simp [E.evT,vun,z6k,vsub,jF,q,YD,a1,z5b g,unD]
 refine zj (zk rfl (zk (z36 ?_ (zi (bnd rfl (len_loc g)) (bnd rfl (len_loc ge)) (neI.trans (by simp)))) (j2 (izip.trans (bnd rfl (bnd rfl zz))) L (zD (jG (z34 (bnd (bnd rfl (bnd rfl (UL he))) rfl) (bnd (bnd rfl (bnd rfl WW)) rfl) (zi rfl rfl (eqI.trans (by rw [beq_self_eq_true])))))))));exact is1 rfl
end
theorem Om {rc:List D}{x:D}(h:∀ d∈rc,Al d)(hx:Al x):∀ d∈rc++[x],Al d:=λ d hd=>by
 rcases Y19.mp hd with hd | hd
 ·exact h d hd
 ·rw [Y0a.mp hd];exact hx
def AlO (o:Out):Prop:=(∀ d∈(J8 o).2.rc,Al d)/\Al (J8 o).1
theorem AlO.bind {o:Out}{f:Int->Sta->Out}(h:AlO o)(g:∀ v s,o=.val v s->(∀ d∈s.rc,Al d)->AlO (f v s)):AlO (o.bind f):=by
 cases o with
 | val v s=>exact g v s rfl h.1
 | fin e s=>exact h
theorem QI {F:T->Sta->Out}:∀ (as:List T) (s:Sta) (f:List Int->Sta->Out),(∀ t∈as,∀ s:Sta,(∀ d∈s.rc,Al d)->AlO (F t s))->(∀ d∈s.rc,Al d)->(∀ vs (s1:Sta),(∀ d∈s1.rc,Al d)->AlO (f vs s1))->AlO (wJ F as s f)
 | [],s,f,h,hs,hf=>hf [] s hs
 | t::r,s,f,h,hs,hf=>(h t Y03 s hs).bind λ v s1 _ h1=>QI r s1 _ (λ t ht=>h t (Y02 _ ht)) h1 λ vs s2 h2=>hf (v::vs) s2 h2
theorem qV {P:Str->Option Fn}{bd:Int}:∀ (N:Nat) (t:T) (S:List Str) (kn:List (Str×Int)) (bl:Bl) (s:Sta),Ok P N t S bl->(∀ d∈s.rc,Al d)->AlO (told P bd N t kn bl s)
 | 0,t,S,kn,bl,s,o,h=>o.elim
 | N+1,.num c,S,kn,bl,s,o,h=>⟨h,.two _ so_ends.1⟩
 | N+1,.var x,S,kn,bl,s,o,h=>⟨h,.two _ so_ends.1⟩
 | N+1,.op z a b,S,kn,bl,s,o,h=>(qV N a S kn bl s o.2.1 h).bind λ v s1 _ h1=>(qV N b S kn bl s1 o.2.2 h1).bind λ w s2 _ h2=>by
  unfold WQ;cases wH z v w with
  | some i=>exact ⟨h2,.two _ so_ends.1⟩
  | none=>exact ⟨h2,.one so_ends.2.1⟩
 | N+1,.doo x a,S,kn,bl,s,o,h=>(qV N a S kn bl s o.2 h).bind λ v s1 _ h1=>by
  unfold yE;by_cases z:s1.u<bd
  ·simp only [if_pos z];cases s1.an with
   | nil=>exact ⟨Om h1 (.three _ jp o.1),.three _ qU o.1⟩
   | cons i r=>exact ⟨Om h1 (.three _ jp o.1),.two _ so_ends.1⟩
  ·simp only [if_neg z];exact ⟨h1,.one so_ends.2.2⟩
 | N+1,.call g hh as,S,kn,bl,s,o,h=>by
  refine QI as s _ (λ t ht s hs=>qV N t S kn bl s (o.2.2.1 t ht) hs) h λ vs s1 h1=>?_;obtain ⟨f,bl',e2,e3,e4,e5,e6,e7⟩:=o.2.2.2.2;by_cases z:s1.u<bd
  ·rw [if_pos z,e2];show AlO (match inn f.blk (jD bl hh) with | some bl'=>told P bd N f.body (f.ps.zip vs).reverse bl' { s1 with u:=s1.u+1 } | none=>.fin .non s1)
   rw [e3];exact qV N f.body f.ps _ bl' { s1 with u:=s1.u+1 } e7 h1
  ·rw [if_neg z];exact ⟨h1,.one so_ends.2.2⟩
theorem On:∀ (l:List Int),PyData.canLayAll0 (l.map PyData.int)=true
 | []=>rfl
 | b::r=>by rw [Y0i];simp [PyData.canLayAll0,PyData.canLay0,On r]
theorem Oo:∀ (l:List Int),PyData.depthAll (l.map PyData.int)=0
 | []=>rfl
 | b::r=>by rw [Y0i];simp [PyData.depthAll,PyData.depth,Oo r]
theorem Op:∀ (l:List Int),PyData.eqvAll (l.map PyData.int) (l.map PyData.int)=true
 | []=>rfl
 | b::r=>by rw [Y0i];simp [PyData.eqvAll,PyData.eqv,Op r]
theorem Oq {h:Hh}:∀ (l:List Int),D.pds h (l.map D.int)=some (l.map PyData.int)
 | []=>by rw [Y2e,D.pds];rfl
 | b::r=>by rw [Y0i,D.pds,Oq r];simp [D.pd]
theorem QJ {h:Hh}{a b:Nat}{l:List Int}(ga:h[a]?=some (.lst (l.map D.int)))(gb:h[b]?=some (.lst (l.map D.int))):zU .NotEq (.loc a) (.loc b) h=.ok (.bl false) h:=by
 have pa:∀ {a:Nat},h[a]?=some (.lst (l.map D.int))->pdT h (.loc a)=some (.list (l.map PyData.int)):=λ {a} ga=>by
  show (PI.rd h a).bind (λ xs=>(D.pds h xs).map PyData.list)=_;rw [rdl ga];show (D.pds h (l.map D.int)).map PyData.list=_;rw [Oq];rfl
 rw [cmp_ne,pa ga,pa gb,eqR_some];simp [PyData.canLay0,On l,PyData.depth,Oo,PyData.eqv,Op l]
section
variable {n:Nat}{H:Hh}{ns:List Int}{ρ:En}
theorem z6t (e0:ρ[0]?=some (some (.fl (ns.map .int)))):∃ (an:List Int) (J:Hh),(∀ v∈an,Sm v)/\∀ {p1 p2 p3 p4 p5 p8:Pos},E.ev (callI defs (n+2)) (.ofL (.comp e_law_2 WG (.seq (.cut (.var 0 p1) (.some (.int 16 p2)) (.some (.int 46 p3)) p4 p5)) c_law_2 ["_law_one"] [none] Uw p8)) ρ H=.ok (.loc (H++J).length) ((H++J)++[.lst (an.map .int)]):=by
 obtain ⟨cs,hc,lc⟩:=BV ns (some 16) (some 46);have lc:=BW ns 16 46 (by decide) (by decide);rw [hc,Y0d] at lc;have lc:cs.length<=30:=lc;have gl:=zr (h:=H) (x:=O.lst (cs.map D.int));obtain ⟨vs,C,lv,sv⟩:=W9 (c:=[(H.length,cs.map D.int)]) (f:=zZ WG [none] (λ ρ' h2=>c_law_2.evC (callI defs (n+2)) ρ' h2) (λ ρ' h2=>e_law_2.ev (callI defs (n+2)) ρ' h2)) (h:=H++[.lst (cs.map D.int)]) (λ p hp=>by rw [Y0a.mp hp];exact rdl gl) (cs.map D.int) [] λ w hw=>by
  obtain ⟨c,_,rfl⟩:=Y0w.mp hw;obtain ⟨u,hu,su⟩:=Jb (cl:=callI defs (n+1)) (h:=H++[.lst (cs.map D.int)]) (c:=c);exact ⟨u,ju rfl rfl (bnd rfl (bnd rfl ((zb (d:=d_law_number) rfl rfl).trans hu))),su⟩
 rw [Y14] at C;refine ⟨vs,[.lst (cs.map D.int)],sv,λ {p1 p2 p3 p4 p5 p8}=>?_⟩;refine j3 (q:=([(H.length,cs.map D.int)],cs.map D.int)) (h2:=H++[.lst (cs.map D.int)]) (qO (n:=H.length) (h':=H++[.lst (cs.map D.int)]) ?_ (rdl gl)) (by show (cs.map D.int).length<=_;rw [Y0d];omega) ?_;rotate_left
 ·exact C
 refine vcut.trans (bnd (x:=.fl (ns.map .int)) (h:=H) (by rw [jF,e0]) (bnd (x:=some 16) (h:=H) rfl (bnd (x:=some 46) (h:=H) rfl ?_)));show new (.lst (zV (ns.map D.int) (some 16) (some 46))) H=_;rw [hc];rfl
end
theorem SD.mono {pg:D}{bd:Int}{H H':Hh}{sl:Nat}{a:Sta}{e:D}(q:SD pg [] bd H sl a e)(x:Ex H H'):SD pg [] bd H' sl a e:=by
 obtain ⟨rl,al,g1,g2,g3,n1,n2,n3⟩:=q.ex;exact ⟨rl,al,x _ _ g1,x _ _ g2,x _ _ g3,n1,n2,λ i hi=>nomatch hi⟩
def YS (fs:List Fn):List (Str×D):=fs.map λ f=>(f.nm,fnD f)
theorem z5c {fs:List Fn}:(YS fs).map (·.1)=fs.map (·.nm):=by unfold YS;rw [Y2l];rfl
theorem z6u {fs:List Fn}:(YS fs).map (·.2)=fs.map fnD:=by unfold YS;rw [Y2l];rfl
section
variable {n:Nat}{ns:List Int}
theorem z5d:∃ (ws vs:List Str) (fs:List Fn) (many some' s:Nat) (cn:Nat->Nat) (fsS fsP:List Fn) (j:Nat) (u v:Int) (mq mn ma:Nat) (an:List Int) (bd:Int) (X:Hh),Wd ws 13/\Wd vs 4/\Prg ws vs fs many some' s cn fsS fsP j u/\Sm v/\(∀ a∈an,Sm a)/\bd<=100000/\X[mq]?=some (.lst (ws.map .str))/\X[mn]?=some (.lst ([v].map .int))/\X[ma]?=some (.lst (an.map .int)) /\
  Ss.run (callI defs (n+33)) (qZ 6 d_law.body) [some (.fl (ns.map .int)),none,none,none,none,none,none,none,none,none,none,none] []=.nx [some (.fl (ns.map .int)),some (.loc mq),some (pgD fs),some (.loc mn),some (.loc ma),some (.int bd),none,none,none,none,none,none] X:=by
 obtain ⟨c1,e1⟩:=wA (n:=n+32) (ns:=ns) (H:=[]) 1;obtain ⟨J1,ws,mq,en1,g1,l1,s1,d1⟩:=(WV (n:=n+32) (c:=c1) (H:=[]) (M:=13) (by decide)).ex;have ow:Wd ws 13:=⟨l1,s1,d1⟩;generalize hA:([]:Hh)++J1=A at en1 g1;obtain ⟨c3,e3⟩:=wA (n:=n+32) (ns:=ns) (H:=A) 3;obtain ⟨J2,vs,mv,en2,g2,l2,s2,d2'⟩:=(WV (n:=n+32) (c:=c3) (H:=A) (M:=4) (by decide)).ex;have ov:Wd vs 4:=⟨l2,s2,d2'⟩;have gA:(A++J2)[mq]?=_:=zd g1;generalize hB:A++J2=B at en2 g2 gA;obtain ⟨fs,many,some',s,cn,fsS,fsP,j,u,C,pr,ep,xC⟩:=Vy (n:=n+28) (ns:=ns) ow ov gA g2;obtain ⟨c15,e15⟩:=wA (n:=n+32) (ns:=ns) (H:=C) 15;obtain ⟨v,ev,sv⟩:=Jb (cl:=callI defs (n+32)) (h:=C) (c:=c15);have ev:callI defs (n+33) 30 [.int c15] C=.ok (.int v) C:=(zb (d:=d_law_number) rfl rfl).trans ev;obtain ⟨an,J3,sa,ea⟩:=z6t (n:=n+31) (ns:=ns) (H:=C++[.lst [.int v]]) (ρ:=[some (.fl (ns.map .int)),some (.loc mq),some (pgD fs),some (.loc C.length),none,none,none,none,none,none,none,none]) rfl;have gn:((C++[O.lst [.int v]]++J3)++[O.lst (an.map .int)])[C.length]?=some (.lst ([v].map .int)):=zd (zd zr);have gq:((C++[O.lst [.int v]]++J3)++[O.lst (an.map .int)])[mq]?=some (.lst (ws.map .str)):=zd (zd (zd (xC _ _ gA)));have gaa:((C++[O.lst [.int v]]++J3)++[O.lst (an.map .int)])[(C++[O.lst [.int v]]++J3).length]?=some (.lst (an.map .int)):=zr;generalize hX:(C++[O.lst [.int v]]++J3)++[O.lst (an.map .int)]=X at ea gn gq gaa;generalize (C++[O.lst [.int v]]++J3).length=ma at ea gaa;obtain ⟨c0,e0⟩:=wA (n:=n+32) (ns:=ns) (H:=X) 0;have hd:∀ {o:RS},Ss.run (callI defs (n+33)) (jw 5 (qZ 6 d_law.body)) [some (.fl (ns.map .int)),some (.loc mq),some (pgD fs),some (.loc C.length),some (.loc ma),some (.int (c0/7200%2001)),none,none,none,none,none,none] X=o->Ss.run (callI defs (n+33)) (qZ 6 d_law.body) [some (.fl (ns.map .int)),none,none,none,none,none,none,none,none,none,none,none] []=o:=λ {o} k =>
  zg (bnd (bnd rfl (bnd rfl e1)) (bnd rfl en1)) (zg (bnd rfl (bnd (bnd rfl (bnd (bnd (bnd (bnd rfl (bnd rfl e3)) (bnd rfl en2)) rfl) rfl)) ep)) (zg (d:=.loc C.length) (h':=C++[O.lst [.int v]]) (UF (bnd (bnd rfl (bnd rfl e15)) (bnd rfl ev))) (zg ea (zg (bnd (bnd (bnd rfl (bnd rfl e0)) (bnd rfl fdk)) (bnd rfl mdk)) k))))
 by_cases q:c0/2400%3=0
 ·exact ⟨ws,vs,fs,many,some',s,cn,fsS,fsP,j,u,v,mq,C.length,ma,an,c0/7200%14,X,ow,ov,pr,sv,sa,by omega,gq,gn,gaa,hd (zQ (zi (bnd (bnd (bnd rfl (bnd rfl e0)) (bnd rfl fdk)) (bnd rfl mdk)) rfl (eqI.trans (by rw [q];rfl))) (zg (bnd (bnd (bnd rfl (bnd rfl e0)) (bnd rfl fdk)) (bnd rfl mdk)) rfl) rfl)⟩
 ·exact ⟨ws,vs,fs,many,some',s,cn,fsS,fsP,j,u,v,mq,C.length,ma,an,c0/7200%2001,X,ow,ov,pr,sv,sa,by omega,gq,gn,gaa,hd (zk (zi (bnd (bnd (bnd rfl (bnd rfl e0)) (bnd rfl fdk)) (bnd rfl mdk)) rfl (eqI.trans (by rw [beq_eq_false_iff_ne.mpr q]))) rfl)⟩
theorem z5e {ws vs:List Str}{fs:List Fn}{many some' s:Nat}{cn:Nat->Nat}{fsS fsP:List Fn}{j:Nat}{u v:Int}{mq mn ma:Nat}{an:List Int}{bd:Int}{X:Hh}(ow:Wd ws 13)(ov:Wd vs 4)(pr:Prg ws vs fs many some' s cn fsS fsP j u)(sv:Sm v)(sa:∀ a∈an,Sm a)(hb:bd<=100000)(gq:X[mq]?=some (.lst (ws.map .str)))(gn:X[mn]?=some (.lst ([v].map .int)))(ga:X[ma]?=some (.lst (an.map .int))) :
  ∃ h',Ss.run (callI defs (n+33)) (jw 6 d_law.body) [some (.fl (ns.map .int)),some (.loc mq),some (pgD fs),some (.loc mn),some (.loc ma),some (.int bd),none,none,none,none,none,none] X=.rt (.bl true) h':=by
 obtain ⟨of,mm,lk,okm⟩:=BZ ow ov pr;have hm:=pr.bm;have w12:PyData.strOk (at_ ws 12)=true:=ow.ok (by decide);have v0:PyData.strOk (at_ vs 0)=true:=ov.ok (by decide);have k1:KnOk [at_ vs 0] ([at_ vs 0].zip [v]).reverse:=UC rfl (λ x hx=>by rw [Y0a.mp hx];exact v0) (λ x hx=>by rw [Y0a.mp hx];exact sv);have eS:(((X++[O.dK []])++[O.lst []]).set X.length (sdO (pgD fs) bd (X++[O.dK []]).length ma 0 .non))=(X++[sdO (pgD fs) bd (X++[O.dK []]).length ma 0 .non])++[.lst []]:=by
  rw [Y0l,Y23 _ _ (Y04 _),Y11,Y0l];rfl
 have D6:∀ {q1 q2 q3 q4 q5 q6 q7:Pos}{es:Es}{ρ:En},es.ev (callI defs (n+33)) ρ (X++[.dK []])=.ok [.loc (X++[O.dK []]).length,.int 0,.int bd,.loc ma,.non,pgD fs] ((X++[.dK []])++[.lst []])->E.ev (callI defs (n+33)) (.dispD [("record",q1),("used",q2),("turns",q3),("answers",q4),("end",q5),("program",q6)] es q7) ρ X=.ok (.loc X.length) ((X++[sdO (pgD fs) bd (X++[O.dK []]).length ma 0 .non])++[.lst []]):=λ {q1 q2 q3 q4 q5 q6 q7 es ρ} e=>by
  rw [z2y];refine bnd e ?_;show (match ((X++[O.dK []])++[O.lst []])[X.length]? with | some (.dK [])=>Res.ok (D.loc X.length) (((X++[O.dK []])++[O.lst []]).set X.length (.dK _)) | _=>.no)=_
  rw [zd zr,<- eS];rfl
 have q0:SD (pgD fs) [] bd ((X++[sdO (pgD fs) bd (X++[O.dK []]).length ma 0 .non])++[.lst []]) X.length ⟨0,[],an⟩ .non:=by
  have l1:(X++[O.dK []]).length=(X++[sdO (pgD fs) bd (X++[O.dK []]).length ma 0 .non]).length:=by simp
  refine ⟨(X++[O.dK []]).length,ma,zd zr,?_,zd (zd ga),by simp,by have:=zu ga;omega,λ i hi=>nomatch hi⟩;have g:=zr (h:=X++[sdO (pgD fs) bd (X++[O.dK []]).length ma 0 .non]) (x:=O.lst []);rw [<- l1] at g;exact g
 have x0:Ex X ((X++[sdO (pgD fs) bd (X++[O.dK []]).length ma 0 .non])++[.lst []]):=Ex.app.tr Ex.app;generalize (X++[sdO (pgD fs) bd (X++[O.dK []]).length ma 0 .non])++[O.lst []]=W at D6 q0 x0;have nsl:∀ {i:Nat}{o:O},X[i]?=some o->i≠X.length:=λ e=>by have:=zu e;omega
 have s12:zX (.loc mq) (.int 12) W=.ok (.str (at_ ws 12)) W:=ow.sub (i:=12) (by decide) (x0 _ _ gq);obtain ⟨l,P⟩:=z0u (cl:=callI defs (n+33)) of w12 lk (H:=W) (f0:=zZ Uv (jX [none,some 1] [some (.fl (ns.map .int)),some (.loc mq),some (pgD fs),some (.loc mn),some (.loc ma),some (.int bd),some (.loc X.length),none,none,none,none,none]) (λ ρ' h2=>c_law_1.evC (callI defs (n+33)) ρ' h2) (λ ρ' h2=>e_law_1.ev (callI defs (n+33)) ρ' h2)) λ f' hf'=>by
  rw [WS];have cq:∀ b,(f'.nm==at_ ws 12)=b->c_law_1.evC (callI defs (n+33)) [some (fnD f'),some (.loc mq)] W=.ok b W:=λ b hb=>ctE rfl (bnd rfl (bnd rfl s12)) (by rw [<- hb];exact eqS (of.ok f' hf') w12);cases hb:(f'.nm==at_ ws 12) with
  | true=>exact ju rfl (cq true hb) rfl
  | false=>exact WT rfl (cq false hb)
 have gnW:(W++[O.lst (fnD (j4 ws vs cn j u)::l)])[mn]?=some (.lst ([v].map .int)):=zd (x0 _ _ gn);have LZ:=z0v (names:=[at_ vs 0]) gnW;have g4:=zr (h:=W++[O.lst (fnD (j4 ws vs cn j u)::l)]) (x:=.lst (kl ([at_ vs 0].zip [v]).reverse));have lsl:=q0.ne;obtain ⟨H6,e6,q6,x6⟩:=yU (sl:=X.length) (bd:=bd) of (2*many+3) (j4 ws vs cn j u).body [at_ vs 0] ([at_ vs 0].zip [v]).reverse none (n+33) _ _ ⟨0,[],an⟩ [] okm k1 (λ _ h=>nomatch h) ⟨sa,Int.le_refl _⟩ hb (by omega) (by simp) g4 (by rw [Y0h];omega) q0.app.app;have al:=qV (P:=look fs) (bd:=bd) (2*many+3) (j4 ws vs cn j u).body [at_ vs 0] ([at_ vs 0].zip [v]).reverse none ⟨0,[],an⟩ okm (λ _ h=>nomatch h);have RUN:=λ (H:Hh) (mo mh:Nat) (go:H[mo]?=some (.lst ([v].map .int))) (gh:H[mh]?=some (.lst (an.map .int)))=>z50 (n:=n+26) (N:=2*many+3) (H:=H) (m:=mo) (ma:=mh) (bd:=bd) (qs:=YS fs) (nums:=[v]) (an:=an) (f:=at_ ws 12) (names:=[at_ vs 0]) (t:=(j4 ws vs cn j u).body) (P:=look fs)
  (λ q hq=>by unfold YS at hq;obtain ⟨f,hf,rfl⟩:=Y0w.mp hq;exact ⟨_,_,_,rfl⟩) (by rw [z5c];exact of.nd) (by unfold YS;rw [Y0d];have:=of.le;omega) (Y0w.mpr ⟨_,mm,rfl⟩) go gh rfl
  (λ g f e=>Qz (by rw [z5c];exact of.nd) (Y0w.mpr ⟨f,(WU e).2,by rw [(WU e).1]⟩)) hb (by omega) okm k1 sa
 rw [z6u] at RUN;generalize told (look fs) bd (2*many+3) (j4 ws vs cn j u).body ([at_ vs 0].zip [v]).reverse none ⟨0,[],an⟩=o at e6 q6 al RUN;have fin:∃ H7,Ss.run (callI defs (n+33)) (qZ 1 (jw 9 d_law.body)) [some (.fl (ns.map .int)),some (.loc mq),some (pgD fs),some (.loc mn),some (.loc ma),some (.int bd),some (.loc X.length),some (fnD (j4 ws vs cn j u)),some (YQ o),none,none,none] H6=.nx [some (.fl (ns.map .int)),some (.loc mq),some (pgD fs),some (.loc mn),some (.loc ma),some (.int bd),some (.loc X.length),some (fnD (j4 ws vs cn j u)),some (YQ o),none,none,none] H7/\SD (pgD fs) [] bd H7 X.length (J8 o).2 (J8 o).1/\ExS X.length H6 H7:=by
  cases o with
  | fin e s=>exact ⟨H6,zk rfl rfl,q6,ExS.rfl'⟩
  | val w s =>
   obtain ⟨H7,e7,q7,x7⟩:=Zl (n:=n+32) (z:=.tup [.str "done",.int w]) q6;exact ⟨H7,zQ rfl (wo (bnd rfl (bnd rfl e7)) rfl) rfl,q7,x7⟩
 obtain ⟨H7,fin,q7,x7⟩:=fin;have old:∀ {i:Nat}{o:O},X[i]?=some o->H7[i]?=some o:=λ {i o} h=>x7 _ _ (nsl h) (x6 _ _ (nsl h) (zd (zd (x0 _ _ h))));have ga7:=old ga;have gn7:=old gn;have sq1:jZ (.loc ma) H7=some (an.map D.int):=rdl ga7;have sq2:jZ (.loc mn) (H7++[O.lst (an.map D.int)])=some ([v].map D.int):=rdl (zd gn7);have gh:((H7++[O.lst (an.map D.int)])++[O.lst ([v].map D.int)])[H7.length]?=some (.lst (an.map .int)):=zd zr;have go:((H7++[O.lst (an.map D.int)])++[O.lst ([v].map D.int)])[(H7++[O.lst (an.map D.int)]).length]?=some (.lst ([v].map .int)):=zr;obtain ⟨Hf,rr,er,gr,lr,oldf⟩:=RUN _ _ _ go gh;have qf:=(q7.app (B:=[O.lst (an.map D.int)])).app (B:=[O.lst ([v].map D.int)]) |>.mono oldf;obtain ⟨rl,al',y1,y2,y3,n1,n2,n3⟩:=qf.ex;have R:=z00 (n:=n+30) (H:=Hf) al.2 (u:=(J8 o).2.u) al.1 gr y2;have s12':zX (.loc mq) (.int 12) ((H7++[O.lst (an.map D.int)])++[O.lst ([v].map D.int)])=.ok (.str (at_ ws 12)) ((H7++[O.lst (an.map D.int)])++[O.lst ([v].map D.int)]):=ow.sub (i:=12) (by decide) (zd (zd (old gq)));refine ⟨Hf,zg (D6 (bnd (x:=.loc (X++[O.dK []]).length) (h:=(X++[O.dK []])++[O.lst []]) rfl rfl)) (zg (d:=fnD (j4 ws vs cn j u)) (h':=W++[O.lst (fnD (j4 ws vs cn j u)::l)]) (vsub.trans (bnd (j3 (q:=(([]:Ck),fs.map fnD)) (xs:=fnD (j4 ws vs cn j u)::l) (h2:=W) rfl (by rw [Y0d];have:=of.le;omega) P) (bnd rfl (jQ zr a0)))) (zg (d:=YQ o) (h':=H6) (bnd rfl (bnd (bnd (vlistZ.trans (bnd rfl (bnd rfl LZ))) rfl) e6)) (z0l 1 fin ?_)))⟩;refine zg (d:=.loc H7.length) (h':=H7++[O.lst (an.map D.int)]) (vlistE.trans (bnd rfl (by rw [sq1];rfl))) (zg (d:=.loc (H7++[O.lst (an.map D.int)]).length) (h':=(H7++[O.lst (an.map D.int)])++[O.lst ([v].map D.int)]) (vlistE.trans (bnd rfl (by rw [sq2];rfl))) (zg (bnd rfl (bnd (bnd (bnd rfl (bnd rfl s12')) rfl) er)) (zk (z36 (zi rfl rfl (QJ (oldf _ _ gh) (oldf _ _ (zd (zd ga7))))) (zi rfl rfl (QJ (oldf _ _ go) (oldf _ _ (zd (zd gn7)))))) (zD (bnd rfl (bnd (bnd (bnd rfl (bnd rfl (qk y1 rfl))) (bnd (bnd (bnd rfl (bnd rfl (qk y1 rfl))) (bnd (bnd (bnd rfl (bnd rfl (qk y1 rfl))) rfl) rfl)) rfl)) R))))))
theorem z01:∃ h',callI defs (n+34) 43 [.fl (ns.map .int)] []=.ok (.bl true) h':=by
 obtain ⟨ws,vs,fs,many,some',s,cn,fsS,fsP,j,u,v,mq,mn,ma,an,bd,X,ow,ov,pr,sv,sa,hb,gq,gn,ga,L1⟩:=z5d (n:=n) (ns:=ns);obtain ⟨h',L2⟩:=z5e (n:=n) (ns:=ns) ow ov pr sv sa hb gq gn ga;refine ⟨h',?_⟩;rw [zb (d:=d_law) rfl rfl];exact zj (z0l 6 L1 L2)
end
theorem law_true (ns:List Int):∃ h',callI defs 34 43 [.fl (ns.map .int)] []=.ok (.bl true) h':=z01 (n:=0)
def top (i:Nat):Stmt:=PySem.Challenge.pw_deedwright_k44_blocks_handed_on.main.body.getD i (.Pass ⟨0,0,0,0⟩)
abbrev DO (i:Nat) (d:Df) (x y:Str):=DefOk (top i) d (defs.map (·.name)) zm x y
theorem YT:DO 6 d_parts_of "parts_of" "parts_of":=⟨rfl,⟨rfl,rfl,rfl,by decide +kernel,rfl,by decide +kernel,by decide +kernel⟩,by decide +kernel,by decide +kernel,λ _ _ _ _ _ _=>yt λ _=>rfl⟩
theorem WX:DO 7 j6 "stands_for" "stands_for":=⟨rfl,⟨rfl,rfl,rfl,by decide +kernel,rfl,by decide +kernel,by decide +kernel⟩,by decide +kernel,by decide +kernel,λ _ _ _ _ _ _=>wO λ _ _=>rfl⟩
theorem Zb:DO 8 jH "items_by_name" "items_by_name":=⟨rfl,⟨rfl,rfl,rfl,by decide +kernel,rfl,by decide +kernel,by decide +kernel⟩,by decide +kernel,by decide +kernel,λ _ _ _ _ _ _=>yt λ _=>rfl⟩
theorem Ju:DO 10 wt "is_function" "is_function":=⟨rfl,⟨rfl,rfl,rfl,by decide +kernel,rfl,by decide +kernel,by decide +kernel⟩,by decide +kernel,by decide +kernel,λ _ _ _ _ _ _=>wO λ _ _=>rfl⟩
theorem YU:DO 11 yk "begun_at" "begun_at":=⟨rfl,⟨rfl,rfl,rfl,by decide +kernel,rfl,by decide +kernel,by decide +kernel⟩,by decide +kernel,by decide +kernel,λ _ _ _ _ _ _=>wO λ _ _=>rfl⟩
theorem Zd:DO 12 jI "check_numbers" "check_numbers":=⟨rfl,⟨rfl,rfl,rfl,by decide +kernel,rfl,by decide +kernel,by decide +kernel⟩,by decide +kernel,by decide +kernel,λ _ _ _ _ _ _=>wO λ _ _=>rfl⟩
theorem YV:DO 15 d_reckoned "reckoned" "reckoned":=⟨rfl,⟨rfl,rfl,rfl,by decide +kernel,rfl,by decide +kernel,by decide +kernel⟩,by decide +kernel,by decide +kernel,λ _ _ _ _ _ _=>Yr λ _ _ _=>rfl⟩
theorem z5f:DO 21 GZ "run" "run":=⟨rfl,⟨rfl,rfl,rfl,by decide +kernel,rfl,by decide +kernel,by decide +kernel⟩,by decide +kernel,by decide +kernel,λ _ _ _ _ _ _=>z2o λ _ _ _ _ _=>rfl⟩
theorem Vz:DO 22 yS "readied" "readied":=⟨rfl,⟨rfl,rfl,rfl,by decide +kernel,rfl,by decide +kernel,by decide +kernel⟩,by decide +kernel,by decide +kernel,λ _ _ _ _ _ _=>Ql λ _ _ _ _=>rfl⟩
theorem yG:DO 23 jv "clauses_by_deed" "clauses_by_deed":=⟨rfl,⟨rfl,rfl,rfl,by decide +kernel,rfl,by decide +kernel,by decide +kernel⟩,by decide +kernel,by decide +kernel,λ _ _ _ _ _ _=>yt λ _=>rfl⟩
theorem Je:DO 24 jV "doing_copied" "doing_copied":=⟨rfl,⟨rfl,rfl,rfl,by decide +kernel,rfl,by decide +kernel,by decide +kernel⟩,by decide +kernel,by decide +kernel,λ _ _ _ _ _ _=>yt λ _=>rfl⟩
theorem Os:DO 25 ZW "linked" "linked":=⟨rfl,⟨rfl,rfl,rfl,by decide +kernel,rfl,by decide +kernel,by decide +kernel⟩,by decide +kernel,by decide +kernel,λ _ _ _ _ _ _=>wO λ _ _=>rfl⟩
theorem YW:DO 26 yl "answered" "answered":=⟨rfl,⟨rfl,rfl,rfl,by decide +kernel,rfl,by decide +kernel,by decide +kernel⟩,by decide +kernel,by decide +kernel,λ _ _ _ _ _ _=>wO λ _ _=>rfl⟩
theorem VA:DO 27 qP "walk_on" "walk_on":=⟨rfl,⟨rfl,rfl,rfl,by decide +kernel,rfl,by decide +kernel,by decide +kernel⟩,by decide +kernel,by decide +kernel,λ _ _ _ _ _ _=>yt λ _=>rfl⟩
theorem VB:DO 28 jo "do_task" "do_task":=⟨rfl,⟨rfl,rfl,rfl,by decide +kernel,rfl,by decide +kernel,by decide +kernel⟩,by decide +kernel,by decide +kernel,λ _ _ _ _ _ _=>wO λ _ _=>rfl⟩
theorem YX:DO 29 jW "ahead_of" "ahead_of":=⟨rfl,⟨rfl,rfl,rfl,by decide +kernel,rfl,by decide +kernel,by decide +kernel⟩,by decide +kernel,by decide +kernel,λ _ _ _ _ _ _=>yt λ _=>rfl⟩
theorem QK:DO 30 d_looked_up "looked_up" "looked_up":=⟨rfl,⟨rfl,rfl,rfl,by decide +kernel,rfl,by decide +kernel,by decide +kernel⟩,by decide +kernel,by decide +kernel,λ _ _ _ _ _ _=>wO λ _ _=>rfl⟩
theorem z5g:DO 31 d_put "put" "put":=⟨rfl,⟨rfl,rfl,rfl,by decide +kernel,rfl,by decide +kernel,by decide +kernel⟩,by decide +kernel,by decide +kernel,λ _ _ _ _ _ _=>wO λ _ _=>rfl⟩
theorem z02:DO 32 d_taken "taken" "taken":=⟨rfl,⟨rfl,rfl,rfl,by decide +kernel,rfl,by decide +kernel,by decide +kernel⟩,by decide +kernel,by decide +kernel,λ _ _ _ _ _ _=>wO λ _ _=>rfl⟩
theorem QL:DO 33 w9 "took_turn" "took_turn":=⟨rfl,⟨rfl,rfl,rfl,by decide +kernel,rfl,by decide +kernel,by decide +kernel⟩,by decide +kernel,by decide +kernel,λ _ _ _ _ _ _=>yt λ _=>rfl⟩
theorem VC:DO 34 qS "then_op" "then_op":=⟨rfl,⟨rfl,rfl,rfl,by decide +kernel,rfl,by decide +kernel,by decide +kernel⟩,by decide +kernel,by decide +kernel,λ _ _ _ _ _ _=>wO λ _ _=>rfl⟩
theorem QM:DO 38 wa "then_call" "then_call":=⟨rfl,⟨rfl,rfl,rfl,by decide +kernel,rfl,by decide +kernel,by decide +kernel⟩,by decide +kernel,by decide +kernel,λ _ _ _ _ _ _=>wO λ _ _=>rfl⟩
theorem VD:DO 40 qT "then_do" "then_do":=⟨rfl,⟨rfl,rfl,rfl,by decide +kernel,rfl,by decide +kernel,by decide +kernel⟩,by decide +kernel,by decide +kernel,λ _ _ _ _ _ _=>wO λ _ _=>rfl⟩
theorem z03:DO 45 Zh "leave" "leave":=⟨rfl,⟨rfl,rfl,rfl,by decide +kernel,rfl,by decide +kernel,by decide +kernel⟩,by decide +kernel,by decide +kernel,λ _ _ _ _ _ _=>yt λ _=>rfl⟩
theorem o_holds_alone:DO 46 d_holds_alone "holds_alone" "holds_alone":=⟨rfl,⟨rfl,rfl,rfl,by decide +kernel,rfl,by decide +kernel,by decide +kernel⟩,by decide +kernel,by decide +kernel,λ _ _ _ _ _ _=>yt λ _=>rfl⟩
theorem Jv:DO 50 wu "_law_cell_at" "_law_cell_at":=⟨rfl,⟨rfl,rfl,rfl,by decide +kernel,rfl,by decide +kernel,by decide +kernel⟩,by decide +kernel,by decide +kernel,λ _ _ _ _ _ _=>wO λ _ _=>rfl⟩
theorem QN:DO 51 qE "_law_whole" "_law_whole":=⟨rfl,⟨rfl,rfl,rfl,by decide +kernel,rfl,by decide +kernel,by decide +kernel⟩,by decide +kernel,by decide +kernel,λ _ _ _ _ _ _=>yt λ _=>rfl⟩
theorem QO:DO 52 qF "_law_alike" "_law_alike":=⟨rfl,⟨rfl,rfl,rfl,by decide +kernel,rfl,by decide +kernel,by decide +kernel⟩,by decide +kernel,by decide +kernel,λ _ _ _ _ _ _=>wO λ _ _=>rfl⟩
theorem QP:DO 53 qG "_law_right" "_law_right":=⟨rfl,⟨rfl,rfl,rfl,by decide +kernel,rfl,by decide +kernel,by decide +kernel⟩,by decide +kernel,by decide +kernel,λ _ _ _ _ _ _=>Ql λ _ _ _ _=>rfl⟩
theorem QQ:DO 54 qH "_law_names" "_law_names":=⟨rfl,⟨rfl,rfl,rfl,by decide +kernel,rfl,by decide +kernel,by decide +kernel⟩,by decide +kernel,by decide +kernel,λ _ _ _ _ _ _=>wO λ _ _=>rfl⟩
theorem WY:DO 55 d_law_number "_law_number" "_law_number":=⟨rfl,⟨rfl,rfl,rfl,by decide +kernel,rfl,by decide +kernel,by decide +kernel⟩,by decide +kernel,by decide +kernel,λ _ _ _ _ _ _=>yt λ _=>rfl⟩
theorem Jf:DO 56 d_law_reckoned "_law_reckoned" "_law_reckoned":=⟨rfl,⟨rfl,rfl,rfl,by decide +kernel,rfl,by decide +kernel,by decide +kernel⟩,by decide +kernel,by decide +kernel,λ _ _ _ _ _ _=>Yr λ _ _ _=>rfl⟩
theorem YY:DO 57 ym "_law_draw" "_law_draw":=⟨rfl,⟨rfl,rfl,rfl,by decide +kernel,rfl,by decide +kernel,by decide +kernel⟩,by decide +kernel,by decide +kernel,λ _ _ _ _ _ _=>wO λ _ _=>rfl⟩
theorem QR:DO 58 qI "_law_ended" "_law_ended":=⟨rfl,⟨rfl,rfl,rfl,by decide +kernel,rfl,by decide +kernel,by decide +kernel⟩,by decide +kernel,by decide +kernel,λ _ _ _ _ _ _=>wO λ _ _=>rfl⟩
theorem YZ:DO 59 wT "_law_turn" "_law_turn":=⟨rfl,⟨rfl,rfl,rfl,by decide +kernel,rfl,by decide +kernel,by decide +kernel⟩,by decide +kernel,by decide +kernel,λ _ _ _ _ _ _=>yt λ _=>rfl⟩
theorem U0:DO 60 wU "_law_done" "_law_done":=⟨rfl,⟨rfl,rfl,rfl,by decide +kernel,rfl,by decide +kernel,by decide +kernel⟩,by decide +kernel,by decide +kernel,λ _ _ _ _ _ _=>Yr λ _ _ _=>rfl⟩
theorem QS:DO 61 d_law_shift "_law_shift" "_law_shift":=⟨rfl,⟨rfl,rfl,rfl,by decide +kernel,rfl,by decide +kernel,by decide +kernel⟩,by decide +kernel,by decide +kernel,λ _ _ _ _ _ _=>Yr λ _ _ _=>rfl⟩
theorem WZ:DO 62 jN "_law_simple" "_law_simple":=⟨rfl,⟨rfl,rfl,rfl,by decide +kernel,rfl,by decide +kernel,by decide +kernel⟩,by decide +kernel,by decide +kernel,λ _ _ _ _ _ _=>Ql λ _ _ _ _=>rfl⟩
theorem Q0:DO 63 d_law_passer "_law_passer" "_law_passer":=⟨rfl,⟨rfl,rfl,rfl,by decide +kernel,rfl,by decide +kernel,by decide +kernel⟩,by decide +kernel,by decide +kernel,λ _ _ _ _ _ _=>z2o λ _ _ _ _ _=>rfl⟩
theorem Jw:DO 64 wx "_law_program" "_law_program":=⟨rfl,⟨rfl,rfl,rfl,by decide +kernel,rfl,by decide +kernel,by decide +kernel⟩,by decide +kernel,by decide +kernel,λ _ _ _ _ _ _=>Yr λ _ _ _=>rfl⟩
theorem Ot:DO 65 ZY "_law_op" "_law_op":=⟨rfl,⟨rfl,rfl,rfl,by decide +kernel,rfl,by decide +kernel,by decide +kernel⟩,by decide +kernel,by decide +kernel,λ _ _ _ _ _ _=>Ql λ _ _ _ _=>rfl⟩
theorem U1:DO 66 yn "_law_call" "_law_call":=⟨rfl,⟨rfl,rfl,rfl,by decide +kernel,rfl,by decide +kernel,by decide +kernel⟩,by decide +kernel,by decide +kernel,λ _ _ _ _ _ _=>Ql λ _ _ _ _=>rfl⟩
theorem QT:DO 67 d_law_found "_law_found" "_law_found":=⟨rfl,⟨rfl,rfl,rfl,by decide +kernel,rfl,by decide +kernel,by decide +kernel⟩,by decide +kernel,by decide +kernel,λ _ _ _ _ _ _=>Ql λ _ _ _ _=>rfl⟩
theorem o_law:DO 68 d_law "law" "law":=⟨rfl,⟨rfl,rfl,rfl,by decide +kernel,rfl,by decide +kernel,by decide +kernel⟩,by decide +kernel,by decide +kernel,λ _ _ _ _ _ _=>yt λ _=>rfl⟩
theorem QU:DefOk ((zH (top 18)).getD 0 (.Pass ⟨0,0,0,0⟩)) wb (defs.map (·.name)) zm "__init__" "Walk.__init__":=⟨rfl,⟨rfl,rfl,rfl,by decide +kernel,rfl,by decide +kernel,by decide +kernel⟩,by decide +kernel,by decide +kernel,λ _ _ _ _ _ _=>Ql λ _ _ _ _=>rfl⟩
theorem Q1:DefOk ((zH (top 19)).getD 0 (.Pass ⟨0,0,0,0⟩)) jP (defs.map (·.name)) zm "__init__" "Doing.__init__":=⟨rfl,⟨rfl,rfl,rfl,by decide +kernel,rfl,by decide +kernel,by decide +kernel⟩,by decide +kernel,by decide +kernel,λ _ _ _ _ _ _=>z2o λ _ _ _ _ _=>rfl⟩
theorem Ze:DefOk ((zH (top 20)).getD 0 (.Pass ⟨0,0,0,0⟩)) jK (defs.map (·.name)) zm "__init__" "Standing.__init__":=⟨rfl,⟨rfl,rfl,rfl,by decide +kernel,rfl,by decide +kernel,by decide +kernel⟩,by decide +kernel,by decide +kernel,λ _ _ _ _ _ _=>Yr λ _ _ _=>rfl⟩
def FnK (K:Y00)(x:Str)(i:Nat)(f:Addr)(fd:FuncData):Prop:=PySem.W.nsIn K mainGlobals x=some (some (.ref f))/\Fun K x x (top i) f fd
theorem fnk {K:Y00}{x:Str}{i:Nat}{f:Addr}{oc:Value}{od an:Option Addr}{sl:Array (Option Value)}{kV dc pm cd ct:Value}(a:PySem.W.nsIn K mainGlobals x=some (some (.ref f)))(l:K.lookup f=some ⟨oc,od,.func (PySem.W.fnOf x x (ja (top i)) (zR (top i)) (zy (top i)) .none kV dc pm an cd ct),sl⟩)(c:PySem.W.codeIn K cd x=true)(k:PySem.W.keepIn K (.ref f)=true):FnK K x i f (PySem.W.fnOf x x (ja (top i)) (zR (top i)) (zy (top i)) .none kV dc pm an cd ct):=⟨a,yI (st:=top i) l c k⟩
theorem FnK.row {K:Y00}{x:Str}{i:Nat}{f:Addr}{fd:FuncData}{h:Heap}{mg:Str->Option Value}{d:Df} (e:FnK K x i f fd) (X:K.In h) (G:h.Ns mainGlobals mg) (hx:d.name=x) (hb:(d.name==("__debug__":Str))=false) (o:DefOk (top i) d (defs.map (·.name)) zm x x):(d.name==("__debug__":Str))=false/\∃ st f fd,mg d.name=some (.ref f)/\PySem.W.nsIn K mainGlobals d.name=some (some (.ref f))/\Fun K d.name d.name st f fd/\DefOk st d (defs.map (·.name)) zm d.name d.name:=by
 subst hx;exact ⟨hb,_,_,_,Y1a X G e.1,e.1,e.2,o⟩
open PySem.W in
theorem all_mk {l:PySem.W.OpenLaw}{w:World}{K:Y00}{h:Heap}{mg:Str->Option Value}{fa f0 f1 f2 f3 f4 f5 f6 f7 f8 f9 f10 f11 f12 f13 f14 f15 f16 f17 f18 f19 f20 f21 f22 f23 f24 f25 f26 f27 f28 f29 f30 f31 f32 f33 f34 f35 f36 f37 f38 f39 f40 f41 f42 f43:Addr}{d0 d1 d2 d3 d4 d5 d6 d7 d8 d9 d10 d11 d12 d13 d14 d15 d16 d17 d18 d19 d20 d21 d22 d23 d24 d25 d26 d27 d28 d29 d30 d31 d32 d33 d34 d35 d36 d37 d38 d39 d40 d41 d42:FuncData} (X:K.In h) (G:h.Ns mainGlobals mg) (hfa:mg "law"=some (.ref fa))
    (e0:FnK K "parts_of" 6 f0 d0)
    (e1:FnK K "stands_for" 7 f1 d1)
    (e2:FnK K "items_by_name" 8 f2 d2)
    (e3:FnK K "is_function" 10 f3 d3)
    (e4:FnK K "begun_at" 11 f4 d4)
    (e5:FnK K "check_numbers" 12 f5 d5)
    (e6:FnK K "reckoned" 15 f6 d6)
    (e7:FnK K "run" 21 f7 d7)
    (e8:FnK K "readied" 22 f8 d8)
    (e9:FnK K "clauses_by_deed" 23 f9 d9)
    (e10:FnK K "doing_copied" 24 f10 d10)
    (e11:FnK K "linked" 25 f11 d11)
    (e12:FnK K "answered" 26 f12 d12)
    (e13:FnK K "walk_on" 27 f13 d13)
    (e14:FnK K "do_task" 28 f14 d14)
    (e15:FnK K "ahead_of" 29 f15 d15)
    (e16:FnK K "looked_up" 30 f16 d16)
    (e17:FnK K "put" 31 f17 d17)
    (e18:FnK K "taken" 32 f18 d18)
    (e19:FnK K "took_turn" 33 f19 d19)
    (e20:FnK K "then_op" 34 f20 d20)
    (e21:FnK K "then_call" 38 f21 d21)
    (e22:FnK K "then_do" 40 f22 d22)
    (e23:FnK K "leave" 45 f23 d23)
    (e24:FnK K "holds_alone" 46 f24 d24)
    (e25:FnK K "_law_cell_at" 50 f25 d25)
    (e26:FnK K "_law_whole" 51 f26 d26)
    (e27:FnK K "_law_alike" 52 f27 d27)
    (e28:FnK K "_law_right" 53 f28 d28)
    (e29:FnK K "_law_names" 54 f29 d29)
    (e30:FnK K "_law_number" 55 f30 d30)
    (e31:FnK K "_law_reckoned" 56 f31 d31)
    (e32:FnK K "_law_draw" 57 f32 d32)
    (e33:FnK K "_law_ended" 58 f33 d33)
    (e34:FnK K "_law_turn" 59 f34 d34)
    (e35:FnK K "_law_done" 60 f35 d35)
    (e36:FnK K "_law_shift" 61 f36 d36)
    (e37:FnK K "_law_simple" 62 f37 d37)
    (e38:FnK K "_law_passer" 63 f38 d38)
    (e39:FnK K "_law_program" 64 f39 d39)
    (e40:FnK K "_law_op" 65 f40 d40)
    (e41:FnK K "_law_call" 66 f41 d41)
    (e42:FnK K "_law_found" 67 f42 d42)
    {od an:Option Addr}{sl:Array (Option Value)}{oc kV dc pm cd ct:Value} (a:nsIn K mainGlobals "law"=some (some (.ref f43))) (l43:K.lookup f43=some ⟨oc,od,.func (PySem.W.fnOf "law" "law" (ja (top 68)) (zR (top 68)) (zy (top 68)) .none kV dc pm an cd ct),sl⟩) (c43:codeIn K cd "law"=true) (k43:keepIn K (.ref f43)=true)
    (z0:nsIn K mainGlobals "len"=some none)
    (z1:nsIn K mainGlobals "isinstance"=some none)
    (z2:nsIn K mainGlobals "int"=some none)
    (z3:nsIn K mainGlobals "bool"=some none)
    (z4:nsIn K mainGlobals "str"=some none)
    (z5:nsIn K mainGlobals "tuple"=some none)
    (z6:nsIn K mainGlobals "list"=some none)
    (z7:nsIn K mainGlobals "range"=some none)
    (z8:nsIn K mainGlobals "max"=some none)
    (z9:nsIn K mainGlobals "min"=some none)
    (z10:nsIn K mainGlobals "sum"=some none)
    (z11:nsIn K mainGlobals "all"=some none)
    (z12:nsIn K mainGlobals "any"=some none)
    (z13:nsIn K mainGlobals "zip"=some none)
    (z14:nsIn K mainGlobals "reversed"=some none)
    (z15:nsIn K mainGlobals "sorted"=some none)
    (z16:nsIn K mainGlobals "set"=some none)
    (z17:nsIn K mainGlobals "enumerate"=some none)
    (z18:nsIn K mainGlobals "dict"=some none)
    (z19:nsIn K mainGlobals "abs"=some none)
    (z20:nsIn K mainGlobals "ValueError"=some none)
    {gc0:Addr}{es0:Array DictEntry}{ep0:Nat} (ga0:nsIn K mainGlobals "FIRST_PART"=some (some (.ref gc0))) (gl0:K.lookup gc0=some { cls:=.type "dict",data:=.dict es0 ep0 }) (ge0:ZT w K es0.toList wS)
    {gt1:Tok} (ga1:nsIn K mainGlobals "GREATEST"=some (some (.int (1000000000000000000) gt1)))
    {gc2:Addr} (ga2:nsIn K mainGlobals "FIRST_AHEAD"=some (some (.ref gc2))) (ge2:TupK K gc2 wq)
    {gc3:Addr}{es3:Array DictEntry}{ep3:Nat} (ga3:nsIn K mainGlobals "THEN"=some (some (.ref gc3))) (gl3:K.lookup gc3=some { cls:=.type "dict",data:=.dict es3 ep3 }) (ge3:ZT w K es3.toList yj)
    {cc0 ci0:Addr}{cod0 can0:Option Addr}{csl0:Array (Option Value)}{coc0 ckV0 cdc0 cpm0 ccd0 cct0:Value}
    (ca0:nsIn K mainGlobals "Walk"=some (some (.ref cc0)))
    (cy0:findIn K (.ref cc0) "__init__"=some (some (.ref ci0)))
    (cl0:K.lookup ci0=some ⟨coc0,cod0,.func (PySem.W.fnOf "__init__" "Walk.__init__" (ja ((zH (top 18)).getD 0 (.Pass ⟨0,0,0,0⟩))) (zR ((zH (top 18)).getD 0 (.Pass ⟨0,0,0,0⟩))) (zy ((zH (top 18)).getD 0 (.Pass ⟨0,0,0,0⟩))) .none ckV0 cdc0 cpm0 can0 ccd0 cct0),csl0⟩)
    (ce0:codeIn K ccd0 "Walk.__init__"=true)
    (ck0:keepIn K (.ref ci0)=true)
    (cm0:makesIn K cc0=true)
    (cf0:isFn K (.ref ci0)=true)
    (cp0:keepIn K (.ref cc0)=true)
    (cg0:plainGet K cc0 Str.empty=true)
    (ch0:hasDictIn K cc0=true)
    (co0:plainOver K cc0=true)
    (cs0:findIn K (.ref cc0) "__setattr__"=some (some (.builtin "object.__setattr__")))
    (cn0_0:findIn K (.ref cc0) "named"=some none)
    (cn0_1:findIn K (.ref cc0) "clauses"=some none)
    (cn0_2:findIn K (.ref cc0) "bound"=some none)
    (cn0_3:findIn K (.ref cc0) "doing"=some none)
    (cn0_4:findIn K (.ref cc0) "left"=some none)
    (cn0_5:findIn K (.ref cc0) "standing"=some none)
    (cn0_6:findIn K (.ref cc0) "record"=some none)
    (cn0_7:findIn K (.ref cc0) "used"=some none)
    (cn0_8:findIn K (.ref cc0) "end"=some none)
    (cn0_9:findIn K (.ref cc0) "tasks"=some none)
    (cn0_10:findIn K (.ref cc0) "numbers"=some none)
    (cn0_11:findIn K (.ref cc0) "known"=some none)
    (cn0_12:findIn K (.ref cc0) "block"=some none)
    (cn0_13:findIn K (.ref cc0) "held"=some none)
    (cn0_14:findIn K (.ref cc0) "went"=some none)
    (cn0_15:findIn K (.ref cc0) "name"=some none)
    (cn0_16:findIn K (.ref cc0) "kept"=some none)
    {cc1 ci1:Addr}{cod1 can1:Option Addr}{csl1:Array (Option Value)}{coc1 ckV1 cdc1 cpm1 ccd1 cct1:Value}
    (ca1:nsIn K mainGlobals "Doing"=some (some (.ref cc1)))
    (cy1:findIn K (.ref cc1) "__init__"=some (some (.ref ci1)))
    (cl1:K.lookup ci1=some ⟨coc1,cod1,.func (PySem.W.fnOf "__init__" "Doing.__init__" (ja ((zH (top 19)).getD 0 (.Pass ⟨0,0,0,0⟩))) (zR ((zH (top 19)).getD 0 (.Pass ⟨0,0,0,0⟩))) (zy ((zH (top 19)).getD 0 (.Pass ⟨0,0,0,0⟩))) .none ckV1 cdc1 cpm1 can1 ccd1 cct1),csl1⟩)
    (ce1:codeIn K ccd1 "Doing.__init__"=true)
    (ck1:keepIn K (.ref ci1)=true)
    (cm1:makesIn K cc1=true)
    (cf1:isFn K (.ref ci1)=true)
    (cp1:keepIn K (.ref cc1)=true)
    (cg1:plainGet K cc1 Str.empty=true)
    (ch1:hasDictIn K cc1=true)
    (co1:plainOver K cc1=true)
    (cs1:findIn K (.ref cc1) "__setattr__"=some (some (.builtin "object.__setattr__")))
    (cn1_0:findIn K (.ref cc1) "named"=some none)
    (cn1_1:findIn K (.ref cc1) "clauses"=some none)
    (cn1_2:findIn K (.ref cc1) "bound"=some none)
    (cn1_3:findIn K (.ref cc1) "doing"=some none)
    (cn1_4:findIn K (.ref cc1) "left"=some none)
    (cn1_5:findIn K (.ref cc1) "standing"=some none)
    (cn1_6:findIn K (.ref cc1) "record"=some none)
    (cn1_7:findIn K (.ref cc1) "used"=some none)
    (cn1_8:findIn K (.ref cc1) "end"=some none)
    (cn1_9:findIn K (.ref cc1) "tasks"=some none)
    (cn1_10:findIn K (.ref cc1) "numbers"=some none)
    (cn1_11:findIn K (.ref cc1) "known"=some none)
    (cn1_12:findIn K (.ref cc1) "block"=some none)
    (cn1_13:findIn K (.ref cc1) "held"=some none)
    (cn1_14:findIn K (.ref cc1) "went"=some none)
    (cn1_15:findIn K (.ref cc1) "name"=some none)
    (cn1_16:findIn K (.ref cc1) "kept"=some none)
    {cc2 ci2:Addr}{cod2 can2:Option Addr}{csl2:Array (Option Value)}{coc2 ckV2 cdc2 cpm2 ccd2 cct2:Value}
    (ca2:nsIn K mainGlobals "Standing"=some (some (.ref cc2)))
    (cy2:findIn K (.ref cc2) "__init__"=some (some (.ref ci2)))
    (cl2:K.lookup ci2=some ⟨coc2,cod2,.func (PySem.W.fnOf "__init__" "Standing.__init__" (ja ((zH (top 20)).getD 0 (.Pass ⟨0,0,0,0⟩))) (zR ((zH (top 20)).getD 0 (.Pass ⟨0,0,0,0⟩))) (zy ((zH (top 20)).getD 0 (.Pass ⟨0,0,0,0⟩))) .none ckV2 cdc2 cpm2 can2 ccd2 cct2),csl2⟩)
    (ce2:codeIn K ccd2 "Standing.__init__"=true)
    (ck2:keepIn K (.ref ci2)=true)
    (cm2:makesIn K cc2=true)
    (cf2:isFn K (.ref ci2)=true)
    (cp2:keepIn K (.ref cc2)=true)
    (cg2:plainGet K cc2 Str.empty=true)
    (ch2:hasDictIn K cc2=true)
    (co2:plainOver K cc2=true)
    (cs2:findIn K (.ref cc2) "__setattr__"=some (some (.builtin "object.__setattr__")))
    (cn2_0:findIn K (.ref cc2) "named"=some none)
    (cn2_1:findIn K (.ref cc2) "clauses"=some none)
    (cn2_2:findIn K (.ref cc2) "bound"=some none)
    (cn2_3:findIn K (.ref cc2) "doing"=some none)
    (cn2_4:findIn K (.ref cc2) "left"=some none)
    (cn2_5:findIn K (.ref cc2) "standing"=some none)
    (cn2_6:findIn K (.ref cc2) "record"=some none)
    (cn2_7:findIn K (.ref cc2) "used"=some none)
    (cn2_8:findIn K (.ref cc2) "end"=some none)
    (cn2_9:findIn K (.ref cc2) "tasks"=some none)
    (cn2_10:findIn K (.ref cc2) "numbers"=some none)
    (cn2_11:findIn K (.ref cc2) "known"=some none)
    (cn2_12:findIn K (.ref cc2) "block"=some none)
    (cn2_13:findIn K (.ref cc2) "held"=some none)
    (cn2_14:findIn K (.ref cc2) "went"=some none)
    (cn2_15:findIn K (.ref cc2) "name"=some none)
    (cn2_16:findIn K (.ref cc2) "kept"=some none)
    (ih:PySem.W.specialIn K (.builtin "object.__class__") "__get__"=some (some (.builtin "getset_descriptor.__get__"))) (iht:PySem.W.takesIn K (.builtin "object.__class__")=some true)
    (ia0:findIn K (.ref cc0) "__class__"=some (some (.builtin "object.__class__"))) (im0:mroIn K cc0 (.type "object")=some true)
    (ia1:findIn K (.ref cc1) "__class__"=some (some (.builtin "object.__class__"))) (im1:mroIn K cc1 (.type "object")=some true)
    (ia2:findIn K (.ref cc2) "__class__"=some (some (.builtin "object.__class__"))) (im2:mroIn K cc2 (.type "object")=some true)
    {io2:Value}{id2:Option Addr}{ik2:ClassData}{is2:Array (Option Value)} (il2:K.lookup cc2=some ⟨io2,id2,.cls ik2,is2⟩) (it2:PySem.W.typeIn K (.ref cc2)=some (.type "type"))
    (ik0_2:mroIn K cc0 (.ref cc2)=some false) (in0_2:cc0≠cc2)
    (ik1_2:mroIn K cc1 (.ref cc2)=some false) (in1_2:cc1≠cc2)
    (ik2_2:mroIn K cc2 (.ref cc2)=some true)
   :∃ (cv:Nat->Value) (fd:FuncData),(∀ (s:Shared) (v:Value),BindsTo s fd ⟨[v],[]⟩ [("_law_script",v)])/\∀ base:Heap,K.In base->base.Ns mainGlobals mg->FnOk l.prog w K mg base (CXs l.prog w) 68 fa fd ["_law_script"] (GR K cv (callI defs 34 43)):=by
  have e:=hfa.symm.trans (Y1a X G a);cases e;have T:Tab l.prog w K mg defs zm:=by
    refine ⟨λ x hx=>?_,λ x c hx=>?_,λ i d hd hnc=>?_,λ x i hx=>?_⟩
    · simp only [WA,Y06,Y0k,or_false] at hx;rcases hx with rfl | rfl | rfl | rfl | rfl | rfl | rfl | rfl | rfl | rfl | rfl | rfl | rfl | rfl | rfl | rfl | rfl | rfl | rfl | rfl | rfl
      · exact Y0o X G z0
      · exact Y0o X G z1
      · exact Y0o X G z2
      · exact Y0o X G z3
      · exact Y0o X G z4
      · exact Y0o X G z5
      · exact Y0o X G z6
      · exact Y0o X G z7
      · exact Y0o X G z8
      · exact Y0o X G z9
      · exact Y0o X G z10
      · exact Y0o X G z11
      · exact Y0o X G z12
      · exact Y0o X G z13
      · exact Y0o X G z14
      · exact Y0o X G z15
      · exact Y0o X G z16
      · exact Y0o X G z17
      · exact Y0o X G z18
      · exact Y0o X G z19
      · exact Y0o X G z20
    · simp only [zm,Y06,Y0k,or_false] at hx;rcases hx with hq | hq | hq | hq | hq | hq | hq | hq
      · cases hq;exact ⟨by decide,_,Y1a X G ga0,GQ gl0 ge0 (by decide)⟩
      · cases hq;exact ⟨by decide,_,Y1a X G ga1,⟨_,rfl⟩⟩
      · cases hq;exact ⟨by decide,_,Y1a X G ga2,⟨_,rfl,ge2⟩⟩
      · cases hq;exact ⟨by decide,_,Y1a X G ga3,GQ gl3 ge3 (by decide)⟩
      · cases hq;exact ⟨by decide,_,Y1a X G ca0,⟨_,rfl⟩⟩
      · cases hq;exact ⟨by decide,_,Y1a X G ca1,⟨_,rfl⟩⟩
      · cases hq;exact ⟨by decide,_,Y1a X G ca2,⟨_,rfl⟩⟩
      · cases hq;refine ⟨by decide,_,Y1a X G ca2,_,rfl,λ y hy=>?_⟩;simp only [Y06,Y0k,or_false] at hy;rcases hy with rfl | rfl | rfl
        · exact ⟨_,ca0,⟨ia0,ih,iht,im0⟩,(WD il2 it2 ik0_2 (.inr in0_2)).trans (by decide +kernel)⟩
        · exact ⟨_,ca1,⟨ia1,ih,iht,im1⟩,(WD il2 it2 ik1_2 (.inr in1_2)).trans (by decide +kernel)⟩
        · exact ⟨_,ca2,⟨ia2,ih,iht,im2⟩,(WD il2 it2 ik2_2 (.inl rfl)).trans (by decide +kernel)⟩
    · match i,hd,hnc with
      | 0,hd,_=>cases hd;exact e0.row X G rfl (by decide) YT
      | 1,hd,_=>cases hd;exact e1.row X G rfl (by decide) WX
      | 2,hd,_=>cases hd;exact e2.row X G rfl (by decide) Zb
      | 3,hd,_=>cases hd;exact e3.row X G rfl (by decide) Ju
      | 4,hd,_=>cases hd;exact e4.row X G rfl (by decide) YU
      | 5,hd,_=>cases hd;exact e5.row X G rfl (by decide) Zd
      | 6,hd,_=>cases hd;exact e6.row X G rfl (by decide) YV
      | 7,hd,_=>cases hd;exact e7.row X G rfl (by decide) z5f
      | 8,hd,_=>cases hd;exact e8.row X G rfl (by decide) Vz
      | 9,hd,_=>cases hd;exact e9.row X G rfl (by decide) yG
      | 10,hd,_=>cases hd;exact e10.row X G rfl (by decide) Je
      | 11,hd,_=>cases hd;exact e11.row X G rfl (by decide) Os
      | 12,hd,_=>cases hd;exact e12.row X G rfl (by decide) YW
      | 13,hd,_=>cases hd;exact e13.row X G rfl (by decide) VA
      | 14,hd,_=>cases hd;exact e14.row X G rfl (by decide) VB
      | 15,hd,_=>cases hd;exact e15.row X G rfl (by decide) YX
      | 16,hd,_=>cases hd;exact e16.row X G rfl (by decide) QK
      | 17,hd,_=>cases hd;exact e17.row X G rfl (by decide) z5g
      | 18,hd,_=>cases hd;exact e18.row X G rfl (by decide) z02
      | 19,hd,_=>cases hd;exact e19.row X G rfl (by decide) QL
      | 20,hd,_=>cases hd;exact e20.row X G rfl (by decide) VC
      | 21,hd,_=>cases hd;exact e21.row X G rfl (by decide) QM
      | 22,hd,_=>cases hd;exact e22.row X G rfl (by decide) VD
      | 23,hd,_=>cases hd;exact e23.row X G rfl (by decide) z03
      | 24,hd,_=>cases hd;exact e24.row X G rfl (by decide) o_holds_alone
      | 25,hd,_=>cases hd;exact e25.row X G rfl (by decide) Jv
      | 26,hd,_=>cases hd;exact e26.row X G rfl (by decide) QN
      | 27,hd,_=>cases hd;exact e27.row X G rfl (by decide) QO
      | 28,hd,_=>cases hd;exact e28.row X G rfl (by decide) QP
      | 29,hd,_=>cases hd;exact e29.row X G rfl (by decide) QQ
      | 30,hd,_=>cases hd;exact e30.row X G rfl (by decide) WY
      | 31,hd,_=>cases hd;exact e31.row X G rfl (by decide) Jf
      | 32,hd,_=>cases hd;exact e32.row X G rfl (by decide) YY
      | 33,hd,_=>cases hd;exact e33.row X G rfl (by decide) QR
      | 34,hd,_=>cases hd;exact e34.row X G rfl (by decide) YZ
      | 35,hd,_=>cases hd;exact e35.row X G rfl (by decide) U0
      | 36,hd,_=>cases hd;exact e36.row X G rfl (by decide) QS
      | 37,hd,_=>cases hd;exact e37.row X G rfl (by decide) WZ
      | 38,hd,_=>cases hd;exact e38.row X G rfl (by decide) Q0
      | 39,hd,_=>cases hd;exact e39.row X G rfl (by decide) Jw
      | 40,hd,_=>cases hd;exact e40.row X G rfl (by decide) Ot
      | 41,hd,_=>cases hd;exact e41.row X G rfl (by decide) U1
      | 42,hd,_=>cases hd;exact e42.row X G rfl (by decide) QT
      | 43,hd,_=>cases hd;exact ⟨by decide,_,_,_,Y1a X G a,a,yI (st:=top 68) l43 c43 k43,o_law⟩
      | 44,hd,hnc=>exact absurd hnc (by decide)
      | 45,hd,hnc=>exact absurd hnc (by decide)
      | 46,hd,hnc=>exact absurd hnc (by decide)
      | n+47,hd,_=>exact absurd hd (by simp [defs])
    · simp only [zm,Y06,Y0k,or_false] at hx;rcases hx with hq | hq | hq | hq | hq | hq | hq | hq
      · cases hq
      · cases hq
      · cases hq
      · cases hq
      · cases hq;refine ⟨by decide,wb,(zH (top 18)).getD 0 (.Pass ⟨0,0,0,0⟩),cc0,ci0,_,"__init__","Walk.__init__",rfl,Y1a X G ca0,⟨cm0,cy0,cf0,cp0⟩,⟨ca0,⟨cg0,ch0,co0,cs0⟩,λ f hf=>?_⟩,yI (st:=(zH (top 18)).getD 0 (.Pass ⟨0,0,0,0⟩)) cl0 ce0 ck0,QU⟩;simp only [j0,Y06,Y0k,or_false] at hf;rcases hf with rfl | rfl | rfl | rfl | rfl | rfl | rfl | rfl | rfl | rfl | rfl | rfl | rfl | rfl | rfl | rfl | rfl
        · exact cn0_0
        · exact cn0_1
        · exact cn0_2
        · exact cn0_3
        · exact cn0_4
        · exact cn0_5
        · exact cn0_6
        · exact cn0_7
        · exact cn0_8
        · exact cn0_9
        · exact cn0_10
        · exact cn0_11
        · exact cn0_12
        · exact cn0_13
        · exact cn0_14
        · exact cn0_15
        · exact cn0_16
      · cases hq;refine ⟨by decide,jP,(zH (top 19)).getD 0 (.Pass ⟨0,0,0,0⟩),cc1,ci1,_,"__init__","Doing.__init__",rfl,Y1a X G ca1,⟨cm1,cy1,cf1,cp1⟩,⟨ca1,⟨cg1,ch1,co1,cs1⟩,λ f hf=>?_⟩,yI (st:=(zH (top 19)).getD 0 (.Pass ⟨0,0,0,0⟩)) cl1 ce1 ck1,Q1⟩;simp only [j0,Y06,Y0k,or_false] at hf;rcases hf with rfl | rfl | rfl | rfl | rfl | rfl | rfl | rfl | rfl | rfl | rfl | rfl | rfl | rfl | rfl | rfl | rfl
        · exact cn1_0
        · exact cn1_1
        · exact cn1_2
        · exact cn1_3
        · exact cn1_4
        · exact cn1_5
        · exact cn1_6
        · exact cn1_7
        · exact cn1_8
        · exact cn1_9
        · exact cn1_10
        · exact cn1_11
        · exact cn1_12
        · exact cn1_13
        · exact cn1_14
        · exact cn1_15
        · exact cn1_16
      · cases hq;refine ⟨by decide,jK,(zH (top 20)).getD 0 (.Pass ⟨0,0,0,0⟩),cc2,ci2,_,"__init__","Standing.__init__",rfl,Y1a X G ca2,⟨cm2,cy2,cf2,cp2⟩,⟨ca2,⟨cg2,ch2,co2,cs2⟩,λ f hf=>?_⟩,yI (st:=(zH (top 20)).getD 0 (.Pass ⟨0,0,0,0⟩)) cl2 ce2 ck2,Ze⟩;simp only [j0,Y06,Y0k,or_false] at hf;rcases hf with rfl | rfl | rfl | rfl | rfl | rfl | rfl | rfl | rfl | rfl | rfl | rfl | rfl | rfl | rfl | rfl | rfl
        · exact cn2_0
        · exact cn2_1
        · exact cn2_2
        · exact cn2_3
        · exact cn2_4
        · exact cn2_5
        · exact cn2_6
        · exact cn2_7
        · exact cn2_8
        · exact cn2_9
        · exact cn2_10
        · exact cn2_11
        · exact cn2_12
        · exact cn2_13
        · exact cn2_14
        · exact cn2_15
        · exact cn2_16
      · cases hq
  refine ⟨λ _=>.none,PySem.W.fnOf "law" "law" (ja (top 68)) (zR (top 68)) (zy (top 68)) .none kV dc pm an cd ct,λ s v=>.of_eq rfl,λ base _ _=>?_⟩;exact YC T (z2w (by decide)) 34 43 d_law _ _ (top 68) _ _ rfl (yI (st:=top 68) l43 c43 k43) o_law
end K44
end
namespace PySem.W.Fast
noncomputable def tw9575161675984957993 := ()
noncomputable def tw17210196226249109747 := ()
noncomputable def tw5342995217702622670 := ()
noncomputable def tw6440763049159427730 := ()
noncomputable def tw11661559935256594239 := ()
noncomputable def tw16336456002497143140 := ()
noncomputable def tw4883914832526559484 := ()
noncomputable def tw8363445990171001215 := ()
noncomputable def tw16760962417969021821 := ()
noncomputable def tw17600595053024740924 := ()
noncomputable def tw7618463164756827986 := ()
noncomputable def tw8950127178721273865 := ()
noncomputable def tw10950787842004570633 := ()
noncomputable def tw10040727669725825741 := ()
noncomputable def tw11890827534915751462 := ()
noncomputable def tw10755577706670073610 := ()
noncomputable def tw10064015285981810964 := ()
noncomputable def tw16451498148166271158 := ()
noncomputable def tw12008221044254077207 := ()
noncomputable def tw13911454414550384724 := ()
noncomputable def tw17157729770232546541 := ()
noncomputable def tw620808494925580946 := ()
noncomputable def tw14191717475576256259 := ()
noncomputable def tw5360969087788605790 := ()
noncomputable def tw2765024550507640747 := ()
noncomputable def tw1104061898665658233 := ()
noncomputable def tw9612588227357173095 := ()
noncomputable def tw17869309225984776766 := ()
noncomputable def tw1321355957996355819 := ()
noncomputable def tw12051026012272486483 := ()
noncomputable def tw16047846878950857143 := ()
noncomputable def tw14392509033138701840 := ()
noncomputable def tw9735798125085167235 := ()
noncomputable def tw4328235527710990308 := ()
noncomputable def tw3117471114451281374 := ()
noncomputable def tw15201038264644116570 := ()
end PySem.W.Fast
open PySem PySem.W
set_option maxRecDepth 100000 in
set_option maxHeartbeats 0 in
theorem PySem.Challenge.cw_deedwright_k44_blocks_handed_on_holds : PySem.Challenge.rw_deedwright_k44_blocks_handed_on.Holds := by
 w_on;o_law;k_head;(case hw=>w_witness2)
 k_fill
 refine PI.walk_ofB (l:=PySem.Challenge.rw_deedwright_k44_blocks_handed_on) (k:=68) (c:=PI.callI K44.defs 34 43) (x:="_law_script") rfl rfl ⟨rfl,by decide,by decide⟩ (λ w h Y=>PySem.W.kIn_of Y) ?F ?S
 case F =>
  intro w mg fa h KX G hmg;refine' K44.all_mk (l:=PySem.Challenge.rw_deedwright_k44_blocks_handed_on) (w:=w) KX G hmg (K44.fnk ?a0 ?l0 ?c0 ?k0) (K44.fnk ?a1 ?l1 ?c1 ?k1) (K44.fnk ?a2 ?l2 ?c2 ?k2) (K44.fnk ?a3 ?l3 ?c3 ?k3) (K44.fnk ?a4 ?l4 ?c4 ?k4) (K44.fnk ?a5 ?l5 ?c5 ?k5) (K44.fnk ?a6 ?l6 ?c6 ?k6) (K44.fnk ?a7 ?l7 ?c7 ?k7) (K44.fnk ?a8 ?l8 ?c8 ?k8) (K44.fnk ?a9 ?l9 ?c9 ?k9) (K44.fnk ?a10 ?l10 ?c10 ?k10) (K44.fnk ?a11 ?l11 ?c11 ?k11) (K44.fnk ?a12 ?l12 ?c12 ?k12) (K44.fnk ?a13 ?l13 ?c13 ?k13) (K44.fnk ?a14 ?l14 ?c14 ?k14) (K44.fnk ?a15 ?l15 ?c15 ?k15) (K44.fnk ?a16 ?l16 ?c16 ?k16) (K44.fnk ?a17 ?l17 ?c17 ?k17) (K44.fnk ?a18 ?l18 ?c18 ?k18) (K44.fnk ?a19 ?l19 ?c19 ?k19) (K44.fnk ?a20 ?l20 ?c20 ?k20) (K44.fnk ?a21 ?l21 ?c21 ?k21) (K44.fnk ?a22 ?l22 ?c22 ?k22) (K44.fnk ?a23 ?l23 ?c23 ?k23) (K44.fnk ?a24 ?l24 ?c24 ?k24) (K44.fnk ?a25 ?l25 ?c25 ?k25) (K44.fnk ?a26 ?l26 ?c26 ?k26) (K44.fnk ?a27 ?l27 ?c27 ?k27) (K44.fnk ?a28 ?l28 ?c28 ?k28) (K44.fnk ?a29 ?l29 ?c29 ?k29) (K44.fnk ?a30 ?l30 ?c30 ?k30) (K44.fnk ?a31 ?l31 ?c31 ?k31) (K44.fnk ?a32 ?l32 ?c32 ?k32) (K44.fnk ?a33 ?l33 ?c33 ?k33) (K44.fnk ?a34 ?l34 ?c34 ?k34) (K44.fnk ?a35 ?l35 ?c35 ?k35) (K44.fnk ?a36 ?l36 ?c36 ?k36) (K44.fnk ?a37 ?l37 ?c37 ?k37) (K44.fnk ?a38 ?l38 ?c38 ?k38) (K44.fnk ?a39 ?l39 ?c39 ?k39) (K44.fnk ?a40 ?l40 ?c40 ?k40) (K44.fnk ?a41 ?l41 ?c41 ?k41) (K44.fnk ?a42 ?l42 ?c42 ?k42) ?a43 ?l43 ?c43 ?k43 ?z0 ?z1 ?z2 ?z3 ?z4 ?z5 ?z6 ?z7 ?z8 ?z9 ?z10 ?z11 ?z12 ?z13 ?z14 ?z15 ?z16 ?z17 ?z18 ?z19 ?z20 ?ga0 ?gl0 ?ge0 ?ga1 ?ga2 ?ge2 ?ga3 ?gl3 ?ge3 ?ca0 ?cy0 ?cl0 ?ce0 ?ck0 ?cm0 ?cf0 ?cp0 ?cg0 ?ch0 ?co0 ?cs0 ?cn0_0 ?cn0_1 ?cn0_2 ?cn0_3 ?cn0_4 ?cn0_5 ?cn0_6 ?cn0_7 ?cn0_8 ?cn0_9 ?cn0_10 ?cn0_11 ?cn0_12 ?cn0_13 ?cn0_14 ?cn0_15 ?cn0_16 ?ca1 ?cy1 ?cl1 ?ce1 ?ck1 ?cm1 ?cf1 ?cp1 ?cg1 ?ch1 ?co1 ?cs1 ?cn1_0 ?cn1_1 ?cn1_2 ?cn1_3 ?cn1_4 ?cn1_5 ?cn1_6 ?cn1_7 ?cn1_8 ?cn1_9 ?cn1_10 ?cn1_11 ?cn1_12 ?cn1_13 ?cn1_14 ?cn1_15 ?cn1_16 ?ca2 ?cy2 ?cl2 ?ce2 ?ck2 ?cm2 ?cf2 ?cp2 ?cg2 ?ch2 ?co2 ?cs2 ?cn2_0 ?cn2_1 ?cn2_2 ?cn2_3 ?cn2_4 ?cn2_5 ?cn2_6 ?cn2_7 ?cn2_8 ?cn2_9 ?cn2_10 ?cn2_11 ?cn2_12 ?cn2_13 ?cn2_14 ?cn2_15 ?cn2_16 ?ih ?iht ?ia0 ?im0 ?ia1 ?im1 ?ia2 ?im2 ?il2 ?it2 ?ik0_2 ?in0_2 ?ik1_2 ?in1_2 ?ik2_2
  all_goals try k_is
  (case ge0=>(refine ⟨⟨rfl,⟨_,rfl⟩,?hx⟩,?hr⟩;(case hx=>exact ⟨_,rfl⟩);(case hr=>(refine ⟨⟨rfl,⟨_,rfl⟩,?hx⟩,?hr⟩;(case hx=>exact ⟨_,rfl⟩);(case hr=>(refine ⟨⟨rfl,⟨_,rfl⟩,?hx⟩,?hr⟩;(case hx=>exact ⟨_,rfl⟩);(case hr=>(refine ⟨⟨rfl,⟨_,rfl⟩,?hx⟩,?hr⟩;(case hx=>exact ⟨_,rfl⟩);(case hr=>(refine ⟨⟨rfl,⟨_,rfl⟩,?hx⟩,?hr⟩;(case hx=>exact ⟨_,rfl⟩);(case hr=>(refine ⟨⟨rfl,⟨_,rfl⟩,?hx⟩,?hr⟩;(case hx=>exact ⟨_,rfl⟩);(case hr=>(refine ⟨⟨rfl,⟨_,rfl⟩,?hx⟩,?hr⟩;(case hx=>exact ⟨_,rfl⟩);(case hr=>(refine ⟨⟨rfl,⟨_,rfl⟩,?hx⟩,?hr⟩;(case hx=>exact ⟨_,rfl⟩);(case hr=>(refine ⟨⟨rfl,⟨_,rfl⟩,?hx⟩,?hr⟩;(case hx=>exact ⟨_,rfl⟩);(case hr=>exact trivial)))))))))))))))))))
  (case ge2=>(refine' PI.tupK_mk ?hk ?h4 ?h5;(case hk=>k_is);(case h4=>decide);(case h5=>(show L2.Vals _ (List.toArray _).toList;exact .cons ⟨_,rfl⟩ (.cons ⟨_,rfl⟩ (.cons ⟨_,rfl⟩ (.cons ⟨_,rfl⟩ (.nil))))))))
  (case ge3=>(refine ⟨⟨rfl,⟨_,rfl⟩,?hx⟩,?hr⟩;(case hx=>(refine ⟨_,rfl,?ht⟩;(case ht=>k_is)));(case hr=>(refine ⟨⟨rfl,⟨_,rfl⟩,?hx⟩,?hr⟩;(case hx=>exact ⟨_,rfl⟩);(case hr=>(refine ⟨⟨rfl,⟨_,rfl⟩,?hx⟩,?hr⟩;(case hx=>exact ⟨_,rfl⟩);(case hr=>(refine ⟨⟨rfl,⟨_,rfl⟩,?hx⟩,?hr⟩;(case hx=>(refine ⟨_,rfl,?ht⟩;(case ht=>k_is)));(case hr=>(refine ⟨⟨rfl,⟨_,rfl⟩,?hx⟩,?hr⟩;(case hx=>(refine ⟨_,rfl,?ht⟩;(case ht=>k_is)));(case hr=>(refine ⟨⟨rfl,⟨_,rfl⟩,?hx⟩,?hr⟩;(case hx=>exact ⟨_,rfl⟩);(case hr=>(refine ⟨⟨rfl,⟨_,rfl⟩,?hx⟩,?hr⟩;(case hx=>exact ⟨_,rfl⟩);(case hr=>(refine ⟨⟨rfl,⟨_,rfl⟩,?hx⟩,?hr⟩;(case hx=>exact ⟨_,rfl⟩);(case hr=>exact trivial)))))))))))))))))
  (case in0_2=>decide)
  (case in1_2=>decide)
 case S =>
  exact λ ns _ hb=>K44.law_true ns
#print axioms PySem.Challenge.cw_deedwright_k44_blocks_handed_on_holds
