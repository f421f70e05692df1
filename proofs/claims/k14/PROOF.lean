import PyProof.Rows.All
import Wide.All
import OpenK.AllK
import Wide.FinOn
import Lean
import PyProof.EqAt
import PyProof.EqKinds
import PyProof.TupleCall
import KE.KIntText
import PyProof.NeKinds
import PyProof.FString4
import PyProof.StrLawsRepr
import PyProof.ZipIter
import PyProof.TupleIter
import KE.KRevIter
import KE.KDictOf
import PyProof.AttrMissHeap
import KE.KItemsList
import PyProof.SliceList
import PyProof.EnumIter
import PyProof.EnumMake
import PyProof.EnumFor
import PyProof.StrLawsTight
import PyProof.StrCalls6
import PySem.Challenge.RW_deedwright_k14_whole_read_again
set_option Elab.async false
set_option linter.all false
set_option maxRecDepth 100000
noncomputable section
section
open PySem PySem.Spec PyProof.Rows PySem.W PySem.Calls
abbrev Y00:=@PySem.W.Frag
abbrev Y01:=@List.length_cons
abbrev Y02:=@Heap.get?_push_of_some
abbrev Y03:=@List.length_append
abbrev Y04:=@List.getElem?_eq_some_iff
abbrev Y05:=@List.map_cons
abbrev Y06:=@List.mem_cons_of_mem
abbrev Y07:=@List.append_assoc
abbrev Y08:=@List.mem_cons_self
abbrev Y09:=@Nat.le_refl
abbrev Y0a:=@List.mem_singleton
abbrev Y0b:=@List.mem_cons
abbrev Y0c:=@List.length_map
abbrev Y0d:=@List.size_toArray
abbrev Y0e:=@Nat.le_of_ble_eq_true
abbrev Y0f:=@List.mem_append
abbrev Y0g:=@Bool.and_eq_true
abbrev Y0h:=@Heap.lt_size
abbrev Y0i:=@Heap.get?_push_size
abbrev Y0j:=@List.map_append
abbrev Y0k:=@List.map_nil
abbrev Y0l:=@Nat.lt_of_lt_of_le
abbrev Y0m:=@List.getElem?_eq_getElem
abbrev Y0n:=@List.nil_append
abbrev Y0o:=@List.getElem?_set_ne
abbrev Y0p:=@List.not_mem_nil
abbrev Y0q:=@List.cons_append
abbrev Y0r:=@Nat.ne_of_lt
abbrev Y0s:=@Bool.false_ne_true
abbrev Y0t:=@Nat.le_trans
abbrev Y0u:=@List.mem_append_right
abbrev Y0v:=@List.sum_cons
abbrev Y0w:=@List.getElem?_append_right
abbrev Y0x:=@List.length_nil
abbrev Y0y:=@PySem.mem_of_lookup
abbrev Y0z:=@List.mem_map
abbrev Y10:=@List.getElem?_set_self
abbrev Y11:=@List.all_eq_true
abbrev Y12:=@List.getD_eq_getElem?_getD
abbrev Y13:=@List.getElem?_map
abbrev Y14:=@List.append_nil
abbrev Y15:=@List.map_map
abbrev Y16:=@Array.length_toList
abbrev Y17:=@PySem.W.kia_one
abbrev Y18:=@List.getElem?_append_left
abbrev Y19:=@PyProof.Rows.slot_tuple_getitem
abbrev Y1a:=@List.length_set
abbrev Y1b:=@PySem.W.mg_of
abbrev Y1c:=@Nat.lt_irrefl
abbrev Y1d:=@PyProof.Rows.callWith_type1
abbrev Y1e:=@List.getElem?_cons_zero
abbrev Y1f:=@List.mem_append_left
abbrev Y1g:=@List.length_range
abbrev Y1h:=@List.flatten_cons
abbrev Y1i:=@List.length_singleton
abbrev Y1j:=@Option.bind_some
abbrev Y1k:=@List.mem_of_getElem?
abbrev Y1l:=@Int.lt_iff_le_and_ne
abbrev Y1m:=@List.any_cons
abbrev Y1n:=@Heap.size_push
abbrev Y1o:=@List.sum_append
abbrev Y1p:=@List.replicate_succ
abbrev Y1q:=@List.filterMap_cons
abbrev Y1r:=@List.sum_nil
abbrev Y1s:=@PySem.F.slot_tuple_iterator_next
abbrev Y1t:=@List.reverse_cons
abbrev Y1u:=@Nat.zero_le
abbrev Y1v:=@List.length_reverse
abbrev Y1w:=@List.mem_range
abbrev Y1x:=@PySem.W.cellsFrom_some
abbrev Y1y:=@Heap.get?_update_other
abbrev Y1z:=@Heap.get?_none_of_le
abbrev Y20:=@List.lookup_cons
abbrev Y21:=@List.length_take
abbrev Y22:=@Option.isSome_iff_exists
abbrev Y23:=@Nat.sub_self
abbrev Y24:=@Nat.ne_of_gt
abbrev Y25:=@List.find?_cons
abbrev Y26:=@List.all_cons
abbrev Y27:=@Option.map_eq_some_iff
abbrev Y28:=@Option.isSome_map
abbrev Y29:=@PySem.F.slot_zip_next
abbrev Y2a:=@List.getElem?_eq_none
abbrev Y2b:=@Heap.get?_update_self
abbrev Y2c:=@Option.bind_none
abbrev Y2d:=@Nat.lt_succ_self
abbrev Y2e:=@List.filter_cons
abbrev Y2f:=@List.dropLast_cons_of_ne_nil
abbrev Y2g:=@List.map_congr_left
abbrev Y2h:=@List.forIn_cons
abbrev Y2i:=@Nat.le_of_lt
abbrev Y2j:=@List.lookup_append
abbrev Y2k:=@Bool.false_eq_true
abbrev Y2l:=@List.forIn_nil
abbrev Y2m:=@Array.getElem?_eq_getElem
abbrev Y2n:=@PySem.W.kitx_list
abbrev Y2o:=@PySem.F.args_tuple_add_2
abbrev Y2p:=@Bool.not_eq_true'
abbrev Y2q:=@PySem.F.plainAttrs_list
abbrev Y2r:=@PySem.F.entry_tuple_add
abbrev Y2s:=@Option.bind_eq_some_iff
abbrev Y2t:=@PySem.F.slot_tuple_add
abbrev Y2u:=@PySem.F.plainAttrs_str
abbrev Y2v:=@List.zipWith_cons_cons
abbrev Y2w:=@List.find?_cons_of_pos
abbrev Y2x:=@List.find?_cons_of_neg
abbrev Y2y:=@Nat.le_of_eq
abbrev Y2z:=@List.singleton_append
abbrev Y30:=@List.of_mem_zip
abbrev Y31:=@List.nodup_cons
abbrev Y32:=@Array.getElem?_toList
abbrev Y33:=@PySem.W.hideAll_none
abbrev Y34:=@List.set_append_left
abbrev Y35:=@List.range_eq_range'
abbrev Y36:=@List.mem_of_mem_take
abbrev Y37:=@List.getElem?_of_mem
abbrev Y38:=@Nat.toDigits_ne_nil
abbrev Y39:=@List.flatMap_append
abbrev Y3a:=@PySem.F.args_tuple_iterator_next_1
abbrev Y3b:=@PySem.F.entry_tuple_iterator_next
abbrev Y3c:=@Nat.add_assoc
abbrev Y3d:=@List.mem_filterMap
abbrev Y3e:=@F.args_str_split_2
abbrev Y3f:=@List.ext_getElem?
abbrev Y3g:=@Int.toNat_natCast
abbrev Y3h:=@F.entry_str_split
abbrev Y3i:=@Nat.add_comm
abbrev Y3j:=@List.any_map
abbrev Y3k:=@Option.getD_some
abbrev Y3l:=@List.range'_succ
abbrev Y3m:=@List.mem_reverse
abbrev Y3n:=@List.length_drop
abbrev Y3o:=@List.eq_nil_of_length_eq_zero
abbrev Y3p:=@F.slot_str_split
end
namespace L2
open PySem PySem.Spec PyProof.Rows
abbrev Key:=Sum Int Str
def Jn:Key->Value->Bool
 | .inl k,v=>Value.isInt k v
 | .inr x,v=>Value.isStrOf x v
def z72 (w:World):Key->Int
 | .inl k=>hashInt k
 | .inr x=>hashStr w x
theorem zF:∀ {k:Key}{v:Value},Jn k v=true->(∃ i t,k=Sum.inl i/\v=Value.int i t)\/(∃ x t,k=Sum.inr x/\v=Value.str x t)
 | .inl i,v,h=>by
  obtain ⟨t,e⟩:=Value.isInt_shape (k:=i) (v:=v) h;exact .inl ⟨i,t,rfl,e⟩
 | .inr x,v,h=>by
  obtain ⟨t,e⟩:=Value.isStrOf_shape (x:=x) (v:=v) h;exact .inr ⟨x,t,rfl,e⟩
theorem UR (i:Int)(t:Tok):Jn (.inl i) (.int i t)=true:=by simp [Jn,Value.isInt]
theorem US (x:Str)(t:Tok):Jn (.inr x) (.str x t)=true:=by simp [Jn,Value.isStrOf]
theorem z22 (a b:Int):decide ((Sum.inl a:Key)=Sum.inl b)=(a==b):=by
 by_cases e:a=b
 ·subst e;simp
 ·have h:¬ (Sum.inl a:Key)=Sum.inl b:=λ q=>e (Sum.inl.inj q);rw [decide_eq_false h];exact (beq_eq_false_iff_ne.mpr e).symm
theorem z23 (a b:Str):decide ((Sum.inr a:Key)=Sum.inr b)=decide (a=b):=by
 by_cases e:a=b
 ·subst e;simp
 ·have h:¬ (Sum.inr a:Key)=Sum.inr b:=λ q=>e (Sum.inr.inj q);rw [decide_eq_false h,decide_eq_false e]
theorem z24 (a:Int)(b:Str):decide ((Sum.inl a:Key)=Sum.inr b)=false:=decide_eq_false (λ q=>nomatch q)
theorem z25 (a:Str)(b:Int):decide ((Sum.inr a:Key)=Sum.inl b)=false:=decide_eq_false (λ q=>nomatch q)
def zw (prog:Program)(w:World):PySem.KeyKind prog w Key where
 is:=Jn
 hash:=z72 w
 inj:=λ v a b ha hb=>by
  rcases zF ha with ⟨i,t,rfl,rfl⟩ | ⟨x,t,rfl,rfl⟩
  ·rcases zF hb with ⟨j,u,rfl,e⟩ | ⟨y,u,rfl,e⟩
   ·injection e with e1 _;rw [e1]
   ·exact nomatch e
  ·rcases zF hb with ⟨j,u,rfl,e⟩ | ⟨y,u,rfl,e⟩
   ·exact nomatch e
   ·injection e with e1 _;rw [e1]
 byValue:=λ k v h=>by
  rcases zF h with ⟨i,t,rfl,rfl⟩ | ⟨x,t,rfl,rfl⟩<;>rfl
 pyHash:=λ hv h=>by
  rcases zF hv with ⟨i,t,rfl,rfl⟩ | ⟨x,t,rfl,rfl⟩
  ·exact wpAny_pyHash_int h
  ·exact wpAny_pyHash_str h
 eqBool:=λ hu hv h=>by
  rcases zF hu with ⟨i,t,rfl,rfl⟩ | ⟨x,t,rfl,rfl⟩
  ·rcases zF hv with ⟨j,u,rfl,rfl⟩ | ⟨y,u,rfl,rfl⟩
   ·rw [z22] at h;exact wpAny_eqBool_int h
   ·rw [z24] at h;exact SeqAt.EqAt.int_str i t y u _ _ _ _ h
  ·rcases zF hv with ⟨j,u,rfl,rfl⟩ | ⟨y,u,rfl,rfl⟩
   ·rw [z25] at h;exact SeqAt.EqAt.str_int x t j u _ _ _ _ h
   ·rw [z23] at h;exact wpAny_eqBool_str h
 «strs»:=λ k x t v h=>by
  rcases zF h with ⟨i,u,rfl,e⟩ | ⟨y,u,rfl,e⟩
  ·exact nomatch e
  ·injection e with e1 _;subst e1;cases v<;>rfl
theorem WP (prog:Program)(w:World)(i:Int)(t:Tok):(zw prog w).is (.inl i) (.int i t)=true:=UR i t
theorem WQ (prog:Program)(w:World)(x:Str)(t:Tok):(zw prog w).is (.inr x) (.str x t)=true:=US x t
inductive V where
 | non | bl (b:Bool) | int (i:Int) | str (x:Str) | byt (b:Array UInt8) | flt (b:UInt64) | ref (a:Addr) | ty (n:String)
 deriving DecidableEq
def RelV:V->Value->Prop
 | .non,u=>u=Value.none
 | .bl b,u=>u=Value.bool b
 | .int i,u=>∃ t,u=Value.int i t
 | .str x,u=>∃ t,u=Value.str x t
 | .byt b,u=>∃ t,u=Value.bytes b t
 | .flt b,u=>∃ t,u=Value.float b t
 | .ref a,u=>u=Value.ref a
 | .ty n,u=>u=Value.type n
abbrev Vals:List V->List Value->Prop:=Paired RelV
theorem Vals.length {xs:List V}{us:List Value}(r:Vals xs us):xs.length=us.length:=Paired.length r
theorem Vals.get:∀ {xs:List V}{us:List Value}{i:Nat}{x:V},Vals xs us->xs[i]?=some x->∃ u,us[i]?=some u/\RelV x u
 | _,_,_,_,.nil,e=>by simp at e
 | _,_,0,_,.cons r _,e=>by simp at e;subst e;exact ⟨_,rfl,r⟩
 | _,_,i+1,x,.cons _ t,e=>by
  obtain ⟨u,h1,h2⟩:=Vals.get (i:=i) (x:=x) t (by simpa using e);exact ⟨u,by simpa using h1,h2⟩
theorem Vals.set {x:V}{u:Value}(r:RelV x u):∀ {xs:List V}{us:List Value} (i:Nat),Vals xs us->Vals (xs.set i x) (us.set i u)
 | _,_,_,.nil=>.nil
 | _,_,0,.cons _ t=>.cons r t
 | _,_,i+1,.cons q t=>.cons q (Vals.set r i t)
theorem Vals.append:∀ {xs ys:List V}{us ws:List Value},Vals xs us->Vals ys ws->Vals (xs++ys) (us++ws)
 | _,_,_,_,.nil,s=>s
 | _,_,_,_,.cons r t,s=>.cons r (Vals.append t s)
theorem Vals.take:∀ {xs:List V}{us:List Value} (n:Nat),Vals xs us->Vals (xs.take n) (us.take n)
 | _,_,0,_=>.nil
 | _,_,_+1,.nil=>.nil
 | _,_,n+1,.cons r t=>.cons r (Vals.take n t)
theorem Vals.drop:∀ {xs:List V}{us:List Value} (n:Nat),Vals xs us->Vals (xs.drop n) (us.drop n)
 | _,_,0,r=>r
 | _,_,_+1,.nil=>.nil
 | _,_,n+1,.cons _ t=>Vals.drop n t
def RelO:Option V->Option Value->Prop
 | some v,some u=>RelV v u
 | none,none=>True
 | _,_=>False
def KV {κ:Type}:List (κ×V)->List (κ×Value)->Prop:=Paired λ (p:κ×V) (q:κ×Value)=>p.1=q.1/\RelV p.2 q.2
def kV:Key->V
 | .inl i=>.int i
 | .inr x=>.str x
inductive HO where
 | lst (xs:List V)
 | tup (xs:List V)
 | dK (kvs:List (Key×V)) | dT (kvs:List (List Key×V))
 | set (S:Int->Bool) (n:Nat)
 | ins (C dx:Addr) (fs:List (Str×V))
 | own (x:Addr)
 | xd (fs:List (Str×V))
 | met (f x:Addr)
 | rng (lo hi:Int)
 | frz (o:Obj) (u:HO)
 | tbl (ps:Array Value)
 | ext (φ:Heap->Prop)
abbrev Hp:=Addr->Option HO
def upd (H:Hp)(a:Addr)(o:HO):Hp:=λ b=>if b=a then some o else H b
theorem zu {H:Hp}{a:Addr}{o:HO}:upd H a o a=some o:=by unfold upd;rw [if_pos rfl]
theorem zq {H:Hp}{a b:Addr}{o:HO}(h:b≠a):upd H a o b=H b:=by unfold upd;rw [if_neg h]
theorem z55 {H:Hp}{a b:Addr}{o u:HO}(h:H a=some o)(h':H b=some u)(d:o≠u):a≠b:=by
 intro e;subst e;rw [h] at h';exact d (Option.some.inj h')
theorem jk {H:Hp}{a b:Addr}{o:HO}(h:H a=some o)(h':H b=none):a≠b:=by
 intro e;subst e;rw [h] at h';cases h'
section
variable (P:Program)(w:World)
def ObjOk (H:Hp)(h:Heap)(a:Addr):HO->Prop
 | .lst xs=>xs.length<=sizeLine/\∃ (its:List Value) (n:Nat),Vals xs its/\h.get? a=some { cls:=.type "list",data:=.seq its.toArray n }
 | .tup xs=>xs.length<=sizeLine/\∃ its:List Value,Vals xs its/\IsTup h a its.toArray
 | .dK kvs=>kvs.length<=sizeLine/\(a==sysModules)=false/\∃ vs,KV kvs vs/\h.DictOf (zw P w) a vs
 | .dT kvs=>kvs.length<=sizeLine/\(a==sysModules)=false/\∃ xs:List (List Key×Addr×Value),
   Paired (λ (p:List Key×V) (q:List Key×Addr×Value)=>p.1=q.1/\H q.2.1=some (.tup (p.1.map kV))/\RelV p.2 q.2.2) kvs xs /\
   ∃ o es ep,h.get? a=some o/\o.ExactDict/\o.data=.dict es ep/\es.toList=xs.map (entryOfKey (tupleKind (zw P w)))/\(xs.map (·.1)).Nodup
 | .set S n=>h.SetOf (intKind P w) a S n
 | .ins C dx fs=>H dx=some (.own a)/\fs.length<=1000/\dx≠a/\h.get? a=some (PySem.W.instObj C dx) /\
   ∃ mA,h.Ns1 dx mA/\(∀ f,RelO (fs.lookup f) (mA f))/\PySem.Within mA (fs.map (·.1))
 | .own _=>∃ o,h.get? a=some o
 | .xd fs=>∃ mA,h.Ns1 a mA/\∀ f,RelO (fs.lookup f) (mA f)
 | .rng lo hi=>∃ t u v,h.get? a=some { cls:=.type "range",data:=.fields #[.int lo t,.int hi u,.int 1 v] }
 | .frz o u=>h.get? a=some o/\ObjOk H h a u
 | .tbl ps=>h.get? a=some { cls:=.none,data:=.fields ps }
 | .met f x=>h.get? a=some (PySem.W.methodObj (.ref f) (.ref x))
 | .ext φ=>φ h/\(∃ o,h.get? a=some o)/\∀ h1 h2:Heap,φ h1->(∀ o,h1.get? a=some o->h2.get? a=some o)->φ h2
def HOk (H:Hp)(h:Heap):Prop:=∀ a o,H a=some o->ObjOk P w H h a o
end
section
variable {P:Program}{w:World}{H H':Hp}{h h':Heap}{a:Addr}{o:HO}
theorem ObjOk.lt (x:ObjOk P w H h a o):a<h.objs.size:=by
 cases o with
 | lst xs=>obtain ⟨_,_,_,_,e⟩:=x;exact Y0h e
 | tup xs=>obtain ⟨_,_,_,p⟩:=x;exact p.lt
 | dK kvs=>obtain ⟨_,_,_,_,o,_,_,e,_⟩:=x;exact Y0h e
 | dT kvs=>obtain ⟨_,_,_,_,o,_,_,e,_⟩:=x;exact Y0h e
 | set S n=>obtain ⟨o,_,_,_,e,_⟩:=x;exact Y0h e
 | ins C dx fs=>obtain ⟨_,_,_,e,_⟩:=x;exact Y0h e
 | own y=>obtain ⟨_,e⟩:=x;exact Y0h e
 | xd fs=>obtain ⟨_,⟨_,_,_,e,_⟩,_⟩:=x;exact Y0h e
 | rng lo hi=>obtain ⟨_,_,_,e⟩:=x;exact Y0h e
 | frz ob u=>obtain ⟨e,_⟩:=x;exact Y0h e
 | tbl ps=>exact Y0h (show h.get? a=some _ from x)
 | met f y=>exact Y0h (show h.get? a=some _ from x)
 | ext φ=>obtain ⟨_,⟨_,e⟩,_⟩:=x;exact Y0h e
theorem Paired.mapP {α β:Type}{F G:α->β->Prop}:∀ {l₁:List α}{l₂:List β},Paired F l₁ l₂->(∀ a b,F a b->G a b)->Paired G l₁ l₂
 | _,_,.nil,_=>.nil
 | _,_,.cons r t,f=>.cons (f _ _ r) (Paired.mapP t f)
theorem ObjOk.stay (x:ObjOk P w H h a o)(k:∀ b u,(b=a\/H b=some (.own a))->h.get? b=some u->h'.get? b=some u)
  (ho:∀ b,H b=some (.own a)->H' b=some (.own a)) (ht:∀ b xs,H b=some (.tup xs)->H' b=some (.tup xs)):ObjOk P w H' h' a o:=by
 induction o with
 | lst xs=>obtain ⟨z,its,n,r,e⟩:=x;exact ⟨z,its,n,r,k _ _ (.inl rfl) e⟩
 | tup xs=>obtain ⟨z,its,r,ob,e,c⟩:=x;exact ⟨z,its,r,ob,k _ _ (.inl rfl) e,c⟩
 | dK kvs=>obtain ⟨z,y,vs,r,ob,es,ep,e,c⟩:=x;exact ⟨z,y,vs,r,ob,es,ep,k _ _ (.inl rfl) e,c⟩
 | dT kvs =>
  obtain ⟨z,y,xs,r,ob,es,ep,e,c⟩:=x;exact ⟨z,y,xs,Paired.mapP r λ p q z=>⟨z.1,ht _ _ z.2.1,z.2.2⟩,ob,es,ep,k _ _ (.inl rfl) e,c⟩
 | set S n=>obtain ⟨ob,es,ep,t,e,c⟩:=x;exact ⟨ob,es,ep,t,k _ _ (.inl rfl) e,c⟩
 | ins C dx fs =>
  obtain ⟨d,z,ne,e,mA,⟨od,es,ep,e2,c⟩,r⟩:=x;exact ⟨ho _ d,z,ne,k _ _ (.inl rfl) e,mA,⟨od,es,ep,k _ _ (.inr d) e2,c⟩,r⟩
 | own y=>obtain ⟨ob,e⟩:=x;exact ⟨ob,k _ _ (.inl rfl) e⟩
 | xd fs=>obtain ⟨mA,⟨od,es,ep,e,c⟩,r⟩:=x;exact ⟨mA,⟨od,es,ep,k _ _ (.inl rfl) e,c⟩,r⟩
 | rng lo hi=>obtain ⟨t,u,v,e⟩:=x;exact ⟨t,u,v,k _ _ (.inl rfl) e⟩
 | frz ob u ih=>obtain ⟨e,q⟩:=x;exact ⟨k _ _ (.inl rfl) e,ih q⟩
 | tbl ps =>
  have e:h.get? a=some { cls:=.none,data:=.fields ps }:=x;show h'.get? a=some { cls:=.none,data:=.fields ps };exact k a _ (.inl rfl) e
 | met f y =>
  have e:h.get? a=some (PySem.W.methodObj (.ref f) (.ref y)):=x;show h'.get? a=some (PySem.W.methodObj (.ref f) (.ref y));exact k a _ (.inl rfl) e
 | ext φ=>obtain ⟨p,⟨o,e⟩,st⟩:=x;exact ⟨st _ _ p λ o q=>k _ _ (.inl rfl) q,⟨o,k _ _ (.inl rfl) e⟩,st⟩
theorem HOk.lt (x:HOk P w H h)(e:H a=some o):a<h.objs.size:=(x a o e).lt
theorem HOk.fresh (x:HOk P w H h)(e:h.objs.size<=a):H a=none:=by
 cases q:H a with
 | none=>rfl
 | some u=>exact absurd (Y0l (x.lt q) e) (Y1c _)
theorem HOk.kept (x:HOk P w H h)(k:∀ b u,h.get? b=some u->h'.get? b=some u):HOk P w H h':=λ a o e =>
 (x a o e).stay (λ b u _ q=>k b u q) (λ _ q=>q) λ _ _ q=>q
theorem HOk.laid (x:HOk P w H h)(k:∀ b u,h.get? b=some u->h'.get? b=some u)(hp:h.objs.size<=a)(new:ObjOk P w (upd H a o) h' a o):HOk P w (upd H a o) h':=λ b u e=>by
 have hn:=x.fresh hp;by_cases hb:b=a
 ·subst hb;rw [zu] at e;cases e;exact new
 ·rw [zq hb] at e;exact (x b u e).stay (λ c v _ q=>k c v q) (λ c q=>by rw [zq (jk q hn)];exact q) λ c xs q=>by rw [zq (jk q hn)];exact q
end
def Rd (H:Hp)(a:Addr)(u:HO):Prop:=H a=some u\/∃ o,H a=some (.frz o u)
theorem Rd.of {H:Hp}{a:Addr}{u:HO}(h:H a=some u):Rd H a u:=.inl h
theorem Rd.ok {P:Program}{w:World}{H:Hp}{h:Heap}{a:Addr}{u:HO}(r:Rd H a u)(x:HOk P w H h):ObjOk P w H h a u:=by
 rcases r with r | ⟨o,r⟩
 ·exact x a u r
 ·obtain ⟨_,q⟩:=x a _ r;exact q
def Mut:Option HO->Prop
 | some (.lst _)=>True
 | some (.dK _)=>True
 | some (.dT _)=>True
 | some (.set _ _)=>True
 | some (.ins _ _ _)=>True
 | some (.ext _)=>True
 | _=>False
section
variable {P:Program}{w:World}{H:Hp}{h h':Heap}{x e:Addr}{o':HO}
theorem HOk.write (ok:HOk P w H h)(mu:Mut (H x))(he:e=x\/H e=some (.own x))(k:∀ b u,b≠e->h.get? b=some u->h'.get? b=some u)(heo:∃ u,h'.get? e=some u)
  (new:ObjOk P w (upd H x o') h' x o'):HOk P w (upd H x o') h':=λ b u q=>by
 have nown:∀ c y,H c=some (.own y)->c≠x:=λ c y r z=>by subst z;rw [r] at mu;exact mu
 have ntup:∀ c xs,H c=some (.tup xs)->c≠x:=λ c xs r z=>by subst z;rw [r] at mu;exact mu
 by_cases hb:b=x
 ·subst hb;rw [zu] at q;cases q;exact new
 ·rw [zq hb] at q;by_cases hbe:b=e
  ·have q':H b=some (.own x):=by
    rcases he with z | z
    ·exact absurd (hbe.trans z) hb
    ·rw [hbe];exact z
   rw [q] at q';cases q';obtain ⟨v,hv⟩:=heo;exact ⟨v,by rw [hbe];exact hv⟩
  ·refine (ok b u q).stay (λ c v hc r=>k c v ?_ r) (λ c r=>by rw [zq (nown c b r)];exact r) λ c xs r=>by rw [zq (ntup c xs r)];exact r
   rcases hc with rfl | hc
   ·exact hbe
   ·rintro rfl
    rcases he with z | z
    ·exact nown c b hc z
    ·rw [hc] at z;cases z;exact hb rfl
end
structure Un (fs ex:List Addr)(H H':Hp)(h h':Heap):Prop where
 keep:∀ b o,h.get? b=some o->H b=none->b∉fs->b∉ex->h'.get? b=some o
 slot:∀ b o,h.get? b=some o->H b=none->b∈fs->b∉ex->∃ sl,h'.get? b=some { o with slots:=sl }
 free:∀ b o,h.get? b=some o->H b=none->b∉ex->H' b=none
 there:∀ b o,h.get? b=some o->b∉ex->∃ o',h'.get? b=some o'
 tups:∀ b xs,H b=some (.tup xs)->H' b=some (.tup xs)
 frzs:∀ b o u,H b=some (.frz o u)->H' b=some (.frz o u)
 tbls:∀ b ps,H b=some (.tbl ps)->∃ more,H' b=some (.tbl (ps++more))
section
variable {fs fs' ex ex':List Addr}{H H1 H2:Hp}{h h1 h2 h':Heap}{a x e:Addr}{o:HO}
theorem Un.any (u:Un fs ex H H1 h h1){b:Addr}{ob:Obj}(q:h.get? b=some ob)(n:H b=none)(hx:b∉ex):∃ sl,h1.get? b=some { ob with slots:=sl }:=by
 by_cases hb:b∈fs
 ·exact u.slot b ob q n hb hx
 ·exact ⟨ob.slots,u.keep b ob q n hb hx⟩
theorem Un.trans (a:Un fs ex H H1 h h1)(b:Un fs ex H1 H2 h1 h2):Un fs ex H H2 h h2 where
 keep:=λ c ob q n hc hx=>b.keep c ob (a.keep c ob q n hc hx) (a.free c ob q n hx) hc hx
 slot:=λ c ob q n hc hx=>by
  obtain ⟨sl,e1⟩:=a.slot c ob q n hc hx;obtain ⟨sl',e2⟩:=b.slot c _ e1 (a.free c ob q n hx) hc hx;exact ⟨sl',e2⟩
 free:=λ c ob q n hx=>by
  obtain ⟨o',e1⟩:=a.there c ob q hx;exact b.free c o' e1 (a.free c ob q n hx) hx
 there:=λ c ob q hx=>by
  obtain ⟨o',e1⟩:=a.there c ob q hx;exact b.there c o' e1 hx
 tups:=λ c xs q=>b.tups c xs (a.tups c xs q)
 frzs:=λ c ob xs q=>b.frzs c ob xs (a.frzs c ob xs q)
 tbls:=λ c ps q=>by
  obtain ⟨m1,e1⟩:=a.tbls c ps q;obtain ⟨m2,e2⟩:=b.tbls c _ e1;exact ⟨m1++m2,by rw [e2,Array.append_assoc]⟩
theorem Un.kept (k:∀ b u,h.get? b=some u->h'.get? b=some u):Un fs ex H H h h' :=
 ⟨λ b ob q _ _ _=>k b ob q,λ b ob q _ _ _=>⟨ob.slots,k b ob q⟩,λ _ _ _ n _=>n,λ b ob q _=>⟨ob,k b ob q⟩,λ _ _ q=>q,λ _ _ _ q=>q,λ _ ps q=>⟨#[],by rw [q];simp⟩⟩
theorem Un.refl:Un fs ex H H h h:=Un.kept λ _ _ q=>q
theorem Un.laid (k:∀ b u,h.get? b=some u->h'.get? b=some u)(hp:h.objs.size<=a)(hn:H a=none):Un fs ex H (upd H a o) h h' where
 keep:=λ b u q _ _ _=>k b u q
 slot:=λ b u q _ _ _=>⟨u.slots,k b u q⟩
 free:=λ b u q n _=>by rw [zq (Y0r (Y0l (Y0h q) hp))];exact n
 there:=λ b u q _=>⟨u,k b u q⟩
 tups:=λ b xs q=>by rw [zq (jk q hn)];exact q
 frzs:=λ b u xs q=>by rw [zq (jk q hn)];exact q
 tbls:=λ b ps q=>⟨#[],by rw [zq (jk q hn),q];simp⟩
theorem Un.write (mu:Mut (H x))(he:e=x\/H e=some (.own x))(k:∀ b u,b≠e->h.get? b=some u->h'.get? b=some u)(heo:∃ u,h'.get? e=some u):Un fs ex H (upd H x o) h h':=by
 have hx:∀ b,H b=none->b≠x:=λ b n z=>by subst z;rw [n] at mu;exact mu
 have hb:∀ b,H b=none->b≠e:=λ b n z=>by
  subst z;rcases he with r | r
  ·exact hx b n r
  ·rw [n] at r;cases r
 have hm:∀ b u,H b=some u->¬ Mut (some u)->b≠x:=λ b u q nm z=>by subst z;rw [q] at mu;exact nm mu
 refine ⟨λ b u q n _ _=>k b u (hb b n) q,λ b u q n _ _=>⟨u.slots,k b u (hb b n) q⟩,λ b u q n _=>by rw [zq (hx b n)];exact n,λ b u q _=>?_,
  λ b xs q=>by rw [zq (hm b _ q λ z=>z)];exact q,λ b u xs q=>by rw [zq (hm b _ q λ z=>z)];exact q,λ b ps q=>⟨#[],by rw [zq (hm b _ q λ z=>z),q];simp⟩⟩
 by_cases hbe:b=e
 ·subst hbe;exact heo
 ·exact ⟨u,k b u hbe q⟩
theorem Un.mono (u:Un fs ex H H1 h h1)(hs:∀ b∈fs,b∈fs')(hx:∀ b∈ex,b∈ex'):Un fs' ex' H H1 h h1 :=
 ⟨λ b ob q n hb he=>u.keep b ob q n (λ z=>hb (hs b z)) λ z=>he (hx b z),λ _ _ q n _ he=>u.any q n λ z=>he (hx _ z),λ b ob q n he=>u.free b ob q n λ z=>he (hx b z),λ b ob q he=>u.there b ob q λ z=>he (hx b z),u.tups,u.frzs,u.tbls⟩
end
def trk (h:Heap)(H:Hp):List Addr:=(List.range h.objs.size).filter λ a=>(H a).isSome
def W2 (h:Heap)(H:Hp):Heap:=PySem.W.hideAll h (trk h H)
theorem UT (h:Heap)(H:Hp):(W2 h H).objs.size=h.objs.size:=PySem.W.hideAll_size _ _
theorem VR {h:Heap}{H:Hp}{b:Addr}{o:Obj}(e:h.get? b=some o)(n:H b=none):(W2 h H).get? b=some o :=
 PySem.W.hideAll_get _ e λ hm=>by
  have q:(H b).isSome=true:=(List.mem_filter.mp hm).2;rw [n] at q;simp at q
theorem B1 {h:Heap}{H:Hp}{b:Addr}{o:Obj}(e:(W2 h H).get? b=some o):h.get? b=some o/\H b=none:=by
 have e':h.get? b=some o:=PySem.W.of_hideAll (trk h H) e;refine ⟨e',?_⟩;cases q:H b with
 | none=>rfl
 | some x =>
  have hm:b∈trk h H:=List.mem_filter.mpr ⟨Y1w.mpr (Y0h e'),by simp [q]⟩;have z:(W2 h H).get? b=none:=Y33 (trk h H) hm;rw [z] at e;cases e
def B2 (g h:Heap)(L:Addr):List (Addr×Obj):=(List.range h.objs.size).filterMap λ a=>if a=L\/(g.get? a).isSome=true then none else (h.get? a).map λ o=>(a,o)
def zL (g h:Heap)(L d:Addr):List (Addr×Obj):=(B2 g h L).filter λ p=>decide (p.1≠d)
structure Mod (K:Y00)(mg:Str->Option Value)(base:Heap):Prop where
 kin:K.In base
 glob:base.Ns mainGlobals mg
 blt:∃ mb,base.Ns builtinsNs mb/\∀ x:Str,x≠"__name__"->mb x=bootBuiltins x
 nolimit:base.NoLimit
structure Cx where
 prog:Program
 w:World
 K:Y00
 mg:Str->Option Value
 base:Heap
 A:Around
 N:List Str
 s₀:Shared
 H₀:Hp
 env:Env
 outer:List Env
 stack:List Env
 ex:List Addr
 fn:Str->Bool
 calm:Bool
 pn:List (Addr×Obj)
 xe:Value->Shared->Prop
def frs (l:List Env):List Addr:=l.filterMap (·.frame)
abbrev Cx.fs (X:Cx):List Addr:=frs X.outer
def Vis (sc:Scope)(x:Str):Prop:=sc.names.lookup x=some .local\/sc.names.lookup x=some .cell\/sc.names.lookup x=some .free
def Loc (sc:Scope)(x:Str):Prop:=sc.names.lookup x=some .local\/sc.names.lookup x=some .cell
def z73 (env:Env)(h:Heap)(m:Str->Option Value)(x:Str)(u:Value):Prop :=
 (env.kindOf x=some .local/\m x=some u)\/((env.kindOf x=some .cell\/env.kindOf x=some .free)/\∃ c,env.cells.lookup x=some c/\h.IsCell c (some u))
structure Cx.Ok (X:Cx):Prop where
 mod:Mod X.K X.mg X.base
 kind:X.env.scope.kind=.function
 glob:X.env.globals=mainGlobals
 blt:X.env.builtins=builtinsNs
 above:X.s₀.heap.objs.size<=X.env.locals
 inj:∀ x y c,X.env.cells.lookup x=some c->X.env.cells.lookup y=some c->x=y
 has:∀ x,(X.env.kindOf x=some .cell\/X.env.kindOf x=some .free)->∃ c,X.env.cells.lookup x=some c
 cab:∀ x c,X.fn x=true->X.env.cells.lookup x=some c->X.s₀.heap.objs.size<=c
 hd:X.calm=true->X.A.handled=none
 frames:X.A.frames=some X.stack
 stk:X.stack=X.outer\/(X.stack=X.env::X.outer/\X.env.frame=some X.env.locals)
 exf:∀ b∈X.ex,b≠X.env.locals/\∀ x c,X.env.cells.lookup x=some c->c≠b
 bs:∀ b o,X.base.get? b=some o->X.s₀.heap.get? b=some o/\X.H₀ b=none
 bsz:X.base.objs.size<=X.s₀.heap.objs.size
 noex:∀ b o,X.base.get? b=some o->b∉X.ex
 exfs:∀ b∈X.ex,b∉X.fs
 funs:X.s₀.heap.FunFrames X.base X.outer
 frf:∀ b∈X.fs,X.H₀ b=none
structure Inv (X:Cx)(pins:List (Addr×Obj))(σ:List (Option V))(H:Hp)(s:Shared):Prop where
 ok:X.Ok
 os:s.os=X.s₀.os
 bare:AllBare s.gens
 base:Un X.fs X.ex X.H₀ H X.s₀.heap s.heap
 loc:∃ m,s.heap.Ns X.env.locals m/\∀ (i:Nat) (x:Str) (v:V),X.N[i]?=some x->σ[i]?=some (some v)->Vis X.env.scope x->∃ u,RelV v u/\z73 X.env s.heap m x u
 cell:∀ x c,X.env.cells.lookup x=some c->∃ v,s.heap.IsCell c v
 free:H X.env.locals=none
 freeC:∀ x c,X.env.cells.lookup x=some c->H c=none
 pin:∀ p∈X.pn++pins,s.heap.get? p.1=some p.2/\H p.1=none/\p.1≠X.env.locals/\p.1∉X.fs/\∀ v,p.2.data≠.cell v
 hok:HOk X.prog X.w H s.heap
 len:σ.length=X.N.length
section
variable {X:Cx}{pins:List (Addr×Obj)}{σ:List (Option V)}{H H':Hp}{s:Shared}{h':Heap}
theorem Cx.Ok.nofr (ok:X.Ok){b:Addr}{o:Obj}(e:X.base.get? b=some o):b∉X.fs:=λ hb=>by
 have:=(ok.funs.mem hb).1
 rw [e] at this;cases this
theorem Inv.bs (I:Inv X pins σ H s):∀ b o,X.base.get? b=some o->s.heap.get? b=some o/\H b=none:=λ b o e =>
 ⟨I.base.keep b o (I.ok.bs b o e).1 (I.ok.bs b o e).2 (I.ok.nofr e) (I.ok.noex b o e),I.base.free b o (I.ok.bs b o e).1 (I.ok.bs b o e).2 (I.ok.noex b o e)⟩
theorem Inv.bk (I:Inv X pins σ H s):∀ b o,X.base.get? b=some o->s.heap.get? b=some o:=λ b o e=>(I.bs b o e).1
theorem Inv.mod (I:Inv X pins σ H s):Mod X.K X.mg X.base:=I.ok.mod
theorem Inv.kIn (I:Inv X pins σ H s):X.K.In s.heap:=I.ok.mod.kin.keeps I.bk
theorem Inv.nolimit (I:Inv X pins σ H s):s.heap.NoLimit:=I.ok.mod.nolimit.keeps I.bk
theorem Inv.fr (I:Inv X pins σ H s):∃ m,Fr X.base X.env.locals s.heap m :=
 let ⟨m,hn,_⟩:=I.loc
 ⟨m,hn,I.bk,Y0t I.ok.bsz I.ok.above⟩
theorem Inv.lt (I:Inv X pins σ H s):X.env.locals<s.heap.objs.size:=let ⟨_,hn,_⟩:=I.loc;hn.lt
theorem Inv.sz (I:Inv X pins σ H s):X.s₀.heap.objs.size<=s.heap.objs.size:=Y0t I.ok.above (Y2i I.lt)
theorem Inv.nofs (I:Inv X pins σ H s){a:Addr}(h:s.heap.objs.size<=a):a∉X.fs:=λ hb=>by
 obtain ⟨_,o,ho,_⟩:=I.ok.funs.mem hb;exact absurd (Y0l (Y0h ho) (Y0t I.sz h)) (Y1c _)
theorem Inv.cne (I:Inv X pins σ H s):∀ x c,X.env.cells.lookup x=some c->c≠X.env.locals:=λ x c e z=>by
 obtain ⟨v,o,ho,hd⟩:=I.cell x c e;obtain ⟨m,⟨o',es,ep,ho',hd',_⟩,_⟩:=I.loc;rw [z,ho'] at ho;cases ho;rw [hd'] at hd;cases hd
theorem Inv.funs (I:Inv X pins σ H s):s.heap.FunFrames X.base X.outer:=by
 have all:∀ (l:List Env),(∀ b∈frs l,b∈X.fs)->X.s₀.heap.FunFrames X.base l->s.heap.FunFrames X.base l:=by
  intro l
  induction l with
  | nil=>intro _ _;trivial
  | cons env r ih =>
   intro hs hl;obtain ⟨hk,⟨L,o,hf,hn,ho,hd⟩,hr⟩:=hl;have hL:L∈X.fs:=hs L (by unfold frs;rw [Y1q,hf];exact Y08);obtain ⟨sl,e⟩:=I.base.slot L o ho (I.ok.frf L hL) hL λ z=>I.ok.exfs L z hL;exact ⟨hk,⟨L,_,hf,hn,e,hd⟩,ih (λ b hb=>hs b (by unfold frs;rw [Y1q,hf];exact Y06 _ hb)) hr⟩
 exact all X.outer (λ _ hb=>hb) I.ok.funs
theorem Inv.stack (I:Inv X pins σ H s):s.heap.FunFrames X.base X.stack:=by
 rcases I.ok.stk with e | ⟨e,hf⟩
 ·rw [e];exact I.funs
 ·rw [e];obtain ⟨m,hn,_⟩:=I.loc;refine .cons (by rw [I.ok.kind];decide) hf hn ?_ I.funs;exact Y1z (Y0t I.ok.bsz I.ok.above)
theorem Inv.stkSub (I:Inv X pins σ H s):∀ b∈frs X.stack,b∈X.env.locals::X.fs:=λ b hb=>by
 rcases I.ok.stk with e | ⟨e,hf⟩
 ·rw [e] at hb;exact Y06 _ hb
 ·rw [e] at hb;unfold frs at hb;rw [Y1q,hf] at hb;exact hb
theorem Inv.stkFree (I:Inv X pins σ H s):∀ b∈frs X.stack,H b=none:=λ b hb=>by
 rcases Y0b.mp (I.stkSub b hb) with e | hb
 ·rw [e];exact I.free
 ·obtain ⟨_,o,ho,_⟩:=I.ok.funs.mem hb;exact I.base.free b o ho (I.ok.frf b hb) λ z=>I.ok.exfs b z hb
theorem Inv.step {g':Array GenState}{t':Nat}{d':Drawn}{ch:List Addr}(I:Inv X pins σ H s)
  (hch:∀ b∈ch,(b∈X.ex\/X.s₀.heap.objs.size<=b)/\b≠X.env.locals/\(∀ x c,X.env.cells.lookup x=some c->c≠b)/\∀ p∈X.pn++pins,p.1≠b)
  (keep:∀ b o,b≠X.env.locals->b∉X.fs->b∉ch->s.heap.get? b=some o->H b=none->h'.get? b=some o)
  (slot:∀ b o,b≠X.env.locals->b∈X.fs->b∉ch->s.heap.get? b=some o->H b=none->∃ sl,h'.get? b=some { o with slots:=sl }) (free:∀ b o,b∉ch->s.heap.get? b=some o->H b=none->H' b=none)
  (there:∀ b o,b∉ch->s.heap.get? b=some o->∃ o',h'.get? b=some o')
  (tups:∀ b xs,H b=some (.tup xs)->H' b=some (.tup xs)) (frzs:∀ b o u,H b=some (.frz o u)->H' b=some (.frz o u)) (tbls:∀ b ps,H b=some (.tbl ps)->∃ more,H' b=some (.tbl (ps++more)))
  (ns:∀ m,s.heap.Ns X.env.locals m->h'.Ns X.env.locals m) (hok:HOk X.prog X.w H' h') (hg:AllBare g') :
  Inv X pins σ H' { s with heap:=h',gens:=g',drawn:=d',toks:=t' }:=by
 have neL:∀ b o,X.s₀.heap.get? b=some o->b≠X.env.locals:=λ b o e=>Y0r (Y0l (Y0h e) I.ok.above);have neC:∀ b o,X.s₀.heap.get? b=some o->b∉X.ex->b∉ch:=λ b o e hx hb=>by
  rcases (hch b hb).1 with z | z
  ·exact hx z
  ·exact absurd (Y0l (Y0h e) z) (Y1c _)
 have cellK:∀ x c,X.env.cells.lookup x=some c->∀ v,s.heap.IsCell c v->h'.IsCell c v:=λ x c e v ⟨o,ho,hd⟩=>by
  have nch:c∉ch:=λ z=>(hch c z).2.2.1 x c e rfl;by_cases hc:c∈X.fs
  ·obtain ⟨sl,q⟩:=slot c o (I.cne x c e) hc nch ho (I.freeC x c e);exact ⟨_,q,hd⟩
  ·exact ⟨o,keep c o (I.cne x c e) hc nch ho (I.freeC x c e),hd⟩
 refine ⟨I.ok,I.os,hg,⟨λ b o e n hb hx=>?_,λ b o e n hb hx=>?_,λ b o e n hx=>?_,λ b o e hx=>?_,λ b xs e=>tups b xs (I.base.tups b xs e),λ b o xs e=>frzs b o xs (I.base.frzs b o xs e),λ b ps e=>?_⟩,?_,λ x c e=>?_,?_,λ x c e=>?_,λ p hp=>?_,hok,I.len⟩
 ·exact keep b o (neL b o e) hb (neC b o e hx) (I.base.keep b o e n hb hx) (I.base.free b o e n hx)
 ·obtain ⟨sl,e1⟩:=I.base.slot b o e n hb hx;obtain ⟨sl',e2⟩:=slot b _ (neL b o e) hb (neC b o e hx) e1 (I.base.free b o e n hx);exact ⟨sl',e2⟩
 ·obtain ⟨o',e1⟩:=I.base.there b o e hx;exact free b o' (neC b o e hx) e1 (I.base.free b o e n hx)
 ·obtain ⟨o',e1⟩:=I.base.there b o e hx;exact there b o' (neC b o e hx) e1
 ·obtain ⟨m1,e1⟩:=I.base.tbls b ps e;obtain ⟨m2,e2⟩:=tbls b _ e1;exact ⟨m1++m2,by rw [e2,Array.append_assoc]⟩
 ·obtain ⟨m,hn,hl⟩:=I.loc;refine ⟨m,ns m hn,λ i x v e1 e2 e3=>?_⟩;obtain ⟨u,r,l⟩:=hl i x v e1 e2 e3;refine ⟨u,r,?_⟩;rcases l with l | ⟨k,c,e,z⟩
  ·exact .inl l
  ·exact .inr ⟨k,c,e,cellK x c e _ z⟩
 ·obtain ⟨v,z⟩:=I.cell x c e;exact ⟨v,cellK x c e v z⟩
 ·obtain ⟨m,⟨o,_,_,ho,_⟩,_⟩:=I.loc;exact free _ o (λ z=>(hch _ z).2.1 rfl) ho I.free
 ·obtain ⟨v,o,ho,hd⟩:=I.cell x c e;exact free c o (λ z=>(hch c z).2.2.1 x c e rfl) ho (I.freeC x c e)
 ·obtain ⟨e,n,ne,nf,d⟩:=I.pin p hp;have nch:p.1∉ch:=λ z=>(hch p.1 z).2.2.2 p hp rfl;exact ⟨keep p.1 p.2 ne nf nch e n,free p.1 p.2 nch e n,ne,nf,d⟩
theorem Inv.un {t':Nat}(I:Inv X pins σ H s)(u:Un X.fs [] H H' s.heap h')(hok:HOk X.prog X.w H' h'):Inv X pins σ H' { s with heap:=h',toks:=t' }:=by
 obtain ⟨m,⟨o,es,ep,ho,r⟩,_⟩:=id I.loc;obtain ⟨sl,hL⟩:=u.any ho I.free (by simp);exact I.step (g':=s.gens) (d':=s.drawn) (ch:=[]) (λ _ z=>nomatch z) (λ b o _ hb _ e n=>u.keep b o e n hb (by simp)) (λ b o _ hb _ e n=>u.slot b o e n hb (by simp)) (λ b o _ e n=>u.free b o e n (by simp)) (λ b o _ e=>u.there b o e (by simp)) u.tups u.frzs u.tbls (λ m' hm=>by
  obtain ⟨o',es',ep',ho',r'⟩:=hm;rw [ho] at ho';cases ho';exact ⟨_,es',ep',hL,r'⟩) hok I.bare
theorem Inv.call {g':Array GenState}{t':Nat}{d':Drawn}{ch:List Addr}(I:Inv X pins σ H s)(u:Un (frs X.stack) ch H H' s.heap h')(hok:HOk X.prog X.w H' h')(hg:AllBare g')
  (hch:∀ b∈ch,(b∈X.ex\/X.s₀.heap.objs.size<=b)/\b≠X.env.locals/\(∀ x c,X.env.cells.lookup x=some c->c≠b)/\∀ p∈X.pn++pins,p.1≠b) :
  Inv X pins σ H' { s with heap:=h',gens:=g',drawn:=d',toks:=t' }:=by
 obtain ⟨m,⟨o,es,ep,ho,r⟩,_⟩:=id I.loc;obtain ⟨sl,hL⟩:=u.any ho I.free λ z=>(hch _ z).2.1 rfl;exact I.step (ch:=ch) hch (λ b o hL hb hc e n=>u.keep b o e n (λ z=>(Y0b.mp (I.stkSub b z)).elim hL hb) hc) (λ b o _ _ hc e n=>u.any e n hc) (λ b o hc e n=>u.free b o e n hc) (λ b o hc e=>u.there b o e hc) u.tups u.frzs u.tbls (λ m' hm=>by
  obtain ⟨o',es',ep',ho',r'⟩:=hm;rw [ho] at ho';cases ho';exact ⟨_,es',ep',hL,r'⟩) hok hg
theorem Inv.turned {t':Nat}{it:Addr}(I:Inv X pins σ H s)(k:∀ b o,b≠it->s.heap.get? b=some o->h'.get? b=some o)(hn:H it=none)(hL:it≠X.env.locals)
  (h1:it∈X.ex\/X.s₀.heap.objs.size<=it) (h2:∀ x c,X.env.cells.lookup x=some c->c≠it) (h3:∀ p∈X.pn++pins,p.1≠it):Inv X pins σ H { s with heap:=h',toks:=t' }:=by
 have nit:∀ b u,H b=some u->b≠it:=λ b u e z=>by rw [z,hn] at e;cases e
 refine I.step (g':=s.gens) (d':=s.drawn) (ch:=[it]) (λ b hb=>?_) (λ b o _ _ hc e _=>k b o (λ z=>hc (by simp [z])) e) (λ b o _ _ hc e _=>⟨o.slots,k b o (λ z=>hc (by simp [z])) e⟩) (λ _ _ _ _ n=>n)
  (λ b o hc e=>⟨o,k b o (λ z=>hc (by simp [z])) e⟩) (λ _ _ e=>e) (λ _ _ _ e=>e) (λ b ps e=>⟨#[],by rw [e];simp⟩) (λ m hm=>?_) (λ b u e=>?_) I.bare
 ·have e:b=it:=by simpa using hb
  subst e;exact ⟨h1,hL,h2,h3⟩
 ·obtain ⟨o,es,ep,ho,r⟩:=hm;exact ⟨o,es,ep,k _ o (Ne.symm hL) ho,r⟩
 ·refine (I.hok b u e).stay (λ c v hc q=>k c v ?_ q) (λ _ q=>q) λ _ _ q=>q;rcases hc with z | z
  ·rw [z];exact nit b u e
  ·exact nit c _ z
theorem Inv.tok (I:Inv X pins σ H s)(t:Nat):Inv X pins σ H { s with toks:=t }:=I.un (h':=s.heap) (t':=t) Un.refl I.hok
theorem Inv.kept {t':Nat}(I:Inv X pins σ H s)(k:∀ b u,s.heap.get? b=some u->h'.get? b=some u):Inv X pins σ H { s with heap:=h',toks:=t' }:=I.un (Un.kept k) (I.hok.kept k)
theorem Inv.laid {a:Addr}{o:HO}{t':Nat}(I:Inv X pins σ H s)(k:∀ b u,s.heap.get? b=some u->h'.get? b=some u)(hp:s.heap.objs.size<=a)(new:ObjOk X.prog X.w (upd H a o) h' a o) :
  Inv X pins σ (upd H a o) { s with heap:=h',toks:=t' }:=I.un (Un.laid k hp (I.hok.fresh hp)) (I.hok.laid k hp new)
theorem Inv.write {x e:Addr}{o:HO}{t':Nat}(I:Inv X pins σ H s)(mu:Mut (H x))(he:e=x\/H e=some (.own x))(k:∀ b u,b≠e->s.heap.get? b=some u->h'.get? b=some u)(heo:∃ u,h'.get? e=some u)
  (new:ObjOk X.prog X.w (upd H x o) h' x o):Inv X pins σ (upd H x o) { s with heap:=h',toks:=t' }:=I.un (Un.write mu he k heo) (I.hok.write mu he k heo new)
theorem Inv.weak {σ':List (Option V)}(I:Inv X pins σ H s)(hl:σ'.length=σ.length)(w:∀ (i:Nat) v,σ'[i]?=some (some v)->σ[i]?=some (some v)):Inv X pins σ' H s :=
 ⟨I.ok,I.os,I.bare,I.base,let ⟨m,hn,hl'⟩:=I.loc;⟨m,hn,λ i x v e1 e2 e3=>hl' i x v e1 (w i v e2) e3⟩,I.cell,I.free,I.freeC,I.pin,I.hok,hl.trans I.len⟩
theorem Inv.pins_of {pins':List (Addr×Obj)}(I:Inv X pins σ H s)(h:∀ p∈pins',s.heap.get? p.1=some p.2/\H p.1=none/\p.1≠X.env.locals/\p.1∉X.fs/\∀ v,p.2.data≠.cell v):Inv X pins' σ H s :=
 ⟨I.ok,I.os,I.bare,I.base,I.loc,I.cell,I.free,I.freeC,λ p hp=>(Y0f.mp hp).elim (λ z=>I.pin p (Y1f _ z)) (h p),I.hok,I.len⟩
theorem WR {N:List Str}(hN:N.Nodup){i j:Nat}{x:Str}(a:N[i]?=some x)(b:N[j]?=some x):i=j:=by
 obtain ⟨h1,e1⟩:=Y04.mp a;obtain ⟨h2,e2⟩:=Y04.mp b;exact (List.getElem_inj hN).mp (e1.trans e2.symm)
theorem Jo {M:Model}{A:Around}{E:Value->Shared->Prop}{i:Nat}{x:Str}{v:V}{u:Value}{Q:Unit->Shared->Prop}(I:Inv X pins σ H s)(hN:X.N.Nodup)(hi:X.N[i]?=some x)(hx:Loc X.env.scope x)(r:RelV v u)
  (h:∀ s',Inv X pins (σ.set i (some v)) H s'->(∃ a,Heap.SameBut a s.heap s'.heap/\(a=X.env.locals\/X.env.cells.lookup x=some a))->Q () s') (hf:X.fn x=true\/X.env.scope.names.lookup x=some .local:=by first | exact .inl rfl | exact .inr rfl | assumption):wpAny M A (storeName X.env x u) Q E s:=by
 obtain ⟨m,hn,hl⟩:=id I.loc;have hcls:(X.env.scope.kind==.class||(X.env.scope.kind==.module&&X.env.locals != X.env.globals))=false:=by rw [I.ok.kind];rfl
 have hiσ:i<σ.length:=by rw [I.len];exact (Y04.mp hi).1
 have cne:=I.cne;have tracked:∀ {a:Addr}{h':Heap},(∃ o,s.heap.get? a=some o/\H a=none)->Heap.SameBut a s.heap h'->HOk X.prog X.w H h':=λ {a h'} ha hs b ob e=>by
  obtain ⟨_,_,hfree⟩:=ha;refine (I.hok b ob e).stay (λ c w' hc q=>(hs.2 c ?_).trans q) (λ _ q=>q) λ _ _ q=>q
  rintro rfl
  rcases hc with rfl | hc
  ·rw [hfree] at e;cases e
  ·rw [hfree] at hc;cases hc
 rcases hx with hk | hk
 ·refine wpAny_storeName_local hk hn (λ h' hn' hs=>?_) hcls;obtain ⟨oL,_,_,hoL,_⟩:=id hn;refine h _ ⟨I.ok,I.os,I.bare,⟨λ b o e n hb hx=>?_,λ b o e n hb hx=>?_,I.base.free,λ b o e hx=>?_,I.base.tups,I.base.frzs,I.base.tbls⟩,⟨_,hn',λ j y v' e1 e2 e3=>?_⟩,λ y c e=>?_,I.free,I.freeC,λ p hp=>?_,tracked ⟨oL,hoL,I.free⟩ hs,by simpa using I.len⟩ ⟨_,hs,.inl rfl⟩
  ·exact (hs.2 b (Y0r (Y0l (Y0h e) I.ok.above))).trans (I.base.keep b o e n hb hx)
  ·obtain ⟨sl,e1⟩:=I.base.slot b o e n hb hx;exact ⟨sl,(hs.2 b (Y0r (Y0l (Y0h e) I.ok.above))).trans e1⟩
  ·obtain ⟨o',e1⟩:=I.base.there b o e hx;exact ⟨o',(hs.2 b (Y0r (Y0l (Y0h e) I.ok.above))).trans e1⟩
  ·by_cases hj:j=i
   ·subst hj;rw [hi] at e1;cases e1;rw [Y10 hiσ] at e2;cases e2;exact ⟨u,r,.inl ⟨hk,by simp⟩⟩
   ·rw [Y0o (Ne.symm hj)] at e2;obtain ⟨u',r',q⟩:=hl j y v' e1 e2 e3;refine ⟨u',r',?_⟩;rcases q with ⟨k,e⟩ | ⟨k,c,e,z⟩
    ·refine .inl ⟨k,?_⟩
     have:y≠x:=λ e=>hj (WR hN e1 (e▸hi))
     simp [this,e]
    ·exact .inr ⟨k,c,e,z.sameBut hs (cne y c e)⟩
  ·obtain ⟨w',z⟩:=I.cell y c e;exact ⟨w',z.sameBut hs (cne y c e)⟩
  ·obtain ⟨e,n,ne,nf,d⟩:=I.pin p hp;exact ⟨(hs.2 p.1 ne).trans e,n,ne,nf,d⟩
 ·have hfn:X.fn x=true:=by
   rcases hf with z | z
   ·exact z
   ·rw [z] at hk;cases hk
  obtain ⟨c,hc⟩:=I.ok.has x (.inl hk);obtain ⟨w',z⟩:=I.cell x c hc;refine wpAny_storeName_cell I.ok.kind hk hc z (λ h' hc' hs=>?_);obtain ⟨oc,hoc,hocd⟩:=id z;refine h { s with heap:=h' } ⟨I.ok,I.os,I.bare,⟨λ b o e n hb hx=>?_,λ b o e n hb hx=>?_,I.base.free,λ b o e hx=>?_,I.base.tups,I.base.frzs,I.base.tbls⟩,⟨m,hn.sameBut hs (Ne.symm (cne x c hc)),λ j y v' e1 e2 e3=>?_⟩,λ y c' e=>?_,I.free,I.freeC,λ p hp=>?_,tracked ⟨oc,hoc,I.freeC x c hc⟩ hs,by simpa using I.len⟩ ⟨c,hs,.inr hc⟩
  ·exact (hs.2 b (Y0r (Y0l (Y0h e) (I.ok.cab x c hfn hc)))).trans (I.base.keep b o e n hb hx)
  ·obtain ⟨sl,e1⟩:=I.base.slot b o e n hb hx;exact ⟨sl,(hs.2 b (Y0r (Y0l (Y0h e) (I.ok.cab x c hfn hc)))).trans e1⟩
  ·obtain ⟨o',e1⟩:=I.base.there b o e hx;exact ⟨o',(hs.2 b (Y0r (Y0l (Y0h e) (I.ok.cab x c hfn hc)))).trans e1⟩
  ·by_cases hj:j=i
   ·subst hj;rw [hi] at e1;cases e1;rw [Y10 hiσ] at e2;cases e2;exact ⟨u,r,.inr ⟨.inl hk,c,hc,hc'⟩⟩
   ·rw [Y0o (Ne.symm hj)] at e2;obtain ⟨u',r',q⟩:=hl j y v' e1 e2 e3;refine ⟨u',r',?_⟩;rcases q with q | ⟨k,c',e,z'⟩
    ·exact .inl q
    ·refine .inr ⟨k,c',e,z'.sameBut hs ?_⟩
     rintro rfl
     exact hj (WR hN e1 (I.ok.inj _ _ _ e hc▸hi))
  ·by_cases hcc:c'=c
   ·subst hcc;exact ⟨_,hc'⟩
   ·obtain ⟨w2,z2⟩:=I.cell y c' e;exact ⟨w2,z2.sameBut hs hcc⟩
  ·obtain ⟨e,n,ne,nf,d⟩:=I.pin p hp;refine ⟨(hs.2 p.1 ?_).trans e,n,ne,nf,d⟩;intro q;rw [q,hoc] at e;have q':oc=p.2:=Option.some.inj e;exact d w' (by rw [<- q'];exact hocd)
theorem Z8 {M:Model}{A:Around}{E:Value->Shared->Prop}{i:Nat}{x:Str}{v:V}{u:Value}{Q:Unit->Shared->Prop}(I:Inv X pins σ H s)(hN:X.N.Nodup)(hi:X.N[i]?=some x)(hx:Loc X.env.scope x)(r:RelV v u)
  (h:∀ s',Inv X pins (σ.set i (some v)) H s'->Q () s') (hf:X.fn x=true\/X.env.scope.names.lookup x=some .local:=by first | exact .inl rfl | exact .inr rfl | assumption):wpAny M A (storeName X.env x u) Q E s :=
 Jo I hN hi hx r (λ s' I' _=>h s' I') hf
theorem Inv.call' {s':Shared}{ch:List Addr}(I:Inv X pins σ H s)(ho:s'.os=s.os)(u:Un (frs X.stack) ch H H' s.heap s'.heap)(hok:HOk X.prog X.w H' s'.heap)(hg:AllBare s'.gens)
  (hch:∀ b∈ch,(b∈X.ex\/X.s₀.heap.objs.size<=b)/\b≠X.env.locals/\(∀ x c,X.env.cells.lookup x=some c->c≠b)/\∀ p∈X.pn++pins,p.1≠b):Inv X pins σ H' s':=by
 obtain ⟨h',g',d',t',o'⟩:=s';have e:o'=s.os:=ho;subst e;exact I.call (g':=g') (t':=t') (d':=d') u hok hg hch
end
abbrev XK:=Value->Option Addr->Hp->Prop
abbrev St:=List (Option V)
abbrev VK:=V->Hp->Prop
abbrev TE:=St->Hp->VK->Prop
abbrev TT:=St->Hp->(Bool->Hp->Prop)->Prop
abbrev TA:=St->Hp->(List V->Hp->Prop)->Prop
structure Ends where
 nx:St->Hp->Prop
 rt:VK
 bk:St->Hp->Prop:=λ _ _=>False
 ct:St->Hp->Prop:=λ _ _=>False
abbrev TS:=Ends->St->Hp->Prop
def EP (X:Cx)(pins:List (Addr×Obj))(σ:St)(Q:VK)(u:Value)(s':Shared):Prop:=∃ v H',Inv X pins σ H' s'/\RelV v u/\Q v H'
def TP (X:Cx)(pins:List (Addr×Obj))(σ:St)(Q:Bool->Hp->Prop)(b:Bool)(s':Shared):Prop:=∃ H',Inv X pins σ H' s'/\Q b H'
def AP (X:Cx)(pins:List (Addr×Obj))(σ:St)(Q:List V->Hp->Prop)(us:List Value)(s':Shared):Prop:=∃ vs H',Inv X pins σ H' s'/\Vals vs us/\Q vs H'
def SP (X:Cx)(pins:List (Addr×Obj))(D:Ends)(f:Flow)(s':Shared):Prop :=
 match f with
 | .next=>∃ σ' H',Inv X pins σ' H' s'/\D.nx σ' H'
 | .brk=>∃ σ' H',Inv X pins σ' H' s'/\D.bk σ' H'
 | .cont=>∃ σ' H',Inv X pins σ' H' s'/\D.ct σ' H'
 | .ret u=>∃ v σ' H',Inv X pins σ' H' s'/\RelV v u/\D.rt v H'
def PE (X:Cx)(e:Expr)(t:TE):Prop :=
 ∀ (pins:List (Addr×Obj)) (s:Shared) (σ:St) (H:Hp) (Q:VK),Inv X pins σ H s->t σ H Q->wpAny (model X.prog X.w) X.A (eval e X.env) (EP X pins σ Q) X.xe s
def PT (X:Cx)(e:Expr)(t:TT):Prop :=
 ∀ (pins:List (Addr×Obj)) (s:Shared) (σ:St) (H:Hp) (Q:Bool->Hp->Prop),Inv X pins σ H s->t σ H Q->wpAny (model X.prog X.w) X.A (isTrue e X.env (eval e X.env)) (TP X pins σ Q) X.xe s
def PW (X:Cx)(e:Expr)(t:TT):Prop :=
 ∀ (whole:Sem Value) (pins:List (Addr×Obj)) (s:Shared) (σ:St) (H:Hp) (Q:Bool->Hp->Prop),Inv X pins σ H s->t σ H Q->wpAny (model X.prog X.w) X.A (isTrue e X.env whole) (TP X pins σ Q) X.xe s
theorem PW.pt {X:Cx}{e:Expr}{t:TT}(h:PW X e t):PT X e t:=h _
def PA (X:Cx)(es:List Expr)(t:TA):Prop :=
 ∀ (pos:Pos) (pins:List (Addr×Obj)) (s:Shared) (σ:St) (H:Hp) (Q:List V->Hp->Prop),Inv X pins σ H s->t σ H Q->wpAny (model X.prog X.w) X.A (spliced (backTo pos (starEach es X.env))) (AP X pins σ Q) X.xe s
def PS (X:Cx)(st:Stmt)(t:TS):Prop :=
 ∀ (pins:List (Addr×Obj)) (s:Shared) (σ:St) (H:Hp) (D:Ends),Inv X pins σ H s->t D σ H->wpAny (model X.prog X.w) X.A (exec st X.env) (SP X pins D) X.xe s
def PSs (X:Cx)(st:List Stmt)(t:TS):Prop :=
 ∀ (pins:List (Addr×Obj)) (s:Shared) (σ:St) (H:Hp) (D:Ends),Inv X pins σ H s->t D σ H->wpAny (model X.prog X.w) X.A (execs st X.env) (SP X pins D) X.xe s
theorem thn {α:Type}{t:Sem α}{Q Q':α->Shared->Prop}{M:Model}{A:Around}{E:Value->Shared->Prop}{s:Shared}(h:wpAny M A t Q E s)(hQ:∀ a s,Q a s->Q' a s):wpAny M A t Q' E s:=wpAny_mono h hQ λ _ _ x=>x
section
variable {X:Cx}
theorem bin {a b:Expr}{ta tb:TE}(ha:PE X a ta)(hb:PE X b tb){pins:List (Addr×Obj)}{s:Shared}{σ:St}{H:Hp}{R:V->V->Hp->Prop}(I:Inv X pins σ H s)(h:ta σ H λ x H1=>tb σ H1 λ y H2=>R x y H2)
  {α:Type}{Q:α->Shared->Prop}{f:Value->Value->Sem α}
  (hf:∀ v u s2 x y H2,Inv X pins σ H2 s2->RelV x v->RelV y u->R x y H2->wpAny (model X.prog X.w) X.A (f v u) Q X.xe s2) :
  wpAny (model X.prog X.w) X.A (eval a X.env) (λ v s₁=>wpAny (model X.prog X.w) X.A (eval b X.env) (λ u s₂=>wpAny (model X.prog X.w) X.A (f v u) Q X.xe s₂) X.xe s₁) X.xe s:=by
 refine thn (ha pins s σ H _ I h) λ v s1 ⟨x,H1,I1,r1,q1⟩=>?_;refine thn (hb pins s1 σ H1 _ I1 q1) λ u s2 ⟨y,H2,I2,r2,q2⟩=>?_;exact hf v u s2 x y H2 I2 r1 r2 q2
def z56 (i:Nat):TE:=λ σ H Q=>∃ v,σ[i]?=some (some v)/\Q v H
def tC (v:V):TE:=λ _ H Q=>Q v H
theorem VS {i:Nat}{x:Str}{pos:Pos} (hN:X.N[i]?=some x) (hv:Vis X.env.scope x) (hd:(x==("__debug__":Str))=false:=by decide) (hcd:(x==("__classdict__":Str))=false:=by decide):PE X (.Name x pos) (z56 i):=by
 intro pins s σ H Q I h;obtain ⟨v,e,h⟩:=h;obtain ⟨m,hn,hl⟩:=I.loc;obtain ⟨u,r,l⟩:=hl i x v hN e hv;have fin:EP X pins σ Q u s:=⟨v,H,I,r,h⟩;rcases l with ⟨hk,hm⟩ | ⟨hk,c,hc,hcell⟩
 ·exact wpAny_Name (wpAny_loadName_local I.ok.kind hk hn hm fin) hd
 ·rcases hk with hk | hk
  ·exact wpAny_Name (wpAny_loadName_cell I.ok.kind hk hc hcell fin) hd
  ·exact wpAny_Name (wpAny_loadName_free I.ok.kind hk hc hcell fin hcd) hd
theorem z26 {i j pos}:PE X (.Constant (.int i) j pos) (tC (.int i)):=λ _ _ _ H _ I h=>wpAny_Constant_int ⟨.int i,H,I.tok _,⟨_,rfl⟩,h⟩
theorem z57 {b j pos}:PE X (.Constant (.bool b) j pos) (tC (.bl b)):=λ _ _ _ H _ I h=>Constant_bool ⟨.bl b,H,I,rfl,h⟩
theorem z27 {j pos}:PE X (.Constant .none j pos) (tC .non):=λ _ _ _ H _ I h=>Constant_none ⟨.non,H,I,rfl,h⟩
theorem VT {x j pos}:PE X (.Constant (.str x) j pos) (tC (.str x)):=λ _ _ _ H _ I h=>Calls.Constant_str ⟨.str x,H,I.tok _,⟨_,rfl⟩,h⟩
def Gl (X:Cx)(x:Str):Prop:=X.env.kindOf x=some .globalImplicit
theorem W3 {E:Value->Shared->Prop}{pins:List (Addr×Obj)}{s:Shared}{σ:St}{H:Hp}{x:Str}{u:Value}{pos:Pos}{Q:Value->Shared->Prop}(I:Inv X pins σ H s)(hg:Gl X x)(hm:X.mg x=some u)(h:Q u s)
  (hd:(x==("__debug__":Str))=false:=by decide):wpAny (model X.prog X.w) X.A (eval (.Name x pos) X.env) Q E s :=
 Calls.Name_function_global I.ok.kind hg (Calls.loadGlobal_global (by rw [I.ok.glob];exact I.mod.glob.keeps I.bk) hm h) hd
theorem wD {E:Value->Shared->Prop}{pins:List (Addr×Obj)}{s:Shared}{σ:St}{H:Hp}{x:Str}{u:Value}{pos:Pos}{Q:Value->Shared->Prop}(I:Inv X pins σ H s)(hg:Gl X x)(hm:X.mg x=none)(hv:bootBuiltins x=some u)(h:Q u s)
  (hn:x≠"__name__":=by decide) (hd:(x==("__debug__":Str))=false:=by decide):wpAny (model X.prog X.w) X.A (eval (.Name x pos) X.env) Q E s:=by
 obtain ⟨mb,h1,h2⟩:=I.mod.blt;exact Calls.Name_function_global I.ok.kind hg (Calls.loadGlobal_builtin (by rw [I.ok.glob];exact I.mod.glob.keeps I.bk) hm (by rw [I.ok.blt];exact h1.keeps I.bk) ((h2 x hn).trans hv) h) hd
theorem jH {x:Str}{v:V}{u:Value}{pos:Pos} (hg:Gl X x) (hm:X.mg x=some u) (r:RelV v u) (hd:(x==("__debug__":Str))=false:=by decide):PE X (.Name x pos) (tC v) :=
 λ _ _ _ H _ I h=>W3 I hg hm ⟨v,H,I,r,h⟩ hd
theorem B3 {x:Str}{v:V}{u:Value}{pos:Pos} (hg:Gl X x) (hm:X.mg x=none) (hv:bootBuiltins x=some u) (r:RelV v u) (hn:x≠"__name__":=by decide) (hd:(x==("__debug__":Str))=false:=by decide):PE X (.Name x pos) (tC v) :=
 λ _ _ _ H _ I h=>wD I hg hm hv ⟨v,H,I,r,h⟩ hn hd
variable {a b:Expr}{ta tb:TE}{pos:Pos}
def tB (t:TE):TT:=λ σ H Q=>t σ H λ x H1=>∃ c,x=.bl c/\Q c H1
theorem z28 {e:Expr}{t:TE}(h:PE X e t)(he:∀ whole,isTrue e X.env whole=(do let v <- whole;standAt e.pos;holding [v] (truthy v)):=by intro _;rfl):PT X e (tB t):=by
 intro pins s σ H Q I hw;refine isTrue_plain (thn (h pins s σ H _ I hw) λ v s1 ⟨x,H1,I1,r1,q1⟩=>?_) (he _);obtain ⟨d,rfl,q⟩:=q1;cases r1;exact wpAny_truthy_bool ⟨H1,I1,q⟩
variable {tA tB':TT}{zL:List Expr}
def z74 (t u:TT):TT:=λ σ H Q=>t σ H λ c H1=>if c=true then u σ H1 Q else Q false H1
def tOr (t u:TT):TT:=λ σ H Q=>t σ H λ c H1=>if c=true then Q true H1 else u σ H1 Q
def z75 (t:TT):TT:=λ σ H Q=>t σ H λ c H1=>Q (!c) H1
theorem B4 (ha:PT X a tA):PW X (.BoolOp .And [a] pos) tA:=by
 intro wh pins s σ H Q I h;refine isTrue_and (thn (ha pins s σ H Q I h) λ c s1 e=>?_);cases c with
 | true=>exact isTrue_and_nil e
 | false=>exact e
theorem z29 (ha:PT X a tA):PW X (.BoolOp .Or [a] pos) tA:=by
 intro wh pins s σ H Q I h;refine isTrue_or (thn (ha pins s σ H Q I h) λ c s1 e=>?_);cases c with
 | false=>exact isTrue_or_nil e
 | true=>exact e
theorem VU (ha:PT X a tA)(hb:PW X (.BoolOp .And (b::zL) pos) tB'):PW X (.BoolOp .And (a::b::zL) pos) (z74 tA tB'):=by
 intro wh pins s σ H Q I h;refine isTrue_and (thn (ha pins s σ H _ I h) λ c s1 ⟨H1,I1,q1⟩=>?_);cases c with
 | true=>exact hb wh pins s1 σ H1 Q I1 q1
 | false=>exact ⟨H1,I1,q1⟩
theorem z19 (ha:PT X a tA)(hb:PW X (.BoolOp .Or (b::zL) pos) tB'):PW X (.BoolOp .Or (a::b::zL) pos) (tOr tA tB'):=by
 intro wh pins s σ H Q I h;refine isTrue_or (thn (ha pins s σ H _ I h) λ c s1 ⟨H1,I1,q1⟩=>?_);cases c with
 | true=>exact ⟨H1,I1,q1⟩
 | false=>exact hb wh pins s1 σ H1 Q I1 q1
theorem z2a (ha:PT X a tA):PT X (.UnaryOp .Not a pos) (z75 tA):=by
 intro pins s σ H Q I h;exact isTrue_not (ha pins s σ H (λ c H1=>Q (!c) H1) I h)
def z58 (ta tb:TE):TE:=λ σ H Q=>ta σ H λ x H1=>∃ c,x=.bl c/\if c=true then tb σ H1 Q else Q (.bl false) H1
def z76 (ta tb:TE):TE:=λ σ H Q=>ta σ H λ x H1=>∃ c,x=.bl c/\if c=true then Q (.bl true) H1 else tb σ H1 Q
def z59 (ta:TE):TE:=λ σ H Q=>ta σ H λ x H1=>∃ c,x=.bl c/\Q (.bl (!c)) H1
theorem VW {op}{t:TE}(h:PE X a t):PE X (.BoolOp op [a] pos) t:=λ pins s σ H Q I hw=>BoolOp_one (h pins s σ H Q I hw)
theorem VX (ha:PE X a ta)(hb:PE X (.BoolOp .And (b::zL) pos) tb):PE X (.BoolOp .And (a::b::zL) pos) (z58 ta tb):=by
 intro pins s σ H Q I h;refine BoolOp_and (thn (ha pins s σ H _ I h) λ v s1 ⟨x,H1,I1,r1,q1⟩=>?_);obtain ⟨c,rfl,q1⟩:=q1;cases r1;refine wpAny_truthy_bool ?_;cases c with
 | true=>exact hb pins s1 σ H1 Q I1 q1
 | false=>exact ⟨.bl false,H1,I1,rfl,q1⟩
theorem z1a (ha:PE X a ta)(hb:PE X (.BoolOp .Or (b::zL) pos) tb):PE X (.BoolOp .Or (a::b::zL) pos) (z76 ta tb):=by
 intro pins s σ H Q I h;refine BoolOp_or (thn (ha pins s σ H _ I h) λ v s1 ⟨x,H1,I1,r1,q1⟩=>?_);obtain ⟨c,rfl,q1⟩:=q1;cases r1;refine wpAny_truthy_bool ?_;cases c with
 | false=>exact hb pins s1 σ H1 Q I1 q1
 | true=>exact ⟨.bl true,H1,I1,rfl,q1⟩
theorem z2b (ha:PE X a ta):PE X (.UnaryOp .Not a pos) (z59 ta):=by
 intro pins s σ H Q I h;refine UnaryOp_ (thn (ha pins s σ H _ I h) λ v s1 ⟨x,H1,I1,r1,q1⟩=>?_);obtain ⟨c,rfl,q1⟩:=q1;cases r1;exact not_of (wpAny_truthy_bool ⟨.bl (!c),H1,I1,rfl,q1⟩)
def tIf (t:TT)(ta tb:TE):TE:=λ σ H Q=>t σ H λ c H1=>if c=true then ta σ H1 Q else tb σ H1 Q
theorem VY {c:Expr}(hc:PT X c tA)(ha:PE X a ta)(hb:PE X b tb):PE X (.IfExp c a b pos) (tIf tA ta tb):=by
 intro pins s σ H Q I h;refine wpAny_IfExp (thn (hc pins s σ H _ I h) λ d s1 ⟨H1,I1,q1⟩=>?_);cases d with
 | true=>exact ha pins s1 σ H1 Q I1 q1
 | false=>exact hb pins s1 σ H1 Q I1 q1
end
def SqL (K:Y00)(H:Hp)(a:Addr)(xs:List V):Prop :=
 Rd H a (.lst xs) \/
  ∃ (o:Obj) (its:Array Value) (n:Nat),K.lookup a=some o/\o.cls=.type "list"/\o.dict=none/\o.data=.seq its n/\its.size<=sizeLine/\Vals xs its.toList
def SqT (K:Y00)(H:Hp)(a:Addr)(xs:List V):Prop :=
 Rd H a (.tup xs) \/
  ∃ (o:Obj) (its:Array Value) (n:Nat),K.lookup a=some o/\o.cls=.type "tuple"/\o.data=.seq its n/\its.size<=sizeLine/\Vals xs its.toList
def z77:Value->Option V
 | .none=>some .non
 | .bool b=>some (.bl b)
 | .int i _=>some (.int i)
 | .str x _=>some (.str x)
 | .bytes b _=>some (.byt b)
 | .float b _=>some (.flt b)
 | .ref a=>some (.ref a)
 | .type n=>some (.ty n)
 | _=>none
theorem RelV.abs {x:V}{u:Value}(r:RelV x u):z77 u=some x:=by
 cases x with
 | non=>cases r;rfl
 | bl _=>cases r;rfl
 | int _=>obtain ⟨t,rfl⟩:=r;rfl
 | str _=>obtain ⟨t,rfl⟩:=r;rfl
 | byt _=>obtain ⟨t,rfl⟩:=r;rfl
 | flt _=>obtain ⟨t,rfl⟩:=r;rfl
 | ref _=>cases r;rfl
 | ty _=>cases r;rfl
theorem RelV.inj {x y:V}{u:Value}(r:RelV x u)(q:RelV y u):x=y:=Option.some.inj (r.abs.symm.trans q.abs)
theorem Vals.inj:∀ {xs ys:List V}{us:List Value},Vals xs us->Vals ys us->xs=ys
 | _,_,_,.nil,.nil=>rfl
 | _,_,_,.cons r t,.cons r' t'=>by rw [r.inj r',Vals.inj t t']
section
variable {X:Cx}{pins:List (Addr×Obj)}{σ:St}{H:Hp}{s:Shared}{a:Addr}{xs ys:List V}
theorem SqL.of {K:Y00}(h:H a=some (.lst xs)):SqL K H a xs:=.inl (.inl h)
theorem SqT.of {K:Y00}(h:H a=some (.tup xs)):SqT K H a xs:=.inl (.inl h)
theorem Inv.list (I:Inv X pins σ H s)(h:SqL X.K H a xs):∃ its:List Value,Vals xs its/\PlainL s.heap a its.toArray/\xs.length<=sizeLine:=by
 rcases h with h | ⟨o,its,n,hk,hc,hd,hs,hz,r⟩
 ·obtain ⟨z,its,n,r,e⟩:=h.ok I.hok;exact ⟨its,r,⟨_,n,e,rfl,rfl,rfl⟩,z⟩
 ·refine ⟨its.toList,r,⟨o,n,I.kIn a o hk,hc,hd,by simpa using hs⟩,?_⟩;have e:=r.length;simp only [Y16] at e;omega
theorem Inv.tuple (I:Inv X pins σ H s)(h:SqT X.K H a xs):∃ its:List Value,Vals xs its/\IsTup s.heap a its.toArray/\xs.length<=sizeLine:=by
 rcases h with h | ⟨o,its,n,hk,hc,hs,hz,r⟩
 ·obtain ⟨z,its,r,p⟩:=h.ok I.hok;exact ⟨its,r,p,z⟩
 ·refine ⟨its.toList,r,⟨o,I.kIn a o hk,hc,n,by simpa using hs⟩,?_⟩;have e:=r.length;simp only [Y16] at e;omega
theorem Inv.list_inj (I:Inv X pins σ H s)(h:SqL X.K H a xs)(h':SqL X.K H a ys):xs=ys:=by
 obtain ⟨its,r,⟨o,n,e,_,_,d⟩,_⟩:=I.list h;obtain ⟨its',r',⟨o',n',e',_,_,d'⟩,_⟩:=I.list h';rw [e] at e';cases e';rw [d] at d';injection d' with d1 _
 have:its=its':=by simpa using congrArg Array.toList d1
 subst this;exact r.inj r'
theorem Inv.tuple_inj (I:Inv X pins σ H s)(h:SqT X.K H a xs)(h':SqT X.K H a ys):xs=ys:=by
 obtain ⟨its,r,⟨o,e,_,n,d⟩,_⟩:=I.tuple h;obtain ⟨its',r',⟨o',e',_,n',d'⟩,_⟩:=I.tuple h';rw [e] at e';cases e';rw [d] at d';injection d' with d1 _
 have:its=its':=by simpa using congrArg Array.toList d1
 subst this;exact r.inj r'
end
abbrev Cx.wish (X:Cx)(E:Value->Shared->Prop):Cx:={ X with xe:=E }
abbrev Cx.nox (X:Cx):Cx:=X.wish λ _ _=>False
theorem Cx.Ok.wish {X:Cx}(ok:X.Ok)(E:Value->Shared->Prop):(X.wish E).Ok :=
 ⟨ok.mod,ok.kind,ok.glob,ok.blt,ok.above,ok.inj,ok.has,ok.cab,ok.hd,ok.frames,ok.stk,ok.exf,ok.bs,ok.bsz,ok.noex,ok.exfs,ok.funs,ok.frf⟩
theorem Cx.Ok.unwish {X:Cx}{E:Value->Shared->Prop}(ok:(X.wish E).Ok):X.Ok :=
 ⟨ok.mod,ok.kind,ok.glob,ok.blt,ok.above,ok.inj,ok.has,ok.cab,ok.hd,ok.frames,ok.stk,ok.exf,ok.bs,ok.bsz,ok.noex,ok.exfs,ok.funs,ok.frf⟩
section
variable {X:Cx}{pins:List (Addr×Obj)}{σ:St}{H:Hp}{s:Shared}{E:Value->Shared->Prop}
theorem Inv.wish (I:Inv X pins σ H s)(E:Value->Shared->Prop):Inv (X.wish E) pins σ H s:=⟨I.ok.wish E,I.os,I.bare,I.base,I.loc,I.cell,I.free,I.freeC,I.pin,I.hok,I.len⟩
theorem Inv.unwish (I:Inv (X.wish E) pins σ H s):Inv X pins σ H s:=⟨I.ok.unwish,I.os,I.bare,I.base,I.loc,I.cell,I.free,I.freeC,I.pin,I.hok,I.len⟩
theorem SP.unwish {D:Ends}{f:Flow}{s':Shared}(h:SP (X.wish E) pins D f s'):SP X pins D f s':=by
 cases f with
 | next=>obtain ⟨σ',H',I,q⟩:=h;exact ⟨σ',H',I.unwish,q⟩
 | brk=>obtain ⟨σ',H',I,q⟩:=h;exact ⟨σ',H',I.unwish,q⟩
 | cont=>obtain ⟨σ',H',I,q⟩:=h;exact ⟨σ',H',I.unwish,q⟩
 | ret u=>obtain ⟨v,σ',H',I,r,q⟩:=h;exact ⟨v,σ',H',I.unwish,r,q⟩
theorem PE.nox {e:Expr}{t:TE}(h:PE X.nox e t):PE X e t:=λ pins s σ H Q I hw =>
 wpAny_mono (h pins s σ H Q (I.wish _) hw) (λ _ _ ⟨v,H',I',r,q⟩=>⟨v,H',I'.unwish,r,q⟩) λ _ _ z=>False.elim z
theorem PT.nox {e:Expr}{t:TT}(h:PT X.nox e t):PT X e t:=λ pins s σ H Q I hw =>
 wpAny_mono (h pins s σ H Q (I.wish _) hw) (λ _ _ ⟨H',I',q⟩=>⟨H',I'.unwish,q⟩) λ _ _ z=>False.elim z
theorem PSs.nox {st:List Stmt}{t:TS}(h:PSs X.nox st t):PSs X st t:=λ pins s σ H D I hw =>
 wpAny_mono (h pins s σ H D (I.wish _) hw) (λ _ _ q=>q.unwish) λ _ _ z=>False.elim z
end
section
variable {X:Cx}{st:Stmt}{zL:List Stmt}{t u:TS}{e:Expr}{te:TE}{pos:Pos}
def z5a:TS:=λ D σ H=>D.nx σ H
def z5b (t u:TS):TS:=λ D σ H=>t { D with nx:=u D } σ H
theorem B5:PSs X [] z5a:=λ _ _ σ H _ I h=>wpAny_execs_nil ⟨σ,H,I,h⟩
theorem VZ (h1:PS X st t)(h2:PSs X zL u):PSs X (st::zL) (z5b t u):=by
 intro pins s σ H D I h;refine wpAny_execs_cons (thn (h1 pins s σ H { D with nx:=u D } I h) λ f s1 q=>?_);cases f with
 | next =>
  obtain ⟨σ',H',I',q⟩:=q;exact h2 pins s1 σ' H' D I' q
 | ret v=>exact q
 | brk=>exact q
 | cont=>exact q
theorem Inv.quiet {pins:List (Addr×Obj)}{σ:St}{H:Hp}{s:Shared}(I:Inv X pins σ H s):interactive X.env=false:=by simp [interactive,I.ok.kind]
def z5c (te:TE):TS:=λ D σ H=>te σ H λ _ H1=>D.nx σ H1
theorem B6 (he:PE X e te)(hs:swapsWith e none pos.line X.env=pure false:=by rfl):PS X (.Expr e pos) (z5c te):=by
 intro pins s σ H D I h;exact wpAny_Expr_any (thn (he pins s σ H _ I h) λ v s1 ⟨x,H1,I1,r1,q1⟩=>⟨σ,H1,I1,q1⟩) I.quiet hs
def z78 (te:TE):TS:=λ D σ H=>te σ H D.rt
theorem z2c (he:PE X e te):PS X (.Return (some e) pos) (z78 te):=by
 intro pins s σ H D I h;exact wpAny_Return_some (thn (he pins s σ H _ I h) λ v s1 ⟨x,H1,I1,r1,q1⟩=>⟨x,σ,H1,I1,r1,q1⟩)
def z79 (c:TT)(t u:TS):TS:=λ D σ H=>c σ H λ b H1=>if b=true then t D σ H1 else u D σ H1
theorem z5d {c:Expr}{a b:List Stmt}{tc:TT}(hc:PT X c tc)(ha:PSs X a t)(hb:PSs X b u):PS X (.If c a b pos) (z79 tc t u):=by
 intro pins s σ H D I h;refine wpAny_If (thn (hc pins s σ H _ I h) λ d s1 ⟨H1,I1,q1⟩=>?_);cases d with
 | true=>exact ha pins s1 σ H1 D I1 q1
 | false=>exact hb pins s1 σ H1 D I1 q1
end
abbrev TG:=V->St->Hp->(St->Hp->Prop)->Prop
abbrev TGs:=List V->St->Hp->(St->Hp->Prop)->Prop
def PG (X:Cx)(target:Expr)(t:TG):Prop :=
 ∀ (pins:List (Addr×Obj)) (s:Shared) (σ:St) (H:Hp) (v:V) (u:Value) (Q:St->Hp->Prop),Inv X pins σ H s->RelV v u->t v σ H Q ->
  wpAny (model X.prog X.w) X.A (assign target X.env u) (λ _ s'=>∃ σ' H',Inv X pins σ' H' s'/\Q σ' H') X.xe s
def PGs (X:Cx)(ts:List Expr)(t:TGs):Prop :=
 ∀ (pins:List (Addr×Obj)) (s:Shared) (σ:St) (H:Hp) (vs:List V) (us:List Value) (Q:St->Hp->Prop),Inv X pins σ H s->Vals vs us->t vs σ H Q ->
  wpAny (model X.prog X.w) X.A (assignInOrder ((assignEach ts X.env).map (·.2)) us) (λ _ s'=>∃ σ' H',Inv X pins σ' H' s'/\Q σ' H') X.xe s
abbrev B7:=V->V->V->Hp->(Hp->Prop)->Prop
def z2d (X:Cx)(t:B7):Prop :=
 ∀ (pins:List (Addr×Obj)) (s:Shared) (σ:St) (H:Hp) (o i v:V) (ov iv u:Value) (Q:Hp->Prop),Inv X pins σ H s->RelV o ov->RelV i iv->RelV v u->t o i v H Q ->
  wpAny (model X.prog X.w) X.A (setItem ov iv u) (λ _ s'=>∃ H',Inv X pins σ H' s'/\Q H') X.xe s
section
variable {X:Cx}{pos:Pos}
def WS (i:Nat):TG:=λ v σ H Q=>Q (σ.set i (some v)) H
theorem YZ {i:Nat}{x:Str}(hN:X.N.Nodup)(hi:X.N[i]?=some x)(hx:Loc X.env.scope x)(hf:X.fn x=true\/X.env.scope.names.lookup x=some .local:=by first | exact .inl rfl | exact .inr rfl | assumption):PG X (.Name x pos) (WS i):=by
 intro pins s σ H v u Q I r h;exact wpAny_assign_Name (Z8 I hN hi hx r (λ s' I'=>⟨_,H,I',h⟩) hf)
def z5e:TGs:=λ vs σ H Q=>vs=[]/\Q σ H
def z1b (t:TG)(u:TGs):TGs:=λ vs σ H Q=>∃ v r,vs=v::r/\t v σ H λ σ' H'=>u r σ' H' Q
theorem B8:PGs X [] z5e:=by
 intro pins s σ H vs us Q I r h;obtain ⟨e,h⟩:=h;subst e;cases r;exact assignInOrder_nil ⟨σ,H,I,h⟩
theorem G0 {e:Expr}{es:List Expr}{t:TG}{u:TGs}(h1:PG X e t)(h2:PGs X es u)
  (hs:(assignEach (e::es) X.env).map (·.2)=assign e X.env::(assignEach es X.env).map (·.2):=by rfl):PGs X (e::es) (z1b t u):=by
 intro pins s σ H vs us Q I r h;obtain ⟨v,vr,e1,h⟩:=h;subst e1;cases r with
 | cons r rr =>
  rw [hs];refine assignInOrder_cons (thn (h1 pins s σ H _ _ _ I r h) λ _ s1 ⟨σ1,H1,I1,q1⟩=>?_);exact h2 pins s1 σ1 H1 _ _ Q I1 rr q1
def z7a (K:Y00)(n:Nat)(t:TGs):TG:=λ v σ H Q=>∃ a xs,v=.ref a/\SqT K H a xs/\xs.length=n/\t xs σ H Q
theorem z2e {es:List Expr}{k:Nat}{t:TGs}{n:Nat}(hc:X.calm=true)(h:PGs X es t)
  (hn:(assignEach es X.env).length=n:=by rfl) (hst:(assignEach es X.env).findIdx? (·.1)=none:=by rfl):PG X (.Tuple es k pos) (z7a X.K n t):=by
 intro pins s σ H v u Q I r hw;obtain ⟨a,xs,e1,hq,hl,hw⟩:=hw;subst e1;cases r;obtain ⟨its,rv,ht,hz⟩:=I.tuple hq;refine assign_Tuple_tuple (I.ok.hd hc) ht (by simp [hn,<- hl,rv.length]) hst λ h' hx=>?_;have I1:Inv X pins σ H { s with heap:=h' }:=I.kept (t':=s.toks) λ b o e=>hx b o (Y0r (Y0h e)) e;exact h pins _ σ H xs _ Q I1 (by simpa using rv) hw
def z7b (to ti:TE)(t:B7):TG:=λ v σ H Q=>to σ H λ o H1=>ti σ H1 λ i H2=>t o i v H2 λ H3=>Q σ H3
theorem z2f {o i:Expr}{to ti:TE}{t:B7}(ho:PE X o to)(hi:PE X i ti)(hs:z2d X t)
  (ha:∀ v,assign (.Subscript o i pos) X.env v=(do
   let ov <- holding [v] (eval o X.env)
   let iv <- holding [v,ov] (eval i X.env)
   standAt pos
   holding [v,ov,iv] (setItem ov iv v)
   release [v,ov,iv] []):=by intro _;rfl):PG X (.Subscript o i pos) (z7b to ti t):=by
 intro pins s σ H v u Q I r h;rw [ha];refine wpAny_bind (wpAny_holding (thn (ho pins s σ H _ I h) λ ov s1 ⟨x,H1,I1,r1,q1⟩=>?_));refine wpAny_bind (wpAny_holding (thn (hi pins s1 σ H1 _ I1 q1) λ iv s2 ⟨y,H2,I2,r2,q2⟩=>?_));refine wpAny_bind (wpAny_standAt (wpAny_bind (wpAny_holding (thn (hs pins s2 σ H2 x y v ov iv u _ I2 r1 r2 r q2) λ _ s3 ⟨H3,I3,q3⟩=>?_))));exact wpAny_release ⟨σ,H3,I3,q3⟩
def B9 (te:TE)(g:TG):TS:=λ D σ H=>te σ H λ x H1=>g x σ H1 D.nx
theorem z2g {tg e:Expr}{te:TE}{g:TG}(he:PE X e te)(hg:PG X tg g)(hs:swapsWithSole [tg] e pos.line X.env=pure false:=by rfl)(hw:swappedStores [tg] e X.env=pure none:=by rfl)
  (h1:(assignEach [tg] X.env).map (·.2)=[assign tg X.env]:=by rfl):PS X (.Assign [tg] e pos) (B9 te g):=by
 intro pins s σ H D I h;refine wpAny_Assign_stores (thn (he pins s σ H _ I h) λ v s1 ⟨x,H1,I1,r1,q1⟩=>?_) hs hw;rw [h1];exact thn (hg pins s1 σ H1 x v _ I1 r1 q1) λ _ s2 q=>q
theorem z2h {i:Nat}{x:Str}{e:Expr}{te:TE}{pos':Pos}(hN:X.N.Nodup)(hi:X.N[i]?=some x)(hx:Loc X.env.scope x)(he:PE X e te)(hs:swapsWith e (some (.Name x pos')) pos.line X.env=pure false:=by rfl)(hf:X.fn x=true\/X.env.scope.names.lookup x=some .local:=by first | exact .inl rfl | exact .inr rfl | assumption) :
  PS X (.Assign [.Name x pos'] e pos) (B9 te (WS i)):=by
 intro pins s σ H D I h;refine wpAny_Assign_Name (thn (he pins s σ H _ I h) λ v s1 ⟨y,H1,I1,r1,q1⟩=>?_) hs;exact Z8 I1 hN hi hx r1 (λ s2 I2=>⟨_,H1,I2,q1⟩) hf
end
section
variable {X:Cx}{pos:Pos}
def QS (c:TT)(tb:TS):TS:=λ D σ H=>∃ W:Nat->St->Hp->Prop,(∃ m,W m σ H)/\∀ m σ H,W m σ H ->
 c σ H λ b H1=>if b=true then ∃ N:St->Hp->Prop,(∀ σ' H',N σ' H'->∃ m',m'<m/\W m' σ' H')/\tb { D with nx:=N,ct:=N,bk:=D.nx } σ H1 else D.nx σ H1
theorem G1 {c:Expr}{body:List Stmt}{tc:TT}{tb:TS}(hp:PassesOwn (model X.prog X.w) X.A X.env X.xe)(hc:PT X c tc)(hb:PSs X body tb):PS X (.While c body [] pos) (QS tc tb):=by
 intro pins s σ H D I h;obtain ⟨W,⟨m0,w0⟩,turn⟩:=h;refine wpAny_While (codeAny_whileLoop (λ n s'=>∃ σ' H',Inv X pins σ' H' s'/\W n σ' H') ?_ m0 ⟨σ,H,I,w0⟩)
 rintro n s1 ⟨σ1,H1,I1,w1⟩
 refine wpAny_passesOwn hp (thn (hc pins s1 σ1 H1 _ I1 (turn n σ1 H1 w1)) λ b s2 ⟨H2,I2,q2⟩=>?_);cases b with
 | true =>
  obtain ⟨N,hN,q2⟩:=q2;rw [if_pos rfl];refine wpAny_passesOwn hp (thn (hb pins s2 σ1 H2 _ I2 q2) λ f s3 q3=>?_);cases f with
  | next =>
   obtain ⟨σ3,H3,I3,n3⟩:=q3;obtain ⟨m',hm,w3⟩:=hN σ3 H3 n3;exact ⟨m',hm,σ3,H3,I3,w3⟩
  | cont =>
   obtain ⟨σ3,H3,I3,n3⟩:=q3;obtain ⟨m',hm,w3⟩:=hN σ3 H3 n3;exact ⟨m',hm,σ3,H3,I3,w3⟩
  | brk=>exact q3
  | ret v=>exact q3
 | false =>
  rw [if_neg Y0s];exact wpAny_execs_nil ⟨σ1,H2,I2,q2⟩
end
structure It where
 go:Nat->Hp->Prop
 yld:Nat->Hp->V->Hp->Prop
 stop:Nat->Hp->Prop
def yg (X:Cx)(pins:List (Addr×Obj))(H:Hp)(b:Addr):Prop :=
 H b=none/\b≠X.env.locals/\b∉X.fs/\(b∈X.ex\/X.s₀.heap.objs.size<=b)/\(∀ x c,X.env.cells.lookup x=some c->c≠b)/\∀ p∈X.pn++pins,p.1≠b
theorem Inv.fpOk {X:Cx}{pins:List (Addr×Obj)}{σ:St}{H H':Hp}{s:Shared}{b:Addr}(I:Inv X pins σ H s)(hb:s.heap.objs.size<=b)(hn:H' b=none):yg X pins H' b:=by
 refine ⟨hn,Y24 (Y0l I.lt hb),I.nofs hb,.inr (Y0t I.sz hb),λ x c e z=>?_,λ p hp z=>?_⟩
 ·obtain ⟨v,q⟩:=I.cell x c e;exact absurd (Y0l q.lt (by rw [z];exact hb)) (Y1c _)
 ·exact absurd (Y0l (Y0h (I.pin p hp).1) (by rw [z];exact hb)) (Y1c _)
structure Turn (P:Program)(w:World)(K:Y00)(tg:Expr)(J:It)(fp:List Addr)(it:Addr)(tn:Nat->Heap->Prop):Prop where
 mem:it∈fp
 obj:∀ i h,tn i h->∀ b∈fp,∃ o,h.get? b=some o/\∀ v,o.data≠.cell v
 keep:∀ i h h',tn i h->(∀ b∈fp,∀ o,h.get? b=some o->h'.get? b=some o)->tn i h'
 item:∀ (X:Cx),X.prog=P->X.w=w->X.K=K->X.calm=true->∀ (i:Nat) (pins:List (Addr×Obj)) (s:Shared) (σ:St) (H:Hp) (E:Value->Shared->Prop),Inv X pins σ H s->(∀ b∈fp,yg X pins H b)->tn i s.heap->J.go i H ->
  wpAny (model P w) X.A (pyNext (.ref it)) (λ r s1=>∃ u,r=some u /\
   wpAny (model P w) X.A (letOwnedTupleGo tg (.ref it) u) (λ _ s2=>∃ x H',Inv X pins σ H' s2/\RelV x u/\J.yld i H x H'/\tn (i+1) s2.heap/\∀ b∈fp,H' b=none) E s1) E s
 done:∀ (X:Cx),X.prog=P->X.w=w->X.K=K->X.calm=true->∀ (i:Nat) (pins:List (Addr×Obj)) (s:Shared) (σ:St) (H:Hp) (E:Value->Shared->Prop),Inv X pins σ H s->(∀ b∈fp,yg X pins H b)->tn i s.heap->J.stop i H ->
  wpAny (model P w) X.A (pyNext (.ref it)) (λ r s1=>r=none/\Inv X pins σ H s1) E s
 self:∀ (A:Around) (i:Nat) (s:Shared) (Q:Value->Shared->Prop) (E:Value->Shared->Prop),tn i s.heap->Q (.ref it) s->wpAny (model P w) A (pyIter (.ref it)) Q E s
abbrev TI:=St->Hp->(It->Hp->Prop)->Prop
def PIE (X:Cx)(pins:List (Addr×Obj))(σ:St)(tg:Expr)(R:It->Hp->Prop)(itv:Value)(s2:Shared):Prop :=
 ∃ (it:Addr) (fp:List Addr) (tn:Nat->Heap->Prop) (J:It) (H':Hp),itv=.ref it/\Inv X pins σ H' s2/\Turn X.prog X.w X.K tg J fp it tn/\tn 0 s2.heap/\(∀ b∈fp,yg X pins H' b)/\R J H'
def PI (X:Cx)(tg iter:Expr)(wi:TI):Prop :=
 ∀ (pins:List (Addr×Obj)) (s:Shared) (σ:St) (H:Hp) (R:It->Hp->Prop),Inv X pins σ H s->wi σ H R ->
  wpAny (model X.prog X.w) X.A (eval iter X.env) (λ v s1=>wpAny (model X.prog X.w) X.A (pyIter v) (PIE X pins σ tg R) X.xe s1) X.xe s
theorem WT {M:Model}{A:Around}{E:Value->Shared->Prop}{s:Shared}{tg:Expr}{it:Addr}{u:Value}{o:Obj}{n:String}{vs:Array Value}{Q:Unit->Shared->Prop}(ho:s.heap.get? it=some o)(hc:o.cls=.type n)(hd:o.data=.fields vs)
    (hn:["enumerate","zip","dict_itemiterator","dict_reverseitemiterator","odict_iterator","itertools.zip_longest","itertools.pairwise"].contains n=false) (hQ:Q () s):wpAny M A (letOwnedTupleGo tg (.ref it) u) Q E s:=by
  unfold letOwnedTupleGo;cases tg<;>first
    | exact wpAny_pure hQ
    | (cases u<;>first
        | exact wpAny_pure hQ
        | (refine wpAny_bind (wpAny_load ho ?_)
           rw [hc,hd];show wpAny M A (if (["enumerate","zip","dict_itemiterator","dict_reverseitemiterator","odict_iterator","itertools.zip_longest","itertools.pairwise"].contains n&&vs[0]?==some (rawInt _))=true then _ else _) Q E s;rw [if_neg (by intro h;rw [hn,Bool.false_and] at h;cases h)];exact wpAny_pure hQ))
def Itl (K:Y00)(a:Addr):It :=
 ⟨λ i H=>∃ xs x,SqL K H a xs/\xs[i]?=some x,λ i H x H'=>H'=H/\∀ xs,SqL K H a xs->xs[i]?=some x,λ i H=>∃ xs,SqL K H a xs/\xs.length<=i⟩
def Itt (K:Y00)(a:Addr):It :=
 ⟨λ i H=>∃ xs x,SqT K H a xs/\xs[i]?=some x,λ i H x H'=>H'=H/\∀ xs,SqT K H a xs->xs[i]?=some x,λ i H=>∃ xs,SqT K H a xs/\xs.length<=i⟩
def Itr (lo:Int)(n:Nat):It:=⟨λ i _=>i<n,λ i H x H'=>H'=H/\x=.int (lo+i),λ i _=>n<=i⟩
theorem Jp {P:Program}{w:World}{K:Y00}{tg:Expr}(a it:Addr):Turn P w K tg (Itl K a) [it] it (λ i h=>h.IsListIter it a i) where
 mem:=by simp
 obj:=λ i h st b hb=>by
  have e:b=it:=by simpa using hb
  subst e;obtain ⟨o,e,c,d⟩:=st;exact ⟨o,e,λ v z=>by rw [d] at z;cases z⟩
 keep:=λ i h h' st k=>st.at λ o e=>k it (by simp) o e
 item:=by
  intro X hP hw hK hc i pins s σ H E I hf st hg;subst hP hw hK;obtain ⟨xs,x,hq,hx⟩:=hg;obtain ⟨its,rv,p,hz⟩:=I.list hq;obtain ⟨u,hu,ru⟩:=rv.get hx;obtain ⟨f0,f1,f2,f3,f4,f5⟩:=hf it (by simp);refine wpAny_pyNext_list_item st p.isList (x:=u) (by simpa using hu) λ h' st' sb=>?_;have I1:Inv X pins σ H { s with heap:=h' }:=I.turned (t':=s.toks) (λ b o hb e=>(sb.2 b hb).trans e) f0 f1 f3 f4 f5;obtain ⟨o,e,c,d⟩:=id st';exact ⟨u,rfl,WT (s:={ s with heap:=h' }) e c d (by decide) ⟨x,H,I1,ru,⟨rfl,λ ys hy=>by rw [I.list_inj hy hq];exact hx⟩,st',λ b hb=>(hf b hb).1⟩⟩
 done:=by
  intro X hP hw hK hc i pins s σ H E I hf st hg;subst hP hw hK;obtain ⟨xs,hq,hx⟩:=hg;obtain ⟨its,rv,p,hz⟩:=I.list hq;obtain ⟨f0,f1,f2,f3,f4,f5⟩:=hf it (by simp);have hl:=rv.length;exact wpAny_pyNext_list_end (I.ok.hd hc) st p.isList (by simp;omega) λ h' eb=>⟨rfl,I.turned (t':=s.toks) (λ b o hb e=>eb b o hb e) f0 f1 f3 f4 f5⟩
 self:=λ _ _ _ _ _ st h=>wpAny_pyIter_listiter st h
theorem QT {P:Program}{w:World}{K:Y00}{tg:Expr}(a it:Addr):Turn P w K tg (Itt K a) [it] it (λ i h=>h.IsTupleIter it a i) where
 mem:=by simp
 obj:=λ i h st b hb=>by
  have e:b=it:=by simpa using hb
  subst e;obtain ⟨o,e,c,d⟩:=st;exact ⟨o,e,λ v z=>by rw [d] at z;cases z⟩
 keep:=λ i h h' st k=>st.at λ o e=>k it (by simp) o e
 item:=by
  intro X hP hw hK hc i pins s σ H E I hf st hg;subst hP hw hK;obtain ⟨xs,x,hq,hx⟩:=hg;obtain ⟨its,rv,p,hz⟩:=I.tuple hq;obtain ⟨u,hu,ru⟩:=rv.get hx;obtain ⟨f0,f1,f2,f3,f4,f5⟩:=hf it (by simp);refine wpAny_pyNext_tuple_item st (show s.heap.IsTuple a its.toArray from p) (x:=u) (by simpa using hu) λ h' st' sb=>?_;have I1:Inv X pins σ H { s with heap:=h' }:=I.turned (t':=s.toks) (λ b o hb e=>(sb.2 b hb).trans e) f0 f1 f3 f4 f5;obtain ⟨o,e,c,d⟩:=id st';exact ⟨u,rfl,WT (s:={ s with heap:=h' }) e c d (by decide) ⟨x,H,I1,ru,⟨rfl,λ ys hy=>by rw [I.tuple_inj hy hq];exact hx⟩,st',λ b hb=>(hf b hb).1⟩⟩
 done:=by
  intro X hP hw hK hc i pins s σ H E I hf st hg;subst hP hw hK;obtain ⟨xs,hq,hx⟩:=hg;obtain ⟨its,rv,p,hz⟩:=I.tuple hq;obtain ⟨f0,f1,f2,f3,f4,f5⟩:=hf it (by simp);have hl:=rv.length;exact wpAny_pyNext_tuple_end (I.ok.hd hc) st (show s.heap.IsTuple a its.toArray from p) (by simp;omega) λ h' eb=>⟨rfl,I.turned (t':=s.toks) (λ b o hb e=>eb b o hb e) f0 f1 f3 f4 f5⟩
 self:=λ _ _ _ _ _ st h=>wpAny_pyIter_tupleiter st h
theorem QU {P:Program}{w:World}{K:Y00}{tg:Expr}(it:Addr)(lo:Int)(n:Nat):Turn P w K tg (Itr lo n) [it] it (λ i h=>IsRangeIter h it (lo+(i:Nat)*1) ((n:Int)-(i:Nat)) 1) where
 mem:=by simp
 obj:=λ i h st b hb=>by
  have e:b=it:=by simpa using hb
  subst e;exact ⟨_,st,λ v z=>by
   have z':Data.fields _=Data.cell v:=z;cases z'⟩
 keep:=λ i h h' st k=>k it (by simp) _ st
 item:=by
  intro X hP hw hK hc i pins s σ H E I hf st hg;subst hP hw hK;obtain ⟨f0,f1,f2,f3,f4,f5⟩:=hf it (by simp);have W:=Walks.range (prog:=X.prog) (w:=X.w) (I.ok.hd hc) it lo 1 n;refine W.item i s _ _ hg st λ v h' tk hv st' kk=>?_;obtain ⟨t,rfl⟩:=hv;have I1:Inv X pins σ H { s with heap:=h',toks:=tk }:=I.turned (λ b o hb e=>kk b o (by simpa using hb) e) f0 f1 f3 f4 f5;refine ⟨_,rfl,WT (s:={ s with heap:=h',toks:=tk }) (n:="range_iterator") st' rfl rfl (by decide) ⟨.int (lo+i),H,I1,⟨t,?_⟩,⟨rfl,rfl⟩,st',λ b hb=>(hf b hb).1⟩⟩;rw [Int.mul_one]
 done:=by
  intro X hP hw hK hc i pins s σ H E I hf st hg;subst hP hw hK;obtain ⟨f0,f1,f2,f3,f4,f5⟩:=hf it (by simp);exact wpAny_pyNext_range_end (I.ok.hd hc) st (by have:n<=i:=hg;omega) λ h' eb=>⟨rfl,I.turned (t':=s.toks) (λ b o hb e=>eb b o hb e) f0 f1 f3 f4 f5⟩
 self:=λ _ _ _ _ _ st h=>wpAny_pyIter_rangeiter st h
section
variable {X:Cx}{tg:Expr}
def z5f (K:Y00)(tl:TE):TI:=λ σ H R=>tl σ H λ x H1=>∃ a,x=.ref a/\(∃ xs,SqL K H1 a xs)/\R (Itl K a) H1
theorem Ba {l:Expr}{tl:TE}(hl:PE X l tl):PI X tg l (z5f X.K tl):=by
 intro pins s σ H R I h;refine thn (hl pins s σ H _ I h) λ v s1 ⟨x,H1,I1,r1,q1⟩=>?_;obtain ⟨a,e,⟨xs,hq⟩,q⟩:=q1;subst e;cases r1;obtain ⟨its,rv,p,hz⟩:=I1.list hq;refine wpAny_pyIter_list p.isList ?_;refine ⟨s1.heap.objs.size,[s1.heap.objs.size],_,_,H1,rfl,I1.kept (t':=s1.toks) λ b o e=>Y02 _ e,Jp a _,⟨_,Y0i _ rfl,rfl,rfl⟩,λ b hb=>?_,q⟩;have e:b=s1.heap.objs.size:=by simpa using hb
 subst e;exact I1.fpOk (Y09 _) (I1.hok.fresh (Y09 _))
theorem G2 {pins:List (Addr×Obj)}{σ:St}{H:Hp}{s:Shared}{R:It->Hp->Prop}{E:Value->Shared->Prop}{lo hi:Int}{t u v:Tok}{tk:Nat}(I:Inv X pins σ H s)(h1:-(2 ^ 62)<=lo)(h2:lo<2 ^ 62)(h3:-(2 ^ 62)<=hi)(h4:hi<2 ^ 62)
  (q:R (Itr lo (hi-lo).toNat) H):wpAny (model X.prog X.w) X.A (pyIter (.ref s.heap.objs.size)) (PIE X pins σ tg R) E { s with heap:=s.heap.push { cls:=.type "range",data:=.fields #[.int lo t,.int hi u,.int 1 v] },toks:=tk }:=by
 refine wpAny_pyIter_range (IsRange.new ..) (small_one h1 h2 h3 h4) ?_;have I1:Inv X pins σ H { s with heap:=s.heap.push { cls:=.type "range",data:=.fields #[.int lo t,.int hi u,.int 1 v] },toks:=tk }:=I.kept λ b o e=>Y02 _ e;refine ⟨(s.heap.push { cls:=.type "range",data:=.fields #[.int lo t,.int hi u,.int 1 v] }).objs.size,[(s.heap.push { cls:=.type "range",data:=.fields #[.int lo t,.int hi u,.int 1 v] }).objs.size],_,_,H,rfl,
  I1.kept (t':=tk) λ b o e=>Y02 _ e,QU _ lo (hi-lo).toNat,?_,λ b hb=>?_,q⟩
 ·have e1:lo+((0:Nat):Int)*1=lo:=by simp
  have e2:(((hi-lo).toNat:Nat):Int)-((0:Nat):Int)=Builtin.Range.rangeSize lo hi 1:=by rw [rangeSize_one];split<;>omega
  show IsRangeIter _ _ (lo+((0:Nat):Int)*1) ((((hi-lo).toNat:Nat):Int)-((0:Nat):Int)) 1;rw [e1,e2];exact Y0i _ rfl
 ·have e:b=(s.heap.push { cls:=.type "range",data:=.fields #[.int lo t,.int hi u,.int 1 v] }).objs.size:=by simpa using hb
  subst e;exact I1.fpOk (Y09 _) (I1.hok.fresh (Y09 _))
def z5g (ta:TA):TI:=λ σ H R=>ta σ H λ vs H1=>∃ j:Int,vs=[.int j]/\-(2 ^ 62)<=j/\j<2 ^ 62/\R (Itr 0 j.toNat) H1
theorem UU {a:Expr}{ta:TA}{p pos:Pos} (hg:Gl X "range") (hm:X.mg "range"=none) (ha:PA X [a] ta) (hs:starEach [a] X.env=[(false,eval a X.env)]:=by rfl):PI X tg (.Call (.Name "range" p) [a] [] pos) (z5g ta):=by
 intro pins s σ H R I h;refine Call_ (wD I hg hm boot_range (Y1d (thn (ha pos pins s σ H _ I h) λ us s1 ⟨vs,H1,I1,r1,q1⟩=>?_) hs rfl));obtain ⟨j,e,q1,q2,q⟩:=q1;subst e;cases r1 with
 | cons r rr =>
  cases rr;obtain ⟨t,rfl⟩:=r;exact call_range_1 (G2 I1 (by omega) (by omega) q1 q2 (by simpa using q))
def z2i (wi:TI)(g:TG)(tb:TS):TS:=λ D σ H=>wi σ H λ J H1=>∃ W:Nat->Nat->St->Hp->Prop,(∃ m,W 0 m σ H1)/\∀ i m σ H,W i m σ H ->
 (J.stop i H/\D.nx σ H)\/(J.go i H/\∃ N:St->Hp->Prop,(∀ σ' H',N σ' H'->∃ m',m'<m/\W (i+1) m' σ' H')/\∀ x H',J.yld i H x H'->g x σ H' λ σ2 H2=>tb { D with nx:=N,ct:=N,bk:=D.nx } σ2 H2)
def wE (fp:List Addr)(h:Heap):List (Addr×Obj):=fp.filterMap λ b=>(h.get? b).map λ o=>(b,o)
theorem jz {fp:List Addr}{h:Heap}{b:Addr}{o:Obj}(hb:b∈fp)(e:h.get? b=some o):(b,o)∈wE fp h:=Y3d.mpr ⟨b,hb,by rw [e];rfl⟩
theorem Jq {fp:List Addr}{h:Heap}{p:Addr×Obj}(hp:p∈wE fp h):p.1∈fp/\h.get? p.1=some p.2:=by
 obtain ⟨b,hb,e⟩:=Y3d.mp hp;cases q:h.get? b with
 | none=>rw [q] at e;cases e
 | some o =>
  rw [q] at e;have e':(b,o)=p:=Option.some.inj e;subst e';exact ⟨hb,q⟩
theorem Inv.pinned {pins:List (Addr×Obj)}{σ:St}{H:Hp}{s:Shared}{fp:List Addr}(I:Inv X pins σ H s)(hf:∀ b∈fp,yg X pins H b)(ho:∀ b∈fp,∃ o,s.heap.get? b=some o/\∀ v,o.data≠.cell v):Inv X (pins++wE fp s.heap) σ H s :=
 I.pins_of λ p hp=>(Y0f.mp hp).elim (λ z=>I.pin p (Y0u _ z)) λ z=>by
  obtain ⟨hb,e⟩:=Jq z;obtain ⟨f0,f1,f2,_⟩:=hf p.1 hb;obtain ⟨o,e',d⟩:=ho p.1 hb;rw [e] at e';cases e';exact ⟨e,f0,f1,f2,d⟩
theorem Inv.unpinned {pins pl:List (Addr×Obj)}{σ:St}{H:Hp}{s:Shared}(I:Inv X (pins++pl) σ H s):Inv X pins σ H s:=I.pins_of λ p hp=>I.pin p (Y0u _ (Y1f _ hp))
theorem z2j {iter:Expr}{body:List Stmt}{wi:TI}{g:TG}{tb:TS}{pos:Pos}(hp:PassesOwn (model X.prog X.w) X.A X.env X.xe)(hc:X.calm=true)(hi:PI X tg iter wi)(hg:PG X tg g)(hb:PSs X body tb)
  (hs:∀ x,foldedSetIterable iter X.env x=pure x:=by intro _;rfl):PS X (.For tg iter body [] pos) (z2i wi g tb):=by
 intro pins s σ H D I h;refine wpAny_For (thn (hi pins s σ H _ I h) λ v s1 h1=>thn h1 λ itv s2 h2=>?_) hs;obtain ⟨it,fp,tn,J,H2,e,I2,T,st2,f2,W,⟨m0,w0⟩,turn⟩:=h2;subst e;have stat:∀ {H':Hp},(∀ b∈fp,H' b=none)->∀ b∈fp,yg X pins H' b:=λ hn b hb=>⟨hn b hb,(f2 b hb).2⟩;refine codeAny_forLoop_any (λ n s'=>∃ i σ' H',Inv X pins σ' H' s'/\tn i s'.heap/\(∀ b∈fp,H' b=none)/\W i n σ' H') ?_ m0 ⟨0,σ,H2,I2,st2,λ b hb=>(f2 b hb).1,w0⟩
 rintro n s3 ⟨i,σ3,H3,I3,st3,fr3,w3⟩
 rcases turn i n σ3 H3 w3 with ⟨stop,qn⟩ | ⟨go,N,hN,step⟩
 ·refine wpAny_passesOwn hp (thn (T.done X rfl rfl rfl hc i pins s3 σ3 H3 X.xe I3 (stat fr3) st3 stop) λ r s4 ⟨hr,I4⟩=>?_);subst hr;exact wpAny_execs_nil ⟨σ3,H3,I4,qn⟩
 ·refine wpAny_passesOwn hp (thn (T.item X rfl rfl rfl hc i pins s3 σ3 H3 X.xe I3 (stat fr3) st3 go) λ r s4 ⟨u,hr,h4⟩=>?_);subst hr;refine wpAny_passesOwn hp (thn h4 λ _ s5 ⟨x,H5,I5,r5,y5,st5,fr5⟩=>?_);have I5':=I5.pinned (stat fr5) (T.obj _ _ st5);refine wpAny_passesOwn hp (thn (hg _ s5 σ3 H5 x u _ I5' r5 (step x H5 y5)) λ _ s6 ⟨σ6,H6,I6,q6⟩=>?_);refine wpAny_passesOwn hp (thn (hb _ s6 σ6 H6 _ I6 q6) λ f s7 q7=>?_);have again:∀ {σ7:St}{H7:Hp},Inv X (pins++wE fp s5.heap) σ7 H7 s7->N σ7 H7->∃ m,m<n/\∃ i σ' H',Inv X pins σ' H' s7/\tn i s7.heap/\(∀ b∈fp,H' b=none)/\W i m σ' H':=λ {σ7 H7} I7 n7=>by
   obtain ⟨m',hm,w7⟩:=hN σ7 H7 n7;refine ⟨m',hm,i+1,σ7,H7,I7.unpinned,T.keep _ _ _ st5 λ b hb o e=>(I7.pin (b,o) (Y0u _ (Y0u _ (jz hb e)))).1,λ b hb=>?_,w7⟩;obtain ⟨o,e,d⟩:=T.obj _ _ st5 b hb;exact (I7.pin (b,o) (Y0u _ (Y0u _ (jz hb e)))).2.1
  cases f with
  | next=>obtain ⟨σ7,H7,I7,n7⟩:=q7;exact again I7 n7
  | cont=>obtain ⟨σ7,H7,I7,n7⟩:=q7;exact again I7 n7
  | brk=>obtain ⟨σ7,H7,I7,q7⟩:=q7;exact ⟨σ7,H7,I7.unpinned,q7⟩
  | ret v=>obtain ⟨x7,σ7,H7,I7,r7,q7⟩:=q7;exact ⟨x7,σ7,H7,I7.unpinned,r7,q7⟩
end
abbrev R2:=V->V->Hp->VK->Prop
def OpR (X:Cx)(f:Value->Value->Sem Value)(r:R2):Prop :=
 ∀ (pins:List (Addr×Obj)) (s:Shared) (σ:St) (H:Hp) (x y:V) (v u:Value) (Q:VK),Inv X pins σ H s->RelV x v->RelV y u->r x y H Q ->
  wpAny (model X.prog X.w) X.A (f v u) (EP X pins σ Q) X.xe s
def UnR (X:Cx)(f:Value->Sem Value)(r:V->Hp->VK->Prop):Prop :=
 ∀ (pins:List (Addr×Obj)) (s:Shared) (σ:St) (H:Hp) (x:V) (v:Value) (Q:VK),Inv X pins σ H s->RelV x v->r x H Q ->
  wpAny (model X.prog X.w) X.A (f v) (EP X pins σ Q) X.xe s
def CallR (X:Cx)(f:Value)(r:List V->Hp->VK->Prop):Prop :=
 ∀ (pins:List (Addr×Obj)) (s:Shared) (σ:St) (H:Hp) (xs:List V) (us:List Value) (Q:VK),Inv X pins σ H s->Vals xs us->r xs H Q ->
  wpAny (model X.prog X.w) X.A (call f us) (EP X pins σ Q) X.xe s
def tOp (r:R2)(ta tb:TE):TE:=λ σ H Q=>ta σ H λ x H1=>tb σ H1 λ y H2=>r x y H2 Q
def tUn (r:V->Hp->VK->Prop)(ta:TE):TE:=λ σ H Q=>ta σ H λ x H1=>r x H1 Q
def rI (C:Int->Int->Prop)(g:Int->Int->V):R2:=λ x y H Q=>∃ i j,x=.int i/\y=.int j/\C i j/\Q (g i j) H
def rI0 (g:Int->Int->V):R2:=λ x y H Q=>∃ i j,x=.int i/\y=.int j/\Q (g i j) H
def rU (g:Int->V):V->Hp->VK->Prop:=λ x H Q=>∃ i,x=.int i/\Q (g i) H
section
variable {X:Cx}{a b c:Expr}{ta tb tc:TE}{pos:Pos}
theorem z2k (ha:PE X a ta)(hb:PE X b tb){pins:List (Addr×Obj)}{s:Shared}{σ:St}{H:Hp}{R:V->V->Hp->Prop}(I:Inv X pins σ H s)
  (h:ta σ H λ x H1=>tb σ H1 λ y H2=>R x y H2) {Q:Value->Shared->Prop}{f:Value->Value->Sem Value}
  (hf:∀ v u s2 x y H2,Inv X pins σ H2 s2->RelV x v->RelV y u->R x y H2->wpAny (model X.prog X.w) X.A (f v u) Q X.xe s2) :
  wpAny (model X.prog X.w) X.A (eval a X.env) (λ v s₁=>wpAny (model X.prog X.w) X.A (eval b X.env) (λ u s₂=>wpAny (model X.prog X.w) X.A (f v u) Q X.xe s₂) X.xe s₁) X.xe s:=by
 refine thn (ha pins s σ H _ I h) λ v s1 ⟨x,H1,I1,r1,q1⟩=>?_;refine thn (hb pins s1 σ H1 _ I1 q1) λ u s2 ⟨y,H2,I2,r2,q2⟩=>?_;exact hf v u s2 x y H2 I2 r1 r2 q2
theorem z5h {op:Operator}{r:R2}(ho:OpR X (binaryOp op) r)(ha:PE X a ta)(hb:PE X b tb):PE X (.BinOp a op b pos) (tOp r ta tb):=by
 intro pins s σ H Q I h;exact wpAny_BinOp (z2k ha hb I h λ v u s2 x y H2 I2 rx ry q=>ho pins s2 σ H2 x y v u Q I2 rx ry q)
theorem G3 {op:UnaryOp}{r:V->Hp->VK->Prop}(ho:UnR X (unaryOp op) r)(ha:PE X a ta):PE X (.UnaryOp op a pos) (tUn r ta):=by
 intro pins s σ H Q I h;exact UnaryOp_ (thn (ha pins s σ H _ I h) λ v s1 ⟨x,H1,I1,r1,q1⟩=>ho pins s1 σ H1 x v Q I1 r1 q1)
theorem opI {f:Value->Value->Sem Value}{C:Int->Int->Prop}{g:Int->Int->Int}
  (rule:∀ (i j:Int) (t u:Tok) (s:Shared) (Q:Value->Shared->Prop) (E:Value->Shared->Prop),C i j->Q (.int (g i j) s.toks) { s with toks:=s.toks+1 }->wpAny (model X.prog X.w) X.A (f (.int i t) (.int j u)) Q E s) :
  OpR X f (rI C λ i j=>.int (g i j)):=by
 intro pins s σ H x y v u Q I rx ry h;obtain ⟨i,j,rfl,rfl,hc,q⟩:=h;obtain ⟨t,rfl⟩:=rx;obtain ⟨t',rfl⟩:=ry;exact rule i j t t' s _ _ hc ⟨.int (g i j),H,I.tok _,⟨_,rfl⟩,q⟩
theorem Bb {f:Value->Value->Sem Value}{g:Int->Int->Int}
  (rule:∀ (i j:Int) (t u:Tok) (s:Shared) (Q:Value->Shared->Prop) (E:Value->Shared->Prop),Q (.int (g i j) s.toks) { s with toks:=s.toks+1 }->wpAny (model X.prog X.w) X.A (f (.int i t) (.int j u)) Q E s) :
  OpR X f (rI0 λ i j=>.int (g i j)):=by
 intro pins s σ H x y v u Q I rx ry h;obtain ⟨i,j,rfl,rfl,q⟩:=h;obtain ⟨t,rfl⟩:=rx;obtain ⟨t',rfl⟩:=ry;exact rule i j t t' s _ _ ⟨.int (g i j),H,I.tok _,⟨_,rfl⟩,q⟩
theorem Bc {f:Value->Value->Sem Value}{g:Int->Int->Bool}
  (rule:∀ (i j:Int) (t u:Tok) (s:Shared) (Q:Value->Shared->Prop) (E:Value->Shared->Prop),Q (.bool (g i j)) s->wpAny (model X.prog X.w) X.A (f (.int i t) (.int j u)) Q E s) :
  OpR X f (rI0 λ i j=>.bl (g i j)):=by
 intro pins s σ H x y v u Q I rx ry h;obtain ⟨i,j,rfl,rfl,q⟩:=h;obtain ⟨t,rfl⟩:=rx;obtain ⟨t',rfl⟩:=ry;exact rule i j t t' s _ _ ⟨.bl (g i j),H,I,rfl,q⟩
def z7c (i j:Int):Prop:=0<=j/\j<=1000000/\i.natAbs<2 ^ 64
def CMul (i j:Int):Prop:=(-(2 ^ 64)<i/\i<2 ^ 64)\/(-(2 ^ 64)<j/\j<2 ^ 64)
theorem CMul.ok {i j:Int}(h:CMul i j):IntMulOk i j:=by
 rcases h with ⟨h1,h2⟩ | ⟨h1,h2⟩
 ·exact .of_left (intBits_le_64 h1 h2)
 ·exact .of_right (intBits_le_64 h1 h2)
theorem QV (k:Nat):(0:Int)<=2 ^ k:=by
 rw [two_pow_cast];exact Int.natCast_nonneg _
theorem z2l:OpR X (binaryOp .Add) (rI0 λ i j=>.int (i+j)):=Bb λ _ _ _ _ _ _ _ q=>add_int q
theorem z2m:OpR X (binaryOp .Sub) (rI0 λ i j=>.int (i-j)):=Bb λ _ _ _ _ _ _ _ q=>sub_int q
theorem z2n:OpR X (binaryOp .Mod) (rI (λ _ j=>0<j) λ i j=>.int (i%j)):=opI λ i j _ _ _ _ _ hc q=>by
 have h1:(0:Int)<j:=hc;exact mod_int' (by omega) (by rw [Int.fmod_eq_emod_of_nonneg i (by omega)];exact q)
theorem z2o:OpR X (binaryOp .Pow) (rI z7c λ i j=>.int (i ^ j.toNat)):=opI λ _ _ _ _ _ _ _ hc q=>pow_int_small hc.1 hc.2.1 hc.2.2 q
theorem z2p:OpR X (binaryOp .RShift) (rI (λ _ j=>0<=j) λ i j=>.int (i/2 ^ j.toNat)):=opI λ i j _ _ _ _ _ hc q =>
 rshift_int hc (by rw [Int.fdiv_eq_ediv_of_nonneg i (QV _)];exact q)
theorem z2q:OpR X (binaryOp .BitAnd) (rI0 λ i j=>.int (Builtin.bitAnd i j)):=Bb λ _ _ _ _ _ _ _ q=>and_int q
theorem z5i:OpR X (binaryOp .BitOr) (rI0 λ i j=>.int (Builtin.bitOr i j)):=Bb λ _ _ _ _ _ _ _ q=>or_int q
theorem unI {f:Value->Sem Value}{g:Int->Int}
  (rule:∀ (i:Int) (t:Tok) (s:Shared) (Q:Value->Shared->Prop) (E:Value->Shared->Prop),Q (.int (g i) s.toks) { s with toks:=s.toks+1 }->wpAny (model X.prog X.w) X.A (f (.int i t)) Q E s) :
  UnR X f (rU λ i=>.int (g i)):=by
 intro pins s σ H x v Q I rx h;obtain ⟨i,rfl,q⟩:=h;obtain ⟨t,rfl⟩:=rx;exact rule i t s _ _ ⟨.int (g i),H,I.tok _,⟨_,rfl⟩,q⟩
theorem z2r:UnR X (unaryOp .USub) (rU λ i=>.int (-i)):=unI λ _ _ _ _ _ q=>neg_int q
theorem z2s:UnR X (unaryOp .Invert) (rU λ i=>.int (Builtin.bitNot i)):=unI λ _ _ _ _ _ q=>invert_int q
end
section
variable {X:Cx}{a b c:Expr}{ta tb tc:TE}{pos:Pos}
theorem Z9 {pins:List (Addr×Obj)}{σ:St}{H:Hp}{s:Shared}{Q:VK}{k k':Bool}(I:Inv X pins σ H s)(q:Q (.bl k) H)(e:k=k'):EP X pins σ Q (.bool k') s:=by
 subst e;exact ⟨.bl k,H,I,rfl,q⟩
theorem z5j:OpR X (compareOp .Lt) (rI0 λ i j=>.bl (decide (i<j))):=Bc λ _ _ _ _ _ _ _ q=>lt_int q
theorem z5k:OpR X (compareOp .LtE) (rI0 λ i j=>.bl (decide (i<=j))):=Bc λ _ _ _ _ _ _ _ q=>le_int q
theorem z5l:OpR X (compareOp .Gt) (rI0 λ i j=>.bl (decide (j<i))):=Bc λ _ _ _ _ _ _ _ q=>gt_int q
theorem z5m:OpR X (compareOp .GtE) (rI0 λ i j=>.bl (decide (j<=i))):=Bc λ _ _ _ _ _ _ _ q=>ge_int q
theorem UV:OpR X (compareOp .In) (λ x y H Q=>∃ i j,x=.str i/\y=.str j/\Q (.bl (!(Builtin.Str.occurrences j i 0 j.length 1).isEmpty)) H):=by
 intro pins s σ H x y v u Q I rx ry h;obtain ⟨i,j,rfl,rfl,q⟩:=h;obtain ⟨t,rfl⟩:=rx;obtain ⟨t',rfl⟩:=ry;exact in_str (Z9 I q rfl)
theorem OpR.or {f:Value->Value->Sem Value}{r r':R2}(h:OpR X f r)(h':OpR X f r'):OpR X f (λ x y H Q=>r x y H Q\/r' x y H Q):=by
 intro pins s σ H x y v u Q I rx ry q;rcases q with q | q
 ·exact h pins s σ H x y v u Q I rx ry q
 ·exact h' pins s σ H x y v u Q I rx ry q
theorem z7d (b:Expr){op:CmpOp}(h:op≠.In:=by decide)(h2:op≠.NotIn:=by decide):behindInMarks op b=false:=by
 have e1:(op==CmpOp.In)=false:=by cases op<;>first | rfl | exact absurd rfl h
 have e2:(op==CmpOp.NotIn)=false:=by cases op<;>first | rfl | exact absurd rfl h2
 cases b<;>simp [behindInMarks,e1,e2]
theorem U0 {op:CmpOp}{r:R2}(ho:OpR X (compareOp op) r)(ha:PE X a ta)(hb:PE X b tb)(hm:behindInMarks op b=false):PE X (.Compare a [op] [b] pos) (tOp r ta tb):=by
 intro pins s σ H Q I h;exact wpAny_Compare1 (z2k ha hb I h λ v u s2 x y H2 I2 rx ry q=>ho pins s2 σ H2 x y v u Q I2 rx ry q) hm
def G4 (t:TE):TT:=λ σ H Q=>t σ H λ x H'=>∃ k,x=.bl k/\Q k H'
theorem U1 {op:CmpOp}{r:R2}(ho:OpR X (compareOp op) r)(ha:PE X a ta)(hb:PE X b tb)(hm:behindInMarks op b=false):PT X (.Compare a [op] [b] pos) (G4 (tOp r ta tb)):=by
 intro pins s σ H Q I h;refine wpAny_isTrue_Compare1 (thn (ha pins s σ H _ I h) λ v s1 ⟨x,H1,I1,r1,q1⟩=>thn (hb pins s1 σ H1 _ I1 q1) λ u s2 ⟨y,H2,I2,r2,q2⟩ =>
  thn (ho pins s2 σ H2 x y v u _ I2 r1 r2 q2) λ c s3 ⟨z,H3,I3,r3,k,e,q3⟩=>?_) hm
 subst e;cases r3;exact wpAny_truthy_bool ⟨H3,I3,q3⟩
theorem Za:(sizeLine:Nat)<2 ^ 63:=by rw [sizeLine_eq];decide
theorem QW:OpR X (binaryOp .Add) (λ x y H Q=>∃ i j,x=.str i/\y=.str j/\i.length+j.length<=sizeLine/\Q (.str (i++j)) H):=by
 intro pins s σ H x y v u Q I rx ry h;obtain ⟨i,j,rfl,rfl,hz,q⟩:=h;obtain ⟨t,rfl⟩:=rx;obtain ⟨t',rfl⟩:=ry;exact add_str (λ t' tk=>⟨.str (i++j),H,I.tok _,⟨_,rfl⟩,q⟩) hz
theorem jI {x:V}{us:List Value}(r:Vals [x] us):∃ u,us=[u]/\RelV x u:=by
 cases r with
 | cons r1 r2=>cases r2;exact ⟨_,rfl,r1⟩
theorem z5n {x y:V}{us:List Value}(r:Vals [x,y] us):∃ u w',us=[u,w']/\RelV x u/\RelV y w':=by
 cases r with
 | cons r1 r2 =>
  cases r2 with
  | cons r3 r4=>cases r4;exact ⟨_,_,rfl,r1,r3⟩
theorem G5:CallR X (.builtin "abs") (λ xs H Q=>∃ i,xs=[.int i]/\Q (.int (if i<0 then -i else i)) H):=by
 intro pins s σ H xs us Q I r h;obtain ⟨i,rfl,q⟩:=h;obtain ⟨u,rfl,t,rfl⟩:=jI r;exact call_abs_int λ u tk=>⟨.int (if i<0 then -i else i),H,I.tok _,⟨_,rfl⟩,q⟩
theorem Jr:CallR X (.type "int") (λ xs H Q=>(∃ i,xs=[.int i]/\Q (.int i) H)\/∃ k,xs=[.bl k]/\Q (.int (if k then 1 else 0)) H):=by
 intro pins s σ H xs us Q I r h;rcases h with ⟨i,rfl,q⟩ | ⟨k,rfl,q⟩
 ·obtain ⟨u,rfl,t,rfl⟩:=jI r;exact call_int_int ⟨.int i,H,I,⟨_,rfl⟩,q⟩
 ·obtain ⟨u,rfl,r1⟩:=jI r;cases r1;exact call_int_bool ⟨.int (if k then 1 else 0),H,I.tok _,⟨_,rfl⟩,q⟩
theorem W4:CallR X (.type "str") (λ xs H Q=>∃ i,xs=[.int i]/\i.natAbs.log2<1920/\Q (.str (toString i)) H):=by
 intro pins s σ H xs us Q I r h;obtain ⟨i,rfl,hz,q⟩:=h;obtain ⟨u,rfl,t,rfl⟩:=jI r;exact PySem.P.str_of_int hz ⟨.str _,H,I.tok _,⟨_,rfl⟩,q⟩
def z7e (K:Y00)(x:V)(H:Hp)(n:Nat):Prop :=
 match x with
 | .str y=>y.length<=sizeLine/\n=y.length
 | .byt y=>y.size<=sizeLine/\n=y.size
 | .ref p=>(∃ xs,SqL K H p xs/\n=xs.length)\/∃ xs,SqT K H p xs/\n=xs.length
 | _=>False
theorem G6:CallR X (.builtin "len") (λ xs H Q=>∃ x n,xs=[x]/\z7e X.K x H n/\Q (.int n) H):=by
 intro pins s σ H xs us Q I r h;obtain ⟨x,n,rfl,e,q⟩:=h;obtain ⟨u,rfl,rx⟩:=jI r;have hl:=Za;have hs:sizeLine=16777216:=sizeLine_eq;cases x with
 | str y =>
  obtain ⟨t,rfl⟩:=rx;obtain ⟨hy,e'⟩:y.length<=sizeLine/\n=y.length:=e;subst e';exact len_str (by omega) ⟨.int _,H,I.tok _,⟨_,rfl⟩,q⟩
 | byt y =>
  obtain ⟨t,rfl⟩:=rx;obtain ⟨hy,e'⟩:y.size<=sizeLine/\n=y.size:=e;subst e';exact PySem.W.len_bytes (by omega) ⟨.int _,H,I.tok _,⟨_,rfl⟩,q⟩
 | ref p =>
  cases rx;have e':(∃ xs,SqL X.K H p xs/\n=xs.length)\/∃ xs,SqT X.K H p xs/\n=xs.length:=e;rcases e' with ⟨xs,hx,e'⟩ | ⟨xs,hx,e'⟩
  ·subst e';obtain ⟨its,r',pl,hz⟩:=I.list hx;have hlen:=r'.length;exact Calls.call_len_list pl.isList (by simp only [Y0d];omega) ⟨.int xs.length,H,I.tok _,⟨_,by simp only [Y0d];rw [hlen]⟩,q⟩
  ·subst e';obtain ⟨its,r',pl,hz⟩:=I.tuple hx;have hlen:=r'.length;exact len_tuple pl (by simp only [Y0d];omega) ⟨.int xs.length,H,I.tok _,⟨_,by simp only [Y0d];rw [hlen]⟩,q⟩
 | _=>exact (show False from e).elim
end
structure ObjM (h:Heap)(x dx C:Addr)(mA:Str->Option Value):Prop where
 obj:h.get? x=some (PySem.W.instObj C dx)
 ns:h.Ns1 dx mA
 ne:dx≠x
theorem UW {h:Heap}{dx:Addr}{mA:Str->Option Value}(n:h.Ns1 dx mA):∃ od,h.get? dx=some od/\∀ name,PySem.W.lookIn name od=some (mA name):=by
 obtain ⟨o,es,ep,ho,hd,hk,_,hm⟩:=n;refine ⟨o,ho,λ name=>?_⟩;have e:=hm name;unfold nsFind findBy at e;rw [<- Array.find?_toList] at e;unfold PySem.W.lookIn;rw [hd];dsimp only
 split
 ·rename_i y q;rw [q] at e;exact congrArg some e
 ·rename_i q;rw [q] at e;have a:es.toList.any (·.refKey)=false:=by
   rw [List.any_eq_false];intro y hy;obtain ⟨z,t,hkey⟩:=hk y (Array.mem_toList_iff.mp hy);simp [DictEntry.refKey,hkey]
  have a':¬ es.toList.any (·.refKey)=true:=by rw [a];exact Y0s
  rw [if_neg a'];exact congrArg some e
theorem ObjM.look {h:Heap}{x dx C:Addr}{mA:Str->Option Value}(I:ObjM h x dx C mA):∃ od,PySem.W.InstAt h x (PySem.W.instObj C dx) C (some od)/\∀ name,PySem.W.lookIn name od=some (mA name) :=
 let ⟨od,ho,hl⟩:=UW I.ns
 ⟨od,⟨I.obj,rfl,rfl,ho⟩,hl⟩
def z2t (f:Str)(v:V):List (Str×V)->List (Str×V)
 | []=>[(f,v)]
 | (g,x)::r=>if g=f then (g,v)::r else (g,x)::z2t f v r
theorem RelO.some_of {v:V}{o:Option Value}(r:RelO (some v) o):∃ u,o=some u/\RelV v u:=by
 cases o with
 | none=>exact (show False from r).elim
 | some u=>exact ⟨u,rfl,r⟩
section
variable {P:Program}{w:World}{H H':Hp}{h h':Heap}{a C dx:Addr}{fs fs':List (Str×V)}
theorem Bd (hok:HOk P w H h)(e:H a=some (.ins C dx fs)):∃ mA,ObjM h a dx C mA/\(∀ f,RelO (fs.lookup f) (mA f))/\PySem.Within mA (fs.map (·.1))/\fs.length<=1000/\H dx=some (.own a):=by
 obtain ⟨d,z,ne,ob,mA,n,r,q⟩:=(show ObjOk P w H h a (.ins C dx fs) from hok a _ e);exact ⟨mA,⟨ob,n,ne⟩,r,q,z,d⟩
end
structure Cls (K:Y00)(C:Addr):Prop where
 pg:PySem.W.plainGet K C Str.empty=true
 hd:PySem.W.hasDictIn K C=true
 po:PySem.W.plainOver K C=true
 sa:PySem.W.findIn K (.ref C) "__setattr__"=some (some (.builtin "object.__setattr__"))
theorem Cls.get {K:Y00}{C:Addr}(c:Cls K C)(f:Str):PySem.W.plainGet K C f=true:=c.pg
def z2u (K:Y00)(C:Addr)(f:Str):Prop:=PySem.W.findIn K (.ref C) f=some none
structure Con (K:Y00)(C:Addr)(f:Str)(v:V)(u:Value):Prop where
 at_:PySem.W.findIn K (.ref C) f=some (some u)
 rel:RelV v u
 get:PySem.W.specialIn K u "__get__"=some none
 cp:PySem.W.copiedNames.contains f=false
structure Meth (K:Y00)(C:Addr)(m:Str)(f:Addr):Prop where
 at_:PySem.W.findIn K (.ref C) m=some (some (.ref f))
 fn:PySem.W.isFn K (.ref f)=true
 kp:PySem.W.keepIn K (.ref f)=true
section
variable {X:Cx}{pins:List (Addr×Obj)}{σ:St}{H:Hp}{s:Shared}{a C dx:Addr}{fs:List (Str×V)}{f:Str}{v:V}{A:Around}{E:Value->Shared->Prop}
theorem Inv.made (I:Inv X pins σ H s):Inv X pins σ (upd (upd H s.heap.objs.size (.own (s.heap.objs.size+1))) (s.heap.objs.size+1) (.ins C s.heap.objs.size []))
    { s with heap:=(s.heap.push PySem.W.emptyDict).push (PySem.W.instObj C s.heap.objs.size) }:=by
  have e1:(s.heap.push PySem.W.emptyDict).get? s.heap.objs.size=some PySem.W.emptyDict:=Y0i s.heap rfl;have e2:((s.heap.push PySem.W.emptyDict).push (PySem.W.instObj C s.heap.objs.size)).get? (s.heap.objs.size+1)=some (PySem.W.instObj C s.heap.objs.size):=by
    have:=Y0i (s.heap.push PySem.W.emptyDict) (o:=PySem.W.instObj C s.heap.objs.size) rfl
    rwa [Y1n] at this
  have e3:(s.heap.push PySem.W.emptyDict).Ns s.heap.objs.size (λ _=>none):=⟨PySem.W.emptyDict,#[],_,e1,rfl,(λ e he=>absurd he (by simp)),λ _=>rfl⟩;have I1:=I.laid (a:=s.heap.objs.size) (o:=.own (s.heap.objs.size+1)) (h':=s.heap.push PySem.W.emptyDict) (t':=s.toks) (λ b u q=>Y02 _ q) (Y09 _) ⟨_,e1⟩;refine I1.laid (a:=s.heap.objs.size+1) (o:=.ins C s.heap.objs.size []) (t':=s.toks) (λ b u q=>Y02 _ q) (Y2y (Y1n _ _)) ?_;have ne:s.heap.objs.size≠s.heap.objs.size+1:=Y0r (Y2d _);refine ⟨by rw [zq ne,zu],Y1u _,ne,e2,λ _=>none,(Heap.Ns1.of_empty e3).at λ o q=>Y02 _ q,λ _=>True.intro,λ y hy=>absurd rfl hy⟩
end
section
variable {X:Cx}{pins:List (Addr×Obj)}{σ:St}{H:Hp}{s:Shared}{A:Around}{E:Value->Shared->Prop}{Q:Value->Shared->Prop}{c:Value}{b:Bool}
inductive TyOf (K:Y00)(H:Hp):V->Value->Prop where
 | non:TyOf K H .non (.type "NoneType")
 | bl (x:Bool):TyOf K H (.bl x) (.type "bool")
 | int (i:Int):TyOf K H (.int i) (.type "int")
 | str (x:Str):TyOf K H (.str x) (.type "str")
 | flt (x:UInt64):TyOf K H (.flt x) (.type "float")
 | lst {a:Addr}{xs:List V} (e:H a=some (.lst xs)):TyOf K H (.ref a) (.type "list")
 | frz {a:Addr}{o:Obj}{xs:List V} (e:H a=some (.frz o (.lst xs))):TyOf K H (.ref a) (.type "list")
 | tup {a:Addr}{xs:List V} (e:H a=some (.tup xs)):TyOf K H (.ref a) (.type "tuple")
 | dK {a:Addr}{kvs:List (Key×V)} (e:H a=some (.dK kvs)):TyOf K H (.ref a) (.type "dict")
 | dT {a:Addr}{kvs:List (List Key×V)} (e:H a=some (.dT kvs)):TyOf K H (.ref a) (.type "dict")
 | ins {a C dx:Addr}{fs:List (Str×V)} (e:H a=some (.ins C dx fs)) (cl:Cls K C) (ha:PySem.W.findIn K (.ref C) "__class__"=some (some (.builtin "object.__class__")))
   (hn:PySem.W.specialIn K (.builtin "object.__class__") "__get__"=some (some (.builtin "getset_descriptor.__get__"))) (htk:PySem.W.takesIn K (.builtin "object.__class__")=some true)
   (hm:PySem.W.mroIn K C (.type "object")=some true):TyOf K H (.ref a) (.ref C)
theorem wX {x:V}{u t:Value}(I:Inv X pins σ H s)(rx:RelV x u)(ty:TyOf X.K H x t)(e:PySem.W.kitOne X.K t c=some b)(h:∀ tk,Q (.bool b) { s with toks:=tk }) :
  wpAny (model X.prog X.w) A (call (.builtin "isinstance") [u,c]) Q E s:=by
 cases ty with
 | non=>cases (show u=Value.none from rx);exact Y17 PySem.W.kitx_none I.kIn True.intro e (λ z=>nomatch z) h
 | bl y=>cases (show u=Value.bool y from rx);exact Y17 PySem.W.kitx_bool I.kIn True.intro e (λ z=>nomatch z) h
 | int i=>obtain ⟨t,q⟩:=(show ∃ t,u=Value.int i t from rx);cases q;exact Y17 PySem.W.kitx_int I.kIn True.intro e (λ z=>nomatch z) h
 | str y=>obtain ⟨t,q⟩:=(show ∃ t,u=Value.str y t from rx);cases q;exact Y17 PySem.W.kitx_str I.kIn True.intro e (λ z=>nomatch z) h
 | flt y=>obtain ⟨t,q⟩:=(show ∃ t,u=Value.float y t from rx);cases q;exact Y17 PySem.W.kitx_float I.kIn True.intro e (λ z=>nomatch z) h
 | @lst a xs ea =>
  cases (show u=Value.ref a from rx);obtain ⟨_,_,n,_,h1⟩:=(show ObjOk X.prog X.w H s.heap a (.lst xs) from I.hok a _ ea);exact Y17 Y2n I.kIn ⟨_,h1,rfl⟩ e (λ z=>nomatch z) h
 | @frz a ob xs ea =>
  cases (show u=Value.ref a from rx);obtain ⟨_,_,_,n,_,h1⟩:=(show ObjOk X.prog X.w H s.heap a (.frz ob (.lst xs)) from I.hok a _ ea);exact Y17 Y2n I.kIn ⟨_,h1,rfl⟩ e (λ z=>nomatch z) h
 | @tup a xs ea =>
  cases (show u=Value.ref a from rx);obtain ⟨_,_,_,p⟩:=(show ObjOk X.prog X.w H s.heap a (.tup xs) from I.hok a _ ea);obtain ⟨o,h1,h2,_⟩:=p;exact Y17 PySem.W.kitx_tuple I.kIn ⟨o,h1,h2⟩ e (λ z=>nomatch z) h
 | @dK a kvs ea =>
  cases (show u=Value.ref a from rx);obtain ⟨_,_,vs,_,p⟩:=(show ObjOk X.prog X.w H s.heap a (.dK kvs) from I.hok a _ ea);obtain ⟨o,es,ep,h1,h2,_⟩:=p;exact Y17 PySem.W.kitx_dict I.kIn ⟨o,h1,h2.1⟩ e (λ z=>nomatch z) h
 | @dT a kvs ea =>
  cases (show u=Value.ref a from rx);obtain ⟨_,_,xs,_,o,es,ep,h1,h2,_⟩:=(show ObjOk X.prog X.w H s.heap a (.dT kvs) from I.hok a _ ea);exact Y17 PySem.W.kitx_dict I.kIn ⟨o,h1,h2.1⟩ e (λ z=>nomatch z) h
 | @ins a C dx fs ea cl ha hn htk hm =>
  cases (show u=Value.ref a from rx);obtain ⟨mA,O,_⟩:=Bd I.hok ea;obtain ⟨od,J,_⟩:=O.look;exact Y17 (PySem.W.kitx_own (cl.get _) cl.hd ha hn htk hm) I.kIn J e (λ z=>nomatch z) h
end
structure Room (k:Nat)(A:Around):Prop where
 hd:A.handled=none
 dp:A.depth+3*k+5<recursionLimit
 un:A.units+16*k+200<cLine
theorem Room.mono {j k:Nat}{A:Around}(r:Room k A)(h:j<=k):Room j A:=⟨r.hd,by have:=r.dp;omega,by have:=r.un;omega⟩
theorem Room.deeper {k:Nat}{A:Around}(r:Room (k+1) A)(env:Env):Room k (A.deeper env) :=
 ⟨r.hd,by have:=r.dp;show A.depth+1+3*k+5<_;omega,by have:=r.un;show A.units+3+16*k+200<_;omega⟩
theorem Room.in1 {k:Nat}{A:Around}(r:Room (k+1) A):Room k A.in1 :=
 ⟨r.hd,by have:=r.dp;show A.depth+3*k+5<_;omega,by have:=r.un;show A.units+1+16*k+200<_;omega⟩
theorem QX {A:Around}{C:Addr}{us:List Value}{kw:List (Str×Value)}:(A.under (.builtin "type.__call__" ⟨.ref C::us,kw⟩)).depth=A.depth+1:=by
 first | rfl | simp [Around.under,Code.weight,Code.isCreation,Code.isGuard,Code.isCaller,Code.frames,Code.isFrame,guardIds]
theorem QY {A:Around}{C:Addr}{us:List Value}{kw:List (Str×Value)}:(A.under (.builtin "type.__call__" ⟨.ref C::us,kw⟩)).units=A.units+1:=by
 first | rfl | simp [Around.under,Code.cUnits,Code.frames,Code.isFrame]
theorem Room.make {k:Nat}{A:Around}(r:Room (k+1) A)(C:Addr)(us:List Value)(kw:List (Str×Value)):Room k (A.under (.builtin "type.__call__" ⟨.ref C::us,kw⟩)) :=
 ⟨r.hd,by have:=r.dp;rw [QX];omega,by have:=r.un;rw [QY];omega⟩
theorem Room.depth {k:Nat}{A:Around}(r:Room k A):A.depth<recursionLimit:=by have:=r.dp;omega
theorem Room.units {k:Nat}{A:Around}(r:Room k A):A.units+64<cLine:=by have:=r.un;omega
def z7f:TA:=λ _ H Q=>Q [] H
def z1c (ta:TE)(tr:TA):TA:=λ σ H Q=>ta σ H λ x H1=>tr σ H1 λ xs H2=>Q (x::xs) H2
section
variable {X:Cx}{e:Expr}{es:List Expr}{te:TE}{t:TA}{pos:Pos}
theorem zJ:PA X [] z7f:=λ _ _ _ _ H Q I h=>Calls.spliced_nil ⟨[],H,I,.nil,h⟩
theorem zx (ha:PE X e te)(hr:PA X es t)(hs:starEach (e::es) X.env=(false,eval e X.env)::starEach es X.env:=by rfl):PA X (e::es) (z1c te t):=by
 intro pos pins s σ H Q I h;rw [hs];show wpAny _ _ (spliced ((false,eval e X.env)::backTo pos (starEach es X.env))) _ _ s;refine Calls.spliced_cons (thn (ha pins s σ H _ I h) λ u s1 ⟨x,H1,I1,r1,q1⟩=>?_);exact thn (hr pos pins s1 σ H1 _ I1 q1) λ us s2 ⟨xs,H2,I2,r2,q2⟩=>⟨x::xs,H2,I2,.cons r1 r2,q2⟩
def z7g (t:TA):TE:=λ σ H Q=>t σ H λ xs H1=>xs.length<=sizeLine/\∀ p,H1 p=none->Q (.ref p) (upd H1 p (.tup xs))
def z7h (t:TA):TE:=λ σ H Q=>t σ H λ xs H1=>xs.length<=sizeLine/\∀ p,H1 p=none->Q (.ref p) (upd H1 p (.lst xs))
theorem z2v {x1}(h:PA X es t):PE X (.Tuple es x1 pos) (z7g t):=by
 intro pins s σ H Q I hq;refine wpAny_Tuple_spliced (thn (h pos pins s σ H _ I hq) λ us s1 ⟨xs,H1,I1,r,z,q⟩=>⟨by rw [<- r.length];exact z,?_⟩);have hf:H1 s1.heap.objs.size=none:=I1.hok.fresh (Y09 _);refine ⟨.ref s1.heap.objs.size,upd H1 s1.heap.objs.size (.tup xs),I1.laid (t':=s1.toks) (λ b u e=>Y02 _ e) (Y09 _) ?_,rfl,q _ hf⟩;exact ⟨z,us,r,⟨_,Y0i _ rfl,rfl,_,rfl⟩⟩
theorem QZ (h:PA X es t):PE X (.List es pos) (z7h t):=by
 intro pins s σ H Q I hq;refine wpAny_List_spliced (thn (h pos pins s σ H _ I hq) λ us s1 ⟨xs,H1,I1,r,z,q⟩=>⟨by rw [<- r.length];exact z,?_⟩);have hf:H1 s1.heap.objs.size=none:=I1.hok.fresh (Y09 _);refine ⟨.ref s1.heap.objs.size,upd H1 s1.heap.objs.size (.lst xs),I1.laid (t':=s1.toks) (λ b u e=>Y02 _ e) (Y09 _) ?_,rfl,q _ hf⟩;exact ⟨z,us,0,r,Y0i _ rfl⟩
end
abbrev Sp:=List V->Hp->VK->XK->Prop
abbrev CXT:=List Env->Hp->Shared->XK->Value->Shared->Prop
structure Env0 (P:Program)(w:World)(K:Y00)(mg:Str->Option Value)(base:Heap)(A:Around)(outer:List Env)(s:Shared)(H:Hp):Prop where
 frames:A.frames=some outer
 mod:Mod K mg base
 bs:∀ b o,base.get? b=some o->s.heap.get? b=some o/\H b=none
 bsz:base.objs.size<=s.heap.objs.size
 funs:s.heap.FunFrames base outer
 frf:∀ b∈frs outer,H b=none
 hok:HOk P w H s.heap
 bare:AllBare s.gens
def CE (outer:List Env)(P:Program)(w:World)(H:Hp)(s:Shared)(Q:VK)(u:Value)(s':Shared):Prop :=
 ∃ v H',s'.os=s.os/\AllBare s'.gens/\Un (frs outer) [] H H' s.heap s'.heap/\HOk P w H' s'.heap/\RelV v u/\Q v H'
def CR (CX:CXT)(outer:List Env)(P:Program)(w:World)(H:Hp)(s:Shared)(Q:VK)(E:XK)(r:Result)(s':Shared):Prop :=
 match r with
 | .ok (.ret u)=>CE outer P w H s Q u s'
 | .ok _=>False
 | .error e=>CX outer H s E e s'
structure FnOk (P:Program)(w:World)(K:Y00)(mg:Str->Option Value)(base:Heap)(CX:CXT)(k:Nat)(f:Addr)(fd:FuncData)(ps:List Str)(sp:Sp):Prop where
 len:∀ vs H Q E,sp vs H Q E->vs.length=ps.length
 run:∀ (A:Around) (outer:List Env) (s:Shared) (H:Hp) (args:Args) (us:List Value) (vs:List V) (Q:VK) (E:XK),Room k A->Env0 P w K mg base A outer s H->BindsTo s fd args (ps.zip us)->Vals vs us->sp vs H Q E ->
  codeAny (model P w) A (.call (.ref f) args) (CR CX outer P w H s Q E) s
theorem FnOk.mono {P:Program}{w:World}{K:Y00}{mg:Str->Option Value}{base:Heap}{CX:CXT}{j k:Nat}{f:Addr}{fd:FuncData}{ps:List Str}{sp:Sp}(F:FnOk P w K mg base CX j f fd ps sp)(h:j<=k) :
  FnOk P w K mg base CX k f fd ps sp:=⟨F.len,λ A outer s H args us vs Q E hr=>F.run A outer s H args us vs Q E (hr.mono h)⟩
theorem FnOk.imp {P:Program}{w:World}{K:Y00}{mg:Str->Option Value}{base:Heap}{CX:CXT}{k:Nat}{f:Addr}{fd:FuncData}{ps:List Str}{sp sp':Sp}(F:FnOk P w K mg base CX k f fd ps sp)
  (h:∀ vs H Q E,sp' vs H Q E->sp vs H Q E):FnOk P w K mg base CX k f fd ps sp' :=
 ⟨λ vs H Q E q=>F.len vs H Q E (h _ _ _ _ q),λ A outer s H args us vs Q E hr he hb hv hs=>F.run A outer s H args us vs Q E hr he hb hv (h _ _ _ _ hs)⟩
theorem Env0.make {P:Program}{w:World}{K:Y00}{mg:Str->Option Value}{base:Heap}{A:Around}{outer:List Env}{s:Shared}{H:Hp}(e:Env0 P w K mg base A outer s H)(C:Addr)(us:List Value)(kw:List (Str×Value)) :
  Env0 P w K mg base (A.under (.builtin "type.__call__" ⟨.ref C::us,kw⟩)) outer s H:=⟨by first | exact e.frames | (simpa [Around.under,Code.envs,Code.isFrame,pushEnvs] using e.frames),e.mod,e.bs,e.bsz,e.funs,e.frf,e.hok,e.bare⟩
theorem Env0.in1 {P:Program}{w:World}{K:Y00}{mg:Str->Option Value}{base:Heap}{A:Around}{outer:List Env}{s:Shared}{H:Hp}(e:Env0 P w K mg base A outer s H) :
  Env0 P w K mg base A.in1 outer s H:=⟨e.frames,e.mod,e.bs,e.bsz,e.funs,e.frf,e.hok,e.bare⟩
section
variable {X:Cx}{pins:List (Addr×Obj)}{σ:St}{H:Hp}{s s':Shared}
theorem Inv.env0 (I:Inv X pins σ H s):Env0 X.prog X.w X.K X.mg X.base X.A X.stack s H :=
 ⟨I.ok.frames,I.ok.mod,I.bs,Y0t I.ok.bsz I.sz,I.stack,I.stkFree,I.hok,I.bare⟩
theorem Inv.after {Q:VK}{u:Value}(I:Inv X pins σ H s)(h:CE X.stack X.prog X.w H s Q u s'):EP X pins σ Q u s':=by
 obtain ⟨v,H',os,bare,un,hok,r,q⟩:=h;obtain ⟨hh,g,d,t,os'⟩:=s';obtain rfl:os'=s.os:=os;exact ⟨v,H',I.call (h':=hh) (g':=g) (d':=d) (t':=t) (ch:=[]) un hok bare (λ b z=>absurd z (by simp)),r,q⟩
end
def Binds (K:Y00)(fd:FuncData)(ps:List Str)(ds:List Value):Prop :=
 ∀ (s:Shared) (us:List Value),K.In s.heap->(us++ds).length=ps.length->BindsTo s fd ⟨us,[]⟩ (ps.zip (us++ds))
theorem Binds.all {K:Y00}{fd:FuncData}{ps:List Str}(h:∀ us:List Value,us.length=ps.length->bindArgs fd ⟨us,[]⟩=pure (ps.zip us)):Binds K fd ps []:=λ s us _ hl=>by
 rw [Y14] at hl ⊢;exact .of_eq (h us hl)
section
variable {X:Cx}{CX:CXT}{k:Nat}{f C:Addr}{fd:FuncData}{ps:List Str}{sp:Sp}{dvs:List V}{ds:List Value}{E:XK}{x m:Str}{p pos apos:Pos}{e o:Expr}{es:List Expr}{ta:TE}{t:TA}
structure Mk (K:Y00)(C f:Addr):Prop where
 makes:PySem.W.makesIn K C=true
 init:PySem.W.findIn K (.ref C) "__init__"=some (some (.ref f))
 fn:PySem.W.isFn K (.ref f)=true
 kp:PySem.W.keepIn K (.ref C)=true
end
section
variable {X:Cx}{CX:CXT}{k:Nat}{f C:Addr}{fd:FuncData}{ps ks:List Str}{sp:Sp}{E:XK}{x m:Str}{p pos apos kpos:Pos}{e o:Expr}{es:List Expr}{kws:List Keyword}{te ta:TE}{t tk:TA}{nm:Option Str}
structure KBinds (K:Y00)(fd:FuncData)(ps ks:List Str)(g:List Value->List Value->List Value)(gV:List V->List V->List V):Prop where
 to:∀ (s:Shared) (us ws:List Value),K.In s.heap->(g us ws).length=ps.length->BindsTo s fd ⟨us,ks.zip ws⟩ (ps.zip (g us ws))
 rel:∀ {vs:List V}{us:List Value}{zs:List V}{ws:List Value},Vals vs us->Vals zs ws->Vals (gV vs zs) (g us ws)
variable {g:List Value->List Value->List Value}{gV:List V->List V->List V}
end
structure FnScope (N P:List Str)(sc:Scope):Prop where
 kind:sc.kind=.function
 co:sc.isCoroutine=false
 gen:sc.isGenerator=false
 nd:N.Nodup
 pre:N.take P.length=P
 par:∀ x∈P,sc.names.lookup x=some .local\/sc.names.lookup x=some .cell
 nofree:∀ y∈sc.names,y.2≠.free
theorem Js {kindOf:Str->Option NameKind}{x:Str}:∀ {binds:List (Str×Value)}{m:Str->Option Value},(∀ v,(x,v)∉binds)->bindL kindOf binds m x=m x
 | [],_,_=>rfl
 | (n,v)::r,m,h=>by
  unfold bindL;rw [Js λ w hw=>h w (Y06 _ hw)]
  split
  ·have:x≠n:=by rintro rfl;exact h v Y08
   simp [this]
  ·rfl
theorem Jt {kindOf:Str->Option NameKind}{x:Str}:∀ {binds:List (Str×Value)}{m:Str->Option Value},(∀ v,(x,v)∉binds)->bindC kindOf binds m x=m x
 | [],_,_=>rfl
 | (n,v)::r,m,h=>by
  unfold bindC;rw [Jt λ w hw=>h w (Y06 _ hw)]
  split
  ·rfl
  ·have:x≠n:=by rintro rfl;exact h v Y08
   simp [this]
theorem Ju {kindOf:Str->Option NameKind}{x:Str}{v:Value}:∀ {P:List Str}{vs:List Value}{i:Nat}{m:Str->Option Value},P.Nodup->P[i]?=some x->vs[i]?=some v->kindOf x=some .local ->
  bindL kindOf (P.zip vs) m x=some v
 | [],_,_,_,_,h,_,_=>by simp at h
 | _::_,[],_,_,_,_,h,_=>by simp at h
 | p::P,w::vs,0,m,nd,h1,h2,hk=>by
  simp at h1 h2;subst h1;subst h2;show bindL kindOf ((p,w)::P.zip vs) m p=_;unfold bindL;rw [Js λ v hv=>(Y31.mp nd).1 (Y30 hv).1,if_pos hk];simp
 | p::P,w::vs,i+1,m,nd,h1,h2,hk=>by
  show bindL kindOf ((p,w)::P.zip vs) m x=_;unfold bindL;exact Ju (i:=i) (Y31.mp nd).2 (by simpa using h1) (by simpa using h2) hk
theorem Jv {kindOf:Str->Option NameKind}{x:Str}{v:Value}:∀ {P:List Str}{vs:List Value}{i:Nat}{m:Str->Option Value},P.Nodup->P[i]?=some x->vs[i]?=some v->kindOf x≠some .local ->
  bindC kindOf (P.zip vs) m x=some v
 | [],_,_,_,_,h,_,_=>by simp at h
 | _::_,[],_,_,_,_,h,_=>by simp at h
 | p::P,w::vs,0,m,nd,h1,h2,hk=>by
  simp at h1 h2;subst h1;subst h2;show bindC kindOf ((p,w)::P.zip vs) m p=_;unfold bindC;rw [Jt λ v hv=>(Y31.mp nd).1 (Y30 hv).1,if_neg hk];simp
 | p::P,w::vs,i+1,m,nd,h1,h2,hk=>by
  show bindC kindOf ((p,w)::P.zip vs) m x=_;unfold bindC;exact Jv (i:=i) (Y31.mp nd).2 (by simpa using h1) (by simpa using h2) hk
def start (N:List Str)(vs:List V):St:=vs.map some++List.replicate (N.length-vs.length) none
def qL (CX:CXT)(P:Program)(w:World)(K:Y00)(mg:Str->Option Value)(base:Heap)(N:List Str)(qual:Str)(scope:Scope)(f:Addr)(cd:Value)(A:Around)(outer:List Env)(s:Shared)(H:Hp)(E:XK):Cx where
 prog:=P
 w:=w
 K:=K
 mg:=mg
 base:=base
 A:=A.deeper (envOfC qual scope s.heap.objs.size f cd)
 N:=N
 s₀:=s
 H₀:=H
 env:=envOfC qual scope s.heap.objs.size f cd
 outer:=outer
 stack:=envOfC qual scope s.heap.objs.size f cd::outer
 ex:=[]
 calm:=true
 fn:=λ _=>true
 pn:=[]
 xe:=λ e s'=>wpAny (model P w) (A.deeper (envOfC qual scope s.heap.objs.size f cd)) (leaving (envOfC qual scope s.heap.objs.size f cd) e) (λ _ s''=>CX outer H s E e s'') (λ e' s''=>CX outer H s E e' s'') s'
theorem WU {sc:Scope}{n:Nat}{x:Str}(h:sc.names.lookup x=some .cell):∃ c,(cellsFrom n sc.names []).lookup x=some c:=by
 have q:=Y1x sc.names n [] (.inl h);exact Y22.mp q
theorem yh {CX:CXT}{P:Program}{w:World}{K:Y00}{mg:Str->Option Value}{base:Heap}{N ps:List Str}{qual:Str}{scope:Scope}{f:Addr}{cd:Value}{A:Around}{outer:List Env}{s s1:Shared}{H:Hp}{E:XK}{us:List Value}{vs:List V}
  (S:FnScope N ps scope) (hd:A.handled=none) (e0:Env0 P w K mg base A outer s H) (hl:vs.length=ps.length) (r:Vals vs us)
  (x:InCallC s s.heap.objs.size (bindL (envOfC qual scope s.heap.objs.size f cd).kindOf (ps.zip us) λ _=>none) (cellsFrom (s.heap.objs.size+1) scope.names []) (bindC (envOfC qual scope s.heap.objs.size f cd).kindOf (ps.zip us) λ _=>none) s1) :
  Inv (qL CX P w K mg base N qual scope f cd A outer s H E) [] (start N vs) H s1:=by
 have hpl:ps.length<=N.length:=by have:=congrArg List.length S.pre;rw [Y21] at this;omega
 obtain ⟨h1,tk,rfl,hk⟩:=x.done;have noA:∀ b:Addr,b∉(qL CX P w K mg base N qual scope f cd A outer s H E).ex:=λ b z=>absurd (show b∈([]:List Addr) from z) (by simp);refine ⟨⟨e0.mod,S.kind,rfl,rfl,Y09 _,λ y z c h1 h2=>?_,λ y hy=>?_,λ y c _ h=>?_,λ _=>hd,Around.frames_deeper e0.frames,.inr ⟨rfl,rfl⟩,λ b z=>absurd z (noA b),e0.bs,e0.bsz,λ b _ _=>noA b,λ b z=>absurd z (noA b),e0.funs,e0.frf⟩,
  rfl,e0.bare,Un.kept hk,⟨_,x.toInCall.ns,λ i y v h1 h2 h3=>?_⟩,λ y c h=>⟨_,x.cell y c h⟩,e0.hok.fresh (Y09 _),λ y c h=>?_,λ p hp=>absurd (show p∈([]:List (Addr×Obj)) from hp) (by simp),e0.hok.kept hk,?_⟩
 ·exact name_of_addr x.apart (Y0y h1) (Y0y h2)
 ·have hy:scope.names.lookup y=some .cell\/scope.names.lookup y=some .free:=hy;rcases hy with hy | hy
  ·exact WU hy
  ·exact absurd rfl (S.nofree _ (Y0y hy))
 ·exact Y2i (x.above y c (Y0y h))
 ·have hi:i<vs.length:=by
   unfold start at h2;by_cases hi:i<vs.length
   ·exact hi
   ·rw [Y0w (by simpa using hi)] at h2;rw [List.getElem?_replicate] at h2;split at h2<;>cases h2
  have ha:vs[i]?=some v:=by
   unfold start at h2;rw [Y18 (by simpa using hi),Y13] at h2;cases e:vs[i]? with
   | none=>rw [e] at h2;cases h2
   | some a=>rw [e] at h2;cases h2;rfl
  obtain ⟨u,hu,rv⟩:=r.get ha;have hp:ps[i]?=some y:=by
   rw [<- S.pre,List.getElem?_take_of_lt (by omega)];exact h1
  have ndP:ps.Nodup:=by rw [<- S.pre];exact S.nd.sublist (List.take_sublist _ _)
  refine ⟨u,rv,?_⟩;rcases S.par y (Y1k hp) with k | k
  ·exact .inl ⟨k,Ju ndP hp hu k⟩
  ·obtain ⟨c,e⟩:=WU (n:=s.heap.objs.size+1) k;refine .inr ⟨.inl k,c,e,?_⟩;have q:=x.cell y c e;rw [Jv ndP hp hu (by show scope.names.lookup y≠_;rw [k];decide)] at q;exact q
 ·exact e0.hok.fresh (Y2i (x.above y c (Y0y h)))
 ·unfold start;show _=N.length;rw [Y03,Y0c,List.length_replicate];omega
theorem z1d {CX:CXT}{P:Program}{w:World}{K:Y00}{mg:Str->Option Value}{base:Heap}{k:Nat}{f:Addr}{name qual:Str}{params:Arguments}{body:List Stmt}{scope:Scope}{dV kV doc pm cdv ct oc:Value}{an od:Option Addr}
  {osl:Array (Option Value)}{N ps:List Str}{sp:Sp} (lk:K.lookup f=some ⟨oc,od,.func (PySem.W.fnOf name qual params body scope dV kV doc pm an cdv ct),osl⟩) (hcd:PySem.W.codeIn K cdv qual=true) (S:FnScope N ps scope)
  (len:∀ vs H Q E,sp vs H Q E->vs.length=ps.length)
  (hbody:∀ (A:Around) (outer:List Env) (s:Shared) (H:Hp) (vs:List V) (Q:VK) (E:XK),Room k (A.deeper (envOfC qual scope s.heap.objs.size f cdv))->sp vs H Q E ->
   ∃ t,PSs (qL CX P w K mg base N qual scope f cdv A outer s H E) body t/\t { nx:=λ _ H'=>Q .non H',rt:=Q } (start N vs) H) :
  FnOk P w K mg base CX (k+1) f (PySem.W.fnOf name qual params body scope dV kV doc pm an cdv ct) ps sp:=by
 refine ⟨len,λ A outer s H args us vs Q E hr e0 hb r hsp=>?_⟩;have hl:=len _ _ _ _ hsp;have KX:K.In s.heap:=e0.mod.kin.keeps λ b o e=>(e0.bs b o e).1;have lim:s.heap.NoLimit:=e0.mod.nolimit.keeps λ b o e=>(e0.bs b o e).1;have hkind:∀ y∈ps.zip us,scope.names.lookup y.1=some .local\/(scope.names.lookup y.1=some .cell/\((cellsFrom (s.heap.objs.size+1) scope.names []).lookup y.1).isSome=true):=λ ⟨n,v⟩ hy=>by
  rcases S.par n (Y30 hy).1 with q | q
  ·exact .inl q
  ·exact .inr ⟨q,Y1x _ _ _ (.inl q)⟩
 refine codeAny_call_function hr.depth (KX _ _ lk) rfl S.co S.gen rfl (PySem.W.codeRec_of KX hcd) (hb _ _ _ _ ?_);refine wpAny_newFunctionEnv_cells S.kind hkind λ env he s1 x=>?_;subst he;refine ⟨lim.keeps x.toInCall.keep,codeAny_func ?_⟩;obtain ⟨t,ht,hq⟩:=hbody A outer s H vs Q E (hr.deeper _) hsp;have I:Inv (qL CX P w K mg base N qual scope f cdv A outer s H E) [] (start N vs) H s1:=yh S hr.hd e0 hl r x;refine wpAny_mono (ht [] s1 (start N vs) H _ I hq) (λ fl s' hs=>?_) λ e s' hs=>hs;have fin:∀ {σ':St}{H':Hp}{v:V}{u:Value},Inv (qL CX P w K mg base N qual scope f cdv A outer s H E) [] σ' H' s'->RelV v u->Q v H'->CE outer P w H s Q u s' :=
  λ {σ' H' v u} J rv q=>⟨v,H',J.os,J.bare,J.base,J.hok,rv,q⟩
 cases fl with
 | ret u =>
  obtain ⟨v,σ',H',J,rv,q⟩:=hs;exact fin J rv q
 | next =>
  obtain ⟨σ',H',J,q⟩:=hs;exact fin (v:=V.non) (u:=Value.none) J rfl q
 | brk =>
  obtain ⟨_,_,_,q⟩:=hs;exact False.elim q
 | cont =>
  obtain ⟨_,_,_,q⟩:=hs;exact False.elim q
section
variable {X:Cx}{x:Str}{p pos:Pos}{e:Expr}{es:List Expr}{t:TA}{id T:String}{r:List V->Hp->VK->Prop}
def tCB (r:List V->Hp->VK->Prop)(t:TA):TE:=λ σ H Q=>t σ H λ vs H1=>r vs H1 Q
theorem wF (hc:CallR X (.builtin id) r) (hg:Gl X x) (hm:X.mg x=none) (hv:bootBuiltins x=some (.builtin id)) (ha:PA X (e::es) t) (hn:x≠"__name__":=by decide) (hdb:(x==("__debug__":Str))=false:=by decide)
  (he:starEach (e::es) X.env=(false,eval e X.env)::starEach es X.env:=by rfl) (hpl:(backTo pos (starEach es X.env)).any (·.1)=false:=by rfl):PE X (.Call (.Name x p) (e::es) [] pos) (tCB r t):=by
 intro pins s σ H Q I h;refine wpAny_Call_Name_kw (wD I hg hm hv ?_ hn hdb);exact PyProof.Rows.callWith_builtin1 (thn (ha pos pins s σ H _ I h) λ us s1 ⟨vs,H1,I1,r1,q1⟩=>hc pins s1 σ H1 vs us Q I1 r1 q1) he hpl
theorem jP (hc:CallR X (.type T) r) (hg:Gl X x) (hm:X.mg x=none) (hv:bootBuiltins x=some (.type T)) (ha:PA X (e::es) t) (hn:x≠"__name__":=by decide) (hdb:(x==("__debug__":Str))=false:=by decide)
  (he:starEach (e::es) X.env=(false,eval e X.env)::starEach es X.env:=by rfl) (hpl:(backTo pos (starEach es X.env)).any (·.1)=false:=by rfl):PE X (.Call (.Name x p) (e::es) [] pos) (tCB r t):=by
 intro pins s σ H Q I h;refine wpAny_Call_Name_kw (wD I hg hm hv ?_ hn hdb);exact Y1d (thn (ha pos pins s σ H _ I h) λ us s1 ⟨vs,H1,I1,r1,q1⟩=>hc pins s1 σ H1 vs us Q I1 r1 q1) he hpl
end
end L2
namespace HT
open PySem PyProof.Rows
section
variable {prog:Program}{w:World}{A:Around}{E:Value->Shared->Prop}{s:Shared}
theorem cat_tup {t b:Addr}{vs ws:List Value}{Q:Value->Shared->Prop}(ht:IsTup s.heap t vs.toArray)(hb:IsTup s.heap b ws.toArray)(hv:vs≠[])
  (h1:ws=[]->Q (.ref t) s) (h2:ws≠[]->Q (.ref s.heap.objs.size) { s with heap:=s.heap.push { cls:=.type "tuple",data:=.seq (vs++ws).toArray } })
  (hsz:vs.length+ws.length<=sizeLine):wpAny (model prog w) A (binaryOp .Add (.ref t) (.ref b)) Q E s:=by
 obtain ⟨⟨cls,dd,data,sl⟩,ho,hc,n,hd⟩:=id ht;obtain ⟨⟨cls2,dd2,data2,sl2⟩,ho2,hc2,n2,hd2⟩:=id hb;simp only at hc hd hc2 hd2;subst hc hd hc2 hd2;have e:vs.toArray++ws.toArray=(vs++ws).toArray:=by simp
 by_cases hw:ws=[]
 ·exact concat_meets ⟨_,ho,rfl⟩ ⟨_,ho2,rfl⟩ noFill_tuple_add seq_tuple_add Y2t Y2r (Y2o _ _)
   (tuple_addW1 t b vs.toArray ws.toArray n n2 dd dd2 sl sl2 (by simpa using hv) (by simp [hw])) ⟨ho,ho2,h1 hw⟩
 ·refine concat_meets ⟨_,ho,rfl⟩ ⟨_,ho2,rfl⟩ noFill_tuple_add seq_tuple_add Y2t Y2r (Y2o _ _)
   (tuple_addW2 t b vs.toArray ws.toArray n n2 dd dd2 sl sl2 (by simpa using hv) (by simpa using hw) (by rw [Y0d,Y0d];exact hsz)) ⟨ho,ho2,?_⟩
  rw [e];exact h2 hw
def sIx (n d:Nat):Option Int->Nat
 | none=>d
 | some v=>if v<0 then (v+(n:Int)).toNat else min v.toNat n
theorem jQ (n d:Nat):sIx n d none=d:=rfl
theorem z2w (n d:Nat)(hd:d<=n)(o:Option Int):sIx n d o<=n:=by
 cases o with
 | none=>exact hd
 | some v =>
  show (if v<0 then (v+(n:Int)).toNat else min v.toNat n)<=n;by_cases hv:v<0
  ·rw [if_pos hv];omega
  ·rw [if_neg hv];exact Nat.min_le_right _ _
theorem U2 (v:Int)(n d:Nat):(if v<0 then max (v+(n:Int)) 0 else min v (n:Int))=((sIx n d (some v):Nat):Int):=by
 show (if v<0 then max (v+(n:Int)) 0 else min v (n:Int))=(((if v<0 then (v+(n:Int)).toNat else min v.toNat n):Nat):Int);by_cases hv:v<0
 ·simp only [if_pos hv];omega
 ·simp only [if_neg hv];omega
theorem Y0 (lo hi:Option Int)(n:Nat):Builtin.Slice.sliceAdjust lo hi 1 (n:Int)=(((sIx n 0 lo:Nat):Int),((sIx n n hi:Nat):Int)):=by
 have h1:¬ ((1:Int)<0):=by omega
 unfold Builtin.Slice.sliceAdjust;simp only [h1,if_false];refine Prod.ext ?_ ?_
 ·cases lo with
  | none=>rfl
  | some v=>exact U2 v n 0
 ·cases hi with
  | none=>rfl
  | some v=>exact U2 v n n
theorem Y1 (i j:Nat):Builtin.Slice.slicePlaces (i:Int) (j:Int) 1=j-i:=by
 unfold Builtin.Slice.slicePlaces;have h1:(1:Int) > 0:=by omega
 simp only [h1,if_true,Int.ediv_one]
 split<;>omega
theorem Zb {v:Value}{o:Option Int}{Q:Option Int->Shared->Prop}(p:IsPart v o)(h:Q o s):wpAny (model prog w) A (Builtin.Slice.slicePartIndex v) Q E s:=by
 cases p with
 | none=>exact slicePart_none h
 | int i t=>exact slicePart_int h
theorem jR {sl:Addr}{vl vu:Value}{lo hi:Option Int}{n:Nat}{Q:Int×Int×Nat->Shared->Prop}(hs:s.heap.IsSliceOf sl vl vu .none)(pl:IsPart vl lo)(pu:IsPart vu hi)
  (h:Q (((sIx n 0 lo:Nat):Int),1,sIx n n hi-sIx n 0 lo) s):wpAny (model prog w) A (Builtin.Slice.sliceApplied (.ref sl) (pure (n:Int))) Q E s:=by
 obtain ⟨os,hos,hcs,hds⟩:=id hs;unfold Builtin.Slice.sliceApplied Builtin.Slice.sliceFields;refine wpAny_bind (wpAny_bind (wpAny_field hos hds (x:=vl) rfl (wpAny_bind (wpAny_field hos hds (x:=vu) rfl (wpAny_bind (wpAny_field hos hds (x:=.none) rfl (wpAny_pure ?_)))))));refine wpAny_bind (slicePart_none ?_);show wpAny _ _ (if ((1:Int)==0)=true then _ else _) _ _ s;rw [if_neg (by decide)];refine wpAny_bind (Zb pl (wpAny_bind (Zb pu (wpAny_bind (wpAny_pure ?_)))));show wpAny _ _ (match Builtin.Slice.sliceAdjust lo hi 1 (n:Int) with | (lo,hi)=>pure (lo,(1:Int),Builtin.Slice.slicePlaces lo hi 1)) _ _ s
 rw [Y0 lo hi n];show wpAny _ _ (pure (((sIx n 0 lo:Nat):Int),(1:Int),Builtin.Slice.slicePlaces ((sIx n 0 lo:Nat):Int) ((sIx n n hi:Nat):Int) 1)) _ _ s;rw [Y1];exact wpAny_pure h
theorem G7 (xs:Array Value)(i k:Nat):((List.range k).filterMap λ (m:Nat)=>xs[((i:Int)+(m:Int)*1).toNat]?).toArray=((xs.toList.drop i).take k).toArray:=by
 have e:(λ (m:Nat)=>xs[((i:Int)+(m:Int)*1).toNat]?)=λ m=>xs[i+m]?:=by
  funext m
  have:((i:Int)+(m:Int)*1).toNat=i+m:=by omega
  rw [this]
 rw [e]
 have:=pick_run xs i k
 rw [List.filterMap_map] at this;have e2:((λ x=>xs[x]?)∘λ x=>i+x)=λ m=>xs[i+m]?:=rfl;rw [e2] at this;rw [this]
theorem getItem_tuple_cut {t sl:Addr}{items:Array Value}{vl vu:Value}{lo hi:Option Int}{Q:Value->Shared->Prop}(ht:IsTup s.heap t items)(hs:s.heap.IsSliceOf sl vl vu .none)(pl:IsPart vl lo)(pu:IsPart vu hi)
  (hw:¬ (sIx items.size 0 lo=0/\sIx items.size items.size hi=items.size))
  (h:Q (.ref s.heap.objs.size) { s with heap:=s.heap.push { cls:=.type "tuple",data:=.seq ((items.toList.drop (sIx items.size 0 lo)).take (sIx items.size items.size hi-sIx items.size 0 lo)).toArray } })
  (hsz:items.size<=sizeLine):wpAny (model prog w) A (getItem (.ref t) (.ref sl)) Q E s:=by
 have htake:sizeOk (.seq ((items.toList.drop (sIx items.size 0 lo)).take (sIx items.size items.size hi-sIx items.size 0 lo)).toArray):=by
  show ((items.toList.drop (sIx items.size 0 lo)).take (sIx items.size items.size hi-sIx items.size 0 lo)).toArray.size<=sizeLine;rw [Y0d,Y21,Y3n,Y16];omega
 have hj:sIx items.size items.size hi<=items.size:=z2w _ _ (Y09 _) hi;obtain ⟨os,hos,hcs,hds⟩:=id hs;have hTs:s.TypeIs (.ref sl) "slice":=⟨os,hos,hcs⟩;unfold getItem
 try with_reducible refine wpAny_holding ?_
 first | refine wpAny_bind (wpAny_pure ?_) | skip
 refine wpAny_bind (wpAny_sequenceKey ht.typeIs (by decide) ?_);refine wpAny_bind (wpAny_callSpecial?_slot (name:=Str.ofString "__getitem__") ht.typeIs Y19
  (wpAny_call_entry Y19 ht.typeIs entry_tuple_getitem ?_ (args_tuple_getitem _ _)))
 show wpAny _ _ (Builtin.Tuple.tupleItemsOf (.ref t) >>= _) _ _ s;refine wpAny_bind (tupleItemsOf_ ht ?_);refine wpAny_bind (wpAny_typeOf hTs ?_);rw [if_pos (by decide)];refine wpAny_bind (jR hs pl pu ?_);have hno:¬ ((((sIx items.size 0 lo:Nat):Int)==0&&(1:Int)==1&&(sIx items.size items.size hi-sIx items.size 0 lo)==items.size)=true):=by
  intro q;rw [Y0g,Y0g] at q;have q1:((sIx items.size 0 lo:Nat):Int)=0:=eq_of_beq q.1.1;have q2:sIx items.size items.size hi-sIx items.size 0 lo=items.size:=eq_of_beq q.2;exact hw ⟨by omega,by omega⟩
 show wpAny _ _ (if (((sIx items.size 0 lo:Nat):Int)==0&&(1:Int)==1&&(sIx items.size items.size hi-sIx items.size 0 lo)==items.size)=true then _ else _) _ _ s;rw [if_neg hno,G7]
 first
  | exact wpAny_bind (m:=Builtin.Tuple.tupleExact _) (wpAny_newObj_type (wpAny_pure ⟨_,rfl,wpAny_pure h⟩) htake)
  | exact wpAny_bind (m:=Builtin.Tuple.tupleExact _) (wpAny_newObj_type (wpAny_bind (wpAny_pure (wpAny_pure ⟨_,rfl,wpAny_pure h⟩))) htake)
  | exact wpAny_bind (wpAny_bind (m:=Builtin.Tuple.tupleExact _) (wpAny_newObj_type (wpAny_pure (wpAny_pure ⟨_,rfl,wpAny_pure h⟩)) htake))
  | exact wpAny_bind (wpAny_bind (m:=Builtin.Tuple.tupleExact _) (wpAny_newObj_type (wpAny_pure ⟨_,rfl,wpAny_pure h⟩) htake))
end
end HT
namespace L2
open PySem PySem.Spec PyProof.Rows
abbrev TO:=St->Hp->(Option Int->Hp->Prop)->Prop
def PO (X:Cx)(e:Option Expr)(t:TO):Prop :=
 ∀ (pins:List (Addr×Obj)) (s:Shared) (σ:St) (H:Hp) (Q:Option Int->Hp->Prop),Inv X pins σ H s->t σ H Q ->
  wpAny (model X.prog X.w) X.A (evalPart e X.env) (λ u s'=>∃ o H',Inv X pins σ H' s'/\IsPart u o/\Q o H') X.xe s
def Be:TO:=λ _ H Q=>Q none H
def z5o (t:TE):TO:=λ σ H Q=>t σ H λ x H1=>∃ i,x=.int i/\Q (some i) H1
section
variable {X:Cx}{e:Expr}{te:TE}{lo hi:Option Expr}{tl th:TO}{pos p2:Pos}
theorem Bf:PO X none Be:=by
 intro pins s σ H Q I h;rw [evalPart_none];exact wpAny_pure ⟨none,H,I,.none,h⟩
theorem Bg (h:PE X e te):PO X (some e) (z5o te):=by
 intro pins s σ H Q I hw;rw [evalPart_some];refine thn (h pins s σ H _ I hw) λ u s1 ⟨x,H1,I1,r1,q1⟩=>?_;obtain ⟨i,rfl,q⟩:=q1;obtain ⟨t,rfl⟩:=r1;exact ⟨some i,H1,I1,.int i t,q⟩
def SlR (X:Cx)(r:V->Option Int->Option Int->Hp->VK->Prop):Prop :=
 ∀ (pins:List (Addr×Obj)) (s:Shared) (σ:St) (H:Hp) (x:V) (v vl vu:Value) (lo hi:Option Int) (sl:Addr) (Q:VK),Inv X pins σ H s->RelV x v->s.heap.IsSliceOf sl vl vu .none->IsPart vl lo->IsPart vu hi->r x lo hi H Q ->
  ∃ T id,typeLookup (.type T) "__getitem__"=pure (some (.builtin id))/\s.TypeIs v T/\wpAny (model X.prog X.w) X.A (getItem v (.ref sl)) (EP X pins σ Q) X.xe s
theorem SlR.or {r r':V->Option Int->Option Int->Hp->VK->Prop}(h:SlR X r)(h':SlR X r'):SlR X (λ x lo hi H Q=>r x lo hi H Q\/r' x lo hi H Q):=by
 intro pins s σ H x v vl vu lo hi sl Q I rx hs pl pu q;rcases q with q | q
 ·exact h pins s σ H x v vl vu lo hi sl Q I rx hs pl pu q
 ·exact h' pins s σ H x v vl vu lo hi sl Q I rx hs pl pu q
def tSl (r:V->Option Int->Option Int->Hp->VK->Prop)(te:TE)(tl th:TO):TE:=λ σ H Q=>te σ H λ x H1=>tl σ H1 λ l H2=>th σ H2 λ u H3=>r x l u H3 Q
theorem G8 {r:V->Option Int->Option Int->Hp->VK->Prop}(hr:SlR X r)(he:PE X e te)(hl:PO X lo tl)(hu:PO X hi th):PE X (.Subscript e (.Slice lo hi none p2) pos) (tSl r te tl th):=by
 intro pins s σ H Q I h;refine Subscript_ (thn (he pins s σ H _ I h) λ v s1 ⟨x,H1,I1,r1,q1⟩=>?_);refine wpAny_Slice (thn (hl pins s1 σ H1 _ I1 q1) λ vl s2 ⟨l,H2,I2,pl,q2⟩=>thn (hu pins s2 σ H2 _ I2 q2) λ vu s3 ⟨u,H3,I3,pu,q3⟩=>?_);rw [evalPart_none];refine wpAny_pure ?_;have I4:Inv X pins σ H3 { s3 with heap:=s3.heap.push { cls:=.type "slice",data:=.fields #[vl,vu,.none] } }:=I3.kept (t':=s3.toks) λ b ob q=>Y02 _ q;obtain ⟨T,id,hT,ht,hg⟩:=hr pins { s3 with heap:=s3.heap.push { cls:=.type "slice",data:=.fields #[vl,vu,.none] } } σ H3 x v vl vu l u s3.heap.objs.size Q I4 r1 (Heap.IsSliceOf.new ..) pl pu q3;show wpAny (model X.prog X.w) X.A (subscriptTail e (.Slice lo hi none p2) v (.ref s3.heap.objs.size)) (EP X pins σ Q) X.xe { s3 with heap:=s3.heap.push { cls:=.type "slice",data:=.fields #[vl,vu,.none] } };exact tail_any (ops:=[.ref s3.heap.objs.size,v]) ht hT hg (by with_unfolding_all rfl)
def WV (xs:List V)(lo hi:Option Int):List V:=(xs.drop (HT.sIx xs.length 0 lo)).take (HT.sIx xs.length xs.length hi-HT.sIx xs.length 0 lo)
theorem yB (xs:List V)(lo hi:Option Int):(WV xs lo hi).length<=xs.length:=by
 unfold WV;rw [Y21,Y3n];omega
def z7i (K:Y00):V->Option Int->Option Int->Hp->VK->Prop:=λ x lo hi H Q=>∃ a xs,x=.ref a/\SqT K H a xs /\
 ¬ (HT.sIx xs.length 0 lo=0/\HT.sIx xs.length xs.length hi=xs.length)/\∀ p,H p=none->Q (.ref p) (upd H p (.tup (WV xs lo hi)))
theorem z2x:SlR X (z7i X.K):=by
 intro pins s σ H x v vl vu lo hi sl Q I rx hs pl pu h;obtain ⟨a,xs,rfl,hx,hw,q⟩:=h;cases rx;obtain ⟨its,r,ht,hz⟩:=I.tuple hx;have hlen:its.toArray.size=xs.length:=by rw [Y0d];exact r.length.symm
 refine ⟨"tuple",_,PyProof.Rows.slot_tuple_getitem.lookup,ht.typeIs,?_⟩;refine HT.getItem_tuple_cut ht hs pl pu (by rw [hlen];exact hw) ?_ (by rw [hlen];exact hz);rw [hlen];refine ⟨.ref s.heap.objs.size,_,I.laid (t':=s.toks) (o:=.tup (WV xs lo hi)) (λ b ob q=>Y02 _ q) (Y09 _) ?_,rfl,q _ (I.hok.fresh (Y09 _))⟩;exact ⟨Y0t (yB xs lo hi) hz,_,(r.drop (HT.sIx xs.length 0 lo)).take (HT.sIx xs.length xs.length hi-HT.sIx xs.length 0 lo),IsTup.new _ _⟩
def z5p (K:Y00):R2:=λ x y H Q=>∃ a b xs ys,x=.ref a/\y=.ref b/\SqT K H a xs/\SqT K H b ys/\xs≠[]/\xs.length+ys.length<=sizeLine /\
 (ys=[]->Q (.ref a) H)/\(ys≠[]->∀ p,H p=none->Q (.ref p) (upd H p (.tup (xs++ys))))
theorem Vals.nil_iff {xs:List V}{us:List Value}(r:Vals xs us):us=[] ↔ xs=[]:=by
 cases r with
 | nil=>simp
 | cons _ _=>simp
theorem Bh:OpR X (binaryOp .Add) (z5p X.K):=by
 intro pins s σ H x y v u Q I rx ry h;obtain ⟨a,b,xs,ys,rfl,rfl,ha,hb,hx,hz,q1,q2⟩:=h;cases rx;cases ry;obtain ⟨its,r1,p1,_⟩:=I.tuple ha;obtain ⟨its2,r2,p2,_⟩:=I.tuple hb;refine HT.cat_tup p1 p2 (λ z=>hx (r1.nil_iff.mp z)) (λ z=>⟨.ref a,H,I,rfl,q1 (r2.nil_iff.mp z)⟩) (λ z=>?_) (by rw [<- r1.length,<- r2.length];exact hz);refine ⟨.ref s.heap.objs.size,_,I.laid (t':=s.toks) (o:=.tup (xs++ys)) (λ b ob q=>Y02 _ q) (Y09 _) ?_,rfl,q2 (λ w=>z (r2.nil_iff.mpr w)) _ (I.hok.fresh (Y09 _))⟩;exact ⟨by rw [Y03];exact hz,_,r1.append r2,IsTup.new _ _⟩
end
def ixN (n:Nat)(i:Int):Option Nat:=if 0<=i then (if i<n then some i.toNat else none) else if -(n:Int)<=i then some (i+n).toNat else none
def atI {α:Type}(xs:List α)(i:Int):Option α:=(ixN xs.length i).bind λ j=>xs[j]?
theorem U3 {n:Nat}{i:Int}{j:Nat}(h:ixN n i=some j):seqIndex? i n=some j/\j<n/\-(n:Int)<=i/\i<n:=by
 unfold ixN at h;by_cases h0:0<=i
 ·rw [if_pos h0] at h;by_cases h1:i<n
  ·rw [if_pos h1] at h;have e:i.toNat=j:=Option.some.inj h;exact ⟨by rw [seqIndex_of h0 h1,e],by omega,by omega,h1⟩
  ·rw [if_neg h1] at h;cases h
 ·rw [if_neg h0] at h;by_cases h1:-(n:Int)<=i
  ·rw [if_pos h1] at h;have e:(i+n).toNat=j:=Option.some.inj h;exact ⟨by rw [seqIndex_neg (by omega) h1,e],by omega,h1,by omega⟩
  ·rw [if_neg h1] at h;cases h
theorem W5 {α:Type}{xs:List α}{i:Int}{v:α}(h:atI xs i=some v):∃ j,seqIndex? i xs.length=some j/\xs[j]?=some v/\j<xs.length/\-(xs.length:Int)<=i/\i<xs.length:=by
 unfold atI at h;cases e:ixN xs.length i with
 | none=>rw [e] at h;cases h
 | some j =>
  rw [e] at h;obtain ⟨h1,h2,h3,h4⟩:=U3 e;exact ⟨j,h1,h,h2,h3,h4⟩
theorem atI_nat {α:Type}{xs:List α}{j:Nat}{v:α}(h:xs[j]?=some v):atI xs (j:Int)=some v:=by
 have hj:j<xs.length:=(Y04.mp h).1;have e:ixN xs.length (j:Int)=some j:=by
  unfold ixN;rw [if_pos (by omega),if_pos (by omega)];simp
 unfold atI;rw [e];exact h
def U4 (b:Expr):Prop:=∀ o i,subscripted b false o i=operate [o,i] (getItem o i)
def IxR (X:Cx)(r:R2):Prop :=
 ∀ (value slice:Expr) (pins:List (Addr×Obj)) (s:Shared) (σ:St) (H:Hp) (x y:V) (v u:Value) (Q:VK),Inv X pins σ H s->RelV x v->RelV y u->r x y H Q ->
  subscripted slice false v u=operate [v,u] (getItem v u)->wpAny (model X.prog X.w) X.A (subscriptTail value slice v u) (EP X pins σ Q) X.xe s
def MtR (X:Cx)(id:String)(r:V->List V->Hp->VK->Prop):Prop :=
 ∀ (pins:List (Addr×Obj)) (s:Shared) (σ:St) (H:Hp) (x:V) (xs:List V) (v:Value) (us:List Value) (Q:VK),Inv X pins σ H s->RelV x v->Vals xs us->r x xs H Q ->
  wpAny (model X.prog X.w) X.A (call (.builtin id) (v::us)) (EP X pins σ Q) X.xe s
section
variable {X:Cx}{a b:Expr}{ta tb:TE}{pos:Pos}
theorem IxR.or {r r':R2}(h:IxR X r)(h':IxR X r'):IxR X (λ x y H Q=>r x y H Q\/r' x y H Q):=by
 intro value slice pins s σ H x y v u Q I rx ry q hs;rcases q with q | q
 ·exact h value slice pins s σ H x y v u Q I rx ry q hs
 ·exact h' value slice pins s σ H x y v u Q I rx ry q hs
theorem MtR.or {id:String}{r r':V->List V->Hp->VK->Prop}(h:MtR X id r)(h':MtR X id r'):MtR X id (λ x xs H Q=>r x xs H Q\/r' x xs H Q):=by
 intro pins s σ H x xs v us Q I rx rs q;rcases q with q | q
 ·exact h pins s σ H x xs v us Q I rx rs q
 ·exact h' pins s σ H x xs v us Q I rx rs q
theorem z1e {r:R2}(hr:IxR X r)(ha:PE X a ta)(hb:PE X b tb)(hs:U4 b):PE X (.Subscript a b pos) (tOp r ta tb):=by
 intro pins s σ H Q I h;exact Subscript_ (z2k ha hb I h λ v u s2 x y H2 I2 rx ry q=>hr a b pins s2 σ H2 x y v u Q I2 rx ry q (hs _ _))
def z7j (K:Y00):R2:=λ x y H Q=>∃ p xs i v,x=.ref p/\y=.int i/\SqL K H p xs/\atI xs i=some v/\Q v H
def z7k (K:Y00):R2:=λ x y H Q=>∃ p xs i v,x=.ref p/\y=.int i/\SqT K H p xs/\atI xs i=some v/\Q v H
def z7l:R2:=λ x y H Q=>∃ z i c,x=.str z/\y=.int i/\z.length<=sizeLine/\atI z.cps.toList i=some c/\Q (.str ⟨#[c]⟩) H
theorem U5:IxR X (z7j X.K):=by
 intro value slice pins s σ H x y v u Q I rx ry h hs;obtain ⟨p,xs,i,z,rfl,rfl,hq,he,q⟩:=h;cases rx;obtain ⟨t,rfl⟩:=ry;obtain ⟨its,r,pl,hz⟩:=I.list hq;obtain ⟨j,h1,h2,h3,h4,h5⟩:=W5 he;obtain ⟨w,ew,rw'⟩:=r.get h2;have hl:=r.length;have hn:=Za;have fin:EP X pins σ Q w s:=⟨z,H,I,rw',q⟩;by_cases h0:0<=i
 ·have hj:i.toNat=j:=by
   rw [seqIndex_of h0 h5] at h1;exact Option.some.inj h1
  exact item_listR pl.isList h0 (by omega) (by rw [hj];simpa using ew) fin hs
 ·have hj:(i+(its.toArray.size:Int)).toNat=j:=by
   rw [seqIndex_neg (by omega) h4] at h1;rw [Y0d,<- hl];exact Option.some.inj h1
  exact subscriptTail_builtinR (x:=w) pl.isList.typeIs slot_list_getitem.lookup
   (wpAny_getItem_list_neg (Q:=λ r s'=>r=w/\EP X pins σ Q r s') pl.isList (by omega) (by rw [Y0d]<;>omega) (by omega) (by rw [hj];simpa using ew) ⟨rfl,fin⟩) hs
theorem z2y:IxR X (z7k X.K):=by
 intro value slice pins s σ H x y v u Q I rx ry h hs;obtain ⟨p,xs,i,z,rfl,rfl,hq,he,q⟩:=h;cases rx;obtain ⟨t,rfl⟩:=ry;obtain ⟨its,r,pl,hz⟩:=I.tuple hq;obtain ⟨j,h1,h2,h3,h4,h5⟩:=W5 he;obtain ⟨w,ew,rw'⟩:=r.get h2;have hl:=r.length;have hn:=Za;have fin:EP X pins σ Q w s:=⟨z,H,I,rw',q⟩;exact subscriptTail_builtinR (x:=w) pl.typeIs slot_tuple_getitem.lookup
  (getItem_tuple (j:=j) (Q:=λ r s'=>r=w/\EP X pins σ Q r s') pl (by omega) (by omega) (by rw [Y0d,<- hl];exact h1) (by simpa using ew) ⟨rfl,fin⟩) hs
theorem z2z:IxR X z7l:=by
 intro value slice pins s σ H x y v u Q I rx ry h hs;obtain ⟨z,i,c,rfl,rfl,hz,he,q⟩:=h;obtain ⟨t,rfl⟩:=rx;obtain ⟨t',rfl⟩:=ry;obtain ⟨j,h1,h2,h3,h4,h5⟩:=W5 he;have hl:z.cps.toList.length=z.length:=by simp [Str.length]
 rw [hl] at h1 h4 h5;have hn:=Za;exact tail_any (typeIs_str s z t) slot_str_getitem.lookup (getItem_str (c:=c) (by
  have e1:decide (i < -(2 ^ 63:Int))=false:=decide_eq_false (by omega);have e2:decide (i >= 2 ^ 63)=false:=decide_eq_false (by omega);rw [e1,e2,Bool.or_false]) (by rw [h1];simpa using h2) ⟨.str ⟨#[c]⟩,H,I.tok _,⟨_,rfl⟩,q⟩) hs
theorem Y2 (its:List Value)(n j:Nat)(u:Value):Obj.mapSeq (·.setIfInBounds j u) { cls:=.type "list",data:=.seq its.toArray n }={ cls:=.type "list",data:=.seq (its.set j u).toArray n }:=by
 simp [Obj.mapSeq]
theorem Inv.lst {pins:List (Addr×Obj)}{σ:St}{H:Hp}{s:Shared}{p:Addr}{xs:List V}(I:Inv X pins σ H s)(h:H p=some (.lst xs)) :
  ∃ (its:List Value) (n:Nat),Vals xs its/\s.heap.get? p=some { cls:=.type "list",data:=.seq its.toArray n }/\xs.length<=sizeLine:=by
 obtain ⟨z,its,n,r,e⟩:=I.hok p _ h;exact ⟨its,n,r,e,z⟩
theorem Inv.lstUpd {pins:List (Addr×Obj)}{σ:St}{H:Hp}{s:Shared}{p:Addr}{xs ys:List V}{its its':List Value}{n n':Nat}{f:Obj->Obj}(I:Inv X pins σ H s)(h:H p=some (.lst xs))
  (ho:s.heap.get? p=some { cls:=.type "list",data:=.seq its.toArray n }) (hf:f { cls:=.type "list",data:=.seq its.toArray n }={ cls:=.type "list",data:=.seq its'.toArray n' }) (r:Vals ys its') (hz:ys.length<=sizeLine) (t:Nat) :
  Inv X pins σ (upd H p (.lst ys)) { s with heap:=s.heap.update p f,toks:=t }:=by
 have e:(s.heap.update p f).get? p=some { cls:=.type "list",data:=.seq its'.toArray n' }:=by
  rw [Y2b f ho (by rw [hf]<;>rfl),hf]
 refine I.write (x:=p) (e:=p) (by rw [h];trivial) (.inl rfl) (λ b u hb q=>(Y1y _ _ (Ne.symm hb)).trans q) ⟨_,e⟩ ?_;exact ⟨hz,its',n',r,e⟩
def z5q:V->V->V->Hp->(Hp->Prop)->Prop:=λ o i v H Q=>∃ p xs k j,o=.ref p/\i=.int k/\H p=some (.lst xs)/\ixN xs.length k=some j/\Q (upd H p (.lst (xs.set j v)))
theorem G9:z2d X z5q:=by
 intro pins s σ H o i v ov iv u Q I ro ri rv h;obtain ⟨p,xs,k,j,rfl,rfl,hp,hj,q⟩:=h;cases ro;obtain ⟨t,rfl⟩:=ri;obtain ⟨its,n,r,ho,hz⟩:=I.lst hp;obtain ⟨h1,h2,h3,h4⟩:=U3 hj;have hl:=r.length;have hn:=Za;have I':Inv X pins σ (upd H p (.lst (xs.set j v))) { s with heap:=s.heap.update p (Obj.mapSeq (·.setIfInBounds j u)) } :=
  I.lstUpd hp ho (Y2 its n j u) (r.set rv j) (by rw [Y1a];exact hz) s.toks
 by_cases h0:0<=k
 ·have hk:k.toNat=j:=by
   rw [seqIndex_of h0 h4] at h1;exact Option.some.inj h1
  exact PySem.W.ki_setAt ho h0 (by omega) (by rw [Y0d,<- hl];exact h4) (by rw [hk];exact ⟨_,I',q⟩)
 ·have hk:(k+(its.toArray.size:Int)).toNat=j:=by
   rw [seqIndex_neg (by omega) h3] at h1;rw [Y0d,<- hl];exact Option.some.inj h1
  exact PySem.W.ki_setBack ho (by omega) (by rw [Y0d,<- hl];exact h3) (by omega) (by rw [hk];exact ⟨_,I',q⟩)
theorem W6 (lo hi:Option Int)(n:Nat):(sliceBounds lo hi none n).1=((HT.sIx n 0 lo:Nat):Int)/\(sliceBounds lo hi none n).2.1=((HT.sIx n n hi:Nat):Int)/\(sliceBounds lo hi none n).2.2=1:=by
 refine ⟨?_,?_,rfl⟩
 ·cases lo with
  | none=>simp [sliceBounds,HT.sIx]
  | some i =>
   simp only [sliceBounds,HT.sIx,Option.getD_none,show (1:Int) > 0 by decide,if_true];by_cases h:i<0
   ·simp only [h,if_true]<;>omega
   ·simp only [h,if_false]<;>omega
 ·cases hi with
  | none=>simp [sliceBounds,HT.sIx]
  | some i =>
   simp only [sliceBounds,HT.sIx,Option.getD_none,show (1:Int) > 0 by decide,if_true];by_cases h:i<0
   ·simp only [h,if_true]<;>omega
   ·simp only [h,if_false]<;>omega
theorem ZY (its:List Value)(lo hi:Option Int):slicePick its.toArray lo hi none=((its.drop (HT.sIx its.length 0 lo)).take (HT.sIx its.length its.length hi-HT.sIx its.length 0 lo)).toArray:=by
 obtain ⟨h1,h2,h3⟩:=W6 lo hi its.toArray.size;unfold slicePick;rw [h1,h2,h3];simp only [sliceRange_one,pick_run,Y0d]<;>rfl
def z7m (K:Y00):V->Option Int->Option Int->Hp->VK->Prop:=λ x lo hi H Q=>∃ a xs,x=.ref a/\SqL K H a xs/\∀ p,H p=none->Q (.ref p) (upd H p (.lst (WV xs lo hi)))
theorem U6:SlR X (z7m X.K):=by
 intro pins s σ H x v vl vu lo hi sl Q I rx hs pl pu h;obtain ⟨a,xs,rfl,hx,q⟩:=h;cases rx;obtain ⟨its,r,ht,hz⟩:=I.list hx;have hlen:=r.length;refine ⟨"list",_,slot_list_getitem.lookup,ht.isList.typeIs,?_⟩;refine wpAny_getItem_list_slice ht.isList hs pl pu .none (by simp) ?_ (by rw [Y0d]<;>omega);rw [ZY,<- hlen];refine ⟨.ref s.heap.objs.size,_,I.laid (t':=s.toks) (o:=.lst (WV xs lo hi)) (λ b ob q=>Y02 _ q) (Y09 _) ?_,rfl,q _ (I.hok.fresh (Y09 _))⟩;exact ⟨Y0t (yB xs lo hi) hz,_,0,(r.drop (HT.sIx xs.length 0 lo)).take (HT.sIx xs.length xs.length hi-HT.sIx xs.length 0 lo),Y0i _ rfl⟩
def ju:V->Bool
 | .non=>true
 | .bl _=>true
 | .int _=>true
 | .str _=>true
 | _=>false
def eqV:V->V->Bool
 | .non,.non=>true
 | .bl a,.bl b=>a==b
 | .bl a,.int b=>(if a then 1 else 0)==b
 | .int a,.bl b=>a==(if b then 1 else 0)
 | .int a,.int b=>a==b
 | .str a,.str b=>a==b
 | _,_=>false
theorem Ga {A:Around}{s:Shared}{y x:V}{u v:Value}(ry:RelV y u)(rx:RelV x v)(fy:ju y=true)(fx:ju x=true):SeqAt.EqAt A s u v (eqV y x):=by
 cases y with
 | non =>
  cases ry;cases x with
  | non=>cases rx;exact SeqAt.EqAt.same _
  | bl b=>cases rx;exact SeqAt.EqAt.none_bool b
  | int b=>obtain ⟨t,rfl⟩:=rx;exact SeqAt.EqAt.none_int b t
  | str b=>obtain ⟨t,rfl⟩:=rx;exact SeqAt.EqAt.none_str b t
  | _=>exact absurd (show false=true from fx) Y0s
 | bl a =>
  cases ry;cases x with
  | non=>cases rx;exact SeqAt.EqAt.bool_none a
  | bl b=>cases rx;exact SeqAt.EqAt.bool_bool a b
  | int b=>obtain ⟨t,rfl⟩:=rx;exact SeqAt.EqAt.bool_int a b t
  | str b=>obtain ⟨t,rfl⟩:=rx;exact SeqAt.EqAt.bool_str a b t
  | _=>exact absurd (show false=true from fx) Y0s
 | int a =>
  obtain ⟨t',rfl⟩:=ry;cases x with
  | non=>cases rx;exact SeqAt.EqAt.int_none a t'
  | bl b=>cases rx;exact SeqAt.EqAt.int_bool a t' b
  | int b=>obtain ⟨t,rfl⟩:=rx;exact SeqAt.EqAt.int_int a t' b t
  | str b=>obtain ⟨t,rfl⟩:=rx;exact SeqAt.EqAt.int_str a t' b t
  | _=>exact absurd (show false=true from fx) Y0s
 | str a =>
  obtain ⟨t',rfl⟩:=ry;cases x with
  | non=>cases rx;exact SeqAt.EqAt.str_none a t'
  | bl b=>cases rx;exact SeqAt.EqAt.str_bool a t' b
  | int b=>obtain ⟨t,rfl⟩:=rx;exact SeqAt.EqAt.str_int a t' b t
  | str b=>obtain ⟨t,rfl⟩:=rx;exact SeqAt.EqAt.str_str a t' b t
  | _=>exact absurd (show false=true from fx) Y0s
 | _=>exact absurd (show false=true from fy) Y0s
def eqU (x:V)(u:Value):Bool:=match u with
 | .none=>eqV .non x
 | .bool b=>eqV (.bl b) x
 | .int i _=>eqV (.int i) x
 | .str z _=>eqV (.str z) x
 | _=>false
theorem W7 {x y:V}{u:Value}(r:RelV y u)(f:ju y=true):eqU x u=eqV y x:=by
 cases y with
 | non=>cases r;rfl
 | bl b=>cases r;rfl
 | int i=>obtain ⟨t,rfl⟩:=r;rfl
 | str z=>obtain ⟨t,rfl⟩:=r;rfl
 | _=>exact absurd (show false=true from f) Y0s
theorem qM {x:V}:∀ {xs:List V}{us:List Value},Vals xs us->xs.all ju=true->us.any (eqU x)=xs.any λ y=>eqV y x
 | _,_,.nil,_=>rfl
 | y::xs,u::us,.cons r t,f=>by
  rw [Y26,Y0g] at f;rw [Y1m,Y1m,W7 r f.1,qM t f.2]
theorem wG {A:Around}{s:Shared}{x:V}{v:Value}(rx:RelV x v)(fx:ju x=true):∀ {xs:List V}{us:List Value},Vals xs us->xs.all ju=true->∀ u∈us,SeqAt.EqAt A s u v (eqU x u)
 | _,_,.nil,_=>λ u hu=>by cases hu
 | y::xs,u::us,.cons r t,f=>λ u' hu=>by
  rw [Y26,Y0g] at f;rcases Y0b.mp hu with rfl | hu
  ·rw [W7 r f.1];exact Ga r rx f.1 fx
  ·exact wG rx fx t f.2 u' hu
def inV (x:V)(xs:List V):Bool:=xs.any λ y=>eqV y x
def rIn (K:Y00)(neg:Bool):R2:=λ x y H Q=>∃ p xs,y=.ref p/\(SqL K H p xs\/SqT K H p xs)/\ju x=true/\xs.all ju=true/\Q (.bl (if neg then !inV x xs else inV x xs)) H
theorem UX:OpR X (compareOp .In) (rIn X.K false):=by
 intro pins s σ H x y v u Q I rx ry h;obtain ⟨p,xs,rfl,hq,fx,fs,q⟩:=h;cases ry;rcases hq with hq | hq
 ·obtain ⟨its,r,pl,hz⟩:=I.list hq;refine SeqAt.in_listAt (eqU x) pl.isList (λ w hw=>wG rx fx r fs w (by simpa using hw)) ⟨.bl _,H,I,rfl,?_⟩;rw [show its.toArray.any (eqU x)=its.any (eqU x) by simp,qM r fs];exact q
 ·obtain ⟨its,r,pl,hz⟩:=I.tuple hq;refine SeqAt.in_tupleAt (eqU x) pl (λ w hw=>wG rx fx r fs w (by simpa using hw)) ⟨.bl _,H,I,rfl,?_⟩;rw [show its.toArray.any (eqU x)=its.any (eqU x) by simp,qM r fs];exact q
theorem W8:OpR X (compareOp .NotIn) (rIn X.K true):=by
 intro pins s σ H x y v u Q I rx ry h;obtain ⟨p,xs,rfl,hq,fx,fs,q⟩:=h;cases ry;rcases hq with hq | hq
 ·obtain ⟨its,r,pl,hz⟩:=I.list hq;refine SeqAt.notIn_listAt (eqU x) pl.isList (λ w hw=>wG rx fx r fs w (by simpa using hw)) ⟨.bl _,H,I,rfl,?_⟩;rw [show its.toArray.any (eqU x)=its.any (eqU x) by simp,qM r fs];exact q
 ·obtain ⟨its,r,pl,hz⟩:=I.tuple hq;refine SeqAt.notIn_tupleAt (eqU x) pl (λ w hw=>wG rx fx r fs w (by simpa using hw)) ⟨.bl _,H,I,rfl,?_⟩;rw [show its.toArray.any (eqU x)=its.any (eqU x) by simp,qM r fs];exact q
theorem W9:OpR X (compareOp .NotIn) (λ x y H Q=>∃ i j,x=.str i/\y=.str j/\Q (.bl (!(!(Builtin.Str.occurrences j i 0 j.length 1).isEmpty))) H):=by
 intro pins s σ H x y v u Q I rx ry h;obtain ⟨i,j,rfl,rfl,q⟩:=h;obtain ⟨t,rfl⟩:=rx;obtain ⟨t',rfl⟩:=ry;exact notIn_str ⟨.bl _,H,I,rfl,q⟩
theorem CallR.or {f:Value}{r r':List V->Hp->VK->Prop}(h:CallR X f r)(h':CallR X f r'):CallR X f (λ xs H Q=>r xs H Q\/r' xs H Q):=by
 intro pins s σ H xs us Q I rs q;rcases q with q | q
 ·exact h pins s σ H xs us Q I rs q
 ·exact h' pins s σ H xs us Q I rs q
theorem Wa:CallR X (.type "list") (λ xs H Q=>∃ p ys,xs=[.ref p]/\(SqL X.K H p ys\/SqT X.K H p ys)/\∀ l,H l=none->Q (.ref l) (upd H l (.lst ys))):=by
 intro pins s σ H xs us Q I r h;obtain ⟨p,ys,rfl,hq,q⟩:=h;obtain ⟨u,rfl,rx⟩:=jI r;cases rx;have fin:∀ (its:List Value),Vals ys its->ys.length<=sizeLine->∀ (h':Heap) (c':Nat),(∀ b o',s.heap.get? b=some o'->h'.get? b=some o') ->
   h'.get? s.heap.objs.size=some { cls:=.type "list",dict:=none,data:=.seq its.toArray c',slots:=#[] }->EP X pins σ Q (.ref s.heap.objs.size) { s with heap:=h' }:=λ its r' hz h' c' kp e =>
  ⟨.ref s.heap.objs.size,_,I.laid (t':=s.toks) kp (Y09 _) (show ObjOk X.prog X.w _ h' _ (.lst ys) from ⟨hz,its,c',r',e⟩),rfl,q _ (I.hok.fresh (Y09 _))⟩
 rcases hq with hq | hq
 ·obtain ⟨its,r',pl,hz⟩:=I.list hq;have hlen:=r'.length;obtain ⟨o,ho,hc,n,hd⟩:=pl.isList;exact call_list_seq p (.inl rfl) ho hc hd (λ h' c' kp e=>fin its r' hz h' c' kp e) (by simp only [Y0d]<;>omega)
 ·obtain ⟨its,r',pl,hz⟩:=I.tuple hq;have hlen:=r'.length;obtain ⟨o,ho,hc,n,hd⟩:=pl;exact call_list_seq p (.inr rfl) ho hc hd (λ h' c' kp e=>fin its r' hz h' c' kp e) (by simp only [Y0d]<;>omega)
theorem qh:CallR X (.type "tuple") (λ xs H Q=>∃ p ys,xs=[.ref p]/\((SqL X.K H p ys/\∀ l,H l=none->Q (.ref l) (upd H l (.tup ys)))\/(SqT X.K H p ys/\Q (.ref p) H))):=by
 intro pins s σ H xs us Q I r h;obtain ⟨p,ys,rfl,h⟩:=h;obtain ⟨u,rfl,rx⟩:=jI r;cases rx;rcases h with ⟨hq,q⟩ | ⟨hq,q⟩
 ·obtain ⟨its,r',pl,hz⟩:=I.list hq;have hlen:=r'.length;refine call_tuple_list pl.isList (λ h' kp=>?_) (by simp only [Y0d]<;>omega);have I1:Inv X pins σ H { s with heap:=h' }:=I.kept (t':=s.toks) kp;have I2:Inv X pins σ (upd H h'.objs.size (.tup ys)) { s with heap:=h'.push { cls:=.type "tuple",data:=.seq its.toArray } } :=
   I1.laid (t':=s.toks) (λ b o e=>Y02 _ e) (Y09 _) (show ObjOk X.prog X.w _ _ _ (.tup ys) from ⟨hz,its,r',IsTup.new _ _⟩)
  exact ⟨.ref h'.objs.size,_,I2,rfl,q _ (I1.hok.fresh (Y09 _))⟩
 ·obtain ⟨its,r',pl,hz⟩:=I.tuple hq;exact call_tuple_same pl ⟨.ref p,H,I,rfl,q⟩
def tyV (K:Y00)(T:String)(x:V)(H:Hp):Prop:=match x with
 | .str _=>T="str"
 | .int _=>T="int"
 | .ref p=>(T="list"/\∃ xs,SqL K H p xs)\/(T="tuple"/\∃ o,K.lookup p=some o/\o.cls=.type "tuple"/\o.dict=none) \/
   (T="dict"/\((∃ kvs,H p=some (.dK kvs))\/∃ kvs,H p=some (.dT kvs)))\/(T="set"/\∃ S n,H p=some (.set S n))
 | _=>False
theorem Gb {pins:List (Addr×Obj)}{σ:St}{H:Hp}{s:Shared}{T:String}{x:V}{v:Value}(I:Inv X pins σ H s)(r:RelV x v)(ty:tyV X.K T x H) :
  s.TypeIs v T/\∀ a,v=.ref a->∃ ob,s.heap.get? a=some ob/\ob.dict=none:=by
 cases x with
 | str z =>
  obtain ⟨t,rfl⟩:=r;cases (show T="str" from ty);exact ⟨typeIs_str s z t,λ _ e=>nomatch e⟩
 | int i =>
  obtain ⟨t,rfl⟩:=r;cases (show T="int" from ty);exact ⟨typeIs_int s i t,λ _ e=>nomatch e⟩
 | ref p =>
  cases r;rcases ty with ⟨rfl,xs,hq⟩ | ⟨rfl,o,hk,hc,hd⟩ | ⟨rfl,hk⟩ | ⟨rfl,S,n,hk⟩
  ·obtain ⟨its,_,pl,_⟩:=I.list hq;refine ⟨pl.isList.typeIs,λ a e=>?_⟩;cases e;obtain ⟨o,n,e,c,hd,_⟩:=pl;exact ⟨o,e,hd⟩
  ·refine ⟨⟨o,I.kIn p o hk,hc⟩,λ a e=>?_⟩;cases e;exact ⟨o,I.kIn _ o hk,hd⟩
  ·have z:∃ o,s.heap.get? p=some o/\o.ExactDict:=by
    rcases hk with ⟨kvs,hk⟩ | ⟨kvs,hk⟩
    ·obtain ⟨_,_,_,_,o,_,_,e,ex,_⟩:=I.hok p _ hk;exact ⟨o,e,ex⟩
    ·obtain ⟨_,_,_,_,o,_,_,e,ex,_⟩:=I.hok p _ hk;exact ⟨o,e,ex⟩
   obtain ⟨o,e,ex⟩:=z;refine ⟨⟨o,e,ex.1⟩,λ a e2=>?_⟩;cases e2;exact ⟨o,e,ex.2.1⟩
  ·obtain ⟨o,_,_,_,e,ex,_⟩:=I.hok p _ hk;refine ⟨⟨o,e,ex.1⟩,λ a e2=>?_⟩;cases e2;exact ⟨o,e,ex.2.1⟩
 | _=>exact False.elim ty
def z7n (K:Y00)(T:String)(r:V->List V->Hp->VK->Prop)(to:TE):TE:=λ σ H Q=>to σ H λ x H1=>tyV K T x H1/\r x [] H1 Q
def tBM (K:Y00)(T:String)(r:V->List V->Hp->VK->Prop)(to:TE)(t:TA):TE:=λ σ H Q=>to σ H λ x H1=>tyV K T x H1/\t σ H1 λ xs H2=>r x xs H2 Q
variable {o e:Expr}{es:List Expr}{to:TE}{t:TA}{name:Str}{apos cpos:Pos}{T id:String}{r:V->List V->Hp->VK->Prop}
theorem z30 (pa:PlainAttrs T) (slot:Slot T name id) (hty:typeOf (.builtin id)=pure (.type "method_descriptor")) (hm:MtR X id r) (ho:PE X o to)
  (hbase:attributeBase o name X.env (eval o X.env)=eval o X.env:=by rfl) (hline:(apos.endLine==cpos.line)=true:=by rfl):PE X (.Call (.Attribute o name apos) [] [] cpos) (z7n X.K T r to):=by
 intro pins s σ H Q I h;refine wpAny_Call_method0_late hbase hline (thn (ho pins s σ H _ I h) λ v s1 ⟨x,H1,I1,r1,ty,q1⟩=>?_);obtain ⟨h1,h2⟩:=Gb I1 r1 ty;exact ⟨T,id,pa,slot,hty,h1,h2,Calls.callWith_builtin rfl (PySem.evalArgs_none (hm pins s1 σ H1 x [] v [] Q I1 r1 .nil q1))⟩
theorem U7 (pa:PlainAttrs T) (slot:Slot T name id) (hty:typeOf (.builtin id)=pure (.type "method_descriptor")) (hm:MtR X id r) (ho:PE X o to) (ha:PA X (e::es) t)
  (hbase:attributeBase o name X.env (eval o X.env)=eval o X.env:=by rfl)
  (hfew:((backTo cpos (starEach (e::es) X.env)).all (λ x=>!x.1)&&(backToKw cpos (keywordEach [] X.env)).all (λ x=>x.1.isSome)
   && decide ((e::es).length+([]:List Keyword).length+(if ([]:List Keyword).isEmpty then 0 else 1)<30))=true:=by rfl)
  (hline:(apos.endLine==cpos.line)=true:=by rfl) (hs:starEach (e::es) X.env=(false,eval e X.env)::starEach es X.env:=by rfl) (hplain:(backTo cpos (starEach es X.env)).any (·.1)=false:=by rfl) :
  PE X (.Call (.Attribute o name apos) (e::es) [] cpos) (tBM X.K T r to t):=by
 intro pins s σ H Q I h;refine wpAny_Call_method_late hbase hfew hline rfl (thn (ho pins s σ H _ I h) λ v s1 ⟨x,H1,I1,r1,ty,q1⟩=>?_);obtain ⟨h1,h2⟩:=Gb I1 r1 ty;refine ⟨T,id,pa,slot,hty,h1,h2,?_⟩;have hA:=ha cpos pins s1 σ H1 _ I1 q1;rw [hs] at hA ⊢;refine Calls.callWith_builtin (by show (false||(backTo cpos (starEach es X.env)).any (·.1))=false;rw [hplain]<;>rfl) (Calls.evalArgs_plain ?_);exact thn hA λ us s2 ⟨vs,H2,I2,r2,q2⟩=>hm pins s2 σ H2 x vs v us Q I2 r1 r2 q2
end
def MtM (X:Cx)(id:String)(r:V->List V->Hp->VK->Prop):Prop :=
 ∀ (pins:List (Addr×Obj)) (s:Shared) (σ:St) (H:Hp) (x:V) (xs:List V) (v:Value) (us:List Value) (Q:VK),Inv X pins σ H s->RelV x v->Vals xs us->r x xs H Q ->
  wpAny (model X.prog X.w) X.A (call (.builtin id) (v::us)) (EP X pins σ Q) X.xe s
theorem Vals.one:∀ {x:V}{us:List Value},Vals [x] us->∃ u,us=[u]/\RelV x u
 | _,_,.cons r .nil=>⟨_,rfl,r⟩
theorem Vals.two:∀ {x y:V}{us:List Value},Vals [x,y] us->∃ u v,us=[u,v]/\RelV x u/\RelV y v
 | _,_,_,.cons r (.cons q .nil)=>⟨_,_,rfl,r,q⟩
theorem Vals.zero:∀ {us:List Value},Vals [] us->us=[]
 | _,.nil=>rfl
theorem Vals.dropLast {xs:List V}{us:List Value}(h:Vals xs us):Vals xs.dropLast us.dropLast:=by
 induction h with
 | nil=>exact .nil
 | cons r t ih =>
  cases t with
  | nil=>exact .nil
  | cons q t'=>exact .cons r ih
theorem Vals.eraseIdx:∀ {xs:List V}{us:List Value} (i:Nat),Vals xs us->Vals (xs.eraseIdx i) (us.eraseIdx i)
 | _,_,_,.nil=>.nil
 | _,_,0,.cons _ t=>t
 | _,_,i+1,.cons r t=>.cons r (Vals.eraseIdx i t)
theorem Vals.reverse {xs:List V}{us:List Value}(h:Vals xs us):Vals xs.reverse us.reverse:=by
 induction h with
 | nil=>exact .nil
 | cons r t ih=>rw [Y1t,Y1t];exact Vals.append ih (.cons r .nil)
theorem Vals.rep {xs:List V}{us:List Value}(h:Vals xs us):∀ k:Nat,Vals (List.replicate k xs).flatten (List.replicate k us).flatten
 | 0=>.nil
 | k+1=>by
  rw [Y1p,Y1p,Y1h,Y1h];exact Vals.append h (Vals.rep h k)
theorem Y3 {α:Type}(l:List α):l.eraseIdx (l.length-1)=l.dropLast:=by
 induction l with
 | nil=>rfl
 | cons a r ih =>
  cases r with
  | nil=>rfl
  | cons b r =>
   have e:(a::b::r).length-1=((b::r).length-1)+1:=by
    have h1:(a::b::r).length=r.length+2:=rfl;have h2:(b::r).length=r.length+1:=rfl;omega
   rw [e,List.eraseIdx_cons_succ,ih]
   all_goals rfl
theorem Jw (its:List Value):∀ (k:Nat) (acc:List Value),
  List.foldl (λ x1 x2=>x1++x2) acc.toArray (List.replicate k its.toArray)=(acc++(List.replicate k its).flatten).toArray
 | 0,acc=>by simp
 | k+1,acc=>by
  have e:acc.toArray++its.toArray=(acc++its).toArray:=by simp
  have e2:(acc++its)++(List.replicate k its).flatten=acc++(List.replicate (k+1) its).flatten:=by
   rw [Y1p,Y1h,Y07]
  rw [<- e2,<- Jw its k (acc++its),<- e,Y1p,List.foldl_cons]
section
variable {X:Cx}{pins:List (Addr×Obj)}{σ:St}{H:Hp}{s:Shared}{l b:Addr}{xs ys zs:List V}
theorem Inv.lset {its its':List Value}{n:Nat}{f:Array Value->Array Value}{t':Nat}(I:Inv X pins σ H s)(hH:H l=some (.lst xs))
  (e:s.heap.get? l=some { cls:=.type "list",data:=.seq its.toArray n }) (hf:f its.toArray=its'.toArray) (hv:Vals ys its') (hz:ys.length<=sizeLine) :
  Inv X pins σ (upd H l (.lst ys)) { s with heap:=s.heap.update l (Obj.mapSeq f),toks:=t' }:=by
 have q:=PySem.IsL.update e f;rw [hf] at q;refine I.write (x:=l) (e:=l) (by rw [hH];exact trivial) (.inl rfl) (λ b' u hb hu=>(Y1y s.heap (Obj.mapSeq f) (Ne.symm hb)).trans hu) ⟨_,q⟩ ?_;exact ⟨hz,its',_,hv,q⟩
theorem Inv.lnew {its:List Value}{t':Nat}(I:Inv X pins σ H s)(hv:Vals ys its)(hz:ys.length<=sizeLine) :
  Inv X pins σ (upd H s.heap.objs.size (.lst ys)) { s with heap:=s.heap.push { cls:=.type "list",data:=.seq its.toArray },toks:=t' } :=
 I.laid (λ _ _ q=>Y02 _ q) (Y09 _) ⟨hz,its,0,hv,Y0i _ rfl⟩
theorem Inv.fresh (I:Inv X pins σ H s):H s.heap.objs.size=none:=I.hok.fresh (Y09 _)
theorem Inv.lstM (I:Inv X pins σ H s)(hH:H l=some (.lst xs)):xs.length<=sizeLine/\∃ (its:List Value) (n:Nat),Vals xs its/\xs.length=its.length/\s.heap.get? l=some { cls:=.type "list",data:=.seq its.toArray n }:=by
 obtain ⟨z,its,n,r,e⟩:=I.hok l _ hH;exact ⟨z,its,n,r,r.length,e⟩
theorem Zd {n:Nat}(h:n<=sizeLine):Builtin.List.listTooLong n=false:=by
 unfold Builtin.List.listTooLong;exact decide_eq_false (by omega)
end
section
variable {X:Cx}
def Bi:V->List V->Hp->VK->Prop:=λ x vs H Q=>∃ l xs y,x=.ref l/\vs=[y]/\H l=some (.lst xs)/\xs.length<sizeLine/\Q .non (upd H l (.lst (xs++[y])))
theorem UY:MtM X "list.append" Bi:=by
 intro pins s σ H x vs v us Q I rx rv h;obtain ⟨l,xs,y,rfl,rfl,hH,hz,q⟩:=h;cases rx;obtain ⟨u,rfl,ru⟩:=rv.one;obtain ⟨z,its,n,r,hl,e⟩:=I.lstM hH;refine call_meets F.slot_list_append ⟨_,e,rfl⟩ F.entry_list_append (F.args_list_append_2 _ _) (PySem.list_append l its.toArray n u (by rw [Y0d];omega)) ⟨e,?_⟩;refine ⟨.non,_,I.lset (its':=its++[u]) hH e (by simp) (r.append (.cons ru .nil)) ?_,rfl,q⟩;rw [Y03,Y1i];omega
def Bj:V->List V->Hp->VK->Prop:=λ x vs H Q=>∃ l b xs zs,x=.ref l/\vs=[.ref b]/\H l=some (.lst xs)/\H b=some (.lst zs)/\xs.length+zs.length<=sizeLine/\Q .non (upd H l (.lst (xs++zs)))
theorem UZ:MtM X "list.extend" Bj:=by
 intro pins s σ H x vs v us Q I rx rv h;obtain ⟨l,b,xs,zs,rfl,rfl,hH,hB,hz,q⟩:=h;cases rx;obtain ⟨u,rfl,ru⟩:=rv.one;cases ru;obtain ⟨z,its,n,r,hl,e⟩:=I.lstM hH;obtain ⟨z2,its2,n2,r2,hl2,e2⟩:=I.lstM hB;have hsz:its.toArray.size+its2.toArray.size<=sizeLine:=by rw [Y0d,Y0d];omega
 have hlong:¬ (!its.toArray.isEmpty&&Builtin.List.listTooLong (its.toArray.size+its2.toArray.size))=true:=by
  rw [Zd hsz,Bool.and_false];exact Y0s
 refine call_meets F.slot_list_extend ⟨_,e,rfl⟩ F.entry_list_extend (F.args_list_extend_2 _ _)
  (AutoSeq1.list_extend_list_list_0 l its.toArray n b its2.toArray n2 hlong (by rw [Y0d];omega) (by omega)) ⟨e,e2,?_⟩
 refine ⟨.non,_,I.lset (its':=its++its2) hH e (by simp) (r.append r2) ?_,rfl,q⟩;rw [Y03];omega
def z7o:V->List V->Hp->VK->Prop:=λ x vs H Q=>∃ l xs y,x=.ref l/\vs=[]/\H l=some (.lst xs)/\xs[xs.length-1]?=some y/\Q y (upd H l (.lst xs.dropLast))
theorem z31:MtM X "list.pop" z7o:=by
 intro pins s σ H x vs v us Q I rx rv h;obtain ⟨l,xs,y,rfl,rfl,hH,hy,q⟩:=h;cases rx;have hus:=rv.zero;subst hus;obtain ⟨z,its,n,r,hl,e⟩:=I.lstM hH;obtain ⟨u,hu,ru⟩:=r.get hy;have hy':its.toArray[its.toArray.size-1]?=some u:=by
  show its.toArray[its.length-1]?=some u;rw [<- Y32,<- hl];exact hu
 refine call_meets F.slot_list_pop ⟨_,e,rfl⟩ F.entry_list_pop (F.args_list_pop_1 _) (MeetsSeq.list_pop_last l its.toArray n u hy' (by rw [Y0d];omega)) ⟨e,?_⟩;refine ⟨y,_,I.lset (its':=its.dropLast) hH e ?_ r.dropLast ?_,ru,q⟩
 ·show its.toArray.eraseIdxIfInBounds (its.toArray.size-1)=its.dropLast.toArray;rw [Y0d,List.eraseIdxIfInBounds_toArray,Y3]
 ·rw [List.length_dropLast];omega
def z7p:R2:=λ x y H Q=>∃ l b xs zs,x=.ref l/\y=.ref b/\H l=some (.lst xs)/\H b=some (.lst zs)/\xs.length+zs.length<=sizeLine/\∀ p,H p=none->Q (.ref p) (upd H p (.lst (xs++zs)))
theorem z32:OpR X (binaryOp .Add) z7p:=by
 intro pins s σ H x y v u Q I rx ry h;obtain ⟨l,b,xs,zs,rfl,rfl,hH,hB,hz,q⟩:=h;cases rx;cases ry;obtain ⟨z,its,n,r,hl,e⟩:=I.lstM hH;obtain ⟨z2,its2,n2,r2,hl2,e2⟩:=I.lstM hB;refine PySem.P.add_list e e2 ?_ (by rw [Y0d,Y0d];omega);have ea:its.toArray++its2.toArray=(its++its2).toArray:=by simp
 rw [ea];exact ⟨.ref _,_,I.lnew (t':=s.toks) (r.append r2) (by rw [Y03];omega),rfl,q _ I.fresh⟩
def z7q:R2:=λ x y H Q=>∃ l k xs,x=.ref l/\y=.int k/\H l=some (.lst xs)/\-(2 ^ 63)<=k/\k<2 ^ 63/\xs.length*k.toNat<=sizeLine /\
 ∀ p,H p=none->Q (.ref p) (upd H p (.lst (List.replicate k.toNat xs).flatten))
theorem Bk {α:Type}(xs:List α)(k:Nat):(List.replicate k xs).flatten.length=k*xs.length:=by
 induction k with
 | zero=>simp
 | succ k ih=>rw [Y1p,Y1h,Y03,ih,Nat.succ_mul,Y3i]
theorem z33:OpR X (binaryOp .Mult) z7q:=by
 intro pins s σ H x y v u Q I rx ry h;obtain ⟨l,k,xs,rfl,rfl,hH,h1,h2,hz,q⟩:=h;cases rx;obtain ⟨t,rfl⟩:=ry;obtain ⟨z,its,n,r,hl,e⟩:=I.lstM hH;have hlen:its.toArray.size*k.toNat<=sizeLine:=by rw [Y0d,<- hl];exact hz
 have hcap:¬ its.toArray.size*k.toNat > (2 ^ 63-1)/8:=by
  have:(sizeLine:Nat)<=(2 ^ 63-1)/8:=by decide
  omega
 have hfit:¬ (!Builtin.List.listFitsIndex k)=true:=by
  rw [fitsIndex_both h1 h2];exact Y0s
 have hlong:¬ Builtin.List.listTooLong (its.toArray.size*k.toNat)=true:=by
  rw [Zd hlen];exact Y0s
 have hnew:List.foldl (λ x1 x2=>x1++x2) #[] (List.replicate (if its.toArray.isEmpty=true then 0 else k.toNat) its.toArray)=(List.replicate k.toNat its).flatten.toArray:=by
  have f0:∀ m:Nat,List.foldl (λ x1 x2=>x1++x2) #[] (List.replicate m its.toArray)=(List.replicate m its).flatten.toArray:=λ m=>by
   have:=Jw its m []
   rw [Y0n] at this;exact this
  rw [f0];cases its with
  | nil=>simp
  | cons a r'=>rw [if_neg (by simp)]
 refine wpAny_binaryOp_repeat_ref (T:="list") (U:="int") (by decide) ⟨_,e,rfl⟩ (λ s'=>typeIs_int s' k t) noFill_list_mul F.fills_int_mul F.slot_int_rmul repeat_list F.slot_int_index.lookup
  (call_meets F.slot_int_rmul (typeIs_int s k t) F.entry_int_rmul (F.args_int_rmul_2 _ _) (int___rmul___int_list k t l its.toArray n)
   ⟨e,rfl,⟨_,e,rfl⟩,call_meets F.slot_list_mul ⟨_,e,rfl⟩ F.entry_list_mul (F.args_list_mul_2 _ _) (AutoListH.list___mul___list_int_3 l its.toArray n k t hfit hcap hlong) ⟨e,?_⟩⟩)
 rw [hnew];exact ⟨.ref _,_,I.lnew (t':=s.toks) (r.rep k.toNat) (by rw [Bk,Nat.mul_comm];exact hz),rfl,q _ I.fresh⟩
end
end L2
namespace Att
open PySem PySem.W PySem.Calls PyProof.Rows
theorem yK {P:Params}{h:Heap}:∀ (ns:List Int) (vs:List Value),WellAll P h vs (ns.map WData.int)->IntsAre vs ns:=by
 intro ns
 induction ns with
 | nil =>
  intro vs w;rw [Y0k] at w;cases w;exact .nil
 | cons n ns ih =>
  intro vs w;rw [Y05] at w;cases w with
  | cons a b =>
   cases a;exact .cons _ _ (ih _ b)
theorem script_of {l:OpenLaw}{n:Nat}(hn:l.most=some n){P:Params}{h:Heap}{args:List WData}{vals:List Value}
  (hpre:l.row.toRowW.claim.pre args=true) (hwl:WellAll P h vals args) :
  ∃ a vs ns,vals=[Value.ref a]/\args=[WData.list (ns.map WData.int)]/\h.get? a=some { cls:=.type "list",data:=.seq vs.toArray }/\IntsAre vs ns/\ns.length<=n:=by
 have hsh:WShape.hasAll [] args [.list .int]=true:=(pre_splitW hpre).1;have hc:l.pre.holds [] { args:=args }=true:=(pre_splitW hpre).2;obtain ⟨d,r,rfl,h1,h2⟩:=hasAllW_cons hsh;obtain rfl:=hasAllW_nil h2;obtain ⟨xs,rfl,h3⟩:=hasW_list h1;obtain ⟨ns,rfl⟩:=items_int h3;have hlen:ns.length<=n:=by
  unfold OpenLaw.pre at hc;have h4:(WTm.not (.lt (.lit (.int (n:Int))) (.len (.arg 0)))).holds [] { args:=[.list (ns.map .int)] }=true:=by
   have h4:=(holds_andW hc).1;rw [hn] at h4;exact h4
  have h5:=condW_of h4 (w_not (w_lt w_lit (w_len_list (w_arg rfl))));rw [Y0c] at h5;refine Nat.le_of_not_lt λ q=>?_;have q':(n:Int)<((ns.length:Nat):Int):=by omega
  first
   | (rw [decide_eq_true q'] at h5;exact absurd h5 (by decide))
   | (simp at h5;omega)
 cases hwl with
 | cons w1 w2 =>
  cases w2;cases w1 with
  | list ho hall=>exact ⟨_,_,ns,rfl,rfl,ho,yK ns _ hall,hlen⟩
theorem post_true (l:OpenLaw)(args:List WData):l.row.toRowW.claim.post args (.bool true) args=true :=
 postW_of (r:=l.row.toRowW) (X:=(true==true))
  (show WShape.has [] (.bool true) .bool=true by first | rfl | decide | simp [WShape.has,WShape.arms,WShape.armsAll])
  (show (WTm.eq .res (.lit (.bool true))).value [] { args:=args,res:=some (.bool true),after:=args }=some (.bool (true==true)) from w_eq_bool (w_res rfl) w_lit) rfl
theorem attach_call {l:OpenLaw}{n:Nat}{q:Program}{loose:List Str}{XP:(Str->Option Value)->Heap->Prop}{YP:World->Heap->Prop}{d:DefRec}
  (hn:l.most=some n) (hdf:d.params.defaults=[])
  (call:∀ (w:World) (s₀ s₁:Shared) (mg mb:Str->Option Value) (fa:Addr) (o:Obj) (pm cd doc:Value) (a:Addr) (vs:List Value) (ns:List Int),
   Ground q loose [] XP w s₀ mg mb s₁.heap->YP w s₁.heap ->
   s₁.heap.get? fa=some o->o.data=.func (docDef d.name d.params d.body d.scope pm cd doc)->s₁.heap.CodeRec cd d.name->mg d.name=some (.ref fa) ->
   s₁.heap.get? a=some { cls:=.type "list",data:=.seq vs.toArray }->IntsAre vs ns->ns.length<=n->s₁.gens=#[] ->
   codeAny (model l.prog w) callerA (.call (.ref fa) ⟨[.ref a],[]⟩) (λ r s'=>r=.ok (.ret (.bool true))/\OldK s₁.heap s'.heap/\s'.os=s₁.os/\AllBare s'.gens) s₁) :
  WalkO q loose XP YP l.row.toRowW d [] (λ f vs=>PySem.call f vs):=by
 intro w s₀ s₁ mg mb G Y fa o pm cd doc dV kV ho hd hcd hD hmg hg args vals as hpre hlay hrd hwl hlo;obtain rfl:dV=.none:=Dflts.none hD hdf;obtain rfl:kV=.none:=Dflts.noKw hD;obtain ⟨a,vs,ns,rfl,rfl,hobj,hints,hlen⟩:=script_of hn hpre hwl;refine enter_call (codeAny_mono (call w s₀ s₁ mg mb fa o pm cd doc a vs ns G Y ho (fd_plain hd) hcd hmg hobj hints hlen hg) λ r s' hq=>?_);obtain ⟨rfl,h2,h3,h4⟩:=hq;exact ⟨.inl ⟨.bool true,.bool true,[],rfl,λ _=>rfl,.bool true,post_true l _,λ _=>⟨List.Pairwise.nil,λ _ hm=>(nomatch hm)⟩⟩,h2,h3,h4⟩
section
variable {prog:Program}{w:World}{A:Around}{E:Value->Shared->Prop}{s:Shared}{K:Frag}
def z7r (h:Heap)(L d:Addr):List (Addr×Obj):=(List.range h.objs.size).filterMap λ a=>if a=L\/a=d then none else (h.get? a).map λ o=>(a,o)
end
end Att
namespace L2
open PySem PySem.Spec PyProof.Rows
theorem Jx:∀ {vs:List Value}{ns:List Int},IntsAre vs ns->Vals (ns.map V.int) vs
 | _,_,.nil=>.nil
 | _,_,.cons n t h=>.cons ⟨t,rfl⟩ (Jx h)
def Bl (H:Hp):Prop:=∀ b,H b=none\/∃ o xs,H b=some (.frz o (.lst xs))
theorem WW {P:Program}{w:World}{K:Y00}{mg mb:Str->Option Value}{CX:CXT}{k:Nat}{fa a:Addr}{fd:FuncData}{x:Str}{sp:Sp}{s₁:Shared}{vs:List Value}{ns:List Int}
  (KX:K.In s₁.heap) (hns:s₁.heap.Ns mainGlobals mg) (hb:s₁.heap.Ns builtinsNs mb) (hbb:∀ x:Str,x≠"__name__"->mb x=bootBuiltins x) (hlim:s₁.heap.NoLimit) (hg:s₁.gens=#[])
  (ha:s₁.heap.get? a=some { cls:=.type "list",data:=.seq vs.toArray }) (hi:IntsAre vs ns) (hl:ns.length<=sizeLine) (hr:Room k callerA)
  (F:∀ base:Heap,K.In base->base.Ns mainGlobals mg->FnOk P w K mg base CX k fa fd [x] sp) (hbind:∀ (s:Shared) (u:Value),BindsTo s fd ⟨[u],[]⟩ [(x,u)])
  (hsp:∀ H:Hp,Bl H->SqL K H a (ns.map V.int)->sp [.ref a] H (λ v _=>v=.bl true) λ _ _ _=>False)
  (hCX:∀ H e s',CX [] H s₁ (λ _ _ _=>False) e s'->False) :
  codeAny (model P w) callerA (.call (.ref fa) ⟨[.ref a],[]⟩) (λ r s'=>r=.ok (.ret (.bool true))/\OldK s₁.heap s'.heap/\s'.os=s₁.os/\AllBare s'.gens) s₁:=by
 have rv:=Jx hi;have lenV:=hi.length;have core:∀ H:Hp,Bl H->SqL K H a (ns.map V.int)->HOk P w H s₁.heap->(∀ b,H b≠none->b=a)->(H a≠none->K.lookup a=none) ->
   codeAny (model P w) callerA (.call (.ref fa) ⟨[.ref a],[]⟩) (λ r s'=>r=.ok (.ret (.bool true))/\OldK s₁.heap s'.heap/\s'.os=s₁.os/\AllBare s'.gens) s₁:=by
  intro H hO hS hok hA hK;have base_of:∀ {b:Addr}{o:Obj},s₁.heap.get? b=some o->H b=none->(W2 s₁.heap H).get? b=some o:=λ e n=>VR e n;have noA:∀ {b:Addr}{o:Obj}{es:Array DictEntry}{ep:Nat},s₁.heap.get? b=some o->o.data=.dict es ep->H b=none:=λ {b o es ep} e d=>by
   cases q:H b with
   | none=>rfl
   | some u =>
    have e':b=a:=hA b (by rw [q];simp);subst e';rw [ha] at e;cases e;have d':Data.seq vs.toArray _=Data.dict es ep:=d;cases d'
  have nsK:∀ {b:Addr}{m:Str->Option Value},s₁.heap.Ns b m->(W2 s₁.heap H).Ns b m:=λ {b m} ⟨o,es,ep,e,d,r⟩=>⟨o,es,ep,base_of e (noA e d),d,r⟩;have hKb:K.In (W2 s₁.heap H):=λ b o e=>base_of (KX b o e) (by
   cases q:H b with
   | none=>rfl
   | some u =>
    have e':b=a:=hA b (by rw [q];simp);subst e';rw [hK (by rw [q];simp)] at e;cases e)
  have hM:Mod K mg (W2 s₁.heap H):=⟨hKb,nsK hns,⟨mb,nsK hb,hbb⟩,let ⟨mc,h1,h2⟩:=hlim;⟨mc,nsK h1,h2⟩⟩;have e0:Env0 P w K mg (W2 s₁.heap H) callerA [] s₁ H:=⟨rfl,hM,λ b o e=>B1 e,Y2y (UT _ _),trivial,λ b hb=>absurd (show b∈([]:List Addr) from hb) (by simp),hok,.of_eq hg⟩;refine codeAny_mono ((F _ hKb (nsK hns)).run callerA [] s₁ H ⟨[.ref a],[]⟩ [.ref a] [.ref a] _ _ hr e0 (hbind s₁ (.ref a)) (.cons rfl .nil) (hsp H hO hS)) λ r s' h=>?_;cases r with
  | error e=>exact (hCX H e s' h).elim
  | ok fl =>
   cases fl with
   | next=>exact False.elim h
   | brk=>exact False.elim h
   | cont=>exact False.elim h
   | ret u =>
    obtain ⟨v,H',os,bare,un,hok',r',q⟩:=h;have q':v=.bl true:=q;subst q';obtain rfl:u=Value.bool true:=r';refine ⟨rfl,OldK.of_keep λ b o e=>?_,os,bare⟩;cases q:H b with
    | none=>exact un.keep b o e q (by intro z;exact absurd (show b∈([]:List Addr) from z) (by simp)) (by simp)
    | some u =>
     rcases hO b with z | ⟨ob,xs,z⟩
     ·rw [q] at z;cases z
     ·have z2:=un.frzs b ob _ z;obtain ⟨e1,_⟩:=hok b _ z;obtain ⟨e2,_⟩:=hok' b _ z2;rw [e] at e1;cases e1;exact e2
 cases hk:K.lookup a with
 | some o =>
  have e:=KX a o hk;rw [ha] at e;cases e;refine core (λ _=>none) (λ _=>.inl rfl) (.inr ⟨_,vs.toArray,_,hk,rfl,rfl,rfl,by rw [Y0d,lenV];exact hl,by simpa using rv⟩) (λ b u z=>by have z':(none:Option HO)=some u:=z;cases z') (λ b z=>absurd rfl z) λ z=>absurd rfl z
 | none =>
  refine core (λ b=>if b=a then some (.frz { cls:=.type "list",data:=.seq vs.toArray } (.lst (ns.map V.int))) else none) (λ b=>?_) (.inl (.inr ⟨{ cls:=.type "list",data:=.seq vs.toArray },if_pos rfl⟩)) (λ b u z=>?_) (λ b z=>?_) λ _=>hk
  ·by_cases hb:b=a
   ·exact .inr ⟨_,_,if_pos hb⟩
   ·exact .inl (if_neg hb)
  ·by_cases hb:b=a
   ·have z':=(if_pos hb).symm.trans z;cases z';subst hb;exact ⟨ha,by rw [Y0c];exact hl,vs,_,rv,ha⟩
   ·have z':=(if_neg hb).symm.trans z;cases z'
  ·by_cases hb:b=a
   ·exact hb
   ·exact absurd (if_neg hb) z
abbrev KOf {K:Y00}{h:Heap}(_:K.In h):Y00:=K
theorem z71 {l:PySem.W.OpenLaw}{n k:Nat}{q:Program}{loose:List Str}{XP:(Str->Option Value)->Heap->Prop}{YP:World->Heap->Prop}{d:DefRec}{K:Params->Y00}{CX:World->CXT}{sp:World->Sp}{x:Str}
  (hn:l.most=some n) (hn2:n<=sizeLine) (hdf:d.params.defaults=[]) (hr:Room k callerA)
  (hY:∀ (w:World) (h:Heap),YP w h->(K w.params).In h)
  (F:∀ (w:World) (mg:Str->Option Value) (fa:Addr) (h:Heap),(K w.params).In h->h.Ns mainGlobals mg->mg d.name=some (.ref fa) ->
   ∃ fd:FuncData,(∀ (s:Shared) (u:Value),BindsTo s fd ⟨[u],[]⟩ [(x,u)]) /\
    ∀ base:Heap,(K w.params).In base->base.Ns mainGlobals mg->FnOk l.prog w (K w.params) mg base (CX w) k fa fd [x] (sp w))
  (hsp:∀ (w:World) (H:Hp) (a:Addr) (ns:List Int),ns.length<=n->Bl H->SqL (K w.params) H a (ns.map V.int)->sp w [.ref a] H (λ v _=>v=.bl true) λ _ _ _=>False)
  (hCX:∀ (w:World) (H:Hp) (s:Shared) (e:Value) (s':Shared),CX w [] H s (λ _ _ _=>False) e s'->False) :
  PySem.W.WalkO q loose XP YP l.row.toRowW d [] (λ f vs=>PySem.call f vs):=by
 refine Att.attach_call hn hdf λ w s₀ s₁ mg mb fa o pm cd doc a vs ns G Y ho hd hcd hmg hobj hints hlen hg=>?_;have KX:=hY w _ Y;obtain ⟨fd,hb,hF⟩:=F w mg fa _ KX G.T.g hmg;exact WW KX G.T.g G.T.b G.T.builtins G.T.nolimit hg hobj hints (Y0t hlen hn2) hr hF hb (λ H hO hS=>hsp w H a ns hlen hO hS) λ H e s'=>hCX w H s₁ e s'
def jo (s:Stmt):Arguments:=match s with
 | .FunctionDef _ a _ _ _ _ _ _ _ _=>a
 | _=>{ posonlyargs:=[],args:=[],vararg:=none,kwonlyargs:=[],kw_defaults:=[],kwarg:=none,defaults:=[] }
def zR (s:Stmt):List Stmt:=match s with
 | .FunctionDef _ _ b _ _ _ _ _ _ _=>b
 | _=>[]
def zd (s:Stmt):Scope:=match s with
 | .FunctionDef _ _ _ _ _ _ sc _ _ _=>sc
 | _=>{ kind:=.function,names:=[],isGenerator:=false,isCoroutine:=false }
abbrev CX0:CXT:=λ _ _ _ _ _ _=>False
abbrev E0:XK:=λ _ _ _=>False
structure Fun (K:Y00)(x qual:Str)(st:Stmt)(f:Addr)(fd:FuncData):Prop where
 ex:∃ (oc:Value) (od:Option Addr) (kV doc pm:Value) (an:Option Addr) (cdv ct:Value) (osl:Array (Option Value)),
  fd=PySem.W.fnOf x qual (jo st) (zR st) (zd st) .none kV doc pm an cdv ct/\K.lookup f=some ⟨oc,od,.func fd,osl⟩/\PySem.W.codeIn K cdv qual=true
 kp:PySem.W.keepIn K (.ref f)=true
section
variable {P:Program}{w:World}{K:Y00}{mg:Str->Option Value}{base:Heap}
theorem Fun.ok {x qual:Str}{st:Stmt}{f:Addr}{fd:FuncData}{N ps:List Str}{k:Nat}{sp:Sp}(F:Fun K x qual st f fd)(S:FnScope N ps (zd st))(len:∀ vs H Q E,sp vs H Q E->vs.length=ps.length)
  (hbody:∀ (cdv:Value) (A:Around) (outer:List Env) (s:Shared) (H:Hp) (vs:List V) (Q:VK) (E:XK),Room k (A.deeper (envOfC qual (zd st) s.heap.objs.size f cdv))->sp vs H Q E ->
   ∃ t,PSs (qL CX0 P w K mg base N qual (zd st) f cdv A outer s H E).nox (zR st) t/\t { nx:=λ _ H'=>Q .non H',rt:=Q } (start N vs) H):FnOk P w K mg base CX0 (k+1) f fd ps sp:=by
 obtain ⟨oc,od,kV,doc,pm,an,cdv,ct,osl,rfl,lk,hcd⟩:=F.ex;refine z1d lk hcd S len λ A outer s H vs Q E hr hsp=>?_;obtain ⟨t,h,q⟩:=hbody cdv A outer s H vs Q E hr hsp;exact ⟨t,h.nox,q⟩
theorem Fun.binds {x qual:Str}{st:Stmt}{f:Addr}{fd:FuncData}{ps:List Str}(F:Fun K x qual st f fd)
  (h:∀ (kV doc pm:Value) (an:Option Addr) (cdv ct:Value) (us:List Value),us.length=ps.length->bindArgs (PySem.W.fnOf x qual (jo st) (zR st) (zd st) .none kV doc pm an cdv ct) ⟨us,[]⟩=pure (ps.zip us)):Binds K fd ps []:=by
 obtain ⟨oc,od,kV,doc,pm,an,cdv,ct,osl,rfl,lk,hcd⟩:=F.ex;exact .all (h kV doc pm an cdv ct)
theorem Y4 {x qual:Str}{st:Stmt}{f:Addr}{oc:Value}{od an:Option Addr}{osl:Array (Option Value)}{kV doc pm cdv ct:Value}(l:K.lookup f=some ⟨oc,od,.func (PySem.W.fnOf x qual (jo st) (zR st) (zd st) .none kV doc pm an cdv ct),osl⟩)
  (c:PySem.W.codeIn K cdv qual=true) (k:PySem.W.keepIn K (.ref f)=true):Fun K x qual st f (PySem.W.fnOf x qual (jo st) (zR st) (zd st) .none kV doc pm an cdv ct):=⟨⟨oc,od,kV,doc,pm,an,cdv,ct,osl,rfl,l,c⟩,k⟩
end
theorem z1f {A:Around}{k:Nat}(hr:Room k A):A.units+1<cLine:=Nat.lt_of_le_of_lt (Nat.add_le_add_left (by decide:1<=64) _) hr.units
theorem Jy {n:Nat}(h:n<=1000):n<sizeLine:=Nat.lt_of_le_of_lt h (by decide)
section
variable {X:Cx}
theorem pv (i:Nat) {x:Str}{pos:Pos} (hN:X.N[i]?=some x:=by rfl) (hv:Vis X.env.scope x:=by first | exact Or.inl rfl | exact Or.inr (Or.inl rfl) | exact Or.inr (Or.inr rfl)) (hd:(x==("__debug__":Str))=false:=by decide)
  (hcd:(x==("__classdict__":Str))=false:=by decide):PE X (.Name x pos) (z56 i):=VS hN hv hd hcd
end
theorem yL {A B:Prop}(h:B):if false=true then A else B:=by
 rw [if_neg Y0s];exact h
theorem yM {A B:Prop}(h:A):if true=true then A else B:=by
 rw [if_pos rfl];exact h
def Same (H H':Hp):Prop:=∀ b o,H b=some o->H' b=some o
theorem Same.refl (H:Hp):Same H H:=λ _ _ h=>h
theorem Same.trans {H H1 H2:Hp}(a:Same H H1)(b:Same H1 H2):Same H H2:=λ c o h=>b c o (a c o h)
theorem Same.free {H H':Hp}(e:Same H H'){l:Addr}(h:H' l=Option.none):H l=Option.none:=by
 cases q:H l with
 | none=>rfl
 | some o =>
  rw [e l o q] at h;cases h
theorem Same.seq {K:Y00}{H H':Hp}{a:Addr}{xs:List V}(e:Same H H')(h:SqL K H a xs):SqL K H' a xs:=by
 rcases h with (h | ⟨o,h⟩) | h
 ·exact .inl (.inl (e _ _ h))
 ·exact .inl (.inr ⟨o,e _ _ h⟩)
 ·exact .inr h
section
variable {κ:Type}[DecidableEq κ]
def wC (kvs:List (κ×V))(k:κ):Option V:=(kvs.find? λ kv=>decide (kv.1=k)).map (·.2)
def qr (kvs:List (κ×V))(k:κ)(v:V):List (κ×V) :=
 if (kvs.any λ kv=>decide (kv.1=k))=true then kvs.map (λ kv=>if kv.1=k then (kv.1,v) else kv) else kvs++[(k,v)]
def z1g (kvs:List (κ×V))(k:κ):List (κ×V):=kvs.filter λ kv=>decide (kv.1≠k)
theorem wH {p:κ×V}{r:List (κ×V)}{k:κ}(e:p.1=k):wC (p::r) k=some p.2:=by simp [wC,Y25,e]
theorem wI {p:κ×V}{r:List (κ×V)}{k:κ}(e:¬ p.1=k):wC (p::r) k=wC r k:=by simp [wC,Y25,e]
theorem WX (k:κ):∀ kvs:List (κ×V),(kvs.any λ kv=>decide (kv.1=k))=(wC kvs k).isSome
 | []=>rfl
 | p::r=>by
  rw [Y1m];by_cases e:p.1=k
  ·simp only [wH e,decide_eq_true e,Bool.true_or,Option.isSome_some]
  ·rw [wI e,decide_eq_false e,Bool.false_or];exact WX k r
theorem yC (kvs:List (κ×V))(k:κ)(v:V):(qr kvs k v).length<=kvs.length+1:=by
 unfold qr
 split
 ·rw [Y0c];omega
 ·rw [Y03,Y01,Y0x];omega
theorem RelO.isSome_eq {o:Option V}{u:Option Value}(r:RelO o u):o.isSome=u.isSome:=by
 cases o with
 | none=>cases u with
  | none=>rfl
  | some _=>exact (show False from r).elim
 | some _=>cases u with
  | none=>exact (show False from r).elim
  | some _=>rfl
theorem RelO.getD {o:Option V}{u:Option Value}{d:V}{d':Value}(r:RelO o u)(rd:RelV d d'):RelV (o.getD d) (u.getD d'):=by
 cases o with
 | none=>cases u with
  | none=>exact rd
  | some _=>exact (show False from r).elim
 | some _=>cases u with
  | none=>exact (show False from r).elim
  | some _=>exact r
theorem KV.val {kvs:List (κ×V)}{vs:List (κ×Value)}(r:KV kvs vs)(k:κ):RelO (wC kvs k) (valueAt vs k):=by
 unfold KV at r
 induction r with
 | nil=>exact True.intro
 | @cons p q ps qs h t ih =>
  obtain ⟨h1,h2⟩:=h;by_cases e:p.1=k
  ·have e':q.1=k:=h1.symm.trans e;have b:valueAt (q::qs) k=some q.2:=by simp [valueAt,Y25,e']
   rw [wH e,b];exact h2
  ·have e':¬ q.1=k:=λ z=>e (h1.trans z);have b:valueAt (q::qs) k=valueAt qs k:=by simp [valueAt,Y25,e']
   rw [wI e,b];exact ih
theorem KV.any {kvs:List (κ×V)}{vs:List (κ×Value)}(r:KV kvs vs)(k:κ):(kvs.any λ kv=>decide (kv.1=k))=vs.any λ kv=>decide (kv.1=k):=by
 unfold KV at r
 induction r with
 | nil=>rfl
 | cons h t ih=>rw [Y1m,Y1m,ih,h.1]
theorem KV.repl {kvs:List (κ×V)}{vs:List (κ×Value)}(r:KV kvs vs)(k:κ){y:V}{u:Value}(ry:RelV y u) :
  KV (kvs.map λ kv=>if kv.1=k then (kv.1,y) else kv) (vs.map λ kv=>if kv.1=k then (kv.1,u) else kv):=by
 unfold KV at r ⊢
 induction r with
 | nil=>exact .nil
 | @cons p q ps qs h t ih =>
  rw [Y05,Y05];refine .cons ?_ ih;obtain ⟨h1,h2⟩:=h;by_cases e:p.1=k
  ·rw [if_pos e,if_pos (h1.symm.trans e)];exact ⟨h1,ry⟩
  ·rw [if_neg e,if_neg (λ z=>e (h1.trans z))];exact ⟨h1,h2⟩
theorem KV.put {kvs:List (κ×V)}{vs:List (κ×Value)}(r:KV kvs vs)(k:κ){y:V}{u:Value}(ry:RelV y u):KV (qr kvs k y) (stored vs k u):=by
 unfold qr stored;rw [r.any k];by_cases e:(vs.any λ kv=>decide (kv.1=k))=true
 ·rw [if_pos e,if_pos e];exact r.repl k ry
 ·rw [if_neg e,if_neg e];exact Paired.snoc r ⟨rfl,ry⟩
theorem KV.drop {kvs:List (κ×V)}{vs:List (κ×Value)}(r:KV kvs vs)(k:κ):KV (z1g kvs k) (without vs k):=by
 unfold KV at r ⊢;unfold z1g without
 induction r with
 | nil=>exact .nil
 | @cons p q ps qs h t ih =>
  obtain ⟨h1,h2⟩:=h;rw [Y2e,Y2e];by_cases e:p.1=k
  ·have a:¬ decide (p.1≠k)=true:=by simp [e]
   have b:¬ decide (q.1≠k)=true:=by simp [h1.symm.trans e]
   rw [if_neg a,if_neg b];exact ih
  ·have e':¬ q.1=k:=λ z=>e (h1.trans z);have a:decide (p.1≠k)=true:=by simp [e]
   have b:decide (q.1≠k)=true:=by simp [e']
   rw [if_pos a,if_pos b];exact .cons ⟨h1,h2⟩ ih
theorem KV.keys {kvs:List (κ×V)}{vs:List (κ×Value)}(r:KV kvs vs):kvs.map (·.1)=vs.map (·.1):=by
 unfold KV at r
 induction r with
 | nil=>rfl
 | cons h t ih=>rw [Y05,Y05,ih,h.1]
theorem KV.length {kvs:List (κ×V)}{vs:List (κ×Value)}(r:KV kvs vs):kvs.length=vs.length:=Paired.length r
end
theorem Ze {P:Program}{w:World}{k:Key}{u:Value}(r:RelV (kV k) u):(zw P w).is k u=true:=by
 cases k with
 | inl i=>obtain ⟨t,e⟩:=(show ∃ t,u=Value.int i t from r);subst e;exact WP P w i t
 | inr x=>obtain ⟨t,e⟩:=(show ∃ t,u=Value.str x t from r);subst e;exact WQ P w x t
theorem yi {P:Program}{w:World}:∀ {ks:List Key}{us:List Value},Vals (ks.map kV) us->ItemsAre (zw P w) ks us
 | [],_,r=>by rw [Y0k] at r;cases r;exact .nil
 | k::ks,_,r=>by
  rw [Y05] at r;cases r with
  | cons h t=>exact .cons (Ze h) (yi t)
abbrev KT (H:Hp):List (List Key×V)->List (List Key×Addr×Value)->Prop:=Paired λ p q=>p.1=q.1/\H q.2.1=some (.tup (p.1.map kV))/\RelV p.2 q.2.2
theorem KT.val {H:Hp}{kvs:List (List Key×V)}{xs:List (List Key×Addr×Value)}(r:KT H kvs xs)(k:List Key):RelO (wC kvs k) ((atKey xs k).map (·.2)):=by
 induction r with
 | nil=>exact True.intro
 | @cons p q ps qs h t ih =>
  obtain ⟨h1,_,h2⟩:=h;by_cases e:p.1=k
  ·have e':q.1=k:=h1.symm.trans e;have b:atKey (q::qs) k=some q.2:=by simp [atKey,Y25,e']
   rw [wH e,b];exact h2
  ·have e':¬ q.1=k:=λ z=>e (h1.trans z);have b:atKey (q::qs) k=atKey qs k:=by simp [atKey,Y25,e']
   rw [wI e,b];exact ih
theorem KT.repl {H:Hp}{kvs:List (List Key×V)}{xs:List (List Key×Addr×Value)}(r:KT H kvs xs)(k:List Key){y:V}{u:Value}(ry:RelV y u) :
  KT H (kvs.map λ kv=>if kv.1=k then (kv.1,y) else kv) (xs.map (putAt k u)):=by
 induction r with
 | nil=>exact .nil
 | @cons p q ps qs h t ih =>
  rw [Y05,Y05];refine .cons ?_ ih;obtain ⟨h1,h2,h3⟩:=h;unfold putAt;by_cases e:p.1=k
  ·rw [if_pos e,if_pos (h1.symm.trans e)];exact ⟨h1,h2,ry⟩
  ·rw [if_neg e,if_neg (λ z=>e (h1.trans z))];exact ⟨h1,h2,h3⟩
theorem KT.put {H:Hp}{kvs:List (List Key×V)}{xs:List (List Key×Addr×Value)}(r:KT H kvs xs)(k:List Key){b:Addr}{y:V}{u:Value}(hb:H b=some (.tup (k.map kV)))(ry:RelV y u) :
  KT H (qr kvs k y) (storedH xs k b u):=by
 have e:(kvs.any λ kv=>decide (kv.1=k))=(atKey xs k).isSome:=by
  rw [WX,(r.val k).isSome_eq,Y28]
 unfold qr storedH;rw [e];by_cases q:(atKey xs k).isSome=true
 ·rw [if_pos q,if_pos q];exact r.repl k ry
 ·rw [if_neg q,if_neg q];exact Paired.snoc r ⟨rfl,hb,ry⟩
theorem KT.keeps {H H':Hp}{kvs:List (List Key×V)}{xs:List (List Key×Addr×Value)}(r:KT H kvs xs)(ht:∀ b ys,H b=some (.tup ys)->H' b=some (.tup ys)):KT H' kvs xs :=
 Paired.mapP r λ _ _ z=>⟨z.1,ht _ _ z.2.1,z.2.2⟩
section
variable {P:Program}{w:World}{H:Hp}{h:Heap}{a:Addr}
theorem zv {u:HO}(ok:HOk P w H h)(e:Rd H a u):ObjOk P w H h a u:=e.ok ok
theorem U8 {kvs:List (Key×V)}(ok:HOk P w H h)(e:Rd H a (.dK kvs)):kvs.length<=sizeLine/\(a==sysModules)=false/\∃ vs,KV kvs vs/\h.DictOf (zw P w) a vs :=
 show ObjOk P w H h a (.dK kvs) from zv ok e
theorem z1h {kvs:List (Key×V)}(ok:HOk P w H h)(e:H a=some (.dK kvs)):kvs.length<=sizeLine/\(a==sysModules)=false/\∃ vs,KV kvs vs/\h.DictOf (zw P w) a vs:=U8 ok (.inl e)
theorem Zf {ks:List Key}(ok:HOk P w H h)(e:H a=some (.tup (ks.map kV))):(tupleKind (zw P w)).is h ks a:=by
 obtain ⟨_,its,r,o,h1,h2,n,h3⟩:=(show ObjOk P w H h a (.tup (ks.map kV)) from ok a _ e);exact ⟨o,its.toArray,n,h1,h2,h3,by simpa using yi r⟩
theorem U9 {kvs:List (List Key×V)}(ok:HOk P w H h)(e:Rd H a (.dT kvs)):kvs.length<=sizeLine/\(a==sysModules)=false /\
  ∃ xs,KT H kvs xs/\h.DictOfH (tupleKind (zw P w)) a xs:=by
 obtain ⟨z,y,xs,r,o,es,ep,h1,h2,h3,h4,h5⟩:=(show ObjOk P w H h a (.dT kvs) from zv ok e);refine ⟨z,y,xs,r,o,es,ep,h1,h2,h3,h4,λ x hx=>?_,h5⟩;have all:∀ {l:List (List Key×V)}{m:List (List Key×Addr×Value)},KT H l m->∀ x∈m,(tupleKind (zw P w)).is h x.1 x.2.1:=by
  intro l m q
  induction q with
  | nil=>intro x hx;exact nomatch hx
  | @cons p q ps qs hq t ih =>
   intro x hx;rcases Y0b.mp hx with e | hx
   ·subst e;exact Zf ok (by rw [<- hq.1];exact hq.2.1)
   ·exact ih x hx
 exact all r x hx
theorem z1i {kvs:List (List Key×V)}(ok:HOk P w H h)(e:H a=some (.dT kvs)):kvs.length<=sizeLine/\(a==sysModules)=false /\
  ∃ xs,KT H kvs xs/\h.DictOfH (tupleKind (zw P w)) a xs:=U9 ok (.inl e)
end
def DGet (H:Hp)(a:Addr)(y:V)(r:Option V):Prop :=
 (∃ kvs k,Rd H a (.dK kvs)/\y=kV k/\r=wC kvs k)\/∃ kvs k b,Rd H a (.dT kvs)/\y=.ref b/\H b=some (.tup (k.map kV))/\r=wC kvs k
def DPut (H:Hp)(a:Addr)(y v:V)(H':Hp):Prop :=
 (∃ kvs k,H a=some (.dK kvs)/\y=kV k/\kvs.length<sizeLine/\H'=upd H a (.dK (qr kvs k v))) \/
 ∃ kvs k b,H a=some (.dT kvs)/\y=.ref b/\H b=some (.tup (k.map kV))/\kvs.length<sizeLine/\H'=upd H a (.dT (qr kvs k v))
theorem DGet.k {H:Hp}{a:Addr}{kvs:List (Key×V)}{k:Key}(e:H a=some (.dK kvs)):DGet H a (kV k) (wC kvs k):=.inl ⟨kvs,k,.inl e,rfl,rfl⟩
theorem DGet.t {H:Hp}{a b:Addr}{kvs:List (List Key×V)}{k:List Key}(e:H a=some (.dT kvs))(eb:H b=some (.tup (k.map kV))):DGet H a (.ref b) (wC kvs k):=.inr ⟨kvs,k,b,.inl e,rfl,eb,rfl⟩
theorem DPut.k {H:Hp}{a:Addr}{kvs:List (Key×V)}{k:Key}{v:V}(e:H a=some (.dK kvs))(hl:kvs.length<sizeLine):DPut H a (kV k) v (upd H a (.dK (qr kvs k v))):=.inl ⟨kvs,k,e,rfl,hl,rfl⟩
theorem DPut.t {H:Hp}{a b:Addr}{kvs:List (List Key×V)}{k:List Key}{v:V}(e:H a=some (.dT kvs))(eb:H b=some (.tup (k.map kV)))(hl:kvs.length<sizeLine) :
  DPut H a (.ref b) v (upd H a (.dT (qr kvs k v))):=.inr ⟨kvs,k,b,e,rfl,eb,hl,rfl⟩
section
variable {X:Cx}{pins:List (Addr×Obj)}{σ:St}{H:Hp}{s:Shared}{a:Addr}{y v:V}{u r:Value}{o:Option V}{A:Around}{E:Value->Shared->Prop}
theorem Inv.big (I:Inv X pins σ H s):sysModules<s.heap.objs.size:=by
 have h:mainGlobals<s.heap.objs.size:=(I.mod.glob.keeps I.bk).lt;exact Nat.lt_trans (by decide) h
theorem V0 {Q:Value->Shared->Prop}(hu:A.units+1<cLine)(I:Inv X pins σ H s)(g:DGet H a y (some v))(ry:RelV y u)(h:∀ w' s',Inv X pins σ H s'->RelV v w'->Q w' s') :
  wpAny (model X.prog X.w) A (getItem (.ref a) u) Q E s:=by
 rcases g with ⟨kvs,k,e,ey,l⟩ | ⟨kvs,k,b,e,ey,eb,l⟩
 ·subst ey;obtain ⟨z,hd,vs,rel,dd⟩:=U8 I.hok e;obtain ⟨w',hw,rw'⟩:=RelO.some_of (v:=v) (o:=valueAt vs k) (by rw [l];exact rel.val k);exact wpAny_getItem_of (Ze ry) dd.mapOf hw (h w' _ (I.tok _) rw')
 ·subst ey;cases (show u=Value.ref b from ry);obtain ⟨z,hd,xs,rel,dd⟩:=U9 I.hok e;obtain ⟨w',hw,rw'⟩:=RelO.some_of (v:=v) (o:=(atKey xs k).map (·.2)) (by rw [l];exact rel.val k);obtain ⟨p,hp,hp2⟩:=Y27.mp hw;refine wpAny_getItem_heap (tupleKind_room_in1 hu) (Zf I.hok eb) dd hp ?_;rw [hp2];exact h w' _ (I.tok _) rw'
theorem z7s {Q:Value->Shared->Prop}(hu:A.units+1<cLine)(I:Inv X pins σ H s)(g:DGet H a y o)(ry:RelV y u)(h:∀ s',Inv X pins σ H s'->Q (.bool o.isSome) s') :
  wpAny (model X.prog X.w) A (compareOp .In u (.ref a)) Q E s:=by
 rcases g with ⟨kvs,k,e,ey,l⟩ | ⟨kvs,k,b,e,ey,eb,l⟩
 ·subst ey;obtain ⟨z,hd,vs,rel,dd⟩:=U8 I.hok e;refine wpAny_in_of (Ze ry) hd dd.mapOf ?_;rw [<- (rel.val k).isSome_eq,<- l];exact h _ (I.tok _)
 ·subst ey;cases (show u=Value.ref b from ry);obtain ⟨z,hd,xs,rel,dd⟩:=U9 I.hok e;refine wpAny_in_heap (tupleKind_room_in1 hu) (Zf I.hok eb) hd dd ?_;have q:=(rel.val k).isSome_eq;rw [Y28] at q;rw [<- q,<- l];exact h _ (I.tok _)
theorem Bm {Q:Value->Shared->Prop}(hu:A.units+1<cLine)(I:Inv X pins σ H s)(g:DGet H a y o)(ry:RelV y u)(h:∀ s',Inv X pins σ H s'->Q (.bool (!o.isSome)) s') :
  wpAny (model X.prog X.w) A (compareOp .NotIn u (.ref a)) Q E s:=by
 rcases g with ⟨kvs,k,e,ey,l⟩ | ⟨kvs,k,b,e,ey,eb,l⟩
 ·subst ey;obtain ⟨z,hd,vs,rel,dd⟩:=U8 I.hok e;refine wpAny_notIn_of (Ze ry) hd dd.mapOf ?_;rw [<- (rel.val k).isSome_eq,<- l];exact h _ (I.tok _)
 ·subst ey;cases (show u=Value.ref b from ry);obtain ⟨z,hd,xs,rel,dd⟩:=U9 I.hok e;refine wpAny_notIn_heap (tupleKind_room_in1 hu) (Zf I.hok eb) hd dd ?_;have q:=(rel.val k).isSome_eq;rw [Y28] at q;rw [<- q,<- l];exact h _ (I.tok _)
theorem Ua {h':Heap}{t':Nat}{ob:HO}(I:Inv X pins σ H s)(mu:Mut (H a))(hs:Heap.SameBut a s.heap h')(he:∃ q,h'.get? a=some q)(new:ObjOk X.prog X.w (upd H a ob) h' a ob) :
  Inv X pins σ (upd H a ob) { s with heap:=h',toks:=t' } :=
 I.write (x:=a) (e:=a) mu (.inl rfl) (λ b q hb z=>(hs.2 b hb).trans z) he new
theorem z34 {P:Program}{w:World}{H':Hp}{h':Heap}{kvs:List (Key×V)}{vs:List (Key×Value)}(z:kvs.length<=sizeLine)(hd:(a==sysModules)=false)(rel:KV kvs vs)(dd:h'.DictOf (zw P w) a vs) :
  ObjOk P w H' h' a (.dK kvs):=⟨z,hd,vs,rel,dd⟩
theorem V1 {H':Hp}{Q:Unit->Shared->Prop}(hu:A.units+1<cLine)(I:Inv X pins σ H s)(g:DPut H a y v H')(ry:RelV y u)(rv:RelV v r)(h:∀ s',Inv X pins σ H' s'->Q () s') :
  wpAny (model X.prog X.w) A (setItem (.ref a) u r) Q E s:=by
 rcases g with ⟨kvs,k,e,ey,l,eH⟩ | ⟨kvs,k,b,e,ey,eb,l,eH⟩
 ·subst ey eH;obtain ⟨z,hd,vs,rel,dd⟩:=z1h I.hok e;have hz:vs.length<=sizeLine:=by rw [<- rel.length];exact z
  have hl:(qr kvs k v).length<=sizeLine:=by have:=yC kvs k v;omega
  refine wpAny_setItem_pairs (hsz:=hz) (Ze ry) dd λ h' dd' hs=>h _ ?_;have he:∃ q,h'.get? a=some q:=let ⟨q,_,_,hq,_⟩:=dd';⟨q,hq⟩;exact Ua I (by rw [e];exact True.intro) hs he (z34 hl hd (rel.put k rv) dd')
 ·subst ey eH;cases (show u=Value.ref b from ry);obtain ⟨z,hd,xs,rel,dd⟩:=z1i I.hok e;have hz:xs.length<=sizeLine:=by rw [<- Paired.length rel];exact z
  have hl:(qr kvs k v).length<=sizeLine:=by have:=yC kvs k v;omega
  refine wpAny_setItem_heap (hsz:=hz) (tupleKind_room_in1 hu) (Zf I.hok eb) dd λ h' dd' hs=>h _ ?_;obtain ⟨q,es,ep,hq,h2,h3,h4,_,h5⟩:=dd';refine Ua I (by rw [e];exact True.intro) hs ⟨q,hq⟩ ⟨hl,hd,_,(rel.put k eb rv).keeps λ c ys ec=>?_,q,es,ep,hq,h2,h3,h4,h5⟩;rw [zq (z55 ec e (λ z=>nomatch z))];exact ec
end
theorem Gc {P:Program}{w:World}{H:Hp}(h:Heap)(hb:sysModules<h.objs.size):ObjOk P w H (h.push { cls:=.type "dict",data:=.dict #[] }) h.objs.size (.dK []) :=
 ⟨Y1u _,beq_eq_false_iff_ne.mpr (Ne.symm (Y0r hb)),[],.nil,Heap.DictOf.new h⟩
def z35:TE:=λ _ H Q=>∀ p,H p=none->Q (.ref p) (upd H p (.dK []))
section
variable {X:Cx}{pos:Pos}
theorem Gd:PE X (.Dict [] [] pos) z35:=λ pins s σ H Q I h =>
 wpAny_Dict_empty ⟨.ref s.heap.objs.size,_,I.laid (a:=s.heap.objs.size) (o:=.dK []) (t':=s.toks) (λ _ _ q=>Y02 _ q) (Y09 _) (Gc s.heap I.big),rfl,h _ (I.hok.fresh (Y09 _))⟩
end
def Y5:List (TE×TE)->St->Hp->(List (V×V)->Hp->Prop)->Prop
 | [],_,H,Q=>Q [] H
 | (tk,tv)::r,σ,H,Q=>tk σ H λ x H1=>tv σ H1 λ y H2=>Y5 r σ H2 λ ps H3=>Q ((x,y)::ps) H3
abbrev VV:List (V×V)->List (Value×Value)->Prop:=Paired λ p q=>RelV p.1 q.1/\RelV p.2 q.2
def PPs (X:Cx)(pos:Pos)(keys:List (Option Expr))(values:List Expr)(trs:List (TE×TE)):Prop :=
 ∀ (pins:List (Addr×Obj)) (s:Shared) (σ:St) (H:Hp) (Q:List (V×V)->Hp->Prop),Inv X pins σ H s->Y5 trs σ H Q ->
  wpAny (model X.prog X.w) X.A (evalPairs (pairTrees keys values X.env pos)) (λ vs s'=>∃ ps H',Inv X pins σ H' s'/\VV ps vs/\Q ps H') X.xe s
theorem Bn {X:Cx}{pos:Pos}:PPs X pos [] [] []:=λ pins s σ H Q I h=>pairTrees_nil_walk ⟨[],H,I,.nil,h⟩
theorem Ge {X:Cx}{pos:Pos}{k v:Expr}{ks:List (Option Expr)}{vs:List Expr}{tk tv:TE}{trs:List (TE×TE)}(hk:PE X k tk)(hv:PE X v tv)(hr:PPs X pos ks vs trs) :
  PPs X pos (some k::ks) (v::vs) ((tk,tv)::trs):=λ pins s σ H Q I h =>
 pairTrees_cons_walk (thn (hk pins s σ H _ I h) λ u s1 ⟨x,H1,I1,rx,q1⟩=>thn (hv pins s1 σ H1 _ I1 q1) λ w2 s2 ⟨y,H2,I2,ry,q2⟩ =>
  thn (hr pins s2 σ H2 _ I2 q2) λ ws s3 ⟨ps,H3,I3,rel,q3⟩=>⟨(x,y)::ps,H3,I3,.cons ⟨rx,ry⟩ rel,q3⟩)
structure M1 (X:Cx)(o:Expr)(m:Str)(apos:Pos)(e:Expr)(cpos:Pos):Prop where
 base:attributeBase o m X.env (eval o X.env)=eval o X.env
 few:((backTo cpos (starEach [e] X.env)).all (λ x=>!x.1)&&(backToKw cpos (keywordEach [] X.env)).all (λ x=>x.1.isSome)
  && decide (([e]:List Expr).length+([]:List Keyword).length+(if ([]:List Keyword).isEmpty then 0 else 1)<30))=true
 line:(apos.endLine==cpos.line)=true
 trees:backTo cpos (starEach [e] X.env)=[(false,eval e X.env)]
structure M2 (X:Cx)(o:Expr)(m:Str)(apos:Pos)(e f:Expr)(cpos:Pos):Prop where
 base:attributeBase o m X.env (eval o X.env)=eval o X.env
 few:((backTo cpos (starEach [e,f] X.env)).all (λ x=>!x.1)&&(backToKw cpos (keywordEach [] X.env)).all (λ x=>x.1.isSome)
  && decide (([e,f]:List Expr).length+([]:List Keyword).length+(if ([]:List Keyword).isEmpty then 0 else 1)<30))=true
 line:(apos.endLine==cpos.line)=true
 trees:backTo cpos (starEach [e,f] X.env)=[(false,eval e X.env),(false,eval f X.env)]
end L2
namespace L2
open PySem PyProof.Rows
open Sem (wp)
theorem wJ (s:Shared)(g:Nat)(x:GenState):(s.setGen g x).toks=s.toks:=rfl
theorem yj {M:Model}{Γ:Ctx}{p:Pos}{t:Sem Fin}{fs:List Frame}{s s':Shared}{e:End}(h:Runs M Γ p t fs s e s'):s.toks<=s'.toks:=by
 induction h
 all_goals first
  | exact Y09 _
  | assumption
  | (simp only [wJ] at *;omega)
  | omega
  | (dsimp only at *;omega)
  | trace_state
theorem Y6 {M:Model}{Γ:Ctx}{p:Pos}{g:Nat}{r:Resume}{s s':Shared}{res:GenResult}(h:Wakes M Γ p g r s res s'):s.toks<=s'.toks:=by
 unfold Wakes at h;split at h
 ·exact h.elim
 ·split at h
  ·obtain ⟨e₁,s₁,h1,_,_,rfl⟩:=h
   have:=yj h1
   simpa only [wJ] using this
  ·obtain ⟨_,rfl⟩:=h;exact Y09 _
  ·obtain ⟨_,rfl⟩:=h;exact Y09 _
 ·obtain ⟨e₁,s₁,h1,_,_,rfl⟩:=h
  have:=yj h1
  simpa only [wJ] using this
 ·obtain ⟨_,rfl⟩:=h;exact Y09 _
 ·obtain ⟨_,rfl⟩:=h;exact Y09 _
theorem Bo {α:Type}(M:Model)(Γ:Ctx):∀ (t:Sem α) (Q:α->Pos->Shared->Prop) (E:Value->Pos->Shared->Prop) (p:Pos) (s:Shared),wp M Γ t Q E p s ->
  wp M Γ t (λ a p' s'=>Q a p' s'/\s.toks<=s'.toks) (λ e p' s'=>E e p' s'/\s.toks<=s'.toks) p s:=by
 have mono:∀ {t:Sem α}{Q:α->Pos->Shared->Prop}{E:Value->Pos->Shared->Prop}{p:Pos}{s s0:Shared},s0.toks<=s.toks->wp M Γ t (λ a p' s'=>Q a p' s'/\s.toks<=s'.toks) (λ e p' s'=>E e p' s'/\s.toks<=s'.toks) p s ->
   wp M Γ t (λ a p' s'=>Q a p' s'/\s0.toks<=s'.toks) (λ e p' s'=>E e p' s'/\s0.toks<=s'.toks) p s:=by
  intro t Q E p s s0 h0 h;exact Sem.wp_mono M Γ t (λ _ _ _ q=>⟨q.1,Y0t h0 q.2⟩) (λ _ _ _ q=>⟨q.1,Y0t h0 q.2⟩) p s h
 intro t
 induction t with
 | pure a=>intro Q E p s h;rw [wp] at h ⊢;exact ⟨h,Y09 _⟩
 | raise e=>intro Q E p s h;rw [wp] at h ⊢;exact ⟨h,Y09 _⟩
 | unsupported w=>intro Q E p s h;rw [wp] at h;exact h.elim
 | finish w=>intro Q E p s h;rw [wp] at h;exact h.elim
 | rule _ k ih=>intro Q E p s h;rw [wp] at h ⊢;exact ih () Q E p s h
 | «at» p' k ih=>intro Q E p s h;rw [wp] at h ⊢;exact ih () Q E p' s h
 | load a _ k ih=>intro Q E p s h;rw [wp] at h ⊢;obtain ⟨o,e,h⟩:=h;exact ⟨o,e,ih o Q E p s h⟩
 | update a _ f k ih=>intro Q E p s h;rw [wp] at h ⊢;exact ⟨h.1,mono (Y09 _) (ih () Q E p _ h.2)⟩
 | loadIfAlive a k ih=>intro Q E p s h;rw [wp] at h ⊢;exact ih _ Q E p s h
 | point _ k ih=>intro Q E p s h;rw [wp] at h ⊢;exact ih () Q E p s h
 | register _ _=>intro Q E p s h;rw [wp] at h;exact h.elim
 | alloc o k ih=>intro Q E p s h;rw [wp] at h ⊢;exact mono (Y09 _) (ih _ Q E p _ h)
 | fresh k ih=>intro Q E p s h;rw [wp] at h ⊢;exact mono (Nat.le_succ _) (ih _ Q E p _ h)
 | ask k ih=>intro Q E p s h;rw [wp] at h ⊢;exact ih _ Q E p s h
 | choose src n k ih=>intro Q E p s h;rw [wp] at h ⊢;exact ⟨h.1,mono (Y09 _) (ih _ Q E p _ h.2)⟩
 | os q _ k ih=>intro Q E p s h;rw [wp] at h ⊢;exact mono (Y09 _) (ih _ Q E p _ h)
 | call c hd _ _ k ih =>
  intro Q E p s h;rw [wp] at h ⊢;obtain ⟨r,s',hr,h⟩:=h;exact ⟨r,s',hr,mono (yj hr) (ih r Q E p s' h)⟩
 | handled own k ih=>intro Q E p s h;rw [wp] at h ⊢;exact ih _ Q E p s h
 | genState g k ih=>intro Q E p s h;rw [wp] at h ⊢;obtain ⟨st,e,h⟩:=h;exact ⟨st,e,ih _ Q E p s h⟩
 | newGen c k ih=>intro Q E p s h;rw [wp] at h ⊢;exact mono (Y09 _) (ih _ Q E p _ h)
 | resume g r _ k ih =>
  intro Q E p s h;rw [wp] at h ⊢;obtain ⟨res,s',hr,h⟩:=h;exact ⟨res,s',hr,mono (Y6 hr) (ih res Q E p s' h)⟩
 | yield=>intro Q E p s h;rw [wp] at h;exact h.elim
 | stack k ih=>intro Q E p s h;rw [wp] at h ⊢;exact ih _ Q E p s h
 | fork=>intro Q E p s h;rw [wp] at h;exact h.elim
 | thread k ih=>intro Q E p s h;rw [wp] at h ⊢;exact ih _ Q E p s h
 | await=>intro Q E p s h;rw [wp] at h;exact h.elim
theorem Y7 {α:Type}{M:Model}{A:Around}{t:Sem α}{Q:α->Shared->Prop}{E:Value->Shared->Prop}{s:Shared}(h:wpAny M A t Q E s):wpAny M A t (λ a s'=>Q a s'/\s.toks<=s'.toks) E s :=
 λ Γ p hΓ=>Sem.wp_mono M Γ t (λ _ _ _ q=>q) (λ _ _ _ q=>q.1) p s (Bo M Γ t _ _ p s (h Γ p hΓ))
theorem Zg {M:Model}{A:Around}{E:Value->Shared->Prop}{nm q nm' q':Str}{C N D N':Addr}{bs bm bs' bm':List Value}{hdct hdct':Bool}{sn sn':List Str}{sub sub':List Value}{ab ab':Bool}{col col':Option Bool}{dd dd':Option Addr}
  {k0 k1 k2 k3 k5 k0' k1' k2' k3' k5':Option Value}{newId newId':String}{h:Heap}{g:Array GenState}{d:Drawn}{t:Nat}{os:OsState}{e:Addr}{oe:Obj}{b:Bool}{Q:Bool->Shared->Prop}
  (hC:h.get? C=some (excClassObj nm q C N bs bm hdct sn sub ab col dd k0 k1 k2 k3 k5 newId)) (hD:h.get? D=some (excClassObj nm' q' D N' bs' bm' hdct' sn' sub' ab' col' dd' k0' k1' k2' k3' k5' newId'))
  (he:h.get? e=some oe) (hcls:oe.cls=.ref C) (hbase:bm'.contains (.type "BaseException")=true) (hb:(Value.ref C::bm).contains (.ref D)=b)
  (hq:Q b ⟨h,g,d,t,os⟩):wpAny M A (excMatches (.ref e) (.ref D)) Q E ⟨h,g,d,t,os⟩:=by
 have hcB:(Value.ref D::bm').contains (.type "BaseException")=true:=by rw [List.contains_cons,hbase,Bool.or_true]
 have f:=tc_notTuple;unfold excMatches
 repeat (first | (with_reducible refine wpAny_loadPart_at he ?_;rw [hcls]) | with_reducible refine wpAny_loadPart_at hD ?_ | (with_reducible refine wpAny_isSubtype_exc hD ?_;rw [hcB]) | (with_reducible refine wpAny_isSubtype_exc hC ?_;rw [hb]) | wp_step)
 all_goals (cases b<;>(try wp_walk)<;>exact hq)
end L2
namespace L2
open PySem PySem.Spec PyProof.Rows
def Fl (h:Heap)(a:Addr)(C:Value)(T:Option Addr):Prop :=
 ∃ oe vs a0,h.get? a=some oe/\oe.cls=C/\oe.data=.fields vs/\vs[0]?=some a0/\1<vs.size /\
  (match T with
  | none=>vs[1]?=some Value.none
  | some t=>vs[1]?=some (Value.ref t)/\t≠a/\∃ oT ts,h.get? t=some oT/\oT.data=.fields ts/\3<ts.size)
theorem ZZ {e1 e2:Env}(h:e1.frame=e2.frame):PySem.frameOf e1=PySem.frameOf e2:=by
 unfold PySem.frameOf;rw [h]
theorem yN {e:Value}{e1 e2:Env}(h:e1.frame=e2.frame):noteFrame e e1=noteFrame e e2:=by
 unfold noteFrame;rw [h,ZZ h]
structure Wr (l fs:List Addr)(h h':Heap):Prop where
 keep:∀ b o,b∉l->b∉fs->h.get? b=some o->h'.get? b=some o
 slot:∀ b o,b∉l->b∈fs->h.get? b=some o->∃ sl,h'.get? b=some { o with slots:=sl }
theorem Wr.any {l fs:List Addr}{h h':Heap}(W:Wr l fs h h'){b:Addr}{o:Obj}(hb:b∉l)(e:h.get? b=some o):∃ sl,h'.get? b=some { o with slots:=sl }:=by
 by_cases hf:b∈fs
 ·exact W.slot b o hb hf e
 ·exact ⟨o.slots,W.keep b o hb hf e⟩
theorem ObjOk.there {P:Program}{w:World}{H:Hp}{h:Heap}{a:Addr}{o:HO}(x:ObjOk P w H h a o):∃ ob,h.get? a=some ob:=by
 cases o with
 | lst xs=>obtain ⟨_,_,_,_,e⟩:=x;exact ⟨_,e⟩
 | tup xs=>obtain ⟨_,_,_,ob,e,_⟩:=x;exact ⟨_,e⟩
 | dK kvs=>obtain ⟨_,_,_,_,o,_,_,e,_⟩:=x;exact ⟨_,e⟩
 | dT kvs=>obtain ⟨_,_,_,_,o,_,_,e,_⟩:=x;exact ⟨_,e⟩
 | set S n=>obtain ⟨o,_,_,_,e,_⟩:=x;exact ⟨_,e⟩
 | ins C dx fs=>obtain ⟨_,_,_,e,_⟩:=x;exact ⟨_,e⟩
 | own y=>obtain ⟨_,e⟩:=x;exact ⟨_,e⟩
 | xd fs=>obtain ⟨_,⟨_,_,_,e,_⟩,_⟩:=x;exact ⟨_,e⟩
 | rng lo hi=>obtain ⟨_,_,_,e⟩:=x;exact ⟨_,e⟩
 | frz ob u=>obtain ⟨e,_⟩:=x;exact ⟨_,e⟩
 | tbl ps=>exact ⟨_,(show h.get? a=some _ from x)⟩
 | met f y=>exact ⟨_,(show h.get? a=some _ from x)⟩
 | ext φ=>obtain ⟨_,⟨_,e⟩,_⟩:=x;exact ⟨_,e⟩
section
variable {M:Model}{A:Around}{E:Value->Shared->Prop}{s:Shared}{base:Heap}{env top:Env}{outer:List Env}{L a:Addr}{C:Value}{T:Option Addr}
theorem Gf {Q:Unit->Shared->Prop}(hfr:A.frames=some (top::outer))(ht:top.frame=some L)(hf:env.frame=some L)(hl:s.heap.FunFrames base (top::outer))(fl:Fl s.heap a C T)
    (h:∀ h' T',Wr (a::T.toList) (frs (top::outer)) s.heap h'->Fl h' a C (some T')->(T=some T'\/s.heap.get? T'=none)->Q () { s with heap:=h' }) :
    wpAny M A (noteFrame (.ref a) env) Q E s:=by
  rw [yN (e1:=env) (e2:=top) (hf.trans ht.symm)];have fl0:=fl;obtain ⟨oe,vs,a0,he,hc,hd,h0,hsz,hT⟩:=fl;subst hc;generalize hB:PySem.W.hideAll s.heap (a::(T.toList++frs (top::outer)))=B;have hkb:B.StaysIn s.heap:=λ b o e=>by rw [<- hB] at e;exact PySem.W.of_hideAll _ e
  have hen:B.get? a=none:=by rw [<- hB];exact Y33 _ (Y08 ..)
  have hl':s.heap.FunFrames B (top::outer):=by
    rw [<- hB];refine PySem.W.funFrames_hide hl λ env' he' b hb=>?_;exact Y06 _ (Y0u _ (Y3d.mpr ⟨env',he',hb⟩))
  have nf:∀ b,b∈frs (top::outer)->∀ o,s.heap.get? b=some o->∀ vs,o.data≠.fields vs:=λ b hb o e=>by
    obtain ⟨_,o',ho',hnf⟩:=hl.mem hb;rw [e] at ho';cases ho';exact hnf
  have unhid:∀ b o,b∉a::T.toList->b∉frs (top::outer)->s.heap.get? b=some o->B.get? b=some o:=λ b o hb hfb e=>by
    rw [<- hB];refine PySem.W.hideAll_get _ e λ z=>?_;rcases Y0b.mp z with z | z
    · exact hb (z▸Y08 ..)
    · rcases Y0f.mp z with z | z
      · exact hb (Y06 _ z)
      · exact hfb z
  have fin:∀ h',Heap.NotedW B (top::outer) a oe.cls a0 (rawInt L) s.heap h'->Q () { s with heap:=h' }:=λ h' hN=>by
    obtain ⟨n1,n2,⟨oe',vs',T',oT',ts',g1,⟨g2,g3⟩,g4,g5,g6,g7,g8,g9,g10⟩,n4⟩:=hN;have slot:∀ b o,b∈frs (top::outer)->s.heap.get? b=some o->∃ sl,h'.get? b=some { o with slots:=sl }:=λ b o hb e=>n4 b o e (nf b hb o e);refine h h' T' ⟨λ b o hb hfb e=>n1 b o (unhid b o hb hfb e),λ b o _ hb e=>slot b o hb e⟩ ⟨oe',vs',a0,g1,g2,g4,g3,(Array.getElem?_eq_some_iff.mp g5).1,g5,g7,oT',ts',g8,g9,(Array.getElem?_eq_some_iff.mp g10).1⟩ ?_;by_cases q1:T'∈a::T.toList
    · rcases Y0b.mp q1 with z | z
      · exact absurd z g7
      · left;cases T with
        | none=>simp at z
        | some t => have z' : T' = t := by simpa using z
                    rw [z']
    · right;cases e:s.heap.get? T' with
      | none=>rfl
      | some o =>
        exfalso
        by_cases q2:T'∈frs (top::outer)
        · obtain ⟨sl,q⟩:=slot T' o q2 e;rw [g8] at q;have q':oT'={ o with slots:=sl }:=Option.some.inj q;rw [q'] at g9;exact nf T' q2 o e _ g9
        · have:=unhid T' o q1 q2 e
          rw [g6] at this;cases this
  cases T with
  | none =>
    unfold noteFrame;simp only [ht];refine wpAny_bind (wpAny_field he hd hT ?_);rw [if_neg (by decide)];exact wpAny_entryW hfr hl' ht he hkb hen hd hsz h0 fin
  | some t =>
    obtain ⟨h1,hta,oT,ts,hoT,hdT,hs3⟩:=hT;obtain ⟨fl3,h3⟩:∃ v,ts[3]?=some v:=⟨ts[3],by simp [hs3]⟩;have hnT:B.get? t=none:=by rw [<- hB];exact Y33 _ (by simp)
    unfold noteFrame;simp only [ht];refine wpAny_bind (wpAny_field he hd h1 ?_);rw [if_pos (show (Value.ref t != Value.none)=true from by simp)];refine wpAny_bind (wpAny_field hoT hdT h3 ?_);by_cases hfl:(fl3==rawInt L)=true
    · rw [if_pos hfl];exact wpAny_pure (h s.heap t ⟨λ b o _ _ e=>e,λ b o _ _ e=>⟨o.slots,e⟩⟩ fl0 (.inl rfl))
    · rw [if_neg hfl];refine wpAny_bind (wpAny_setField hoT hdT hs3 ?_);have other:∀ b,b≠t->(s.heap.update t (Obj.mapFields (·.setIfInBounds 3 Value.none))).get? b=s.heap.get? b:=λ b hb=>Y1y _ _ (Ne.symm hb);have noRecord:∀ b o,s.heap.get? b=some o->(∀ vs,o.data≠.fields vs)->b≠t:=λ b o hb hnf q=>by
        rw [q,hoT] at hb;injection hb with hb;subst hb;exact hnf ts hdT
      refine wpAny_entryW hfr (hl'.of_keeps λ b o hb hnf=>⟨o,(other b (noRecord b o hb hnf)).trans hb,rfl⟩) ht ((other a (Ne.symm hta)).trans he)
        (λ b o hbo=>(other b λ q=>by rw [q,hnT] at hbo;cases hbo).trans (hkb b o hbo)) hen hd hsz h0 ?_
      rintro h' ⟨x1,x2,x3,x4⟩
      exact fin h' ⟨x1,x2,x3,λ b o hb hnf=>x4 b o ((other b (noRecord b o hb hnf)).trans hb) hnf⟩
theorem Y8 {t:Addr}{f:Option Addr}{Q:Unit->Shared->Prop}(fl:Fl s.heap a C (some t))
  (h:∀ h',Heap.SameBut t s.heap h'->Fl h' a C (some t)->Q () { s with heap:=h' }):wpAny M A (setFlight (.ref a) f) Q E s:=by
 obtain ⟨oe,vs,a0,he,hc,hd,h0,hsz,h1,hta,oT,ts,hoT,hdT,hs3⟩:=fl;unfold setFlight;refine wpAny_bind (wpAny_field he hd h1 ?_);rw [if_pos (show (Value.ref t != Value.none)=true from by simp)];refine wpAny_setField hoT hdT hs3 (h _ (Heap.SameBut.update ..) ?_);have hdT':=Obj.data_mapFields hdT (·.setIfInBounds 3 (f.elim Value.none λ f=>rawInt f));refine ⟨oe,vs,a0,(Y1y _ _ hta).trans he,hc,hd,h0,hsz,h1,hta,_,_,Y2b _ hoT (Obj.isFreed_of_fields hdT'),hdT',?_⟩;simpa using hs3
theorem Zh {t:Addr}{Q:Value->Shared->Prop}(fl:Fl s.heap a C (some t))(h:Q (.ref t) s):wpAny M A (field (.ref a) 1) Q E s:=by
 obtain ⟨oe,vs,a0,he,hc,hd,h0,hsz,h1,_⟩:=fl;exact wpAny_field he hd h1 h
end
theorem Fl.at {h h':Heap}{a:Addr}{C:Value}{T:Option Addr}(fl:Fl h a C T)(k:∀ b∈a::T.toList,∀ o,h.get? b=some o->h'.get? b=some o):Fl h' a C T:=by
 obtain ⟨oe,vs,a0,he,hc,hd,h0,hsz,hT⟩:=fl;refine ⟨oe,vs,a0,k a (by simp) _ he,hc,hd,h0,hsz,?_⟩;cases T with
 | none=>exact hT
 | some t =>
  obtain ⟨h1,hta,oT,ts,hoT,r⟩:=hT;exact ⟨h1,hta,oT,ts,k t (by simp) _ hoT,r⟩
theorem Fl.rec {h:Heap}{a:Addr}{C:Value}{T:Option Addr}(fl:Fl h a C T):∀ b∈a::T.toList,∃ o vs,h.get? b=some o/\o.data=.fields vs:=by
 obtain ⟨oe,vs,a0,he,hc,hd,h0,hsz,hT⟩:=fl;intro b hb;rcases Y0b.mp hb with rfl | hb
 ·exact ⟨oe,vs,he,hd⟩
 ·cases T with
  | none=>simp at hb
  | some t =>
   have e:b=t:=by simpa using hb
   subst e;obtain ⟨h1,hta,oT,ts,hoT,hdT,_⟩:=hT;exact ⟨oT,ts,hoT,hdT⟩
def Ow (X:Cx)(pins:List (Addr×Obj))(H:Hp)(b:Addr):Prop:=H b=none/\X.s₀.heap.get? b=none/\b∉X.ex/\∀ p∈X.pn++pins,p.1≠b
structure XOk (X:Cx):Prop where
 top:∃ top outer L,X.stack=top::outer/\top.frame=some L/\X.env.frame=some L
 ex:∀ b∈X.ex,∃ o,(b,o)∈X.pn
structure Fly (X:Cx)(pins:List (Addr×Obj))(H:Hp)(h:Heap)(a:Addr)(C:Value)(T:Option Addr):Prop where
 fl:Fl h a C T
 ow:∀ b∈a::T.toList,Ow X pins H b
section
variable {X:Cx}{pins:List (Addr×Obj)}{σ:List (Option V)}{H H':Hp}{s:Shared}{h':Heap}
theorem Inv.ow (ok:XOk X)(I:Inv X pins σ H s)(hH:H'=H\/True){b:Addr}(n:s.heap.get? b=none)(hn:H' b=none):Ow X pins H' b:=by
 have nx:b∉X.ex:=λ z=>by
  obtain ⟨o,ho⟩:=ok.ex b z
  have:=(I.pin (b,o) (Y1f _ ho)).1
  rw [n] at this;cases this
 refine ⟨hn,?_,nx,λ p hp e=>?_⟩
 ·cases q:X.s₀.heap.get? b with
  | none=>rfl
  | some o =>
   obtain ⟨o',e⟩:=I.base.there b o q nx;rw [n] at e;cases e
 ·have:=(I.pin p hp).1
  rw [e,n] at this;cases this
theorem Inv.untracked (I:Inv X pins σ H s){b:Addr}(n:s.heap.get? b=none):H b=none:=by
 cases q:H b with
 | none=>rfl
 | some o =>
  obtain ⟨ob,e⟩:=(I.hok b o q).there;rw [n] at e;cases e
theorem Inv.wrote {l:List Addr}(I:Inv X pins σ H s)(W:Wr l (frs X.stack) s.heap h')(ow:∀ b∈l,Ow X pins H b)(rec:∀ b∈l,∃ o vs,s.heap.get? b=some o/\o.data=.fields vs) :
  Inv X pins σ H { s with heap:=h' }:=by
 have lL:X.env.locals∉l:=λ z=>by
  obtain ⟨o,vs,e,d⟩:=rec _ z;obtain ⟨m,⟨o',es,ep,ho',hd',_⟩,_⟩:=I.loc;rw [e] at ho';cases ho';rw [d] at hd';cases hd'
 have cL:∀ x c,X.env.cells.lookup x=some c->c∉l:=λ x c e z=>by
  obtain ⟨o,vs,e1,d⟩:=rec _ z;obtain ⟨v,o',ho',hd'⟩:=I.cell x c e;rw [e1] at ho';cases ho';rw [d] at hd';cases hd'
 have sL:∀ b o,X.s₀.heap.get? b=some o->b∉l:=λ b o e z=>by rw [(ow b z).2.1] at e;cases e
 have tL:∀ b o,H b=some o->b∉l:=λ b o e z=>by rw [(ow b z).1] at e;cases e
 have nL:∀ m,s.heap.Ns X.env.locals m->h'.Ns X.env.locals m:=λ m hm=>by
  obtain ⟨o,es,ep,ho,hd,r⟩:=hm;obtain ⟨sl,q⟩:=W.any lL ho;exact ⟨_,es,ep,q,hd,r⟩
 have cell:∀ x c,X.env.cells.lookup x=some c->∀ v,s.heap.IsCell c v->h'.IsCell c v:=λ x c e v ⟨o,ho,hd⟩=>by
  obtain ⟨sl,q⟩:=W.any (cL x c e) ho;exact ⟨_,q,hd⟩
 have fs0:∀ b,b≠X.env.locals->b∉X.fs->b∉frs X.stack:=λ b h1 h2 z=>(Y0b.mp (I.stkSub b z)).elim h1 h2;have old:∀ b o,X.s₀.heap.get? b=some o->b≠X.env.locals:=λ b o e=>Y0r (Y0l (Y0h e) I.ok.above);refine ⟨I.ok,I.os,I.bare,⟨λ b o e n hb hx=>?_,λ b o e n hb hx=>?_,I.base.free,λ b o e hx=>?_,I.base.tups,I.base.frzs,I.base.tbls⟩,?_,λ x c e=>?_,I.free,I.freeC,λ p hp=>?_,λ b u e=>?_,I.len⟩
 ·exact W.keep b o (sL b o e) (fs0 b (old b o e) hb) (I.base.keep b o e n hb hx)
 ·obtain ⟨sl,e1⟩:=I.base.slot b o e n hb hx;obtain ⟨sl',e2⟩:=W.any (sL b o e) e1;exact ⟨sl',e2⟩
 ·obtain ⟨o',e1⟩:=I.base.there b o e hx;obtain ⟨sl,e2⟩:=W.any (sL b o e) e1;exact ⟨_,e2⟩
 ·obtain ⟨m,hn,hl⟩:=I.loc;refine ⟨m,nL m hn,λ i x v e1 e2 e3=>?_⟩;obtain ⟨u,r,q⟩:=hl i x v e1 e2 e3;refine ⟨u,r,?_⟩;rcases q with q | ⟨k,c,e,z⟩
  ·exact .inl q
  ·exact .inr ⟨k,c,e,cell x c e _ z⟩
 ·obtain ⟨v,z⟩:=I.cell x c e;exact ⟨v,cell x c e v z⟩
 ·obtain ⟨e,n,ne,nf,d⟩:=I.pin p hp;exact ⟨W.keep p.1 p.2 (λ z=>(ow p.1 z).2.2.2 p hp rfl) (fs0 p.1 ne nf) e,n,ne,nf,d⟩
 ·refine (I.hok b u e).stay (λ c v hc q=>?_) (λ _ q=>q) λ _ _ q=>q;have hc':∃ u,H c=some u:=hc.elim (λ z=>⟨u,z▸e⟩) λ z=>⟨_,z⟩;obtain ⟨u',e'⟩:=hc';exact W.keep c v (tL c u' e') (λ z=>by rw [I.stkFree c z] at e';cases e') q
variable {M:Model}{A:Around}{E:Value->Shared->Prop}{a:Addr}{C:Value}{T:Option Addr}{env:Env}
theorem Inv.note {Q:Unit->Shared->Prop}(ok:XOk X)(I:Inv X pins σ H s)(F:Fly X pins H s.heap a C T)(hfr:A.frames=some X.stack)(hen:env.frame=X.env.frame)
  (h:∀ h' T',Inv X pins σ H { s with heap:=h' }->Fly X pins H h' a C (some T')->Q () { s with heap:=h' }):wpAny M A (noteFrame (.ref a) env) Q E s:=by
 obtain ⟨top,outer,L,e1,e2,e3⟩:=ok.top;have hst:=I.stack;rw [e1] at hfr hst;refine Gf hfr e2 (hen.trans e3) hst F.fl λ h' T' W fl' new=>?_;rw [<- e1] at W;refine h h' T' (I.wrote W F.ow F.fl.rec) ⟨fl',λ b hb=>?_⟩;rcases Y0b.mp hb with rfl | hb
 ·exact F.ow _ (Y08 ..)
 ·have e:b=T':=by simpa using hb
  subst e;rcases new with q | q
  ·exact F.ow _ (by rw [q];simp)
  ·exact I.ow ok (.inr trivial) q (I.untracked q)
theorem Inv.flight {t:Addr}{f:Option Addr}{Q:Unit->Shared->Prop}(I:Inv X pins σ H s)(F:Fly X pins H s.heap a C (some t))
  (h:∀ h',Inv X pins σ H { s with heap:=h' }->Fly X pins H h' a C (some t)->Q () { s with heap:=h' }):wpAny M A (setFlight (.ref a) f) Q E s:=by
 refine Y8 F.fl λ h' sb fl'=>h h' (I.wrote (l:=[a,t]) ⟨λ b o hb _ e=>(sb.2 b λ z=>hb (by simp [z])).trans e,λ b o hb _ e=>⟨o.slots,(sb.2 b λ z=>hb (by simp [z])).trans e⟩⟩ (λ b hb=>F.ow b (by simpa using hb)) λ b hb=>F.fl.rec b (by simpa using hb)) ⟨fl',F.ow⟩
theorem Inv.passOn {α:Type}{t:Addr}{what:String}{Q:α->Shared->Prop}(I:Inv X pins σ H s)(F:Fly X pins H s.heap a C (some t))
  (h:∀ h',Inv X pins σ H { s with heap:=h' }->Fly X pins H h' a C (some t)->E (.ref a) { s with heap:=h' }):wpAny M A (passOn what (.ref a) env:Sem α) Q E s:=by
 unfold PySem.passOn;refine wpAny_bind (Zh F.fl ?_);rw [if_neg (show ¬ ((Value.ref t==Value.none)=true) from by simp)];exact wpAny_bind (I.flight F λ h' I' F'=>wpAny_throw (h h' I' F'))
theorem Inv.cameBack {t:Addr}(I:Inv X pins σ H s)(F:Fly X pins H s.heap a C (some t))
  (h:∀ h',Inv X pins σ H { s with heap:=h' }->Fly X pins H h' a C (some t)->E (.ref a) { s with heap:=h' }):cameBackBy M A env E (.ref a) s:=by
 unfold cameBackBy;refine wpAny_bind (Zh F.fl ?_);rw [if_neg (show ¬ ((Value.ref t==Value.none)=true) from by simp)];exact I.flight F λ h' I' F'=>h h' I' F'
end
abbrev ZK:=St->Value->Hp->Prop
def XE (X:Cx)(Z:ZK)(e:Value)(s':Shared):Prop:=∃ a C T σ' H',e=.ref a/\Inv X [] σ' H' s'/\Fly X [] H' s'.heap a C T/\Z σ' C H'
structure Thr (X:Cx)(Z:ZK):Prop extends XOk X where
 thr:∀ e s',XE X Z e s'->X.xe e s'
def CXs (P:Program)(w:World):CXT:=λ outer H s E e s'=>∃ a C t H',e=.ref a/\s'.os=s.os/\AllBare s'.gens/\Un (frs outer) [] H H' s.heap s'.heap/\HOk P w H' s'.heap /\
 Fl s'.heap a C (some t)/\(∀ b∈[a,t],H' b=none/\s.heap.get? b=none)/\E C none H'
theorem Bp {P:Program}{w:World}{K:Y00}{mg:Str->Option Value}{base:Heap}{N:List Str}{qual:Str}{scope:Scope}{f:Addr}{cd:Value}{A:Around}{outer:List Env}{s:Shared}{H:Hp}{E:XK} :
  Thr (qL (CXs P w) P w K mg base N qual scope f cd A outer s H E) (λ _ C H'=>E C none H') where
 top:=⟨_,_,_,rfl,rfl,rfl⟩
 ex:=λ b hb=>absurd (show b∈([]:List Addr) from hb) (by simp)
 thr:=by
  rintro e s' ⟨a,C,T,σ',H',rfl,I,F,z⟩
  have ok:XOk (qL (CXs P w) P w K mg base N qual scope f cd A outer s H E):=⟨⟨_,_,_,rfl,rfl,rfl⟩,λ b hb=>absurd (show b∈([]:List Addr) from hb) (by simp)⟩;show wpAny (model P w) (A.deeper (envOfC qual scope s.heap.objs.size f cd)) (leaving (envOfC qual scope s.heap.objs.size f cd) (.ref a)) _ _ s';unfold leaving;refine wpAny_bind (I.note ok F I.ok.frames rfl λ h1 t I1 F1=>?_);refine I1.flight F1 λ h2 I2 F2=>?_;exact ⟨a,C,t,H',rfl,I2.os,I2.bare,I2.base,I2.hok,F2.fl,λ b hb=>⟨(F2.ow b (by simpa using hb)).1,(F2.ow b (by simpa using hb)).2.1⟩,z⟩
section
variable {X:Cx}{pins:List (Addr×Obj)}{σ:St}{H:Hp}{s s':Shared}
theorem Inv.thrown {E:XK}{e:Value}(ok:XOk X)(I:Inv X pins σ H s)(h:CXs X.prog X.w X.stack H s E e s'):∃ a C t H',e=.ref a/\Inv X pins σ H' s'/\Fly X pins H' s'.heap a C (some t)/\E C none H':=by
 obtain ⟨a,C,t,H',rfl,ho,hg,u,hok,fl,ow,q⟩:=h;have I':Inv X pins σ H' s':=I.call' (ch:=[]) ho u hok hg λ b hb=>absurd hb (by simp);refine ⟨a,C,t,H',rfl,I',⟨fl,λ b hb=>?_⟩,q⟩;obtain ⟨o1,o2⟩:=ow b (by simpa using hb);exact I.ow ok (.inr trivial) o2 o1
theorem Inv.nopins (I:Inv X pins σ H s):Inv X [] σ H s:=I.pins_of λ p hp=>absurd hp (by simp)
theorem Fly.nopins {h:Heap}{a:Addr}{C:Value}{T:Option Addr}(F:Fly X pins H h a C T):Fly X [] H h a C T :=
 ⟨F.fl,λ b hb=>⟨(F.ow b hb).1,(F.ow b hb).2.1,(F.ow b hb).2.2.1,λ p hp=>(F.ow b hb).2.2.2 p (by simp at hp;exact Y1f _ hp)⟩⟩
theorem Thr.go {Z:ZK}(th:Thr X Z){a:Addr}{C:Value}{T:Option Addr}(I:Inv X pins σ H s)(F:Fly X pins H s.heap a C T)(z:Z σ C H):X.xe (.ref a) s :=
 th.thr _ _ ⟨a,C,T,σ,H,rfl,I.nopins,F.nopins,z⟩
end
def Gg (sp:Sp)(dvs:List V)(Z:ZK)(t:TA):TE:=λ σ H Q=>t σ H λ vs H1=>sp (vs++dvs) H1 Q (λ C _ H'=>Z σ C H')
section
variable {X:Cx}{k:Nat}{f C:Addr}{fd:FuncData}{ps:List Str}{sp:Sp}{dvs:List V}{ds:List Value}{Z:ZK}{x m:Str}{p pos apos:Pos}{e o:Expr}{es:List Expr}{ta:TE}{t:TA}
theorem Bq {pins:List (Addr×Obj)}{σ:St}{H:Hp}{s:Shared}{Q:VK}{us:List Value}{vs:List V}(F:FnOk X.prog X.w X.K X.mg X.base (CXs X.prog X.w) k f fd ps sp)(hr:Room k X.A)(hb:Binds X.K fd ps ds)(hd:Vals dvs ds)(th:Thr X Z)
  (I:Inv X pins σ H s) (r:Vals vs us) (h:sp (vs++dvs) H Q (λ C _ H'=>Z σ C H')):wpAny (model X.prog X.w) X.A (call (.ref f) us) (EP X pins σ Q) X.xe s:=by
 have r2:Vals (vs++dvs) (us++ds):=r.append hd;have hl:(us++ds).length=ps.length:=by rw [<- r2.length];exact F.len _ _ _ _ h
 refine wpAny_call (codeAny_mono (F.run X.A X.stack s H ⟨us,[]⟩ (us++ds) (vs++dvs) Q _ hr I.env0 (hb s us I.kIn hl) r2 h) λ r s' hq=>?_);cases r with
 | error e =>
  have hq':CXs X.prog X.w X.stack H s (λ C _ H'=>Z σ C H') e s':=hq;obtain ⟨a,C,t,H',rfl,I',F',z⟩:=I.thrown th.toXOk hq';exact th.go I' F' z
 | ok fl =>
  cases fl with
  | ret u=>exact I.after hq
  | next=>exact False.elim hq
  | brk=>exact False.elim hq
  | cont=>exact False.elim hq
theorem Gh (F:FnOk X.prog X.w X.K X.mg X.base (CXs X.prog X.w) k f fd ps sp)(hr:Room k X.A)(hg:Gl X x)(hm:X.mg x=some (.ref f))(hk:PySem.W.keepIn X.K (.ref f)=true)(hb:Binds X.K fd ps ds)(hd:Vals dvs ds)(th:Thr X Z)
  (ha:PA X (e::es) t) (hdb:(x==("__debug__":Str))=false:=by decide) (he:starEach (e::es) X.env=(false,eval e X.env)::starEach es X.env:=by rfl) (hpl:(backTo pos (starEach es X.env)).any (·.1)=false:=by rfl) :
  PE X (.Call (.Name x p) (e::es) [] pos) (Gg sp dvs Z t):=by
 intro pins s σ H Q I h;refine wpAny_Call_Name_kw (W3 I hg hm ?_ hdb);refine PySem.W.callWith_K (h₀:=X.base) I.ok.mod.kin hk (thn (ha pos pins s σ H _ I h) λ us s1 ⟨vs,H1,I1,r,q⟩=>⟨I1.kIn,?_⟩) he hpl;exact Bq F hr hb hd th I1 r q
end
def J6 (env:Env):List (Str×NameKind)->List (Str×Addr)->List (Str×Addr)
 | [],cs=>cs
 | (n,k)::r,cs=>J6 env r (if k==.free then (n,(env.cells.lookup n).getD 0)::cs else cs)
def WY (scope:Scope)(env:Env):List (Str×Addr):=J6 env scope.names []
theorem Zi {scope:Scope}{env:Env}(h:∀ y∈scope.names,y.2=.free->∃ c,env.cells.lookup y.1=some c):closureFor scope env=pure (WY scope env):=by
 unfold closureFor WY;have go:∀ (l:List (Str×NameKind)) (cs:List (Str×Addr)),(∀ y∈l,y.2=.free->∃ c,env.cells.lookup y.1=some c) ->
   (forIn l cs λ (x:Str×NameKind) (r:List (Str×Addr))=>(match x with
    | (name,kind)=>if (kind==NameKind.free)=true then (do let a <- cellOf env name;pure (ForInStep.yield ((name,a)::r))) else (pure (ForInStep.yield r)):Sem (ForInStep (List (Str×Addr)))))=(pure (J6 env l cs):Sem (List (Str×Addr))):=by
  intro l
  induction l with
  | nil=>intro cs _;rfl
  | cons y r ih =>
   intro cs hl;obtain ⟨n,k⟩:=y;rw [Y2h];by_cases hk:(k==NameKind.free)=true
   ·obtain ⟨c,hc⟩:=hl (n,k) (Y08 ..) (by simpa using hk);have e:cellOf env n=pure c:=by unfold cellOf;rw [hc]
    simp only [hk,if_true,e,pure_bind,J6,hc,Y3k];exact ih _ λ y hy=>hl y (Y06 _ hy)
   ·simp only [hk,if_false,pure_bind,J6,Y2k];exact ih _ λ y hy=>hl y (Y06 _ hy)
 have:=go scope.names [] h
 first
  | (rw [this];rfl)
  | (simp only [bind_pure_comp] at this ⊢;rw [this];rfl)
  | (simp only [bind_pure_comp] at this ⊢;rw [this];simp)
theorem WZ {env:Env}:∀ {l:List (Str×NameKind)}{cs:List (Str×Addr)}{x:Str}{c:Addr},(∀ y∈l,y.2=.free->∃ c,env.cells.lookup y.1=some c)->(x,c)∈J6 env l cs->(x,c)∈cs\/env.cells.lookup x=some c
 | [],_,_,_,_,h=>.inl h
 | (n,k)::r,cs,x,c,hl,h=>by
  rcases WZ (l:=r) (λ y hy=>hl y (Y06 _ hy)) h with h | h
  ·by_cases hk:(k==NameKind.free)=true
   ·rw [if_pos hk] at h;rcases Y0b.mp h with e | h
    ·obtain ⟨c',hc⟩:=hl (n,k) (Y08 ..) (by simpa using hk);rw [hc] at e;cases e;exact .inr hc
    ·exact .inl h
   ·rw [if_neg hk] at h;exact .inl h
  ·exact .inr h
theorem Jz {env:Env}:∀ {l:List (Str×NameKind)}{cs:List (Str×Addr)}{p:Str×Addr},p∈cs->p∈J6 env l cs
 | [],_,_,h=>h
 | (n,k)::r,cs,p,h=>by
  unfold J6;refine Jz ?_
  split
  ·exact Y06 _ h
  ·exact h
theorem Zj {env:Env}:∀ {l:List (Str×NameKind)}{cs:List (Str×Addr)}{x:Str},(x,NameKind.free)∈l->∃ c,(x,c)∈J6 env l cs
 | (n,k)::r,cs,x,h=>by
  unfold J6;rcases Y0b.mp h with e | h
  ·cases e;exact ⟨(env.cells.lookup n).getD 0,Jz (by rw [if_pos (by decide)];exact Y08 ..)⟩
  ·exact Zj h
theorem j8 {α β:Type}[BEq α][LawfulBEq α]:∀ {l:List (α×β)}{x:α}{c:β},(x,c)∈l->∃ c',l.lookup x=some c'
 | (n,k)::r,x,c,h=>by
  rw [Y20];cases e:x==n with
  | true=>exact ⟨k,rfl⟩
  | false =>
   rcases Y0b.mp h with q | q
   ·cases q;simp at e
   ·exact j8 q
def jg (scope:Scope)(C:Addr)(env:Env):List (Str×Addr):=cellsFrom (C+1) scope.names (WY scope env)
theorem zK:∀ (l:List (Str×NameKind)) (n:Nat) (acc:List (Str×Addr)),cellsFrom n l acc=cellsFrom n l []++acc
 | [],_,_=>rfl
 | (x,k)::r,n,acc=>by
  unfold cellsFrom;by_cases hk:(k==NameKind.cell)=true
  ·rw [if_pos hk,if_pos hk,zK r (n+1) ((x,n)::acc),zK r (n+1) [(x,n)],Y07];rfl
  ·rw [if_neg hk,if_neg hk];exact zK r n acc
theorem jK:∀ {l:List (Str×NameKind)}{n:Nat}{x:Str}{c:Addr},(x,c)∈cellsFrom n l []->(x,NameKind.cell)∈l
 | (y,k)::r,n,x,c,h=>by
  unfold cellsFrom at h;by_cases hk:(k==NameKind.cell)=true
  ·rw [if_pos hk,zK] at h;rcases Y0f.mp h with h | h
   ·exact Y06 _ (jK h)
   ·have e:x=y:=by simpa using (Y0a.mp h▸rfl:(x,c).1=(y,n).1)
    have e2:k=.cell:=by simpa using hk
    rw [e,e2];exact Y08 ..
  ·rw [if_neg hk] at h;exact Y06 _ (jK h)
theorem Gi {scope:Scope}{C:Addr}{env:Env}{x:Str}{c:Addr}(h:(jg scope C env).lookup x=some c):(cellsFrom (C+1) scope.names []).lookup x=some c\/((cellsFrom (C+1) scope.names []).lookup x=none/\(WY scope env).lookup x=some c):=by
 unfold jg at h;rw [zK,Y2j] at h;cases e:(cellsFrom (C+1) scope.names []).lookup x with
 | none=>rw [e] at h;exact .inr ⟨rfl,h⟩
 | some c'=>rw [e] at h;exact .inl h
theorem z36 {scope:Scope}{C:Addr}{env:Env}{x:Str}{c:Addr}(h:(cellsFrom (C+1) scope.names []).lookup x=some c):(jg scope C env).lookup x=some c:=by
 unfold jg;rw [zK,Y2j,h];rfl
theorem z37 {scope:Scope}{C:Addr}{env:Env}{x:Str}{c:Addr}(h:(WY scope env).lookup x=some c)(h0:(cellsFrom (C+1) scope.names []).lookup x=none):(jg scope C env).lookup x=some c:=by
 unfold jg;rw [zK,Y2j,h0];exact h
theorem Zk {M:Model}{A:Around}{E:Value->Shared->Prop}{s:Shared}{scope:Scope}{globals:Addr}{closure:List (Str×Addr)}{qual:Str}{func:Option Addr}{code:Value}{e:Env}{builtins:Addr}{Q:Env->Shared->Prop}
  (hQ:Q (newEnv scope s.heap.objs.size globals (cellsFrom (s.heap.objs.size+1) scope.names closure) qual func code (some e) builtins) { s with heap:=pushCells (s.heap.push { cls:=.type "dict",data:=.dict #[] }) scope.names }) :
  wpAny M A (newFunctionEnv scope globals closure [] qual func code (some e) builtins) Q E s:=by
 simp only [newFunctionEnv,Option.isSome_some,if_true];refine wpAny_bind (wpAny_alloc ?_);refine wpAny_bind (wpAny_layCells _ (λ name kind cells=>by cases hkc:kind==NameKind.cell<;>simp [hkc]) _ _ _ _ ?_);rw [show ({ s with heap:=s.heap.push { cls:=.type "dict",data:=.dict #[] } }:Shared).heap.objs.size=s.heap.objs.size+1 from Y1n ..];refine wpAny_bind ?_;rw [Y2l];exact wpAny_pure (wpAny_pure hQ)
abbrev zo (X:Cx)(NC:List Str)(scope:Scope)(C:Addr)(s:Shared)(H:Hp)(ex:List Addr)(pn:List (Addr×Obj))(xe:Value->Shared->Prop):Cx :=
  { X with N:=NC,s₀:=s,H₀:=H,env:=compEnvC scope (jg scope C X.env) C X.env,outer:=X.stack,stack:=X.stack,ex:=ex,fn:=λ x=>scope.names.lookup x==some .cell,calm:=true,pn:=pn,xe:=xe }
def j9 (osc scope:Scope)(N NC:List Str)(cap:List (Option Nat)):Bool :=
 scope.kind==.function&&scope.names.all (λ y=>y.2 != .cell||scope.names.lookup y.1==some .cell) &&
 scope.names.all (λ y=>y.2 != .local||scope.names.lookup y.1==some .local) &&
 scope.names.all (λ y=>y.2 != .free||osc.names.lookup y.1==some .cell)&&cap.length==NC.length &&
 (List.range NC.length).all λ j=>match cap[j]?,NC[j]? with
  | some (some i),some x=>N[i]?==some x&&scope.names.lookup x==some .free
  | some none,some x=>scope.names.lookup x==some .local||scope.names.lookup x==some .cell
  | _,_=>false
def wK (cap:List (Option Nat))(σ:St):St:=cap.map λ o=>o.bind λ i=>(σ[i]?).bind id
theorem jY {scope:Scope}{env:Env}{x:Str}(hk:env.scope.kind=.function):∀ {names:List (Str×NameKind)},(∀ y∈names,y.2=.free->env.kindOf y.1=some .cell) ->
  (names.map λ (n,k)=>if (k==NameKind.free&&env.scope.kind==.function&&env.kindOf n==some .cell) then (n,NameKind.cell) else (n,k)).lookup x=(names.lookup x).map λ k=>if k=.free then .cell else k
 | [],_=>rfl
 | (n,k)::r,h=>by
  have ih:=jY (scope:=scope) (x:=x) hk (names:=r) λ y hy=>h y (Y06 _ hy);show List.lookup x ((if (k==NameKind.free&&env.scope.kind==.function&&env.kindOf n==some .cell)=true then (n,NameKind.cell) else (n,k))::_)=_;by_cases hkf:k=.free
  ·subst hkf;rw [if_pos (by rw [hk,h (n,.free) (Y08 ..) rfl];decide)];rw [Y20,Y20];cases e:x==n with
   | true=>rfl
   | false=>exact ih
  ·rw [if_neg (by intro z;simp only [Y0g,beq_iff_eq] at z;exact hkf z.1.1)];rw [Y20,Y20];cases e:x==n with
   | true=>simp [hkf]
   | false=>exact ih
section
variable {X:Cx}{pins:List (Addr×Obj)}{σ:St}{H H':Hp}{s s':Shared}
theorem Inv.repn {pn pins':List (Addr×Obj)}{xe:Value->Shared->Prop}(I:Inv X pins σ H s)(h:∀ p∈pn++pins',p∈X.pn++pins):Inv { X with pn:=pn,xe:=xe } pins' σ H s :=
 ⟨⟨I.ok.mod,I.ok.kind,I.ok.glob,I.ok.blt,I.ok.above,I.ok.inj,I.ok.has,I.ok.cab,I.ok.hd,I.ok.frames,I.ok.stk,I.ok.exf,I.ok.bs,I.ok.bsz,I.ok.noex,I.ok.exfs,I.ok.funs,I.ok.frf⟩,
  I.os,I.bare,I.base,I.loc,I.cell,I.free,I.freeC,λ p hp=>I.pin p (h p hp),I.hok,I.len⟩
theorem Inv.track {D:Addr}{o:HO}(I:Inv X pins σ H s)(hD:H D=none)(h0:X.s₀.heap.get? D=none)(hL:D≠X.env.locals)(hC:∀ x c,X.env.cells.lookup x=some c->c≠D)(hp:∀ p∈X.pn++pins,p.1≠D)
  (new:ObjOk X.prog X.w (upd H D o) s.heap D o):Inv X pins σ (upd H D o) s:=by
 have up:∀ b u,H b=some u->upd H D o b=some u:=λ b u e=>by rw [zq (jk e hD)];exact e
 refine ⟨I.ok,I.os,I.bare,⟨I.base.keep,I.base.slot,λ b u e n hx=>?_,I.base.there,λ b xs e=>up _ _ (I.base.tups b xs e),λ b u xs e=>up _ _ (I.base.frzs b u xs e),λ b ps e=>?_⟩,I.loc,I.cell,?_,λ x c e=>?_,λ p hq=>?_,λ b u e=>?_,I.len⟩
 ·rw [zq (λ z=>by rw [z,h0] at e;cases e)];exact I.base.free b u e n hx
 ·obtain ⟨more,q⟩:=I.base.tbls b ps e;exact ⟨more,up _ _ q⟩
 ·rw [zq (Ne.symm hL)];exact I.free
 ·rw [zq (hC x c e)];exact I.freeC x c e
 ·obtain ⟨e,n,r⟩:=I.pin p hq;exact ⟨e,by rw [zq (hp p hq)];exact n,r⟩
 ·by_cases hb:b=D
  ·subst hb;rw [zu] at e;cases e;exact new
  ·rw [zq hb] at e;exact (I.hok b u e).stay (λ _ _ _ q=>q) (λ c q=>up _ _ q) λ c xs q=>up _ _ q
end
def PF (X:Cx)(ifs:List Expr)(t:TT):Prop :=
 ∀ (pins:List (Addr×Obj)) (s:Shared) (σ:St) (H:Hp) (Q:Bool->Hp->Prop),Inv X pins σ H s->t σ H Q ->
  wpAny (model X.prog X.w) X.A (forIn ifs true λ c r=>if r=true then do let ok <- isTrue c X.env (eval c X.env);pure (ForInStep.yield ok) else pure (ForInStep.yield r)) (TP X pins σ Q) X.xe s
def Br:TT:=λ _ H Q=>Q true H
theorem z38 {X:Cx}:PF X [] Br:=λ pins s σ H Q I h=>wpAny_tests_nil ⟨H,I,h⟩
theorem Gj {X:Cx}{c:Expr}{t:TT}(h:PT X c t):PF X [c] t:=λ pins s σ H Q I q=>wpAny_tests_one (h pins s σ H Q I q)
theorem zX {osc scope:Scope}{N NC:List Str}{cap:List (Option Nat)}(h:j9 osc scope N NC cap=true) :
  scope.kind=.function/\(∀ y∈scope.names,y.2=.cell->scope.names.lookup y.1=some .cell)/\(∀ y∈scope.names,y.2=.local->scope.names.lookup y.1=some .local)/\(∀ y∈scope.names,y.2=.free->osc.names.lookup y.1=some .cell)/\cap.length=NC.length /\
  (∀ (j i:Nat),cap[j]?=some (some i)->∃ x,NC[j]?=some x/\N[i]?=some x/\scope.names.lookup x=some .free)/\∀ (j:Nat) (x:Str),cap[j]?=some none->NC[j]?=some x->scope.names.lookup x=some .local\/scope.names.lookup x=some .cell:=by
 unfold j9 at h;simp only [Y0g,Y11,bne_iff_ne,ne_eq,Bool.or_eq_true,beq_iff_eq,Y1w] at h;obtain ⟨⟨⟨⟨⟨h1,h2⟩,h3⟩,h4⟩,h5⟩,h6⟩:=h;refine ⟨h1,λ y hy e=>(h2 y hy).resolve_left λ z=>z e,λ y hy e=>(h3 y hy).resolve_left λ z=>z e,λ y hy e=>(h4 y hy).resolve_left λ z=>z e,h5,λ j i e=>?_,λ j x e ex=>?_⟩
 ·have hj:j<NC.length:=by rw [<- h5];exact (Y04.mp e).1
  have q:=h6 j hj;rw [e] at q;cases ex:NC[j]? with
  | none=>rw [ex] at q;simp at q
  | some x =>
   rw [ex] at q;simp only [Y0g,beq_iff_eq] at q;exact ⟨x,rfl,q.1,q.2⟩
 ·have hj:j<NC.length:=(Y04.mp ex).1;have q:=h6 j hj;rw [e,ex] at q;simpa using q
section
variable {X:Cx}{pins:List (Addr×Obj)}{σ:St}{H₂:Hp}{s₂:Shared}{scope:Scope}{NC:List Str}{cap:List (Option Nat)}{fp:List Addr}
theorem Y9 {C D:Addr}{h₁:Heap}{tk:Nat}{o:Obj}{xe:Value->Shared->Prop}(I:Inv X pins σ H₂ s₂)(hc:X.calm=true)(cok:j9 X.env.scope scope X.N NC cap=true)(f2:∀ b∈fp,yg X pins H₂ b)(hfp:∀ b∈fp,∃ o,s₂.heap.get? b=some o)
  (hD:D=s₂.heap.objs.size) (hC:C=s₂.heap.objs.size+1) (old:∀ b o,s₂.heap.get? b=some o->h₁.get? b=some o) (hacc:h₁.get? D=some o) (ho:∀ v,o.data≠.cell v) {m:Str->Option Value} (ns:h₁.Ns C m) (own:CellsOk h₁ (C+1) (cellsFrom (C+1) scope.names [])) :
  Inv (zo X NC scope C s₂ H₂ fp [] xe) [(D,o)] (wK cap σ) H₂ { s₂ with heap:=h₁,toks:=tk }:=by
 obtain ⟨c1,c2,c3,c4,c5,c6,c7⟩:=zX cok;have hfree:∀ y∈scope.names,y.2=.free->∃ c,X.env.cells.lookup y.1=some c:=λ y hy e=>I.ok.has y.1 (.inl (c4 y hy e));have clx:∀ x c,(WY scope X.env).lookup x=some c->X.env.cells.lookup x=some c:=λ x c e=>by
  rcases WZ hfree (Y0y e) with z | z
  ·simp at z
  ·exact z
 have ccx:∀ x c,(jg scope C X.env).lookup x=some c->(cellsFrom (C+1) scope.names []).lookup x=some c\/X.env.cells.lookup x=some c:=λ x c e=>(Gi e).imp id λ z=>clx x c z.2;have hrel:∀ x,(compEnvC scope (jg scope C X.env) C X.env).kindOf x=(scope.names.lookup x).map λ k=>if k=.free then .cell else k:=λ x=>jY (scope:=scope) I.ok.kind λ y hy e=>c4 y hy e;have fresh:∀ b,s₂.heap.objs.size<=b->s₂.heap.get? b=none:=λ b hb=>Y1z hb;have sz:s₂.heap.objs.size<=C:=by rw [hC];exact Nat.le_succ _
 have szD:s₂.heap.objs.size<=D:=by rw [hD];exact Y09 _
 have ownF:∀ x c,(cellsFrom (C+1) scope.names []).lookup x=some c->s₂.heap.get? c=none/\s₂.heap.objs.size<=c:=λ x c e=>by
  have q:=(own.empty x c (Y0y e)).2;have q2:s₂.heap.objs.size<=c:=by rw [hC] at q;omega
  exact ⟨fresh c q2,q2⟩
 have cloF:∀ x c,X.env.cells.lookup x=some c->c<s₂.heap.objs.size:=λ x c e=>by
  obtain ⟨v,q⟩:=I.cell x c e;exact q.lt
 have inj:∀ x y c,(jg scope C X.env).lookup x=some c->(jg scope C X.env).lookup y=some c->x=y:=λ x y c e1 e2=>by
  rcases ccx x c e1 with z1 | z1<;>rcases ccx y c e2 with z2 | z2
  ·exact name_of_addr own.apart (Y0y z1) (Y0y z2)
  ·exact absurd (cloF y c z2) (Nat.not_lt.mpr (ownF x c z1).2)
  ·exact absurd (cloF x c z1) (Nat.not_lt.mpr (ownF y c z2).2)
  ·exact I.ok.inj x y c z1 z2
 have exC:∀ b∈fp,b≠C:=λ b hb z=>by
  obtain ⟨o,e⟩:=hfp b hb;rw [z,fresh C sz] at e;cases e
 have exD:∀ b∈fp,b≠D:=λ b hb z=>by
  obtain ⟨o,e⟩:=hfp b hb;rw [z,fresh D szD] at e;cases e
 refine ⟨⟨I.ok.mod,c1,I.ok.glob,I.ok.blt,sz,inj,λ x hx=>?_,λ x c z e=>?_,λ _=>I.ok.hd hc,I.ok.frames,.inl rfl,λ b hb=>⟨exC b hb,λ x c e=>?_⟩,
  I.bs,Y0t I.ok.bsz I.sz,λ b o e z=>?_,λ b hb z=>?_,I.stack,I.stkFree⟩,rfl,I.bare,Un.kept old,⟨m,ns,λ j x v e1 e2 e3=>?_⟩,λ x c e=>?_,I.hok.fresh sz,λ x c e=>?_,λ p hp=>?_,I.hok.kept old,?_⟩
 ·rw [hrel] at hx;have hxf:scope.names.lookup x=some .free\/scope.names.lookup x=some .cell:=by
   cases e:scope.names.lookup x with
   | none=>rw [e] at hx;simp at hx
   | some k =>
    rw [e] at hx;by_cases hk:k=.free
    ·rw [hk];exact .inl rfl
    ·simp only [Option.map_some,if_neg hk,Option.some.injEq] at hx;rcases hx with z | z
     ·rw [z];exact .inr rfl
     ·exact absurd z hk
  rcases hxf with hxf | hxf
  ·obtain ⟨c,hm⟩:=Zj (env:=X.env) (cs:=[]) (Y0y hxf);obtain ⟨c',hl⟩:=j8 hm;exact Y22.mp (Y1x _ _ _ (.inr (by rw [show (WY scope X.env).lookup x=some c' from hl];rfl)))
  ·exact Y22.mp (Y1x _ _ _ (.inl hxf))
 ·have hx:scope.names.lookup x=some .cell:=by simpa using z
  obtain ⟨c',hl⟩:=Y22.mp (Y1x (x:=x) scope.names (C+1) [] (.inl hx));have e':(jg scope C X.env).lookup x=some c:=e;rw [z36 hl] at e';cases e';exact (ownF x _ hl).2
 ·rcases ccx x c e with z | z
  ·intro q;obtain ⟨o,eb⟩:=hfp b hb;rw [<- q,(ownF x c z).1] at eb;cases eb
  ·exact (f2 b hb).2.2.2.2.1 x c z
 ·obtain ⟨e1,e2⟩:=I.bs b o e
  have:=(f2 b z).2.2.2.1
  rcases this with q | q
  ·exact I.ok.noex b o e q
  ·exact absurd (Y0l (Y0h (I.ok.bs b o e).1) q) (Y1c _)
 ·rcases Y0b.mp (I.stkSub b z) with q | q
  ·exact (f2 b hb).2.1 q
  ·exact (f2 b hb).2.2.1 q
 ·have ej:cap[j]?=some ((some ((cap[j]?.bind id).getD 0):Option Nat)):=by
   unfold wK at e2;rw [Y13] at e2;cases q:cap[j]? with
   | none=>rw [q] at e2;simp at e2
   | some oo =>
    rw [q] at e2;cases oo with
    | none=>simp at e2
    | some i=>simp
  generalize ((cap[j]?.bind id).getD 0)=i at ej;obtain ⟨y,y1,y2,y3⟩:=c6 j i ej
  have:y=x:=Option.some.inj (y1.symm.trans e1)
  subst this;have ev:σ[i]?=some (some v):=by
   unfold wK at e2;rw [Y13,ej] at e2;simp only [Option.map_some,Y1j,Option.some.injEq] at e2;cases q:σ[i]? with
   | none=>rw [q] at e2;simp at e2
   | some w=>rw [q] at e2;simp at e2;rw [e2]
  have kc:X.env.scope.names.lookup y=some .cell:=c4 (y,.free) (Y0y y3) rfl;obtain ⟨m',hn',hl'⟩:=I.loc;obtain ⟨u,r,q⟩:=hl' i y v y2 ev (.inr (.inl kc));refine ⟨u,r,.inr ⟨.inl (by rw [hrel,y3];rfl),?_⟩⟩;rcases q with ⟨k,_⟩ | ⟨k,c,e,z⟩
  ·rw [show X.env.kindOf y=some .cell from kc] at k;cases k
  ·obtain ⟨c',hm⟩:=Zj (env:=X.env) (cs:=[]) (Y0y y3);obtain ⟨c'',hl⟩:=j8 hm
   have:=clx y c'' hl
   rw [e] at this;cases this;obtain ⟨oc,h1,h2⟩:=z;refine ⟨c,z37 hl ?_,oc,old c oc h1,h2⟩;cases eo:(cellsFrom (C+1) scope.names []).lookup y with
   | none=>rfl
   | some c2' =>
    have q1:=c2 (y,.cell) (jK (Y0y eo)) rfl;rw [y3] at q1;cases q1
 ·rcases ccx x c e with z | z
  ·exact ⟨none,(own.empty x c (Y0y z)).1⟩
  ·obtain ⟨v,oc,h1,h2⟩:=I.cell x c z;exact ⟨v,oc,old c oc h1,h2⟩
 ·rcases ccx x c e with z | z
  ·exact I.hok.fresh (ownF x c z).2
  ·exact I.freeC x c z
 ·have e:p=(D,o):=by simpa using hp
  subst e;refine ⟨hacc,I.hok.fresh szD,λ z=>by rw [hC,hD] at z;exact absurd z (Y0r (Y2d _)),λ z=>?_,ho⟩;obtain ⟨_,ob,e,_⟩:=I.stack.mem z;rw [fresh D szD] at e;cases e
 ·unfold wK;rw [Y0c];exact c5
theorem Zl {C:Addr}{pn pc:List (Addr×Obj)}{σ':St}{H':Hp}{s':Shared}{h':Heap}{xe:Value->Shared->Prop}(I:Inv X pins σ H₂ s₂)(f2:∀ b∈fp,yg X pins H₂ b)(hC:C=s₂.heap.objs.size+1)
  (J:Inv (zo X NC scope C s₂ H₂ fp pn xe) pc σ' H' s') (sb:Heap.SameBut C s'.heap h'):Inv X pins σ H' { s' with heap:=h' }:=by
 have fC:s₂.heap.get? C=none:=Y1z (by rw [hC];exact Nat.le_succ _);have nC:∀ b o,s₂.heap.get? b=some o->b≠C:=λ b o e z=>by rw [z,fC] at e;cases e
 have u:Un (frs X.stack) fp H₂ H' s₂.heap h':=by
  have v:Un (frs X.stack) fp H₂ H' s₂.heap s'.heap:=J.base;refine ⟨λ b o e n hb hx=>(sb.2 b (nC b o e)).trans (v.keep b o e n hb hx),λ b o e n hb hx=>?_,v.free,λ b o e hx=>?_,v.tups,v.frzs,v.tbls⟩
  ·obtain ⟨sl,q⟩:=v.slot b o e n hb hx;exact ⟨sl,(sb.2 b (nC b o e)).trans q⟩
  ·obtain ⟨o',q⟩:=v.there b o e hx;exact ⟨o',(sb.2 b (nC b o e)).trans q⟩
 have hok:HOk X.prog X.w H' h':=λ b o e=>by
  refine (J.hok b o e).stay (λ c w hc q=>(sb.2 c λ z=>?_).trans q) (λ _ q=>q) λ _ _ q=>q;have fr:H' C=none:=J.free;subst z;rcases hc with rfl | hc
  ·rw [fr] at e;cases e
  ·rw [fr] at hc;cases hc
 exact I.call' (s':={ s' with heap:=h' }) (ch:=fp) J.os u hok J.bare λ b hb=>⟨(f2 b hb).2.2.2.1,(f2 b hb).2.1,(f2 b hb).2.2.2.2.1,(f2 b hb).2.2.2.2.2⟩
end
def Weak (σ σ':St):Prop:=σ'.length=σ.length/\∀ (i:Nat) v,σ[i]?=some (some v)->σ'[i]?=some (some v)
theorem Weak.refl (σ:St):Weak σ σ:=⟨rfl,λ _ _ h=>h⟩
theorem Weak.set {σ:St}{j:Nat}{v:Option V}(h:σ[j]?=some none):Weak σ (σ.set j v):=by
 refine ⟨Y1a ..,λ i w e=>?_⟩;by_cases q:j=i
 ·subst q;rw [h] at e;cases e
 ·rw [Y0o q];exact e
section
variable {prog:Program}{w:World}{A:Around}{R:Result->Shared->Prop}{s:Shared}
theorem Wb {elt target iter:Expr}{ifs:List Expr}{scope:Scope}{pos:Pos}{it acc:Value}{env:Env}(I:Nat->Shared->Prop)
  (turn:∀ n s,I n s->wpAny (model prog w) A (pyNext it) (λ r s₁=>match r with
   | none=>R (.ok .next) s₁
   | some v=>wpAny (model prog w) A (letOwnedTupleGo target it v) (λ _ s₁'=>wpAny (model prog w) A (assign target env v) (λ _ s₂ =>
     wpAny (model prog w) A (forIn ifs true λ c r=>if r=true then do let ok <- isTrue c env (eval c env);pure (ForInStep.yield ok) else pure (ForInStep.yield r)) (λ ok s₃ =>
      if ok=true then wpAny (model prog w) A (eval elt env) (λ x s₄ =>
       wpAny (model prog w) A (call (.builtin "list.append") [acc,x]) (λ _ s₅=>∃ m,m<n/\I m s₅) (notedBy (model prog w) A env λ e s'=>R (.error e) s') s₄) (notedBy (model prog w) A env λ e s'=>R (.error e) s') s₃
      else ∃ m,m<n/\I m s₃) (notedBy (model prog w) A env λ e s'=>R (.error e) s') s₂) (notedBy (model prog w) A env λ e s'=>R (.error e) s') s₁') (notedBy (model prog w) A env λ e s'=>R (.error e) s') s₁) (notedBy (model prog w) A env λ e s'=>R (.error e) s') s)
  (n:Nat) (h:I n s):codeAny (model prog w) A (.compLoop (.ListComp elt [⟨target,iter,ifs,0⟩] scope pos) 0 it acc env) R s:=by
 refine codeAny_loop rfl I (λ n s hI=>?_) n h;show wpAny _ A ((compTurn (.ListComp elt [⟨target,iter,ifs,0⟩] scope pos) 0 it acc env).onRaise (λ x=>do noteFrame x env;theTreesLotGoes x)) _ _ s;refine wpAny_noted ?_;rw [compTurn_list];refine wpAny_bind (wpAny_standAt (wpAny_bind (wpAny_mono (turn n s hI) (λ r s₁ h₁=>?_) λ _ _ h'=>h')));cases r with
 | none=>exact wpAny_pure h₁
 | some v =>
  refine wpAny_bind (wpAny_mono h₁ (λ _ s₁' h₁'=>?_) λ _ _ h'=>h');refine wpAny_bind (wpAny_mono h₁' (λ _ s₂ h₂=>wpAny_bind (wpAny_mono h₂ (λ ok s₃ h₃=>?_) λ _ _ h'=>h')) λ _ _ h'=>h');cases ok with
  | false=>exact wpAny_pure ⟨rfl,h₃⟩
  | true =>
   exact wpAny_bind (wpAny_bind (wpAny_mono h₃ (λ x s₄ h₄=>wpAny_bind (wpAny_mono h₄ (λ _ s₅ h₅=>wpAny_pure (wpAny_pure ⟨rfl,h₅⟩)) λ _ _ h'=>h')) λ _ _ h'=>h'))
end
section
variable {X:Cx}{σ:St}{H:Hp}{s:Shared}
theorem Inv.repin {D:Addr}{o o':Obj}{h':Heap}(I:Inv X [(D,o)] σ H s)(hpn:∀ p∈X.pn,p.1≠D)(h0:X.s₀.heap.objs.size<=D)(ho':∀ v,o'.data≠.cell v)(sb:Heap.SameBut D s.heap h')(e':h'.get? D=some o') :
  Inv X [(D,o')] σ H { s with heap:=h' }:=by
 obtain ⟨e,n,ne,nf,d⟩:=I.pin (D,o) (Y0u _ (by simp));have I0:Inv X [] σ H s:=I.pins_of λ p hp=>absurd hp (by simp);have I1:Inv X [] σ H { s with heap:=h' }:=I0.turned (t':=s.toks) (it:=D) (λ b u hb q=>(sb.2 b hb).trans q) n ne (.inr h0) (λ x c ec z=>by
  obtain ⟨v,oc,h1,h2⟩:=I.cell x c ec;subst z;rw [e] at h1;cases h1;exact d v h2) λ p hp=>hpn p (by simpa using hp)
 refine I1.pins_of λ p hp=>?_;have q:p=(D,o'):=by simpa using hp
 subst q;exact ⟨e',n,ne,nf,ho'⟩
end
section
variable {X:Cx}{pins:List (Addr×Obj)}{σ:St}{H₂:Hp}{s₂:Shared}{scope:Scope}{NC:List Str}{cap:List (Option Nat)}{fp:List Addr}{elt tg iter:Expr}{ifs:List Expr}{pos:Pos}{Z:ZK}{J:It}{it:Addr}{tn:Nat->Heap->Prop}
 {g:TG}{tf:TT}{te:TE}{use:Option (Value->Sem Unit)}{Qv:Value->Shared->Prop}
theorem JA (hc:X.calm=true)(th:Thr X Z)(I:Inv X pins σ H₂ s₂)(T:Turn X.prog X.w X.K tg J fp it tn)(st2:tn 0 s₂.heap)(f2:∀ b∈fp,yg X pins H₂ b)(cok:j9 X.env.scope scope X.N NC cap=true)
  (hg:∀ C pn xe,PG (zo X NC scope C s₂ H₂ fp pn xe) tg g)
  (hf:∀ C pn xe,Thr (zo X NC scope C s₂ H₂ fp pn xe) (λ _ C' H'=>Z σ C' H')->PF (zo X NC scope C s₂ H₂ fp pn xe) ifs tf)
  (hb:∀ C pn xe,Thr (zo X NC scope C s₂ H₂ fp pn xe) (λ _ C' H'=>Z σ C' H')->PE (zo X NC scope C s₂ H₂ fp pn xe) elt te)
  (W:Nat->Nat->List V->Hp->Prop) (m0:Nat) (w0:W 0 m0 [] H₂) {Fn:List V->Hp->Prop}
  (turn:∀ i m ys H2,W i m ys H2->(J.stop i H2/\Fn ys H2)\/(J.go i H2/\ys.length<sizeLine/\∀ x H3,J.yld i H2 x H3->g x (wK cap σ) H3 λ σ4 H4=>Weak (wK cap σ) σ4/\tf σ4 H4 λ b H5 =>
   if b=true then te σ4 H5 λ y H6=>∃ m',m'<m/\W (i+1) m' (ys++[y]) H6 else ∃ m',m'<m/\W (i+1) m' ys H5))
  (fin:∀ (C D:Addr) (s':Shared) (H':Hp) (ys:List V) (us:List Value) (n:Nat),Fn ys H'->Vals ys us->s'.heap.get? D=some { cls:=.type "list",data:=.seq us.toArray n }->H' D=none->H' C=none->D=s₂.heap.objs.size->C=s₂.heap.objs.size+1 ->
   (∃ m,s'.heap.Ns C m)->(∀ h',Heap.SameBut C s'.heap h'->Inv X pins σ H' { s' with heap:=h' })->compPost (model X.prog X.w) X.A X.xe use Qv (.ref D) C (.ok .next) s') :
  wpAny (model X.prog X.w) X.A (newList []) (λ acc s₃=>wpAny (model X.prog X.w) X.A (newFunctionEnv scope X.env.globals (WY scope X.env) [] X.env.qual none .none (some X.env)) (λ cenv s₄ =>
   codeAny (model X.prog X.w) X.A (.compStart (.ListComp elt [⟨tg,iter,ifs,0⟩] scope pos) 0 (.ref it) acc { cenv with scope:=relabel scope X.env }) (compPost (model X.prog X.w) X.A X.xe use Qv acc cenv.locals) s₄) X.xe s₃) X.xe s₂:=by
 obtain ⟨c1,c2,c3,c4,c5,c6,c7⟩:=zX cok;refine wpAny_newObj_type (Zk ?_);dsimp only;generalize hH2:s₂.heap.push { cls:=.type "list",dict:=none,data:=.seq ([]:List Value).toArray }=H2;generalize hh1:pushCells (H2.push { cls:=.type "dict",data:=.dict #[] }) scope.names=h₁;have hns₁:h₁.Ns H2.objs.size (λ _=>none):=hh1▸(Heap.Ns.new H2 (.type "dict")).keeps (pushCells_keeps _ _);have own₁:CellsOk h₁ (H2.objs.size+1) (cellsFrom (H2.objs.size+1) scope.names []):=by
  have ok:=cellsFrom_ok scope.names (H2.push { cls:=.type "dict",data:=.dict #[] }) (H2.objs.size+1) [] ⟨λ _ _ hm=>(nomatch hm),List.Pairwise.nil⟩ (by rw [Y1n];exact Y09 _);rw [Y1n,hh1] at ok;exact ok
 have hC:H2.objs.size=s₂.heap.objs.size+1:=by rw [<- hH2,Y1n]
 have hDC:s₂.heap.objs.size≠H2.objs.size:=by rw [hC];exact Y0r (Y2d _)
 have below:∀ b,b<s₂.heap.objs.size->b≠H2.objs.size:=λ b hb=>by rw [hC];exact Y0r (Nat.lt_succ_of_lt hb)
 have old:∀ b o,s₂.heap.get? b=some o->h₁.get? b=some o:=λ b o e=>hh1▸pushCells_keeps _ _ _ _ (Y02 _ (hH2▸Y02 _ e));have hacc:h₁.get? s₂.heap.objs.size=some { cls:=.type "list",data:=.seq ([]:List Value).toArray 0 }:=hh1▸pushCells_keeps _ _ _ _ (Y02 _ (hH2▸Y0i _ rfl));have hfp:∀ b∈fp,∃ o,s₂.heap.get? b=some o:=λ b hb=>let ⟨o,e,_⟩:=T.obj _ _ st2 b hb;⟨o,e⟩;have nodata:∀ (us:List Value) (n:Nat) v,({ cls:=.type "list",data:=.seq us.toArray n }:Obj).data≠.cell v:=λ us n v z=>by cases z
 have fpD:∀ b∈fp,b≠s₂.heap.objs.size:=λ b hb z=>by
  obtain ⟨o,e⟩:=hfp b hb;exact absurd (Y0h e) (by rw [z];exact Y1c _)
 generalize hEn:(notedBy (model X.prog X.w) X.A (compEnvC scope (jg scope H2.objs.size X.env) H2.objs.size X.env) λ e s'=>compPost (model X.prog X.w) X.A X.xe use Qv (.ref s₂.heap.objs.size) H2.objs.size (.error e) s')=En;have loop:∀ s₃:Shared,s₃={ s₂ with heap:=h₁,toks:=s₂.toks } ->
   codeAny (model X.prog X.w) X.A (.compLoop (.ListComp elt [⟨tg,iter,ifs,0⟩] scope pos) 0 (.ref it) (.ref s₂.heap.objs.size) (compEnvC scope (jg scope H2.objs.size X.env) H2.objs.size X.env))
    (compPost (model X.prog X.w) X.A X.xe use Qv (.ref s₂.heap.objs.size) H2.objs.size) s₃:=by
  rintro s₃ rfl
  refine Wb (λ k s'=>∃ i ys us n H',Vals ys us/\W i k ys H'/\tn i s'.heap/\(∀ b∈fp,H' b=none) /\
   Inv (zo X NC scope H2.objs.size s₂ H₂ fp [] En) [(s₂.heap.objs.size,{ cls:=.type "list",data:=.seq us.toArray n })] (wK cap σ) H' s') ?_ m0
   ⟨0,[],[],0,H₂,.nil,w0,T.keep _ _ _ st2 λ b _ o e=>old b o e,λ b hb=>(f2 b hb).1,Y9 I hc cok f2 hfp rfl hC old hacc (nodata _ _) hns₁ own₁⟩
  rw [hEn]
  rintro k s' ⟨i,ys,us,n,H',rv,w,st,fr,Ic⟩
  have Fp:∀ {H':Hp}{us:List Value}{n:Nat},(∀ b∈fp,H' b=none)->∀ b∈fp,yg (zo X NC scope H2.objs.size s₂ H₂ fp [] En) [(s₂.heap.objs.size,({ cls:=.type "list",data:=.seq us.toArray n }:Obj))] H' b:=λ {H' us n} hn b hb=>by
   have q:=Ic.ok.exf b hb;refine ⟨hn b hb,q.1,λ z=>Ic.ok.exfs b hb z,.inl hb,q.2,λ p hp=>?_⟩;have e:p=(s₂.heap.objs.size,({ cls:=.type "list",data:=.seq us.toArray n }:Obj)):=by simpa using hp
   subst e;exact (fpD b hb).symm
  rcases turn i k ys H' w with ⟨stop,q⟩ | ⟨go,hlen,step⟩
  ·refine wpAny_mono (T.done (zo X NC scope H2.objs.size s₂ H₂ fp [] En) rfl rfl rfl rfl i _ s' _ H' En Ic (Fp fr) st stop) (λ r s4 h4=>?_) λ _ _ x=>x;obtain ⟨hr,I4⟩:=h4;subst hr;obtain ⟨m,ns,_⟩:=id I4.loc;obtain ⟨p1,p2,_⟩:=I4.pin _ (Y0u _ (Y0a.mpr rfl));exact fin _ _ s4 H' ys us n q rv p1 p2 I4.free rfl hC ⟨m,ns⟩ λ h' sb=>Zl I f2 hC I4 sb
  ·refine wpAny_mono (T.item (zo X NC scope H2.objs.size s₂ H₂ fp [] En) rfl rfl rfl rfl i _ s' _ H' En Ic (Fp fr) st go) (λ r s4 h4=>?_) λ _ _ x=>x;obtain ⟨u,hr,h4⟩:=h4;subst hr;refine wpAny_mono h4 (λ _ s5 h5=>?_) λ _ _ x=>x;obtain ⟨x,H5,I5,r5,y5,st5,fr5⟩:=h5;have I5':Inv (zo X NC scope H2.objs.size s₂ H₂ fp (wE fp s5.heap) En) [(s₂.heap.objs.size,{ cls:=.type "list",data:=.seq us.toArray n })] (wK cap σ) H5 s5 :=
    (I5.pinned (Fp fr5) (T.obj _ _ st5)).repn λ p hp=>by
     rcases Y0f.mp hp with z | z
     ·exact Y0u _ (Y0u _ z)
     ·exact Y0u _ (Y1f _ z)
   have okx:XOk (zo X NC scope H2.objs.size s₂ H₂ fp (wE fp s5.heap) En):=by
    obtain ⟨top,outer,L,e1,e2,e3⟩:=th.top;exact ⟨⟨top,outer,L,e1,e2,e3⟩,λ b hb=>let ⟨o,e,_⟩:=T.obj _ _ st5 b hb;⟨o,jz hb e⟩⟩
   have thx:Thr (zo X NC scope H2.objs.size s₂ H₂ fp (wE fp s5.heap) En) (λ _ C' H'=>Z σ C' H'):=by
    refine ⟨okx,?_⟩
    rintro e s6 ⟨a,C',T',σ6,H6,rfl,I6,F6,z6⟩
    show En (.ref a) s6;rw [<- hEn];unfold notedBy;refine I6.note okx F6 I6.ok.frames rfl λ h7 t7 I7 F7=>?_;obtain ⟨m,ns,_⟩:=id I7.loc;have fin7:∃ m,h7.Ns H2.objs.size m/\∀ h',Heap.SameBut H2.objs.size h7 h'->∀ cenv:Env,cenv.locals=H2.objs.size->wpAny (model X.prog X.w) X.A (passOn "comprehension.variables-let-go" (.ref a) cenv:Sem Value) (λ _ _=>False) X.xe { s6 with heap:=h' }:=by
     refine ⟨m,ns,λ h' sb cenv _=>?_⟩;have I8:Inv X pins σ H6 { s6 with heap:=h' }:=Zl (s':={ s6 with heap:=h7 }) I f2 hC I7 sb;have F8:Fly X pins H6 h' a C' (some t7):=by
      refine ⟨F7.fl.at λ b hb o e=>(sb.2 b λ z=>?_).trans e,λ b hb=>?_⟩
      ·obtain ⟨o',vs,e1,e2⟩:=F7.fl.rec b hb;obtain ⟨oC,es,ep,e3,e4,_⟩:=ns;subst z;have q:o'=oC:=Option.some.inj (e1.symm.trans e3);rw [q] at e2;have q2:=e2.symm.trans e4;cases q2
      ·obtain ⟨o1,o2,_⟩:=F7.ow b hb;exact I.ow th.toXOk (.inr trivial) o2 o1
     exact I8.passOn F8 λ h9 I9 F9=>th.go I9 F9 z6
    show compPost _ _ _ _ _ _ _ (.error (.ref a)) _;cases use<;>exact fin7
   refine wpAny_mono (hg _ _ En _ s5 _ H5 x u _ I5' r5 (step x H5 y5)) (λ _ s6 h6=>?_) λ _ _ x=>x;obtain ⟨σ6,H6,I6,wk,q6⟩:=h6;refine wpAny_mono (hf _ _ En thx _ s6 σ6 H6 _ I6 q6) (λ b s7 h7=>?_) λ _ _ x=>x;obtain ⟨H7,I7,q7⟩:=h7;have back:∀ {s8:Shared}{H8:Hp}{ys':List V}{us':List Value}{n' m':Nat},Inv (zo X NC scope H2.objs.size s₂ H₂ fp (wE fp s5.heap) En) [(s₂.heap.objs.size,{ cls:=.type "list",data:=.seq us'.toArray n' })] σ6 H8 s8->Vals ys' us'->m'<k->W (i+1) m' ys' H8 ->
     ∃ m,m<k/\∃ i ys us n H',Vals ys us/\W i m ys H'/\tn i s8.heap/\(∀ b∈fp,H' b=none)/\Inv (zo X NC scope H2.objs.size s₂ H₂ fp [] En) [(s₂.heap.objs.size,{ cls:=.type "list",data:=.seq us.toArray n })] (wK cap σ) H' s8:=by
    intro s8 H8 ys' us' n' m' I8 rv8 hm w8;refine ⟨m',hm,i+1,ys',us',n',H8,rv8,w8,T.keep _ _ _ st5 λ b hb o e=>(I8.pin (b,o) (Y1f _ (jz hb e))).1,λ b hb=>?_,?_⟩
    ·obtain ⟨o,e,d⟩:=T.obj _ _ st5 b hb;exact (I8.pin (b,o) (Y1f _ (jz hb e))).2.1
    ·have I9:=I8.weak (σ':=wK cap σ) wk.1.symm wk.2;exact I9.repn λ p hp=>Y0u _ (by simpa using hp)
   cases b with
   | false =>
    obtain ⟨m',hm,w8⟩:=q7;exact back I7 rv hm w8
   | true =>
    refine wpAny_mono (hb _ _ En thx _ s7 σ6 H7 _ I7 q7) (λ y s8 h8=>?_) λ _ _ x=>x;obtain ⟨v,H8,I8,rv8,m',hm,w8⟩:=h8;obtain ⟨p1,p2,_⟩:=I8.pin _ (Y0u _ (Y0a.mpr rfl));have hlu:us.length=ys.length:=rv.length.symm;refine append_at p1 (hsz:=by show us.toArray.size<=sizeLine;rw [Y0d,hlu];exact Y2i hlen) λ h9 sb9 e9=>?_;rw [List.push_toArray] at e9;have I9:=I8.repin (λ p hp=>by
     have q:=(Jq hp).1;exact fpD _ q) (Y09 _) (nodata _ _) sb9 e9
    exact back I9 (rv.append (.cons rv8 .nil)) hm w8
 exact codeAny_compStart_list (loop _ rfl) (T.self _ 0 _ _ _ (T.keep _ _ _ st2 λ b _ o e=>old b o e) (loop _ rfl))
end
def z5r (J:It)(H1:Hp)(cap:List (Option Nat))(σ:St)(g:TG)(tf:TT)(te:TE)(Q:VK):Prop:=∃ W:Nat->Nat->List V->Hp->Prop,(∃ m,W 0 m [] H1)/\∀ i m ys H2,W i m ys H2 ->
 (J.stop i H2/\ys.length<=sizeLine/\∀ p,H2 p=none->Q (.ref p) (upd H2 p (.lst ys))) \/
 (J.go i H2/\ys.length<sizeLine/\∀ x H3,J.yld i H2 x H3->g x (wK cap σ) H3 λ σ4 H4=>Weak (wK cap σ) σ4/\tf σ4 H4 λ b H5 =>
  if b=true then te σ4 H5 λ y H6=>∃ m',m'<m/\W (i+1) m' (ys++[y]) H6 else ∃ m',m'<m/\W (i+1) m' ys H5)
def Gk (Z:ZK)(cap:List (Option Nat))(wi:TI)(g:TG)(tf:ZK->TT)(te:ZK->TE):TE:=λ σ H Q=>wi σ H λ J H1=>z5r J H1 cap σ g (tf (λ _ C H'=>Z σ C H')) (te (λ _ C H'=>Z σ C H')) Q
section
variable {X:Cx}{scope:Scope}{NC:List Str}{cap:List (Option Nat)}{elt tg iter:Expr}{ifs:List Expr}{pos:Pos}{Z:ZK}{wi:TI}{g:TG}{tf:ZK->TT}{te:ZK->TE}
theorem Bs (hc:X.calm=true)(th:Thr X Z)(hi:PI X tg iter wi)(cok:j9 X.env.scope scope X.N NC cap=true)
  (hg:∀ C s H fp pn xe,PG (zo X NC scope C s H fp pn xe) tg g)
  (hf:∀ C s H fp pn xe Zc,Thr (zo X NC scope C s H fp pn xe) Zc->PF (zo X NC scope C s H fp pn xe) ifs (tf Zc))
  (hb:∀ C s H fp pn xe Zc,Thr (zo X NC scope C s H fp pn xe) Zc->PE (zo X NC scope C s H fp pn xe) elt (te Zc))
  (hs:∀ x,foldedSetIterable iter X.env x=pure x:=by intro _;rfl):PE X (.ListComp elt [⟨tg,iter,ifs,0⟩] scope pos) (Gk Z cap wi g tf te):=by
 intro pins s σ H Q I h;obtain ⟨c1,c2,c3,c4,c5,c6,c7⟩:=zX cok;rw [eval_ListComp];refine wpAny_comprehension_free (use:=none) rfl hs (Zi λ y hy e=>I.ok.has y.1 (.inl (c4 y hy e))) c1 c3 (thn (hi pins s σ H _ I h) λ xv s₁ h₁=>thn h₁ λ itv s₂ h₂=>?_);obtain ⟨it,fp,tn,J,H2,rfl,I2,T,st2,f2,W,⟨m0,w0⟩,turn⟩:=h₂;refine JA hc th I2 T st2 f2 cok (λ C pn xe=>hg C s₂ H2 fp pn xe) (λ C pn xe t=>hf C s₂ H2 fp pn xe _ t) (λ C pn xe t=>hb C s₂ H2 fp pn xe _ t) W m0 w0 turn ?_
 rintro C D s' H' ys us n ⟨hlen,q⟩ rv e hn _ rfl rfl ⟨m,ns⟩ lv
 refine ⟨m,ns,λ h' sb=>?_⟩;have I':=lv h' sb;have eD:h'.get? s₂.heap.objs.size=some { cls:=.type "list",data:=.seq us.toArray n }:=(sb.2 _ (Y0r (Y2d _))).trans e;refine ⟨.ref s₂.heap.objs.size,_,I'.track (o:=.lst ys) hn (Y1z I2.sz) (Y24 I2.lt) (λ x c ec z=>?_) (λ p hp z=>?_) ⟨hlen,us,n,rv,eD⟩,rfl,q _ hn⟩
 ·obtain ⟨v,q⟩:=I2.cell x c ec;exact absurd q.lt (by rw [z];exact Y1c _)
 ·exact absurd (Y0h (I2.pin p hp).1) (by rw [z];exact Y1c _)
end
theorem Ub {K:Y00}{h:Heap}{C:Addr}{bmB:List Value}{newId:String}(X:K.In h)(q:PySem.W.excIn K C bmB newId=true) :
  ∃ oc dd cd sl bm N nm qn bs hdct sn sub ab col k0 k1 k2 k3 k5 mN,K.lookup C=some ⟨oc,dd,.cls cd,sl⟩/\cd.mro=.ref C::bm/\h.get? C=some (excClassObj nm qn C N bs bm hdct sn sub ab col dd k0 k1 k2 k3 k5 newId)/\h.Ns N mN/\mN "__init__"=none/\OwnTail h bmB bm:=by
 unfold PySem.W.excIn at q;split at q
 ·rename_i dd cd sl ho;split at q
  ·rename_i C' bm k0 k1 k2 k3 n k5 hm hs;simp only [Y0g,beq_iff_eq,Y2p] at q;obtain ⟨⟨⟨⟨⟨rfl,rfl⟩,hdel⟩,ht⟩,hok⟩,hni⟩:=q;obtain ⟨nm,bs,mro,ns,qn,hd,sn,sub,ab,col,del⟩:=cd;dsimp only at hm hdel hok hni;subst hm hdel;have hsl:sl=#[k0,k1,k2,k3,some (.builtin n),k5]:=by
    obtain ⟨l⟩:=sl;simp only at hs;rw [hs]
   subst hsl;exact ⟨_,dd,_,_,bm,ns,nm,qn,bs,hd,sn,sub,ab,col,k0,k1,k2,k3,k5,_,ho,rfl,X _ _ ho,.of_isNs (PySem.W.isNs_of_in X hok),PySem.W.nsMap_none_of_in X hok hni,PySem.W.tail_of_in X ht⟩
  ·cases q
 ·cases q
def Gm (K:Y00)(c D:Addr):Prop:=(∃ bmB newId,PySem.W.excIn K c bmB newId=true)/\∃ oc dd cd sl,K.lookup c=some ⟨oc,dd,.cls cd,sl⟩/\cd.mro.contains (.ref D)=true
abbrev Uc (X:Cx)(pins:List (Addr×Obj))(xe:Value->Shared->Prop):Cx:={ X with pn:=X.pn++pins,xe:=xe }
abbrev Go (X:Cx)(pins:List (Addr×Obj))(a:Addr):Cx:={ X with A:=X.A.mark (some (.ref a)),calm:=false,pn:=X.pn++pins,xe:=λ _ _=>False }
section
variable {X:Cx}{pins:List (Addr×Obj)}{σ:St}{H:Hp}{s:Shared}{xe:Value->Shared->Prop}{a:Addr}
theorem Inv.toSuite (I:Inv (Uc X pins xe) [] σ H s):Inv (Go X pins a) [] σ H s :=
 ⟨⟨I.ok.mod,I.ok.kind,I.ok.glob,I.ok.blt,I.ok.above,I.ok.inj,I.ok.has,I.ok.cab,λ z=>absurd z (by simp),I.ok.frames,I.ok.stk,I.ok.exf,I.ok.bs,I.ok.bsz,I.ok.noex,I.ok.exfs,I.ok.funs,I.ok.frf⟩,
  I.os,I.bare,I.base,I.loc,I.cell,I.free,I.freeC,I.pin,I.hok,I.len⟩
end
section
variable {X:Cx}{Z:ZK}{x n:Str}{D:Addr}{bmB:List Value}{newId:String}{body suite:List Stmt}{b₀:Stmt}{tb:ZK->TS}{ts:TS}{np hpos pos:Pos}{j:Nat}
theorem Fly.toSuite {pins:List (Addr×Obj)}{H:Hp}{h:Heap}{a:Addr}{C:Value}{T:Option Addr}{xe:Value->Shared->Prop}(F:Fly (Uc X pins xe) [] H h a C T):Fly (Go X pins a) [] H h a C T:=⟨F.fl,F.ow⟩
theorem z7t {pins:List (Addr×Obj)}{σ:St}{H:Hp}{s:Shared}{a c:Addr}{t:Addr}{xe E:Value->Shared->Prop}{nm:Option Str}{Q:Flow->Shared->Prop}(I:Inv (Uc X pins xe) [] σ H s)(F:Fly (Uc X pins xe) [] H s.heap a (.ref c) (some t))
    (hg:Gl X x) (hm:X.mg x=some (.ref D)) (hx:PySem.W.excIn X.K D bmB newId=true) (hbB:bmB.contains (.type "BaseException")=true) (hu:Gm X.K c D)
    (hd:(x==("__debug__":Str))=false)
    (h : codeAny (model X.prog X.w) (X.A.mark (some (.ref a))) (.handlers (.ref a) [.ExceptHandler none nm (b₀::suite) hpos] X.env) (λ r s₂ => match r with
          | .ok f=>(match nm with
            | none=>Q f s₂
            | some n=>wpAny (model X.prog X.w) X.A (do bindName X.env n .none;unbindBehindTheSuite X.env n hpos) (λ _ s₃=>Q f s₃) E s₂)
          | .error x=>cameBackBy (model X.prog X.w) X.A X.env E x s₂) s) :
    wpAny (model X.prog X.w) X.A (handleBy (.ref a) X.env [.ExceptHandler (some (.Name x np)) nm (b₀::suite) hpos]) Q E s:=by
  refine wpAny_handleBy_cons (codeAny_handlers_test (W3 (X:=Go X pins a) I.toSuite hg hm ?_ hd)) (by intro q;cases q);obtain ⟨oc,dd,cd,sl,bm,N,nm',q,bs,hdct,sn,sub,ab,col,k0,k1,k2,k3,k5,mN,hl1,hm1,hC,_,_,T1⟩:=Ub I.kIn hx;obtain ⟨⟨bmB',newId',hx'⟩,oc2,dd2,cd2,sl2,hl2,hmro⟩:=hu;obtain ⟨oc',dd',cd',sl',bm',N',nm2,q',bs',hdct',sn',sub',ab',col',k0',k1',k2',k3',k5',mN',hl3,hm3,hC',_,_,_⟩:=Ub I.kIn hx';rw [hl2] at hl3;cases hl3;rw [hm3] at hmro;obtain ⟨oe,vs,a0,he,hc,_⟩:=F.fl;obtain ⟨hh,gg,dr,tk,os⟩:=s;exact Zg hC' hC he hc (T1.hasType hbB) hmro h
end
def Its (x:Str):It:=⟨λ i _=>i<x.length,λ i H v H'=>H'=H/\∃ c,x.cps.toList[i]?=some c/\v=.str ⟨#[c]⟩,λ i _=>x.length<=i⟩
theorem Ya {P:Program}{w:World}{K:Y00}{tg:Expr}(it:Addr)(x:Str)(t:Tok):Turn P w K tg (Its x) [it] it (λ i h=>h.IsStrIter it "str_ascii_iterator" x t i) where
 mem:=by simp
 obj:=λ i h st b hb=>by
  have e:b=it:=by simpa using hb
  subst e;obtain ⟨o,e,c,d⟩:=st;exact ⟨o,e,λ v z=>by rw [d] at z;cases z⟩
 keep:=λ i h h' st k=>let ⟨o,e,r⟩:=st;⟨o,k it (by simp) o e,r⟩
 item:=by
  intro X hP hw hK hc i pins s σ H E I hf st hg;subst hP hw hK;obtain ⟨f0,f1,f2,f3,f4,f5⟩:=hf it (by simp);have hg':i<x.cps.size:=hg;refine wpAny_pyNext_ascii_item st (c:=x.cps[i]) (by simp [hg']) λ h' st' sb=>?_;have I1:Inv X pins σ H { s with heap:=h',toks:=s.toks+1 }:=I.turned (λ b o hb e=>(sb.2 b hb).trans e) f0 f1 f3 f4 f5;obtain ⟨o,e,c,d⟩:=id st';exact ⟨_,rfl,WT (s:={ s with heap:=h',toks:=s.toks+1 }) e c d (by decide) ⟨.str ⟨#[x.cps[i]]⟩,H,I1,⟨_,rfl⟩,⟨rfl,x.cps[i],by simp [hg'],rfl⟩,st',λ b hb=>(hf b hb).1⟩⟩
 done:=by
  intro X hP hw hK hc i pins s σ H E I hf st hg;subst hP hw hK;obtain ⟨f0,f1,f2,f3,f4,f5⟩:=hf it (by simp);have hg':x.cps.size<=i:=hg;exact wpAny_pyNext_ascii_end (I.ok.hd hc) st (by simp [hg']) λ h' eb=>⟨rfl,I.turned (t':=s.toks) (λ b o hb e=>eb b o hb e) f0 f1 f3 f4 f5⟩
 self:=λ _ _ _ _ _ st h=>wpAny_pyIter_striter_ascii st h
theorem V2 {P:Program}{w:World}{K:Y00}{tg:Expr}(it:Addr)(x:Str)(t:Tok):Turn P w K tg (Its x) [it] it (λ i h=>h.IsStrIter it "str_iterator" x t i) where
 mem:=by simp
 obj:=λ i h st b hb=>by
  have e:b=it:=by simpa using hb
  subst e;obtain ⟨o,e,c,d⟩:=st;exact ⟨o,e,λ v z=>by rw [d] at z;cases z⟩
 keep:=λ i h h' st k=>let ⟨o,e,r⟩:=st;⟨o,k it (by simp) o e,r⟩
 item:=by
  intro X hP hw hK hc i pins s σ H E I hf st hg;subst hP hw hK;obtain ⟨f0,f1,f2,f3,f4,f5⟩:=hf it (by simp);have hg':i<x.cps.size:=hg;refine wpAny_pyNext_wide_item st (c:=x.cps[i]) (by simp [hg']) λ h' st' sb=>?_;have I1:Inv X pins σ H { s with heap:=h',toks:=s.toks+1 }:=I.turned (λ b o hb e=>(sb.2 b hb).trans e) f0 f1 f3 f4 f5;obtain ⟨o,e,c,d⟩:=id st';exact ⟨_,rfl,WT (s:={ s with heap:=h',toks:=s.toks+1 }) e c d (by decide) ⟨.str ⟨#[x.cps[i]]⟩,H,I1,⟨_,rfl⟩,⟨rfl,x.cps[i],by simp [hg'],rfl⟩,st',λ b hb=>(hf b hb).1⟩⟩
 done:=by
  intro X hP hw hK hc i pins s σ H E I hf st hg;subst hP hw hK;obtain ⟨f0,f1,f2,f3,f4,f5⟩:=hf it (by simp);have hg':x.cps.size<=i:=hg;exact wpAny_pyNext_wide_end (I.ok.hd hc) st (by simp [hg']) λ h' eb=>⟨rfl,I.turned (t':=s.toks) (λ b o hb e=>eb b o hb e) f0 f1 f3 f4 f5⟩
 self:=λ _ _ _ _ _ st h=>wpAny_pyIter_striter_wide st h
section
variable {X:Cx}{tg:Expr}
theorem Zm:∀ {bs:List Bool}{us:List Value},Vals (bs.map V.bl) us->PyProof.Rows.LSm.BoolsAre us bs
 | [],_,r=>by cases r;exact .nil
 | b::bs,_,r=>by
  cases r with
  | cons r1 r2=>cases (show _=Value.bool b from r1);exact .cons b (Zm r2)
theorem Gp (hc:X.calm=true):CallR X (.builtin "all") (λ xs H Q=>∃ (p:Addr) (bs:List Bool),xs=[.ref p]/\SqL X.K H p (bs.map V.bl)/\Q (.bl (bs.all id)) H):=by
 intro pins s σ H xs us Q I r h;obtain ⟨p,bs,rfl,hq,q⟩:=h;obtain ⟨u,rfl,ru⟩:=jI r;cases ru;obtain ⟨its,rv,pl,hz⟩:=I.list hq;have hb:=Zm rv;have hl:s.heap.IsList p its.toArray:=pl.isList;have hlt:p<s.heap.objs.size:=by obtain ⟨_,e,_⟩:=hl;exact Y0h e
 refine call_all_walk (wpAny_pyIter_list hl ?_);refine ⟨s.heap.objs.size,[s.heap.objs.size,p],[s.heap.objs.size],its.toArray.size,_,_,λ i=>(bs[i]?).getD true,rfl,Walks.list (A:=X.A.in1) (I.ok.hd hc) _ p (Y0r hlt) its.toArray,
  ⟨⟨_,Y0i _ rfl,rfl,rfl⟩,hl.push _⟩,λ i v s' Q' E' hP hQ=>?_,λ h' tk hk=>?_⟩
 ·obtain ⟨b,e,rfl⟩:=hb.get i v (by simpa using hP);simp only [e,Y3k] at hQ;exact wpAny_truthy_bool hQ
 ·have e:((List.range its.toArray.size).all λ i=>(bs[i]?).getD true)=bs.all id:=by
   rw [Y0d,hb.length];exact PyProof.Rows.LSm.range_all bs
  rw [e];exact ⟨.bl (bs.all id),H,I.kept (PyProof.Rows.LSm.kept_iter hk),rfl,q⟩
theorem V3:CallR X (.type "int") (λ xs H Q=>∃ x n,xs=[.str x]/\PySem.intText? x=some n/\x.length<=640/\Q (.int n) H):=by
 intro pins s σ H xs us Q I r h;obtain ⟨x,n,rfl,hn,hl,q⟩:=h;obtain ⟨u,rfl,t,rfl⟩:=jI r;exact PySem.W.KIN.call_text hn hl ⟨.int n,H,I.tok _,⟨_,rfl⟩,q⟩
theorem Wc:∀ {ys:List Str}{us:List Value},Vals (ys.map V.str) us->StrsAre us ys
 | [],_,r=>by cases r;exact .nil
 | y::ys,_,r=>by
  cases r with
  | cons r1 r2=>obtain ⟨t,rfl⟩:=r1;exact .cons y t (Wc r2)
theorem Bt:MtR X "str.join" (λ x vs H Q=>∃ (sep:Str) (p:Addr) (ys:List Str),x=.str sep/\vs=[.ref p]/\SqL X.K H p (ys.map V.str)/\(ys.map (·.length)).sum+ys.length*sep.length<=16777216/\Q (.str (Txt.join sep ys)) H):=by
 intro pins s σ H x xs v us Q I rx rs h;obtain ⟨sep,p,ys,rfl,rfl,hq,hz,q⟩:=h;obtain ⟨t,rfl⟩:=rx;obtain ⟨u,rfl,ru⟩:=jI rs;cases ru;obtain ⟨its,rv,pl,_⟩:=I.list hq;exact join_list pl.isList (by simpa using Wc rv) hz λ t' k=>⟨.str _,H,I.tok _,⟨_,rfl⟩,q⟩
open Builtin Builtin.Str in
theorem V4 {prog:Program}{w:World}{A:Around}{E:Value->Shared->Prop}{s:Shared}{x y:Str}{t u:Tok}{Q:Value->Shared->Prop}(hy:(y.length==0)=false)
  (hq:∀ l k,l.map (·.1)=Txt.split x y->Q (.ref s.heap.objs.size) { s with heap:=s.heap.push { cls:=.type "list",data:=.seq (strValues l).toArray },toks:=k })
  (hsz:x.length<=sizeLine) (hsz2:(partsBetween x (occurrences x y 0 x.length (x.length+1)) y.length).length<=sizeLine) :
  wpAny (model prog w) A (call (.builtin "str.split") [.str x t,.str y u]) Q E s:=by
 cases h1:(decide (x.length<y.length)||decide (strKind x<strKind y))
 ·cases hf:(occurrences x y 0 x.length (x.length+1)).isEmpty
  ·refine call_meets Y3p (typeIs_str _ _ _) Y3h (Y3e _ _) (meets_str_split_sep x y t u h1 hy hf hsz hsz2) ?_;show wants Q E _ { s with toks:=_,heap:=s.heap.push { cls:=.type "list",data:=.seq (strsFrom s.toks (partsBetween x (occurrences x y 0 x.length (x.length+1)) y.length)).toArray } };rw [strsFrom_eq];exact hq (numbered s.toks _) _ ((numbered_texts _ _).trans ((if_neg (ne_true_of_eq_false h1)).trans (if_neg (ne_true_of_eq_false hf))).symm)
  ·exact call_meets Y3p (typeIs_str _ _ _) Y3h (Y3e _ _) (meets_str_split_not_found x y t u h1 hy hf)
    (hq [(x,t)] s.toks ((if_neg (ne_true_of_eq_false h1)).trans (if_pos hf)).symm)
 ·exact call_meets Y3p (typeIs_str _ _ _) Y3h (Y3e _ _) (meets_str_split_cannot_occur x y t u h1)
   (hq [(x,t)] s.toks (if_pos h1).symm)
theorem JB:∀ (l:List (Str×Tok)),Vals ((l.map (·.1)).map V.str) (strValues l)
 | []=>.nil
 | (x,t)::r=>.cons ⟨t,rfl⟩ (JB r)
open Builtin Builtin.Str in
theorem Gq:MtR X "str.split" (λ x vs H Q=>∃ z y,x=.str z/\vs=[.str y]/\(y.length==0)=false/\z.length<=sizeLine/\(partsBetween z (occurrences z y 0 z.length (z.length+1)) y.length).length<=sizeLine/\(Txt.split z y).length<=sizeLine /\
  ∀ p,H p=none->Q (.ref p) (upd H p (.lst ((Txt.split z y).map V.str)))):=by
 intro pins s σ H x xs v us Q I rx rs h;obtain ⟨z,y,rfl,rfl,hy,hz,hz2,hz3,q⟩:=h;obtain ⟨t,rfl⟩:=rx;obtain ⟨u,rfl,t',rfl⟩:=jI rs;refine V4 hy (λ l k hl=>?_) hz hz2;have hn:H s.heap.objs.size=none:=I.hok.fresh (Y09 _);refine ⟨.ref s.heap.objs.size,_,?_,rfl,q _ hn⟩;refine I.laid (λ b o e=>Y02 _ e) (Y09 _) ⟨by rw [Y0c];exact hz3,strValues l,0,by rw [<- hl];exact JB l,Y0i _ rfl⟩
end
def PET (X:Cx)(e:Expr)(t:TE):Prop :=
 ∀ (pins:List (Addr×Obj)) (s:Shared) (σ:St) (H:Hp) (Q:VK),Inv X pins σ H s->0<s.toks->t σ H Q->wpAny (model X.prog X.w) X.A (eval e X.env) (EP X pins σ Q) X.xe s
def PST (X:Cx)(st:Stmt)(t:TS):Prop :=
 ∀ (pins:List (Addr×Obj)) (s:Shared) (σ:St) (H:Hp) (D:Ends),Inv X pins σ H s->0<s.toks->t D σ H->wpAny (model X.prog X.w) X.A (exec st X.env) (SP X pins D) X.xe s
def PSsT (X:Cx)(st:List Stmt)(t:TS):Prop :=
 ∀ (pins:List (Addr×Obj)) (s:Shared) (σ:St) (H:Hp) (D:Ends),Inv X pins σ H s->0<s.toks->t D σ H->wpAny (model X.prog X.w) X.A (execs st X.env) (SP X pins D) X.xe s
def Ud (to:TE)(c d:Str):TE:=λ σ H Q=>to σ H λ x H1=>∃ z,x=.str z/\z.length+(z.length+1)*d.length<=16777216/\Q (.str (Txt.replace z c d)) H1
section
variable {X:Cx}{e o:Expr}{t to:TE}{st:Stmt}{zL:List Stmt}{tS u:TS}{apos cpos pos p1 p2:Pos}{c d:Str}{k1 k2:Nat}
theorem PE.pet (h:PE X e t):PET X e t:=λ pins s σ H Q I _ q=>h pins s σ H Q I q
theorem Q0 (ho:PET X o to) (hcd:(c==d)=false) (hbase:attributeBase o "replace" X.env (eval o X.env)=eval o X.env:=by rfl)
  (hfew:((backTo cpos (starEach [.Constant (.str c) k1 p1,.Constant (.str d) k2 p2] X.env)).all (λ x=>!x.1)&&(backToKw cpos (keywordEach [] X.env)).all (λ x=>x.1.isSome)
   && decide (([.Constant (.str c) k1 p1,.Constant (.str d) k2 p2]:List Expr).length+([]:List Keyword).length+(if ([]:List Keyword).isEmpty then 0 else 1)<30))=true:=by rfl)
  (hline:(apos.endLine==cpos.line)=true:=by rfl) :
  PET X (.Call (.Attribute o "replace" apos) [.Constant (.str c) k1 p1,.Constant (.str d) k2 p2] [] cpos) (Ud to c d):=by
 intro pins s σ H Q I h0 h;refine wpAny_Call_method_late hbase hfew hline rfl (wpAny_mono (Y7 (ho pins s σ H _ I h0 h)) (λ v s1 h1=>?_) λ _ _ y=>y);obtain ⟨⟨x,H1,I1,r1,z,rfl,hz,q⟩,ht⟩:=h1;obtain ⟨tk,rfl⟩:=r1;have h1:0<s1.toks:=Y0l h0 ht;refine ⟨"str","str.replace",Y2u,PySem.F.slot_str_replace,PySem.F.type_str_replace,typeIs_str _ _ _,(λ _ e=>nomatch e),?_⟩;refine Calls.callWith_builtin rfl (Calls.evalArgs_plain ?_);refine spliced_more (Calls.Constant_str (spliced_more (Calls.Constant_str (spliced_none ?_))));refine SC.replace (by show s1.toks≠0;omega) (by show s1.toks+1≠0;omega) (by show s1.toks≠s1.toks+1;omega) hcd hz λ t' k=>?_;exact ⟨.str _,H1,I1.tok _,⟨_,rfl⟩,q⟩
theorem Bu {i:Nat}{x:Str}{pos':Pos}(hN:X.N.Nodup)(hi:X.N[i]?=some x)(hx:Loc X.env.scope x)(he:PET X e t)(hs:swapsWith e (some (.Name x pos')) pos.line X.env=pure false:=by rfl)(hf:X.fn x=true\/X.env.scope.names.lookup x=some .local:=by first | exact .inl rfl | exact .inr rfl | assumption) :
  PST X (.Assign [.Name x pos'] e pos) (B9 t (WS i)):=by
 intro pins s σ H D I h0 h;refine wpAny_Assign_Name (thn (he pins s σ H _ I h0 h) λ v s1 ⟨y,H1,I1,r1,q1⟩=>?_) hs;exact Z8 I1 hN hi hx r1 (λ s2 I2=>⟨_,H1,I2,q1⟩) hf
theorem V5 (h1:PST X st tS)(h2:PSs X zL u):PSsT X (st::zL) (z5b tS u):=by
 intro pins s σ H D I h0 h;refine wpAny_execs_cons (thn (h1 pins s σ H { D with nx:=u D } I h0 h) λ f s1 q=>?_);cases f with
 | next =>
  obtain ⟨σ',H',I',q⟩:=q;exact h2 pins s1 σ' H' D I' q
 | ret v=>exact q
 | brk=>exact q
 | cont=>exact q
end
theorem wL:∀ {names:List (Str×NameKind)}{n:Nat},(∀ y∈names,y.2≠.cell)->cellsFrom n names []=[]
 | [],_,_=>rfl
 | (x,k)::r,n,h=>by
  have hk:k≠.cell:=h (x,k) (Y08 ..);have ih:=wL (names:=r) (n:=n) λ y hy=>h y (Y06 _ hy);unfold cellsFrom;simp only [beq_iff_eq,hk,if_false];exact ih
theorem JC {kindOf:Str->Option NameKind}{x:Str}:∀ {binds:List (Str×Value)}{m:Str->Option Value},(∀ y∈binds,kindOf y.1=some .local)->bindL kindOf binds m x=(binds.reverse.lookup x).or (m x)
 | [],_,_=>by simp [bindL]
 | (n,v)::r,m,h=>by
  unfold bindL;rw [JC λ y hy=>h y (Y06 _ hy),if_pos (h (n,v) (Y08 ..)),Y1t,Y2j,Option.or_assoc]
  congr 1
  by_cases e:x=n
  ·subst e;simp [List.lookup]
  ·have:(x==n)=false:=by simpa using e
   simp [List.lookup,this,e]
theorem z39 {CX:CXT}{P:Program}{w:World}{K:Y00}{mg:Str->Option Value}{base:Heap}{k:Nat}{f:Addr}{name qual:Str}{params:Arguments}{body:List Stmt}{scope:Scope}{dV kV doc pm cdv ct oc:Value}{an od:Option Addr}
    {osl:Array (Option Value)}{N ps:List Str}{sp:Sp} (lk:K.lookup f=some ⟨oc,od,.func (PySem.W.fnOf name qual params body scope dV kV doc pm an cdv ct),osl⟩) (hcd:PySem.W.codeIn K cdv qual=true) (S:FnScope N ps scope)
    (nocell:∀ y∈scope.names,y.2≠.cell) (hps:ps≠[])
    (len:∀ vs H Q E,sp vs H Q E->vs.length=ps.length)
    (hbody:∀ (A:Around) (outer:List Env) (s:Shared) (H:Hp) (vs:List V) (Q:VK) (E:XK),Room k (A.deeper (envOfC qual scope s.heap.objs.size f cdv))->sp vs H Q E ->
      ∃ t,PSsT (qL CX P w K mg base N qual scope f cdv A outer s H E) body t/\t { nx:=λ _ H'=>Q .non H',rt:=Q } (start N vs) H) :
    FnOk P w K mg base CX (k+1) f (PySem.W.fnOf name qual params body scope dV kV doc pm an cdv ct) ps sp:=by
  refine ⟨len,λ A outer s H args us vs Q E hr e0 hb r hsp=>?_⟩;have hl:=len _ _ _ _ hsp;have KX:K.In s.heap:=e0.mod.kin.keeps λ b o e=>(e0.bs b o e).1;have lim:s.heap.NoLimit:=e0.mod.nolimit.keeps λ b o e=>(e0.bs b o e).1;have hkind:∀ y∈ps.zip us,scope.names.lookup y.1=some .local:=λ ⟨n,v⟩ hy=>by
    rcases S.par n (Y30 hy).1 with q | q
    · exact q
    · exact absurd rfl (nocell _ (Y0y q))
  have hkind':∀ y∈ps.zip us,scope.names.lookup y.1=some .local\/(scope.names.lookup y.1=some .cell/\((cellsFrom (s.heap.objs.size+1) scope.names []).lookup y.1).isSome=true):=λ y hy=>.inl (hkind y hy);refine codeAny_call_function hr.depth (KX _ _ lk) rfl S.co S.gen rfl (PySem.W.codeRec_of KX hcd) (hb _ _ _ _ ?_);refine wpAny_newFunctionEnv nocell hkind (λ h1 hns hsb=>?_) S.kind;have zl:(ps.zip us).length=ps.length:=by
    rw [List.length_zip]
    have:=r.length
    omega
  have h0:0<({ s with heap:=h1,toks:=s.toks+(ps.zip us).length }:Shared).toks:=by
    have z2:0<ps.length:=List.length_pos_iff.mpr hps;show 0<s.toks+(ps.zip us).length;omega
  have hcs:cellsFrom (s.heap.objs.size+1) scope.names []=[]:=wL nocell;have ef:(bindL (envOfC qual scope s.heap.objs.size f cdv).kindOf (ps.zip us) λ _=>none)=λ x=>(ps.zip us).reverse.lookup x:=by
    funext x
    rw [JC (λ y hy=>hkind y hy)];cases (ps.zip us).reverse.lookup x<;>rfl
  have x:InCallC s s.heap.objs.size (bindL (envOfC qual scope s.heap.objs.size f cdv).kindOf (ps.zip us) λ _=>none) (cellsFrom (s.heap.objs.size+1) scope.names []) (bindC (envOfC qual scope s.heap.objs.size f cdv).kindOf (ps.zip us) λ _=>none)
      { s with heap:=h1,toks:=s.toks+(ps.zip us).length }:=by
    rw [hcs,ef];refine ⟨⟨⟨h1,_,rfl⟩,hns,λ b o e=>?_,Y09 _⟩,λ n c q=>by simp at q,List.Pairwise.nil,λ n c q=>by simp at q⟩;exact (hsb.2 b (Y0r (Y0h e))).trans (Y02 _ e)
  have eE:newEnv scope s.heap.objs.size mainGlobals [] (qual++".<locals>.") (some f) cdv none builtinsNs=envOfC qual scope s.heap.objs.size f cdv:=by
    unfold envOfC newEnv;rw [hcs]
  generalize hfd:PySem.W.fnOf name qual params body scope dV kV doc pm an cdv ct=fd;have eF:newEnv fd.scope s.heap.objs.size fd.globals fd.closure (fd.qualname++".<locals>.") (some f) fd.code none fd.builtins=envOfC qual scope s.heap.objs.size f cdv:=by
    rw [<- hfd];exact eE
  rw [eF];generalize hs1:({ s with heap:=h1,toks:=s.toks+(ps.zip us).length }:Shared)=s1 at h0 x ⊢;refine ⟨lim.keeps x.toInCall.keep,codeAny_func ?_⟩;obtain ⟨t,ht,hq⟩:=hbody A outer s H vs Q E (hr.deeper _) hsp;have I:Inv (qL CX P w K mg base N qual scope f cdv A outer s H E) [] (start N vs) H s1:=yh S hr.hd e0 hl r x;refine wpAny_mono (ht [] s1 (start N vs) H _ I h0 hq) (λ fl s' hs=>?_) λ e s' hs=>hs;have fin:∀ {σ':St}{H':Hp}{v:V}{u:Value},Inv (qL CX P w K mg base N qual scope f cdv A outer s H E) [] σ' H' s'->RelV v u->Q v H'->CE outer P w H s Q u s' :=
    λ {σ' H' v u} J rv q=>⟨v,H',J.os,J.bare,J.base,J.hok,rv,q⟩
  cases fl with
  | ret u =>
    obtain ⟨v,σ',H',J,rv,q⟩:=hs;exact fin J rv q
  | next =>
    obtain ⟨σ',H',J,q⟩:=hs;exact fin (v:=V.non) (u:=Value.none) J rfl q
  | brk =>
    obtain ⟨_,_,_,q⟩:=hs;exact False.elim q
  | cont =>
    obtain ⟨_,_,_,q⟩:=hs;exact False.elim q
structure Walk (J:It)(xs:List V)(Pv:Hp->Prop):Prop where
 stop:∀ H,Pv H->J.stop xs.length H
 go:∀ i H,i<xs.length->Pv H->J.go i H
 yld:∀ i H x H',i<xs.length->Pv H->J.yld i H x H'->H'=H/\xs[i]?=some x
section
variable {P:Program}{w:World}{K:Y00}{mg:Str->Option Value}{base:Heap}
theorem Fun.okX {x qual:Str}{st:Stmt}{f:Addr}{fd:FuncData}{N ps:List Str}{k:Nat}{sp:Sp}(F:Fun K x qual st f fd)(S:FnScope N ps (zd st))(len:∀ vs H Q E,sp vs H Q E->vs.length=ps.length)
  (hbody:∀ (cdv:Value) (A:Around) (outer:List Env) (s:Shared) (H:Hp) (vs:List V) (Q:VK) (E:XK),Room k (A.deeper (envOfC qual (zd st) s.heap.objs.size f cdv))->sp vs H Q E ->
   ∃ t,PSs (qL (CXs P w) P w K mg base N qual (zd st) f cdv A outer s H E) (zR st) t/\t { nx:=λ _ H'=>Q .non H',rt:=Q } (start N vs) H):FnOk P w K mg base (CXs P w) (k+1) f fd ps sp:=by
 obtain ⟨oc,od,kV,doc,pm,an,cdv,ct,osl,rfl,lk,hcd⟩:=F.ex;exact z1d lk hcd S len λ A outer s H vs Q E hr hsp=>hbody cdv A outer s H vs Q E hr hsp
theorem Fun.okT {x qual:Str}{st:Stmt}{f:Addr}{fd:FuncData}{N ps:List Str}{k:Nat}{sp:Sp}(F:Fun K x qual st f fd)(S:FnScope N ps (zd st))(nocell:∀ y∈(zd st).names,y.2≠.cell)(hps:ps≠[])(len:∀ vs H Q E,sp vs H Q E->vs.length=ps.length)
  (hbody:∀ (cdv:Value) (A:Around) (outer:List Env) (s:Shared) (H:Hp) (vs:List V) (Q:VK) (E:XK),Room k (A.deeper (envOfC qual (zd st) s.heap.objs.size f cdv))->sp vs H Q E ->
   ∃ t,PSsT (qL (CXs P w) P w K mg base N qual (zd st) f cdv A outer s H E) (zR st) t/\t { nx:=λ _ H'=>Q .non H',rt:=Q } (start N vs) H):FnOk P w K mg base (CXs P w) (k+1) f fd ps sp:=by
 obtain ⟨oc,od,kV,doc,pm,an,cdv,ct,osl,rfl,lk,hcd⟩:=F.ex;exact z39 lk hcd S nocell hps len λ A outer s H vs Q E hr hsp=>hbody cdv A outer s H vs Q E hr hsp
end
abbrev TJ:=St->Hp->Str->(Str->Hp->Prop)->Prop
section
variable {X:Cx}{e v₁ v₂:Expr}{es:List Expr}{te:TE}{t:TJ}{c:Str}{k:Nat}{pos p:Pos}
def Bv (K:Y00)(neg:Bool):R2:=λ x y H Q=>∃ p q xs,x=.ref p/\y=.ref q/\SqL K H p xs/\SqL K H q []/\Q (.bl (if neg then !xs.isEmpty else xs.isEmpty)) H
theorem Gs (hu:X.A.units<cLine):OpR X (compareOp .Eq) (Bv X.K false):=by
 intro pins s σ H x y v u Q I rx ry h;obtain ⟨p,q,xs,rfl,rfl,h1,h2,hq⟩:=h;cases rx;cases ry;obtain ⟨its,r,pl,hz⟩:=I.list h1;obtain ⟨its2,r2,pl2,_⟩:=I.list h2;cases r2;cases xs with
 | nil =>
  cases r;exact SeqAt.eq_listAt (e:=λ _=>true) pl.isList pl2.isList rfl hu (λ j h1 _=>absurd h1 (by simp)) ⟨.bl true,H,I,rfl,hq⟩
 | cons a t =>
  cases r with
  | cons r1 r2=>exact SeqAt.eq_list_lengthsAt pl.isList pl2.isList (by simp) hu ⟨.bl false,H,I,rfl,hq⟩
theorem Gu (hu:X.A.units<cLine):OpR X (compareOp .NotEq) (Bv X.K true):=by
 intro pins s σ H x y v u Q I rx ry h;obtain ⟨p,q,xs,rfl,rfl,h1,h2,hq⟩:=h;cases rx;cases ry;obtain ⟨its,r,pl,hz⟩:=I.list h1;obtain ⟨its2,r2,pl2,_⟩:=I.list h2;cases r2;cases xs with
 | nil =>
  cases r;exact SeqAt.RcNeAt.lists (e:=λ _=>true) pl.isList pl2.isList rfl hu (λ j h1 _=>absurd h1 (by simp)) _ _ _ _ ⟨.bl false,H,I,rfl,hq⟩
 | cons a t =>
  cases r with
  | cons r1 r2=>exact SeqAt.RcNeAt.lists_lengths pl.isList pl2.isList (by simp) hu _ _ _ _ ⟨.bl true,H,I,rfl,hq⟩
end
def SIt (h:Heap)(i a:Addr)(k:Nat)(xs:Array Value):Prop:=(h.IsListIter i a k/\h.IsList a xs)\/(h.IsTupleIter i a k/\h.IsTuple a xs)
theorem SIt.move {h h':Heap}{i a:Addr}{k:Nat}{xs:Array Value}(x:SIt h i a k xs)(hi:∀ o,h.get? i=some o->h'.get? i=some o)(ha:∀ o,h.get? a=some o->h'.get? a=some o):SIt h' i a k xs:=by
 rcases x with ⟨x,y⟩ | ⟨x,y⟩
 ·exact .inl ⟨x.at hi,y.at ha⟩
 ·exact .inr ⟨x.at hi,y.at ha⟩
theorem SIt.there {h:Heap}{i a:Addr}{k:Nat}{xs:Array Value}(x:SIt h i a k xs):∃ o,h.get? i=some o/\∀ v,o.data≠.cell v:=by
 rcases x with ⟨⟨o,e,_,d⟩,_⟩ | ⟨⟨o,e,_,d⟩,_⟩<;>exact ⟨o,e,λ v z=>by rw [d] at z;cases z⟩
theorem SIt.src {h:Heap}{i a:Addr}{k:Nat}{xs:Array Value}(x:SIt h i a k xs):∃ o n,h.get? a=some o/\o.data=.seq xs n:=by
 rcases x with ⟨_,o,e,_,n,d⟩ | ⟨_,o,e,_,n,d⟩<;>exact ⟨o,n,e,d⟩
section
variable {prog:Program}{w:World}{A:Around}{E:Value->Shared->Prop}{s:Shared}
theorem qN {it t:Addr}{i:Nat}{items:Array Value}{x:Value}{Q:Value->Shared->Prop}(hit:s.heap.IsTupleIter it t i)(ht:s.heap.IsTuple t items)(hx:items[i]?=some x)
  (hQ:∀ h',h'.IsTupleIter it t (i+1)->Heap.SameBut it s.heap h'->Q x { s with heap:=h' }):wpAny (model prog w) A (Builtin.SmallTypes.nextOf (.ref it)) Q E s:=by
 obtain ⟨o,ho,hc,hd⟩:=id hit;obtain ⟨ol,hol,_,nl,hdl⟩:=ht;unfold Builtin.SmallTypes.nextOf;refine wpAny_bind (wpAny_callSpecial?_slot (name:=Str.ofString "__next__") hit.typeIs Y1s
  (wpAny_call_entry Y1s hit.typeIs Y3b ?_ (Y3a _)))
 show wpAny _ _ (field (.ref it) 0 >>= _) _ _ s;refine wpAny_bind (wpAny_field ho hd (x:=.ref t) rfl ?_);show wpAny _ _ (if (Value.ref t==Value.none)=true then _ else _) _ _ s;rw [if_neg (show ¬ ((Value.ref t==Value.none)=true) from Y0s)];show wpAny _ _ (field (.ref it) 1 >>= _) _ _ s;refine wpAny_bind (wpAny_field ho hd (x:=.int i 0) rfl ?_);show wpAny _ _ (seqItems? (.ref t) >>= _) _ _ s;refine wpAny_bind (wpAny_seqItems hol hdl ?_);simp only [Y3g,hx];refine wpAny_bind (wpAny_setField ho hd (by simp) (wpAny_pure ⟨x,rfl,wpAny_pure (hQ _ ?_ (Heap.SameBut.update ..))⟩));exact ⟨_,Y2b _ ho (Obj.isFreed_of_fields (Obj.data_mapFields hd _)),(Obj.cls_mapFields ..).trans hc,by
  rw [Obj.data_mapFields hd];simp [rawInt]⟩
theorem yk {it t:Addr}{i:Nat}{items:Array Value}{Q:Value->Shared->Prop}(hh:A.handled=none)(hit:s.heap.IsTupleIter it t i)(ht:s.heap.IsTuple t items)(hx:items[i]?=none)
  (hE:∀ h' e,Heap.ExtBut it s.heap h'->(∃ o,h'.get? e=some o/\o.cls=.type "StopIteration")->E (.ref e) { s with heap:=h' }):wpAny (model prog w) A (Builtin.SmallTypes.nextOf (.ref it)) Q E s:=by
 obtain ⟨o,ho,hc,hd⟩:=id hit;obtain ⟨ol,hol,_,nl,hdl⟩:=ht;unfold Builtin.SmallTypes.nextOf;refine wpAny_bind (wpAny_callSpecial?_slot (name:=Str.ofString "__next__") hit.typeIs Y1s
  (wpAny_call_entry Y1s hit.typeIs Y3b ?_ (Y3a _)))
 show wpAny _ _ (field (.ref it) 0 >>= _) _ _ s;refine wpAny_bind (wpAny_field ho hd (x:=.ref t) rfl ?_);show wpAny _ _ (if (Value.ref t==Value.none)=true then _ else _) _ _ s;rw [if_neg (show ¬ ((Value.ref t==Value.none)=true) from Y0s)];show wpAny _ _ (field (.ref it) 1 >>= _) _ _ s;refine wpAny_bind (wpAny_field ho hd (x:=.int i 0) rfl ?_);show wpAny _ _ (seqItems? (.ref t) >>= _) _ _ s;refine wpAny_bind (wpAny_seqItems hol hdl ?_);simp only [Y3g,hx];refine wpAny_bind (wpAny_rule (wpAny_bind (wpAny_setField ho hd (by simp) ?_)));show wpAny _ _ (newExc (.type "StopIteration") [] >>= _) _ _ _;refine wpAny_bind ?_;simp only [newExc,newTuple];refine wpAny_bind (wpAny_newObj_type ?_ (by size_fits));refine wpAny_bind (m:=firstArgMember _ _) (wpAny_of_eq (a:=Value.none) (by first | rfl | (simp only [firstArgMember];rfl)) ?_);refine wpAny_newObj_type ?_ (by size_fits);simp only [raiseNew];refine wpAny_bind (wpAny_handled ?_)
 first | rw [show A.in1.handled=none from hh] | rw [hh]
 refine wpAny_bind (wpAny_pure (wpAny_throw ?_));exact hE _ _ (((Heap.SameBut.update ..).extBut.push _).push _) ⟨_,Y0i _ rfl,rfl⟩
theorem jb {i a:Addr}{k:Nat}{xs:Array Value}{x:Value}{Q:Value->Shared->Prop}(hne:a≠i)(h:SIt s.heap i a k xs)(hx:xs[k]?=some x)
  (hQ:∀ h',SIt h' i a (k+1) xs->Heap.SameBut i s.heap h'->Q x { s with heap:=h' }):wpAny (model prog w) A (Builtin.SmallTypes.nextOf (.ref i)) Q E s:=by
 rcases h with ⟨h1,h2⟩ | ⟨h1,h2⟩
 ·exact wpAny_nextOf_list_item h1 h2 hx λ h' h3 sb=>hQ h' (.inl ⟨h3,h2.extBut sb.extBut hne⟩) sb
 ·exact qN h1 h2 hx λ h' h3 sb=>hQ h' (.inr ⟨h3,h2.extBut sb.extBut hne⟩) sb
theorem jZ {i a:Addr}{k:Nat}{xs:Array Value}{Q:Value->Shared->Prop}(hh:A.handled=none)(h:SIt s.heap i a k xs)(hx:xs[k]?=none)
  (hE:∀ h' e,Heap.ExtBut i s.heap h'->(∃ o,h'.get? e=some o/\o.cls=.type "StopIteration")->E (.ref e) { s with heap:=h' }):wpAny (model prog w) A (Builtin.SmallTypes.nextOf (.ref i)) Q E s:=by
 rcases h with ⟨h1,h2⟩ | ⟨h1,h2⟩
 ·exact wpAny_nextOf_list_end hh h1 h2 hx hE
 ·exact yk hh h1 h2 hx hE
theorem SIt.ext {h h':Heap}{i a b:Addr}{k:Nat}{xs:Array Value}(x:SIt h i a k xs)(hs:Heap.ExtBut b h h')(h1:i≠b)(h2:a≠b):SIt h' i a k xs:=x.move (λ o e=>hs i o h1 e) (λ o e=>hs a o h2 e)
end
def ItR (h:Heap)(i a:Addr)(k:Nat)(b:Bool):Prop:=if b=true then h.IsListIter i a k else h.IsTupleIter i a k
def SqB (K:Y00)(H:Hp)(a:Addr)(b:Bool)(xs:List V):Prop:=if b=true then SqL K H a xs else SqT K H a xs
theorem ItR.at {h h':Heap}{i a:Addr}{k:Nat}{b:Bool}(x:ItR h i a k b)(hi:∀ o,h.get? i=some o->h'.get? i=some o):ItR h' i a k b:=by
 cases b with
 | true=>exact Heap.IsListIter.at (show h.IsListIter i a k from x) hi
 | false=>exact Heap.IsTupleIter.at (show h.IsTupleIter i a k from x) hi
theorem ItR.rec {h:Heap}{i a:Addr}{k:Nat}{b:Bool}(x:ItR h i a k b):∃ o vs,h.get? i=some o/\o.data=.fields vs:=by
 cases b with
 | true=>obtain ⟨o,e,_,d⟩:=(show h.IsListIter i a k from x);exact ⟨o,_,e,d⟩
 | false=>obtain ⟨o,e,_,d⟩:=(show h.IsTupleIter i a k from x);exact ⟨o,_,e,d⟩
section
variable {X:Cx}{pins:List (Addr×Obj)}{σ:St}{H:Hp}{s:Shared}
theorem Inv.seqB {a:Addr}{b:Bool}{xs:List V}(I:Inv X pins σ H s)(h:SqB X.K H a b xs):∃ its:List Value,Vals xs its/\(∀ (i:Addr) (k:Nat) (h':Heap),ItR h' i a k b->(∀ o,s.heap.get? a=some o->h'.get? a=some o)->SIt h' i a k its.toArray)/\∃ o n,s.heap.get? a=some o/\o.data=.seq its.toArray n:=by
 cases b with
 | true =>
  obtain ⟨its,r,pl,_⟩:=I.list (show SqL X.K H a xs from h);have hl:s.heap.IsList a its.toArray:=pl.isList;obtain ⟨o,e,c,n,d⟩:=id hl;exact ⟨its,r,λ i k h' x ka=>.inl ⟨x,hl.at ka⟩,o,n,e,d⟩
 | false =>
  obtain ⟨its,r,pl,_⟩:=I.tuple (show SqT X.K H a xs from h);have hl:s.heap.IsTuple a its.toArray:=pl;obtain ⟨o,e,c,n,d⟩:=id hl;exact ⟨its,r,λ i k h' x ka=>.inr ⟨x,hl.at ka⟩,o,n,e,d⟩
theorem Inv.seqB_inj {a:Addr}{b:Bool}{xs ys:List V}(I:Inv X pins σ H s)(h:SqB X.K H a b xs)(h':SqB X.K H a b ys):xs=ys:=by
 cases b with
 | true=>exact I.list_inj (show SqL X.K H a xs from h) h'
 | false=>exact I.tuple_inj (show SqT X.K H a xs from h) h'
end
section
variable {X:Cx}{pins:List (Addr×Obj)}{σ:St}{H:Hp}{s:Shared}{h':Heap}
theorem Inv.turnedL {t':Nat}{l:List Addr}(I:Inv X pins σ H s)(k:∀ b o,b∉l->s.heap.get? b=some o->h'.get? b=some o)(hf:∀ b∈l,yg X pins H b):Inv X pins σ H { s with heap:=h',toks:=t' }:=by
 have nit:∀ b u,H b=some u->b∉l:=λ b u e z=>by rw [(hf b z).1] at e;cases e
 have hL:X.env.locals∉l:=λ z=>(hf _ z).2.1 rfl;refine I.step (g':=s.gens) (d':=s.drawn) (ch:=l) (λ b hb=>?_) (λ b o _ _ hc e _=>k b o hc e) (λ b o _ _ hc e _=>⟨o.slots,k b o hc e⟩) (λ _ _ _ _ n=>n)
  (λ b o hc e=>⟨o,k b o hc e⟩) (λ _ _ e=>e) (λ _ _ _ e=>e) (λ b ps e=>⟨#[],by rw [e];simp⟩) (λ m hm=>?_) (λ b u e=>?_) I.bare
 ·obtain ⟨_,f1,_,f3,f4,f5⟩:=hf b hb;exact ⟨f3,f1,f4,f5⟩
 ·obtain ⟨o,es,ep,ho,r⟩:=hm;exact ⟨o,es,ep,k _ o hL ho,r⟩
 ·refine (I.hok b u e).stay (λ c v hc q=>k c v ?_ q) (λ _ q=>q) λ _ _ q=>q;rcases hc with z | z
  ·rw [z];exact nit b u e
  ·exact nit c _ z
end
theorem ItR.ofS {h:Heap}{i a:Addr}{k m:Nat}{xs ys:Array Value}{b:Bool}{h0:Heap}(x:SIt h i a k xs)(q:ItR h0 i a m b)(y:SIt h0 i a m ys)(hc:∀ o,h0.get? a=some o->h.get? a=some o):ItR h i a k b:=by
 cases b with
 | true =>
  rcases x with ⟨x,_⟩ | ⟨_,⟨o,e,c,n,d⟩⟩
  ·exact x
  ·rcases y with ⟨_,⟨o',e',c',_⟩⟩ | ⟨⟨o',e',c',_⟩,_⟩
   ·have:=hc _ e';rw [e] at this;cases this;rw [c] at c';exact absurd c' (by decide)
   ·obtain ⟨o2,e2,c2,_⟩:=(show h0.IsListIter i a m from q);rw [e2] at e';cases e';rw [c2] at c';exact absurd c' (by decide)
 | false =>
  rcases x with ⟨_,⟨o,e,c,n,d⟩⟩ | ⟨x,_⟩
  ·rcases y with ⟨⟨o',e',c',_⟩,_⟩ | ⟨_,⟨o',e',c',_⟩⟩
   ·obtain ⟨o2,e2,c2,_⟩:=(show h0.IsTupleIter i a m from q);rw [e2] at e';cases e';rw [c2] at c';exact absurd c' (by decide)
   ·have:=hc _ e';rw [e] at this;cases this;rw [c] at c';exact absurd c' (by decide)
  ·exact x
def Itz (K:Y00)(l1 l2:Addr)(b1 b2:Bool)(n m:Nat):It :=
  ⟨λ i H=>i<n/\i<m/\∃ xs ys,SqB K H l1 b1 xs/\SqB K H l2 b2 ys/\xs.length=n/\ys.length=m,
   λ i H v H'=>∃ T,v=.ref T/\H T=none/\∀ xs ys,SqB K H l1 b1 xs->SqB K H l2 b2 ys->∃ x y,xs[i]?=some x/\ys[i]?=some y/\H'=upd H T (.tup [x,y]),
   λ i H=>(i=n\/i=m)/\∃ xs ys,SqB K H l1 b1 xs/\SqB K H l2 b2 ys/\xs.length=n/\ys.length=m⟩
def ZTn (z TI TO i1 i2 l1 l2:Addr)(b1 b2:Bool)(i:Nat)(h:Heap):Prop :=
 IsZip h z TI TO .none/\IsPair h TI (.ref i1) (.ref i2)/\(∃ a b,IsPair h TO a b)/\ItR h i1 l1 i b1/\ItR h i2 l2 i b2
end L2
set_option maxHeartbeats 4000000
namespace L2
open PySem PySem.Spec PyProof.Rows
def itN (b:Bool):String:=if b=true then "list_iterator" else "tuple_iterator"
def SqH (h:Heap)(a:Addr)(b:Bool)(xs:Array Value):Prop:=if b=true then h.IsList a xs else h.IsTuple a xs
abbrev Bw (b1:Bool)(h:Heap)(l1:Addr):Heap:=h.push { cls:=.type (itN b1),data:=.fields #[.ref l1,.int 0 0] }
abbrev Bx (b1 b2:Bool)(h:Heap)(l1 l2:Addr):Heap:=(Bw b1 h l1).push { cls:=.type (itN b2),data:=.fields #[.ref l2,.int 0 0] }
abbrev By (b1 b2:Bool)(h:Heap)(l1 l2:Addr):Heap:=(Bx b1 b2 h l1 l2).push { cls:=.type "tuple",data:=.seq #[.ref h.objs.size,.ref (Bw b1 h l1).objs.size] }
abbrev Bz (b1 b2:Bool)(h:Heap)(l1 l2:Addr):Heap:=(By b1 b2 h l1 l2).push { cls:=.type "tuple",data:=.seq #[.none,.none] }
abbrev V6 (b1 b2:Bool)(h:Heap)(l1 l2:Addr):Heap:=(Bz b1 b2 h l1 l2).push { cls:=.type "zip",data:=.fields #[.none,.bool false,.bool false,.ref (Bx b1 b2 h l1 l2).objs.size,.ref (By b1 b2 h l1 l2).objs.size] }
theorem Yb (b1 b2:Bool)(l1 l2:Addr)(xs ys:Array Value) :
  Meets (Builtin.«zip.__new__» ⟨[.type "zip",.ref l1,.ref l2],[]⟩) (λ _ R s=>SqH s.heap l1 b1 xs/\SqH s.heap l2 b2 ys /\
   R (.ok (.ret (.ref (Bz b1 b2 s.heap l1 l2).objs.size))) { s with heap:=V6 b1 b2 s.heap l1 l2 }) :=
 .of_wp λ prog w A R s h=>by
  obtain ⟨hp,g,d,tk,os⟩:=s;obtain ⟨hl1,hl2,h⟩:=h;have hsub:=PySem.sub_zip;cases b1<;>cases b2
  ·have hL1:Heap.IsTuple (Shared.heap ⟨hp,g,d,tk,os⟩) l1 xs:=hl1;have hL2:Heap.IsTuple (Shared.heap ⟨hp.push { cls:=.type "tuple_iterator",data:=.fields #[.ref l1,.int 0 0] },g,d,tk,os⟩) l2 ys:=Heap.IsTuple.at (show hp.IsTuple l2 ys from hl2) λ o e=>Y02 _ e
   wp_walk using wpAny_pyIter_tuple hL1,wpAny_pyIter_tuple hL2
   exact ⟨_,rfl,h⟩
  ·have hL1:Heap.IsTuple (Shared.heap ⟨hp,g,d,tk,os⟩) l1 xs:=hl1;have hL2:Heap.IsList (Shared.heap ⟨hp.push { cls:=.type "tuple_iterator",data:=.fields #[.ref l1,.int 0 0] },g,d,tk,os⟩) l2 ys:=Heap.IsList.push (show hp.IsList l2 ys from hl2) _
   wp_walk using wpAny_pyIter_tuple hL1,wpAny_pyIter_list hL2
   exact ⟨_,rfl,h⟩
  ·have hL1:Heap.IsList (Shared.heap ⟨hp,g,d,tk,os⟩) l1 xs:=hl1;have hL2:Heap.IsTuple (Shared.heap ⟨hp.push { cls:=.type "list_iterator",data:=.fields #[.ref l1,.int 0 0] },g,d,tk,os⟩) l2 ys:=Heap.IsTuple.at (show hp.IsTuple l2 ys from hl2) λ o e=>Y02 _ e
   wp_walk using wpAny_pyIter_list hL1,wpAny_pyIter_tuple hL2
   exact ⟨_,rfl,h⟩
  ·have hL1:Heap.IsList (Shared.heap ⟨hp,g,d,tk,os⟩) l1 xs:=hl1;have hL2:Heap.IsList (Shared.heap ⟨hp.push { cls:=.type "list_iterator",data:=.fields #[.ref l1,.int 0 0] },g,d,tk,os⟩) l2 ys:=Heap.IsList.push (show hp.IsList l2 ys from hl2) _
   wp_walk using wpAny_pyIter_list hL1,wpAny_pyIter_list hL2
   exact ⟨_,rfl,h⟩
theorem Ue {h:Heap}{i a:Addr}(b:Bool)(e:h.get? i=some { cls:=.type (itN b),data:=.fields #[.ref a,.int 0 0] }):ItR h i a 0 b:=by
 cases b with
 | true=>exact (show h.IsListIter i a 0 from ⟨_,e,rfl,rfl⟩)
 | false=>exact (show h.IsTupleIter i a 0 from ⟨_,e,rfl,rfl⟩)
section
variable {prog:Program}{w:World}{A:Around}{E:Value->Shared->Prop}{s:Shared}
theorem V7 {l1 l2:Addr}{xs ys:Array Value}{Q:Value->Shared->Prop}(b1 b2:Bool)(hl1:SqH s.heap l1 b1 xs)(hl2:SqH s.heap l2 b2 ys)
  (h:∀ h',ZTn (s.heap.objs.size+4) (s.heap.objs.size+2) (s.heap.objs.size+3) s.heap.objs.size (s.heap.objs.size+1) l1 l2 b1 b2 0 h'->(∀ c o,s.heap.get? c=some o->h'.get? c=some o)->Q (.ref (s.heap.objs.size+4)) { s with heap:=h' }) :
  wpAny (model prog w) A (call (.type "zip") [.ref l1,.ref l2]) Q E s:=by
 refine callType_new PySem.F.called_zip (by decide) (PySem.F.typeCall_zip_2 _ _) (PySem.F.newCall_zip_2 _ _) (λ obj=>PySem.F.args_object_init_3 obj _ _) PySem.F.entry_zip_new
  (Yb b1 b2 l1 l2 xs ys) ⟨hl1,hl2,?_⟩
 have z1:(Bw b1 s.heap l1).objs.size=s.heap.objs.size+1:=Y1n ..
 have z2:(Bx b1 b2 s.heap l1 l2).objs.size=s.heap.objs.size+2:=by rw [Y1n,z1]
 have z3:(By b1 b2 s.heap l1 l2).objs.size=s.heap.objs.size+3:=by rw [Y1n,z2]
 have z4:(Bz b1 b2 s.heap l1 l2).objs.size=s.heap.objs.size+4:=by rw [Y1n,z3]
 have g5:(V6 b1 b2 s.heap l1 l2).get? (Bz b1 b2 s.heap l1 l2).objs.size=some _:=Y0i _ rfl;have g4:(V6 b1 b2 s.heap l1 l2).get? (By b1 b2 s.heap l1 l2).objs.size=some _:=Y02 _ (Y0i _ rfl);have g3:(V6 b1 b2 s.heap l1 l2).get? (Bx b1 b2 s.heap l1 l2).objs.size=some _:=Y02 _ (Y02 _ (Y0i _ rfl));have g2:(V6 b1 b2 s.heap l1 l2).get? (Bw b1 s.heap l1).objs.size=some _:=Y02 _ (Y02 _ (Y02 _ (Y0i _ rfl)));have g1:(V6 b1 b2 s.heap l1 l2).get? s.heap.objs.size=some _:=Y02 _ (Y02 _ (Y02 _ (Y02 _ (Y0i _ rfl))));show _/\_;rw [z2,z3,z4] at g5;rw [z1,z2] at g3;rw [z3] at g4;rw [z1] at g2;rw [z4];exact ⟨⟨_,g5,rfl⟩,h _ ⟨g5,g3,⟨_,_,g4⟩,Ue b1 g1,Ue b2 g2⟩ λ c o x =>
  Y02 _ (Y02 _ (Y02 _ (Y02 _ (Y02 _ x))))⟩
end
section
variable {X:Cx}
theorem Gv:bootBuiltins "zip"=some (.type "zip"):=by decide +kernel
def z7u (K:Y00)(ta:TA):TI:=λ σ H R=>ta σ H λ vs H1=>∃ l1 l2 b1 b2 xs ys,vs=[.ref l1,.ref l2]/\SqB K H1 l1 b1 xs/\SqB K H1 l2 b2 ys/\R (Itz K l1 l2 b1 b2 xs.length ys.length) H1
theorem Inv.seqH {pins:List (Addr×Obj)}{σ:St}{H:Hp}{s:Shared}{a:Addr}{b:Bool}{xs:List V}(I:Inv X pins σ H s)(h:SqB X.K H a b xs):∃ its:Array Value,SqH s.heap a b its/\a<s.heap.objs.size:=by
 cases b with
 | true =>
  obtain ⟨its,r,pl,_⟩:=I.list (show SqL X.K H a xs from h);obtain ⟨o,e,_⟩:=id pl.isList;exact ⟨_,pl.isList,Y0h e⟩
 | false =>
  obtain ⟨its,r,pl,_⟩:=I.tuple (show SqT X.K H a xs from h);obtain ⟨o,e,_⟩:=id pl;exact ⟨_,pl,Y0h e⟩
end
section
variable {X:Cx}{Z:ZK}{tg iter:Expr}{body:List Stmt}{wi:TI}{g:TG}{tb:TS}{pos:Pos}
theorem JD (ok:XOk X):PassesOwn (model X.prog X.w) X.A X.env (XE X Z):=by
 rintro e s' ⟨a,C,T,σ',H',rfl,I,F,z⟩
 refine I.note ok F I.ok.frames rfl λ h1 t I1 F1=>?_;exact I1.cameBack F1 λ h2 I2 F2=>⟨a,C,some t,σ',H',rfl,I2,F2,z⟩
theorem Thr.wished (th:Thr X Z):Thr (X.wish (XE X Z)) Z:=by
 refine ⟨⟨th.top,th.ex⟩,?_⟩
 rintro e s' ⟨a,C,T,σ',H',rfl,I,F,z⟩
 exact ⟨a,C,T,σ',H',rfl,I.unwish,⟨F.fl,F.ow⟩,z⟩
theorem BA (th:Thr X Z)(hc:X.calm=true)(hi:PI (X.wish (XE X Z)) tg iter wi)(hg:PG (X.wish (XE X Z)) tg g)(hb:PSs (X.wish (XE X Z)) body tb)
  (hs:∀ x,foldedSetIterable iter X.env x=pure x:=by intro _;rfl):PS X (.For tg iter body [] pos) (z2i wi g tb):=by
 intro pins s σ H D I h;refine wpAny_mono (z2j (X:=X.wish (XE X Z)) (JD th.toXOk) hc hi hg hb hs pins s σ H D (I.wish _) h) (λ f s' q=>q.unwish) λ e s' x=>th.thr e s' x
end
section
variable {X:Cx}{scope:Scope}{NC:List Str}{cap:List (Option Nat)}{elt tg iter:Expr}{ifs:List Expr}{pos pos' spos:Pos}{Z:ZK}{wi:TI}{g:TG}{tf:ZK->TT}{te:ZK->TE}{i:Nat}{x:Str}
theorem BB (hc:X.calm=true)(th:Thr X Z)(hi:PI X tg iter wi)(cok:j9 X.env.scope scope X.N NC cap=true)
  (hg:∀ C s H fp pn xe,PG (zo X NC scope C s H fp pn xe) tg g)
  (hf:∀ C s H fp pn xe Zc,Thr (zo X NC scope C s H fp pn xe) Zc->PF (zo X NC scope C s H fp pn xe) ifs (tf Zc))
  (hb:∀ C s H fp pn xe Zc,Thr (zo X NC scope C s H fp pn xe) Zc->PE (zo X NC scope C s H fp pn xe) elt (te Zc))
  (hs:∀ x,foldedSetIterable iter X.env x=pure x) (hN:X.N.Nodup) (hx:X.N[i]?=some x) (hlo:X.env.scope.names.lookup x=some .local)
  (hsw:swapsWith (.ListComp elt [⟨tg,iter,ifs,0⟩] scope pos) (some (.Name x pos')) spos.line X.env=pure true) :
  PS X (.Assign [.Name x pos'] (.ListComp elt [⟨tg,iter,ifs,0⟩] scope pos) spos) (B9 (Gk Z cap wi g tf te) (WS i)):=by
 intro pins s σ H D I h;obtain ⟨c1,c2,c3,c4,c5,c6,c7⟩:=zX cok;rw [exec_Assign_Name_used _ _ _ _ hsw];refine wpAny_bind (wpAny_standAt (wpAny_bind ?_));show wpAny _ X.A (do let _ <- comprehension (.ListComp elt [⟨tg,iter,ifs,0⟩] scope pos) scope X.env _ (newList []) false (eval iter X.env) (some (assign (.Name x pos') X.env))) _ _ s;refine wpAny_bind (wpAny_mono (wpAny_comprehension_free (use:=some (assign (.Name x pos') X.env)) (Q:=λ _ s'=>SP X pins D .next s') rfl hs (Zi λ y hy e=>I.ok.has y.1 (.inl (c4 y hy e))) c1 c3
  (thn (hi pins s σ H _ I h) λ xv s₁ h₁=>thn h₁ λ itv s₂ h₂=>?_)) (λ _ s' hq=>wpAny_pure (wpAny_pure hq)) λ _ _ e=>e)
 obtain ⟨it,fp,tn,J,H2,rfl,I2,T,st2,f2,W,⟨m0,w0⟩,turn⟩:=h₂;refine JA hc th I2 T st2 f2 cok (λ C pn xe=>hg C s₂ H2 fp pn xe) (λ C pn xe t=>hf C s₂ H2 fp pn xe _ t) (λ C pn xe t=>hb C s₂ H2 fp pn xe _ t) W m0 w0 turn ?_
 rintro C D' s' H' ys us n ⟨hlen,q⟩ rv e hn hnC rfl rfl ⟨m,ns⟩ lv
 have I':Inv X pins σ H' s':=lv s'.heap (Heap.SameBut.refl _ _);have I3:Inv X pins σ (upd H' s₂.heap.objs.size (.lst ys)) s':=I'.track (o:=.lst ys) hn (Y1z I2.sz) (Y24 I2.lt) (λ y c ec z=>by
  obtain ⟨v,q⟩:=I2.cell y c ec;exact absurd q.lt (by rw [z];exact Y1c _)) (λ p hp z=>absurd (Y0h (I2.pin p hp).1) (by rw [z];exact Y1c _)) ⟨hlen,us,n,rv,e⟩
 have fC:yg X pins (upd H' s₂.heap.objs.size (.lst ys)) (s₂.heap.objs.size+1):=I2.fpOk (Nat.le_succ _) (by rw [zq (Nat.succ_ne_self _)];exact hnC);show wpAny _ X.A (assign (.Name x pos') X.env (.ref s₂.heap.objs.size)) _ _ _;refine wpAny_assign_Name (Jo I3 hN hx (.inl hlo) (v:=.ref s₂.heap.objs.size) rfl (λ s'' I4 ⟨a,sb,ha⟩=>?_) (.inr hlo));have nC:s₂.heap.objs.size+1≠a:=by
  rcases ha with rfl | ha
  ·exact fC.2.1
  ·exact λ z=>fC.2.2.2.2.1 x a ha z.symm
 refine ⟨m,ns.sameBut sb nC,λ h' sb'=>⟨_,_,I4.turned (t':=s''.toks) (λ b o hb e=>(sb'.2 b hb).trans e) fC.1 fC.2.1 fC.2.2.2.1 fC.2.2.2.2.1 fC.2.2.2.2.2,q _ hn⟩⟩
end
theorem V8:typeLookup (.type "list_reverseiterator") "__len__"=pure none:=by rw [typeLookup_type,builtinLookup_eq_fast];kernel_rfl
theorem Gw:typeLookup (.type "list_reverseiterator") "__length_hint__"=pure (some (.builtin "list_reverseiterator.__length_hint__")):=by rw [typeLookup_type,builtinLookup_eq_fast];kernel_rfl
section
variable {prog:Program}{w:World}{A:Around}{s:Shared}{R:Result->Shared->Prop}
variable {I:Addr}{fp wr:List Addr}{G:Array GenState->Array GenState->Prop}{n:Nat}{P:Nat->Value->Prop}{St:Nat->Shared->Prop}
theorem BC (W:WalksS prog w A.in1 I fp wr G n P St) (hT:∀ i s,St i s->s.TypeIs (.ref I) "list_reverseiterator") (S:Addr) (res:Value) (c₀:Nat) (hst:St 0 s) (hSf:S∉fp) (hI:I∈fp)
  (hS:s.heap.get? S=some { cls:=.type "list",data:=.seq #[] c₀ }) (hn:n<=sizeLine)
  (hR:∀ s' acc' c',Moved (S::wr) G s s'->s'.heap.get? S=some { cls:=.type "list",dict:=none,data:=.seq acc' c',slots:=#[] }->ItemsOf P acc' n->R (.ok (.ret res)) s') :
  wpAny (model prog w) A.in1 (Builtin.List.listExtendWith (.ref S) (.ref I) res)
   (λ fin s'=>match fin with | .done f=>R (.ok f) s' | .again c'=>c'.quiet=true/\codeAny (model prog w) A c' R s') (λ e s'=>R (.error e) s') s:=by
 have hSI:S≠I:=λ e=>hSf (e▸hI);have h1:Builtin.List.listSameRef (.ref S) (.ref I)=false:=by simp [Builtin.List.listSameRef,hSI]
 unfold Builtin.List.listExtendWith;refine wpAny_bind (wpAny_typeOf (hT 0 _ hst) ?_);rw [if_neg (by rw [h1];decide)];refine wpAny_bind (W.self 0 _ _ _ hst ?_);refine wpAny_bind (wpAny_holding ?_);unfold Builtin.List.listLengthHint;refine wpAny_bind (wpAny_specialOf (hT 0 _ hst) V8 ?_);show wpAny _ A.in1 (specialOf (Value.ref I) (Str.ofString "__length_hint__") >>= _) _ _ _;refine wpAny_bind (wpAny_specialOf (hT 0 _ hst) Gw ?_);generalize hid:("list_reverseiterator.__length_hint__":String)=id0
 wp_delta
 rw [show splitId id0=some ("list_reverseiterator","__length_hint__") from by subst hid;decide +kernel];subst hid;refine wpAny_bind (wpAny_isInstance (b:=true) (hT 0 _ hst) (by rw [isSubtype_type];kernel_rfl) ?_);refine wpAny_pure ?_;rw [if_neg (by decide)];exact wpAny_pure ⟨plainId_quiet F.plain_extend_loop _,codeAny_extend_loopS W hn _ hSf _ n 0 _ _ _ rfl (Y1u _) hst hS (ItemsOf.nil P) λ s' acc' c' hm hS' hacc=>hR s' acc' c' hm hS' hacc⟩
theorem Gx (W:WalksS prog w A.in1 I fp wr G n P St) (hT:∀ i s,St i s->s.TypeIs (.ref I) "list_reverseiterator") (S:Addr) (hst:St 0 s) (hSf:S∉fp) (hI:I∈fp)
  (hS:s.heap.get? S=some { cls:=.type "list",data:=.seq #[] }) (hn:n<=sizeLine)
  (hR:∀ s' acc' c',Moved (S::wr) G s s'->s'.heap.get? S=some { cls:=.type "list",dict:=none,data:=.seq acc' c',slots:=#[] }->ItemsOf P acc' n->R (.ok (.ret .none)) s') :
  wpAny (model prog w) A.in1 (Builtin.«list.__init__» ⟨[.ref S,.ref I],[]⟩)
   (λ fin s'=>match fin with | .done f=>R (.ok f) s' | .again c'=>c'.quiet=true/\codeAny (model prog w) A c' R s') (λ e s'=>R (.error e) s') s:=by
 show wpAny _ A.in1 (do let old <- Builtin.List.listItems (.ref S);Builtin.List.listUpdate (.ref S) (λ _=>#[]);letGo old.toList.reverse;Builtin.List.listExtendWith (.ref S) (.ref I) .none) _ _ s;refine wpAny_bind ?_;unfold Builtin.List.listItems;refine wpAny_bind (wpAny_seqItems hS rfl (wpAny_pure ?_));show wpAny _ A.in1 (updateSeq S (λ _=>#[]) >>= λ _=>letGo (#[]:Array Value).toList.reverse >>= λ _=>Builtin.List.listExtendWith (.ref S) (.ref I) .none) _ _ s;refine wpAny_bind (wpAny_updateSeq hS rfl ?_);have hS2:=Y2b (Obj.mapSeq (λ _=>(#[]:Array Value))) hS rfl;have oth:∀ b o,b≠S->s.heap.get? b=some o->(s.heap.update S (Obj.mapSeq (λ _=>(#[]:Array Value)))).get? b=some o:=λ b o hb e=>(Y1y _ _ (Ne.symm hb)).trans e;refine wpAny_bind (wpAny_letGo ?_);refine BC W hT S .none _ (W.frame 0 s _ s.toks hst (Y09 _) λ b hb o e=>oth b o (λ h=>hSf (h▸hb)) e) hSf hI hS2 hn λ s' acc' c' hm hS' hacc=>?_;exact hR s' acc' c' (Moved.trans W.gtrans ((Moved.refl W.grefl).then_heap (Y09 _) λ b o hb e=>oth b o (λ h=>hb (h▸Y08)) e) hm) hS' hacc
end
section
variable {prog:Program}{w:World}{A:Around}{E:Value->Shared->Prop}{s:Shared}
theorem Gy {I l:Addr}{items:Array Value}{Q:Value->Shared->Prop}(hh:A.handled=none)(hne:l≠I)(hI:I<s.heap.objs.size)(hit:s.heap.IsRevIter I l ((items.size:Int)-1))(hl:s.heap.IsList l items)(hn:items.size<=sizeLine)
  (hQ:∀ s' acc c,(∀ b o,b≠I->s.heap.get? b=some o->s'.heap.get? b=some o)->s'.gens=s.gens->s'.drawn=s.drawn->s'.os=s.os->s.toks<=s'.toks ->
   s'.heap.get? s.heap.objs.size=some { cls:=.type "list",data:=.seq acc c }->acc.toList=items.toList.reverse->Q (.ref s.heap.objs.size) s') :
  wpAny (model prog w) A (call (.type "list") [.ref I]) Q E s:=by
 have hll:l<s.heap.objs.size:=by obtain ⟨_,e,_⟩:=hl;exact Y0h e
 have W:=(Walks.listRev (prog:=prog) (w:=w) (A:=A.in1.in1) hh I l hne items).toS;have hfp:∀ b∈[I,l],b<s.heap.objs.size:=λ b hb=>by simp at hb;rcases hb with rfl | rfl<;>assumption
 have hSf:s.heap.objs.size∉[I,l]:=λ hm=>Y1c _ (hfp _ hm);refine callType_codes (Q₁:=λ obj s₁=>obj=.ref s.heap.objs.size/\s₁={ s with heap:=s.heap.push { cls:=.type "list",data:=.seq #[] } }) F.called_list (F.typeCall_list_1 _) F.entry_list_init (code_list_new _ ⟨rfl,rfl⟩) λ obj s₁ h₁=>?_;obtain ⟨rfl,rfl⟩:=h₁;have hS:(s.heap.push { cls:=.type "list",data:=.seq #[] }).get? s.heap.objs.size=some { cls:=.type "list",data:=.seq #[] }:=Y0i _ rfl;have st0:0<=items.size/\s.heap.IsRevIter I l ((items.size:Int)-1-((0:Nat):Int))/\s.heap.IsList l items:=⟨Y1u _,by simpa using hit,hl⟩;refine ⟨⟨_,hS,rfl⟩,F.args_list_init_2 _ _,Gx W (λ i s x=>x.2.1.typeIs) _ (W.frame 0 s _ s.toks st0 (Y09 _) λ b _ o e=>Y02 _ e) hSf (by simp) hS hn λ s' acc' c' hm hS' hacc=>?_⟩;refine ⟨rfl,hQ s' acc' c' (λ b o hb e=>hm.heap b o ?_ (Y02 _ e)) hm.gens hm.drawn hm.os hm.toks hS' ?_⟩
 ·have:=Y0h e
  simp;exact ⟨Y0r this,hb⟩
 ·obtain ⟨a1,a2⟩:=hacc;apply Y3f;intro i;rw [Y32];by_cases hi:i<acc'.size
  ·have e:=a2 i _ (Y2m hi);rw [Y2m hi,List.getElem?_reverse (by rw [Y16];omega),Y16,Y32,e]
  ·rw [Array.getElem?_eq_none (by omega),Y2a (by rw [Y1v,Y16];omega)]
variable {X:Cx}
def rLR (K:Y00):List V->Hp->VK->Prop:=λ xs H Q=>∃ p ys,xs=[.ref p]/\SqL K H p ys/\∀ l,H l=none->Q (.ref l) (upd H l (.lst ys.reverse))
theorem Vals.rev:∀ {xs:List V}{us:List Value},Vals xs us->Vals xs.reverse us.reverse
 | _,_,.nil=>.nil
 | _,_,.cons r t=>by rw [Y1t,Y1t];exact (Vals.rev t).append (.cons r .nil)
theorem Yc {a:Expr}{ta:TA}{p p' pos pos':Pos} (hc:X.calm=true) (hg:Gl X "reversed") (hm:X.mg "reversed"=none) (hg2:Gl X "list") (hm2:X.mg "list"=none) (ha:PA X [a] ta) (hs:starEach [a] X.env=[(false,eval a X.env)]) :
  PE X (.Call (.Name "list" p) [.Call (.Name "reversed" p') [a] [] pos'] [] pos) (λ σ H Q=>ta σ H λ vs H1=>rLR X.K vs H1 Q):=by
 intro pins s σ H Q I h;refine wpAny_Call_Name_kw (wD I hg2 hm2 boot_list ?_ (by decide) (by decide));refine Y1d ?_ rfl rfl;show wpAny _ _ (spliced ((false,eval (.Call (.Name "reversed" p') [a] [] pos') X.env)::[])) _ _ s;refine Calls.spliced_cons (Call_ (wD I hg hm boot_reversed (Y1d (thn (ha pos' pins s σ H _ I h) λ us s1 ⟨vs,H1,I1,r1,q1⟩=>?_) hs rfl) (by decide) (by decide)));obtain ⟨b,xs,e,hq,q⟩:=q1;subst e;cases r1 with
 | cons r rr =>
  cases rr;cases r;obtain ⟨its,rv,pl,hz⟩:=I1.list hq;have hl:=rv.length;have hb:b<s1.heap.objs.size:=by obtain ⟨_,e,_⟩:=pl.isList;exact Y0h e
  refine call_reversed_list pl.isList ?_;refine wpAny_pure ?_;refine Gy (s:={ s1 with heap:=s1.heap.push (revObj b ((its.toArray.size:Int)-1)) }) (items:=its.toArray) (I1.ok.hd hc) (Y0r hb) (by simp) ⟨_,Y0i _ rfl,rfl,rfl⟩ (pl.isList.push _) (by simp only [Y0d];omega) λ s' acc c k1 k2 k3 k4 k5 k6 k7=>?_;obtain ⟨hp',g',d',tk',os'⟩:=s';simp only at k2 k3 k4;subst k2 k3 k4;have kp:∀ b' o,s1.heap.get? b'=some o->hp'.get? b'=some o:=λ b' o e=>k1 b' o (Y0r (Y0h e)) (Y02 _ e);have sz:s1.heap.objs.size<=(s1.heap.push (revObj b ((its.toArray.size:Int)-1))).objs.size:=by simp
  refine ⟨.ref _,_,I1.laid (t':=tk') kp sz (show ObjOk X.prog X.w _ hp' _ (.lst xs.reverse) from ⟨by rw [Y1v];exact hz,its.reverse,c,rv.rev,?_⟩),rfl,q _ (I1.hok.fresh sz)⟩;have ea:acc=its.reverse.toArray:=by
   have:=congrArg List.toArray k7
   simpa using this
  rw [<- ea];exact k6
end
def IsRvt (h:Heap)(a l:Addr)(i:Int):Prop:=∃ o,h.get? a=some o/\o.cls=.type "reversed"/\o.data=.fields #[.ref l,rawInt i]
theorem IsRvt.typeIs {s:Shared}{a l:Addr}{i:Int}(x:IsRvt s.heap a l i):s.TypeIs (.ref a) "reversed":=let ⟨o,ho,hc,_⟩:=x;⟨o,ho,hc⟩
theorem IsRvt.at {h h':Heap}{a l:Addr}{i:Int}(x:IsRvt h a l i)(e:∀ o,h.get? a=some o->h'.get? a=some o):IsRvt h' a l i:=let ⟨o,ho,r⟩:=x;⟨o,e _ ho,r⟩
open HT in
theorem BD {prog:Program}{w:World}{A:Around}{E:Value->Shared->Prop}{s:Shared}{t sl:Addr}{items:Array Value}{vl vu:Value}{lo hi:Option Int}{Q:Value->Shared->Prop}(ht:IsTup s.heap t items)(hs:s.heap.IsSliceOf sl vl vu .none)(pl:IsPart vl lo)(pu:IsPart vu hi)
  (h1:sIx items.size 0 lo=0) (h2:sIx items.size items.size hi=items.size) (h:Q (.ref t) s):wpAny (model prog w) A (getItem (.ref t) (.ref sl)) Q E s:=by
 obtain ⟨os,hos,hcs,hds⟩:=id hs;have hTs:s.TypeIs (.ref sl) "slice":=⟨os,hos,hcs⟩;unfold getItem
 try with_reducible refine wpAny_holding ?_
 first | refine wpAny_bind (wpAny_pure ?_) | skip
 refine wpAny_bind (wpAny_sequenceKey ht.typeIs (by decide) ?_);refine wpAny_bind (wpAny_callSpecial?_slot (name:=Str.ofString "__getitem__") ht.typeIs Y19 (wpAny_call_entry Y19 ht.typeIs entry_tuple_getitem ?_ (args_tuple_getitem _ _)));show wpAny _ _ (Builtin.Tuple.tupleItemsOf (.ref t) >>= _) _ _ s;refine wpAny_bind (tupleItemsOf_ ht ?_);refine wpAny_bind (wpAny_typeOf hTs ?_);rw [if_pos (by decide)];refine wpAny_bind (jR hs pl pu ?_);have hy:(((sIx items.size 0 lo:Nat):Int)==0&&(1:Int)==1&&(sIx items.size items.size hi-sIx items.size 0 lo)==items.size)=true:=by rw [h1,h2];simp
 show wpAny _ _ (if (((sIx items.size 0 lo:Nat):Int)==0&&(1:Int)==1&&(sIx items.size items.size hi-sIx items.size 0 lo)==items.size)=true then _ else _) _ _ s;rw [if_pos hy];refine wpAny_bind ?_;unfold Builtin.Tuple.tupleIsExact;refine wpAny_bind (wpAny_typeOf ht.typeIs (wpAny_pure ?_));rw [if_pos (by decide)];refine wpAny_bind (wpAny_rule ?_);exact wpAny_pure ⟨_,rfl,wpAny_pure h⟩
def z7v (K:Y00):V->Option Int->Option Int->Hp->VK->Prop:=λ x lo hi H Q=>∃ a xs,x=.ref a/\SqT K H a xs/\HT.sIx xs.length 0 lo=0/\HT.sIx xs.length xs.length hi=xs.length/\Q (.ref a) H
theorem BE {X:Cx}:SlR X (z7v X.K):=by
 intro pins s σ H x v vl vu lo hi sl Q I rx hs pl pu h;obtain ⟨a,xs,rfl,hx,w1,w2,q⟩:=h;cases rx;obtain ⟨its,r,ht,hz⟩:=I.tuple hx;have hlen:its.toArray.size=xs.length:=by rw [Y0d];exact r.length.symm
 exact ⟨"tuple",_,PyProof.Rows.slot_tuple_getitem.lookup,ht.typeIs,BD ht hs pl pu (by rw [hlen];exact w1) (by rw [hlen];exact w2) ⟨.ref a,H,I,rfl,q⟩⟩
section
variable {prog:Program}{w:World}{A:Around}{E:Value->Shared->Prop}{s:Shared}
open HT in
theorem yl {sl:Addr}{t:Tok}{n:Nat}{Q:Int×Int×Nat->Shared->Prop}(hs:s.heap.IsSliceOf sl .none .none (.int (-1) t))(h:Q ((n:Int)-1,-1,n) s):wpAny (model prog w) A (Builtin.Slice.sliceApplied (.ref sl) (pure (n:Int))) Q E s:=by
 obtain ⟨os,hos,hcs,hds⟩:=id hs;unfold Builtin.Slice.sliceApplied Builtin.Slice.sliceFields;refine wpAny_bind (wpAny_bind (wpAny_field hos hds (x:=.none) rfl (wpAny_bind (wpAny_field hos hds (x:=.none) rfl (wpAny_bind (wpAny_field hos hds (x:=.int (-1) t) rfl (wpAny_pure ?_)))))));refine wpAny_bind (slicePart_int ?_);show wpAny _ _ (if ((-1:Int)==0)=true then _ else _) _ _ s;rw [if_neg (by decide)];refine wpAny_bind (slicePart_none (wpAny_bind (slicePart_none (wpAny_bind (wpAny_pure ?_)))));show wpAny _ _ (pure ((n:Int)-1,(-1:Int),Builtin.Slice.slicePlaces ((n:Int)-1) (-1) (-1))) _ _ s;have e:Builtin.Slice.slicePlaces ((n:Int)-1) (-1) (-1)=n:=by
  unfold Builtin.Slice.slicePlaces;rw [if_neg (by decide)]
  split
  ·have:((n:Int)-1 - -1-1)/(- -1)=(n:Int)-1:=by
    rw [show (- -1:Int)=1 by decide,Int.ediv_one];omega
   rw [this];omega
  ·omega
 rw [e];exact wpAny_pure h
theorem Zn {α β:Type}{f g:α->Option β}:∀ (l:List α),(∀ x∈l,f x=g x)->l.filterMap f=l.filterMap g
 | [],_=>rfl
 | x::r,h=>by rw [Y1q,Y1q,h x (Y08 ..),Zn r λ y hy=>h y (Y06 _ hy)]
theorem Q1 (xs:Array Value):((List.range xs.size).filterMap λ (m:Nat)=>xs[(((xs.size:Nat):Int)-1+(m:Int)*(-1)).toNat]?).toArray=xs.toList.reverse.toArray:=by
 congr 1
 have e:∀ m∈List.range xs.size,xs[(((xs.size:Nat):Int)-1+(m:Int)*(-1)).toNat]?=some (xs.toList.reverse.getD m .none):=by
  intro m hm;have hm':=Y1w.mp hm
  have:(((xs.size:Nat):Int)-1+(m:Int)*(-1)).toNat=xs.size-1-m:=by omega
  rw [this,Y12,List.getElem?_reverse (by rw [Y16];exact hm'),Y16];have hlt:xs.size-1-m<xs.size:=by omega
  rw [Y2m hlt,Y0m (by rw [Y16];exact hlt)];simp
 have e2:(List.range xs.size).filterMap (λ (m:Nat)=>xs[(((xs.size:Nat):Int)-1+(m:Int)*(-1)).toNat]?)=(List.range xs.size).map λ m=>xs.toList.reverse.getD m .none:=by
  rw [<- List.filterMap_eq_map];apply Zn;intro m hm;rw [e m hm];rfl
 rw [e2];apply Y3f;intro i;rw [Y13];by_cases hi:i<xs.size
 ·rw [List.getElem?_range hi]
  have:i<xs.toList.reverse.length:=by rw [Y1v,Y16];exact hi
  rw [Y0m this];simp [Y12,hi]
 ·rw [Y2a (by simp;omega),Y2a (by simp;omega)];rfl
open HT in
theorem qO {t sl:Addr}{items:Array Value}{tk:Tok}{Q:Value->Shared->Prop}(ht:IsTup s.heap t items)(hs:s.heap.IsSliceOf sl .none .none (.int (-1) tk))
  (h:Q (.ref s.heap.objs.size) { s with heap:=s.heap.push { cls:=.type "tuple",data:=.seq items.toList.reverse.toArray } }) (hsz:items.size<=sizeLine):wpAny (model prog w) A (getItem (.ref t) (.ref sl)) Q E s:=by
 have htake:sizeOk (.seq items.toList.reverse.toArray):=by
  show items.toList.reverse.toArray.size<=sizeLine;rw [Y0d,Y1v,Y16];exact hsz
 obtain ⟨os,hos,hcs,hds⟩:=id hs;have hTs:s.TypeIs (.ref sl) "slice":=⟨os,hos,hcs⟩;unfold getItem
 try with_reducible refine wpAny_holding ?_
 first | refine wpAny_bind (wpAny_pure ?_) | skip
 refine wpAny_bind (wpAny_sequenceKey ht.typeIs (by decide) ?_);refine wpAny_bind (wpAny_callSpecial?_slot (name:=Str.ofString "__getitem__") ht.typeIs Y19
  (wpAny_call_entry Y19 ht.typeIs entry_tuple_getitem ?_ (args_tuple_getitem _ _)))
 show wpAny _ _ (Builtin.Tuple.tupleItemsOf (.ref t) >>= _) _ _ s;refine wpAny_bind (tupleItemsOf_ ht ?_);refine wpAny_bind (wpAny_typeOf hTs ?_);rw [if_pos (by decide)];refine wpAny_bind (yl hs ?_);have hno:¬ ((((items.size:Nat):Int)-1==0&&(-1:Int)==1&&items.size==items.size)=true):=by
  intro q;rw [Y0g,Y0g] at q;exact absurd q.1.2 (by decide)
 show wpAny _ _ (if (((items.size:Nat):Int)-1==0&&(-1:Int)==1&&items.size==items.size)=true then _ else _) _ _ s;rw [if_neg hno,Q1]
 first
  | exact wpAny_bind (m:=Builtin.Tuple.tupleExact _) (wpAny_newObj_type (wpAny_pure ⟨_,rfl,wpAny_pure h⟩) htake)
  | exact wpAny_bind (m:=Builtin.Tuple.tupleExact _) (wpAny_newObj_type (wpAny_bind (wpAny_pure (wpAny_pure ⟨_,rfl,wpAny_pure h⟩))) htake)
  | exact wpAny_bind (wpAny_bind (m:=Builtin.Tuple.tupleExact _) (wpAny_newObj_type (wpAny_pure (wpAny_pure ⟨_,rfl,wpAny_pure h⟩)) htake))
  | exact wpAny_bind (wpAny_bind (m:=Builtin.Tuple.tupleExact _) (wpAny_newObj_type (wpAny_pure ⟨_,rfl,wpAny_pure h⟩) htake))
end
section
variable {X:Cx}
def z7w:V->Option Int->Option Int->Hp->VK->Prop:=λ x lo hi H Q=>∃ z,x=.str z/\z.length<=sizeLine/\Q (.str (Txt.slice z lo hi)) H
theorem z3a:SlR X z7w:=by
 intro pins s σ H x v vl vu lo hi sl Q I rx hs pl pu h;obtain ⟨z,rfl,hz,q⟩:=h;obtain ⟨t,rfl⟩:=rx;obtain ⟨os,hos,hcs,hds⟩:=hs;refine ⟨"str",_,F.slot_str_getitem.lookup,typeIs_str _ _ _,?_⟩;cases pl with
 | none =>
  cases pu with
  | none=>exact wpAny_getItem_str_slice (l:=none) (u:=none) (st:=none) ⟨os,hos,hcs,hds⟩ rfl (post_val_or_str ⟨Y0t (Txt.slice_le z _ _) hz,λ t' k=>⟨.str _,H,I.tok k,⟨t',rfl⟩,q⟩⟩)
  | int j uj=>exact wpAny_getItem_str_slice (l:=none) (u:=some (j,uj)) (st:=none) ⟨os,hos,hcs,hds⟩ rfl (post_val_or_str ⟨Y0t (Txt.slice_le z _ _) hz,λ t' k=>⟨.str _,H,I.tok k,⟨t',rfl⟩,q⟩⟩)
 | int i ui =>
  cases pu with
  | none=>exact wpAny_getItem_str_slice (l:=some (i,ui)) (u:=none) (st:=none) ⟨os,hos,hcs,hds⟩ rfl (post_val_or_str ⟨Y0t (Txt.slice_le z _ _) hz,λ t' k=>⟨.str _,H,I.tok k,⟨t',rfl⟩,q⟩⟩)
  | int j uj=>exact wpAny_getItem_str_slice (l:=some (i,ui)) (u:=some (j,uj)) (st:=none) ⟨os,hos,hcs,hds⟩ rfl (post_val_or_str ⟨Y0t (Txt.slice_le z _ _) hz,λ t' k=>⟨.str _,H,I.tok k,⟨t',rfl⟩,q⟩⟩)
end
def Zo:V->Bool
 | .non=>true
 | _=>false
def z3b (K:Y00):R2:=λ x y H Q=>∃ p xs,x=.non/\y=.ref p/\(SqL K H p xs\/SqT K H p xs)/\(∀ v∈xs,ju v=true\/∃ a ts,v=.ref a/\SqT K H a ts)/\Q (.bl (xs.any Zo)) H
section
variable {X:Cx}
theorem z3c {v:V}{u:Value}{H:Hp}{K:Y00}(r:RelV v u)(f:ju v=true\/∃ a ts,v=.ref a/\SqT K H a ts):eqU .non u=Zo v:=by
 rcases f with f | ⟨a,ts,rfl,_⟩
 ·rw [W7 r f];cases v<;>first | rfl | exact absurd (show false=true from f) Y0s
 ·cases r;rfl
theorem We {H:Hp}{K:Y00}:∀ {xs:List V}{us:List Value},Vals xs us->(∀ v∈xs,ju v=true\/∃ a ts,v=.ref a/\SqT K H a ts)->us.any (eqU .non)=xs.any Zo
 | _,_,.nil,_=>rfl
 | y::xs,u::us,.cons r t,f=>by
  rw [Y1m,Y1m,z3c r (f y (Y08 ..)),We t λ v hv=>f v (Y06 _ hv)]
theorem Wf {pins:List (Addr×Obj)}{σ:St}{H:Hp}{s:Shared}{A:Around}(I:Inv X pins σ H s)(hu:A.units<cLine):∀ {xs:List V}{us:List Value},Vals xs us->(∀ v∈xs,ju v=true\/∃ a ts,v=.ref a/\SqT X.K H a ts)->∀ u∈us,SeqAt.EqAt A s u .none (eqU .non u)
 | _,_,.nil,_=>λ u hu=>by cases hu
 | y::xs,u::us,.cons r t,f=>λ u' hu'=>by
  rcases Y0b.mp hu' with rfl | hu'
  ·rcases f y (Y08 ..) with fy | ⟨a,ts,rfl,sq⟩
   ·rw [W7 r fy];exact Ga r (show RelV .non .none from rfl) fy rfl
   ·cases r;obtain ⟨its,_,pl,_⟩:=I.tuple sq;exact SeqAt.EqAt.tuple_none pl hu
  ·exact Wf I hu t (λ v hv=>f v (Y06 _ hv)) u' hu'
theorem Yd (hu:X.A.in1.units<cLine):OpR X (compareOp .In) (z3b X.K):=by
 intro pins s σ H x y v u Q I rx ry h;obtain ⟨p,xs,rfl,rfl,hq,fs,q⟩:=h;cases rx;cases ry;rcases hq with hq | hq
 ·obtain ⟨its,r,pl,hz⟩:=I.list hq;refine SeqAt.in_listAt (eqU .non) pl.isList (λ w hw=>Wf I hu r fs w (by simpa using hw)) ⟨.bl _,H,I,rfl,?_⟩;rw [show its.toArray.any (eqU .non)=its.any (eqU .non) by simp,We r fs];exact q
 ·obtain ⟨its,r,pl,hz⟩:=I.tuple hq;refine SeqAt.in_tupleAt (eqU .non) pl (λ w hw=>Wf I hu r fs w (by simpa using hw)) ⟨.bl _,H,I,rfl,?_⟩;rw [show its.toArray.any (eqU .non)=its.any (eqU .non) by simp,We r fs];exact q
end
end L2
namespace L2
open PySem PySem.W PySem.Spec PyProof.Rows PySem.Calls PySem.Builtin PySem.Builtin.ObjectAttr PySem.Builtin.Getset_descriptor
structure ExC (K:Y00)(C:Addr):Prop where
 ga:findIn K (.ref C) "__getattribute__"=some (some (.builtin "BaseException.__getattribute__"))
 ng:findIn K (.ref C) "__getattr__"=some none
 cl:findIn K (.ref C) "__class__"=some (some (.builtin "object.__class__"))
 bx:mroIn K C (.type "BaseException")=some true
 ob:mroIn K C (.type "object")=some true
 is:(clsIn K C).isSome=true
end L2
namespace L2
open PySem PySem.Spec PyProof.Rows
abbrev jG (h:Heap)(z TI TO:Addr)(f0:Value)(f1:Bool):Prop :=
 h.get? z=some { cls:=.type "zip",dict:=none,data:=.fields #[f0,.bool f1,.bool false,.ref TI,.ref TO],slots:=#[] }
def okF (f0:Value):Prop:=f0=.none\/∃ a t,f0=.int a t
section
variable {prog:Program}{w:World}{A:Around}{E:Value->Shared->Prop}{s:Shared}
theorem Q2 {z TI TO:Addr}{f0:Value}{f1:Bool}{Q:Bool->Shared->Prop}(hz:jG s.heap z TI TO f0 f1)(ok:okF f0)(hT:Q true s)(hF:∀ h',jG h' z TI TO f0 true->Heap.SameBut z s.heap h'->Q false { s with heap:=h' }) :
  wpAny (model prog w) A (Builtin.SmallTypes.ownedTupleIsFree (.ref z)) Q E s:=by
 unfold Builtin.SmallTypes.ownedTupleIsFree;refine wpAny_bind (wpAny_field hz rfl (x:=f0) rfl ?_);rcases ok with rfl | ⟨a,t,rfl⟩
 ·exact wpAny_pure hT
 ·show wpAny _ _ (loadIfAlive a.toNat >>= _) _ _ _;refine wpAny_bind ?_;cases e:s.heap.get? a.toNat with
  | none =>
   have al:∀ {Q:Option Obj->Shared->Prop},Q none s->wpAny (model prog w) A (loadIfAlive a.toNat) Q E s:=λ {Q} h=>by
    have h':Q (s.heap.get? a.toNat) s:=by rw [e];exact h
    exact λ _ _ _=>h'
   exact al (wpAny_pure hT)
  | some o =>
   refine PySem.W.kdx_alive e ?_;show wpAny _ _ (field (.ref z) 1 >>= _) _ _ _;refine wpAny_bind (wpAny_field hz rfl (x:=.bool f1) rfl ?_);cases f1 with
   | true=>exact wpAny_pure (by have:=hF s.heap hz ⟨rfl,λ _ _=>rfl⟩;exact this)
   | false =>
    show wpAny _ _ (setField (.ref z) 1 (.bool true) >>= _) _ _ _;refine wpAny_bind (wpAny_setField_rec hz (by simp) λ h₁ hz₁ hs₁=>wpAny_pure (hF h₁ hz₁ hs₁))
theorem Zp {z TI TO i1 i2 l1 l2:Addr}{k1 k2:Nat}{xs ys:Array Value}{x y a b f0:Value}{f1:Bool}{Q:Value->Shared->Prop}(D:ZipApart z TI TO i1 i2 l1 l2)
  (hz:jG s.heap z TI TO f0 f1) (ok:okF f0) (hTI:IsPair s.heap TI (.ref i1) (.ref i2)) (hTO:IsPair s.heap TO a b)
  (h1:SIt s.heap i1 l1 k1 xs) (h2:SIt s.heap i2 l2 k2 ys) (hx:xs[k1]?=some x) (hy:ys[k2]?=some y)
  (hQ:∀ h' g0 g1,jG h' z TI TO g0 g1->okF g0->(∃ a b,IsPair h' TO a b)->SIt h' i1 l1 (k1+1) xs->SIt h' i2 l2 (k2+1) ys->IsPair h' s.heap.objs.size x y ->
   (∀ c o,c≠z->c≠TO->c≠i1->c≠i2->s.heap.get? c=some o->h'.get? c=some o)->Q (.ref s.heap.objs.size) { s with heap:=h' }) :
  wpAny (model prog w) A (Builtin.«zip.__next__» ⟨[.ref z],[]⟩) (λ fin s'=>∃ v,fin=.done (.ret v)/\Q v s') E s:=by
 show wpAny _ _ (field (.ref z) 2 >>= _) _ _ _;refine wpAny_bind (wpAny_field hz rfl (x:=.bool false) rfl ?_);show wpAny _ _ (field (.ref z) 3 >>= _) _ _ _;refine wpAny_bind (wpAny_field hz rfl (x:=.ref TI) rfl ?_);refine wpAny_bind (wpAny_seqItems hTI rfl ?_);show wpAny _ _ (Builtin.SmallTypes.ownedTupleIsFree (.ref z) >>= _) _ _ _;refine wpAny_bind (Q2 hz ok ?_ λ h0 hz0 hs0=>?_)
 ·simp only [if_true];refine wpAny_bind (wpAny_rule ?_);refine wpAny_bind (wpAny_field hz rfl (x:=.ref TO) rfl ?_);refine wpAny_bind (wpAny_setField_rec hz (by simp) λ h₁ hz₁ hs₁=>?_);replace hz₁:jG h₁ z TI TO .ellipsis f1:=hz₁;refine wpAny_bind ?_;simp only [List.zipIdx_cons,List.zipIdx_nil,Y2h,Y2l];refine wpAny_bind (wpAny_bind (wpAny_onRaise ?_));show wpAny _ _ (Builtin.SmallTypes.nextOf (.ref i1) >>= _) _ _ _;refine wpAny_bind (jb D.l1i1 (h1.ext hs₁.extBut D.i1z D.l1z) hx λ h₂ h1₂ hs₂=>wpAny_pure ?_);have hTO₂:IsPair h₂ TO a b:=hs₂.extBut _ _ D.TOi1 (hs₁.extBut _ _ D.TOz hTO);refine wpAny_bind (wpAny_seqItems hTO₂ rfl ?_);refine wpAny_bind (wpAny_updateSeq_pair hTO₂ λ h₃ hTO₃ hs₃=>?_);replace hTO₃:IsPair h₃ TO x b:=hTO₃;refine wpAny_bind (wpAny_letGo (wpAny_pure ?_));refine wpAny_bind (wpAny_bind (wpAny_onRaise ?_));show wpAny _ _ (Builtin.SmallTypes.nextOf (.ref i2) >>= _) _ _ _;refine wpAny_bind (jb D.l2i2 (((h2.ext hs₁.extBut D.i2z D.l2z).ext hs₂.extBut D.i12.symm D.l2i1).ext hs₃.extBut D.TOi2.symm D.l2TO) hy λ h₄ h2₄ hs₄=>wpAny_pure ?_);have hTO₄:IsPair h₄ TO x b:=hs₄.extBut _ _ D.TOi2 hTO₃;refine wpAny_bind (wpAny_seqItems hTO₄ rfl ?_);refine wpAny_bind (wpAny_updateSeq_pair hTO₄ λ h₅ hTO₅ hs₅=>?_);replace hTO₅:IsPair h₅ TO x y:=hTO₅;refine wpAny_bind (wpAny_letGo (wpAny_pure (wpAny_pure ?_)));refine wpAny_bind (wpAny_seqItems hTO₅ rfl ?_);refine wpAny_bind (wpAny_newTuple ?_);have hsz:h₅.objs.size=s.heap.objs.size:=by rw [hs₅.1,hs₄.1,hs₃.1,hs₂.1,hs₁.1]
  have hz₅:jG h₅ z TI TO .ellipsis f1:=hs₅.extBut _ _ D.TOz.symm (hs₄.extBut _ _ D.i2z.symm (hs₃.extBut _ _ D.TOz.symm (hs₂.extBut _ _ D.i1z.symm hz₁)));have hk₅:∀ c o,c≠z->c≠TO->c≠i1->c≠i2->s.heap.get? c=some o->h₅.get? c=some o:=λ c o c1 c2 c3 c4 e =>
   hs₅.extBut _ _ c2 (hs₄.extBut _ _ c4 (hs₃.extBut _ _ c2 (hs₂.extBut _ _ c3 (hs₁.extBut _ _ c1 e))))
  have h1₅:SIt h₅ i1 l1 (k1+1) xs:=((h1₂.ext hs₃.extBut D.TOi1.symm D.l1TO).ext hs₄.extBut D.i12 D.l1i2).ext hs₅.extBut D.TOi1.symm D.l1TO;have h2₅:SIt h₅ i2 l2 (k2+1) ys:=h2₄.ext hs₅.extBut D.TOi2.symm D.l2TO;have hzlt:z<h₅.objs.size:=Y0h hz₅;show wpAny _ _ (Builtin.SmallTypes.ownedTupleHandOut (.ref z) (.ref h₅.objs.size) >>= _) _ _ _;refine wpAny_bind ?_;unfold Builtin.SmallTypes.ownedTupleHandOut;have hz₆:jG (h₅.push { cls:=.type "tuple",data:=.seq #[x,y] }) z TI TO .ellipsis f1:=Y02 _ hz₅;refine wpAny_bind (wpAny_setField_rec hz₆ (by simp) λ h₇ hz₇ hs₇=>?_);replace hz₇:jG h₇ z TI TO (rawInt h₅.objs.size) f1:=hz₇;refine wpAny_setField_rec hz₇ (by simp) λ h₈ hz₈ hs₈=>?_;replace hz₈:jG h₈ z TI TO (rawInt h₅.objs.size) false:=hz₈;have up:∀ c o,c≠z->h₅.get? c=some o->h₈.get? c=some o:=λ c o c1 e=>hs₈.extBut _ _ c1 (hs₇.extBut _ _ c1 (Y02 _ e));have hT₈:IsPair h₈ h₅.objs.size x y:=hs₈.extBut _ _ (Y24 hzlt) (hs₇.extBut _ _ (Y24 hzlt) (Y0i _ rfl));rw [hsz] at hz₈ hT₈;refine wpAny_pure ⟨_,rfl,?_⟩;show Q (.ref h₅.objs.size) _;rw [hsz];exact hQ h₈ _ _ hz₈ (.inr ⟨_,_,rfl⟩) ⟨x,y,up _ _ D.TOz hTO₅⟩ (h1₅.move (λ o e=>up _ o D.i1z e) (λ o e=>up _ o D.l1z e)) (h2₅.move (λ o e=>up _ o D.i2z e) (λ o e=>up _ o D.l2z e)) hT₈ λ c o c1 c2 c3 c4 e=>up c o c1 (hk₅ c o c1 c2 c3 c4 e)
 ·simp only [Y2k,if_false];refine wpAny_bind ?_;simp only [List.forIn_toArray,Y2h,Y2l];refine wpAny_bind (wpAny_bind (wpAny_holding ?_));show wpAny _ _ (Builtin.SmallTypes.nextOf (.ref i1) >>= _) _ _ _;refine wpAny_bind (jb D.l1i1 (h1.ext hs0.extBut D.i1z D.l1z) hx λ h₂ h1₂ hs₂=>wpAny_pure (wpAny_pure ?_));refine wpAny_bind (wpAny_bind (wpAny_holding ?_));show wpAny _ _ (Builtin.SmallTypes.nextOf (.ref i2) >>= _) _ _ _;refine wpAny_bind (jb D.l2i2 ((h2.ext hs0.extBut D.i2z D.l2z).ext hs₂.extBut D.i12.symm D.l2i1) hy λ h₄ h2₄ hs₄=>wpAny_pure (wpAny_pure (wpAny_pure ?_)));refine wpAny_bind (wpAny_newTuple (wpAny_pure ⟨_,rfl,?_⟩) (by show 2<=sizeLine;rw [sizeLine_eq];decide));have hsz:h₄.objs.size=s.heap.objs.size:=by rw [hs₄.1,hs₂.1,hs0.1]
  have hz₄:jG h₄ z TI TO f0 true:=hs₄.extBut _ _ D.i2z.symm (hs₂.extBut _ _ D.i1z.symm hz0);have up:∀ c o,h₄.get? c=some o->(h₄.push { cls:=.type "tuple",data:=.seq #[x,y] }).get? c=some o:=λ c o e=>Y02 _ e;have hk:∀ c o,c≠z->c≠TO->c≠i1->c≠i2->s.heap.get? c=some o->h₄.get? c=some o:=λ c o c1 c2 c3 c4 e=>hs₄.extBut _ _ c4 (hs₂.extBut _ _ c3 (hs0.extBut _ _ c1 e));have h1₄:SIt h₄ i1 l1 (k1+1) xs:=h1₂.ext hs₄.extBut D.i12 D.l1i2;show Q (.ref h₄.objs.size) _;have T':IsPair (h₄.push { cls:=.type "tuple",data:=.seq #[x,y] }) h₄.objs.size x y:=Y0i _ rfl;rw [hsz] at T' ⊢;exact hQ _ _ _ (up _ _ hz₄) ok ⟨a,b,up _ _ (hs₄.extBut _ _ D.TOi2 (hs₂.extBut _ _ D.TOi1 (hs0.extBut _ _ D.TOz hTO)))⟩ (h1₄.move (λ o e=>up _ o e) (λ o e=>up _ o e)) (h2₄.move (λ o e=>up _ o e) (λ o e=>up _ o e)) T' λ c o c1 c2 c3 c4 e=>up c o (hk c o c1 c2 c3 c4 e)
theorem J7 {z TI TO i1 i2 l1 l2:Addr}{k1 k2:Nat}{xs ys:Array Value}{a b f0:Value}{f1:Bool}{Q:Fin->Shared->Prop}(hh:A.handled=none)(D:ZipApart z TI TO i1 i2 l1 l2)
  (hz:jG s.heap z TI TO f0 f1) (ok:okF f0) (hTI:IsPair s.heap TI (.ref i1) (.ref i2)) (hTO:IsPair s.heap TO a b)
  (h1:SIt s.heap i1 l1 k1 xs) (h2:SIt s.heap i2 l2 k2 ys) (hend:xs[k1]?=none\/ys[k2]?=none)
  (hE:∀ h' e,(∀ c o,c≠z->c≠TO->c≠i1->c≠i2->s.heap.get? c=some o->h'.get? c=some o)->(∃ o,h'.get? e=some o/\o.cls=.type "StopIteration")->E (.ref e) { s with heap:=h' }) :
  wpAny (model prog w) A (Builtin.«zip.__next__» ⟨[.ref z],[]⟩) Q E s:=by
 show wpAny _ _ (field (.ref z) 2 >>= _) _ _ _;refine wpAny_bind (wpAny_field hz rfl (x:=.bool false) rfl ?_);show wpAny _ _ (field (.ref z) 3 >>= _) _ _ _;refine wpAny_bind (wpAny_field hz rfl (x:=.ref TI) rfl ?_);refine wpAny_bind (wpAny_seqItems hTI rfl ?_);show wpAny _ _ (Builtin.SmallTypes.ownedTupleIsFree (.ref z) >>= _) _ _ _;refine wpAny_bind (Q2 hz ok ?_ λ h0 hz0 hs0=>?_)
 ·simp only [if_true];refine wpAny_bind (wpAny_rule ?_);refine wpAny_bind (wpAny_field hz rfl (x:=.ref TO) rfl ?_);refine wpAny_bind (wpAny_setField_rec hz (by simp) λ h₁ hz₁ hs₁=>?_);replace hz₁:jG h₁ z TI TO .ellipsis f1:=hz₁;refine wpAny_bind ?_;simp only [List.zipIdx_cons,List.zipIdx_nil,Y2h,Y2l];refine wpAny_bind (wpAny_bind (wpAny_onRaise ?_));show wpAny _ _ (Builtin.SmallTypes.nextOf (.ref i1) >>= _) _ _ _;cases hx:xs[k1]? with
  | none =>
   refine wpAny_bind (jZ hh (h1.ext hs₁.extBut D.i1z D.l1z) hx λ h₂ e hs₂ he=>?_);obtain ⟨oe,hoe,hce⟩:=he;have hz₂:jG h₂ z TI TO .ellipsis f1:=hs₂ _ _ D.i1z.symm hz₁;have hez:e≠z:=λ x=>by subst x;rw [hz₂] at hoe;cases hoe;simp at hce
   refine wpAny_setField_rec hz₂ (by simp) λ h₃ _ hs₃=>hE h₃ e (λ c o c1 _ c3 _ x=>hs₃.extBut _ _ c1 (hs₂ _ _ c3 (hs₁.extBut _ _ c1 x))) ⟨oe,hs₃.extBut _ _ hez hoe,hce⟩
  | some x =>
   have hy:ys[k2]?=none:=by rcases hend with h | h;rw [hx] at h;cases h;exact h
   refine wpAny_bind (jb D.l1i1 (h1.ext hs₁.extBut D.i1z D.l1z) hx λ h₂ h1₂ hs₂=>wpAny_pure ?_);have hTO₂:IsPair h₂ TO a b:=hs₂.extBut _ _ D.TOi1 (hs₁.extBut _ _ D.TOz hTO);refine wpAny_bind (wpAny_seqItems hTO₂ rfl ?_);refine wpAny_bind (wpAny_updateSeq_pair hTO₂ λ h₃ hTO₃ hs₃=>?_);refine wpAny_bind (wpAny_letGo (wpAny_pure ?_));refine wpAny_bind (wpAny_bind (wpAny_onRaise ?_));show wpAny _ _ (Builtin.SmallTypes.nextOf (.ref i2) >>= _) _ _ _;refine wpAny_bind (jZ hh (((h2.ext hs₁.extBut D.i2z D.l2z).ext hs₂.extBut D.i12.symm D.l2i1).ext hs₃.extBut D.TOi2.symm D.l2TO) hy λ h₄ e hs₄ he=>?_);obtain ⟨oe,hoe,hce⟩:=he;have hz₄:jG h₄ z TI TO .ellipsis f1:=hs₄ _ _ D.i2z.symm (hs₃.extBut _ _ D.TOz.symm (hs₂.extBut _ _ D.i1z.symm hz₁));have hez:e≠z:=λ x=>by subst x;rw [hz₄] at hoe;cases hoe;simp at hce
   refine wpAny_setField_rec hz₄ (by simp) λ h₅ _ hs₅=>hE h₅ e (λ c o c1 c2 c3 c4 x=>hs₅.extBut _ _ c1 (hs₄ _ _ c4 (hs₃.extBut _ _ c2 (hs₂.extBut _ _ c3 (hs₁.extBut _ _ c1 x))))) ⟨oe,hs₅.extBut _ _ hez hoe,hce⟩
 ·simp only [Y2k,if_false];refine wpAny_bind ?_;simp only [List.forIn_toArray,Y2h,Y2l];refine wpAny_bind (wpAny_bind (wpAny_holding ?_));show wpAny _ _ (Builtin.SmallTypes.nextOf (.ref i1) >>= _) _ _ _;cases hx:xs[k1]? with
  | none=>exact wpAny_bind (jZ hh (h1.ext hs0.extBut D.i1z D.l1z) hx λ h₂ e hs₂ he=>hE h₂ e (λ c o c1 _ c3 _ x=>hs₂ _ _ c3 (hs0.extBut _ _ c1 x)) he)
  | some x =>
   have hy:ys[k2]?=none:=by rcases hend with h | h;rw [hx] at h;cases h;exact h
   refine wpAny_bind (jb D.l1i1 (h1.ext hs0.extBut D.i1z D.l1z) hx λ h₂ h1₂ hs₂=>wpAny_pure (wpAny_pure ?_));refine wpAny_bind (wpAny_bind (wpAny_holding ?_));show wpAny _ _ (Builtin.SmallTypes.nextOf (.ref i2) >>= _) _ _ _;exact wpAny_bind (jZ hh ((h2.ext hs0.extBut D.i2z D.l2z).ext hs₂.extBut D.i12.symm D.l2i1) hy λ h₄ e hs₄ he=>hE h₄ e (λ c o c1 c2 c3 c4 x=>hs₄ _ _ c4 (hs₂.extBut _ _ c3 (hs0.extBut _ _ c1 x))) he)
theorem ym {z TI TO i1 i2 l1 l2:Addr}{k1 k2:Nat}{xs ys:Array Value}{x y a b f0:Value}{f1:Bool}{Q:Option Value->Shared->Prop}(D:ZipApart z TI TO i1 i2 l1 l2)
  (hz:jG s.heap z TI TO f0 f1) (ok:okF f0) (hTI:IsPair s.heap TI (.ref i1) (.ref i2)) (hTO:IsPair s.heap TO a b)
  (h1:SIt s.heap i1 l1 k1 xs) (h2:SIt s.heap i2 l2 k2 ys) (hx:xs[k1]?=some x) (hy:ys[k2]?=some y)
  (hQ:∀ h' g0 g1,jG h' z TI TO g0 g1->okF g0->(∃ a b,IsPair h' TO a b)->SIt h' i1 l1 (k1+1) xs->SIt h' i2 l2 (k2+1) ys->IsPair h' s.heap.objs.size x y ->
   (∀ c o,c≠z->c≠TO->c≠i1->c≠i2->s.heap.get? c=some o->h'.get? c=some o)->Q (some (.ref s.heap.objs.size)) { s with heap:=h' }) :
  wpAny (model prog w) A (pyNext (.ref z)) Q E s:=by
 have hT:s.TypeIs (.ref z) "zip":=⟨_,hz,rfl⟩;unfold pyNext;exact wpAny_bind (wpAny_attempt (wpAny_callSpecial?_slot (name:=Str.ofString "__next__") hT Y29
  (wpAny_call_entry Y29 hT PySem.F.entry_zip_next
   (Zp D hz ok hTI hTO h1 h2 hx hy λ h' g0 g1 a1 a2 a3 a4 a5 a6 a7=>wpAny_pure (hQ h' g0 g1 a1 a2 a3 a4 a5 a6 a7)) (PySem.F.args_zip_next_1 _))))
theorem yO {z TI TO i1 i2 l1 l2:Addr}{k1 k2:Nat}{xs ys:Array Value}{a b f0:Value}{f1:Bool}{Q:Option Value->Shared->Prop}(hh:A.handled=none)(D:ZipApart z TI TO i1 i2 l1 l2)
  (hz:jG s.heap z TI TO f0 f1) (ok:okF f0) (hTI:IsPair s.heap TI (.ref i1) (.ref i2)) (hTO:IsPair s.heap TO a b)
  (h1:SIt s.heap i1 l1 k1 xs) (h2:SIt s.heap i2 l2 k2 ys) (hend:xs[k1]?=none\/ys[k2]?=none)
  (hQ:∀ h',(∀ c o,c≠z->c≠TO->c≠i1->c≠i2->s.heap.get? c=some o->h'.get? c=some o)->Q none { s with heap:=h' }):wpAny (model prog w) A (pyNext (.ref z)) Q E s:=by
 have hT:s.TypeIs (.ref z) "zip":=⟨_,hz,rfl⟩;unfold pyNext;refine wpAny_bind (wpAny_attempt (wpAny_callSpecial?_slot (name:=Str.ofString "__next__") hT Y29
  (wpAny_call_entry Y29 hT PySem.F.entry_zip_next (J7 hh D hz ok hTI hTO h1 h2 hend λ h' e hk he=>?_) (PySem.F.args_zip_next_1 _))))
 obtain ⟨o,ho,hc⟩:=he;refine wpAny_bind (wpAny_isInstance (T:="StopIteration") (b:=true) ⟨o,ho,hc⟩ isSubtype_stop ?_);exact wpAny_pure (hQ _ hk)
end
def ZTm (z TI TO i1 i2 l1 l2:Addr)(b1 b2:Bool)(i:Nat)(h:Heap):Prop :=
 (∃ f0 f1,jG h z TI TO f0 f1/\okF f0)/\IsPair h TI (.ref i1) (.ref i2)/\(∃ a b,IsPair h TO a b)/\ItR h i1 l1 i b1/\ItR h i2 l2 i b2
theorem Q3 {prog:Program}{w:World}{A:Around}{E:Value->Shared->Prop}{s:Shared}{z TI TO:Addr}{f0:Value}{f1:Bool}{Q:Value->Shared->Prop}(hz:jG s.heap z TI TO f0 f1)(h:Q (.ref z) s):wpAny (model prog w) A (pyIter (.ref z)) Q E s:=by
 have hT:s.TypeIs (.ref z) "zip":=⟨_,hz,rfl⟩;refine wpAny_pyIter_slot hT PySem.F.slot_zip_iter (wpAny_call_entry PySem.F.slot_zip_iter hT PySem.F.entry_zip_iter ?_ (PySem.F.args_zip_iter_1 _));exact wpAny_pure ⟨_,rfl,"zip",_,hT,PySem.F.slot_zip_next.lookup,h⟩
theorem z3d {prog:Program}{w:World}{A:Around}{E:Value->Shared->Prop}{s:Shared}{tg:Expr}{z TI TO T:Addr}{f0:Value}{f1:Bool}{Q:Unit->Shared->Prop}(hz:jG s.heap z TI TO f0 f1)(ok:okF f0)(hQ:∀ h' g0,jG h' z TI TO g0 f1->okF g0->Heap.SameBut z s.heap h'->Q () { s with heap:=h' }):wpAny (model prog w) A (letOwnedTupleGo tg (.ref z) (.ref T)) Q E s:=by
 have same:wpAny (model prog w) A (pure ()) Q E s:=wpAny_pure (hQ s.heap f0 hz ok ⟨rfl,λ _ _=>rfl⟩);have go:wpAny (model prog w) A (do
   let o <- load z
   match o.cls,o.data with
   | .type n,.fields vs =>
    if ["enumerate","zip","dict_itemiterator","dict_reverseitemiterator","odict_iterator","itertools.zip_longest","itertools.pairwise"].contains n&&vs[0]?==some (rawInt T) then
     rule "for.unpacks-the-owned-tuple"
     updateField z 0 .none
   | _,_=>pure ()) Q E s:=by
  refine wpAny_bind (wpAny_load hz ?_);show wpAny _ _ (if _=true then _ else _) Q E s
  split
  ·refine wpAny_bind (wpAny_rule ?_);show wpAny _ _ (setField (.ref z) 0 .none) Q E s;exact wpAny_setField_rec hz (by simp) λ h' hz' hs'=>hQ h' .none hz' (.inl rfl) hs'
  ·exact same
 unfold letOwnedTupleGo
 split
 ·exact go
 ·exact go
 ·exact same
theorem V9 {P:Program}{w:World}{K:Y00}{tg:Expr}{z TI TO i1 i2 l1 l2:Addr}(D:ZipApart z TI TO i1 i2 l1 l2)(hT1:l1≠TI)(hT2:l2≠TI)(b1 b2:Bool)(n m:Nat) :
  Turn P w K tg (Itz K l1 l2 b1 b2 n m) [z,TI,TO,i1,i2] z (ZTm z TI TO i1 i2 l1 l2 b1 b2) where
 mem:=by simp
 obj:=λ i h st b hb=>by
  obtain ⟨⟨f0,f1,z0,okf⟩,zI,⟨a,c,zO⟩,t1,t2⟩:=st;have sq:∀ {i a k b},ItR h i a k b->∃ o,h.get? i=some o/\∀ v,o.data≠.cell v:=λ t=>by
   obtain ⟨o,vs,e,d⟩:=t.rec;exact ⟨o,e,λ v q=>by rw [d] at q;cases q⟩
  simp only [Y0b,Y0p,or_false] at hb;rcases hb with rfl | rfl | rfl | rfl | rfl
  ·exact ⟨_,z0,λ v q=>by cases q⟩
  ·exact ⟨_,zI,λ v q=>by cases q⟩
  ·exact ⟨_,zO,λ v q=>by cases q⟩
  ·exact sq t1
  ·exact sq t2
 keep:=λ i h h' st k=>by
  obtain ⟨⟨f0,f1,z0,okf⟩,zI,⟨a,c,zO⟩,t1,t2⟩:=st;exact ⟨⟨f0,f1,k z (by simp) _ z0,okf⟩,k TI (by simp) _ zI,⟨a,c,k TO (by simp) _ zO⟩,t1.at λ o e=>k i1 (by simp) o e,t2.at λ o e=>k i2 (by simp) o e⟩
 item:=by
  intro X hP hw hK hc i pins s σ H E I hf st hg;subst hP hw hK;obtain ⟨hi,hj,xs,ys,hx,hy,lx,ly⟩:=hg;obtain ⟨⟨f0,f1,z0,okf⟩,zI,⟨a,c,zO⟩,t1,t2⟩:=st;obtain ⟨its1,v1,k1,o1,n1,e1,d1⟩:=I.seqB hx;obtain ⟨its2,v2,k2,o2,n2,e2,d2⟩:=I.seqB hy;have S1:=k1 i1 i s.heap t1 λ _ e=>e;have S2:=k2 i2 i s.heap t2 λ _ e=>e;have gx:xs[i]?=some (xs[i]'(by omega)):=Y0m _;have gy:ys[i]?=some (ys[i]'(by omega)):=Y0m _;generalize xs[i]'(by omega)=x at gx;generalize ys[i]'(by omega)=y at gy;obtain ⟨u,hu,ru⟩:=v1.get gx;obtain ⟨v,hv,rv⟩:=v2.get gy;refine ym D z0 okf zI zO S1 S2 (x:=u) (y:=v) (by simpa using hu) (by simpa using hv) λ h' g0 g1 a1 okh a2 a3 a4 a5 a7=>?_;refine ⟨_,rfl,z3d (s:={ s with heap:=h' }) a1 okh λ h'' g0 q1 okg q2=>?_⟩;have up:∀ b o,b∉[z,TI,TO,i1,i2]->s.heap.get? b=some o->h''.get? b=some o:=λ b o hb e=>by
   simp only [Y0b,Y0p,or_false,not_or] at hb;exact (q2.2 b hb.1).trans (a7 b o hb.1 hb.2.2.1 hb.2.2.2.1 hb.2.2.2.2 e)
  have I1:Inv X pins σ H { s with heap:=h'',toks:=s.toks }:=I.turnedL up hf;have F:=I.fpOk (b:=s.heap.objs.size) (H':=H) (Y09 _) (I.hok.fresh (Y09 _));have h0:X.s₀.heap.get? s.heap.objs.size=none:=by
   cases q:X.s₀.heap.get? s.heap.objs.size with
   | none=>rfl
   | some o=>exact absurd (Y0l (Y0h q) I.sz) (Y1c _)
  have zs:s.heap.objs.size≠z:=Y24 (Y0h z0);have T':IsPair h'' s.heap.objs.size u v:=(q2.2 _ zs).trans a5;have I2:Inv X pins σ (upd H s.heap.objs.size (.tup [x,y])) { s with heap:=h'',toks:=s.toks }:=I1.track F.1 h0 F.2.1 F.2.2.2.2.1 F.2.2.2.2.2 ⟨by show 2<=sizeLine;rw [sizeLine_eq];decide,[u,v],.cons ru (.cons rv .nil),⟨_,T',rfl,0,rfl⟩⟩;have l1lt:l1<s.heap.objs.size:=Y0h e1;have l2lt:l2<s.heap.objs.size:=Y0h e2;have l1f:l1∉[z,TI,TO,i1,i2]:=by simp [D.l1z,D.l1TO,D.l1i1,D.l1i2,hT1]
  have l2f:l2∉[z,TI,TO,i1,i2]:=by simp [D.l2z,D.l2TO,D.l2i1,D.l2i2,hT2]
  have S1':SIt h'' i1 l1 (i+1) its1.toArray:=a3.move (λ o e=>(q2.2 _ D.i1z).trans e) (λ o e=>(q2.2 _ D.l1z).trans e);have S2':SIt h'' i2 l2 (i+1) its2.toArray:=a4.move (λ o e=>(q2.2 _ D.i2z).trans e) (λ o e=>(q2.2 _ D.l2z).trans e);refine ⟨.ref s.heap.objs.size,_,I2,rfl,⟨_,rfl,F.1,λ xs' ys' hx' hy'=>?_⟩,⟨⟨g0,g1,q1,okg⟩,?_,?_,?_,?_⟩,λ b hb=>?_⟩
  ·rw [I.seqB_inj hx' hx,I.seqB_inj hy' hy];exact ⟨x,y,gx,gy,rfl⟩
  ·exact (q2.2 _ D.TIz).trans (a7 TI _ D.TIz D.TITO D.TIi1 D.TIi2 zI)
  ·obtain ⟨a',b',p⟩:=a2;exact ⟨a',b',(q2.2 _ D.TOz).trans p⟩
  ·exact ItR.ofS S1' t1 S1 λ o e=>up l1 o l1f e
  ·exact ItR.ofS S2' t2 S2 λ o e=>up l2 o l2f e
  ·have hb':=hf b hb;have ne:b≠s.heap.objs.size:=by
    obtain ⟨o,e,_⟩:∃ o,s.heap.get? b=some o/\True:=by
     simp only [Y0b,Y0p,or_false] at hb;rcases hb with rfl | rfl | rfl | rfl | rfl
     ·exact ⟨_,z0,trivial⟩
     ·exact ⟨_,zI,trivial⟩
     ·exact ⟨_,zO,trivial⟩
     ·obtain ⟨o,vs,e,_⟩:=t1.rec;exact ⟨o,e,trivial⟩
     ·obtain ⟨o,vs,e,_⟩:=t2.rec;exact ⟨o,e,trivial⟩
    exact Y0r (Y0h e)
   rw [zq ne];exact hb'.1
 done:=by
  intro X hP hw hK hc i pins s σ H E I hf st hg;subst hP hw hK;obtain ⟨hi,xs,ys,hx,hy,lx,ly⟩:=hg;obtain ⟨⟨f0,f1,z0,okf⟩,zI,⟨a,c,zO⟩,t1,t2⟩:=st;obtain ⟨its1,v1,k1,o1,n1,e1,d1⟩:=I.seqB hx;obtain ⟨its2,v2,k2,o2,n2,e2,d2⟩:=I.seqB hy;have S1:=k1 i1 i s.heap t1 λ _ e=>e;have S2:=k2 i2 i s.heap t2 λ _ e=>e;refine yO (I.ok.hd hc) D z0 okf zI zO S1 S2 ?_ λ h' a1=>⟨rfl,I.turnedL (t':=s.toks) (l:=[z,TI,TO,i1,i2]) (λ b o hb e=>?_) hf⟩
  ·rcases hi with q | q
   ·exact .inl (by simp;rw [<- v1.length,lx,q];exact Y09 _)
   ·exact .inr (by simp;rw [<- v2.length,ly,q];exact Y09 _)
  ·simp only [Y0b,Y0p,or_false,not_or] at hb;exact a1 b o hb.1 hb.2.2.1 hb.2.2.2.1 hb.2.2.2.2 e
 self:=λ _ _ _ _ _ st h=>by
  obtain ⟨⟨f0,f1,z0,okf⟩,_⟩:=st;exact Q3 z0 h
section
variable {X:Cx}
theorem BF {a b:Expr}{ta:TA}{p pos:Pos}{tg:Expr} (hg:Gl X "zip") (hm:X.mg "zip"=none) (ha:PA X [a,b] ta) (hs:starEach [a,b] X.env=(false,eval a X.env)::starEach [b] X.env) (hs2:(backTo pos (starEach [b] X.env)).any (·.1)=false):PI X tg (.Call (.Name "zip" p) [a,b] [] pos) (z7u X.K ta):=by
 intro pins s σ H R I h;refine Call_ (wD I hg hm Gv (Y1d (thn (ha pos pins s σ H _ I h) λ us s1 ⟨vs,H1,I1,r1,q1⟩=>?_) hs hs2));obtain ⟨l1,l2,b1,b2,xs,ys,e,hx,hy,q⟩:=q1;subst e;cases r1 with
 | cons r rr =>
  cases rr with
  | cons r' rr' =>
   cases rr';cases r;cases r';obtain ⟨i1,s1',t1⟩:=I1.seqH hx;obtain ⟨i2,s2',t2⟩:=I1.seqH hy;refine V7 b1 b2 s1' s2' λ h' st k=>?_;have D:ZipApart (s1.heap.objs.size+4) (s1.heap.objs.size+2) (s1.heap.objs.size+3) s1.heap.objs.size (s1.heap.objs.size+1) l1 l2:=by constructor<;>first | exact Y0r (by omega) | exact Y24 (by omega) | exact Y0r (Y0l t1 (by omega)) | exact Y0r (Y0l t2 (by omega))
   refine wpAny_pyIter_zip (s:={ s1 with heap:=h' }) st.1 ?_;refine ⟨_,_,_,_,H1,rfl,I1.kept (t':=s1.toks) k,V9 D (Y0r (Y0l t1 (by omega))) (Y0r (Y0l t2 (by omega))) b1 b2 xs.length ys.length,⟨⟨_,_,st.1,.inl rfl⟩,st.2⟩,λ b' hb=>?_,q⟩;have hb':s1.heap.objs.size<=b':=by
    simp only [Y0b,Y0p,or_false] at hb;rcases hb with rfl | rfl | rfl | rfl | rfl
    all_goals first | exact Y09 _ | exact Nat.le_add_right _ _
   exact I1.fpOk hb' (I1.hok.fresh hb')
end
structure ZL (h:Heap)(z TI TO i1 i2 l1 l2 S B:Addr)(xs ys:Array Value)(c i:Nat)(Ts:List Addr):Prop where
 zs:∃ f0 f1,jG h z TI TO f0 f1/\okF f0
 ti:IsPair h TI (.ref i1) (.ref i2)
 to:∃ a b,IsPair h TO a b
 s1:SIt h i1 l1 i xs
 s2:SIt h i2 l2 i ys
 ls:h.get? S=some { cls:=.type "list",dict:=none,data:=.seq (Ts.map Value.ref).toArray c,slots:=#[] }
 sz:Ts.length=i
 it:∀ (j:Nat) (T:Addr),Ts[j]?=some T->B<=T/\∃ x y,xs[j]?=some x/\ys[j]?=some y/\IsPair h T x y
 nd:Ts.Nodup
theorem Va (xs:Array Value):slicePick xs none none (some (-1))=xs.toList.reverse.toArray:=by
 rw [<- Q1];unfold slicePick
 congr 1
 have e:sliceRange (sliceBounds none none (some (-1)) xs.size).1 (sliceBounds none none (some (-1)) xs.size).2.1 (sliceBounds none none (some (-1)) xs.size).2.2=(List.range xs.size).map λ (k:Nat)=>((xs.size:Int)-1+(-1)*(k:Int)).toNat:=by
  show sliceRange ((xs.size:Int)-1) (-1) (-1)=_;unfold sliceRange;rw [if_neg (by decide)]
  have:(if (xs.size:Int)-1 > -1 then ((xs.size:Int)-1 - -1 - -1-1)/(- -1) else 0).toNat=xs.size:=by
   rw [show (- -1:Int)=1 by decide,Int.ediv_one]
   split<;>omega
  show List.map _ (List.range (if (xs.size:Int)-1 > -1 then ((xs.size:Int)-1 - -1 - -1-1)/(- -1) else 0).toNat)=_;rw [this]
 rw [e,List.filterMap_map];apply Zn;intro m _;show xs[((xs.size:Int)-1+(-1)*(m:Int)).toNat]?=_
 congr 1
 omega
section
variable {X:Cx}{e st:Expr}{te ts:TE}{p2 pos:Pos}
def z5s (K:Y00)(te ts:TE):TE:=λ σ H Q=>te σ H λ x H1=>ts σ H1 λ y H2=>y=.int (-1)/\((∃ a xs,x=.ref a/\SqT K H2 a xs/\∀ p,H2 p=none->Q (.ref p) (upd H2 p (.tup xs.reverse)))\/∃ a xs,x=.ref a/\SqL K H2 a xs/\∀ p,H2 p=none->Q (.ref p) (upd H2 p (.lst xs.reverse)))
theorem BG (he:PE X e te)(hs:PE X st ts):PE X (.Subscript e (.Slice none none (some st) p2) pos) (z5s X.K te ts):=by
 intro pins s σ H Q I h;refine Subscript_ (thn (he pins s σ H _ I h) λ v s1 ⟨x,H1,I1,r1,q1⟩=>?_);refine wpAny_Slice ?_;rw [evalPart_none];refine wpAny_pure (wpAny_pure ?_);show wpAny _ _ (eval st X.env) _ _ _;refine thn (hs pins s1 σ H1 _ I1 q1) λ w s2 ⟨y,H2,I2,r2,q2⟩=>?_;obtain ⟨rfl,q2⟩:=q2;obtain ⟨tk,rfl⟩:=r2;have I4:Inv X pins σ H2 { s2 with heap:=s2.heap.push { cls:=.type "slice",data:=.fields #[.none,.none,.int (-1) tk] } }:=I2.kept (t':=s2.toks) λ b ob q=>Y02 _ q;rcases q2 with ⟨a,xs,rfl,hx,q⟩ | ⟨a,xs,rfl,hx,q⟩
 ·cases r1;obtain ⟨its,r,ht,hz⟩:=I4.tuple hx;have hlen:its.toArray.size=xs.length:=by rw [Y0d];exact r.length.symm
  show wpAny (model X.prog X.w) X.A (subscriptTail e (.Slice none none (some st) p2) (.ref a) (.ref s2.heap.objs.size)) (EP X pins σ Q) X.xe { s2 with heap:=s2.heap.push { cls:=.type "slice",data:=.fields #[.none,.none,.int (-1) tk] } };refine tail_any (ops:=[.ref a,.ref s2.heap.objs.size]) ht.typeIs PyProof.Rows.slot_tuple_getitem.lookup (qO ht (Heap.IsSliceOf.new ..) ?_ (by rw [hlen];exact hz)) (by with_unfolding_all rfl);refine ⟨.ref _,_,I4.laid (t':=s2.toks) (o:=.tup xs.reverse) (λ b ob q=>Y02 _ q) (Y09 _) ?_,rfl,q _ (I4.hok.fresh (Y09 _))⟩;exact ⟨by rw [Y1v];exact hz,_,r.reverse,IsTup.new _ _⟩
 ·cases r1;obtain ⟨its,r,ht,hz⟩:=I4.list hx;have hlen:its.toArray.size=xs.length:=by rw [Y0d];exact r.length.symm
  show wpAny (model X.prog X.w) X.A (subscriptTail e (.Slice none none (some st) p2) (.ref a) (.ref s2.heap.objs.size)) (EP X pins σ Q) X.xe { s2 with heap:=s2.heap.push { cls:=.type "slice",data:=.fields #[.none,.none,.int (-1) tk] } };refine tail_any (ops:=[.ref a,.ref s2.heap.objs.size]) ht.isList.typeIs slot_list_getitem.lookup (wpAny_getItem_list_slice ht.isList (Heap.IsSliceOf.new ..) .none .none (.int _ _) (by decide) ?_ (by rw [hlen];exact hz)) (by with_unfolding_all rfl);rw [Va];refine ⟨.ref _,_,I4.laid (t':=s2.toks) (o:=.lst xs.reverse) (λ b ob q=>Y02 _ q) (Y09 _) ?_,rfl,q _ (I4.hok.fresh (Y09 _))⟩;exact ⟨by rw [Y1v];exact hz,its.reverse,0,r.reverse,by rw [show its.reverse.toArray=its.toArray.toList.reverse.toArray by simp];exact Y0i _ rfl⟩
end
section
variable {X:Cx}
def z5t (i j:Int):Prop:=0<j/\j<1267650600228229401496703205376
theorem Gz:OpR X (binaryOp .FloorDiv) (rI z5t λ i j=>.int (i/j)):=opI λ i j _ _ _ _ _ hc q=>by
 have h1:(0:Int)<j:=hc.1;have h2:j<1267650600228229401496703205376:=hc.2;refine floordiv_int (by omega) (by rw [Int.fdiv_eq_ediv_of_nonneg i (by omega)];exact q) (.inl (PyProof.noPylong_of_log2 ?_));have hz:j.natAbs≠0:=by omega
 have:j.natAbs.log2<100:=by
  rw [Nat.log2_lt hz];have e:(2:Nat) ^ 100=1267650600228229401496703205376:=by decide +kernel
  rw [e];omega
 omega
end
section
variable {X:Cx}{pins:List (Addr×Obj)}{σ:St}{H:Hp}{s:Shared}{a b:Addr}{v:V}{r:Value}{o:Option V}{A:Around}{E:Value->Shared->Prop}{kvs:List (List Key×V)}{k:List Key}
def DT (H:Hp)(a:Addr)(kvs:List (List Key×V)):Prop:=H a=some (.dT kvs)\/(H a=some (.dK [])/\kvs=[])
theorem Ye (I:Inv X pins σ H s)(e:SqT X.K H b (k.map kV)):(tupleKind (zw X.prog X.w)).is s.heap k b:=by
 obtain ⟨its,r,⟨o,h1,h2,n,h3⟩,_⟩:=I.tuple e;exact ⟨o,its.toArray,n,h1,h2,h3,by simpa using yi r⟩
theorem Yf {P:Program}{w:World}{h:Heap}(ok:HOk P w H h)(e:DT H a kvs):kvs.length<=sizeLine/\(a==sysModules)=false /\
  ∃ xs,KT H kvs xs/\h.DictOfH (tupleKind (zw P w)) a xs:=by
 rcases e with e | ⟨e,rfl⟩
 ·exact z1i ok e
 ·obtain ⟨z,hd,vs,rel,o,es,ep,h1,h2,h3,_,h4,_⟩:=z1h ok e;cases rel;have h5:es.toList=[]:=by
   cases q:es.toList with
   | nil=>rfl
   | cons x r=>rw [q] at h4;cases h4
  exact ⟨Y1u _,hd,[],.nil,o,es,ep,h1,h2,h3,h5,λ x hx=>(nomatch hx),.nil⟩
theorem Vb {Q:Value->Shared->Prop}(hu:A.units+1<cLine)(I:Inv X pins σ H s)(g:DT H a kvs)(eb:SqT X.K H b (k.map kV))(l:wC kvs k=some v)(h:∀ w' s',Inv X pins σ H s'->RelV v w'->Q w' s') :
  wpAny (model X.prog X.w) A (getItem (.ref a) (.ref b)) Q E s:=by
 obtain ⟨z,hd,xs,rel,dd⟩:=Yf I.hok g;obtain ⟨w',hw,rw'⟩:=RelO.some_of (v:=v) (o:=(atKey xs k).map (·.2)) (by rw [<- l];exact rel.val k);obtain ⟨p,hp,hp2⟩:=Y27.mp hw;refine wpAny_getItem_heap (tupleKind_room_in1 hu) (Ye I eb) dd hp ?_;rw [hp2];exact h w' _ (I.tok _) rw'
theorem z5u {Q:Value->Shared->Prop}(hu:A.units+1<cLine)(I:Inv X pins σ H s)(g:DT H a kvs)(eb:SqT X.K H b (k.map kV))(h:∀ s',Inv X pins σ H s'->Q (.bool (wC kvs k).isSome) s') :
  wpAny (model X.prog X.w) A (compareOp .In (.ref b) (.ref a)) Q E s:=by
 obtain ⟨z,hd,xs,rel,dd⟩:=Yf I.hok g;refine wpAny_in_heap (tupleKind_room_in1 hu) (Ye I eb) hd dd ?_;have q:=(rel.val k).isSome_eq;rw [Y28] at q;rw [<- q];exact h _ (I.tok _)
theorem Uf {Q:Value->Shared->Prop}(hu:A.units+1<cLine)(I:Inv X pins σ H s)(g:DT H a kvs)(eb:SqT X.K H b (k.map kV))(h:∀ s',Inv X pins σ H s'->Q (.bool (!(wC kvs k).isSome)) s') :
  wpAny (model X.prog X.w) A (compareOp .NotIn (.ref b) (.ref a)) Q E s:=by
 obtain ⟨z,hd,xs,rel,dd⟩:=Yf I.hok g;refine wpAny_notIn_heap (tupleKind_room_in1 hu) (Ye I eb) hd dd ?_;have q:=(rel.val k).isSome_eq;rw [Y28] at q;rw [<- q];exact h _ (I.tok _)
end
def Ite (K:Y00)(l:Addr)(n:Nat):It :=
  ⟨λ i H=>i<n/\∃ xs,SqL K H l xs/\xs.length=n,
   λ i H v H'=>∃ T,v=.ref T/\H T=none/\∀ xs,SqL K H l xs->∃ x,xs[i]?=some x/\H'=upd H T (.tup [.int (i:Nat),x]),
   λ i H=>i=n/\∃ xs,SqL K H l xs/\xs.length=n⟩
def ETn (e it l:Addr)(i:Nat)(h:Heap):Prop:=(∃ old,IsEnum h e it (i:Nat) old)/\h.IsListIter it l i
theorem Vc {P:Program}{w:World}{K:Y00}{elts:List Expr}{x1}{pos:Pos}{e it l:Addr}(hne:e≠it)(he:l≠e)(hi':l≠it)(n:Nat) :
  Turn P w K (.Tuple elts x1 pos) (Ite K l n) [e,it] e (ETn e it l) where
 mem:=by simp
 obj:=λ i h st b hb=>by
  obtain ⟨⟨old,z0⟩,t1⟩:=st;simp only [Y0b,Y0p,or_false] at hb;rcases hb with rfl | rfl
  ·exact ⟨_,z0,λ v q=>by cases q⟩
  ·obtain ⟨o,vs,e,d⟩:=(show ItR h b l i true from t1).rec;exact ⟨o,e,λ v q=>by rw [d] at q;cases q⟩
 keep:=λ i h h' st k=>by
  obtain ⟨⟨old,z0⟩,t1⟩:=st;exact ⟨⟨old,k e (by simp) _ z0⟩,(show ItR h it l i true from t1).at λ o q=>k it (by simp) o q⟩
 item:=by
  intro X hP hw hK hc i pins s σ H E I hf st hg;subst hP hw hK;obtain ⟨hi,xs,hx,lx⟩:=hg;obtain ⟨⟨old,z0⟩,t1⟩:=st;obtain ⟨its,v1,pl,_⟩:=I.list hx;have gx:xs[i]?=some (xs[i]'(by omega)):=Y0m _;generalize xs[i]'(by omega)=x at gx;obtain ⟨u,hu,ru⟩:=v1.get gx;refine wpAny_pyNext_enum_item z0 t1 pl.isList (x:=u) (by simpa using hu) hne λ h' a1 a2 a3 a4 a5=>?_;refine ⟨_,rfl,wpAny_letOwnedTupleGo_enum (s:={ s with heap:=h',toks:=s.toks+1 }) a1 λ h'' q1 q2=>?_⟩;have up:∀ b o,b∉[e,it]->s.heap.get? b=some o->h''.get? b=some o:=λ b o hb e=>by
   simp only [Y0b,Y0p,or_false,not_or] at hb;exact (q2.2 b hb.1).trans (a5 b o hb.1 hb.2 e)
  have I1:Inv X pins σ H { s with heap:=h'',toks:=s.toks+1 }:=I.turnedL up hf;have F:=I.fpOk (b:=s.heap.objs.size) (H':=H) (Y09 _) (I.hok.fresh (Y09 _));have h0:X.s₀.heap.get? s.heap.objs.size=none:=by
   cases q:X.s₀.heap.get? s.heap.objs.size with
   | none=>rfl
   | some o=>exact absurd (Y0l (Y0h q) I.sz) (Y1c _)
  have zs:s.heap.objs.size≠e:=Y24 (Y0h z0);have T':=(q2.2 _ zs).trans a3;have I2:Inv X pins σ (upd H s.heap.objs.size (.tup [.int (i:Nat),x])) { s with heap:=h'',toks:=s.toks+1 }:=I1.track F.1 h0 F.2.1 F.2.2.2.2.1 F.2.2.2.2.2 ⟨by show 2<=sizeLine;rw [sizeLine_eq];decide,[.int (i:Nat) s.toks,u],.cons ⟨_,rfl⟩ (.cons ru .nil),⟨_,T',rfl,0,rfl⟩⟩;refine ⟨.ref s.heap.objs.size,_,I2,rfl,⟨_,rfl,F.1,λ xs' hx'=>?_⟩,⟨⟨u,q1⟩,?_⟩,λ b hb=>?_⟩
  ·rw [I.list_inj hx' hx];exact ⟨x,gx,rfl⟩
  ·exact (show ItR h' it l (i+1) true from a2).at λ o q=>(q2.2 _ (Ne.symm hne)).trans q
  ·have hb':=hf b hb;have ne:b≠s.heap.objs.size:=by
    obtain ⟨o,q,_⟩:∃ o,s.heap.get? b=some o/\True:=by
     simp only [Y0b,Y0p,or_false] at hb;rcases hb with rfl | rfl
     ·exact ⟨_,z0,trivial⟩
     ·obtain ⟨o,vs,q,_⟩:=(show ItR s.heap b l i true from t1).rec;exact ⟨o,q,trivial⟩
    exact Y0r (Y0h q)
   rw [zq ne];exact hb'.1
 done:=by
  intro X hP hw hK hc i pins s σ H E I hf st hg;subst hP hw hK;obtain ⟨hi,xs,hx,lx⟩:=hg;obtain ⟨⟨old,z0⟩,t1⟩:=st;obtain ⟨its,v1,pl,_⟩:=I.list hx;refine wpAny_pyNext_enum_end (I.ok.hd hc) z0 t1 pl.isList (by simp;rw [<- v1.length,lx,hi];exact Y09 _) λ h' a1=>⟨rfl,I.turnedL (t':=s.toks) (l:=[e,it]) (λ b o hb q=>?_) hf⟩;simp only [Y0b,Y0p,or_false,not_or] at hb;exact a1 b o hb.2 q
 self:=λ _ _ _ _ _ st h=>by
  obtain ⟨⟨old,z0⟩,_⟩:=st;exact wpAny_pyIter_enum z0 h
section
variable {X:Cx}
theorem Vd:bootBuiltins "enumerate"=some (.type "enumerate"):=by decide +kernel
def z5v (K:Y00)(ta:TA):TI:=λ σ H R=>ta σ H λ vs H1=>∃ l xs,vs=[.ref l]/\SqL K H1 l xs/\R (Ite K l xs.length) H1
theorem BH {a:Expr}{ta:TA}{p pos:Pos}{elts:List Expr}{x1}{pos':Pos} (hg:Gl X "enumerate") (hm:X.mg "enumerate"=none) (ha:PA X [a] ta) (hs:starEach [a] X.env=(false,eval a X.env)::starEach [] X.env) (hs2:(backTo pos (starEach [] X.env)).any (·.1)=false):PI X (.Tuple elts x1 pos') (.Call (.Name "enumerate" p) [a] [] pos) (z5v X.K ta):=by
 intro pins s σ H R I h;refine Call_ (wD I hg hm Vd (Y1d (thn (ha pos pins s σ H _ I h) λ us s1 ⟨vs,H1,I1,r1,q1⟩=>?_) hs hs2));obtain ⟨l,xs,e,hx,q⟩:=q1;subst e;cases r1 with
 | cons r rr =>
  cases rr;cases r;obtain ⟨its,v1,pl,_⟩:=I1.list hx;have lt:l<s1.heap.objs.size:=by
   obtain ⟨o,e,_⟩:=id pl.isList;exact Y0h e
  refine call_enumerate_list pl.isList λ h' a1 a2 a3 k=>?_;refine wpAny_pyIter_enum (s:={ s1 with heap:=h' }) a1 ?_;refine ⟨_,_,_,_,H1,rfl,I1.kept (t':=s1.toks) k,Vc (e:=s1.heap.objs.size+1) (it:=s1.heap.objs.size) (l:=l) (Nat.succ_ne_self _) (Y0r (Nat.lt_succ_of_lt lt)) (Y0r lt) xs.length,⟨⟨_,a1⟩,a2⟩,λ b' hb=>?_,q⟩;have hb':s1.heap.objs.size<=b':=by
   simp only [Y0b,Y0p,or_false] at hb;rcases hb with rfl | rfl
   all_goals first | exact Y09 _ | exact Nat.le_add_right _ _
  exact I1.fpOk hb' (I1.hok.fresh hb')
end
end L2
namespace PI
open PySem L2
inductive D where
 | non | bl (b:Bool) | int (i:Int) | str (x:Str) | tup (xs:List D) | loc (n:Nat) | fl (xs:List D)
inductive O where
 | lst (xs:List D) | dK (kvs:List (Key×D)) | dT (kvs:List (List Key×D)) | obj (x:Str) (fs:List (Str×D))
abbrev Hh:=List O
abbrev En:=List (Option D)
inductive Res (α:Type) where
 | ok (a:α) (h:Hh) | exc (c:Nat) (h:Hh) | no
noncomputable def Res.bind {α β:Type}(r:Res α)(f:α->Hh->Res β):Res β:=match r with
 | .ok a h=>f a h
 | .exc c h=>.exc c h
 | .no=>.no
@[simp] theorem bind_ok {α β:Type}{a:α}{h:Hh}{f:α->Hh->Res β}:(Res.ok a h).bind f=f a h:=rfl
@[simp] theorem bind_exc {α β:Type}{c:Nat}{h:Hh}{f:α->Hh->Res β}:(Res.exc c h:Res α).bind f=.exc c h:=rfl
@[simp] theorem bind_no {α β:Type}{f:α->Hh->Res β}:(Res.no:Res α).bind f=.no:=rfl
inductive RS where
 | nx (ρ:En) (h:Hh) | rt (d:D) (h:Hh) | bk (ρ:En) (h:Hh) | ct (ρ:En) (h:Hh) | ex (c:Nat) (ρ:En) (h:Hh) | no
inductive Tg where
 | one (i:Nat) (p:Pos) | tup (is:List (Nat×Pos)) (p:Pos)
inductive M0 where
 | pop
inductive M1 where
 | append | extend
inductive F1 where
 | str | int | all | abs | any
noncomputable def F1.name:F1->Str
 | .str=>"str" | .int=>"int" | .all=>"all" | .abs=>"abs" | .any=>"any"
inductive Cv where
 | tup (xs:List Str) | int (i:Int) | fn (i:Nat) (x:Str) | oth
 deriving DecidableEq
inductive Cn where
 | int (i:Int) | str (x:Str) | tup (xs:List Str) | dic (kvs:List (Str×Cv)) | exc (c:Nat) (ups:List Nat) | cls (i:Nat) | isc (x:Str) (ys:List Str)
 deriving DecidableEq
set_option genInjectivity false
set_option genSizeOf false
mutual
inductive E where
 | non (p:Pos) | bl (b:Bool) (p:Pos) | int (i:Int) (p:Pos) | str (x:Str) (p:Pos)
 | var (i:Nat) (p:Pos)
 | bin (op:Operator) (a b:E) (p:Pos)
 | un (op:UnaryOp) (a:E) (p:Pos)
 | cmp (op:CmpOp) (a b:E) (p:Pos)
 | and (a b:E) (r:Es) (p:Pos)
 | or (a b:E) (r:Es) (p:Pos)
 | ite (c a b:E) (p:Pos)
 | call (f:Nat) (a:E) (r:Es) (p0 p:Pos)
 | len (a:E) (p0 p:Pos)
 | isi (T:Nat) (a:E) (p0 p1 p:Pos)
 | sub (a i:E) (p:Pos)
 | tup (es:Es) (p:Pos)
 | ofL (l:L)
 | tupL (l:L) (p0 p:Pos)
 | tupE (e:E) (p0 p:Pos)
 | listE (e:E) (p0 p:Pos)
 | cut (a:E) (lo hi:Eo) (p2 p:Pos)
 | revT (a st:E) (p2 p:Pos)
 | dic (p:Pos)
 | m0 (m:M0) (o:E) (p1 p:Pos)
 | m1 (m:M1) (o a:E) (p1 p:Pos)
 | c1 (f:F1) (a:E) (p0 p:Pos)
 | listR (e:E) (p0 p1 p2 p:Pos)
 | cmpN (neg:Bool) (a:E) (p1 p:Pos)
 | join (o a:E) (p1 p:Pos)
 | split (o a:E) (p1 p:Pos)
 | gcon (x:Str) (c:Cn) (p:Pos)
 | gsub (x:Str) (kvs:List (Str×Cv)) (i:E) (p0 p:Pos)
inductive Es where
 | nil | cons (e:E) (r:Es)
inductive Eo where
 | none | some (e:E)
inductive L where
 | disp (es:Es) (p:Pos)
 | comp (elt:E) (t:Tg) (it:I) (c:Es) (NC:List Str) (cap:List (Option Nat)) (sc:Scope) (p:Pos)
inductive I where
 | seq (e:E) | lst (l:L) | rng (a:E) (p0 p:Pos)
 | zip (a b:E) (p0 p:Pos)
 | enum (e:E) (p0 p:Pos)
end
structure Rp where
 c:Str
 d:Str
 pa:Pos
 pc:Pos
 pd:Pos
 p:Pos
noncomputable def Rp.py (e:Expr)(r:Rp):Expr:=.Call (.Attribute e "replace" r.pa) [.Constant (.str r.c) 0 r.pc,.Constant (.str r.d) 0 r.pd] [] r.p
noncomputable def Zq:List Rp->Str->Option Str
 | [],z=>some z
 | r::rs,z=>if z.length+(z.length+1)*r.d.length<=16777216 then Zq rs (Txt.replace z r.c r.d) else none
inductive Fp where
 | c (x:Str) (p:Pos)
 | r (i:Nat) (p0 p:Pos)
noncomputable def Fp.py (N:List Str):Fp->Expr
 | .c x p=>.Constant (.str x) 0 p
 | .r i p0 p=>.FormattedValue (.Name (N.getD i "") p0) 114 none p
inductive Ms where
 | s (x:Str) (p:Pos)
 | f (a b:Fp) (r:List Fp) (p:Pos)
noncomputable def Ms.py (N:List Str):Ms->Expr
 | .s x p=>.Constant (.str x) 0 p
 | .f a b r p=>.JoinedStr (a.py N::b.py N::r.map (Fp.py N)) p
structure Xt where
 neg:Bool
 x:Str
 d:Option Nat
 pe:Pos
 p0:Pos
 p1:Pos
 p:Pos
 pn:Pos
noncomputable def Xt.call (e:Str)(t:Xt):Expr:=.Call (.Name "isinstance" t.p0) [.Name e t.pe,.Name t.x t.p1] [] t.p
noncomputable def Xt.py (e:Str)(t:Xt):Expr:=match t.neg with
 | true=>.UnaryOp .Not (t.call e) t.pn
 | false=>t.call e
noncomputable def Xt.is (u:List Nat)(t:Xt):Bool:=match t.d with
 | some d=>u.contains d
 | none=>true
noncomputable def Xt.val (u:List Nat)(t:Xt):Bool:=match t.neg with
 | true=>!(t.is u)
 | false=>t.is u
inductive Xv where
 | and (a b:Xt) (r:List Xt) (p:Pos) | lst (ts:List Xt) (p:Pos) | one (t:Xt)
noncomputable def Xv.py (e:Str):Xv->Expr
 | .and a b r p=>.BoolOp .And (a.py e::b.py e::r.map (Xt.py e)) p
 | .lst ts p=>.List (ts.map (Xt.py e)) p
 | .one t=>t.py e
mutual
inductive S where
 | set (i:Nat) (e:E) (p1 p:Pos)
 | ret (e:E) (p:Pos)
 | iff (c:E) (a b:Ss) (p:Pos)
 | ex (e:E) (p:Pos)
 | put (o i v:E) (p1 p:Pos)
 | forr (t:Tg) (it:I) (b:Ss) (p:Pos)
 | whil (c:E) (b:Ss) (p:Pos)
 | raw (st:Stmt)
 | rep (i j:Nat) (p0:Pos) (rs:List Rp) (p1 p:Pos)
inductive Ss where
 | nil | cons (s:S) (r:Ss)
end
set_option genInjectivity true
set_option genSizeOf true
structure Nm where
 N:List Str
 F:List Str
 G:List (Str×Cn):=[]
noncomputable def qt:Nat->Str
 | 0=>"int" | 1=>"bool" | 2=>"str" | 3=>"tuple" | _=>"list"
noncomputable def Ug:Nat->String
 | 0=>"int" | 1=>"bool" | 2=>"str" | 3=>"tuple" | _=>"list"
noncomputable def Tg.py (N:List Str):Tg->Expr
 | .one i p=>.Name (N.getD i "") p
 | .tup is p=>.Tuple (is.map λ q=>.Name (N.getD q.1 "") q.2) 0 p
mutual
noncomputable def E.py (n:Nm):E->Expr
 | .non p=>.Constant .none 0 p
 | .bl b p=>.Constant (.bool b) 0 p
 | .int i p=>.Constant (.int i) 0 p
 | .str x p=>.Constant (.str x) 0 p
 | .var i p=>.Name (n.N.getD i "") p
 | .bin op a b p=>.BinOp (a.py n) op (b.py n) p
 | .un op a p=>.UnaryOp op (a.py n) p
 | .cmp op a b p=>.Compare (a.py n) [op] [b.py n] p
 | .and a b r p=>.BoolOp .And (a.py n::b.py n::r.py n) p
 | .or a b r p=>.BoolOp .Or (a.py n::b.py n::r.py n) p
 | .ite c a b p=>.IfExp (c.py n) (a.py n) (b.py n) p
 | .call f a r p0 p=>.Call (.Name (n.F.getD f "") p0) (a.py n::r.py n) [] p
 | .len a p0 p=>.Call (.Name "len" p0) [a.py n] [] p
 | .isi T a p0 p1 p=>.Call (.Name "isinstance" p0) [a.py n,.Name (qt T) p1] [] p
 | .sub a i p=>.Subscript (a.py n) (i.py n) p
 | .tup es p=>.Tuple (es.py n) 0 p
 | .ofL l=>l.py n
 | .tupL l p0 p=>.Call (.Name "tuple" p0) [l.py n] [] p
 | .tupE e p0 p=>.Call (.Name "tuple" p0) [e.py n] [] p
 | .listE e p0 p=>.Call (.Name "list" p0) [e.py n] [] p
 | .cut a lo hi p2 p=>.Subscript (a.py n) (.Slice (lo.py n) (hi.py n) .none p2) p
 | .revT a st p2 p=>.Subscript (a.py n) (.Slice none none (some (st.py n)) p2) p
 | .dic p=>.Dict [] [] p
 | .m0 m o p1 p=>.Call (.Attribute (o.py n) (match m with | .pop=>"pop") p1) [] [] p
 | .m1 m o a p1 p=>.Call (.Attribute (o.py n) (match m with | .append=>"append" | .extend=>"extend") p1) [a.py n] [] p
 | .c1 f a p0 p=>.Call (.Name f.name p0) [a.py n] [] p
 | .cmpN neg a p1 p=>.Compare (a.py n) [if neg then .NotEq else .Eq] [.List [] p1] p
 | .listR e p0 p1 p2 p=>.Call (.Name "list" p0) [.Call (.Name "reversed" p1) [e.py n] [] p2] [] p
 | .join o a p1 p=>.Call (.Attribute (o.py n) "join" p1) [a.py n] [] p
 | .split o a p1 p=>.Call (.Attribute (o.py n) "split" p1) [a.py n] [] p
 | .gcon x _ p=>.Name x p
 | .gsub x _ i p0 p=>.Subscript (.Name x p0) (i.py n) p
noncomputable def Eo.py (n:Nm):Eo->Option Expr
 | .none=>.none
 | .some e=>.some (e.py n)
noncomputable def L.py (n:Nm):L->Expr
 | .disp es p=>.List (es.py n) p
 | .comp elt t it c NC cap sc p=>.ListComp (elt.py ⟨NC,n.F,n.G⟩) [⟨t.py NC,it.py n,c.py ⟨NC,n.F,n.G⟩,0⟩] sc p
noncomputable def I.py (n:Nm):I->Expr
 | .seq e=>e.py n
 | .lst l=>l.py n
 | .rng a p0 p=>.Call (.Name "range" p0) [a.py n] [] p
 | .zip a b p0 p=>.Call (.Name "zip" p0) [a.py n,b.py n] [] p
 | .enum e p0 p=>.Call (.Name "enumerate" p0) [e.py n] [] p
noncomputable def Es.py (n:Nm):Es->List Expr
 | .nil=>[]
 | .cons e r=>e.py n::r.py n
end
mutual
noncomputable def S.py (n:Nm):S->Stmt
 | .set i e p1 p=>.Assign [.Name (n.N.getD i "") p1] (e.py n) p
 | .ret e p=>.Return (some (e.py n)) p
 | .iff c a b p=>.If (c.py n) (a.py n) (b.py n) p
 | .ex e p=>.Expr (e.py n) p
 | .put o i v p1 p=>.Assign [.Subscript (o.py n) (i.py n) p1] (v.py n) p
 | .forr t it b p=>.For (t.py n.N) (it.py n) (b.py n) [] p
 | .whil c b p=>.While (c.py n) (b.py n) [] p
 | .raw st=>st
 | .rep i j p0 rs p1 p=>.Assign [.Name (n.N.getD i "") p1] (rs.foldl Rp.py (.Name (n.N.getD j "") p0)) p
noncomputable def Ss.py (n:Nm):Ss->List Stmt
 | .nil=>[]
 | .cons s r=>s.py n::r.py n
end
mutual
noncomputable def D.pd (h:Hh):D->Option PyData
 | .non=>some .none
 | .bl b=>some (.bool b)
 | .int i=>some (.int i)
 | .str x=>some (.str x)
 | .tup xs=>(D.pds h xs).map .tuple
 | .loc _=>none
 | .fl xs=>(D.pds h xs).map .list
noncomputable def D.pds (h:Hh):List D->Option (List PyData)
 | []=>some []
 | x::r=>match D.pd h x,D.pds h r with
  | some a,some b=>some (a::b)
  | _,_=>none
end
noncomputable def yn:D->Option Key
 | .int i=>some (.inl i)
 | .str x=>some (.inr x)
 | _=>none
noncomputable def Q4:List D->Option (List Key)
 | []=>some []
 | d::r=>match yn d,Q4 r with
  | some k,some ks=>some (k::ks)
  | _,_=>none
noncomputable def yD:D->Option (List Key)
 | .tup ds=>Q4 ds
 | _=>none
noncomputable def qw {κ:Type}[DecidableEq κ](kvs:List (κ×D))(k:κ):Option D:=(kvs.find? λ kv=>decide (kv.1=k)).map (·.2)
noncomputable def rd (h:Hh)(n:Nat):Option (List D):=match h[n]? with
 | some (.lst xs)=>some xs
 | _=>none
noncomputable def pdT (h:Hh):D->Option PyData
 | .loc n=>(rd h n).bind λ xs=>(D.pds h xs).map .list
 | d=>D.pd h d
noncomputable def isI (h:Hh):D->Nat->Option Bool
 | .non,_=>some false
 | .bl _,T=>some (T==0||T==1)
 | .int _,T=>some (T==0)
 | .str _,T=>some (T==2)
 | .tup _,T=>some (T==3)
 | .loc n,T=>(rd h n).map λ _=>T==4
 | .fl _,T=>some (T==4)
noncomputable def zG (i:Int):Bool:=decide (Builtin.Int.intBits i<=2 ^ 20)
noncomputable def eqR (neg:Bool)(u v:Option PyData)(h:Hh):Res D:=match u,v with
 | some u,some v=>if u.canLay0=true/\v.canLay0=true/\u.depth<=60 then .ok (.bl (if neg then !PyData.eqv u v else PyData.eqv u v)) h else .no
 | _,_=>.no
noncomputable def i2 (a b:D)(f:Int->Int->Res D):Res D:=match a,b with
 | .int i,.int j=>f i j
 | _,_=>.no
noncomputable def BI (a b:D)(h:Hh):Res D:=match a,b with
 | .int i,.int j=>.ok (.int (i+j)) h
 | .str x,.str y=>if x.length+y.length<=1000000 then .ok (.str (x++y)) h else .no
 | .loc n,.loc m=>match h[n]?,h[m]? with
  | some (.lst xs),some (.lst ys)=>if xs.length+ys.length<=1000000 then .ok (.loc h.length) (h++[.lst (xs++ys)]) else .no
  | _,_=>.no
 | .tup xs,.tup ys=>if xs.length+ys.length<=1000000 then .ok (.tup (xs++ys)) h else .no
 | _,_=>.no
noncomputable def z5w (a b:D)(h:Hh):Res D:=match b with
 | .int j=>match a with
  | .int i=>if zG i=true/\zG j=true then .ok (.int (i*j)) h else .no
  | .str x=>if 0<=j/\j<=1000/\x.length<=1000 then .ok (.str (Txt.mul x j)) h else .no
  | .loc n=>match h[n]? with
   | some (.lst xs)=>if 0<=j/\j<=1000/\xs.length<=1000 then .ok (.loc h.length) (h++[.lst (List.replicate j.toNat xs).flatten]) else .no
   | _=>.no
  | _=>.no
 | _=>.no
noncomputable def jr (op:Operator)(a b:D)(h:Hh):Res D:=match op with
 | .Add=>BI a b h
 | .Mult=>z5w a b h
 | .Sub=>i2 a b λ i j=>.ok (.int (i-j)) h
 | .FloorDiv=>i2 a b λ i j=>if 0<j/\j<1267650600228229401496703205376 then .ok (.int (i/j)) h else .no
 | .Mod=>i2 a b λ i j=>if 0<j then .ok (.int (i%j)) h else .no
 | .Pow=>i2 a b λ i j=>if 0<=j/\j<=1000000/\i.natAbs<2 ^ 64 then .ok (.int (i ^ j.toNat)) h else .no
 | .LShift=>i2 a b λ i j=>if zG i=true/\0<=j/\j<=1000000 then .ok (.int (i*2 ^ j.toNat)) h else .no
 | .RShift=>i2 a b λ i j=>if 0<=j then .ok (.int (i/2 ^ j.toNat)) h else .no
 | .BitAnd=>i2 a b λ i j=>.ok (.int (Builtin.bitAnd i j)) h
 | .BitOr=>i2 a b λ i j=>.ok (.int (Builtin.bitOr i j)) h
 | _=>.no
noncomputable def vOf:D->V
 | .bl b=>.bl b
 | .int i=>.int i
 | .str x=>.str x
 | _=>.non
noncomputable def Zr:D->Bool
 | .non | .bl _ | .int _ | .str _=>true
 | _=>false
noncomputable def ngB (neg b:Bool):Bool:=if neg then !b else b
@[simp] theorem ngB_f {b:Bool}:ngB false b=b:=rfl
@[simp] theorem ngB_t {b:Bool}:ngB true b=!b:=rfl
noncomputable def isN:D->Bool
 | .non=>true
 | _=>false
noncomputable def z1j:D->Bool
 | .tup _=>true
 | d=>Zr d
noncomputable def yP (neg:Bool)(x:D)(ds:List D)(h:Hh):Res D:=if Zr x=true/\ds.all Zr=true then .ok (.bl (ngB neg (ds.any λ y=>eqV (vOf y) (vOf x)))) h else if neg=false/\isN x=true/\ds.all z1j=true then .ok (.bl (ds.any isN)) h else .no
noncomputable def inD (neg:Bool)(x y:D)(h:Hh):Res D:=match y with
 | .tup ds=>yP neg x ds h
 | .fl ds=>yP neg x ds h
 | .loc n=>match h[n]? with
  | some (.lst ds)=>yP neg x ds h
  | some (.dK kvs)=>(match yn x with | some k=>.ok (.bl (ngB neg (qw kvs k).isSome)) h | none=>(match kvs with | []=>(match yD x with | some _=>.ok (.bl (ngB neg false)) h | none=>.no) | _=>.no))
  | some (.dT kvs)=>(match yD x with | some k=>.ok (.bl (ngB neg (qw kvs k).isSome)) h | none=>.no)
  | _=>.no
 | .str z=>(match x with | .str u=>.ok (.bl (ngB neg (!(Builtin.Str.occurrences z u 0 z.length 1).isEmpty))) h | _=>.no)
 | _=>.no
noncomputable def isV (neg:Bool)(a b:D)(h:Hh):Res D:=match b with
 | .non=>.ok (.bl (ngB neg (isN a))) h
 | .bl y=>match a with
  | .bl x=>.ok (.bl (ngB neg (x==y))) h
  | _=>.no
 | _=>.no
noncomputable def jf (op:CmpOp)(a b:D)(h:Hh):Res D:=match op with
 | .Lt=>i2 a b λ i j=>.ok (.bl (decide (i<j))) h
 | .LtE=>i2 a b λ i j=>.ok (.bl (decide (i<=j))) h
 | .Gt=>i2 a b λ i j=>.ok (.bl (decide (j<i))) h
 | .GtE=>i2 a b λ i j=>.ok (.bl (decide (j<=i))) h
 | .Eq=>eqR false (pdT h a) (pdT h b) h
 | .NotEq=>eqR true (pdT h a) (pdT h b) h
 | .In=>inD false a b h
 | .NotIn=>inD true a b h
 | .Is=>isV false a b h
 | .IsNot=>isV true a b h
noncomputable def unD (op:UnaryOp)(a:D)(h:Hh):Res D:=match op,a with
 | .Not,.bl b=>.ok (.bl (!b)) h
 | .Invert,.int i=>.ok (.int (Builtin.bitNot i)) h
 | .USub,.int i=>.ok (.int (-i)) h
 | _,_=>.no
noncomputable def jL (a:D)(h:Hh):Res D:=match a with
 | .tup xs=>.ok (.int xs.length) h
 | .loc n=>match rd h n with | some xs=>.ok (.int xs.length) h | none=>.no
 | .str x=>if x.length<=1000000 then .ok (.int x.length) h else .no
 | .fl xs=>.ok (.int xs.length) h
 | _=>.no
noncomputable def zY (a i:D)(h:Hh):Res D:=match a,i with
 | .tup xs,.int k=>match atI xs k with | some d=>.ok d h | none=>.no
 | .fl xs,.int k=>match atI xs k with | some d=>.ok d h | none=>.no
 | .str x,.int k=>if x.length<=1000000 then (match atI x.cps.toList k with | some c=>.ok (.str ⟨#[c]⟩) h | none=>.no) else .no
 | .loc n,y=>match h[n]? with
  | some (.dK kvs)=>match (yn y).bind (λ k=>qw kvs k) with | some d=>.ok d h | none=>.no
  | some (.dT kvs)=>match (yD y).bind (λ k=>qw kvs k) with | some d=>.ok d h | none=>.no
  | some (.lst xs)=>match y with
   | .int k=>match atI xs k with | some d=>.ok d h | none=>.no
   | _=>.no
  | _=>.no
 | _,_=>.no
noncomputable def new (o:O)(h:Hh):Res D:=.ok (.loc h.length) (h++[o])
noncomputable def BJ {κ:Type}[DecidableEq κ](kvs:List (κ×D))(k:κ)(v:D):List (κ×D):=if (kvs.any λ kv=>decide (kv.1=k))=true then kvs.map (λ kv=>if kv.1=k then (kv.1,v) else kv) else kvs++[(k,v)]
noncomputable def onL (x:D)(h:Hh)(r:Res D):Res D:=match x with
 | .loc n=>match h[n]? with
  | some (.lst _)=>r
  | _=>.no
 | _=>.no
noncomputable def m0D (m:M0)(o:D)(h:Hh):Res D:=match o with
 | .loc n=>match h[n]? with
  | some (.lst xs)=>match m with
   | .pop=>match xs.getLast? with | some x=>.ok x (h.set n (.lst xs.dropLast)) | none=>.no
  | _=>.no
 | _=>.no
noncomputable def m1D (m:M1)(o a:D)(h:Hh):Res D:=match o with
 | .loc n=>match h[n]? with
  | some (.lst xs)=>match m with
   | .append=>if xs.length<1000000 then .ok .non (h.set n (.lst (xs++[a]))) else .no
   | .extend=>match a with
    | .loc m=>match h[m]? with
     | some (.lst ys)=>if xs.length+ys.length<=1000000 then .ok .non (h.set n (.lst (xs++ys))) else .no
     | _=>.no
    | .tup ys=>if xs.length+ys.length<=1000000 then .ok .non (h.set n (.lst (xs++ys))) else .no
    | _=>.no
  | _=>.no
 | _=>.no
noncomputable def Q5 (o i v:D)(h:Hh):Option Hh:=match o with
 | .loc n=>match h[n]? with
  | some (.lst xs)=>match i with
   | .int k=>(ixN xs.length k).map λ j=>h.set n (.lst (xs.set j v))
   | _=>none
  | some (.dK kvs)=>(yn i).bind λ k=>if kvs.length<1000000 then some (h.set n (.dK (BJ kvs k v))) else none
  | _=>none
 | _=>none
noncomputable def jc (xs:List D)(lo hi:Option Int):List D:=(xs.drop (HT.sIx xs.length 0 lo)).take (HT.sIx xs.length xs.length hi-HT.sIx xs.length 0 lo)
noncomputable def jS (a:D)(lo hi:Option Int)(h:Hh):Res D:=match a with
 | .loc n=>match rd h n with
  | some xs=>new (.lst (jc xs lo hi)) h
  | none=>.no
 | .fl xs=>new (.lst (jc xs lo hi)) h
 | .str x=>if x.length<=1000000 then .ok (.str (Txt.slice x lo hi)) h else .no
 | .tup xs=>if HT.sIx xs.length 0 lo=0/\HT.sIx xs.length xs.length hi=xs.length then .ok (.tup xs) h else .ok (.tup (jc xs lo hi)) h
 | _=>.no
noncomputable def GA (d:D)(h:Hh):Res (Option Int):=match d with | .int i=>.ok (some i) h | _=>.no
noncomputable def wz (d:D)(h:Hh):Option (List D):=match d with
 | .tup xs=>some xs
 | .fl xs=>some xs
 | .loc n=>rd h n
 | _=>none
abbrev Ck:=List (Nat×List D)
noncomputable def stay (c:Ck)(h:Hh):Prop:=∀ p∈c,rd h p.1=some p.2
noncomputable def wM (t:Tg)(d:D)(ρ:En):Option En:=match t with
 | .one i _=>some (ρ.set i (some d))
 | .tup is _=>match d with
  | .tup xs=>if xs.length=is.length then some ((is.zip xs).foldl (λ ρ q=>ρ.set q.1.1 (some q.2)) ρ) else none
  | _=>none
noncomputable def zS (cap:List (Option Nat))(ρ:En):En:=cap.map λ o=>o.bind λ i=>(ρ[i]?).bind id
noncomputable def zz (t:Tg)(ρ:En)(c:En->Hh->Res Bool)(e:En->Hh->Res D)(x:D)(h:Hh):Res (Option D):=match wM t x ρ with
 | some ρ'=>(c ρ' h).bind λ b h1=>if b then (e ρ' h1).bind λ d h2=>.ok (some d) h2 else .ok none h1
 | none=>.no
noncomputable def jd (t:Tg)(b:En->Hh->RS)(x:D)(ρ:En)(h:Hh):RS:=match wM t x ρ with
 | some ρ'=>b ρ' h
 | none=>.no
noncomputable def GB (acc:List D):Option D->List D
 | some d=>acc++[d]
 | none=>acc
@[simp] theorem addO_some {acc:List D}{d:D}:GB acc (some d)=acc++[d]:=rfl
@[simp] theorem addO_none {acc:List D}:GB acc none=acc:=rfl
open Classical in
noncomputable def zr (c:Ck)(f:D->Hh->Res (Option D)):List D->List D->Hh->Res (List D)
 | [],acc,h=>if stay c h then .ok acc h else .no
 | x::r,acc,h=>if stay c h then (f x h).bind λ o h'=>zr c f r (GB acc o) h' else .no
open Classical in
noncomputable def zZ (c:Ck)(f:D->En->Hh->RS):List D->En->Hh->RS
 | [],ρ,h=>if stay c h then .nx ρ h else .no
 | x::r,ρ,h=>if stay c h then (match f x ρ h with
   | .nx ρ' h'=>zZ c f r ρ' h'
   | .ct ρ' h'=>zZ c f r ρ' h'
   | .bk ρ' h'=>.nx ρ' h'
   | o=>o) else .no
noncomputable def whL (c:En->Hh->Res Bool)(b:En->Hh->RS):Nat->En->Hh->RS
 | 0,_,_=>.no
 | n+1,ρ,h=>match c ρ h with
  | .ok true h1=>(match b ρ h1 with
   | .nx ρ' h'=>whL c b n ρ' h'
   | .ct ρ' h'=>whL c b n ρ' h'
   | .bk ρ' h'=>.nx ρ' h'
   | o=>o)
  | .ok false h1=>.nx ρ h1
  | .exc k h1=>.ex k ρ h1
  | .no=>.no
theorem Zs {c:En->Hh->Res Bool}{b:En->Hh->RS}:∀ (n:Nat) (ρ:En) (h:Hh),whL c b n ρ h≠.no->whL c b (n+1) ρ h=whL c b n ρ h
 | 0,ρ,h,z=>absurd rfl z
 | n+1,ρ,h,z=>by
  rw [whL] at z ⊢;rw [whL];cases ec:c ρ h with
  | ok t h1 =>
   cases t with
   | true =>
    rw [ec] at z;simp only at z ⊢;cases eb:b ρ h1 with
    | nx ρ' h'=>rw [eb] at z;exact Zs n ρ' h' z
    | ct ρ' h'=>rw [eb] at z;exact Zs n ρ' h' z
    | _=>rfl
   | false=>rfl
  | _=>rfl
theorem GC {c:En->Hh->Res Bool}{b:En->Hh->RS}{n m:Nat}{ρ:En}{h:Hh}(hl:n<=m)(z:whL c b n ρ h≠.no):whL c b m ρ h=whL c b n ρ h:=by
 induction hl with
 | refl=>rfl
 | step _ ih=>rw [Zs _ _ _ (by rw [ih];exact z),ih]
open Classical in
noncomputable def whR (c:En->Hh->Res Bool)(b:En->Hh->RS)(ρ:En)(h:Hh):RS:=if e:∃ n,whL c b n ρ h≠.no then whL c b (Classical.choose e) ρ h else .no
theorem Yg {c:En->Hh->Res Bool}{b:En->Hh->RS}{n:Nat}{ρ:En}{h:Hh}{r:RS}(e:whL c b n ρ h=r)(z:r≠.no):whR c b ρ h=r:=by
 have ex:∃ n,whL c b n ρ h≠.no:=⟨n,by rw [e];exact z⟩;unfold whR;rw [dif_pos ex];have z2:=Classical.choose_spec ex;rw [<- GC (Nat.le_max_left (Classical.choose ex) n) z2,GC (Nat.le_max_right (Classical.choose ex) n) (by rw [e];exact z),e]
theorem Wg {c:En->Hh->Res Bool}{b:En->Hh->RS}{ρ:En}{h:Hh}(z:whR c b ρ h≠.no):∃ n,whL c b n ρ h=whR c b ρ h:=by
 unfold whR at z ⊢;split at z
 ·rename_i e;exact ⟨_,by rw [dif_pos e]⟩
 ·exact absurd rfl z
theorem Q6 {c:En->Hh->Res Bool}{b:En->Hh->RS}{ρ ρ':En}{h h1 h':Hh}(ec:c ρ h=.ok true h1)(eb:b ρ h1=.nx ρ' h'):whR c b ρ h=whR c b ρ' h':=by
 by_cases z:whR c b ρ' h'=.no
 ·by_cases z2:whR c b ρ h=.no
  ·rw [z,z2]
  ·obtain ⟨n,e⟩:=Wg z2;cases n with
   | zero=>rw [<- e] at z2;exact absurd rfl z2
   | succ n =>
    rw [whL,ec] at e;simp only [eb] at e;rw [<- Yg e z2]
 ·obtain ⟨n,e⟩:=Wg z;exact Yg (n:=n+1) (by rw [whL,ec];simp only [eb];exact e) z
theorem Q7 {c:En->Hh->Res Bool}{b:En->Hh->RS}{ρ:En}{h h1:Hh}(ec:c ρ h=.ok false h1):whR c b ρ h=.nx ρ h1 :=
 Yg (n:=1) (by rw [whL,ec]) (by simp)
noncomputable def tru (d:D)(h:Hh)(f:Bool->Hh->Res D):Res D:=match d with
 | .bl b=>f b h
 | _=>.no
noncomputable def qP:List D->Option (List Bool)
 | []=>some []
 | .bl b::r=>(qP r).map (b::·)
 | _::_=>none
noncomputable def qx:List D->Option (List Str)
 | []=>some []
 | .str x::r=>(qx r).map (x::·)
 | _::_=>none
noncomputable def c1D (f:F1)(a:D)(h:Hh):Res D:=match f,a with
 | .str,.int i=>if i.natAbs.log2<1920 then .ok (.str (toString i)) h else .no
 | .str,.str x=>.ok (.str x) h
 | .int,.int i=>.ok (.int i) h
 | .int,.bl b=>.ok (.int (if b then 1 else 0)) h
 | .int,.str x=>(match PySem.intText? x with | some n=>if x.length<=640 then .ok (.int n) h else .no | none=>.no)
 | .all,.loc n=>(match (rd h n).bind qP with | some bs=>.ok (.bl (bs.all id)) h | none=>.no)
 | .abs,.int i=>.ok (.int (if i<0 then -i else i)) h
 | .any,.loc n=>(match (rd h n).bind qP with | some bs=>.ok (.bl (bs.any id)) h | none=>.no)
 | _,_=>.no
noncomputable def onS (x:D)(r:Res D):Res D:=match x with | .str _=>r | _=>.no
noncomputable def Zt (x y:D)(h:Hh):Res D:=match x,y with
 | .str sep,.loc n=>(match (rd h n).bind qx with | some ys=>if (ys.map (·.length)).sum+ys.length*sep.length<=16777216 then .ok (.str (Txt.join sep ys)) h else .no | none=>.no)
 | .str sep,.tup ds=>(match qx ds with | some ys=>if (ys.map (·.length)).sum+ys.length*sep.length<=16777216 then .ok (.str (Txt.join sep ys)) h else .no | none=>.no)
 | _,_=>.no
noncomputable def Zu (x y:D)(h:Hh):Res D:=match x,y with
 | .str z,.str y=>if (y.length==0)=false/\z.length<=1000000/\(Builtin.Str.partsBetween z (Builtin.Str.occurrences z y 0 z.length (z.length+1)) y.length).length<=1000000/\(Txt.split z y).length<=1000000 then new (.lst ((Txt.split z y).map .str)) h else .no
 | _,_=>.no
noncomputable def z3e {α:Type}(f:Str)(v:α):List (Str×α)->List (Str×α)
 | []=>[(f,v)]
 | (g,x)::r=>if g=f then (g,v)::r else (g,x)::z3e f v r
noncomputable def qg (neg:Bool)(x:D)(h:Hh):Res D:=match x with
 | .fl xs=>.ok (.bl (ngB neg xs.isEmpty)) h
 | .loc n=>(match rd h n with | some xs=>.ok (.bl (ngB neg xs.isEmpty)) h | none=>.no)
 | _=>.no
noncomputable def lrD (x:D)(h:Hh):Res D:=match x with
 | .fl xs=>new (.lst xs.reverse) h
 | .loc n=>(match rd h n with | some xs=>new (.lst xs.reverse) h | none=>.no)
 | _=>.no
noncomputable def Cv.d:Cv->D
 | .tup xs=>.tup (xs.map .str)
 | .int i=>.int i
 | .fn _ _=>.non
 | .oth=>.non
noncomputable def Cv.isFn:Cv->Bool
 | .fn _ _=>true
 | .oth=>true
 | _=>false
noncomputable def BK (kvs:List (Str×Cv))(y:D)(h:Hh):Res D:=match y with
 | .str k=>(match kvs.lookup k with | some c=>if c.isFn then .no else .ok c.d h | none=>.no)
 | _=>.no
noncomputable def fnOf (kvs:List (Str×Cv))(y:D):Option Nat:=match y with
 | .str k=>(match kvs.lookup k with | some (.fn i _)=>some i | _=>none)
 | _=>none
noncomputable def z7x (d:D)(h:Hh):D:=match d with
 | .loc n=>(match rd h n with | some xs=>.tup xs | none=>.non)
 | d=>d
@[simp] theorem unpD_tup {xs:List D}{h:Hh}:z7x (.tup xs) h=.tup xs:=rfl
noncomputable def Uh (x y:D)(h:Hh):Res D:=match x with
 | .loc n=>(match rd h n with | some xs=>(match y with | .int i=>if i=-1 then new (.lst xs.reverse) h else .no | _=>.no) | none=>.no)
 | .tup xs=>(match y with | .int i=>if i=-1 then .ok (.tup xs.reverse) h else .no | _=>.no)
 | _=>.no
noncomputable def Ve (x:D)(h:Hh):Option (Ck×List D):=match x with
 | .tup xs=>some ([],xs)
 | .fl xs=>some ([],xs)
 | .loc n=>(rd h n).map λ xs=>([(n,xs)],xs)
 | _=>none
noncomputable def qi (q:D×D):D:=.tup [q.1,q.2]
noncomputable def BL (x y:D)(h:Hh):Res (Ck×List D):=match Ve x h with
 | some p=>(match Ve y h with
  | some q=>.ok (p.1++q.1,(p.2.zip q.2).map qi) h
  | none=>.no)
 | none=>.no
noncomputable def jT:Nat->List D->List D
 | _,[]=>[]
 | k,x::r=>.tup [.int (k:Nat),x]::jT (k+1) r
noncomputable def Q8 (x:D)(h:Hh):Res (Ck×List D):=match x with
 | .loc n=>match rd h n with
  | some xs=>.ok ([(n,xs)],jT 0 xs) h
  | none=>.no
 | _=>.no
noncomputable def Xv.run (u:List Nat)(h:Hh):Xv->D×Hh
 | .and a b r _=>(.bl (a.val u&&(b.val u&&r.all (Xt.val u))),h)
 | .lst ts _=>(.loc h.length,h++[.lst (ts.map λ t=>.bl (t.val u))])
 | .one t=>(.bl (t.val u),h)
noncomputable section
variable (cl:Nat->List D->Hh->Res D)
mutual
noncomputable def E.ev:E->En->Hh->Res D
 | .non _,_,h=>.ok .non h
 | .bl b _,_,h=>.ok (.bl b) h
 | .int i _,_,h=>.ok (.int i) h
 | .str x _,_,h=>.ok (.str x) h
 | .var i _,ρ,h=>match ρ[i]? with | some (some d)=>.ok d h | _=>.no
 | .bin op a b _,ρ,h=>(a.ev ρ h).bind λ x h1=>(b.ev ρ h1).bind λ y h2=>jr op x y h2
 | .un op a _,ρ,h=>(a.ev ρ h).bind λ x h1=>unD op x h1
 | .cmp op a b _,ρ,h=>(a.ev ρ h).bind λ x h1=>(b.ev ρ h1).bind λ y h2=>jf op x y h2
 | .and a b r _,ρ,h=>(a.ev ρ h).bind λ x h1=>tru x h1 λ c h1=>if c then (b.ev ρ h1).bind λ y h2=>r.evAnd ρ y h2 else .ok (.bl false) h1
 | .or a b r _,ρ,h=>(a.ev ρ h).bind λ x h1=>tru x h1 λ c h1=>if c then .ok (.bl true) h1 else (b.ev ρ h1).bind λ y h2=>r.evOr ρ y h2
 | .ite c a b _,ρ,h=>(c.ev ρ h).bind λ x h1=>tru x h1 λ t h1=>if t then a.ev ρ h1 else b.ev ρ h1
 | .call f a r _ _,ρ,h=>(a.ev ρ h).bind λ x h1=>(r.ev ρ h1).bind λ xs h2=>cl f (x::xs) h2
 | .len a _ _,ρ,h=>(a.ev ρ h).bind λ x h1=>jL x h1
 | .isi T a _ _ _,ρ,h=>(a.ev ρ h).bind λ x h1=>match isI h1 x T with | some b=>.ok (.bl b) h1 | none=>.no
 | .sub a i _,ρ,h=>(a.ev ρ h).bind λ x h1=>(i.ev ρ h1).bind λ y h2=>zY x y h2
 | .tup es _,ρ,h=>(es.ev ρ h).bind λ xs h1=>if xs.length<=1000 then .ok (.tup xs) h1 else .no
 | .ofL l,ρ,h=>(l.ev ρ h).bind λ xs h1=>new (.lst xs) h1
 | .tupL l _ _,ρ,h=>(l.ev ρ h).bind λ xs h1=>.ok (.tup xs) h1
 | .tupE e _ _,ρ,h=>(e.ev ρ h).bind λ x h1=>match wz x h1 with | some xs=>.ok (.tup xs) h1 | none=>.no
 | .listE e _ _,ρ,h=>(e.ev ρ h).bind λ x h1=>match wz x h1 with | some xs=>new (.lst xs) h1 | none=>.no
 | .cut a lo hi _ _,ρ,h=>(a.ev ρ h).bind λ x h1=>(lo.ev ρ h1).bind λ l h2=>(hi.ev ρ h2).bind λ u h3=>jS x l u h3
 | .revT a st _ _,ρ,h=>(a.ev ρ h).bind λ x h1=>(st.ev ρ h1).bind λ y h2=>Uh x y h2
 | .dic _,_,h=>new (.dK []) h
 | .m0 m o _ _,ρ,h=>(o.ev ρ h).bind λ x h1=>m0D m x h1
 | .m1 m o a _ _,ρ,h=>(o.ev ρ h).bind λ x h1=>onL x h1 ((a.ev ρ h1).bind λ y h2=>m1D m x y h2)
 | .c1 f a _ _,ρ,h=>(a.ev ρ h).bind λ x h1=>c1D f x h1
 | .cmpN neg a _ _,ρ,h=>(a.ev ρ h).bind λ x h1=>qg neg x h1
 | .listR e _ _ _ _,ρ,h=>(e.ev ρ h).bind λ x h1=>lrD x h1
 | .join o a _ _,ρ,h=>(o.ev ρ h).bind λ x h1=>onS x ((a.ev ρ h1).bind λ y h2=>Zt x y h2)
 | .split o a _ _,ρ,h=>(o.ev ρ h).bind λ x h1=>onS x ((a.ev ρ h1).bind λ y h2=>Zu x y h2)
 | .gcon _ c _,_,h=>match c with | .int i=>.ok (.int i) h | .str x=>.ok (.str x) h | .tup xs=>.ok (.tup (xs.map .str)) h | .dic _=>.no | .exc _ _=>.no | .cls _=>.no | .isc _ _=>.no
 | .gsub _ kvs i _ _,ρ,h=>(i.ev ρ h).bind λ y h1=>BK kvs y h1
noncomputable def Eo.ev:Eo->En->Hh->Res (Option Int)
 | .none,_,h=>.ok none h
 | .some e,ρ,h=>(e.ev ρ h).bind λ d h1=>GA d h1
noncomputable def L.ev:L->En->Hh->Res (List D)
 | .disp es _,ρ,h=>(es.ev ρ h).bind λ xs h1=>if xs.length<=1000 then .ok xs h1 else .no
 | .comp elt t it c _ cap _ _,ρ,h=>(it.ev ρ h).bind λ q h1=>if q.2.length<=1000000 then zr q.1 (zz t (zS cap ρ) (λ ρ' h2=>c.evC ρ' h2) (λ ρ' h2=>elt.ev ρ' h2)) q.2 [] h1 else .no
noncomputable def I.ev:I->En->Hh->Res (Ck×List D)
 | .seq e,ρ,h=>(e.ev ρ h).bind λ x h1=>match x with
  | .tup xs=>.ok ([],xs) h1
  | .fl xs=>.ok ([],xs) h1
  | .loc n=>match rd h1 n with | some xs=>.ok ([(n,xs)],xs) h1 | none=>.no
  | .str x=>.ok ([],x.cps.toList.map λ c=>.str ⟨#[c]⟩) h1
  | _=>.no
 | .lst l,ρ,h=>(l.ev ρ h).bind λ xs h1=>.ok ([],xs) h1
 | .rng a _ _,ρ,h=>(a.ev ρ h).bind λ x h1=>match x with
  | .int j=>if -1000000<=j/\j<=1000000 then .ok ([],(List.range j.toNat).map λ k=>.int (k:Nat)) h1 else .no
  | _=>.no
 | .zip a b _ _,ρ,h=>(a.ev ρ h).bind λ x h1=>(b.ev ρ h1).bind λ y h2=>BL x y h2
 | .enum e _ _,ρ,h=>(e.ev ρ h).bind λ x h1=>Q8 x h1
noncomputable def Es.evC:Es->En->Hh->Res Bool
 | .nil,_,h=>.ok true h
 | .cons e _,ρ,h=>(e.ev ρ h).bind λ d h1=>match d with | .bl b=>.ok b h1 | _=>.no
noncomputable def Es.ev:Es->En->Hh->Res (List D)
 | .nil,_,h=>.ok [] h
 | .cons e r,ρ,h=>(e.ev ρ h).bind λ x h1=>(r.ev ρ h1).bind λ xs h2=>.ok (x::xs) h2
noncomputable def Es.evAnd:Es->En->D->Hh->Res D
 | .nil,_,x,h=>.ok x h
 | .cons e r,ρ,x,h=>tru x h λ c h1=>if c then (e.ev ρ h1).bind λ y h2=>r.evAnd ρ y h2 else .ok (.bl false) h1
noncomputable def Es.evOr:Es->En->D->Hh->Res D
 | .nil,_,x,h=>.ok x h
 | .cons e r,ρ,x,h=>tru x h λ c h1=>if c then .ok (.bl true) h1 else (e.ev ρ h1).bind λ y h2=>r.evOr ρ y h2
end
noncomputable def E.evT (e:E)(ρ:En)(h:Hh):Res Bool:=(e.ev cl ρ h).bind λ d h1=>match d with | .bl b=>.ok b h1 | _=>.no
noncomputable def jA {α:Type}(ρ:En)(r:Res α)(f:α->Hh->RS):RS:=match r with
 | .ok a h=>f a h
 | .exc c h=>.ex c ρ h
 | .no=>.no
@[simp] theorem andS_ok {α:Type}{ρ:En}{a:α}{h:Hh}{f:α->Hh->RS}:jA ρ (.ok a h) f=f a h:=rfl
@[simp] theorem andS_exc {α:Type}{ρ:En}{c:Nat}{h:Hh}{f:α->Hh->RS}:jA ρ (.exc c h) f=.ex c ρ h:=rfl
noncomputable def w9 (o:RS)(f:En->Hh->RS):RS:=match o with
 | .nx ρ h=>f ρ h
 | o=>o
@[simp] theorem seqS_nx {ρ:En}{h:Hh}{f:En->Hh->RS}:w9 (.nx ρ h) f=f ρ h:=rfl
@[simp] theorem seqS_rt {d:D}{h:Hh}{f:En->Hh->RS}:w9 (.rt d h) f=.rt d h:=rfl
@[simp] theorem seqS_bk {ρ:En}{h:Hh}{f:En->Hh->RS}:w9 (.bk ρ h) f=.bk ρ h:=rfl
@[simp] theorem seqS_ct {ρ:En}{h:Hh}{f:En->Hh->RS}:w9 (.ct ρ h) f=.ct ρ h:=rfl
@[simp] theorem seqS_ex {c:Nat}{ρ:En}{h:Hh}{f:En->Hh->RS}:w9 (.ex c ρ h) f=.ex c ρ h:=rfl
mutual
noncomputable def S.run:S->En->Hh->RS
 | .set i e _ _,ρ,h=>jA ρ (e.ev cl ρ h) λ d h1=>.nx (ρ.set i (some d)) h1
 | .ret e _,ρ,h=>jA ρ (e.ev cl ρ h) λ d h1=>.rt d h1
 | .iff c a b _,ρ,h=>jA ρ (c.evT cl ρ h) λ t h1=>if t then a.run ρ h1 else b.run ρ h1
 | .ex e _,ρ,h=>jA ρ (e.ev cl ρ h) λ _ h1=>.nx ρ h1
 | .put o i v _ _,ρ,h=>jA ρ (v.ev cl ρ h) λ z h1=>jA ρ (o.ev cl ρ h1) λ x h2=>jA ρ (i.ev cl ρ h2) λ y h3=>match Q5 x y z h3 with | some h4=>.nx ρ h4 | none=>.no
 | .forr t it b _,ρ,h=>jA ρ (it.ev cl ρ h) λ q h1=>zZ q.1 (jd t λ ρ' h'=>b.run ρ' h') q.2 ρ h1
 | .whil c b _,ρ,h=>whR (λ ρ' h'=>c.evT cl ρ' h') (λ ρ' h'=>b.run ρ' h') ρ h
 | .raw _,_,_=>.no
 | .rep i j _ rs _ _,ρ,h=>(match ρ[j]? with | some (some (.str z))=>(match Zq rs z with | some z'=>.nx (ρ.set i (some (.str z'))) h | none=>.no) | _=>.no)
noncomputable def Ss.run:Ss->En->Hh->RS
 | .nil,ρ,h=>.nx ρ h
 | .cons s r,ρ,h=>w9 (s.run ρ h) λ ρ' h'=>r.run ρ' h'
end
end
structure Df where
 name:Str
 ps:List Str
 N:List Str
 body:Ss
noncomputable def qy:RS->Res D
 | .rt v h'=>.ok v h'
 | .nx _ h'=>.ok .non h'
 | .ex c _ h'=>.exc c h'
 | _=>.no
noncomputable def Df.run (cl:Nat->List D->Hh->Res D)(d:Df)(as:List D)(h:Hh):Res D :=
 qy (d.body.run cl (as.map some++List.replicate (d.N.length-as.length) none) h)
noncomputable def callI (ds:List Df):Nat->Nat->List D->Hh->Res D
 | 0,_,_,_=>.no
 | k+1,f,as,h=>match ds[f]? with
  | some d=>if as.length=d.ps.length then d.run (callI ds k) as h else .no
  | none=>.no
section
variable {i j:Int}{h:Hh}{x y:Str}{b c:Bool}{d e:D}{xs:List D}
@[simp] theorem bin_add:jr .Add (.int i) (.int j) h=.ok (.int (i+j)) h:=rfl
@[simp] theorem bin_sub:jr .Sub (.int i) (.int j) h=.ok (.int (i-j)) h:=rfl
@[simp] theorem bin_mul:jr .Mult (.int i) (.int j) h=if zG i=true/\zG j=true then .ok (.int (i*j)) h else .no:=rfl
@[simp] theorem bin_fdiv:jr .FloorDiv (.int i) (.int j) h=if 0<j/\j<1267650600228229401496703205376 then .ok (.int (i/j)) h else .no:=rfl
@[simp] theorem bin_mod:jr .Mod (.int i) (.int j) h=if 0<j then .ok (.int (i%j)) h else .no:=rfl
@[simp] theorem bin_pow:jr .Pow (.int i) (.int j) h=if 0<=j/\j<=1000000/\i.natAbs<2 ^ 64 then .ok (.int (i ^ j.toNat)) h else .no:=rfl
@[simp] theorem bin_shl:jr .LShift (.int i) (.int j) h=if zG i=true/\0<=j/\j<=1000000 then .ok (.int (i*2 ^ j.toNat)) h else .no:=rfl
@[simp] theorem bin_shr:jr .RShift (.int i) (.int j) h=if 0<=j then .ok (.int (i/2 ^ j.toNat)) h else .no:=rfl
@[simp] theorem bin_and:jr .BitAnd (.int i) (.int j) h=.ok (.int (Builtin.bitAnd i j)) h:=rfl
@[simp] theorem bin_or:jr .BitOr (.int i) (.int j) h=.ok (.int (Builtin.bitOr i j)) h:=rfl
@[simp] theorem bin_adds:jr .Add (.str x) (.str y) h=if x.length+y.length<=1000000 then .ok (.str (x++y)) h else .no:=rfl
@[simp] theorem cmp_lt:jf .Lt (.int i) (.int j) h=.ok (.bl (decide (i<j))) h:=rfl
@[simp] theorem cmp_le:jf .LtE (.int i) (.int j) h=.ok (.bl (decide (i<=j))) h:=rfl
@[simp] theorem cmp_gt:jf .Gt (.int i) (.int j) h=.ok (.bl (decide (j<i))) h:=rfl
@[simp] theorem cmp_ge:jf .GtE (.int i) (.int j) h=.ok (.bl (decide (j<=i))) h:=rfl
@[simp] theorem cmp_eq:jf .Eq d e h=eqR false (pdT h d) (pdT h e) h:=rfl
@[simp] theorem cmp_ne:jf .NotEq d e h=eqR true (pdT h d) (pdT h e) h:=rfl
@[simp] theorem cmp_in:jf .In d e h=inD false d e h:=rfl
@[simp] theorem cmp_notin:jf .NotIn d e h=inD true d e h:=rfl
theorem Ui {neg:Bool}{ys:List Str}:yP neg (.str x) (ys.map .str) h=.ok (.bl (ngB neg (ys.any λ y=>y==x))) h:=by
 unfold yP;rw [if_pos ⟨rfl,by simp [Zr]⟩,Y3j];rfl
@[simp] theorem cmp_isN:jf .Is d .non h=.ok (.bl (match d with | .non=>true | _=>false)) h:=by cases d<;>rfl
@[simp] theorem cmp_isnotN:jf .IsNot d .non h=.ok (.bl (match d with | .non=>false | _=>true)) h:=by cases d<;>rfl
@[simp] theorem cmp_is:jf .Is (.bl b) (.bl c) h=.ok (.bl (b==c)) h:=rfl
@[simp] theorem cmp_isnot:jf .IsNot (.bl b) (.bl c) h=.ok (.bl (!(b==c))) h:=rfl
@[simp] theorem eqR_some {neg:Bool}{u v:PyData}:eqR neg (some u) (some v) h=if u.canLay0=true/\v.canLay0=true/\u.depth<=60 then .ok (.bl (if neg then !PyData.eqv u v else PyData.eqv u v)) h else .no:=rfl
@[simp] theorem pdT_non:pdT h .non=some .none:=by unfold pdT D.pd;rfl
@[simp] theorem pdT_bl:pdT h (.bl b)=some (.bool b):=by unfold pdT D.pd;rfl
@[simp] theorem pdT_int:pdT h (.int i)=some (.int i):=by unfold pdT D.pd;rfl
@[simp] theorem pdT_str:pdT h (.str x)=some (.str x):=by unfold pdT D.pd;rfl
@[simp] theorem pdT_tup:pdT h (.tup xs)=(D.pds h xs).map .tuple:=by unfold pdT D.pd;rfl
@[simp] theorem pdT_loc {n:Nat}:pdT h (.loc n)=(rd h n).bind λ xs=>(D.pds h xs).map .list:=rfl
@[simp] theorem pds_nil:D.pds h []=some []:=by unfold D.pds;rfl
@[simp] theorem un_not:unD .Not (.bl b) h=.ok (.bl (!b)) h:=rfl
@[simp] theorem un_invert:unD .Invert (.int i) h=.ok (.int (Builtin.bitNot i)) h:=rfl
@[simp] theorem un_usub:unD .USub (.int i) h=.ok (.int (-i)) h:=rfl
@[simp] theorem pdT_fl:pdT h (.fl xs)=(D.pds h xs).map .list:=by unfold pdT D.pd;rfl
@[simp] theorem len_fl:jL (.fl xs) h=.ok (.int xs.length) h:=rfl
@[simp] theorem sub_fl:zY (.fl xs) (.int i) h=match atI xs i with | some d=>.ok d h | none=>.no:=rfl
@[simp] theorem len_tup:jL (.tup xs) h=.ok (.int xs.length) h:=rfl
@[simp] theorem len_loc {n:Nat}:jL (.loc n) h=match rd h n with | some xs=>.ok (.int xs.length) h | none=>.no:=rfl
@[simp] theorem len_str:jL (.str x) h=if x.length<=1000000 then .ok (.int x.length) h else .no:=rfl
@[simp] theorem sub_tup:zY (.tup xs) (.int i) h=match atI xs i with | some d=>.ok d h | none=>.no:=rfl
@[simp] theorem bin_muls:jr .Mult (.str x) (.int j) h=if 0<=j/\j<=1000/\x.length<=1000 then .ok (.str (Txt.mul x j)) h else .no:=rfl
@[simp] theorem bin_addt {ys:List D}:jr .Add (.tup xs) (.tup ys) h=if xs.length+ys.length<=1000000 then .ok (.tup (xs++ys)) h else .no:=rfl
@[simp] theorem bin_addl {n m:Nat}:jr .Add (.loc n) (.loc m) h=(match h[n]?,h[m]? with
  | some (.lst xs),some (.lst ys)=>if xs.length+ys.length<=1000000 then .ok (.loc h.length) (h++[.lst (xs++ys)]) else .no
  | _,_=>.no):=rfl
theorem Wh:zY (.str x) (.int i) h=if x.length<=1000000 then (match atI x.cps.toList i with | some c=>.ok (.str ⟨#[c]⟩) h | none=>.no) else .no:=rfl
theorem BM {n:Nat}{y:D}:zY (.loc n) y h=(match h[n]? with
  | some (.dK kvs)=>match (yn y).bind (λ k=>qw kvs k) with | some d=>.ok d h | none=>.no
  | some (.dT kvs)=>match (yD y).bind (λ k=>qw kvs k) with | some d=>.ok d h | none=>.no
  | some (.lst xs)=>match y with
   | .int k=>match atI xs k with | some d=>.ok d h | none=>.no
   | _=>.no
  | _=>.no):=rfl
@[simp] theorem tru_bl {f:Bool->Hh->Res D}:tru (.bl b) h f=f b h:=rfl
end
theorem z8 {ds:List Df}{k i:Nat}{d:Df}{as:List D}{h:Hh}(hd:ds[i]?=some d)(hl:as.length=d.ps.length):callI ds (k+1) i as h=d.run (callI ds k) as h:=by
 unfold callI;rw [hd];exact if_pos hl
theorem z7y {α:Type}{P:List α->Prop}(f:P [])(us:List α)(hl:us.length=0):P us:=by
 cases us with
 | nil=>exact f
 | cons=>cases hl
theorem z3f {α:Type}{n:Nat}{P:List α->Prop}(f:∀ a us,us.length=n->P (a::us))(us:List α)(hl:us.length=n+1):P us:=by
 cases us with
 | nil=>cases hl
 | cons a r=>exact f a r (Nat.succ.inj hl)
theorem j2 {α:Type}{P:List α->Prop}(f:∀ a,P [a]):∀ us:List α,us.length=1->P us:=z3f λ a=>z7y (P:=λ us=>P (a::us)) (f a)
theorem Wi {α:Type}{P:List α->Prop}(f:∀ a b,P [a,b]):∀ us:List α,us.length=2->P us:=z3f λ a=>j2 (P:=λ us=>P (a::us)) (f a)
theorem z7z {α:Type}{P:List α->Prop}(f:∀ a b c,P [a,b,c]):∀ us:List α,us.length=3->P us:=z3f λ a=>Wi (P:=λ us=>P (a::us)) (f a)
end PI
namespace PI
open PySem L2
noncomputable def Fz (K:Y00)(H:Hp)(a:Addr)(vs:List V):Prop:=(∃ o,H a=some (.frz o (.lst vs)))\/∀ H',SqL K H' a vs
theorem Fz.sq {K:Y00}{H:Hp}{a:Addr}{vs:List V}(h:Fz K H a vs):SqL K H a vs:=h.elim (λ ⟨o,q⟩=>.inl (.inr ⟨o,q⟩)) λ q=>q H
mutual
inductive Rep (K:Y00)(μ:List Addr)(H:Hp):D->V->Prop
 | non:Rep K μ H .non .non
 | bl (b:Bool):Rep K μ H (.bl b) (.bl b)
 | int (i:Int):Rep K μ H (.int i) (.int i)
 | str (x:Str):Rep K μ H (.str x) (.str x)
 | tup {ds:List D}{vs:List V}{a:Addr}:SqT K H a vs->Reps K μ H ds vs->Rep K μ H (.tup ds) (.ref a)
 | loc {n:Nat}{a:Addr}:μ[n]?=some a->Rep K μ H (.loc n) (.ref a)
 | fl {ds:List D}{vs:List V}{a:Addr}:Fz K H a vs->Reps K μ H ds vs->Rep K μ H (.fl ds) (.ref a)
inductive Reps (K:Y00)(μ:List Addr)(H:Hp):List D->List V->Prop
 | nil:Reps K μ H [] []
 | cons {d:D}{v:V}{ds:List D}{vs:List V}:Rep K μ H d v->Reps K μ H ds vs->Reps K μ H (d::ds) (v::vs)
end
structure Ext (K:Y00)(μ:List Addr)(H:Hp)(μ':List Addr)(H':Hp):Prop where
 loc:∀ (n:Nat) a,μ[n]?=some a->μ'[n]?=some a
 tup:∀ a xs,SqT K H a xs->SqT K H' a xs
 fz:∀ a xs,Fz K H a xs->Fz K H' a xs
 oth:∀ a o,H a=some o->a∉μ->H' a=some o
 new:∀ a,a∈μ'->a∈μ\/H a=none
theorem Ext.refl {K:Y00}{μ:List Addr}{H:Hp}:Ext K μ H μ H:=⟨λ _ _ h=>h,λ _ _ h=>h,λ _ _ h=>h,λ _ _ h _=>h,λ _ h=>.inl h⟩
theorem Ext.sub {K:Y00}{μ μ1:List Addr}{H H1:Hp}(a:Ext K μ H μ1 H1){x:Addr}(h:x∈μ):x∈μ1:=by
 obtain ⟨n,hn⟩:=Y37 h;exact Y1k (a.loc n x hn)
theorem Ext.apart {K:Y00}{μ μ1:List Addr}{H H1:Hp}(a:Ext K μ H μ1 H1){x:Addr}{o:HO}(h:H x=some o)(n:x∉μ):x∉μ1:=λ z=>by
 rcases a.new x z with q | q
 ·exact n q
 ·rw [h] at q;cases q
theorem Ext.trans {K:Y00}{μ μ1 μ2:List Addr}{H H1 H2:Hp}(a:Ext K μ H μ1 H1)(b:Ext K μ1 H1 μ2 H2):Ext K μ H μ2 H2:=by
 refine ⟨λ n x h=>b.loc n x (a.loc n x h),λ x y h=>b.tup x y (a.tup x y h),λ x y h=>b.fz x y (a.fz x y h),λ x o h n=>b.oth x o (a.oth x o h n) (a.apart h n),λ x h=>?_⟩;rcases b.new x h with z | z
 ·exact a.new x z
 ·by_cases hx:x∈μ
  ·exact .inl hx
  ·right;cases e:H x with
   | none=>rfl
   | some o=>rw [a.oth x o e hx] at z;cases z
mutual
theorem Rep.mono {K:Y00}{μ μ':List Addr}{H H':Hp}(e:Ext K μ H μ' H'):∀ {d:D}{v:V},Rep K μ H d v->Rep K μ' H' d v
 | _,_,.non=>.non
 | _,_,.bl b=>.bl b
 | _,_,.int i=>.int i
 | _,_,.str x=>.str x
 | _,_,.tup h r=>.tup (e.tup _ _ h) (Reps.mono e r)
 | _,_,.loc h=>.loc (e.loc _ _ h)
 | _,_,.fl h r=>.fl (e.fz _ _ h) (Reps.mono e r)
theorem Reps.mono {K:Y00}{μ μ':List Addr}{H H':Hp}(e:Ext K μ H μ' H'):∀ {ds:List D}{vs:List V},Reps K μ H ds vs->Reps K μ' H' ds vs
 | _,_,.nil=>.nil
 | _,_,.cons h r=>.cons (Rep.mono e h) (Reps.mono e r)
end
mutual
theorem Rep.mono' {K:Y00}{μ μ':List Addr}{H:Hp}(e:∀ (n:Nat) a,μ[n]?=some a->μ'[n]?=some a):∀ {d:D}{v:V},Rep K μ H d v->Rep K μ' H d v
 | _,_,.non=>.non
 | _,_,.bl b=>.bl b
 | _,_,.int i=>.int i
 | _,_,.str x=>.str x
 | _,_,.tup h r=>.tup h (Reps.mono' e r)
 | _,_,.loc h=>.loc (e _ _ h)
 | _,_,.fl h r=>.fl h (Reps.mono' e r)
theorem Reps.mono' {K:Y00}{μ μ':List Addr}{H:Hp}(e:∀ (n:Nat) a,μ[n]?=some a->μ'[n]?=some a):∀ {ds:List D}{vs:List V},Reps K μ H ds vs->Reps K μ' H ds vs
 | _,_,.nil=>.nil
 | _,_,.cons h r=>.cons (Rep.mono' e h) (Reps.mono' e r)
end
theorem Reps.length {K:Y00}{μ:List Addr}{H:Hp}:∀ {ds:List D}{vs:List V},Reps K μ H ds vs->ds.length=vs.length
 | _,_,.nil=>rfl
 | _,_,.cons _ r=>by rw [Y01,Y01,r.length]
theorem Reps.get {K:Y00}{μ:List Addr}{H:Hp}:∀ {ds:List D}{vs:List V}{i:Nat}{d:D},Reps K μ H ds vs->ds[i]?=some d->∃ v,vs[i]?=some v/\Rep K μ H d v
 | _,_,_,_,.nil,e=>by simp at e
 | _,_,0,_,.cons h _,e=>by simp at e;subst e;exact ⟨_,rfl,h⟩
 | _,_,i+1,d,.cons _ r,e=>by
  obtain ⟨v,h1,h2⟩:=Reps.get (i:=i) (d:=d) r (by simpa using e);exact ⟨v,by simpa using h1,h2⟩
theorem Reps.append {K:Y00}{μ:List Addr}{H:Hp}:∀ {ds es:List D}{vs ws:List V},Reps K μ H ds vs->Reps K μ H es ws->Reps K μ H (ds++es) (vs++ws)
 | _,_,_,_,.nil,r=>r
 | _,_,_,_,.cons h t,r=>.cons h (t.append r)
theorem Reps.atI {K:Y00}{μ:List Addr}{H:Hp}{ds:List D}{vs:List V}{k:Int}{d:D}(r:Reps K μ H ds vs)(e:L2.atI ds k=some d):∃ v,L2.atI vs k=some v/\Rep K μ H d v:=by
 unfold L2.atI at e ⊢;rw [<- r.length];cases h:ixN ds.length k with
 | none=>rw [h] at e;cases e
 | some j =>
  rw [h] at e;exact r.get e
inductive RepKs {κ:Type}(K:Y00)(μ:List Addr)(H:Hp):List (κ×D)->List (κ×V)->Prop
 | nil:RepKs K μ H [] []
 | cons {k:κ}{d:D}{v:V}{ds:List (κ×D)}{vs:List (κ×V)}:Rep K μ H d v->RepKs K μ H ds vs->RepKs K μ H ((k,d)::ds) ((k,v)::vs)
theorem RepKs.mono {κ:Type}{K:Y00}{μ μ':List Addr}{H H':Hp}(e:Ext K μ H μ' H'):∀ {ds:List (κ×D)}{vs:List (κ×V)},RepKs K μ H ds vs->RepKs K μ' H' ds vs
 | _,_,.nil=>.nil
 | _,_,.cons h r=>.cons (h.mono e) (r.mono e)
theorem RepKs.length {κ:Type}{K:Y00}{μ:List Addr}{H:Hp}:∀ {ds:List (κ×D)}{vs:List (κ×V)},RepKs K μ H ds vs->ds.length=vs.length
 | _,_,.nil=>rfl
 | _,_,.cons _ r=>by rw [Y01,Y01,r.length]
inductive RepFs (K:Y00)(μ:List Addr)(H:Hp):List (Str×D)->List (Str×V)->Prop
 | nil:RepFs K μ H [] []
 | cons {f:Str}{d:D}{v:V}{ds:List (Str×D)}{vs:List (Str×V)}:Rep K μ H d v->RepFs K μ H ds vs->RepFs K μ H ((f,d)::ds) ((f,v)::vs)
theorem RepFs.mono {K:Y00}{μ μ':List Addr}{H H':Hp}(e:Ext K μ H μ' H'):∀ {ds:List (Str×D)}{vs:List (Str×V)},RepFs K μ H ds vs->RepFs K μ' H' ds vs
 | _,_,.nil=>.nil
 | _,_,.cons h r=>.cons (h.mono e) (r.mono e)
theorem RepFs.mono' {K:Y00}{μ μ':List Addr}{H:Hp}(e:∀ (n:Nat) a,μ[n]?=some a->μ'[n]?=some a):∀ {ds:List (Str×D)}{vs:List (Str×V)},RepFs K μ H ds vs->RepFs K μ' H ds vs
 | _,_,.nil=>.nil
 | _,_,.cons h r=>.cons (h.mono' e) (r.mono' e)
theorem RepFs.length {K:Y00}{μ:List Addr}{H:Hp}:∀ {ds:List (Str×D)}{vs:List (Str×V)},RepFs K μ H ds vs->ds.length=vs.length
 | _,_,.nil=>rfl
 | _,_,.cons _ r=>by rw [Y01,Y01,r.length]
theorem RepFs.get {K:Y00}{μ:List Addr}{H:Hp}{f:Str}{d:D}:∀ {ds:List (Str×D)}{vs:List (Str×V)},RepFs K μ H ds vs->ds.lookup f=some d->∃ v,vs.lookup f=some v/\Rep K μ H d v
 | _,_,.nil,e=>by cases e
 | _,_,@RepFs.cons _ _ _ g _ _ _ _ h r,e=>by
  rw [List.lookup] at e ⊢;cases c:f==g with
  | true=>rw [c] at e;cases e;exact ⟨_,rfl,h⟩
  | false=>rw [c] at e;exact r.get e
theorem RepFs.put {K:Y00}{μ:List Addr}{H:Hp}{f:Str}{d:D}{v:V}(q:Rep K μ H d v):∀ {ds:List (Str×D)}{vs:List (Str×V)},RepFs K μ H ds vs->RepFs K μ H (z3e f d ds) (z2t f v vs)
 | _,_,.nil=>.cons q .nil
 | _,_,@RepFs.cons _ _ _ g _ _ _ _ h r=>by
  rw [z3e,z2t];by_cases c:g=f
  ·rw [if_pos c,if_pos c];exact .cons q r
  ·rw [if_neg c,if_neg c];exact .cons h (r.put q)
noncomputable def Yh:List Str:=["named","clauses","bound","doing","left","standing","record","used","end","tasks","numbers","known","block","held","went","name","kept"]
structure ClsN (K:Y00)(x:Str)(C:Addr):Prop where
 nm:PySem.W.nsIn K mainGlobals x=some (some (.ref C))
 cl:Cls K C
 na:∀ f∈Yh,z2u K C f
noncomputable def RepO (K:Y00)(μ:List Addr)(H:Hp)(a:Addr):O->Prop
 | .lst ds=>∃ vs,H a=some (.lst vs)/\Reps K μ H ds vs
 | .dK kvs=>∃ vs,H a=some (.dK vs)/\RepKs K μ H kvs vs
 | .dT kvs=>∃ vs,H a=some (.dT vs)/\RepKs K μ H kvs vs
 | .obj x fs=>∃ C dx vs,H a=some (.ins C dx vs)/\ClsN K x C/\RepFs K μ H fs vs
theorem RepKs.mono' {κ:Type}{K:Y00}{μ μ':List Addr}{H:Hp}(e:∀ (n:Nat) a,μ[n]?=some a->μ'[n]?=some a):∀ {ds:List (κ×D)}{vs:List (κ×V)},RepKs K μ H ds vs->RepKs K μ' H ds vs
 | _,_,.nil=>.nil
 | _,_,.cons h r=>.cons (h.mono' e) (r.mono' e)
theorem RepO.mono' {K:Y00}{μ μ':List Addr}{H:Hp}{a:Addr}{o:O}(e:∀ (n:Nat) a,μ[n]?=some a->μ'[n]?=some a)(r:RepO K μ H a o):RepO K μ' H a o:=by
 cases o with
 | lst ds=>obtain ⟨vs,q,r⟩:=r;exact ⟨vs,q,r.mono' e⟩
 | dK ds=>obtain ⟨vs,q,r⟩:=r;exact ⟨vs,q,r.mono' e⟩
 | dT ds=>obtain ⟨vs,q,r⟩:=r;exact ⟨vs,q,r.mono' e⟩
 | obj x fs=>obtain ⟨C,dx,vs,q,c,r⟩:=r;exact ⟨C,dx,vs,q,c,r.mono' e⟩
structure HR (K:Y00)(μ:List Addr)(h:Hh)(H:Hp):Prop where
 len:μ.length=h.length
 inj:∀ (n m:Nat) (a:Addr),μ[n]?=some a->μ[m]?=some a->n=m
 obj:∀ (n:Nat) (a:Addr) (o:O),μ[n]?=some a->h[n]?=some o->RepO K μ H a o
theorem HR.at {K:Y00}{μ:List Addr}{h:Hh}{H:Hp}(r:HR K μ h H){n:Nat}{o:O}(e:h[n]?=some o):∃ a,μ[n]?=some a/\RepO K μ H a o:=by
 have hn:n<h.length:=(Y04.mp e).1;have hm:n<μ.length:=by rw [r.len];exact hn
 exact ⟨μ[n],Y0m hm,r.obj n _ o (Y0m hm) e⟩
theorem HR.fresh {K:Y00}{μ:List Addr}{h:Hh}{H:Hp}(r:HR K μ h H){p:Addr}(hp:H p=none):p∉μ:=λ z=>by
 obtain ⟨n,hn⟩:=Y37 z;have hl:n<h.length:=by rw [<- r.len];exact (Y04.mp hn).1
 have:=r.obj n p h[n] hn (Y0m hl)
 cases e:h[n] with
 | lst ds=>rw [e] at this;obtain ⟨vs,q,_⟩:=this;rw [hp] at q;cases q
 | dK ds=>rw [e] at this;obtain ⟨vs,q,_⟩:=this;rw [hp] at q;cases q
 | dT ds=>rw [e] at this;obtain ⟨vs,q,_⟩:=this;rw [hp] at q;cases q
 | obj x fs=>rw [e] at this;obtain ⟨C,dx,vs,q,_⟩:=this;rw [hp] at q;cases q
theorem zm {K:Y00}{μ:List Addr}{H:Hp}{p:Addr}{u:HO}(hp:H p=none):Ext K μ H μ (upd H p u) :=
 ⟨λ _ _ h=>h,λ a xs h=>by
  rcases h with h | h
  ·left;rcases h with h | ⟨o,h⟩
   ·exact .inl (by rw [zq (λ z=>by rw [z,hp] at h;cases h)];exact h)
   ·exact .inr ⟨o,by rw [zq (λ z=>by rw [z,hp] at h;cases h)];exact h⟩
  ·exact .inr h,λ a xs h=>by
  rcases h with ⟨o,h⟩ | h
  ·exact .inl ⟨o,by rw [zq (λ z=>by rw [z,hp] at h;cases h)];exact h⟩
  ·exact .inr h,λ a o h _=>by rw [zq (λ z=>by rw [z,hp] at h;cases h)];exact h,λ _ h=>.inl h⟩
theorem Ext.add {K:Y00}{μ μ':List Addr}{H H':Hp}{p:Addr}(e:Ext K μ H μ' H')(hp:H p=none):Ext K μ H (μ'++[p]) H' :=
 ⟨λ n a h=>by rw [Y18 (Y04.mp (e.loc n a h)).1];exact e.loc n a h,e.tup,e.fz,e.oth,
  λ a h=>by
   rcases Y0f.mp h with h | h
   ·exact e.new a h
   ·rw [Y0a.mp h];exact .inr hp⟩
theorem RepO.keep {K:Y00}{μ μ':List Addr}{H H':Hp}{a:Addr}{o:O}(e:Ext K μ H μ' H')(k:∀ u,H a=some u->H' a=some u)(r:RepO K μ H a o):RepO K μ' H' a o:=by
 cases o with
 | lst ds=>obtain ⟨vs,q,r⟩:=r;exact ⟨vs,k _ q,r.mono e⟩
 | dK ds=>obtain ⟨vs,q,r⟩:=r;exact ⟨vs,k _ q,r.mono e⟩
 | dT ds=>obtain ⟨vs,q,r⟩:=r;exact ⟨vs,k _ q,r.mono e⟩
 | obj x fs=>obtain ⟨C,dx,vs,q,c,r⟩:=r;exact ⟨C,dx,vs,k _ q,c,r.mono e⟩
theorem GD {H:Hp}{p a:Addr}{u w:HO}(hp:H p=none)(h:H a=some w):upd H p u a=some w:=by
 rw [zq (λ z=>by rw [z,hp] at h;cases h)];exact h
theorem HR.tup {K:Y00}{μ:List Addr}{h:Hh}{H:Hp}{p:Addr}{u:HO}(r:HR K μ h H)(hp:H p=none):HR K μ h (upd H p u) :=
 ⟨r.len,r.inj,λ n a o e1 e2=>(r.obj n a o e1 e2).keep (zm hp) λ _ q=>GD hp q⟩
theorem HR.add {K:Y00}{μ:List Addr}{h:Hh}{H:Hp}{p:Addr}{o:O}(r:HR K μ h H)(hp:p∉μ)(q:∀ μ',(∀ (n:Nat) a,μ[n]?=some a->μ'[n]?=some a)->RepO K μ' H p o):HR K (μ++[p]) (h++[o]) H:=by
 have gr:∀ (n:Nat) a,μ[n]?=some a->(μ++[p])[n]?=some a:=λ n a e=>by rw [Y18 (Y04.mp e).1];exact e
 refine ⟨by rw [Y03,Y03,r.len];rfl,λ n m a e1 e2=>?_,λ n a o1 e1 e2=>?_⟩
 ·have key:∀ (n:Nat) (a:Addr),(μ++[p])[n]?=some a->(n<μ.length/\μ[n]?=some a)\/(n=μ.length/\a=p):=λ n a e=>by
   by_cases hn:n<μ.length
   ·rw [Y18 hn] at e;exact .inl ⟨hn,e⟩
   ·right;rw [Y0w (by omega)] at e
    have:n-μ.length=0:=by
     cases q:n-μ.length with
     | zero=>rfl
     | succ z=>rw [q] at e;simp at e
    rw [this] at e;simp at e;exact ⟨by omega,e.symm⟩
  rcases key n a e1 with ⟨hn,q1⟩ | ⟨hn,q1⟩<;>rcases key m a e2 with ⟨hm,q2⟩ | ⟨hm,q2⟩
  ·exact r.inj n m a q1 q2
  ·exact absurd (Y1k q1) (q2▸hp)
  ·exact absurd (Y1k q2) (q1▸hp)
  ·omega
 ·by_cases hn:n<μ.length
  ·rw [Y18 hn] at e1;rw [Y18 (by rw [<- r.len];exact hn)] at e2;exact (r.obj n a o1 e1 e2).mono' gr
  ·rw [Y0w (by omega)] at e1;have hz:n-μ.length=0:=by
    cases z:n-μ.length with
    | zero=>rfl
    | succ y=>rw [z] at e1;simp at e1
   rw [hz] at e1;simp at e1;subst e1;rw [Y0w (by rw [<- r.len];omega),<- r.len,hz] at e2;simp at e2;subst e2;exact q _ gr
theorem HR.alloc {K:Y00}{μ:List Addr}{h:Hh}{H:Hp}{p:Addr}{u:HO}{o:O}(r:HR K μ h H)(hp:H p=none)(hm:p∉μ)(q:∀ μ',(∀ (n:Nat) a,μ[n]?=some a->μ'[n]?=some a)->RepO K μ' (upd H p u) p o):HR K (μ++[p]) (h++[o]) (upd H p u) :=
 (r.tup hp).add hm q
theorem HR.chg {K:Y00}{μ:List Addr}{h:Hh}{H:Hp}{n:Nat}{a:Addr}{o o':O}{u:HO}(r:HR K μ h H)(hn:h[n]?=some o)(ha:μ[n]?=some a)
  (q:∀ H',Ext K μ H μ H'->H' a=some u->RepO K μ H' a o'):HR K μ (h.set n o') (upd H a u)/\Ext K μ H μ (upd H a u):=by
 obtain ⟨w,hw,nt,nf⟩:∃ w,H a=some w/\(∀ xs,w≠.tup xs)/\∀ o x,w≠.frz o x:=by
  have z:=r.obj n a o ha hn;cases o with
  | lst ds=>obtain ⟨vs,e,_⟩:=z;exact ⟨_,e,λ _ y=>(nomatch y),λ _ _ y=>(nomatch y)⟩
  | dK ds=>obtain ⟨vs,e,_⟩:=z;exact ⟨_,e,λ _ y=>(nomatch y),λ _ _ y=>(nomatch y)⟩
  | dT ds=>obtain ⟨vs,e,_⟩:=z;exact ⟨_,e,λ _ y=>(nomatch y),λ _ _ y=>(nomatch y)⟩
  | obj x fs=>obtain ⟨C,dx,vs,e,_⟩:=z;exact ⟨_,e,λ _ y=>(nomatch y),λ _ _ y=>(nomatch y)⟩
 have ht:∀ b xs,SqT K H b xs->SqT K (upd H a u) b xs:=λ b xs z=>by
  rcases z with z | z
  ·left;rcases z with z | ⟨ob,z⟩
   ·exact .inl (by rw [zq (λ y=>by rw [y,hw] at z;exact nt _ (Option.some.inj z))];exact z)
   ·exact .inr ⟨ob,by rw [zq (λ y=>by rw [y,hw] at z;exact nf _ _ (Option.some.inj z))];exact z⟩
  ·exact .inr z
 have hf:∀ b xs,Fz K H b xs->Fz K (upd H a u) b xs:=λ b xs z=>by
  rcases z with ⟨ob,z⟩ | z
  ·exact .inl ⟨ob,by rw [zq (λ y=>by rw [y,hw] at z;exact nf _ _ (Option.some.inj z))];exact z⟩
  ·exact .inr z
 have ex:Ext K μ H μ (upd H a u):=⟨λ _ _ z=>z,ht,hf,λ b v e z=>by rw [zq (λ (y:b=a)=>z (by rw [y];exact Y1k ha))];exact e,λ _ z=>.inl z⟩;have hl:n<h.length:=(Y04.mp hn).1;refine ⟨⟨by rw [Y1a];exact r.len,r.inj,λ m b v e1 e2=>?_⟩,ex⟩;by_cases hmn:m=n
 ·subst hmn;rw [Y10 hl] at e2;cases e2;rw [ha] at e1;cases e1;exact q _ ex zu
 ·rw [Y0o (Ne.symm hmn)] at e2;have nb:b≠a:=λ y=>hmn (r.inj m n a (y▸e1) ha);exact (r.obj m b v e1 e2).keep ex λ _ g=>by rw [zq nb];exact g
structure ER (K:Y00)(μ:List Addr)(ρ:En)(σ:St)(H:Hp):Prop where
 len:ρ.length=σ.length
 val:∀ (i:Nat) d,ρ[i]?=some (some d)->∃ v,σ[i]?=some (some v)/\Rep K μ H d v
theorem ER.mono {K:Y00}{μ μ':List Addr}{H H':Hp}{ρ:En}{σ:St}(r:ER K μ ρ σ H)(e:Ext K μ H μ' H'):ER K μ' ρ σ H' :=
 ⟨r.len,λ i d h=>let ⟨v,a,b⟩:=r.val i d h;⟨v,a,b.mono e⟩⟩
theorem ER.set {K:Y00}{μ:List Addr}{H:Hp}{ρ:En}{σ:St}{d:D}{v:V}(r:ER K μ ρ σ H)(q:Rep K μ H d v)(i:Nat):ER K μ (ρ.set i (some d)) (σ.set i (some v)) H:=by
 refine ⟨by rw [Y1a,Y1a,r.len],λ j e hj=>?_⟩;by_cases hij:i=j
 ·subst hij;rw [List.getElem?_set] at hj ⊢;have hl:i<ρ.length:=by
   by_cases hl:i<ρ.length
   ·exact hl
   ·rw [if_pos rfl,if_neg hl] at hj;cases hj
  rw [if_pos rfl,if_pos hl] at hj;rw [if_pos rfl,if_pos (by rw [<- r.len];exact hl)];cases hj;exact ⟨v,rfl,q⟩
 ·rw [Y0o hij] at hj ⊢;exact r.val j e hj
noncomputable def PostE {α β:Type}(K:Y00)(cv:Nat->Value)(R:List Addr->Hp->α->β->Prop)(μ:List Addr)(H:Hp)(r:Res α)(Q:β->Hp->Prop)(Z:Value->Hp->Prop):Prop :=
 match r with
 | .ok d h'=>∀ μ' H' v,Ext K μ H μ' H'->HR K μ' h' H'->R μ' H' d v->Q v H'
 | .exc c h'=>∀ μ' H',Ext K μ H μ' H'->HR K μ' h' H'->Z (cv c) H'
 | .no=>False
noncomputable def zt {α β:Type}(K:Y00)(cv:Nat->Value)(R:List Addr->Hp->α->β->Prop)(Z:ZK)(m:En->Hh->Res α):St->Hp->(β->Hp->Prop)->Prop :=
 λ σ H Q=>∃ μ ρ h,HR K μ h H/\ER K μ ρ σ H/\PostE K cv R μ H (m ρ h) Q (Z σ)
theorem z5 {α β:Type}{K:Y00}{cv:Nat->Value}{R:List Addr->Hp->α->β->Prop}{Z:ZK}{m:En->Hh->Res α}{σ:St}{H:Hp}{Q:β->Hp->Prop}{G:Prop}(f:∀ μ ρ h,HR K μ h H->ER K μ ρ σ H->PostE K cv R μ H (m ρ h) Q (Z σ)->G)(x:zt K cv R Z m σ H Q):G:=by
 obtain ⟨μ,ρ,h,hr,er,q⟩:=x;exact f μ ρ h hr er q
theorem z7 {α β γ δ:Type}{K:Y00}{cv:Nat->Value}{R:List Addr->Hp->α->β->Prop}{R':List Addr->Hp->γ->δ->Prop}{μ:List Addr}{ρ:En}{h:Hh}{σ:St}{H:Hp}{Z:ZK}{m:En->Hh->Res α}{f:α->Hh->Res γ}{Q:δ->Hp->Prop}{Q':β->Hp->Prop}
  (hr:HR K μ h H) (er:ER K μ ρ σ H) (p:PostE K cv R' μ H ((m ρ h).bind f) Q (Z σ))
  (go:∀ a h1 μ1 H1 x,m ρ h=.ok a h1->Ext K μ H μ1 H1->HR K μ1 h1 H1->ER K μ1 ρ σ H1->R μ1 H1 a x->PostE K cv R' μ1 H1 (f a h1) Q (Z σ)->Q' x H1) :
  zt K cv R Z m σ H Q':=by
 refine ⟨μ,ρ,h,hr,er,?_⟩;cases e:m ρ h with
 | ok a h1 =>
  rw [e,bind_ok] at p;intro μ1 H1 x e1 r1 q1;refine go a h1 μ1 H1 x e e1 r1 (er.mono e1) q1 ?_;unfold PostE at p ⊢;cases e2:f a h1 with
  | ok b h2=>rw [e2] at p;exact λ μ2 H2 v e3 r3 q3=>p μ2 H2 v (e1.trans e3) r3 q3
  | exc c h2=>rw [e2] at p;exact λ μ2 H2 e3 r3=>p μ2 H2 (e1.trans e3) r3
  | no=>rw [e2] at p;exact p
 | exc c h1=>rw [e,bind_exc] at p;exact p
 | no=>rw [e,bind_no] at p;exact p
theorem PostE.bnd {α β γ δ:Type}{K:Y00}{cv:Nat->Value}{R:List Addr->Hp->α->β->Prop}{R':List Addr->Hp->γ->δ->Prop}{μ:List Addr}{H:Hp}{Z:Value->Hp->Prop}{r:Res α}{f:α->Hh->Res γ}{Q:δ->Hp->Prop}{Q':β->Hp->Prop}
  (p:PostE K cv R' μ H (r.bind f) Q Z) (go:∀ a h1 μ1 H1 x,r=.ok a h1->Ext K μ H μ1 H1->HR K μ1 h1 H1->R μ1 H1 a x->PostE K cv R' μ1 H1 (f a h1) Q Z->Q' x H1):PostE K cv R μ H r Q' Z:=by
 cases e:r with
 | ok a h1 =>
  rw [e,bind_ok] at p;intro μ1 H1 x e1 r1 q1;refine go a h1 μ1 H1 x e e1 r1 q1 ?_;unfold PostE at p ⊢;cases e2:f a h1 with
  | ok b h2=>rw [e2] at p;exact λ μ2 H2 v e3 r3 q3=>p μ2 H2 v (e1.trans e3) r3 q3
  | exc c h2=>rw [e2] at p;exact λ μ2 H2 e3 r3=>p μ2 H2 (e1.trans e3) r3
  | no=>rw [e2] at p;exact p
 | exc c h1=>rw [e,bind_exc] at p;exact p
 | no=>rw [e,bind_no] at p;exact p
theorem PostE.here {α β:Type}{K:Y00}{cv:Nat->Value}{R:List Addr->Hp->α->β->Prop}{μ:List Addr}{H:Hp}{d:α}{h:Hh}{v:β}{Q:β->Hp->Prop}{Z:Value->Hp->Prop}(p:PostE K cv R μ H (.ok d h) Q Z)(hr:HR K μ h H)(r:R μ H d v):Q v H :=
 p μ H v Ext.refl hr r
end PI
namespace PI
open PySem L2 PySem.Spec
open PyProof.Rows hiding St
section
variable {X:Cx}{pins:List (Addr×Obj)}{σ:St}{H:Hp}{s:Shared}{μ:List Addr}{h:Hh}
mutual
theorem jB (I:Inv X pins σ H s):∀ {d:D}{v:V}{u:Value}{p:PyData},Rep X.K μ H d v->RelV v u->D.pd h d=some p->∃ as,Reads s.heap u p as
 | .non,_,_,_,r,q,e=>by cases r;cases q;cases e;exact ⟨_,.none⟩
 | .bl b,_,_,_,r,q,e=>by cases r;cases q;cases e;exact ⟨_,.bool b⟩
 | .int i,_,_,_,r,q,e=>by cases r;obtain ⟨t,rfl⟩:=q;cases e;exact ⟨_,.int i t⟩
 | .str x,_,_,_,r,q,e=>by cases r;obtain ⟨t,rfl⟩:=q;cases e;exact ⟨_,.str x t⟩
 | .tup ds,_,_,_,r,q,e=>by
  cases r with
  | tup hs rs =>
   cases q;unfold D.pd at e;cases e1:D.pds h ds with
   | none=>rw [e1] at e;cases e
   | some ps =>
    rw [e1] at e;cases e;obtain ⟨its,rv,⟨o,g1,g2,n,g3⟩,_⟩:=I.tuple hs;obtain ⟨as,ra⟩:=readsAll_of I rs rv e1;exact ⟨_,.tuple g1 g2 g3 (by simpa using ra)⟩
 | .loc n,_,_,_,r,q,e=>by cases e
 | .fl ds,_,_,_,r,q,e=>by
  cases r with
  | fl hs rs =>
   cases q;unfold D.pd at e;cases e1:D.pds h ds with
   | none=>rw [e1] at e;cases e
   | some ps =>
    rw [e1] at e;cases e;obtain ⟨its,rv,⟨o,n,g1,g2,_,g3⟩,_⟩:=I.list hs.sq;obtain ⟨as,ra⟩:=readsAll_of I rs rv e1;exact ⟨_,.list g1 g2 g3 (by simpa using ra)⟩
theorem readsAll_of (I:Inv X pins σ H s):∀ {ds:List D}{vs:List V}{us:List Value}{ps:List PyData},Reps X.K μ H ds vs->Vals vs us->D.pds h ds=some ps->∃ as,ReadsAll s.heap us ps as
 | [],_,_,_,r,q,e=>by cases r;cases q;cases e;exact ⟨_,.nil⟩
 | d::ds,_,_,_,r,q,e=>by
  cases r with
  | cons r1 r2 =>
   cases q with
   | cons q1 q2 =>
    unfold D.pds at e;cases e1:D.pd h d with
    | none=>rw [e1] at e;cases e
    | some p =>
     cases e2:D.pds h ds with
     | none=>rw [e1,e2] at e;cases e
     | some ps =>
      rw [e1,e2] at e;cases e;obtain ⟨as,ra⟩:=jB I r1 q1 e1;obtain ⟨bs,rb⟩:=readsAll_of I r2 q2 e2;exact ⟨_,.cons ra rb⟩
end
theorem HR.rd (hr:HR X.K μ h H){n:Nat}{ds:List D}(e:rd h n=some ds){a:Addr}(m:μ[n]?=some a):∃ vs,SqL X.K H a vs/\Reps X.K μ H ds vs:=by
 unfold PI.rd at e;cases e1:h[n]? with
 | none=>rw [e1] at e;cases e
 | some o =>
  rw [e1] at e;have q:=hr.obj n a o m e1;cases o with
  | lst xs=>cases e;obtain ⟨vs,q1,q2⟩:=q;exact ⟨vs,SqL.of q1,q2⟩
  | dK xs=>cases e
  | dT xs=>cases e
  | obj _ _=>cases e
theorem wY (I:Inv X pins σ H s)(hr:HR X.K μ h H){d:D}{v:V}{u:Value}{p:PyData}(r:Rep X.K μ H d v)(q:RelV v u)(e:pdT h d=some p):∃ as,Reads s.heap u p as:=by
 cases d with
 | loc n =>
  cases r with
  | loc m =>
   cases q;rw [pdT_loc] at e;cases e1:rd h n with
   | none=>rw [e1] at e;cases e
   | some ds =>
    rw [e1] at e;cases e2:D.pds h ds with
    | none=>rw [show (some ds).bind (λ xs=>(D.pds h xs).map PyData.list)=(D.pds h ds).map PyData.list from rfl,e2] at e;cases e
    | some ps =>
     rw [show (some ds).bind (λ xs=>(D.pds h xs).map PyData.list)=(D.pds h ds).map PyData.list from rfl,e2] at e;cases e;obtain ⟨vs,hs,rs⟩:=hr.rd e1 m;obtain ⟨its,rv,⟨o,n',g1,g2,_,g3⟩,_⟩:=I.list hs;obtain ⟨as,ra⟩:=readsAll_of I rs rv e2;exact ⟨_,.list g1 g2 g3 (by simpa using ra)⟩
 | non=>exact jB (h:=h) I r q e
 | bl b=>exact jB (h:=h) I r q e
 | int i=>exact jB (h:=h) I r q e
 | str x=>exact jB (h:=h) I r q e
 | tup ds=>exact jB (h:=h) I r q e
 | fl ds=>exact jB (h:=h) I r q e
end
theorem jp {n:Nat}(h:n<=1000000):n<=sizeLine:=by rw [sizeLine_eq];omega
theorem Uj {n:Nat}(h:n<1000000):n<sizeLine:=by rw [sizeLine_eq];omega
section
variable {X:Cx}{cv:Nat->Value}
noncomputable def r2 (K:Y00)(cv:Nat->Value)(f:D->D->Hh->Res D):R2:=λ x y H Q=>∃ μ h a b Z,HR K μ h H/\Rep K μ H a x/\Rep K μ H b y/\PostE K cv (Rep K) μ H (f a b h) Q Z
noncomputable def r1 (K:Y00)(cv:Nat->Value)(f:D->Hh->Res D):V->Hp->VK->Prop:=λ x H Q=>∃ μ h a Z,HR K μ h H/\Rep K μ H a x/\PostE K cv (Rep K) μ H (f a h) Q Z
theorem BN:OpR X (binaryOp .Mult) (rI (λ i j=>Builtin.Int.intBits i<=2 ^ 20/\Builtin.Int.intBits j<=2 ^ 20) λ i j=>.int (i*j)):=opI λ _ _ _ _ _ _ _ hc q=>mul_int q (IntMulOk.of_bits hc.1 hc.2)
theorem BO:OpR X (binaryOp .LShift) (rI (λ i j=>Builtin.Int.intBits i<=2 ^ 20/\0<=j/\j<=1000000) λ i j=>.int (i*2 ^ j.toNat)):=opI λ _ _ _ _ _ _ _ hc q=>lshift_int hc.2.1 (by have:=hc.1;have:=hc.2.2;omega) q
theorem z3g {x:Str}{j:Int}(h:0<=j/\j<=1000/\x.length<=1000):MulOk x j:=by
 obtain ⟨h0,h1,h2⟩:=h;refine ⟨by simp;omega,λ a b c=>?_,λ a b=>?_⟩
 ·have hj:1<=j:=by omega
  have:(2 ^ 63-1)/1000<=(2 ^ 63-1:Int)/j:=Int.le_ediv_of_mul_le (by omega) (by
   have:((2 ^ 63-1)/1000:Int)*j<=((2 ^ 63-1)/1000)*1000:=Int.mul_le_mul_of_nonneg_left h1 (by decide)
   have e:(((2 ^ 63-1)/1000:Int)*1000)<=2 ^ 63-1:=by decide
   omega)
  have e:(1000:Int)<(2 ^ 63-1)/1000:=by decide
  omega
 ·have hm:x.length*j.toNat<=1000*1000:=Nat.mul_le_mul h2 (by omega);unfold PySem.Builtin.Str.tooLong;exact decide_eq_false (by rw [sizeLine_eq];omega)
theorem BP:OpR X (binaryOp .Mult) (λ x y H Q=>∃ z j,x=.str z/\y=.int j/\(0<=j/\j<=1000/\z.length<=1000)/\Q (.str (Txt.mul z j)) H):=by
 intro pins s σ H x y v u Q I rx ry h;obtain ⟨z,j,rfl,rfl,hc,q⟩:=h;obtain ⟨t,rfl⟩:=rx;obtain ⟨t',rfl⟩:=ry;exact SB.mul (z3g hc) λ t' k=>⟨.str _,H,I.tok _,⟨_,rfl⟩,q⟩
theorem Q9 (t b:Addr)(xs ys:Array Value)(n m:Nat)(d1 d2:Option Addr)(s1 s2:Array (Option Value))(h0:xs.isEmpty=true) :
  Meets (Builtin.«tuple.__add__» ⟨[.ref t,.ref b],[]⟩) (λ _ R s =>
   s.heap.get? t=some ⟨.type "tuple",d1,.seq xs n,s1⟩ /\
   s.heap.get? b=some ⟨.type "tuple",d2,.seq ys m,s2⟩ /\
   R (.ok (.ret (Value.ref b))) s) :=
 .of_wp λ prog w A R s h=>by
  obtain ⟨hp,g,d,tk,os⟩:=s;obtain ⟨hl,hb,h⟩:=h;have f1:=AutoSeq1.idx_int;have f2:=AutoSeq1.sub_list_tuple;have f3:=AutoSeq1.sub_tuple_list;have f4:=AutoSeq1.sub_tuple_tuple;have f5:=AutoSeq1.sub_list_list
  wp_walk using AutoSeq1.wpAny_loadPart' hl,AutoSeq1.wpAny_loadPart' hb
  exact ⟨_,rfl,h⟩
theorem BQ {A:Around}{E:Value->Shared->Prop}{prog:Program}{w:World}{s:Shared}{t b:Addr}{vs ws:List Value}{Q:Value->Shared->Prop}(ht:IsTup s.heap t vs.toArray)(hb:IsTup s.heap b ws.toArray)(hv:vs=[])(h1:Q (.ref b) s) :
  wpAny (model prog w) A (binaryOp .Add (.ref t) (.ref b)) Q E s:=by
 obtain ⟨⟨cls,dd,data,sl⟩,ho,hc,n,hd⟩:=id ht;obtain ⟨⟨cls2,dd2,data2,sl2⟩,ho2,hc2,n2,hd2⟩:=id hb;simp only at hc hd hc2 hd2;subst hc hd hc2 hd2;exact concat_meets ⟨_,ho,rfl⟩ ⟨_,ho2,rfl⟩ noFill_tuple_add seq_tuple_add Y2t Y2r (Y2o _ _) (Q9 t b vs.toArray ws.toArray n n2 dd dd2 sl sl2 (by simp [hv])) ⟨ho,ho2,h1⟩
theorem Reps.rep {K:Y00}{μ:List Addr}{H:Hp}{ds:List D}{vs:List V}(r:Reps K μ H ds vs):∀ k:Nat,Reps K μ H (List.replicate k ds).flatten (List.replicate k vs).flatten
 | 0=>.nil
 | k+1=>by rw [Y1p,Y1p,Y1h,Y1h];exact r.append (Reps.rep r k)
section
variable {K:Y00}{μ:List Addr}{H:Hp}{Q:VK}{Z:Value->Hp->Prop}
theorem j6 {c:Prop}[Decidable c]{r:Res D}{G:Prop}(p:PostE K cv (Rep K) μ H (if c then r else .no) Q Z)(f:c->PostE K cv (Rep K) μ H r Q Z->G):G:=by
 by_cases hc:c
 ·rw [if_pos hc] at p;exact f hc p
 ·rw [if_neg hc] at p;exact p.elim
theorem j7 {a b:D}{x y:V}{g:Int->Int->Res D}{G:Prop}(ra:Rep K μ H a x)(rb:Rep K μ H b y)(p:PostE K cv (Rep K) μ H (i2 a b g) Q Z)(f:∀ i j,x=.int i->y=.int j->PostE K cv (Rep K) μ H (g i j) Q Z->G):G:=by
 cases a with
 | int i =>
  cases b with
  | int j=>cases ra;cases rb;exact f i j rfl rfl p
  | _=>exact p.elim
 | _=>exact p.elim
theorem Qa {neg:Bool}{u v:Option PyData}{h:Hh}{G:Prop}(p:PostE K cv (Rep K) μ H (eqR neg u v h) Q Z)(f:∀ pu pv,u=some pu->v=some pv->pu.canLay0=true->pv.canLay0=true->pu.depth<=60->PostE K cv (Rep K) μ H (.ok (.bl (if neg then !PyData.eqv pu pv else PyData.eqv pu pv)) h) Q Z->G):G:=by
 cases u with
 | none=>exact p.elim
 | some pu =>
  cases v with
  | none=>exact p.elim
  | some pv=>exact j6 p λ c q=>f pu pv rfl rfl c.1 c.2.1 c.2.2 q
end
theorem BR:OpR X (binaryOp .Add) (r2 X.K cv BI):=by
 intro pins s σ H x y v u Q I rx ry hh;obtain ⟨μ,h,a,b,Z,hr,ra,rb,p⟩:=hh;cases a with
 | int i =>
  cases b with
  | int j=>cases ra;cases rb;exact z2l pins s σ H _ _ v u Q I rx ry ⟨_,_,rfl,rfl,p.here hr (.int _)⟩
  | _=>exact p.elim
 | str i =>
  cases b with
  | str j=>cases ra;cases rb;exact j6 p λ c p=>QW pins s σ H _ _ v u Q I rx ry ⟨_,_,rfl,rfl,jp c,p.here hr (.str _)⟩
  | _=>exact p.elim
 | loc n =>
  cases b with
  | loc m =>
   cases ra with
   | loc ma =>
    cases rb with
    | loc mb =>
     have p:PostE X.K cv (Rep X.K) μ H (match h[n]?,h[m]? with
      | some (.lst xs),some (.lst ys)=>if xs.length+ys.length<=1000000 then .ok (.loc h.length) (h++[.lst (xs++ys)]) else .no
      | _,_=>.no) Q Z:=p
     cases e1:h[n]? with
     | none=>rw [e1] at p;exact p.elim
     | some o1 =>
      cases e2:h[m]? with
      | none=>rw [e1,e2] at p;cases o1<;>exact p.elim
      | some o2 =>
       rw [e1,e2] at p;cases o1 with
       | dK k=>exact p.elim
       | dT k=>exact p.elim
       | obj _ _=>exact p.elim
       | lst xs =>
        cases o2 with
        | dK k=>exact p.elim
        | dT k=>exact p.elim
        | obj _ _=>exact p.elim
        | lst ys =>
         refine j6 p λ c p=>?_;obtain ⟨va,ha,qa⟩:=hr.obj n _ _ ma e1;obtain ⟨vb,hb,qb⟩:=hr.obj m _ _ mb e2;refine z32 pins s σ H _ _ v u Q I rx ry ⟨_,_,_,_,rfl,rfl,ha,hb,by rw [<- qa.length,<- qb.length];exact jp c,λ b hb=>?_⟩;have nb:b∉μ:=hr.fresh hb;refine p _ _ _ ((zm hb).add hb) (hr.alloc hb nb λ μ' g=>⟨_,zu,((qa.append qb).mono (zm hb)).mono' g⟩) (.loc ?_);rw [<- hr.len,Y0w (Y09 _),Y23];rfl
  | _=>exact p.elim
 | tup ds =>
  cases b with
  | tup es =>
   refine j6 p λ c p=>?_;cases ra with
   | @tup _ vs a h1 r1 =>
    cases rb with
    | @tup _ ws b h2 r2 =>
     by_cases hv:vs=[]
     ·subst hv;cases r1;cases rx;cases ry;obtain ⟨its,q1,p1,_⟩:=I.tuple h1;obtain ⟨its2,q2,p2,_⟩:=I.tuple h2;cases q1;exact BQ p1 p2 rfl ⟨.ref b,H,I,rfl,p.here hr (.tup h2 r2)⟩
     ·refine Bh pins s σ H _ _ v u Q I rx ry ⟨a,b,vs,ws,rfl,rfl,h1,h2,hv,by rw [<- r1.length,<- r2.length];exact jp c,λ hz=>?_,λ _ l hl=>?_⟩
      ·subst hz;cases r2;rw [Y14] at p;exact p.here hr (.tup h1 r1)
      ·exact p μ _ _ (zm hl) (hr.tup hl) (.tup (SqT.of zu) ((r1.append r2).mono (zm hl)))
  | _=>exact p.elim
 | _=>exact p.elim
theorem BS:OpR X (binaryOp .Mult) (r2 X.K cv z5w):=by
 intro pins s σ H x y v u Q I rx ry hh;obtain ⟨μ,h,a,b,Z,hr,ra,rb,p⟩:=hh;cases b with
 | int j =>
  cases rb;cases a with
  | int i=>cases ra;exact j6 p λ c p=>BN pins s σ H _ _ v u Q I rx ry ⟨_,_,rfl,rfl,⟨of_decide_eq_true c.1,of_decide_eq_true c.2⟩,p.here hr (.int _)⟩
  | str z=>cases ra;exact j6 p λ c p=>BP pins s σ H _ _ v u Q I rx ry ⟨_,_,rfl,rfl,c,p.here hr (.str _)⟩
  | loc n =>
   cases ra with
   | loc ma =>
    have p:PostE X.K cv (Rep X.K) μ H (match h[n]? with
     | some (.lst xs)=>if 0<=j/\j<=1000/\xs.length<=1000 then .ok (.loc h.length) (h++[.lst (List.replicate j.toNat xs).flatten]) else .no
     | _=>.no) Q Z:=p
    cases e1:h[n]? with
    | none=>rw [e1] at p;exact p.elim
    | some o1 =>
     rw [e1] at p;cases o1 with
     | dK k=>exact p.elim
     | dT k=>exact p.elim
     | obj _ _=>exact p.elim
     | lst xs =>
      refine j6 p λ c p=>?_;obtain ⟨va,ha,qa⟩:=hr.obj n _ _ ma e1;refine z33 pins s σ H _ _ v u Q I rx ry ⟨_,_,va,rfl,rfl,ha,by omega,by omega,?_,λ b hb=>?_⟩
      ·have hm:va.length*j.toNat<=1000*1000:=Nat.mul_le_mul (by rw [<- qa.length];exact c.2.2) (by omega);rw [sizeLine_eq];omega
      ·have nb:b∉μ:=hr.fresh hb;refine p _ _ _ ((zm hb).add hb) (hr.alloc hb nb λ μ' g=>⟨_,zu,((qa.rep j.toNat).mono (zm hb)).mono' g⟩) (.loc ?_);rw [<- hr.len,Y0w (Y09 _),Y23];rfl
  | _=>exact p.elim
 | _=>exact p.elim
theorem z3h (op:Operator):OpR X (binaryOp op) (r2 X.K cv (jr op)):=by
 cases op with
 | Add=>exact BR
 | Mult=>exact BS
 | Sub =>
  intro pins s σ H x y v u Q I rx ry q0;obtain ⟨μ,h,a,b,Z,hr,ra,rb,p⟩:=q0;exact j7 ra rb p λ i j ex ey p=>z2m pins s σ H _ _ v u Q I rx ry ⟨i,j,ex,ey,p.here hr (.int _)⟩
 | FloorDiv =>
  intro pins s σ H x y v u Q I rx ry q0;obtain ⟨μ,h,a,b,Z,hr,ra,rb,p⟩:=q0;exact j7 ra rb p λ i j ex ey p=>j6 p λ c p=>Gz pins s σ H _ _ v u Q I rx ry ⟨i,j,ex,ey,c,p.here hr (.int _)⟩
 | Mod =>
  intro pins s σ H x y v u Q I rx ry q0;obtain ⟨μ,h,a,b,Z,hr,ra,rb,p⟩:=q0;exact j7 ra rb p λ i j ex ey p=>j6 p λ c p=>z2n pins s σ H _ _ v u Q I rx ry ⟨i,j,ex,ey,c,p.here hr (.int _)⟩
 | Pow =>
  intro pins s σ H x y v u Q I rx ry q0;obtain ⟨μ,h,a,b,Z,hr,ra,rb,p⟩:=q0;exact j7 ra rb p λ i j ex ey p=>j6 p λ c p=>z2o pins s σ H _ _ v u Q I rx ry ⟨i,j,ex,ey,c,p.here hr (.int _)⟩
 | LShift =>
  intro pins s σ H x y v u Q I rx ry q0;obtain ⟨μ,h,a,b,Z,hr,ra,rb,p⟩:=q0;exact j7 ra rb p λ i j ex ey p=>j6 p λ c p=>BO pins s σ H _ _ v u Q I rx ry ⟨i,j,ex,ey,⟨of_decide_eq_true c.1,c.2⟩,p.here hr (.int _)⟩
 | RShift =>
  intro pins s σ H x y v u Q I rx ry q0;obtain ⟨μ,h,a,b,Z,hr,ra,rb,p⟩:=q0;exact j7 ra rb p λ i j ex ey p=>j6 p λ c p=>z2p pins s σ H _ _ v u Q I rx ry ⟨i,j,ex,ey,c,p.here hr (.int _)⟩
 | BitAnd =>
  intro pins s σ H x y v u Q I rx ry q0;obtain ⟨μ,h,a,b,Z,hr,ra,rb,p⟩:=q0;exact j7 ra rb p λ i j ex ey p=>z2q pins s σ H _ _ v u Q I rx ry ⟨i,j,ex,ey,p.here hr (.int _)⟩
 | BitOr =>
  intro pins s σ H x y v u Q I rx ry q0;obtain ⟨μ,h,a,b,Z,hr,ra,rb,p⟩:=q0;exact j7 ra rb p λ i j ex ey p=>z5i pins s σ H _ _ v u Q I rx ry ⟨i,j,ex,ey,p.here hr (.int _)⟩
 | _ =>
  intro pins s σ H x y v u Q I rx ry q0;obtain ⟨μ,h,a,b,Z,hr,ra,rb,p⟩:=q0;exact p.elim
theorem Qb {K:Y00}{μ:List Addr}{H:Hp}{d:D}{v:V}(r:Rep K μ H d v)(f:Zr d=true):v=vOf d/\ju v=true:=by
 cases r with
 | non=>exact ⟨rfl,rfl⟩
 | bl b=>exact ⟨rfl,rfl⟩
 | int i=>exact ⟨rfl,rfl⟩
 | str x=>exact ⟨rfl,rfl⟩
 | _=>cases f
theorem JE {K:Y00}{μ:List Addr}{H:Hp}:∀ {ds:List D}{vs:List V},Reps K μ H ds vs->ds.all Zr=true->vs=ds.map vOf/\vs.all ju=true
 | _,_,.nil,_=>⟨rfl,rfl⟩
 | _,_,.cons r t,f=>by
  rw [Y26,Y0g] at f;obtain ⟨rfl,f1⟩:=Qb r f.1;obtain ⟨rfl,f2⟩:=JE t f.2;exact ⟨rfl,by rw [Y26,f1,f2];rfl⟩
theorem z80 (x:D)(ds:List D):inV (vOf x) (ds.map vOf)=ds.any λ y=>eqV (vOf y) (vOf x):=by unfold inV;rw [Y3j];rfl
theorem Zv {K:Y00}{μ:List Addr}{H:Hp}:∀ {ds:List D}{vs:List V},Reps K μ H ds vs->ds.all z1j=true->(∀ v∈vs,ju v=true\/∃ a ts,v=.ref a/\SqT K H a ts)/\ds.any isN=vs.any Zo
 | _,_,.nil,_=>⟨λ v hv=>(nomatch hv),rfl⟩
 | d::ds,v::vs,.cons r t,f=>by
  rw [Y26,Y0g] at f;obtain ⟨f1,f2⟩:=Zv t f.2;have g:(ju v=true\/∃ a ts,v=.ref a/\SqT K H a ts)/\isN d=Zo v:=by
   have f0:=f.1;cases r with
   | tup h1 h2=>exact ⟨.inr ⟨_,_,rfl,h1⟩,rfl⟩
   | non=>exact ⟨.inl rfl,rfl⟩
   | bl b=>exact ⟨.inl rfl,rfl⟩
   | int i=>exact ⟨.inl rfl,rfl⟩
   | str x=>exact ⟨.inl rfl,rfl⟩
   | _=>exact absurd (show false=true from f0) Y0s
  exact ⟨λ w hw=>by rcases Y0b.mp hw with rfl | hw;exact g.1;exact f1 w hw,by rw [Y1m,Y1m,g.2,f2]⟩
theorem Wj {neg:Bool}{pins:List (Addr×Obj)}{s:Shared}{σ:St}{H:Hp}{v u:Value}{Q:VK}{μ:List Addr}{h:Hh}{a:D}{x:V}{Z':Value->Hp->Prop}{ds:List D}{vs:List V}{p':Addr}(op:CmpOp)(hop:OpR X (compareOp op) (rIn X.K neg))(hopN:neg=false->OpR X (compareOp op) (z3b X.K))
  (I:Inv X pins σ H s) (rx:RelV x v) (ry:RelV (.ref p') u) (hr:HR X.K μ h H) (ra:Rep X.K μ H a x) (sq:SqL X.K H p' vs\/SqT X.K H p' vs) (rs:Reps X.K μ H ds vs) (p:PostE X.K cv (Rep X.K) μ H (yP neg a ds h) Q Z') :
  wpAny (model X.prog X.w) X.A (compareOp op v u) (EP X pins σ Q) X.xe s:=by
 unfold yP at p;split at p
 ·rename_i c;obtain ⟨rfl,f1⟩:=Qb ra c.1;obtain ⟨rfl,f2⟩:=JE rs c.2;refine hop pins s σ H _ _ v u Q I rx ry ⟨p',_,rfl,sq,f1,f2,?_⟩;rw [z80];exact p.here hr (.bl _)
 ·split at p
  ·rename_i c;cases ra<;>first | (exact absurd c.2.1 Y0s) | skip
   obtain ⟨f1,f2⟩:=Zv rs c.2.2;refine hopN c.1 pins s σ H _ _ v u Q I rx ry ⟨p',_,rfl,rfl,sq,f1,?_⟩;rw [<- f2];exact p.here hr (.bl _)
  ·exact p.elim
theorem JF {K:Y00}{μ:List Addr}{H:Hp}{d:D}{v:V}{k:Key}(r:Rep K μ H d v)(e:yn d=some k):v=kV k:=by
 unfold yn at e;cases r<;>first | (cases e;rfl) | cases e
theorem JG {K:Y00}{μ:List Addr}{H:Hp}:∀ {ds:List D}{vs:List V}{ks:List Key},Reps K μ H ds vs->Q4 ds=some ks->vs=ks.map kV
 | _,_,ks,.nil,e=>by cases e;rfl
 | _,_,ks,@Reps.cons _ _ _ d v ds vs h r,e=>by
  unfold Q4 at e;cases e1:yn d with
  | none=>rw [e1] at e;cases e
  | some k =>
   cases e2:Q4 ds with
   | none=>rw [e1,e2] at e;cases e
   | some l =>
    rw [e1,e2] at e;cases e;rw [JF h e1,JG r e2];rfl
theorem yo {K:Y00}{μ:List Addr}{H:Hp}{d:D}{v:V}{ks:List Key}(r:Rep K μ H d v)(e:yD d=some ks):∃ b,v=.ref b/\SqT K H b (ks.map kV):=by
 cases r with
 | tup h1 h2=>have:=JG h2 e;subst this;exact ⟨_,rfl,h1⟩
 | _=>cases e
theorem RepKs.none {κ:Type}[DecidableEq κ]{K:Y00}{μ:List Addr}{H:Hp}{k:κ}:∀ {ds:List (κ×D)}{vs:List (κ×V)},RepKs K μ H ds vs->(qw ds k).isSome=(wC vs k).isSome
 | _,_,.nil=>rfl
 | _,_,.cons (k:=k') (d:=d') (v:=v') h r=>by
  have ih:=RepKs.none (k:=k) r;by_cases hk:k'=k
  ·rw [wH (p:=(k',v')) hk];unfold qw;rw [Y2w (by simpa using hk)];rfl
  ·rw [wI (p:=(k',v')) hk,<- ih];unfold qw;rw [Y2x (by simpa using hk)]
theorem GE (hu:X.A.units+1<cLine)(neg:Bool):OpR X (compareOp (if neg then .NotIn else .In)) (r2 X.K cv (inD neg)):=by
 intro pins s σ H x y v u Q I rx ry hh;obtain ⟨μ,h,a,b,Z',hr,ra,rb,p⟩:=hh;have hop:OpR X (compareOp (if neg then .NotIn else .In)) (rIn X.K neg):=by cases neg with | true=>exact W8 | false=>exact UX
 have hopN:neg=false->OpR X (compareOp (if neg then .NotIn else .In)) (z3b X.K):=λ z=>by subst z;exact Yd hu
 unfold inD at p;cases rb with
 | tup h1 h2=>exact Wj _ hop hopN I rx ry hr ra (.inr h1) h2 p
 | fl h1 h2=>exact Wj _ hop hopN I rx ry hr ra (.inl h1.sq) h2 p
 | @loc nn b' m =>
  cases e1:h[nn]? with
  | none=>simp only [e1] at p;exact p.elim
  | some o =>
   have q:=hr.obj nn b' o m e1;cases o with
   | lst ds =>
    simp only [e1] at p;obtain ⟨vs,q1,q2⟩:=q;exact Wj _ hop hopN I rx ry hr ra (.inl (SqL.of q1)) q2 p
   | obj _ _=>simp only [e1] at p;exact p.elim
   | dK kvs =>
    simp only [e1] at p;obtain ⟨vs,q1,q2⟩:=q;cases e2:yn a with
    | none =>
     simp only [e2] at p;cases kvs with
     | cons _ _=>exact p.elim
     | nil =>
      cases q2;cases e3:yD a with
      | none=>simp only [e3] at p;exact p.elim
      | some k =>
       simp only [e3] at p;obtain ⟨c,rfl,hc⟩:=yo ra e3;cases rx;cases ry;have p':=p.here hr (.bl _);cases neg with
       | true=>exact Uf hu I (.inr ⟨q1,rfl⟩) hc λ s' I'=>⟨.bl _,H,I',rfl,p'⟩
       | false=>exact z5u hu I (.inr ⟨q1,rfl⟩) hc λ s' I'=>⟨.bl _,H,I',rfl,p'⟩
    | some k =>
     simp only [e2] at p;have ey:=JF ra e2;subst ey;cases ry;have p':=p.here hr (.bl _);rw [q2.none] at p';cases neg with
     | true=>exact Bm hu I (DGet.k q1) rx λ s' I'=>⟨.bl _,H,I',rfl,p'⟩
     | false=>exact z7s hu I (DGet.k q1) rx λ s' I'=>⟨.bl _,H,I',rfl,p'⟩
   | dT kvs =>
    simp only [e1] at p;obtain ⟨vs,q1,q2⟩:=q;cases e2:yD a with
    | none=>simp only [e2] at p;exact p.elim
    | some k =>
     simp only [e2] at p;obtain ⟨c,rfl,hc⟩:=yo ra e2;cases rx;cases ry;have p':=p.here hr (.bl _);rw [q2.none] at p';cases neg with
     | true=>exact Uf hu I (.inl q1) hc λ s' I'=>⟨.bl _,H,I',rfl,p'⟩
     | false=>exact z5u hu I (.inl q1) hc λ s' I'=>⟨.bl _,H,I',rfl,p'⟩
 | str z =>
  cases ra with
  | str w =>
   cases neg with
   | true=>exact W9 pins s σ H _ _ v u Q I rx ry ⟨w,z,rfl,rfl,p.here hr (.bl _)⟩
   | false=>exact UV pins s σ H _ _ v u Q I rx ry ⟨w,z,rfl,rfl,p.here hr (.bl _)⟩
  | _=>exact p.elim
 | _=>exact p.elim
theorem GF (hu:X.A.units+64<cLine)(op:CmpOp):OpR X (compareOp op) (r2 X.K cv (jf op)):=by
 intro pins s σ H x y v u Q I rx ry hh;obtain ⟨μ,h,a,b,Z,hr,ra,rb,p⟩:=hh;cases op with
 | Lt=>exact j7 ra rb p λ i j ex ey p=>z5j pins s σ H _ _ v u Q I rx ry ⟨i,j,ex,ey,p.here hr (.bl _)⟩
 | LtE=>exact j7 ra rb p λ i j ex ey p=>z5k pins s σ H _ _ v u Q I rx ry ⟨i,j,ex,ey,p.here hr (.bl _)⟩
 | Gt=>exact j7 ra rb p λ i j ex ey p=>z5l pins s σ H _ _ v u Q I rx ry ⟨i,j,ex,ey,p.here hr (.bl _)⟩
 | GtE=>exact j7 ra rb p λ i j ex ey p=>z5m pins s σ H _ _ v u Q I rx ry ⟨i,j,ex,ey,p.here hr (.bl _)⟩
 | Eq =>
  refine Qa p λ pu pv e1 e2 c1 c2 c3 p=>?_;obtain ⟨as,q1⟩:=wY I hr ra rx e1;obtain ⟨bs,q2⟩:=wY I hr rb ry e2;exact SeqAt.compareEq_reads q1 q2 c1 c2 (by have:=Nat.min_le_left pu.depth pv.depth;omega) ⟨.bl _,H,I,rfl,p.here hr (.bl _)⟩
 | NotEq =>
  refine Qa p λ pu pv e1 e2 c1 c2 c3 p=>?_;obtain ⟨as,q1⟩:=wY I hr ra rx e1;obtain ⟨bs,q2⟩:=wY I hr rb ry e2;exact SeqAt.compareNe_reads q1 q2 c1 c2 (by have:=Nat.min_le_left pu.depth pv.depth;omega) ⟨.bl _,H,I,rfl,p.here hr (.bl _)⟩
 | In=>exact GE (cv:=cv) (by omega) false pins s σ H _ _ v u Q I rx ry ⟨μ,h,_,_,Z,hr,ra,rb,p⟩
 | NotIn=>exact GE (cv:=cv) (by omega) true pins s σ H _ _ v u Q I rx ry ⟨μ,h,_,_,Z,hr,ra,rb,p⟩
 | Is =>
  cases b with
  | non =>
   cases rb;cases ry;refine wpAny_is_plain (by cases ra<;>first | (cases rx;rfl) | (obtain ⟨t,rfl⟩:=rx;rfl)) (Z9 I (p.here hr (.bl _)) ?_);cases ra<;>first | (cases rx;rfl) | (obtain ⟨t,rfl⟩:=rx;rfl)
  | bl y =>
   cases a with
   | bl x =>
    cases ra;cases rb;cases rx;cases ry;exact wpAny_is_plain rfl (Z9 I (p.here hr (.bl _)) (by cases x<;>cases y<;>rfl))
   | _=>exact p.elim
  | _=>exact p.elim
 | IsNot =>
  cases b with
  | non =>
   cases rb;cases ry;refine wpAny_isNot_plain (by cases ra<;>first | (cases rx;rfl) | (obtain ⟨t,rfl⟩:=rx;rfl)) (Z9 I (p.here hr (.bl _)) ?_);cases ra<;>first | (cases rx;rfl) | (obtain ⟨t,rfl⟩:=rx;rfl)
  | bl y =>
   cases a with
   | bl x =>
    cases ra;cases rb;cases rx;cases ry;exact wpAny_isNot_plain rfl (Z9 I (p.here hr (.bl _)) (by cases x<;>cases y<;>rfl))
   | _=>exact p.elim
  | _=>exact p.elim
end
noncomputable def RB:List Addr->Hp->Bool->Bool->Prop:=λ _ _ b c=>b=c
noncomputable def spI (K:Y00)(cv:Nat->Value)(np:Nat)(c:List D->Hh->Res D):Sp:=λ vs H Q E =>
 vs.length=np/\∃ μ h ds,HR K μ h H/\Reps K μ H ds vs/\PostE K cv (Rep K) μ H (c ds h) Q (λ C H'=>E C none H')
noncomputable def Wk:List Str:=["len","isinstance","int","bool","str","tuple","list","range","max","min","sum","all","any","zip","reversed","sorted","set","enumerate","dict","abs","ValueError"]
noncomputable def gOf (sc:Scope)(x:Str):Bool:=decide (sc.names.lookup x=some .globalImplicit)
noncomputable def Uk (scope osc:Scope):Scope :=
  { scope with names:=scope.names.map λ (n,k)=>if (k==.free&&osc.kind==.function&&osc.names.lookup n==some .cell) then (n,.cell) else (n,k) }
noncomputable def Tg.idx:Tg->List Nat
 | .one i _=>[i]
 | .tup is _=>is.map (·.1)
noncomputable def Tg.ok (sc:Scope)(N:List Str)(t:Tg):Bool:=t.idx.all λ i=>decide (i<N.length)&&decide (sc.names.lookup (N.getD i "")=some .local\/sc.names.lookup (N.getD i "")=some .cell)
noncomputable def Tg.okS (N:List Str)(t:Tg):Bool:=t.idx.all λ i=>decide (i<N.length)
noncomputable def yE (x:Str):Bool:=!(x==("__debug__":Str))&&!(x==("__classdict__":Str))
noncomputable def Tg.forI (t:Tg):I->Bool
 | .zip _ _ _ _=>true
 | .enum _ _ _=>(match t with | .tup _ _=>true | .one _ _=>false)
 | _=>true
mutual
noncomputable def E.ok (sc:Scope)(n:Nm):E->Bool
 | .non _ | .bl _ _ | .int _ _ | .str _ _=>true
 | .var i _=>decide (i<n.N.length)
 | .bin _ a b _=>a.ok sc n&&b.ok sc n
 | .un op a _=>a.ok sc n&&(match op with | .Not=>a.okT | _=>true)
 | .cmp op a b _=>a.ok sc n&&b.ok sc n&&!behindInMarks op (b.py n)
 | .and a b r _=>a.ok sc n&&b.ok sc n&&r.ok sc n&&a.okT&&b.okT&&r.okT
 | .or a b r _=>a.ok sc n&&b.ok sc n&&r.ok sc n&&a.okT&&b.okT&&r.okT
 | .ite c a b _=>c.ok sc n&&a.ok sc n&&b.ok sc n&&c.okT
 | .call f a r _ _=>decide (f<n.F.length)&&!(n.G.any λ q=>decide (q.2=Cn.cls f))&&gOf sc (n.F.getD f "")&&a.ok sc n&&r.ok sc n
 | .len a _ _=>gOf sc "len"&&a.ok sc n
 | .isi T a _ _ _=>gOf sc "isinstance"&&gOf sc (qt T)&&decide (T<5)&&a.ok sc n
 | .sub a i _=>a.ok sc n&&i.ok sc n
 | .tup es _=>es.ok sc n
 | .ofL l=>l.ok sc n
 | .tupL l _ _=>gOf sc "tuple"&&l.ok sc n
 | .tupE e _ _=>gOf sc "tuple"&&e.ok sc n
 | .listE e _ _=>gOf sc "list"&&e.ok sc n
 | .cut a lo hi _ _=>a.ok sc n&&lo.ok sc n&&hi.ok sc n
 | .revT a st _ _=>a.ok sc n&&st.ok sc n
 | .dic _=>true
 | .m0 _ o p1 p=>o.ok sc n&&decide (p1.endLine=p.line)
 | .m1 _ o a p1 p=>o.ok sc n&&a.ok sc n&&decide (p1.endLine=p.line)
 | .c1 f a _ _=>gOf sc f.name&&a.ok sc n
 | .cmpN _ a _ _=>a.ok sc n
 | .listR e _ _ _ _=>gOf sc "list"&&gOf sc "reversed"&&e.ok sc n
 | .join o a p1 p=>o.ok sc n&&a.ok sc n&&decide (p1.endLine=p.line)
 | .split o a p1 p=>o.ok sc n&&a.ok sc n&&decide (p1.endLine=p.line)
 | .gcon x c _=>gOf sc x&&decide ((x,c)∈n.G)
 | .gsub x kvs i _ _=>gOf sc x&&decide ((x,Cn.dic kvs)∈n.G)&&i.ok sc n
noncomputable def Eo.ok (sc:Scope)(n:Nm):Eo->Bool
 | .none=>true
 | .some e=>e.ok sc n
noncomputable def L.ok (sc:Scope)(n:Nm):L->Bool
 | .disp es _=>es.ok sc n
 | .comp elt t it c NC cap csc _=>(it.ok sc n&&t.forI it)&&j9 sc csc n.N NC cap&&decide NC.Nodup&&NC.all yE&&t.ok csc NC&&elt.ok (Uk csc sc) ⟨NC,n.F,n.G⟩&&c.ok (Uk csc sc) ⟨NC,n.F,n.G⟩&&c.okT&&c.short
noncomputable def I.ok (sc:Scope)(n:Nm):I->Bool
 | .seq e=>e.ok sc n
 | .lst l=>l.ok sc n
 | .rng a _ _=>gOf sc "range"&&a.ok sc n
 | .zip a b _ _=>gOf sc "zip"&&a.ok sc n&&b.ok sc n
 | .enum e _ _=>gOf sc "enumerate"&&e.ok sc n
noncomputable def Es.ok (sc:Scope)(n:Nm):Es->Bool
 | .nil=>true
 | .cons e r=>e.ok sc n&&r.ok sc n
noncomputable def E.okT:E->Bool
 | .non _ | .bl _ _ | .int _ _ | .str _ _=>false
 | .ite _ _ _ _=>false
 | .ofL _=>false
 | .dic _=>false
 | .gcon _ _ _=>false
 | .un op a _=>match op with | .Not=>a.okT | _=>true
 | _=>true
noncomputable def Es.okT:Es->Bool
 | .nil=>true
 | .cons e r=>e.okT&&r.okT
noncomputable def Es.short:Es->Bool
 | .nil=>true
 | .cons _ .nil=>true
 | .cons _ (.cons _ _)=>false
end
noncomputable def TupK (K:Y00)(a:Addr)(xs:List Str):Prop:=∃ (o:Obj) (its:Array Value) (n:Nat),K.lookup a=some o/\o.cls=.type "tuple"/\o.data=.seq its n/\its.size<=sizeLine/\Vals (xs.map V.str) its.toList
noncomputable def CvOk (K:Y00)(v:Value):Cv->Prop
 | .tup xs=>∃ a,v=.ref a/\TupK K a xs
 | .int i=>∃ t,v=.int i t
 | .fn _ x=>∃ f,v=.ref f/\PySem.W.nsIn K mainGlobals x=some (some (.ref f))
 | .oth=>∃ f,v=.ref f
noncomputable def DicV (K:Y00):List (Str×Cv)->List (Key×Value)->Prop
 | [],[]=>True
 | kx::r,qv::s=>qv.1=.inr kx.1/\CvOk K qv.2 kx.2/\DicV K r s
 | _,_=>False
structure IsK (K:Y00)(C:Addr):Prop where
 ha:PySem.W.findIn K (.ref C) "__class__"=some (some (.builtin "object.__class__"))
 hn:PySem.W.specialIn K (.builtin "object.__class__") "__get__"=some (some (.builtin "getset_descriptor.__get__"))
 ht:PySem.W.takesIn K (.builtin "object.__class__")=some true
 hm:PySem.W.mroIn K C (.type "object")=some true
noncomputable def BT (P:Program)(w:World)(K:Y00)(v:Value):Cn->Prop
 | .int i=>∃ t,v=.int i t
 | .str x=>∃ t,v=.str x t
 | .tup xs=>∃ a,v=.ref a/\TupK K a xs
 | .cls _=>∃ a,v=.ref a
 | .isc x ys=>∃ D,v=.ref D/\∀ y∈ys,∃ C,PySem.W.nsIn K mainGlobals y=some (some (.ref C))/\IsK K C/\PySem.W.kitOne K (.ref C) (.ref D)=some (decide (y=x))
 | .exc _ _=>∃ a bmB newId initId B,v=.ref a/\PySem.W.excIn K a bmB newId=true/\ExcBaseFacts B newId initId bmB/\bmB.contains (.type "BaseException")=true
 | .dic kvs=>∃ a o es ep vs,v=.ref a/\K.lookup a=some o/\o.ExactDict/\o.data=.dict es ep/\KeysOf (zw P w) es/\Pairs (zw P w) es.toList vs/\(vs.map (·.1)).Nodup/\DicV K kvs vs
structure TstK (K:Y00)(G:List (Str×Cn))(cv:Nat->Value)(C:Addr)(u:List Nat):Prop where
 ec:ExC K C
 ve:PySem.W.kitOne K (.ref C) (.type "ValueError")=some true
 ot:∀ y d w,(y,Cn.exc d w)∈G->PySem.W.kitOne K (.ref C) (cv d)=some (u.contains d)
structure Kx (X:Cx)(Z:ZK)(k:Nat)(n:Nm)(cv:Nat->Value)(cl:Nat->List D->Hh->Res D):Prop where
 th:Thr X Z
 rm:Room (2*k+1) X.A
 nN:X.N=n.N
 nd:X.N.Nodup
 cm:X.calm=true
 kd:X.env.scope.kind=.function
 nm:∀ x∈n.N,Vis X.env.scope x/\yE x=true
 bm:∀ x,x∈Wk->X.mg x=none
 gc:∀ x c,(x,c)∈n.G->(x==("__debug__":Str))=false/\∃ v,X.mg x=some v/\BT X.prog X.w X.K v c
 fn:∀ i x,n.F[i]?=some x->(n.G.any λ q=>decide (q.2=Cn.cls i))=false->(x==("__debug__":Str))=false/\∃ f fd ps,X.mg x=some (.ref f)/\PySem.W.nsIn X.K mainGlobals x=some (some (.ref f))/\PySem.W.keepIn X.K (.ref f)=true/\Binds X.K fd ps []/\(∀ ds h,cl i ds h≠.no->ds.length=ps.length) /\
  FnOk X.prog X.w X.K X.mg X.base (CXs X.prog X.w) (2*k) f fd ps (spI X.K cv ps.length (cl i))
 mc:∀ x i,(x,Cn.cls i)∈n.G->(x==("__debug__":Str))=false/\∃ C f fd ps,X.mg x=some (.ref C)/\Mk X.K C f/\ClsN X.K x C/\Binds X.K fd ps []/\(∀ ds h,cl i ds h≠.no->ds.length=ps.length) /\
  FnOk X.prog X.w X.K X.mg X.base (CXs X.prog X.w) (2*k) f fd ps (spI X.K cv ps.length (cl i))
 xc:∀ x c u,(x,Cn.exc c u)∈n.G->X.mg x=some (cv c)/\(∀ D∈u,∃ a d,cv c=.ref a/\cv D=.ref d/\Gm X.K a d)/\∃ a,cv c=.ref a/\TstK X.K n.G cv a u
theorem Kx.gl {X:Cx}{Z:ZK}{k:Nat}{n:Nm}{cv:Nat->Value}{cl:Nat->List D->Hh->Res D}(C:Kx X Z k n cv cl){x:Str}(h:gOf X.env.scope x=true):Gl X x:=show X.env.scope.names.lookup x=some .globalImplicit from of_decide_eq_true h
theorem GG {x:Str}(h:yE x=true):(x==("__debug__":Str))=false/\(x==("__classdict__":Str))=false:=by unfold yE at h;simpa using h
theorem jy {α:Type}(r:Res α):(r.bind λ a h=>.ok a h)=r:=by cases r<;>rfl
theorem zj {α β γ:Type}(r:Res α)(f:α->Hh->Res β)(q:β->Hh->Res γ):(r.bind f).bind q=r.bind λ a h=>(f a h).bind q:=by cases r<;>rfl
theorem PE.mono {X:Cx}{e:Expr}{t t':TE}(p:PE X e t)(h:∀ σ H Q,t' σ H Q->t σ H Q):PE X e t':=λ pins s σ H Q I q=>p pins s σ H Q I (h σ H Q q)
theorem PT.mono {X:Cx}{e:Expr}{t t':TT}(p:PT X e t)(h:∀ σ H Q,t' σ H Q->t σ H Q):PT X e t':=λ pins s σ H Q I q=>p pins s σ H Q I (h σ H Q q)
theorem PW.mono {X:Cx}{e:Expr}{t t':TT}(p:PW X e t)(h:∀ σ H Q,t' σ H Q->t σ H Q):PW X e t':=λ wh pins s σ H Q I q=>p wh pins s σ H Q I (h σ H Q q)
theorem PA.mono {X:Cx}{e:List Expr}{t t':TA}(p:PA X e t)(h:∀ σ H Q,t' σ H Q->t σ H Q):PA X e t':=λ ps pins s σ H Q I q=>p ps pins s σ H Q I (h σ H Q q)
noncomputable def toB (d:D)(h:Hh):Res Bool:=match d with | .bl b=>.ok b h | _=>.no
theorem wa (cl:Nat->List D->Hh->Res D)(e:E)(ρ:En)(h:Hh):e.evT cl ρ h=(e.ev cl ρ h).bind toB:=rfl
section
variable {X:Cx}{Z:ZK}{k:Nat}{n:Nm}{cv:Nat->Value}{cl:Nat->List D->Hh->Res D}
theorem L.py_star (l:L)(r:List Expr)(env:Env):starEach (l.py n::r) env=(false,eval (l.py n) env)::starEach r env:=by cases l<;>rfl
theorem za (e:E)(r:List Expr)(env:Env):starEach (e.py n::r) env=(false,eval (e.py n) env)::starEach r env:=by
 cases e with
 | ofL l=>exact L.py_star l r env
 | _=>rfl
theorem Zw:∀ (r:Es) (pos:Pos) (env:Env),(backTo pos (starEach (r.py n) env)).any (·.1)=false
 | .nil,_,_=>rfl
 | .cons e r,pos,env=>by
  show (backTo pos (starEach (e.py n::r.py n) env)).any (·.1)=false;rw [za];exact Zw r pos env
theorem Qc (e:E):U4 (e.py n):=by
 intro o i;cases e with
 | ofL l=>cases l<;>rfl
 | _=>rfl
theorem zy {e:Expr}{m:En->Hh->Res D}(p:PE X e (zt X.K cv (Rep X.K) Z m))(he:∀ whole,isTrue e X.env whole=(do let v <- whole;standAt e.pos;holding [v] (truthy v))) :
  PT X e (zt X.K cv RB Z λ ρ h=>(m ρ h).bind toB):=by
 refine PT.mono (z28 p he) λ σ H Q=>z5 λ μ ρ h hr er q=>?_;refine z7 (m:=m) hr er q λ a h1 μ1 H1 x _ e1 r1 er1 qa p1=>?_;unfold toB at p1;cases qa with
 | bl b=>exact ⟨b,rfl,p1.here r1 rfl⟩
 | _=>exact p1.elim
noncomputable def Es.evAndT (cl:Nat->List D->Hh->Res D):Es->En->Bool->Hh->Res Bool
 | .nil,_,c,h=>.ok c h
 | .cons e r,ρ,c,h=>if c then (e.evT cl ρ h).bind λ c' h2=>r.evAndT cl ρ c' h2 else .ok false h
noncomputable def Es.evOrT (cl:Nat->List D->Hh->Res D):Es->En->Bool->Hh->Res Bool
 | .nil,_,c,h=>.ok c h
 | .cons e r,ρ,c,h=>if c then .ok true h else (e.evT cl ρ h).bind λ c' h2=>r.evOrT cl ρ c' h2
theorem Ul:∀ (r:Es) (ρ:En) (d:D) (h:Hh),(r.evAnd cl ρ d h).bind toB=(toB d h).bind λ c h1=>r.evAndT cl ρ c h1
 | .nil,ρ,d,h=>(jy (r:=toB d h)).symm
 | .cons e r,ρ,d,h=>by
  cases d with
  | bl b =>
   cases b with
   | false=>rfl
   | true =>
    show (((e.ev cl ρ h).bind λ y h2=>r.evAnd cl ρ y h2).bind toB)=((e.ev cl ρ h).bind toB).bind λ c' h2=>r.evAndT cl ρ c' h2;rw [zj,zj]
    congr 1
    funext y h2
    exact Ul r ρ y h2
  | _=>rfl
theorem GH:∀ (r:Es) (ρ:En) (d:D) (h:Hh),(r.evOr cl ρ d h).bind toB=(toB d h).bind λ c h1=>r.evOrT cl ρ c h1
 | .nil,ρ,d,h=>(jy (r:=toB d h)).symm
 | .cons e r,ρ,d,h=>by
  cases d with
  | bl b =>
   cases b with
   | true=>rfl
   | false =>
    show (((e.ev cl ρ h).bind λ y h2=>r.evOr cl ρ y h2).bind toB)=((e.ev cl ρ h).bind toB).bind λ c' h2=>r.evOrT cl ρ c' h2;rw [zj,zj]
    congr 1
    funext y h2
    exact GH r ρ y h2
  | _=>rfl
end
section
variable {X:Cx}{Z:ZK}{k:Nat}{n:Nm}{cv:Nat->Value}{cl:Nat->List D->Hh->Res D}
structure SE (X:Cx)(Z:ZK)(n:Nm)(cv:Nat->Value)(cl:Nat->List D->Hh->Res D)(e:E):Prop where
 pe:PE X (e.py n) (zt X.K cv (Rep X.K) Z (e.ev cl))
 pt:e.okT=true->PT X (e.py n) (zt X.K cv RB Z (e.evT cl))
noncomputable def BU (X:Cx)(Z:ZK)(n:Nm)(cv:Nat->Value)(cl:Nat->List D->Hh->Res D)(r:Es):Prop:=∀ (ks:List (Str×Pos)) (pos:Pos),ks.length=(r.py n).length ->
 ∃ trs,PPs X pos (ks.map λ q=>some (.Constant (.str q.1) 0 q.2)) (r.py n) trs/\∀ σ H (Q:List (V×V)->Hp->Prop),zt X.K cv (Reps X.K) Z (r.ev cl) σ H (λ us H'=>Q ((ks.map λ q=>V.str q.1).zip us) H')->Y5 trs σ H Q
structure SEs (X:Cx)(Z:ZK)(n:Nm)(cv:Nat->Value)(cl:Nat->List D->Hh->Res D)(r:Es):Prop where
 pa:PA X (r.py n) (zt X.K cv (Reps X.K) Z (r.ev cl))
 an:∀ (b:E) (p:Pos),SE X Z n cv cl b->PE X (.BoolOp .And (b.py n::r.py n) p) (zt X.K cv (Rep X.K) Z λ ρ h=>(b.ev cl ρ h).bind λ y h2=>r.evAnd cl ρ y h2)
 anT:∀ (b:E) (p:Pos),SE X Z n cv cl b->b.okT=true->r.okT=true->PW X (.BoolOp .And (b.py n::r.py n) p) (zt X.K cv RB Z λ ρ h=>(b.evT cl ρ h).bind λ c h2=>r.evAndT cl ρ c h2)
 orr:∀ (b:E) (p:Pos),SE X Z n cv cl b->PE X (.BoolOp .Or (b.py n::r.py n) p) (zt X.K cv (Rep X.K) Z λ ρ h=>(b.ev cl ρ h).bind λ y h2=>r.evOr cl ρ y h2)
 orT:∀ (b:E) (p:Pos),SE X Z n cv cl b->b.okT=true->r.okT=true->PW X (.BoolOp .Or (b.py n::r.py n) p) (zt X.K cv RB Z λ ρ h=>(b.evT cl ρ h).bind λ c h2=>r.evOrT cl ρ c h2)
 ps:BU X Z n cv cl r
theorem Wl {v:V}{d:D}{Q:VK}{σ:St}{H:Hp}(hv:∀ K μ H,Rep K μ H d v)(p:zt X.K cv (Rep X.K) Z (λ _ h=>.ok d h) σ H Q):tC v σ H Q:=by
 obtain ⟨μ,ρ,h,hr,er,q⟩:=p;exact q.here hr (hv _ _ _)
theorem GI {f:D->D->Hh->Res D}{a b:E}{σ:St}{H:Hp}{Q:VK}(p:zt X.K cv (Rep X.K) Z (λ ρ h=>(a.ev cl ρ h).bind λ x h1=>(b.ev cl ρ h1).bind λ y h2=>f x y h2) σ H Q) :
  tOp (r2 X.K cv f) (zt X.K cv (Rep X.K) Z (a.ev cl)) (zt X.K cv (Rep X.K) Z (b.ev cl)) σ H Q:=by
 obtain ⟨μ,ρ,h,hr,er,q⟩:=p;refine z7 (m:=a.ev cl) hr er q λ da h1 μ1 H1 x _ e1 r1 er1 qa p1=>?_;refine z7 (m:=b.ev cl) r1 er1 p1 λ db h2 μ2 H2 y _ e2 r2 er2 qb p2=>?_;exact ⟨μ2,h2,da,db,_,r2,qa.mono e2,qb,p2⟩
theorem z1k {f:D->Hh->Res D}{a:E}{σ:St}{H:Hp}{Q:VK}(p:zt X.K cv (Rep X.K) Z (λ ρ h=>(a.ev cl ρ h).bind λ x h1=>f x h1) σ H Q) :
  tUn (r1 X.K cv f) (zt X.K cv (Rep X.K) Z (a.ev cl)) σ H Q:=by
 obtain ⟨μ,ρ,h,hr,er,q⟩:=p;refine z7 (m:=a.ev cl) hr er q λ da h1 μ1 H1 x _ e1 r1 er1 qa p1=>?_;exact ⟨μ1,h1,da,_,r1,qa,p1⟩
theorem z1l (op:UnaryOp)(h:op=.Invert\/op=.USub):UnR X (unaryOp op) (r1 X.K cv (unD op)):=by
 intro pins s σ H x v Q I rx hh;obtain ⟨μ,h',a,Z',hr,ra,p⟩:=hh;rcases h with rfl | rfl
 ·unfold unD at p;cases ra with
  | int i=>exact z2s pins s σ H _ v Q I rx ⟨i,rfl,p.here hr (.int _)⟩
  | _=>exact p.elim
 ·unfold unD at p;cases ra with
  | int i=>exact z2r pins s σ H _ v Q I rx ⟨i,rfl,p.here hr (.int _)⟩
  | _=>exact p.elim
theorem BV (hu:X.A.units+1<cLine):IxR X (λ x y H Q=>∃ a v,x=.ref a/\DGet H a y (some v)/\Q v H):=by
 intro value slice pins s σ H x y v u Q I rx ry h hs;obtain ⟨a,w,rfl,g,q⟩:=h;cases rx;have ty:s.TypeIs (.ref a) "dict":=by
  rcases g with ⟨kvs,k,e,ey,l⟩ | ⟨kvs,k,b,e,ey,eb,l⟩
  ·obtain ⟨_,_,vs,_,o,es,ep,e1,ex,_⟩:=e.ok I.hok;exact ⟨o,e1,ex.1⟩
  ·obtain ⟨_,_,xs,_,o,es,ep,e1,ex,_⟩:=e.ok I.hok;exact ⟨o,e1,ex.1⟩
 exact tail_any ty slot_dict_getitem.lookup (V0 hu I g ry λ w' s' I' r'=>⟨w,H,I',r',q⟩) hs
theorem z5x (hu:X.A.units+1<cLine):IxR X (λ x y H Q=>∃ a b kvs k v,x=.ref a/\y=.ref b/\H a=some (.dT kvs)/\SqT X.K H b (k.map kV)/\wC kvs k=some v/\Q v H):=by
 intro value slice pins s σ H x y v u Q I rx ry h hs;obtain ⟨a,b,kvs,k,w,rfl,rfl,g,hb,hv,q⟩:=h;cases rx;cases ry;have ty:s.TypeIs (.ref a) "dict":=by
  obtain ⟨_,_,xs,_,o,es,ep,e1,ex,_⟩:=(show ObjOk X.prog X.w H s.heap a (.dT kvs) from I.hok a _ g);exact ⟨o,e1,ex.1⟩
 exact tail_any ty slot_dict_getitem.lookup (Vb hu I (.inl g) hb hv λ w' s' I' r'=>⟨w,H,I',r',q⟩) hs
theorem RepKs.val {κ:Type}[DecidableEq κ]{K:Y00}{μ:List Addr}{H:Hp}{k:κ}{d:D}:∀ {ds:List (κ×D)}{vs:List (κ×V)},RepKs K μ H ds vs->qw ds k=some d->∃ v,wC vs k=some v/\Rep K μ H d v
 | _,_,.nil,e=>by unfold qw at e;simp at e
 | _,_,.cons (k:=k') (d:=d') (v:=v') h r,e=>by
  by_cases hk:k'=k
  ·rw [wH (p:=(k',v')) hk];unfold qw at e;rw [Y2w (by simpa using hk)] at e;cases e;exact ⟨_,rfl,h⟩
  ·rw [wI (p:=(k',v')) hk];unfold qw at e;rw [Y2x (by simpa using hk)] at e;exact RepKs.val r e
theorem Qd {K:Y00}{μ:List Addr}{H:Hp}{d:D}{v:V}{k:Key}(r:Rep K μ H d v)(e:yn d=some k):v=kV k:=by
 unfold yn at e;cases r<;>first | (cases e;rfl) | cases e
theorem DicV.at {K:Y00}{k:Str}{c:Cv}:∀ {kvs:List (Str×Cv)}{vs:List (Key×Value)},DicV K kvs vs->kvs.lookup k=some c->∃ v,valueAt vs (Sum.inr k:Key)=some v/\CvOk K v c
 | [],[],_,e=>by cases e
 | [],_::_,h,_=>h.elim
 | _::_,[],h,_=>h.elim
 | (k',ys)::r,(q,v)::s,⟨h1,h2,h4⟩,e=>by
  rw [Y20] at e;by_cases hk:k=k'
  ·subst hk;simp only [beq_self_eq_true] at e;cases e;refine ⟨v,?_,h2⟩;unfold valueAt;rw [Y2w (by simpa using h1)];rfl
  ·have hb:(k==k')=false:=by simpa using hk
   rw [hb] at e;obtain ⟨b,e1,e2⟩:=DicV.at h4 e;refine ⟨b,?_,e2⟩;unfold valueAt at e1 ⊢;rw [Y2x (by
    have h1':q=Sum.inr k':=h1;simp only [decide_eq_true_eq];intro z;rw [h1'] at z;exact hk (Sum.inr.inj z).symm)]
   exact e1
noncomputable def CvV (K:Y00)(u:V):Cv->Prop
 | .tup xs=>∃ a,u=.ref a/\TupK K a xs
 | .int i=>u=.int i
 | .fn _ x=>∃ f,u=.ref f/\PySem.W.nsIn K mainGlobals x=some (some (.ref f))
 | .oth=>∃ f,u=.ref f
theorem CvOk.v {K:Y00}{v:Value}{c:Cv}(h:CvOk K v c):∃ u,RelV u v/\CvV K u c:=by
 cases c with
 | tup xs=>obtain ⟨a,rfl,t⟩:=h;exact ⟨.ref a,rfl,a,rfl,t⟩
 | int i=>obtain ⟨t,rfl⟩:=h;exact ⟨.int i,⟨t,rfl⟩,rfl⟩
 | fn i x=>obtain ⟨f,rfl,t⟩:=h;exact ⟨.ref f,rfl,f,rfl,t⟩
 | oth=>obtain ⟨f,rfl⟩:=h;exact ⟨.ref f,rfl,f,rfl⟩
theorem z3i {kvs:List (Str×Cv)}:IxR X (λ x y H Q=>∃ a k c,x=.ref a/\y=.str k/\BT X.prog X.w X.K (.ref a) (.dic kvs)/\kvs.lookup k=some c/\∀ u,CvV X.K u c->Q u H):=by
 intro value slice pins s σ H x y v u Q I rx ry h hs;obtain ⟨a,k,xs,rfl,rfl,ok,l,q⟩:=h;cases rx;obtain ⟨a',o,es,ep,vs,ea,e1,ex,ed,ks,ps,nd,dv⟩:=ok;cases ea;obtain ⟨b,e2,tk⟩:=dv.at l;obtain ⟨bu,tr,tk⟩:=tk.v;have eh:=I.kIn a o e1;have dd:s.heap.DictOf (zw X.prog X.w) a vs:=⟨o,es,ep,eh,ex,ed,ks,ps,nd⟩;exact tail_any ⟨o,eh,ex.1⟩ slot_dict_getitem.lookup (wpAny_getItem_of (Ze (k:=.inr k) ry) dd.mapOf e2 ⟨bu,H,I.tok _,tr,q bu tk⟩) hs
theorem TupK.rep {K:Y00}{μ:List Addr}{H:Hp}{a:Addr}{xs:List Str}(h:TupK K a xs):Rep K μ H (.tup (xs.map .str)) (.ref a):=by
 have rs:∀ ys:List Str,Reps K μ H (ys.map D.str) (ys.map V.str):=λ ys=>by
  induction ys with
  | nil=>exact .nil
  | cons y r ih=>exact .cons (.str y) ih
 exact .tup (.inr h) (rs xs)
theorem CvV.rep {K:Y00}{μ:List Addr}{H:Hp}{u:V}{c:Cv}(h:CvV K u c)(nf:c.isFn=false):Rep K μ H c.d u:=by
 cases c with
 | tup xs=>obtain ⟨a,rfl,t⟩:=h;exact t.rep
 | int i=>cases h;exact .int i
 | fn i x=>cases nf
 | oth=>cases nf
theorem BW (hu:X.A.units+1<cLine):IxR X (r2 X.K cv zY):=by
 intro value slice pins s σ H x y v u Q I rx ry hh hs;obtain ⟨μ,h,a,b,Z',hr,ra,rb,p⟩:=hh;cases ra with
 | tup h1 h2 =>
  cases rb with
  | int k =>
   rw [sub_tup] at p;split at p
   ·rename_i d e;obtain ⟨w,e1,e2⟩:=h2.atI e;exact z2y value slice pins s σ H _ _ v u Q I rx ry ⟨_,_,_,w,rfl,rfl,h1,e1,p.here hr e2⟩ hs
   ·exact p.elim
  | _=>exact p.elim
 | fl h1 h2 =>
  cases rb with
  | int k =>
   rw [sub_fl] at p;split at p
   ·rename_i d e;obtain ⟨w,e1,e2⟩:=h2.atI e;exact U5 value slice pins s σ H _ _ v u Q I rx ry ⟨_,_,_,w,rfl,rfl,h1.sq,e1,p.here hr e2⟩ hs
   ·exact p.elim
  | _=>exact p.elim
 | str z =>
  cases rb with
  | int k =>
   rw [Wh] at p;split at p
   ·rename_i c;split at p
    ·rename_i d e;exact z2z value slice pins s σ H _ _ v u Q I rx ry ⟨_,_,_,rfl,rfl,jp c,e,p.here hr (.str _)⟩ hs
    ·exact p.elim
   ·exact p.elim
  | _=>exact p.elim
 | @loc nn a m =>
  rw [BM] at p;cases e1:h[nn]? with
  | none=>rw [e1] at p;exact p.elim
  | some o =>
   rw [e1] at p;have q:=hr.obj nn a o m e1;cases o with
   | lst xs =>
    obtain ⟨vs,q1,q2⟩:=q;cases rb with
    | int k =>
     cases e2:atI xs k with
     | none=>simp only [e2] at p;exact p.elim
     | some d =>
      simp only [e2] at p;obtain ⟨w,e3,e4⟩:=q2.atI e2;exact U5 value slice pins s σ H _ _ v u Q I rx ry ⟨_,_,_,w,rfl,rfl,SqL.of q1,e3,p.here hr e4⟩ hs
    | _=>exact p.elim
   | obj _ _=>exact p.elim
   | dK kvs =>
    obtain ⟨vs,q1,q2⟩:=q;cases e2:yn b with
    | none=>simp only [e2,Y2c] at p;exact p.elim
    | some k =>
     simp only [e2,Y1j] at p;cases e3:qw kvs k with
     | none=>simp only [e3] at p;exact p.elim
     | some d =>
      simp only [e3] at p;obtain ⟨w,e4,e5⟩:=q2.val e3;have ey:=Qd rb e2;subst ey;exact BV hu value slice pins s σ H _ _ v u Q I rx ry ⟨_,w,rfl,e4▸DGet.k q1,p.here hr e5⟩ hs
   | dT kvs =>
    obtain ⟨vs,q1,q2⟩:=q;cases e2:yD b with
    | none=>simp only [e2,Y2c] at p;exact p.elim
    | some k =>
     simp only [e2,Y1j] at p;cases e3:qw kvs k with
     | none=>simp only [e3] at p;exact p.elim
     | some d =>
      simp only [e3] at p;obtain ⟨w,e4,e5⟩:=q2.val e3;obtain ⟨c,rfl,hc⟩:=yo rb e2;exact z5x hu value slice pins s σ H _ _ v u Q I rx ry ⟨_,_,_,_,w,rfl,rfl,q1,hc,e4,p.here hr e5⟩ hs
 | _=>exact p.elim
noncomputable def z81 (K:Y00)(cv:Nat->Value):List V->Hp->VK->Prop:=λ xs H Q=>∃ x,xs=[x]/\r1 K cv jL x H Q
theorem Vf:CallR X (.builtin "len") (z81 X.K cv):=by
 intro pins s σ H xs us Q I r hh;obtain ⟨x,rfl,μ,h,a,Z',hr,ra,p⟩:=hh;refine G6 pins s σ H _ us Q I r ⟨x,?_⟩;cases ra with
 | tup h1 h2=>exact ⟨_,rfl,.inr ⟨_,h1,h2.length⟩,p.here hr (.int _)⟩
 | @loc nn b m =>
  rw [len_loc] at p;cases e1:rd h nn with
  | none=>rw [e1] at p;exact p.elim
  | some ys =>
   rw [e1] at p;obtain ⟨vs,hs1,rs⟩:=hr.rd e1 m;exact ⟨_,rfl,.inl ⟨_,hs1,rs.length⟩,p.here hr (.int _)⟩
 | fl h1 h2=>exact ⟨_,rfl,.inl ⟨_,h1.sq,h2.length⟩,p.here hr (.int _)⟩
 | str y =>
  rw [len_str] at p;split at p
  ·rename_i c;exact ⟨_,rfl,⟨jp c,rfl⟩,p.here hr (.int _)⟩
  ·exact p.elim
 | _=>exact p.elim
noncomputable def isD (T:Nat)(d:D)(h:Hh):Res D:=match isI h d T with | some b=>.ok (.bl b) h | none=>.no
theorem Yi {P:Nat->Prop}{T:Nat}(hT:T<5)(a:P 0)(b:P 1)(c:P 2)(d:P 3)(e:P 4):P T:=by
 match T,hT with | 0,_=>exact a | 1,_=>exact b | 2,_=>exact c | 3,_=>exact d | 4,_=>exact e
theorem GJ (T:Nat)(hT:T<5):CallR X (.builtin "isinstance") (λ xs H Q=>∃ x,xs=[x,.ty (Ug T)]/\r1 X.K cv (isD T) x H Q):=by
 intro pins s σ H xs us Q I r hh;obtain ⟨x,rfl,μ,h,a,Z',hr,ra,p⟩:=hh;obtain ⟨u,w',rfl,rx,rw'⟩:=z5n r;cases (show w'=Value.type (Ug T) from rw');unfold isD at p;have key:∀ (b:Bool),Q (.bl b) H->∀ tk,EP X pins σ Q (.bool b) { s with toks:=tk }:=λ b q tk=>⟨.bl b,H,I.tok _,rfl,q⟩;cases ra with
 | non =>
  have p1:Q (.bl false) H:=p.here hr (.bl _);refine wX I rx .non (b:=false) ?_ (key _ p1);apply Yi hT<;>rfl
 | bl y =>
  have p1:Q (.bl (T==0||T==1)) H:=p.here hr (.bl _);refine wX I rx (.bl y) (b:=(T==0||T==1)) ?_ (key _ p1);apply Yi hT<;>rfl
 | int y =>
  have p1:Q (.bl (T==0)) H:=p.here hr (.bl _);refine wX I rx (.int y) (b:=(T==0)) ?_ (key _ p1);apply Yi hT<;>rfl
 | str y =>
  have p1:Q (.bl (T==2)) H:=p.here hr (.bl _);refine wX I rx (.str y) (b:=(T==2)) ?_ (key _ p1);apply Yi hT<;>rfl
 | tup h1 h2 =>
  have p1:Q (.bl (T==3)) H:=p.here hr (.bl _);cases rx;obtain ⟨its,rv,⟨o,g1,g2,_⟩,_⟩:=I.tuple h1;refine Y17 PySem.W.kitx_tuple I.kIn ⟨_,g1,g2⟩ (b:=(T==3)) ?_ (λ z=>nomatch z) (key _ p1);apply Yi hT<;>rfl
 | fl h1 h2 =>
  have p1:Q (.bl (T==4)) H:=p.here hr (.bl _);cases rx;obtain ⟨its,rv,⟨o,n',g1,g2,_⟩,_⟩:=I.list h1.sq;refine Y17 Y2n I.kIn ⟨_,g1,g2⟩ (b:=(T==4)) ?_ (λ z=>nomatch z) (key _ p1);apply Yi hT<;>rfl
 | @loc nn b m =>
  cases e1:rd h nn with
  | none=>rw [show isI h (.loc nn) T=(rd h nn).map λ _=>T==4 from rfl,e1] at p;exact p.elim
  | some ys =>
   rw [show isI h (.loc nn) T=(rd h nn).map λ _=>T==4 from rfl,e1] at p;have p1:Q (.bl (T==4)) H:=p.here hr (.bl _);obtain ⟨vs,hs1,rs⟩:=hr.rd e1 m;cases rx;obtain ⟨its,rv,⟨o,n',g1,g2,_⟩,_⟩:=I.list hs1;refine Y17 Y2n I.kIn ⟨_,g1,g2⟩ (b:=(T==4)) ?_ (λ z=>nomatch z) (key _ p1);apply Yi hT<;>rfl
end
section
variable {X:Cx}{Z:ZK}{k:Nat}{n:Nm}{cv:Nat->Value}{cl:Nat->List D->Hh->Res D}
noncomputable def rM0 (K:Y00)(cv:Nat->Value)(m:M0):V->List V->Hp->VK->Prop:=λ x vs H Q=>vs=[]/\r1 K cv (m0D m) x H Q
noncomputable def rM1 (K:Y00)(cv:Nat->Value)(m:M1):V->List V->Hp->VK->Prop:=λ x vs H Q=>∃ y,vs=[y]/\r2 K cv (m1D m) x y H Q
theorem jM {K:Y00}{μ:List Addr}{H:Hp}{h:Hh}(hr:HR K μ h H){n:Nat}{a:Addr}{xs:List D}(m:μ[n]?=some a)(e:h[n]?=some (.lst xs)):∃ vs,H a=some (.lst vs)/\Reps K μ H xs vs:=hr.obj n a _ m e
theorem Reps.reverse {K:Y00}{μ:List Addr}{H:Hp}:∀ {ds:List D}{vs:List V},Reps K μ H ds vs->Reps K μ H ds.reverse vs.reverse
 | _,_,.nil=>.nil
 | _,_,.cons h r=>by rw [Y1t,Y1t];exact r.reverse.append (.cons h .nil)
theorem Reps.dropLast {K:Y00}{μ:List Addr}{H:Hp}:∀ {ds:List D}{vs:List V},Reps K μ H ds vs->Reps K μ H ds.dropLast vs.dropLast
 | _,_,.nil=>.nil
 | _,_,.cons h .nil=>.nil
 | _,_,.cons h (.cons h' r)=>.cons h (Reps.dropLast (.cons h' r))
theorem Reps.set {K:Y00}{μ:List Addr}{H:Hp}{d:D}{v:V}(q:Rep K μ H d v):∀ {ds:List D}{vs:List V} (i:Nat),Reps K μ H ds vs->Reps K μ H (ds.set i d) (vs.set i v)
 | _,_,_,.nil=>.nil
 | _,_,0,.cons _ r=>.cons q r
 | _,_,i+1,.cons h r=>.cons h (Reps.set q i r)
theorem Reps.take {K:Y00}{μ:List Addr}{H:Hp}:∀ {ds:List D}{vs:List V} (i:Nat),Reps K μ H ds vs->Reps K μ H (ds.take i) (vs.take i)
 | _,_,0,_=>.nil
 | _,_,_+1,.nil=>.nil
 | _,_,i+1,.cons h r=>.cons h (Reps.take i r)
theorem Reps.drop {K:Y00}{μ:List Addr}{H:Hp}:∀ {ds:List D}{vs:List V} (i:Nat),Reps K μ H ds vs->Reps K μ H (ds.drop i) (vs.drop i)
 | _,_,0,r=>r
 | _,_,_+1,.nil=>.nil
 | _,_,i+1,.cons _ r=>Reps.drop i r
theorem Reps.cut {K:Y00}{μ:List Addr}{H:Hp}{ds:List D}{vs:List V}(r:Reps K μ H ds vs)(lo hi:Option Int):Reps K μ H (jc ds lo hi) (WV vs lo hi):=by
 unfold jc WV;rw [<- r.length];exact (r.drop _).take _
theorem BX:MtR X "list.pop" (rM0 X.K cv .pop):=by
 intro pins s σ H x xs v us Q I rx rs hh;obtain ⟨rfl,μ,h,a,Z',hr,ra,p⟩:=hh;unfold m0D at p;cases ra with
 | @loc nn b m =>
  cases e1:h[nn]? with
  | none=>simp only [e1] at p;exact p.elim
  | some o =>
   cases o with
   | dK _=>simp only [e1] at p;exact p.elim
   | dT _=>simp only [e1] at p;exact p.elim
   | obj _ _=>simp only [e1] at p;exact p.elim
   | lst ds =>
    simp only [e1] at p;obtain ⟨vs,q1,q2⟩:=jM hr m e1;cases e2:ds.getLast? with
    | none=>simp only [e2] at p;exact p.elim
    | some d =>
     simp only [e2] at p;rw [List.getLast?_eq_getElem?] at e2;obtain ⟨w,e3,e4⟩:=q2.get e2;rw [q2.length] at e3;obtain ⟨hr',ex⟩:=hr.chg (u:=.lst vs.dropLast) (o':=.lst ds.dropLast) e1 m λ H' ex e=>⟨_,e,(q2.mono ex).dropLast⟩;exact z31 pins s σ H _ _ v us Q I rx rs ⟨b,vs,w,rfl,rfl,q1,e3,p μ _ w ex hr' (e4.mono ex)⟩
 | _=>exact p.elim
theorem Yj:MtR X "list.append" (rM1 X.K cv .append):=by
 intro pins s σ H x xs v us Q I rx rs hh;obtain ⟨y,rfl,μ,h,a,d,Z',hr,ra,rb,p⟩:=hh;unfold m1D at p;cases ra with
 | @loc nn b m =>
  cases e1:h[nn]? with
  | none=>simp only [e1] at p;exact p.elim
  | some o =>
   cases o with
   | dK _=>simp only [e1] at p;exact p.elim
   | dT _=>simp only [e1] at p;exact p.elim
   | obj _ _=>simp only [e1] at p;exact p.elim
   | lst ds =>
    simp only [e1] at p;obtain ⟨vs,q1,q2⟩:=jM hr m e1;split at p
    ·rename_i c;obtain ⟨hr',ex⟩:=hr.chg (u:=.lst (vs++[y])) (o':=.lst (ds++[d])) e1 m λ H' ex e=>⟨_,e,(q2.mono ex).append (.cons (rb.mono ex) .nil)⟩;exact UY pins s σ H _ _ v us Q I rx rs ⟨b,vs,y,rfl,rfl,q1,by rw [<- q2.length];exact Uj c,p μ _ .non ex hr' .non⟩
    ·exact p.elim
 | _=>exact p.elim
theorem Yk (l b:Addr)(xs ys:Array Value)(n m:Nat)(dd:Option Addr)(ss:Array (Option Value))(h0:¬(!xs.isEmpty&&Builtin.List.listTooLong (xs.size+ys.size))=true)(h1:xs.size<=sizeLine)(h2:xs.size+ys.size<=sizeLine+1) :
  Meets (Builtin.«list.extend» ⟨[.ref l,.ref b],[]⟩) (λ _ R s =>
   s.heap.get? l=some { cls:=.type "list",data:=.seq xs n } /\
   s.heap.get? b=some ⟨.type "tuple",dd,.seq ys m,ss⟩ /\
   R (.ok (.ret Value.none)) { s with heap:=s.heap.update l (Obj.mapSeq λ x=>x++ys),toks:=s.toks }) :=
 .of_wp λ prog w A R s h=>by
  obtain ⟨hp,g,d,tk,os⟩:=s;obtain ⟨hl,hb,h⟩:=h;have f1:=AutoSeq1.idx_int;have f2:=AutoSeq1.sub_list_tuple;have f3:=AutoSeq1.sub_tuple_list;have f4:=AutoSeq1.sub_tuple_tuple;have f5:=AutoSeq1.sub_list_list;have hz:(xs++ys).size<=sizeLine+1:=by rw [Array.size_append];exact h2
  wp_walk using (wpAny_updateSeq hl rfl (hz:=h1) (_hz':=hz)),AutoSeq1.wpAny_loadPart' hl,AutoSeq1.wpAny_loadPart' hb
  exact ⟨_,rfl,h⟩
noncomputable def z5y (K:Y00):V->List V->Hp->VK->Prop:=λ x vs H Q=>∃ l b xs zs,x=.ref l/\vs=[.ref b]/\H l=some (.lst xs)/\SqT K H b zs/\xs.length+zs.length<=sizeLine/\Q .non (upd H l (.lst (xs++zs)))
theorem BY {X:Cx}:MtM X "list.extend" (z5y X.K):=by
 intro pins s σ H x vs v us Q I rx rv h;obtain ⟨l,b,xs,zs,rfl,rfl,hH,hB,hz,q⟩:=h;cases rx;obtain ⟨u,rfl,ru⟩:=rv.one;cases ru;obtain ⟨z,its,n,r,hl,e⟩:=I.lstM hH;obtain ⟨its2,r2,⟨o,e2,oc,m,od⟩,z2⟩:=I.tuple hB;obtain ⟨oc',dd,od',ss⟩:=o;cases oc;cases od;have hl2:=r2.length;have hsz:its.toArray.size+its2.toArray.size<=sizeLine:=by simp only [Y0d];omega
 have hlong:¬ (!its.toArray.isEmpty&&Builtin.List.listTooLong (its.toArray.size+its2.toArray.size))=true:=by rw [Zd hsz,Bool.and_false];exact Y0s
 refine call_meets F.slot_list_extend ⟨_,e,rfl⟩ F.entry_list_extend (F.args_list_extend_2 _ _) (Yk l b its.toArray its2.toArray n m dd ss hlong (by simp only [Y0d];omega) (by omega)) ⟨e,e2,?_⟩;refine ⟨.non,_,I.lset (its':=its++its2) hH e (by simp) (r.append r2) (by rw [Y03];omega),rfl,q⟩
theorem Yl:MtR X "list.extend" (rM1 X.K cv .extend):=by
 intro pins s σ H x xs v us Q I rx rs hh;obtain ⟨y,rfl,μ,h,a,d,Z',hr,ra,rb,p⟩:=hh;unfold m1D at p;cases ra with
 | @loc nn b m =>
  cases e1:h[nn]? with
  | none=>simp only [e1] at p;exact p.elim
  | some o =>
   cases o with
   | dK _=>simp only [e1] at p;exact p.elim
   | dT _=>simp only [e1] at p;exact p.elim
   | obj _ _=>simp only [e1] at p;exact p.elim
   | lst ds =>
    simp only [e1] at p;obtain ⟨vs,q1,q2⟩:=jM hr m e1;cases rb with
    | @loc nm b2 m2 =>
     cases e2:h[nm]? with
     | none=>simp only [e2] at p;exact p.elim
     | some o2 =>
      cases o2 with
      | dK _=>simp only [e2] at p;exact p.elim
      | dT _=>simp only [e2] at p;exact p.elim
      | obj _ _=>simp only [e2] at p;exact p.elim
      | lst ds2 =>
       simp only [e2] at p;obtain ⟨vs2,q3,q4⟩:=jM hr m2 e2;split at p
       ·rename_i c;obtain ⟨hr',ex⟩:=hr.chg (u:=.lst (vs++vs2)) (o':=.lst (ds++ds2)) e1 m λ H' ex e=>⟨_,e,(q2.mono ex).append (q4.mono ex)⟩;exact UZ pins s σ H _ _ v us Q I rx rs ⟨b,b2,vs,vs2,rfl,rfl,q1,q3,by rw [<- q2.length,<- q4.length];exact jp c,p μ _ .non ex hr' .non⟩
       ·exact p.elim
    | @tup ds2 vs2 b2 q3 q4 =>
     simp only at p;split at p
     ·rename_i c;obtain ⟨hr',ex⟩:=hr.chg (u:=.lst (vs++vs2)) (o':=.lst (ds++ds2)) e1 m λ H' ex e=>⟨_,e,(q2.mono ex).append (q4.mono ex)⟩;exact BY pins s σ H _ _ v us Q I rx rs ⟨b,b2,vs,vs2,rfl,rfl,q1,q3,by rw [<- q2.length,<- q4.length];exact jp c,p μ _ .non ex hr' .non⟩
     ·exact p.elim
    | _=>exact p.elim
 | _=>exact p.elim
noncomputable def z82 (K:Y00)(cv:Nat->Value):V->Option Int->Option Int->Hp->VK->Prop:=λ x lo hi H Q=>∃ μ h a Z,HR K μ h H/\Rep K μ H a x/\PostE K cv (Rep K) μ H (jS a lo hi h) Q Z
theorem wc {K:Y00}{cv:Nat->Value}{μ:List Addr}{H:Hp}{h:Hh}{ds:List D}{vs:List V}{Q:VK}{Z:Value->Hp->Prop}(hr:HR K μ h H)(r:Reps K μ H ds vs)(p:PostE K cv (Rep K) μ H (new (.lst ds) h) Q Z) :
  ∀ b,H b=none->Q (.ref b) (upd H b (.lst vs)):=λ b hb=>by
 refine p _ _ _ ((zm hb).add hb) (hr.alloc hb (hr.fresh hb) λ μ' g=>⟨_,zu,(r.mono (zm hb)).mono' g⟩) (.loc ?_);rw [<- hr.len,Y0w (Y09 _),Y23];rfl
theorem BZ {xs:List D}{lo hi:Option Int}{h:Hh}:jS (.tup xs) lo hi h=if HT.sIx xs.length 0 lo=0/\HT.sIx xs.length xs.length hi=xs.length then .ok (.tup xs) h else .ok (.tup (jc xs lo hi)) h:=rfl
theorem z00 {n:Nat}{lo hi:Option Int}{h:Hh}:jS (.loc n) lo hi h=match rd h n with | some xs=>new (.lst (jc xs lo hi)) h | none=>.no:=rfl
theorem z01:SlR X (z82 X.K cv):=by
 intro pins s σ H x v vl vu lo hi sl Q I rx hs pl pu hh;obtain ⟨μ,h,a,Z',hr,ra,p⟩:=hh;cases ra with
 | tup h1 h2 =>
  rw [BZ] at p;split at p
  ·rename_i c;rw [h2.length] at c;exact BE pins s σ H _ v vl vu lo hi sl Q I rx hs pl pu ⟨_,_,rfl,h1,c.1,c.2,p.here hr (.tup h1 h2)⟩
  ·rename_i c;rw [h2.length] at c;exact z2x pins s σ H _ v vl vu lo hi sl Q I rx hs pl pu ⟨_,_,rfl,h1,c,λ b hb=>p μ _ _ (zm hb) (hr.tup hb) (.tup (SqT.of zu) ((h2.cut lo hi).mono (zm hb)))⟩
 | fl h1 h2=>exact U6 pins s σ H _ v vl vu lo hi sl Q I rx hs pl pu ⟨_,_,rfl,h1.sq,wc hr (h2.cut lo hi) p⟩
 | str x =>
  simp only [jS] at p;split at p
  ·rename_i c;exact z3a pins s σ H _ v vl vu lo hi sl Q I rx hs pl pu ⟨x,rfl,Y0t c (by decide),p.here hr (.str _)⟩
  ·exact p.elim
 | @loc nn b m =>
  rw [z00] at p;cases e1:rd h nn with
  | none=>simp only [e1] at p;exact p.elim
  | some xs =>
   simp only [e1] at p;obtain ⟨vs,hs1,rs⟩:=hr.rd e1 m;exact U6 pins s σ H _ v vl vu lo hi sl Q I rx hs pl pu ⟨_,_,rfl,hs1,wc hr (rs.cut lo hi) p⟩
 | _=>exact p.elim
theorem JH {K:Y00}{μ:List Addr}{H:Hp}{h:Hh}{d:D}{v:V}{xs:List D}(hr:HR K μ h H)(r:Rep K μ H d v)(e:wz d h=some xs):∃ a vs,v=.ref a/\((SqL K H a vs/\(∀ ys,d≠.tup ys))\/(SqT K H a vs/\d=.tup xs))/\Reps K μ H xs vs:=by
 unfold wz at e;cases r with
 | tup h1 h2=>cases e;exact ⟨_,_,rfl,.inr ⟨h1,rfl⟩,h2⟩
 | fl h1 h2=>cases e;exact ⟨_,_,rfl,.inl ⟨h1.sq,λ _ z=>nomatch z⟩,h2⟩
 | @loc nn b m =>
  unfold PI.rd at e;cases e1:h[nn]? with
  | none=>simp only [e1] at e;cases e
  | some o =>
   cases o with
   | dK _=>simp only [e1] at e;cases e
   | dT _=>simp only [e1] at e;cases e
   | obj _ _=>simp only [e1] at e;cases e
   | lst ds =>
    simp only [e1] at e;cases e;obtain ⟨vs,q1,q2⟩:=jM hr m e1;exact ⟨_,_,rfl,.inl ⟨SqL.of q1,λ _ z=>nomatch z⟩,q2⟩
 | _=>cases e
noncomputable def z1m (d:D)(h:Hh):Res D:=match wz d h with | some xs=>new (.lst xs) h | none=>.no
noncomputable def z5z (d:D)(h:Hh):Res D:=match wz d h with | some xs=>.ok (.tup xs) h | none=>.no
theorem Ym:CallR X (.type "list") (λ xs H Q=>∃ x,xs=[x]/\r1 X.K cv z1m x H Q):=by
 intro pins s σ H xs us Q I r hh;obtain ⟨x,rfl,μ,h,a,Z',hr,ra,p⟩:=hh;unfold z1m at p;cases e:wz a h with
 | none=>rw [e] at p;exact p.elim
 | some ds =>
  rw [e] at p;obtain ⟨b,vs,rfl,q1,q2⟩:=JH hr ra e;exact Wa pins s σ H _ us Q I r ⟨b,vs,rfl,q1.elim (λ z=>.inl z.1) (λ z=>.inr z.1),wc hr q2 p⟩
theorem Vg:CallR X (.type "tuple") (λ xs H Q=>∃ x,xs=[x]/\r1 X.K cv z5z x H Q):=by
 intro pins s σ H xs us Q I r hh;obtain ⟨x,rfl,μ,h,a,Z',hr,ra,p⟩:=hh;unfold z5z at p;cases e:wz a h with
 | none=>rw [e] at p;exact p.elim
 | some ds =>
  rw [e] at p;obtain ⟨b,vs,rfl,q1,q2⟩:=JH hr ra e;refine qh pins s σ H _ us Q I r ⟨b,vs,rfl,?_⟩;rcases q1 with ⟨q1,_⟩ | ⟨q1,rfl⟩
  ·exact .inl ⟨q1,λ l hl=>p μ _ _ (zm hl) (hr.tup hl) (.tup (SqT.of zu) (q2.mono (zm hl)))⟩
  ·exact .inr ⟨q1,p.here hr ra⟩
theorem Zx {K:Y00}{μ:List Addr}{H:Hp}:∀ {ds:List D}{vs:List V}{bs:List Bool},Reps K μ H ds vs->qP ds=some bs->vs=bs.map V.bl
 | _,_,_,.nil,e=>by cases e;rfl
 | _,_,_,.cons r t,e=>by
  cases r with
  | bl b =>
   unfold qP at e;obtain ⟨bs',e1,rfl⟩:=Y27.mp e;rw [Zx t e1];rfl
  | _=>cases e
theorem yp {K:Y00}{μ:List Addr}{H:Hp}:∀ {ds:List D}{vs:List V}{bs:List Str},Reps K μ H ds vs->qx ds=some bs->vs=bs.map V.str
 | _,_,_,.nil,e=>by cases e;rfl
 | _,_,_,.cons r t,e=>by
  cases r with
  | str b =>
   unfold qx at e;obtain ⟨bs',e1,rfl⟩:=Y27.mp e;rw [yp t e1];rfl
  | _=>cases e
theorem jq {K:Y00}{μ:List Addr}{H:Hp}{h:Hh}{n:Nat}{a:Addr}{ds:List D}(hr:HR K μ h H)(m:μ[n]?=some a)(e:PI.rd h n=some ds):∃ vs,H a=some (.lst vs)/\Reps K μ H ds vs:=by
 unfold PI.rd at e;cases e1:h[n]? with
 | none=>simp only [e1] at e;cases e
 | some o =>
  cases o with
  | dK _=>simp only [e1] at e;cases e
  | dT _=>simp only [e1] at e;cases e
  | obj _ _=>simp only [e1] at e;cases e
  | lst xs =>
   simp only [e1] at e;cases e;exact jM hr m e1
theorem Vh:CallR X (.type "str") (λ xs H Q=>∃ x,xs=[x]/\r1 X.K cv (c1D .str) x H Q):=by
 intro pins s σ H xs us Q I r hh;obtain ⟨x,rfl,μ,h,a,Z',hr,ra,p⟩:=hh;unfold c1D at p;cases ra with
 | int i =>
  simp only at p;split at p
  ·rename_i c;exact W4 pins s σ H _ us Q I r ⟨i,rfl,c,p.here hr (.str _)⟩
  ·exact p.elim
 | str z =>
  obtain ⟨u,rfl,t,rfl⟩:=jI r;exact PySem.P.str_of_str ⟨.str z,H,I,⟨_,rfl⟩,p.here hr (.str _)⟩
 | _=>exact p.elim
theorem Vi:CallR X (.type "int") (λ xs H Q=>∃ x,xs=[x]/\r1 X.K cv (c1D .int) x H Q):=by
 intro pins s σ H xs us Q I r hh;obtain ⟨x,rfl,μ,h,a,Z',hr,ra,p⟩:=hh;unfold c1D at p;cases ra with
 | int i=>exact Jr pins s σ H _ us Q I r (.inl ⟨i,rfl,p.here hr (.int _)⟩)
 | bl b=>exact Jr pins s σ H _ us Q I r (.inr ⟨b,rfl,p.here hr (.int _)⟩)
 | str z =>
  simp only at p;split at p
  ·rename_i n e;split at p
   ·rename_i c;exact V3 pins s σ H _ us Q I r ⟨z,n,rfl,e,c,p.here hr (.int _)⟩
   ·exact p.elim
  ·exact p.elim
 | _=>exact p.elim
theorem Vj:CallR X (.builtin "abs") (λ xs H Q=>∃ x,xs=[x]/\r1 X.K cv (c1D .abs) x H Q):=by
 intro pins s σ H xs us Q I r hh;obtain ⟨x,rfl,μ,h,a,Z',hr,ra,p⟩:=hh;unfold c1D at p;cases ra with
 | int i=>exact G5 pins s σ H _ us Q I r ⟨i,rfl,p.here hr (.int _)⟩
 | _=>exact p.elim
theorem Vk (hc:X.calm=true):CallR X (.builtin "all") (λ xs H Q=>∃ x,xs=[x]/\r1 X.K cv (c1D .all) x H Q):=by
 intro pins s σ H xs us Q I r hh;obtain ⟨x,rfl,μ,h,a,Z',hr,ra,p⟩:=hh;unfold c1D at p;cases ra with
 | @loc nn b m =>
  simp only at p;split at p
  ·rename_i bs e;obtain ⟨ds,e1,e2⟩:=Y2s.mp e;obtain ⟨vs,q1,q2⟩:=jq hr m e1;have ev:=Zx q2 e2;subst ev;exact Gp hc pins s σ H _ us Q I r ⟨b,bs,rfl,SqL.of q1,p.here hr (.bl _)⟩
  ·exact p.elim
 | _=>exact p.elim
theorem GK (hc:X.calm=true):CallR X (.builtin "any") (λ xs H Q=>∃ (p:Addr) (bs:List Bool),xs=[.ref p]/\SqL X.K H p (bs.map V.bl)/\Q (.bl (bs.any id)) H):=by
 intro pins s σ H xs us Q I r h;obtain ⟨p,bs,rfl,hq,q⟩:=h;obtain ⟨u,rfl,ru⟩:=jI r;cases ru;obtain ⟨its,rv,pl,hz⟩:=I.list hq;have hb:=Zm rv;have hl:s.heap.IsList p its.toArray:=pl.isList;have hlt:p<s.heap.objs.size:=by obtain ⟨_,e,_⟩:=hl;exact Y0h e
 refine call_any_walk (wpAny_pyIter_list hl ?_);refine ⟨s.heap.objs.size,[s.heap.objs.size,p],[s.heap.objs.size],its.toArray.size,_,_,λ i=>(bs[i]?).getD false,rfl,Walks.list (A:=X.A.in1) (I.ok.hd hc) _ p (Y0r hlt) its.toArray,
  ⟨⟨_,Y0i _ rfl,rfl,rfl⟩,hl.push _⟩,λ i v s' Q' E' hP hQ=>?_,λ h' tk hk=>?_⟩
 ·obtain ⟨b,e,rfl⟩:=hb.get i v (by simpa using hP);simp only [e,Y3k] at hQ;exact wpAny_truthy_bool hQ
 ·have e:((List.range its.toArray.size).any λ i=>(bs[i]?).getD false)=bs.any id:=by
   rw [Y0d,hb.length];exact PyProof.Rows.LSm.range_any bs
  rw [e];exact ⟨.bl (bs.any id),H,I.kept (PyProof.Rows.LSm.kept_iter hk),rfl,q⟩
theorem Vl (hc:X.calm=true):CallR X (.builtin "any") (λ xs H Q=>∃ x,xs=[x]/\r1 X.K cv (c1D .any) x H Q):=by
 intro pins s σ H xs us Q I r hh;obtain ⟨x,rfl,μ,h,a,Z',hr,ra,p⟩:=hh;unfold c1D at p;cases ra with
 | @loc nn b m =>
  simp only at p;split at p
  ·rename_i bs e;obtain ⟨ds,e1,e2⟩:=Y2s.mp e;obtain ⟨vs,q1,q2⟩:=jq hr m e1;have ev:=Zx q2 e2;subst ev;exact GK hc pins s σ H _ us Q I r ⟨b,bs,rfl,SqL.of q1,p.here hr (.bl _)⟩
  ·exact p.elim
 | _=>exact p.elim
theorem Reps.eraseIdx {K:Y00}{μ:List Addr}{H:Hp}:∀ {ds:List D}{vs:List V} (i:Nat),Reps K μ H ds vs->Reps K μ H (ds.eraseIdx i) (vs.eraseIdx i)
 | _,_,_,.nil=>.nil
 | _,_,0,.cons _ r=>r
 | _,_,i+1,.cons h r=>.cons h (Reps.eraseIdx i r)
theorem GL:MtR X "str.join" (λ x vs H Q=>∃ y,vs=[y]/\r2 X.K cv Zt x y H Q):=by
 intro pins s σ H x xs v us Q I rx rs hh;obtain ⟨y,rfl,μ,h,a,d,Z',hr,ra,rb,p⟩:=hh;unfold Zt at p;cases ra with
 | str sep =>
  cases rb with
  | @loc nn b m =>
   simp only at p;split at p
   ·rename_i ys e;split at p
    ·rename_i c;obtain ⟨ds,e1,e2⟩:=Y2s.mp e;obtain ⟨vs,q1,q2⟩:=jq hr m e1;have ev:=yp q2 e2;subst ev;exact Bt pins s σ H _ _ v us Q I rx rs ⟨sep,b,ys,rfl,rfl,SqL.of q1,c,p.here hr (.str _)⟩
    ·exact p.elim
   ·exact p.elim
  | @tup ds vs b h1 h2 =>
   simp only at p;split at p
   ·rename_i ys e;split at p
    ·rename_i c;have ev:=yp h2 e;subst ev;obtain ⟨t,rfl⟩:=rx;obtain ⟨u,rfl,ru⟩:=jI rs;cases ru;obtain ⟨its,rv,pl,_⟩:=I.tuple h1;exact join_tuple pl (by simpa using Wc rv) c λ t' k=>⟨.str _,H,I.tok _,⟨_,rfl⟩,p.here hr (.str _)⟩
    ·exact p.elim
   ·exact p.elim
  | _=>exact p.elim
 | _=>exact p.elim
theorem GM {K:Y00}{μ:List Addr}{H:Hp}(ys:List Str):Reps K μ H (ys.map D.str) (ys.map V.str):=by
 induction ys with
 | nil=>exact .nil
 | cons y r ih=>exact .cons (.str y) ih
theorem Vm:MtR X "str.split" (λ x vs H Q=>∃ y,vs=[y]/\r2 X.K cv Zu x y H Q):=by
 intro pins s σ H x xs v us Q I rx rs hh;obtain ⟨y,rfl,μ,h,a,d,Z',hr,ra,rb,p⟩:=hh;unfold Zu at p;cases ra with
 | str z =>
  cases rb with
  | str w =>
   simp only at p;split at p
   ·rename_i c;exact Gq pins s σ H _ _ v us Q I rx rs ⟨z,w,rfl,rfl,c.1,jp c.2.1,jp c.2.2.1,jp c.2.2.2,wc hr (GM _) p⟩
   ·exact p.elim
  | _=>exact p.elim
 | _=>exact p.elim
noncomputable def z83 (K:Y00):B7:=λ o i v H Q=>∃ μ h a b c h',HR K μ h H/\Rep K μ H a o/\Rep K μ H b i/\Rep K μ H c v/\Q5 a b c h=some h'/\∀ μ' H',Ext K μ H μ' H'->HR K μ' h' H'->Q H'
theorem RepKs.map {κ:Type}[DecidableEq κ]{K:Y00}{μ:List Addr}{H:Hp}{k:κ}{d:D}{v:V}(q:Rep K μ H d v):∀ {ds:List (κ×D)}{vs:List (κ×V)},RepKs K μ H ds vs ->
  RepKs K μ H (ds.map λ kv=>if kv.1=k then (kv.1,d) else kv) (vs.map λ kv=>if kv.1=k then (kv.1,v) else kv)
 | _,_,.nil=>.nil
 | _,_,.cons (k:=k') h r=>by
  rw [Y05,Y05];by_cases e:k'=k
  ·rw [if_pos e,if_pos e];exact .cons q (RepKs.map q r)
  ·rw [if_neg e,if_neg e];exact .cons h (RepKs.map q r)
theorem RepKs.any {κ:Type}[DecidableEq κ]{K:Y00}{μ:List Addr}{H:Hp}(k:κ):∀ {ds:List (κ×D)}{vs:List (κ×V)},RepKs K μ H ds vs->(ds.any λ kv=>decide (kv.1=k))=(vs.any λ kv=>decide (kv.1=k))
 | _,_,.nil=>rfl
 | _,_,.cons h r=>by rw [Y1m,Y1m,RepKs.any k r]
theorem RepKs.snoc {κ:Type}[DecidableEq κ]{K:Y00}{μ:List Addr}{H:Hp}{k:κ}{d:D}{v:V}(q:Rep K μ H d v):∀ {ds:List (κ×D)}{vs:List (κ×V)},RepKs K μ H ds vs->RepKs K μ H (ds++[(k,d)]) (vs++[(k,v)])
 | _,_,.nil=>.cons q .nil
 | _,_,.cons h r=>.cons h (RepKs.snoc q r)
theorem RepKs.put {κ:Type}[DecidableEq κ]{K:Y00}{μ:List Addr}{H:Hp}{k:κ}{d:D}{v:V}{ds:List (κ×D)}{vs:List (κ×V)}(r:RepKs K μ H ds vs)(q:Rep K μ H d v):RepKs K μ H (BJ ds k d) (qr vs k v):=by
 unfold BJ qr;rw [<- r.any k]
 split
 ·exact r.map q
 ·exact r.snoc q
theorem GN (hu:X.A.units+1<cLine):z2d X (z83 X.K):=by
 intro pins s σ H o i v ov iv u Q I ro ri rv hh;obtain ⟨μ,h,a,b,c,h',hr,ra,rb,rc,e,q⟩:=hh;unfold Q5 at e;cases ra with
 | @loc nn p m =>
  cases e1:h[nn]? with
  | none=>simp only [e1] at e;cases e
  | some ob =>
   cases ob with
   | lst xs =>
    simp only [e1] at e;obtain ⟨vs,q1,q2⟩:=jM hr m e1;cases rb with
    | int k =>
     cases e2:ixN xs.length k with
     | none=>simp only [e2,Option.map_none] at e;cases e
     | some j =>
      simp only [e2,Option.map_some] at e;cases e;obtain ⟨hr',ex⟩:=hr.chg (u:=.lst (vs.set j v)) (o':=.lst (xs.set j c)) e1 m λ H' ex e=>⟨_,e,(q2.mono ex).set (rc.mono ex) j⟩;exact G9 pins s σ H _ _ v ov iv u Q I ro ri rv ⟨p,vs,k,j,rfl,rfl,q1,by rw [<- q2.length];exact e2,q μ _ ex hr'⟩
    | _=>cases e
   | obj _ _=>simp only [e1] at e;cases e
   | dT _=>simp only [e1] at e;cases e
   | dK kvs =>
    simp only [e1] at e;obtain ⟨vs,q1,q2⟩:=(hr.obj nn p _ m e1:RepO X.K μ H p (.dK kvs));cases e2:yn b with
    | none=>simp only [e2,Y2c] at e;cases e
    | some k =>
     simp only [e2,Y1j] at e;split at e
     ·rename_i hl;cases e;have ey:=Qd rb e2;subst ey;obtain ⟨hr',ex⟩:=hr.chg (u:=.dK (qr vs k v)) (o':=.dK (BJ kvs k c)) e1 m λ H' ex e=>⟨_,e,(q2.mono ex).put (rc.mono ex)⟩;cases ro;exact V1 hu I (DPut.k q1 (by rw [<- q2.length];exact Uj hl)) ri rv λ s' I'=>⟨_,I',q μ _ ex hr'⟩
     ·cases e
 | _=>cases e
end
theorem ja {α β γ δ:Type}{K:Y00}{cv:Nat->Value}{R:List Addr->Hp->α->β->Prop}{R':List Addr->Hp->γ->δ->Prop}{μ0 μ:List Addr}{ρ:En}{h:Hh}{σ:St}{H0 H:Hp}{Z:ZK}{Zz:Value->Hp->Prop}{m:En->Hh->Res α}{f:α->Hh->Res γ}{Q:δ->Hp->Prop}{Q':β->Hp->Prop}
  (e0:Ext K μ0 H0 μ H) (hr:HR K μ h H) (er:ER K μ ρ σ H) (p:PostE K cv R' μ0 H0 ((m ρ h).bind f) Q Zz) (hz:∀ C H',Zz C H'->Z σ C H')
  (go:∀ a h1 μ1 H1 x,m ρ h=.ok a h1->Ext K μ H μ1 H1->HR K μ1 h1 H1->ER K μ1 ρ σ H1->R μ1 H1 a x->PostE K cv R' μ0 H0 (f a h1) Q Zz->Q' x H1) :
  zt K cv R Z m σ H Q':=by
 refine ⟨μ,ρ,h,hr,er,?_⟩;cases e:m ρ h with
 | ok a h1 =>
  rw [e,bind_ok] at p;exact λ μ1 H1 x e1 r1 q1=>go a h1 μ1 H1 x e e1 r1 (er.mono e1) q1 p
 | exc c h1 =>
  rw [e,bind_exc] at p;exact λ μ1 H1 e1 r1=>hz _ _ (p μ1 H1 (e0.trans e1) r1)
 | no=>rw [e,bind_no] at p;exact p
noncomputable def Src (K:Y00)(μ0:List Addr)(H0:Hp)(c:Ck)(ds:List D)(J:It):Prop:=∀ μ h H,Ext K μ0 H0 μ H->HR K μ h H->stay c h ->
 (∀ i d,ds[i]?=some d->J.go i H/\∀ x H',J.yld i H x H'->Ext K μ H μ H'/\HR K μ h H'/\Rep K μ H' d x)/\J.stop ds.length H
noncomputable def RJ (K:Y00):List Addr->Hp->(Ck×List D)->It->Prop:=λ μ H q J=>Src K μ H q.1 q.2 J
noncomputable def RL (K:Y00)(H0:Hp):List Addr->Hp->List D->V->Prop:=λ μ H ds v=>∃ p vs,v=.ref p/\H p=some (.lst vs)/\Reps K μ H ds vs/\p∉μ/\H0 p=none
abbrev GO (K:Y00)(cv:Nat->Value)(Z:ZK)(m:En->Hh->Res (List D)):TE:=λ σ H Q=>zt K cv (RL K H) Z m σ H Q
section
variable {K:Y00}{μ:List Addr}{H:Hp}{h:Hh}{ds:List D}{vs:List V}{a:Addr}
theorem Wm {c:Ck}{J:It}(k:∀ μ1 h1 H1,Ext K μ H μ1 H1->HR K μ1 h1 H1->stay c h1->(∀ i d,ds[i]?=some d->J.go i H1/\∀ x H',J.yld i H1 x H'->H'=H1/\Rep K μ1 H1 d x)/\J.stop ds.length H1):Src K μ H c ds J:=λ μ1 h1 H1 ex hr st =>
 ⟨λ i d e=>⟨((k μ1 h1 H1 ex hr st).1 i d e).1,λ x H' y=>by obtain ⟨rfl,r⟩:=((k μ1 h1 H1 ex hr st).1 i d e).2 x H' y;exact ⟨Ext.refl,hr,r⟩⟩,(k μ1 h1 H1 ex hr st).2⟩
theorem Yn {c:Ck}(k:∀ μ1 h1 H1,Ext K μ H μ1 H1->HR K μ1 h1 H1->stay c h1->∃ vs,SqL K H1 a vs/\Reps K μ1 H1 ds vs):Src K μ H c ds (Itl K a):=Wm λ μ1 h1 H1 ex hr st=>by
 obtain ⟨vs,q1,q2⟩:=k μ1 h1 H1 ex hr st;refine ⟨λ i d e=>?_,⟨vs,q1,by rw [<- q2.length];exact Y09 _⟩⟩;obtain ⟨w,e1,e2⟩:=q2.get e;refine ⟨⟨vs,w,q1,e1⟩,λ x H' y=>⟨y.1,?_⟩⟩
 have:=y.2 vs q1
 rw [e1] at this;cases this;exact e2
theorem z02 {n:Nat}(m:μ[n]?=some a):Src K μ H [(n,ds)] ds (Itl K a):=Yn λ μ1 h1 H1 ex hr st=>by
 have e:rd h1 n=some ds:=st (n,ds) (Y0a.mpr rfl);have m1:=ex.loc n a m;unfold PI.rd at e;cases e1:h1[n]? with
 | none=>simp only [e1] at e;cases e
 | some o =>
  cases o with
  | dK _=>simp only [e1] at e;cases e
  | dT _=>simp only [e1] at e;cases e
  | obj _ _=>simp only [e1] at e;cases e
  | lst xs =>
   simp only [e1] at e;cases e;obtain ⟨vs,q1,q2⟩:=jM hr m1 e1;exact ⟨vs,SqL.of q1,q2⟩
theorem z3j (f:Fz K H a vs)(r:Reps K μ H ds vs):Src K μ H [] ds (Itl K a):=Yn λ μ1 h1 H1 ex hr st=>⟨vs,(ex.fz _ _ f).sq,r.mono ex⟩
theorem z03 (e:H a=some (.lst vs))(n:a∉μ)(r:Reps K μ H ds vs):Src K μ H [] ds (Itl K a):=Yn λ μ1 h1 H1 ex hr st=>⟨vs,SqL.of (ex.oth _ _ e n),r.mono ex⟩
theorem z04 (f:SqT K H a vs)(r:Reps K μ H ds vs):Src K μ H [] ds (Itt K a):=Wm λ μ1 h1 H1 ex hr st=>by
 have q1:=ex.tup _ _ f;have q2:=r.mono ex;refine ⟨λ i d e=>?_,⟨vs,q1,by rw [<- q2.length];exact Y09 _⟩⟩;obtain ⟨w,e1,e2⟩:=q2.get e;refine ⟨⟨vs,w,q1,e1⟩,λ x H' y=>⟨y.1,?_⟩⟩
 have:=y.2 vs q1
 rw [e1] at this;cases this;exact e2
theorem z05 (z:Str):Src K μ H [] (z.cps.toList.map λ c=>.str ⟨#[c]⟩) (Its z):=Wm λ μ1 h1 H1 ex hr st=>by
 refine ⟨λ i d e=>?_,by show z.length<=_;rw [Y0c];exact Y2y rfl⟩;rw [Y13] at e;cases e1:z.cps.toList[i]? with
 | none=>rw [e1] at e;cases e
 | some c =>
  rw [e1] at e;cases e;refine ⟨?_,λ x H' y=>⟨y.1,?_⟩⟩
  ·have:=(Y04.mp e1).1
   exact (by simpa using this:i<z.cps.size)
  ·obtain ⟨c',e2,rfl⟩:=y.2;rw [e1] at e2;cases e2;exact .str _
theorem Um {c:Ck}{d:D}{x:V}(r:Rep K μ H d x)(hr:HR K μ h H)(e:Ve d h=some (c,ds)):∃ l b vs,x=.ref l/\SqB K H l b vs/\vs.length=ds.length/\∀ μ1 h1 H1,Ext K μ H μ1 H1->HR K μ1 h1 H1->stay c h1->∃ vs',SqB K H1 l b vs'/\Reps K μ1 H1 ds vs':=by
 cases r with
 | @tup xs vs a f r =>
  cases e;exact ⟨a,false,vs,rfl,f,r.length.symm,λ μ1 h1 H1 ex _ _=>⟨vs,ex.tup _ _ f,r.mono ex⟩⟩
 | @fl xs vs a f r =>
  cases e;exact ⟨a,true,vs,rfl,f.sq,r.length.symm,λ μ1 h1 H1 ex _ _=>⟨vs,(ex.fz _ _ f).sq,r.mono ex⟩⟩
 | @loc n a m =>
  have e:(PI.rd h n).map (λ xs=>(([(n,xs)],xs):Ck×List D))=some (c,ds):=e;cases e1:PI.rd h n with
  | none=>rw [e1] at e;cases e
  | some xs =>
   rw [e1] at e;cases e;obtain ⟨vs,q1,q2⟩:=jq hr m e1;refine ⟨a,true,vs,rfl,SqL.of q1,q2.length.symm,λ μ1 h1 H1 ex hr1 st=>?_⟩;obtain ⟨vs',q3,q4⟩:=jq hr1 (ex.loc n a m) (st (n,ds) (Y0a.mpr rfl));exact ⟨vs',SqL.of q3,q4⟩
 | _=>cases e
theorem z06 {c1 c2:Ck}{ds es:List D}{l1 l2:Addr}{b1 b2:Bool}(k1:∀ μ1 h1 H1,Ext K μ H μ1 H1->HR K μ1 h1 H1->stay c1 h1->∃ vs',SqB K H1 l1 b1 vs'/\Reps K μ1 H1 ds vs')(k2:∀ μ1 h1 H1,Ext K μ H μ1 H1->HR K μ1 h1 H1->stay c2 h1->∃ vs',SqB K H1 l2 b2 vs'/\Reps K μ1 H1 es vs') :
  Src K μ H (c1++c2) ((ds.zip es).map qi) (Itz K l1 l2 b1 b2 ds.length es.length):=λ μ1 h1 H1 ex hr st=>by
 obtain ⟨vs,q1,r1⟩:=k1 μ1 h1 H1 ex hr λ p hp=>st p (Y1f _ hp);obtain ⟨ws,q2,r2⟩:=k2 μ1 h1 H1 ex hr λ p hp=>st p (Y0u _ hp);refine ⟨λ i d e=>?_,?_,vs,ws,q1,q2,r1.length.symm,r2.length.symm⟩
 ·rw [Y13] at e;cases e1:(ds.zip es)[i]? with
  | none=>rw [e1] at e;cases e
  | some q =>
   rw [e1] at e;cases e;obtain ⟨z1,z2⟩:=List.getElem?_zip_eq_some.mp e1;obtain ⟨w1,g1,p1⟩:=r1.get z1;obtain ⟨w2,g2,p2⟩:=r2.get z2;refine ⟨⟨(Y04.mp z1).1,(Y04.mp z2).1,vs,ws,q1,q2,r1.length.symm,r2.length.symm⟩,λ x H' y=>?_⟩;obtain ⟨T,rfl,hT,f⟩:=y;obtain ⟨u,v,f1,f2,rfl⟩:=f vs ws q1 q2;rw [g1] at f1;cases f1;rw [g2] at f2;cases f2;exact ⟨zm hT,hr.tup hT,.tup (SqT.of zu) (.cons (p1.mono (zm hT)) (.cons (p2.mono (zm hT)) .nil))⟩
 ·rw [Y0c,List.length_zip];rcases Nat.le_total ds.length es.length with z | z
  ·exact .inl (Nat.min_eq_left z)
  ·exact .inr (Nat.min_eq_right z)
theorem JI:∀ (xs:List D) (k i:Nat),(jT k xs)[i]?=(xs[i]?).map λ x=>D.tup [.int ((k+i:Nat)),x]
 | [],k,i=>by simp [jT]
 | x::r,k,0=>by simp [jT]
 | x::r,k,i+1=>by
  rw [jT,List.getElem?_cons_succ,List.getElem?_cons_succ,JI r (k+1) i,Nat.add_right_comm k 1 i,Y3c k i 1]
theorem JJ:∀ (xs:List D) (k:Nat),(jT k xs).length=xs.length
 | [],_=>rfl
 | x::r,k=>by rw [jT,Y01,Y01,JJ r (k+1)]
theorem GP {n:Nat}{ds:List D}{a:Addr}(m:μ[n]?=some a):Src K μ H [(n,ds)] (jT 0 ds) (Ite K a ds.length):=λ μ1 h1 H1 ex hr st=>by
 obtain ⟨vs,q1,r1⟩:=jq hr (ex.loc n a m) (st (n,ds) (Y0a.mpr rfl));refine ⟨λ i d e=>?_,JJ ds 0,vs,SqL.of q1,r1.length.symm⟩;rw [JI] at e;cases e1:ds[i]? with
 | none=>rw [e1] at e;cases e
 | some q =>
  rw [e1,Nat.zero_add] at e;cases e;obtain ⟨w1,g1,p1⟩:=r1.get e1;refine ⟨⟨(Y04.mp e1).1,vs,SqL.of q1,r1.length.symm⟩,λ x H' y=>?_⟩;obtain ⟨T,rfl,hT,f⟩:=y;obtain ⟨u,f1,rfl⟩:=f vs (SqL.of q1);rw [g1] at f1;cases f1;exact ⟨zm hT,hr.tup hT,.tup (SqT.of zu) (.cons (.int _) (.cons (p1.mono (zm hT)) .nil))⟩
theorem z07 (j:Nat):Src K μ H [] ((List.range j).map λ (k:Nat)=>.int (k:Nat)) (Itr 0 j):=Wm λ μ1 h1 H1 ex hr st=>by
 refine ⟨λ i d e=>?_,by show j<=_;rw [Y0c,Y1g];exact Y09 _⟩;rw [Y13] at e;cases e1:(List.range j)[i]? with
 | none=>rw [e1] at e;cases e
 | some c =>
  rw [e1] at e;cases e;obtain ⟨hi,e2⟩:=Y04.mp e1;rw [Y1g] at hi;rw [List.getElem_range] at e2;subst e2;refine ⟨hi,λ x H' y=>⟨y.1,?_⟩⟩;rw [y.2,Int.zero_add];exact .int _
end
section
variable {X:Cx}{Z:ZK}{k:Nat}{n:Nm}{cv:Nat->Value}{cl:Nat->List D->Hh->Res D}{tg:Expr}
theorem z3k {l:Expr}{tl:TE}(hl:PE X l tl):PI X tg l (λ σ H R=>tl σ H λ x H1=>(∃ a,x=.ref a/\(∃ xs,SqL X.K H1 a xs)/\R (Itl X.K a) H1)\/(∃ a,x=.ref a/\(∃ xs,SqT X.K H1 a xs)/\R (Itt X.K a) H1)\/∃ z,x=.str z/\R (Its z) H1):=by
 intro pins s σ H R I h;refine thn (hl pins s σ H _ I h) λ v s1 ⟨x,H1,I1,r1,q1⟩=>?_;rcases q1 with ⟨a,rfl,⟨xs,hq⟩,q⟩ | ⟨a,rfl,⟨xs,hq⟩,q⟩ | ⟨x,rfl,q⟩
 ·cases r1;obtain ⟨its,rv,p,hz⟩:=I1.list hq;refine wpAny_pyIter_list p.isList ?_;refine ⟨s1.heap.objs.size,[s1.heap.objs.size],_,_,H1,rfl,I1.kept (t':=s1.toks) λ b o e=>Y02 _ e,Jp a _,⟨_,Y0i _ rfl,rfl,rfl⟩,λ b hb=>?_,q⟩;have e:b=s1.heap.objs.size:=by simpa using hb
  subst e;exact I1.fpOk (Y09 _) (I1.hok.fresh (Y09 _))
 ·cases r1;obtain ⟨its,rv,p,hz⟩:=I1.tuple hq;refine wpAny_pyIter_tuple (show s1.heap.IsTuple a its.toArray from p) ?_;refine ⟨s1.heap.objs.size,[s1.heap.objs.size],_,_,H1,rfl,I1.kept (t':=s1.toks) λ b o e=>Y02 _ e,QT a _,⟨_,Y0i _ rfl,rfl,rfl⟩,λ b hb=>?_,q⟩;have e:b=s1.heap.objs.size:=by simpa using hb
  subst e;exact I1.fpOk (Y09 _) (I1.hok.fresh (Y09 _))
 ·obtain ⟨t,rfl⟩:=r1;have fp:∀ b∈[s1.heap.objs.size],yg X pins H1 b:=λ b hb=>by
   have e:b=s1.heap.objs.size:=by simpa using hb
   subst e;exact I1.fpOk (Y09 _) (I1.hok.fresh (Y09 _))
  cases ha:x.cps.all (·<128) with
  | false =>
   refine wpAny_pyIter_wide ha ?_;exact ⟨s1.heap.objs.size,[s1.heap.objs.size],_,_,H1,rfl,I1.kept (t':=s1.toks) λ b o e=>Y02 _ e,V2 _ x t,⟨_,Y0i _ rfl,rfl,rfl⟩,fp,q⟩
  | true =>
   refine wpAny_pyIter_ascii ha ?_;exact ⟨s1.heap.objs.size,[s1.heap.objs.size],_,_,H1,rfl,I1.kept (t':=s1.toks) λ b o e=>Y02 _ e,Ya _ x t,⟨_,Y0i _ rfl,rfl,rfl⟩,fp,q⟩
theorem PI.mono {iter:Expr}{t t':TI}(p:L2.PI X tg iter t)(h:∀ σ H R,t' σ H R->t σ H R):L2.PI X tg iter t':=λ pins s σ H R I q=>p pins s σ H R I (h σ H R q)
noncomputable def gB (K:Y00)(t:Tg):TG:=λ v σ H Q=>∃ μ ρ d ρ' h,HR K μ h H/\ER K μ ρ σ H/\Rep K μ H d v/\wM t d ρ=some ρ' /\
 ∀ σ',ER K μ ρ' σ' H->σ'.length=σ.length->(∀ i,i∉t.idx->σ'[i]?=σ[i]?)->Q σ' H
theorem PG.mono {t t':TG}(p:PG X tg t)(h:∀ v σ H Q,t' v σ H Q->t v σ H Q):PG X tg t':=λ pins s σ H v u Q I r q=>p pins s σ H v u Q I r (h v σ H Q q)
noncomputable def gNs:List (Nat×Pos)->TGs
 | []=>z5e
 | q::r=>z1b (WS q.1) (gNs r)
theorem JK (hN:X.N.Nodup):∀ (is:List (Nat×Pos)),(∀ q∈is,q.1<X.N.length/\Loc X.env.scope (X.N.getD q.1 "")/\(X.fn (X.N.getD q.1 "")=true\/X.env.scope.names.lookup (X.N.getD q.1 "")=some .local)) ->
  PGs X (is.map λ q=>.Name (X.N.getD q.1 "") q.2) (gNs is)
 | [],_=>B8
 | q::r,h=>by
  have hq:=h q (Y08 ..);exact G0 (YZ (i:=q.1) hN (by rw [Y12,Y0m hq.1];rfl) hq.2.1 hq.2.2) (JK hN r λ z hz=>h z (Y06 _ hz))
theorem yq (N:List Str)(env:Env):∀ is:List (Nat×Pos),(assignEach (is.map λ q=>.Name (N.getD q.1 "") q.2) env).length=is.length/\(assignEach (is.map λ q=>.Name (N.getD q.1 "") q.2) env).findIdx? (·.1)=none
 | []=>⟨rfl,rfl⟩
 | q::r=>by
  have ih:=yq N env r;rw [Y05];refine ⟨?_,?_⟩
  ·show ((false,_)::assignEach (r.map λ q=>.Name (N.getD q.1 "") q.2) env).length=_;rw [Y01,ih.1,Y01]
  ·show ((false,_)::assignEach (r.map λ q=>.Name (N.getD q.1 "") q.2) env).findIdx? (·.1)=none;rw [List.findIdx?_cons,ih.2];rfl
theorem Uo {K:Y00}{μ:List Addr}{H:Hp}:∀ (is:List (Nat×Pos)) {ds:List D}{vs:List V}{ρ:En}{σ:St}{Q:St->Hp->Prop},Reps K μ H ds vs->ds.length=is.length->ER K μ ρ σ H ->
  (∀ σ',ER K μ ((is.zip ds).foldl (λ ρ q=>ρ.set q.1.1 (some q.2)) ρ) σ' H->σ'.length=σ.length->(∀ i,i∉is.map (·.1)->σ'[i]?=σ[i]?)->Q σ' H)->gNs is vs σ H Q
 | [],_,_,ρ,σ,Q,r,hl,er,q=>by
  cases r with
  | nil=>exact ⟨rfl,q σ er rfl λ _ _=>rfl⟩
  | cons _ _=>cases hl
 | p::is,_,_,ρ,σ,Q,r,hl,er,q=>by
  cases r with
  | nil=>cases hl
  | cons r1 r2 =>
   refine ⟨_,_,rfl,?_⟩;refine Uo is r2 (by simpa using hl) (er.set r1 p.1) λ σ' e1 e2 e3=>?_;refine q σ' e1 (e2.trans Y1a) λ i hi=>?_;rw [Y05] at hi;rw [e3 i λ z=>hi (Y06 _ z),Y0o λ z=>hi (by rw [<- z];exact Y08 ..)]
theorem z60 (hc:X.calm=true) (hN:X.N.Nodup) (t:Tg) (h:∀ i∈t.idx,i<X.N.length/\Loc X.env.scope (X.N.getD i "")/\(X.fn (X.N.getD i "")=true\/X.env.scope.names.lookup (X.N.getD i "")=some .local)):PG X (t.py X.N) (gB X.K t):=by
 cases t with
 | one i p =>
  have hq:=h i (Y0a.mpr rfl);refine PG.mono (YZ (i:=i) hN (by rw [Y12,Y0m hq.1];rfl) hq.2.1 hq.2.2) λ v σ H Q ⟨μ,ρ,d,ρ',h,hr,er,r,e,q⟩=>?_;cases e;exact q _ (er.set r i) Y1a λ j hj=>Y0o λ z=>hj (by rw [<- z];exact Y0a.mpr rfl)
 | tup is p =>
  refine PG.mono (z2e (k:=0) (pos:=p) hc (JK hN is λ q hq=>h q.1 (Y0z.mpr ⟨q,hq,rfl⟩)) (yq X.N X.env is).1 (yq X.N X.env is).2) λ v σ H Q ⟨μ,ρ,d,ρ',h,hr,er,r,e,q⟩=>?_;unfold wM at e;cases r with
  | tup h1 h2 =>
   simp only at e;split at e
   ·rename_i c;cases e;exact ⟨_,_,rfl,h1,by rw [<- h2.length];exact c,Uo is h2 c er q⟩
   ·cases e
  | _=>cases e
end
theorem Up:(1000000:Nat)<sizeLine:=by rw [sizeLine_eq];decide
section
variable {X:Cx}{Z:ZK}{k:Nat}{n:Nm}{cv:Nat->Value}{cl:Nat->List D->Hh->Res D}
theorem z61 {K:Y00}{μ:List Addr}{H:Hp}{ρ:En}{σ:St}(cap:List (Option Nat))(er:ER K μ ρ σ H):ER K μ (zS cap ρ) (wK cap σ) H:=by
 refine ⟨by unfold zS wK;rw [Y0c,Y0c],λ j d e=>?_⟩;unfold zS at e;unfold wK;rw [Y13] at e ⊢;cases e1:cap[j]? with
 | none=>rw [e1] at e;cases e
 | some o =>
  rw [e1] at e;cases o with
  | none=>cases e
  | some i =>
   have e':(ρ[i]?).bind id=some d:=Option.some.inj e;cases e2:ρ[i]? with
   | none=>rw [e2] at e';cases e'
   | some o2 =>
    rw [e2] at e';have e3:o2=some d:=e';subst e3;obtain ⟨v,q1,q2⟩:=er.val i d e2;exact ⟨v,by show some ((σ[i]?).bind id)=_;rw [q1];rfl,q2⟩
theorem GQ {osc scope:Scope}{N NC:List Str}{cap:List (Option Nat)}{t:Tg}(cok:j9 osc scope N NC cap=true)(ht:t.ok scope NC=true)(σ:St):∀ i∈t.idx,(wK cap σ)[i]?=some none:=by
 intro i hi;unfold Tg.ok at ht;have h1:=Y11.mp ht i hi;rw [Y0g] at h1;have hl:i<NC.length:=of_decide_eq_true h1.1;have hloc:scope.names.lookup (NC.getD i "")=some .local\/scope.names.lookup (NC.getD i "")=some .cell:=of_decide_eq_true h1.2;unfold j9 at cok;simp only [Y0g] at cok;obtain ⟨⟨⟨⟨⟨k1,k2⟩,k3⟩,k4⟩,k5⟩,k6⟩:=cok;have hj:=Y11.mp k6 i (Y1w.mpr hl);have hN:NC[i]?=some (NC.getD i ""):=by rw [Y12,Y0m hl];rfl
 have hc:i<cap.length:=by rw [beq_iff_eq.mp k5];exact hl
 unfold wK;rw [Y13];cases e:cap[i]? with
 | none=>rw [List.getElem?_eq_none_iff] at e;omega
 | some o =>
  cases o with
  | none=>rfl
  | some m =>
   exfalso
   rw [e,hN] at hj;simp only [Y0g,beq_iff_eq] at hj;have hfree:=hj.2;rcases hloc with z | z<;>(rw [hfree] at z;cases z)
theorem JL {scope:Scope}{NC:List Str}{cap:List (Option Nat)}{t:Tg}{mi:En->Hh->Res (Ck×List D)}{mc:En->Hh->Res Bool}{me:En->Hh->Res D}
  (cok:j9 X.env.scope scope X.N NC cap=true) (ht:t.ok scope NC=true) {σ:St}{H:Hp}{Q:VK}
  (p:GO X.K cv Z (λ ρ h=>(mi ρ h).bind λ q h1=>if q.2.length<=1000000 then zr q.1 (zz t (zS cap ρ) mc me) q.2 [] h1 else .no) σ H Q) :
  Gk Z cap (zt X.K cv (RJ X.K) Z mi) (gB X.K t) (λ Zc=>zt X.K cv RB Zc mc) (λ Zc=>zt X.K cv (Rep X.K) Zc me) σ H Q:=by
 obtain ⟨μ,ρ,h,hr,er,p⟩:=p;refine ja (m:=mi) Ext.refl hr er p (λ _ _ z=>z) λ q h1 μ1 H1 J _ e1 r1 er1 src p1=>?_;split at p1;rotate_left
 ·exact p1.elim
 rename_i hlen;obtain ⟨c,ds⟩:=q;refine ⟨λ i m ys H2=>m=ds.length-i/\i<=ds.length/\∃ μ2 h2 acc,Ext X.K μ1 H1 μ2 H2/\HR X.K μ2 h2 H2/\Reps X.K μ2 H2 acc ys/\acc.length<=i/\PostE X.K cv (RL X.K H) μ H (zr c (zz t (zS cap ρ) mc me) (ds.drop i) acc h2) Q (Z σ),
  ⟨ds.length,by simp,Y1u _,μ1,h1,[],Ext.refl,r1,.nil,Y09 _,p1⟩,?_⟩
 rintro i m ys H2 ⟨rfl,hi',μ2,h2,acc,e2,r2,ry,ha,p2⟩
 have hyl:ys.length<=i:=by rw [<- ry.length];exact ha
 have hll:ds.length<=1000000:=hlen;by_cases hlt:i<ds.length
 ·right;rw [List.drop_eq_getElem_cons hlt] at p2;unfold zr at p2;split at p2;rotate_left
  ·exact p2.elim
  rename_i st;obtain ⟨s1,s2⟩:=src μ2 h2 H2 e2 r2 st;obtain ⟨g1,g2⟩:=s1 i ds[i] (Y0m hlt);refine ⟨g1,by have:=Up;omega,λ x H3 y=>?_⟩;obtain ⟨e2',r2',rx⟩:=g2 x H3 y;replace e2:=e2.trans e2';replace r2:=r2';replace ry:=ry.mono e2';have er2:ER X.K μ2 ρ σ H3:=er1.mono e2;unfold zz at p2;cases eb:wM t ds[i] (zS cap ρ) with
  | none=>rw [eb] at p2;exact p2.elim
  | some ρ' =>
   rw [eb] at p2;refine ⟨μ2,zS cap ρ,ds[i],ρ',h2,r2,z61 cap er2,rx,eb,λ σ4 er4 hl4 hs4=>⟨⟨hl4,λ j v ej=>?_⟩,?_⟩⟩
   ·have nj:j∉t.idx:=λ z=>by rw [GQ cok ht σ j z] at ej;cases ej
    rw [hs4 j nj];exact ej
   have p3:PostE X.K cv (RL X.K H) μ H ((mc ρ' h2).bind λ b h3=>(if b then (me ρ' h3).bind λ d h4=>Res.ok (some d) h4 else Res.ok none h3).bind λ o h'=>zr c (zz t (zS cap ρ) mc me) (ds.drop (i+1)) (GB acc o) h') Q (Z σ):=by
    have p2':=p2;rw [zj] at p2';exact p2'
   refine ja (m:=mc) (R:=RB) (e1.trans e2) r2 er4 p3 (λ _ _ z=>z) λ b h3 μ3 H3' bb _ e3 r3 er5 qb p4=>?_;have qb':b=bb:=qb;subst qb';cases b with
   | false =>
    refine yL ⟨ds.length-(i+1),by omega,rfl,hlt,μ3,h3,acc,e2.trans e3,r3,ry.mono e3,Nat.le_succ_of_le ha,p4⟩
   | true =>
    refine yM ?_;have p5:PostE X.K cv (RL X.K H) μ H ((me ρ' h3).bind λ d h4=>zr c (zz t (zS cap ρ) mc me) (ds.drop (i+1)) (acc++[d]) h4) Q (Z σ):=by
     have p4':=p4;rw [if_pos rfl,zj] at p4';exact p4'
    refine ja (m:=me) ((e1.trans e2).trans e3) r3 er5 p5 (λ _ _ z=>z) λ d h4 μ4 H4 v _ e4 r4 er6 qd p6=>?_;exact ⟨ds.length-(i+1),by omega,rfl,hlt,μ4,h4,acc++[d],(e2.trans e3).trans e4,r4,((ry.mono e3).mono e4).append (.cons qd .nil),by rw [Y03];exact Nat.succ_le_succ ha,p6⟩
 ·left;have ei:i=ds.length:=by omega
  subst ei;rw [List.drop_length] at p2;unfold zr at p2;split at p2;rotate_left
  ·exact p2.elim
  rename_i st;refine ⟨(src μ2 h2 H2 e2 r2 st).2,by have:=Up;omega,λ a ha'=>?_⟩;have ex:=(e1.trans e2);have na:=r2.fresh ha';have n0:H a=none:=by
   cases e:H a with
   | none=>rfl
   | some o=>rw [ex.oth a o e λ z=>na (ex.sub z)] at ha';cases ha'
  exact p2 μ2 _ _ (ex.trans (zm ha')) (r2.tup ha') ⟨a,ys,rfl,zu,ry.mono (zm ha'),na,n0⟩
theorem GR {elt iter:Expr}{ifs:List Expr}{scope:Scope}{NC:List Str}{cap:List (Option Nat)}{t:Tg}{pos:Pos}{mi:En->Hh->Res (Ck×List D)}{mc:En->Hh->Res Bool}{me:En->Hh->Res D}
  (hc:X.calm=true) (th:Thr X Z) (hi:L2.PI X (t.py NC) iter (zt X.K cv (RJ X.K) Z mi)) (cok:j9 X.env.scope scope X.N NC cap=true) (ht:t.ok scope NC=true)
  (hg:∀ C s H fp pn xe,PG (zo X NC scope C s H fp pn xe) (t.py NC) (gB X.K t))
  (hf:∀ C s H fp pn xe Zc,Thr (zo X NC scope C s H fp pn xe) Zc->PF (zo X NC scope C s H fp pn xe) ifs (zt X.K cv RB Zc mc))
  (hb:∀ C s H fp pn xe Zc,Thr (zo X NC scope C s H fp pn xe) Zc->PE (zo X NC scope C s H fp pn xe) elt (zt X.K cv (Rep X.K) Zc me))
  (hs:∀ x,foldedSetIterable iter X.env x=pure x) :
  PE X (.ListComp elt [⟨t.py NC,iter,ifs,0⟩] scope pos) (GO X.K cv Z λ ρ h=>(mi ρ h).bind λ q h1=>if q.2.length<=1000000 then zr q.1 (zz t (zS cap ρ) mc me) q.2 [] h1 else .no) :=
 PE.mono (Bs hc th hi cok hg (tf:=λ Zc=>zt X.K cv RB Zc mc) (te:=λ Zc=>zt X.K cv (Rep X.K) Zc me) hf hb hs) λ σ H Q p=>JL cok ht p
theorem Kx.comp {scope:Scope}{NC:List Str}{cap:List (Option Nat)}(C:Kx X Z k n cv cl)(cok:j9 X.env.scope scope X.N NC cap=true)(hnd:NC.Nodup)(hgood:NC.all yE=true){Cc:Addr}{s:Shared}{H:Hp}{fp:List Addr}{pn:List (Addr×Obj)}{xe:Value->Shared->Prop}{Zc:ZK}
  (th:Thr (zo X NC scope Cc s H fp pn xe) Zc):Kx (zo X NC scope Cc s H fp pn xe) Zc k ⟨NC,n.F,n.G⟩ cv cl:=by
 obtain ⟨c1,c2,c3,c4,c5,c6,c7⟩:=zX cok;refine ⟨th,C.rm,rfl,hnd,rfl,c1,λ x hx=>⟨?_,Y11.mp hgood x hx⟩,C.bm,C.gc,C.fn,C.mc,C.xc⟩;obtain ⟨j,hj⟩:=Y37 hx;have cok':=cok;unfold j9 at cok';simp only [Y0g] at cok';obtain ⟨⟨⟨⟨⟨k1,k2⟩,k3⟩,k4⟩,k5⟩,k6⟩:=cok';have hl:j<NC.length:=(Y04.mp hj).1;have hk:=Y11.mp k6 j (Y1w.mpr hl);have rel:(relabel scope X.env).names.lookup x=(scope.names.lookup x).map λ k=>if k=.free then .cell else k:=jY (scope:=scope) C.kd λ y hy e=>c4 y hy e;rw [hj] at hk;show Vis (relabel scope X.env) x;unfold Vis;rw [rel];cases e:cap[j]? with
 | none=>rw [e] at hk;cases hk
 | some o =>
  rw [e] at hk;cases o with
  | none =>
   have hk':scope.names.lookup x=some .local\/scope.names.lookup x=some .cell:=by simpa using hk
   rcases hk' with hk' | hk'
   ·rw [hk'];exact .inl rfl
   ·rw [hk'];exact .inr (.inl rfl)
  | some m =>
   simp only [Y0g,beq_iff_eq] at hk;rw [hk.2];exact .inr (.inl rfl)
end
theorem RepKs.zip {K:Y00}{μ:List Addr}{H:Hp}:∀ (ks:List (Str×Pos)) {ds:List D}{vs:List V},Reps K μ H ds vs->RepKs K μ H ((ks.map λ q=>(Sum.inr q.1:Key)).zip ds) ((ks.map λ q=>(Sum.inr q.1:Key)).zip vs)
 | [],_,_,_=>.nil
 | q::ks,_,_,.nil=>.nil
 | q::ks,_,_,.cons h t=>.cons h (RepKs.zip ks t)
theorem z3l {X:Cx}{Z:ZK}{n:Nm}{cv:Nat->Value}{cl:Nat->List D->Hh->Res D}:BU X Z n cv cl .nil:=by
 intro ks pos hl;cases ks with
 | nil =>
  refine ⟨[],Bn,λ σ H Q=>z5 λ μ ρ h hr er q=>?_⟩;exact q.here hr .nil
 | cons _ _=>cases hl
theorem z08 {X:Cx}{Z:ZK}{n:Nm}{cv:Nat->Value}{cl:Nat->List D->Hh->Res D}{e:E}{r:Es}(se:PE X (e.py n) (zt X.K cv (Rep X.K) Z (e.ev cl)))(sr:BU X Z n cv cl r):BU X Z n cv cl (.cons e r):=by
 intro ks pos hl;have hl:ks.length=(e.py n::r.py n).length:=hl;cases ks with
 | nil=>cases hl
 | cons k ks =>
  obtain ⟨trs,p1,p2⟩:=sr ks pos (by simpa using hl);refine ⟨(tC (.str k.1),zt X.K cv (Rep X.K) Z (e.ev cl))::trs,Ge VT se p1,λ σ H Q=>z5 λ μ ρ h hr er q=>?_⟩;show zt X.K cv (Rep X.K) Z (e.ev cl) σ H _;refine z7 (m:=e.ev cl) hr er q λ da h1 μ1 H1 x _ e1 r1 er1 qa p3=>?_;refine p2 σ H1 _ (z7 (m:=r.ev cl) r1 er1 p3 λ ds h2 μ2 H2 xs _ e2 r2 er2 qb p4=>?_);exact p4.here r2 (.cons (qa.mono e2) qb)
section
variable {X:Cx}{Z:ZK}{k:Nat}{n:Nm}{cv:Nat->Value}{cl:Nat->List D->Hh->Res D}
theorem z3m (T:Nat)(h:T<5):bootBuiltins (qt T)=some (.type (Ug T))/\qt T≠"__name__"/\(qt T==("__debug__":Str))=false/\qt T∈Wk:=by
 match T,h with
 | 0,_=>exact ⟨rfl,by decide,by decide,by decide⟩
 | 1,_=>exact ⟨rfl,by decide,by decide,by decide⟩
 | 2,_=>exact ⟨rfl,by decide,by decide,by decide⟩
 | 3,_=>exact ⟨rfl,by decide,by decide,by decide⟩
 | 4,_=>exact ⟨rfl,by decide,by decide,by decide⟩
theorem getD_some {α:Type}{xs:List α}{i:Nat}{d:α}(h:i<xs.length):xs[i]?=some (xs.getD i d):=by
 rw [Y12,Y0m h];rfl
theorem qR {α:Type}{xs:List α}{i:Nat}{d:α}(h:i<xs.length):xs.getD i d∈xs:=Y1k (getD_some h)
theorem PO.mono {X:Cx}{e:Option Expr}{t t':TO}(p:PO X e t)(h:∀ σ H Q,t' σ H Q->t σ H Q):PO X e t':=λ pins s σ H Q I q=>p pins s σ H Q I (h σ H Q q)
theorem jm (o:E)(x:Str)(env:Env):attributeBase (o.py n) x env (eval (o.py n) env)=eval (o.py n) env:=by
 cases o with
 | ofL l=>cases l<;>(rfl)
 | _=>rfl
theorem yU (a : E)(pos : Pos)(env : Env) : ((backTo pos (starEach [a.py n] env)).all (λ x => !x.1)&&(backToKw pos (keywordEach [] env)).all (λ x => x.1.isSome)
      && decide (([a.py n]:List Expr).length+([]:List Keyword).length+(if ([]:List Keyword).isEmpty then 0 else 1)<30))=true:=by
  rw [za];rfl
theorem z62 {K:Y00}{μ:List Addr}{H:Hp}{h:Hh}{m:M0}{d:D}{v:V}(hr:HR K μ h H)(r:Rep K μ H d v)(e:m0D m d h≠.no):tyV K "list" v H:=by
 unfold m0D at e;cases r with
 | @loc nn b mm =>
  cases e1:h[nn]? with
  | none=>simp only [e1] at e;exact absurd rfl e
  | some o =>
   cases o with
   | dK _=>simp only [e1] at e;exact absurd rfl e
   | dT _=>simp only [e1] at e;exact absurd rfl e
   | obj _ _=>simp only [e1] at e;exact absurd rfl e
   | lst ds=>obtain ⟨vs,q1,q2⟩:=jM hr mm e1;exact .inl ⟨rfl,vs,SqL.of q1⟩
 | _=>exact absurd rfl e
theorem Reps.isEmpty {K:Y00}{μ:List Addr}{H:Hp}{ds:List D}{vs:List V}(r:Reps K μ H ds vs):ds.isEmpty=vs.isEmpty:=by cases r<;>rfl
theorem GS {K:Y00}{cv:Nat->Value}{R:List Addr->Hp->D->V->Prop}{μ:List Addr}{H:Hp}{h:Hh}{d:D}{v:V}{r:Res D}{Q:VK}{Z:Value->Hp->Prop}(hr:HR K μ h H)(q:Rep K μ H d v)(p:PostE K cv R μ H (onL d h r) Q Z):tyV K "list" v H/\PostE K cv R μ H r Q Z:=by
 unfold onL at p;cases q with
 | @loc nn b mm =>
  cases e1:h[nn]? with
  | none=>simp only [e1] at p;exact p.elim
  | some o =>
   cases o with
   | dK _=>simp only [e1] at p;exact p.elim
   | dT _=>simp only [e1] at p;exact p.elim
   | obj _ _=>simp only [e1] at p;exact p.elim
   | lst ds=>simp only [e1] at p;obtain ⟨vs,q1,q2⟩:=jM hr mm e1;exact ⟨.inl ⟨rfl,vs,SqL.of q1⟩,p⟩
 | _=>exact p.elim
theorem qA (it:I){env:Env}:∀ x,foldedSetIterable (it.py n) env x=pure x:=by
 intro x;cases it with
 | seq e =>
  cases e with
  | ofL l=>cases l<;>(rfl)
  | _=>rfl
 | lst l=>cases l<;>(rfl)
 | enum e p0 p=>rfl
 | rng a p0 p=>rfl
 | zip a b p0 p=>rfl
theorem Uq {elt:E}{t:Tg}{it:I}{c:Es}{NC:List Str}{cap:List (Option Nat)}{csc:Scope}{p:Pos}(C:Kx X Z k n cv cl)(h:(L.comp elt t it c NC cap csc p).ok X.env.scope n=true) :
  (it.ok X.env.scope n=true/\t.forI it=true)/\j9 X.env.scope csc X.N NC cap=true/\NC.Nodup/\NC.all yE=true/\t.ok csc NC=true/\elt.ok (Uk csc X.env.scope) ⟨NC,n.F,n.G⟩=true/\c.ok (Uk csc X.env.scope) ⟨NC,n.F,n.G⟩=true/\c.okT=true/\c.short=true:=by
 have h:(_&&_)=true:=h;simp only [Y0g,decide_eq_true_eq] at h;obtain ⟨⟨⟨⟨⟨⟨⟨⟨k1,k2⟩,k3⟩,k4⟩,k5⟩,k6⟩,k7⟩,k8⟩,k9⟩:=h;exact ⟨k1,by rw [C.nN];exact k2,k3,k4,k5,k6,k7,k8,k9⟩
theorem Ur {Zc:ZK}{m:Nm}:PF X (Es.nil.py m) (zt X.K cv RB Zc (Es.nil.evC cl)):=by
 refine λ pins s σ H Q I q=>z38 pins s σ H Q I ?_;obtain ⟨μ,ρ,h,hr,er,q⟩:=q;exact q.here hr rfl
theorem Us {scope:Scope}{NC:List Str}{cap:List (Option Nat)}{t:Tg}(kd:X.env.scope.kind=.function)(cok:j9 X.env.scope scope X.N NC cap=true)(hnd:NC.Nodup)(ht:t.ok scope NC=true){Cc:Addr}{s:Shared}{H:Hp}{fp:List Addr}{pn:List (Addr×Obj)}{xe:Value->Shared->Prop} :
  PG (zo X NC scope Cc s H fp pn xe) (t.py NC) (gB X.K t):=by
 refine z60 (X:=zo X NC scope Cc s H fp pn xe) rfl hnd t λ i hi=>?_;unfold Tg.ok at ht;have h1:=Y11.mp ht i hi;rw [Y0g] at h1;have h2:scope.names.lookup (NC.getD i "")=some .local\/scope.names.lookup (NC.getD i "")=some .cell:=of_decide_eq_true h1.2;obtain ⟨c1,c2,c3,c4,c5,c6,c7⟩:=zX cok;have rel:∀ x,(relabel scope X.env).names.lookup x=(scope.names.lookup x).map λ k=>if k=.free then .cell else k:=λ x=>jY (scope:=scope) kd λ y hy e=>c4 y hy e;refine ⟨of_decide_eq_true h1.1,?_,?_⟩
 ·show Loc (relabel scope X.env) _;unfold L2.Loc;rw [rel];rcases h2 with h2 | h2
  ·rw [h2];exact .inl rfl
  ·rw [h2];exact .inr rfl
 ·rcases h2 with h2 | h2
  ·refine .inr ?_;show (relabel scope X.env).names.lookup _=_;rw [rel,h2];rfl
  ·refine .inl ?_;show (scope.names.lookup _==some NameKind.cell)=true;rw [h2];rfl
mutual
theorem sE:∀ (e:E) (X:Cx) (Z:ZK) (k:Nat) (n:Nm) (cv:Nat->Value) (cl:Nat->List D->Hh->Res D),Kx X Z k n cv cl->e.ok X.env.scope n=true->SE X Z n cv cl e
 | .non p,X,Z,k,n,cv,cl,C,_=>⟨PE.mono z27 λ σ H Q q=>Wl (λ _ _ _=>.non) q,λ z=>nomatch z⟩
 | .bl b p,X,Z,k,n,cv,cl,C,_=>⟨PE.mono z57 λ σ H Q q=>Wl (λ _ _ _=>.bl b) q,λ z=>nomatch z⟩
 | .int i p,X,Z,k,n,cv,cl,C,_=>⟨PE.mono z26 λ σ H Q q=>Wl (λ _ _ _=>.int i) q,λ z=>nomatch z⟩
 | .str x p,X,Z,k,n,cv,cl,C,_=>⟨PE.mono VT λ σ H Q q=>Wl (λ _ _ _=>.str x) q,λ z=>nomatch z⟩
 | .var i p,X,Z,k,n,cv,cl,C,h=>by
  have hi:i<n.N.length:=of_decide_eq_true h;have hm:=C.nm _ (qR (d:=("":Str)) hi);have hv:=hm.1;have hg:=GG hm.2;have pe:PE X ((E.var i p).py n) (zt X.K cv (Rep X.K) Z ((E.var i p).ev cl)):=by
   refine PE.mono (VS (i:=i) (by rw [C.nN];exact getD_some hi) hv hg.1 hg.2) λ σ H Q=>z5 λ μ ρ h hr er q=>?_;have q:PostE X.K cv (Rep X.K) μ H (match ρ[i]? with | some (some d)=>.ok d h | _=>.no) Q (Z σ):=q
   cases e:ρ[i]? with
   | none=>rw [e] at q;exact q.elim
   | some o =>
    cases o with
    | none=>rw [e] at q;exact q.elim
    | some d =>
     rw [e] at q;obtain ⟨v,e1,r1⟩:=er.val i d e;exact ⟨v,e1,q.here hr r1⟩
  exact ⟨pe,λ _=>by exact zy pe λ _=>rfl⟩
 | .bin op a b p,X,Z,k,n,cv,cl,C,h=>by
  have h':a.ok X.env.scope n=true/\b.ok X.env.scope n=true:=by have h:(_&&_)=true:=h;simpa using h
  have sa:=sE a X Z k n cv cl C h'.1;have sb:=sE b X Z k n cv cl C h'.2;have pe:PE X ((E.bin op a b p).py n) (zt X.K cv (Rep X.K) Z ((E.bin op a b p).ev cl)):=by
   refine PE.mono (z5h (z3h (cv:=cv) op) sa.pe sb.pe) λ σ H Q q=>?_;exact GI q
  exact ⟨pe,λ _=>by exact zy pe λ _=>rfl⟩
 | .un op a p,X,Z,k,n,cv,cl,C,h=>by
  have h':a.ok X.env.scope n=true:=by have h:(_&&_)=true:=h;simp at h;exact h.1
  have sa:=sE a X Z k n cv cl C h';cases op with
  | Not =>
   refine ⟨?_,λ z=>?_⟩
   ·skip;refine PE.mono (z2b sa.pe) λ σ H Q=>z5 λ μ ρ h hr er q=>?_;refine z7 (m:=a.ev cl) hr er q λ d h1 μ1 H1 x _ e1 r1 er1 qa p1=>?_;unfold unD at p1;cases qa with
    | bl b=>exact ⟨b,rfl,p1.here r1 (.bl _)⟩
    | _=>exact p1.elim
   ·skip;have z':a.okT=true:=by exact z
    refine PT.mono (z2a (sa.pt z')) λ σ H Q=>z5 λ μ ρ h hr er q=>?_;refine ⟨μ,ρ,h,hr,er,?_⟩;have e1:(E.un .Not a p).evT cl ρ h=(a.evT cl ρ h).bind λ b h1=>.ok (!b) h1:=by
     rw [wa,wa,zj];show ((a.ev cl ρ h).bind λ x h1=>unD .Not x h1).bind toB=_;rw [zj]
     congr 1
     funext d h1
     unfold unD toB;cases d<;>rfl
    rw [e1] at q;cases e2:a.evT cl ρ h with
    | ok b h1 =>
     rw [e2] at q;intro μ1 H1 v x1 x2 x3;have x3':b=v:=x3;subst x3';exact q μ1 H1 (!b) x1 x2 rfl
    | exc c h1=>rw [e2] at q;exact q
    | no=>rw [e2] at q;exact q
  | Invert =>
   have pe:PE X ((E.un .Invert a p).py n) (zt X.K cv (Rep X.K) Z ((E.un .Invert a p).ev cl)):=by
    refine PE.mono (G3 (z1l (cv:=cv) .Invert (.inl rfl)) sa.pe) λ σ H Q q=>?_;exact z1k q
   exact ⟨pe,λ _=>by exact zy pe λ _=>rfl⟩
  | USub =>
   have pe:PE X ((E.un .USub a p).py n) (zt X.K cv (Rep X.K) Z ((E.un .USub a p).ev cl)):=by
    refine PE.mono (G3 (z1l (cv:=cv) .USub (.inr rfl)) sa.pe) λ σ H Q q=>?_;exact z1k q
   exact ⟨pe,λ _=>by exact zy pe λ _=>rfl⟩
  | UAdd =>
   have no:∀ {β:Type}{σ:St}{H:Hp}{R:List Addr->Hp->D->β->Prop}{Q:β->Hp->Prop},zt X.K cv R Z ((E.un .UAdd a p).ev cl) σ H Q->zt X.K cv (Rep X.K) Z (a.ev cl) σ H (λ _ _=>False):=by
    intro β σ H R Q ⟨μ,ρ,h,hr,er,q⟩;refine z7 (m:=a.ev cl) hr er q λ d h1 μ1 H1 x _ e1 r1 er1 qa p1=>?_;unfold unD at p1;cases d<;>exact p1.elim
   have pe:PE X ((E.un .UAdd a p).py n) (zt X.K cv (Rep X.K) Z ((E.un .UAdd a p).ev cl)):=by
    refine PE.mono (G3 (r:=λ _ _ _=>False) (λ _ _ _ _ _ _ _ _ _ z=>z.elim) sa.pe) λ σ H Q q=>no q
   exact ⟨pe,λ _=>by exact zy pe λ _=>rfl⟩
 | .cmp op a b p,X,Z,k,n,cv,cl,C,h=>by
  have h':(a.ok X.env.scope n=true/\b.ok X.env.scope n=true)/\behindInMarks op (b.py n)=false:=by have h:(_&&_)=true:=h;simpa using h
  have sa:=sE a X Z k n cv cl C h'.1.1;have sb:=sE b X Z k n cv cl C h'.1.2;refine ⟨?_,λ _=>?_⟩
  ·skip;refine PE.mono (U0 (GF (cv:=cv) C.rm.units op) sa.pe sb.pe h'.2) λ σ H Q q=>?_;exact GI q
  ·skip;refine PT.mono (U1 (GF (cv:=cv) C.rm.units op) sa.pe sb.pe h'.2) λ σ H Q=>z5 λ μ ρ h hr er q=>?_;have q:PostE X.K cv RB μ H (((a.ev cl ρ h).bind λ x h1=>(b.ev cl ρ h1).bind λ y h2=>jf op x y h2).bind toB) Q (Z σ):=q;rw [zj] at q;unfold G4;refine z7 (m:=a.ev cl) hr er q λ da h1 μ1 H1 x _ e1 r1 er1 qa p1=>?_;rw [zj] at p1;refine z7 (m:=b.ev cl) r1 er1 p1 λ db h2 μ2 H2 y _ e2 r2 er2 qb p2=>?_;refine ⟨μ2,h2,da,db,Z σ,r2,qa.mono e2,qb,?_⟩;cases e3:jf op da db h2 with
   | ok d h3 =>
    rw [e3] at p2;intro μ3 H3 v x1 x2 x3;unfold Res.bind toB at p2;cases x3 with
    | bl c=>exact ⟨c,rfl,p2 μ3 H3 c x1 x2 rfl⟩
    | _=>exact p2.elim
   | exc c h3=>rw [e3] at p2;exact p2
   | no=>rw [e3] at p2;exact p2
 | .and a b r p,X,Z,k,n,cv,cl,C,h=>by
  have h':((((a.ok X.env.scope n=true/\b.ok X.env.scope n=true)/\r.ok X.env.scope n=true)/\a.okT=true)/\b.okT=true)/\r.okT=true:=by have h:(_&&_)=true:=h;simpa using h
  have sa:=sE a X Z k n cv cl C h'.1.1.1.1.1;have sb:=sE b X Z k n cv cl C h'.1.1.1.1.2;have sr:=sEs r X Z k n cv cl C h'.1.1.1.2;refine ⟨?_,λ _=>?_⟩
  ·skip;refine PE.mono (VX sa.pe (sr.an b p sb)) λ σ H Q=>z5 λ μ ρ h hr er q=>?_;refine z7 (m:=a.ev cl) hr er q λ d h1 μ1 H1 x _ e1 r1 er1 qa p1=>?_;unfold tru at p1;cases qa with
   | bl c =>
    refine ⟨c,rfl,?_⟩;cases c with
    | true=>exact yM ⟨μ1,ρ,h1,r1,er1,p1⟩
    | false=>exact yL (p1.here r1 (.bl _))
   | _=>exact p1.elim
  ·skip;refine PT.mono (PW.pt (VU (sa.pt h'.1.1.2) (sr.anT b p sb h'.1.2 h'.2))) λ σ H Q=>z5 λ μ ρ h hr er q=>?_;have e0:(E.and a b r p).evT cl ρ h=(a.evT cl ρ h).bind λ c h1=>if c then (b.evT cl ρ h1).bind λ c' h2=>r.evAndT cl ρ c' h2 else .ok false h1:=by
    rw [wa,wa,zj];show ((a.ev cl ρ h).bind λ x h1=>tru x h1 λ c h1=>if c then (b.ev cl ρ h1).bind λ y h2=>r.evAnd cl ρ y h2 else .ok (.bl false) h1).bind toB=_;rw [zj]
    congr 1
    funext d h1
    unfold tru;cases d with
    | bl c =>
     cases c with
     | false=>rfl
     | true =>
      show ((b.ev cl ρ h1).bind λ y h2=>r.evAnd cl ρ y h2).bind toB=(b.evT cl ρ h1).bind λ c' h2=>r.evAndT cl ρ c' h2;rw [wa,zj,zj]
      congr 1
      funext y h2
      exact Ul r ρ y h2
    | _=>rfl
   rw [e0] at q;refine z7 (m:=a.evT cl) (R:=RB) hr er q λ c h1 μ1 H1 x _ e1 r1 er1 qa p1=>?_;have qa':c=x:=qa;subst qa';cases c with
   | true=>exact yM ⟨μ1,ρ,h1,r1,er1,p1⟩
   | false=>exact yL (p1.here r1 rfl)
 | .or a b r p,X,Z,k,n,cv,cl,C,h=>by
  have h':((((a.ok X.env.scope n=true/\b.ok X.env.scope n=true)/\r.ok X.env.scope n=true)/\a.okT=true)/\b.okT=true)/\r.okT=true:=by have h:(_&&_)=true:=h;simpa using h
  have sa:=sE a X Z k n cv cl C h'.1.1.1.1.1;have sb:=sE b X Z k n cv cl C h'.1.1.1.1.2;have sr:=sEs r X Z k n cv cl C h'.1.1.1.2;refine ⟨?_,λ _=>?_⟩
  ·skip;refine PE.mono (z1a sa.pe (sr.orr b p sb)) λ σ H Q=>z5 λ μ ρ h hr er q=>?_;refine z7 (m:=a.ev cl) hr er q λ d h1 μ1 H1 x _ e1 r1 er1 qa p1=>?_;unfold tru at p1;cases qa with
   | bl c =>
    refine ⟨c,rfl,?_⟩;cases c with
    | true=>exact yM (p1.here r1 (.bl _))
    | false=>exact yL ⟨μ1,ρ,h1,r1,er1,p1⟩
   | _=>exact p1.elim
  ·skip;refine PT.mono (PW.pt (z19 (sa.pt h'.1.1.2) (sr.orT b p sb h'.1.2 h'.2))) λ σ H Q=>z5 λ μ ρ h hr er q=>?_;have e0:(E.or a b r p).evT cl ρ h=(a.evT cl ρ h).bind λ c h1=>if c then .ok true h1 else (b.evT cl ρ h1).bind λ c' h2=>r.evOrT cl ρ c' h2:=by
    rw [wa,wa,zj];show ((a.ev cl ρ h).bind λ x h1=>tru x h1 λ c h1=>if c then .ok (.bl true) h1 else (b.ev cl ρ h1).bind λ y h2=>r.evOr cl ρ y h2).bind toB=_;rw [zj]
    congr 1
    funext d h1
    unfold tru;cases d with
    | bl c =>
     cases c with
     | true=>rfl
     | false =>
      show ((b.ev cl ρ h1).bind λ y h2=>r.evOr cl ρ y h2).bind toB=(b.evT cl ρ h1).bind λ c' h2=>r.evOrT cl ρ c' h2;rw [wa,zj,zj]
      congr 1
      funext y h2
      exact GH r ρ y h2
    | _=>rfl
   rw [e0] at q;refine z7 (m:=a.evT cl) (R:=RB) hr er q λ c h1 μ1 H1 x _ e1 r1 er1 qa p1=>?_;have qa':c=x:=qa;subst qa';cases c with
   | true=>exact yM (p1.here r1 rfl)
   | false=>exact yL ⟨μ1,ρ,h1,r1,er1,p1⟩
 | .ite c a b p,X,Z,k,n,cv,cl,C,h=>by
  have h':((c.ok X.env.scope n=true/\a.ok X.env.scope n=true)/\b.ok X.env.scope n=true)/\c.okT=true:=by have h:(_&&_)=true:=h;simpa using h
  have sc:=sE c X Z k n cv cl C h'.1.1.1;have sa:=sE a X Z k n cv cl C h'.1.1.2;have sb:=sE b X Z k n cv cl C h'.1.2;refine ⟨?_,λ z=>nomatch z⟩;refine PE.mono (VY (sc.pt h'.2) sa.pe sb.pe) λ σ H Q=>z5 λ μ ρ h hr er q=>?_;have e0:((c.ev cl ρ h).bind λ x h1=>tru x h1 λ t h1=>if t then a.ev cl ρ h1 else b.ev cl ρ h1)=(c.evT cl ρ h).bind λ t h1=>if t then a.ev cl ρ h1 else b.ev cl ρ h1:=by
   rw [wa,zj]
   congr 1
   funext d h1
   unfold tru toB;cases d<;>rfl
  have q:PostE X.K cv (Rep X.K) μ H ((c.ev cl ρ h).bind λ x h1=>tru x h1 λ t h1=>if t then a.ev cl ρ h1 else b.ev cl ρ h1) Q (Z σ):=q;rw [e0] at q;refine z7 (m:=c.evT cl) (R:=RB) hr er q λ t h1 μ1 H1 x _ e1 r1 er1 qa p1=>?_;have qa':t=x:=qa;subst qa';cases t with
  | true=>exact yM ⟨μ1,ρ,h1,r1,er1,p1⟩
  | false=>exact yL ⟨μ1,ρ,h1,r1,er1,p1⟩
 | .call f a r p0 p,X,Z,k,n,cv,cl,C,h=>by
  have h':((f<n.F.length/\gOf X.env.scope (n.F.getD f "")=true)/\a.ok X.env.scope n=true)/\r.ok X.env.scope n=true:=by have h:(_&&_)=true:=h;simp only [Y0g,decide_eq_true_eq] at h;exact ⟨⟨⟨h.1.1.1.1,h.1.1.2⟩,h.1.2⟩,h.2⟩
  have hnc:(n.G.any λ q=>decide (q.2=Cn.cls f))=false:=by have h:(_&&_)=true:=h;simp only [Y0g,Y2p] at h;exact h.1.1.1.2
  have sa:=sE a X Z k n cv cl C h'.1.2;have sr:=sEs r X Z k n cv cl C h'.2;obtain ⟨hdb,fa,fd,ps,hm,_,hk,hb,hl,F⟩:=C.fn f _ (getD_some (d:=("":Str)) h'.1.1.1) hnc;have pe:PE X ((E.call f a r p0 p).py n) (zt X.K cv (Rep X.K) Z ((E.call f a r p0 p).ev cl)):=by
   refine PE.mono (Gh F (C.rm.mono (by omega)) (C.gl h'.1.1.2) hm hk hb .nil C.th (zx sa.pe sr.pa (za a _ _)) hdb (za a _ _) (Zw r p X.env)) λ σ H Q=>z5 λ μ ρ h hr er q=>?_;unfold Gg z1c;refine z7 (m:=a.ev cl) hr er q λ da h1 μ1 H1 x _ e1 r1 er1 qa p1=>?_;refine z7 (m:=r.ev cl) r1 er1 p1 λ ds h2 μ2 H2 xs _ e2 r2 er2 qb p2=>?_;show spI X.K cv ps.length (cl f) ((x::xs)++[]) H2 Q λ C _ H'=>Z σ C H';rw [Y14];have z:=hl (da::ds) h2 λ z=>by rw [z] at p2;exact p2
   exact ⟨by rw [Y01,<- qb.length,<- Y01 (a:=da)];exact z,μ2,h2,da::ds,r2,.cons (qa.mono e2) qb,p2⟩
  exact ⟨pe,λ _=>by exact zy pe λ _=>rfl⟩
 | .len a p0 p,X,Z,k,n,cv,cl,C,h=>by
  have h':gOf X.env.scope "len"=true/\a.ok X.env.scope n=true:=by have h:(_&&_)=true:=h;simpa using h
  have sa:=sE a X Z k n cv cl C h'.2;have pe:PE X ((E.len a p0 p).py n) (zt X.K cv (Rep X.K) Z ((E.len a p0 p).ev cl)):=by
   refine PE.mono (wF (Vf (cv:=cv)) (C.gl h'.1) (C.bm _ (by decide)) PySem.boot_len (zx sa.pe zJ (za a _ _)) (by decide) (by decide) (za a _ _) rfl) λ σ H Q=>z5 λ μ ρ h hr er q=>?_;refine z7 (m:=a.ev cl) hr er q λ da h1 μ1 H1 x _ e1 r1 er1 qa p1=>?_;exact ⟨x,rfl,μ1,h1,da,_,r1,qa,p1⟩
  exact ⟨pe,λ _=>by exact zy pe λ _=>rfl⟩
 | .isi T a p0 p1 p,X,Z,k,n,cv,cl,C,h=>by
  have h':((gOf X.env.scope "isinstance"=true/\gOf X.env.scope (qt T)=true)/\T<5)/\a.ok X.env.scope n=true:=by have h:(_&&_)=true:=h;simpa using h
  have sa:=sE a X Z k n cv cl C h'.2;obtain ⟨b1,b2,b3,b4⟩:=z3m T h'.1.2;have pe:PE X ((E.isi T a p0 p1 p).py n) (zt X.K cv (Rep X.K) Z ((E.isi T a p0 p1 p).ev cl)):=by
   refine PE.mono (wF (GJ (cv:=cv) T h'.1.2) (C.gl h'.1.1.1) (C.bm _ (by decide)) PyProof.Rows.boot_isinstance (zx sa.pe (zx (B3 (v:=.ty (Ug T)) (C.gl h'.1.1.2) (C.bm _ b4) b1 rfl b2 b3) zJ) (za a _ _)) (by decide) (by decide) (za a _ _) rfl) λ σ H Q=>z5 λ μ ρ h hr er q=>?_;refine z7 (m:=a.ev cl) hr er q λ da h1 μ1 H1 x _ e1 r1 er1 qa p1=>?_;exact ⟨x,rfl,μ1,h1,da,_,r1,qa,p1⟩
  exact ⟨pe,λ _=>by exact zy pe λ _=>rfl⟩
 | .sub a i p,X,Z,k,n,cv,cl,C,h=>by
  have h':a.ok X.env.scope n=true/\i.ok X.env.scope n=true:=by have h:(_&&_)=true:=h;simpa using h
  have sa:=sE a X Z k n cv cl C h'.1;have sb:=sE i X Z k n cv cl C h'.2;have pe:PE X ((E.sub a i p).py n) (zt X.K cv (Rep X.K) Z ((E.sub a i p).ev cl)):=by
   refine PE.mono (z1e (BW (cv:=cv) (z1f C.rm)) sa.pe sb.pe (Qc i)) λ σ H Q q=>?_;exact GI q
  exact ⟨pe,λ _=>by exact zy pe λ _=>rfl⟩
 | .tup es p,X,Z,k,n,cv,cl,C,h=>by
  have h':es.ok X.env.scope n=true:=by exact h
  have sr:=sEs es X Z k n cv cl C h';have pe:PE X ((E.tup es p).py n) (zt X.K cv (Rep X.K) Z ((E.tup es p).ev cl)):=by
   refine PE.mono (z2v sr.pa) λ σ H Q=>z5 λ μ ρ h hr er q=>?_;refine z7 (m:=es.ev cl) hr er q λ ds h1 μ1 H1 xs _ e1 r1 er1 qa p1=>?_;split at p1
   ·rename_i c;refine ⟨by rw [<- qa.length];exact Y2i (Jy c),λ a ha=>?_⟩;exact p1 μ1 _ (.ref a) (zm ha) (r1.tup ha) (.tup (SqT.of zu) (qa.mono (zm ha)))
   ·exact p1.elim
  exact ⟨pe,λ _=>by exact zy pe λ _=>rfl⟩
 | .ofL l,X,Z,k,n,cv,cl,C,h=>by
  have sl:=sL l X Z k n cv cl C (by exact h);refine ⟨?_,λ z=>nomatch z⟩;refine PE.mono sl λ σ H Q=>z5 λ μ ρ h hr er q=>?_;refine ja (m:=l.ev cl) Ext.refl hr er q (λ _ _ z=>z) λ ds h1 μ1 H1 x _ e1 r1 er1 qa p1=>?_;obtain ⟨p,vs,rfl,g1,g2,g3,g4⟩:=qa;refine p1 (μ1++[p]) H1 _ (e1.add g4) (r1.add g3 λ μ' gr=>⟨vs,g1,g2.mono' gr⟩) (.loc ?_);rw [<- r1.len,Y0w (Y09 _),Y23];rfl
 | .tupL l p0 p,X,Z,k,n,cv,cl,C,h=>by
  have h':gOf X.env.scope "tuple"=true/\l.ok X.env.scope n=true:=by have h:(_&&_)=true:=h;simpa using h
  have sl:=sL l X Z k n cv cl C h'.2;have pe:PE X ((E.tupL l p0 p).py n) (zt X.K cv (Rep X.K) Z ((E.tupL l p0 p).ev cl)):=by
   refine PE.mono (jP qh (C.gl h'.1) (C.bm _ (by decide)) PyProof.Rows.boot_tuple (zx sl zJ (L.py_star l _ _)) (by decide) (by decide) (L.py_star l _ _) rfl) λ σ H Q=>z5 λ μ ρ h hr er q=>?_;refine ja (m:=l.ev cl) Ext.refl hr er q (λ _ _ z=>z) λ ds h1 μ1 H1 x _ e1 r1 er1 qa p1=>?_;obtain ⟨b,vs,rfl,g1,g2,g3,g4⟩:=qa;exact ⟨b,vs,rfl,.inl ⟨SqL.of g1,λ a ha=>p1 μ1 _ _ (e1.trans (zm ha)) (r1.tup ha) (.tup (SqT.of zu) (g2.mono (zm ha)))⟩⟩
  exact ⟨pe,λ _=>by exact zy pe λ _=>rfl⟩
 | .tupE e p0 p,X,Z,k,n,cv,cl,C,h=>by
  have h':gOf X.env.scope "tuple"=true/\e.ok X.env.scope n=true:=by have h:(_&&_)=true:=h;simpa using h
  have se:=sE e X Z k n cv cl C h'.2;have pe:PE X ((E.tupE e p0 p).py n) (zt X.K cv (Rep X.K) Z ((E.tupE e p0 p).ev cl)):=by
   refine PE.mono (jP (Vg (cv:=cv)) (C.gl h'.1) (C.bm _ (by decide)) PyProof.Rows.boot_tuple (zx se.pe zJ (za e _ _)) (by decide) (by decide) (za e _ _) rfl) λ σ H Q=>z5 λ μ ρ h hr er q=>?_;refine z7 (m:=e.ev cl) hr er q λ da h1 μ1 H1 x _ e1 r1 er1 qa p1=>?_;exact ⟨x,rfl,μ1,h1,da,_,r1,qa,p1⟩
  exact ⟨pe,λ _=>by exact zy pe λ _=>rfl⟩
 | .listE e p0 p,X,Z,k,n,cv,cl,C,h=>by
  have h':gOf X.env.scope "list"=true/\e.ok X.env.scope n=true:=by have h:(_&&_)=true:=h;simpa using h
  have se:=sE e X Z k n cv cl C h'.2;have pe:PE X ((E.listE e p0 p).py n) (zt X.K cv (Rep X.K) Z ((E.listE e p0 p).ev cl)):=by
   refine PE.mono (jP (Ym (cv:=cv)) (C.gl h'.1) (C.bm _ (by decide)) PyProof.Rows.boot_list (zx se.pe zJ (za e _ _)) (by decide) (by decide) (za e _ _) rfl) λ σ H Q=>z5 λ μ ρ h hr er q=>?_;refine z7 (m:=e.ev cl) hr er q λ da h1 μ1 H1 x _ e1 r1 er1 qa p1=>?_;exact ⟨x,rfl,μ1,h1,da,_,r1,qa,p1⟩
  exact ⟨pe,λ _=>by exact zy pe λ _=>rfl⟩
 | .cut a lo hi p2 p,X,Z,k,n,cv,cl,C,h=>by
  have h':(a.ok X.env.scope n=true/\lo.ok X.env.scope n=true)/\hi.ok X.env.scope n=true:=by have h:(_&&_)=true:=h;simpa using h
  have sa:=sE a X Z k n cv cl C h'.1.1;have sl:=sEo lo X Z k n cv cl C h'.1.2;have sh:=sEo hi X Z k n cv cl C h'.2;have pe:PE X ((E.cut a lo hi p2 p).py n) (zt X.K cv (Rep X.K) Z ((E.cut a lo hi p2 p).ev cl)):=by
   refine PE.mono (G8 (z01 (cv:=cv)) sa.pe sl sh) λ σ H Q=>z5 λ μ ρ h hr er q=>?_;refine z7 (m:=a.ev cl) hr er q λ da h1 μ1 H1 x _ e1 r1 er1 qa p1=>?_;refine z7 (m:=lo.ev cl) (R:=λ _ _ a b=>a=b) r1 er1 p1 λ l h2 μ2 H2 l' _ e2 r2 er2 ql p2=>?_;have ql':l=l':=ql;subst ql';refine z7 (m:=hi.ev cl) (R:=λ _ _ a b=>a=b) r2 er2 p2 λ u h3 μ3 H3 u' _ e3 r3 er3 qu p3=>?_;have qu':u=u':=qu;subst qu';exact ⟨μ3,h3,da,_,r3,(qa.mono e2).mono e3,p3⟩
  exact ⟨pe,λ _=>by exact zy pe λ _=>rfl⟩
 | .revT a st p2 p,X,Z,k,n,cv,cl,C,h=>by
  have h':a.ok X.env.scope n=true/\st.ok X.env.scope n=true:=by have h:(_&&_)=true:=h;simpa using h
  have sa:=sE a X Z k n cv cl C h'.1;have ss:=sE st X Z k n cv cl C h'.2;have pe:PE X ((E.revT a st p2 p).py n) (zt X.K cv (Rep X.K) Z ((E.revT a st p2 p).ev cl)):=by
   refine PE.mono (BG sa.pe ss.pe) λ σ H Q=>z5 λ μ ρ h hr er q=>?_;refine z7 (m:=a.ev cl) hr er q λ da h1 μ1 H1 x _ e1 r1 er1 qa p1=>?_;refine z7 (m:=st.ev cl) r1 er1 p1 λ db h2 μ2 H2 y _ e2 r2 er2 qb p2=>?_;have qa':=qa.mono e2;unfold Uh at p2;cases qa' with
   | tup t1 t2 =>
    cases qb with
    | int i =>
     simp only at p2;split at p2
     ·rename_i c;subst c;exact ⟨rfl,.inl ⟨_,_,rfl,t1,λ b hb=>p2 μ2 _ _ (zm hb) (r2.tup hb) (.tup (SqT.of zu) (t2.reverse.mono (zm hb)))⟩⟩
     ·exact p2.elim
    | _=>exact p2.elim
   | @loc nn b m =>
    cases e3:PI.rd h2 nn with
    | none=>simp only [e3] at p2;exact p2.elim
    | some ds =>
     simp only [e3] at p2;cases qb with
     | int i =>
      simp only at p2;split at p2
      ·rename_i c;subst c;obtain ⟨vs,q1,q2⟩:=jq r2 m e3;exact ⟨rfl,.inr ⟨b,vs,rfl,SqL.of q1,wc r2 q2.reverse p2⟩⟩
      ·exact p2.elim
     | _=>exact p2.elim
   | _=>exact p2.elim
  exact ⟨pe,λ _=>by exact zy pe λ _=>rfl⟩
 | .dic p,X,Z,k,n,cv,cl,C,h=>by
  refine ⟨?_,λ z=>nomatch z⟩;refine PE.mono Gd λ σ H Q=>z5 λ μ ρ h hr er q=>?_;intro b hb;refine q _ _ _ ((zm hb).add hb) (hr.alloc hb (hr.fresh hb) λ μ' g=>⟨_,zu,.nil⟩) (.loc ?_);rw [<- hr.len,Y0w (Y09 _),Y23];rfl
 | .m0 m o p1 p,X,Z,k,n,cv,cl,C,h=>by
  have h':o.ok X.env.scope n=true/\p1.endLine=p.line:=by have h:(_&&_)=true:=h;simpa using h
  have so:=sE o X Z k n cv cl C h'.1;have hl:(p1.endLine==p.line)=true:=beq_iff_eq.mpr h'.2;have pe:PE X ((E.m0 m o p1 p).py n) (zt X.K cv (Rep X.K) Z ((E.m0 m o p1 p).ev cl)):=by
   cases m with
   | pop =>
    refine PE.mono (z30 Y2q PySem.F.slot_list_pop PySem.F.type_list_pop (BX (cv:=cv)) so.pe (jm o _ _) hl) λ σ H Q=>z5 λ μ ρ h hr er q=>?_;refine z7 (m:=o.ev cl) hr er q λ da h1 μ1 H1 x _ e1 r1 er1 qa p1=>?_;exact ⟨z62 r1 qa λ z=>by rw [z] at p1;exact p1,rfl,μ1,h1,da,_,r1,qa,p1⟩
  exact ⟨pe,λ _=>by exact zy pe λ _=>rfl⟩
 | .m1 m o a p1 p,X,Z,k,n,cv,cl,C,h=>by
  have h':(o.ok X.env.scope n=true/\a.ok X.env.scope n=true)/\p1.endLine=p.line:=by have h:(_&&_)=true:=h;simpa using h
  have so:=sE o X Z k n cv cl C h'.1.1;have sa:=sE a X Z k n cv cl C h'.1.2;have hl:(p1.endLine==p.line)=true:=beq_iff_eq.mpr h'.2;have pe:PE X ((E.m1 m o a p1 p).py n) (zt X.K cv (Rep X.K) Z ((E.m1 m o a p1 p).ev cl)):=by
   cases m with
   | append =>
    refine PE.mono (U7 Y2q PySem.F.slot_list_append PySem.F.type_list_append (Yj (cv:=cv)) so.pe (zx sa.pe zJ (za a _ _)) (jm o _ _) (yU a _ _) hl (za a _ _) rfl) λ σ H Q=>z5 λ μ ρ h hr er q=>?_;refine z7 (m:=o.ev cl) hr er q λ da h1 μ1 H1 x _ e1 r1 er1 qa p1=>?_;obtain ⟨ty,p1⟩:=GS r1 qa p1;refine ⟨ty,?_⟩;refine z7 (m:=a.ev cl) r1 er1 p1 λ db h2 μ2 H2 y _ e2 r2 er2 qb p2=>?_;exact ⟨y,rfl,μ2,h2,da,db,_,r2,qa.mono e2,qb,p2⟩
   | extend =>
    refine PE.mono (U7 Y2q PySem.F.slot_list_extend PySem.F.type_list_extend (Yl (cv:=cv)) so.pe (zx sa.pe zJ (za a _ _)) (jm o _ _) (yU a _ _) hl (za a _ _) rfl) λ σ H Q=>z5 λ μ ρ h hr er q=>?_;refine z7 (m:=o.ev cl) hr er q λ da h1 μ1 H1 x _ e1 r1 er1 qa p1=>?_;obtain ⟨ty,p1⟩:=GS r1 qa p1;refine ⟨ty,?_⟩;refine z7 (m:=a.ev cl) r1 er1 p1 λ db h2 μ2 H2 y _ e2 r2 er2 qb p2=>?_;exact ⟨y,rfl,μ2,h2,da,db,_,r2,qa.mono e2,qb,p2⟩
  exact ⟨pe,λ _=>by exact zy pe λ _=>rfl⟩
 | .gcon x c p,X,Z,k,n,cv,cl,C,h=>by
  have h':gOf X.env.scope x=true/\(x,c)∈n.G:=by have h:(_&&_)=true:=h;simpa using h
  obtain ⟨hd,v,hm,ok⟩:=C.gc x c h'.2;have pe:PE X ((E.gcon x c p).py n) (zt X.K cv (Rep X.K) Z ((E.gcon x c p).ev cl)):=by
   cases c with
   | int i =>
    obtain ⟨t,rfl⟩:=ok;refine PE.mono (jH (v:=.int i) (C.gl h'.1) hm ⟨t,rfl⟩ hd) λ σ H Q=>z5 λ μ ρ h hr er q=>?_;exact q.here hr (.int i)
   | str z =>
    obtain ⟨t,rfl⟩:=ok;refine PE.mono (jH (v:=.str z) (C.gl h'.1) hm ⟨t,rfl⟩ hd) λ σ H Q=>z5 λ μ ρ h hr er q=>?_;exact q.here hr (.str z)
   | tup xs =>
    obtain ⟨a,rfl,tk⟩:=ok;refine PE.mono (jH (v:=.ref a) (C.gl h'.1) hm rfl hd) λ σ H Q=>z5 λ μ ρ h hr er q=>?_;exact q.here hr tk.rep
   | dic kvs =>
    obtain ⟨a,o,es,ep,vs,rfl,_⟩:=ok;refine PE.mono (jH (v:=.ref a) (C.gl h'.1) hm rfl hd) λ σ H Q=>z5 λ μ ρ h hr er q=>?_;exact q.elim
   | cls i =>
    obtain ⟨a,rfl⟩:=ok;refine PE.mono (jH (v:=.ref a) (C.gl h'.1) hm rfl hd) λ σ H Q=>z5 λ μ ρ h hr er q=>?_;exact q.elim
   | isc x' ys =>
    obtain ⟨a,rfl,_⟩:=ok;refine PE.mono (jH (v:=.ref a) (C.gl h'.1) hm rfl hd) λ σ H Q=>z5 λ μ ρ h hr er q=>?_;exact q.elim
   | exc c u =>
    obtain ⟨a,_,_,_,_,rfl,_⟩:=ok;refine PE.mono (jH (v:=.ref a) (C.gl h'.1) hm rfl hd) λ σ H Q=>z5 λ μ ρ h hr er q=>?_;exact q.elim
  exact ⟨pe,λ z=>by cases z⟩
 | .gsub x kvs i p0 p,X,Z,k,n,cv,cl,C,h=>by
  have h':(gOf X.env.scope x=true/\(x,Cn.dic kvs)∈n.G)/\i.ok X.env.scope n=true:=by have h:(_&&_)=true:=h;simpa using h
  obtain ⟨hd,v,hm,ok⟩:=C.gc x _ h'.1.2;have si:=sE i X Z k n cv cl C h'.2;have pe:PE X ((E.gsub x kvs i p0 p).py n) (zt X.K cv (Rep X.K) Z ((E.gsub x kvs i p0 p).ev cl)):=by
   have ok':=ok;obtain ⟨a,o,es,ep,vs,rfl,_⟩:=ok';refine PE.mono (z1e (z3i (kvs:=kvs)) (jH (v:=.ref a) (C.gl h'.1.1) hm rfl hd) si.pe (Qc i)) λ σ H Q=>z5 λ μ ρ h hr er q=>?_;refine z7 (m:=i.ev cl) hr er q λ d h1 μ1 H1 y _ e1 r1 er1 qa p1=>?_;unfold BK at p1;cases qa with
   | str kk =>
    simp only at p1;split at p1
    ·rename_i xs l;split at p1
     ·exact p1.elim
     ·rename_i nf;exact ⟨a,kk,xs,rfl,rfl,ok,l,λ b tk=>p1.here r1 (tk.rep ((Bool.not_eq_true _).mp nf))⟩
    ·exact p1.elim
   | _=>exact p1.elim
  exact ⟨pe,λ _=>by exact zy pe λ _=>rfl⟩
 | .c1 f a p0 p,X,Z,k,n,cv,cl,C,h=>by
  have h':gOf X.env.scope f.name=true/\a.ok X.env.scope n=true:=by have h:(_&&_)=true:=h;simpa using h
  have sa:=sE a X Z k n cv cl C h'.2;have fin:∀ {σ H Q},zt X.K cv (Rep X.K) Z ((E.c1 f a p0 p).ev cl) σ H Q->zt X.K cv (Rep X.K) Z (a.ev cl) σ H λ x H1=>∃ y,[x]=[y]/\r1 X.K cv (c1D f) y H1 Q:=λ {σ H Q} ⟨μ,ρ,h,hr,er,q⟩=>by
   refine z7 (m:=a.ev cl) hr er q λ da h1 μ1 H1 x _ e1 r1 er1 qa p1=>?_;exact ⟨x,rfl,μ1,h1,da,_,r1,qa,p1⟩
  have pe:PE X ((E.c1 f a p0 p).py n) (zt X.K cv (Rep X.K) Z ((E.c1 f a p0 p).ev cl)):=by
   cases f with
   | str=>exact PE.mono (jP (Vh (cv:=cv)) (C.gl h'.1) (C.bm _ (by decide)) PyProof.Rows.boot_str (zx sa.pe zJ (za a _ _)) (by decide) (by decide) (za a _ _) rfl) λ σ H Q q=>fin q
   | int=>exact PE.mono (jP (Vi (cv:=cv)) (C.gl h'.1) (C.bm _ (by decide)) PyProof.Rows.boot_int (zx sa.pe zJ (za a _ _)) (by decide) (by decide) (za a _ _) rfl) λ σ H Q q=>fin q
   | all=>exact PE.mono (wF (Vk (cv:=cv) C.cm) (C.gl h'.1) (C.bm _ (by decide)) PyProof.Rows.boot_all (zx sa.pe zJ (za a _ _)) (by decide) (by decide) (za a _ _) rfl) λ σ H Q q=>fin q
   | any=>exact PE.mono (wF (Vl (cv:=cv) C.cm) (C.gl h'.1) (C.bm _ (by decide)) PyProof.Rows.boot_any (zx sa.pe zJ (za a _ _)) (by decide) (by decide) (za a _ _) rfl) λ σ H Q q=>fin q
   | abs=>exact PE.mono (wF (Vj (cv:=cv)) (C.gl h'.1) (C.bm _ (by decide)) PyProof.Rows.boot_abs (zx sa.pe zJ (za a _ _)) (by decide) (by decide) (za a _ _) rfl) λ σ H Q q=>fin q
  exact ⟨pe,λ _=>by exact zy pe λ _=>rfl⟩
 | .join o a p1 p,X,Z,k,n,cv,cl,C,h=>by
  have h':(o.ok X.env.scope n=true/\a.ok X.env.scope n=true)/\p1.endLine=p.line:=by have h:(_&&_)=true:=h;simpa using h
  have so:=sE o X Z k n cv cl C h'.1.1;have sa:=sE a X Z k n cv cl C h'.1.2;have hl:(p1.endLine==p.line)=true:=beq_iff_eq.mpr h'.2;have pe:PE X ((E.join o a p1 p).py n) (zt X.K cv (Rep X.K) Z ((E.join o a p1 p).ev cl)):=by
   refine PE.mono (U7 Y2u PySem.F.slot_str_join PySem.F.type_str_join (GL (cv:=cv)) so.pe (zx sa.pe zJ (za a _ _)) (jm o _ _) (yU a _ _) hl (za a _ _) rfl) λ σ H Q=>z5 λ μ ρ h hr er q=>?_;refine z7 (m:=o.ev cl) hr er q λ da h1 μ1 H1 x _ e1 r1 er1 qa p1=>?_;unfold onS at p1;cases qa with
   | str z =>
    refine ⟨?ty,?_⟩
    case ty=>exact rfl
    refine z7 (m:=a.ev cl) r1 er1 p1 λ db h2 μ2 H2 y _ e2 r2 er2 qb p2=>?_;exact ⟨y,rfl,μ2,h2,.str z,db,_,r2,.str z,qb,p2⟩
   | _=>exact p1.elim
  exact ⟨pe,λ _=>by exact zy pe λ _=>rfl⟩
 | .split o a p1 p,X,Z,k,n,cv,cl,C,h=>by
  have h':(o.ok X.env.scope n=true/\a.ok X.env.scope n=true)/\p1.endLine=p.line:=by have h:(_&&_)=true:=h;simpa using h
  have so:=sE o X Z k n cv cl C h'.1.1;have sa:=sE a X Z k n cv cl C h'.1.2;have hl:(p1.endLine==p.line)=true:=beq_iff_eq.mpr h'.2;have pe:PE X ((E.split o a p1 p).py n) (zt X.K cv (Rep X.K) Z ((E.split o a p1 p).ev cl)):=by
   refine PE.mono (U7 Y2u PySem.F.slot_str_split PySem.F.type_str_split (Vm (cv:=cv)) so.pe (zx sa.pe zJ (za a _ _)) (jm o _ _) (yU a _ _) hl (za a _ _) rfl) λ σ H Q=>z5 λ μ ρ h hr er q=>?_;refine z7 (m:=o.ev cl) hr er q λ da h1 μ1 H1 x _ e1 r1 er1 qa p1=>?_;unfold onS at p1;cases qa with
   | str z =>
    refine ⟨?ty,?_⟩
    case ty=>exact rfl
    refine z7 (m:=a.ev cl) r1 er1 p1 λ db h2 μ2 H2 y _ e2 r2 er2 qb p2=>?_;exact ⟨y,rfl,μ2,h2,.str z,db,_,r2,.str z,qb,p2⟩
   | _=>exact p1.elim
  exact ⟨pe,λ _=>by exact zy pe λ _=>rfl⟩
 | .listR e p0 p1 p2 p,X,Z,k,n,cv,cl,C,h=>by
  have h':(gOf X.env.scope "list"=true/\gOf X.env.scope "reversed"=true)/\e.ok X.env.scope n=true:=by have h:(_&&_)=true:=h;simpa using h
  have se:=sE e X Z k n cv cl C h'.2;have pe:PE X ((E.listR e p0 p1 p2 p).py n) (zt X.K cv (Rep X.K) Z ((E.listR e p0 p1 p2 p).ev cl)):=by
   refine PE.mono (Yc C.cm (C.gl h'.1.2) (C.bm _ (by decide)) (C.gl h'.1.1) (C.bm _ (by decide)) (zx se.pe zJ (za e _ _)) (za e _ _)) λ σ H Q=>z5 λ μ ρ h hr er q=>?_;refine z7 (m:=e.ev cl) hr er q λ d h1 μ1 H1 x _ e1 r1 er1 qa p1=>?_;unfold lrD at p1;cases qa with
   | @fl ds vs a f r=>exact ⟨a,vs,rfl,f.sq,wc r1 r.reverse p1⟩
   | @loc nn b m =>
    cases e2:PI.rd h1 nn with
    | none=>simp only [e2] at p1;exact p1.elim
    | some ds =>
     simp only [e2] at p1;obtain ⟨vs,q1,q2⟩:=jq r1 m e2;exact ⟨b,vs,rfl,SqL.of q1,wc r1 q2.reverse p1⟩
   | _=>exact p1.elim
  exact ⟨pe,λ _=>by exact zy pe λ _=>rfl⟩
 | .cmpN neg a p1 p,X,Z,k,n,cv,cl,C,h=>by
  have h':a.ok X.env.scope n=true:=by exact h
  have sa:=sE a X Z k n cv cl C h';have hu:X.A.units<cLine:=by have:=C.rm.units;omega
  have hop:OpR X (compareOp (if neg then .NotEq else .Eq)) (Bv X.K neg):=by cases neg with | true=>exact Gu hu | false=>exact Gs hu
  have hb:behindInMarks (if neg then .NotEq else .Eq) (.List [] p1)=false:=by cases neg<;>rfl
  have fin:∀ {μ1:List Addr}{h1:Hh}{H1:Hp}{x:V}{da:D}{Q:VK}{Z1:Value->Hp->Prop},HR X.K μ1 h1 H1->Rep X.K μ1 H1 da x->PostE X.K cv (Rep X.K) μ1 H1 (qg neg da h1) Q Z1->∀ b,H1 b=none->Bv X.K neg x (.ref b) (upd H1 b (.lst [])) Q:=λ {μ1 h1 H1 x da Q Z1} r1 qa p1 b hb'=>by
   unfold qg at p1;have q2:=SqL.of (K:=X.K) (zu (H:=H1) (a:=b) (o:=.lst []));cases qa with
   | @fl ds vs a f r =>
    refine ⟨a,b,vs,rfl,rfl,((zm (μ:=μ1) hb').fz _ _ f).sq,q2,?_⟩;have z:=p1 μ1 (upd H1 b (.lst [])) _ (zm hb') (r1.tup hb') (.bl _);rw [r.isEmpty] at z;exact z
   | @loc nn a m =>
    cases e2:PI.rd h1 nn with
    | none=>simp only [e2] at p1;exact p1.elim
    | some ds =>
     simp only [e2] at p1;obtain ⟨vs,q1,r⟩:=jq r1 m e2;refine ⟨a,b,vs,rfl,rfl,SqL.of (by rw [zq (by intro z;rw [z,hb'] at q1;cases q1)];exact q1),q2,?_⟩;have z:=p1 μ1 (upd H1 b (.lst [])) _ (zm hb') (r1.tup hb') (.bl _);rw [r.isEmpty] at z;exact z
   | _=>exact p1.elim
  have pe:PE X ((E.cmpN neg a p1 p).py n) (zt X.K cv (Rep X.K) Z ((E.cmpN neg a p1 p).ev cl)):=by
   refine PE.mono (U0 hop sa.pe (QZ zJ) hb) λ σ H Q=>z5 λ μ ρ h hr er q=>?_;refine z7 (m:=a.ev cl) hr er q λ da h1 μ1 H1 x _ e1 r1 er1 qa p1=>?_;exact ⟨Y1u _,λ b hb'=>fin r1 qa p1 b hb'⟩
  refine ⟨pe,λ _=>?_⟩;refine PT.mono (U1 hop sa.pe (QZ zJ) hb) λ σ H Q=>z5 λ μ ρ h hr er q=>?_;have q:PostE X.K cv RB μ H (((a.ev cl ρ h).bind λ x h1=>qg neg x h1).bind toB) Q (Z σ):=q;rw [zj] at q;unfold G4;refine z7 (m:=a.ev cl) hr er q λ da h1 μ1 H1 x _ e1 r1 er1 qa p1=>?_;refine ⟨Y1u _,λ b hb'=>fin (Z1:=Z σ) r1 qa ?_ b hb'⟩;cases e3:qg neg da h1 with
  | ok d h3 =>
   rw [e3] at p1;intro μ3 H3 v x1 x2 x3;unfold Res.bind toB at p1;cases x3 with
   | bl c=>exact ⟨c,rfl,p1 μ3 H3 c x1 x2 rfl⟩
   | _=>exact p1.elim
  | exc c h3=>rw [e3] at p1;exact p1
  | no=>rw [e3] at p1;exact p1
theorem sEo:∀ (e:Eo) (X:Cx) (Z:ZK) (k:Nat) (n:Nm) (cv:Nat->Value) (cl:Nat->List D->Hh->Res D),Kx X Z k n cv cl->e.ok X.env.scope n=true->PO X (e.py n) (zt X.K cv (λ _ _ a b=>a=b) Z (e.ev cl))
 | .none,X,Z,k,n,cv,cl,C,h=>by
  refine PO.mono Bf λ σ H Q=>z5 λ μ ρ h hr er q=>?_;exact q.here hr rfl
 | .some e,X,Z,k,n,cv,cl,C,h=>by
  have se:=sE e X Z k n cv cl C (by exact h);refine PO.mono (Bg se.pe) λ σ H Q=>z5 λ μ ρ h hr er q=>?_;refine z7 (m:=e.ev cl) hr er q λ d h1 μ1 H1 x _ e1 r1 er1 qa p1=>?_;unfold GA at p1;cases qa with
  | int i=>exact ⟨i,rfl,p1.here r1 rfl⟩
  | _=>exact p1.elim
theorem sL:∀ (l:L) (X:Cx) (Z:ZK) (k:Nat) (n:Nm) (cv:Nat->Value) (cl:Nat->List D->Hh->Res D),Kx X Z k n cv cl->l.ok X.env.scope n=true->PE X (l.py n) (GO X.K cv Z (l.ev cl))
 | .disp es p,X,Z,k,n,cv,cl,C,h=>by
  have sr:=sEs es X Z k n cv cl C (by exact h);refine PE.mono (QZ sr.pa) λ σ H Q=>z5 λ μ ρ h hr er q=>?_;refine ja (m:=es.ev cl) Ext.refl hr er q (λ _ _ z=>z) λ ds h1 μ1 H1 xs _ e1 r1 er1 qa p1=>?_;split at p1
  ·rename_i c;refine ⟨by rw [<- qa.length];exact Y2i (Jy c),λ a ha=>?_⟩;have na:=r1.fresh ha;have n0:H a=none:=by
    cases e:H a with
    | none=>rfl
    | some o=>rw [e1.oth a o e λ z=>na (e1.sub z)] at ha;cases ha
   exact p1 μ1 _ _ (e1.trans (zm ha)) (r1.tup ha) ⟨a,xs,rfl,zu,qa.mono (zm ha),na,n0⟩
  ·exact p1.elim
 | .comp elt t it c NC cap csc p,X,Z,k,n,cv,cl,C,h=>by
  obtain ⟨k1,k2',k3,k4,k5,k6,k7,k8,k9⟩:=Uq C h;have hit:=sI it X Z k n cv cl C k1.1 t k1.2 NC;exact GR (X:=X) (Z:=Z) (cv:=cv) (mi:=it.ev cl) (mc:=c.evC cl) (me:=elt.ev cl) (pos:=p) (elt:=elt.py ⟨NC,n.F,n.G⟩) (iter:=it.py n) (ifs:=c.py ⟨NC,n.F,n.G⟩) C.cm C.th hit k2' k5
   (λ Cc s H fp pn xe=>Us C.kd k2' k3 k5)
   (λ Cc s H fp pn xe Zc th=>by
    have Cc':=C.comp k2' k3 k4 th;cases c with
    | nil=>exact Ur
    | cons e r =>
     cases r with
     | cons _ _=>cases k9
     | nil =>
      have se:=sE e _ Zc k ⟨NC,n.F,n.G⟩ cv cl Cc' (by have k7:(_&&_)=true:=k7;simp at k7;exact k7.1);have ht:=se.pt (by have k8:(_&&_)=true:=k8;simp at k8;exact k8.1);exact Gj ht)
   (λ Cc s H fp pn xe Zc th=>(sE elt _ Zc k ⟨NC,n.F,n.G⟩ cv cl (C.comp k2' k3 k4 th) k6).pe) (qA it)
theorem sI:∀ (it:I) (X:Cx) (Z:ZK) (k:Nat) (n:Nm) (cv:Nat->Value) (cl:Nat->List D->Hh->Res D),Kx X Z k n cv cl->it.ok X.env.scope n=true->∀ t:Tg,t.forI it=true->∀ N,L2.PI X (t.py N) (it.py n) (zt X.K cv (RJ X.K) Z (it.ev cl))
 | .seq e,X,Z,k,n,cv,cl,C,h=>λ t ht N=>by
  have se:=sE e X Z k n cv cl C (by exact h);refine PI.mono (z3k se.pe) λ σ H Q=>z5 λ μ ρ h hr er q=>?_;refine z7 (m:=e.ev cl) hr er q λ d h1 μ1 H1 x _ e1 r1 er1 qa p1=>?_;cases qa with
  | tup g1 g2=>exact .inr (.inl ⟨_,rfl,⟨_,g1⟩,p1.here r1 (z04 g1 g2)⟩)
  | fl g1 g2=>exact .inl ⟨_,rfl,⟨_,g1.sq⟩,p1.here r1 (z3j g1 g2)⟩
  | str z=>exact .inr (.inr ⟨_,rfl,p1.here r1 (z05 z)⟩)
  | @loc nn a m =>
   cases e2:rd h1 nn with
   | none=>simp only [e2] at p1;exact p1.elim
   | some xs =>
    simp only [e2] at p1;obtain ⟨vs,hs1,rs⟩:=r1.rd e2 m;exact .inl ⟨_,rfl,⟨_,hs1⟩,p1.here r1 (z02 m)⟩
  | _=>exact p1.elim
 | .lst l,X,Z,k,n,cv,cl,C,h=>λ t ht N=>by
  have sl:=sL l X Z k n cv cl C (by exact h);refine PI.mono (Ba sl) λ σ H Q=>z5 λ μ ρ h hr er q=>?_;refine ja (m:=l.ev cl) Ext.refl hr er q (λ _ _ z=>z) λ ds h1 μ1 H1 x _ e1 r1 er1 qa p1=>?_;obtain ⟨p,vs,rfl,g1,g2,g3,g4⟩:=qa;exact ⟨p,rfl,⟨vs,SqL.of g1⟩,p1 μ1 H1 _ e1 r1 (z03 g1 g3 g2)⟩
 | .rng a p0 p,X,Z,k,n,cv,cl,C,h=>λ t ht N=>by
  have h':gOf X.env.scope "range"=true/\a.ok X.env.scope n=true:=by have h:(_&&_)=true:=h;simpa using h
  have sa:=sE a X Z k n cv cl C h'.2;refine PI.mono (UU (C.gl h'.1) (C.bm _ (by decide)) (zx sa.pe zJ (za a _ _)) (za a _ _)) λ σ H Q=>z5 λ μ ρ h hr er q=>?_;refine z7 (m:=a.ev cl) hr er q λ d h1 μ1 H1 x _ e1 r1 er1 qa p1=>?_;cases qa with
  | int j =>
   simp only at p1;split at p1
   ·rename_i c;exact ⟨j,rfl,by have:=c.1;omega,by have:=c.2;omega,p1.here r1 (z07 j.toNat)⟩
   ·exact p1.elim
  | _=>exact p1.elim
 | .zip a b p0 p,X,Z,k,n,cv,cl,C,h=>λ t ht N=>by
  have h':(gOf X.env.scope "zip"=true/\a.ok X.env.scope n=true)/\b.ok X.env.scope n=true:=by have h:(_&&_)=true:=h;simpa using h
  have sa:=sE a X Z k n cv cl C h'.1.2;have sb:=sE b X Z k n cv cl C h'.2;refine PI.mono (BF (C.gl h'.1.1) (C.bm _ (by decide)) (zx sa.pe (zx sb.pe zJ (za b _ _)) (za a _ _)) (za a _ _) (by rw [za];rfl)) λ σ H Q=>z5 λ μ ρ h hr er q=>?_;refine z7 (m:=a.ev cl) hr er q λ d h1 μ1 H1 x _ e1 r1 er1 qa p1=>?_;refine z7 (m:=b.ev cl) r1 er1 p1 λ d2 h2 μ2 H2 y _ e2 r2 er2 qb p2=>?_;unfold BL at p2;cases g1:Ve d h2 with
  | none=>rw [g1] at p2;exact p2.elim
  | some s1 =>
   cases g2:Ve d2 h2 with
   | none=>simp only [g1,g2] at p2;exact p2.elim
   | some s2 =>
    simp only [g1,g2] at p2;obtain ⟨l1,b1,vs,rfl,u1,v1,w1⟩:=Um (qa.mono e2) r2 g1;obtain ⟨l2,b2,ws,rfl,u2,v2,w2⟩:=Um qb r2 g2;refine ⟨l1,l2,b1,b2,vs,ws,rfl,u1,u2,?_⟩;rw [v1,v2];exact p2.here r2 (z06 w1 w2)
 | .enum e p0 p,X,Z,k,n,cv,cl,C,h=>λ t ht N=>by
  cases t with
  | one i q=>cases ht
  | tup is q =>
   have h':gOf X.env.scope "enumerate"=true/\e.ok X.env.scope n=true:=by have h:(_&&_)=true:=h;simpa using h
   have sa:=sE e X Z k n cv cl C h'.2;refine PI.mono (BH (C.gl h'.1) (C.bm _ (by decide)) (zx sa.pe zJ (za e _ _)) (za e _ _) rfl) λ σ H Q=>z5 λ μ ρ h hr er q=>?_;refine z7 (m:=e.ev cl) hr er q λ d h1 μ1 H1 x _ e1 r1 er1 qa p1=>?_;unfold Q8 at p1;cases qa with
   | @loc nn a m =>
    cases g1:PI.rd h1 nn with
    | none=>simp only [g1] at p1;exact p1.elim
    | some ds =>
     simp only [g1] at p1;obtain ⟨vs,q1,q2⟩:=jq r1 m g1;refine ⟨a,vs,rfl,SqL.of q1,?_⟩;rw [<- q2.length];exact p1.here r1 (GP m)
   | _=>exact p1.elim
theorem sEs:∀ (r:Es) (X:Cx) (Z:ZK) (k:Nat) (n:Nm) (cv:Nat->Value) (cl:Nat->List D->Hh->Res D),Kx X Z k n cv cl->r.ok X.env.scope n=true->SEs X Z n cv cl r
 | .nil,X,Z,k,n,cv,cl,C,_=>by
  refine ⟨?_,λ b p sb=>?_,λ b p sb hb _=>?_,λ b p sb=>?_,λ b p sb hb _=>?_,z3l⟩
  ·skip;refine PA.mono zJ λ σ H Q=>z5 λ μ ρ h hr er q=>?_;exact q.here hr .nil
  ·skip;refine PE.mono (VW sb.pe) λ σ H Q=>z5 λ μ ρ h hr er q=>⟨μ,ρ,h,hr,er,?_⟩;have q:PostE X.K cv (Rep X.K) μ H ((b.ev cl ρ h).bind λ a h1=>.ok a h1) Q (Z σ):=q
   rwa [jy] at q
  ·skip;refine PW.mono (B4 (sb.pt hb)) λ σ H Q=>z5 λ μ ρ h hr er q=>⟨μ,ρ,h,hr,er,?_⟩;have q:PostE X.K cv RB μ H ((b.evT cl ρ h).bind λ a h1=>.ok a h1) Q (Z σ):=q
   rwa [jy] at q
  ·skip;refine PE.mono (VW sb.pe) λ σ H Q=>z5 λ μ ρ h hr er q=>⟨μ,ρ,h,hr,er,?_⟩;have q:PostE X.K cv (Rep X.K) μ H ((b.ev cl ρ h).bind λ a h1=>.ok a h1) Q (Z σ):=q
   rwa [jy] at q
  ·skip;refine PW.mono (z29 (sb.pt hb)) λ σ H Q=>z5 λ μ ρ h hr er q=>⟨μ,ρ,h,hr,er,?_⟩;have q:PostE X.K cv RB μ H ((b.evT cl ρ h).bind λ a h1=>.ok a h1) Q (Z σ):=q
   rwa [jy] at q
 | .cons e r,X,Z,k,n,cv,cl,C,h=>by
  have h':e.ok X.env.scope n=true/\r.ok X.env.scope n=true:=by have h:(_&&_)=true:=h;simpa using h
  have se:=sE e X Z k n cv cl C h'.1;have sr:=sEs r X Z k n cv cl C h'.2;refine ⟨?_,λ b p sb=>?_,λ b p sb hb hr'=>?_,λ b p sb=>?_,λ b p sb hb hr'=>?_,z08 se.pe sr.ps⟩
  ·skip;refine PA.mono (zx se.pe sr.pa (za e _ _)) λ σ H Q=>z5 λ μ ρ h hr er q=>?_;refine z7 (m:=e.ev cl) hr er q λ da h1 μ1 H1 x _ e1 r1 er1 qa p1=>?_;refine z7 (m:=r.ev cl) r1 er1 p1 λ ds h2 μ2 H2 xs _ e2 r2 er2 qb p2=>?_;exact p2.here r2 (.cons (qa.mono e2) qb)
  ·skip;refine PE.mono (VX sb.pe (sr.an e p se)) λ σ H Q=>z5 λ μ ρ h hr er q=>?_;refine z7 (m:=b.ev cl) hr er q λ d h1 μ1 H1 x _ e1 r1 er1 qa p1=>?_;cases qa with
   | bl c =>
    refine ⟨c,rfl,?_⟩;cases c with
    | true=>exact yM ⟨μ1,ρ,h1,r1,er1,p1⟩
    | false=>exact yL (p1.here r1 (.bl _))
   | _=>exact p1.elim
  ·skip;have hr2:e.okT=true/\r.okT=true:=by have hr':(_&&_)=true:=hr';simpa using hr'
   refine PW.mono (VU (sb.pt hb) (sr.anT e p se hr2.1 hr2.2)) λ σ H Q=>z5 λ μ ρ h hr er q=>?_;refine z7 (m:=b.evT cl) (R:=RB) hr er q λ c h1 μ1 H1 x _ e1 r1 er1 qa p1=>?_;have qa':c=x:=qa;subst qa';cases c with
   | true=>exact yM ⟨μ1,ρ,h1,r1,er1,p1⟩
   | false=>exact yL (p1.here r1 rfl)
  ·skip;refine PE.mono (z1a sb.pe (sr.orr e p se)) λ σ H Q=>z5 λ μ ρ h hr er q=>?_;refine z7 (m:=b.ev cl) hr er q λ d h1 μ1 H1 x _ e1 r1 er1 qa p1=>?_;cases qa with
   | bl c =>
    refine ⟨c,rfl,?_⟩;cases c with
    | true=>exact yM (p1.here r1 (.bl _))
    | false=>exact yL ⟨μ1,ρ,h1,r1,er1,p1⟩
   | _=>exact p1.elim
  ·skip;have hr2:e.okT=true/\r.okT=true:=by have hr':(_&&_)=true:=hr';simpa using hr'
   refine PW.mono (z19 (sb.pt hb) (sr.orT e p se hr2.1 hr2.2)) λ σ H Q=>z5 λ μ ρ h hr er q=>?_;refine z7 (m:=b.evT cl) (R:=RB) hr er q λ c h1 μ1 H1 x _ e1 r1 er1 qa p1=>?_;have qa':c=x:=qa;subst qa';cases c with
   | true=>exact yM (p1.here r1 rfl)
   | false=>exact yL ⟨μ1,ρ,h1,r1,er1,p1⟩
end
end
noncomputable def PostS (K:Y00)(cv:Nat->Value)(μ:List Addr)(H:Hp)(r:RS)(En:Ends)(Z:ZK):Prop :=
 match r with
 | .nx ρ h'=>∀ μ' H' σ',Ext K μ H μ' H'->HR K μ' h' H'->ER K μ' ρ σ' H'->En.nx σ' H'
 | .bk ρ h'=>∀ μ' H' σ',Ext K μ H μ' H'->HR K μ' h' H'->ER K μ' ρ σ' H'->En.bk σ' H'
 | .ct ρ h'=>∀ μ' H' σ',Ext K μ H μ' H'->HR K μ' h' H'->ER K μ' ρ σ' H'->En.ct σ' H'
 | .rt d h'=>∀ μ' H' v,Ext K μ H μ' H'->HR K μ' h' H'->Rep K μ' H' d v->En.rt v H'
 | .ex c ρ h'=>∀ μ' H' σ',Ext K μ H μ' H'->HR K μ' h' H'->ER K μ' ρ σ' H'->Z σ' (cv c) H'
 | .no=>False
noncomputable def yF (K:Y00)(cv:Nat->Value)(Z:ZK)(m:En->Hh->RS):TS:=λ En σ H=>∃ μ ρ h,HR K μ h H/\ER K μ ρ σ H/\PostS K cv μ H (m ρ h) En Z
theorem zB {K:Y00}{cv:Nat->Value}{Z:ZK}{m:En->Hh->RS}{En:Ends}{σ:St}{H:Hp}{G:Prop}(f:∀ μ ρ h,HR K μ h H->ER K μ ρ σ H->PostS K cv μ H (m ρ h) En Z->G)(x:yF K cv Z m En σ H):G:=by
 obtain ⟨μ,ρ,h,hr,er,q⟩:=x;exact f μ ρ h hr er q
theorem PostS.ext {K:Y00}{cv:Nat->Value}{μ μ1:List Addr}{H H1:Hp}{r:RS}{En:Ends}{Z:ZK}(p:PostS K cv μ H r En Z)(e:Ext K μ H μ1 H1):PostS K cv μ1 H1 r En Z:=by
 unfold PostS at p ⊢;cases r with
 | nx ρ h=>exact λ μ' H' σ' e1 r1 q1=>p μ' H' σ' (e.trans e1) r1 q1
 | bk ρ h=>exact λ μ' H' σ' e1 r1 q1=>p μ' H' σ' (e.trans e1) r1 q1
 | ct ρ h=>exact λ μ' H' σ' e1 r1 q1=>p μ' H' σ' (e.trans e1) r1 q1
 | rt d h=>exact λ μ' H' σ' e1 r1 q1=>p μ' H' σ' (e.trans e1) r1 q1
 | ex c ρ h=>exact λ μ' H' σ' e1 r1 q1=>p μ' H' σ' (e.trans e1) r1 q1
 | no=>exact p
theorem zW {α β:Type}{K:Y00}{cv:Nat->Value}{R:List Addr->Hp->α->β->Prop}{μ:List Addr}{ρ:En}{h:Hh}{σ:St}{H:Hp}{Z:ZK}{m:En->Hh->Res α}{f:α->Hh->RS}{En:Ends}{Q':β->Hp->Prop}
  (hr:HR K μ h H) (er:ER K μ ρ σ H) (p:PostS K cv μ H (jA ρ (m ρ h) f) En Z)
  (go:∀ a h1 μ1 H1 x,m ρ h=.ok a h1->Ext K μ H μ1 H1->HR K μ1 h1 H1->ER K μ1 ρ σ H1->R μ1 H1 a x->PostS K cv μ1 H1 (f a h1) En Z->Q' x H1) :
  zt K cv R Z m σ H Q':=by
 refine ⟨μ,ρ,h,hr,er,?_⟩;unfold jA at p;cases e:m ρ h with
 | ok a h1 =>
  rw [e] at p;exact λ μ1 H1 x e1 r1 q1=>go a h1 μ1 H1 x e e1 r1 (er.mono e1) q1 (PostS.ext p e1)
 | exc c h1 =>
  rw [e] at p;exact λ μ1 H1 e1 r1=>p μ1 H1 σ e1 r1 (er.mono e1)
 | no=>rw [e] at p;exact p
noncomputable def Xt.ok (sc:Scope)(n:Nm)(t:Xt):Bool:=gOf sc t.x&&!(t.x==("__debug__":Str))&&(match t.d with
 | some d=>n.G.any λ q=>q.1==t.x&&(match q.2 with | .exc d' _=>d'==d | _=>false)
 | none=>t.x==("ValueError":Str))
noncomputable def Xv.ok (sc:Scope)(n:Nm):Xv->Bool
 | .and a b r _=>a.ok sc n&&b.ok sc n&&r.all (Xt.ok sc n)
 | .lst ts _=>ts.all (Xt.ok sc n)&&decide (ts.length<=1000)
 | .one t=>t.ok sc n
structure XK' (X:Cx)(n:Nm)(cv:Nat->Value)(j:Nat):Prop where
 is:Gl X "isinstance"
 mi:X.mg "isinstance"=none
 mv:X.mg "ValueError"=none
 hj:X.N[j]?=some (n.N.getD j "")
 vi:Vis X.env.scope (n.N.getD j "")
 nd:(n.N.getD j ""==("__debug__":Str))=false
 nc:(n.N.getD j ""==("__classdict__":Str))=false
 gc:∀ x c u,(x,Cn.exc c u)∈n.G->∃ a,X.mg x=some (.ref a)/\cv c=.ref a
noncomputable def E.noC:E->Bool
 | .ofL (.comp _ _ _ _ _ _ _ _)=>false
 | _=>true
noncomputable def Fp.ok (n:Nm):Fp->Bool
 | .c _ _=>true
 | .r i _ _=>decide (i<n.N.length)
noncomputable def Ms.ok (n:Nm):Ms->Bool
 | .s _ _=>true
 | .f a b r _=>a.ok n&&b.ok n&&r.all (λ q=>q.ok n)
mutual
noncomputable def S.ok (sc:Scope)(n:Nm):S->Bool
 | .set i e _ _=>decide (i<n.N.length)&&e.ok sc n
 | .ret e _=>e.ok sc n
 | .iff c a b _=>c.ok sc n&&c.okT&&a.ok sc n&&b.ok sc n
 | .ex e _=>e.ok sc n&&e.noC
 | .put o i v _ _=>o.ok sc n&&i.ok sc n&&v.ok sc n
 | .forr t it b _=>t.okS n.N&&(it.ok sc n&&t.forI it)&&b.ok sc n
 | .whil c b _=>c.ok sc n&&c.okT&&b.ok sc n
 | .raw _=>true
 | .rep _ _ _ _ _ _=>false
noncomputable def Ss.ok (sc:Scope)(n:Nm):Ss->Bool
 | .nil=>true
 | .cons s r=>s.ok sc n&&r.ok sc n
end
theorem PS.mono {X:Cx}{e:Stmt}{t t':TS}(p:PS X e t)(h:∀ En σ H,t' En σ H->t En σ H):PS X e t':=λ pins s σ H En I q=>p pins s σ H En I (h En σ H q)
theorem PSs.mono {X:Cx}{e:List Stmt}{t t':TS}(p:PSs X e t)(h:∀ En σ H,t' En σ H->t En σ H):PSs X e t':=λ pins s σ H En I q=>p pins s σ H En I (h En σ H q)
structure KxS (X:Cx)(Z:ZK)(k:Nat)(n:Nm)(cv:Nat->Value)(cl:Nat->List D->Hh->Res D):Prop extends Kx X Z k n cv cl where
 lo:∀ x∈n.N,Loc X.env.scope x/\(X.fn x=true\/X.env.scope.names.lookup x=some .local)
theorem KxS.wish {X:Cx}{Z:ZK}{k:Nat}{n:Nm}{cv:Nat->Value}{cl:Nat->List D->Hh->Res D}(C:KxS X Z k n cv cl):KxS (X.wish (XE X Z)) Z k n cv cl :=
 ⟨⟨C.th.wished,C.rm,C.nN,C.nd,C.cm,C.kd,C.nm,C.bm,C.gc,C.fn,C.mc,C.xc⟩,C.lo⟩
section
variable {X:Cx}{Z:ZK}{k:Nat}{n:Nm}{cv:Nat->Value}{cl:Nat->List D->Hh->Res D}
theorem wN (e:E)(h:e.noC=true)(t:Option Expr)(l:Nat)(env:Env):swapsWith (e.py n) t l env=pure false:=by
 cases e with
 | ofL l =>
  cases l with
  | disp es p=>rfl
  | comp=>cases h
 | _=>rfl
theorem Yo (o i : E)(p1 : Pos)(env : Env) : ∀ v, assign (.Subscript (o.py n) (i.py n) p1) env v = (do
      let ov <- holding [v] (eval (o.py n) env)
      let iv <- holding [v,ov] (eval (i.py n) env)
      standAt p1
      holding [v,ov,iv] (setItem ov iv v)
      release [v,ov,iv] []):=by
  intro v;generalize o.py n=oo;cases i with
  | ofL l=>cases l<;>(rfl)
  | _=>rfl
theorem Yp (o i e:E)(p1:Pos)(l:Nat)(env:Env):swapsWithSole [.Subscript (o.py n) (i.py n) p1] (e.py n) l env=pure false:=by
 generalize o.py n=oo;generalize i.py n=ii;cases e with
 | ofL l=>cases l<;>(rfl)
 | _=>rfl
theorem Wn (o i e:E)(p1:Pos)(env:Env):swappedStores [.Subscript (o.py n) (i.py n) p1] (e.py n) env=pure none:=by
 generalize o.py n=oo;generalize i.py n=ii;cases e with
 | ofL l=>cases l<;>(rfl)
 | _=>rfl
theorem Yq {c:E}{b:Ss}{p:Pos}{En:Ends}{σ:St}{H:Hp}{μ:List Addr}{ρ:PI.En}{h:Hh}(hr:HR X.K μ h H)(er:ER X.K μ ρ σ H)(q:PostS X.K cv μ H ((S.whil c b p).run cl ρ h) En Z) :
  QS (zt X.K cv RB Z (c.evT cl)) (yF X.K cv Z (b.run cl)) En σ H:=by
 have q:PostS X.K cv μ H (whR (λ ρ' h'=>c.evT cl ρ' h') (λ ρ' h'=>b.run cl ρ' h') ρ h) En Z:=q;have nz:whR (λ ρ' h'=>c.evT cl ρ' h') (λ ρ' h'=>b.run cl ρ' h') ρ h≠.no:=λ z=>by rw [z] at q;exact q
 obtain ⟨n0,e0⟩:=Wg nz;rw [<- e0] at q;refine ⟨λ m σ H=>∃ μ ρ h,HR X.K μ h H/\ER X.K μ ρ σ H/\PostS X.K cv μ H (whL (λ ρ' h'=>c.evT cl ρ' h') (λ ρ' h'=>b.run cl ρ' h') m ρ h) En Z,⟨n0,μ,ρ,h,hr,er,q⟩,?_⟩
 rintro m σ1 H1 ⟨μ1,ρ1,h1,hr1,er1,q1⟩
 cases m with
 | zero=>exact q1.elim
 | succ m =>
  rw [whL] at q1;refine ⟨μ1,ρ1,h1,hr1,er1,?_⟩;cases ec:c.evT cl ρ1 h1 with
  | ok t h2 =>
   rw [ec] at q1;intro μ2 H2 x e2 r2 hx;have hx':t=x:=hx;subst hx';cases t with
   | false=>exact yL (q1 μ2 H2 σ1 e2 r2 (er1.mono e2))
   | true =>
    refine yM ⟨λ σ' H'=>∃ μ ρ h,HR X.K μ h H'/\ER X.K μ ρ σ' H'/\PostS X.K cv μ H' (whL (λ ρ' h'=>c.evT cl ρ' h') (λ ρ' h'=>b.run cl ρ' h') m ρ h) En Z,λ σ' H' z=>⟨m,Y2d m,z⟩,μ2,ρ1,h2,r2,er1.mono e2,?_⟩;simp only at q1;have q2:=PostS.ext q1 e2;cases eb:b.run cl ρ1 h2 with
    | nx ρ4 h4=>simp only [eb] at q2;exact λ μ4 H4 σ4 e4 r4 er4=>⟨μ4,ρ4,h4,r4,er4,PostS.ext q2 e4⟩
    | ct ρ4 h4=>simp only [eb] at q2;exact λ μ4 H4 σ4 e4 r4 er4=>⟨μ4,ρ4,h4,r4,er4,PostS.ext q2 e4⟩
    | bk ρ4 h4=>simp only [eb] at q2;exact q2
    | rt d h4=>simp only [eb] at q2;exact q2
    | ex c' ρ4 h4=>simp only [eb] at q2;exact q2
    | no=>simp only [eb] at q2;exact q2
  | exc k h2 =>
   rw [ec] at q1;exact λ μ2 H2 e2 r2=>q1 μ2 H2 σ1 e2 r2 (er1.mono e2)
  | no=>rw [ec] at q1;exact q1
theorem Vn {c:Expr}{body:List Stmt}{tc:TT}{tb:TS}{pos:Pos}(th:Thr X Z)(hc:PT (X.wish (XE X Z)) c tc)(hb:PSs (X.wish (XE X Z)) body tb):PS X (.While c body [] pos) (QS tc tb):=by
 intro pins s σ H D I h;refine wpAny_mono (G1 (X:=X.wish (XE X Z)) (JD th.toXOk) hc hb pins s σ H D (I.wish _) h) (λ f s' q=>q.unwish) λ e s' x=>th.thr e s' x
theorem GT {t:Tg}{it:I}{b:Ss}{En:Ends}{σ:St}{H:Hp}{μ:List Addr}{ρ:PI.En}{h:Hh}(hr:HR X.K μ h H)(er:ER X.K μ ρ σ H)(q:PostS X.K cv μ H ((S.forr t it b p).run cl ρ h) En Z) :
  z2i (zt X.K cv (RJ X.K) Z (it.ev cl)) (gB X.K t) (yF X.K cv Z (b.run cl)) En σ H:=by
 refine zW (m:=it.ev cl) hr er q λ qq h1 μ1 H1 J _ e1 r1 er1 src p1=>?_;obtain ⟨c,ds⟩:=qq;refine ⟨λ i m σ' H'=>m=ds.length-i/\i<=ds.length/\∃ μ2 ρ2 h2,Ext X.K μ1 H1 μ2 H'/\HR X.K μ2 h2 H'/\ER X.K μ2 ρ2 σ' H'/\PostS X.K cv μ2 H' (zZ c (jd t λ ρ' h'=>b.run cl ρ' h') (ds.drop i) ρ2 h2) En Z,
  ⟨ds.length,by simp,Y1u _,μ1,ρ,h1,Ext.refl,r1,er1,p1⟩,?_⟩
 rintro i m σ' H' ⟨rfl,hi,μ2,ρ2,h2,e2,r2,er2,p2⟩
 by_cases hlt:i<ds.length
 ·right;rw [List.drop_eq_getElem_cons hlt] at p2;unfold zZ at p2;split at p2;rotate_left
  ·exact p2.elim
  rename_i st;obtain ⟨s1,s2⟩:=src μ2 h2 H' e2 r2 st;obtain ⟨g1,g2⟩:=s1 i ds[i] (Y0m hlt);refine ⟨g1,λ σ3 H3=>ds.length-(i+1)=ds.length-(i+1)/\i+1<=ds.length/\∃ μ3 ρ3 h3,Ext X.K μ1 H1 μ3 H3/\HR X.K μ3 h3 H3/\ER X.K μ3 ρ3 σ3 H3/\PostS X.K cv μ3 H3 (zZ c (jd t λ ρ' h'=>b.run cl ρ' h') (ds.drop (i+1)) ρ3 h3) En Z,
   λ σ3 H3 z=>⟨ds.length-(i+1),by omega,z⟩,λ x H3 y=>?_⟩
  obtain ⟨e2',r2',rx⟩:=g2 x H3 y;replace p2:=PostS.ext p2 e2';replace e2:=e2.trans e2';replace r2:=r2';replace er2:=er2.mono e2';unfold jd at p2;cases eb:wM t ds[i] ρ2 with
  | none=>rw [eb] at p2;exact p2.elim
  | some ρ3 =>
   rw [eb] at p2;refine ⟨μ2,ρ2,ds[i],ρ3,h2,r2,er2,rx,eb,λ σ3 er3 _ _=>⟨μ2,ρ3,h2,r2,er3,?_⟩⟩;cases eo:b.run cl ρ3 h2 with
   | nx ρ4 h4 =>
    simp only [eo] at p2;exact λ μ4 H4 σ4 e4 r4 er4=>⟨rfl,hlt,μ4,ρ4,h4,e2.trans e4,r4,er4,PostS.ext p2 e4⟩
   | ct ρ4 h4 =>
    simp only [eo] at p2;exact λ μ4 H4 σ4 e4 r4 er4=>⟨rfl,hlt,μ4,ρ4,h4,e2.trans e4,r4,er4,PostS.ext p2 e4⟩
   | bk ρ4 h4=>simp only [eo] at p2;exact p2
   | rt d h4=>simp only [eo] at p2;exact p2
   | ex c' ρ4 h4=>simp only [eo] at p2;exact p2
   | no=>simp only [eo] at p2;exact p2
 ·left;have ei:i=ds.length:=by omega
  subst ei;rw [List.drop_length] at p2;unfold zZ at p2;split at p2;rotate_left
  ·exact p2.elim
  rename_i st;exact ⟨(src μ2 h2 H' e2 r2 st).2,p2 μ2 H' σ' Ext.refl r2 er2⟩
mutual
theorem sS:∀ (s:S) (X:Cx) (Z:ZK) (k:Nat) (n:Nm) (cv:Nat->Value) (cl:Nat->List D->Hh->Res D),KxS X Z k n cv cl->s.ok X.env.scope n=true->PS X (s.py n) (yF X.K cv Z (s.run cl))
 | .set i e p1 p,X,Z,k,n,cv,cl,C,h=>by
  have h':i<n.N.length/\e.ok X.env.scope n=true:=by have h:(_&&_)=true:=h;simpa using h
  have hm:=C.lo _ (qR (d:=("":Str)) h'.1);have hN:X.N[i]?=some (n.N.getD i ""):=by rw [C.nN];exact getD_some h'.1
  have plain:swapsWith (e.py n) (some (.Name (n.N.getD i "") p1)) p.line X.env=pure false->PS X ((S.set i e p1 p).py n) (yF X.K cv Z ((S.set i e p1 p).run cl)):=λ hs=>by
   have se:=sE e X Z k n cv cl C.toKx h'.2;refine PS.mono (z2h (i:=i) C.nd hN hm.1 se.pe hs hm.2) λ En σ H=>zB λ μ ρ h hr er q=>?_;refine zW (m:=e.ev cl) hr er q λ d h1 μ1 H1 x _ e1 r1 er1 qa p1=>?_;exact p1 μ1 H1 _ Ext.refl r1 (er1.set qa i)
  cases hn:e.noC with
  | true=>exact plain (wN e hn _ _ _)
  | false =>
   cases e with
   | ofL l =>
    cases l with
    | disp es pp=>cases hn
    | comp elt t it c NC cap csc pp =>
     have hL:(L.comp elt t it c NC cap csc pp).ok X.env.scope n=true:=by exact h'.2
     obtain ⟨b,eb,hb⟩:∃ b,swapsWith ((E.ofL (.comp elt t it c NC cap csc pp)).py n) (some (.Name (n.N.getD i "") p1)) p.line X.env=pure b/\(b=true->X.env.scope.names.lookup (n.N.getD i "")=some .local):=by
      refine ⟨_,by rfl,λ z=>?_⟩;simp only [Y0g,beq_iff_eq] at z;exact z.1.1.2
     cases b with
     | false=>exact plain eb
     | true =>
      obtain ⟨k1,k2,k3,k4,k5,k6,k7,k8,k9⟩:=Uq C.toKx hL;have hit:=sI it X Z k n cv cl C.toKx k1.1 t k1.2 NC;have hff:∀ Cc s H fp pn xe Zc,Thr (zo X NC csc Cc s H fp pn xe) Zc->PF (zo X NC csc Cc s H fp pn xe) (c.py ⟨NC,n.F,n.G⟩) (zt X.K cv RB Zc (c.evC cl)):=λ Cc s H fp pn xe Zc th=>by
       have Cc':=C.toKx.comp k2 k3 k4 th;cases c with
       | nil=>exact Ur
       | cons e r =>
        cases r with
        | cons _ _=>cases k9
        | nil =>
         have se:=sE e _ Zc k ⟨NC,n.F,n.G⟩ cv cl Cc' (by have k7:(_&&_)=true:=k7;simp at k7;exact k7.1);have ht:=se.pt (by have k8:(_&&_)=true:=k8;simp at k8;exact k8.1);exact Gj ht
      have key:=BB (X:=X) (i:=i) (cap:=cap) (pos:=pp) (pos':=p1) (spos:=p) (g:=gB X.K t) (tf:=λ Zc=>zt X.K cv RB Zc (c.evC cl)) (te:=λ Zc=>zt X.K cv (Rep X.K) Zc (elt.ev cl)) C.cm C.th hit k2 (λ Cc s H fp pn xe=>Us C.kd k2 k3 k5) hff
       (λ Cc s H fp pn xe Zc th=>(sE elt _ Zc k ⟨NC,n.F,n.G⟩ cv cl (C.toKx.comp k2 k3 k4 th) k6).pe) (qA it) C.nd hN (hb rfl) eb
      refine PS.mono key λ En σ H=>zB λ μ ρ h hr er q=>JL k2 k5 ⟨μ,ρ,h,hr,er,?_⟩;have q:PostS X.K cv μ H (jA ρ (((L.comp elt t it c NC cap csc pp).ev cl ρ h).bind λ xs h1=>new (.lst xs) h1) λ d h1=>.nx (ρ.set i (some d)) h1) En Z:=q;show PostE X.K cv (RL X.K H) μ H ((L.comp elt t it c NC cap csc pp).ev cl ρ h) _ (Z σ);cases el:(L.comp elt t it c NC cap csc pp).ev cl ρ h with
      | ok ds h1 =>
       rw [el] at q;intro μ1 H1 x e1 r1 ⟨pa,vs,ex,g1,g2,g3,g4⟩;subst ex;have er1:ER X.K (μ1++[pa]) ρ σ H1:=er.mono (e1.add g4);refine q (μ1++[pa]) H1 _ (e1.add g4) (r1.add g3 λ μ' gr=>⟨vs,g1,g2.mono' gr⟩) (er1.set (.loc ?_) i);rw [<- r1.len,Y0w (Y09 _),Y23];rfl
      | exc cc h1=>rw [el] at q;exact λ μ1 H1 e1 r1=>q μ1 H1 σ e1 r1 (er.mono e1)
      | no=>rw [el] at q;exact q
   | _=>cases hn
 | .ret e p,X,Z,k,n,cv,cl,C,h=>by
  have se:=sE e X Z k n cv cl C.toKx (by exact h);refine PS.mono (z2c se.pe) λ En σ H=>zB λ μ ρ h hr er q=>?_;refine zW (m:=e.ev cl) hr er q λ d h1 μ1 H1 x _ e1 r1 er1 qa p1=>?_;exact p1 μ1 H1 x Ext.refl r1 qa
 | .iff c a b p,X,Z,k,n,cv,cl,C,h=>by
  have h':((c.ok X.env.scope n=true/\c.okT=true)/\a.ok X.env.scope n=true)/\b.ok X.env.scope n=true:=by have h:(_&&_)=true:=h;simpa using h
  have sc:=sE c X Z k n cv cl C.toKx h'.1.1.1;have sa:=sSs a X Z k n cv cl C h'.1.2;have sb:=sSs b X Z k n cv cl C h'.2;refine PS.mono (z5d (sc.pt h'.1.1.2) sa sb) λ En σ H=>zB λ μ ρ h hr er q=>?_;refine zW (m:=c.evT cl) (R:=RB) hr er q λ t h1 μ1 H1 x _ e1 r1 er1 qa p1=>?_;have qa':t=x:=qa;subst qa';cases t with
  | true=>exact yM ⟨μ1,ρ,h1,r1,er1,p1⟩
  | false=>exact yL ⟨μ1,ρ,h1,r1,er1,p1⟩
 | .ex e p,X,Z,k,n,cv,cl,C,h=>by
  have h':e.ok X.env.scope n=true/\e.noC=true:=by have h:(_&&_)=true:=h;simpa using h
  have se:=sE e X Z k n cv cl C.toKx h'.1;refine PS.mono (B6 se.pe (wN e h'.2 _ _ _)) λ En σ H=>zB λ μ ρ h hr er q=>?_;refine zW (m:=e.ev cl) hr er q λ d h1 μ1 H1 x _ e1 r1 er1 qa p1=>?_;exact p1 μ1 H1 _ Ext.refl r1 er1
 | .put o i v p1 p,X,Z,k,n,cv,cl,C,h=>by
  have h':(o.ok X.env.scope n=true/\i.ok X.env.scope n=true)/\v.ok X.env.scope n=true:=by have h:(_&&_)=true:=h;simpa using h
  have so:=sE o X Z k n cv cl C.toKx h'.1.1;have si:=sE i X Z k n cv cl C.toKx h'.1.2;have sv:=sE v X Z k n cv cl C.toKx h'.2;refine PS.mono (z2g sv.pe (z2f so.pe si.pe (GN (z1f C.rm)) (Yo o i p1 _)) (Yp o i v p1 _ _) (Wn o i v p1 _) rfl) λ En σ H=>zB λ μ ρ h hr er q=>?_;refine zW (m:=v.ev cl) hr er q λ z h1 μ1 H1 x _ e1 r1 er1 qz p1=>?_;refine zW (m:=o.ev cl) r1 er1 p1 λ a h2 μ2 H2 y _ e2 r2 er2 qa p2=>?_;refine zW (m:=i.ev cl) r2 er2 p2 λ b h3 μ3 H3 w _ e3 r3 er3 qb p3=>?_;cases e:Q5 a b z h3 with
  | none=>rw [e] at p3;exact p3.elim
  | some h4 =>
   rw [e] at p3;exact ⟨μ3,h3,a,b,z,h4,r3,qa.mono e3,qb,(qz.mono e2).mono e3,e,λ μ4 H4 e4 r4=>p3 μ4 H4 σ e4 r4 (er3.mono e4)⟩
 | .forr t it b p,X,Z,k,n,cv,cl,C,h=>by
  have h':(t.okS n.N=true/\it.ok X.env.scope n=true/\t.forI it=true)/\b.ok X.env.scope n=true:=by have h:(_&&_)=true:=h;simpa using h
  have hi:=sI it _ Z k n cv cl C.wish.toKx h'.1.2.1 t h'.1.2.2 n.N;have hb:=sSs b _ Z k n cv cl C.wish h'.2;have hg:PG (X.wish (XE X Z)) (t.py n.N) (gB X.K t):=by
   have z:=z60 (X:=X.wish (XE X Z)) C.cm C.nd t λ i hi=>by
    have h1:=Y11.mp h'.1.1 i hi;have hl:i<n.N.length:=of_decide_eq_true h1;have hm:=C.lo _ (qR (d:=("":Str)) hl);have eN:(X.wish (XE X Z)).N=n.N:=C.nN;rw [eN];exact ⟨hl,hm⟩
   rw [show (X.wish (XE X Z)).N=n.N from C.nN] at z;exact z
  exact PS.mono (BA C.th C.cm hi hg hb (qA it)) λ En σ H=>zB λ μ ρ h hr er q=>GT (p:=p) hr er q
 | .whil c b p,X,Z,k,n,cv,cl,C,h=>by
  have h':(c.ok X.env.scope n=true/\c.okT=true)/\b.ok X.env.scope n=true:=by have h:(_&&_)=true:=h;simpa using h
  have sc:=sE c _ Z k n cv cl C.wish.toKx h'.1.1;have hb:=sSs b _ Z k n cv cl C.wish h'.2;exact PS.mono (Vn C.th (sc.pt h'.1.2) hb) λ En σ H=>zB λ μ ρ h hr er q=>Yq (p:=p) hr er q
 | .raw st,X,Z,k,n,cv,cl,C,h=>by
  refine λ pins s σ H En I q=>?_;obtain ⟨μ,ρ,h,hr,er,q⟩:=q;exact q.elim
 | .rep _ _ _ _ _ _,X,Z,k,n,cv,cl,C,h=>by cases h
theorem sSs:∀ (s:Ss) (X:Cx) (Z:ZK) (k:Nat) (n:Nm) (cv:Nat->Value) (cl:Nat->List D->Hh->Res D),KxS X Z k n cv cl->s.ok X.env.scope n=true->PSs X (s.py n) (yF X.K cv Z (s.run cl))
 | .nil,X,Z,k,n,cv,cl,C,_=>by
  refine PSs.mono B5 λ En σ H=>zB λ μ ρ h hr er q=>?_;exact q μ H σ Ext.refl hr er
 | .cons s r,X,Z,k,n,cv,cl,C,h=>by
  have h':s.ok X.env.scope n=true/\r.ok X.env.scope n=true:=by have h:(_&&_)=true:=h;simpa using h
  have ss:=sS s X Z k n cv cl C h'.1;have sr:=sSs r X Z k n cv cl C h'.2;refine PSs.mono (VZ ss sr) λ En σ H=>zB λ μ ρ h hr er q=>?_;have q:PostS X.K cv μ H (w9 (s.run cl ρ h) λ ρ' h'=>r.run cl ρ' h') En Z:=q;refine ⟨μ,ρ,h,hr,er,?_⟩;cases e:s.run cl ρ h with
  | nx ρ' h1 =>
   rw [e] at q;exact λ μ1 H1 σ1 e1 r1 er1=>⟨μ1,ρ',h1,r1,er1,PostS.ext q e1⟩
  | bk ρ' h1=>rw [e] at q;exact q
  | ct ρ' h1=>rw [e] at q;exact q
  | rt d h1=>rw [e] at q;exact q
  | ex c ρ' h1=>rw [e] at q;exact q
  | no=>rw [e] at q;exact q
end
end
section
variable {X:Cx}{Z:ZK}{k:Nat}{n:Nm}{cv:Nat->Value}{cl:Nat->List D->Hh->Res D}
noncomputable def okR (sc:Scope)(n:Nm):Ss->Bool
 | .cons (.rep i j _ rs _ _) r=>decide (i<n.N.length)&&decide (j<n.N.length)&&rs.all (λ r=>!(r.c==r.d)&&(r.pa.endLine==r.p.line))&&r.ok sc n
 | _=>false
noncomputable def okD (b:Ss)(sc:Scope)(n:Nm)(ps:List Str):Bool:=b.ok sc n||(okR sc n b&&!ps.isEmpty&&sc.names.all λ y=>y.2 != .cell)
noncomputable def GU (t:TE):List Rp->TE
 | []=>t
 | r::rs=>GU (Ud t r.c r.d) rs
theorem Qe:∀ (rs:List Rp) {e:Expr}{t:TE},PET X e t->attributeBase e "replace" X.env (eval e X.env)=eval e X.env->(rs.all λ r=>!(r.c==r.d)&&(r.pa.endLine==r.p.line))=true->PET X (rs.foldl Rp.py e) (GU t rs)
 | [],_,_,he,_,_=>he
 | r::rs,e,t,he,hb,h=>by
  rw [Y26,Y0g,Y0g] at h;refine Qe rs (e:=Rp.py e r) (t:=Ud t r.c r.d) (Q0 he (by have:=h.1.1;simpa using this) hb rfl h.1.2) rfl h.2
theorem Ut {σ:St}{H:Hp}{μ:List Addr}{h:Hh}:∀ (rs:List Rp) {z z':Str}{t:TE},Zq rs z=some z'->(∀ Q:VK,(∀ μ' H',Ext X.K μ H μ' H'->HR X.K μ' h H'->Q (.str z) H')->t σ H Q)->∀ Q:VK,(∀ μ' H',Ext X.K μ H μ' H'->HR X.K μ' h H'->Q (.str z') H')->GU t rs σ H Q
 | [],z,z',t,e,ht,Q,q=>by cases e;exact ht Q q
 | r::rs,z,z',t,e,ht,Q,q=>by
  unfold Zq at e;split at e
  ·rename_i c;exact Ut rs (t:=Ud t r.c r.d) e (λ Q' q'=>ht _ λ μ' H' ex hr=>⟨z,rfl,c,q' μ' H' ex hr⟩) Q q
  ·cases e
theorem Zy:∀ (rs:List Rp) (e:Expr) (o:Option Expr) (l:Nat) (env:Env),(∀ o l,swapsWith e o l env=pure false)->swapsWith (rs.foldl Rp.py e) o l env=pure false
 | [],e,o,l,env,h=>h o l
 | r::rs,e,o,l,env,h=>Zy rs (Rp.py e r) o l env λ _ _=>rfl
theorem PSsT.mono {st:List Stmt}{t u:TS}(h:PSsT X st t)(g:∀ D σ H,u D σ H->t D σ H):PSsT X st u:=λ pins s σ H D I h0 q=>h pins s σ H D I h0 (g D σ H q)
theorem sR (C:KxS X Z k n cv cl):∀ (b:Ss),okR X.env.scope n b=true->PSsT X (b.py n) (yF X.K cv Z (b.run cl))
 | .cons (.rep i j p0 rs p1 p) r,h=>by
  have h:(_&&_)=true:=h;simp only [Y0g,decide_eq_true_eq] at h;obtain ⟨⟨⟨h1,h2⟩,h3⟩,h4⟩:=h;have hm:=C.lo _ (qR (d:=("":Str)) h1);have hN:X.N[i]?=some (n.N.getD i ""):=by rw [C.nN];exact getD_some h1
  have se:=sE (.var j p0) X Z k n cv cl C.toKx (decide_eq_true h2);have sr:=sSs r X Z k n cv cl C h4;have hp:=Qe rs (PE.pet se.pe) (jm (.var j p0) _ _) h3;refine PSsT.mono (V5 (Bu (i:=i) C.nd hN hm.1 hp (Zy rs _ _ _ _ λ o l=>wN (.var j p0) rfl _ _ _) hm.2) sr) λ En σ H=>zB λ μ ρ h hr er q=>?_;have q:PostS X.K cv μ H (w9 (match ρ[j]? with | some (some (.str z))=>(match Zq rs z with | some z'=>.nx (ρ.set i (some (.str z'))) h | none=>.no) | _=>.no) λ ρ' h'=>r.run cl ρ' h') En Z:=q
  cases e1:ρ[j]? with
  | none=>rw [e1] at q;exact q.elim
  | some o =>
   cases o with
   | none=>rw [e1] at q;exact q.elim
   | some d =>
    cases d with
    | str z =>
     cases e2:Zq rs z with
     | none=>simp only [e1,e2] at q;exact q.elim
     | some z' =>
      simp only [e1,e2] at q;refine Ut (X:=X) (μ:=μ) (h:=h) rs e2 (λ Q q'=>⟨μ,ρ,h,hr,er,?_⟩) _ λ μ' H' ex hr'=>⟨μ',ρ.set i (some (.str z')),h,hr',(er.mono ex).set (.str z') i,PostS.ext q ex⟩;show PostE X.K cv (Rep X.K) μ H (match ρ[j]? with | some (some d)=>.ok d h | _=>.no) Q (Z σ)
      rw [e1];intro μ' H' v ex hr' rv;cases rv;exact q' μ' H' ex hr'
    | _=>rw [e1] at q;exact q.elim
 | .nil,h=>by cases h
 | .cons (.set _ _ _ _) _,h=>by cases h
 | .cons (.ret _ _) _,h=>by cases h
 | .cons (.iff _ _ _ _) _,h=>by cases h
 | .cons (.ex _ _) _,h=>by cases h
 | .cons (.put _ _ _ _ _) _,h=>by cases h
 | .cons (.forr _ _ _ _) _,h=>by cases h
 | .cons (.whil _ _ _) _,h=>by cases h
 | .cons (.raw _) _,h=>by cases h
end
structure DefOk (st:Stmt)(d:Df)(F:List Str)(G:List (Str×Cn))(nm q:Str):Prop where
 body:zR st=d.body.py ⟨d.N,F,G⟩
 sc:FnScope d.N d.ps (zd st)
 ok:okD d.body (zd st) ⟨d.N,F,G⟩ d.ps=true
 nms:∀ x∈d.N,((zd st).names.lookup x=some .local\/(zd st).names.lookup x=some .cell)/\yE x=true
 bd:∀ (kV doc pm:Value) (an:Option Addr) (cdv ct:Value) (us:List Value),us.length=d.ps.length ->
  bindArgs (PySem.W.fnOf nm q (jo st) (zR st) (zd st) .none kV doc pm an cdv ct) ⟨us,[]⟩=pure (d.ps.zip us)
structure Tab (P:Program)(w:World)(K:Y00)(mg:Str->Option Value)(ds:List Df)(G:List (Str×Cn)):Prop where
 bm:∀ x,x∈Wk->mg x=none
 gc:∀ x c,(x,c)∈G->(x==("__debug__":Str))=false/\∃ v,mg x=some v/\BT P w K v c
 fn:∀ (i:Nat) d,ds[i]?=some d->(G.any λ q=>decide (q.2=Cn.cls i))=false->(d.name==("__debug__":Str))=false/\∃ st f fd,mg d.name=some (.ref f)/\PySem.W.nsIn K mainGlobals d.name=some (some (.ref f))/\Fun K d.name d.name st f fd/\DefOk st d (ds.map (·.name)) G d.name d.name
 mc:∀ x i,(x,Cn.cls i)∈G->(x==("__debug__":Str))=false/\∃ d st C f fd nm q,ds[i]?=some d/\mg x=some (.ref C)/\Mk K C f/\ClsN K x C/\Fun K nm q st f fd/\DefOk st d (ds.map (·.name)) G nm q
theorem GV {K:Y00}{μ:List Addr}{H:Hp}{as:List D}{vs:List V}(N:List Str)(r:Reps K μ H as vs):ER K μ (as.map some++List.replicate (N.length-as.length) none) (L2.start N vs) H:=by
 unfold L2.start;refine ⟨by simp [r.length],λ i d h=>?_⟩;rw [List.getElem?_append] at h ⊢;rw [Y0c] at h ⊢;rw [<- r.length];split at h
 ·rename_i c;rw [if_pos c];rw [Y13] at h ⊢;cases e:as[i]? with
  | none=>rw [e] at h;cases h
  | some a =>
   rw [e] at h;cases h;obtain ⟨v,e1,e2⟩:=r.get e;rw [e1];exact ⟨v,rfl,e2⟩
 ·exfalso
  rw [List.getElem?_replicate] at h;split at h<;>cases h
theorem JM {ds:List Df}{k i:Nat}{d:Df}(hd:ds[i]?=some d):∀ as h,callI ds k i as h≠.no->as.length=d.ps.length:=by
 intro as h q;cases k with
 | zero=>exact absurd rfl q
 | succ k =>
  unfold callI at q;rw [hd] at q;by_cases c:as.length=d.ps.length
  ·exact c
  ·exact absurd (if_neg c) q
section
variable {P:Program}{w:World}{K:Y00}{mg:Str->Option Value}{base:Heap}{ds:List Df}{G:List (Str×Cn)}{cv:Nat->Value}
noncomputable def z1n (K:Y00)(mg:Str->Option Value)(cv:Nat->Value)(G:List (Str×Cn)):Prop:=∀ x c u,(x,Cn.exc c u)∈G->mg x=some (cv c)/\(∀ D∈u,∃ a d,cv c=.ref a/\cv D=.ref d/\Gm K a d)/\∃ a,cv c=.ref a/\TstK K G cv a u
noncomputable def z63:Cn->Bool
 | .exc _ _=>true
 | _=>false
theorem z3n (h:(G.all λ q=>!z63 q.2)=true):z1n K mg cv G:=λ x c u hm=>by
 have:=Y11.mp h _ hm
 cases this
theorem Yr (T:Tab P w K mg ds G)(XC:z1n K mg cv G):∀ (k i:Nat) (d:Df) (nm qn:Str) (st:Stmt) (f:Addr) (fd:FuncData),ds[i]?=some d->Fun K nm qn st f fd->DefOk st d (ds.map (·.name)) G nm qn ->
  FnOk P w K mg base (CXs P w) (2*k) f fd d.ps (spI K cv d.ps.length (callI ds k i))
 | 0,i,d,nm,qn,st,f,fd,hd,F,o=>by
  have no:∀ vs H Q E,¬ spI K cv d.ps.length (callI ds 0 i) vs H Q E:=λ vs H Q E ⟨_,_,_,_,_,_,z⟩=>z;exact ⟨λ vs H Q E h=>absurd h (no vs H Q E),λ A outer s H args us vs Q E _ _ _ _ h=>absurd h (no vs H Q E)⟩
 | k+1,i,d,nm,qn,st,f,fd,hd,F,o=>by
  have KC:∀ (cdv:Value) (A:Around) (outer:List Env) (s:Shared) (H:Hp) (E:XK),Room (2*k+1) (A.deeper (envOfC qn (zd st) s.heap.objs.size f cdv))->KxS (qL (CXs P w) P w K mg base d.N qn (zd st) f cdv A outer s H E) (λ _ C H'=>E C none H') k ⟨d.N,ds.map (·.name),G⟩ cv (callI ds k):=λ cdv A outer s H E hr=>by
   refine ⟨⟨Bp,hr,rfl,o.sc.nd,rfl,o.sc.kind,λ x hx=>⟨(o.nms x hx).1.elim .inl λ z=>.inr (.inl z),(o.nms x hx).2⟩,T.bm,T.gc,λ j x hj hnc=>?_,λ x j hx=>?_,λ x c u hm=>XC x c u hm⟩,λ x hx=>⟨(o.nms x hx).1,.inl rfl⟩⟩;rotate_left
   ·obtain ⟨h1,d',st',C',f',fd',nm',q',e',m',M',N',F',o'⟩:=T.mc x j hx;exact ⟨h1,C',f',fd',d'.ps,m',M',N',F'.binds o'.bd,JM e',Yr T XC k j d' nm' q' st' f' fd' e' F' o'⟩
   have hj':(ds.map (·.name))[j]?=some x:=hj;rw [Y13] at hj';cases e:ds[j]? with
   | none=>rw [e] at hj';cases hj'
   | some d' =>
    rw [e] at hj';cases hj';obtain ⟨h1,st',f',fd',m',s',F',o'⟩:=T.fn j d' e hnc;exact ⟨h1,f',fd',d'.ps,m',s',F'.kp,F'.binds o'.bd,JM e,Yr T XC k j d' _ _ st' f' fd' e F' o'⟩
  have fin:∀ {H:Hp}{vs:List V}{Q:VK}{E:XK},spI K cv d.ps.length (callI ds (k+1) i) vs H Q E->yF K cv (λ _ C H'=>E C none H') (d.body.run (callI ds k)) { nx:=λ _ H'=>Q .non H',rt:=Q } (L2.start d.N vs) H:=λ {H vs Q E} h=>by
   obtain ⟨hl,μ,h,as,hH,hv,p⟩:=h;refine ⟨μ,_,h,hH,GV d.N hv,?_⟩;have c:as.length=d.ps.length:=by rw [hv.length];exact hl
   rw [z8 hd c] at p;have p1:=p;unfold Df.run qy at p1;cases e:d.body.run (callI ds k) (as.map some++List.replicate (d.N.length-as.length) none) h with
   | nx ρ h1=>rw [e] at p1;exact λ μ1 H1 σ1 e1 r1 er1=>p1 μ1 H1 .non e1 r1 .non
   | rt v h1=>rw [e] at p1;exact p1
   | ex c ρ h1=>rw [e] at p1;exact λ μ1 H1 σ1 e1 r1 er1=>p1 μ1 H1 e1 r1
   | bk ρ h1=>rw [e] at p1;exact p1.elim
   | ct ρ h1=>rw [e] at p1;exact p1.elim
   | no=>rw [e] at p1;exact p1.elim
  have ok:(_||_)=true:=o.ok;rcases Bool.or_eq_true_iff.mp ok with ok | ok
  ·exact F.okX o.sc (λ vs H Q E h=>h.1) λ cdv A outer s H vs Q E hr h=>⟨_,by rw [o.body];exact sSs d.body _ _ _ _ _ _ (KC cdv A outer s H E hr) ok,fin h⟩
  ·simp only [Y0g,Y2p,List.isEmpty_eq_false_iff] at ok;refine F.okT o.sc (λ y hy z=>?_) ok.1.2 (λ vs H Q E h=>h.1) λ cdv A outer s H vs Q E hr h=>⟨_,by rw [o.body];exact sR (KC cdv A outer s H E hr) d.body ok.1.1,fin h⟩
   have:=Y11.mp ok.2 y hy
   rw [z] at this;exact absurd this (by decide)
end
noncomputable def Wo (w:World)(K:Y00):List DictEntry->List (Str×Cv)->Prop
 | [],[]=>True
 | e::r,kx::s=>(e.hash=hashStr w kx.1/\(∃ t,e.key=.str kx.1 t)/\CvOk K e.val kx.2)/\Wo w K r s
 | _,_=>False
theorem tupK_mk {K:Y00}{a:Addr}{d:Option Addr}{its:Array Value}{n:Nat}{sl:Array (Option Value)}{xs:List Str} (l:K.lookup a=some ⟨.type "tuple",d,.seq its n,sl⟩) (z:its.size<=sizeLine) (v:Vals (xs.map V.str) its.toList):TupK K a xs :=
 ⟨_,its,n,l,rfl,rfl,z,v⟩
theorem ZA {P:Program}{w:World}{K:Y00}:∀ {es:List DictEntry}{kvs:List (Str×Cv)},Wo w K es kvs->∃ vs,Pairs (zw P w) es vs/\DicV K kvs vs/\vs.map (·.1)=kvs.map (λ kx=>(Sum.inr kx.1:Key))/\∀ e∈es,∃ k,(zw P w).is k e.key=true/\e.hash=(zw P w).hash k
 | [],[],_=>⟨[],.nil,trivial,rfl,λ e h=>absurd h (by simp)⟩
 | [],_::_,h=>h.elim
 | _::_,[],h=>h.elim
 | e::r,(k,xs)::s,⟨⟨h1,⟨t,h2⟩,h4⟩,h5⟩=>by
  obtain ⟨vs,p,d,n,ks⟩:=ZA (P:=P) h5;have ik:(zw P w).is (.inr k) e.key=true:=Ze (k:=.inr k) ⟨t,h2⟩;refine ⟨(.inr k,e.val)::vs,.cons ik rfl p,⟨rfl,h4,d⟩,by simp [n],λ e' he=>?_⟩;rcases Y0b.mp he with rfl | he
  ·exact ⟨_,ik,h1⟩
  ·exact ks e' he
theorem z3o {P:Program}{w:World}{K:Y00}{a:Addr}{es:Array DictEntry}{ep:Nat}{kvs:List (Str×Cv)} (l:K.lookup a=some { cls:=.type "dict",data:=.dict es ep }) (h:Wo w K es.toList kvs) (nd:(kvs.map (·.1)).Nodup) :
  BT P w K (.ref a) (.dic kvs):=by
 obtain ⟨vs,p,d,n,ks⟩:=ZA (P:=P) h;refine ⟨a,_,es,ep,vs,rfl,l,⟨rfl,rfl,rfl⟩,rfl,λ e he=>ks e (by simpa using he),p,?_,d⟩;rw [n];have e:kvs.map (λ kx=>(Sum.inr kx.1:Key))=(kvs.map (·.1)).map λ k=>(Sum.inr k:Key):=by simp
 rw [e];exact List.Pairwise.map _ (λ x y hxy z=>hxy (Sum.inr.inj z)) nd
theorem JN:∀ {ns:List Int},PySem.W.WData.weightAll (ns.map PySem.W.WData.int)<=2 ^ 20->∀ n∈ns,Builtin.Int.intBits n<=2 ^ 20
 | [],_,n,hn=>absurd hn (by simp)
 | m::r,h,n,hn=>by
  rw [Y05,PySem.W.WData.weightAll] at h;rcases Y0b.mp hn with rfl | hn
  ·have e:PySem.W.WData.weight (.int n)=Builtin.Int.intBits n:=by rw [PySem.W.WData.weight];rfl
   omega
  ·exact JN (by omega) n hn
noncomputable def GW (K:Y00)(cv:Nat->Value)(c:List D->Hh->Res D):Sp:=spI K cv 1 c
theorem z3p {K:Y00}{cv:Nat->Value}{c:List D->Hh->Res D}{H:Hp}{a:Addr}{ns:List Int}{h':Hh}(hO:Bl H)(hS:SqL K H a (ns.map V.int))(e:c [.fl (ns.map D.int)] []=.ok (.bl true) h') :
  GW K cv c [.ref a] H (λ v _=>v=.bl true) (λ _ _ _=>False):=by
 have rp:∀ ms:List Int,Reps K [] H (ms.map D.int) (ms.map V.int):=λ ms=>by
  induction ms with
  | nil=>exact .nil
  | cons m r ih=>exact .cons (.int m) ih
 have fz:Fz K H a (ns.map V.int):=by
  rcases hS with h | h
  ·left;rcases h with h | h
   ·rcases hO a with z | ⟨o,xs,z⟩
    ·rw [h] at z;cases z
    ·rw [h] at z;cases z
   ·exact h
  ·exact .inr λ H'=>.inr h
 refine ⟨rfl,[],[],[.fl (ns.map D.int)],⟨rfl,λ n m b e1=>by simp at e1,λ n b o e1=>by simp at e1⟩,.cons (.fl fz (rp ns)) .nil,?_⟩
 ·rw [e];intro μ1 H1 v e1 r1 q1;cases q1;rfl
theorem walk_ofB {l:PySem.W.OpenLaw}{k:Nat}{q:Program}{loose:List Str}{XP:(Str->Option Value)->Heap->Prop}{YP:World->Heap->Prop}{d:DefRec}{K:Params->Y00}{c:List D->Hh->Res D}{x:Str}
  (hn:l.most=some 63) (hdf:d.params.defaults=[]) (hr:Room k callerA)
  (hY:∀ (w:World) (h:Heap),YP w h->(K w.params).In h)
  (F:∀ (w:World) (mg:Str->Option Value) (fa:Addr) (h:Heap),(K w.params).In h->h.Ns mainGlobals mg->mg d.name=some (.ref fa) ->
   ∃ (cv:Nat->Value) (fd:FuncData),(∀ (s:Shared) (u:Value),BindsTo s fd ⟨[u],[]⟩ [(x,u)]) /\
    ∀ base:Heap,(K w.params).In base->base.Ns mainGlobals mg->FnOk l.prog w (K w.params) mg base (CXs l.prog w) k fa fd [x] (GW (K w.params) cv c))
  (hc:∀ ns:List Int,ns.length<=63->(∀ n∈ns,Builtin.Int.intBits n<=2 ^ 20)->∃ h',c [.fl (ns.map D.int)] []=.ok (.bl true) h') :
  PySem.W.WalkO q loose XP YP l.row.toRowW d [] (λ f vs=>PySem.call f vs):=by
 intro w s₀ s₁ mg mb G Y fa o pm cd doc dV kV ho hd hcd hD hmg hg args vals as hpre hlay hrd hwl hlo;obtain rfl:dV=.none:=PySem.W.Dflts.none hD hdf;obtain rfl:kV=.none:=PySem.W.Dflts.noKw hD;obtain ⟨a,vs,ns,rfl,rfl,hobj,hints,hlen⟩:=Att.script_of hn hpre hwl;have hbits:∀ n∈ns,Builtin.Int.intBits n<=2 ^ 20:=by
  have h1:PySem.W.WData.layable (.list (ns.map .int))=true:=by
   have:=hlay
   unfold PySem.W.WData.layableAll at this;simpa using this
  have h2:=(PySem.W.layableW_iff.mp h1).2.2;exact JN (by simpa [PySem.W.WData.weight] using h2)
 have KX:=hY w _ Y;obtain ⟨cv,fd,hb,hF⟩:=F w mg fa _ KX G.T.g hmg;obtain ⟨h',e⟩:=hc ns hlen hbits;refine PySem.W.enter_call (codeAny_mono (WW KX G.T.g G.T.b G.T.builtins G.T.nolimit hg hobj hints (Y0t hlen (by decide)) hr hF hb (λ H hO hS=>z3p hO hS e) (λ H e' s' z=>by
  obtain ⟨_,_,_,_,_,_,_,_,_,_,_,z⟩:=z;exact z)) λ r s' hq=>?_)
 obtain ⟨rfl,h2,h3,h4⟩:=hq;exact ⟨.inl ⟨.bool true,.bool true,[],rfl,λ _=>rfl,.bool true,Att.post_true l _,λ _=>⟨List.Pairwise.nil,λ _ hm=>(nomatch hm)⟩⟩,h2,h3,h4⟩
end PI
namespace PI
open PySem L2
section
variable {cl:Nat->List D->Hh->Res D}
theorem qB {i z0 ρ h}:E.ev cl (.var i z0) ρ h=match ρ[i]? with | some (some d)=>.ok d h | _=>.no:=rfl
theorem z84 {l ρ h}:E.ev cl (.ofL l) ρ h=(l.ev cl ρ h).bind λ xs h1=>new (.lst xs) h1:=rfl
theorem vm1 {m o a z0 z1 ρ h}:E.ev cl (.m1 m o a z0 z1) ρ h=(o.ev cl ρ h).bind λ x h1=>onL x h1 ((a.ev cl ρ h1).bind λ y h2=>m1D m x y h2):=rfl
theorem z64 {es z0 ρ h}:L.ev cl (.disp es z0) ρ h=(es.ev cl ρ h).bind λ xs h1=>if xs.length<=1000 then .ok xs h1 else .no:=rfl
theorem z65 {e z0 z1 ρ h}:I.ev cl (.enum e z0 z1) ρ h=(e.ev cl ρ h).bind λ x h1=>Q8 x h1:=rfl
theorem z3q {z0 h}:Es.ev cl .nil z0 h=.ok [] h:=rfl
theorem z85 {i j z0 rs z1 z2 ρ h}:S.run cl (.rep i j z0 rs z1 z2) ρ h=(match ρ[j]? with | some (some (.str z))=>(match Zq rs z with | some z'=>.nx (ρ.set i (some (.str z'))) h | none=>.no) | _=>.no):=rfl
end
section
variable {h l:Hh}{o u:O}{n k:Nat}{xs:List D}
theorem hx (h l:Hh)(k:Nat):(h++l)[h.length+k]?=l[k]?:=by
 rw [Y0w (by omega)];congr 1;omega
theorem hx0 (h l:Hh):(h++l)[h.length]?=l[0]?:=hx h l 0
theorem GX (h l:Hh)(k:Nat)(o:O):(h++l).set (h.length+k) o=h++l.set k o:=by
 rw [List.set_append_right _ _ (by omega)];congr 2;omega
theorem qS (h l:Hh)(o:O):(h++l).set h.length o=h++l.set 0 o:=GX h l 0 o
theorem rdx (h l:Hh)(k:Nat):rd (h++l) (h.length+k)=rd l k:=by unfold rd;rw [hx]
theorem qC (h l:Hh):rd (h++l) h.length=rd l 0:=rdx h l 0
theorem zv (e:h[n]?=some (.lst xs)):rd h n=some xs:=by unfold rd;rw [e]
theorem z9 (e:h[n]?=some o):(h++l)[n]?=some o:=by rw [Y18 (Y04.mp e).1];exact e
theorem Ys {xs:List D}(e:rd h n=some xs):rd (h++l) n=some xs:=by
 unfold rd at e ⊢;cases e1:h[n]? with
 | none=>rw [e1] at e;cases e
 | some o=>rw [e1] at e;rw [z9 e1];exact e
theorem zn:stay [] h:=by unfold stay;simp
theorem stay_one {n:Nat}{ds:List D}{h:Hh}:stay [(n,ds)] h ↔ rd h n=some ds:=by unfold stay;simp
theorem Qf (e:h[n]?=some o):h.set n o=h:=by
 apply Y3f;intro i;by_cases hi:n=i
 ·subst hi
  have:=(Y04.mp e).1
  rw [Y10 this,e]
 ·rw [Y0o hi]
end
theorem ZB {c:Ck}{f:D->Hh->Res (Option D)}{h:Hh}(st:stay c h)(g:D->Option D):∀ (xs acc:List D),(∀ x∈xs,f x h=.ok (g x) h)->zr c f xs acc h=.ok (acc++xs.filterMap g) h
 | [],acc,_=>by simp [zr,st]
 | x::r,acc,e=>by
  have e1:=e x (Y08 ..);have ih:=ZB st g r (GB acc (g x)) λ y hy=>e y (Y06 _ hy);unfold zr;rw [if_pos st,e1,bind_ok,ih,Y1q];cases g x<;>simp
theorem jU (n d:Nat)(i:Int)(h:0<=i):HT.sIx n d (some i)=min i.toNat n:=by
 unfold HT.sIx;exact if_neg (by omega)
theorem jQ (n d:Nat):HT.sIx n d none=d:=rfl
theorem atI_nat {α:Type}{xs:List α}{k:Nat}:atI xs (k:Int)=xs[k]?:=by
 unfold atI ixN;rw [if_pos (by omega)];by_cases h:k<xs.length
 ·rw [if_pos (by omega)];simp
 ·rw [if_neg (by omega),Y2a (by omega)];rfl
theorem wZ {α:Type}{xs:List α}{i:Int}(h:0<=i):atI xs i=xs[i.toNat]?:=by
 have:i=(i.toNat:Int):=by omega
 rw [this,atI_nat];rfl
theorem eqS {a b:Str}{h:Hh}(ha:PyData.strOk a=true)(hb:PyData.strOk b=true):jf .Eq (.str a) (.str b) h=.ok (.bl (a==b)) h:=if_pos ⟨ha,hb,Y1u _⟩
theorem neS {a b:Str}{h:Hh}(ha:PyData.strOk a=true)(hb:PyData.strOk b=true):jf .NotEq (.str a) (.str b) h=.ok (.bl (!(a==b))) h:=if_pos ⟨ha,hb,Y1u _⟩
theorem eqI {a b:Int}{h:Hh}:jf .Eq (.int a) (.int b) h=.ok (.bl (a==b)) h:=rfl
theorem neI {a b:Int}{h:Hh}:jf .NotEq (.int a) (.int b) h=.ok (.bl (!(a==b))) h:=rfl
noncomputable def zA:Nat->Ss->Ss
 | 0,b=>b
 | _+1,.nil=>.nil
 | n+1,.cons _ r=>zA n r
noncomputable def yG (ns:List Int)(i:Int):Int:=ns.getD i.toNat 0
theorem GY (ns:List Int)(i:Int)(hi:0<=i)(h:i<(ns.length:Int)):atI (ns.map D.int) i=some (.int (yG ns i)):=by
 rw [wZ hi,yG,Y13,Y12,Y0m (by omega)];rfl
theorem Vo {ns:List Int}(hb:∀ n∈ns,zG n=true)(i:Int):zG (yG ns i)=true:=by
 unfold yG;rw [Y12];cases e:ns[i.toNat]? with
 | none=>decide
 | some v=>exact hb v (Y1k e)
abbrev scr (ns:List Int):D:=.fl (ns.map .int)
theorem Wp:∀ (bs:List Bool),qP (bs.map D.bl)=some bs
 | []=>rfl
 | b::r=>by simp [qP,Wp r]
noncomputable def cs (x:Str):List Nat:=x.cps.toList
noncomputable def mkS (l:List Nat):Str:=⟨l.toArray⟩
theorem zT (l:List Nat):cs (mkS l)=l:=by simp [cs,mkS]
theorem JO (x:Str):mkS (cs x)=x:=by cases x;simp [cs,mkS]
theorem qD {x y:Str}(h:cs x=cs y):x=y:=by rw [<- JO x,<- JO y,h]
theorem zD (x y:Str):cs (x++y)=cs x++cs y:=by
 show (x.cps++y.cps).toList=_;simp [cs]
theorem Vp (a b:List Nat):mkS a++mkS b=mkS (a++b):=qD (by rw [zD,zT,zT,zT])
theorem cs_len (x:Str):x.length=(cs x).length:=by simp [cs,Str.length]
theorem wO (l:List Nat):(mkS l).length=l.length:=by rw [cs_len,zT]
theorem z1o {l:List Nat}(h:∀ c∈l,c<1114112):PyData.strOk (mkS l)=true:=by
 unfold PyData.strOk mkS;simpa using h
theorem Qg {x:Str}(h:∀ c∈cs x,c<1114112):PyData.strOk x=true:=by rw [<- JO x];exact z1o h
theorem ZC {x y:Str}(h:cs x≠cs y):(x==y)=false:=by
 rw [beq_eq_false_iff_ne];exact λ z=>h (by rw [z])
noncomputable def zC (s:List Nat):List (List Nat)->List Nat
 | []=>[]
 | [x]=>x
 | x::y::r=>x++s++zC s (y::r)
theorem we (sep:Str):∀ xs:List Str,cs (Txt.join sep xs)=zC (cs sep) (xs.map cs):=by
 intro xs;show cs (Builtin.Str.glued sep xs)=_;rw [StrLaws.glued_eq_join]
 induction xs with
 | nil=>rfl
 | cons x r ih =>
  cases r with
  | nil=>rfl
  | cons y r =>
   show cs (x++sep++Str.join sep (y::r))=_;rw [zD,zD,ih];rfl
theorem Qh:∀ xs:List (List Nat),zC [] xs=xs.flatten
 | []=>rfl
 | [x]=>by simp [zC]
 | x::y::r=>by rw [zC,Qh (y::r)];simp
theorem wP:∀ xs:List Str,qx (xs.map D.str)=some xs
 | []=>rfl
 | x::r=>by simp [qx,wP r]
theorem jh {i:Int}(h:i.natAbs<18446744073709551616):zG i=true:=by
 unfold zG Builtin.Int.intBits;refine decide_eq_true ?_
 split
 ·decide
 ·rename_i z;have hz:i.natAbs≠0:=by simpa using z
  have:i.natAbs.log2<64:=by
   rw [Nat.log2_lt hz];exact h
  omega
structure Wd (x:Str):Prop where
 ne:cs x≠[]
 len:(cs x).length<=20
 ch:∀ c∈cs x,c≠40/\c≠41/\c≠10/\c<1114112
theorem Wd.ok {x:Str}(h:Wd x):PyData.strOk x=true:=Qg λ c hc=>(h.ch c hc).2.2.2
theorem Uu {x:Str}(h:(decide (cs x≠[])&&decide ((cs x).length<=20)&&(cs x).all λ c=>decide (c≠40/\c≠41/\c≠10/\c<1114112))=true):Wd x:=by
 rw [Y0g,Y0g] at h;exact ⟨of_decide_eq_true h.1.1,of_decide_eq_true h.1.2,λ c hc=>of_decide_eq_true (Y11.mp h.2 c hc)⟩
theorem GZ {n:Int}(h0:0<=n)(h1:n<1000000000000000000):Wd (Str.ofString (toString n))/\n.natAbs.log2<1920:=by
 obtain ⟨m,rfl⟩:∃ m:Nat,n=m:=⟨n.toNat,by omega⟩;have e:cs (Str.ofString (toString (m:Int)))=(Nat.toDigits 10 m).map Char.toNat:=PySem.W.KIN.signs_num m;refine ⟨⟨?_,?_,?_⟩,?_⟩
 ·rw [e];intro z;exact Y38 (List.map_eq_nil_iff.mp z)
 ·rw [e,Y0c];exact (Nat.length_toDigits_le_iff (by decide) (by decide)).mpr (by omega)
 ·rw [e];intro c hc;obtain ⟨ch,h2,rfl⟩:=Y0z.mp hc;have hd:=Nat.isDigit_of_mem_toDigits (by decide) (by decide) h2
  have:48<=ch.toNat/\ch.toNat<=57:=by
   unfold Char.isDigit at hd;simp only [Y0g,decide_eq_true_eq,ge_iff_le] at hd;exact ⟨UInt32.le_iff_toNat_le.mp hd.1,UInt32.le_iff_toNat_le.mp hd.2⟩
  omega
 ·by_cases hz:((m:Int)).natAbs=0
  ·rw [hz];decide
  ·rw [Nat.log2_lt hz];exact Y0l (show ((m:Int)).natAbs<2 ^ 64 by omega) (Nat.pow_le_pow_right (by decide) (by decide))
section
variable {cl:Nat->List D->Hh->Res D}{ρ ρ':En}{h h' h2 h3:Hh}{c e:E}{a b r:Ss}{p p0 p1 p2 p3:Pos}{d x:D}{i:Nat}
theorem zf {o:RS}(hc:c.evT cl ρ h=.ok false h')(k:Ss.run cl r ρ h'=o):Ss.run cl (.cons (.iff c a .nil p) r) ρ h=o:=by
 rw [<- k];show w9 (jA ρ (c.evT cl ρ h) λ t h1=>if t then a.run cl ρ h1 else Ss.nil.run cl ρ h1) (λ ρ' h'=>r.run cl ρ' h')=_;rw [hc];rfl
theorem z1p (hc:c.evT cl ρ h=.ok true h'):Ss.run cl (.cons (.iff c a b p) r) ρ h=w9 (a.run cl ρ h') λ ρ' h'=>r.run cl ρ' h':=by
 show w9 (jA ρ (c.evT cl ρ h) λ t h1=>if t then a.run cl ρ h1 else b.run cl ρ h1) (λ ρ' h'=>r.run cl ρ' h')=_;rw [hc];rfl
theorem zM (hc:c.evT cl ρ h=.ok true h')(ha:a.run cl ρ h'=.rt d h2):Ss.run cl (.cons (.iff c a b p) r) ρ h=.rt d h2:=by rw [z1p hc,ha];rfl
theorem wQ {o:RS}(hc:c.evT cl ρ h=.ok true h')(ha:a.run cl ρ h'=.nx ρ' h2)(k:Ss.run cl r ρ' h2=o):Ss.run cl (.cons (.iff c a b p) r) ρ h=o:=by rw [<- k,z1p hc,ha];rfl
theorem zg (he:e.ev cl ρ h=.ok d h'):Ss.run cl (.cons (.ret e p) r) ρ h=.rt d h':=by
 show w9 (jA ρ (e.ev cl ρ h) λ d h1=>.rt d h1) (λ ρ' h'=>r.run cl ρ' h')=_;rw [he];rfl
theorem ze {o:RS}(he:e.ev cl ρ h=.ok d h')(k:Ss.run cl r (ρ.set i (some d)) h'=o):Ss.run cl (.cons (.set i e p1 p) r) ρ h=o:=by
 rw [<- k];show w9 (jA ρ (e.ev cl ρ h) λ d h1=>.nx (ρ.set i (some d)) h1) (λ ρ' h'=>r.run cl ρ' h')=_;rw [he];rfl
theorem Qi {o:RS}(he:e.ev cl ρ h=.ok d h')(k:Ss.run cl r ρ h'=o):Ss.run cl (.cons (.ex e p) r) ρ h=o:=by
 rw [<- k];show w9 (jA ρ (e.ev cl ρ h) λ d h1=>.nx ρ h1) (λ ρ' h'=>r.run cl ρ' h')=_;rw [he];rfl
theorem zh {o:RS}(q:o=.rt d h):qy o=.ok d h:=by rw [q];rfl
theorem zQ {x k:Int}{b:Bool}(q:ρ[i]?=some (some (.int x)))(hb:(x==k)=b):E.evT cl (.cmp .Eq (.var i p1) (.int k p2) p3) ρ h=.ok b h:=by
 show ((match ρ[i]? with | some (some d)=>Res.ok d h | _=>.no).bind λ x h1=>jf .Eq x (.int k) h1).bind _=_
 rw [q,<- hb];show (jf .Eq (.int x) (.int k) h).bind _=_;rw [eqI];rfl
theorem Uv {x k:Int}{b:Bool}(q:ρ[i]?=some (some (.int x)))(hb:decide (x<k)=b):E.evT cl (.cmp .Lt (.var i p1) (.int k p2) p3) ρ h=.ok b h:=by
 show ((match ρ[i]? with | some (some d)=>Res.ok d h | _=>.no).bind λ x h1=>jf .Lt x (.int k) h1).bind _=_
 rw [q,<- hb];rfl
theorem bnd {α β:Type}{m:Res α}{f:α->Hh->Res β}{x:α}{y:Res β}(q:m=.ok x h)(g:f x h=y):m.bind f=y:=by rw [q];exact g
theorem zN {b:Bool}(q:e.evT cl ρ h=.ok b h'):e.ev cl ρ h=.ok (.bl b) h':=by
 have q:((e.ev cl ρ h).bind λ d h1=>match d with | .bl b=>.ok b h1 | _=>.no)=Res.ok b h':=q
 cases m:e.ev cl ρ h with
 | ok d h1 =>
  rw [m] at q;cases d with
  | bl b'=>cases q;rfl
  | _=>cases q
 | exc c h1=>rw [m] at q;cases q
 | no=>rw [m] at q;cases q
theorem Yt {e':E}{r:Es}(ha:e.evT cl ρ h=.ok false h'):(E.and e e' r p).evT cl ρ h=.ok false h':=bnd (bnd (zN ha) rfl) rfl
theorem O0 {e':E}{t:Bool}(ha:e.evT cl ρ h=.ok true h')(hb:e'.evT cl ρ h'=.ok t h2):(E.and e e' .nil p).evT cl ρ h=.ok t h2:=bnd (bnd (zN ha) (bnd (zN hb) rfl)) rfl
theorem zk {a' b':E}{x y:D}{op:CmpOp}{t:Bool}(ha:a'.ev cl ρ h=.ok x h')(hb:b'.ev cl ρ h'=.ok y h2)(hc:jf op x y h2=.ok (.bl t) h3):E.evT cl (.cmp op a' b' p) ρ h=.ok t h3:=bnd (bnd ha (bnd hb hc)) rfl
theorem z3r {e':E}{t:Bool}(ha:e.evT cl ρ h=.ok true h')(hb:e'.evT cl ρ h'=.ok true h2)(hc:c.evT cl ρ h2=.ok t h3):(E.and e e' (.cons c .nil) p).evT cl ρ h=.ok t h3:=bnd (bnd (zN ha) (bnd (zN hb) (bnd (zN hc) rfl))) rfl
theorem qE {o:RS}{tg:Tg}{it:I}{q:Ck×List D}(hi:it.ev cl ρ h=.ok q h')(hf:zZ q.1 (jd tg λ ρ' h'=>a.run cl ρ' h') q.2 ρ h'=.nx ρ' h2)(k:Ss.run cl r ρ' h2=o):Ss.run cl (.cons (.forr tg it a p) r) ρ h=o:=by
 rw [<- k];show w9 (jA ρ (it.ev cl ρ h) λ q h1=>zZ q.1 (jd tg λ ρ' h'=>a.run cl ρ' h') q.2 ρ h1) (λ ρ' h'=>r.run cl ρ' h')=_;rw [hi,andS_ok,hf];rfl
theorem z66 {o:RS}{oe ie ve:E}{x y z:D}{h4:Hh}(hv:ve.ev cl ρ h=.ok z h')(ho:oe.ev cl ρ h'=.ok x h2)(hi:ie.ev cl ρ h2=.ok y h3)(hp:Q5 x y z h3=some h4)(k:Ss.run cl r ρ h4=o):Ss.run cl (.cons (.put oe ie ve p1 p) r) ρ h=o:=by
 rw [<- k];show w9 (jA ρ (ve.ev cl ρ h) λ z h1=>jA ρ (oe.ev cl ρ h1) λ x h2=>jA ρ (ie.ev cl ρ h2) λ y h3=>match Q5 x y z h3 with | some h4=>.nx ρ h4 | none=>.no) (λ ρ' h'=>r.run cl ρ' h')=_
 rw [hv,andS_ok,ho,andS_ok,hi,andS_ok,hp];rfl
theorem ZD {o:RS}{ck:Ck}{f:D->En->Hh->RS}{l:List D}(hs:stay ck h)(hf:f x ρ h=.nx ρ' h')(k:zZ ck f l ρ' h'=o):zZ ck f (x::l) ρ h=o:=by
 rw [zZ,if_pos hs,hf];exact k
theorem O1 {n:Nat}{l:List D}(g:h[n]?=some (.lst l))(m:Res D):onL (.loc n) h m=m:=by
 show (match h[n]? with | some (.lst _)=>m | _=>.no)=m
 rw [g]
theorem fdk {i k:Int}(hk:0<k/\k<1073741824:=by decide):jr .FloorDiv (.int i) (.int k) h=.ok (.int (i/k)) h:=if_pos ⟨hk.1,by omega⟩
theorem fdB {i k:Int}(hk:0<k/\k<1267650600228229401496703205376):jr .FloorDiv (.int i) (.int k) h=.ok (.int (i/k)) h:=if_pos hk
theorem mdk {i k:Int}(hk:0<k:=by decide):jr .Mod (.int i) (.int k) h=.ok (.int (i%k)) h:=if_pos hk
theorem jV {j:Int}(ha:e.ev cl ρ h=.ok (.int j) h')(hj:-1000000<=j/\j<=1000000):I.ev cl (.rng e p1 p2) ρ h=.ok ([],(List.range j.toNat).map λ k=>.int (k:Nat)) h':=bnd ha (if_pos hj)
theorem Vq {e':E}{t:Bool}(ha:e.evT cl ρ h=.ok false h')(hb:e'.evT cl ρ h'=.ok t h2):(E.or e e' .nil p).evT cl ρ h=.ok t h2:=bnd (bnd (zN ha) (bnd (zN hb) rfl)) rfl
theorem O2 {e':E}{r:Es}(ha:e.evT cl ρ h=.ok true h'):(E.or e e' r p).evT cl ρ h=.ok true h':=bnd (bnd (zN ha) rfl) rfl
theorem Qj {e':E}{t:Bool}(ha:e.evT cl ρ h=.ok false h')(hb:e'.evT cl ρ h'=.ok false h2)(hc:c.evT cl ρ h2=.ok t h3):(E.or e e' (.cons c .nil) p).evT cl ρ h=.ok t h3:=bnd (bnd (zN ha) (bnd (zN hb) (bnd (zN hc) rfl))) rfl
theorem wf {xs:List D}(he:e.ev cl ρ h=.ok x h')(hs:wz x h'=some xs):E.ev cl (.tupE e p p1) ρ h=.ok (.tup xs) h':=bnd he (by
 show (match wz x h' with | some xs=>Res.ok (D.tup xs) h' | none=>.no)=_
 rw [hs])
theorem jv {tg:Tg}{ct:En->Hh->Res Bool}{ce:En->Hh->Res D}(hb:wM tg x ρ=some ρ')(hc:ct ρ' h=.ok true h')(he:ce ρ' h'=.ok d h2):zz tg ρ ct ce x h=.ok (some d) h2:=by
 show (match wM tg x ρ with | some ρ'=>(ct ρ' h).bind λ b h1=>if b then (ce ρ' h1).bind λ d h2=>.ok (some d) h2 else .ok none h1 | none=>.no)=_
 rw [hb];exact bnd hc (bnd he rfl)
theorem wj {n:Nat}{xs:List D}(he:e.ev cl ρ h=.ok (.loc n) h')(hr:rd h' n=some xs):I.ev cl (.seq e) ρ h=.ok ([(n,xs)],xs) h':=bnd he (by
 show (match rd h' n with | some xs=>Res.ok (([(n,xs)],xs):Ck×List D) h' | none=>.no)=_
 rw [hr])
theorem j4 {elt:E}{tg:Tg}{it:I}{ct:Es}{ns:List Str}{cap:List (Option Nat)}{sc:Scope}{q:Ck×List D}{xs:List D}(hi:it.ev cl ρ h=.ok q h')(hl:q.2.length<=1000000)(hc:zr q.1 (zz tg (zS cap ρ) (λ ρ' h2=>ct.evC cl ρ' h2) (λ ρ' h2=>elt.ev cl ρ' h2)) q.2 [] h'=.ok xs h2):E.ev cl (.ofL (.comp elt tg it ct ns cap sc p)) ρ h=.ok (.loc h2.length) (h2++[.lst xs]):=bnd (bnd hi ((if_pos hl).trans hc)) rfl
theorem O3 {i:Int}(he:e.ev cl ρ h=.ok (.int i) h'):Eo.ev cl (.some e) ρ h=.ok (some i) h':=bnd he rfl
theorem z67 {e':E}{r:Es}(ha:e.evT cl ρ h=.ok false h')(hb:e'.evT cl ρ h'=.ok true h2):(E.or e e' (.cons c r) p).evT cl ρ h=.ok true h2:=bnd (bnd (zN ha) (bnd (zN hb) rfl)) rfl
theorem mlk {i j:Int}(hi:zG i=true)(hj:zG j=true):jr .Mult (.int i) (.int j) h=.ok (.int (i*j)) h:=if_pos ⟨hi,hj⟩
theorem O4 {o:RS}(hc:c.evT cl ρ h=.ok false h')(hb:b.run cl ρ h'=.nx ρ' h2)(k:Ss.run cl r ρ' h2=o):Ss.run cl (.cons (.iff c a b p) r) ρ h=o:=by
 rw [<- k];show w9 (jA ρ (c.evT cl ρ h) λ t h1=>if t then a.run cl ρ h1 else b.run cl ρ h1) (λ ρ' h'=>r.run cl ρ' h')=_;rw [hc];show w9 (b.run cl ρ h') _=_;rw [hb];rfl
end
inductive Kd where
 | num (n:Int) | var (x:Str) | op (s:Str) | lett (x:Str) | ite | call (f:Str) (g:Option Str) | doo (d:Str) | handle (h:Str) | go | guard
inductive G where
 | nd (k:Kd) (ps:List G)
noncomputable def Kd.tag:Kd->Str
 | .num _=>"num" | .var _=>"var" | .op _=>"op" | .lett _=>"let" | .ite=>"if" | .call _ _=>"call" | .doo _=>"do" | .handle _=>"handle" | .go=>"go" | .guard=>"guard"
noncomputable def yQ:Option Str->D
 | none=>.non
 | some g=>.str g
noncomputable def Kd.enc:Kd->List D->D
 | .num n,ps=>.tup (.str "num"::.int n::ps)
 | .var x,ps=>.tup (.str "var"::.str x::ps)
 | .op s,ps=>.tup (.str "op"::.str s::ps)
 | .lett x,ps=>.tup (.str "let"::.str x::ps)
 | .ite,ps=>.tup (.str "if"::ps)
 | .call f g,ps=>.tup [.str "call",.str f,yQ g,.tup ps]
 | .doo d,ps=>.tup (.str "do"::.str d::ps)
 | .handle h,ps=>.tup (.str "handle"::.str h::ps)
 | .go,ps=>.tup (.str "go"::ps)
 | .guard,ps=>.tup (.str "guard"::ps)
mutual
noncomputable def G.d:G->D
 | .nd k ps=>k.enc (G.ds ps)
noncomputable def G.ds:List G->List D
 | []=>[]
 | g::r=>g.d::G.ds r
end
mutual
noncomputable def G.size:G->Nat
 | .nd _ ps=>1+G.sizes ps
noncomputable def G.sizes:List G->Nat
 | []=>0
 | g::r=>g.size+G.sizes r
end
noncomputable def Kd.ok (k:Kd)(n:Nat):Bool:=match k with
 | .num _ | .var _=>n==0
 | .op _ | .lett _ | .handle _ | .go | .guard=>n==2
 | .ite=>n==3
 | .doo _=>n==1
 | .call _ _=>true
mutual
noncomputable def G.ok:G->Bool
 | .nd k ps=>k.ok ps.length&&G.oks ps
noncomputable def G.oks:List G->Bool
 | []=>true
 | g::r=>g.ok&&G.oks r
end
theorem ZE:∀ gs:List G,G.ds gs=gs.map G.d
 | []=>by rw [G.ds];rfl
 | g::r=>by rw [G.ds,ZE r];rfl
theorem Yu (a:List G):(G.ds a).length=a.length:=by simp [ZE]
theorem yV:∀ gs:List G,G.oks gs=gs.all G.ok
 | []=>by rw [G.oks];rfl
 | g::r=>by rw [G.oks,yV r];rfl
theorem so:∀ x∈(["num","var","op","let","if","call","do","handle","go","guard","never","jump","once","many"]:List Str),PyData.strOk x=true:=by decide +kernel
theorem yW:PyData.strOk "call"=true:=so _ (by simp)
theorem O5 (k:Kd):PyData.strOk k.tag=true:=by cases k<;>exact so _ (by simp [Kd.tag])
noncomputable def Kd.isCall:Kd->Bool
 | .call _ _=>true
 | _=>false
noncomputable def Kd.isGuard:Kd->Bool
 | .guard=>true
 | _=>false
theorem O6 (k:Kd):(k.tag==("call":Str))=k.isCall:=by cases k<;>rfl
theorem z1q (k:Kd)(ps:List D):∃ r,k.enc ps=.tup (.str k.tag::r):=by cases k<;>exact ⟨_,rfl⟩
theorem z1r (k:Kd)(ps:List D)(h:Hh):zY (k.enc ps) (.int 0) h=.ok (.str k.tag) h:=by
 obtain ⟨r,e⟩:=z1q k ps;rw [e,sub_tup,wZ (by decide)];rfl
theorem z68 (a:D)(ps:List D)(h:Hh):jS (.tup (a::ps)) (some 1) none h=.ok (.tup ps) h:=by
 simp only [jS,jc];rw [jU _ _ _ (by decide),jQ];have e:min (1:Int).toNat (a::ps).length=1:=by simp
 rw [e,if_neg (by simp)];simp
end PI
namespace K14
open PySem L2 PI
abbrev Z (l a b:Nat):PySem.Pos:=⟨l,a,l,b⟩
noncomputable instance (n:Nat):OfNat PySem.Pos n:=⟨⟨n/100000,n/100%1000,n/100000,n/100%1000+n%100⟩⟩
noncomputable def g_WORDS:List Str:=["def","handler","on","end","let","if","call","hand","do","handle","go","guard"]
noncomputable def g_SIGNS:List Str:=["+","-","*","<"]
noncomputable def g_FORMS:List (Str×Cv):=[("num",.tup ["number"]),("var",.tup ["name"]),("op",.tup ["sign","part","part"]),("let",.tup ["name","part","part"]),("if",.tup ["part","part","part"]),("call",.tup ["name","block","parts"]),("do",.tup ["name","part"]),("handle",.tup ["name","part","part"]),("go",.tup ["part","part"]),("guard",.tup ["part","part"])]
noncomputable def j5:List Str:=["name","name","name","part"]
noncomputable def jC:List Str:=["name","name","part"]
noncomputable def g_ALIKE:List Str:=["let","if","do","handle","go","guard"]
noncomputable def zc:List (Str×Cn):=[("WORDS",(.tup g_WORDS)),("SIGNS",(.tup g_SIGNS)),("LETTERS",(.str "abcdefghijklmnopqrstuvwxyz")),("LONGEST_NAME",(.int (8))),("FIGURES",(.str "0123456789")),("MOST_FIGURES",(.int (18))),("FORMS",(.dic g_FORMS)),("CLAUSE_FORM",(.tup j5)),("END_FORM",(.tup jC)),("DEEPEST",(.int (24))),("ALIKE",(.tup g_ALIKE))]
noncomputable def Qk:E:=(.cmp .In (.var 0 1901604) (.gcon "LETTERS" (.str "abcdefghijklmnopqrstuvwxyz") 1902407) 1901615)
noncomputable def Ql:Es:=.nil
noncomputable def Qm:Tg:=(.one 0 1903604)
noncomputable def Qn:Scope:={ kind:=PySem.ScopeKind.function,names:=[ (PySem.Str.ofString ".0",PySem.NameKind.local),(PySem.Str.ofString "sign",PySem.NameKind.local),(PySem.Str.ofString "LETTERS",PySem.NameKind.globalImplicit)],isGenerator:=false,isCoroutine:=false,more:=[]:PySem.Scope }
noncomputable def d_is_name:Df:=⟨"is_name",["word"],["word"],(.cons (.iff (.or (.cmp .Eq (.var 0 1700704) (.str "" 1701502) 1700710) (.cmp .Gt (.len (.var 0 1702504) 1702103 1702109) (.gcon "LONGEST_NAME" (.int (8)) 1703312) 1702124) (.cons (.cmp .In (.var 0 1704904) (.gcon "WORDS" (.tup g_WORDS) 1705705) 1704913) .nil) 1700755) (.cons (.ret (.bl false 1801505) 1800812) .nil) .nil ⟨17,4,18,20⟩) (.cons (.ret (.c1 .all (.ofL (.comp Qk Qm (.seq (.var 0 1904404)) Ql ["sign"] [none] Qn 1901534)) 1901103 1901139) 1900446) .nil))⟩
noncomputable def J8:E:=(.cmp .In (.var 0 2301604) (.gcon "FIGURES" (.str "0123456789") 2302407) 2301615)
noncomputable def Ja:Es:=.nil
noncomputable def Jb:Tg:=(.one 0 2303604)
noncomputable def Jc:Scope:={ kind:=PySem.ScopeKind.function,names:=[ (PySem.Str.ofString ".0",PySem.NameKind.local),(PySem.Str.ofString "sign",PySem.NameKind.local),(PySem.Str.ofString "FIGURES",PySem.NameKind.globalImplicit)],isGenerator:=false,isCoroutine:=false,more:=[]:PySem.Scope }
noncomputable def d_is_number:Df:=⟨"is_number",["word"],["word"],(.cons (.iff (.or (.cmp .Eq (.var 0 2100704) (.str "" 2101502) 2100710) (.cmp .Gt (.len (.var 0 2102504) 2102103 2102109) (.gcon "MOST_FIGURES" (.int (18)) 2103312) 2102124) (.cons (.and (.cmp .Eq (.sub (.var 0 2105004) (.int 0 2105501) 2105007) (.str "0" 2106103) 2105014) (.cmp .NotEq (.var 0 2106904) (.str "0" 2107703) 2106911) .nil 2105030) .nil) 2100774) (.cons (.ret (.bl false 2201505) 2200812) .nil) .nil ⟨21,4,22,20⟩) (.cons (.ret (.c1 .all (.ofL (.comp J8 Jb (.seq (.var 0 2304404)) Ja ["sign"] [none] Jc 2301534)) 2301103 2301139) 2300446) .nil))⟩
noncomputable def e_read_1:E:=(.call 5 (.var 0 2802605) .nil 2801807 2801814)
noncomputable def c_read_1:Es:=.nil
noncomputable def Qo:Tg:=(.one 0 2803705)
noncomputable def O7:Scope:={ kind:=PySem.ScopeKind.function,names:=[ (PySem.Str.ofString ".0",PySem.NameKind.local),(PySem.Str.ofString "thing",PySem.NameKind.local),(PySem.Str.ofString "item_of",PySem.NameKind.globalImplicit)],isGenerator:=false,isCoroutine:=false,more:=[]:PySem.Scope }
noncomputable def d_read:Df:=⟨"read",["text"],["text"],(.cons (.ret (.tupL (.comp e_read_1 Qo (.seq (.call 4 (.call 3 (.var 0 2806204) .nil 2805308 2805314) .nil 2804606 2804622)) c_read_1 ["thing"] [none] O7 2801752) 2801105 2801159) 2800466) .nil)⟩
noncomputable def e_words_of_1:E:=(.var 0 3101204)
noncomputable def c_words_of_1:Es:=(.cons (.cmp .NotEq (.var 0 3105004) (.str "" 3105802) 3105010) .nil)
noncomputable def qT:Tg:=(.one 0 3102104)
noncomputable def Ws:Scope:={ kind:=PySem.ScopeKind.function,names:=[(PySem.Str.ofString ".0",PySem.NameKind.local),(PySem.Str.ofString "word",PySem.NameKind.local)],isGenerator:=false,isCoroutine:=false,more:=[]:PySem.Scope }
noncomputable def d_words_of:Df:=⟨"words_of",["text"],["text","spaced"],(.cons (.rep 1 0 3001304 [⟨"\n"," ",3001312,3002604,3003203,3001323⟩,⟨"("," ( ",3001331,3004503,3005005,3001343⟩,⟨")"," ) ",3001351,3006503,3007005,3001363⟩] 3000406 3000472) (.cons (.ret (.ofL (.comp e_words_of_1 qT (.seq (.split (.var 1 3102906) (.str " " 3104203) 3102912 3102917)) c_words_of_1 ["word"] [none] Ws 3101150)) 3100457) .nil))⟩
noncomputable def ZF:Tg:=(.one 3 3500804)
noncomputable def b_nested_1:Ss:=(.cons (.iff (.cmp .Eq (.var 3 3601104) (.str "(" 3601903) 3601111) (.cons (.iff (.cmp .Eq (.len (.var 1 3701906) 3701503 3701511) (.gcon "DEEPEST" (.int (24)) 3703007) 3701522) (.cons (.raw (.Raise (some (.Call (.Name "NoText" 3802206) [(.Constant (.str "brackets too deep within one another") 0 3802938)] [] 3802246)) none 3801652)) .nil) .nil ⟨37,12,38,68⟩) (.cons (.ex (.m1 .append (.var 1 3901206) (.var 2 3902605) 3901213 3901220) 3901220) (.cons (.set 2 (.ofL (.disp .nil 4002002)) 4001205 4001210) .nil))) (.cons (.iff (.cmp .Eq (.var 3 4101304) (.str ")" 4102103) 4101311) (.cons (.iff (.cmpN false (.var 1 4201506) 4202502 4201512) (.cons (.raw (.Raise (some (.Call (.Name "NoText" 4302206) [(.Constant (.str "a bracket is closed that was not opened") 0 4302941)] [] 4302249)) none 4301655)) .nil) .nil ⟨42,12,43,71⟩) (.cons (.set 4 (.var 2 4402105) 4401206 4401214) (.cons (.set 2 (.m0 .pop (.var 1 4502006) 4502010 4502012) 4501205 4501220) (.cons (.ex (.m1 .append (.var 2 4601205) (.var 4 4602506) 4601212 4601220) 4601220) .nil)))) (.cons (.ex (.m1 .append (.var 2 4801205) (.var 3 4802504) 4801212 4801218) 4801218) .nil) ⟨41,8,48,30⟩) .nil) ⟨36,8,48,30⟩) .nil)
noncomputable def d_nested:Df:=⟨"nested",["words"],["words","around","inner","word","closed"],(.cons (.set 1 (.ofL (.disp .nil 3301302)) 3300406 3300411) (.cons (.set 2 (.ofL (.disp .nil 3401202)) 3400405 3400410) (.cons (.forr ZF (.seq (.var 0 3501605)) b_nested_1 ⟨35,4,48,30⟩) (.cons (.iff (.cmpN true (.var 1 4900706) 4901702 4900712) (.cons (.raw (.Raise (some (.Call (.Name "NoText" 5001406) [(.Constant (.str "a bracket is not closed") 0 5002125)] [] 5001433)) none 5000839)) .nil) .nil ⟨49,4,50,47⟩) (.cons (.ret (.var 2 5101105) 5100412) .nil)))))⟩
noncomputable def d_item_of:Df:=⟨"item_of",["thing"],["thing","head"],(.cons (.set 1 (.call 15 (.var 0 5301905) .nil 5301107 5301114) 5300404 5300421) (.cons (.iff (.cmp .Eq (.var 1 5400704) (.str "def" 5401505) 5400713) (.cons (.ret (.call 6 (.cut (.var 0 5502705) (.some (.int 1 5503301)) .none 5503302 5502709) .nil 5501511 5501522) 5500829) .nil) .nil ⟨54,4,55,37⟩) (.cons (.iff (.cmp .Eq (.var 1 5600704) (.str "handler" 5601509) 5600717) (.cons (.ret (.call 7 (.cut (.var 0 5702605) (.some (.int 1 5703201)) .none 5703202 5702609) .nil 5701510 5701521) 5700828) .nil) .nil ⟨56,4,57,36⟩) (.cons (.raw (.Raise (some (.Call (.Name "NoText" 5801006) [(.JoinedStr [(.Constant (.str "no item begins with ") 0 5801920),(.FormattedValue (.Name "head" 5804004) (114) none 5803908)] 5801731)] [] 5801039)) none 5800445)) .nil))))⟩
noncomputable def d_function_of:Df:=⟨"function_of",["things"],["things","block"],(.cons (.iff (.cmp .NotIn (.len (.var 0 6001106) 6000703 6000711) (.tup (.cons (.int 3 6002701) (.cons (.int 4 6003001) .nil)) 6002606) 6000725) (.cons (.raw (.Raise (some (.Call (.Name "NoText" 6101406) [(.Constant (.str "a def with too few or too many things") 0 6102139)] [] 6101447)) none 6100853)) .nil) .nil ⟨60,4,61,61⟩) (.cons (.set 1 (.ite (.cmp .Eq (.len (.var 0 6203806) 6203403 6203411) (.int 4 6204901) 6203416) (.call 17 (.sub (.var 0 6202006) (.int 2 6202701) 6202009) .nil 6201207 6201218) (.non 6205604) 6201248) 6200405 6200456) (.cons (.ret (.tup (.cons (.str "def" 6301205) (.cons (.call 17 (.sub (.var 0 6302706) (.int 0 6303401) 6302709) .nil 6301907 6301918) (.cons (.call 16 (.sub (.var 0 6304806) (.int 1 6305501) 6304809) .nil 6303908 6303919) (.cons (.var 1 6306005) (.cons (.call 11 (.sub (.var 0 6308106) (.un .USub (.int 1 6308901) 6308802) 6308110) .nil 6306713 6306725) .nil))))) 6301182) 6300489) .nil)))⟩
noncomputable def e_handler_of_1:E:=(.call 8 (.str "on" 6702204) (.cons (.var 0 6702805) (.cons (.gcon "CLAUSE_FORM" (.tup j5) 6703511) .nil)) 6701506 6701532)
noncomputable def c_handler_of_1:Es:=.nil
noncomputable def wR:Tg:=(.one 0 6705205)
noncomputable def ZG:Scope:={ kind:=PySem.ScopeKind.function,names:=[ (PySem.Str.ofString ".0",PySem.NameKind.local),(PySem.Str.ofString "thing",PySem.NameKind.local),(PySem.Str.ofString "headed",PySem.NameKind.globalImplicit),(PySem.Str.ofString "CLAUSE_FORM",PySem.NameKind.globalImplicit)],isGenerator:=false,isCoroutine:=false,more:=[]:PySem.Scope }
noncomputable def d_handler_of:Df:=⟨"handler_of",["things"],["things","clauses"],(.cons (.iff (.cmp .Lt (.len (.var 0 6501106) 6500703 6500711) (.int 2 6502101) 6500715) (.cons (.raw (.Raise (some (.Call (.Name "NoText" 6601406) [(.Constant (.str "a handler with too few things") 0 6602131)] [] 6601439)) none 6600845)) .nil) .nil ⟨65,4,66,53⟩) (.cons (.set 1 (.ofL (.comp e_handler_of_1 wR (.seq (.cut (.var 0 6706106) (.some (.int 1 6706801)) (.some (.un .USub (.int 1 6707101) 6707002)) 6706804 6706112)) c_handler_of_1 ["thing"] [none] ZG 6701460)) 6700407 6700470) (.cons (.ret (.tup (.cons (.str "handler" 6801209) (.cons (.call 17 (.sub (.var 0 6803106) (.int 0 6803801) 6803109) .nil 6802307 6802318) (.cons (.tupE (.var 1 6804907) 6804305 6804314) (.cons (.call 8 (.str "end" 6806605) (.cons (.sub (.var 0 6807306) (.un .USub (.int 1 6808101) 6808002) 6807310) (.cons (.gcon "END_FORM" (.tup jC) 6808508) .nil)) 6805906 6805935) .nil)))) 6801184) 6800491) .nil)))⟩
noncomputable def d_headed:Df:=⟨"headed",["word","thing","form"],["word","thing","form"],(.cons (.iff (.cmp .NotEq (.call 15 (.var 1 7001505) .nil 7000707 7000714) (.var 0 7002504) 7000722) (.cons (.raw (.Raise (some (.Call (.Name "NoText" 7101406) [(.JoinedStr [(.Constant (.str "brackets with ") 0 7102314),(.FormattedValue (.Name "word" 7103804) (114) none 7103708),(.Constant (.str " are lacking") 0 7104512)] 7102137)] [] 7101445)) none 7100851)) .nil) .nil ⟨70,4,71,59⟩) (.cons (.ret (.call 9 (.cut (.var 1 7201805) (.some (.int 1 7202401)) .none 7202402 7201809) (.cons (.var 2 7202904) .nil) 7201106 7201123) 7200430) .nil))⟩
noncomputable def e_formed_1:E:=(.call 10 (.var 0 7602604) (.cons (.var 1 7603205) .nil) 7601807 7601820)
noncomputable def c_formed_1:Es:=.nil
noncomputable def ZH:Tg:=(.tup [(0,7604304),(1,7604905)] 7604311)
noncomputable def Yv:Scope:={ kind:=PySem.ScopeKind.function,names:=[ (PySem.Str.ofString ".0",PySem.NameKind.local),(PySem.Str.ofString "kind",PySem.NameKind.local),(PySem.Str.ofString "thing",PySem.NameKind.local),(PySem.Str.ofString "read_as",PySem.NameKind.globalImplicit)],isGenerator:=false,isCoroutine:=false,more:=[]:PySem.Scope }
noncomputable def d_formed:Df:=⟨"formed",["things","form"],["things","form"],(.cons (.iff (.cmp .NotEq (.len (.var 0 7401106) 7400703 7400711) (.len (.var 1 7402604) 7402203 7402209) 7400724) (.cons (.raw (.Raise (some (.Call (.Name "NoText" 7501406) [(.Constant (.str "too few or too many things in a pair of brackets") 0 7502150)] [] 7501458)) none 7500864)) .nil) .nil ⟨74,4,75,72⟩) (.cons (.ret (.tupL (.comp e_formed_1 ZH (.zip (.var 1 7606204) (.var 0 7606806) 7605803 7605817) c_formed_1 ["kind","thing"] [none,none] Yv 7601759) 7601105 7601166) 7600473) .nil))⟩
noncomputable def d_read_as:Df:=⟨"read_as",["kind","thing"],["kind","thing"],(.cons (.ret (.ite (.cmp .Eq (.var 0 7802904) (.str "name" 7803706) 7802914) (.call 17 (.var 1 7801905) .nil 7801107 7801114) (.call 11 (.var 1 7806305) .nil 7804913 7804920) 7801158) 7800465) .nil)⟩
noncomputable def d_expression_of:Df:=⟨"expression_of",["thing"],["thing","head"],(.cons (.iff (.isi 2 (.var 0 8001805) 8000710 8002503 8000722) (.cons (.ret (.ite (.call 1 (.var 0 8104805) .nil 8103809 8103816) (.tup (.cons (.str "num" 8101605) (.cons (.c1 .int (.var 0 8102705) 8102303 8102310) .nil)) 8101519) (.tup (.cons (.str "var" 8106105) (.cons (.call 17 (.var 0 8107605) .nil 8106807 8106814) .nil)) 8106023) 8101568) 8100875) .nil) .nil ⟨80,4,81,83⟩) (.cons (.set 1 (.call 15 (.var 0 8201905) .nil 8201107 8201114) 8200404 8200421) (.cons (.iff (.cmp .In (.var 1 8300704) (.gcon "SIGNS" (.tup g_SIGNS) 8301505) 8300713) (.cons (.ret (.bin .Add (.tup (.cons (.str "op" 8401604) (.cons (.var 1 8402204) .nil)) 8401512) (.call 9 (.cut (.var 0 8403705) (.some (.int 1 8404301)) .none 8404302 8403709) (.cons (.cut (.gsub "FORMS" g_FORMS (.str "op" 8405404) 8404805 8404811) (.some (.int 1 8406001)) .none 8406002 8404815) .nil) 8403006 8403034) 8401549) 8400856) .nil) .nil ⟨83,4,84,64⟩) (.cons (.iff (.cmp .In (.var 1 8500704) (.gcon "ALIKE" (.tup g_ALIKE) 8501505) 8500713) (.cons (.ret (.bin .Add (.tup (.cons (.var 1 8601604) .nil) 8601507) (.call 9 (.cut (.var 0 8603205) (.some (.int 1 8603801)) .none 8603802 8603209) (.cons (.gsub "FORMS" g_FORMS (.var 1 8604904) 8604305 8604311) .nil) 8602506 8602530) 8601540) 8600847) .nil) .nil ⟨85,4,86,55⟩) (.cons (.iff (.cmp .Eq (.var 1 8700704) (.str "call" 8701506) 8700714) (.cons (.ret (.call 12 (.cut (.var 0 8802305) (.some (.int 1 8802901)) .none 8802902 8802309) .nil 8801507 8801518) 8800825) .nil) .nil ⟨87,4,88,33⟩) (.cons (.iff (.cmp .Eq (.var 1 8900704) (.str "hand" 8901506) 8900714) (.cons (.ret (.call 13 (.cut (.var 0 9002305) (.some (.int 1 9002901)) .none 9002902 9002309) .nil 9001507 9001518) 9000825) .nil) .nil ⟨89,4,90,33⟩) (.cons (.raw (.Raise (some (.Call (.Name "NoText" 9101006) [(.JoinedStr [(.Constant (.str "no expression begins with ") 0 9101926),(.FormattedValue (.Name "head" 9104604) (114) none 9104508)] 9101737)] [] 9101045)) none 9100451)) .nil)))))))⟩
noncomputable def d_call_of:Df:=⟨"call_of",["things"],["things"],(.cons (.iff (.cmpN false (.var 0 9300706) 9301702 9300712) (.cons (.raw (.Raise (some (.Call (.Name "NoText" 9401406) [(.Constant (.str "a call with too few things") 0 9402128)] [] 9401436)) none 9400842)) .nil) .nil ⟨93,4,94,50⟩) (.cons (.ret (.tup (.cons (.str "call" 9501206) (.cons (.call 17 (.sub (.var 0 9502806) (.int 0 9503501) 9502809) .nil 9502007 9502018) (.cons (.non 9504004) (.cons (.call 14 (.cut (.var 0 9506106) (.some (.int 1 9506801)) .none 9506802 9506110) .nil 9504614 9504626) .nil)))) 9501162) 9500469) .nil))⟩
noncomputable def d_hand_of:Df:=⟨"hand_of",["things"],["things"],(.cons (.iff (.cmp .Lt (.len (.var 0 9701106) 9700703 9700711) (.int 2 9702101) 9700715) (.cons (.raw (.Raise (some (.Call (.Name "NoText" 9801406) [(.Constant (.str "a hand with too few things") 0 9802128)] [] 9801436)) none 9800842)) .nil) .nil ⟨97,4,98,50⟩) (.cons (.ret (.tup (.cons (.str "call" 9901206) (.cons (.call 17 (.sub (.var 0 9902806) (.int 0 9903501) 9902809) .nil 9902007 9902018) (.cons (.call 17 (.sub (.var 0 9904806) (.int 1 9905501) 9904809) .nil 9904007 9904018) (.cons (.call 14 (.cut (.var 0 9907506) (.some (.int 2 9908201)) .none 9908202 9907510) .nil 9906014 9906026) .nil)))) 9901176) 9900483) .nil))⟩
noncomputable def e_expressions_of_1:E:=(.call 11 (.var 0 10103205) .nil 10101813 10101820)
noncomputable def c_expressions_of_1:Es:=.nil
noncomputable def jD:Tg:=(.one 0 10104305)
noncomputable def qF:Scope:={ kind:=PySem.ScopeKind.function,names:=[ (PySem.Str.ofString ".0",PySem.NameKind.local),(PySem.Str.ofString "thing",PySem.NameKind.local),(PySem.Str.ofString "expression_of",PySem.NameKind.globalImplicit)],isGenerator:=false,isCoroutine:=false,more:=[]:PySem.Scope }
noncomputable def d_expressions_of:Df:=⟨"expressions_of",["things"],["things"],(.cons (.ret (.tupL (.comp e_expressions_of_1 jD (.seq (.var 0 10105206)) c_expressions_of_1 ["thing"] [none] qF 10101742) 10101105 10101149) 10100456) .nil)⟩
noncomputable def d_head_of:Df:=⟨"head_of",["thing"],["thing"],(.cons (.iff (.isi 2 (.var 0 10301805) 10300710 10302503 10300722) (.cons (.raw (.Raise (some (.Call (.Name "NoText" 10401406) [(.JoinedStr [(.FormattedValue (.Name "thing" 10402405) (114) none 10402309),(.Constant (.str " stands where brackets are asked") 0 10403232)] 10402144)] [] 10401452)) none 10400858)) .nil) .nil ⟨103,4,104,66⟩) (.cons (.iff (.or (.cmpN false (.var 0 10500705) 10501602 10500711) (.un .Not (.isi 2 (.sub (.var 0 10503705) (.int 0 10504301) 10503708) 10502610 10504703 10502625) 10502229) .nil 10500744) (.cons (.raw (.Raise (some (.Call (.Name "NoText" 10601406) [(.Constant (.str "brackets that don't begin with a word") 0 10602139)] [] 10601447)) none 10600853)) .nil) .nil ⟨105,4,106,61⟩) (.cons (.ret (.sub (.var 0 10701105) (.int 0 10701701) 10701108) 10700415) .nil)))⟩
noncomputable def e_names_of_1:E:=(.call 17 (.var 0 11102604) .nil 11101807 11101813)
noncomputable def c_names_of_1:Es:=.nil
noncomputable def qU:Tg:=(.one 0 11103604)
noncomputable def Wt:Scope:={ kind:=PySem.ScopeKind.function,names:=[ (PySem.Str.ofString ".0",PySem.NameKind.local),(PySem.Str.ofString "part",PySem.NameKind.local),(PySem.Str.ofString "name_of",PySem.NameKind.globalImplicit)],isGenerator:=false,isCoroutine:=false,more:=[]:PySem.Scope }
noncomputable def d_names_of:Df:=⟨"names_of",["thing"],["thing"],(.cons (.iff (.isi 2 (.var 0 10901805) 10900710 10902503 10900722) (.cons (.raw (.Raise (some (.Call (.Name "NoText" 11001406) [(.JoinedStr [(.FormattedValue (.Name "thing" 11002405) (114) none 11002309),(.Constant (.str " stands where brackets are asked") 0 11003232)] 11002144)] [] 11001452)) none 11000858)) .nil) .nil ⟨109,4,110,66⟩) (.cons (.ret (.tupL (.comp e_names_of_1 qU (.seq (.var 0 11104405)) c_names_of_1 ["part"] [none] Wt 11101733) 11101105 11101140) 11100447) .nil))⟩
noncomputable def d_name_of:Df:=⟨"name_of",["thing"],["thing"],(.cons (.iff (.un .Not (.isi 2 (.var 0 11302205) 11301110 11302903 11301122) 11300726) (.cons (.raw (.Raise (some (.Call (.Name "NoText" 11401406) [(.Constant (.str "brackets stand where a name is asked") 0 11402138)] [] 11401446)) none 11400852)) .nil) .nil ⟨113,4,114,60⟩) (.cons (.iff (.un .Not (.call 0 (.var 0 11501905) .nil 11501107 11501114) 11500718) (.cons (.raw (.Raise (some (.Call (.Name "NoText" 11601406) [(.JoinedStr [(.FormattedValue (.Name "thing" 11602405) (114) none 11602309),(.Constant (.str " is no name") 0 11603211)] 11602123)] [] 11601431)) none 11600837)) .nil) .nil ⟨115,4,116,45⟩) (.cons (.ret (.var 0 11701105) 11700412) .nil)))⟩
noncomputable def e_shown_1:E:=(.call 19 (.var 0 12003204) .nil 12002209 12002215)
noncomputable def c_shown_1:Es:=.nil
noncomputable def yr:Tg:=(.one 0 12004204)
noncomputable def Vr:Scope:={ kind:=PySem.ScopeKind.function,names:=[ (PySem.Str.ofString ".0",PySem.NameKind.local),(PySem.Str.ofString "item",PySem.NameKind.local),(PySem.Str.ofString "item_text",PySem.NameKind.globalImplicit)],isGenerator:=false,isCoroutine:=false,more:=[]:PySem.Scope }
noncomputable def d_shown:Df:=⟨"shown",["program"],["program"],(.cons (.ret (.join (.str "\n" 12001104) (.ofL (.comp e_shown_1 yr (.seq (.var 0 12005007)) c_shown_1 ["item"] [none] Vr 12002137)) 12001109 12001148) 12000455) .nil)⟩
noncomputable def d_item_text:Df:=⟨"item_text",["item"],["item"],(.cons (.ret (.ite (.cmp .Eq (.sub (.var 0 12203404) (.int 0 12203901) 12203407) (.str "def" 12204505) 12203416) (.call 20 (.var 0 12202504) .nil 12201113 12201119) (.call 21 (.var 0 12206904) .nil 12205612 12205618) 12201163) 12200470) .nil)⟩
noncomputable def d_function_text:Df:=⟨"function_text",["item"],["item","words"],(.cons (.set 1 (.ofL (.disp (.cons (.str "def" 12401305) (.cons (.sub (.var 0 12402004) (.int 1 12402501) 12402007) (.cons (.call 23 (.sub (.var 0 12403904) (.int 2 12404401) 12403907) .nil 12402909 12402918) .nil))) 12401236)) 12400405 12400444) (.cons (.iff (.cmp .IsNot (.sub (.var 0 12500704) (.int 3 12501201) 12500707) (.non 12502204) 12500719) (.cons (.ex (.m1 .append (.var 1 12600805) (.sub (.var 0 12602104) (.int 3 12602601) 12602107) 12600812 12600821) 12600821) .nil) .nil ⟨125,4,126,29⟩) (.cons (.ex (.m1 .append (.var 1 12700405) (.call 24 (.sub (.var 0 12703304) (.int 4 12703801) 12703307) .nil 12701715 12701724) 12700412 12700438) 12700438) (.cons (.ret (.call 23 (.var 1 12802105) .nil 12801109 12801116) 12800423) .nil))))⟩
noncomputable def e_handler_text_1:E:=(.call 22 (.str "on" 13002704) (.cons (.var 0 13003306) .nil) 13001511 13001525)
noncomputable def c_handler_text_1:Es:=.nil
noncomputable def j0:Tg:=(.one 0 13004506)
noncomputable def yt:Scope:={ kind:=PySem.ScopeKind.function,names:=[ (PySem.Str.ofString ".0",PySem.NameKind.local),(PySem.Str.ofString "clause",PySem.NameKind.local),(PySem.Str.ofString "headed_text",PySem.NameKind.globalImplicit)],isGenerator:=false,isCoroutine:=false,more:=[]:PySem.Scope }
noncomputable def d_handler_text:Df:=⟨"handler_text",["item"],["item","clauses"],(.cons (.set 1 (.ofL (.comp e_handler_text_1 j0 (.seq (.sub (.var 0 13005504) (.int 2 13006001) 13005507)) c_handler_text_1 ["clause"] [none] yt 13001449)) 13000407 13000459) (.cons (.ret (.call 23 (.bin .Add (.bin .Add (.ofL (.disp (.cons (.str "handler" 13102209) (.cons (.sub (.var 0 13103304) (.int 1 13103801) 13103307) .nil)) 13102120)) (.var 1 13104407) 13102130) (.ofL (.disp (.cons (.call 22 (.str "end" 13106705) (.cons (.sub (.var 0 13107404) (.int 3 13107901) 13107407) .nil) 13105511 13105527) .nil) 13105429)) 13102162) .nil 13101109 13101173) 13100480) .nil))⟩
noncomputable def d_headed_text:Df:=⟨"headed_text",["word","things"],["word","things"],(.cons (.ret (.call 23 (.bin .Add (.bin .Add (.ofL (.disp (.cons (.var 0 13302204) .nil) 13302106)) (.listE (.cut (.var 1 13303506) .none (.some (.un .USub (.int 1 13304401) 13304302)) 13304203 13303511) 13303004 13303017) 13302126) (.ofL (.disp (.cons (.call 24 (.sub (.var 1 13306706) (.un .USub (.int 1 13307501) 13307402) 13306710) .nil 13305115 13305127) .nil) 13305029)) 13302158) .nil 13301109 13301169) 13300476) .nil)⟩
noncomputable def d_bracketed:Df:=⟨"bracketed",["words"],["words"],(.cons (.ret (.bin .Add (.bin .Add (.str "(" 13501103) (.join (.str " " 13501703) (.var 0 13502605) 13501708 13501715) 13501121) (.str ")" 13503503) 13501127) 13500434) .nil)⟩
noncomputable def w_expression_text_1:E:=(.cmpN true (.var 2 13901007) 13902102 13901013)
noncomputable def b_expression_text_1:Ss:=(.cons (.set 3 (.m0 .pop (.var 2 14001607) 14001611 14001613) 14000805 14000821) (.cons (.iff (.isi 2 (.var 3 14102205) 14101110 14102903 14101122) (.cons (.ex (.m1 .append (.var 1 14201206) (.var 3 14202605) 14201213 14201220) 14201220) .nil) (.cons (.iff (.cmp .In (.sub (.var 3 14301305) (.int 0 14301901) 14301308) (.tup (.cons (.str "num" 14302605) (.cons (.str "var" 14303305) .nil)) 14302514) 14301326) (.cons (.ex (.m1 .append (.var 1 14401206) (.c1 .str (.sub (.var 3 14403005) (.int 1 14403601) 14403008) 14402603 14402613) 14401213 14401228) 14401228) .nil) (.cons (.ex (.m1 .extend (.var 2 14601207) (.listR (.call 25 (.call 26 (.var 3 14605805) .nil 14604809 14604816) .nil 14604106 14604124) 14602704 14603208 14603234 14602740) 14601214 14601256) 14601256) .nil) ⟨143,8,146,68⟩) .nil) ⟨141,8,146,68⟩) .nil))
noncomputable def d_expression_text:Df:=⟨"expression_text",["tree"],["tree","pieces","waiting","thing"],(.cons (.set 1 (.ofL (.disp .nil 13701302)) 13700406 13700411) (.cons (.set 2 (.ofL (.disp (.cons (.var 0 13801504) .nil) 13801406)) 13800407 13800416) (.cons (.whil w_expression_text_1 b_expression_text_1 ⟨139,4,146,68⟩) (.cons (.ret (.join (.str "" 14701102) (.var 1 14701906) 14701107 14701115) 14700422) .nil))))⟩
noncomputable def wm:Tg:=(.one 2 15000805)
noncomputable def b_spread_1:Ss:=(.cons (.ex (.m1 .append (.var 1 15100803) (.var 2 15101905) 15100810 15100817) 15100817) (.cons (.ex (.m1 .append (.var 1 15200803) (.str " " 15201903) 15200810 15200815) 15200815) .nil))
noncomputable def d_spread:Df:=⟨"spread",["things"],["things","row","thing"],(.cons (.set 1 (.ofL (.disp (.cons (.str "(" 14901103) .nil) 14901005)) 14900403 14900411) (.cons (.forr wm (.seq (.var 0 15001706)) b_spread_1 ⟨150,4,152,23⟩) (.cons (.ret (.bin .Add (.cut (.var 1 15301103) .none (.some (.un .USub (.int 1 15301701) 15301602)) 15301503 15301108) (.ofL (.disp (.cons (.str ")" 15302303) .nil) 15302205)) 15301116) 15300423) .nil)))⟩
noncomputable def d_things_of:Df:=⟨"things_of",["tree"],["tree"],(.cons (.iff (.cmp .Eq (.sub (.var 0 15500704) (.int 0 15501201) 15500707) (.str "op" 15501804) 15500715) (.cons (.ret (.cut (.var 0 15601504) (.some (.int 1 15602001)) .none 15602002 15601508) 15600815) .nil) .nil ⟨155,4,156,23⟩) (.cons (.iff (.cmp .Eq (.sub (.var 0 15700704) (.int 0 15701201) 15700707) (.str "call" 15701806) 15700717) (.cons (.ret (.call 27 (.var 0 15802704) .nil 15801511 15801517) 15800824) .nil) .nil ⟨157,4,158,32⟩) (.cons (.ret (.var 0 15901104) 15900411) .nil)))⟩
noncomputable def d_call_things:Df:=⟨"call_things",["tree"],["tree"],(.cons (.iff (.cmp .Is (.sub (.var 0 16100704) (.int 2 16101201) 16100707) (.non 16101804) 16100715) (.cons (.ret (.bin .Add (.tup (.cons (.str "call" 16201606) (.cons (.sub (.var 0 16202404) (.int 1 16202901) 16202407) .nil)) 16201517) (.sub (.var 0 16203504) (.int 3 16204001) 16203507) 16201527) 16200834) .nil) .nil ⟨161,4,162,42⟩) (.cons (.ret (.bin .Add (.tup (.cons (.str "hand" 16301206) (.cons (.sub (.var 0 16302004) (.int 1 16302501) 16302007) (.cons (.sub (.var 0 16302904) (.int 2 16303401) 16302907) .nil))) 16301126) (.sub (.var 0 16304004) (.int 3 16304501) 16304007) 16301136) 16300443) .nil))⟩
noncomputable def d_law_cell:Df:=⟨"_law_cell",["_law_script","_law_k"],["_law_script","_law_k","_law_number"],(.cons (.set 2 (.bin .Add (.bin .Mult (.int 7919 16601804) (.var 1 16602506) 16601813) (.int 5 16603401) 16601817) 16600411 16600431) (.cons (.iff (.cmp .Gt (.len (.var 0 16701111) 16700703 16700716) (.int 0 16702601) 16700720) (.cons (.set 2 (.bin .Add (.bin .Mult (.sub (.var 0 16802211) (.bin .Mod (.var 1 16803406) (.len (.var 0 16804711) 16804303 16804316) 16803425) 16802238) (.int 48271 16806305) 16802246) (.bin .Mult (.int 7919 16807104) (.var 1 16807806) 16807113) 16802262) 16800811 16800876) .nil) .nil ⟨167,4,168,84⟩) (.cons (.set 2 (.bin .Mod (.var 2 16901811) (.int 2147483647 16903210) 16901824) 16900411 16900438) (.cons (.ret (.bin .Mod (.bin .Mult (.var 2 17001111) (.var 2 17002511) 17001125) (.int 2147483629 17003910) 17001138) 17000445) .nil))))⟩
noncomputable def qV:Tg:=(.one 2 17300806)
noncomputable def b_law_feed_1:Ss:=(.cons (.ex (.m1 .append (.var 1 17400814) (.bin .Mod (.var 0 17403014) (.int 4722366482869645213696 17404722) 17403039) 17400821 17400862) 17400862) (.cons (.set 0 (.bin .FloorDiv (.var 0 17502514) (.int 4722366482869645213696 17504322) 17502540) 17500814 17500857) .nil))
noncomputable def d_law_feed:Df:=⟨"_law_feed",["_law_cell_here"],["_law_cell_here","_law_feed_here","_law_k"],(.cons (.set 1 (.ofL (.disp .nil 17202102)) 17200414 17200419) (.cons (.forr qV (.rng (.int 60 17302402) 17301805 17301809) b_law_feed_1 ⟨173,4,175,65⟩) (.cons (.ret (.revT (.var 1 17601114) (.un .USub (.int 1 17602901) 17602802) 17602604 17601120) 17600427) .nil)))⟩
noncomputable def qj:Tg:=(.tup [(2,17900806),(3,17901614)] 17900822)
noncomputable def b_law_mixed_1:Ss:=(.cons (.set 4 (.bin .Mod (.bin .Add (.bin .Mult (.var 3 18002314) (.int 48271 18004005) 18002322) (.bin .Mult (.int 7919 18004804) (.var 2 18005506) 18004813) 18002338) (.int 2147483647 18006510) 18002253) 18000811 18000867) (.cons (.set 4 (.bin .Add (.bin .Mult (.bin .Mod (.bin .Mult (.var 4 18102211) (.var 4 18103611) 18102225) (.int 2147483629 18105010) 18102238) (.int 69621 18106305) 18102246) (.bin .Mult (.int 16807 18107105) (.var 2 18107906) 18107114) 18102263) 18100811 18100877) (.cons (.ex (.m1 .append (.var 1 18200814) (.bin .Mod (.bin .Mult (.var 4 18203011) (.var 4 18204411) 18203025) (.int 2147483587 18205810) 18203038) 18200821 18200861) 18200861) .nil)))
noncomputable def d_law_mixed:Df:=⟨"_law_mixed",["_law_cells"],["_law_cells","_law_feed_here","_law_k","_law_cell_here","_law_number"],(.cons (.set 1 (.ofL (.disp .nil 17802102)) 17800414 17800419) (.cons (.forr qj (.enum (.var 0 17904410) 17903409 17903421) b_law_mixed_1 ⟨179,4,182,69⟩) (.cons (.ret (.revT (.var 1 18301114) (.un .USub (.int 1 18302901) 18302802) 18302604 18301120) 18300427) .nil)))⟩
noncomputable def d_law_next:Df:=⟨"_law_next",["_law_feed_here"],["_law_feed_here"],(.cons (.iff (.cmp .Gt (.len (.var 0 18501114) 18500703 18500719) (.int 0 18502901) 18500723) (.cons (.ret (.m0 .pop (.var 0 18601514) 18601518 18601520) 18600827) .nil) .nil ⟨185,4,186,35⟩) (.cons (.ret (.int 0 18701101) 18700408) .nil))⟩
noncomputable def wn:Tg:=(.one 4 19200806)
noncomputable def b_law_name_1:Ss:=(.cons (.set 5 (.bin .Mod (.bin .Add (.var 2 19301909) (.bin .Mult (.bin .Mult (.int 11 19303102) (.var 4 19303606) 19303111) (.bin .Mod (.var 0 19304614) (.int 3 19306301) 19304618) 19303134) 19301946) (.int 26 19306902) 19301853) 19300807 19300863) (.cons (.set 3 (.bin .Add (.var 3 19402514) (.sub (.str "abcdefghijklmnopqrstuvwxyz" 19404228) (.var 5 19407107) 19404237) 19402554) 19400814 19400871) (.cons (.set 2 (.bin .FloorDiv (.var 2 19502009) (.int 26 19503302) 19502015) 19500809 19500827) .nil)))
noncomputable def d_law_name:Df:=⟨"_law_name",["_law_cell_here"],["_law_cell_here","_law_size","_law_rest","_law_name_here","_law_k","_law_at"],(.cons (.set 1 (.bin .Add (.int 1 18901601) (.bin .Mod (.var 0 18902014) (.int 8 18903701) 18902018) 18901622) 18900409 18900434) (.cons (.set 2 (.bin .FloorDiv (.var 0 19001614) (.int 8 19003401) 19001619) 19000409 19000431) (.cons (.set 3 (.str "" 19102102) 19100414 19100419) (.cons (.forr wn (.rng (.var 1 19202409) 19201805 19201816) b_law_name_1 ⟨192,4,195,35⟩) (.cons (.iff (.cmp .In (.var 3 19600714) (.ofL (.disp (.cons (.str "def" 19602605) (.cons (.str "handler" 19603309) (.cons (.str "on" 19604404) (.cons (.str "end" 19605005) (.cons (.str "let" 19605705) (.cons (.str "if" 19606404) (.cons (.str "call" 19607006) .nil))))))) 19602552)) 19600770) (.cons (.ret (.bin .Add (.var 3 19701514) (.str "z" 19703203) 19701520) 19700827) .nil) .nil ⟨196,4,197,35⟩) (.cons (.iff (.cmp .In (.var 3 19800714) (.ofL (.disp (.cons (.str "hand" 19802606) (.cons (.str "do" 19803404) (.cons (.str "handle" 19804008) (.cons (.str "go" 19805004) (.cons (.str "guard" 19805607) .nil))))) 19802539)) 19800757) (.cons (.ret (.bin .Add (.var 3 19901514) (.str "y" 19903203) 19901520) 19900827) .nil) .nil ⟨198,4,199,35⟩) (.cons (.ret (.var 3 20001114) 20000421) .nil)))))))⟩
noncomputable def e_law_part_1:E:=(.call 33 (.var 2 21906914) (.cons (.bin .Sub (.var 1 21908509) (.int 1 21909701) 21908513) .nil) 21905909 21905940)
noncomputable def c_law_part_1:Es:=.nil
noncomputable def qW:Tg:=(.one 0 21910406)
noncomputable def Wu:Scope:={ kind:=PySem.ScopeKind.function,names:=[ (PySem.Str.ofString ".0",PySem.NameKind.local),(PySem.Str.ofString "_law_k",PySem.NameKind.local),(PySem.Str.ofString "_law_part",PySem.NameKind.globalImplicit),(PySem.Str.ofString "_law_deep",PySem.NameKind.free),(PySem.Str.ofString "_law_feed_here",PySem.NameKind.free)],isGenerator:=false,isCoroutine:=false,more:=[]:PySem.Scope }
noncomputable def e_law_part_2:E:=(.call 33 (.var 2 21404114) (.cons (.bin .Sub (.var 1 21405709) (.int 1 21406901) 21405713) .nil) 21403109 21403140)
noncomputable def c_law_part_2:Es:=.nil
noncomputable def qX:Tg:=(.one 0 21407606)
noncomputable def Wv:Scope:={ kind:=PySem.ScopeKind.function,names:=[ (PySem.Str.ofString ".0",PySem.NameKind.local),(PySem.Str.ofString "_law_k",PySem.NameKind.local),(PySem.Str.ofString "_law_part",PySem.NameKind.globalImplicit),(PySem.Str.ofString "_law_deep",PySem.NameKind.free),(PySem.Str.ofString "_law_feed_here",PySem.NameKind.free)],isGenerator:=false,isCoroutine:=false,more:=[]:PySem.Scope }
noncomputable def d_law_part:Df:=⟨"_law_part",["_law_feed_here","_law_deep"],["_law_feed_here","_law_deep","_law_cell_here","_law_pick","_law_name_here","_law_block"],(.cons (.set 2 (.call 31 (.var 0 20203114) .nil 20202109 20202125) 20200414 20200442) (.cons (.set 3 (.bin .Mod (.var 2 20301614) (.int 12 20303302) 20301619) 20300409 20300431) (.cons (.iff (.or (.cmp .Eq (.var 1 20400709) (.int 0 20402001) 20400714) (.cmp .Eq (.len (.var 0 20402914) 20402503 20402519) (.int 0 20404801) 20402524) (.cons (.cmp .Lt (.var 3 20405309) (.int 2 20406501) 20405313) .nil) 20400759) (.cons (.iff (.cmp .Eq (.bin .Mod (.bin .FloorDiv (.var 2 20501114) (.int 12 20502902) 20501120) (.int 3 20503401) 20501124) (.int 0 20503901) 20501129) (.cons (.ret (.tup (.cons (.str "num" 20602005) (.cons (.bin .Mod (.bin .FloorDiv (.var 2 20602714) (.int 36 20604502) 20602720) (.int 1000 20605004) 20602727) .nil)) 20601936) 20601243) .nil) .nil ⟨205,8,206,55⟩) (.cons (.iff (.cmp .Eq (.bin .Mod (.bin .FloorDiv (.var 2 20701114) (.int 12 20702902) 20701120) (.int 3 20703401) 20701124) (.int 1 20703901) 20701129) (.cons (.ret (.tup (.cons (.str "num" 20802005) (.cons (.bin .Mod (.bin .Mult (.bin .FloorDiv (.var 2 20802714) (.int 36 20804502) 20802720) (.sub (.ofL (.disp (.cons (.int 1 20805101) (.cons (.int 1000000007000003 20805416) .nil)) 20805021)) (.bin .Mod (.bin .FloorDiv (.bin .FloorDiv (.var 2 20807214) (.int 12 20809002) 20807220) (.int 3 20809601) 20807225) (.int 2 20810001) 20807229) 20805052) 20802775) (.bin .Pow (.int 10 20810502) (.int 18 20811102) 20810508) 20802786) .nil)) 20801995) (Z 208 12 114)) .nil) .nil ⟨207,8,208,114⟩) (.cons (.ret (.tup (.cons (.str "var" 20901605) (.cons (.call 32 (.bin .FloorDiv (.var 2 20903314) (.int 36 20905102) 20903320) .nil 20902309 20902331) .nil)) 20901540) 20900847) .nil))) .nil ⟨204,4,209,55⟩) (.cons (.set 4 (.call 32 (.bin .FloorDiv (.var 2 21003114) (.int 48 21004902) 21003120) .nil 21002109 21002131) 21000414 21000448) (.cons (.iff (.cmp .Lt (.var 3 21100709) (.int 4 21101901) 21100713) (.cons (.ret (.tup (.cons (.str "op" 21201604) (.cons (.sub (.str "+-*<" 21202206) (.bin .Mod (.bin .FloorDiv (.var 2 21202914) (.int 12 21204702) 21202920) (.int 4 21205201) 21202924) 21202232) (.cons (.call 33 (.var 0 21206614) (.cons (.bin .Sub (.var 1 21208209) (.int 1 21209401) 21208213) .nil) 21205609 21205640) (.cons (.call 33 (.var 0 21210814) (.cons (.bin .Sub (.var 1 21212409) (.int 1 21213601) 21212413) .nil) 21209809 21209840) .nil)))) (Z 212 15 139)) (Z 212 8 139)) .nil) .nil ⟨211,4,212,139⟩) (.cons (.iff (.cmp .Eq (.var 3 21300709) (.int 5 21302001) 21300714) (.cons (.ret (.tupE (.bin .Add (.ofL (.disp (.cons (.str "if" 21402204) .nil) 21402106)) (.ofL (.comp e_law_part_2 qX (.rng (.int 3 21409201) 21408605 21408608) c_law_part_2 ["_law_k","_law_deep","_law_feed_here"] [none,some 1,some 0] Wv 21403065)) 21402174) 21401505 21401581) 21400888) .nil) .nil ⟨213,4,214,96⟩) (.cons (.iff (.or (.cmp .Eq (.var 3 21500709) (.int 6 21502001) 21500714) (.cmp .Eq (.var 3 21502509) (.int 7 21503801) 21502514) .nil 21500732) (.cons (.set 5 (.non 21602104) 21600810 21600817) (.cons (.iff (.cmp .Eq (.var 3 21701109) (.int 7 21702401) 21701114) (.cons (.set 5 (.call 32 (.call 31 (.var 0 21804514) .nil 21803509 21803525) .nil 21802509 21802536) 21801210 21801249) .nil) .nil ⟨217,8,218,61⟩) (.cons (.ret (.tup (.cons (.str "call" 21901606) (.cons (.var 4 21902414) (.cons (.var 5 21904010) (.cons (.tupL (.comp e_law_part_1 qW (.rng (.bin .Mod (.bin .FloorDiv (.var 2 21912014) (.int 12 21913802) 21912020) (.int 4 21914301) 21912024) 21911405 21911431) c_law_part_1 ["_law_k","_law_deep","_law_feed_here"] [none,some 1,some 0] Wu 21905888) 21905205 21905295) .nil)))) (Z 219 15 148)) (Z 219 8 148)) .nil))) .nil ⟨215,4,219,148⟩) (.cons (.iff (.cmp .Eq (.var 3 22000709) (.int 8 22002001) 22000714) (.cons (.ret (.tup (.cons (.str "do" 22101604) (.cons (.var 4 22102214) (.cons (.call 33 (.var 0 22104814) (.cons (.bin .Sub (.var 1 22106409) (.int 1 22107601) 22106413) .nil) 22103809 22103840) .nil))) 22101564) 22100871) .nil) .nil ⟨220,4,221,79⟩) (.cons (.iff (.or (.cmp .Eq (.var 3 22200709) (.int 4 22202001) 22200714) (.cmp .Eq (.var 3 22202509) (.int 9 22203801) 22202514) .nil 22200732) (.cons (.ret (.tup (.cons (.sub (.ofL (.disp (.cons (.str "let" 22301705) (.cons (.str "handle" 22302408) .nil)) 22301617)) (.c1 .int (.cmp .Eq (.var 3 22303809) (.int 9 22305101) 22303814) 22303403 22303419) 22301638) (.cons (.var 4 22305614) (.cons (.call 33 (.var 0 22308214) (.cons (.bin .Sub (.var 1 22309809) (.int 1 22311001) 22309813) .nil) 22307209 22307240) (.cons (.call 33 (.var 0 22312414) (.cons (.bin .Sub (.var 1 22314009) (.int 1 22315201) 22314013) .nil) 22311409 22311440) .nil)))) (Z 223 15 155)) (Z 223 8 155)) .nil) .nil ⟨222,4,223,155⟩) (.cons (.ret (.tup (.cons (.sub (.ofL (.disp (.cons (.str "go" 22401304) (.cons (.str "guard" 22401907) .nil)) 22401215)) (.bin .Sub (.var 3 22402809) (.int 10 22404002) 22402814) 22401231) (.cons (.call 33 (.var 0 22405514) (.cons (.bin .Sub (.var 1 22407109) (.int 1 22408301) 22407113) .nil) 22404509 22404540) (.cons (.call 33 (.var 0 22409714) (.cons (.bin .Sub (.var 1 22411309) (.int 1 22412501) 22411313) .nil) 22408709 22408740) .nil))) (Z 224 11 128)) (Z 224 4 128)) .nil))))))))))⟩
noncomputable def e_law_item_1:E:=(.call 32 (.call 31 (.var 1 23803814) .nil 23802809 23802825) .nil 23801809 23801836)
noncomputable def c_law_item_1:Es:=.nil
noncomputable def qY:Tg:=(.one 0 23805906)
noncomputable def Ww:Scope:={ kind:=PySem.ScopeKind.function,names:=[ (PySem.Str.ofString ".0",PySem.NameKind.local),(PySem.Str.ofString "_law_j",PySem.NameKind.local),(PySem.Str.ofString "_law_name",PySem.NameKind.globalImplicit),(PySem.Str.ofString "_law_next",PySem.NameKind.globalImplicit),(PySem.Str.ofString "_law_feed_here",PySem.NameKind.free)],isGenerator:=false,isCoroutine:=false,more:=[]:PySem.Scope }
noncomputable def e_law_item_3:E:=(.call 32 (.call 31 (.var 1 23604214) .nil 23603209 23603225) .nil 23602209 23602236)
noncomputable def c_law_item_3:Es:=.nil
noncomputable def qZ:Tg:=(.one 0 23606306)
noncomputable def Wx:Scope:={ kind:=PySem.ScopeKind.function,names:=[ (PySem.Str.ofString ".0",PySem.NameKind.local),(PySem.Str.ofString "_law_j",PySem.NameKind.local),(PySem.Str.ofString "_law_name",PySem.NameKind.globalImplicit),(PySem.Str.ofString "_law_next",PySem.NameKind.globalImplicit),(PySem.Str.ofString "_law_feed_here",PySem.NameKind.free)],isGenerator:=false,isCoroutine:=false,more:=[]:PySem.Scope }
noncomputable def wo:Tg:=(.one 7 23500806)
noncomputable def b_law_item_2:Ss:=(.cons (.set 8 (.ofL (.comp e_law_item_3 qZ (.rng (.int 3 23607901) 23607305 23607308) c_law_item_3 ["_law_j","_law_feed_here"] [none,some 0] Wx 23602161)) 23600810 23600874) (.cons (.ex (.m1 .append (.var 6 23700812) (.tupE (.bin .Add (.var 8 23703410) (.ofL (.disp (.cons (.call 33 (.var 0 23705814) (.cons (.bin .Sub (.var 1 23707409) (.int 1 23708601) 23707413) .nil) 23704809 23704840) .nil) 23704742)) 23703455) 23702805 23702862) 23700819 23700883) 23700883) .nil))
noncomputable def e_law_item_4:E:=(.call 32 (.call 31 (.var 1 23204914) .nil 23203909 23203925) .nil 23202909 23202936)
noncomputable def c_law_item_4:Es:=.nil
noncomputable def y0:Tg:=(.one 0 23207006)
noncomputable def Wy:Scope:={ kind:=PySem.ScopeKind.function,names:=[ (PySem.Str.ofString ".0",PySem.NameKind.local),(PySem.Str.ofString "_law_k",PySem.NameKind.local),(PySem.Str.ofString "_law_name",PySem.NameKind.globalImplicit),(PySem.Str.ofString "_law_next",PySem.NameKind.globalImplicit),(PySem.Str.ofString "_law_feed_here",PySem.NameKind.free)],isGenerator:=false,isCoroutine:=false,more:=[]:PySem.Scope }
noncomputable def d_law_item:Df:=⟨"_law_item",["_law_feed_here","_law_deep"],["_law_feed_here","_law_deep","_law_cell_here","_law_name_here","_law_block","_law_params","_law_clauses","_law_k","_law_given"],(.cons (.set 2 (.call 31 (.var 0 22603114) .nil 22602109 22602125) 22600414 22600442) (.cons (.set 3 (.call 32 (.bin .FloorDiv (.var 2 22703114) (.int 24 22704902) 22703120) .nil 22702109 22702131) 22700414 22700448) (.cons (.iff (.cmp .Eq (.bin .Mod (.var 2 22800714) (.int 2 22802401) 22800718) (.int 0 22802901) 22800723) (.cons (.set 4 (.non 22902104) 22900810 22900817) (.cons (.iff (.cmp .Eq (.bin .Mod (.bin .FloorDiv (.var 2 23001114) (.int 2 23002901) 23001119) (.int 2 23003301) 23001123) (.int 1 23003801) 23001128) (.cons (.set 4 (.call 32 (.call 31 (.var 0 23104514) .nil 23103509 23103525) .nil 23102509 23102536) 23101210 23101249) .nil) .nil ⟨230,8,231,61⟩) (.cons (.set 5 (.tupL (.comp e_law_item_4 y0 (.rng (.bin .Mod (.bin .FloorDiv (.var 2 23208614) (.int 4 23210401) 23208619) (.int 4 23210801) 23208623) 23208005 23208030) c_law_item_4 ["_law_k","_law_feed_here"] [none,some 0] Wy 23202883) 23202205 23202290) 23200811 (Z 232 8 112)) (.cons (.ret (.tup (.cons (.str "def" 23301605) (.cons (.var 3 23302314) (.cons (.var 5 23303911) (.cons (.var 4 23305210) (.cons (.call 33 (.var 0 23307414) (.cons (.var 1 23309009) .nil) 23306409 23306436) .nil))))) 23301586) 23300893) .nil)))) .nil ⟨228,4,233,101⟩) (.cons (.set 6 (.ofL (.disp .nil 23401902)) 23400412 23400417) (.cons (.forr wo (.rng (.bin .Mod (.bin .FloorDiv (.var 2 23502414) (.int 2 23504201) 23502419) (.int 3 23504601) 23502423) 23501805 23501830) b_law_item_2 ⟨235,4,237,91⟩) (.cons (.set 8 (.ofL (.comp e_law_item_1 qY (.rng (.int 2 23807501) 23806905 23806908) c_law_item_1 ["_law_j","_law_feed_here"] [none,some 0] Ww 23801761)) 23800410 23800474) (.cons (.ret (.tup (.cons (.str "handler" 23901209) (.cons (.var 3 23902314) (.cons (.tupE (.var 6 23904512) 23903905 23903919) (.cons (.tupE (.bin .Add (.var 8 23906610) (.ofL (.disp (.cons (.call 33 (.var 0 23909014) (.cons (.bin .Sub (.var 1 23910609) (.int 1 23911801) 23910613) .nil) 23908009 23908040) .nil) 23907942)) 23906655) 23906005 23906062) .nil)))) (Z 239 11 123)) (Z 239 4 123)) .nil)))))))⟩
noncomputable def jw:Tg:=(.one 3 24200806)
noncomputable def b_law_nest_1:Ss:=(.cons (.set 4 (.call 32 (.bin .FloorDiv (.var 0 24303514) (.bin .Add (.var 3 24305406) (.int 2 24306301) 24305410) 24303530) .nil 24302509 24302541) 24300814 24300858) (.cons (.set 5 (.bin .Mod (.bin .FloorDiv (.var 0 24402014) (.bin .Add (.bin .Mult (.int 3 24403901) (.var 3 24404306) 24403910) (.int 1 24405201) 24403914) 24402034) (.int 4 24405701) 24402038) 24400809 24400850) (.cons (.iff (.cmp .Eq (.var 5 24501109) (.int 0 24502401) 24501114) (.cons (.set 2 (.tup (.cons (.str "guard" 24602507) (.cons (.tup (.cons (.str "num" 24603505) (.cons (.var 3 24604206) .nil)) 24603415) (.cons (.var 2 24605109) .nil))) 24602437) 24601209 24601249) .nil) .nil ⟨245,8,246,61⟩) (.cons (.iff (.cmp .Eq (.var 5 24701109) (.int 1 24702401) 24701114) (.cons (.set 2 (.tup (.cons (.str "do" 24802504) (.cons (.var 4 24803114) (.cons (.var 2 24804709) .nil))) 24802433) 24801209 24801245) .nil) .nil ⟨247,8,248,57⟩) (.cons (.iff (.cmp .Eq (.var 5 24901109) (.int 2 24902401) 24901114) (.cons (.set 2 (.tup (.cons (.str "call" 25002506) (.cons (.var 4 25003314) (.cons (.non 25004904) (.cons (.tup (.cons (.tup (.cons (.str "var" 25005705) (.cons (.var 4 25006414) .nil)) 25005623) (.cons (.var 2 25008109) .nil)) 25005536) .nil)))) 25002468) 25001209 25001280) .nil) .nil ⟨249,8,250,92⟩) (.cons (.iff (.cmp .Eq (.var 5 25101109) (.int 3 25102401) 25101114) (.cons (.set 2 (.tup (.cons (.str "if" 25202504) (.cons (.var 2 25203109) (.cons (.tup (.cons (.str "num" 25204305) (.cons (.int 7 25205001) .nil)) 25204210) (.cons (.tup (.cons (.str "num" 25205505) (.cons (.var 3 25206206) .nil)) 25205415) .nil)))) 25202446) 25201209 25201258) .nil) .nil ⟨251,8,252,70⟩) .nil))))))
noncomputable def d_law_nest:Df:=⟨"_law_nest",["_law_cell_here","_law_deep"],["_law_cell_here","_law_deep","_law_tree","_law_k","_law_name_here","_law_pick"],(.cons (.set 2 (.tup (.cons (.str "num" 24101705) (.cons (.bin .Mod (.var 0 24102414) (.bin .Pow (.int 10 24104102) (.int 18 24104702) 24104108) 24102425) .nil)) 24101634) 24100409 24100446) (.cons (.forr jw (.rng (.var 1 24202409) 24201805 24201816) b_law_nest_1 ⟨242,4,252,70⟩) (.cons (.ret (.var 2 25301109) 25300416) .nil)))⟩
noncomputable def e_law_program_1:E:=(.call 34 (.var 1 25702814) (.cons (.int 5 25704401) .nil) 25701809 25701828)
noncomputable def c_law_program_1:Es:=.nil
noncomputable def wA:Tg:=(.one 0 25705106)
noncomputable def yR:Scope:={ kind:=PySem.ScopeKind.function,names:=[ (PySem.Str.ofString ".0",PySem.NameKind.local),(PySem.Str.ofString "_law_k",PySem.NameKind.local),(PySem.Str.ofString "_law_item",PySem.NameKind.globalImplicit),(PySem.Str.ofString "_law_feed_here",PySem.NameKind.free)],isGenerator:=false,isCoroutine:=false,more:=[]:PySem.Scope }
noncomputable def d_law_program:Df:=⟨"_law_program",["_law_script"],["_law_script","_law_cell_here","_law_feed_here","_law_items","_law_nest_here"],(.cons (.set 1 (.call 28 (.var 0 25503111) (.cons (.int 0 25504401) .nil) 25502109 25502125) 25500414 25500442) (.cons (.set 2 (.call 30 (.cut (.var 0 25603211) (.some (.int 2 25604401)) (.some (.int 36 25604602)) 25604404 25603217) .nil 25602110 25602129) 25600414 25600446) (.cons (.set 3 (.ofL (.comp e_law_program_1 wA (.rng (.bin .Mod (.var 1 25706714) (.int 4 25708401) 25706718) 25706105 25706125) c_law_program_1 ["_law_k","_law_feed_here"] [none,some 2] yR 25701770)) 25700410 25700483) (.cons (.iff (.cmp .Eq (.bin .Mod (.bin .FloorDiv (.var 1 25800714) (.int 4 25802501) 25800719) (.int 4 25802901) 25800723) (.int 1 25803401) 25800728) (.cons (.set 4 (.call 35 (.call 28 (.var 0 25904511) (.cons (.int 1 25905801) .nil) 25903509 25903525) (.cons (.bin .Mod (.bin .FloorDiv (.call 28 (.var 0 25907211) (.cons (.int 1 25908501) .nil) 25906209 25906225) (.int 7 25909101) 25906230) (.int 24 25909502) 25906235) .nil) 25902509 25902573) 25900814 25900890) (.cons (.ex (.m1 .append (.var 3 26000810) (.tup (.cons (.str "def" 26002705) (.cons (.call 32 (.bin .FloorDiv (.var 1 26004414) (.int 16 26006202) 26004420) .nil 26003409 26003431) (.cons (.tup .nil 26006702) (.cons (.non 26007104) (.cons (.var 4 26007714) .nil))))) 26002666) 26000817 26000885) 26000885) .nil)) .nil ⟨258,4,260,93⟩) (.cons (.ret (.tupE (.var 3 26101710) 26101105 26101117) 26100424) .nil)))))⟩
noncomputable def e_law_alike_1:E:=(.call 37 (.var 0 26603106) (.cons (.var 1 26603906) .nil) 26602010 26602026)
noncomputable def c_law_alike_1:Es:=.nil
noncomputable def qk:Tg:=(.tup [(0,26605106),(1,26605906)] 26605114)
noncomputable def Jd:Scope:={ kind:=PySem.ScopeKind.function,names:=[ (PySem.Str.ofString ".0",PySem.NameKind.local),(PySem.Str.ofString "_law_a",PySem.NameKind.local),(PySem.Str.ofString "_law_b",PySem.NameKind.local),(PySem.Str.ofString "_law_alike",PySem.NameKind.globalImplicit)],isGenerator:=false,isCoroutine:=false,more:=[]:PySem.Scope }
noncomputable def d_law_alike:Df:=⟨"_law_alike",["_law_found","_law_due"],["_law_found","_law_due"],(.cons (.iff (.isi 3 (.var 1 26301808) 26300710 26302805 26300727) (.cons (.iff (.or (.un .Not (.isi 3 (.var 0 26402610) 26401510 26403805 26401529) 26401133) (.cmp .NotEq (.len (.var 0 26405210) 26404803 26404815) (.len (.var 1 26407108) 26406703 26406713) 26404832) .nil 26401169) (.cons (.ret (.bl false 26501905) 26501212) .nil) .nil ⟨264,8,265,24⟩) (.cons (.ret (.c1 .all (.ofL (.comp e_law_alike_1 qk (.zip (.var 0 26607310) (.var 1 26608508) 26606903 26606925) c_law_alike_1 ["_law_a","_law_b"] [none,none] Jd 26601976)) 26601503 26601581) 26600888) .nil)) .nil ⟨263,4,266,96⟩) (.cons (.iff (.isi 2 (.var 1 26701808) 26700710 26702803 26700725) (.cons (.ret (.and (.isi 2 (.var 0 26802610) 26801510 26803803 26801527) (.cmp .Eq (.var 0 26804710) (.var 1 26806108) 26804722) .nil 26801554) 26800861) .nil) .nil ⟨267,4,268,69⟩) (.cons (.iff (.cmp .Is (.var 1 26900708) (.non 26901904) 26900716) (.cons (.ret (.cmp .Is (.var 0 27001510) (.non 27002904) 27001518) 27000825) .nil) .nil ⟨269,4,270,33⟩) (.cons (.ret (.and (.isi 0 (.var 0 27102210) 27101110 27103403 27101127) (.un .Not (.isi 1 (.var 0 27105910) 27104810 27107104 27104828) 27104432) (.cons (.cmp .Eq (.var 0 27108310) (.var 1 27109708) 27108322) .nil) 27101195) (Z 271 4 106)) .nil))))⟩
noncomputable def e_law_large_2:E:=(.tup (.cons (.sub (.var 1 28002910) (.var 0 28004006) 28002918) (.cons (.sub (.var 1 28004910) (.bin .Sub (.var 0 28006006) (.int 1 28006901) 28006010) 28004922) (.cons (.sub (.var 1 28007310) (.int 9 28008401) 28007313) (.cons (.tup (.cons (.str "num" 28008905) (.cons (.bin .Add (.var 2 28009608) (.var 0 28010706) 28009617) .nil)) 28008826) .nil)))) 28002887)
noncomputable def c_law_large_2:Es:=.nil
noncomputable def qm:Tg:=(.one 0 28012006)
noncomputable def Je:Scope:={ kind:=PySem.ScopeKind.function,names:=[ (PySem.Str.ofString ".0",PySem.NameKind.local),(PySem.Str.ofString "_law_j",PySem.NameKind.local),(PySem.Str.ofString "_law_names",PySem.NameKind.free),(PySem.Str.ofString "_law_own",PySem.NameKind.free)],isGenerator:=false,isCoroutine:=false,more:=[]:PySem.Scope }
noncomputable def e_law_large_3:E:=(.call 32 (.bin .FloorDiv (.var 1 27703208) (.bin .Add (.var 0 27704506) (.int 1 27705401) 27704510) 27703224) .nil 27702209 27702235)
noncomputable def c_law_large_3:Es:=.nil
noncomputable def jN:Tg:=(.one 0 27706206)
noncomputable def Jf:Scope:={ kind:=PySem.ScopeKind.function,names:=[ (PySem.Str.ofString ".0",PySem.NameKind.local),(PySem.Str.ofString "_law_j",PySem.NameKind.local),(PySem.Str.ofString "_law_name",PySem.NameKind.globalImplicit),(PySem.Str.ofString "_law_own",PySem.NameKind.free)],isGenerator:=false,isCoroutine:=false,more:=[]:PySem.Scope }
noncomputable def qo:Tg:=(.one 3 27500806)
noncomputable def b_law_large_1:Ss:=(.cons (.set 4 (.call 28 (.var 0 27602911) (.cons (.bin .Add (.int 2 27604201) (.var 3 27604606) 27604210) .nil) 27601909 27601934) 27600808 27600845) (.cons (.set 5 (.ofL (.comp e_law_large_3 jN (.rng (.int 11 27707802) 27707205 27707209) c_law_large_3 ["_law_j","_law_own"] [none,some 4] Jf 27702161)) 27700810 27700874) (.cons (.ex (.m1 .append (.var 2 27800810) (.tup (.cons (.str "def" 27802705) (.cons (.sub (.var 5 27803410) (.int 8 27804501) 27803413) (.cons (.tupE (.cut (.var 5 27805510) .none (.some (.bin .Mod (.var 4 27806708) (.int 9 27807801) 27806712)) 27806613 27805525) 27804905 27804932) (.cons (.non 27808304) (.cons (.tup (.cons (.str "call" 27809006) (.cons (.sub (.var 5 27809810) (.int 9 27810901) 27809813) (.cons (.non 27811304) (.cons (.tup .nil 27811902) .nil)))) 27808933) .nil))))) 27802697) 27800817 (Z 278 8 124)) (Z 278 8 124)) (.cons (.iff (.cmp .Eq (.bin .Mod (.var 4 27901108) (.int 2 27902201) 27901112) (.int 1 27902701) 27901117) (.cons (.set 6 (.ofL (.comp e_law_large_2 qm (.rng (.bin .Mod (.bin .FloorDiv (.var 4 28013608) (.int 2 28014801) 28013613) (.int 9 28015201) 28013617) 28013005 28013024) c_law_large_2 ["_law_j","_law_names","_law_own"] [none,some 5,some 4] Je (Z 280 27 155))) 28001212 (Z 280 12 155)) (.cons (.put (.var 2 28101210) (.var 3 28102306) (.tup (.cons (.str "handler" 28103409) (.cons (.sub (.var 5 28104510) (.int 10 28105602) 28104514) (.cons (.tupE (.var 6 28106712) 28106105 28106119) (.cons (.tup (.cons (.sub (.var 5 28108310) (.int 0 28109401) 28108313) (.cons (.sub (.var 5 28109810) (.int 1 28110901) 28109813) (.cons (.tup (.cons (.str "var" 28111405) (.cons (.sub (.var 5 28112110) (.int 8 28113201) 28112113) .nil)) 28111322) .nil))) 28108254) .nil)))) (Z 281 33 137)) 28101218 (Z 281 12 137)) .nil)) .nil ⟨279,8,281,137⟩) .nil))))
noncomputable def d_law_large:Df:=⟨"_law_large",["_law_script"],["_law_script","_law_cell_here","_law_items","_law_k","_law_own","_law_names","_law_clauses"],(.cons (.set 1 (.call 28 (.var 0 27303111) (.cons (.int 1 27304401) .nil) 27302109 27302125) 27300414 27300442) (.cons (.set 2 (.ofL (.disp .nil 27401702)) 27400410 27400415) (.cons (.forr qo (.rng (.bin .Add (.int 1 27502401) (.bin .Mod (.var 1 27502814) (.int 40 27504502) 27502819) 27502423) 27501805 27501830) b_law_large_1 ⟨275,4,281,137⟩) (.cons (.ret (.tupE (.var 2 28201710) 28201105 28201117) 28200424) .nil))))⟩
noncomputable def e_law_any_1:E:=(.call 34 (.call 29 (.var 0 28504214) .nil 28503209 28503225) (.cons (.int 21 28505902) .nil) 28502209 28502240)
noncomputable def c_law_any_1:Es:=.nil
noncomputable def wS:Tg:=(.one 0 28506714)
noncomputable def Qp:Scope:={ kind:=PySem.ScopeKind.function,names:=[ (PySem.Str.ofString ".0",PySem.NameKind.local),(PySem.Str.ofString "_law_cell_here",PySem.NameKind.local),(PySem.Str.ofString "_law_item",PySem.NameKind.globalImplicit),(PySem.Str.ofString "_law_feed",PySem.NameKind.globalImplicit)],isGenerator:=false,isCoroutine:=false,more:=[]:PySem.Scope }
noncomputable def d_law_any:Df:=⟨"_law_any",["_law_script"],["_law_script"],(.cons (.iff (.and (.cmp .Gt (.len (.var 0 28401111) 28400703 28400716) (.int 0 28402601) 28400720) (.cmp .Eq (.bin .Mod (.sub (.var 0 28403211) (.int 0 28404401) 28403214) (.int 2 28404901) 28403218) (.int 1 28405401) 28403223) .nil 28400748) (.cons (.ret (.tupL (.comp e_law_any_1 wS (.seq (.cut (.var 0 28508511) (.some (.int 1 28509701)) (.some (.int 11 28509902)) 28509704 28508517)) c_law_any_1 ["_law_cell_here"] [none] Qp 28502182) 28501505 28501589) 28500896) .nil) .nil ⟨284,4,285,104⟩) (.cons (.iff (.cmp .Eq (.bin .Mod (.bin .FloorDiv (.call 28 (.var 0 28601711) (.cons (.int 0 28603001) .nil) 28600709 28600725) (.int 64 28603602) 28600731) (.int 5 28604101) 28600735) (.int 1 28604601) 28600740) (.cons (.ret (.call 38 (.var 0 28702611) .nil 28701510 28701523) 28700830) .nil) .nil ⟨286,4,287,38⟩) (.cons (.ret (.call 36 (.var 0 28802411) .nil 28801112 28801125) 28800432) .nil)))⟩
noncomputable def d_law:Df:=⟨"law",["_law_script"],["_law_script","_law_program_here","_law_text","_law_found","_law_other","_law_join"],(.cons (.set 1 (.call 39 (.var 0 29003311) .nil 29002408 29002421) 29000417 29000441) (.cons (.set 2 (.call 18 (.var 1 29102217) .nil 29101605 29101624) 29100409 29100436) (.cons (.iff (.un .Not (.isi 2 (.var 2 29202209) 29201110 29203303 29201126) 29200730) (.cons (.ret (.bl false 29301505) 29300812) .nil) .nil ⟨292,4,293,20⟩) (.cons (.set 3 (.call 2 (.var 2 29402209) .nil 29401704 29401715) 29400410 29400428) (.cons (.iff (.un .Not (.call 37 (.var 3 29502210) (.cons (.var 1 29503417) .nil) 29501110 29501141) 29500745) (.cons (.ret (.bl false 29601505) 29600812) .nil) .nil ⟨295,4,296,20⟩) (.cons (.iff (.cmp .NotEq (.call 18 (.var 3 29701310) .nil 29700705 29700717) (.var 2 29702809) 29700730) (.cons (.ret (.bl false 29801505) 29800812) .nil) .nil ⟨297,4,298,20⟩) (.cons (.set 4 (.cut (.call 36 (.bin .Add (.ofL (.disp (.cons (.bin .FloorDiv (.call 28 (.var 0 29904111) (.cons (.int 0 29905401) .nil) 29903109 29903125) (.int 16 29906002) 29903131) .nil) 29903033)) (.cut (.var 0 29906611) (.some (.int 9 29907801)) (.some (.int 40 29908002)) 29907804 29906617) 29903053) .nil 29901712 29901767) .none (.some (.bin .Sub (.int 40 29908602) (.len (.var 1 29909517) 29909103 29909122) 29908627)) 29908528 29901797) 29900410 (Z 299 4 114)) (.cons (.set 5 (.sub (.ofL (.disp (.cons (.str "\n" 30001704) (.cons (.str "" 30002302) (.cons (.str " \n" 30002705) .nil))) 30001617)) (.bin .Mod (.call 28 (.var 0 30004411) (.cons (.int 1 30005701) .nil) 30003409 30003425) (.int 3 30006201) 30003429) 30001648) 30000409 30000460) (.cons (.ret (.call 37 (.call 2 (.bin .Add (.bin .Add (.var 2 30102709) (.var 5 30103909) 30102721) (.call 18 (.var 4 30105710) .nil 30105105 30105117) 30102741) .nil 30102204 30102247) (.cons (.bin .Add (.var 1 30107117) (.var 4 30109110) 30107130) .nil) 30101110 30101191) 30100498) .nil)))))))))⟩
noncomputable def defs:List Df:=[d_is_name,d_is_number,d_read,d_words_of,d_nested,d_item_of,d_function_of,d_handler_of,d_headed,d_formed,d_read_as,d_expression_of,d_call_of,d_hand_of,d_expressions_of,d_head_of,d_names_of,d_name_of,d_shown,d_item_text,d_function_text,d_handler_text,d_headed_text,d_bracketed,d_expression_text,d_spread,d_things_of,d_call_things,d_law_cell,d_law_feed,d_law_mixed,d_law_next,d_law_name,d_law_part,d_law_item,d_law_nest,d_law_program,d_law_alike,d_law_large,d_law_any,d_law]
section
variable {cl:Nat->List D->Hh->Res D}
theorem ZI {e:E}{ρ:En}{h h':Hh}{p:Pos}{b:Bool}(q:e.evT cl ρ h=.ok b h'):E.evT cl (.un .Not e p) ρ h=.ok (!b) h':=bnd (x:=.bl (!b)) (bnd (zN q) rfl) rfl
theorem O8 {c a b:E}{p:Pos}{ρ:En}{h h':Hh}{o:Res D}(hc:c.evT cl ρ h=.ok true h')(k:a.ev cl ρ h'=o):E.ev cl (.ite c a b p) ρ h=o:=bnd (zN hc) k
theorem O9 {c a b:E}{p:Pos}{ρ:En}{h h':Hh}{o:Res D}(hc:c.evT cl ρ h=.ok false h')(k:b.ev cl ρ h'=o):E.ev cl (.ite c a b p) ρ h=o:=bnd (zN hc) k
theorem zi {e:E}{r:Es}{ρ:En}{h h' h2:Hh}{x:D}{xs:List D}(a:e.ev cl ρ h=.ok x h')(b:r.ev cl ρ h'=.ok xs h2):(Es.cons e r).ev cl ρ h=.ok (x::xs) h2:=bnd a (bnd b rfl)
theorem zU {es:Es}{p:Pos}{ρ:En}{h h':Hh}{xs:List D}(a:es.ev cl ρ h=.ok xs h')(l:xs.length<=1000):E.ev cl (.tup es p) ρ h=.ok (.tup xs) h':=bnd a (if_pos l)
theorem zb {i:Nat}{a:E}{p p1:Pos}{ρ:En}{h h':Hh}{x:D}{o:Res D}(e:a.ev cl ρ h=.ok x h')(k:cl i [x] h'=o):E.ev cl (.call i a .nil p p1) ρ h=o:=bnd e k
theorem zP {i:Nat}{a b:E}{p p1:Pos}{ρ:En}{h h' h2:Hh}{x y:D}{o:Res D}(e:a.ev cl ρ h=.ok x h')(g:b.ev cl ρ h'=.ok y h2)(k:cl i [x,y] h2=o):E.ev cl (.call i a (.cons b .nil) p p1) ρ h=o:=bnd e (bnd (zi g rfl) k)
theorem Oa {i:Nat}{a b c:E}{p p1:Pos}{ρ:En}{h h' h2 h3:Hh}{x y z:D}{o:Res D}(e:a.ev cl ρ h=.ok x h')(g:b.ev cl ρ h'=.ok y h2)(g2:c.ev cl ρ h2=.ok z h3)(k:cl i [x,y,z] h3=o):E.ev cl (.call i a (.cons b (.cons c .nil)) p p1) ρ h=o:=bnd e (bnd (zi g (zi g2 rfl)) k)
theorem jj {n k:Nat}{xs:List D}{d:D}{h:Hh}(g:h[n]?=some (.lst xs))(e:xs[k]?=some d):zY (.loc n) (.int (k:Nat)) h=.ok d h:=by
 unfold zY;dsimp only;rw [g];dsimp only;rw [PI.atI_nat,e]
theorem y7 {n:Nat}{xs:List D}{h:Hh}(g:h[n]?=some (.lst xs)):jL (.loc n) h=.ok (.int (xs.length:Nat)) h:=by
 unfold jL;dsimp only;rw [zv g]
theorem qp {i:Nat}{ρ:En}{h:Hh}{v k:Int}{p p1 p2:Pos}(q:ρ[i]?=some (some (.int v)))(hk:0<k/\k<1073741824):E.ev cl (.bin .FloorDiv (.var i p) (.int k p1) p2) ρ h=.ok (.int (v/k)) h:=bnd (x:=.int v) (by rw [qB,q]) (bnd rfl (fdk hk))
theorem jJ {i:Nat}{ρ:En}{h:Hh}{v k m:Int}{p p1 p2 p3 p4:Pos}(q:ρ[i]?=some (some (.int v)))(hk:0<k/\k<1073741824)(hm:0<m):E.ev cl (.bin .Mod (.bin .FloorDiv (.var i p) (.int k p1) p2) (.int m p3) p4) ρ h=.ok (.int (v/k%m)) h:=bnd (qp q hk) (bnd rfl (mdk hm))
theorem wu {e:E}{ρ:En}{h h':Hh}{x k:Int}{b:Bool}{p p1:Pos}(q:e.ev cl ρ h=.ok (.int x) h')(hb:(x==k)=b):E.evT cl (.cmp .Eq e (.int k p) p1) ρ h=.ok b h':=zk q rfl (by rw [eqI,hb])
theorem j1 {x k:Int}(h:x=k):(x==k)=true:=by rw [h];exact beq_self_eq_true k
theorem zV {x k:Int}(h:x≠k):(x==k)=false:=beq_false_of_ne h
theorem Yw {l:L}{p p1:Pos}{ρ:En}{h h':Hh}{xs:List D}(a:l.ev cl ρ h=.ok xs h'):E.ev cl (.tupL l p p1) ρ h=.ok (.tup xs) h':=bnd a rfl
theorem Yx {elt:E}{tg:Tg}{it:I}{ct:Es}{ns:List Str}{cap:List (Option Nat)}{sc:Scope}{p:Pos}{ρ:En}{h h' h2:Hh}{q:Ck×List D}{xs:List D}(hi:it.ev cl ρ h=.ok q h')(hl:q.2.length<=1000000)(hc:zr q.1 (zz tg (zS cap ρ) (λ ρ' h2=>ct.evC cl ρ' h2) (λ ρ' h2=>elt.ev cl ρ' h2)) q.2 [] h'=.ok xs h2):L.ev cl (.comp elt tg it ct ns cap sc p) ρ h=.ok xs h2:=bnd hi ((if_pos hl).trans hc)
theorem Ob {a b:E}{ρ:En}{h h1 h2:Hh}{n m:Nat}{xs ys:List D}{p:Pos}(ea:a.ev cl ρ h=.ok (.loc n) h1)(eb:b.ev cl ρ h1=.ok (.loc m) h2)(gn:h2[n]?=some (.lst xs))(gm:h2[m]?=some (.lst ys))(hl:xs.length+ys.length<=1000000):E.ev cl (.bin .Add a b p) ρ h=.ok (.loc h2.length) (h2++[.lst (xs++ys)]):=by
 refine bnd ea (bnd eb ?_);show BI (.loc n) (.loc m) h2=_;unfold BI;dsimp only;rw [gn,gm];exact if_pos hl
theorem Qq {i n:Nat}{e:E}{ρ:En}{h h':Hh}{d:D}{ds0 ds:List D}{p p1 p2:Pos}(ei:ρ[i]?=some (some (.loc n)))(g:h[n]?=some (.lst ds0))(ee:e.ev cl ρ h=.ok d h')(g':h'[n]?=some (.lst ds))(hl:ds.length<1000000):E.ev cl (.m1 .append (.var i p) e p1 p2) ρ h=.ok .non (h'.set n (.lst (ds++[d]))):=by
 rw [vm1,qB,ei];show onL (.loc n) h _=_;rw [O1 g,ee];show m1D .append (.loc n) d h'=_;unfold m1D;dsimp only;rw [g'];exact if_pos hl
end
theorem ZJ (n:Int):(G.nd (.num n) []).d=.tup [.str "num",.int n]:=by rw [G.d,G.ds];rfl
theorem Oc (x:Str):(G.nd (.var x) []).d=.tup [.str "var",.str x]:=by rw [G.d,G.ds];rfl
theorem d_2 (k:Kd)(a b:G):(G.nd k [a,b]).d=k.enc [a.d,b.d]:=by rw [G.d,G.ds,G.ds,G.ds]
theorem d_1 (k:Kd)(a:G):(G.nd k [a]).d=k.enc [a.d]:=by rw [G.d,G.ds,G.ds]
noncomputable def Yy:S->Ss
 | .iff _ a _ _=>a
 | _=>.nil
noncomputable def jW:Ss->S
 | .cons s _=>s
 | .nil=>.ret (.non ⟨0,0,0,0⟩) ⟨0,0,0,0⟩
noncomputable def Kd.heads:Kd->List Str
 | .num _ | .var _=>[]
 | .op s=>[s]
 | .lett x=>["let",x]
 | .ite=>["if"]
 | .call f none=>["call",f]
 | .call f (some g)=>["hand",f,g]
 | .doo d=>["do",d]
 | .handle h=>["handle",h]
 | .go=>["go"]
 | .guard=>["guard"]
noncomputable def Kd.leaf:Kd->Option Str
 | .num n=>some (Str.ofString (toString n))
 | .var x=>some x
 | _=>none
noncomputable def brk (ts:List (List Nat)):List Nat:=40::(zC [32] ts++[41])
noncomputable def Kd.tx (k:Kd)(ts:List (List Nat)):List Nat:=match Kd.leaf k with
 | some x=>cs x
 | none=>brk ((Kd.heads k).map cs++ts)
mutual
noncomputable def tx:G->List Nat
 | .nd k ps=>Kd.tx k (txs ps)
noncomputable def txs:List G->List (List Nat)
 | []=>[]
 | g::r=>tx g::txs r
end
theorem Wz:∀ gs:List G,txs gs=gs.map tx
 | []=>by rw [txs];rfl
 | g::r=>by rw [txs,Wz r];rfl
mutual
noncomputable def ms:G->Nat
 | .nd _ ps=>10+mss ps
noncomputable def mss:List G->Nat
 | []=>0
 | g::r=>ms g+2+mss r
end
noncomputable def low (l:List Nat):Prop:=∀ c∈l,97<=c/\c<=122
noncomputable def resW:List Str:=["def","handler","on","end","let","if","call","hand","do","handle","go","guard"]
structure Nm (x:Str):Prop where
 lo:low (cs x)
 ne:cs x≠[]
 le:(cs x).length<=8
 nr:resW.any (λ y=>y==x)=false
theorem Nm.wd {x:Str}(h:Nm x):Wd x:=⟨h.ne,Y0t h.le (by decide),λ c hc=>by have:=h.lo c hc;omega⟩
noncomputable def Sg (s:Str):Prop:=s="+"\/s="-"\/s="*"\/s="<"
noncomputable def Kd.wd (k:Kd)(n:Nat):Prop:=match k with
 | .num m=>0<=m/\m<1000000000000000000/\n=0
 | .var x=>Nm x/\n=0
 | .op s=>Sg s
 | .lett x=>Nm x
 | .ite=>True
 | .call f g=>Nm f/\∀ x,g=some x->Nm x
 | .doo d=>Nm d
 | .handle h=>Nm h
 | .go=>True
 | .guard=>True
mutual
noncomputable def wdG:G->Prop
 | .nd k ps=>Kd.wd k ps.length/\wdGs ps
noncomputable def wdGs:List G->Prop
 | []=>True
 | g::r=>wdG g/\wdGs r
end
theorem wdGs_mem:∀ {gs:List G},wdGs gs ↔ ∀ g∈gs,wdG g
 | []=>by simp [wdGs]
 | g::r=>by simp [wdGs,wdGs_mem (gs:=r)]
noncomputable def hdD (ws:List Str)(g:G):D:=.tup (ws.map .str++[g.d])
inductive Itm where
 | fn (f:Str) (ps:List Str) (b:Option Str) (g:G)
 | hd (n:Str) (cl:List (List Str×G)) (e:List Str×G)
noncomputable def Itm.d:Itm->D
 | .fn f ps b g=>.tup [.str "def",.str f,.tup (ps.map .str),yQ b,g.d]
 | .hd n cl e=>.tup [.str "handler",.str n,.tup (cl.map λ q=>hdD q.1 q.2),hdD e.1 e.2]
noncomputable def okQ (q:List Str×G)(n:Nat):Prop:=(∀ x∈q.1,Nm x)/\q.1.length=n/\wdG q.2/\ms q.2<=9000
noncomputable def Itm.wd:Itm->Prop
 | .fn f ps b g=>Nm f/\(∀ x∈ps,Nm x)/\ps.length<=8/\(∀ x,b=some x->Nm x)/\wdG g/\ms g<=9000
 | .hd n cl e=>Nm n/\(∀ q∈cl,okQ q 3)/\cl.length<=8/\okQ e 2
noncomputable def Kd.isOp:Kd->Bool
 | .op _=>true
 | _=>false
theorem z69:PyData.strOk "op"=true:=so _ (by simp)
theorem z3s (k:Kd):(k.tag==("op":Str))=Kd.isOp k:=by cases k<;>rfl
theorem z6a (k:Kd)(ps:List G)(h:Hh):isI h (G.nd k ps).d 2=some false:=by
 obtain ⟨r,e⟩:=z1q k (G.ds ps);rw [G.d,e];rfl
theorem wd_def:Wd "def":=Uu (by decide)
theorem wd_hd:Wd "handler":=Uu (by decide)
theorem wd_on:Wd "on":=Uu (by decide)
theorem wd_end:Wd "end":=Uu (by decide)
theorem Qr {c:Ck}{f:D->Hh->Res (Option D)}(P:Hh->Prop)(R:Hh->Hh->Prop)(rr:∀ h,R h h)(rt:∀ a b d,R a b->R b d->R a d)(st:∀ h,P h->stay c h)(Q:D->Prop):∀ (xs acc:List D) (h:Hh),P h->(∀ x∈xs,∀ h,P h->∃ d h',f x h=.ok (some d) h'/\P h'/\R h h'/\Q d) ->
  ∃ ds h',zr c f xs acc h=.ok (acc++ds) h'/\P h'/\R h h'/\(∀ d∈ds,Q d)/\ds.length=xs.length
 | [],acc,h,hp,_=>⟨[],h,by simp [zr,st h hp],hp,rr h,by simp,rfl⟩
 | x::r,acc,h,hp,hf=>by
  obtain ⟨d,h1,e1,p1,r1,q1⟩:=hf x (Y08 ..) h hp;obtain ⟨ds,h2,e2,p2,r2,q2,q3⟩:=Qr P R rr rt st Q r (acc++[d]) h1 p1 λ y hy=>hf y (Y06 _ hy);refine ⟨d::ds,h2,?_,p2,rt _ _ _ r1 r2,λ z hz=>by rcases Y0b.mp hz with rfl | hz;exact q1;exact q2 z hz,by simp [q3]⟩;unfold zr;rw [if_pos (st h hp),e1,bind_ok,addO_some,e2];simp
theorem wT {α:Type}{c:Ck}{f:D->Hh->Res (Option D)}(en out:α->D)(P:Hh->Prop)(R:Hh->Hh->Prop)(rr:∀ h,R h h)(rt:∀ a b d,R a b->R b d->R a d)(st:∀ h,P h->stay c h):∀ (xs:List α) (acc:List D) (h:Hh),P h->(∀ x∈xs,∀ h,P h->∃ h',f (en x) h=.ok (some (out x)) h'/\P h'/\R h h') ->
  ∃ h',zr c f (xs.map en) acc h=.ok (acc++xs.map out) h'/\P h'/\R h h'
 | [],acc,h,hp,_=>⟨h,by simp [zr,st h hp],hp,rr h⟩
 | x::r,acc,h,hp,hf=>by
  obtain ⟨h1,e1,p1,r1⟩:=hf x (Y08 ..) h hp;obtain ⟨h2,e2,p2,r2⟩:=wT en out P R rr rt st r (acc++[out x]) h1 p1 λ y hy=>hf y (Y06 _ hy);refine ⟨h2,?_,p2,rt _ _ _ r1 r2⟩;rw [Y05];unfold zr;rw [if_pos (st h hp),e1,bind_ok,addO_some,e2];simp
noncomputable def Gr (h h':Hh):Prop:=∃ J,h'=h++J
theorem Gr.refl (h:Hh):Gr h h:=⟨[],by simp⟩
theorem Gr.trans (a b d:Hh)(x:Gr a b)(y:Gr b d):Gr a d:=by obtain ⟨J,rfl⟩:=x;obtain ⟨K,rfl⟩:=y;exact ⟨J++K,by simp⟩
theorem z3t (f:Str)(ps:List Str)(b:Option Str)(g:G)(h:Hh):zY (Itm.fn f ps b g).d (.int 0) h=.ok (.str "def") h:=rfl
theorem z3u (n:Str)(q:List (List Str×G))(e:List Str×G)(h:Hh):zY (Itm.hd n q e).d (.int 0) h=.ok (.str "handler") h:=rfl
theorem qG:PyData.strOk "def"=true:=wd_def.ok
theorem Qs:PyData.strOk "handler"=true:=wd_hd.ok
mutual
noncomputable def dp:G->Nat
 | .nd _ ps=>1+dps ps
noncomputable def dps:List G->Nat
 | []=>0
 | g::r=>max (dp g) (dps r)
end
noncomputable def Kd.br (k:Kd):Nat:=match Kd.leaf k with
 | some _=>0
 | none=>1
mutual
noncomputable def bd:G->Nat
 | .nd k ps=>Kd.br k+bds ps
noncomputable def bds:List G->Nat
 | []=>0
 | g::r=>max (bd g) (bds r)
end
mutual
theorem Qt:∀ g:G,bd g<=dp g
 | .nd k ps=>by
  rw [bd,dp]
  have:=bds_dps ps
  have:Kd.br k<=1:=by unfold Kd.br;split<;>decide
  omega
theorem bds_dps:∀ gs:List G,bds gs<=dps gs
 | []=>by rw [bds,dps];exact Y09 0
 | g::r=>by
  rw [bds,dps]
  have:=Qt g
  have:=bds_dps r
  omega
end
noncomputable def trs:Itm->List G
 | .fn _ _ _ g=>[g]
 | .hd _ qs e=>qs.map (·.2)++[e.2]
noncomputable def Itm.cap:Itm->Nat
 | .fn ..=>23
 | .hd ..=>22
structure ItG (i:Itm):Prop where
 wd:i.wd
 tr:∀ g∈trs i,g.ok=true/\dp g<=24/\bd g<=i.cap
 sz:((trs i).map K14.ms).sum<=4400
inductive Th where
 | w (x:Str)
 | l (ts:List Th)
mutual
noncomputable def Th.ws:Th->List Str
 | .w x=>[x]
 | .l ts=>"("::(Th.wss ts++[(")":Str)])
noncomputable def Th.wss:List Th->List Str
 | []=>[]
 | t::r=>t.ws++Th.wss r
end
mutual
noncomputable def Th.dp:Th->Nat
 | .w _=>0
 | .l ts=>1+Th.dps ts
noncomputable def Th.dps:List Th->Nat
 | []=>0
 | t::r=>max t.dp (Th.dps r)
end
mutual
noncomputable def Th.sz:Th->Nat
 | .w _=>0
 | .l ts=>1+Th.szs ts
noncomputable def Th.szs:List Th->Nat
 | []=>0
 | t::r=>t.sz+Th.szs r
end
noncomputable def Th.v:Th->Nat->D
 | .w x,_=>.str x
 | .l _,b=>.loc b
noncomputable def Th.vs:List Th->Nat->List D
 | [],_=>[]
 | t::r,b=>t.v b::Th.vs r (b+t.sz)
mutual
noncomputable def Th.ap:Th->Nat->Hh
 | .w _,_=>[]
 | .l ts,b=>.lst (Th.vs ts (b+1))::Th.aps ts (b+1)
noncomputable def Th.aps:List Th->Nat->Hh
 | [],_=>[]
 | t::r,b=>t.ap b++Th.aps r (b+t.sz)
end
mutual
theorem Yz:∀ (t:Th) (b:Nat),(t.ap b).length=t.sz
 | .w _,b=>by rw [Th.ap,Th.sz];rfl
 | .l ts,b=>by rw [Th.ap,Th.sz,Y01,aps_len ts];omega
theorem aps_len:∀ (ts:List Th) (b:Nat),(Th.aps ts b).length=Th.szs ts
 | [],b=>by rw [Th.aps,Th.szs];rfl
 | t::r,b=>by rw [Th.aps,Th.szs,Y03,Yz t,aps_len r]
end
mutual
noncomputable def At (h:Hh):Th->D->Prop
 | .w x,d=>d=.str x
 | .l ts,d=>∃ n ds,d=.loc n/\h[n]?=some (.lst ds)/\Ats h ts ds
noncomputable def Ats (h:Hh):List Th->List D->Prop
 | [],ds=>ds=[]
 | t::r,ds=>∃ e es,ds=e::es/\At h t e/\Ats h r es
end
noncomputable def Has (h:Hh)(b:Nat)(L:Hh):Prop:=∀ k o,L[k]?=some o->h[b+k]?=some o
theorem Od {h:Hh}{b:Nat}{L M:Hh}(q:Has h b (L++M)):Has h b L:=λ k o e=>q k o (z9 e)
theorem JP {h:Hh}{b n:Nat}{L M:Hh}(q:Has h b (L++M))(e:L.length=n):Has h (b+n) M:=λ k o g=>by
 have:=q (L.length+k) o (by rw [hx];exact g)
 rw [<- e,Y3c];exact this
mutual
theorem z6b {h:Hh}:∀ (t:Th) (b:Nat),Has h b (t.ap b)->At h t (t.v b)
 | .w x,b,_=>by rw [At];rfl
 | .l ts,b,q=>by
  rw [Th.ap] at q;rw [At];refine ⟨b,Th.vs ts (b+1),rfl,q 0 _ rfl,ats_of ts (b+1) ?_⟩;exact JP (L:=[O.lst (Th.vs ts (b+1))]) q rfl
theorem ats_of {h:Hh}:∀ (ts:List Th) (b:Nat),Has h b (Th.aps ts b)->Ats h ts (Th.vs ts b)
 | [],b,_=>by rw [Ats];rfl
 | t::r,b,q=>by
  rw [Th.aps] at q;rw [Ats];exact ⟨t.v b,Th.vs r (b+t.sz),rfl,z6b t b (Od q),ats_of r (b+t.sz) (JP q (Yz t b))⟩
end
mutual
theorem At.gr {h J:Hh}:∀ {t:Th}{d:D},At h t d->At (h++J) t d
 | .w x,d,q=>by rw [At] at q ⊢;exact q
 | .l ts,d,q=>by
  rw [At] at q ⊢;obtain ⟨n,ds,e,g,a⟩:=q;exact ⟨n,ds,e,z9 g,Ats.gr a⟩
theorem Ats.gr {h J:Hh}:∀ {ts:List Th}{ds:List D},Ats h ts ds->Ats (h++J) ts ds
 | [],d,q=>by rw [Ats] at q ⊢;exact q
 | t::r,d,q=>by
  rw [Ats] at q ⊢;obtain ⟨e,es,g,a,b⟩:=q;exact ⟨e,es,g,At.gr a,Ats.gr b⟩
end
structure Pw (x:Str):Prop where
 ok:PyData.strOk x=true
 o:(x==("(":Str))=false
 c:(x==(")":Str))=false
mutual
noncomputable def Th.ok:Th->Prop
 | .w x=>Pw x
 | .l ts=>Th.oks ts
noncomputable def Th.oks:List Th->Prop
 | []=>True
 | t::r=>t.ok/\Th.oks r
end
section
variable (cl:Nat->List D->Hh->Res D)
abbrev env (nw na ni:Nat)(x y:Option D):En:=[some (.loc nw),some (.loc na),some (D.loc ni),x,y]
abbrev nsF:D->En->Hh->RS:=jd ZF λ ρ' h'=>b_nested_1.run cl ρ' h'
theorem z09:PyData.strOk "("=true:=by decide +kernel
theorem z0a:PyData.strOk ")"=true:=by decide +kernel
variable {cl}
theorem YA {i j:Nat}{p0 p1 p2 p3:Pos}{ρ:En}{h:Hh}{n:Nat}{d:D}{ds:List D}(ei:ρ[i]?=some (some (.loc n)))(ej:ρ[j]?=some (some d))(g:h[n]?=some (.lst ds))(hl:ds.length<1000000) :
  E.ev cl (.m1 .append (.var i p0) (.var j p1) p2 p3) ρ h=.ok .non (h.set n (.lst (ds++[d]))):=by
 rw [vm1,qB,ei];show onL (.loc n) h _=_;rw [O1 g,qB,ej];show m1D .append (.loc n) d h=_;unfold m1D;dsimp only;rw [g];exact if_pos hl
theorem z86 {nw na ni:Nat}{x y:Option D}{h:Hh}{w:Str}{ds:List D}(p:Pw w)(g:h[ni]?=some (.lst ds))(hl:ds.length<1000000) :
  nsF cl (.str w) (env nw na ni x y) h=.nx (env nw na ni (some (.str w)) y) (h.set ni (.lst (ds++[.str w]))) :=
 O4 (zk rfl rfl (by rw [eqS p.ok z09,p.o])) (O4 (zk rfl rfl (by rw [eqS p.ok z0a,p.c])) (Qi (YA rfl rfl g hl) rfl) rfl) rfl
theorem z87 {nw na ni:Nat}{x y:Option D}{h:Hh}{st:List D}(g:h[na]?=some (.lst st))(hl:st.length<24) :
  nsF cl (.str "(") (env nw na ni x y) h=.nx (env nw na h.length (some (.str "(")) y) (h.set na (.lst (st++[.loc ni]))++[.lst []]):=by
 have e:(h.set na (O.lst (st++[.loc ni]))).length=h.length:=Y1a ..
 have q:nsF cl (.str "(") (env nw na ni x y) h=.nx (env nw na (h.set na (O.lst (st++[.loc ni]))).length (some (.str "(")) y) (h.set na (.lst (st++[.loc ni]))++[.lst []]) :=
  wQ (zk rfl rfl (eqS z09 z09)) (zf (zk (bnd rfl (by show jL (.loc na) h=.ok (.int st.length) h;unfold jL;dsimp only;rw [zv g])) rfl (by rw [eqI];congr 2;exact decide_eq_false (by omega))) (Qi (YA rfl rfl g (by omega)) (ze rfl rfl))) rfl
 rw [q,e]
theorem z88 {nw na ni nj:Nat}{x y:Option D}{h:Hh}{st ds:List D}(g:h[na]?=some (.lst (st++[.loc nj])))(gj:h[nj]?=some (.lst ds))(hn:nj≠na)(hl:ds.length<1000000) :
  nsF cl (.str ")") (env nw na ni x y) h=.nx (env nw na nj (some (.str ")")) (some (D.loc ni))) ((h.set na (.lst st)).set nj (.lst (ds++[.loc ni]))) :=
 O4 (zk rfl rfl (eqS z0a z09)) (wQ (zk rfl rfl (eqS z0a z0a)) (zf (h':=h) (bnd (bnd rfl (by show qg false (.loc na) h=.ok (.bl false) h;unfold qg;dsimp only;rw [zv g];simp)) rfl) (ze rfl (ze (d:=.loc nj) (h':=h.set na (.lst st)) (bnd rfl (by
  show m0D .pop (.loc na) h=_;unfold m0D;dsimp only;rw [g];simp)) (Qi (YA rfl rfl (by rw [Y0o (Ne.symm hn)];exact gj) hl) rfl)))) rfl) rfl
theorem yX {nw:Nat}{all:List D}{h:Hh}(g:h[nw]?=some (.lst all)):stay [(nw,all)] h:=stay_one.mpr (zv g)
mutual
theorem z3v {nw:Nat}{all:List D}:∀ (t:Th) (na ni:Nat) (st ds:List D) (x y:Option D) (h:Hh) (zL:List D),t.ok->h[nw]?=some (.lst all)->h[na]?=some (.lst st)->h[ni]?=some (.lst ds)->nw≠na->nw≠ni->na≠ni->st.length+t.dp<=24->ds.length+t.ws.length<=1000000 ->
  ∃ x' y',zZ [(nw,all)] (nsF cl) (t.ws.map D.str++zL) (env nw na ni x y) h=zZ [(nw,all)] (nsF cl) zL (env nw na ni x' y') (h.set ni (.lst (ds++[t.v h.length]))++t.ap h.length)
 | .w w,na,ni,st,ds,x,y,h,zL,ok,gw,ga,gi,n1,n2,n3,hd,hl=>by
  rw [Th.ok] at ok;rw [Th.ws] at hl ⊢;rw [Th.ap,Y14];exact ⟨_,_,ZD (yX gw) (z86 ok gi (by simp at hl;omega)) rfl⟩
 | .l ts,na,ni,st,ds,x,y,h,zL,ok,gw,ga,gi,n1,n2,n3,hd,hl=>by
  rw [Th.ok] at ok;rw [Th.ws] at hl ⊢;rw [Th.dp] at hd;simp only [Y01,Y03,Y0x] at hl;have la:na<h.length:=(Y04.mp ga).1;have li:ni<h.length:=(Y04.mp gi).1;have lw:nw<h.length:=(Y04.mp gw).1;have lh:(h.set na (O.lst (st++[D.loc ni]))).length=h.length:=Y1a ..
  obtain ⟨x',y',e⟩:=nest_ts ts na h.length (st++[D.loc ni]) [] (some (.str "(")) y (h.set na (.lst (st++[D.loc ni]))++[O.lst []]) (.str ")"::zL) ok
   (z9 (by rw [Y0o (Ne.symm n1)];exact gw)) (z9 (Y10 la)) (by rw [<- lh,hx0];rfl) n1 (by omega) (by omega) (by rw [Y03];simp only [Y01,Y0x];omega) (by simp only [Y0x];omega)
  have l1:(h.set na (O.lst (st++[D.loc ni]))++[O.lst []]).length=h.length+1:=by rw [Y03,lh];rfl
  have s1:(h.set na (O.lst (st++[D.loc ni]))++[O.lst []]).set h.length (O.lst ([]++Th.vs ts (h.length+1)))=h.set na (O.lst (st++[D.loc ni]))++[O.lst (Th.vs ts (h.length+1))]:=by
   have:=qS (h.set na (O.lst (st++[D.loc ni]))) [O.lst []] (O.lst ([]++Th.vs ts (h.length+1)))
   rw [lh] at this;rw [this];rfl
  rw [l1,s1,Y07] at e;refine ⟨some (.str ")"),some (.loc h.length),?_⟩;rw [Y05,Y0j,Y0q,Y07];refine ZD (yX gw) (z87 ga (by omega)) (e.trans ?_);have gw2:(h.set na (O.lst (st++[D.loc ni]))++([O.lst (Th.vs ts (h.length+1))]++Th.aps ts (h.length+1)))[nw]?=some (.lst all):=z9 (by rw [Y0o (Ne.symm n1)];exact gw);refine ZD (yX gw2) (z88 (z9 (Y10 la)) (z9 (by rw [Y0o n3];exact gi)) (Ne.symm n3) (by omega)) ?_;rw [Y34 _ _ (by rw [lh];exact la),List.set_set,Qf ga,Y34 _ _ li,Th.ap];rfl
theorem nest_ts {nw:Nat}{all:List D}:∀ (ts:List Th) (na ni:Nat) (st ds:List D) (x y:Option D) (h:Hh) (zL:List D),Th.oks ts->h[nw]?=some (.lst all)->h[na]?=some (.lst st)->h[ni]?=some (.lst ds)->nw≠na->nw≠ni->na≠ni->st.length+Th.dps ts<=24->ds.length+(Th.wss ts).length<=1000000 ->
  ∃ x' y',zZ [(nw,all)] (nsF cl) ((Th.wss ts).map D.str++zL) (env nw na ni x y) h=zZ [(nw,all)] (nsF cl) zL (env nw na ni x' y') (h.set ni (.lst (ds++Th.vs ts h.length))++Th.aps ts h.length)
 | [],na,ni,st,ds,x,y,h,zL,ok,gw,ga,gi,n1,n2,n3,hd,hl=>by
  refine ⟨x,y,?_⟩;rw [Th.wss,Th.vs,Th.aps,Y14,Y14,Qf gi];rfl
 | t::r,na,ni,st,ds,x,y,h,zL,ok,gw,ga,gi,n1,n2,n3,hd,hl=>by
  rw [Th.oks] at ok;rw [Th.wss] at hl ⊢;rw [Th.dps] at hd;rw [Y03] at hl;have li:ni<h.length:=(Y04.mp gi).1;have lh:(h.set ni (O.lst (ds++[t.v h.length]))).length=h.length:=Y1a ..
  have lt:1<=t.ws.length:=by cases t<;>simp [Th.ws]
  obtain ⟨x1,y1,e1⟩:=z3v t na ni st ds x y h ((Th.wss r).map D.str++zL) ok.1 gw ga gi n1 n2 n3 (by omega) (by omega);obtain ⟨x2,y2,e2⟩:=nest_ts r na ni st (ds++[t.v h.length]) x1 y1 (h.set ni (.lst (ds++[t.v h.length]))++t.ap h.length) zL ok.2
   (z9 (by rw [Y0o (Ne.symm n2)];exact gw)) (z9 (by rw [Y0o (Ne.symm n3)];exact ga)) (z9 (Y10 li)) n1 n2 n3 (by omega) (by rw [Y03];simp only [Y01,Y0x];omega)
  refine ⟨x2,y2,?_⟩;rw [Y0j,Y07,e1,e2,Y03,lh,Yz,Y34 _ _ (by rw [lh];exact li),List.set_set,Th.vs,Th.aps,Y07,Y07];rfl
end
theorem Oe (nw:Nat)(ts:List Th)(h:Hh)(g:h[nw]?=some (.lst ((Th.wss ts).map D.str)))(ok:Th.oks ts)(hd:Th.dps ts<=24)(hl:(Th.wss ts).length<=1000000) :
  ∃ m ds J,d_nested.run cl [.loc nw] h=.ok (.loc m) (h++J)/\(h++J)[m]?=some (.lst ds)/\Ats (h++J) ts ds:=by
 have lw:nw<h.length:=(Y04.mp g).1;have g2:(h++[O.lst [],O.lst []])[nw]?=some (O.lst ((Th.wss ts).map D.str)):=z9 g;have ga:(h++[O.lst [],O.lst []])[h.length]?=some (O.lst []):=by rw [hx0];rfl
 have gi:(h++[O.lst [],O.lst []])[h.length+1]?=some (O.lst []):=by rw [hx];rfl
 obtain ⟨x',y',e⟩:=nest_ts (cl:=cl) ts h.length (h.length+1) [] [] none none (h++[O.lst [],O.lst []]) [] ok g2 ga gi (by omega) (by omega) (by omega) (by simpa using hd) (by simpa using hl);have s1:(h++[O.lst [],O.lst []]).set (h.length+1) (O.lst ([]++Th.vs ts (h++[O.lst [],O.lst []]).length))=h++[O.lst [],O.lst (Th.vs ts (h.length+2))]:=by rw [GX,Y03];rfl
 rw [Y14,s1,Y07,Y03] at e;have e':zZ [(nw,(Th.wss ts).map D.str)] (nsF cl) ((Th.wss ts).map D.str) (env nw h.length (h.length+1) none none) (h++[O.lst [],O.lst []])=.nx (env nw h.length (h.length+1) x' y') (h++([O.lst [],O.lst (Th.vs ts (h.length+2))]++Th.aps ts (h.length+2))):=by
  rw [e];exact if_pos (yX (z9 g))
 refine ⟨h.length+1,Th.vs ts (h.length+2),[O.lst [],O.lst (Th.vs ts (h.length+2))]++Th.aps ts (h.length+2),?_,?_,?_⟩
 ·have e1:(h++[O.lst []]).length=h.length+1:=Y03 ..
  have s:Ss.run cl d_nested.body [some (.loc nw),none,none,none,none] h=.rt (.loc (h.length+1)) (h++([O.lst [],O.lst (Th.vs ts (h.length+2))]++Th.aps ts (h.length+2))):=by
   refine ze (d:=.loc h.length) (h':=h++[O.lst []]) rfl (ze (d:=.loc (h.length+1)) (h':=h++[O.lst [],O.lst []]) ?_ (qE (wj rfl (zv g2)) e' (zf (h':=h++([O.lst [],O.lst (Th.vs ts (h.length+2))]++Th.aps ts (h.length+2))) ?_ (zg rfl))))
   ·show Res.ok (D.loc (h++[O.lst []]).length) (h++[O.lst []]++[O.lst []])=_;rw [e1,Y07];rfl
   ·refine bnd (x:=.bl false) (bnd rfl ?_) rfl;show qg true (.loc h.length) _=_;unfold qg;dsimp only;rw [zv (show (h++([O.lst [],O.lst (Th.vs ts (h.length+2))]++Th.aps ts (h.length+2)))[h.length]?=some (O.lst []) by rw [hx0];rfl)];rfl
  exact zh s
 ·rw [hx];rfl
 ·refine ats_of ts (h.length+2) λ k o q=>?_;rw [Y3c,hx,Y3i 2 k];exact q
end
structure NumW (n:Int)(x:Str):Prop where
 dg:∀ c∈cs x,48<=c/\c<=57
 ne:cs x≠[]
 le:(cs x).length<=18
 z:(cs x)[0]?=some 48->x="0"
 rd:PySem.intText? x=some n
theorem z3w:∀ (m:Nat),0<m->(Nat.toDigits 10 m)[0]?≠some '0':=by
 intro m
 induction m using Nat.strongRecOn with
 | _ m ih =>
  intro hm;by_cases h:m<10
  ·have:∀ k<10,0<k->(Nat.toDigits 10 k)[0]?≠some '0':=by decide
   exact this m h hm
  ·have t:Nat.toDigits 10 (m/10)++Nat.toDigits 10 (m%10)=Nat.toDigits 10 (10*(m/10)+m%10):=Nat.toDigits_append_toDigits (by decide) (by omega) (by omega);rw [Nat.div_add_mod] at t;rw [<- t,Y18 (by have:=Y38 (b:=10) (n:=m/10);exact List.length_pos_iff.mpr this)];exact ih (m/10) (by omega) (by omega)
theorem z1s {n:Int}(h0:0<=n)(h1:n<1000000000000000000):NumW n (Str.ofString (toString n)):=by
 obtain ⟨m,rfl⟩:∃ m:Nat,n=m:=⟨n.toNat,by omega⟩;have e:cs (Str.ofString (toString (m:Int)))=(Nat.toDigits 10 m).map Char.toNat:=PySem.W.KIN.signs_num m;have dg:∀ c∈cs (Str.ofString (toString (m:Int))),48<=c/\c<=57:=by
  rw [e];intro c hc;obtain ⟨ch,h2,rfl⟩:=Y0z.mp hc;have hd:=Nat.isDigit_of_mem_toDigits (by decide) (by decide) h2;unfold Char.isDigit at hd;simp only [Y0g,decide_eq_true_eq,ge_iff_le] at hd;exact ⟨UInt32.le_iff_toNat_le.mp hd.1,UInt32.le_iff_toNat_le.mp hd.2⟩
 have ne:cs (Str.ofString (toString (m:Int)))≠[]:=by rw [e];intro z;exact Y38 (List.map_eq_nil_iff.mp z)
 have le:(cs (Str.ofString (toString (m:Int)))).length<=18:=by
  rw [e,Y0c];exact (Nat.length_toDigits_le_iff (by decide) (by decide)).mpr (by omega)
 refine ⟨dg,ne,le,?_,?_⟩
 ·intro z;by_cases hm:m=0
  ·subst hm;rfl
  ·exfalso
   rw [e,Y13] at z;cases q:(Nat.toDigits 10 m)[0]? with
   | none=>rw [q] at z;cases z
   | some ch =>
    rw [q] at z
    have:ch.toNat=48:=by simpa using z
    have:ch='0':=Char.ext (UInt32.toNat_inj.mp this)
    exact z3w m (by omega) (by rw [q,this])
 ·have r:=PySem.intText_digits (x:=Str.ofString (toString (m:Int))) dg ne (by rw [show (Str.ofString (toString (m:Int))).length=(cs (Str.ofString (toString (m:Int)))).length from cs_len _];omega);rw [show (Str.ofString (toString (m:Int))).cps.toList=(Nat.toDigits 10 m).map Char.toNat from e,PySem.W.KIN.val_back] at r;exact r
section
variable {cl:Nat->List D->Hh->Res D}
noncomputable def yu (z:Str)(c:Nat):Bool:=!(Builtin.Str.occurrences z ⟨#[c]⟩ 0 z.length 1).isEmpty
theorem Uw {f:D->Hh->Res (Option D)}{b:Nat->Bool}{h:Hh}:∀ (L:List Nat) (acc:List D),(∀ c,f (.str ⟨#[c]⟩) h=.ok (some (.bl (b c))) h)->zr [] f (L.map λ c=>.str ⟨#[c]⟩) acc h=.ok (acc++(L.map b).map D.bl) h
 | [],acc,_=>by rw [Y0k,zr,if_pos zn];simp
 | c::r,acc,hf=>by
  rw [Y05,zr,if_pos zn,hf c,bind_ok,addO_some,Uw r _ hf];simp
theorem YB {x z nm:Str}{ns:List Str}{sc:Scope}{p0 p1 p2 p3 p4 p5 p6 p7:Pos}{h:Hh}(hl:(cs x).length<=1000000) :
  E.ev cl (.c1 .all (.ofL (.comp (.cmp .In (.var 0 p0) (.gcon nm (.str z) p1) p2) (.one 0 p3) (.seq (.var 0 p4)) .nil ns [none] sc p5)) p6 p7) [some (.str x)] h=.ok (.bl ((cs x).all (yu z))) (h++[.lst (((cs x).map (yu z)).map D.bl)]):=by
 have e:=Uw (f:=zz (.one 0 p3) (zS [none] [some (.str x)]) (λ ρ' h2=>Es.nil.evC cl ρ' h2) (λ ρ' h2=>(E.cmp .In (.var 0 p0) (.gcon nm (.str z) p1) p2).ev cl ρ' h2)) (b:=yu z) (h:=h) (cs x) [] (λ c=>rfl);refine bnd (j4 (q:=([],(cs x).map λ c=>.str ⟨#[c]⟩)) rfl (by simpa using hl) e) ?_;show c1D .all (.loc h.length) _=_;unfold c1D;dsimp only;rw [qC,Y0n];show (match (some (((cs x).map (yu z)).map D.bl)).bind qP with | some bs=>Res.ok (D.bl (bs.all id)) _ | none=>.no)=_
 rw [Y1j,Wp];simp only [List.all_map];rfl
noncomputable def z0b:Str:="abcdefghijklmnopqrstuvwxyz"
noncomputable def Qu:Str:="0123456789"
theorem z3x {c:Nat}(h:97<=c/\c<=122):yu z0b c=true:=by
 have:∀ k<26,yu z0b (97+k)=true:=by decide +kernel
 have:=this (c-97) (by omega)
 rwa [show 97+(c-97)=c by omega] at this
theorem z3y {c:Nat}(h:48<=c/\c<=57):yu Qu c=true:=by
 have:∀ k<10,yu Qu (48+k)=true:=by decide +kernel
 have:=this (c-48) (by omega)
 rwa [show 48+(c-48)=c by omega] at this
theorem z0c {c:Nat}(h:97<=c/\c<=122):yu Qu c=false:=by
 have:∀ k<26,yu Qu (97+k)=false:=by decide +kernel
 have:=this (c-97) (by omega)
 rwa [show 97+(c-97)=c by omega] at this
theorem z0d:PyData.strOk ""=true:=by decide +kernel
theorem z0e:PyData.strOk "0"=true:=by decide +kernel
theorem z0f {x:Str}(h:cs x≠[]):(x==("":Str))=false:=ZC h
theorem Of {x:Str}{h:Hh}(hl:(cs x).length<=18):jL (.str x) h=.ok (.int ((cs x).length:Nat)) h:=by
 unfold jL;dsimp only;rw [if_pos (by rw [cs_len];omega),cs_len]
theorem Og {x:Str}{h:Hh}(q:resW.any (λ y=>y==x)=false):inD false (.str x) (.tup (g_WORDS.map .str)) h=.ok (.bl false) h:=by
 show yP false (.str x) (g_WORDS.map .str) h=_;unfold yP
 have:((g_WORDS.map D.str).any λ y=>eqV (vOf y) (vOf (.str x)))=resW.any (λ y=>y==x):=by rw [Y3j];rfl
 rw [this,q,if_pos ⟨rfl,by rw [List.all_map];rfl⟩];rfl
theorem Vs {x:Str}(m:Nm x)(h:Hh):∃ J,d_is_name.run cl [.str x] h=.ok (.bl true) (h++J):=by
 have l8:=m.le;refine ⟨[.lst (((cs x).map (yu z0b)).map D.bl)],zh (zf (h':=h) (Qj (zk rfl rfl (by rw [eqS m.wd.ok z0d,z0f m.ne])) (zk (bnd rfl (Of (by omega))) rfl (by rw [cmp_gt];congr 2;exact decide_eq_false (by omega))) (zk rfl rfl (Og m.nr))) (zg ((YB (z:=z0b) (by omega)).trans ?_)))⟩;rw [Y11.mpr λ c hc=>z3x (m.lo c hc)]
theorem z3z {x:Str}{c:Nat}{h:Hh}(e:(cs x)[0]?=some c)(hl:(cs x).length<=18):zY (.str x) (.int 0) h=.ok (.str ⟨#[c]⟩) h:=by
 show (if x.length<=1000000 then (match atI x.cps.toList 0 with | some c=>Res.ok (D.str ⟨#[c]⟩) h | none=>.no) else .no)=_
 rw [if_pos (by rw [cs_len];omega),show atI x.cps.toList 0=(cs x)[0]? from PI.atI_nat (k:=0),e]
theorem z40 {c:Nat}(h:c<1114112):PyData.strOk ⟨#[c]⟩=true:=z1o (l:=[c]) (by simpa using h)
theorem Jg {n:Int}{x:Str}(m:NumW n x)(h:Hh):∃ J,d_is_number.run cl [.str x] h=.ok (.bl true) (h++J):=by
 have l8:=m.le;have ok:PyData.strOk x=true:=Qg λ c hc=>by have:=m.dg c hc;omega
 obtain ⟨c,r,e⟩:∃ c r,cs x=c::r:=by cases e:cs x with | nil=>exact absurd e m.ne | cons c r=>exact ⟨c,r,rfl⟩
 have e0:(cs x)[0]?=some c:=by rw [e];rfl
 have hc:=m.dg c (by rw [e];exact Y08 ..);have hz:E.evT cl (.and (.cmp .Eq (.sub (.var 0 ⟨21,50,21,54⟩) (.int 0 ⟨21,55,21,56⟩) ⟨21,50,21,57⟩) (.str "0" ⟨21,61,21,64⟩) ⟨21,50,21,64⟩) (.cmp .NotEq (.var 0 ⟨21,69,21,73⟩) (.str "0" ⟨21,77,21,80⟩) ⟨21,69,21,80⟩) .nil ⟨21,50,21,80⟩) [some (.str x)] h=.ok false h:=by
  by_cases z:c=48
  ·subst z;have hx:=m.z e0;exact O0 (zk (bnd rfl (bnd rfl (z3z e0 l8))) rfl (eqS (z40 (by decide)) z0e)) (zk rfl rfl (by rw [neS ok z0e,hx];rfl))
  ·exact Yt (zk (bnd rfl (bnd rfl (z3z e0 l8))) rfl (by rw [eqS (z40 (by omega)) z0e];congr 2;exact ZC (λ q=>z (List.cons.inj (show [c]=[48] from q)).1)))
 refine ⟨[.lst (((cs x).map (yu Qu)).map D.bl)],zh (zf (h':=h) (Qj (zk rfl rfl (by rw [eqS ok z0d,z0f m.ne])) (zk (bnd rfl (Of (by omega))) rfl (by rw [cmp_gt];congr 2;exact decide_eq_false (by omega))) hz) (zg ((YB (z:=Qu) (by omega)).trans ?_)))⟩;rw [Y11.mpr λ c hc=>z3y (m.dg c hc)]
theorem Jh {x:Str}(m:Nm x)(h:Hh):∃ J,d_is_number.run cl [.str x] h=.ok (.bl false) (h++J):=by
 have l8:=m.le;obtain ⟨c,r,e⟩:∃ c r,cs x=c::r:=by cases e:cs x with | nil=>exact absurd e m.ne | cons c r=>exact ⟨c,r,rfl⟩
 have e0:(cs x)[0]?=some c:=by rw [e];rfl
 have hc:=m.lo c (by rw [e];exact Y08 ..);refine ⟨[.lst (((cs x).map (yu Qu)).map D.bl)],zh (zf (h':=h) (Qj (zk rfl rfl (by rw [eqS m.wd.ok z0d,z0f m.ne])) (zk (bnd rfl (Of (by omega))) rfl (by rw [cmp_gt];congr 2;exact decide_eq_false (by omega))) (Yt (zk (bnd rfl (bnd rfl (z3z e0 (by omega)))) rfl (by rw [eqS (z40 (by omega)) z0e];congr 2;exact ZC (λ q=>by have:=(List.cons.inj (show [c]=[48] from q)).1;omega))))) (zg ((YB (z:=Qu) (by omega)).trans ?_)))⟩;rw [e,Y26,z0c hc,Bool.false_and]
noncomputable def Oh (cl:Nat->List D->Hh->Res D):Prop:=∀ x h,Nm x->∃ J,cl 0 [.str x] h=.ok (.bl true) (h++J)
noncomputable def y8 (cl:Nat->List D->Hh->Res D):Prop:=(∀ n x h,NumW n x->∃ J,cl 1 [.str x] h=.ok (.bl true) (h++J))/\(∀ x h,Nm x->∃ J,cl 1 [.str x] h=.ok (.bl false) (h++J))
noncomputable def jE (cl:Nat->List D->Hh->Res D):Prop:=∀ x h,Nm x->∃ J,cl 17 [.str x] h=.ok (.str x) (h++J)
theorem Vt (C:Oh cl){x:Str}(m:Nm x)(h:Hh):∃ J,d_name_of.run cl [.str x] h=.ok (.str x) (h++J):=by
 obtain ⟨J,e⟩:=C x h m;exact ⟨J,zh (zf (h':=h) (ZI (b:=true) (bnd (x:=.bl true) (bnd rfl rfl) rfl)) (zf (h':=h++J) (ZI (b:=true) (bnd (x:=.bl true) (bnd rfl (bnd rfl e)) rfl)) (zg rfl)))⟩
theorem Vu {n:Nat}{w:Str}{r:List D}{h:Hh}(g:h[n]?=some (.lst (.str w::r))):d_head_of.run cl [.loc n] h=.ok (.str w) h:=by
 have s0:zY (.loc n) (.int 0) h=.ok (.str w) h:=by
  unfold zY;dsimp only;rw [g];dsimp only;rw [show atI (D.str w::r) 0=some (.str w) from PI.atI_nat (k:=0)]
 refine zh (zf (h':=h) (bnd (x:=.bl false) (bnd rfl ?_) rfl) (zf (h':=h) (Vq (bnd (x:=.bl false) (bnd rfl ?_) rfl) (ZI (b:=true) (bnd (x:=.bl true) (bnd (bnd rfl (bnd rfl s0)) rfl) rfl))) (zg (bnd rfl (bnd rfl s0)))))
 ·show (match isI h (.loc n) 2 with | some b=>Res.ok (D.bl b) h | none=>.no)=_
  unfold isI;dsimp only;rw [zv g];rfl
 ·show qg false (.loc n) h=_;unfold qg;dsimp only;rw [zv g];rfl
theorem YC (C:jE cl){n:Nat}{ps:List Str}{h:Hh}(g:h[n]?=some (.lst (ps.map D.str)))(m:∀ x∈ps,Nm x)(hl:ps.length<=1000):∃ J,d_names_of.run cl [.loc n] h=.ok (.tup (ps.map D.str)) (h++J):=by
 obtain ⟨h',e,_,J,rfl⟩:=wT (c:=[(n,ps.map D.str)]) (f:=zz qU (zS [none] [some (.loc n)]) (λ ρ' h2=>c_names_of_1.evC cl ρ' h2) (λ ρ' h2=>e_names_of_1.ev cl ρ' h2)) D.str D.str (λ h=>rd h n=some (ps.map D.str)) Gr Gr.refl Gr.trans (λ h q=>stay_one.mpr q) ps [] h (zv g) (by
  intro x hx h q;obtain ⟨J,e⟩:=C x h (m x hx);exact ⟨h++J,jv rfl rfl (bnd rfl (bnd rfl e)),Ys q,J,rfl⟩)
 refine ⟨J,zh (zf (h':=h) (bnd (x:=.bl false) (bnd rfl ?_) rfl) (zg (bnd (bnd (wj rfl (zv g)) ((if_pos (show (ps.map D.str).length<=1000000 by simp;omega)).trans e)) rfl)))⟩;show (match isI h (.loc n) 2 with | some b=>Res.ok (D.bl b) h | none=>.no)=_
 unfold isI;dsimp only;rw [zv g];rfl
end
mutual
noncomputable def th:G->Th
 | .nd k ps=>match Kd.leaf k with
  | some x=>.w x
  | none=>.l ((Kd.heads k).map .w++ths ps)
noncomputable def ths:List G->List Th
 | []=>[]
 | g::r=>th g::ths r
end
theorem Ux:∀ gs:List G,ths gs=gs.map th
 | []=>by rw [ths];rfl
 | g::r=>by rw [ths,Ux r];rfl
inductive Sl where
 | nm (x:Str)
 | pt (g:G)
noncomputable def Sl.th:Sl->Th
 | .nm x=>.w x
 | .pt g=>K14.th g
noncomputable def Sl.d:Sl->D
 | .nm x=>.str x
 | .pt g=>g.d
noncomputable def Sl.kd:Sl->Str
 | .nm _=>"name"
 | .pt _=>"part"
theorem y9 {h:Hh}:∀ {ts:List Th}{ds:List D},Ats h ts ds->ds.length=ts.length
 | [],ds,q=>by rw [Ats] at q;rw [q];rfl
 | t::r,ds,q=>by
  rw [Ats] at q;obtain ⟨e,es,rfl,_,b⟩:=q;rw [Y01,Y01,y9 b]
section
variable {cl:Nat->List D->Hh->Res D}
theorem wU {α:Type}(T:α->Th)(out:α->D)(en:α->D->D){f:D->Hh->Res (Option D)}{n:Nat}{all:List D}:∀ (xs:List α) (ds acc:List D) (h:Hh),rd h n=some all->Ats h (xs.map T) ds->(∀ x∈xs,∀ h d,At h (T x) d->∃ J,f (en x d) h=.ok (some (out x)) (h++J)) ->
  ∃ J,zr [(n,all)] f (List.zipWith en xs ds) acc h=.ok (acc++xs.map out) (h++J)
 | [],ds,acc,h,q,a,hf=>⟨[],by rw [List.zipWith_nil_left,zr,if_pos (stay_one.mpr q)];simp⟩
 | x::r,ds,acc,h,q,a,hf=>by
  rw [Y05,Ats] at a;obtain ⟨e,es,rfl,a1,a2⟩:=a;obtain ⟨J1,e1⟩:=hf x (Y08 ..) h e a1;obtain ⟨J2,e2⟩:=wU T out en r es (acc++[out x]) (h++J1) (Ys q) (Ats.gr a2) λ y hy=>hf y (Y06 _ hy);refine ⟨J1++J2,?_⟩;rw [Y2v,zr,if_pos (stay_one.mpr q),e1,bind_ok,addO_some,e2,Y07,Y07];rfl
theorem yY {α:Type}:∀ (xs:List α) (ds:List D),ds.length=xs.length->List.zipWith (λ _ d=>d) xs ds=ds
 | [],[],_=>rfl
 | x::r,d::s,e=>by rw [Y2v,yY r s (by simpa using e)]
theorem Oi:∀ (sl:List Sl) (ds:List D),((sl.map λ s=>D.str s.kd).zip ds).map qi=List.zipWith (λ s d=>qi (.str s.kd,d)) sl ds
 | [],ds=>by simp
 | s::r,[]=>by simp
 | s::r,d::ds=>by rw [Y05,List.zip_cons_cons,Y05,Oi r ds,Y2v]
theorem ya {n k:Nat}{xs:List D}{h:Hh}(g:h[n]?=some (.lst xs)):jS (.loc n) (some (k:Nat)) none h=.ok (.loc h.length) (h++[.lst (xs.drop k)]):=by
 have e:jc xs (some (k:Nat)) none=xs.drop k:=by
  unfold jc;rw [jU _ _ _ (by omega),jQ,Y3g];by_cases q:k<=xs.length
  ·rw [Nat.min_eq_left q,List.take_of_length_le (by rw [Y3n];omega)]
  ·rw [Nat.min_eq_right (by omega),Y23,List.take_zero,List.drop_eq_nil_of_le (by omega)]
 unfold jS;dsimp only;rw [zv g];dsimp only;rw [e];rfl
theorem z6c {i n:Nat}{xs:List D}{ρ:En}{h:Hh}{p p1 p2 p3:Pos}(ei:ρ[i]?=some (some (.loc n)))(g:h[n]?=some (.lst xs)):E.evT cl (.isi 2 (.var i p) p1 p2 p3) ρ h=.ok false h:=by
 refine bnd (x:=.bl false) (bnd (x:=.loc n) (by rw [qB,ei]) ?_) rfl;show (match isI h (.loc n) 2 with | some b=>Res.ok (D.bl b) h | none=>.no)=_
 unfold isI;dsimp only;rw [zv g];rfl
theorem YD {x:Str}{ys:List Str}{b:Bool}{h:Hh}(q:ys.any (λ y=>y==x)=b):inD false (.str x) (.tup (ys.map .str)) h=.ok (.bl b) h:=by
 show yP false (.str x) (ys.map .str) h=_;unfold yP
 have:((ys.map D.str).any λ y=>eqV (vOf y) (vOf (.str x)))=ys.any (λ y=>y==x):=by rw [Y3j];rfl
 rw [this,q,if_pos ⟨rfl,by rw [List.all_map];simp [Zr]⟩];rfl
noncomputable def wv (cl:Nat->List D->Hh->Res D)(g:G):Prop:=∀ h d,At h (th g) d->∃ J,cl 11 [d] h=.ok g.d (h++J)
noncomputable def z41 (cl:Nat->List D->Hh->Res D)(s:Sl):Prop:=∀ h d,At h s.th d->∃ J,cl 10 [.str s.kd,d] h=.ok s.d (h++J)
noncomputable def ZM (cl:Nat->List D->Hh->Res D)(sl:List Sl):Prop:=∀ h n ds,h[n]?=some (.lst ds)->Ats h (sl.map Sl.th) ds->∃ J,cl 9 [.loc n,.tup (sl.map λ s=>.str s.kd)] h=.ok (.tup (sl.map Sl.d)) (h++J)
noncomputable def WA (cl:Nat->List D->Hh->Res D)(gs:List G):Prop:=∀ h n ds,h[n]?=some (.lst ds)->Ats h (ths gs) ds->∃ J,cl 14 [.loc n] h=.ok (.tup (G.ds gs)) (h++J)
theorem WB:PyData.strOk "name"=true:=by decide +kernel
theorem z0g:PyData.strOk "part"=true:=by decide +kernel
theorem Vv (C:jE cl)(s:Sl)(hs:match s with | .nm x=>Nm x | .pt g=>wv cl g)(h:Hh)(d:D)(a:At h s.th d):∃ J,d_read_as.run cl [.str s.kd,d] h=.ok s.d (h++J):=by
 cases s with
 | nm x =>
  rw [Sl.th,At] at a;subst a;obtain ⟨J,e⟩:=C x h hs;exact ⟨J,zh (zg (O8 (zk rfl rfl (eqS WB WB)) (zb rfl e)))⟩
 | pt g =>
  obtain ⟨J,e⟩:=hs h d a;exact ⟨J,zh (zg (O9 (zk rfl rfl (eqS z0g WB)) (zb rfl e)))⟩
theorem Oj (sl:List Sl)(C:∀ s∈sl,z41 cl s)(hl:sl.length<=1000)(h:Hh)(n:Nat)(ds:List D)(g:h[n]?=some (.lst ds))(a:Ats h (sl.map Sl.th) ds) :
  ∃ J,d_formed.run cl [.loc n,.tup (sl.map λ s=>.str s.kd)] h=.ok (.tup (sl.map Sl.d)) (h++J):=by
 have le:ds.length=sl.length:=by rw [y9 a,Y0c]
 obtain ⟨J,e⟩:=wU Sl.th Sl.d (λ s d=>qi (.str s.kd,d)) (f:=zz ZH (zS [none,none] [some (.loc n),some (.tup (sl.map λ s=>.str s.kd))]) (λ ρ' h2=>c_formed_1.evC cl ρ' h2) (λ ρ' h2=>e_formed_1.ev cl ρ' h2)) (n:=n) (all:=ds) sl ds [] h (zv g) a (by
  intro s hs h d a;obtain ⟨J,e⟩:=C s hs h d a;exact ⟨J,jv rfl rfl (zP rfl rfl e)⟩)
 rw [<- Oi] at e;have z:BL (.tup (sl.map λ s=>.str s.kd)) (.loc n) h=.ok ([(n,ds)],((sl.map λ s=>D.str s.kd).zip ds).map qi) h:=by
  unfold BL Ve;dsimp only;rw [zv g];rfl
 refine ⟨J,zh (zf (h':=h) (zk (bnd rfl (show jL (.loc n) h=.ok (.int sl.length) h by unfold jL;dsimp only;rw [zv g,<- le])) (bnd rfl (show jL (.tup (sl.map λ s=>.str s.kd)) h=.ok (.int sl.length) h by unfold jL;dsimp only;rw [Y0c])) (by rw [neI];simp)) (zg (bnd (bnd (bnd rfl (bnd rfl z)) ((if_pos ?_).trans e)) rfl)))⟩;simp;omega
theorem z0h (gs:List G)(C:∀ g∈gs,wv cl g)(hl:gs.length<=1000000)(h:Hh)(n:Nat)(ds:List D)(g:h[n]?=some (.lst ds))(a:Ats h (ths gs) ds) :
  ∃ J,d_expressions_of.run cl [.loc n] h=.ok (.tup (G.ds gs)) (h++J):=by
 rw [Ux] at a;have le:ds.length=gs.length:=by rw [y9 a,Y0c]
 obtain ⟨J,e⟩:=wU th G.d (λ _ d=>d) (f:=zz jD (zS [none] [some (.loc n)]) (λ ρ' h2=>c_expressions_of_1.evC cl ρ' h2) (λ ρ' h2=>e_expressions_of_1.ev cl ρ' h2)) (n:=n) (all:=ds) gs ds [] h (zv g) a (by
  intro s hs h d a;obtain ⟨J,e⟩:=C s hs h d a;exact ⟨J,jv rfl rfl (zb rfl e)⟩)
 rw [yY gs ds le,Y0n,<- ZE] at e;exact ⟨J,zh (zg (bnd (bnd (wj rfl (zv g)) ((if_pos (show ds.length<=1000000 by omega)).trans e)) rfl))⟩
theorem Vw (C:jE cl)(f:Str)(gs:List G)(hf:Nm f)(C14:WA cl gs)(h:Hh)(n:Nat)(ds:List D)(g:h[n]?=some (.lst (.str f::ds)))(a:Ats h (ths gs) ds) :
  ∃ J,d_call_of.run cl [.loc n] h=.ok (G.nd (.call f none) gs).d (h++J):=by
 obtain ⟨J1,e1⟩:=C f h hf;have g1:(h++J1)[n]?=some (O.lst (.str f::ds)):=z9 g;obtain ⟨J2,e2⟩:=C14 (h++J1++[.lst ds]) (h++J1).length ds (by rw [hx0];rfl) (Ats.gr (Ats.gr a));refine ⟨J1++([.lst ds]++J2),zh (zf (h':=h) (bnd (x:=.bl false) (bnd rfl ?_) rfl) (zg (zU (xs:=[.str "call",.str f,.non,.tup (G.ds gs)]) (zi rfl (zi (zb (bnd rfl (bnd rfl (jj (k:=0) g rfl))) e1) (zi rfl (zi (zb (bnd rfl (bnd rfl (bnd rfl (ya (k:=1) g1)))) e2) ?_)))) (Y0e rfl))))⟩
 ·show qg false (.loc n) h=_;unfold qg;dsimp only;rw [zv g];rfl
 ·rw [z3q];simp only [Y07]
theorem Vx (C:jE cl)(f f2:Str)(gs:List G)(hf:Nm f)(hf2:Nm f2)(C14:WA cl gs)(h:Hh)(n:Nat)(ds:List D)(g:h[n]?=some (.lst (.str f::.str f2::ds)))(a:Ats h (ths gs) ds) :
  ∃ J,d_hand_of.run cl [.loc n] h=.ok (G.nd (.call f (some f2)) gs).d (h++J):=by
 obtain ⟨J1,e1⟩:=C f h hf;have g1:(h++J1)[n]?=some (O.lst (.str f::.str f2::ds)):=z9 g;obtain ⟨J2,e2⟩:=C f2 (h++J1) hf2;have g2:(h++J1++J2)[n]?=some (O.lst (.str f::.str f2::ds)):=z9 g1;obtain ⟨J3,e3⟩:=C14 (h++J1++J2++[.lst ds]) (h++J1++J2).length ds (by rw [hx0];rfl) (Ats.gr (Ats.gr (Ats.gr a)));refine ⟨J1++(J2++([.lst ds]++J3)),zh (zf (h':=h) (zk (bnd rfl (show jL (.loc n) h=.ok (.int ((ds.length+2:Nat):Int)) h by unfold jL;dsimp only;rw [zv g];try rfl)) rfl (by rw [cmp_lt];congr 2)) (zg (zU (xs:=[.str "call",.str f,.str f2,.tup (G.ds gs)]) (zi rfl (zi (zb (bnd rfl (bnd rfl (jj (k:=0) g rfl))) e1) (zi (zb (bnd rfl (bnd rfl (jj (k:=1) g1 rfl))) e2) (zi (zb (bnd rfl (bnd rfl (bnd rfl (ya (k:=2) g2)))) e3) ?_)))) (Y0e rfl))))⟩;rw [z3q];simp only [Y07]
end
section
variable {cl:Nat->List D->Hh->Res D}
noncomputable def wx (cl:Nat->List D->Hh->Res D):Prop:=∀ n w r h,h[n]?=some (.lst (.str w::r))->cl 15 [.loc n] h=.ok (.str w) h
theorem Ol {a b:E}{ρ:En}{h h' h2:Hh}{p:Pos}{xs ys:List D}(ea:a.ev cl ρ h=.ok (.tup xs) h')(eb:b.ev cl ρ h'=.ok (.tup ys) h2)(hl:xs.length+ys.length<=1000000):E.ev cl (.bin .Add a b p) ρ h=.ok (.tup (xs++ys)) h2:=bnd ea (bnd eb (if_pos hl))
theorem yZ (C:wx cl){n:Nat}{w:Str}{r:List D}{h:Hh}{d:D}{h2:Hh}(g:h[n]?=some (.lst (.str w::r)))(k:Ss.run cl (zA 2 d_expression_of.body) [some (.loc n),some (.str w)] h=.rt d h2):d_expression_of.run cl [.loc n] h=.ok d h2 :=
 zh (zf (h':=h) (z6c rfl g) (ze (zb rfl (C n w r h g)) k))
theorem z6d {s:Str}(q:Sg s):PyData.strOk s=true:=by rcases q with rfl | rfl | rfl | rfl<;>decide +kernel
theorem z42 {s:Str}(q:Sg s):g_SIGNS.any (λ y=>y==s)=true:=by rcases q with rfl | rfl | rfl | rfl<;>decide +kernel
theorem z6e (C:wx cl){s:Str}(hs:Sg s)(a b:G)(C9:ZM cl [.pt a,.pt b])(h:Hh)(d:D)(q:At h (th (.nd (.op s) [a,b])) d):∃ J,d_expression_of.run cl [d] h=.ok (G.nd (.op s) [a,b]).d (h++J):=by
 rw [show th (.nd (.op s) [a,b])=.l (.w s::([Sl.pt a,Sl.pt b].map Sl.th)) by simp [th,ths,Kd.leaf,Kd.heads,Sl.th],At] at q;obtain ⟨n,ds,rfl,g,q⟩:=q;rw [Ats] at q;obtain ⟨e,ds,rfl,q1,q2⟩:=q;rw [At] at q1;subst q1;obtain ⟨J,e⟩:=C9 (h++[.lst ds]) h.length ds (by rw [hx0];rfl) (Ats.gr q2);refine ⟨[.lst ds]++J,?_⟩;rw [show (G.nd (.op s) [a,b]).d=.tup ([.str "op",.str s]++[a.d,b.d]) by simp [G.d,Kd.enc,G.ds],<- Y07];refine yZ C g (zM (zk rfl rfl (YD (z42 hs))) (zg (Ol (xs:=[.str "op",.str s]) (ys:=[a.d,b.d]) rfl (zP (bnd rfl (bnd rfl (bnd rfl (ya (k:=1) g)))) (y:=.tup [.str "part",.str "part"]) ?_ e) (Y0e rfl))));exact bnd rfl (bnd rfl (bnd rfl rfl))
theorem jX (C:wx cl)(w:Str)(sl:List Sl)(k:Kd)(ps:List G)(hw:g_SIGNS.any (λ y=>y==w)=false)(hw2:g_ALIKE.any (λ y=>y==w)=true)(hl:g_FORMS.lookup w=some (.tup (sl.map Sl.kd)))(ht:th (.nd k ps)=.l (.w w::sl.map Sl.th))(hd:(G.nd k ps).d=.tup (.str w::sl.map Sl.d))(hn:sl.length<=3)
  (C9:ZM cl sl) (h:Hh) (d:D) (q:At h (th (.nd k ps)) d):∃ J,d_expression_of.run cl [d] h=.ok (G.nd k ps).d (h++J):=by
 rw [ht,At] at q;obtain ⟨n,ds,rfl,g,q⟩:=q;rw [Ats] at q;obtain ⟨e,ds,rfl,q1,q2⟩:=q;rw [At] at q1;subst q1;obtain ⟨J,e⟩:=C9 (h++[.lst ds]) h.length ds (by rw [hx0];rfl) (Ats.gr q2);refine ⟨[.lst ds]++J,?_⟩;rw [hd,<- Y07];refine yZ C g (zf (zk rfl rfl (YD hw)) (zM (zk rfl rfl (YD hw2)) (zg (Ol (xs:=[.str w]) (ys:=sl.map Sl.d) rfl (zP (bnd rfl (bnd rfl (bnd rfl (ya (k:=1) g)))) (y:=.tup (sl.map λ s=>.str s.kd)) ?_ e) (by simp;omega)))))
 ·refine bnd rfl ?_;show BK g_FORMS (.str w) _=_;unfold BK;dsimp only;rw [hl];show Res.ok (D.tup ((sl.map Sl.kd).map .str)) _=_;rw [Y15];rfl
theorem z0i (C:wx cl)(f:Str)(ps:List G)(C12:∀ h n ds,h[n]?=some (.lst (.str f::ds))->Ats h (ths ps) ds->∃ J,cl 12 [.loc n] h=.ok (G.nd (.call f none) ps).d (h++J))(h:Hh)(d:D)(q:At h (th (.nd (.call f none) ps)) d):∃ J,d_expression_of.run cl [d] h=.ok (G.nd (.call f none) ps).d (h++J):=by
 rw [show th (.nd (.call f none) ps)=.l (.w "call"::.w f::ths ps) by simp [th,Kd.leaf,Kd.heads],At] at q;obtain ⟨n,ds,rfl,g,q⟩:=q;rw [Ats] at q;obtain ⟨e,ds,rfl,q1,q⟩:=q;rw [At] at q1;rw [Ats] at q;obtain ⟨e2,ds,rfl,q2,q⟩:=q;rw [At] at q2;subst q1 q2;obtain ⟨J,e⟩:=C12 (h++[.lst (.str f::ds)]) h.length ds (by rw [hx0];rfl) (Ats.gr q);refine ⟨[.lst (.str f::ds)]++J,?_⟩;rw [<- Y07];exact yZ C g (zf (zk rfl rfl (YD (by decide +kernel))) (zf (zk rfl rfl (YD (by decide +kernel))) (zM (zk rfl rfl (eqS yW yW)) (zg (zb (bnd rfl (bnd rfl (bnd rfl (ya (k:=1) g)))) e)))))
theorem WC:PyData.strOk "hand"=true:=by decide +kernel
theorem z0j (C:wx cl)(f f2:Str)(ps:List G)(C13:∀ h n ds,h[n]?=some (.lst (.str f::.str f2::ds))->Ats h (ths ps) ds->∃ J,cl 13 [.loc n] h=.ok (G.nd (.call f (some f2)) ps).d (h++J))(h:Hh)(d:D)(q:At h (th (.nd (.call f (some f2)) ps)) d):∃ J,d_expression_of.run cl [d] h=.ok (G.nd (.call f (some f2)) ps).d (h++J):=by
 rw [show th (.nd (.call f (some f2)) ps)=.l (.w "hand"::.w f::.w f2::ths ps) by simp [th,Kd.leaf,Kd.heads],At] at q;obtain ⟨n,ds,rfl,g,q⟩:=q;rw [Ats] at q;obtain ⟨e,ds,rfl,q1,q⟩:=q;rw [At] at q1;rw [Ats] at q;obtain ⟨e2,ds,rfl,q2,q⟩:=q;rw [At] at q2;rw [Ats] at q;obtain ⟨e3,ds,rfl,q3,q⟩:=q;rw [At] at q3;subst q1 q2 q3;obtain ⟨J,e⟩:=C13 (h++[.lst (.str f::.str f2::ds)]) h.length ds (by rw [hx0];rfl) (Ats.gr q);refine ⟨[.lst (.str f::.str f2::ds)]++J,?_⟩;rw [<- Y07];exact yZ C g (zf (zk rfl rfl (YD (by decide +kernel))) (zf (zk rfl rfl (YD (by decide +kernel))) (zf (zk rfl rfl (eqS WC yW)) (zM (zk rfl rfl (eqS WC WC)) (zg (zb (bnd rfl (bnd rfl (bnd rfl (ya (k:=1) g)))) e))))))
theorem z43 {n:Int}{x:Str}{h:Hh}(m:NumW n x):c1D .int (.str x) h=.ok (.int n) h:=by
 unfold c1D;dsimp only;rw [m.rd];exact if_pos (by have:=m.le;rw [cs_len];omega)
theorem z44 (C1:y8 cl){n:Int}(m:NumW n (Str.ofString (toString n)))(h:Hh)(d:D)(q:At h (th (.nd (.num n) [])) d):∃ J,d_expression_of.run cl [d] h=.ok (G.nd (.num n) []).d (h++J):=by
 rw [show th (.nd (.num n) [])=.w (Str.ofString (toString n)) by simp [th,Kd.leaf],At] at q;subst q;obtain ⟨J,e⟩:=C1.1 n _ h m;exact ⟨J,zh (zM (h':=h) (bnd (x:=.bl true) (bnd rfl rfl) rfl) (zg (O8 (bnd (x:=.bl true) (zb rfl e) rfl) (zU (xs:=[.str "num",.int n]) (zi rfl (zi (bnd rfl (z43 m)) rfl)) (Y0e rfl)))))⟩
theorem z45 (C1:y8 cl)(C17:jE cl){x:Str}(m:Nm x)(h:Hh)(d:D)(q:At h (th (.nd (.var x) [])) d):∃ J,d_expression_of.run cl [d] h=.ok (G.nd (.var x) []).d (h++J):=by
 rw [show th (.nd (.var x) [])=.w x by simp [th,Kd.leaf],At] at q;subst q;obtain ⟨J,e⟩:=C1.2 x h m;obtain ⟨J2,e2⟩:=C17 x (h++J) m;refine ⟨J++J2,zh (zM (h':=h) (bnd (x:=.bl true) (bnd rfl rfl) rfl) (zg (O9 (bnd (x:=.bl false) (zb rfl e) rfl) (zU (xs:=[.str "var",.str x]) (zi rfl (zi (zb rfl e2) ?_)) (Y0e rfl)))))⟩;rw [z3q,Y07]
structure ExC (cl:Nat->List D->Hh->Res D)(ps:List G):Prop where
 hd:wx cl
 nb:y8 cl
 nm:jE cl
 fo:∀ sl:List Sl,(∀ s∈sl,match s with | .nm x=>Nm x | .pt g=>g∈ps)->sl.length<=3->ZM cl sl
 ca:∀ f,Nm f->∀ h n ds,h[n]?=some (.lst (.str f::ds))->Ats h (ths ps) ds->∃ J,cl 12 [.loc n] h=.ok (G.nd (.call f none) ps).d (h++J)
 ha:∀ f f2,Nm f->Nm f2->∀ h n ds,h[n]?=some (.lst (.str f::.str f2::ds))->Ats h (ths ps) ds->∃ J,cl 13 [.loc n] h=.ok (G.nd (.call f (some f2)) ps).d (h++J)
theorem z46 (k:Kd)(ps:List G)(hw:Kd.wd k ps.length)(hk:k.ok ps.length=true)(C:ExC cl ps)(h:Hh)(d:D)(q:At h (th (.nd k ps)) d):∃ J,d_expression_of.run cl [d] h=.ok (G.nd k ps).d (h++J):=by
 have l1:∀ {l:List G},l.length=1->∃ a,l=[a]:=λ {l} e=>by match l,e with | [a],_=>exact ⟨a,rfl⟩
 have l2:∀ {l:List G},l.length=2->∃ a b,l=[a,b]:=λ {l} e=>by match l,e with | [a,b],_=>exact ⟨a,b,rfl⟩
 have l3:∀ {l:List G},l.length=3->∃ a b c,l=[a,b,c]:=λ {l} e=>by match l,e with | [a,b,c],_=>exact ⟨a,b,c,rfl⟩
 cases k with
 | num n =>
  obtain rfl:ps=[]:=Y3o hw.2.2;exact z44 C.nb (z1s hw.1 hw.2.1) h d q
 | var x =>
  obtain rfl:ps=[]:=Y3o hw.2;exact z45 C.nb C.nm hw.1 h d q
 | op s =>
  obtain ⟨a,b,rfl⟩:=l2 (by simpa [Kd.ok] using hk);exact z6e C.hd hw a b (C.fo _ (by simp) (by simp)) h d q
 | lett x =>
  obtain ⟨a,b,rfl⟩:=l2 (by simpa [Kd.ok] using hk);exact jX C.hd "let" [.nm x,.pt a,.pt b] (.lett x) [a,b] (by decide +kernel) (by decide +kernel) (by rfl) (by simp [th,ths,Kd.leaf,Kd.heads,Sl.th]) (by simp [G.d,Kd.enc,G.ds,Sl.d]) (by simp) (C.fo _ (by simp;exact hw) (by simp)) h d q
 | ite =>
  obtain ⟨a,b,c,rfl⟩:=l3 (by simpa [Kd.ok] using hk);exact jX C.hd "if" [.pt a,.pt b,.pt c] .ite [a,b,c] (by decide +kernel) (by decide +kernel) (by rfl) (by simp [th,ths,Kd.leaf,Kd.heads,Sl.th]) (by simp [G.d,Kd.enc,G.ds,Sl.d]) (by simp) (C.fo _ (by simp) (by simp)) h d q
 | call f g =>
  cases g with
  | none=>exact z0i C.hd f ps (C.ca f hw.1) h d q
  | some f2=>exact z0j C.hd f f2 ps (C.ha f f2 hw.1 (hw.2 f2 rfl)) h d q
 | doo x =>
  obtain ⟨a,rfl⟩:=l1 (by simpa [Kd.ok] using hk);exact jX C.hd "do" [.nm x,.pt a] (.doo x) [a] (by decide +kernel) (by decide +kernel) (by rfl) (by simp [th,ths,Kd.leaf,Kd.heads,Sl.th]) (by simp [G.d,Kd.enc,G.ds,Sl.d]) (by simp) (C.fo _ (by simp;exact hw) (by simp)) h d q
 | handle x =>
  obtain ⟨a,b,rfl⟩:=l2 (by simpa [Kd.ok] using hk);exact jX C.hd "handle" [.nm x,.pt a,.pt b] (.handle x) [a,b] (by decide +kernel) (by decide +kernel) (by rfl) (by simp [th,ths,Kd.leaf,Kd.heads,Sl.th]) (by simp [G.d,Kd.enc,G.ds,Sl.d]) (by simp) (C.fo _ (by simp;exact hw) (by simp)) h d q
 | go =>
  obtain ⟨a,b,rfl⟩:=l2 (by simpa [Kd.ok] using hk);exact jX C.hd "go" [.pt a,.pt b] .go [a,b] (by decide +kernel) (by decide +kernel) (by rfl) (by simp [th,ths,Kd.leaf,Kd.heads,Sl.th]) (by simp [G.d,Kd.enc,G.ds,Sl.d]) (by simp) (C.fo _ (by simp) (by simp)) h d q
 | guard =>
  obtain ⟨a,b,rfl⟩:=l2 (by simpa [Kd.ok] using hk);exact jX C.hd "guard" [.pt a,.pt b] .guard [a,b] (by decide +kernel) (by decide +kernel) (by rfl) (by simp [th,ths,Kd.leaf,Kd.heads,Sl.th]) (by simp [G.d,Kd.enc,G.ds,Sl.d]) (by simp) (C.fo _ (by simp) (by simp)) h d q
end
noncomputable def thQ (w:Str)(q:List Str×G):Th:=.l (.w w::(q.1.map .w++[th q.2]))
noncomputable def thI:Itm->Th
 | .fn f ps b g=>.l (.w "def"::.w f::.l (ps.map .w)::(b.toList.map .w++[th g]))
 | .hd n qs e=>.l (.w "handler"::.w n::(qs.map (thQ "on")++[thQ "end" e]))
theorem WD {h:Hh}:∀ {ts us:List Th}{ds:List D},Ats h (ts++us) ds->∃ a b,ds=a++b/\Ats h ts a/\Ats h us b
 | [],us,ds,q=>⟨[],ds,rfl,by rw [Ats],q⟩
 | t::r,us,ds,q=>by
  rw [Y0q,Ats] at q;obtain ⟨e,es,rfl,q1,q2⟩:=q;obtain ⟨a,b,rfl,q3,q4⟩:=WD q2;exact ⟨e::a,b,rfl,by rw [Ats];exact ⟨e,a,rfl,q1,q3⟩,q4⟩
theorem Om {h:Hh}:∀ {ws:List Str}{ds:List D},Ats h (ws.map .w) ds->ds=ws.map D.str
 | [],ds,q=>by rw [Y0k,Ats] at q;exact q
 | w::r,ds,q=>by
  rw [Y05,Ats] at q;obtain ⟨e,es,rfl,q1,q2⟩:=q;rw [At] at q1;rw [q1,Om q2];rfl
theorem z1t {h:Hh}{t:Th}{ds:List D}(q:Ats h [t] ds):∃ d,ds=[d]/\At h t d:=by
 rw [Ats] at q;obtain ⟨e,es,rfl,q1,q2⟩:=q;rw [Ats] at q2;exact ⟨e,by rw [q2],q1⟩
section
variable {cl:Nat->List D->Hh->Res D}
noncomputable def Z0 (cl:Nat->List D->Hh->Res D):Prop:=∀ (n:Nat) (ps:List Str) (h:Hh),h[n]?=some (.lst (ps.map D.str))->(∀ x∈ps,Nm x)->ps.length<=1000->∃ J,cl 16 [.loc n] h=.ok (.tup (ps.map D.str)) (h++J)
theorem On {n:Nat}{xs:List D}{d:D}{h:Hh}(g:h[n]?=some (.lst (xs++[d]))):zY (.loc n) (.int (-1)) h=.ok d h:=by
 unfold zY;dsimp only;rw [g];dsimp only
 have:atI (xs++[d]) (-1)=some d:=by
  unfold atI ixN;rw [if_neg (by decide),if_pos (by simp;omega),Y1j]
  have:((-1:Int)+((xs++[d]).length:Nat)).toNat=xs.length:=by simp;omega
  rw [this];simp
 rw [this]
theorem z6f (C17:jE cl)(C16:Z0 cl)(f:Str)(ps:List Str)(g:G)(hf:Nm f)(hp:∀ x∈ps,Nm x)(hl:ps.length<=1000)(C11:wv cl g)(h:Hh)(n m:Nat)(dg:D)(gn:h[n]?=some (.lst [.str f,.loc m,dg]))(gm:h[m]?=some (.lst (ps.map D.str)))(a:At h (th g) dg) :
  ∃ J,d_function_of.run cl [.loc n] h=.ok (Itm.fn f ps none g).d (h++J):=by
 obtain ⟨J1,e1⟩:=C17 f h hf;obtain ⟨J2,e2⟩:=C16 m ps (h++J1) (z9 gm) hp hl;obtain ⟨J3,e3⟩:=C11 (h++J1++J2) dg (At.gr (At.gr a));refine ⟨J1++(J2++J3),?_⟩;rw [<- Y07,<- Y07];exact zh (zf (h':=h) (zk (bnd rfl (y7 gn)) rfl rfl) (ze (d:=.non) (O9 (zk (bnd rfl (y7 gn)) rfl rfl) rfl) (zg (zU (xs:=[.str "def",.str f,.tup (ps.map D.str),.non,g.d]) (zi rfl (zi (zb (bnd rfl (bnd rfl (jj (k:=0) gn rfl))) e1) (zi (zb (bnd rfl (bnd rfl (jj (k:=1) (z9 gn) rfl))) e2) (zi rfl (zi (zb (bnd rfl (bnd rfl (On (xs:=[.str f,.loc m]) (z9 (z9 gn))))) e3) rfl))))) (Y0e rfl)))))
theorem z6g (C17:jE cl)(C16:Z0 cl)(f b:Str)(ps:List Str)(g:G)(hf:Nm f)(hb:Nm b)(hp:∀ x∈ps,Nm x)(hl:ps.length<=1000)(C11:wv cl g)(h:Hh)(n m:Nat)(dg:D)(gn:h[n]?=some (.lst [.str f,.loc m,.str b,dg]))(gm:h[m]?=some (.lst (ps.map D.str)))(a:At h (th g) dg) :
  ∃ J,d_function_of.run cl [.loc n] h=.ok (Itm.fn f ps (some b) g).d (h++J):=by
 obtain ⟨J0,e0⟩:=C17 b h hb;obtain ⟨J1,e1⟩:=C17 f (h++J0) hf;obtain ⟨J2,e2⟩:=C16 m ps (h++J0++J1) (z9 (z9 gm)) hp hl;obtain ⟨J3,e3⟩:=C11 (h++J0++J1++J2) dg (At.gr (At.gr (At.gr a)));refine ⟨J0++(J1++(J2++J3)),?_⟩;rw [<- Y07,<- Y07,<- Y07];exact zh (zf (h':=h) (zk (bnd rfl (y7 gn)) rfl rfl) (ze (d:=.str b) (O8 (zk (bnd rfl (y7 gn)) rfl rfl) (zb (bnd rfl (bnd rfl (jj (k:=2) gn rfl))) e0)) (zg (zU (xs:=[.str "def",.str f,.tup (ps.map D.str),.str b,g.d]) (zi rfl (zi (zb (bnd rfl (bnd rfl (jj (k:=0) (z9 gn) rfl))) e1) (zi (zb (bnd rfl (bnd rfl (jj (k:=1) (z9 (z9 gn)) rfl))) e2) (zi rfl (zi (zb (bnd rfl (bnd rfl (On (xs:=[.str f,.loc m,.str b]) (z9 (z9 (z9 gn)))))) e3) rfl))))) (Y0e rfl)))))
noncomputable def ZN (cl:Nat->List D->Hh->Res D)(w:Str)(form:List Str)(q:List Str×G):Prop:=∀ h d,At h (thQ w q) d->∃ J,cl 8 [.str w,d,.tup (form.map .str)] h=.ok (hdD q.1 q.2) (h++J)
theorem Oo (C15:wx cl) (w:Str) (hw:PyData.strOk w=true) (form:List Str) (q:List Str×G) (hf:form=q.1.map (λ _=>("name":Str))++[("part":Str)]) (C9:ZM cl (q.1.map .nm++[.pt q.2])) (h:Hh) (d:D) (a:At h (thQ w q) d):∃ J,d_headed.run cl [.str w,d,.tup (form.map .str)] h=.ok (hdD q.1 q.2) (h++J):=by
 rw [thQ,show q.1.map Th.w++[th q.2]=(q.1.map Sl.nm++[Sl.pt q.2]).map Sl.th by simp [Sl.th,Function.comp_def],At] at a;obtain ⟨n,ds,rfl,g,a⟩:=a;rw [Ats] at a;obtain ⟨e,ds,rfl,q1,q2⟩:=a;rw [At] at q1;subst q1;obtain ⟨J,e⟩:=C9 (h++[.lst ds]) h.length ds (by rw [hx0];rfl) (Ats.gr q2);rw [show ((q.1.map Sl.nm++[Sl.pt q.2]).map λ s=>D.str s.kd)=form.map .str by rw [hf];simp [Sl.kd,Function.comp_def],show (q.1.map Sl.nm++[Sl.pt q.2]).map Sl.d=q.1.map .str++[q.2.d] by simp [Sl.d,Function.comp_def]] at e;refine ⟨[.lst ds]++J,?_⟩;rw [<- Y07];exact zh (zf (h':=h) (zk (zb rfl (C15 n w ds h g)) rfl (by rw [neS hw hw];simp)) (zg (zP (bnd rfl (bnd rfl (bnd rfl (ya (k:=1) g)))) rfl e)))
theorem z47 {xs:List D}{a b:D}:jc (a::(xs++[b])) (some 1) (some (-1))=xs:=by
 unfold jc HT.sIx;simp;rw [show ((-1+((xs.length:Int)+1+1)).toNat-1)=xs.length by omega,List.take_left' rfl]
theorem z48 {i n:Nat}{xs:List D}{a b:D}{ρ:En}{h:Hh}{p p1 p2 p3 p4 p5:Pos}(ei:ρ[i]?=some (some (.loc n)))(g:h[n]?=some (.lst (a::(xs++[b])))):E.ev cl (.cut (.var i p) (.some (.int 1 p1)) (.some (.un .USub (.int 1 p2) p3)) p4 p5) ρ h=.ok (.loc h.length) (h++[O.lst xs]):=by
 refine bnd (x:=.loc n) (by rw [qB,ei]) (bnd rfl (bnd rfl ?_));show jS (.loc n) (some 1) (some (-1)) h=_;unfold jS;dsimp only;rw [zv g];dsimp only;rw [z47];rfl
theorem WE (C17:jE cl) (nm:Str) (qs:List (List Str×G)) (e:List Str×G) (hn:Nm nm) (hl:qs.length<=1000) (Con:∀ q∈qs,ZN cl "on" j5 q) (Cend:ZN cl "end" jC e) (h:Hh) (n:Nat) (ds:List D) (g:h[n]?=some (.lst (.str nm::ds))) (a:Ats h (qs.map (thQ "on")++[thQ "end" e]) ds) :
  ∃ J,d_handler_of.run cl [.loc n] h=.ok (Itm.hd nm qs e).d (h++J):=by
 obtain ⟨xs,b,rfl,a1,a2⟩:=WD a;obtain ⟨ed,rfl,a3⟩:=z1t a2;have lx:xs.length=qs.length:=by rw [y9 a1,Y0c]
 have g0:(h++[O.lst xs])[n]?=some (.lst (.str nm::(xs++[ed]))):=z9 g;have r0:rd (h++[O.lst xs]) h.length=some xs:=by rw [qC];rfl
 obtain ⟨J1,e1⟩:=wU (thQ "on") (λ q=>hdD q.1 q.2) (λ _ d=>d) (f:=zz wR (zS [none] [some (.loc n),none]) (λ ρ' h2=>c_handler_of_1.evC cl ρ' h2) (λ ρ' h2=>e_handler_of_1.ev cl ρ' h2)) (n:=h.length) (all:=xs) qs xs [] (h++[O.lst xs]) r0 (Ats.gr a1) (by
  intro q hq h d a;obtain ⟨J,e⟩:=Con q hq h d a;exact ⟨J,jv rfl rfl (Oa rfl rfl rfl e)⟩)
 rw [yY qs xs lx,Y0n] at e1;obtain ⟨J2,e2⟩:=C17 nm (h++[O.lst xs]++J1++[.lst (qs.map λ q=>hdD q.1 q.2)]) hn;obtain ⟨J3,e3⟩:=Cend (h++[O.lst xs]++J1++[.lst (qs.map λ q=>hdD q.1 q.2)]++J2) ed (At.gr (At.gr (At.gr (At.gr a3))));have rt:wz (.loc (h++[O.lst xs]++J1).length) (h++[O.lst xs]++J1++[O.lst (qs.map λ q=>hdD q.1 q.2)]++J2)=some (qs.map λ q=>hdD q.1 q.2):=Ys (by rw [qC];rfl);have s0:zY (.loc n) (.int 0) (h++[O.lst xs]++J1++[O.lst (qs.map λ q=>hdD q.1 q.2)])=.ok (.str nm) (h++[O.lst xs]++J1++[O.lst (qs.map λ q=>hdD q.1 q.2)]):=jj (k:=0) (z9 (z9 g0)) rfl;have s1:zY (.loc n) (.int (-1)) (h++[O.lst xs]++J1++[O.lst (qs.map λ q=>hdD q.1 q.2)]++J2)=.ok ed (h++[O.lst xs]++J1++[O.lst (qs.map λ q=>hdD q.1 q.2)]++J2):=On (xs:=.str nm::xs) (z9 (z9 (z9 g0)));refine ⟨[O.lst xs]++(J1++([O.lst (qs.map λ q=>hdD q.1 q.2)]++(J2++J3))),?_⟩;rw [<- Y07,<- Y07,<- Y07,<- Y07];refine zh (zf (h':=h) (zk (bnd rfl (y7 g)) rfl (by rw [cmp_lt];congr 2;simp;omega)) (ze (j4 (wj (z48 rfl g) r0) (show xs.length<=1000000 by omega) e1) (zg (zU (xs:=[.str "handler",.str nm,.tup (qs.map λ q=>hdD q.1 q.2),hdD e.1 e.2]) ?_ (Y0e rfl)))));exact zi rfl (zi (zb (bnd rfl (bnd rfl s0)) e2) (zi (wf rfl rt) (zi (Oa rfl (bnd rfl (bnd rfl s1)) rfl e3) rfl)))
end
noncomputable def Itm.hw:Itm->Str
 | .fn ..=>"def"
 | .hd ..=>"handler"
noncomputable def Itm.tl:Itm->List Th
 | .fn f ps b g=>.w f::.l (ps.map .w)::(b.toList.map .w++[th g])
 | .hd n qs e=>.w n::(qs.map (thQ "on")++[thQ "end" e])
noncomputable def Itm.fx:Itm->Nat
 | .fn ..=>6
 | .hd ..=>7
theorem z49 (i:Itm):thI i=.l (.w i.hw::i.tl):=by cases i<;>rfl
section
variable {cl:Nat->List D->Hh->Res D}
noncomputable def Op (cl:Nat->List D->Hh->Res D)(i:Itm):Prop:=∀ h n ds,h[n]?=some (.lst ds)->Ats h i.tl ds->∃ J,cl i.fx [.loc n] h=.ok i.d (h++J)
noncomputable def Oq (cl:Nat->List D->Hh->Res D)(i:Itm):Prop:=∀ h d,At h (thI i) d->∃ J,cl 5 [d] h=.ok i.d (h++J)
theorem Ji (C17:jE cl)(C16:Z0 cl)(f:Str)(ps:List Str)(b:Option Str)(g:G)(hf:Nm f)(hp:∀ x∈ps,Nm x)(hb:∀ x,b=some x->Nm x)(hl:ps.length<=1000)(C11:wv cl g)(h:Hh)(n:Nat)(ds:List D)(gn:h[n]?=some (.lst ds))(a:Ats h (Itm.fn f ps b g).tl ds) :
  ∃ J,d_function_of.run cl [.loc n] h=.ok (Itm.fn f ps b g).d (h++J):=by
 rw [Itm.tl,Ats] at a;obtain ⟨e,ds,rfl,a1,a⟩:=a;rw [At] at a1;rw [Ats] at a;obtain ⟨e2,ds,rfl,a2,a⟩:=a;rw [At] at a2;obtain ⟨m,es,rfl,gm,a2⟩:=a2
 have:=Om a2
 subst a1 this;obtain ⟨x,y,rfl,a3,a4⟩:=WD a;obtain ⟨dg,rfl,a5⟩:=z1t a4
 have:=Om a3
 subst this;cases b with
 | none=>exact z6f C17 C16 f ps g hf hp hl C11 h n m dg gn gm a5
 | some b=>exact z6g C17 C16 f b ps g hf (hb b rfl) hp hl C11 h n m dg gn gm a5
theorem Vy (C15:wx cl)(i:Itm)(C:Op cl i)(h:Hh)(d:D)(a:At h (thI i) d):∃ J,d_item_of.run cl [d] h=.ok i.d (h++J):=by
 rw [z49,At] at a;obtain ⟨n,ds,rfl,g,a⟩:=a;rw [Ats] at a;obtain ⟨e,ds,rfl,a1,a⟩:=a;rw [At] at a1;subst a1;obtain ⟨J,e⟩:=C (h++[.lst ds]) h.length ds (by rw [hx0];rfl) (Ats.gr a);refine ⟨[.lst ds]++J,?_⟩;rw [<- Y07];cases i with
 | fn f ps b g=>exact zh (ze (zb rfl (C15 n _ ds h g)) (zM (zk rfl rfl (eqS qG qG)) (zg (zb (bnd rfl (bnd rfl (bnd rfl (ya (k:=1) g)))) e))))
 | hd nm qs e=>exact zh (ze (zb rfl (C15 n _ ds h g)) (zf (zk rfl rfl (eqS Qs qG)) (zM (zk rfl rfl (eqS Qs Qs)) (zg (zb (bnd rfl (bnd rfl (bnd rfl (ya (k:=1) g)))) e)))))
noncomputable def Os (cl:Nat->List D->Hh->Res D)(ts:List Th):Prop:=∀ nw h,h[nw]?=some (.lst ((Th.wss ts).map D.str))->∃ m ds J,cl 4 [.loc nw] h=.ok (.loc m) (h++J)/\(h++J)[m]?=some (.lst ds)/\Ats (h++J) ts ds
theorem z4a (x:Str)(is:List Itm)(hl:is.length<=1000)(h:Hh)(C3:∃ n J,cl 3 [.str x] h=.ok (.loc n) (h++J)/\(h++J)[n]?=some (.lst ((Th.wss (is.map thI)).map D.str)))(C4:Os cl (is.map thI))(C5:∀ i∈is,Oq cl i) :
  ∃ J,d_read.run cl [.str x] h=.ok (.tup (is.map Itm.d)) (h++J):=by
 obtain ⟨n,J1,e1,g1⟩:=C3;obtain ⟨m,ds,J2,e2,g2,a⟩:=C4 n (h++J1) g1;have le:ds.length=is.length:=by rw [y9 a,Y0c]
 obtain ⟨J3,e3⟩:=wU thI Itm.d (λ _ d=>d) (f:=zz Qo (zS [none] [some (.str x)]) (λ ρ' h2=>c_read_1.evC cl ρ' h2) (λ ρ' h2=>e_read_1.ev cl ρ' h2)) (n:=m) (all:=ds) is ds [] (h++J1++J2) (zv g2) a (by
  intro s hs h d a;obtain ⟨J,e⟩:=C5 s hs h d a;exact ⟨J,jv rfl rfl (zb rfl e)⟩)
 rw [yY is ds le,Y0n] at e3;refine ⟨J1++(J2++J3),?_⟩;rw [<- Y07,<- Y07];exact zh (zg (bnd (bnd (wj (zb (zb rfl e1) e2) (zv g2)) ((if_pos (show ds.length<=1000000 by omega)).trans e3)) rfl))
end
theorem Uy:∀ (a b:List Th),Th.wss (a++b)=Th.wss a++Th.wss b
 | [],b=>by rw [Th.wss];rfl
 | t::r,b=>by rw [Y0q,Th.wss,Th.wss,Uy r b,Y07]
theorem yb:∀ (a b:List Th),Th.dps (a++b)=max (Th.dps a) (Th.dps b)
 | [],b=>by rw [Th.dps,Y0n,Nat.zero_max]
 | t::r,b=>by rw [Y0q,Th.dps,Th.dps,yb r b,Nat.max_assoc]
theorem Qw:∀ ws:List Str,Th.dps (ws.map .w)=0
 | []=>by rw [Y0k,Th.dps]
 | w::r=>by rw [Y05,Th.dps,Qw r,Th.dp];rfl
mutual
theorem Ot:∀ g:G,(th g).dp<=bd g
 | .nd k ps=>by
  rw [th,bd];unfold Kd.br;cases e:Kd.leaf k with
  | some x=>simp only;rw [Th.dp];omega
  | none =>
   simp only;rw [Th.dp,yb,Qw]
   have:=bds_ths ps
   omega
theorem bds_ths:∀ gs:List G,Th.dps (ths gs)<=bds gs
 | []=>by rw [ths,Th.dps];omega
 | g::r=>by
  rw [ths,Th.dps,bds];have a:=Ot g;have b:=bds_ths r;omega
end
theorem YE {α:Type}(T:α->Th)(n:Nat):∀ xs:List α,(∀ x∈xs,(T x).dp<=n)->Th.dps (xs.map T)<=n
 | [],_=>by rw [Y0k,Th.dps];omega
 | x::r,h=>by
  rw [Y05,Th.dps]
  have:=h x (Y08 ..)
  have:=YE T n r λ y hy=>h y (Y06 _ hy)
  omega
theorem Ou (w:Str)(q:List Str×G):(thQ w q).dp<=1+bd q.2:=by
 rw [thQ,Th.dp,Th.dps,yb,Qw,Th.dps,Th.dps,Th.dp]
 have:=Ot q.2
 omega
theorem z4b (i:Itm)(g:ItG i):(thI i).dp<=24:=by
 cases i with
 | fn f ps b t =>
  have h1:=(g.tr t (by simp [trs])).2.2;have h2:=Ot t;rw [Itm.cap] at h1;rw [thI,Th.dp,Th.dps,Th.dps,Th.dps,Th.dp,Th.dp,Th.dp,Qw,yb,Qw,Th.dps,Th.dps];omega
 | hd n qs e =>
  have h1:∀ t∈trs (.hd n qs e),bd t<=22:=λ t ht=>(g.tr t ht).2.2;have h2:=YE (thQ "on") 23 qs (λ q hq=>by have:=Ou "on" q;have:=h1 q.2 (by simp only [trs];exact Y0f.mpr (.inl (Y0z.mpr ⟨q,hq,rfl⟩)));omega);have h3:=Ou "end" e;have h4:=h1 e.2 (by simp [trs]);rw [thI,Th.dp,Th.dps,Th.dps,Th.dp,Th.dp,yb,Th.dps,Th.dps];omega
noncomputable def fl (cur:List Nat):List (List Nat):=if cur=[] then [] else [cur]
noncomputable def w1:List Nat->List Nat->List (List Nat)
 | cur,[]=>fl cur
 | cur,c::r=>if c=32 then fl cur++w1 [] r else w1 (cur++[c]) r
theorem Z2:∀ (p cur L:List Nat),32∉p->w1 cur (p++L)=w1 (cur++p) L
 | [],cur,L,_=>by simp
 | c::r,cur,L,h=>by
  rw [Y0b,not_or] at h;rw [Y0q,w1,if_neg (λ e=>h.1 e.symm),Z2 r _ L h.2,Y07];rfl
theorem Ov:∀ (ps:List (List Nat)) (cur:List Nat),(∀ p∈ps,32∉p)->w1 cur (zC [32] ps)=match ps with | []=>fl cur | p::r=>fl (cur++p)++r.filter (λ q=>decide (q≠[]))
 | [],cur,_=>by rw [zC,w1]
 | [p],cur,h=>by
  rw [zC]
  have:=Z2 p cur [] (h p (Y0a.mpr rfl))
  rw [Y14] at this;rw [this,w1];simp
 | p::q::r,cur,h=>by
  rw [zC,Y07,Z2 p cur _ (h p (Y08 ..)),Y2z,w1,if_pos rfl,Ov (q::r) [] λ x hx=>h x (Y06 _ hx)];simp only [Y0n,Y2e];unfold fl;by_cases e:q=[]<;>simp [e]
noncomputable def sg (c:Nat):List Nat:=if c=10 then [32] else if c=40 then [32,40,32] else if c=41 then [32,41,32] else [c]
noncomputable def Sn (T:List Nat):List Nat:=T.flatMap sg
theorem qH (a b:List Nat):Sn (a++b)=Sn a++Sn b:=Y39 ..
theorem ZO:∀ w:List Nat,(∀ c∈w,c≠10/\c≠40/\c≠41)->Sn w=w
 | [],_=>rfl
 | c::r,h=>by
  have hc:=h c (Y08 ..);show sg c++Sn r=_;rw [ZO r λ x hx=>h x (Y06 _ hx),sg,if_neg hc.1,if_neg hc.2.1,if_neg hc.2.2];rfl
noncomputable def Sp (s:List Nat):Prop:=∀ c∈s,c=32\/c=10
theorem Ox:∀ (s cur L:List Nat),Sp s->w1 cur (Sn s++L)=if s=[] then w1 cur L else fl cur++w1 [] L
 | [],cur,L,_=>rfl
 | c::r,cur,L,h=>by
  have e:sg c=[32]:=by rcases h c (Y08 ..) with rfl | rfl<;>rfl
  have ih:=Ox r [] L λ x hx=>h x (Y06 _ hx);show w1 cur (sg c++Sn r++L)=_;have z:(if r=[] then w1 [] L else fl []++w1 [] L)=w1 [] L:=by split<;>simp [fl]
  rw [e,Y07,Y2z,w1,if_pos rfl,ih,z,if_neg (List.cons_ne_nil c r)]
structure Wq (w:List Nat):Prop where
 ne:w≠[]
 le:w.length<=20
 ch:∀ c∈w,c≠10/\c≠32/\c≠40/\c≠41/\c<1114112
structure Inv (T:List Nat)(ws:List (List Nat))(cur:List Nat):Prop where
 ex:∃ acc,ws=acc++fl cur/\∀ L,w1 [] (Sn T++L)=acc++w1 cur L
theorem yh {s:List Nat}(h:Sp s):Inv s [] []:=⟨[],rfl,λ L=>by rw [Ox s [] L h];split<;>simp [fl]⟩
theorem JQ:∀ {s:List Nat},Sp s->(Sn s).length=s.length
 | [],_=>rfl
 | c::r,h=>by
  have e:sg c=[32]:=by rcases h c (Y08 ..) with rfl | rfl<;>rfl
  show (sg c++Sn r).length=_;rw [Y03,JQ λ x hx=>h x (Y06 _ hx),e];simp;omega
theorem Oy (T:List Nat):T.length<=(Sn T).length:=by
 induction T with
 | nil=>exact Y09 0
 | cons c r ih =>
  show r.length+1<=(sg c++Sn r).length
  have:1<=(sg c).length:=by unfold sg;split<;>(try split)<;>(try split)<;>simp
  rw [Y03];omega
end K14
namespace K14
open PySem L2 PI Builtin Builtin.Str
theorem qc (c:Nat)(d:List Nat):∀ p:List Nat,c∉p->(p.flatMap λ a=>if a=c then d else [a])=p
 | [],_=>rfl
 | a::r,h=>by
  rw [Y0b,not_or] at h;rw [List.flatMap_cons,qc c d r h.2,if_neg (λ e=>h.1 e.symm)];rfl
theorem Qx (c:Nat)(d:List Nat):∀ ps:List (List Nat),(∀ p∈ps,c∉p)->((zC [c] ps).flatMap λ a=>if a=c then d else [a])=zC d ps
 | [],_=>rfl
 | [p],h=>qc c d p (h p (Y0a.mpr rfl))
 | p::q::r,h=>by
  rw [zC,zC,Y39,Y39,qc c d p (h p (Y08 ..)),Qx c d (q::r) λ x hx=>h x (Y06 _ hx)];simp
theorem Oz (x:Str)(c:Nat):∀ p∈partsBetween x (occurrences x ⟨#[c]⟩ 0 x.length (x.length+1)) (⟨#[c]⟩:Str).length,c∉cs p:=by
 obtain ⟨f,ch,hn⟩:=StrLaws.occ_tight x ⟨#[c]⟩ (Y09 1);rw [StrLaws.partsBetween_eq];exact StrLaws.parts_free x c _ 0 f ch hn
theorem Vz (x:Str)(c:Nat):cs x=zC [c] ((partsBetween x (occurrences x ⟨#[c]⟩ 0 x.length (x.length+1)) (⟨#[c]⟩:Str).length).map cs):=by
 have h1:=StrLaws.glued_between_self x ⟨#[c]⟩ (x.length+1);have h2:=we ⟨#[c]⟩ (partsBetween x (occurrences x ⟨#[c]⟩ 0 x.length (x.length+1)) (⟨#[c]⟩:Str).length);rw [show Txt.join ⟨#[c]⟩ (partsBetween x (occurrences x ⟨#[c]⟩ 0 x.length (x.length+1)) (⟨#[c]⟩:Str).length)=x from h1] at h2;exact h2
theorem yv (x:Str)(c:Nat)(d:Str):cs (Txt.replace x ⟨#[c]⟩ d)=(cs x).flatMap λ a=>if a=c then cs d else [a]:=by
 have h1:=Vz x c;have h2:=Oz x c;have h3:=length_partsBetween x (occurrences x ⟨#[c]⟩ 0 x.length (x.length+1)) (⟨#[c]⟩:Str).length;have hf:∀ p∈(partsBetween x (occurrences x ⟨#[c]⟩ 0 x.length (x.length+1)) (⟨#[c]⟩:Str).length).map cs,c∉p:=by
  intro p hp;obtain ⟨q,hq,rfl⟩:=Y0z.mp hp;exact h2 q hq
 unfold Txt.replace
 split
 ·rename_i q;have q2:(occurrences x ⟨#[c]⟩ 0 x.length (x.length+1)).isEmpty=true:=by simpa [Str.length] using q
  have q3:occurrences x ⟨#[c]⟩ 0 x.length (x.length+1)=[]:=List.isEmpty_iff.mp q2;rw [q3] at h3 h1 hf
  match hp:partsBetween x [] (⟨#[c]⟩:Str).length,h3 with
  | [p],_ =>
   rw [hp] at h1 hf;have e:cs x=cs p:=h1;rw [e,qc c (cs d) (cs p) (hf (cs p) (Y0a.mpr rfl))]
 ·rw [h1,Qx c (cs d) _ hf];exact we d _
theorem z4c (x:Str)(c:Nat):zC [c] ((Txt.split x ⟨#[c]⟩).map cs)=cs x/\(∀ p∈Txt.split x ⟨#[c]⟩,c∉cs p)/\Txt.split x ⟨#[c]⟩≠[]:=by
 refine ⟨?_,λ p hp=>StrLaws.split_free x c p hp,?_⟩
 ·have h1:=congrArg cs (StrLaws.join_split x ⟨#[c]⟩);rw [<- StrLaws.glued_eq_join] at h1;exact (we ⟨#[c]⟩ (Txt.split x ⟨#[c]⟩)).symm.trans h1
 ·unfold Txt.split
  split
  ·simp
  ·split
   ·simp
   ·intro z
    have:=congrArg List.length z
    rw [length_partsBetween] at this;simp at this
theorem z6h (x:Str)(c:Nat)(h:Hh)(hl:x.length<=900000):Zu (.str x) (.str ⟨#[c]⟩) h=new (.lst ((Txt.split x ⟨#[c]⟩).map .str)) h/\(Txt.split x ⟨#[c]⟩).length<=1000000:=by
 have h1:=congrArg Str.length (StrLaws.glued_between_self x ⟨#[c]⟩ (x.length+1));rw [size_glued] at h1;have h2:(⟨#[c]⟩:Str).length=1:=rfl;rw [h2] at h1;have h3:(Txt.split x ⟨#[c]⟩).length<=1000000:=by
  unfold Txt.split
  split
  ·simp
  ·split
   ·simp
   ·rw [h2];omega
 refine ⟨?_,h3⟩;unfold Zu;dsimp only;exact if_pos ⟨rfl,by omega,by rw [h2];omega,h3⟩
end K14
namespace K14
open PySem L2 PI
theorem Qy (s:List Nat):∀ (ps:List (List Nat)) (p:List Nat),p∈ps->∀ c∈p,c∈zC s ps
 | [p],q,hq,c,hc=>by rw [Y0a.mp hq] at hc;exact hc
 | p::r::t,q,hq,c,hc=>by
  rw [zC,Y07];rcases Y0b.mp hq with rfl | hq
  ·exact Y0f.mpr (.inl hc)
  ·exact Y0f.mpr (.inr (Y0f.mpr (.inr (Qy s (r::t) q hq c hc))))
theorem OA (a:Nat):((if a=10 then [32] else [a]).flatMap λ b=>(if b=40 then [32,40,32] else [b]).flatMap λ c=>if c=41 then [32,41,32] else [c])=sg a:=by
 unfold sg;by_cases h1:a=10
 ·subst h1;decide
 ·by_cases h2:a=40
  ·subst h2;decide
  ·by_cases h3:a=41
   ·subst h3;decide
   ·simp [h1,h2,h3]
theorem VA (x:Str):cs (Txt.replace (Txt.replace (Txt.replace x "\n" " ") "(" " ( ") ")" " ) ")=Sn (cs x):=by
 show cs (Txt.replace (Txt.replace (Txt.replace x ⟨#[10]⟩ " ") ⟨#[40]⟩ " ( ") ⟨#[41]⟩ " ) ")=_;rw [yv,yv,yv];show (((cs x).flatMap λ a=>if a=10 then [32] else [a]).flatMap λ a=>if a=40 then [32,40,32] else [a]).flatMap (λ a=>if a=41 then [32,41,32] else [a])=_;rw [List.flatMap_assoc,List.flatMap_assoc];unfold Sn
 congr 1
 funext a
 rw [<- OA a]
theorem Uz (f:Nat->List Nat)(k:Nat)(hf:∀ a,1<=(f a).length)(L:List Nat):L.length<=(L.flatMap f).length:=by
 induction L with
 | nil=>simp
 | cons a r ih=>rw [List.flatMap_cons,Y03,Y01];have:=hf a;omega
theorem VB (ps:List Str)(hn:ps≠[])(hf:∀ p∈ps,32∉cs p):w1 [] (zC [32] (ps.map cs))=(ps.filter λ p=>!(p==("":Str))).map cs:=by
 have e:∀ p:Str,(!(p==("":Str)))=decide (cs p≠[]):=by
  intro p;by_cases z:cs p=[]
  ·have:p="":=qD z
   subst this;decide
  ·rw [z0f z];simp [z]
 rw [Ov _ _ (by intro p hp;obtain ⟨q,hq,rfl⟩:=Y0z.mp hp;exact hf q hq)];cases ps with
 | nil=>exact absurd rfl hn
 | cons p r =>
  simp only [Y05,Y0n,Y2e,e];rw [List.filter_map];unfold fl;by_cases z:cs p=[]<;>simp [z,Function.comp_def]
noncomputable def wdF:D->Option D
 | .str p=>if (p==("":Str)) then none else some (.str p)
 | _=>none
theorem JR:∀ ps:List Str,(ps.map D.str).filterMap wdF=(ps.filter λ p=>!(p==("":Str))).map D.str
 | []=>rfl
 | p::r=>by
  rw [Y05,Y1q,Y2e,JR r,wdF];cases p==("":Str)<;>simp
section
variable {cl:Nat->List D->Hh->Res D}
theorem YF (T:List Nat)(hT:∀ c∈T,c<1114112)(hl:(Sn T).length<=900000)(h:Hh):∃ n J,d_words_of.run cl [.str (mkS T)] h=.ok (.loc n) (h++J)/\(h++J)[n]?=some (.lst ((w1 [] (Sn T)).map λ w=>.str (mkS w))):=by
 obtain ⟨z,ez⟩:∃ z,z=Txt.replace (Txt.replace (Txt.replace (mkS T) "\n" " ") "(" " ( ") ")" " ) ":=⟨_,rfl⟩;have cz:cs z=Sn T:=by rw [ez,VA,zT]
 have lz:z.length<=900000:=by rw [cs_len,cz];exact hl
 have l0:=Oy T;have c1:cs (Txt.replace (mkS T) "\n" " ")=T.flatMap λ a=>if a=10 then [32] else [a]:=by
  have:=yv (mkS T) 10 " "
  rw [zT] at this;exact this
 have c2:cs (Txt.replace (Txt.replace (mkS T) "\n" " ") "(" " ( ")=(T.flatMap λ a=>if a=10 then [32] else [a]).flatMap λ a=>if a=40 then [32,40,32] else [a]:=by
  have:=yv (Txt.replace (mkS T) "\n" " ") 40 " ( "
  rw [c1] at this;exact this
 have c3:cs z=((T.flatMap λ a=>if a=10 then [32] else [a]).flatMap λ a=>if a=40 then [32,40,32] else [a]).flatMap λ a=>if a=41 then [32,41,32] else [a]:=by
  have:=yv (Txt.replace (Txt.replace (mkS T) "\n" " ") "(" " ( ") 41 " ) "
  rw [c2] at this;rw [ez];exact this
 have m3:=Uz (λ a=>if a=41 then [32,41,32] else [a]) 0 (by intro a;split<;>simp) ((T.flatMap λ a=>if a=10 then [32] else [a]).flatMap λ a=>if a=40 then [32,40,32] else [a]);have m2:=Uz (λ a=>if a=40 then [32,40,32] else [a]) 0 (by intro a;split<;>simp) (T.flatMap λ a=>if a=10 then [32] else [a]);rw [<- c3,cz] at m3;have rs:S.run cl (jW d_words_of.body) [some (.str (mkS T)),none] h=.nx [some (.str (mkS T)),some (.str z)] h:=by
  have k1:(mkS T).length+((mkS T).length+1)*(Str.ofString " ").length<=16777216:=by
   rw [wO,show (Str.ofString " ").length=1 by decide];omega
  have k2:(Txt.replace (mkS T) "\n" " ").length+((Txt.replace (mkS T) "\n" " ").length+1)*(Str.ofString " ( ").length<=16777216:=by
   rw [cs_len (Txt.replace (mkS T) "\n" " "),c1,show (Str.ofString " ( ").length=3 by decide];omega
  have k3:(Txt.replace (Txt.replace (mkS T) "\n" " ") "(" " ( ").length+((Txt.replace (Txt.replace (mkS T) "\n" " ") "(" " ( ").length+1)*(Str.ofString " ) ").length<=16777216:=by
   rw [cs_len (Txt.replace (Txt.replace (mkS T) "\n" " ") "(" " ( "),c2,show (Str.ofString " ) ").length=3 by decide];omega
  unfold d_words_of jW;dsimp only;rw [z85];simp only [Y1e];unfold Zq;rw [if_pos k1];unfold Zq;rw [if_pos k2];unfold Zq;rw [if_pos k3];unfold Zq;rw [ez];rfl
 obtain ⟨s1,s2,s3⟩:=z4c z 32;obtain ⟨d1,d2⟩:=z6h z 32 h lz;have sok:∀ p∈Txt.split z ⟨#[32]⟩,PyData.strOk p=true:=by
  intro p hp;refine Qg λ c hc=>?_
  have:=Qy [32] _ (cs p) (Y0z.mpr ⟨p,hp,rfl⟩) c hc
  rw [s1,cz] at this;obtain ⟨a,ha,hca⟩:=List.mem_flatMap.mp this
  have:=hT a ha
  unfold sg at hca;split at hca
  ·simp at hca;omega
  ·split at hca
   ·simp at hca;omega
   ·split at hca
    ·simp at hca;omega
    ·simp at hca;omega
 have st:stay [(h.length,(Txt.split z ⟨#[32]⟩).map D.str)] (h++[.lst ((Txt.split z ⟨#[32]⟩).map D.str)]):=stay_one.mpr (by rw [qC];rfl);have e:=ZB (f:=zz qT (zS [none] [some (.str (mkS T)),some (.str z)]) (λ ρ' h2=>c_words_of_1.evC cl ρ' h2) (λ ρ' h2=>e_words_of_1.ev cl ρ' h2)) st wdF ((Txt.split z ⟨#[32]⟩).map D.str) [] (by
  intro d hd;obtain ⟨p,hp,rfl⟩:=Y0z.mp hd;have q:jf .NotEq (.str p) (.str "") (h++[O.lst ((Txt.split z ⟨#[32]⟩).map D.str)])=.ok (.bl (!(p==("":Str)))) (h++[O.lst ((Txt.split z ⟨#[32]⟩).map D.str)]):=neS (sok p hp) z0d;have q2:c_words_of_1.evC cl [some (.str p)] (h++[O.lst ((Txt.split z ⟨#[32]⟩).map D.str)])=.ok (!(p==("":Str))) (h++[O.lst ((Txt.split z ⟨#[32]⟩).map D.str)]):=bnd (x:=.bl (!(p==("":Str)))) (bnd rfl (bnd rfl q)) rfl;show (c_words_of_1.evC cl [some (.str p)] (h++[O.lst ((Txt.split z ⟨#[32]⟩).map D.str)])).bind _=_;rw [q2,bind_ok];unfold wdF;cases q3:(p==("":Str))<;>simp only [q3]<;>rfl)
 have lt:((Txt.split z ⟨#[32]⟩).map D.str).length<=1000000:=by rw [Y0c];exact d2
 have r0:rd (h++[O.lst ((Txt.split z ⟨#[32]⟩).map D.str)]) h.length=some ((Txt.split z ⟨#[32]⟩).map D.str):=by rw [qC];rfl
 rw [Y0n,JR] at e;have ww:(w1 [] (Sn T)).map (λ w=>D.str (mkS w))=((Txt.split z ⟨#[32]⟩).filter λ p=>!(p==("":Str))).map D.str:=by
  rw [<- cz,<- s1,VB _ s3 s2,Y15];exact Y2g λ p _=>by show D.str (mkS (cs p))=_;rw [JO]
 refine ⟨(h++[O.lst ((Txt.split z ⟨#[32]⟩).map D.str)]).length,[O.lst ((Txt.split z ⟨#[32]⟩).map D.str)]++[.lst ((w1 [] (Sn T)).map λ w=>.str (mkS w))],?_,?_⟩
 ·rw [<- Y07,ww]
  have:Ss.run cl d_words_of.body [some (.str (mkS T)),none] h=.rt (.loc (h++[O.lst ((Txt.split z ⟨#[32]⟩).map D.str)]).length) (h++[O.lst ((Txt.split z ⟨#[32]⟩).map D.str)]++[.lst (((Txt.split z ⟨#[32]⟩).filter λ p=>!(p==("":Str))).map D.str)]):=by
   show w9 (S.run cl (jW d_words_of.body) [some (.str (mkS T)),none] h) (λ ρ' h'=>Ss.run cl (zA 1 d_words_of.body) ρ' h')=_;rw [rs];exact zg (j4 (wj (bnd rfl (bnd rfl d1)) r0) lt e)
  exact zh this
 ·rw [<- Y07,hx0];rfl
end
inductive Pl:Nat->D->Prop
 | non (n:Nat):Pl n .non
 | int (n:Nat) (i:Int):Pl n (.int i)
 | str (n:Nat) (x:Str) (h:PyData.strOk x=true):Pl n (.str x)
 | tup (n:Nat) (xs:List D) (h:∀ x∈xs,Pl n x) (l:xs.length<=1000000):Pl (n+1) (.tup xs)
theorem Pl.up {n:Nat}{d:D}(h:Pl n d):∀ m,n<=m->Pl m d:=by
 induction h with
 | non n=>exact λ m _=>.non m
 | int n i=>exact λ m _=>.int m i
 | str n x h=>exact λ m _=>.str m x h
 | tup n xs h l ih =>
  intro m hm;cases m with
  | zero=>omega
  | succ m=>exact .tup m xs (λ x hx=>ih x hx m (by omega)) l
section
variable {cl:Nat->List D->Hh->Res D}
noncomputable def WF (cl:Nat->List D->Hh->Res D)(d:D):Prop:=∀ h,∃ J,cl 37 [d,d] h=.ok (.bl true) (h++J)
theorem UA {f:D->Hh->Res (Option D)}:∀ (xs acc:List D) (h:Hh),(∀ x∈xs,∀ h,∃ J,f (qi (x,x)) h=.ok (some (.bl true)) (h++J))->∃ J,zr [] f ((xs.zip xs).map qi) acc h=.ok (acc++(List.replicate xs.length true).map D.bl) (h++J)
 | [],acc,h,_=>⟨[],by rw [List.zip_nil_left,Y0k,zr,if_pos zn];simp⟩
 | x::r,acc,h,hf=>by
  obtain ⟨J1,e1⟩:=hf x (Y08 ..) h;obtain ⟨J2,e2⟩:=UA r (acc++[.bl true]) (h++J1) λ y hy=>hf y (Y06 _ hy);refine ⟨J1++J2,?_⟩;rw [List.zip_cons_cons,Y05,zr,if_pos zn,e1,bind_ok,addO_some,e2,Y07,Y07];rfl
theorem wV {i T:Nat}{d:D}{b:Bool}{ρ:En}{h:Hh}{p p1 p2 p3:Pos}(ei:ρ[i]?=some (some d))(e:isI h d T=some b):E.evT cl (.isi T (.var i p) p1 p2 p3) ρ h=.ok b h :=
 bnd (x:=.bl b) (bnd (x:=d) (by rw [qB,ei]) (by rw [e])) rfl
theorem UB {n:Nat}{d:D}(q:Pl n d)(C:∀ m,n=m+1->∀ x,Pl m x->WF cl x)(h:Hh):∃ J,d_law_alike.run cl [d,d] h=.ok (.bl true) (h++J):=by
 cases q with
 | non=>exact ⟨[],by rw [Y14];exact zh (zf (wV rfl rfl) (zf (wV rfl rfl) (zM (zk rfl rfl rfl) (zg rfl))))⟩
 | int _ i =>
  refine ⟨[],?_⟩;rw [Y14];refine zh (zf (wV rfl rfl) (zf (wV rfl rfl) (zf (zk rfl rfl rfl) (zg (zN (z3r (wV rfl rfl) (ZI (b:=false) (wV rfl rfl)) (zk rfl rfl ?_)))))));rw [eqI];simp
 | str _ x ok =>
  refine ⟨[],?_⟩;rw [Y14];refine zh (zf (wV rfl rfl) (zM (wV rfl rfl) (zg (zN (O0 (wV rfl rfl) (zk rfl rfl ?_))))));rw [eqS ok ok];simp
 | tup m xs hx l =>
  obtain ⟨J,e⟩:=UA (f:=zz qk (zS [none,none] [some (.tup xs),some (.tup xs)]) (λ ρ' h2=>c_law_alike_1.evC cl ρ' h2) (λ ρ' h2=>e_law_alike_1.ev cl ρ' h2)) xs [] h (by
   intro x hm h;obtain ⟨J,e⟩:=C m rfl x (hx x hm) h;exact ⟨J,jv rfl rfl (zP rfl rfl e)⟩)
  rw [Y0n] at e;have lz:((xs.zip xs).map qi).length<=1000000:=by simp;omega
  refine ⟨J++[.lst ((List.replicate xs.length true).map D.bl)],?_⟩;rw [<- Y07];refine zh (zM (wV rfl rfl) (zf (h':=h) (Vq (ZI (b:=true) (wV rfl rfl)) (zk (bnd rfl rfl) (bnd rfl rfl) (by rw [neI];simp))) (zg (bnd (j4 (q:=([],(xs.zip xs).map qi)) (bnd rfl (bnd rfl rfl)) lz e) ?_))));show c1D .all (.loc (h++J).length) _=_;unfold c1D;dsimp only;rw [qC];show (match (some ((List.replicate xs.length true).map D.bl)).bind qP with | some bs=>Res.ok (D.bl (bs.all id)) _ | none=>.no)=_
  rw [Y1j,Wp];simp
end
theorem z6i {n:Nat}{b:Option Str}(h:∀ x,b=some x->Nm x):Pl n (yQ b):=by
 cases b with
 | none=>exact .non n
 | some x=>exact .str n x (h x rfl).wd.ok
theorem yc {n:Nat}{x:Str}(h:Nm x):Pl n (.str x):=.str n x h.wd.ok
theorem zp {n:Nat}{d:D}{ds:List D}(h:Pl n d)(r:∀ x∈ds,Pl n x):∀ x∈d::ds,Pl n x:=λ x hx=>by
 rcases Y0b.mp hx with rfl | hx
 ·exact h
 ·exact r x hx
mutual
theorem z4d:∀ (g:G),wdG g->g.ok=true->ms g<=9000->Pl (2*dp g) g.d
 | .nd k ps,hw,ho,hm=>by
  rw [wdG] at hw;rw [G.ok,Y0g] at ho;rw [ms] at hm;have P:=pl_gs ps hw.2 ho.2 (by omega);have hl:(G.ds ps).length<=9000:=by
   rw [Yu]
   have:∀ l:List G,l.length<=mss l:=by
    intro l
    induction l with
    | nil=>simp
    | cons a r ih=>rw [mss,Y01];omega
   have:=this ps
   omega
  rw [dp,show 2*(1+dps ps)=(2*dps ps+1)+1 by omega,G.d];have P':∀ x∈G.ds ps,Pl (2*dps ps+1) x:=λ x hx=>(P x hx).up _ (by omega);have tg:=λ s (h:s∈(["num","var","op","let","if","call","do","handle","go","guard","never","jump","once","many"]:List Str))=>Pl.str (2*dps ps+1) s (so s h);cases k with
  | num n=>exact .tup _ _ (zp (tg _ (by simp)) (zp (.int _ _) P')) (by simp;omega)
  | var x=>exact .tup _ _ (zp (tg _ (by simp)) (zp (yc hw.1.1) P')) (by simp;omega)
  | op s=>exact .tup _ _ (zp (tg _ (by simp)) (zp (.str _ s (z6d hw.1)) P')) (by simp;omega)
  | lett x=>exact .tup _ _ (zp (tg _ (by simp)) (zp (yc hw.1) P')) (by simp;omega)
  | ite=>exact .tup _ _ (zp (tg _ (by simp)) P') (by simp;omega)
  | call f g=>exact .tup _ _ (zp (tg _ (by simp)) (zp (yc hw.1.1) (zp (z6i hw.1.2) (zp (.tup _ _ P (by omega)) (λ x hx=>by cases hx))))) (by simp)
  | doo x=>exact .tup _ _ (zp (tg _ (by simp)) (zp (yc hw.1) P')) (by simp;omega)
  | handle x=>exact .tup _ _ (zp (tg _ (by simp)) (zp (yc hw.1) P')) (by simp;omega)
  | go=>exact .tup _ _ (zp (tg _ (by simp)) P') (by simp;omega)
  | guard=>exact .tup _ _ (zp (tg _ (by simp)) P') (by simp;omega)
theorem pl_gs:∀ (gs:List G),wdGs gs->G.oks gs=true->mss gs<=9000->∀ x∈G.ds gs,Pl (2*dps gs) x
 | [],_,_,_=>by rw [G.ds];intro x hx;cases hx
 | g::r,hw,ho,hm=>by
  rw [wdGs] at hw;rw [G.oks,Y0g] at ho;rw [mss] at hm;rw [G.ds,dps];exact zp ((z4d g hw.1 ho.1 (by omega)).up _ (by omega)) λ x hx=>(pl_gs r hw.2 ho.2 (by omega) x hx).up _ (by omega)
end
theorem z1u {q:List Str×G}{n:Nat}(h:okQ q n)(ho:q.2.ok=true)(hd:dp q.2<=24)(hn:n<=100):Pl 49 (hdD q.1 q.2):=by
 refine .tup 48 _ (λ x hx=>?_) (by have:=h.2.1;simp;omega);rcases Y0f.mp hx with hx | hx
 ·obtain ⟨w,hw,rfl⟩:=Y0z.mp hx;exact yc (h.1 w hw)
 ·rw [Y0a.mp hx];exact (z4d q.2 h.2.2.1 ho h.2.2.2).up _ (by omega)
theorem z89 (i:Itm)(g:ItG i):Pl 51 i.d:=by
 cases i with
 | fn f ps b t =>
  obtain ⟨h1,h2,h3,h4,h5,h6⟩:=g.wd;obtain ⟨o,d,_⟩:=g.tr t (by simp [trs]);refine .tup 50 _ (zp (.str _ _ qG) (zp (yc h1) (zp (.tup 49 _ (λ x hx=>by obtain ⟨w,hw,rfl⟩:=Y0z.mp hx;exact yc (h2 w hw)) (by simp;omega)) (zp (z6i h4) (zp ((z4d t h5 o h6).up _ (by omega)) (λ x hx=>by cases hx)))))) (by simp)
 | hd n qs e =>
  obtain ⟨h1,h2,h3,h4⟩:=g.wd;have te:=g.tr e.2 (by simp [trs]);refine .tup 50 _ (zp (.str _ _ Qs) (zp (yc h1) (zp (.tup 49 _ (λ x hx=>?_) (by simp;omega)) (zp ((z1u h4 te.1 te.2.1 (by decide)).up _ (by omega)) (λ x hx=>by cases hx))))) (by simp);obtain ⟨q,hq,rfl⟩:=Y0z.mp hx;have tq:=g.tr q.2 (by simp only [trs];exact Y0f.mpr (.inl (Y0z.mpr ⟨q,hq,rfl⟩)));exact z1u (h2 q hq) tq.1 tq.2.1 (by decide)
noncomputable def azS:Str:="abcdefghijklmnopqrstuvwxyz"
theorem z6j:cs azS=(List.range 26).map (·+97):=by decide
theorem z6k (i:Int)(h0:0<=i)(h1:i<26):zY (.str azS) (.int i)=λ h=>.ok (.str (mkS [97+i.toNat])) h:=by
 funext h
 rw [Wh,if_pos (by decide)]
 have:atI azS.cps.toList i=some (97+i.toNat):=by
  rw [wZ h0];show (cs azS)[i.toNat]?=_;rw [z6j,Y13,List.getElem?_range (by omega)];simp;omega
 rw [this];rfl
theorem JS (cl:Nat->List D->Hh->Res D)(c:Int)(sz:D)(h:Hh):∀ (m k:Nat) (zL:Int) (T:List Nat) (x y:Option D),k+m<=8->low T->T.length=k ->
  ∃ rest' T' x' y',zZ [] (jd wn λ ρ' h'=>b_law_name_1.run cl ρ' h') ((List.range' k m).map λ (j:Nat)=>D.int (j:Nat)) [some (.int c),some sz,some (.int zL),some (.str (mkS T)),x,y] h=.nx [some (.int c),some sz,some (.int rest'),some (.str (mkS T')),x',y'] h/\low T'/\T'.length=k+m
 | 0,k,zL,T,x,y,_,hT,hl=>⟨zL,T,x,y,by simp [zZ,zn],hT,by omega⟩
 | m+1,k,zL,T,x,y,hk,hT,hl=>by
  obtain ⟨a,ha⟩:∃ a,a=(zL+11*(k:Int)*(c%3))%26:=⟨_,rfl⟩;have a0:0<=a:=by omega
  have a1:a<26:=by omega
  have f1:zG (11:Int)=true:=by decide
  have f2:zG (k:Int)=true:=jh (by omega);have f3:zG (11*(k:Int))=true:=jh (by omega);have f4:zG (c%3)=true:=jh (by omega);have sa:=z6k a a0 a1;have st:jd wn (λ ρ' h'=>b_law_name_1.run cl ρ' h') (.int (k:Nat)) [some (.int c),some sz,some (.int zL),some (.str (mkS T)),x,y] h=.nx [some (.int c),some sz,some (.int (zL/26)),some (.str (mkS (T++[97+a.toNat]))),some (.int (k:Nat)),some (.int a)] h:=by
   have e1:(mkS T).length+(mkS [97+a.toNat]).length<=1000000:=by rw [wO,wO];simp;omega
   have e2:mkS T++mkS [97+a.toNat]=mkS (T++[97+a.toNat]):=Vp _ _;have sa':∀ h,zY (.str (Str.ofString "abcdefghijklmnopqrstuvwxyz")) (.int a) h=.ok (.str (mkS [97+a.toNat])) h:=λ h=>congrFun sa h;rw [<- e2];subst ha;exact ze (bnd (bnd rfl (bnd (bnd (bnd rfl (bnd rfl (mlk f1 f2))) (bnd (bnd rfl (bnd rfl mdk)) (mlk f3 f4))) rfl)) (bnd rfl mdk)) (ze (bnd rfl (bnd (bnd rfl (bnd rfl (sa' h))) (if_pos e1:jr .Add (.str (mkS T)) (.str (mkS _)) h=_))) (ze (qp rfl (by decide)) rfl))
  obtain ⟨r',T',x',y',e,h1,h2⟩:=JS cl c sz h m (k+1) (zL/26) (T++[97+a.toNat]) (some (.int (k:Nat))) (some (.int a)) (by omega) (by
   intro z hz;rcases Y0f.mp hz with q | q
   ·exact hT z q
   ·rw [Y0a.mp q];omega) (by simp [hl])
  refine ⟨r',T',x',y',?_,h1,by omega⟩;rw [Y3l,Y05];exact ZD zn st e
theorem YG {T:List Nat}(h:low T)(h1:T≠[])(h2:T.length<=8)(h3:resW.any (λ y=>y==mkS T)=false):Nm (mkS T):=⟨by rw [zT];exact h,by rw [zT];exact h1,by rw [zT];exact h2,h3⟩
theorem UC {ys:List Str}{z:Str}{T:List Nat}(h:ys.any (λ y=>y==mkS T)=true)(hz:ys.all (λ y=>!(resW.any λ x=>x==y++z)&&decide ((y++z).length<=8))=true):resW.any (λ y=>y==mkS T++z)=false/\(mkS T++z).length<=8:=by
 obtain ⟨y,hy,e⟩:=List.any_eq_true.mp h;have e:=eq_of_beq e;subst e
 have:=Y11.mp hz _ hy
 rw [Y0g,Y2p] at this;exact ⟨this.1,of_decide_eq_true this.2⟩
theorem inL (x:Str)(ys:List Str)(h:Hh)(n:Nat)(e:h[n]?=some (.lst (ys.map D.str))):inD false (.str x) (.loc n) h=.ok (.bl (ys.any λ y=>y==x)) h:=by
 unfold inD;simp only [e];rw [Ui];rfl
noncomputable def w7:List Str:=["def","handler","on","end","let","if","call"]
noncomputable def w5:List Str:=["hand","do","handle","go","guard"]
noncomputable def z1v:S->E
 | .iff c _ _ _=>c
 | _=>.non ⟨0,0,0,0⟩
theorem z4e (cl:Nat->List D->Hh->Res D)(c:Int)(h:Hh):∃ w J,d_law_name.run cl [.int c] h=.ok (.str w) (h++J)/\Nm w:=by
 obtain ⟨m,hm⟩:∃ m:Nat,(m:Int)=1+c%8:=⟨(1+c%8).toNat,by omega⟩;obtain ⟨r',T,x',y',lp,hT,hl⟩:=JS cl c (.int (1+c%8)) h m 0 (c/8) [] none none (by omega) (by intro z hz;cases hz) rfl;have e1:mkS []=Str.ofString "":=by decide
 rw [e1] at lp;rw [<- Y35] at lp;have k1:(-1000000:Int)<=1+c%8:=by omega
 have k2:(1+c%8:Int)<=1000000:=by omega
 have k3:(1+c%8).toNat=m:=by omega
 have Tn:T≠[]:=by intro z;rw [z] at hl;simp at hl;omega
 have hd:∀ {d' h'},Ss.run cl (zA 4 d_law_name.body) [some (.int c),some (.int (1+c%8)),some (.int r'),some (.str (mkS T)),x',y'] h=.rt d' h'->d_law_name.run cl [.int c] h=.ok d' h':=λ k=>by
  refine zh (ze (bnd rfl (bnd (bnd rfl (bnd rfl mdk)) rfl)) (ze (qp rfl (by decide)) (ze rfl (qE (jV rfl (by omega)) ?_ k))));rw [k3];exact lp
 have lz:(Str.ofString "z").length=1:=by decide
 have ly:(Str.ofString "y").length=1:=by decide
 have az:mkS T++Str.ofString "z"=mkS (T++[122]):=qD (by rw [zD,zT,zT,show cs (Str.ofString "z")=[122] by decide]);have ay:mkS T++Str.ofString "y"=mkS (T++[121]):=qD (by rw [zD,zT,zT,show cs (Str.ofString "y")=[121] by decide]);have kz:(mkS T).length+(Str.ofString "z").length<=1000000:=by rw [wO,lz];omega
 have ky:(mkS T).length+(Str.ofString "y").length<=1000000:=by rw [wO,ly];omega
 have lowz:∀ c,97<=c/\c<=122->low (T++[c]):=by
  intro c hc z hz;rcases Y0f.mp hz with q | q
  ·exact hT z q
  ·rw [Y0a.mp q];exact hc
 obtain ⟨b1,hb1⟩:∃ b,w7.any (λ y=>y==mkS T)=b:=⟨_,rfl⟩;obtain ⟨b2,hb2⟩:∃ b,w5.any (λ y=>y==mkS T)=b:=⟨_,rfl⟩;have q7:jf .In (.str (mkS T)) (.loc h.length) (h++[O.lst (w7.map D.str)])=.ok (.bl b1) (h++[O.lst (w7.map D.str)]):=by rw [<- hb1];exact inL (mkS T) w7 (h++[O.lst (w7.map D.str)]) h.length (by rw [hx0];rfl)
 have q5:∀ H:Hh,jf .In (.str (mkS T)) (.loc H.length) (H++[O.lst (w5.map D.str)])=.ok (.bl b2) (H++[O.lst (w5.map D.str)]):=λ H=>by rw [<- hb2];exact inL (mkS T) w5 (H++[O.lst (w5.map D.str)]) H.length (by rw [hx0];rfl)
 have i1:∀ {ρ:En},ρ[3]?=some (some (.str (mkS T)))->E.evT cl (z1v (jW (zA 4 d_law_name.body))) ρ h=.ok b1 (h++[O.lst (w7.map D.str)]):=λ {ρ} q=>zk (x:=.str (mkS T)) (h':=h) (by rw [qB,q]) rfl q7;have i2:∀ {ρ:En}{H:Hh},ρ[3]?=some (some (.str (mkS T)))->E.evT cl (z1v (jW (zA 5 d_law_name.body))) ρ H=.ok b2 (H++[O.lst (w5.map D.str)]):=λ {ρ H} q=>zk (x:=.str (mkS T)) (h':=H) (by rw [qB,q]) rfl (q5 H);cases b1 with
 | true =>
  refine ⟨mkS (T++[122]),[.lst (w7.map D.str)],?_,(by obtain ⟨q1,q2⟩:=UC (z:="z") hb1 (by decide);rw [az] at q1 q2;rw [wO] at q2;exact YG (lowz 122 (by decide)) (by simp) q2 q1)⟩;rw [<- az];exact hd (zM (i1 rfl) (zg (bnd rfl (bnd rfl (if_pos kz:jr .Add (.str (mkS T)) (.str (Str.ofString "z")) _=_)))))
 | false =>
  cases b2 with
  | true =>
   refine ⟨mkS (T++[121]),[.lst (w7.map D.str)]++[.lst (w5.map D.str)],?_,(by obtain ⟨q1,q2⟩:=UC (z:="y") hb2 (by decide);rw [ay] at q1 q2;rw [wO] at q2;exact YG (lowz 121 (by decide)) (by simp) q2 q1)⟩;rw [<- ay,<- Y07];exact hd (zf (i1 rfl) (zM (i2 rfl) (zg (bnd rfl (bnd rfl (if_pos ky:jr .Add (.str (mkS T)) (.str (Str.ofString "y")) _=_))))))
  | false =>
   refine ⟨mkS T,[.lst (w7.map D.str)]++[.lst (w5.map D.str)],?_,YG hT Tn (by omega) (by show (w7++w5).any (λ y=>y==mkS T)=false;rw [List.any_append,hb1,hb2];rfl)⟩;rw [<- Y07];exact hd (zf (i1 rfl) (zf (i2 rfl) (zg rfl)))
noncomputable def Feed (nf n:Nat)(h:Hh):Prop:=∃ xs:List Int,h[nf]?=some (.lst (xs.map D.int))/\(∀ x∈xs,0<=x/\x<4722366482869645213696)/\xs.length=n
noncomputable def Mv (nf:Nat)(h h':Hh):Prop:=h.length<=h'.length/\∀ n o,n≠nf->h[n]?=some o->h'[n]?=some o
theorem Mv.refl (nf:Nat)(h:Hh):Mv nf h h:=⟨Y09 _,λ _ _ _ e=>e⟩
theorem Mv.trans (nf:Nat)(a b d:Hh)(x:Mv nf a b)(y:Mv nf b d):Mv nf a d:=⟨Y0t x.1 y.1,λ n o hn e=>y.2 n o hn (x.2 n o hn e)⟩
theorem Mv.gr (nf:Nat)(h J:Hh):Mv nf h (h++J):=⟨by simp,λ n o _ e=>z9 e⟩
theorem Feed.gr {nf n:Nat}{h:Hh}(f:Feed nf n h)(J:Hh):Feed nf n (h++J):=by obtain ⟨xs,e,r⟩:=f;exact ⟨xs,z9 e,r⟩
theorem z4f (cl:Nat->List D->Hh->Res D)(nf n:Nat)(h:Hh)(f:Feed nf n h):∃ v h',d_law_next.run cl [.loc nf] h=.ok (.int v) h'/\Feed nf (n-1) h'/\Mv nf h h'/\0<=v/\v<4722366482869645213696:=by
 obtain ⟨xs,e,hf,hl⟩:=f;have hn:nf<h.length:=(Y04.mp e).1;rcases List.eq_nil_or_concat xs with rfl | ⟨ys,y,rfl⟩
 ·refine ⟨0,h,?_,⟨[],e,by simp,by simp at hl;simp;omega⟩,Mv.refl _ _,by omega,by omega⟩;exact zh (zf (h':=h) (zk (bnd rfl (y7 e)) rfl rfl) (zg rfl))
 ·rw [List.concat_eq_append] at *
  refine ⟨y,h.set nf (.lst (ys.map D.int)),?_,⟨ys,Y10 hn,λ x hx=>hf x (by simp [hx]),by simp at hl;omega⟩,⟨by simp,λ n o hne eo=>by rw [Y0o (Ne.symm hne)];exact eo⟩,(hf y (by simp)).1,(hf y (by simp)).2⟩;have e':h[nf]?=some (.lst (ys.map D.int++[.int y])):=by rw [e];simp
  have po:m0D .pop (.loc nf) h=.ok (.int y) (h.set nf (.lst (ys.map D.int))):=by
   unfold m0D;dsimp only;rw [e'];simp
  have c0:jf .Gt (.int ((ys.map D.int++[D.int y]).length:Nat)) (.int 0) h=.ok (.bl true) h:=by rw [cmp_gt];congr 2;exact decide_eq_true (by rw [Y03];simp)
  exact zh (zM (zk (bnd rfl (y7 e')) rfl c0) (zg (bnd rfl po)))
theorem z0k {i:Int}(h:i.natAbs<4722366482869645213696):zG i=true:=by
 unfold zG Builtin.Int.intBits;refine decide_eq_true ?_
 split
 ·decide
 ·rename_i z;have hz:i.natAbs≠0:=by simpa using z
  have:i.natAbs.log2<72:=by
   rw [Nat.log2_lt hz];exact h
  omega
structure Good (d:Nat)(g:G):Prop where
 wd:wdG g
 ok:g.ok=true
 dp:dp g<=d+1
theorem yw (d:Nat)(k:Kd)(hk:Kd.wd k 0)(ho:k.ok 0=true):Good d (.nd k []):=⟨by rw [wdG];exact ⟨hk,by rw [wdGs];trivial⟩,by simp [G.ok,G.oks,ho],by rw [dp,dps];omega⟩
theorem qe (d:Nat)(k:Kd)(ps:List G)(hk:Kd.wd k ps.length)(ho:k.ok ps.length=true)(hp:∀ g∈ps,Good d g):Good (d+1) (.nd k ps):=by
 have h3:dps ps<=d+1:=by
  clear hk ho
  induction ps with
  | nil=>simp [dps]
  | cons g r ih =>
   have a:=(hp g (Y08 ..)).dp;have b:=ih λ z hz=>hp z (Y06 _ hz);rw [dps];omega
 refine ⟨by rw [wdG];exact ⟨hk,wdGs_mem.mpr λ g hg=>(hp g hg).wd⟩,?_,by rw [dp];omega⟩;rw [G.ok,ho,yV];simpa using λ g hg=>(hp g hg).ok
theorem Z3 (k:Kd):ms (.nd k [])=10:=by rw [ms,mss]
theorem z4g (k:Kd)(a b:G):ms (.nd k [a,b])=14+ms a+ms b:=by rw [ms,mss,mss,mss];omega
theorem z8a (k:Kd)(a:G):ms (.nd k [a])=12+ms a:=by rw [ms,mss,mss];omega
noncomputable def wW (cl:Nat->List D->Hh->Res D)(nf d:Nat):Prop:=∀ n h,Feed nf n h->∃ g h' n',cl 33 [.loc nf,.int (d:Int)] h=.ok g.d h'/\Feed nf n' h'/\Mv nf h h'/\Good d g/\n'<=n/\ms g+50*n'<=50*n+12
theorem Qz {cl:Nat->List D->Hh->Res D}{nf d:Nat}(C:wW cl nf d){f:D->Hh->Res (Option D)}(hf:∀ x h,f x h=(cl 33 [.loc nf,.int (d:Int)] h).bind λ y h2=>.ok (some y) h2):∀ (xs acc:List D) (n:Nat) (h:Hh),Feed nf n h ->
  ∃ gs h' n',zr [] f xs acc h=.ok (acc++G.ds gs) h'/\Feed nf n' h'/\Mv nf h h'/\(∀ g∈gs,Good d g)/\gs.length=xs.length/\n'<=n/\mss gs+50*n'<=50*n+14*xs.length
 | [],acc,n,h,hF=>⟨[],h,n,by rw [zr,if_pos zn,G.ds,Y14],hF,Mv.refl nf h,by simp,rfl,Y09 _,by rw [mss];simp⟩
 | x::r,acc,n,h,hF=>by
  obtain ⟨g,h1,n1,c,F1,M1,gd,l1,b1⟩:=C n h hF;obtain ⟨gs,h2,n2,e,F2,M2,gg,gl,l2,b2⟩:=Qz C hf r (acc++[g.d]) n1 h1 F1;refine ⟨g::gs,h2,n2,?_,F2,Mv.trans nf _ _ _ M1 M2,λ z hz=>?_,by rw [Y01,Y01,gl],by omega,?_⟩
  ·rw [zr,if_pos zn,hf,c,bind_ok,bind_ok,addO_some,e,G.ds];simp
  ·rcases Y0b.mp hz with rfl | hz
   ·exact gd
   ·exact gg z hz
  ·rw [mss,Y01];omega
theorem JT {cl:Nat->List D->Hh->Res D}{nf d:Nat}(C:wW cl nf d){f:D->Hh->Res (Option D)}(hf:∀ x h,f x h=(cl 33 [.loc nf,.int (d:Int)] h).bind λ y h2=>.ok (some y) h2)(m n:Nat)(h:Hh)(hF:Feed nf n h) :
  ∃ gs h' n',zr [] f ((List.range m).map λ (k:Nat)=>D.int (k:Nat)) [] h=.ok (G.ds gs) h'/\Feed nf n' h'/\Mv nf h h'/\(∀ g∈gs,Good d g)/\gs.length=m/\n'<=n/\mss gs+50*n'<=50*n+14*m:=by
 obtain ⟨gs,h',n',e,F,M,gg,gl,l,b⟩:=Qz C hf ((List.range m).map λ (k:Nat)=>D.int (k:Nat)) [] n h hF;rw [Y0c,Y1g] at gl b;exact ⟨gs,h',n',by simpa using e,F,M,gg,gl,l,b⟩
theorem z4h (i:Int)(h0:0<=i)(h1:i<4):∃ w,Sg w/\∀ h,zY (.str (Str.ofString "+-*<")) (.int i) h=.ok (.str w) h:=by
 have hi:i=0\/i=1\/i=2\/i=3:=by omega
 have e:∀ h,zY (.str (Str.ofString "+-*<")) (.int i) h=match atI (cs (Str.ofString "+-*<")) i with | some c=>.ok (.str ⟨#[c]⟩) h | none=>.no:=λ h=>by rw [Wh,if_pos (by decide)];rfl
 have e4:cs (Str.ofString "+-*<")=[43,45,42,60]:=by decide
 rw [e4] at e;rcases hi with rfl | rfl | rfl | rfl
 ·exact ⟨⟨#[43]⟩,.inl (by decide),e⟩
 ·exact ⟨⟨#[45]⟩,.inr (.inl (by decide)),e⟩
 ·exact ⟨⟨#[42]⟩,.inr (.inr (.inl (by decide))),e⟩
 ·exact ⟨⟨#[60]⟩,.inr (.inr (.inr (by decide))),e⟩
noncomputable def YH:S->E
 | .iff c _ _ _=>c
 | _=>.non ⟨0,0,0,0⟩
noncomputable def VC:Ss:=Yy (jW (zA 2 d_law_part.body))
theorem yH {cl:Nat->List D->Hh->Res D}{ρ:En}{nf e:Nat}{h h3:Hh}{a:D}{p p1 p2 p3 p4 p5:Pos}(e0:ρ[0]?=some (some (.loc nf)))(e1:ρ[1]?=some (some (.int ((e+1:Nat):Int))))(c:cl 33 [.loc nf,.int (e:Int)] h=.ok a h3):E.ev cl (.call 33 (.var 0 p) (.cons (.bin .Sub (.var 1 p1) (.int 1 p2) p3) .nil) p4 p5) ρ h=.ok a h3:=by
 refine zP (x:=.loc nf) (y:=.int (e:Int)) (h':=h) (h2:=h) (by rw [qB,e0]) (bnd (x:=.int ((e+1:Nat):Int)) (by rw [qB,e1]) (bnd rfl ?_)) c;show Res.ok (D.int (((e+1:Nat):Int)-1)) h=_;rw [show ((e+1:Nat):Int)-1=(e:Int) by omega]
theorem z6l {cl:Nat->List D->Hh->Res D}{nf e:Nat}(x:D)(h:Hh){p p1 p2 p3 p4 p5 p6:Pos}{ρ:En}(e0:ρ[0]?=some (some (.loc nf)))(e1:ρ[1]?=some (some (.int ((e+1:Nat):Int)))):zz (.one 0 p) (zS [none,some 1,some 0] ρ) (λ ρ' h2=>Es.nil.evC cl ρ' h2) (λ ρ' h2=>(E.call 33 (.var 2 p1) (.cons (.bin .Sub (.var 1 p2) (.int 1 p3) p4) .nil) p5 p6).ev cl ρ' h2) x h=(cl 33 [.loc nf,.int (e:Int)] h).bind λ y h2=>.ok (some y) h2:=by
 have ec:zS [none,some 1,some 0] ρ=[none,some (.int ((e+1:Nat):Int)),some (.loc nf)]:=by unfold zS;simp only [Y05,Y0k,Y1j,Y2c,e0,e1];rfl
 rw [ec];show (((cl 33 [.loc nf,.int (((e+1:Nat):Int)-1)] h)).bind λ y h2=>Res.ok (some y) h2)=_;rw [show ((e+1:Nat):Int)-1=(e:Int) by omega]
noncomputable def qI (cl:Nat->List D->Hh->Res D)(nf:Nat):Prop:=∀ n h,Feed nf n h->∃ v h',cl 31 [.loc nf] h=.ok (.int v) h'/\Feed nf (n-1) h'/\Mv nf h h'/\0<=v/\v<4722366482869645213696
theorem OB (cl:Nat->List D->Hh->Res D)(nf d:Nat)(C11:qI cl nf)
  (C12:∀ c h,∃ w J,cl 32 [.int c] h=.ok (.str w) (h++J)/\Nm w) (C13:∀ d',d=d'+1->wW cl nf d') (n:Nat) (h:Hh) (hF:Feed nf n h) :
  ∃ g h' n',d_law_part.run cl [.loc nf,.int (d:Int)] h=.ok g.d h'/\Feed nf n' h'/\Mv nf h h'/\Good d g/\n'<=n/\ms g+50*n'<=50*n+12:=by
 obtain ⟨v,h1,c11,F1,M1,v0,v1⟩:=C11 n h hF;obtain ⟨xs,x1,x2,x3⟩:=id F1;have hs:∀ {d' h'},Ss.run cl (zA 2 d_law_part.body) [some (.loc nf),some (.int (d:Int)),some (.int v),some (.int (v%12)),none,none] h1=.rt d' h'->d_law_part.run cl [.loc nf,.int (d:Int)] h=.ok d' h':=λ k=>zh (ze (zb rfl c11) (ze (bnd rfl (bnd rfl mdk)) k));have le:jL (.loc nf) h1=.ok (.int (xs.length:Nat)) h1:=(y7 x1).trans (by rw [Y0c]);by_cases hleaf:(d:Int)=0\/(xs.length:Int)=0\/v%12<2
 ·
  have lf:∀ {d' h'},Ss.run cl VC [some (.loc nf),some (.int (d:Int)),some (.int v),some (.int (v%12)),none,none] h1=.rt d' h'->Ss.run cl (zA 2 d_law_part.body) [some (.loc nf),some (.int (d:Int)),some (.int v),some (.int (v%12)),none,none] h1=.rt d' h':=by
   intro d' h' k;by_cases d0:(d:Int)=0
   ·exact zM (O2 (zQ rfl (j1 d0))) k
   ·by_cases l0:(xs.length:Int)=0
    ·exact zM (z67 (zQ rfl (zV d0)) (wu (bnd rfl le) (j1 l0))) k
    ·exact zM (Qj (zQ rfl (zV d0)) (wu (bnd rfl le) (zV l0)) (Uv rfl (decide_eq_true (by rcases hleaf with z | z | z;exact absurd z d0;exact absurd z l0;exact z)))) k
  have hr:v/12%3=0\/v/12%3=1\/v/12%3=2:=by omega
  rcases hr with hr | hr | hr
  ·refine ⟨.nd (.num (v/36%1000)) [],h1,n-1,?_,F1,M1,yw d _ ⟨by omega,by omega,rfl⟩ rfl,by omega,by rw [Z3];omega⟩;rw [ZJ];exact hs (lf (zM (wu (jJ rfl (by decide) (by decide)) (j1 hr)) (zg (zU (zi rfl (zi (jJ rfl (by decide) (by decide)) rfl)) (Y0e rfl)))))
  ·have f1:zG (v/36)=true:=z0k (by omega);obtain ⟨b,hb,fb,sb⟩:∃ b:Int,(0<=b)/\zG b=true/\([D.int 1,.int 1000000007000003]:List D)[(v/12/3%2).toNat]?=some (.int b):=by
    rcases (show v/12/3%2=0\/v/12/3%2=1 by omega) with z | z<;>rw [z]
    ·exact ⟨1,by decide,by decide,rfl⟩
    ·exact ⟨1000000007000003,by decide,by decide,rfl⟩
   refine ⟨.nd (.num (v/36*b%1000000000000000000)) [],h1++[.lst [.int 1,.int 1000000007000003]],n-1,?_,F1.gr _,Mv.trans nf _ _ _ M1 (Mv.gr nf h1 _),yw d _ ⟨by omega,by omega,rfl⟩ rfl,by omega,by rw [Z3];omega⟩;rw [ZJ];have sx:zY (.loc h1.length) (.int (v/12/3%2)) (h1++[.lst [.int 1,.int 1000000007000003]])=.ok (.int b) (h1++[.lst [.int 1,.int 1000000007000003]]):=by
    unfold zY;dsimp only;rw [hx0];dsimp only [List.getElem?_cons_zero];rw [wZ (by omega),sb]
   exact hs (lf (zf (wu (jJ rfl (by decide) (by decide)) (zV (by omega))) (zM (wu (jJ rfl (by decide) (by decide)) (j1 hr)) (zg (zU (zi rfl (zi (bnd (bnd (qp rfl (by decide)) (bnd (bnd rfl (bnd (bnd (bnd (qp rfl (by decide)) (bnd rfl fdk)) (bnd rfl mdk)) sx)) (mlk f1 fb))) (bnd (x:=.int 1000000000000000000) (bnd rfl (bnd rfl rfl)) mdk)) rfl)) (Y0e rfl))))))
  ·obtain ⟨w,J,c12,ww⟩:=C12 (v/36) h1;refine ⟨.nd (.var w) [],h1++J,n-1,?_,F1.gr J,Mv.trans nf _ _ _ M1 (Mv.gr nf h1 J),yw d _ ⟨ww,rfl⟩ rfl,by omega,by rw [Z3];omega⟩;rw [Oc];exact hs (lf (zf (wu (jJ rfl (by decide) (by decide)) (zV (by omega))) (zf (wu (jJ rfl (by decide) (by decide)) (zV (by omega))) (zg (zU (zi rfl (zi (zb (qp rfl (by decide)) c12) rfl)) (Y0e rfl))))))
 ·
  have d0:¬ (d:Int)=0:=λ z=>hleaf (.inl z);have l0:¬ (xs.length:Int)=0:=λ z=>hleaf (.inr (.inl z));have p2:¬ v%12<2:=λ z=>hleaf (.inr (.inr z));obtain ⟨e,he⟩:∃ e,d=e+1:=⟨d-1,by omega⟩;have CP:=C13 e he;subst he;obtain ⟨w,J,c12,ww⟩:=C12 (v/48) h1;have n1:1<=n-1:=by omega
  have F2:Feed nf (n-1) (h1++J):=F1.gr J;have M2:Mv nf h (h1++J):=Mv.trans nf _ _ _ M1 (Mv.gr nf h1 J);have nd:∀ {d' h'},Ss.run cl (zA 4 d_law_part.body) [some (.loc nf),some (.int ((e+1:Nat):Int)),some (.int v),some (.int (v%12)),some (.str w),none] (h1++J)=.rt d' h'->d_law_part.run cl [.loc nf,.int ((e+1:Nat):Int)] h=.ok d' h':=λ k=>hs (zf (Qj (zQ rfl (zV d0)) (wu (bnd rfl le) (zV l0)) (Uv rfl (decide_eq_false p2))) (ze (zb (qp rfl (by decide)) c12) k));have H0:nf<(h1++J).length:=by obtain ⟨ys,y1,_⟩:=F2;exact (Y04.mp y1).1
  generalize h1++J=H at *
  have two:∀ h2,Feed nf (n-1) h2->∃ a b h3 h4 n4,cl 33 [.loc nf,.int (e:Int)] h2=.ok (G.d a) h3/\cl 33 [.loc nf,.int (e:Int)] h3=.ok (G.d b) h4/\Feed nf n4 h4/\Mv nf h2 h4/\Good e a/\Good e b/\n4<=n/\14+ms a+ms b+50*n4<=50*n+12:=by
   intro h2 f2;obtain ⟨a,h3,n3,ca,Fa,Ma,ga,la,ba⟩:=CP _ h2 f2;obtain ⟨b,h4,n4,cb,Fb,Mb,gb,lb,bb⟩:=CP _ h3 Fa;exact ⟨a,b,h3,h4,n4,ca,cb,Fb,Mv.trans nf _ _ _ Ma Mb,ga,gb,by omega,by omega⟩
  have good2:∀ (k:Kd) (a b:G),Kd.wd k 2->k.ok 2=true->Good e a->Good e b->Good (e+1) (.nd k [a,b]):=λ k a b hk ho ga gb=>qe e k [a,b] hk ho (by intro g hg;simp at hg;rcases hg with rfl | rfl;exact ga;exact gb);have g4:¬ v%12<4->∀ {r d' h'},Ss.run cl (zA 5 d_law_part.body) r H=.rt d' h'->r[3]?=some (some (.int (v%12)))->Ss.run cl (zA 4 d_law_part.body) r H=.rt d' h':=λ z {r d' h'} k q=>zf (Uv q (decide_eq_false z)) k;have g5:v%12≠5->∀ {r d' h'},Ss.run cl (zA 6 d_law_part.body) r H=.rt d' h'->r[3]?=some (some (.int (v%12)))->Ss.run cl (zA 5 d_law_part.body) r H=.rt d' h':=λ z {r d' h'} k q=>zf (zQ q (zV z)) k;have g6:v%12≠6->v%12≠7->∀ {r d' h'},Ss.run cl (zA 7 d_law_part.body) r H=.rt d' h'->r[3]?=some (some (.int (v%12)))->Ss.run cl (zA 6 d_law_part.body) r H=.rt d' h':=λ z z2 {r d' h'} k q=>zf (Vq (zQ q (zV z)) (zQ q (zV z2))) k;have g8:v%12≠8->∀ {r d' h'},Ss.run cl (zA 8 d_law_part.body) r H=.rt d' h'->r[3]?=some (some (.int (v%12)))->Ss.run cl (zA 7 d_law_part.body) r H=.rt d' h':=λ z {r d' h'} k q=>zf (zQ q (zV z)) k;have g9:v%12≠4->v%12≠9->∀ {r d' h'},Ss.run cl (zA 9 d_law_part.body) r H=.rt d' h'->r[3]?=some (some (.int (v%12)))->Ss.run cl (zA 8 d_law_part.body) r H=.rt d' h':=λ z z2 {r d' h'} k q=>zf (Vq (zQ q (zV z)) (zQ q (zV z2))) k;by_cases q4:v%12<4
  ·obtain ⟨sg,wsg,ssg⟩:=z4h (v/12%4) (by omega) (by omega);obtain ⟨a,b,h3,h4,n4,ca,cb,F4,M4,ga,gb,l4,b4⟩:=two H F2;refine ⟨.nd (.op sg) [a,b],h4,n4,?_,F4,Mv.trans nf _ _ _ M2 M4,good2 _ a b wsg rfl ga gb,l4,by rw [z4g];omega⟩;rw [d_2];exact nd (zM (Uv rfl (decide_eq_true q4)) (zg (zU (zi rfl (zi (bnd rfl (bnd (jJ rfl (by decide) (by decide)) (ssg _))) (zi (yH rfl rfl ca) (zi (yH rfl rfl cb) rfl)))) (Y0e rfl))))
  by_cases q5:v%12=5
  ·obtain ⟨gs,h3,n3,ec,F3,M3,gg,gl,l3,b3⟩:=JT CP (f:=zz qX (zS [none,some 1,some 0] [some (.loc nf),some (.int ((e+1:Nat):Int)),some (.int v),some (.int (v%12)),some (.str w),none]) (λ ρ' h2=>c_law_part_2.evC cl ρ' h2) (λ ρ' h2=>e_law_part_2.ev cl ρ' h2)) (λ x h=>z6l x h rfl rfl) 3 (n-1) (H++[.lst [.str "if"]]) (F2.gr _);have g1:(h3)[H.length]?=some (.lst [.str "if"]):=M3.2 _ _ (by omega) (by rw [hx0];rfl);refine ⟨.nd .ite gs,h3++[.lst (G.ds gs)]++[.lst ([.str "if"]++G.ds gs)],n3,?_,(F3.gr _).gr _,Mv.trans nf _ _ _ M2 (Mv.trans nf _ _ _ (Mv.gr nf H _) (Mv.trans nf _ _ _ M3 (Mv.trans nf _ _ _ (Mv.gr nf h3 _) (Mv.gr nf _ _)))),qe e .ite gs trivial (by simp [Kd.ok,gl]) gg,by omega,by rw [ms];omega⟩;have dl:=Yu gs;rw [G.d];exact nd (g4 q4 (zM (zQ rfl (j1 q5)) (zg (wf (Ob (n:=H.length) (h1:=H++[O.lst [D.str "if"]]) rfl (j4 (jV rfl (by decide)) (Y0e rfl) ec) (z9 g1) (by rw [hx0];rfl) (by show 1+_<=1000000;omega)) (show rd _ _=_ by rw [qC];rfl)))) rfl)
  by_cases q6:v%12=6\/v%12=7
  ·obtain ⟨m,hm⟩:∃ m:Nat,(m:Int)=v/12%4:=⟨(v/12%4).toNat,by omega⟩;have mt:(v/12%4).toNat=m:=by omega
   have c6:∀ {r:En}{h':Hh},r[3]?=some (some (.int (v%12)))->E.evT cl (YH (jW (zA 6 d_law_part.body))) r h'=.ok true h':=λ q=>by
    by_cases z:v%12=6
    ·exact O2 (zQ q (j1 z))
    ·exact Vq (zQ q (zV z)) (zQ q (j1 (by omega)))
   obtain ⟨b,h5,n5,F5,M5,l5,wb,sb⟩:∃ (b:Option Str) (h5:Hh) (n5:Nat),Feed nf n5 h5/\Mv nf H h5/\n5<=n-1/\(∀ x,b=some x->Nm x)/\∀ {r d' h'},Ss.run cl r [some (.loc nf),some (.int ((e+1:Nat):Int)),some (.int v),some (.int (v%12)),some (.str w),some (yQ b)] h5=.rt d' h'->Ss.run cl (.cons (jW (zA 1 (Yy (jW (zA 6 d_law_part.body))))) r) [some (.loc nf),some (.int ((e+1:Nat):Int)),some (.int v),some (.int (v%12)),some (.str w),some .non] H=.rt d' h':=by
    by_cases z:v%12=7
    ·obtain ⟨v2,h5,c11b,F5,M5,_,_⟩:=C11 _ H F2;obtain ⟨w2,J2,c12b,ww2⟩:=C12 v2 h5;exact ⟨some w2,h5++J2,n-1-1,F5.gr _,Mv.trans nf _ _ _ M5 (Mv.gr nf h5 J2),by omega,λ x hx=>by cases hx;exact ww2,λ k=>wQ (zQ rfl (j1 z)) (ze (zb (zb rfl c11b) c12b) rfl) k⟩
    ·exact ⟨none,H,n-1,F2,Mv.refl nf H,Y09 _,λ x hx=>(nomatch hx),λ k=>zf (zQ rfl (zV z)) k⟩
   obtain ⟨gs,h3,n3,ec,F3,M3,gg,gl,l3,b3⟩:=JT CP (f:=zz qW (zS [none,some 1,some 0] [some (.loc nf),some (.int ((e+1:Nat):Int)),some (.int v),some (.int (v%12)),some (.str w),some (yQ b)]) (λ ρ' h2=>c_law_part_1.evC cl ρ' h2) (λ ρ' h2=>e_law_part_1.ev cl ρ' h2)) (λ x h=>z6l x h rfl rfl) m n5 h5 F5;refine ⟨.nd (.call w b) gs,h3,n3,?_,F3,Mv.trans nf _ _ _ M2 (Mv.trans nf _ _ _ M5 M3),qe e (.call w b) gs ⟨ww,wb⟩ rfl gg,by omega,by rw [ms];omega⟩;rw [G.d];refine nd (g4 q4 (g5 q5 (zM (c6 rfl) (ze rfl (sb (zg (zU (zi rfl (zi rfl (zi rfl (zi (Yw (Yx (jV (jJ rfl (by decide) (by decide)) (by omega)) ?_ ?_)) rfl)))) (Y0e rfl)))))) rfl) rfl)
   ·rw [Y0c,Y1g,mt];omega
   ·rw [mt];exact ec
  have n6:v%12≠6:=λ z=>q6 (.inl z);have n7:v%12≠7:=λ z=>q6 (.inr z);by_cases q8:v%12=8
  ·obtain ⟨a,h3,n3,ca,F3,M3,ga,l3,b3⟩:=CP _ H F2;refine ⟨.nd (.doo w) [a],h3,n3,?_,F3,Mv.trans nf _ _ _ M2 M3,qe e (.doo w) [a] ww rfl (by intro g hg;rw [Y0a.mp hg];exact ga),by omega,by rw [z8a];omega⟩;rw [d_1];exact nd (g4 q4 (g5 q5 (g6 n6 n7 (zM (zQ rfl (j1 q8)) (zg (zU (zi rfl (zi rfl (zi (yH rfl rfl ca) rfl))) (Y0e rfl)))) rfl) rfl) rfl)
  by_cases q9:v%12=4\/v%12=9
  ·obtain ⟨a,b,h3,h4,n4,ca,cb,F4,M4,ga,gb,l4,b4⟩:=two (H++[.lst [.str "let",.str "handle"]]) (F2.gr _);obtain ⟨k,hk,hk2,t,ht,hk3⟩:∃ k:Kd,Kd.wd k 2/\k.ok 2=true/\∃ t:Bool,(v%12==9)=t/\([D.str "let",.str "handle"][(if t then 1 else 0)]?=some (.str k.tag)/\∀ l,k.enc l=.tup (.str k.tag::.str w::l)):=by
    by_cases z:v%12=9
    ·exact ⟨.handle w,ww,rfl,true,j1 z,rfl,λ l=>rfl⟩
    ·exact ⟨.lett w,ww,rfl,false,zV z,rfl,λ l=>rfl⟩
   refine ⟨.nd k [a,b],h4,n4,?_,F4,Mv.trans nf _ _ _ M2 (Mv.trans nf _ _ _ (Mv.gr nf H _) M4),good2 _ a b hk hk2 ga gb,l4,by rw [z4g];omega⟩;rw [d_2,hk3.2];have c9:∀ {r:En}{h':Hh},r[3]?=some (some (.int (v%12)))->E.evT cl (YH (jW (zA 8 d_law_part.body))) r h'=.ok true h':=λ q=>by
    by_cases z:v%12=4
    ·exact O2 (zQ q (j1 z))
    ·exact Vq (zQ q (zV z)) (zQ q (j1 (by omega)))
   refine nd (g4 q4 (g5 q5 (g6 n6 n7 (g8 q8 (zM (c9 rfl) (zg (zU (zi (bnd (x:=.loc H.length) (h:=H++[.lst [.str "let",.str "handle"]]) rfl (bnd (x:=.int (if t then 1 else 0)) (h:=H++[O.lst [D.str "let",D.str "handle"]]) (bnd (zN (zQ rfl ht)) ?_) ?_)) (zi rfl (zi (yH rfl rfl ca) (zi (yH rfl rfl cb) rfl)))) (Y0e rfl)))) rfl) rfl) rfl) rfl)
   ·rfl
   ·cases t
    ·exact jj (k:=0) (by rw [hx0];rfl) hk3.1
    ·exact jj (k:=1) (by rw [hx0];rfl) hk3.1
  ·obtain ⟨a,b,h3,h4,n4,ca,cb,F4,M4,ga,gb,l4,b4⟩:=two (H++[.lst [.str "go",.str "guard"]]) (F2.gr _);obtain ⟨k,hk,hk2,m,hm,hk3⟩:∃ k:Kd,Kd.wd k 2/\k.ok 2=true/\∃ m:Nat,v%12-10=(m:Int)/\([D.str "go",.str "guard"][m]?=some (.str k.tag)/\∀ l,k.enc l=.tup (.str k.tag::l)):=by
    by_cases z:v%12=10
    ·exact ⟨.go,trivial,rfl,0,by rw [z];rfl,rfl,λ l=>rfl⟩
    ·have a4:4<=v%12:=Int.not_lt.mp q4;have a5:5<=v%12:=Y1l.mpr ⟨a4,λ e=>q9 (.inl e.symm)⟩;have a6:6<=v%12:=Y1l.mpr ⟨a5,λ e=>q5 e.symm⟩;have a7:7<=v%12:=Y1l.mpr ⟨a6,λ e=>n6 e.symm⟩;have a8:8<=v%12:=Y1l.mpr ⟨a7,λ e=>n7 e.symm⟩;have a9:9<=v%12:=Y1l.mpr ⟨a8,λ e=>q8 e.symm⟩;have a10:10<=v%12:=Y1l.mpr ⟨a9,λ e=>q9 (.inr e.symm)⟩;have a11:11<=v%12:=Y1l.mpr ⟨a10,λ e=>z e.symm⟩;have e11:v%12=11:=Int.le_antisymm (Int.le_of_lt_add_one (Int.emod_lt_of_pos v (by decide))) a11;exact ⟨.guard,trivial,rfl,1,by rw [e11];rfl,rfl,λ l=>rfl⟩
   refine ⟨.nd k [a,b],h4,n4,?_,F4,Mv.trans nf _ _ _ M2 (Mv.trans nf _ _ _ (Mv.gr nf H _) M4),good2 _ a b hk hk2 ga gb,l4,by rw [z4g];omega⟩;rw [d_2,hk3.2];refine nd (g4 q4 (g5 q5 (g6 n6 n7 (g8 q8 (g9 (λ z=>q9 (.inl z)) (λ z=>q9 (.inr z)) (zg (zU (zi (bnd (x:=.loc H.length) (h:=H++[.lst [.str "go",.str "guard"]]) rfl (bnd (x:=.int (m:Int)) (h:=H++[O.lst [D.str "go",D.str "guard"]]) (bnd rfl (bnd rfl ?_)) (jj (by rw [hx0];rfl) hk3.1))) (zi (yH rfl rfl ca) (zi (yH rfl rfl cb) rfl))) (Y0e rfl))) rfl) rfl) rfl) rfl) rfl);show Res.ok (D.int (v%12-10)) _=_;rw [hm]
structure Gn (k:Nat)(g:G):Prop where
 wd:wdG g
 ok:g.ok=true
 ms:ms g<=10+40*k
 dp:dp g<=k+1
 bd:bd g<=k
theorem Z4 (kd:Kd)(h:Kd.wd kd 0)(ho:kd.ok 0=true)(hb:Kd.br kd=0):wdG (.nd kd [])/\(G.nd kd []).ok=true/\ms (.nd kd [])=10/\dp (.nd kd [])=1/\bd (.nd kd [])=0:=⟨by rw [wdG];exact ⟨h,by rw [wdGs];trivial⟩,by simp [G.ok,G.oks,ho],by rw [ms,mss],by rw [dp,dps],by rw [bd,bds,hb]⟩
theorem Z5 (k:Nat)(kd:Kd)(t:G)(pre suf:List G)(hk:Kd.wd kd (pre.length+1+suf.length))(ho:kd.ok (pre.length+1+suf.length)=true)(ht:Gn k t)(hp:∀ g∈pre++suf,wdG g/\g.ok=true/\ms g=10/\dp g=1/\bd g=0)(hl:pre.length+suf.length<=2):Gn (k+1) (.nd kd (pre++t::suf)):=by
 have hall:∀ g∈pre++t::suf,wdG g/\g.ok=true:=by
  intro g hg;rcases Y0f.mp hg with q | q
  ·exact ⟨(hp g (Y0f.mpr (.inl q))).1,(hp g (Y0f.mpr (.inl q))).2.1⟩
  ·rcases Y0b.mp q with rfl | q
   ·exact ⟨ht.wd,ht.ok⟩
   ·exact ⟨(hp g (Y0f.mpr (.inr q))).1,(hp g (Y0f.mpr (.inr q))).2.1⟩
 have hm:∀ l:List G,(∀ g∈l,ms g=10/\dp g=1/\bd g=0)->mss l=12*l.length/\dps l<=1/\bds l=0:=by
  intro l
  induction l with
  | nil=>intro _;simp [mss,dps,bds]
  | cons g r ih =>
   intro hr;obtain ⟨a,b,b2⟩:=ih λ z hz=>hr z (Y06 _ hz);have c:=hr g (Y08 ..);exact ⟨by simp only [mss,Y01,a,c.1];omega,by simp only [dps,c.2.1];exact Nat.max_le.mpr ⟨Y09 1,b⟩,by simp only [bds,c.2.2,b2];rfl⟩
 have ma:∀ a b:List G,mss (a++b)=mss a+mss b/\dps (a++b)=max (dps a) (dps b)/\bds (a++b)=max (bds a) (bds b):=by
  intro a b
  induction a with
  | nil=>simp [mss,dps,bds]
  | cons g r ih=>exact ⟨by simp only [Y0q,mss,ih.1,Y3c],by simp only [Y0q,dps,ih.2.1,Nat.max_assoc],by simp only [Y0q,bds,ih.2.2,Nat.max_assoc]⟩
 obtain ⟨m1,d1,b1⟩:=hm pre λ g hg=>(hp g (Y0f.mpr (.inl hg))).2.2;obtain ⟨m2,d2,b2⟩:=hm suf λ g hg=>(hp g (Y0f.mpr (.inr hg))).2.2;obtain ⟨m3,d3,b3⟩:=ma pre (t::suf);have e:(pre++t::suf).length=pre.length+1+suf.length:=by simp;omega
 have tm:=ht.ms;have td:=ht.dp;have tb:=ht.bd;refine ⟨by rw [wdG,e];exact ⟨hk,wdGs_mem.mpr λ g hg=>(hall g hg).1⟩,?_,?_,?_,?_⟩
 ·rw [G.ok,e,ho,yV,Bool.true_and];exact Y11.mpr λ g hg=>(hall g hg).2
 ·rw [ms,m3,mss,m1,m2];clear d1 d2 d3 b1 b2 b3 td ma hm m1 m2 m3 tb;omega
 ·rw [dp,d3,dps];exact Y0t (Nat.add_le_add_left (Nat.max_le.mpr ⟨Y0t d1 (by omega),Nat.max_le.mpr ⟨td,Y0t d2 (by omega)⟩⟩) 1) (Y2y (Y3i 1 (k+1)))
 ·have hb:Kd.br kd<=1:=by unfold Kd.br;split<;>decide
  rw [bd,b3,bds,b1,b2,Nat.zero_max,Nat.max_zero];exact Y0t (Nat.add_le_add hb tb) (Y2y (Y3i 1 k))
theorem JU (cl:Nat->List D->Hh->Res D)(C12:∀ c h,∃ w J,cl 32 [.int c] h=.ok (.str w) (h++J)/\Nm w)(c:Int)(hc0:0<=c)(dd:D):∀ (m k:Nat) (t:G) (h:Hh) (x y z:Option D),k+m<=30->Gn k t ->
  ∃ t' J x' y' z',zZ [] (jd jw λ ρ' h'=>b_law_nest_1.run cl ρ' h') ((List.range' k m).map λ (j:Nat)=>D.int (j:Nat)) [some (.int c),some dd,some t.d,x,y,z] h=.nx [some (.int c),some dd,some (G.d t'),x',y',z'] (h++J)/\Gn (k+m) t'
 | 0,k,t,h,x,y,z,_,ht=>⟨t,[],x,y,z,by simp [zZ,zn],by simpa using ht⟩
 | m+1,k,t,h,x,y,z,hk,ht=>by
  obtain ⟨w,J,c12,ww⟩:=C12 (c/((k:Int)+2)) h;obtain ⟨p,hp⟩:∃ p,p=c/(3*(k:Int)+1)%4:=⟨_,rfl⟩;have p0:p=0\/p=1\/p=2\/p=3:=by omega
  have f1:zG (3:Int)=true:=by decide
  have f2:zG (k:Int)=true:=jh (by omega);have k1:(0:Int)<(k:Int)+2:=by omega
  have k2:(k:Int)+2<1073741824:=by omega
  have k3:(0:Int)<3*(k:Int)+1:=by omega
  have k4:3*(k:Int)+1<1073741824:=by omega
  have nk:=Z4 (.num (k:Int)) ⟨by omega,by omega,rfl⟩ rfl rfl;have n7:=Z4 (.num 7) ⟨by decide,by decide,rfl⟩ rfl rfl;have nv:=Z4 (.var w) ⟨ww,rfl⟩ rfl rfl;have hd:∀ {ρ' h'},Ss.run cl (zA 2 b_law_nest_1) [some (.int c),some dd,some t.d,some (.int (k:Nat)),some (.str w),some (.int p)] (h++J)=.nx ρ' h'->jd jw (λ ρ' h'=>b_law_nest_1.run cl ρ' h') (.int (k:Nat)) [some (.int c),some dd,some t.d,x,y,z] h=.nx ρ' h':=λ q=>by
   subst hp;exact ze (zb (bnd rfl (bnd (bnd rfl (bnd rfl rfl)) (fdk ⟨k1,k2⟩))) c12) (ze (bnd (bnd rfl (bnd (bnd (bnd rfl (bnd rfl (mlk f1 f2))) (bnd rfl rfl)) (fdk ⟨k3,k4⟩))) (bnd rfl mdk)) q)
  have no:∀ {q:Int}{a r:Ss}{ρ:En}{o:RS}{p1 p2 p3 p4:Pos},p≠q->ρ[5]?=some (some (.int p))->Ss.run cl r ρ (h++J)=o->Ss.run cl (.cons (.iff (.cmp .Eq (.var 5 p1) (.int q p2) p3) a .nil p4) r) ρ (h++J)=o:=λ hq e5 k=>zf (zQ e5 (zV hq)) k;obtain ⟨t2,g2,st⟩:∃ t2,Gn (k+1) t2/\jd jw (λ ρ' h'=>b_law_nest_1.run cl ρ' h') (.int (k:Nat)) [some (.int c),some dd,some t.d,x,y,z] h=.nx [some (.int c),some dd,some (G.d t2),some (.int (k:Nat)),some (.str w),some (.int p)] (h++J):=by
   rcases p0 with q | q | q | q
   ·refine ⟨.nd .guard [.nd (.num (k:Int)) [],t],Z5 k .guard t [.nd (.num (k:Int)) []] [] trivial rfl ht (by intro g hg;simp at hg;rw [hg];exact nk) (by simp),?_⟩;rw [d_2,ZJ];exact hd (wQ (zQ rfl (j1 q)) (ze rfl rfl) (no (by rw [q];decide) rfl (no (by rw [q];decide) rfl (no (by rw [q];decide) rfl rfl))))
   ·refine ⟨.nd (.doo w) [t],Z5 k (.doo w) t [] [] ww rfl ht (by intro g hg;cases hg) (by simp),?_⟩;rw [d_1];exact hd (no (by rw [q];decide) rfl (wQ (zQ rfl (j1 q)) (ze rfl rfl) (no (by rw [q];decide) rfl (no (by rw [q];decide) rfl rfl))))
   ·refine ⟨.nd (.call w none) [.nd (.var w) [],t],Z5 k (.call w none) t [.nd (.var w) []] [] ⟨ww,λ x hx=>by cases hx⟩ rfl ht (by intro g hg;simp at hg;rw [hg];exact nv) (by simp),?_⟩;rw [d_2,Oc];exact hd (no (by rw [q];decide) rfl (no (by rw [q];decide) rfl (wQ (zQ rfl (j1 q)) (ze rfl rfl) (no (by rw [q];decide) rfl rfl))))
   ·refine ⟨.nd .ite [t,.nd (.num 7) [],.nd (.num (k:Int)) []],Z5 k .ite t [] [.nd (.num 7) [],.nd (.num (k:Int)) []] trivial rfl ht (by intro g hg;simp at hg;rcases hg with rfl | rfl;exact n7;exact nk) (by simp),?_⟩;rw [show (G.nd .ite [t,.nd (.num 7) [],.nd (.num (k:Int)) []]).d=.tup [.str "if",t.d,(G.nd (.num 7) []).d,(G.nd (.num (k:Int)) []).d] by rw [G.d,G.ds,G.ds,G.ds,G.ds];rfl,ZJ,ZJ];exact hd (no (by rw [q];decide) rfl (no (by rw [q];decide) rfl (no (by rw [q];decide) rfl (wQ (zQ rfl (j1 q)) (ze rfl rfl) rfl))))
  obtain ⟨t',J',x',y',z',e,g'⟩:=JU cl C12 c hc0 dd m (k+1) t2 (h++J) (some (.int (k:Nat))) (some (.str w)) (some (.int p)) (by omega) g2;refine ⟨t',J++J',x',y',z',?_,by rw [show k+(m+1)=k+1+m by omega];exact g'⟩;rw [Y3l,Y05,zZ,if_pos zn,st];simp only [];rw [e,Y07]
theorem z4i (cl:Nat->List D->Hh->Res D)(C12:∀ c h,∃ w J,cl 32 [.int c] h=.ok (.str w) (h++J)/\Nm w)(c d:Int)(hc0:0<=c)(d0:0<=d)(d1:d<24)(h:Hh):∃ t J,d_law_nest.run cl [.int c,.int d] h=.ok (G.d t) (h++J)/\Gn 23 t:=by
 obtain ⟨m,rfl⟩:∃ m:Nat,d=m:=⟨d.toNat,by omega⟩;have g0:Gn 0 (.nd (.num (c%1000000000000000000)) []):=by
  obtain ⟨a,b,e,f,f2⟩:=Z4 (.num (c%1000000000000000000)) ⟨by omega,by omega,rfl⟩ rfl rfl;exact ⟨a,b,by omega,by omega,by omega⟩
 obtain ⟨t,J,x',y',z',e,g⟩:=JU cl C12 c hc0 (.int m) m 0 (.nd (.num (c%1000000000000000000)) []) h none none none (by omega) g0;refine ⟨t,J,?_,⟨g.wd,g.ok,by have:=g.ms;omega,by have:=g.dp;omega,by have:=g.bd;omega⟩⟩;rw [<- Y35] at e;rw [ZJ] at e;exact zh (ze (zU (zi rfl (zi (bnd rfl (bnd (x:=.int 1000000000000000000) (bnd rfl (bnd rfl rfl)) mdk)) rfl)) (Y0e rfl)) (qE (jV (j:=(m:Int)) rfl (by omega)) e (zg rfl)))
noncomputable def jO (cl:Nat->List D->Hh->Res D):Prop:=∀ c h,∃ w J,cl 32 [.int c] h=.ok (.str w) (h++J)/\Nm w
theorem z1w:∀ {ds:List D},(∀ x∈ds,∃ w:Str,x=.str w/\Nm w)->∃ ws:List Str,ds=ws.map D.str/\∀ w∈ws,Nm w
 | [],_=>⟨[],rfl,by simp⟩
 | x::r,h=>by
  obtain ⟨w,rfl,hw⟩:=h x (Y08 ..);obtain ⟨ws,rfl,hws⟩:=z1w λ y hy=>h y (Y06 _ hy);exact ⟨w::ws,rfl,λ z hz=>by rcases Y0b.mp hz with rfl | hz;exact hw;exact hws z hz⟩
theorem JV {cl:Nat->List D->Hh->Res D}{nf:Nat}(C11:qI cl nf)(C12:jO cl){f:D->Hh->Res (Option D)}(hf:∀ x h,f x h=(cl 31 [.loc nf] h).bind λ v h1=>(cl 32 [v] h1).bind λ y h2=>.ok (some y) h2):∀ (xs acc:List D) (n:Nat) (h:Hh),Feed nf n h ->
  ∃ (ws:List Str) (h':Hh) (n':Nat),zr [] f xs acc h=.ok (acc++ws.map D.str) h'/\Feed nf n' h'/\Mv nf h h'/\(∀ w∈ws,Nm w)/\ws.length=xs.length/\n'<=n
 | [],acc,n,h,hF=>⟨[],h,n,by rw [zr,if_pos zn];simp,hF,Mv.refl nf h,by simp,rfl,Y09 _⟩
 | x::r,acc,n,h,hF=>by
  obtain ⟨v,h1,c1,F1,M1,_,_⟩:=C11 n h hF;obtain ⟨w,J,c2,ww⟩:=C12 v h1;obtain ⟨ws,h2,n2,e,F2,M2,g,l,b⟩:=JV C11 C12 hf r (acc++[.str w]) (n-1) (h1++J) (F1.gr J);refine ⟨w::ws,h2,n2,?_,F2,Mv.trans nf _ _ _ M1 (Mv.trans nf _ _ _ (Mv.gr nf h1 J) M2),λ z hz=>?_,by rw [Y01,Y01,l],by omega⟩
  ·rw [zr,if_pos zn,hf,c1,bind_ok,c2,bind_ok,bind_ok,addO_some,e];simp
  ·rcases Y0b.mp hz with rfl | hz
   ·exact ww
   ·exact g z hz
theorem qJ {cl:Nat->List D->Hh->Res D}{nf:Nat}(C11:qI cl nf)(C12:jO cl){f:D->Hh->Res (Option D)}(hf:∀ x h,f x h=(cl 31 [.loc nf] h).bind λ v h1=>(cl 32 [v] h1).bind λ y h2=>.ok (some y) h2)(m n:Nat)(h:Hh)(hF:Feed nf n h) :
  ∃ (ws:List Str) (h':Hh) (n':Nat),zr [] f ((List.range m).map λ (k:Nat)=>D.int (k:Nat)) [] h=.ok (ws.map D.str) h'/\Feed nf n' h'/\Mv nf h h'/\(∀ w∈ws,Nm w)/\ws.length=m/\n'<=n:=by
 obtain ⟨ws,h',n',e,F,M,g,l,b⟩:=JV C11 C12 hf ((List.range m).map λ (k:Nat)=>D.int (k:Nat)) [] n h hF;exact ⟨ws,h',n',by simpa using e,F,M,g,by simpa using l,b⟩
theorem z4j {cl:Nat->List D->Hh->Res D}{nf:Nat}{ρ:En}{p p1 p2 p3 p4 p5:Pos}(e0:ρ[0]?=some (some (.loc nf)))(x:D)(h:Hh):zz (.one 0 p) (zS [none,some 0] ρ) (λ ρ' h2=>Es.nil.evC cl ρ' h2) (λ ρ' h2=>(E.call 32 (.call 31 (.var 1 p1) .nil p2 p3) .nil p4 p5).ev cl ρ' h2) x h=(cl 31 [.loc nf] h).bind λ v h1=>(cl 32 [v] h1).bind λ y h2=>.ok (some y) h2:=by
 have ec:zS [none,some 0] ρ=[none,some (.loc nf)]:=by unfold zS;simp only [Y05,Y0k,Y1j,Y2c,e0];rfl
 rw [ec];show (((cl 31 [.loc nf] h).bind λ v h1=>cl 32 [v] h1).bind λ y h2=>Res.ok (some y) h2)=_;cases cl 31 [.loc nf] h<;>rfl
theorem z6m {cl:Nat->List D->Hh->Res D}{i n nf e:Nat}{ρ:En}{h h7:Hh}{g:D}{xs:List D}(ei:ρ[i]?=some (some (.loc n)))(e0:ρ[0]?=some (some (.loc nf)))(e1:ρ[1]?=some (some (.int ((e+1:Nat):Int))))(e7:cl 33 [.loc nf,.int (e:Int)] h=.ok g h7)(a7:h7[n]?=some (.lst xs))(l:xs.length<=999999){p p1 p2 p3 p4 p5 p6 p7 p8 p9 p10:Pos} :
  E.ev cl (.tupE (.bin .Add (.var i p) (.ofL (.disp (.cons (.call 33 (.var 0 p1) (.cons (.bin .Sub (.var 1 p2) (.int 1 p9) p10) .nil) p3 p4) .nil) p5)) p6) p7 p8) ρ h=.ok (.tup (xs++[g])) (h7++[.lst [g]]++[.lst (xs++[g])]):=by
 have d:E.ev cl (.ofL (.disp (.cons (.call 33 (.var 0 p1) (.cons (.bin .Sub (.var 1 p2) (.int 1 p9) p10) .nil) p3 p4) .nil) p5)) ρ h=.ok (.loc h7.length) (h7++[.lst [g]]):=by
  rw [z84,z64,zi (yH e0 e1 e7) rfl];rfl
 exact wf (Ob (n:=n) (xs:=xs) (ys:=[g]) (by rw [qB,ei]) d (z9 a7) (by rw [hx0];rfl) (by show _+1<=_;omega)) (show rd _ _=_ by rw [qC];rfl)
theorem QA (cl:Nat->List D->Hh->Res D)(nf nc e:Nat)(hne:nc≠nf)(C11:qI cl nf)(C12:jO cl)(C4:wW cl nf e)(v:Int)(nm:D)(bk pr x y:Option D)(qs:List (List Str×G))(n:Nat)(hn:n<=60)(h:Hh)(hF:Feed nf n h)(hg:h[nc]?=some (.lst (qs.map λ q=>hdD q.1 q.2)))(hl:qs.length<=10)(k:D) :
  ∃ (q:List Str×G) (y':Option D) (h':Hh) (n':Nat),jd wo (λ ρ' h'=>b_law_item_2.run cl ρ' h') k [some (.loc nf),some (.int ((e+1:Nat):Int)),some (.int v),some nm,bk,pr,some (.loc nc),x,y] h=.nx [some (.loc nf),some (.int ((e+1:Nat):Int)),some (.int v),some nm,bk,pr,some (.loc nc),some k,y'] h'/\Feed nf n' h'/\h'[nc]?=some (.lst ((qs++[q]).map λ q=>hdD q.1 q.2))/\(∀ n o,n≠nf->n≠nc->h[n]?=some o->h'[n]?=some o)/\h.length<=h'.length/\okQ q 3/\q.2.ok=true/\dp q.2<=e+1/\n'<=n/\ms q.2+50*n'<=50*n+12:=by
 obtain ⟨ws,h1,n1,e1,F1,M1,w1,l1,b1⟩:=qJ C11 C12 (f:=zz qZ (zS [none,some 0] [some (.loc nf),some (.int ((e+1:Nat):Int)),some (.int v),some nm,bk,pr,some (.loc nc),some k,y]) (λ ρ' h2=>c_law_item_3.evC cl ρ' h2) (λ ρ' h2=>e_law_item_3.ev cl ρ' h2)) (z4j rfl) 3 n h hF;obtain ⟨g,h2,n2,e2,F2,M2,gg,b2,b3⟩:=C4 n1 (h1++[.lst (ws.map D.str)]) (F1.gr _);have n1':nf<h1.length:=by obtain ⟨ys,y1,_⟩:=F1;exact (Y04.mp y1).1
 have a1:h2[h1.length]?=some (.lst (ws.map D.str)):=M2.2 _ _ (by omega) (by rw [hx0];rfl);have c1:h1[nc]?=some (.lst (qs.map λ q=>hdD q.1 q.2)):=M1.2 _ _ hne hg;have c2:h2[nc]?=some (.lst (qs.map λ q=>hdD q.1 q.2)):=M2.2 _ _ hne (z9 c1);have lc:nc<h2.length:=(Y04.mp c2).1;refine ⟨(ws,g),some (.loc h1.length),(h2++[O.lst [g.d]]++[O.lst (ws.map D.str++[g.d])]).set nc (O.lst ((qs++[(ws,g)]).map λ q:List Str×G=>hdD q.1 q.2)),n2,?_,?_,?_,?_,?_,⟨w1,l1,gg.wd,by show ms g<=9000;omega⟩,gg.ok,gg.dp,by omega,by show ms g+_<=_;omega⟩
 ·have l4:(ws.map D.str).length<=999999:=by rw [Y0c];omega
  have ce:((qs++[(ws,g)]).map λ q:List Str×G=>hdD q.1 q.2)=(qs.map λ q=>hdD q.1 q.2)++[.tup (ws.map D.str++[g.d])]:=by rw [Y0j];rfl
  rw [ce];exact ze (j4 (jV rfl (by decide)) (Y0e rfl) e1) (Qi (Qq (i:=6) rfl (z9 c1) (z6m (i:=8) rfl rfl rfl e2 a1 l4) (z9 (z9 c2)) (by rw [Y0c];omega)) rfl)
 ·obtain ⟨ys,y1,y2⟩:=F2;exact ⟨ys,by rw [Y0o hne];exact z9 (z9 y1),y2⟩
 ·exact Y10 (by rw [Y03,Y03];omega)
 ·intro n o hn1 hn2 e;rw [Y0o (Ne.symm hn2)];exact z9 (z9 (M2.2 _ _ hn1 (z9 (M1.2 _ _ hn1 e))))
 ·rw [Y1a,Y03,Y03];have m1:=M1.1;have m2:=M2.1;rw [Y03] at m2;omega
noncomputable def QB (qs:List (List Str×G)):Nat:=(qs.map λ q=>ms q.2).sum
theorem yI (cl:Nat->List D->Hh->Res D)(nf nc e:Nat)(hne:nc≠nf)(C11:qI cl nf)(C12:jO cl)(C4:wW cl nf e)(v:Int)(nm:D)(bk pr:Option D):∀ (ks:List D) (qs:List (List Str×G)) (x y:Option D) (n:Nat) (h:Hh),n<=60->Feed nf n h->h[nc]?=some (.lst (qs.map λ q=>hdD q.1 q.2))->qs.length+ks.length<=2->(∀ q∈qs,okQ q 3/\q.2.ok=true/\dp q.2<=e+1)->QB qs+50*n<=3000+12*qs.length ->
  ∃ (qs':List (List Str×G)) (x' y':Option D) (h':Hh) (n':Nat),zZ [] (jd wo λ ρ' h'=>b_law_item_2.run cl ρ' h') ks [some (.loc nf),some (.int ((e+1:Nat):Int)),some (.int v),some nm,bk,pr,some (.loc nc),x,y] h=.nx [some (.loc nf),some (.int ((e+1:Nat):Int)),some (.int v),some nm,bk,pr,some (.loc nc),x',y'] h'/\Feed nf n' h'/\h'[nc]?=some (.lst (qs'.map λ q=>hdD q.1 q.2))/\(∀ n o,n≠nf->n≠nc->h[n]?=some o->h'[n]?=some o)/\h.length<=h'.length/\qs'.length<=2/\(∀ q∈qs',okQ q 3/\q.2.ok=true/\dp q.2<=e+1)/\n'<=n/\QB qs'+50*n'<=3000+12*qs'.length
 | [],qs,x,y,n,h,hn,hF,hg,hl,hq,hs=>⟨qs,x,y,h,n,by simp [zZ,zn],hF,hg,λ _ _ _ _ e=>e,Y09 _,by simpa using hl,hq,Y09 _,hs⟩
 | k::ks,qs,x,y,n,h,hn,hF,hg,hl,hq,hs=>by
  simp only [Y01] at hl;obtain ⟨q,y1,h1,n1,e1,F1,g1,k1,l1,o1,o2,o3,b1,b2⟩:=QA cl nf nc e hne C11 C12 C4 v nm bk pr x y qs n hn h hF hg (by omega) k;have sq:QB (qs++[q])=QB qs+ms q.2:=by unfold QB;simp
  obtain ⟨qs',x',y',h',n',e2,F2,g2,k2,l2,o4,o5,b3,b4⟩:=yI cl nf nc e hne C11 C12 C4 v nm bk pr ks (qs++[q]) (some k) y1 n1 h1 (by omega) F1 g1 (by simp;omega) (λ z hz=>by
   rcases Y0f.mp hz with w | w
   ·exact hq z w
   ·rw [Y0a.mp w];exact ⟨o1,o2,o3⟩) (by rw [sq,Y03,Y1i];omega)
  refine ⟨qs',x',y',h',n',?_,F2,g2,λ n o a b e=>k2 n o a b (k1 n o a b e),by omega,o4,o5,by omega,b4⟩;rw [zZ,if_pos zn,e1];exact e2
noncomputable def z4k:Ss:=Yy (jW (zA 2 d_law_item.body))
theorem z0l (cl:Nat->List D->Hh->Res D)(nf e:Nat)(he:e<=20)(C11:qI cl nf)(C12:jO cl)(C4:wW cl nf e)(C5:wW cl nf (e+1))(n:Nat)(hn:n<=60)(h:Hh)(hF:Feed nf n h) :
  ∃ i h' n',d_law_item.run cl [.loc nf,.int ((e+1:Nat):Int)] h=.ok (Itm.d i) h'/\Feed nf n' h'/\Mv nf h h'/\ItG i/\n'<=n:=by
 obtain ⟨v,h1,c11,F1,M1,v0,v1⟩:=C11 n h hF;obtain ⟨w,J,c12,ww⟩:=C12 (v/24) h1;have F2:Feed nf (n-1) (h1++J):=F1.gr J;have M2:Mv nf h (h1++J):=Mv.trans nf _ _ _ M1 (Mv.gr nf h1 J);have hs:∀ {d' h'},Ss.run cl (zA 2 d_law_item.body) [some (.loc nf),some (.int ((e+1:Nat):Int)),some (.int v),some (.str w),none,none,none,none,none] (h1++J)=.rt d' h'->d_law_item.run cl [.loc nf,.int ((e+1:Nat):Int)] h=.ok d' h':=λ k=>zh (ze (zb rfl c11) (ze (zb (qp rfl (by decide)) c12) k));generalize h1++J=H at *
 have n1:nf<H.length:=by obtain ⟨ys,y1,_⟩:=F2;exact (Y04.mp y1).1
 by_cases hv:v%2=0
 ·
  obtain ⟨b,H1,n3,F3,M3,l3,wb,sb⟩:∃ (b:Option Str) (H1:Hh) (n3:Nat),Feed nf n3 H1/\Mv nf H H1/\n3<=n/\(∀ x,b=some x->Nm x)/\∀ {r d' h'},Ss.run cl r [some (.loc nf),some (.int ((e+1:Nat):Int)),some (.int v),some (.str w),some (yQ b),none,none,none,none] H1=.rt d' h'->Ss.run cl (.cons (jW (zA 1 z4k)) r) [some (.loc nf),some (.int ((e+1:Nat):Int)),some (.int v),some (.str w),some .non,none,none,none,none] H=.rt d' h':=by
   by_cases hb:v/2%2=1
   ·obtain ⟨v2,h5,c11b,F5,M5,_,_⟩:=C11 _ H F2;obtain ⟨w2,J2,c12b,ww2⟩:=C12 v2 h5;exact ⟨some w2,h5++J2,_,F5.gr _,Mv.trans nf _ _ _ M5 (Mv.gr nf h5 J2),by omega,(λ x hx=>by cases hx;exact ww2),λ k=>wQ (wu (jJ rfl (by decide) (by decide)) (j1 hb)) (ze (zb (zb rfl c11b) c12b) rfl) k⟩
   ·exact ⟨none,H,_,F2,Mv.refl _ _,by omega,(λ x hx=>by cases hx),λ k=>zf (wu (jJ rfl (by decide) (by decide)) (zV hb)) k⟩
  obtain ⟨m,hm⟩:∃ m:Nat,(m:Int)=v/4%4:=⟨(v/4%4).toNat,by omega⟩;have mt:(v/4%4).toNat=m:=by omega
  obtain ⟨ws,h6,n6,e6,F6,M6,w6,l6,b6⟩:=qJ C11 C12 (f:=zz y0 (zS [none,some 0] [some (.loc nf),some (.int ((e+1:Nat):Int)),some (.int v),some (.str w),some (yQ b),none,none,none,none]) (λ ρ' h2=>c_law_item_4.evC cl ρ' h2) (λ ρ' h2=>e_law_item_4.ev cl ρ' h2)) (z4j rfl) m n3 H1 F3;obtain ⟨g,h7,n7,e7,F7,M7,gg,b7,b8⟩:=C5 n6 h6 F6;refine ⟨.fn w ws b g,h7,n7,?_,F7,Mv.trans nf _ _ _ M2 (Mv.trans nf _ _ _ M3 (Mv.trans nf _ _ _ M6 M7)),⟨⟨ww,w6,by omega,wb,gg.wd,by omega⟩,?_,by simp only [trs,Y05,Y0k,Y0v,Y1r];omega⟩,by omega⟩
  ·refine hs (zM (wu (bnd rfl (bnd rfl mdk)) (j1 hv)) (ze rfl (sb (ze (Yw (Yx (jV (jJ rfl (by decide) (by decide)) (by omega)) ?_ ?_)) (zg (zU (zi rfl (zi rfl (zi rfl (zi rfl (zi (zP rfl rfl e7) rfl))))) (Y0e rfl)))))))
   ·rw [Y0c,Y1g,mt];omega
   ·rw [mt];exact e6
  ·intro z hz;rw [Y0a.mp hz];exact ⟨gg.ok,by have:=gg.dp;omega,by have:=Qt g;have:=gg.dp;show bd g<=23;omega⟩
 ·
  obtain ⟨m,hm⟩:∃ m:Nat,(m:Int)=v/2%3:=⟨(v/2%3).toNat,by omega⟩;have mt:(v/2%3).toNat=m:=by omega
  obtain ⟨qs,x',y',h3,n3,e3,F3,g3,k3,l3,o3,o4,b3,b4⟩:=yI cl nf H.length e (by omega) C11 C12 C4 v (.str w) none none ((List.range m).map λ (k:Nat)=>D.int (k:Nat)) [] none none (n-1) (H++[.lst []]) (by omega) (F2.gr _) (by rw [hx0];rfl) (by simp;omega) (λ q hq=>by cases hq) (by simp [QB];omega);have n3':nf<h3.length:=by obtain ⟨ys,y1,_⟩:=F3;exact (Y04.mp y1).1
  have n4:H.length<h3.length:=(Y04.mp g3).1;obtain ⟨ws,h6,n6,e6,F6,M6,w6,l6,b6⟩:=qJ C11 C12 (f:=zz qY (zS [none,some 0] [some (.loc nf),some (.int ((e+1:Nat):Int)),some (.int v),some (.str w),none,none,some (.loc H.length),x',y']) (λ ρ' h2=>c_law_item_1.evC cl ρ' h2) (λ ρ' h2=>e_law_item_1.ev cl ρ' h2)) (z4j rfl) 2 n3 h3 F3;have n6':nf<h6.length:=by obtain ⟨ys,y1,_⟩:=F6;exact (Y04.mp y1).1
  obtain ⟨g,h7,n7,e7,F7,M7,gg,b7,b8⟩:=C4 n6 (h6++[.lst (ws.map D.str)]) (F6.gr _);have a7:h7[h6.length]?=some (.lst (ws.map D.str)):=M7.2 _ _ (by omega) (by rw [hx0];rfl);have g6:h6[H.length]?=some (.lst (qs.map λ q=>hdD q.1 q.2)):=M6.2 _ _ (by omega) g3;refine ⟨.hd w qs (ws,g),h7++[.lst [g.d]]++[.lst (ws.map D.str++[g.d])],n7,?_,(F7.gr _).gr _,?_,⟨⟨ww,λ q hq=>(o4 q hq).1,by omega,w6,l6,gg.wd,by show ms g<=9000;omega⟩,?_,?_⟩,by omega⟩
  ·have l7:(ws.map D.str).length<=999999:=by rw [Y0c];omega
   refine hs (zf (wu (bnd rfl (bnd rfl mdk)) (zV hv)) (ze (d:=.loc H.length) (h':=H++[.lst []]) rfl (qE (jV (jJ rfl (by decide) (by decide)) (by omega)) (ρ':=[some (.loc nf),some (.int ((e+1:Nat):Int)),some (.int v),some (.str w),none,none,some (.loc H.length),x',y']) (h2:=h3) ?_ (ze (j4 (jV rfl (by decide)) (Y0e rfl) e6) (zg (zU (zi rfl (zi rfl (zi (wf rfl (show rd _ _=_ from zv (z9 g6))) (zi (z6m (i:=8) rfl rfl rfl e7 a7 l7) rfl)))) (Y0e rfl)))))));rw [mt];exact e3
  ·refine Mv.trans nf _ _ _ M2 (Mv.trans nf H h6 _ (Mv.trans nf H h3 _ ⟨by omega,λ n o hn e=>?_⟩ M6) (Mv.trans nf _ _ _ (Mv.gr nf h6 _) (Mv.trans nf _ _ _ M7 (Mv.trans nf _ _ _ (Mv.gr nf h7 _) (Mv.gr nf _ _)))));have hlt:n<H.length:=(Y04.mp e).1;exact k3 n o hn (by omega) (z9 e)
  ·intro z hz;rcases Y0f.mp hz with q | q
   ·obtain ⟨q2,hq,rfl⟩:=Y0z.mp q;have z1:=(o4 q2 hq).2.2;have z2:=Qt q2.2;exact ⟨(o4 q2 hq).2.1,by omega,by show bd q2.2<=22;omega⟩
   ·rw [Y0a.mp q];have z1:=gg.dp;have z2:=Qt g;exact ⟨gg.ok,by show dp g<=24;omega,by show bd g<=22;omega⟩
  ·have q1:((trs (Itm.hd w qs (ws,g))).map ms).sum=QB qs+ms g:=by simp [trs,QB,Function.comp_def]
   show ((trs (Itm.hd w qs (ws,g))).map ms).sum<=4400;omega
noncomputable def Sc (d:D)(ns:List Int)(h:Hh):Prop:=d=scr ns\/∃ n,d=.loc n/\h[n]?=some (.lst (ns.map .int))
noncomputable def Ex (h h':Hh):Prop:=h.length<=h'.length/\∀ (n:Nat) (o:O),h[n]?=some o->h'[n]?=some o
theorem Ex.refl (h:Hh):Ex h h:=⟨Y09 _,λ _ _ e=>e⟩
theorem Ex.trans {a b c:Hh}(x:Ex a b)(y:Ex b c):Ex a c:=⟨Y0t x.1 y.1,λ n o e=>y.2 n o (x.2 n o e)⟩
theorem Ex.gr (h J:Hh):Ex h (h++J):=⟨by simp,λ n o e=>z9 e⟩
theorem Ex.mv {h h1 h2:Hh}{nf:Nat}(x:Ex h h1)(m:Mv nf h1 h2)(hn:h.length<=nf):Ex h h2:=⟨Y0t x.1 m.1,λ n o e=>m.2 n o (by have:=(Y04.mp e).1;omega) (x.2 n o e)⟩
theorem Ex.set {h h1:Hh}{nf:Nat}{o:O}(x:Ex h h1)(hn:h.length<=nf):Ex h (h1.set nf o):=⟨by rw [Y1a];exact x.1,λ n o e=>by rw [Y0o (by have:=(Y04.mp e).1;omega)];exact x.2 n o e⟩
theorem Sc.mono {d:D}{ns:List Int}{h h':Hh}(s:Sc d ns h)(x:Ex h h'):Sc d ns h':=s.imp id λ ⟨n,e,g⟩=>⟨n,e,x.2 n _ g⟩
theorem Sc.len {d:D}{ns:List Int}{h:Hh}(s:Sc d ns h):jL d h=.ok (.int (ns.length:Nat)) h:=by
 rcases s with rfl | ⟨n,rfl,g⟩
 ·show Res.ok (D.int ((ns.map D.int).length:Nat)) h=_;rw [Y0c]
 ·rw [y7 g,Y0c]
theorem Sc.sub {d:D}{ns:List Int}{h:Hh}(s:Sc d ns h){i:Int}(h0:0<=i)(h1:i<(ns.length:Int)):zY d (.int i) h=.ok (.int (yG ns i)) h:=by
 rcases s with rfl | ⟨n,rfl,g⟩
 ·show (match atI (ns.map D.int) i with | some d=>Res.ok d h | none=>.no)=_
  rw [GY ns i h0 h1]
 ·unfold zY;dsimp only;rw [g];dsimp only;rw [GY ns i h0 h1]
theorem Sc.cut {d:D}{ns:List Int}{h:Hh}(s:Sc d ns h)(a b:Option Int):jS d a b h=.ok (.loc h.length) (h++[.lst (jc (ns.map .int) a b)]):=by
 rcases s with rfl | ⟨n,rfl,g⟩
 ·rfl
 ·unfold jS;dsimp only;rw [zv g];rfl
theorem ZP (ns:List Int)(a b:Int)(ha:0<=a)(hb:0<=b):∃ xs:List Int,jc (ns.map D.int) (some a) (some b)=xs.map D.int/\(∀ x∈xs,x∈ns)/\xs.length<=b.toNat-min a.toNat ns.length:=by
 refine ⟨(ns.drop (min a.toNat ns.length)).take (min b.toNat ns.length-min a.toNat ns.length),?_,λ x hx=>List.mem_of_mem_drop (Y36 hx),by rw [Y21];omega⟩;unfold jc;rw [jU _ _ _ ha,jU _ _ _ hb,Y0c,List.map_take,List.map_drop]
theorem z0m (cl:Nat->List D->Hh->Res D)(h:Hh)(d:D)(ns:List Int)(s:Sc d ns h)(k:Int)(hk:0<=k/\k<1000)(hb:∀ n∈ns,zG n=true):∃ v,(∀ h',Sc d ns h'->d_law_cell.run cl [d,.int k] h'=.ok (.int v) h')/\0<=v/\v<2147483629:=by
 have fk:zG k=true:=jh (by omega);have f1:zG (7919:Int)=true:=by decide
 have f2:zG (48271:Int)=true:=by decide
 have sq:∀ n:Int,zG (n%2147483647)=true:=λ n=>jh (by omega);by_cases hl:0<(ns.length:Int)
 ·have hm0:0<=k%(ns.length:Int):=Int.emod_nonneg _ (by omega);have hm1:k%(ns.length:Int)<(ns.length:Int):=Int.emod_lt_of_pos _ hl;have fc:=Vo hb (k%(ns.length:Int));obtain ⟨w,hw⟩:∃ w,w=(yG ns (k%(ns.length:Int))*48271+7919*k)%2147483647:=⟨_,rfl⟩;have fw:zG w=true:=by rw [hw];exact sq _
  refine ⟨w*w%2147483629,λ h s=>?_,by omega,by omega⟩;have su:=s.sub hm0 hm1;have le:=s.len;have c0:jf .Gt (.int (ns.length:Nat)) (.int 0) h=.ok (.bl true) h:=by rw [cmp_gt];congr 2;exact decide_eq_true hl
  subst hw;exact zh (ze (bnd (bnd rfl (bnd rfl (mlk f1 fk))) (bnd rfl rfl)) (wQ (zk (bnd rfl le) rfl c0) (ze (bnd (bnd (bnd rfl (bnd (bnd rfl (bnd (bnd rfl le) (mdk hl))) su)) (bnd rfl (mlk fc f2))) (bnd (bnd rfl (bnd rfl (mlk f1 fk))) rfl)) rfl) (ze (bnd rfl (bnd rfl mdk)) (zg (bnd (bnd rfl (bnd rfl (mlk fw fw))) (bnd rfl mdk))))))
 ·have h0:ns=[]:=by cases ns with | nil=>rfl | cons x r=>exact absurd (by rw [Y01];omega) hl
  subst h0;obtain ⟨w,hw⟩:∃ w,w=(7919*k+5)%2147483647:=⟨_,rfl⟩;have fw:zG w=true:=by rw [hw];exact sq _
  refine ⟨w*w%2147483629,λ h s=>?_,by omega,by omega⟩;have le:=s.len;subst hw;exact zh (ze (bnd (bnd rfl (bnd rfl (mlk f1 fk))) (bnd rfl rfl)) (zf (h':=h) (zk (bnd rfl le) rfl rfl) (ze (bnd rfl (bnd rfl mdk)) (zg (bnd (bnd rfl (bnd rfl (mlk fw fw))) (bnd rfl mdk))))))
theorem z6n {cl:Nat->List D->Hh->Res D}{ρ:En}{h:Hh}{i n:Nat}{xs:List D}{p p1 p2 p3 p4:Pos}(ei:ρ[i]?=some (some (.loc n)))(g:h[n]?=some (.lst xs)):E.ev cl (.revT (.var i p) (.un .USub (.int 1 p1) p2) p3 p4) ρ h=.ok (.loc h.length) (h++[.lst xs.reverse]):=by
 refine bnd (x:=.loc n) (by rw [qB,ei]) (bnd (x:=.int (-1)) rfl ?_);show Uh (.loc n) (.int (-1)) h=_;unfold Uh;dsimp only;rw [zv g];rfl
noncomputable def z0n (xs:List Int):Prop:=∀ x∈xs,0<=x/\x<4722366482869645213696
theorem JW (cl:Nat->List D->Hh->Res D)(h:Hh):∀ (ks:List D) (c:Int) (xs:List Int) (x2:Option D),z0n xs->xs.length+ks.length<=1000 ->
  ∃ c' ys x2',zZ [] (jd qV λ ρ' h'=>b_law_feed_1.run cl ρ' h') ks [some (.int c),some (.loc h.length),x2] (h++[.lst (xs.map D.int)])=.nx [some (.int c'),some (.loc h.length),x2'] (h++[.lst (ys.map D.int)])/\z0n ys/\ys.length=xs.length+ks.length
 | [],c,xs,x2,hf,hl=>⟨c,xs,x2,by rw [zZ,if_pos zn],hf,rfl⟩
 | k::ks,c,xs,x2,hf,hl=>by
  rw [Y01] at hl;obtain ⟨c',ys,x2',e,hy,hz⟩:=JW cl h ks (c/4722366482869645213696) (xs++[c%4722366482869645213696]) (some k) (λ x hx=>by
   rcases Y0f.mp hx with hx | hx
   ·exact hf x hx
   ·rw [Y0a.mp hx];omega) (by rw [Y03,Y1i];omega)
  refine ⟨c',ys,x2',ZD zn ?_ e,hy,by rw [hz,Y03,Y1i,Y01];omega⟩;have g:(h++[O.lst (xs.map D.int)])[h.length]?=some (.lst (xs.map D.int)):=by rw [hx0];rfl
  refine Qi (Qq (i:=1) rfl g (bnd rfl (bnd rfl mdk)) g (by rw [Y0c];omega)) (ze (bnd rfl (bnd rfl (fdB (by decide)))) ?_);rw [qS,Y0j];rfl
theorem z4l (cl:Nat->List D->Hh->Res D)(c:Int)(h:Hh):∃ nf h',d_law_feed.run cl [.int c] h=.ok (.loc nf) h'/\Feed nf 60 h'/\Ex h h'/\h.length<=nf:=by
 obtain ⟨c',ys,x2',e,hy,hz⟩:=JW cl h ((List.range 60).map λ k:Nat=>D.int k) c [] none (λ x hx=>by cases hx) (by simp);have g:(h++[O.lst (ys.map D.int)])[h.length]?=some (.lst (ys.map D.int)):=by rw [hx0];rfl
 refine ⟨(h++[O.lst (ys.map D.int)]).length,h++[O.lst (ys.map D.int)]++[.lst (ys.map D.int).reverse],zh (ze rfl (qE (jV (j:=60) rfl (by decide)) e (zg (z6n rfl g)))),⟨ys.reverse,by rw [hx0,<- List.map_reverse];rfl,λ x hx=>hy x (Y3m.mp hx),by simpa using hz⟩,(Ex.gr h _).trans (Ex.gr _ _),by simp⟩
theorem ZQ (cl:Nat->List D->Hh->Res D)(h:Hh)(r0:Option D)(ck:Ck):∀ (zs:List Int) (k:Nat) (xs:List Int) (x2 x3 x4:Option D),(∀ xs:List Int,stay ck (h++[.lst (xs.map D.int)]))->(∀ z∈zs,zG z=true)->z0n xs->xs.length+zs.length<=1000->k+zs.length<=1000 ->
  ∃ ys x2' x3' x4',zZ ck (jd qj λ ρ' h'=>b_law_mixed_1.run cl ρ' h') (jT k (zs.map D.int)) [r0,some (.loc h.length),x2,x3,x4] (h++[.lst (xs.map D.int)])=.nx [r0,some (.loc h.length),x2',x3',x4'] (h++[.lst (ys.map D.int)])/\z0n ys/\ys.length=xs.length+zs.length
 | [],k,xs,x2,x3,x4,st,_,hf,_,_=>⟨xs,x2,x3,x4,by rw [Y0k,jT,zZ,if_pos (st xs)],hf,rfl⟩
 | z::zs,k,xs,x2,x3,x4,st,hz,hf,hl,hk=>by
  rw [Y01] at hl hk;have fz:=hz z (Y08 ..);have fk:zG (k:Int)=true:=jh (by omega);obtain ⟨w,hw⟩:∃ w,w=(z*48271+7919*(k:Int))%2147483647:=⟨_,rfl⟩;have w0:0<=w/\w<2147483647:=by omega
  have fw:zG w=true:=jh (by omega);obtain ⟨q,hq⟩:∃ q,q=w*w%2147483629:=⟨_,rfl⟩;have q0:0<=q/\q<2147483629:=by omega
  have fq:zG q=true:=jh (by omega);obtain ⟨u,hu⟩:∃ u,u=q*69621+16807*(k:Int):=⟨_,rfl⟩;have fu:zG u=true:=jh (by omega);obtain ⟨ys,a2,a3,a4,e,hy,hl2⟩:=ZQ cl h r0 ck zs (k+1) (xs++[u*u%2147483587]) (some (.int k)) (some (.int z)) (some (.int u)) st (λ x hx=>hz x (Y06 _ hx)) (λ x hx=>by
   rcases Y0f.mp hx with hx | hx
   ·exact hf x hx
   ·rw [Y0a.mp hx];omega) (by rw [Y03,Y1i];omega) (by omega)
  refine ⟨ys,a2,a3,a4,?_,hy,by rw [hl2,Y03,Y1i,Y01];omega⟩;rw [Y05,jT];refine ZD (st xs) ?_ e;have g:(h++[O.lst (xs.map D.int)])[h.length]?=some (.lst (xs.map D.int)):=by rw [hx0];rfl
  subst hu hq hw;refine ze (bnd (bnd (bnd rfl (bnd rfl (mlk fz (by decide)))) (bnd (bnd rfl (bnd rfl (mlk (by decide) fk))) rfl)) (bnd rfl mdk)) (ze (bnd (bnd (bnd (bnd rfl (bnd rfl (mlk fw fw))) (bnd rfl mdk)) (bnd rfl (mlk fq (by decide)))) (bnd (bnd rfl (bnd rfl (mlk (by decide) fk))) rfl)) (Qi (Qq (i:=1) rfl g (bnd (bnd rfl (bnd rfl (mlk fu fu))) (bnd rfl mdk)) g (by rw [Y0c];omega)) ?_));rw [qS,Y0j];rfl
theorem z0o (cl:Nat->List D->Hh->Res D)(n:Nat)(zs:List Int)(h:Hh)(g:h[n]?=some (.lst (zs.map D.int)))(hz:∀ z∈zs,zG z=true)(hl:zs.length<=60):∃ nf h',d_law_mixed.run cl [.loc n] h=.ok (.loc nf) h'/\Feed nf zs.length h'/\Ex h h'/\h.length<=nf:=by
 obtain ⟨ys,a2,a3,a4,e,hy,hl2⟩:=ZQ cl h (some (.loc n)) [(n,zs.map D.int)] zs 0 [] none none none (λ xs=>stay_one.mpr (zv (z9 g))) hz (λ x hx=>by cases hx) (by simp;omega) (by omega);have g2:(h++[O.lst (ys.map D.int)])[h.length]?=some (.lst (ys.map D.int)):=by rw [hx0];rfl
 have en:∀ p p1 p2,I.ev cl (.enum (.var 0 p) p1 p2) [some (.loc n),some (.loc h.length),none,none,none] (h++[O.lst (([]:List Int).map D.int)])=.ok ([(n,zs.map D.int)],jT 0 (zs.map D.int)) (h++[O.lst (([]:List Int).map D.int)]):=λ p p1 p2=>by
  rw [z65];refine bnd rfl ?_;show Q8 (.loc n) _=_;unfold Q8;dsimp only;rw [zv (z9 g)]
 refine ⟨(h++[O.lst (ys.map D.int)]).length,h++[O.lst (ys.map D.int)]++[.lst (ys.map D.int).reverse],zh (ze rfl (qE (en _ _ _) e (zg (z6n rfl g2)))),⟨ys.reverse,by rw [hx0,<- List.map_reverse];rfl,λ x hx=>hy x (Y3m.mp hx),by simpa using hl2⟩,(Ex.gr h _).trans (Ex.gr _ _),by simp⟩
noncomputable def yx (cl:Nat->List D->Hh->Res D):Prop:=∀ (d:D) (ns:List Int) (h:Hh) (k:Int),Sc d ns h->(0<=k/\k<1000)->(∀ n∈ns,zG n=true)->∃ v,(∀ h',Sc d ns h'->cl 28 [d,.int k] h'=.ok (.int v) h')/\0<=v/\v<2147483629
noncomputable def UD (cl:Nat->List D->Hh->Res D):Prop:=∀ (n:Nat) (zs:List Int) (h:Hh),h[n]?=some (.lst (zs.map D.int))->(∀ z∈zs,zG z=true)->zs.length<=60->∃ nf h',cl 30 [.loc n] h=.ok (.loc nf) h'/\Feed nf zs.length h'/\Ex h h'/\h.length<=nf
noncomputable def YI (cl:Nat->List D->Hh->Res D):Prop:=∀ (c:Int) (h:Hh),∃ nf h',cl 29 [.int c] h=.ok (.loc nf) h'/\Feed nf 60 h'/\Ex h h'/\h.length<=nf
noncomputable def QC (cl:Nat->List D->Hh->Res D):Prop:=∀ (nf e n:Nat) (h:Hh),e<=20->n<=60->Feed nf n h->∃ i h' n',cl 34 [.loc nf,.int ((e+1:Nat):Int)] h=.ok (Itm.d i) h'/\Feed nf n' h'/\Mv nf h h'/\ItG i/\n'<=n
noncomputable def OC (cl:Nat->List D->Hh->Res D):Prop:=∀ c d h,0<=c->0<=d->d<24->∃ t J,cl 35 [.int c,.int d] h=.ok (G.d t) (h++J)/\Gn 23 t
theorem JX {cl:Nat->List D->Hh->Res D}{nf:Nat}(C:QC cl){f:D->Hh->Res (Option D)}(hf:∀ x h,f x h=(cl 34 [.loc nf,.int 5] h).bind λ y h2=>.ok (some y) h2):∀ (xs acc:List D) (n:Nat) (h:Hh),n<=60->Feed nf n h ->
  ∃ (is:List Itm) (h':Hh) (n':Nat),zr [] f xs acc h=.ok (acc++is.map Itm.d) h'/\Feed nf n' h'/\Mv nf h h'/\(∀ i∈is,ItG i)/\is.length=xs.length
 | [],acc,n,h,_,hF=>⟨[],h,n,by rw [zr,if_pos zn];simp,hF,Mv.refl nf h,by simp,rfl⟩
 | x::r,acc,n,h,hn,hF=>by
  obtain ⟨i,h1,n1,c,F1,M1,gi,l1⟩:=C nf 4 n h (by decide) hn hF;obtain ⟨is,h2,n2,e,F2,M2,gg,gl⟩:=JX C hf r (acc++[i.d]) n1 h1 (by omega) F1;refine ⟨i::is,h2,n2,?_,F2,Mv.trans nf _ _ _ M1 M2,λ z hz=>?_,by rw [Y01,Y01,gl]⟩
  ·have c':cl 34 [.loc nf,.int 5] h=.ok i.d h1:=c;rw [zr,if_pos zn,hf,c',bind_ok,bind_ok,addO_some,e];simp
  ·rcases Y0b.mp hz with rfl | hz
   ·exact gi
   ·exact gg z hz
theorem VD (cl:Nat->List D->Hh->Res D)(C28:yx cl)(C30:UD cl)(C12:jO cl)(C34:QC cl)(C35:OC cl)(d:D)(ns:List Int)(h:Hh)(s:Sc d ns h)(hb:∀ n∈ns,zG n=true) :
  ∃ (is:List Itm) (h':Hh),d_law_program.run cl [d] h=.ok (.tup (is.map Itm.d)) h'/\(∀ i∈is,ItG i)/\is.length<=4/\Ex h h':=by
 obtain ⟨c,c28,c0,c1⟩:=C28 d ns h 0 s (by decide) hb;obtain ⟨xs,hxs,hxm,hxl⟩:=ZP ns 2 36 (by decide) (by decide);have g0:(h++[O.lst (xs.map D.int)])[h.length]?=some (.lst (xs.map D.int)):=by rw [hx0];rfl
 obtain ⟨nf,h0,c30,F0,E0,l0⟩:=C30 h.length xs (h++[.lst (xs.map D.int)]) g0 (λ z hz=>hb z (hxm z hz)) (by have:(36:Int).toNat=36:=rfl;omega);rw [Y03,Y1i] at l0;have E1:Ex h h0:=(Ex.gr h _).trans E0;obtain ⟨m,hm⟩:∃ m:Nat,(m:Int)=c%4:=⟨(c%4).toNat,by omega⟩;have mt:(c%4).toNat=m:=by omega
 obtain ⟨is,h1,n1,e1,F1,M1,hi,l1⟩:=JX C34 (f:=zz wA (zS [none,some 2] [some d,some (.int c),some (.loc nf),none,none]) (λ ρ' h2=>c_law_program_1.evC cl ρ' h2) (λ ρ' h2=>e_law_program_1.ev cl ρ' h2)) (nf:=nf) (λ x h=>by
   show ((cl 34 [.loc nf,.int 5] h)).bind (λ y h2=>Res.ok (some y) h2)=_;rfl) ((List.range m).map λ (k:Nat)=>D.int (k:Nat)) [] xs.length h0 (by have:(36:Int).toNat=36:=rfl;omega) F0
 simp only [Y0n,Y0c,Y1g] at e1 l1;have E2:Ex h h1:=E1.mv M1 (by omega);have st:∀ {d' h'},Ss.run cl (zA 3 d_law_program.body) [some d,some (.int c),some (.loc nf),some (.loc h1.length),none] (h1++[.lst (is.map Itm.d)])=.rt d' h'->d_law_program.run cl [d] h=.ok d' h':=λ k=>by
  refine zh (ze (zP rfl rfl (c28 h s)) (ze (zb (bnd rfl (bnd rfl (bnd rfl ((s.cut _ _).trans (by rw [hxs]))))) c30) (ze (j4 (jV (bnd rfl (bnd rfl mdk)) (by omega)) ?_ ?_) k)))
  ·rw [Y0c,Y1g];omega
  ·rw [mt];exact e1
 have rl:rd (h1++[.lst (is.map Itm.d)]) h1.length=some (is.map Itm.d):=by rw [qC];rfl
 have s1:Sc d ns (h1++[.lst (is.map Itm.d)]):=s.mono (E2.trans (Ex.gr _ _));by_cases hc:c/4%4=1
 ·obtain ⟨c2,c28b,c20,c21⟩:=C28 d ns (h1++[.lst (is.map Itm.d)]) 1 s1 (by decide) hb;obtain ⟨t,J,c35,gt⟩:=C35 c2 (c2/7%24) (h1++[.lst (is.map Itm.d)]) c20 (by omega) (by omega);obtain ⟨w,J2,c12,ww⟩:=C12 (c/16) (h1++[.lst (is.map Itm.d)]++J);have ga:(h1++[O.lst (is.map Itm.d)]++J)[h1.length]?=some (.lst (is.map Itm.d)):=z9 (by rw [hx0];rfl);have ll:h1.length<(h1++[O.lst (is.map Itm.d)]++J++J2).length:=(Y04.mp (z9 (l:=J2) ga)).1;refine ⟨is++[Itm.fn w [] none t],(h1++[O.lst (is.map Itm.d)]++J++J2).set h1.length (.lst (is.map Itm.d++[(Itm.fn w [] none t).d])),?_,?_,by simp;omega,(((E2.trans (Ex.gr _ _)).trans (Ex.gr _ _)).trans (Ex.gr _ _)).set E2.1⟩
  ·rw [Y0j];exact st (wQ (wu (jJ rfl (by decide) (by decide)) (j1 hc)) (ze (zP (zP rfl rfl (c28b _ s1)) (bnd (bnd (zP rfl rfl (c28b _ s1)) (bnd rfl fdk)) (bnd rfl mdk)) c35) (Qi (Qq (i:=3) rfl ga (zU (zi rfl (zi (zb (qp rfl (by decide)) c12) rfl)) (Y0e rfl)) (z9 ga) (by rw [Y0c];omega)) rfl)) (zg (wf rfl (zv (Y10 ll)))))
  ·intro i hmem;rcases Y0f.mp hmem with q | q
   ·exact hi i q
   ·rw [Y0a.mp q];have gm:=gt.ms;exact ⟨⟨ww,by simp,by simp,(λ x hx=>by cases hx),gt.wd,by omega⟩,(λ g hg=>by rw [Y0a.mp hg];exact ⟨gt.ok,by have:=gt.dp;omega,gt.bd⟩),by simp [trs];omega⟩
 ·refine ⟨is,h1++[.lst (is.map Itm.d)],?_,hi,by omega,E2.trans (Ex.gr _ _)⟩;exact st (zf (wu (jJ rfl (by decide) (by decide)) (zV hc)) (zg (wf rfl rl)))
noncomputable def nth (ws:List Str)(i:Nat):Str:=ws.getD i ""
theorem WG {ws:List Str}{i:Nat}(h:i<ws.length):(ws.map D.str)[i]?=some (.str (nth ws i)):=by
 unfold nth;rw [Y13,Y12,Y0m h];rfl
theorem jx {ws:List Str}{i:Nat}(h:i<ws.length):nth ws i∈ws:=by
 unfold nth;rw [Y12,Y0m h];exact List.getElem_mem h
theorem z0p {cl:Nat->List D->Hh->Res D}(C12:jO cl)(v:Int)(v0:0<=v)(h:Hh):∃ (ws:List Str) (h':Hh),zr [] (zz jN [none,some (.int v)] (λ ρ' h2=>c_law_large_3.evC cl ρ' h2) (λ ρ' h2=>e_law_large_3.ev cl ρ' h2)) ((List.range 11).map λ (k:Nat)=>D.int (k:Nat)) [] h=.ok (ws.map D.str) h'/\Ex h h'/\(∀ w∈ws,Nm w)/\ws.length=11:=by
 obtain ⟨ds,h',e,_,m1,q,l⟩:=Qr (c:=[]) (f:=zz jN [none,some (.int v)] (λ ρ' h2=>c_law_large_3.evC cl ρ' h2) (λ ρ' h2=>e_law_large_3.ev cl ρ' h2)) (λ _=>True) Ex Ex.refl (λ _ _ _ x y=>x.trans y) (λ _ _=>zn) (λ x=>∃ w:Str,x=.str w/\Nm w) ((List.range 11).map λ (k:Nat)=>D.int (k:Nat)) [] h trivial (by
  intro x hx h _;obtain ⟨k,hk,rfl⟩:=Y0z.mp hx
  have:=Y1w.mp hk
  obtain ⟨w,J,c,ww⟩:=C12 (v/((k:Int)+1)) h;exact ⟨.str w,h++J,jv rfl rfl (zb (bnd rfl (bnd (bnd rfl (bnd rfl rfl)) (fdk (by omega)))) c),trivial,Ex.gr h J,w,rfl,ww⟩)
 obtain ⟨ws,rfl,hg⟩:=z1w q;exact ⟨ws,h',by simpa using e,m1,hg,by simpa using l⟩
noncomputable def lgF (ws:List Str)(v:Int):Itm:=.fn (nth ws 8) (ws.take (v%9).toNat) none (.nd (.call (nth ws 9) none) [])
noncomputable def lgQ (ws:List Str)(v:Int)(j:Nat):List Str×G:=([nth ws j,nth ws ((j+10)%11),nth ws 9],.nd (.num (v+j)) [])
noncomputable def lgH (ws:List Str)(v:Int):Itm:=.hd (nth ws 10) ((List.range (v/2%9).toNat).map (lgQ ws v)) ([nth ws 0,nth ws 1],.nd (.var (nth ws 8)) [])
section
variable {ws:List Str}{v:Int}(hw:∀ w∈ws,Nm w)(hl:ws.length=11)(v0:0<=v)(v1:v<2147483629)
theorem WH {k:Kd}(hk:Kd.wd k 0)(ho:k.ok 0=true)(hb:Kd.leaf k≠none\/True):wdG (.nd k [])/\(G.nd k []).ok=true/\dp (.nd k [])=1/\bd (.nd k [])<=1/\ms (.nd k [])=10:=by
 refine ⟨by rw [wdG];exact ⟨hk,by rw [wdGs];trivial⟩,by simp [G.ok,G.oks,ho],by rw [dp,dps],?_,Z3 k⟩
 have:=Qt (.nd k [])
 rw [dp,dps] at this;exact this
include hw hl in
theorem z4m:ItG (lgF ws v):=by
 have n9:=hw _ (jx (ws:=ws) (i:=9) (by omega));have n8:=hw _ (jx (ws:=ws) (i:=8) (by omega));obtain ⟨a1,a2,a3,a4,a5⟩:=WH (k:=.call (nth ws 9) none) ⟨n9,λ x hx=>by cases hx⟩ rfl (.inr trivial);refine ⟨⟨n8,λ x hx=>hw x (Y36 hx),by rw [Y21];omega,(λ x hx=>by cases hx),a1,by omega⟩,λ g hg=>?_,?_⟩
 ·have:g=.nd (.call (nth ws 9) none) []:=by simpa [trs,lgF] using hg
  rw [this];exact ⟨a2,by omega,by show _<=23;omega⟩
 ·simp only [lgF,trs,Y05,Y0k,Y0v,Y1r];omega
include hw hl v0 v1 in
theorem z4n (j:Nat)(hj:j<9):okQ (lgQ ws v j) 3/\(lgQ ws v j).2.ok=true/\dp (lgQ ws v j).2<=24/\bd (lgQ ws v j).2<=22/\ms (lgQ ws v j).2=10:=by
 obtain ⟨a1,a2,a3,a4,a5⟩:=WH (k:=.num (v+j)) ⟨by omega,by omega,rfl⟩ rfl (.inr trivial);refine ⟨⟨λ x hx=>?_,rfl,a1,by show ms _<=9000;unfold lgQ;dsimp only;omega⟩,a2,by show dp _<=24;unfold lgQ;dsimp only;omega,by show bd _<=22;unfold lgQ;dsimp only;omega,a5⟩;unfold lgQ at hx;simp only [Y0b,Y0p,or_false] at hx;rcases hx with rfl | rfl | rfl
 ·exact hw _ (jx (by omega))
 ·exact hw _ (jx (by omega))
 ·exact hw _ (jx (by omega))
include hw hl v0 v1 in
theorem z4o:ItG (lgH ws v):=by
 have n8:=hw _ (jx (ws:=ws) (i:=8) (by omega));obtain ⟨a1,a2,a3,a4,a5⟩:=WH (k:=.var (nth ws 8)) ⟨n8,rfl⟩ rfl (.inr trivial);have hm:(v/2%9).toNat<=8:=by omega
 have hq:∀ q∈(List.range (v/2%9).toNat).map (lgQ ws v),okQ q 3/\q.2.ok=true/\dp q.2<=24/\bd q.2<=22/\ms q.2=10:=λ q hq=>by
  obtain ⟨j,hj,rfl⟩:=Y0z.mp hq
  have:=Y1w.mp hj
  exact z4n hw hl v0 v1 j (by omega)
 refine ⟨⟨hw _ (jx (by omega)),λ q h=>(hq q h).1,by rw [Y0c,Y1g];exact hm,λ x hx=>?_,rfl,a1,by dsimp only;omega⟩,λ g hg=>?_,?_⟩
 ·simp only [Y0b,Y0p,or_false] at hx;rcases hx with rfl | rfl
  ·exact hw _ (jx (by omega))
  ·exact hw _ (jx (by omega))
 ·rcases Y0f.mp hg with h | h
  ·obtain ⟨q,h',rfl⟩:=Y0z.mp h;exact ⟨(hq q h').2.1,(hq q h').2.2.1,(hq q h').2.2.2.1⟩
  ·rw [Y0a.mp h];exact ⟨a2,by dsimp only;omega,by dsimp only [Itm.cap,lgH];omega⟩
 ·have:∀ l:List (List Str×G),(∀ q∈l,ms q.2=10)->(l.map λ q=>ms q.2).sum=10*l.length:=λ l=>by
   induction l with
   | nil=>intro _;rfl
   | cons q r ih =>
    intro h;have a:=h q (Y08 ..);have b:=ih λ z hz=>h z (Y06 _ hz);simp only [Y05,Y0v,Y01];omega
  have t:=this _ λ q h=>(hq q h).2.2.2.2;rw [Y0c,Y1g] at t;have e:((trs (lgH ws v)).map ms).sum=(((List.range (v/2%9).toNat).map (lgQ ws v)).map λ q=>ms q.2).sum+ms (.nd (.var (nth ws 8)) []):=by
   simp [trs,lgH,Function.comp_def]
  show ((trs (lgH ws v)).map ms).sum<=4400;rw [e,t];omega
end
theorem z0q (w:Str):(G.nd (.call w none) []).d=.tup [.str "call",.str w,.non,.tup []]:=by rw [G.d,G.ds];rfl
theorem YJ {cl:Nat->List D->Hh->Res D}{ρ:En}{h:Hh}{i n k:Nat}{ws:List Str}{p p1 p2:Pos}(ei:ρ[i]?=some (some (.loc n)))(g:h[n]?=some (.lst (ws.map D.str)))(hk:k<ws.length):E.ev cl (.sub (.var i p) (.int (k:Nat) p1) p2) ρ h=.ok (.str (nth ws k)) h :=
 bnd (x:=.loc n) (by rw [qB,ei]) (bnd rfl (jj g (WG hk)))
theorem z4p {cl:Nat->List D->Hh->Res D}{ρ:En}{h:Hh}{i n:Nat}{m:Int}{xs:List D}{e:E}{p p1 p2:Pos}(ei:ρ[i]?=some (some (.loc n)))(g:h[n]?=some (.lst xs))(he:e.ev cl ρ h=.ok (.int m) h)(hm:0<=m):E.ev cl (.cut (.var i p) .none (.some e) p1 p2) ρ h=.ok (.loc h.length) (h++[.lst (xs.take m.toNat)]):=by
 refine bnd (x:=.loc n) (by rw [qB,ei]) (bnd rfl (bnd (O3 he) ?_));show jS (.loc n) none (some m) h=_;unfold jS;dsimp only;rw [zv g];show new (.lst (jc xs none (some m))) h=_;unfold jc;rw [jQ,jU _ _ _ hm,List.drop_zero,Nat.sub_zero]
 have:List.take (min m.toNat xs.length) xs=xs.take m.toNat:=by rw [List.take_eq_take_iff];omega
 rw [this];rfl
theorem ZR (cl:Nat->List D->Hh->Res D)(C28:yx cl)(C12:jO cl)(d:D)(ns:List Int)(hb:∀ n∈ns,zG n=true)(c1:D)(h0:Hh)(L:Nat)(hL:h0.length<=L)(s0:Sc d ns h0):∀ (m k:Nat) (is:List Itm) (x3 x4 x5 x6:Option D) (h:Hh),k+m<=40->is.length=k->(∀ i∈is,ItG i)->Ex h0 h->h[L]?=some (.lst (is.map Itm.d)) ->
  ∃ (is':List Itm) (y3 y4 y5 y6:Option D) (h':Hh),zZ [] (jd qo λ ρ' h'=>b_law_large_1.run cl ρ' h') ((List.range' k m).map λ j:Nat=>D.int j) [some d,some c1,some (.loc L),x3,x4,x5,x6] h=.nx [some d,some c1,some (.loc L),y3,y4,y5,y6] h'/\(∀ i∈is',ItG i)/\is'.length=k+m/\Ex h0 h'/\h'[L]?=some (.lst (is'.map Itm.d))
 | 0,k,is,x3,x4,x5,x6,h,_,hk,hi,E,g=>⟨is,x3,x4,x5,x6,h,by rw [List.range'_zero,Y0k,zZ,if_pos zn],hi,by omega,E,g⟩
 | m+1,k,is,x3,x4,x5,x6,h,hm,hk,hi,E,g=>by
  obtain ⟨v,c28,v0,v1⟩:=C28 d ns h (2+(k:Int)) (s0.mono E) (by omega) hb;obtain ⟨ws,h1,e1,E1,w1,l1⟩:=z0p C12 v v0 h;have g1:(h1++[O.lst (ws.map D.str)])[h1.length]?=some (.lst (ws.map D.str)):=by rw [hx0];rfl
  have gL:(h1++[O.lst (ws.map D.str)])[L]?=some (.lst (is.map Itm.d)):=z9 (E1.2 _ _ g);have E2:Ex h0 (h1++[O.lst (ws.map D.str)]):=(E.trans E1).trans (Ex.gr _ _);have lL:L<h1.length:=(Y04.mp (E1.2 _ _ g)).1;obtain ⟨H,eH⟩:∃ H:Hh,H=((h1++[O.lst (ws.map D.str)])++[O.lst ((ws.map D.str).take (v%9).toNat)]).set L (.lst (is.map Itm.d++[(lgF ws v).d])):=⟨_,rfl⟩;have E3:Ex h0 H:=by rw [eH];exact (E2.trans (Ex.gr _ _)).set hL
  have gH:H[L]?=some (.lst ((is++[lgF ws v]).map Itm.d)):=by
   rw [eH,Y10 (by simp only [Y03];omega),Y0j];rfl
  have gW:H[h1.length]?=some (.lst (ws.map D.str)):=by rw [eH,Y0o (by omega)];exact z9 g1
  have run1:∀ {o:RS},Ss.run cl (zA 3 b_law_large_1) [some d,some c1,some (.loc L),some (.int (k:Nat)),some (.int v),some (.loc h1.length),x6] H=o->Ss.run cl b_law_large_1 [some d,some c1,some (.loc L),some (.int (k:Nat)),x4,x5,x6] h=o:=by
   intro o q;refine ze (zP rfl (bnd rfl (bnd rfl rfl)) (c28 h (s0.mono E))) (ze (j4 (jV (j:=11) rfl (by decide)) (Y0e rfl) e1) (Qi (Qq (i:=2) (d:=(lgF ws v).d) rfl gL ?_ (z9 gL) (by rw [Y0c];omega)) (by rw [<- eH];exact q)));have eF:(lgF ws v).d=.tup [.str "def",.str (nth ws 8),.tup ((ws.map D.str).take (v%9).toNat),.non,.tup [.str "call",.str (nth ws 9),.non,.tup []]]:=by
    unfold lgF Itm.d;dsimp only;rw [z0q,List.map_take];rfl
   rw [eF];exact zU (zi rfl (zi (YJ (k:=8) rfl g1 (by omega)) (zi (wf (z4p rfl g1 (bnd rfl (bnd rfl mdk)) (by omega)) (show rd _ _=_ by rw [qC];rfl)) (zi rfl (zi (zU (zi rfl (zi (YJ (k:=9) rfl (z9 g1) (by omega)) rfl)) (Y0e rfl)) rfl))))) (Y0e rfl)
  have step:∃ (i:Itm) (y6:Option D) (h2:Hh),Ss.run cl (zA 3 b_law_large_1) [some d,some c1,some (.loc L),some (.int (k:Nat)),some (.int v),some (.loc h1.length),x6] H=.nx [some d,some c1,some (.loc L),some (.int (k:Nat)),some (.int v),some (.loc h1.length),y6] h2/\ItG i/\Ex h0 h2/\h2[L]?=some (.lst ((is++[i]).map Itm.d)):=by
   by_cases q:v%2=1
   ·obtain ⟨mm,hmm⟩:∃ mm:Nat,(mm:Int)=v/2%9:=⟨(v/2%9).toNat,by omega⟩;have mt:(v/2%9).toNat=mm:=by omega
    have key:=wT (α:=Nat) (c:=[]) (f:=zz qm [none,some (.loc h1.length),some (.int v)] (λ ρ' h2=>c_law_large_2.evC cl ρ' h2) (λ ρ' h2=>e_law_large_2.ev cl ρ' h2)) (λ j:Nat=>D.int j) (λ j=>hdD (lgQ ws v j).1 (lgQ ws v j).2) (λ h=>h=H) (λ a b=>a=b) (λ _=>rfl) (λ _ _ _ x y=>x.trans y) (λ _ _=>zn) (List.range mm) [] H rfl (by
     intro j hj h hh;subst hh;have hj':=Y1w.mp hj;refine ⟨h,?_,rfl,rfl⟩;have e:hdD (lgQ ws v j).1 (lgQ ws v j).2=.tup [.str (nth ws j),.str (nth ws ((j+10)%11)),.str (nth ws 9),.tup [.str "num",.int (v+j)]]:=by
      unfold lgQ hdD;dsimp only;rw [ZJ];rfl
     rw [e];refine jv rfl rfl (zU (zi (bnd rfl (bnd rfl (jj gW (WG (by omega))))) (zi (bnd rfl (bnd (bnd rfl (bnd rfl rfl)) ?_)) (zi (YJ (k:=9) rfl gW (by omega)) rfl))) (Y0e rfl));by_cases z:j=0
     ·subst z;show zY (.loc h1.length) (.int (-1)) h=_;unfold zY;dsimp only;rw [gW];dsimp only
      have:atI (ws.map D.str) (-1)=some (.str (nth ws 10)):=by
       unfold atI ixN;rw [if_neg (by decide),if_pos (by rw [Y0c,l1];decide)];show (ws.map D.str)[((-1:Int)+((ws.map D.str).length:Nat)).toNat]?=_;rw [Y0c,l1];exact WG (by omega)
      rw [this]
     ·have e2:(j:Int)-1=((j-1:Nat):Int):=by omega
      show zY (.loc h1.length) (.int ((j:Int)-1)) h=_;rw [e2,show (j+10)%11=j-1 by omega];exact jj gW (WG (by omega)))
    obtain ⟨h3,e3,rfl,_⟩:=key;rw [Y0n] at e3;have gQ:(h3++[O.lst ((List.range mm).map λ j=>hdD (lgQ ws v j).1 (lgQ ws v j).2)])[h3.length]?=some (.lst ((List.range mm).map λ j=>hdD (lgQ ws v j).1 (lgQ ws v j).2)):=by rw [hx0];rfl
    have gW2:=z9 (l:=[O.lst ((List.range mm).map λ j=>hdD (lgQ ws v j).1 (lgQ ws v j).2)]) gW;have gH2:=z9 (l:=[O.lst ((List.range mm).map λ j=>hdD (lgQ ws v j).1 (lgQ ws v j).2)]) gH;have eH2:(lgH ws v).d=.tup [.str "handler",.str (nth ws 10),.tup ((List.range mm).map λ j=>hdD (lgQ ws v j).1 (lgQ ws v j).2),.tup [.str (nth ws 0),.str (nth ws 1),.tup [.str "var",.str (nth ws 8)]]]:=by
     unfold lgH Itm.d;dsimp only;rw [mt,Y15];show D.tup [_,_,_,hdD _ _]=_;unfold hdD;rw [Oc];rfl
    refine ⟨lgH ws v,some (.loc h3.length),(h3++[O.lst ((List.range mm).map λ j=>hdD (lgQ ws v j).1 (lgQ ws v j).2)]).set L (.lst ((is++[lgH ws v]).map Itm.d)),wQ (wu (bnd rfl (bnd rfl mdk)) (j1 q)) (ze (j4 (jV (j:=(mm:Nat)) (bnd (qp rfl (by decide)) (bnd rfl ((mdk (by decide)).trans (by rw [hmm])))) (by omega)) (by simp;omega) (by rw [show ((mm:Nat):Int).toNat=mm from by omega];exact e3)) (z66 (z:=(lgH ws v).d) (by rw [eH2];exact zU (zi rfl (zi (YJ (k:=10) rfl gW2 (by omega)) (zi (wf rfl (zv gQ)) (zi (zU (zi (YJ (k:=0) rfl gW2 (by omega)) (zi (YJ (k:=1) rfl gW2 (by omega)) (zi (zU (zi rfl (zi (YJ (k:=8) rfl gW2 (by omega)) rfl)) (Y0e rfl)) rfl))) (Y0e rfl)) rfl)))) (Y0e rfl)) rfl rfl ?_ rfl)) rfl,z4o w1 l1 v0 v1,(E3.trans (Ex.gr _ _)).set hL,Y10 (by simp only [Y03];have:=(Y04.mp gH).1;omega)⟩;show Q5 (.loc L) (.int (k:Nat)) _ _=_;unfold Q5;dsimp only;rw [gH2];dsimp only;have hx:ixN ((is++[lgF ws v]).map Itm.d).length ((k:Nat):Int)=some k:=by
     unfold ixN;rw [if_pos (by omega),if_pos (by simp;omega)];rfl
    rw [hx];have es:((is++[lgF ws v]).map Itm.d).set k (lgH ws v).d=(is++[lgH ws v]).map Itm.d:=by
     rw [Y0j,Y0j,List.set_append_right _ _ (by rw [Y0c];omega),Y0c,hk,Y23];rfl
    show some (List.set _ L (O.lst (((is++[lgF ws v]).map Itm.d).set k (lgH ws v).d)))=_;rw [es]
   ·exact ⟨lgF ws v,x6,H,zf (wu (bnd rfl (bnd rfl mdk)) (zV q)) rfl,z4m w1 l1,E3,gH⟩
  obtain ⟨i,y6,h2,e2,gi,E4,g4⟩:=step;obtain ⟨is',y3,y4,y5,y6',h',e5,hi',hl',E5,g5⟩:=ZR cl C28 C12 d ns hb c1 h0 L hL s0 m (k+1) (is++[i]) (some (.int (k:Nat))) (some (.int v)) (some (.loc h1.length)) y6 h2 (by omega) (by simp;omega) (λ z hz=>by
   rcases Y0f.mp hz with q | q
   ·exact hi z q
   ·rw [Y0a.mp q];exact gi) E4 g4
  refine ⟨is',y3,y4,y5,y6',h',?_,hi',by omega,E5,g5⟩;rw [Y3l,Y05];exact ZD zn (run1 e2) e5
theorem z0r (cl:Nat->List D->Hh->Res D)(C28:yx cl)(C12:jO cl)(d:D)(ns:List Int)(h:Hh)(s:Sc d ns h)(hb:∀ n∈ns,zG n=true) :
  ∃ (is:List Itm) (h':Hh),d_law_large.run cl [d] h=.ok (.tup (is.map Itm.d)) h'/\(∀ i∈is,ItG i)/\is.length<=40/\Ex h h':=by
 obtain ⟨c,c28,c0,c1⟩:=C28 d ns h 1 s (by decide) hb;obtain ⟨m,hm⟩:∃ m:Nat,(m:Int)=1+c%40:=⟨(1+c%40).toNat,by omega⟩;obtain ⟨is,y3,y4,y5,y6,h',e,hi,hl,E,g⟩:=ZR cl C28 C12 d ns hb (.int c) h h.length (Y09 _) s m 0 [] none none none none (h++[.lst []]) (by omega) rfl (by simp) (Ex.gr _ _) (by rw [hx0];rfl);rw [<- Y35] at e;refine ⟨is,h',zh (ze (zP rfl rfl (c28 h s)) (ze rfl (qE (jV (j:=(m:Nat)) (bnd rfl (bnd (bnd rfl (bnd rfl mdk)) (by show Res.ok (D.int (1+c%40)) _=_;rw [hm]))) (by omega)) (by rw [show ((m:Nat):Int).toNat=m from by omega];exact e) (zg (wf (x:=.loc h.length) rfl (zv g)))))),hi,by omega,E⟩
theorem UE {cl:Nat->List D->Hh->Res D}(C29:YI cl)(C34:QC cl){ck:Ck}{h0:Hh}(st:∀ h,Ex h0 h->stay ck h):∀ (xs:List Int) (acc:List D) (h:Hh),Ex h0 h ->
  ∃ (is:List Itm) (h':Hh),zr ck (zz wS [none] (λ ρ' h2=>c_law_any_1.evC cl ρ' h2) (λ ρ' h2=>e_law_any_1.ev cl ρ' h2)) (xs.map D.int) acc h=.ok (acc++is.map Itm.d) h'/\Ex h0 h'/\(∀ i∈is,ItG i)/\is.length=xs.length
 | [],acc,h,E=>⟨[],h,by rw [Y0k,zr,if_pos (st h E)];simp,E,by simp,rfl⟩
 | x::r,acc,h,E=>by
  obtain ⟨nf,h1,c29,F1,E1,l1⟩:=C29 x h;obtain ⟨i,h2,n2,c34,F2,M2,gi,_⟩:=C34 nf 20 60 h1 (by decide) (by decide) F1;have E2:Ex h0 h2:=(E.trans E1).mv M2 (by have:=E.1;omega);obtain ⟨is,h3,e,E3,gg,gl⟩:=UE C29 C34 st r (acc++[i.d]) h2 E2;refine ⟨i::is,h3,?_,E3,λ z hz=>?_,by rw [Y01,Y01,gl]⟩
  ·have c:zz wS [none] (λ ρ' h2=>c_law_any_1.evC cl ρ' h2) (λ ρ' h2=>e_law_any_1.ev cl ρ' h2) (.int x) h=.ok (some i.d) h2:=jv rfl rfl (zP (zb rfl c29) rfl c34);rw [Y05,zr,if_pos (st h E),c,bind_ok,addO_some,e];simp
  ·rcases Y0b.mp hz with rfl | hz
   ·exact gi
   ·exact gg z hz
noncomputable def qK (cl:Nat->List D->Hh->Res D)(i b:Nat):Prop:=∀ (d:D) (ns:List Int) (h:Hh),Sc d ns h->(∀ n∈ns,zG n=true)->∃ (is:List Itm) (h':Hh),cl i [d] h=.ok (.tup (is.map Itm.d)) h'/\(∀ i∈is,ItG i)/\is.length<=b/\Ex h h'
theorem z6o (cl:Nat->List D->Hh->Res D)(C28:yx cl)(C29:YI cl)(C34:QC cl)(C36:qK cl 36 4)(C38:qK cl 38 40)(d:D)(ns:List Int)(h:Hh)(s:Sc d ns h)(hb:∀ n∈ns,zG n=true) :
  ∃ (is:List Itm) (h':Hh),d_law_any.run cl [d] h=.ok (.tup (is.map Itm.d)) h'/\(∀ i∈is,ItG i)/\is.length<=40/\Ex h h':=by
 have zL:(∀ {o:RS},Ss.run cl (zA 1 d_law_any.body) [some d] h=o->Ss.run cl d_law_any.body [some d] h=o)->∃ (is:List Itm) (h':Hh),d_law_any.run cl [d] h=.ok (.tup (is.map Itm.d)) h'/\(∀ i∈is,ItG i)/\is.length<=40/\Ex h h':=by
  intro k;obtain ⟨c,c28,c0,c1⟩:=C28 d ns h 0 s (by decide) hb;by_cases q:c/64%5=1
  ·obtain ⟨is,h',e,a1,a2,a3⟩:=C38 d ns h s hb;exact ⟨is,h',zh (k (zM (wu (bnd (bnd (zP rfl rfl (c28 h s)) (bnd rfl fdk)) (bnd rfl mdk)) (j1 q)) (zg (zb rfl e)))),a1,a2,a3⟩
  ·obtain ⟨is,h',e,a1,a2,a3⟩:=C36 d ns h s hb;exact ⟨is,h',zh (k (zf (wu (bnd (bnd (zP rfl rfl (c28 h s)) (bnd rfl fdk)) (bnd rfl mdk)) (zV q)) (zg (zb rfl e)))),a1,by omega,a3⟩
 by_cases hl:0<(ns.length:Int)
 ·have su:=s.sub (i:=0) (by decide) hl;have g0:E.evT cl (YH (jW d_law_any.body)) [some d] h=.ok (yG ns 0%2==1) h:=O0 (zk (bnd rfl s.len) rfl (by rw [cmp_gt];congr 2;exact decide_eq_true hl)) (wu (bnd (bnd rfl (bnd rfl su)) (bnd rfl mdk)) rfl);by_cases q:yG ns 0%2=1
  ·obtain ⟨xs,hxs,hxm,hxl⟩:=ZP ns 1 11 (by decide) (by decide);have g1:(h++[O.lst (xs.map D.int)])[h.length]?=some (.lst (xs.map D.int)):=by rw [hx0];rfl
   obtain ⟨is,h',e,E,gi,gl⟩:=UE C29 C34 (ck:=[(h.length,xs.map D.int)]) (h0:=h++[.lst (xs.map D.int)]) (λ h2 E=>stay_one.mpr (zv (E.2 _ _ g1))) xs [] (h++[.lst (xs.map D.int)]) (Ex.refl _);rw [Y0n] at e;have h11:xs.length<=11:=by have:(11:Int).toNat=11:=rfl;omega
   refine ⟨is,h',zh (zM (g0.trans (by rw [j1 q])) (zg (Yw (Yx (q:=([(h.length,xs.map D.int)],xs.map D.int)) (wj (bnd rfl (bnd rfl (bnd rfl ((s.cut _ _).trans (by rw [hxs]))))) (zv g1)) (by rw [Y0c];omega) e)))),gi,by omega,(Ex.gr _ _).trans E⟩
  ·exact zL λ k=>zf (g0.trans (by rw [zV q])) k
 ·exact zL λ k=>zf (Yt (zk (bnd rfl s.len) rfl (by rw [cmp_gt];congr 2;exact decide_eq_false hl))) k
theorem Nm.len {x:Str}(h:Nm x):(cs x).length<=20:=h.wd.len
theorem Nm.ok {x:Str}(h:Nm x):PyData.strOk x=true:=h.wd.ok
theorem Sg.len {s:Str}(h:Sg s):(cs s).length<=20:=by rcases h with rfl | rfl | rfl | rfl<;>decide
inductive El where
 | w (x:Str) | t (g:G)
noncomputable def El.d:El->D
 | .w x=>.str x
 | .t g=>g.d
noncomputable def El.tx:El->List Nat
 | .w x=>cs x
 | .t g=>K14.tx g
noncomputable def El.m:El->Nat
 | .w _=>1
 | .t g=>ms g
noncomputable def El.wd:El->Prop
 | .w x=>(cs x).length<=20
 | .t g=>wdG g
noncomputable def msE (W:List El):Nat:=(W.map El.m).sum
noncomputable def txE (W:List El):List Nat:=(W.map El.tx).flatten
noncomputable def zH:List El->List El
 | []=>[]
 | [x]=>[x]
 | x::y::r=>x::.w " "::zH (y::r)
noncomputable def ji (k:Kd)(ps:List G):List El:=(Kd.heads k).map El.w++ps.map El.t
noncomputable def spr (k:Kd)(ps:List G):List El:=.w "("::(zH (ji k ps)++[.w ")"])
theorem UF:cs " "=[32]:=by decide
theorem UG:cs "("=[40]:=by decide
theorem UH:cs ")"=[41]:=by decide
theorem QD:∀ W:List El,txE (zH W)=zC [32] (W.map El.tx)
 | []=>rfl
 | [x]=>by simp [zH,txE,zC]
 | x::y::r=>by
  have ih:=QD (y::r);simp only [zH,txE,Y05,Y1h,zC] at ih ⊢;rw [ih];simp [El.tx,UF]
theorem z4q (k:Kd)(ps:List G)(h:Kd.leaf k=none):txE (spr k ps)=tx (.nd k ps):=by
 unfold spr;rw [tx,Kd.tx,h];simp only [txE,Y05,Y0j,Y1h,List.flatten_append,Y0k,List.flatten_nil,Y14];have e:=QD (ji k ps);unfold txE at e;rw [e];unfold ji brk;rw [Y0j,Y15,Y15,Wz];show cs "("++(_++cs ")")=_;rw [UG,UH];rfl
theorem QE:∀ W:List El,msE (zH W)<=msE W+W.length
 | []=>by simp [zH,msE]
 | [x]=>by simp [zH,msE]
 | x::y::r=>by
  have ih:=QE (y::r);simp only [zH,msE,Y05,Y0v,Y01,El.m] at ih ⊢;omega
theorem UI:∀ ps:List G,mss ps=((ps.map El.t).map El.m).sum+2*ps.length
 | []=>by simp [mss]
 | g::r=>by
  have:=UI r
  simp only [mss,Y05,Y0v,Y01,El.m] at this ⊢;omega
theorem z4r (k:Kd)(ps:List G):msE (spr k ps)<ms (.nd k ps):=by
 have h1:=QE (ji k ps);have h2:=UI ps;have h3:msE (ji k ps)=(Kd.heads k).length+((ps.map El.t).map El.m).sum:=by
  unfold ji msE;rw [Y0j,Y1o]
  congr 1
  induction Kd.heads k with
  | nil=>rfl
  | cons x r ih=>simp only [Y05,Y0v,Y01,El.m] at ih ⊢;omega
 have h4:(Kd.heads k).length<=3:=by
  cases k with
  | call f g=>cases g<;>simp [Kd.heads]
  | _=>simp [Kd.heads]
 have h5:(ji k ps).length=(Kd.heads k).length+ps.length:=by simp [ji]
 have h6:msE (spr k ps)=1+(msE (zH (ji k ps))+1):=by
  unfold spr msE;simp [El.m]
 rw [ms];omega
theorem OD (g:G):0<ms g:=by cases g;rw [ms];omega
noncomputable def yd:List D->List D
 | []=>[]
 | x::r=>x::.str " "::yd r
theorem yJ (cl:Nat->List D->Hh->Res D)(t:D)(h:Hh):∀ (xs acc:List D) (x:Option D),acc.length+2*xs.length<=100000 ->
  ∃ x',zZ [] (jd wm λ ρ' h'=>b_spread_1.run cl ρ' h') xs [some t,some (.loc h.length),x] (h++[.lst acc])=.nx [some t,some (.loc h.length),x'] (h++[.lst (acc++yd xs)])
 | [],acc,x,_=>⟨x,by simp [zZ,zn,yd]⟩
 | d::r,acc,x,hl=>by
  simp only [Y01] at hl;obtain ⟨x',ih⟩:=yJ cl t h r (acc++[d,.str " "]) (some d) (by simp;omega);refine ⟨x',?_⟩;have l1:acc.length<1000000:=by omega
  have l2:acc.length+1<1000000:=by omega
  have l3:acc.length<999999:=by omega
  rw [zZ,if_pos zn];have st:jd wm (λ ρ' h'=>b_spread_1.run cl ρ' h') d [some t,some (.loc h.length),x] (h++[.lst acc])=.nx [some t,some (.loc h.length),some d] (h++[.lst (acc++[d,.str " "])]):=by
   simp [jd,wm,wM,b_spread_1,Ss.run,S.run,E.ev,onL,m1D,hx0,qS,l1,l2,l3]
  rw [st];simp only [];rw [ih];simp [yd]
theorem QF (xs:List D):jc xs none (some (-1))=xs.dropLast:=by
 unfold jc;rw [jQ,List.drop_zero,Nat.sub_zero];have e:HT.sIx xs.length xs.length (some (-1))=xs.length-1:=by
  have:HT.sIx xs.length xs.length (some (-1))=((-1:Int)+(xs.length:Int)).toNat:=rfl
  rw [this];omega
 rw [e,List.dropLast_eq_take]
theorem JY:∀ W:List El,W≠[]->(yd (W.map El.d)).dropLast=(zH W).map El.d
 | [],h=>absurd rfl h
 | [x],_=>rfl
 | x::y::r,_=>by
  have ih:=JY (y::r) (by simp);have e:yd ((x::y::r).map El.d)=x.d::.str " "::yd ((y::r).map El.d):=rfl;rw [e];have ne:yd ((y::r).map El.d)≠[]:=by simp [yd]
  rw [Y2f (by simp),Y2f ne,ih];rfl
theorem OE (cl:Nat->List D->Hh->Res D)(W:List El)(hW:W≠[])(h:Hh)(hl:W.length<=40000) :
  ∃ J,d_spread.run cl [.tup (W.map El.d)] h=.ok (.loc (h.length+3)) (h++J)/\J[3]?=some (.lst (((.w "(":El)::(zH W++[.w ")"])).map El.d)):=by
 obtain ⟨x',lp⟩:=yJ cl (.tup (W.map El.d)) h (W.map El.d) [.str "("] none (by simp;omega);have e1:([D.str "("]++yd (W.map El.d)).dropLast=.str "("::(zH W).map El.d:=by
  have ne:yd (W.map El.d)≠[]:=by
   cases W with
   | nil=>exact absurd rfl hW
   | cons x r=>simp [yd]
  rw [Y2z,Y2f ne,JY W hW]
 have e2:=QF ([D.str "("]++yd (W.map El.d));rw [e1] at e2;generalize [D.str "("]++yd (W.map El.d)=R at *
 have il:∀ W:List El,(zH W).length<=2*W.length:=by
  intro W
  induction W with
  | nil=>simp [zH]
  | cons x r ih =>
   cases r with
   | nil=>simp [zH]
   | cons y r=>simp only [zH,Y01] at ih ⊢;omega
 have l1:=il W;have l2:(zH W).length+1+1<=1000000:=by omega
 have l3:(zH W).length<=999998:=by omega
 refine ⟨[.lst R,.lst (.str "("::(zH W).map El.d),.lst [.str ")"],.lst (.str "("::((zH W).map El.d++[.str ")"]))],?_,by simp [El.d]⟩;have u1:unD .USub (.int 1)=λ h=>.ok (.int (-1)) h:=by funext h;rfl
 simp [d_spread,Df.run,Ss.run,S.run,E.ev,Es.ev,Eo.ev,L.ev,I.ev,new,lp,GA,jS,qC,rd,hx0,hx,e2,l2,l3,qy]
theorem z0s (cl:Nat->List D->Hh->Res D)(f:Str)(g:Option Str)(ps:List G)(h:Hh)(hl:ps.length<=10000):d_call_things.run cl [(G.nd (.call f g) ps).d] h=.ok (.tup ((ji (.call f g) ps).map El.d)) h:=by
 have e:(G.nd (.call f g) ps).d=.tup [.str "call",.str f,yQ g,.tup (G.ds ps)]:=by rw [G.d];rfl
 rw [e];have a1:∀ x y z w:D,atI [x,y,z,w] 1=some y:=λ _ _ _ _=>rfl;have a2:∀ x y z w:D,atI [x,y,z,w] 2=some z:=λ _ _ _ _=>rfl;have a3:∀ x y z w:D,atI [x,y,z,w] 3=some w:=λ _ _ _ _=>rfl;have d1:G.ds ps=(ps.map El.t).map El.d:=by rw [ZE,Y15];rfl
 have l1:ps.length+2<=1000000:=by omega
 have l2:2+ps.length<=1000000:=by omega
 have l3:3+ps.length<=1000000:=by omega
 have l4:=Yu ps;cases g with
 | none =>
  simp [d_call_things,Df.run,Ss.run,S.run,E.ev,E.evT,Es.ev,yQ,a1,a2,a3,l2,l4,qy,ji,Kd.heads,El.d,d1]
 | some g =>
  simp [d_call_things,Df.run,Ss.run,S.run,E.ev,E.evT,Es.ev,yQ,a1,a2,a3,l3,l4,qy,ji,Kd.heads,El.d,d1]
theorem OF (cl:Nat->List D->Hh->Res D)(C:∀ f g (ps:List G) h,ps.length<=10000->cl 27 [(G.nd (.call f g) ps).d] h=.ok (.tup ((ji (.call f g) ps).map El.d)) h)(k:Kd)(ps:List G)(h:Hh)(hk:Kd.leaf k=none)(hl:ps.length<=10000) :
  d_things_of.run cl [(G.nd k ps).d] h=.ok (.tup ((ji k ps).map El.d)) h:=by
 have e0:=λ h=>z1r k (G.ds ps) h;rw [<- G.d] at e0;have e1:=λ h=>eqS (h:=h) (O5 k) z69;have e2:=λ h=>eqS (h:=h) (O5 k) yW;rw [z3s] at e1;rw [O6] at e2;have d1:G.ds ps=(ps.map El.t).map El.d:=by rw [ZE,Y15];rfl
 cases k with
 | op s =>
  have cc:=z68 (.str "op") (.str s::G.ds ps) h;have ed:(G.nd (.op s) ps).d=.tup (.str "op"::.str s::G.ds ps):=by rw [G.d];rfl
  rw [<- ed] at cc;simp only [Kd.isOp] at e1;simp [-cmp_eq,d_things_of,Df.run,Ss.run,S.run,E.ev,E.evT,Es.ev,Eo.ev,GA,e0,e1,cc,qy];simp [ji,Kd.heads,El.d,d1]
 | call f g =>
  have c9:=C f g ps h hl;simp only [Kd.isOp,Kd.isCall] at e1 e2;simp [-cmp_eq,d_things_of,Df.run,Ss.run,S.run,E.ev,E.evT,Es.ev,e0,e1,e2,c9,qy]
 | num n=>cases hk
 | var x=>cases hk
 | _ =>
  simp only [Kd.isOp,Kd.isCall] at e1 e2;simp [-cmp_eq,d_things_of,Df.run,Ss.run,S.run,E.ev,E.evT,Es.ev,e0,e1,e2,qy];simp [G.d,Kd.enc,ji,Kd.heads,El.d,d1]
noncomputable def Kd.isLeaf (k:Kd):Bool:=(Kd.leaf k).isSome
theorem z0t (k:Kd)(h:Hh):inD false (.str k.tag) (.tup [.str "num",.str "var"]) h=.ok (.bl (Kd.isLeaf k)) h:=by
 show yP false (.str k.tag) [.str "num",.str "var"] h=_;rw [show ([D.str "num",.str "var"]:List D)=(["num","var"]:List Str).map D.str from rfl,Ui];cases k<;>rfl
theorem wy (a b:List El):msE (a++b)=msE a+msE b:=by simp [msE]
theorem ZS (a b:List El):txE (a++b)=txE a++txE b:=by simp [txE]
theorem QG:∀ W:List El,W.length<=msE W
 | []=>by simp [msE]
 | x::r=>by
  have:=QG r
  have:0<x.m:=by cases x with | w _=>simp [El.m] | t g=>exact OD g
  simp only [msE,Y05,Y0v,Y01] at *
  omega
noncomputable def ty (P:List Str):List Nat:=(P.map cs).flatten
theorem JZ (k:Kd)(n:Nat)(h:Kd.wd k n)(x:Str)(hx:x∈Kd.heads k):(cs x).length<=20:=by
 have lit:∀ y∈(["let","if","call","hand","do","handle","go","guard"]:List Str),(cs y).length<=20:=by decide
 cases k with
 | call f g =>
  cases g with
  | none =>
   simp only [Kd.heads,Y0b,Y0p,or_false] at hx;rcases hx with rfl | rfl
   ·exact lit _ (by simp)
   ·exact h.1.len
  | some g =>
   simp only [Kd.heads,Y0b,Y0p,or_false] at hx;rcases hx with rfl | rfl | rfl
   ·exact lit _ (by simp)
   ·exact h.1.len
   ·exact (h.2 _ rfl).len
 | num m=>cases hx
 | var y=>cases hx
 | op s=>rw [Y0a.mp hx];exact Sg.len h
 | ite=>rw [Y0a.mp hx];exact lit _ (by simp)
 | go=>rw [Y0a.mp hx];exact lit _ (by simp)
 | guard=>rw [Y0a.mp hx];exact lit _ (by simp)
 | _ =>
  simp only [Kd.heads,Y0b,Y0p,or_false] at hx;rcases hx with rfl | rfl
  ·exact lit _ (by simp)
  ·exact Nm.len h
theorem z0u (cl:Nat->List D->Hh->Res D) (C7:∀ (W:List El) h,W≠[]->W.length<=40000->∃ J,cl 25 [.tup (W.map El.d)] h=.ok (.loc (h.length+3)) (h++J)/\J[3]?=some (.lst (((.w "(":El)::(zH W++[.w ")"])).map El.d)))
  (C8:∀ (k:Kd) (ps:List G) h,Kd.leaf k=none->ps.length<=10000->cl 26 [(G.nd k ps).d] h=.ok (.tup ((ji k ps).map El.d)) h) (t:D) (h:Hh):∀ (n:Nat) (W:List El) (P:List Str) (J:Hh) (one:Option D),msE W<=n->(∀ e∈W,e.wd)->P.length+msE W<=10000 ->
  ∃ one' P' J',whR (λ ρ h=>w_expression_text_1.evT cl ρ h) (λ ρ h=>b_expression_text_1.run cl ρ h) [some t,some (.loc h.length),some (.loc (h.length+1)),one] (h++.lst (P.map D.str)::.lst (W.map El.d)::J) =
   .nx [some t,some (.loc h.length),some (.loc (h.length+1)),one'] (h++.lst (P'.map D.str)::J')/\ty P'=ty P++txE W.reverse/\P'.length<=P.length+msE W:=by
 intro n
 induction n with
 | zero =>
  intro W P J one hn hw hl
  have:W=[]:=by
   have:=QG W
   cases W with
   | nil=>rfl
   | cons x r=>simp at this;omega
  subst this;refine ⟨one,P,.lst []::J,?_,by simp [txE],by simp⟩;rw [Q7 (h1:=h++.lst (P.map D.str)::.lst []::J)];simp [w_expression_text_1,E.evT,E.ev,qg,rdx,rd,hx]
 | succ n ih =>
  intro W P J one hn hw hl;rcases List.eq_nil_or_concat W with rfl | ⟨W',q,rfl⟩
  ·refine ⟨one,P,.lst []::J,?_,by simp [txE],by simp⟩;rw [Q7 (h1:=h++.lst (P.map D.str)::.lst []::J)];simp [w_expression_text_1,E.evT,E.ev,qg,rdx,rd,hx]
  ·rw [List.concat_eq_append] at *
   have es:msE (W'++[q])=msE W'+q.m:=by rw [wy];simp [msE]
   have hw':∀ e∈W',e.wd:=λ e he=>hw e (Y0f.mpr (.inl he));have hq:q.wd:=hw q (by simp);have ec:w_expression_text_1.evT cl [some t,some (.loc h.length),some (.loc (h.length+1)),one] (h++.lst (P.map D.str)::.lst ((W'++[q]).map El.d)::J)=.ok true (h++.lst (P.map D.str)::.lst ((W'++[q]).map El.d)::J):=by
    simp [w_expression_text_1,E.evT,E.ev,qg,rdx,rd,hx]
   have f1:P.length<1000000:=by omega
   have lw:=QG W';have word:∀ x:Str,q.tx=cs x->0<q.m->b_expression_text_1.run cl [some t,some (.loc h.length),some (.loc (h.length+1)),one] (h++.lst (P.map D.str)::.lst ((W'++[q]).map El.d)::J)=.nx [some t,some (.loc h.length),some (.loc (h.length+1)),some q.d] (h++.lst ((P++[x]).map D.str)::.lst (W'.map El.d)::J) ->
     ∃ one' P' J',whR (λ ρ h=>w_expression_text_1.evT cl ρ h) (λ ρ h=>b_expression_text_1.run cl ρ h) [some t,some (.loc h.length),some (.loc (h.length+1)),one] (h++.lst (P.map D.str)::.lst ((W'++[q]).map El.d)::J) =
      .nx [some t,some (.loc h.length),some (.loc (h.length+1)),one'] (h++.lst (P'.map D.str)::J')/\ty P'=ty P++txE (W'++[q]).reverse/\P'.length<=P.length+msE (W'++[q]):=by
    intro x hx hm eb;obtain ⟨o',P',J',e1,e2,e3⟩:=ih W' (P++[x]) J (some q.d) (by omega) hw' (by simp;omega);refine ⟨o',P',J',by rw [Q6 ec eb,e1],?_,by simp at e3;omega⟩;rw [e2];simp [ty,txE,hx]
   cases q with
   | w x =>
    refine word x rfl (by simp [El.m]) ?_;simp [b_expression_text_1,Ss.run,S.run,E.ev,E.evT,m0D,m1D,onL,hx,hx0,GX,qS,El.d,isI,f1]
   | t g =>
    obtain ⟨k,ps⟩:=g;have i1:=λ h=>z6a k ps h;have e0:=λ h=>z1r k (G.ds ps) h;rw [<- G.d] at e0;have il:=λ h=>z0t k h;have wg:wdG (.nd k ps):=hq;rw [wdG] at wg;cases lk:Kd.leaf k with
    | some x =>
     have li:Kd.isLeaf k=true:=by simp [Kd.isLeaf,lk]
     rw [li] at il;have s1:∀ h,(zY (G.nd k ps).d (.int 1) h).bind (λ x h1=>c1D .str x h1)=.ok (.str x) h:=by
      intro h;cases k with
      | num m =>
       obtain ⟨_,hlog⟩:=GZ wg.1.1 wg.1.2.1
       have:zY (G.nd (.num m) ps).d (.int 1) h=.ok (.int m) h:=by rw [G.d];simp only [Kd.enc,sub_tup,wZ (show (0:Int)<=1 by decide)];rfl
       rw [this,bind_ok];simp only [c1D];rw [if_pos hlog];simp only [Kd.leaf,Option.some.injEq] at lk;rw [lk]
      | var y =>
       have:zY (G.nd (.var y) ps).d (.int 1) h=.ok (.str y) h:=by rw [G.d];simp only [Kd.enc,sub_tup,wZ (show (0:Int)<=1 by decide)];rfl
       rw [this,bind_ok];simp only [Kd.leaf,Option.some.injEq] at lk;rw [<- lk];rfl
      | _=>cases lk
     refine word x (by show tx (.nd k ps)=_;rw [tx,Kd.tx,lk]) (OD _) ?_;have ed:(El.t (.nd k ps)).d=(G.nd k ps).d:=rfl;simp only [Y0j,Y05,Y0k,ed];simp [b_expression_text_1,Ss.run,S.run,E.ev,E.evT,Es.ev,m0D,m1D,onL,hx,hx0,GX,qS,i1,e0,il,s1,f1]
    | none =>
     have li:Kd.isLeaf k=false:=by simp [Kd.isLeaf,lk]
     rw [li] at il;have m1:=z4r k ps;have m2:msE (spr k ps)<ms (.nd k ps):=m1;have eq:(El.t (.nd k ps)).m=ms (.nd k ps):=rfl;rw [eq] at es;have tl:(ji k ps).length<=10000:=by
      have a:=QG (spr k ps);have b:∀ W:List El,W.length<=(zH W).length:=by
       intro W
       induction W with
       | nil=>simp [zH]
       | cons x r ih =>
        cases r with
        | nil=>simp [zH]
        | cons y r=>simp only [zH,Y01] at ih ⊢;omega
      have c:=b (ji k ps);have d:(spr k ps).length=(zH (ji k ps)).length+2:=by simp [spr]
      omega
     have pl:ps.length<=10000:=by
      have:(ji k ps).length=(Kd.heads k).length+ps.length:=by simp [ji]
      omega
     have tn:ji k ps≠[]:=by
      cases k with
      | num m=>cases lk
      | var x=>cases lk
      | call f g=>cases g<;>simp [ji,Kd.heads]
      | _=>simp [ji,Kd.heads]
     have sl:(spr k ps).length<=10000:=by have:=QG (spr k ps);omega
     have ll:W'.length+(spr k ps).length<=1000000:=by omega
     have c8:=λ h=>C8 k ps h lk pl;obtain ⟨J1,c7,j3⟩:=C7 (ji k ps) (h++.lst (P.map D.str)::.lst (W'.map El.d)::J) tn (by omega);have r7:rd (h++(.lst (P.map D.str)::.lst (W'.map El.d)::(J++J1))) (h.length+(J.length+1+1)+3)=some ((spr k ps).map El.d):=by
      have:rd ((h++.lst (P.map D.str)::.lst (W'.map El.d)::J)++J1) ((h++.lst (P.map D.str)::.lst (W'.map El.d)::J).length+3)=some ((spr k ps).map El.d):=by rw [rdx];exact zv j3
      simpa using this
     simp only [Y07,Y0q,Y03,Y01] at c7;have mr:msE (spr k ps).reverse=msE (spr k ps):=by simp [msE,List.sum_reverse]
     have wsp:∀ e∈spr k ps,e.wd:=by
      have wt:∀ e∈ji k ps,e.wd:=by
       intro e he;rcases Y0f.mp he with z | z
       ·obtain ⟨x,hx,rfl⟩:=Y0z.mp z;exact JZ k ps.length wg.1 x hx
       ·obtain ⟨g,hg,rfl⟩:=Y0z.mp z;exact wdGs_mem.mp wg.2 g hg
      have wi:∀ W:List El,(∀ e∈W,e.wd)->∀ e∈zH W,e.wd:=by
       intro W
       induction W with
       | nil=>intro _ e he;cases he
       | cons x r ih2 =>
        intro hW e he;cases r with
        | nil=>exact hW e he
        | cons y r =>
         rcases Y0b.mp he with rfl | he
         ·exact hW _ (Y08 ..)
         ·rcases Y0b.mp he with rfl | he
          ·show (cs " ").length<=20;rw [UF];decide
          ·exact ih2 (λ e he=>hW e (Y06 _ he)) e he
      intro e he;rcases Y0b.mp he with rfl | he
      ·show (cs "(").length<=20;rw [UG];decide
      ·rcases Y0f.mp he with z | z
       ·exact wi _ wt e z
       ·rw [Y0a.mp z];show (cs ")").length<=20;rw [UH];decide
     obtain ⟨o',P',J',e1,e2,e3⟩:=ih (W'++(spr k ps).reverse) P (J++(J1++[.lst ((spr k ps).map El.d).reverse])) (some (G.nd k ps).d) (by rw [wy];omega) (λ e he=>by
      rcases Y0f.mp he with z | z
      ·exact hw' e z
      ·exact wsp e (Y3m.mp z)) (by rw [wy];omega)
     refine ⟨o',P',J',?_,?_,?_⟩
     ·rw [Q6 (ρ':=[some t,some (.loc h.length),some (.loc (h.length+1)),some (G.nd k ps).d]) (h':=h++.lst (P.map D.str)::.lst ((W'++(spr k ps).reverse).map El.d)::(J++(J1++[.lst ((spr k ps).map El.d).reverse]))) ec,e1];have ed:(El.t (.nd k ps)).d=(G.nd k ps).d:=rfl;simp only [Y0j,Y05,Y0k,ed];simp [b_expression_text_1,Ss.run,S.run,E.ev,E.evT,Es.ev,m0D,m1D,onL,hx,hx0,GX,qS,i1,e0,il,c8,c7,lrD,r7,new,ll]
     ·rw [e2,List.reverse_append,List.reverse_reverse,List.reverse_append,List.reverse_singleton,ZS,ZS,z4q k ps lk];simp [txE,El.tx]
     ·rw [wy] at e3;omega
theorem ZT (s:List Nat)(hs:s.length=1):∀ ts:List (List Nat),(zC s ts).length<=(ts.map List.length).sum+ts.length
 | []=>by simp [zC]
 | [x]=>by simp [zC]
 | x::y::r=>by
  have ih:=ZT s hs (y::r);simp only [zC,Y03,Y05,Y0v,Y01] at ih ⊢;omega
theorem qf (ts:List (List Nat)):(brk ts).length<=(ts.map List.length).sum+ts.length+2:=by
 have:=ZT [32] rfl ts
 unfold brk;simp only [Y01,Y03,Y0x];omega
theorem OG {k:Kd}{n:Nat}(h:Kd.wd k n){x:Str}(e:Kd.leaf k=some x):Wd x:=by
 cases k with
 | num m=>simp only [Kd.leaf,Option.some.injEq] at e;rw [<- e];exact (GZ h.1 h.2.1).1
 | var y=>simp only [Kd.leaf,Option.some.injEq] at e;rw [<- e];exact h.1.wd
 | _=>cases e
mutual
theorem yy:∀ g:G,wdG g->(tx g).length<=25*ms g
 | .nd k ps,h=>by
  rw [wdG] at h;rw [tx,ms];unfold Kd.tx;cases e:Kd.leaf k with
  | some x=>have:=(OG h.1 e).len;simp only;omega
  | none =>
   simp only;have h1:=qf ((Kd.heads k).map cs++txs ps);have h2:=txs_len ps h.2;have h3:(((Kd.heads k).map cs).map List.length).sum<=20*(Kd.heads k).length:=by
    have:=JZ k ps.length h.1
    revert this
    generalize Kd.heads k=hs;intro hh
    induction hs with
    | nil=>simp
    | cons x r ih =>
     have a:=hh x (Y08 ..);have b:=ih λ y hy=>hh y (Y06 _ hy);simp only [Y05,Y0v,Y01] at *
     omega
   have h4:(Kd.heads k).length<=3:=by
    cases k with
    | call f g=>cases g<;>simp [Kd.heads]
    | _=>simp [Kd.heads]
   have h5:(txs ps).length=ps.length:=by rw [Wz];simp
   have h6:ps.length<=mss ps:=by
    clear h1 h2 h5 h
    induction ps with
    | nil=>simp
    | cons x r ih=>simp only [mss,Y01];omega
   simp only [Y0j,Y1o,Y03,Y0c] at h1;simp only [Y15] at h1 h3;omega
theorem txs_len:∀ gs:List G,wdGs gs->((txs gs).map List.length).sum+2*gs.length<=25*mss gs
 | [],_=>by simp [txs,mss]
 | g::r,h=>by
  rw [wdGs] at h;have h1:=yy g h.1;have h2:=txs_len r h.2;simp only [txs,mss,Y05,Y0v,Y01];omega
end
theorem z4s (P:List Str):(P.map (·.length)).sum=(ty P).length:=by
 unfold ty
 induction P with
 | nil=>rfl
 | cons x r ih=>simp only [Y05,Y0v,Y1h,Y03];rw [ih,PI.cs_len]
theorem OH:cs ""=[]:=by decide
theorem z0v (cl:Nat->List D->Hh->Res D) (C7:∀ (W:List El) h,W≠[]->W.length<=40000->∃ J,cl 25 [.tup (W.map El.d)] h=.ok (.loc (h.length+3)) (h++J)/\J[3]?=some (.lst (((.w "(":El)::(zH W++[.w ")"])).map El.d)))
  (C8:∀ (k:Kd) (ps:List G) h,Kd.leaf k=none->ps.length<=10000->cl 26 [(G.nd k ps).d] h=.ok (.tup ((ji k ps).map El.d)) h) (g:G) (h:Hh) (hw:wdG g) (hm:ms g<=9000) :
  ∃ J,d_expression_text.run cl [g.d] h=.ok (.str (mkS (tx g))) (h++J):=by
 obtain ⟨o,P,J,e1,e2,e3⟩:=z0u cl C7 C8 g.d h (ms g) [.t g] [] [] none (by simp [msE,El.m]) (by intro e he;rw [Y0a.mp he];exact hw) (by simp [msE,El.m];omega);refine ⟨.lst (P.map D.str)::J,?_⟩;have e4:ty P=tx g:=by simpa [ty,txE,El.tx] using e2
 have tl:=yy g hw;have l1:(P.map (·.length)).sum<=16777216:=by rw [z4s,e4];omega
 have e5:Txt.join "" P=mkS (tx g):=qD (by rw [we,OH,Qh,zT,<- e4];rfl);have l2:(Str.ofString "").length=0:=by decide
 simp [El.d] at e1;simp [d_expression_text,Df.run,Ss.run,S.run,E.ev,L.ev,Es.ev,new,e1,qy,onS,Zt,qC,rd,wP,e5,l1,l2]
theorem UJ (ws:List Str):Str.ofString "("++Txt.join " " ws++Str.ofString ")"=mkS (brk (ws.map cs)):=qD (by
 rw [zD,zD,we,zT,UF,UG,UH];unfold brk;simp)
noncomputable def jt (ws:List Str):Nat:=((ws.map cs).map List.length).sum+ws.length
theorem UK (ws:List Str):(ws.map (·.length)).sum+ws.length*(Str.ofString " ").length=jt ws:=by
 have:(Str.ofString " ").length=1:=by decide
 rw [this];unfold jt;have e:ws.map (·.length)=(ws.map cs).map List.length:=by
  rw [Y15];apply Y2g;intro x _;exact PI.cs_len x
 rw [e,Nat.mul_one]
theorem QH (ws:List Str):(Txt.join " " ws).length<=jt ws:=by
 rw [PI.cs_len,we,UF]
 have:=ZT [32] rfl (ws.map cs)
 simp only [Y0c] at this;exact this
theorem VE (cl:Nat->List D->Hh->Res D)(h:Hh)(n:Nat)(ws:List Str)(e:rd h n=some (ws.map D.str))(hl:jt ws<=900000):d_bracketed.run cl [.loc n] h=.ok (.str (mkS (brk (ws.map cs)))) h:=by
 have l1:=UK ws;have l2:=QH ws;have b:=UJ ws;have q1:(Str.ofString "(").length=1:=by decide
 have q2:(Str.ofString ")").length=1:=by decide
 have l3:(ws.map (·.length)).sum+ws.length*(Str.ofString " ").length<=16777216:=by omega
 have l4:(Str.ofString "(").length+(Txt.join " " ws).length<=1000000:=by omega
 have l5:(Str.ofString "("++Txt.join " " ws).length+(Str.ofString ")").length<=1000000:=by
  rw [PI.cs_len,zD,Y03,<- PI.cs_len,<- PI.cs_len];omega
 unfold d_bracketed;simp only [Df.run,Ss.run,S.run,E.ev,Y05,Y0k,Y01,Y0x,Y0q,Y0n,Y1e,bind_ok,onS,Zt,e,Option.bind,wP,l3,if_true,bin_adds,l4,l5,andS_ok,seqS_rt,qy,b]
theorem VF (cl:Nat->List D->Hh->Res D)(h:Hh)(ws:List Str)(hl:jt ws<=900000):d_bracketed.run cl [.tup (ws.map D.str)] h=.ok (.str (mkS (brk (ws.map cs)))) h:=by
 have l1:=UK ws;have l2:=QH ws;have b:=UJ ws;have q1:(Str.ofString "(").length=1:=by decide
 have q2:(Str.ofString ")").length=1:=by decide
 have l3:(ws.map (·.length)).sum+ws.length*(Str.ofString " ").length<=16777216:=by omega
 have l4:(Str.ofString "(").length+(Txt.join " " ws).length<=1000000:=by omega
 have l5:(Str.ofString "("++Txt.join " " ws).length+(Str.ofString ")").length<=1000000:=by
  rw [PI.cs_len,zD,Y03,<- PI.cs_len,<- PI.cs_len];omega
 unfold d_bracketed;simp only [Df.run,Ss.run,S.run,E.ev,Y05,Y0k,Y01,Y0x,Y0q,Y0n,Y1e,bind_ok,onS,Zt,Option.bind,wP,l3,if_true,bin_adds,l4,l5,andS_ok,seqS_rt,qy,b]
structure Cw (cl:Nat->List D->Hh->Res D):Prop where
 ex:∀ (g:G) h,wdG g->ms g<=9000->∃ J,cl 24 [g.d] h=.ok (.str (mkS (tx g))) (h++J)
 bl:∀ h n (ws:List Str),rd h n=some (ws.map D.str)->jt ws<=900000->cl 23 [.loc n] h=.ok (.str (mkS (brk (ws.map cs)))) h
 bt:∀ h (ws:List Str),jt ws<=900000->cl 23 [.tup (ws.map D.str)] h=.ok (.str (mkS (brk (ws.map cs)))) h
noncomputable def hdT (w:Str)(xs:List Str)(g:G):List Nat:=brk (cs w::(xs.map cs++[tx g]))
theorem zE (x:Str)(ws:List Str):jt (x::ws)=(cs x).length+1+jt ws:=by unfold jt;simp;omega
theorem QI (a b:List Str):jt (a++b)=jt a+jt b:=by unfold jt;simp;omega
theorem WI:∀ (xs:List Str),(∀ x∈xs,Wd x)->jt xs<=21*xs.length
 | [],_=>by simp [jt]
 | x::r,h=>by
  have:=(h x (Y08 ..)).len
  have:=WI r λ y hy=>h y (Y06 _ hy)
  rw [zE,Y01];omega
theorem Z6 (l:List Nat):jt [mkS l]=l.length+1:=by simp [jt,zT]
theorem z4t (cl:Nat->List D->Hh->Res D)(C:Cw cl)(w:Str)(xs:List Str)(g:G)(h:Hh)(hw:Wd w)(hx:∀ x∈xs,Wd x)(hl:xs.length<=10)(hg:wdG g)(hm:ms g<=9000) :
  ∃ J,d_headed_text.run cl [.str w,hdD xs g] h=.ok (.str (mkS (hdT w xs g))) (h++J):=by
 have cu:jS (hdD xs g) none (some (-1))=λ h=>.ok (.tup (xs.map D.str)) h:=by
  funext h
  unfold hdD;simp only [jS];rw [QF,List.dropLast_concat,if_neg]
  have:HT.sIx (xs.map D.str++[g.d]).length (xs.map D.str++[g.d]).length (some (-1))=((-1:Int)+((xs.map D.str++[g.d]).length:Int)).toNat:=rfl
  rw [this];simp only [Y03,Y0c,Y01,Y0x];omega
 have sb:∀ h,zY (hdD xs g) (.int (-1)) h=.ok g.d h:=λ h=>by
  unfold hdD;rw [sub_tup]
  have:atI (xs.map D.str++[g.d]) (-1)=some g.d:=by
   unfold atI ixN;simp only [Y03,Y0c,Y01,Y0x];rw [if_neg (by decide),if_pos (by omega)]
   have:(-1+((xs.length+(0+1):Nat):Int)).toNat=xs.length:=by omega
   rw [this];show (xs.map D.str++[g.d])[xs.length]?=_;simp
  rw [this]
 obtain ⟨J1,c6⟩:=C.ex g (h++[.lst [.str w],.lst (xs.map D.str),.lst (.str w::xs.map D.str)]) hg hm;have tl:=yy g hg;have c5:=C.bl (h++([.lst [.str w],.lst (xs.map D.str),.lst (.str w::xs.map D.str)]++(J1++[.lst [.str (mkS (tx g))],.lst (.str w::(xs.map D.str++[.str (mkS (tx g))]))]))) (h.length+(3+(J1.length+1))) (w::(xs++[mkS (tx g)])) (by rw [rdx,show rd ([O.lst [.str w],O.lst (xs.map D.str),O.lst (.str w::xs.map D.str)]++(J1++[O.lst [.str (mkS (tx g))],O.lst (.str w::(xs.map D.str++[.str (mkS (tx g))]))])) (3+(J1.length+1))=rd (J1++[O.lst [.str (mkS (tx g))],O.lst (.str w::(xs.map D.str++[.str (mkS (tx g))]))]) (J1.length+1) from rdx [O.lst [.str w],O.lst (xs.map D.str),O.lst (.str w::xs.map D.str)] _ _,rdx];simp [rd]) (by
  rw [zE,QI,Z6]
  have:=hw.len
  have:=WI xs hx
  omega)
 refine ⟨[.lst [.str w],.lst (xs.map D.str),.lst (.str w::xs.map D.str)]++(J1++[.lst [.str (mkS (tx g))],.lst (.str w::(xs.map D.str++[.str (mkS (tx g))]))]),?_⟩;have e9:(w::(xs++[mkS (tx g)])).map cs=cs w::(xs.map cs++[tx g]):=by simp [zT]
 rw [e9] at c5;unfold hdT;have l1:1+xs.length<=1000000:=by omega
 have l2:xs.length+1+1<=1000000:=by omega
 have l3:xs.length<=999999:=by omega
 have l4:xs.length<=999998:=by omega
 simp only [Y07,Y0q,Y0n] at c6 c5 ⊢;simp [d_headed_text,Df.run,Ss.run,S.run,E.ev,Es.ev,Eo.ev,L.ev,GA,new,cu,sb,wz,hx0,hx,l1,l2,l3,l4,c6];rw [show 3+(J1.length+1)=J1.length+1+1+1+1 by omega] at c5;rw [c5];rfl
noncomputable def Itm.tx:Itm->List Nat
 | .fn f ps b g=>brk ([cs "def",cs f,brk (ps.map cs)]++(b.toList.map cs++[K14.tx g]))
 | .hd n cl e=>brk ([cs "handler",cs n]++(cl.map (λ q=>hdT "on" q.1 q.2)++[hdT "end" e.1 e.2]))
theorem WJ (xs:List Str)(h:∀ x∈xs,Nm x):jt xs<=21*xs.length:=WI xs λ x hx=>(h x hx).wd
theorem Z7 (w:Str)(q:List Str×G)(n:Nat)(hn:n<=10)(hw:Wd w)(h:okQ q n):(hdT w q.1 q.2).length<=25*ms q.2+21*n+30:=by
 have h1:=qf (cs w::(q.1.map cs++[tx q.2]));have h2:=WJ q.1 h.1;have h3:=yy q.2 h.2.2.1;have h4:=hw.len;unfold jt at h2;simp only [Y05,Y0j,Y0k,Y0v,Y1o,Y1r,Y01,Y03,Y0x] at h1;have h5:=h.2.1;have h6:=h.2.2.2;simp only [Y0c] at h1 h2;unfold hdT;omega
theorem QJ (cl:Nat->List D->Hh->Res D)(C:Cw cl)(f:Str)(ps:List Str)(b:Option Str)(g:G)(h:Hh)(hw:(Itm.fn f ps b g).wd):∃ J,d_function_text.run cl [(Itm.fn f ps b g).d] h=.ok (.str (mkS (Itm.fn f ps b g).tx)) (h++J):=by
 obtain ⟨w1,w2,w3,w4,w5,w6⟩:=hw;have a1:∀ x y z w v:D,atI [x,y,z,w,v] 1=some y:=λ _ _ _ _ _=>rfl;have a2:∀ x y z w v:D,atI [x,y,z,w,v] 2=some z:=λ _ _ _ _ _=>rfl;have a3:∀ x y z w v:D,atI [x,y,z,w,v] 3=some w:=λ _ _ _ _ _=>rfl;have a4:∀ x y z w v:D,atI [x,y,z,w,v] 4=some v:=λ _ _ _ _ _=>rfl;have pl:=WJ ps w2;have b5:=C.bt h ps (by omega);have tl:=yy g w5;have bl:=qf (ps.map cs);have fl:=w1.len;unfold jt at pl;simp only [Y0c] at bl pl;cases b with
 | none =>
  obtain ⟨J1,c6⟩:=C.ex g (h++[.lst [.str "def",.str f,.str (mkS (brk (ps.map cs)))]]) w5 w6;have c5:=C.bl (h++.lst [.str "def",.str f,.str (mkS (brk (ps.map cs))),.str (mkS (K14.tx g))]::J1) h.length ["def",f,mkS (brk (ps.map cs)),mkS (K14.tx g)] (by rw [qC];rfl) (by
   rw [zE,zE,zE,Z6,zT]
   have:=wd_def.len
   omega)
  refine ⟨.lst [.str "def",.str f,.str (mkS (brk (ps.map cs))),.str (mkS (K14.tx g))]::J1,?_⟩;simp only [Y07,Y0q,Y0n] at c6;have e9:(["def",f,mkS (brk (ps.map cs)),mkS (K14.tx g)]:List Str).map cs=[cs "def",cs f,brk (ps.map cs)]++((none:Option Str).toList.map cs++[K14.tx g]):=by simp [zT]
  rw [e9] at c5;simp only [Itm.d,Itm.tx,yQ];unfold d_function_text;simp [Df.run,Ss.run,S.run,E.ev,E.evT,Es.ev,L.ev,new,a1,a2,a3,a4,b5,m1D,onL,hx0,qS,c6];simp at c5;rw [c5];rfl
 | some b =>
  obtain ⟨J1,c6⟩:=C.ex g (h++[.lst [.str "def",.str f,.str (mkS (brk (ps.map cs))),.str b]]) w5 w6;have wb:=(w4 b rfl).len;have c5:=C.bl (h++.lst [.str "def",.str f,.str (mkS (brk (ps.map cs))),.str b,.str (mkS (K14.tx g))]::J1) h.length ["def",f,mkS (brk (ps.map cs)),b,mkS (K14.tx g)] (by rw [qC];rfl) (by
   rw [zE,zE,zE,zE,Z6,zT]
   have:=wd_def.len
   omega)
  refine ⟨.lst [.str "def",.str f,.str (mkS (brk (ps.map cs))),.str b,.str (mkS (K14.tx g))]::J1,?_⟩;simp only [Y07,Y0q,Y0n] at c6;have e9:(["def",f,mkS (brk (ps.map cs)),b,mkS (K14.tx g)]:List Str).map cs=[cs "def",cs f,brk (ps.map cs)]++((some b:Option Str).toList.map cs++[K14.tx g]):=by simp [zT]
  rw [e9] at c5;simp only [Itm.d,Itm.tx,yQ];unfold d_function_text;simp [Df.run,Ss.run,S.run,E.ev,E.evT,Es.ev,L.ev,new,a1,a2,a3,a4,b5,m1D,onL,hx0,qS,c6];simp at c5;rw [c5];rfl
theorem z1x:∀ qs:List (List Str×G),(∀ q∈qs,okQ q 3)->jt (qs.map λ q=>mkS (hdT "on" q.1 q.2))<=25*(qs.map (K14.ms∘λ x=>x.2)).sum+94*qs.length
 | [],_=>by simp [jt]
 | q::r,w2=>by
  have a:=Z7 "on" q 3 (by decide) wd_on (w2 q (Y08 ..));have b:=z1x r λ y hy=>w2 y (Y06 _ hy);rw [Y05,zE,zT,Y01,Y05,Y0v];simp only [Function.comp] at *
  omega
theorem z1y:∀ qs:List (List Str×G),(∀ q∈qs,okQ q 3)->((qs.map (λ q=>hdT "on" q.1 q.2)).map List.length).sum<=25*(qs.map (K14.ms∘λ x=>x.2)).sum+94*qs.length
 | [],_=>by simp
 | q::r,w2=>by
  have a:=Z7 "on" q 3 (by decide) wd_on (w2 q (Y08 ..));have b:=z1y r λ y hy=>w2 y (Y06 _ hy);simp only [Y05,Y0v,Y01,Function.comp] at *
  omega
theorem YK (cl:Nat->List D->Hh->Res D)(C:Cw cl)(C4:∀ w q n h,n<=10->Wd w->okQ q n->∃ J,cl 22 [.str w,hdD q.1 q.2] h=.ok (.str (mkS (hdT w q.1 q.2))) (h++J))(nm:Str)(qs:List (List Str×G))(e:List Str×G)(h:Hh)(hg:ItG (Itm.hd nm qs e)) :
  ∃ J,d_handler_text.run cl [(Itm.hd nm qs e).d] h=.ok (.str (mkS (Itm.hd nm qs e).tx)) (h++J):=by
 obtain ⟨w1,w2,w3,w4⟩:=hg.wd;have sz:=hg.sz;simp only [trs,Y0j,Y15,Y05,Y0k,Y1o,Y0v,Y1r] at sz;have a1:∀ x y z w:D,atI [x,y,z,w] 1=some y:=λ _ _ _ _=>rfl;have a2:∀ x y z w:D,atI [x,y,z,w] 2=some z:=λ _ _ _ _=>rfl;have a3:∀ x y z w:D,atI [x,y,z,w] 3=some w:=λ _ _ _ _=>rfl;have key:∀ (ρ:En),∃ J,zr [] (zz j0 (zS [none] ρ) (λ ρ' h2=>c_handler_text_1.evC cl ρ' h2) (λ ρ' h2=>e_handler_text_1.ev cl ρ' h2)) (qs.map λ q=>hdD q.1 q.2) [] h=.ok (qs.map λ q=>.str (mkS (hdT "on" q.1 q.2))) (h++J):=by
  intro ρ;obtain ⟨h',e1,_,J,rfl⟩:=wT (c:=[]) (f:=zz j0 (zS [none] ρ) (λ ρ' h2=>c_handler_text_1.evC cl ρ' h2) (λ ρ' h2=>e_handler_text_1.ev cl ρ' h2)) (λ q:List Str×G=>hdD q.1 q.2) (λ q=>.str (mkS (hdT "on" q.1 q.2))) (λ _=>True) Gr Gr.refl Gr.trans (λ _ _=>zn) qs [] h trivial (by
   intro q hq h _;obtain ⟨J,c4⟩:=C4 "on" q 3 h (by decide) wd_on (w2 q hq);refine ⟨h++J,?_,trivial,J,rfl⟩;simp [zz,j0,wM,zS,c_handler_text_1,e_handler_text_1,Es.evC,E.ev,Es.ev,c4])
  exact ⟨J,by simpa using e1⟩
 obtain ⟨J0,k0⟩:=key [some (Itm.hd nm qs e).d,none];have e0:(Itm.hd nm qs e).d=.tup [.str "handler",.str nm,.tup (qs.map λ q=>hdD q.1 q.2),hdD e.1 e.2]:=rfl;rw [e0] at k0 ⊢;have km:(qs.map λ q=>D.str (mkS (hdT "on" q.1 q.2)))=(qs.map λ q=>mkS (hdT "on" q.1 q.2)).map D.str:=by rw [Y15];rfl
 rw [km] at k0;obtain ⟨ts,hts⟩:∃ ts,ts=qs.map λ q=>mkS (hdT "on" q.1 q.2):=⟨_,rfl⟩;rw [<- hts] at k0;have tl:ts.length<=8:=by rw [hts];simpa using w3
 obtain ⟨J1,c4⟩:=C4 "end" e 2 (h++(J0++[.lst (ts.map D.str),.lst [.str "handler",.str nm],.lst (.str "handler"::.str nm::ts.map D.str)])) (by decide) wd_end w4;have hl:=Z7 "end" e 2 (by decide) wd_end w4;obtain ⟨en,hen⟩:∃ en,en=mkS (hdT "end" e.1 e.2):=⟨_,rfl⟩;rw [<- hen] at c4;have wt:jt ts<=25*(qs.map (K14.ms∘λ x=>x.2)).sum+94*qs.length:=by
  rw [hts];exact z1x qs w2
 have c5:=C.bl (h++(J0++[.lst (ts.map D.str),.lst [.str "handler",.str nm],.lst (.str "handler"::.str nm::ts.map D.str)]++(J1++[.lst [.str en],.lst (.str "handler"::.str nm::(ts.map D.str++[.str en]))]))) (h.length+(J0.length+(J1.length+1+1+1+1))) ("handler"::nm::(ts++[en])) (by rw [show J0.length+(J1.length+1+1+1+1)=(J0++[O.lst (ts.map D.str),.lst [.str "handler",.str nm],.lst (.str "handler"::.str nm::ts.map D.str)]).length+(J1.length+1) by simp;omega,rdx,rdx,rdx];simp [rd]) (by
  rw [zE,zE,QI,hen,Z6]
  have:=wd_hd.len
  have:=w1.len
  omega)
 have e9:("handler"::nm::(ts++[en]):List Str).map cs=[cs "handler",cs nm]++(qs.map (λ q=>hdT "on" q.1 q.2)++[hdT "end" e.1 e.2]):=by
  rw [hts,hen];simp [zT]
 rw [e9] at c5;refine ⟨J0++[.lst (ts.map D.str),.lst [.str "handler",.str nm],.lst (.str "handler"::.str nm::ts.map D.str)]++(J1++[.lst [.str en],.lst (.str "handler"::.str nm::(ts.map D.str++[.str en]))]),?_⟩;simp only [Itm.tx];simp only [Y07,Y0q,Y0n,Y03,Y01,Y0x] at c4 c5 ⊢;have g0:∀ l:Hh,(h++(J0++l))[h.length+J0.length]?=l[0]?:=λ l=>by rw [hx,hx0]
 have g1:∀ (l:Hh) (k:Nat),(h++(J0++l))[h.length+(J0.length+k)]?=l[k]?:=λ l k=>by rw [hx,hx]
 have l0:qs.length<=1000000:=by omega
 have l1:2+ts.length<=1000000:=by omega
 have l2:ts.length+1+1+1<=1000000:=by omega
 have l3:ts.length<=999997:=by omega
 have l4:ts.length<=999998:=by omega
 simp [d_handler_text,Df.run,Ss.run,S.run,E.ev,Es.ev,L.ev,I.ev,new,a1,a2,a3,l0,l1,l2,l3,l4,k0,g0,g1,c4];rw [c5];rfl
theorem z0w (cl:Nat->List D->Hh->Res D)(C2:∀ f ps b g h,(Itm.fn f ps b g).wd->∃ J,cl 20 [(Itm.fn f ps b g).d] h=.ok (.str (mkS (Itm.fn f ps b g).tx)) (h++J))(C3:∀ n q e h,ItG (Itm.hd n q e)->∃ J,cl 21 [(Itm.hd n q e).d] h=.ok (.str (mkS (Itm.hd n q e).tx)) (h++J))(i:Itm)(h:Hh)(hw:ItG i) :
  ∃ J,d_item_text.run cl [i.d] h=.ok (.str (mkS i.tx)) (h++J):=by
 cases i with
 | fn f ps b g =>
  obtain ⟨J,c⟩:=C2 f ps b g h hw.wd;refine ⟨J,?_⟩;have e1:=eqS (h:=h) qG qG;rw [beq_self_eq_true] at e1;have e0:=z3t f ps b g h;unfold d_item_text;simp only [Df.run,Ss.run,S.run,E.ev,Es.ev,Y05,Y0k,Y01,Y0x,Y0q,Y0n,Y1e,bind_ok,e0,e1,tru_bl,if_true,c,andS_ok,seqS_rt,qy]
 | hd n q e =>
  obtain ⟨J,c⟩:=C3 n q e h hw;refine ⟨J,?_⟩;have e1:=eqS (h:=h) Qs qG;rw [show (("handler":Str)==("def":Str))=false by decide] at e1;have e0:=z3u n q e h;unfold d_item_text;simp only [Df.run,Ss.run,S.run,E.ev,Es.ev,Y05,Y0k,Y01,Y0x,Y0q,Y0n,Y1e,bind_ok,e0,e1,tru_bl,Y2k,if_false,c,andS_ok,seqS_rt,qy]
theorem z0x (i:Itm)(hw:ItG i):i.tx.length<=130000:=by
 cases i with
 | fn f ps b g =>
  obtain ⟨w1,w2,w3,w4,w5,w6⟩:=hw.wd;have sz:=hw.sz;simp only [trs,Y05,Y0k,Y0v,Y1r] at sz;have h0:=qf ([cs "def",cs f,brk (ps.map cs)]++(b.toList.map cs++[K14.tx g]));have h1:=WJ ps w2;have h2:=yy g w5;have h3:=qf (ps.map cs);have h4:=w1.len;have h5:=wd_def.len;unfold jt at h1;simp only [Itm.tx];cases b with
  | none =>
   simp only [Option.toList,Y0k,Y0n,Y05,Y0j,Y0v,Y1o,Y1r,Y01,Y03,Y0x,Y0c] at h0 h1 h3 ⊢;omega
  | some x =>
   have:=(w4 x rfl).len
   simp only [Option.toList,Y0k,Y0n,Y05,Y0j,Y0v,Y1o,Y1r,Y01,Y03,Y0x,Y0c] at h0 h1 h3 ⊢;omega
 | hd n q e =>
  obtain ⟨w1,w2,w3,w4⟩:=hw.wd;have sz:=hw.sz;simp only [trs,Y0j,Y15,Y05,Y0k,Y1o,Y0v,Y1r] at sz;have h0:=qf ([cs "handler",cs n]++(q.map (λ q=>hdT "on" q.1 q.2)++[hdT "end" e.1 e.2]));have h1:=Z7 "end" e 2 (by decide) wd_end w4;have h2:((q.map (λ q=>hdT "on" q.1 q.2)).map List.length).sum<=25*(q.map (K14.ms∘λ x=>x.2)).sum+94*q.length:=z1y q w2;have h4:=w1.len;have h5:=wd_hd.len;simp only [Itm.tx];simp only [Y0n,Y05,Y0k,Y0j,Y0v,Y1o,Y1r,Y01,Y03,Y0x,Y0c] at h0 h2 ⊢;omega
noncomputable def nlJ (is:List Itm):Str:=Txt.join "\n" (is.map λ i=>mkS i.tx)
theorem z0y (cl:Nat->List D->Hh->Res D)(C1:∀ (i:Itm) h,ItG i->∃ J,cl 19 [i.d] h=.ok (.str (mkS i.tx)) (h++J))(is:List Itm)(h:Hh)(hw:∀ i∈is,ItG i)(hl:is.length<=40):∃ J,d_shown.run cl [.tup (is.map Itm.d)] h=.ok (.str (nlJ is)) (h++J):=by
 obtain ⟨h',e1,_,J,rfl⟩:=wT (c:=[]) (f:=zz yr (zS [none] [some (.tup (is.map Itm.d))]) (λ ρ' h2=>c_shown_1.evC cl ρ' h2) (λ ρ' h2=>e_shown_1.ev cl ρ' h2)) Itm.d (λ i=>.str (mkS i.tx)) (λ _=>True) Gr Gr.refl Gr.trans (λ _ _=>zn) is [] h trivial (by
  intro i hi h _;obtain ⟨J,c⟩:=C1 i h (hw i hi);refine ⟨h++J,?_,trivial,J,rfl⟩;simp [zz,yr,wM,zS,c_shown_1,e_shown_1,Es.evC,E.ev,Es.ev,c])
 have km:(is.map λ i=>D.str (mkS i.tx))=(is.map λ i=>mkS i.tx).map D.str:=by rw [Y15];rfl
 rw [km,Y0n] at e1;refine ⟨J++[.lst ((is.map λ i=>mkS i.tx).map D.str)],?_⟩;have ql:(Str.ofString "\n").length=1:=by decide
 have sl:∀ js:List Itm,(∀ i∈js,ItG i)->((js.map λ i=>mkS i.tx).map (·.length)).sum<=130000*js.length:=by
  intro js
  induction js with
  | nil=>intro _;simp
  | cons x r ih =>
   intro hj;have a:=z0x x (hj x (Y08 ..));have b:=ih λ y hy=>hj y (Y06 _ hy);simp only [Y05,Y0v,Y01,wO] at b ⊢;omega
 have s1:=sl is hw;unfold nlJ;obtain ⟨ts,hts⟩:∃ ts,ts=is.map λ i=>mkS i.tx:=⟨_,rfl⟩;rw [<- hts] at e1 s1 ⊢;have tl:ts.length=is.length:=by rw [hts];simp
 have l1:(ts.map (·.length)).sum+ts.length*(Str.ofString "\n").length<=16777216:=by rw [ql,tl];omega
 have r1:rd (h++J++[.lst (ts.map D.str)]) (h++J).length=some (ts.map D.str):=by rw [qC];rfl
 have l2:(is.map Itm.d).length<=1000000:=by simp;omega
 rw [<- Y07];unfold d_shown;simp only [Df.run,Ss.run,S.run,E.ev,PI.L.ev,I.ev,Y05,Y0k,Y01,Y0x,Y0q,Y0n,Y1e,bind_ok,onS,l2,if_true]
 erw [e1]
 simp only [bind_ok,new,Zt,r1,Option.bind,wP,l1,if_true,andS_ok,seqS_rt,qy]
mutual
noncomputable def Th.wq:Th->Prop
 | .w x=>Wq (cs x)
 | .l ts=>Th.wqs ts
noncomputable def Th.wqs:List Th->Prop
 | []=>True
 | t::r=>t.wq/\Th.wqs r
end
theorem z6p {x:Str}(h:Wq (cs x)):Pw x :=
 ⟨Qg λ c hc=>(h.ch c hc).2.2.2.2,ZC λ e=>(h.ch 40 (by rw [e];decide)).2.2.1 rfl,ZC λ e=>(h.ch 41 (by rw [e];decide)).2.2.2.1 rfl⟩
mutual
theorem z6q:∀ t:Th,t.wq->t.ok
 | .w x,h=>by rw [Th.wq] at h;rw [Th.ok];exact z6p h
 | .l ts,h=>by rw [Th.wq] at h;rw [Th.ok];exact wqs_oks ts h
theorem wqs_oks:∀ ts:List Th,Th.wqs ts->Th.oks ts
 | [],_=>by rw [Th.oks];trivial
 | t::r,h=>by rw [Th.wqs] at h;rw [Th.oks];exact ⟨z6q t h.1,wqs_oks r h.2⟩
end
theorem wqs_mem:∀ {ts:List Th},Th.wqs ts ↔ ∀ t∈ts,t.wq
 | []=>by simp [Th.wqs]
 | t::r=>by simp [Th.wqs,wqs_mem (ts:=r)]
theorem VG {x:Str}(h:Wq (cs x)):(Th.w x).wq:=by rw [Th.wq];exact h
theorem wB {x:Str}(h:Nm x):Wq (cs x):=⟨h.ne,Y0t h.le (by decide),λ c hc=>by have:=h.lo c hc;omega⟩
theorem z4u {n:Int}{x:Str}(h:NumW n x):Wq (cs x):=⟨h.ne,Y0t h.le (by decide),λ c hc=>by have:=h.dg c hc;omega⟩
theorem jn:∀ x∈(["let","if","call","hand","do","handle","go","guard","+","-","*","<","def","handler","on","end"]:List Str),Wq (cs x):=by
 intro x hx
 have:(["let","if","call","hand","do","handle","go","guard","+","-","*","<","def","handler","on","end"]:List Str).all (λ x=>decide (cs x≠[])&&decide ((cs x).length<=20)&&(cs x).all λ c=>decide (c≠10/\c≠32/\c≠40/\c≠41/\c<1114112))=true:=by decide +kernel
 have:=Y11.mp this x hx
 rw [Y0g,Y0g] at this;exact ⟨of_decide_eq_true this.1.1,of_decide_eq_true this.1.2,λ c hc=>of_decide_eq_true (Y11.mp this.2 c hc)⟩
theorem OI (k:Kd)(n:Nat)(h:Kd.wd k n):∀ w∈Kd.heads k,Wq (cs w):=by
 cases k with
 | num m=>intro w hw;cases hw
 | var x=>intro w hw;cases hw
 | op s =>
  intro w hw;rw [Y0a.mp hw];rcases h with rfl | rfl | rfl | rfl<;>exact jn _ (by simp)
 | lett x=>intro w hw;simp only [Kd.heads,Y0b,Y0p,or_false] at hw;rcases hw with rfl | rfl;exact jn _ (by simp);exact wB h
 | ite=>intro w hw;rw [Y0a.mp hw];exact jn _ (by simp)
 | call f g =>
  cases g with
  | none=>intro w hw;simp only [Kd.heads,Y0b,Y0p,or_false] at hw;rcases hw with rfl | rfl;exact jn _ (by simp);exact wB h.1
  | some g=>intro w hw;simp only [Kd.heads,Y0b,Y0p,or_false] at hw;rcases hw with rfl | rfl | rfl;exact jn _ (by simp);exact wB h.1;exact wB (h.2 _ rfl)
 | doo x=>intro w hw;simp only [Kd.heads,Y0b,Y0p,or_false] at hw;rcases hw with rfl | rfl;exact jn _ (by simp);exact wB h
 | handle x=>intro w hw;simp only [Kd.heads,Y0b,Y0p,or_false] at hw;rcases hw with rfl | rfl;exact jn _ (by simp);exact wB h
 | go=>intro w hw;rw [Y0a.mp hw];exact jn _ (by simp)
 | guard=>intro w hw;rw [Y0a.mp hw];exact jn _ (by simp)
theorem UL {ws:List Str}(h:∀ w∈ws,Wq (cs w)):∀ t∈ws.map Th.w,t.wq:=λ t ht=>by
 obtain ⟨w,hw,rfl⟩:=Y0z.mp ht;exact VG (h w hw)
mutual
theorem OJ:∀ g:G,wdG g->(th g).wq
 | .nd k ps,h=>by
  rw [wdG] at h;rw [th];cases e:Kd.leaf k with
  | some x =>
   simp only;rw [Th.wq];cases k with
   | num n=>cases e;exact z4u (z1s h.1.1 h.1.2.1)
   | var y=>cases e;exact wB h.1.1
   | _=>cases e
  | none =>
   simp only;rw [Th.wq];refine wqs_mem.mpr λ t ht=>?_;rcases Y0f.mp ht with ht | ht
   ·exact UL (OI k _ h.1) t ht
   ·exact wqs_mem.mp (ths_wq ps h.2) t ht
theorem ths_wq:∀ gs:List G,wdGs gs->Th.wqs (ths gs)
 | [],_=>by rw [ths,Th.wqs];trivial
 | g::r,h=>by rw [wdGs] at h;rw [ths,Th.wqs];exact ⟨OJ g h.1,ths_wq r h.2⟩
end
theorem OK (w:Str)(hw:Wq (cs w))(q:List Str×G)(n:Nat)(h:okQ q n):(thQ w q).wq:=by
 rw [thQ,Th.wq];refine wqs_mem.mpr λ t ht=>?_;rcases Y0b.mp ht with rfl | ht
 ·exact VG hw
 ·rcases Y0f.mp ht with ht | ht
  ·exact UL (λ w hw=>wB (h.1 w hw)) t ht
  ·rw [Y0a.mp ht];exact OJ _ h.2.2.1
theorem z4v (i:Itm)(h:i.wd):(thI i).wq:=by
 cases i with
 | fn f ps b g =>
  obtain ⟨h1,h2,h3,h4,h5,h6⟩:=h;rw [thI,Th.wq];refine wqs_mem.mpr λ t ht=>?_;rcases Y0b.mp ht with rfl | ht
  ·exact VG (jn _ (by simp))
  rcases Y0b.mp ht with rfl | ht
  ·exact VG (wB h1)
  rcases Y0b.mp ht with rfl | ht
  ·rw [Th.wq];exact wqs_mem.mpr (UL λ w hw=>wB (h2 w hw))
  rcases Y0f.mp ht with ht | ht
  ·exact UL (λ w hw=>wB (h4 w (by cases b with | none=>cases hw | some y=>rw [Y0a.mp hw]))) t ht
  ·rw [Y0a.mp ht];exact OJ g h5
 | hd n qs e =>
  obtain ⟨h1,h2,h3,h4⟩:=h;rw [thI,Th.wq];refine wqs_mem.mpr λ t ht=>?_;rcases Y0b.mp ht with rfl | ht
  ·exact VG (jn _ (by simp))
  rcases Y0b.mp ht with rfl | ht
  ·exact VG (wB h1)
  rcases Y0f.mp ht with ht | ht
  ·obtain ⟨q,hq,rfl⟩:=Y0z.mp ht;exact OK _ (jn _ (by simp)) q 3 (h2 q hq)
  ·rw [Y0a.mp ht];exact OK _ (jn _ (by simp)) e 2 h4
theorem ZU {is:List Itm}(h:∀ i∈is,ItG i):Th.wqs (is.map thI):=wqs_mem.mpr λ t ht=>by
 obtain ⟨i,hi,rfl⟩:=Y0z.mp ht;exact z4v i (h i hi).wd
theorem z4w {is:List Itm}(h:∀ i∈is,ItG i):Th.dps (is.map thI)<=24:=YE thI 24 is λ i hi=>z4b i (h i hi)
mutual
noncomputable def Th.tx:Th->List Nat
 | .w x=>cs x
 | .l ts=>brk (Th.txs ts)
noncomputable def Th.txs:List Th->List (List Nat)
 | []=>[]
 | t::r=>t.tx::Th.txs r
end
theorem je:∀ ts:List Th,Th.txs ts=ts.map Th.tx
 | []=>by rw [Th.txs];rfl
 | t::r=>by rw [Th.txs,je r];rfl
theorem WK (ws:List Str):(ws.map Th.w).map Th.tx=ws.map cs:=by
 rw [Y15];exact Y2g λ x _=>by show (Th.w x).tx=_;rw [Th.tx]
mutual
theorem OL:∀ g:G,tx g=(th g).tx
 | .nd k ps=>by
  rw [K14.tx,K14.th,Kd.tx];cases e:Kd.leaf k with
  | some x=>simp only;rw [Th.tx]
  | none=>simp only;rw [Th.tx,je,Y0j,WK,<- je,txs_ths ps]
theorem txs_ths:∀ gs:List G,txs gs=Th.txs (ths gs)
 | []=>by rw [txs,ths,Th.txs]
 | g::r=>by rw [txs,ths,Th.txs,OL g,txs_ths r]
end
theorem OM (w:Str)(q:List Str×G):hdT w q.1 q.2=(thQ w q).tx:=by
 rw [thQ,Th.tx,je,Y05,Y0j,WK,Y05,Y0k,<- OL,Th.tx];rfl
theorem z4x (i:Itm):i.tx=(thI i).tx:=by
 cases i with
 | fn f ps b g =>
  rw [thI,Th.tx,je,Itm.tx];simp only [Y05,Y0j,WK,Y0k];rw [Th.tx,Th.tx,Th.tx,je,WK,<- OL];rfl
 | hd n qs e =>
  rw [thI,Th.tx,je,Itm.tx];simp only [Y05,Y0j,Y0k,Y15];rw [Th.tx,Th.tx,<- OM,show Th.tx∘thQ "on"=λ q=>hdT "on" q.1 q.2 from funext λ q=>(OM "on" q).symm];rfl
mutual
noncomputable def Th.wl:Th->Nat
 | .w x=>(cs x).length+1
 | .l ts=>7+Th.wls ts
noncomputable def Th.wls:List Th->Nat
 | []=>0
 | t::r=>t.wl+Th.wls r
end
theorem ye:∀ a b:List Th,Th.wls (a++b)=Th.wls a+Th.wls b
 | [],b=>by simp [Th.wls]
 | t::r,b=>by rw [Y0q,Th.wls,Th.wls,ye r b];omega
theorem ON (c:Nat)(hc:sg c=[32])(x:List Nat)(L:List Nat):Sn (x++[c]++L)=Sn x++32::Sn L:=by
 rw [qH,qH,show Sn [c]=[32] by show sg c++[]=_;rw [hc];rfl];simp
theorem z1z (ts:List (List Nat)):Sn (brk ts)=32::40::32::(Sn (zC [32] ts)++[32,41,32]):=by
 unfold brk;show sg 40++Sn (zC [32] ts++[41])=_;rw [qH];rfl
theorem z6r:sg 32=[32]:=rfl
theorem z6s:sg 10=[32]:=rfl
theorem ZV (cur L:List Nat):w1 cur (32::L)=fl cur++w1 [] L:=by rw [w1,if_pos rfl]
mutual
theorem z20:∀ (t:Th) (L:List Nat),t.wq->w1 [] (Sn t.tx++32::L)=t.ws.map cs++w1 [] L
 | .w x,L,h=>by
  rw [Th.wq] at h;rw [Th.tx,Th.ws,ZO _ λ c hc=>⟨(h.ch c hc).1,(h.ch c hc).2.2.1,(h.ch c hc).2.2.2.1⟩,Z2 _ [] _ λ hm=>(h.ch 32 hm).2.1 rfl,Y0n,ZV];rw [show fl (cs x)=[cs x] from if_neg h.ne];rfl
 | .l ts,L,h=>by
  rw [Th.wq] at h
  have:=seg_l ts (32::L) h
  rw [Th.tx,this,ZV,Th.ws];rfl
theorem seg_l:∀ (ts:List Th) (L:List Nat),Th.wqs ts->w1 [] (Sn (brk (Th.txs ts))++L)=(Th.ws (.l ts)).map cs++w1 [] L
 | ts,L,h=>by
  have ih:=segs_t ts (41::32::L) h;rw [z1z,Th.ws];simp only [Y0q,Y07,Y0n,Y05,Y0j,Y0k];rw [ZV,w1,if_neg (by decide),ZV,ih,w1,if_neg (by decide),ZV,UG,UH];rfl
theorem segs_t:∀ (ts:List Th) (L:List Nat),Th.wqs ts->w1 [] (Sn (zC [32] (Th.txs ts))++32::L)=(Th.wss ts).map cs++w1 [] L
 | [],L,h=>by
  rw [Th.txs,Th.wss,zC];show w1 [] (32::L)=_;rw [ZV];rfl
 | [t],L,h=>by
  rw [Th.wqs] at h;rw [Th.txs,Th.txs,zC,Th.wss,Th.wss,Y14];exact z20 t L h.1
 | t::u::r,L,h=>by
  rw [Th.wqs] at h;have a:=z20 t (Sn (zC [32] (Th.txs (u::r)))++32::L) h.1;have b:=segs_t (u::r) L h.2;rw [Th.txs,Th.wss];rw [Th.txs] at a b ⊢;rw [zC,ON 32 z6r,Y07,Y0q,a,b,Y0j,Y07]
end
noncomputable def Th.isL:Th->Prop
 | .w _=>False
 | .l _=>True
theorem WL:∀ (ts:List Th) (L:List Nat),Th.wqs ts->(∀ t∈ts,t.isL)->w1 [] (Sn (zC [10] (Th.txs ts))++L)=(Th.wss ts).map cs++w1 [] L
 | [],L,h,_=>by rw [Th.txs,Th.wss,zC];rfl
 | [.w x],L,h,q=>(q _ (Y08 ..)).elim
 | [.l us],L,h,q=>by
  rw [Th.wqs,Th.wq] at h;rw [Th.txs,Th.txs,zC,Th.wss,Th.wss,Y14,Th.tx];exact seg_l us L h.1
 | .w x::u::r,L,h,q=>(q _ (Y08 ..)).elim
 | .l us::u::r,L,h,q=>by
  rw [Th.wqs,Th.wq] at h;have a:=seg_l us (32::(Sn (zC [10] (Th.txs (u::r)))++L)) h.1;have b:=WL (u::r) L h.2 λ t ht=>q t (Y06 _ ht);rw [Th.txs,Th.wss,Th.tx];rw [Th.txs] at a b ⊢;rw [zC,ON 10 z6s,Y07,Y0q,a,ZV,b,Y0j,Y07];rfl
mutual
theorem z6t:∀ t:Th,t.wq->(Sn t.tx).length+1<=t.wl
 | .w x,h=>by
  rw [Th.wq] at h;rw [Th.tx,Th.wl,ZO _ λ c hc=>⟨(h.ch c hc).1,(h.ch c hc).2.2.1,(h.ch c hc).2.2.2.1⟩];exact Y09 _
 | .l ts,h=>by
  rw [Th.wq] at h
  have:=wl_ts 32 z6r ts h
  rw [Th.tx,Th.wl,z1z];simp only [Y01,Y03,Y0x];omega
theorem wl_ts (c:Nat)(hc:sg c=[32]):∀ ts:List Th,Th.wqs ts->(Sn (zC [c] (Th.txs ts))).length<=Th.wls ts
 | [],_=>by rw [Th.txs,Th.wls,zC];exact Y09 _
 | [t],h=>by
  rw [Th.wqs] at h
  have:=z6t t h.1
  rw [Th.txs,Th.txs,zC,Th.wls];omega
 | t::u::r,h=>by
  rw [Th.wqs] at h;have a:=z6t t h.1;have b:=wl_ts c hc (u::r) h.2;rw [Th.txs,Th.wls];rw [Th.txs] at b ⊢;rw [zC,ON c hc,Y03,Y01];omega
end
mutual
theorem z6u:∀ t:Th,t.ws.length<=t.wl
 | .w x=>by rw [Th.ws,Th.wl];simp
 | .l ts=>by
  have:=wss_wl ts
  rw [Th.ws,Th.wl];simp only [Y01,Y03,Y0x];omega
theorem wss_wl:∀ ts:List Th,(Th.wss ts).length<=Th.wls ts
 | []=>by rw [Th.wss,Th.wls];exact Y09 _
 | t::r=>by
  have a:=z6u t;have b:=wss_wl r;rw [Th.wss,Th.wls,Y03];omega
end
theorem OO (m:Nat):∀ ws:List Str,(∀ x∈ws,(cs x).length<=m)->Th.wls (ws.map Th.w)<=(m+1)*ws.length
 | [],_=>by simp [Th.wls]
 | x::r,h=>by
  have a:=h x (Y08 ..);have b:=OO m r λ y hy=>h y (Y06 _ hy);rw [Y05,Th.wls,Th.wl,Y01,Nat.mul_add];omega
theorem OP (k:Kd)(n:Nat)(h:Kd.wd k n):Th.wls ((Kd.heads k).map Th.w)<=33:=by
  cases k with
  | num m=>simp [Kd.heads,Th.wls]
  | var x=>simp [Kd.heads,Th.wls]
  | op s=>simp only [Kd.heads,Y05,Y0k,Th.wls,Th.wl];have:=Sg.len h;omega
  | lett x => simp only [Kd.heads, Y05, Y0k, Th.wls, Th.wl];have := Nm.le h;have : (cs "let").length = 3 := by decide
              omega
  | ite=>decide
  | call f g =>
    have:=Nm.le h.1
    have c1:(cs "call").length=4:=by decide
    have c2:(cs "hand").length=4:=by decide
    cases g with
    | none=>simp only [Kd.heads,Y05,Y0k,Th.wls,Th.wl];omega
    | some g=>simp only [Kd.heads,Y05,Y0k,Th.wls,Th.wl];have:=(h.2 g rfl).le;omega
  | doo x => simp only [Kd.heads, Y05, Y0k, Th.wls, Th.wl];have := Nm.le h;have : (cs "do").length = 2 := by decide
             omega
  | handle x => simp only [Kd.heads, Y05, Y0k, Th.wls, Th.wl];have := Nm.le h;have : (cs "handle").length = 6 := by decide
                omega
  | go=>decide
  | guard=>decide
mutual
theorem z4y:∀ g:G,wdG g->(th g).wl<=4*ms g
 | .nd k ps,h=>by
  rw [wdG] at h;have b:=wl_gs ps h.2;rw [th,ms];cases e:Kd.leaf k with
  | some x =>
   have:=(OG h.1 e).len
   simp only;rw [Th.wl];omega
  | none =>
   have:=OP k _ h.1
   simp only;rw [Th.wl,ye];omega
theorem wl_gs:∀ gs:List G,wdGs gs->Th.wls (ths gs)<=4*mss gs
 | [],_=>by rw [ths,Th.wls];omega
 | g::r,h=>by
  rw [wdGs] at h;have a:=z4y g h.1;have b:=wl_gs r h.2;rw [ths,Th.wls,mss];omega
end
theorem z6v (w:Str)(hw:(cs w).length<=3)(q:List Str×G)(n:Nat)(h:okQ q n):(thQ w q).wl<=11+9*n+4*ms q.2:=by
 have a:=z4y q.2 h.2.2.1;have b:=OO 8 q.1 λ x hx=>(h.1 x hx).le
 have:=h.2.1
 rw [thQ,Th.wl,Th.wls,Th.wl,ye,Th.wls,Th.wls];omega
theorem z21 (w:Str)(hw:(cs w).length<=3):∀ qs:List (List Str×G),(∀ q∈qs,okQ q 3)->Th.wls (qs.map (thQ w))<=38*qs.length+4*(qs.map (K14.ms∘λ x=>x.2)).sum
 | [],_=>by simp [Th.wls]
 | q::r,h=>by
  have a:=z6v w hw q 3 (h q (Y08 ..));have b:=z21 w hw r λ y hy=>h y (Y06 _ hy);rw [Y05,Th.wls,Y01,Y05,Y0v];simp only [Function.comp] at *
  omega
theorem z8b (i:Itm)(g:ItG i):(thI i).wl<=18000:=by
 have sz:=g.sz;cases i with
 | fn f ps b t =>
  obtain ⟨h1,h2,h3,h4,h5,h6⟩:=g.wd;have a:=z4y t h5;have c:=OO 8 ps λ x hx=>(h2 x hx).le;have c0:=h1.le;have d:Th.wls (b.toList.map Th.w)<=9:=by
   cases b with
   | none=>simp [Th.wls]
   | some x=>have:=(h4 x rfl).le;simp only [Option.toList,Y05,Y0k,Th.wls,Th.wl];omega
  have e:(cs "def").length=3:=by decide
  simp only [trs,Y05,Y0k,Y0v,Y1r] at sz;rw [thI,Th.wl,Th.wls,Th.wls,Th.wls,ye,Th.wls,Th.wls,Th.wl,Th.wl,Th.wl];omega
 | hd n qs e =>
  obtain ⟨h1,h2,h3,h4⟩:=g.wd;have a:=z6v "end" (by decide) e 2 h4;have b:=z21 "on" (by decide) qs h2;have c:=h1.le;have d:(cs "handler").length=7:=by decide
  simp only [trs,Y0j,Y15,Y05,Y0k,Y1o,Y0v,Y1r] at sz;rw [thI,Th.wl,Th.wls,Th.wls,ye,Th.wls,Th.wls,Th.wl,Th.wl];omega
theorem OQ:∀ is:List Itm,(∀ i∈is,ItG i)->Th.wls (is.map thI)<=18000*is.length
 | [],_=>by simp [Th.wls]
 | i::r,h=>by
  have a:=z8b i (h i (Y08 ..));have b:=OQ r λ y hy=>h y (Y06 _ hy);rw [Y05,Th.wls,Y01];omega
theorem OR (is:List Itm):∀ t∈is.map thI,t.isL:=λ t ht=>by
 obtain ⟨i,_,rfl⟩:=Y0z.mp ht;cases i<;>rw [thI]<;>trivial
theorem WM (is:List Itm):cs (nlJ is)=zC [10] (Th.txs (is.map thI)):=by
 unfold nlJ;rw [we,je,Y15,Y15,show cs "\n"=[10] by decide]
 congr 1
 exact Y2g λ i _=>by show cs (mkS i.tx)=_;rw [zT,z4x];rfl
theorem W0 (is:List Itm)(h:∀ i∈is,ItG i):w1 [] (Sn (cs (nlJ is)))=(Th.wss (is.map thI)).map cs:=by
 have:=WL (is.map thI) [] (ZU h) (OR is)
 rw [Y14,w1,show fl []=[] from rfl,Y14,<- WM] at this;exact this
theorem UM (is:List Itm)(h:∀ i∈is,ItG i):(Sn (cs (nlJ is))).length<=18000*is.length:=by
 rw [WM];exact Y0t (wl_ts 10 z6s _ (ZU h)) (OQ is h)
theorem VH (is js:List Itm)(s:List Nat)(hs:Sp s)(h:∀ i∈is,ItG i)(h2:∀ i∈js,ItG i):w1 [] (Sn (cs (nlJ is)++s++cs (nlJ js)))=(Th.wss ((is++js).map thI)).map cs:=by
 have a:=WL (is.map thI) (Sn s++Sn (cs (nlJ js))) (ZU h) (OR is);have b:=W0 js h2;rw [<- WM] at a;rw [qH,qH,Y07,a,Ox s [] _ hs,b,Y0j,Uy,Y0j]
 split<;>rfl
theorem YL (c:Nat)(hc:c<1114112):∀ ts:List (List Nat),(∀ x∈ts,∀ d∈x,d<1114112)->∀ d∈zC [c] ts,d<1114112
 | [],_=>by rw [zC];intro d hd;cases hd
 | [x],h=>by rw [zC];exact h x (Y08 ..)
 | x::y::r,h=>by
  rw [zC];intro d hd;rcases Y0f.mp hd with hd | hd
  ·rcases Y0f.mp hd with hd | hd
   ·exact h x (Y08 ..) d hd
   ·rw [Y0a.mp hd];exact hc
  ·exact YL c hc (y::r) (λ z hz=>h z (Y06 _ hz)) d hd
mutual
theorem z8c:∀ t:Th,t.wq->∀ c∈t.tx,c<1114112
 | .w x,h=>by
  rw [Th.wq] at h;rw [Th.tx];exact λ c hc=>(h.ch c hc).2.2.2.2
 | .l ts,h=>by
  rw [Th.wq] at h;rw [Th.tx]
  have:=YL 32 (by decide) _ (lt_ts ts h)
  intro c hc;unfold brk at hc;rcases Y0b.mp hc with rfl | hc
  ·decide
  ·rcases Y0f.mp hc with hc | hc
   ·exact this c hc
   ·rw [Y0a.mp hc];decide
theorem lt_ts:∀ ts:List Th,Th.wqs ts->∀ x∈Th.txs ts,∀ c∈x,c<1114112
 | [],_=>by rw [Th.txs];intro x hx;cases hx
 | t::r,h=>by
  rw [Th.wqs] at h;rw [Th.txs];intro x hx;rcases Y0b.mp hx with rfl | hx
  ·exact z8c t h.1
  ·exact lt_ts r h.2 x hx
end
theorem UN {is:List Itm}(h:∀ i∈is,ItG i):∀ c∈cs (nlJ is),c<1114112:=by
 rw [WM];exact YL 10 (by decide) _ (lt_ts _ (ZU h))
theorem z0z (js:List Itm)(m:Int)(hm:0<=m)(h:Hh):jS (.tup (js.map Itm.d)) none (some m) h=.ok (.tup ((js.take m.toNat).map Itm.d)) h:=by
 unfold jS;dsimp only;unfold jc;rw [jQ,jU _ _ _ hm,List.drop_zero,Nat.sub_zero,Y0c];have e:List.take (min m.toNat js.length) (js.map Itm.d)=(js.take m.toNat).map Itm.d:=by
  rw [<- List.map_take]
  congr 1
  rw [List.take_eq_take_iff];omega
 rw [e]
 split
 ·rename_i q;rw [List.take_of_length_le (by omega)]
 ·rfl
theorem z6w {is:List Itm}(h:∀ i∈is,ItG i)(hl:is.length<=100):Pl 52 (.tup (is.map Itm.d)):=.tup 51 _ (λ x hx=>by obtain ⟨i,hi,rfl⟩:=Y0z.mp hx;exact z89 i (h i hi)) (by simp;omega)
noncomputable def joins:List Str:=["\n",""," \n"]
theorem OS {x:Str}(h:x∈joins):Sp (cs x)/\(cs x).length<=2/\(∀ c∈cs x,c<1114112):=by
 simp only [joins,Y0b,Y0p,or_false] at h;rcases h with rfl | rfl | rfl
 ·exact ⟨λ c hc=>.inr (Y0a.mp hc),by decide,by decide⟩
 ·exact ⟨(λ c hc=>by rw [OH] at hc;cases hc),by decide,by decide⟩
 ·refine ⟨λ c hc=>?_,by decide,by decide⟩
  have:c∈[32,10]:=hc
  simpa using this
theorem z10 (v:Int)(h0:0<=v)(h1:v<3)(h:Hh)(n:Nat)(g:h[n]?=some (.lst (joins.map D.str))):∃ x∈joins,zY (.loc n) (.int v) h=.ok (.str x) h:=by
 have:v=0\/v=1\/v=2:=by omega
 rcases this with rfl | rfl | rfl
 ·exact ⟨"\n",by simp [joins],jj g rfl⟩
 ·exact ⟨"",by simp [joins],jj g rfl⟩
 ·exact ⟨" \n",by simp [joins],jj g rfl⟩
section
variable {cl:Nat->List D->Hh->Res D}
structure LawC (cl:Nat->List D->Hh->Res D):Prop where
 any:qK cl 39 40
 pr:qK cl 36 4
 ce:yx cl
 sh:∀ (is:List Itm) (h:Hh),(∀ i∈is,ItG i)->is.length<=40->∃ J,cl 18 [.tup (is.map Itm.d)] h=.ok (.str (nlJ is)) (h++J)
 re:∀ (T:List Nat) (is:List Itm) (h:Hh),(∀ i∈is,ItG i)->is.length<=40->w1 [] (Sn T)=(Th.wss (is.map thI)).map cs->(Sn T).length<=900000->(∀ c∈T,c<1114112)->∃ J,cl 2 [.str (mkS T)] h=.ok (.tup (is.map Itm.d)) (h++J)
 ak:∀ d,Pl 52 d->WF cl d
theorem z6x {ns:List Int}(hb:∀ n∈ns,zG n=true)(C:LawC cl):∃ h',d_law.run cl [scr ns] []=.ok (.bl true) h':=by
 have s0:∀ h,Sc (scr ns) ns h:=λ h=>.inl rfl;obtain ⟨is,h1,e1,hi,il,_⟩:=C.any (scr ns) ns [] (s0 _) hb;obtain ⟨J2,e2⟩:=C.sh is h1 hi il;have L1:=UM is hi;obtain ⟨J3,e3⟩:=C.re (cs (nlJ is)) is (h1++J2) hi il (W0 is hi) (by omega) (UN hi);rw [JO] at e3;obtain ⟨J4,e4⟩:=C.ak _ (z6w hi (by omega)) (h1++J2++J3);obtain ⟨J5,e5⟩:=C.sh is (h1++J2++J3++J4) hi il;obtain ⟨h5,q5⟩:∃ h5,h5=h1++J2++J3++J4++J5:=⟨_,rfl⟩;rw [<- q5] at e5;obtain ⟨c,c28,c0,c1⟩:=C.ce (scr ns) ns h5 0 (s0 _) (by decide) hb;obtain ⟨c',c28',c0',c1'⟩:=C.ce (scr ns) ns h5 1 (s0 _) (by decide) hb;obtain ⟨xs,hxs,hxm,hxl⟩:=ZP ns 9 40 (by decide) (by decide);have xl:xs.length<=40:=by have:(40:Int).toNat=40:=rfl;omega
 have ad:jr .Add (.loc h5.length) (.loc (h5++[O.lst [D.int (c/16)]]).length) (h5++[O.lst [D.int (c/16)]]++[O.lst (xs.map D.int)])=.ok (.loc (h5++[O.lst [D.int (c/16)]]++[O.lst (xs.map D.int)]).length) (h5++[O.lst [D.int (c/16)]]++[O.lst (xs.map D.int)]++[O.lst ((c/16::xs).map D.int)]):=by
  rw [bin_addl,hx0,z9 (show (h5++[O.lst [D.int (c/16)]])[h5.length]?=some (O.lst [D.int (c/16)]) by rw [hx0];rfl)];show (if [D.int (c/16)].length+(xs.map D.int).length<=1000000 then _ else _)=_;rw [if_pos (by simp;omega)];rfl
 obtain ⟨h6,q6⟩:∃ h6,h6=h5++[O.lst [D.int (c/16)]]++[O.lst (xs.map D.int)]:=⟨_,rfl⟩;rw [<- q6] at ad;obtain ⟨js,h7,e7,hj,jl,_⟩:=C.pr (.loc h6.length) (c/16::xs) (h6++[O.lst ((c/16::xs).map D.int)]) (.inr ⟨_,rfl,by rw [hx0];rfl⟩) (by
  intro n hn;rcases Y0b.mp hn with rfl | hn
  ·exact jh (by omega)
  ·exact hb n (hxm n hn))
 obtain ⟨ks,hks⟩:∃ ks,ks=js.take ((40:Int)-(is.length:Nat)).toNat:=⟨_,rfl⟩;have ct:=z0z js ((40:Int)-(is.length:Nat)) (by omega) h7;rw [<- hks] at ct;have hk:∀ i∈ks,ItG i:=λ i m=>hj i (by rw [hks] at m;exact Y36 m);have kl:is.length+ks.length<=40:=by rw [hks,Y21];omega
 obtain ⟨x,xm,e8⟩:=z10 (c'%3) (by omega) (by omega) (h7++[.lst (joins.map D.str)]) h7.length (by rw [hx0];rfl);obtain ⟨p1,p2,p3⟩:=OS xm;have L2:=UM ks hk;have hA:∀ i∈is++ks,ItG i:=λ i m=>(Y0f.mp m).elim (hi i) (hk i);have T1:=Oy (cs (nlJ is));have T2:=Oy (cs (nlJ ks));obtain ⟨J9,e9⟩:=C.sh ks (h7++[.lst (joins.map D.str)]) hk (by omega);obtain ⟨J10,e10⟩:=C.re (cs (nlJ is)++cs x++cs (nlJ ks)) (is++ks) (h7++[.lst (joins.map D.str)]++J9) hA (by rw [Y03];omega) (VH is ks (cs x) p1 hi hk) (by
  rw [qH,qH,Y03,Y03,JQ p1];omega) (by
  intro d hd;rcases Y0f.mp hd with hd | hd
  ·rcases Y0f.mp hd with hd | hd
   ·exact UN hi d hd
   ·exact p3 d hd
  ·exact UN hk d hd)
 obtain ⟨J11,e11⟩:=C.ak _ (z6w hA (by rw [Y03];omega)) (h7++[.lst (joins.map D.str)]++J9++J10);have tx:nlJ is++x++nlJ ks=mkS (cs (nlJ is)++cs x++cs (nlJ ks)):=qD (by rw [zT,zD,zD]);rw [<- tx] at e10;have a1:∀ h,jr .Add (.str (nlJ is)) (.str x) h=.ok (.str (nlJ is++x)) h:=λ h=>by
  rw [bin_adds,if_pos (by rw [PI.cs_len,PI.cs_len];omega)]
 have a2:∀ h,jr .Add (.str (nlJ is++x)) (.str (nlJ ks)) h=.ok (.str (nlJ is++x++nlJ ks)) h:=λ h=>by
  rw [bin_adds,if_pos (by rw [PI.cs_len,PI.cs_len,zD,Y03];omega)]
 have ok1:PyData.strOk (nlJ is)=true:=Qg (UN hi);have ne:∀ h,jf .NotEq (.str (nlJ is)) (.str (nlJ is)) h=.ok (.bl false) h:=λ h=>by rw [neS ok1 ok1];simp
 have lt:∀ h,jL (.tup (is.map Itm.d)) h=.ok (.int (is.length:Nat)) h:=λ h=>by
  show Res.ok (D.int ((is.map Itm.d).length:Nat)) h=_;rw [Y0c]
 rw [Y0j] at e10 e11;refine ⟨h7++[.lst (joins.map D.str)]++J9++J10++J11,zh (ze (zb rfl e1) (ze (zb rfl e2) (zf (ZI (b:=true) rfl) (ze (zb rfl e3) (zf (ZI (b:=true) (bnd (zP rfl rfl e4) rfl)) (zf (zk (zb rfl e5) rfl (ne _)) ?_))))))⟩;refine ze (d:=.tup (ks.map Itm.d)) (h':=h7) (bnd (zb ?_ e7) (bnd rfl (bnd (O3 (i:=(40:Int)-(is.length:Nat)) (bnd rfl (bnd (bnd rfl (lt _)) rfl))) ct))) ?_
 ·refine bnd (x:=.loc h5.length) (h:=h5++[.lst [.int (c/16)]]) ?_ (bnd (x:=.loc (h5++[O.lst [D.int (c/16)]]).length) (h:=h6) ?_ ad)
  ·exact bnd (x:=[D.int (c/16)]) (h:=h5) (bnd (x:=[D.int (c/16)]) (h:=h5) (zi (bnd (zP rfl rfl (c28 _ (s0 _))) (bnd rfl fdk)) rfl) rfl) rfl
  ·refine bnd rfl (bnd rfl (bnd rfl (((s0 _).cut _ _).trans (by rw [hxs,q6]))))
 ·refine ze (d:=.str x) (h':=h7++[.lst (joins.map D.str)]) (bnd (x:=.loc h7.length) (h:=h7++[.lst (joins.map D.str)]) rfl (bnd (bnd (zP rfl rfl (c28' _ (s0 _))) (bnd rfl mdk)) e8)) ?_;refine zg (zP (zb (bnd (bnd rfl (bnd rfl (a1 _))) (bnd (zb rfl e9) (a2 _))) e10) (Ol rfl rfl (by simp;omega)) e11)
end
theorem yz (k:Nat):jO (callI defs (k+1)):=λ c h=>by
 obtain ⟨w,J,e,ww⟩:=z4e (callI defs k) c h;exact ⟨w,J,(z8 (d:=d_law_name) rfl rfl).trans e,ww⟩
theorem YM (k nf:Nat):qI (callI defs (k+1)) nf:=λ n h hF=>by
 obtain ⟨v,h',e,r⟩:=z4f (callI defs k) nf n h hF;exact ⟨v,h',(z8 (d:=d_law_next) rfl rfl).trans e,r⟩
theorem YN (nf:Nat):∀ (d k:Nat),wW (callI defs (k+d+2)) nf d
 | 0,k=>λ n h hF=>by
  obtain ⟨g,h',n',e,r⟩:=OB (callI defs (k+0+1)) nf 0 (YM (k+0) nf) (yz (k+0)) (λ d' hd'=>by cases hd') n h hF;exact ⟨g,h',n',(z8 (d:=d_law_part) rfl rfl).trans e,r⟩
 | d+1,k=>λ n h hF=>by
  obtain ⟨g,h',n',e,r⟩:=OB (callI defs (k+(d+1)+1)) nf (d+1) (YM (k+(d+1)) nf) (yz (k+(d+1))) (λ d' hd'=>by
   have:d=d':=by omega
   subst this
   have:=YN nf d k
   rw [show k+d+2=k+(d+1)+1 by omega] at this;exact this) n h hF
  exact ⟨g,h',n',(z8 (d:=d_law_part) rfl rfl).trans e,r⟩
theorem OT (k:Nat):QC (callI defs (k+24)):=λ nf e n h he hn hF=>by
 have p4:=YN nf e (k+(21-e));have p5:=YN nf (e+1) (k+(20-e));rw [show k+(21-e)+e+2=k+23 by omega] at p4;rw [show k+(20-e)+(e+1)+2=k+23 by omega] at p5;obtain ⟨i,h',n',e',r⟩:=z0l (callI defs (k+23)) nf e he (YM (k+22) nf) (yz (k+22)) p4 p5 n hn h hF;exact ⟨i,h',n',(z8 (d:=d_law_item) rfl rfl).trans e',r⟩
theorem z4z (k:Nat):OC (callI defs (k+2)):=λ c d h h0 h1 h2=>by
 obtain ⟨t,J,e,r⟩:=z4i (callI defs (k+1)) (yz k) c d h0 h1 h2 h;exact ⟨t,J,(z8 (d:=d_law_nest) rfl rfl).trans e,r⟩
theorem WN (k:Nat):yx (callI defs (k+1)):=λ d ns h c s hc hb=>by
 obtain ⟨v,e,r⟩:=z0m (callI defs k) h d ns s c hc hb;exact ⟨v,λ h' s'=>(z8 (d:=d_law_cell) rfl rfl).trans (e h' s'),r⟩
theorem z50 (k:Nat):YI (callI defs (k+1)):=λ c h=>by
 obtain ⟨nf,h',e,r⟩:=z4l (callI defs k) c h;exact ⟨nf,h',(z8 (d:=d_law_feed) rfl rfl).trans e,r⟩
theorem z11 (k:Nat):UD (callI defs (k+1)):=λ n zs h g hz hl=>by
 obtain ⟨nf,h',e,r⟩:=z0o (callI defs k) n zs h g hz hl;exact ⟨nf,h',(z8 (d:=d_law_mixed) rfl rfl).trans e,r⟩
theorem W1 (k:Nat):qK (callI defs (k+25)) 36 4:=λ d ns h s hb=>by
 obtain ⟨is,h',e,r⟩:=VD (callI defs (k+24)) (WN (k+23)) (z11 (k+23)) (yz (k+23)) (OT k) (z4z (k+22)) d ns h s hb;exact ⟨is,h',(z8 (d:=d_law_program) rfl rfl).trans e,r⟩
theorem z12 (k:Nat):qK (callI defs (k+2)) 38 40:=λ d ns h s hb=>by
 obtain ⟨is,h',e,r⟩:=z0r (callI defs (k+1)) (WN k) (yz k) d ns h s hb;exact ⟨is,h',(z8 (d:=d_law_large) rfl rfl).trans e,r⟩
theorem z6y (k:Nat):qK (callI defs (k+26)) 39 40:=λ d ns h s hb=>by
 obtain ⟨is,h',e,r⟩:=z6o (callI defs (k+25)) (WN (k+24)) (z50 (k+24)) (OT (k+1)) (W1 k) (z12 (k+23)) d ns h s hb;exact ⟨is,h',(z8 (d:=d_law_any) rfl rfl).trans e,r⟩
theorem z51 (k:Nat):Cw (callI defs (k+3)) where
 ex g h hw hm:=by
  obtain ⟨J,e⟩:=z0v (callI defs (k+2)) (λ W h hW hl=>by
   obtain ⟨J,e,r⟩:=OE (callI defs (k+1)) W hW h hl;exact ⟨J,(z8 (d:=d_spread) rfl rfl).trans e,r⟩) (λ kd ps h hk hl=>(z8 (d:=d_things_of) rfl rfl).trans (OF (callI defs (k+1)) (λ f g ps h hl=>(z8 (d:=d_call_things) rfl rfl).trans (z0s (callI defs k) f g ps h hl)) kd ps h hk hl)) g h hw hm
  exact ⟨J,(z8 (d:=d_expression_text) rfl rfl).trans e⟩
 bl h n ws e hl:=(z8 (d:=d_bracketed) rfl rfl).trans (VE (callI defs (k+2)) h n ws e hl)
 bt h ws hl:=(z8 (d:=d_bracketed) rfl rfl).trans (VF (callI defs (k+2)) h ws hl)
theorem z13 (k:Nat)(w:Str)(q:List Str×G)(n:Nat)(h:Hh)(hn:n<=10)(hw:Wd w)(hq:okQ q n):∃ J,callI defs (k+4) 22 [.str w,hdD q.1 q.2] h=.ok (.str (mkS (hdT w q.1 q.2))) (h++J):=by
 obtain ⟨J,e⟩:=z4t (callI defs (k+3)) (z51 k) w q.1 q.2 h hw (λ x hx=>(hq.1 x hx).wd) (by have:=hq.2.1;omega) hq.2.2.1 hq.2.2.2;exact ⟨J,(z8 (d:=d_headed_text) rfl rfl).trans e⟩
theorem z14 (k:Nat)(i:Itm)(h:Hh)(hw:ItG i):∃ J,callI defs (k+6) 19 [i.d] h=.ok (.str (mkS i.tx)) (h++J):=by
 obtain ⟨J,e⟩:=z0w (callI defs (k+5)) (λ f ps b g h hw=>by
  obtain ⟨J,e⟩:=QJ (callI defs (k+4)) (z51 (k+1)) f ps b g h hw;exact ⟨J,(z8 (d:=d_function_text) rfl rfl).trans e⟩) (λ n q e h hw=>by
  obtain ⟨J,e'⟩:=YK (callI defs (k+4)) (z51 (k+1)) (λ w q n h hn hw hq=>z13 k w q n h hn hw hq) n q e h hw;exact ⟨J,(z8 (d:=d_handler_text) rfl rfl).trans e'⟩) i h hw
 exact ⟨J,(z8 (d:=d_item_text) rfl rfl).trans e⟩
theorem z15 (k:Nat)(is:List Itm)(h:Hh)(hw:∀ i∈is,ItG i)(hl:is.length<=40):∃ J,callI defs (k+7) 18 [.tup (is.map Itm.d)] h=.ok (.str (nlJ is)) (h++J):=by
 obtain ⟨J,e⟩:=z0y (callI defs (k+6)) (λ i h hw=>z14 k i h hw) is h hw hl;exact ⟨J,(z8 (d:=d_shown) rfl rfl).trans e⟩
theorem UO:∀ {ps:List G}{g:G},g∈ps->ms g<=mss ps/\dp g<=dps ps
 | p::r,g,h=>by
  rw [mss,dps];rcases Y0b.mp h with rfl | h
  ·exact ⟨by omega,by omega⟩
  ·have:=UO h;exact ⟨by omega,by omega⟩
theorem UP (k:Nat):∀ (n:Nat) (d:D),Pl n d->WF (callI defs (k+n+1)) d
 | 0,d,q=>λ h=>by
  obtain ⟨J,e⟩:=UB (cl:=callI defs (k+0)) q (λ m hm=>by cases hm) h;exact ⟨J,(z8 (d:=d_law_alike) rfl rfl).trans e⟩
 | n+1,d,q=>λ h=>by
  obtain ⟨J,e⟩:=UB (cl:=callI defs (k+(n+1))) q (λ m hm x hx=>by
   have:n=m:=by omega
   subst this;exact UP k n x hx) h
  exact ⟨J,(z8 (d:=d_law_alike) rfl rfl).trans e⟩
theorem OU (k:Nat):Oh (callI defs (k+1)):=λ x h m=>by
 obtain ⟨J,e⟩:=Vs (cl:=callI defs k) m h;exact ⟨J,(z8 (d:=d_is_name) rfl rfl).trans e⟩
theorem z16 (k:Nat):y8 (callI defs (k+1)):=⟨λ n x h m=>by
  obtain ⟨J,e⟩:=Jg (cl:=callI defs k) m h;exact ⟨J,(z8 (d:=d_is_number) rfl rfl).trans e⟩,λ x h m=>by
  obtain ⟨J,e⟩:=Jh (cl:=callI defs k) m h;exact ⟨J,(z8 (d:=d_is_number) rfl rfl).trans e⟩⟩
theorem jF (k:Nat):jE (callI defs (k+2)):=λ x h m=>by
 obtain ⟨J,e⟩:=Vt (cl:=callI defs (k+1)) (OU k) m h;exact ⟨J,(z8 (d:=d_name_of) rfl rfl).trans e⟩
theorem ZW (k:Nat):wx (callI defs (k+1)):=λ n w r h g=>(z8 (d:=d_head_of) rfl rfl).trans (Vu (cl:=callI defs k) g)
theorem z17 (k:Nat):Z0 (callI defs (k+3)):=λ n ps h g m l=>by
 obtain ⟨J,e⟩:=YC (cl:=callI defs (k+2)) (jF k) g m l;exact ⟨J,(z8 (d:=d_names_of) rfl rfl).trans e⟩
theorem OV (k:Nat)(sl:List Sl)(hl:sl.length<=1000)(hs:∀ s∈sl,match s with | .nm x=>Nm x | .pt g=>wv (callI defs (k+2)) g):ZM (callI defs (k+4)) sl:=λ h n ds g a=>by
 obtain ⟨J,e⟩:=Oj (cl:=callI defs (k+3)) sl (λ s hm h d a=>by
  obtain ⟨J,e⟩:=Vv (cl:=callI defs (k+2)) (jF k) s (hs s hm) h d a;exact ⟨J,(z8 (d:=d_read_as) rfl rfl).trans e⟩) hl h n ds g a
 exact ⟨J,(z8 (d:=d_formed) rfl rfl).trans e⟩
theorem UQ (k:Nat)(gs:List G)(hl:gs.length<=1000000)(hs:∀ g∈gs,wv (callI defs (k+2)) g):WA (callI defs (k+3)) gs:=λ h n ds g a=>by
 obtain ⟨J,e⟩:=z0h (cl:=callI defs (k+2)) gs hs hl h n ds g a;exact ⟨J,(z8 (d:=d_expressions_of) rfl rfl).trans e⟩
theorem z6z (k:Nat)(ps:List G)(hl:ps.length<=1000000)(hs:∀ g∈ps,wv (callI defs (k+2)) g):ExC (callI defs (k+4)) ps where
 hd:=ZW (k+3)
 nb:=z16 (k+3)
 nm:=jF (k+2)
 fo sl h l:=OV k sl (by omega) (λ s hm=>by
  have:=h s hm
  cases s with
  | nm x=>exact this
  | pt g=>exact hs g this)
 ca f hf h n ds g a:=by
  obtain ⟨J,e⟩:=Vw (cl:=callI defs (k+3)) (jF (k+1)) f ps hf (UQ k ps hl hs) h n ds g a;exact ⟨J,(z8 (d:=d_call_of) rfl rfl).trans e⟩
 ha f f2 hf hf2 h n ds g a:=by
  obtain ⟨J,e⟩:=Vx (cl:=callI defs (k+3)) (jF (k+1)) f f2 ps hf hf2 (UQ k ps hl hs) h n ds g a;exact ⟨J,(z8 (d:=d_hand_of) rfl rfl).trans e⟩
theorem YO (k:Nat):∀ (n:Nat) (g:G),dp g<=n->wdG g->ms g<=90000->g.ok=true->wv (callI defs (k+3*n+2)) g
 | 0,.nd kd ps,hd,_,_,_=>by rw [dp] at hd;omega
 | n+1,.nd kd ps,hd,hw,hm,ho=>λ h d a=>by
  rw [dp] at hd;rw [wdG] at hw;rw [ms] at hm;rw [G.ok,Y0g,yV] at ho;have hl:ps.length<=1000000:=by
   have:∀ l:List G,l.length<=mss l:=by
    intro l
    induction l with
    | nil=>simp
    | cons a r ih=>rw [mss,Y01];omega
   have:=this ps
   omega
  obtain ⟨J,e⟩:=z46 (cl:=callI defs (k+3*n+4)) kd ps hw.1 ho.1 (z6z (k+3*n) ps hl (λ g hg=>by
   have a:=UO hg;exact YO k n g (by omega) (wdGs_mem.mp hw.2 g hg) (by omega) (Y11.mp ho.2 g hg))) h d a
  exact ⟨J,(z8 (d:=d_expression_of) rfl rfl).trans e⟩
theorem QK (k:Nat) (w:Str) (hw:PyData.strOk w=true) (form:List Str) (q:List Str×G) (n:Nat) (hn:n<=100) (hf:form=List.replicate n ("name":Str)++[("part":Str)]) (h:okQ q n) (ho:q.2.ok=true) (hd:dp q.2<=24):ZN (callI defs (k+77)) w form q:=λ h' d a=>by
 obtain ⟨J,e⟩:=Oo (cl:=callI defs (k+76)) (ZW (k+75)) w hw form q (by rw [hf,<- h.2.1,List.map_const']) (OV (k+72) _ (by have:=h.2.1;simp;omega) (λ s hs=>by
  rcases Y0f.mp hs with hs | hs
  ·obtain ⟨x,hx,rfl⟩:=Y0z.mp hs;exact h.1 x hx
  ·rw [Y0a.mp hs];exact YO k 24 q.2 hd h.2.2.1 (by have:=h.2.2.2;omega) ho)) h' d a
 exact ⟨J,(z8 (d:=d_headed) rfl rfl).trans e⟩
theorem z52 (k:Nat)(i:Itm)(g:ItG i):Op (callI defs (k+78)) i:=λ h n ds gn a=>by
 cases i with
 | fn f ps b t =>
  obtain ⟨h1,h2,h3,h4,h5,h6⟩:=g.wd;have tr:=g.tr t (by simp [trs]);obtain ⟨J,e⟩:=Ji (cl:=callI defs (k+77)) (jF (k+75)) (z17 (k+74)) f ps b t h1 h2 h4 (by omega) (YO (k+3) 24 t tr.2.1 h5 (by omega) tr.1) h n ds gn a;exact ⟨J,(z8 (d:=d_function_of) rfl rfl).trans e⟩
 | hd nm qs e =>
  obtain ⟨h1,h2,h3,h4⟩:=g.wd;have te:=g.tr e.2 (by simp [trs]);rw [Itm.tl,Ats] at a;obtain ⟨x,xs,rfl,a1,a2⟩:=a;rw [At] at a1;subst a1;obtain ⟨J,e'⟩:=WE (cl:=callI defs (k+77)) (jF (k+75)) nm qs e h1 (by omega) (λ q hq=>by
   have tq:=g.tr q.2 (by simp only [trs];exact Y0f.mpr (.inl (Y0z.mpr ⟨q,hq,rfl⟩)));exact QK k _ wd_on.ok j5 q 3 (by decide) rfl (h2 q hq) tq.1 tq.2.1) (QK k _ wd_end.ok jC e 2 (by decide) rfl h4 te.1 te.2.1) h n xs gn a2
  exact ⟨J,(z8 (d:=d_handler_of) rfl rfl).trans e'⟩
theorem OW (k:Nat)(i:Itm)(g:ItG i):Oq (callI defs (k+79)) i:=λ h d a=>by
 obtain ⟨J,e⟩:=Vy (cl:=callI defs (k+78)) (ZW (k+77)) i (z52 k i g) h d a;exact ⟨J,(z8 (d:=d_item_of) rfl rfl).trans e⟩
theorem z53 (k:Nat)(T:List Nat)(is:List Itm)(h:Hh)(hi:∀ i∈is,ItG i)(hl:is.length<=40)(hw:w1 [] (Sn T)=(Th.wss (is.map thI)).map cs)(ht:(Sn T).length<=900000)(hc:∀ c∈T,c<1114112):∃ J,callI defs (k+80) 2 [.str (mkS T)] h=.ok (.tup (is.map Itm.d)) (h++J):=by
 have ln:=OQ is hi;have ln2:=wss_wl (is.map thI);obtain ⟨J,e⟩:=z4a (cl:=callI defs (k+79)) (mkS T) is (by omega) h (by
  obtain ⟨n,J,e,g⟩:=YF (cl:=callI defs (k+78)) T hc ht h;refine ⟨n,J,(z8 (d:=d_words_of) rfl rfl).trans e,?_⟩;rw [g,hw,Y15];rw [show ((λ w=>D.str (mkS w))∘cs)=D.str from funext λ p=>by show D.str (mkS (cs p))=_;rw [JO]]) (λ nw h g=>by
  obtain ⟨m,ds,J,e,r⟩:=Oe (cl:=callI defs (k+78)) nw (is.map thI) h g (wqs_oks _ (ZU hi)) (z4w hi) (by omega);exact ⟨m,ds,J,(z8 (d:=d_nested) rfl rfl).trans e,r⟩) (λ i hm=>OW k i (hi i hm))
 exact ⟨J,(z8 (d:=d_read) rfl rfl).trans e⟩
theorem z70:LawC (callI defs 80) where
 any:=z6y 54
 pr:=W1 55
 ce:=WN 79
 sh is h hi hl:=z15 73 is h hi hl
 re T is h hi hl hw ht hc:=z53 0 T is h hi hl hw ht hc
 ak d q:=UP 27 52 d q
theorem law_true (ns:List Int)(hb:∀ n∈ns,zG n=true):∃ h',callI defs 81 40 [.fl (ns.map .int)] []=.ok (.bl true) h':=by
 obtain ⟨h',e⟩:=z6x hb z70;exact ⟨h',(z8 (d:=d_law) rfl rfl).trans e⟩
noncomputable def top (i:Nat):Stmt:=PySem.Challenge.pw_deedwright_k14_whole_read_again.main.body.getD i (.Pass ⟨0,0,0,0⟩)
theorem dok {st:Stmt}{d:Df}{F:List Str}{G:List (Str×Cn)}{nm q:Str}(h:∀ (kV doc pm:Value) (an:Option Addr) (cdv ct:Value) (us:List Value),us.length=d.ps.length->bindArgs (PySem.W.fnOf nm q (jo st) (zR st) (zd st) .none kV doc pm an cdv ct) ⟨us,[]⟩=pure (d.ps.zip us))(h1:zR st=d.body.py ⟨d.N,F,G⟩:=by rfl)(h2:FnScope d.N d.ps (zd st):=by exact ⟨rfl,rfl,rfl,by decide +kernel,rfl,by decide +kernel,by decide +kernel⟩)(h3:okD d.body (zd st) ⟨d.N,F,G⟩ d.ps=true:=by decide +kernel)(h4:∀ x∈d.N,((zd st).names.lookup x=some .local\/(zd st).names.lookup x=some .cell)/\yE x=true:=by decide +kernel):DefOk st d F G nm q:=⟨h1,h2,h3,h4,h⟩
abbrev DO (i:Nat) (d:Df) (x y:Str):=DefOk (top i) d (defs.map (·.name)) zc x y
theorem VI:DO 13 d_is_name "is_name" "is_name":=dok λ _ _ _ _ _ _=>j2 λ _=>rfl
theorem QL:DO 14 d_is_number "is_number" "is_number":=dok λ _ _ _ _ _ _=>j2 λ _=>rfl
theorem z54:DO 18 d_read "read" "read":=dok λ _ _ _ _ _ _=>j2 λ _=>rfl
theorem YQ:DO 19 d_words_of "words_of" "words_of":=dok λ _ _ _ _ _ _=>j2 λ _=>rfl
theorem OX:DO 20 d_nested "nested" "nested":=dok λ _ _ _ _ _ _=>j2 λ _=>rfl
theorem VJ:DO 21 d_item_of "item_of" "item_of":=dok λ _ _ _ _ _ _=>j2 λ _=>rfl
theorem Jj:DO 22 d_function_of "function_of" "function_of":=dok λ _ _ _ _ _ _=>j2 λ _=>rfl
theorem WO:DO 23 d_handler_of "handler_of" "handler_of":=dok λ _ _ _ _ _ _=>j2 λ _=>rfl
theorem OY:DO 24 d_headed "headed" "headed":=dok λ _ _ _ _ _ _=>z7z λ _ _ _=>rfl
theorem OZ:DO 25 d_formed "formed" "formed":=dok λ _ _ _ _ _ _=>Wi λ _ _=>rfl
theorem VL:DO 26 d_read_as "read_as" "read_as":=dok λ _ _ _ _ _ _=>Wi λ _ _=>rfl
theorem yS:DO 27 d_expression_of "expression_of" "expression_of":=dok λ _ _ _ _ _ _=>j2 λ _=>rfl
theorem VM:DO 28 d_call_of "call_of" "call_of":=dok λ _ _ _ _ _ _=>j2 λ _=>rfl
theorem VN:DO 29 d_hand_of "hand_of" "hand_of":=dok λ _ _ _ _ _ _=>j2 λ _=>rfl
theorem yA:DO 30 d_expressions_of "expressions_of" "expressions_of":=dok λ _ _ _ _ _ _=>j2 λ _=>rfl
theorem VO:DO 31 d_head_of "head_of" "head_of":=dok λ _ _ _ _ _ _=>j2 λ _=>rfl
theorem YR:DO 32 d_names_of "names_of" "names_of":=dok λ _ _ _ _ _ _=>j2 λ _=>rfl
theorem VP:DO 33 d_name_of "name_of" "name_of":=dok λ _ _ _ _ _ _=>j2 λ _=>rfl
theorem z18:DO 35 d_shown "shown" "shown":=dok λ _ _ _ _ _ _=>j2 λ _=>rfl
theorem QM:DO 36 d_item_text "item_text" "item_text":=dok λ _ _ _ _ _ _=>j2 λ _=>rfl
theorem yT:DO 37 d_function_text "function_text" "function_text":=dok λ _ _ _ _ _ _=>j2 λ _=>rfl
theorem ZX:DO 38 d_handler_text "handler_text" "handler_text":=dok λ _ _ _ _ _ _=>j2 λ _=>rfl
theorem Jk:DO 39 d_headed_text "headed_text" "headed_text":=dok λ _ _ _ _ _ _=>Wi λ _ _=>rfl
theorem QN:DO 40 d_bracketed "bracketed" "bracketed":=dok λ _ _ _ _ _ _=>j2 λ _=>rfl
theorem yf:DO 41 d_expression_text "expression_text" "expression_text":=dok λ _ _ _ _ _ _=>j2 λ _=>rfl
theorem B0:DO 42 d_spread "spread" "spread":=dok λ _ _ _ _ _ _=>j2 λ _=>rfl
theorem QO:DO 43 d_things_of "things_of" "things_of":=dok λ _ _ _ _ _ _=>j2 λ _=>rfl
theorem Jl:DO 44 d_call_things "call_things" "call_things":=dok λ _ _ _ _ _ _=>j2 λ _=>rfl
theorem YS:DO 46 d_law_cell "_law_cell" "_law_cell":=dok λ _ _ _ _ _ _=>Wi λ _ _=>rfl
theorem YT:DO 47 d_law_feed "_law_feed" "_law_feed":=dok λ _ _ _ _ _ _=>j2 λ _=>rfl
theorem QP:DO 48 d_law_mixed "_law_mixed" "_law_mixed":=dok λ _ _ _ _ _ _=>j2 λ _=>rfl
theorem YU:DO 49 d_law_next "_law_next" "_law_next":=dok λ _ _ _ _ _ _=>j2 λ _=>rfl
theorem YV:DO 50 d_law_name "_law_name" "_law_name":=dok λ _ _ _ _ _ _=>j2 λ _=>rfl
theorem YW:DO 51 d_law_part "_law_part" "_law_part":=dok λ _ _ _ _ _ _=>Wi λ _ _=>rfl
theorem YX:DO 52 d_law_item "_law_item" "_law_item":=dok λ _ _ _ _ _ _=>Wi λ _ _=>rfl
theorem YY:DO 53 d_law_nest "_law_nest" "_law_nest":=dok λ _ _ _ _ _ _=>Wi λ _ _=>rfl
theorem Jm:DO 54 d_law_program "_law_program" "_law_program":=dok λ _ _ _ _ _ _=>j2 λ _=>rfl
theorem QQ:DO 55 d_law_alike "_law_alike" "_law_alike":=dok λ _ _ _ _ _ _=>Wi λ _ _=>rfl
theorem QR:DO 56 d_law_large "_law_large" "_law_large":=dok λ _ _ _ _ _ _=>j2 λ _=>rfl
theorem VQ:DO 57 d_law_any "_law_any" "_law_any":=dok λ _ _ _ _ _ _=>j2 λ _=>rfl
theorem o_law:DO 58 d_law "law" "law":=dok λ _ _ _ _ _ _=>j2 λ _=>rfl
noncomputable def FnK (K:Y00)(x:Str)(i:Nat)(f:Addr)(fd:FuncData):Prop:=PySem.W.nsIn K mainGlobals x=some (some (.ref f))/\Fun K x x (top i) f fd
theorem fnk {K:Y00}{x:Str}{i:Nat}{f:Addr}{oc:Value}{od an:Option Addr}{sl:Array (Option Value)}{kV dc pm cd ct:Value}(a:PySem.W.nsIn K mainGlobals x=some (some (.ref f)))(l:K.lookup f=some ⟨oc,od,.func (PySem.W.fnOf x x (jo (top i)) (zR (top i)) (zd (top i)) .none kV dc pm an cd ct),sl⟩)(c:PySem.W.codeIn K cd x=true)(k:PySem.W.keepIn K (.ref f)=true):FnK K x i f (PySem.W.fnOf x x (jo (top i)) (zR (top i)) (zd (top i)) .none kV dc pm an cd ct):=⟨a,Y4 (st:=top i) l c k⟩
theorem FnK.row {K:Y00}{x:Str}{i:Nat}{f:Addr}{fd:FuncData}{h:Heap}{mg:Str->Option Value}{d:Df} (e:FnK K x i f fd) (X:K.In h) (G:h.Ns mainGlobals mg) (hx:d.name=x) (hb:(d.name==("__debug__":Str))=false) (o:DefOk (top i) d (defs.map (·.name)) zc x x):(d.name==("__debug__":Str))=false/\∃ st f fd,mg d.name=some (.ref f)/\PySem.W.nsIn K mainGlobals d.name=some (some (.ref f))/\Fun K d.name d.name st f fd/\DefOk st d (defs.map (·.name)) zc d.name d.name:=by
 subst hx;exact ⟨hb,_,_,_,Y1b X G e.1,e.1,e.2,o⟩
noncomputable def NoN (K:Y00):List Str->Prop
 | []=>True
 | x::r=>PySem.W.nsIn K mainGlobals x=some none/\NoN K r
theorem NoN.mem {K:Y00}{x:Str}:∀ {l:List Str},NoN K l->x∈l->PySem.W.nsIn K mainGlobals x=some none
 | [],_,h=>nomatch h
 | _::_,q,h=>(Y0b.mp h).elim (λ e=>e▸q.1) (NoN.mem q.2)
open PySem.W in
theorem all_mk {l:PySem.W.OpenLaw}{w:World}{K:Y00}{h:Heap}{mg:Str->Option Value}{fa f0 f1 f2 f3 f4 f5 f6 f7 f8 f9 f10 f11 f12 f13 f14 f15 f16 f17 f18 f19 f20 f21 f22 f23 f24 f25 f26 f27 f28 f29 f30 f31 f32 f33 f34 f35 f36 f37 f38 f39 f40:Addr}{d0 d1 d2 d3 d4 d5 d6 d7 d8 d9 d10 d11 d12 d13 d14 d15 d16 d17 d18 d19 d20 d21 d22 d23 d24 d25 d26 d27 d28 d29 d30 d31 d32 d33 d34 d35 d36 d37 d38 d39:FuncData} (X:K.In h) (G:h.Ns mainGlobals mg) (hfa:mg "law"=some (.ref fa))
    (e0:FnK K "is_name" 13 f0 d0)
    (e1:FnK K "is_number" 14 f1 d1)
    (e2:FnK K "read" 18 f2 d2)
    (e3:FnK K "words_of" 19 f3 d3)
    (e4:FnK K "nested" 20 f4 d4)
    (e5:FnK K "item_of" 21 f5 d5)
    (e6:FnK K "function_of" 22 f6 d6)
    (e7:FnK K "handler_of" 23 f7 d7)
    (e8:FnK K "headed" 24 f8 d8)
    (e9:FnK K "formed" 25 f9 d9)
    (e10:FnK K "read_as" 26 f10 d10)
    (e11:FnK K "expression_of" 27 f11 d11)
    (e12:FnK K "call_of" 28 f12 d12)
    (e13:FnK K "hand_of" 29 f13 d13)
    (e14:FnK K "expressions_of" 30 f14 d14)
    (e15:FnK K "head_of" 31 f15 d15)
    (e16:FnK K "names_of" 32 f16 d16)
    (e17:FnK K "name_of" 33 f17 d17)
    (e18:FnK K "shown" 35 f18 d18)
    (e19:FnK K "item_text" 36 f19 d19)
    (e20:FnK K "function_text" 37 f20 d20)
    (e21:FnK K "handler_text" 38 f21 d21)
    (e22:FnK K "headed_text" 39 f22 d22)
    (e23:FnK K "bracketed" 40 f23 d23)
    (e24:FnK K "expression_text" 41 f24 d24)
    (e25:FnK K "spread" 42 f25 d25)
    (e26:FnK K "things_of" 43 f26 d26)
    (e27:FnK K "call_things" 44 f27 d27)
    (e28:FnK K "_law_cell" 46 f28 d28)
    (e29:FnK K "_law_feed" 47 f29 d29)
    (e30:FnK K "_law_mixed" 48 f30 d30)
    (e31:FnK K "_law_next" 49 f31 d31)
    (e32:FnK K "_law_name" 50 f32 d32)
    (e33:FnK K "_law_part" 51 f33 d33)
    (e34:FnK K "_law_item" 52 f34 d34)
    (e35:FnK K "_law_nest" 53 f35 d35)
    (e36:FnK K "_law_program" 54 f36 d36)
    (e37:FnK K "_law_alike" 55 f37 d37)
    (e38:FnK K "_law_large" 56 f38 d38)
    (e39:FnK K "_law_any" 57 f39 d39)
    {od an:Option Addr}{sl:Array (Option Value)}{oc kV dc pm cd ct:Value} (a:nsIn K mainGlobals "law"=some (some (.ref f40))) (l40:K.lookup f40=some ⟨oc,od,.func (PySem.W.fnOf "law" "law" (jo (top 58)) (zR (top 58)) (zd (top 58)) .none kV dc pm an cd ct),sl⟩) (c40:codeIn K cd "law"=true) (k40:keepIn K (.ref f40)=true)
    (z:NoN K Wk)
    {gc0:Addr} (ga0:nsIn K mainGlobals "WORDS"=some (some (.ref gc0))) (ge0:TupK K gc0 g_WORDS)
    {gc1:Addr} (ga1:nsIn K mainGlobals "SIGNS"=some (some (.ref gc1))) (ge1:TupK K gc1 g_SIGNS)
    {gt2:Tok} (ga2:nsIn K mainGlobals "LETTERS"=some (some (.str "abcdefghijklmnopqrstuvwxyz" gt2)))
    {gt3:Tok} (ga3:nsIn K mainGlobals "LONGEST_NAME"=some (some (.int (8) gt3)))
    {gt4:Tok} (ga4:nsIn K mainGlobals "FIGURES"=some (some (.str "0123456789" gt4)))
    {gt5:Tok} (ga5:nsIn K mainGlobals "MOST_FIGURES"=some (some (.int (18) gt5)))
    {gc6:Addr}{es6:Array DictEntry}{ep6:Nat} (ga6:nsIn K mainGlobals "FORMS"=some (some (.ref gc6))) (gl6:K.lookup gc6=some { cls:=.type "dict",data:=.dict es6 ep6 }) (ge6:Wo w K es6.toList g_FORMS)
    {gc7:Addr} (ga7:nsIn K mainGlobals "CLAUSE_FORM"=some (some (.ref gc7))) (ge7:TupK K gc7 j5)
    {gc8:Addr} (ga8:nsIn K mainGlobals "END_FORM"=some (some (.ref gc8))) (ge8:TupK K gc8 jC)
    {gt9:Tok} (ga9:nsIn K mainGlobals "DEEPEST"=some (some (.int (24) gt9)))
    {gc10:Addr} (ga10:nsIn K mainGlobals "ALIKE"=some (some (.ref gc10))) (ge10:TupK K gc10 g_ALIKE)
   :∃ (cv:Nat->Value) (fd:FuncData),(∀ (s:Shared) (v:Value),BindsTo s fd ⟨[v],[]⟩ [("_law_script",v)])/\∀ base:Heap,K.In base->base.Ns mainGlobals mg->FnOk l.prog w K mg base (CXs l.prog w) 162 fa fd ["_law_script"] (GW K cv (callI defs 81 40)):=by
  have e:=hfa.symm.trans (Y1b X G a);cases e;have T:Tab l.prog w K mg defs zc:=by
    refine ⟨λ x hx=>?_,λ x c hx=>?_,λ i d hd hnc=>?_,λ x i hx=>?_⟩
    · exact PySem.W.mg_none_of X G (z.mem hx)
    · simp only [zc,Y0b,Y0p,or_false] at hx;rcases hx with hq | hq | hq | hq | hq | hq | hq | hq | hq | hq | hq
      · cases hq;exact ⟨by decide,_,Y1b X G ga0,⟨_,rfl,ge0⟩⟩
      · cases hq;exact ⟨by decide,_,Y1b X G ga1,⟨_,rfl,ge1⟩⟩
      · cases hq;exact ⟨by decide,_,Y1b X G ga2,⟨_,rfl⟩⟩
      · cases hq;exact ⟨by decide,_,Y1b X G ga3,⟨_,rfl⟩⟩
      · cases hq;exact ⟨by decide,_,Y1b X G ga4,⟨_,rfl⟩⟩
      · cases hq;exact ⟨by decide,_,Y1b X G ga5,⟨_,rfl⟩⟩
      · cases hq;exact ⟨by decide,_,Y1b X G ga6,z3o gl6 ge6 (by decide)⟩
      · cases hq;exact ⟨by decide,_,Y1b X G ga7,⟨_,rfl,ge7⟩⟩
      · cases hq;exact ⟨by decide,_,Y1b X G ga8,⟨_,rfl,ge8⟩⟩
      · cases hq;exact ⟨by decide,_,Y1b X G ga9,⟨_,rfl⟩⟩
      · cases hq;exact ⟨by decide,_,Y1b X G ga10,⟨_,rfl,ge10⟩⟩
    · match i,hd,hnc with
      | 0,hd,_=>cases hd;exact e0.row X G rfl (by decide) VI
      | 1,hd,_=>cases hd;exact e1.row X G rfl (by decide) QL
      | 2,hd,_=>cases hd;exact e2.row X G rfl (by decide) z54
      | 3,hd,_=>cases hd;exact e3.row X G rfl (by decide) YQ
      | 4,hd,_=>cases hd;exact e4.row X G rfl (by decide) OX
      | 5,hd,_=>cases hd;exact e5.row X G rfl (by decide) VJ
      | 6,hd,_=>cases hd;exact e6.row X G rfl (by decide) Jj
      | 7,hd,_=>cases hd;exact e7.row X G rfl (by decide) WO
      | 8,hd,_=>cases hd;exact e8.row X G rfl (by decide) OY
      | 9,hd,_=>cases hd;exact e9.row X G rfl (by decide) OZ
      | 10,hd,_=>cases hd;exact e10.row X G rfl (by decide) VL
      | 11,hd,_=>cases hd;exact e11.row X G rfl (by decide) yS
      | 12,hd,_=>cases hd;exact e12.row X G rfl (by decide) VM
      | 13,hd,_=>cases hd;exact e13.row X G rfl (by decide) VN
      | 14,hd,_=>cases hd;exact e14.row X G rfl (by decide) yA
      | 15,hd,_=>cases hd;exact e15.row X G rfl (by decide) VO
      | 16,hd,_=>cases hd;exact e16.row X G rfl (by decide) YR
      | 17,hd,_=>cases hd;exact e17.row X G rfl (by decide) VP
      | 18,hd,_=>cases hd;exact e18.row X G rfl (by decide) z18
      | 19,hd,_=>cases hd;exact e19.row X G rfl (by decide) QM
      | 20,hd,_=>cases hd;exact e20.row X G rfl (by decide) yT
      | 21,hd,_=>cases hd;exact e21.row X G rfl (by decide) ZX
      | 22,hd,_=>cases hd;exact e22.row X G rfl (by decide) Jk
      | 23,hd,_=>cases hd;exact e23.row X G rfl (by decide) QN
      | 24,hd,_=>cases hd;exact e24.row X G rfl (by decide) yf
      | 25,hd,_=>cases hd;exact e25.row X G rfl (by decide) B0
      | 26,hd,_=>cases hd;exact e26.row X G rfl (by decide) QO
      | 27,hd,_=>cases hd;exact e27.row X G rfl (by decide) Jl
      | 28,hd,_=>cases hd;exact e28.row X G rfl (by decide) YS
      | 29,hd,_=>cases hd;exact e29.row X G rfl (by decide) YT
      | 30,hd,_=>cases hd;exact e30.row X G rfl (by decide) QP
      | 31,hd,_=>cases hd;exact e31.row X G rfl (by decide) YU
      | 32,hd,_=>cases hd;exact e32.row X G rfl (by decide) YV
      | 33,hd,_=>cases hd;exact e33.row X G rfl (by decide) YW
      | 34,hd,_=>cases hd;exact e34.row X G rfl (by decide) YX
      | 35,hd,_=>cases hd;exact e35.row X G rfl (by decide) YY
      | 36,hd,_=>cases hd;exact e36.row X G rfl (by decide) Jm
      | 37,hd,_=>cases hd;exact e37.row X G rfl (by decide) QQ
      | 38,hd,_=>cases hd;exact e38.row X G rfl (by decide) QR
      | 39,hd,_=>cases hd;exact e39.row X G rfl (by decide) VQ
      | 40,hd,_=>cases hd;exact ⟨by decide,_,_,_,Y1b X G a,a,Y4 (st:=top 58) l40 c40 k40,o_law⟩
      | n+41,hd,_=>exact absurd hd (by simp [defs])
    · simp only [zc,Y0b,Y0p,or_false] at hx;rcases hx with hq | hq | hq | hq | hq | hq | hq | hq | hq | hq | hq
      · cases hq
      · cases hq
      · cases hq
      · cases hq
      · cases hq
      · cases hq
      · cases hq
      · cases hq
      · cases hq
      · cases hq
      · cases hq
  refine ⟨λ _=>.none,PySem.W.fnOf "law" "law" (jo (top 58)) (zR (top 58)) (zd (top 58)) .none kV dc pm an cd ct,λ s v=>.of_eq rfl,λ base _ _=>?_⟩;exact Yr T (z3n (by decide)) 81 40 d_law _ _ (top 58) _ _ rfl (Y4 (st:=top 58) l40 c40 k40) o_law
end K14
end
namespace PySem.W.Fast
noncomputable def tw3433196379192726462 := ()
noncomputable def tw15653324331050737320 := ()
noncomputable def tw4486987355506777896 := ()
noncomputable def tw17047127807374536157 := ()
noncomputable def tw15547850191915277972 := ()
noncomputable def tw15277124415262176832 := ()
noncomputable def tw14413816961016324719 := ()
noncomputable def tw16502783617618311607 := ()
noncomputable def tw13021954114396796030 := ()
noncomputable def tw7790909144071846930 := ()
noncomputable def tw14375326090385901422 := ()
noncomputable def tw14236874466149610595 := ()
noncomputable def tw10631126791817299495 := ()
noncomputable def tw6089390300092301227 := ()
noncomputable def tw13549694204038932214 := ()
noncomputable def tw8066863411850691532 := ()
noncomputable def tw4624502938926364252 := ()
noncomputable def tw473820868867733009 := ()
noncomputable def tw7762929426224014874 := ()
noncomputable def tw17362991664460276662 := ()
noncomputable def tw7671057269780081429 := ()
noncomputable def tw3004438467333598906 := ()
noncomputable def tw10926643728265304614 := ()
noncomputable def tw3155984205550088184 := ()
noncomputable def tw10997562885542609533 := ()
noncomputable def tw14912439219540462717 := ()
noncomputable def tw8581801744993612108 := ()
noncomputable def tw2745860924951136730 := ()
noncomputable def tw4166061877362150185 := ()
noncomputable def tw17234590561304659076 := ()
noncomputable def tw9996664463213019268 := ()
noncomputable def tw17935975144157674463 := ()
noncomputable def tw706036697762327903 := ()
noncomputable def tw10103411237258422116 := ()
noncomputable def tw623090890757184741 := ()
noncomputable def tw1780446870401255376 := ()
noncomputable def tw4396327767068584323 := ()
noncomputable def tw13332522618213953066 := ()
noncomputable def tw8726534912242235606 := ()
noncomputable def tw8092873706552100140 := ()
noncomputable def tw12619125767325504399 := ()
noncomputable def tw6078595401318774407 := ()
noncomputable def tw4673861883170564886 := ()
noncomputable def tw56855274979090240 := ()
noncomputable def tw15060174151768419075 := ()
noncomputable def tw7299004126386381182 := ()
noncomputable def tw4617708502133774428 := ()
noncomputable def tw14073368794192680330 := ()
noncomputable def tw8900478215985466687 := ()
noncomputable def tw5171017367622451140 := ()
noncomputable def tw5143752368852092096 := ()
noncomputable def tw17696483654424523045 := ()
noncomputable def tw3246778504489459315 := ()
noncomputable def tw15047265470829564745 := ()
noncomputable def tw18088829871651134003 := ()
noncomputable def tw14091511341905833619 := ()
noncomputable def tw51027537959875358 := ()
noncomputable def tw11525889845634459502 := ()
noncomputable def tw4036922971226918770 := ()
noncomputable def tw5242408988610622803 := ()
noncomputable def tw170498001151010842 := ()
noncomputable def tw17777201246467437741 := ()
noncomputable def tw11308890025916557510 := ()
noncomputable def tw4190920147012442353 := ()
noncomputable def tw17908812865135599357 := ()
noncomputable def tw4629335613545992439 := ()
noncomputable def tw16723850131821903153 := ()
noncomputable def tw15525651477895740549 := ()
noncomputable def tw8552196725981863296 := ()
noncomputable def tw5507286514665728239 := ()
noncomputable def tw10625645526025607231 := ()
noncomputable def tw11121627632691366288 := ()
noncomputable def tw791613922550141951 := ()
noncomputable def tw15789813822399755859 := ()
noncomputable def tw2617806567287020494 := ()
noncomputable def tw8102984901464679378 := ()
noncomputable def tw765402560277744133 := ()
noncomputable def tw707541142599409350 := ()
noncomputable def tw17274762407000961120 := ()
noncomputable def tw8755389680681877672 := ()
noncomputable def tw7042978866778375936 := ()
noncomputable def tw1064897033640433070 := ()
noncomputable def tw6273132748657283693 := ()
noncomputable def tw642647788032648583 := ()
noncomputable def tw10463708635338377840 := ()
noncomputable def tw6196108938615056469 := ()
noncomputable def tw12413867563936366127 := ()
noncomputable def tw12500875357062692915 := ()
noncomputable def tw11936053034456246768 := ()
noncomputable def tw13707840297553042793 := ()
noncomputable def tw1243025054342464961 := ()
noncomputable def tw15277982314295648596 := ()
noncomputable def tw2235558256319910454 := ()
noncomputable def tw1938017060048725110 := ()
noncomputable def tw15373070441612254716 := ()
noncomputable def tw7830020562828273805 := ()
noncomputable def tw10478649285928126405 := ()
noncomputable def tw3194370965748970716 := ()
noncomputable def tw8760619148248523318 := ()
noncomputable def tw18064271095157928232 := ()
noncomputable def tw1094469442171319029 := ()
noncomputable def tw18289298323572309796 := ()
noncomputable def tw14072588513767302522 := ()
noncomputable def tw6831868742438830217 := ()
noncomputable def tw11010539184411261782 := ()
noncomputable def tw16013769261415454243 := ()
noncomputable def tw3151084066907522096 := ()
noncomputable def tw10620440830220762968 := ()
noncomputable def tw6792077056746112505 := ()
noncomputable def tw17169302687261483539 := ()
noncomputable def tw15095128261067680224 := ()
noncomputable def tw5283077036732949306 := ()
noncomputable def tw14382086424255742523 := ()
noncomputable def tw6098874465880167265 := ()
noncomputable def tw9478435826937358773 := ()
noncomputable def tw5403000690597900715 := ()
noncomputable def tw15738351834395238685 := ()
noncomputable def tw15878006293735203066 := ()
noncomputable def tw7502950492637773227 := ()
noncomputable def tw15378830666876401984 := ()
noncomputable def tw11855203475803871006 := ()
noncomputable def tw12789627692617302495 := ()
end PySem.W.Fast
open PySem PySem.W
set_option maxRecDepth 100000 in
set_option maxHeartbeats 0 in
theorem PySem.Challenge.cw_deedwright_k14_whole_read_again_holds : PySem.Challenge.rw_deedwright_k14_whole_read_again.Holds := by
 w_on;o_law;k_head;(case hw=>w_witness2)
 k_fill
 refine PI.walk_ofB (l:=PySem.Challenge.rw_deedwright_k14_whole_read_again) (k:=162) (c:=PI.callI K14.defs 81 40) (x:="_law_script") rfl rfl ⟨rfl,by decide,by decide⟩ (λ w h Y=>PySem.W.kIn_of Y) ?F ?S
 case F =>
  intro w mg fa h KX G hmg;refine' K14.all_mk (l:=PySem.Challenge.rw_deedwright_k14_whole_read_again) (w:=w) KX G hmg (K14.fnk ?a0 ?l0 ?c0 ?k0) (K14.fnk ?a1 ?l1 ?c1 ?k1) (K14.fnk ?a2 ?l2 ?c2 ?k2) (K14.fnk ?a3 ?l3 ?c3 ?k3) (K14.fnk ?a4 ?l4 ?c4 ?k4) (K14.fnk ?a5 ?l5 ?c5 ?k5) (K14.fnk ?a6 ?l6 ?c6 ?k6) (K14.fnk ?a7 ?l7 ?c7 ?k7) (K14.fnk ?a8 ?l8 ?c8 ?k8) (K14.fnk ?a9 ?l9 ?c9 ?k9) (K14.fnk ?a10 ?l10 ?c10 ?k10) (K14.fnk ?a11 ?l11 ?c11 ?k11) (K14.fnk ?a12 ?l12 ?c12 ?k12) (K14.fnk ?a13 ?l13 ?c13 ?k13) (K14.fnk ?a14 ?l14 ?c14 ?k14) (K14.fnk ?a15 ?l15 ?c15 ?k15) (K14.fnk ?a16 ?l16 ?c16 ?k16) (K14.fnk ?a17 ?l17 ?c17 ?k17) (K14.fnk ?a18 ?l18 ?c18 ?k18) (K14.fnk ?a19 ?l19 ?c19 ?k19) (K14.fnk ?a20 ?l20 ?c20 ?k20) (K14.fnk ?a21 ?l21 ?c21 ?k21) (K14.fnk ?a22 ?l22 ?c22 ?k22) (K14.fnk ?a23 ?l23 ?c23 ?k23) (K14.fnk ?a24 ?l24 ?c24 ?k24) (K14.fnk ?a25 ?l25 ?c25 ?k25) (K14.fnk ?a26 ?l26 ?c26 ?k26) (K14.fnk ?a27 ?l27 ?c27 ?k27) (K14.fnk ?a28 ?l28 ?c28 ?k28) (K14.fnk ?a29 ?l29 ?c29 ?k29) (K14.fnk ?a30 ?l30 ?c30 ?k30) (K14.fnk ?a31 ?l31 ?c31 ?k31) (K14.fnk ?a32 ?l32 ?c32 ?k32) (K14.fnk ?a33 ?l33 ?c33 ?k33) (K14.fnk ?a34 ?l34 ?c34 ?k34) (K14.fnk ?a35 ?l35 ?c35 ?k35) (K14.fnk ?a36 ?l36 ?c36 ?k36) (K14.fnk ?a37 ?l37 ?c37 ?k37) (K14.fnk ?a38 ?l38 ?c38 ?k38) (K14.fnk ?a39 ?l39 ?c39 ?k39) ?a40 ?l40 ?c40 ?k40 ⟨?_,?_,?_,?_,?_,?_,?_,?_,?_,?_,?_,?_,?_,?_,?_,?_,?_,?_,?_,?_,?_,⟨⟩⟩ ?ga0 ?ge0 ?ga1 ?ge1 ?ga2 ?ga3 ?ga4 ?ga5 ?ga6 ?gl6 ?ge6 ?ga7 ?ge7 ?ga8 ?ge8 ?ga9 ?ga10 ?ge10
  all_goals try k_is
  (case ge0=>(refine' PI.tupK_mk ?hk ?h4 ?h5;(case hk=>k_is);(case h4=>decide);(case h5=>(show L2.Vals _ (List.toArray _).toList;exact .cons ⟨_,rfl⟩ (.cons ⟨_,rfl⟩ (.cons ⟨_,rfl⟩ (.cons ⟨_,rfl⟩ (.cons ⟨_,rfl⟩ (.cons ⟨_,rfl⟩ (.cons ⟨_,rfl⟩ (.cons ⟨_,rfl⟩ (.cons ⟨_,rfl⟩ (.cons ⟨_,rfl⟩ (.cons ⟨_,rfl⟩ (.cons ⟨_,rfl⟩ (.nil))))))))))))))))
  (case ge1=>(refine' PI.tupK_mk ?hk ?h4 ?h5;(case hk=>k_is);(case h4=>decide);(case h5=>(show L2.Vals _ (List.toArray _).toList;exact .cons ⟨_,rfl⟩ (.cons ⟨_,rfl⟩ (.cons ⟨_,rfl⟩ (.cons ⟨_,rfl⟩ (.nil))))))))
  (case ge6=>(refine ⟨⟨rfl,⟨_,rfl⟩,?hx⟩,?hr⟩;(case hx=>(refine ⟨_,rfl,?ht⟩;(case ht=>(refine' PI.tupK_mk ?hk ?h4 ?h5;(case hk=>k_is);(case h4=>decide);(case h5=>(show L2.Vals _ (List.toArray _).toList;exact .cons ⟨_,rfl⟩ (.nil)))))));(case hr=>(refine ⟨⟨rfl,⟨_,rfl⟩,?hx⟩,?hr⟩;(case hx=>(refine ⟨_,rfl,?ht⟩;(case ht=>(refine' PI.tupK_mk ?hk ?h4 ?h5;(case hk=>k_is);(case h4=>decide);(case h5=>(show L2.Vals _ (List.toArray _).toList;exact .cons ⟨_,rfl⟩ (.nil)))))));(case hr=>(refine ⟨⟨rfl,⟨_,rfl⟩,?hx⟩,?hr⟩;(case hx=>(refine ⟨_,rfl,?ht⟩;(case ht=>(refine' PI.tupK_mk ?hk ?h4 ?h5;(case hk=>k_is);(case h4=>decide);(case h5=>(show L2.Vals _ (List.toArray _).toList;exact .cons ⟨_,rfl⟩ (.cons ⟨_,rfl⟩ (.cons ⟨_,rfl⟩ (.nil)))))))));(case hr=>(refine ⟨⟨rfl,⟨_,rfl⟩,?hx⟩,?hr⟩;(case hx=>(refine ⟨_,rfl,?ht⟩;(case ht=>(refine' PI.tupK_mk ?hk ?h4 ?h5;(case hk=>k_is);(case h4=>decide);(case h5=>(show L2.Vals _ (List.toArray _).toList;exact .cons ⟨_,rfl⟩ (.cons ⟨_,rfl⟩ (.cons ⟨_,rfl⟩ (.nil)))))))));(case hr=>(refine ⟨⟨rfl,⟨_,rfl⟩,?hx⟩,?hr⟩;(case hx=>(refine ⟨_,rfl,?ht⟩;(case ht=>(refine' PI.tupK_mk ?hk ?h4 ?h5;(case hk=>k_is);(case h4=>decide);(case h5=>(show L2.Vals _ (List.toArray _).toList;exact .cons ⟨_,rfl⟩ (.cons ⟨_,rfl⟩ (.cons ⟨_,rfl⟩ (.nil)))))))));(case hr=>(refine ⟨⟨rfl,⟨_,rfl⟩,?hx⟩,?hr⟩;(case hx=>(refine ⟨_,rfl,?ht⟩;(case ht=>(refine' PI.tupK_mk ?hk ?h4 ?h5;(case hk=>k_is);(case h4=>decide);(case h5=>(show L2.Vals _ (List.toArray _).toList;exact .cons ⟨_,rfl⟩ (.cons ⟨_,rfl⟩ (.cons ⟨_,rfl⟩ (.nil)))))))));(case hr=>(refine ⟨⟨rfl,⟨_,rfl⟩,?hx⟩,?hr⟩;(case hx=>(refine ⟨_,rfl,?ht⟩;(case ht=>(refine' PI.tupK_mk ?hk ?h4 ?h5;(case hk=>k_is);(case h4=>decide);(case h5=>(show L2.Vals _ (List.toArray _).toList;exact .cons ⟨_,rfl⟩ (.cons ⟨_,rfl⟩ (.nil))))))));(case hr=>(refine ⟨⟨rfl,⟨_,rfl⟩,?hx⟩,?hr⟩;(case hx=>(refine ⟨_,rfl,?ht⟩;(case ht=>(refine' PI.tupK_mk ?hk ?h4 ?h5;(case hk=>k_is);(case h4=>decide);(case h5=>(show L2.Vals _ (List.toArray _).toList;exact .cons ⟨_,rfl⟩ (.cons ⟨_,rfl⟩ (.cons ⟨_,rfl⟩ (.nil)))))))));(case hr=>(refine ⟨⟨rfl,⟨_,rfl⟩,?hx⟩,?hr⟩;(case hx=>(refine ⟨_,rfl,?ht⟩;(case ht=>(refine' PI.tupK_mk ?hk ?h4 ?h5;(case hk=>k_is);(case h4=>decide);(case h5=>(show L2.Vals _ (List.toArray _).toList;exact .cons ⟨_,rfl⟩ (.cons ⟨_,rfl⟩ (.nil))))))));(case hr=>(refine ⟨⟨rfl,⟨_,rfl⟩,?hx⟩,?hr⟩;(case hx=>(refine ⟨_,rfl,?ht⟩;(case ht=>(refine' PI.tupK_mk ?hk ?h4 ?h5;(case hk=>k_is);(case h4=>decide);(case h5=>(show L2.Vals _ (List.toArray _).toList;exact .cons ⟨_,rfl⟩ (.cons ⟨_,rfl⟩ (.nil))))))));(case hr=>exact trivial)))))))))))))))))))))
  (case ge7=>(refine' PI.tupK_mk ?hk ?h4 ?h5;(case hk=>k_is);(case h4=>decide);(case h5=>(show L2.Vals _ (List.toArray _).toList;exact .cons ⟨_,rfl⟩ (.cons ⟨_,rfl⟩ (.cons ⟨_,rfl⟩ (.cons ⟨_,rfl⟩ (.nil))))))))
  (case ge8=>(refine' PI.tupK_mk ?hk ?h4 ?h5;(case hk=>k_is);(case h4=>decide);(case h5=>(show L2.Vals _ (List.toArray _).toList;exact .cons ⟨_,rfl⟩ (.cons ⟨_,rfl⟩ (.cons ⟨_,rfl⟩ (.nil)))))))
  (case ge10=>(refine' PI.tupK_mk ?hk ?h4 ?h5;(case hk=>k_is);(case h4=>decide);(case h5=>(show L2.Vals _ (List.toArray _).toList;exact .cons ⟨_,rfl⟩ (.cons ⟨_,rfl⟩ (.cons ⟨_,rfl⟩ (.cons ⟨_,rfl⟩ (.cons ⟨_,rfl⟩ (.cons ⟨_,rfl⟩ (.nil))))))))))
 case S =>
  exact λ ns _ hb=>K14.law_true ns λ n hn=>decide_eq_true (hb n hn)
#print axioms PySem.Challenge.cw_deedwright_k14_whole_read_again_holds
