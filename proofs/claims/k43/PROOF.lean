import PyProof.Rows.All
import Wide.All
import OpenK.AllK
import Wide.FinOn
import Lean
import PyProof.EqAt
import PyProof.EqKinds
import PyProof.TupleCall
import KE.KIntText
import PyProof.NeKinds
import PyProof.FString4
import PyProof.StrLawsRepr
import PyProof.ZipIter
import PyProof.TupleIter
import KE.KRevIter
import KE.KDictOf
import PyProof.AttrMissHeap
import KE.KItemsList
import PyProof.StrLawsTight
import PySem.Challenge.RW_deedwright_k43_calls_in_turn
set_option Elab.async false
set_option linter.all false
set_option maxRecDepth 100000
section
open PySem PySem.Spec PyProof.Rows PySem.W PySem.Calls
noncomputable abbrev Y00:=@PySem.W.Frag
noncomputable abbrev Y01:=@Heap.get?_push_of_some
noncomputable abbrev Y02:=@List.getElem?_eq_getElem
noncomputable abbrev Y03:=@Nat.le_refl
noncomputable abbrev Y04:=@List.mem_cons_of_mem
noncomputable abbrev Y05:=@List.getD_eq_getElem?_getD
noncomputable abbrev Y06:=@List.length_cons
noncomputable abbrev Y07:=@Heap.lt_size
noncomputable abbrev Y08:=@List.getElem?_append_right
noncomputable abbrev Y09:=@List.size_toArray
noncomputable abbrev Y0a:=@Heap.get?_push_size
noncomputable abbrev Y0b:=@List.mem_cons_self
noncomputable abbrev Y0c:=@List.getElem?_eq_some_iff
noncomputable abbrev Y0d:=@List.mem_cons
noncomputable abbrev Y0e:=@List.append_assoc
noncomputable abbrev Y0f:=@Nat.ne_of_lt
noncomputable abbrev Y0g:=@Nat.lt_of_lt_of_le
noncomputable abbrev Y0h:=@List.map_cons
noncomputable abbrev Y0i:=@Nat.le_of_ble_eq_true
noncomputable abbrev Y0j:=@List.length_map
noncomputable abbrev Y0k:=@List.getElem?_map
noncomputable abbrev Y0l:=@PySem.W.mg_none_of
noncomputable abbrev Y0m:=@List.mem_singleton
noncomputable abbrev Y0n:=@List.length_set
noncomputable abbrev Y0o:=@Bool.and_eq_true
noncomputable abbrev Y0p:=@List.mem_append_right
noncomputable abbrev Y0q:=@List.not_mem_nil
noncomputable abbrev Y0r:=@List.getElem?_set_self
noncomputable abbrev Y0s:=@Bool.false_ne_true
noncomputable abbrev Y0t:=@PySem.mem_of_lookup
noncomputable abbrev Y0u:=@List.length_append
noncomputable abbrev Y0v:=@List.mem_map
noncomputable abbrev Y0w:=@Nat.sub_self
noncomputable abbrev Y0x:=@List.getElem?_append_left
noncomputable abbrev Y0y:=@PySem.W.kia_one
noncomputable abbrev Y0z:=@List.append_nil
noncomputable abbrev Y10:=@List.all_eq_true
noncomputable abbrev Y11:=@Nat.le_trans
noncomputable abbrev Y12:=@List.mem_of_getElem?
noncomputable abbrev Y13:=@PyProof.Rows.callWith_type1
noncomputable abbrev Y14:=@Nat.lt_irrefl
noncomputable abbrev Y15:=@List.getElem?_set_ne
noncomputable abbrev Y16:=@List.nil_append
noncomputable abbrev Y17:=@PySem.W.mg_of
noncomputable abbrev Y18:=@PySem.F.slot_zip_next
noncomputable abbrev Y19:=@List.set_append_right
noncomputable abbrev Y1a:=@List.reverse_cons
noncomputable abbrev Y1b:=@List.mem_append_left
noncomputable abbrev Y1c:=@Heap.size_push
noncomputable abbrev Y1d:=@Bool.false_eq_true
noncomputable abbrev Y1e:=@List.any_cons
noncomputable abbrev Y1f:=@Nat.ne_of_gt
noncomputable abbrev Y1g:=@Int.toNat_natCast
noncomputable abbrev Y1h:=@Nat.zero_le
noncomputable abbrev Y1i:=@List.replicate_succ
noncomputable abbrev Y1j:=@List.nodup_cons
noncomputable abbrev Y1k:=@Int.toNat_of_nonneg
noncomputable abbrev Y1l:=@Int.emod_nonneg
noncomputable abbrev Y1m:=@Heap.get?_update_self
noncomputable abbrev Y1n:=@PySem.F.slot_tuple_iterator_next
noncomputable abbrev Y1o:=@List.getElem?_range'
noncomputable abbrev Y1p:=@PyProof.Rows.slot_tuple_getitem
noncomputable abbrev Y1q:=@List.mem_range'_1
noncomputable abbrev Y1r:=@Nat.add_sub_cancel_left
noncomputable abbrev Y1s:=@List.length_reverse
noncomputable abbrev Y1t:=@Array.length_toList
noncomputable abbrev Y1u:=@PySem.W.cellsFrom_some
noncomputable abbrev Y1v:=@Heap.get?_update_other
noncomputable abbrev Y1w:=@Int.emod_lt_of_pos
noncomputable abbrev Y1x:=@List.map_nil
noncomputable abbrev Y1y:=@List.map_map
noncomputable abbrev Y1z:=@List.forIn_cons
noncomputable abbrev Y20:=@List.find?_cons
noncomputable abbrev Y21:=@List.flatten_cons
noncomputable abbrev Y22:=@Heap.get?_none_of_le
noncomputable abbrev Y23:=@List.forIn_nil
noncomputable abbrev Y24:=@Nat.lt_succ_self
noncomputable abbrev Y25:=@List.lookup_cons
noncomputable abbrev Y26:=@List.filterMap_cons
noncomputable abbrev Y27:=@Option.isSome_iff_exists
noncomputable abbrev Y28:=@PySem.F.args_zip_next_1
noncomputable abbrev Y29:=@Option.map_some
noncomputable abbrev Y2a:=@List.of_mem_zip
noncomputable abbrev Y2b:=@List.mem_append
noncomputable abbrev Y2c:=@List.filterMap_map
noncomputable abbrev Y2d:=@PySem.F.entry_zip_next
noncomputable abbrev Y2e:=@List.filterMap_eq_map
noncomputable abbrev Y2f:=@List.getElem_mem
noncomputable abbrev Y2g:=@Nat.le_succ
noncomputable abbrev Y2h:=@Nat.le_of_lt
noncomputable abbrev Y2i:=@List.lookup_append
noncomputable abbrev Y2j:=@List.mem_or_eq_of_mem_set
noncomputable abbrev Y2k:=@List.drop_eq_getElem_cons
noncomputable abbrev Y2l:=@PySem.W.kitx_list
noncomputable abbrev Y2m:=@PySem.F.args_tuple_add_2
noncomputable abbrev Y2n:=@PySem.F.plainAttrs_list
noncomputable abbrev Y2o:=@PySem.F.entry_tuple_add
noncomputable abbrev Y2p:=@Nat.add_assoc
noncomputable abbrev Y2q:=@List.all_cons
noncomputable abbrev Y2r:=@List.zipIdx_cons
noncomputable abbrev Y2s:=@List.range'_succ
noncomputable abbrev Y2t:=@List.mem_reverse
noncomputable abbrev Y2u:=@List.length_take
noncomputable abbrev Y2v:=@PySem.F.slot_tuple_add
noncomputable abbrev Y2w:=@List.find?_cons_of_pos
noncomputable abbrev Y2x:=@List.find?_cons_of_neg
noncomputable abbrev Y2y:=@List.zipIdx_nil
noncomputable abbrev Y2z:=@List.length_nil
noncomputable abbrev Y30:=@List.getElem?_reverse
noncomputable abbrev Y31:=@List.getElem?_eq_none
noncomputable abbrev Y32:=@Array.getElem?_toList
noncomputable abbrev Y33:=@PySem.W.hideAll_none
noncomputable abbrev Y34:=@List.getElem?_of_mem
noncomputable abbrev Y35:=@List.mem_range
noncomputable abbrev Y36:=@List.map_congr_left
noncomputable abbrev Y37:=@PySem.F.args_tuple_iterator_next_1
noncomputable abbrev Y38:=@PySem.W.callWith_K
noncomputable abbrev Y39:=@PySem.F.entry_tuple_iterator_next
noncomputable abbrev Y3a:=@List.zip_cons_cons
noncomputable abbrev Y3b:=@List.mem_filterMap
noncomputable abbrev Y3c:=@List.findIdx?_cons
noncomputable abbrev Y3d:=@Option.isSome_map
noncomputable abbrev Y3e:=@Nat.mod_lt
noncomputable abbrev Y3f:=@Bool.not_eq_true'
noncomputable abbrev Y3g:=@Bool.eq_false_iff
noncomputable abbrev Y3h:=@Nat.lt_trans
noncomputable abbrev Y3i:=@Option.getD_some
noncomputable abbrev Y3j:=@Option.bind_some
noncomputable abbrev Y3k:=@Nat.le_add_right
noncomputable abbrev Y3l:=@List.map_reverse
noncomputable abbrev Y3m:=@List.cons_append
noncomputable abbrev Y3n:=@Int.natCast_emod
end
namespace L2
open PySem PySem.Spec PyProof.Rows
noncomputable abbrev Key:=Sum Int Str
noncomputable def Jm:Key->Value->Bool
 | .inl k,v=>Value.isInt k v
 | .inr x,v=>Value.isStrOf x v
noncomputable def z59 (w:World):Key->Int
 | .inl k=>hashInt k
 | .inr x=>hashStr w x
theorem zH:∀ {k:Key}{v:Value},Jm k v=true->(∃ i t,k=Sum.inl i/\v=Value.int i t)\/(∃ x t,k=Sum.inr x/\v=Value.str x t)
 | .inl i,v,h=>by
  obtain ⟨t,e⟩:=Value.isInt_shape (k:=i) (v:=v) h
  exact .inl ⟨i,t,rfl,e⟩
 | .inr x,v,h=>by
  obtain ⟨t,e⟩:=Value.isStrOf_shape (x:=x) (v:=v) h
  exact .inr ⟨x,t,rfl,e⟩
theorem Uq (i:Int)(t:Tok):Jm (.inl i) (.int i t)=true:=by simp [Jm,Value.isInt]
theorem Ur (x:Str)(t:Tok):Jm (.inr x) (.str x t)=true:=by simp [Jm,Value.isStrOf]
theorem z0i (a b:Int):decide ((Sum.inl a:Key)=Sum.inl b)=(a==b):=by
 by_cases e:a=b
 ·subst e;simp
 ·have h:¬ (Sum.inl a:Key)=Sum.inl b:=λ q=>e (Sum.inl.inj q)
  rw [decide_eq_false h]
  exact (beq_eq_false_iff_ne.mpr e).symm
theorem z0j (a b:Str):decide ((Sum.inr a:Key)=Sum.inr b)=decide (a=b):=by
 by_cases e:a=b
 ·subst e;simp
 ·have h:¬ (Sum.inr a:Key)=Sum.inr b:=λ q=>e (Sum.inr.inj q)
  rw [decide_eq_false h,decide_eq_false e]
theorem z0k (a:Int)(b:Str):decide ((Sum.inl a:Key)=Sum.inr b)=false:=decide_eq_false (λ q=>nomatch q)
theorem z0l (a:Str)(b:Int):decide ((Sum.inr a:Key)=Sum.inl b)=false:=decide_eq_false (λ q=>nomatch q)
noncomputable def zy (prog:Program)(w:World):PySem.KeyKind prog w Key where
 is:=Jm
 hash:=z59 w
 inj:=λ v a b ha hb=>by
  rcases zH ha with ⟨i,t,rfl,rfl⟩ | ⟨x,t,rfl,rfl⟩
  ·rcases zH hb with ⟨j,u,rfl,e⟩ | ⟨y,u,rfl,e⟩
   ·injection e with e1 _;rw [e1]
   ·exact nomatch e
  ·rcases zH hb with ⟨j,u,rfl,e⟩ | ⟨y,u,rfl,e⟩
   ·exact nomatch e
   ·injection e with e1 _;rw [e1]
 byValue:=λ k v h=>by
  rcases zH h with ⟨i,t,rfl,rfl⟩ | ⟨x,t,rfl,rfl⟩<;>rfl
 pyHash:=λ hv h=>by
  rcases zH hv with ⟨i,t,rfl,rfl⟩ | ⟨x,t,rfl,rfl⟩
  ·exact wpAny_pyHash_int h
  ·exact wpAny_pyHash_str h
 eqBool:=λ hu hv h=>by
  rcases zH hu with ⟨i,t,rfl,rfl⟩ | ⟨x,t,rfl,rfl⟩
  ·rcases zH hv with ⟨j,u,rfl,rfl⟩ | ⟨y,u,rfl,rfl⟩
   ·rw [z0i] at h;exact wpAny_eqBool_int h
   ·rw [z0k] at h;exact SeqAt.EqAt.int_str i t y u _ _ _ _ h
  ·rcases zH hv with ⟨j,u,rfl,rfl⟩ | ⟨y,u,rfl,rfl⟩
   ·rw [z0l] at h;exact SeqAt.EqAt.str_int x t j u _ _ _ _ h
   ·rw [z0j] at h;exact wpAny_eqBool_str h
 «strs»:=λ k x t v h=>by
  rcases zH h with ⟨i,u,rfl,e⟩ | ⟨y,u,rfl,e⟩
  ·exact nomatch e
  ·injection e with e1 _
   subst e1
   cases v<;>rfl
theorem WQ (prog:Program)(w:World)(i:Int)(t:Tok):(zy prog w).is (.inl i) (.int i t)=true:=Uq i t
theorem WR (prog:Program)(w:World)(x:Str)(t:Tok):(zy prog w).is (.inr x) (.str x t)=true:=Ur x t
end L2
namespace L2
open PySem PySem.Spec PyProof.Rows
inductive V where
 | non | bl (b:Bool) | int (i:Int) | str (x:Str) | byt (b:Array UInt8) | flt (b:UInt64) | ref (a:Addr) | ty (n:String)
 deriving DecidableEq
noncomputable def RelV:V->Value->Prop
 | .non,u=>u=Value.none
 | .bl b,u=>u=Value.bool b
 | .int i,u=>∃ t,u=Value.int i t
 | .str x,u=>∃ t,u=Value.str x t
 | .byt b,u=>∃ t,u=Value.bytes b t
 | .flt b,u=>∃ t,u=Value.float b t
 | .ref a,u=>u=Value.ref a
 | .ty n,u=>u=Value.type n
noncomputable abbrev Vals:List V->List Value->Prop:=Paired RelV
theorem Vals.length {xs:List V}{us:List Value}(r:Vals xs us):xs.length=us.length:=Paired.length r
theorem Vals.get:∀ {xs:List V}{us:List Value}{i:Nat}{x:V},Vals xs us->xs[i]?=some x->∃ u,us[i]?=some u/\RelV x u
 | _,_,_,_,.nil,e=>by simp at e
 | _,_,0,_,.cons r _,e=>by simp at e;subst e;exact ⟨_,rfl,r⟩
 | _,_,i+1,x,.cons _ t,e=>by
  obtain ⟨u,h1,h2⟩:=Vals.get (i:=i) (x:=x) t (by simpa using e)
  exact ⟨u,by simpa using h1,h2⟩
theorem Vals.set {x:V}{u:Value}(r:RelV x u):∀ {xs:List V}{us:List Value} (i:Nat),Vals xs us->Vals (xs.set i x) (us.set i u)
 | _,_,_,.nil=>.nil
 | _,_,0,.cons _ t=>.cons r t
 | _,_,i+1,.cons q t=>.cons q (Vals.set r i t)
theorem Vals.append:∀ {xs ys:List V}{us ws:List Value},Vals xs us->Vals ys ws->Vals (xs++ys) (us++ws)
 | _,_,_,_,.nil,s=>s
 | _,_,_,_,.cons r t,s=>.cons r (Vals.append t s)
theorem Vals.take:∀ {xs:List V}{us:List Value} (n:Nat),Vals xs us->Vals (xs.take n) (us.take n)
 | _,_,0,_=>.nil
 | _,_,_+1,.nil=>.nil
 | _,_,n+1,.cons r t=>.cons r (Vals.take n t)
theorem Vals.drop:∀ {xs:List V}{us:List Value} (n:Nat),Vals xs us->Vals (xs.drop n) (us.drop n)
 | _,_,0,r=>r
 | _,_,_+1,.nil=>.nil
 | _,_,n+1,.cons _ t=>Vals.drop n t
noncomputable def RelO:Option V->Option Value->Prop
 | some v,some u=>RelV v u
 | none,none=>True
 | _,_=>False
noncomputable def KV {κ:Type}:List (κ×V)->List (κ×Value)->Prop:=Paired λ (p:κ×V) (q:κ×Value)=>p.1=q.1/\RelV p.2 q.2
noncomputable def kV:Key->V
 | .inl i=>.int i
 | .inr x=>.str x
inductive HO where
 | lst (xs:List V)
 | tup (xs:List V)
 | dK (kvs:List (Key×V)) | dT (kvs:List (List Key×V))
 | set (S:Int->Bool) (n:Nat)
 | ins (C dx:Addr) (fs:List (Str×V))
 | own (x:Addr)
 | xd (fs:List (Str×V))
 | met (f x:Addr)
 | rng (lo hi:Int)
 | frz (o:Obj) (u:HO)
 | tbl (ps:Array Value)
 | ext (φ:Heap->Prop)
noncomputable abbrev Hp:=Addr->Option HO
noncomputable def upd (H:Hp)(a:Addr)(o:HO):Hp:=λ b=>if b=a then some o else H b
theorem zx {H:Hp}{a:Addr}{o:HO}:upd H a o a=some o:=by unfold upd;rw [if_pos rfl]
theorem zq {H:Hp}{a b:Addr}{o:HO}(h:b≠a):upd H a o b=H b:=by unfold upd;rw [if_neg h]
theorem z3b {H:Hp}{a b:Addr}{o u:HO}(h:H a=some o)(h':H b=some u)(d:o≠u):a≠b:=by
 intro e;subst e;rw [h] at h';exact d (Option.some.inj h')
theorem jq {H:Hp}{a b:Addr}{o:HO}(h:H a=some o)(h':H b=none):a≠b:=by
 intro e;subst e;rw [h] at h';cases h'
section
variable (P:Program)(w:World)
noncomputable def ObjOk (H:Hp)(h:Heap)(a:Addr):HO->Prop
 | .lst xs=>xs.length<=sizeLine/\∃ (its:List Value) (n:Nat),Vals xs its/\h.get? a=some { cls:=.type "list",data:=.seq its.toArray n }
 | .tup xs=>xs.length<=sizeLine/\∃ its:List Value,Vals xs its/\IsTup h a its.toArray
 | .dK kvs=>kvs.length<=sizeLine/\(a==sysModules)=false/\∃ vs,KV kvs vs/\h.DictOf (zy P w) a vs
 | .dT kvs=>kvs.length<=sizeLine/\(a==sysModules)=false/\∃ xs:List (List Key×Addr×Value),
   Paired (λ (p:List Key×V) (q:List Key×Addr×Value)=>p.1=q.1/\H q.2.1=some (.tup (p.1.map kV))/\RelV p.2 q.2.2) kvs xs /\
   ∃ o es ep,h.get? a=some o/\o.ExactDict/\o.data=.dict es ep/\es.toList=xs.map (entryOfKey (tupleKind (zy P w)))/\(xs.map (·.1)).Nodup
 | .set S n=>h.SetOf (intKind P w) a S n
 | .ins C dx fs=>H dx=some (.own a)/\fs.length<=1000/\dx≠a/\h.get? a=some (PySem.W.instObj C dx) /\
   ∃ mA,h.Ns1 dx mA/\(∀ f,RelO (fs.lookup f) (mA f))/\PySem.Within mA (fs.map (·.1))
 | .own _=>∃ o,h.get? a=some o
 | .xd fs=>∃ mA,h.Ns1 a mA/\∀ f,RelO (fs.lookup f) (mA f)
 | .rng lo hi=>∃ t u v,h.get? a=some { cls:=.type "range",data:=.fields #[.int lo t,.int hi u,.int 1 v] }
 | .frz o u=>h.get? a=some o/\ObjOk H h a u
 | .tbl ps=>h.get? a=some { cls:=.none,data:=.fields ps }
 | .met f x=>h.get? a=some (PySem.W.methodObj (.ref f) (.ref x))
 | .ext φ=>φ h/\(∃ o,h.get? a=some o)/\∀ h1 h2:Heap,φ h1->(∀ o,h1.get? a=some o->h2.get? a=some o)->φ h2
noncomputable def HOk (H:Hp)(h:Heap):Prop:=∀ a o,H a=some o->ObjOk P w H h a o
end
section
variable {P:Program}{w:World}{H H':Hp}{h h':Heap}{a:Addr}{o:HO}
theorem ObjOk.lt (x:ObjOk P w H h a o):a<h.objs.size:=by
 cases o with
 | lst xs=>obtain ⟨_,_,_,_,e⟩:=x;exact Y07 e
 | tup xs=>obtain ⟨_,_,_,p⟩:=x;exact p.lt
 | dK kvs=>obtain ⟨_,_,_,_,o,_,_,e,_⟩:=x;exact Y07 e
 | dT kvs=>obtain ⟨_,_,_,_,o,_,_,e,_⟩:=x;exact Y07 e
 | set S n=>obtain ⟨o,_,_,_,e,_⟩:=x;exact Y07 e
 | ins C dx fs=>obtain ⟨_,_,_,e,_⟩:=x;exact Y07 e
 | own y=>obtain ⟨_,e⟩:=x;exact Y07 e
 | xd fs=>obtain ⟨_,⟨_,_,_,e,_⟩,_⟩:=x;exact Y07 e
 | rng lo hi=>obtain ⟨_,_,_,e⟩:=x;exact Y07 e
 | frz ob u=>obtain ⟨e,_⟩:=x;exact Y07 e
 | tbl ps=>exact Y07 (show h.get? a=some _ from x)
 | met f y=>exact Y07 (show h.get? a=some _ from x)
 | ext φ=>obtain ⟨_,⟨_,e⟩,_⟩:=x;exact Y07 e
theorem Paired.mapP {α β:Type}{F G:α->β->Prop}:∀ {l₁:List α}{l₂:List β},Paired F l₁ l₂->(∀ a b,F a b->G a b)->Paired G l₁ l₂
 | _,_,.nil,_=>.nil
 | _,_,.cons r t,f=>.cons (f _ _ r) (Paired.mapP t f)
theorem ObjOk.stay (x:ObjOk P w H h a o)(k:∀ b u,(b=a\/H b=some (.own a))->h.get? b=some u->h'.get? b=some u)
  (ho:∀ b,H b=some (.own a)->H' b=some (.own a)) (ht:∀ b xs,H b=some (.tup xs)->H' b=some (.tup xs)):ObjOk P w H' h' a o:=by
 induction o with
 | lst xs=>obtain ⟨z,its,n,r,e⟩:=x;exact ⟨z,its,n,r,k _ _ (.inl rfl) e⟩
 | tup xs=>obtain ⟨z,its,r,ob,e,c⟩:=x;exact ⟨z,its,r,ob,k _ _ (.inl rfl) e,c⟩
 | dK kvs=>obtain ⟨z,y,vs,r,ob,es,ep,e,c⟩:=x;exact ⟨z,y,vs,r,ob,es,ep,k _ _ (.inl rfl) e,c⟩
 | dT kvs =>
  obtain ⟨z,y,xs,r,ob,es,ep,e,c⟩:=x
  exact ⟨z,y,xs,Paired.mapP r λ p q z=>⟨z.1,ht _ _ z.2.1,z.2.2⟩,ob,es,ep,k _ _ (.inl rfl) e,c⟩
 | set S n=>obtain ⟨ob,es,ep,t,e,c⟩:=x;exact ⟨ob,es,ep,t,k _ _ (.inl rfl) e,c⟩
 | ins C dx fs =>
  obtain ⟨d,z,ne,e,mA,⟨od,es,ep,e2,c⟩,r⟩:=x
  exact ⟨ho _ d,z,ne,k _ _ (.inl rfl) e,mA,⟨od,es,ep,k _ _ (.inr d) e2,c⟩,r⟩
 | own y=>obtain ⟨ob,e⟩:=x;exact ⟨ob,k _ _ (.inl rfl) e⟩
 | xd fs=>obtain ⟨mA,⟨od,es,ep,e,c⟩,r⟩:=x;exact ⟨mA,⟨od,es,ep,k _ _ (.inl rfl) e,c⟩,r⟩
 | rng lo hi=>obtain ⟨t,u,v,e⟩:=x;exact ⟨t,u,v,k _ _ (.inl rfl) e⟩
 | frz ob u ih=>obtain ⟨e,q⟩:=x;exact ⟨k _ _ (.inl rfl) e,ih q⟩
 | tbl ps =>
  have e:h.get? a=some { cls:=.none,data:=.fields ps }:=x
  show h'.get? a=some { cls:=.none,data:=.fields ps }
  exact k a _ (.inl rfl) e
 | met f y =>
  have e:h.get? a=some (PySem.W.methodObj (.ref f) (.ref y)):=x
  show h'.get? a=some (PySem.W.methodObj (.ref f) (.ref y))
  exact k a _ (.inl rfl) e
 | ext φ=>obtain ⟨p,⟨o,e⟩,st⟩:=x;exact ⟨st _ _ p λ o q=>k _ _ (.inl rfl) q,⟨o,k _ _ (.inl rfl) e⟩,st⟩
theorem HOk.lt (x:HOk P w H h)(e:H a=some o):a<h.objs.size:=(x a o e).lt
theorem HOk.fresh (x:HOk P w H h)(e:h.objs.size<=a):H a=none:=by
 cases q:H a with
 | none=>rfl
 | some u=>exact absurd (Y0g (x.lt q) e) (Y14 _)
theorem HOk.kept (x:HOk P w H h)(k:∀ b u,h.get? b=some u->h'.get? b=some u):HOk P w H h':=λ a o e =>
 (x a o e).stay (λ b u _ q=>k b u q) (λ _ q=>q) λ _ _ q=>q
theorem HOk.laid (x:HOk P w H h)(k:∀ b u,h.get? b=some u->h'.get? b=some u)(hp:h.objs.size<=a)(new:ObjOk P w (upd H a o) h' a o):HOk P w (upd H a o) h':=λ b u e=>by
 have hn:=x.fresh hp
 by_cases hb:b=a
 ·subst hb;rw [zx] at e;cases e;exact new
 ·rw [zq hb] at e
  exact (x b u e).stay (λ c v _ q=>k c v q) (λ c q=>by rw [zq (jq q hn)];exact q) λ c xs q=>by rw [zq (jq q hn)];exact q
end
noncomputable def Rd (H:Hp)(a:Addr)(u:HO):Prop:=H a=some u\/∃ o,H a=some (.frz o u)
theorem Rd.ok {P:Program}{w:World}{H:Hp}{h:Heap}{a:Addr}{u:HO}(r:Rd H a u)(x:HOk P w H h):ObjOk P w H h a u:=by
 rcases r with r | ⟨o,r⟩
 ·exact x a u r
 ·obtain ⟨_,q⟩:=x a _ r
  exact q
noncomputable def Mut:Option HO->Prop
 | some (.lst _)=>True
 | some (.dK _)=>True
 | some (.dT _)=>True
 | some (.set _ _)=>True
 | some (.ins _ _ _)=>True
 | some (.ext _)=>True
 | _=>False
section
variable {P:Program}{w:World}{H:Hp}{h h':Heap}{x e:Addr}{o':HO}
theorem HOk.write (ok:HOk P w H h)(mu:Mut (H x))(he:e=x\/H e=some (.own x))(k:∀ b u,b≠e->h.get? b=some u->h'.get? b=some u)(heo:∃ u,h'.get? e=some u)
  (new:ObjOk P w (upd H x o') h' x o'):HOk P w (upd H x o') h':=λ b u q=>by
 have nown:∀ c y,H c=some (.own y)->c≠x:=λ c y r z=>by subst z;rw [r] at mu;exact mu
 have ntup:∀ c xs,H c=some (.tup xs)->c≠x:=λ c xs r z=>by subst z;rw [r] at mu;exact mu
 by_cases hb:b=x
 ·subst hb;rw [zx] at q;cases q;exact new
 ·rw [zq hb] at q
  by_cases hbe:b=e
  ·have q':H b=some (.own x):=by
    rcases he with z | z
    ·exact absurd (hbe.trans z) hb
    ·rw [hbe];exact z
   rw [q] at q';cases q'
   obtain ⟨v,hv⟩:=heo
   exact ⟨v,by rw [hbe];exact hv⟩
  ·refine (ok b u q).stay (λ c v hc r=>k c v ?_ r) (λ c r=>by rw [zq (nown c b r)];exact r) λ c xs r=>by rw [zq (ntup c xs r)];exact r
   rcases hc with rfl | hc
   ·exact hbe
   ·rintro rfl
    rcases he with z | z
    ·exact nown c b hc z
    ·rw [hc] at z;cases z;exact hb rfl
end
structure Un (fs ex:List Addr)(H H':Hp)(h h':Heap):Prop where
 keep:∀ b o,h.get? b=some o->H b=none->b∉fs->b∉ex->h'.get? b=some o
 slot:∀ b o,h.get? b=some o->H b=none->b∈fs->b∉ex->∃ sl,h'.get? b=some { o with slots:=sl }
 free:∀ b o,h.get? b=some o->H b=none->b∉ex->H' b=none
 there:∀ b o,h.get? b=some o->b∉ex->∃ o',h'.get? b=some o'
 tups:∀ b xs,H b=some (.tup xs)->H' b=some (.tup xs)
 frzs:∀ b o u,H b=some (.frz o u)->H' b=some (.frz o u)
 tbls:∀ b ps,H b=some (.tbl ps)->∃ more,H' b=some (.tbl (ps++more))
section
variable {fs fs' ex ex':List Addr}{H H1 H2:Hp}{h h1 h2 h':Heap}{a x e:Addr}{o:HO}
theorem Un.any (u:Un fs ex H H1 h h1){b:Addr}{ob:Obj}(q:h.get? b=some ob)(n:H b=none)(hx:b∉ex):∃ sl,h1.get? b=some { ob with slots:=sl }:=by
 by_cases hb:b∈fs
 ·exact u.slot b ob q n hb hx
 ·exact ⟨ob.slots,u.keep b ob q n hb hx⟩
theorem Un.kept (k:∀ b u,h.get? b=some u->h'.get? b=some u):Un fs ex H H h h' :=
 ⟨λ b ob q _ _ _=>k b ob q,λ b ob q _ _ _=>⟨ob.slots,k b ob q⟩,λ _ _ _ n _=>n,λ b ob q _=>⟨ob,k b ob q⟩,λ _ _ q=>q,λ _ _ _ q=>q,λ _ ps q=>⟨#[],by rw [q];simp⟩⟩
theorem Un.refl:Un fs ex H H h h:=Un.kept λ _ _ q=>q
theorem Un.laid (k:∀ b u,h.get? b=some u->h'.get? b=some u)(hp:h.objs.size<=a)(hn:H a=none):Un fs ex H (upd H a o) h h' where
 keep:=λ b u q _ _ _=>k b u q
 slot:=λ b u q _ _ _=>⟨u.slots,k b u q⟩
 free:=λ b u q n _=>by rw [zq (Y0f (Y0g (Y07 q) hp))];exact n
 there:=λ b u q _=>⟨u,k b u q⟩
 tups:=λ b xs q=>by rw [zq (jq q hn)];exact q
 frzs:=λ b u xs q=>by rw [zq (jq q hn)];exact q
 tbls:=λ b ps q=>⟨#[],by rw [zq (jq q hn),q];simp⟩
theorem Un.write (mu:Mut (H x))(he:e=x\/H e=some (.own x))(k:∀ b u,b≠e->h.get? b=some u->h'.get? b=some u)(heo:∃ u,h'.get? e=some u):Un fs ex H (upd H x o) h h':=by
 have hx:∀ b,H b=none->b≠x:=λ b n z=>by subst z;rw [n] at mu;exact mu
 have hb:∀ b,H b=none->b≠e:=λ b n z=>by
  subst z
  rcases he with r | r
  ·exact hx b n r
  ·rw [n] at r;cases r
 have hm:∀ b u,H b=some u->¬ Mut (some u)->b≠x:=λ b u q nm z=>by subst z;rw [q] at mu;exact nm mu
 refine ⟨λ b u q n _ _=>k b u (hb b n) q,λ b u q n _ _=>⟨u.slots,k b u (hb b n) q⟩,λ b u q n _=>by rw [zq (hx b n)];exact n,λ b u q _=>?_,
  λ b xs q=>by rw [zq (hm b _ q λ z=>z)];exact q,λ b u xs q=>by rw [zq (hm b _ q λ z=>z)];exact q,λ b ps q=>⟨#[],by rw [zq (hm b _ q λ z=>z),q];simp⟩⟩
 by_cases hbe:b=e
 ·subst hbe;exact heo
 ·exact ⟨u,k b u hbe q⟩
end
noncomputable def trk (h:Heap)(H:Hp):List Addr:=(List.range h.objs.size).filter λ a=>(H a).isSome
noncomputable def W4 (h:Heap)(H:Hp):Heap:=PySem.W.hideAll h (trk h H)
theorem Us (h:Heap)(H:Hp):(W4 h H).objs.size=h.objs.size:=PySem.W.hideAll_size _ _
theorem Vm {h:Heap}{H:Hp}{b:Addr}{o:Obj}(e:h.get? b=some o)(n:H b=none):(W4 h H).get? b=some o :=
 PySem.W.hideAll_get _ e λ hm=>by
  have q:(H b).isSome=true:=(List.mem_filter.mp hm).2
  rw [n] at q;simp at q
theorem Oj {h:Heap}{H:Hp}{b:Addr}{o:Obj}(e:(W4 h H).get? b=some o):h.get? b=some o/\H b=none:=by
 have e':h.get? b=some o:=PySem.W.of_hideAll (trk h H) e
 refine ⟨e',?_⟩
 cases q:H b with
 | none=>rfl
 | some x =>
  have hm:b∈trk h H:=List.mem_filter.mpr ⟨Y35.mpr (Y07 e'),by simp [q]⟩
  have z:(W4 h H).get? b=none:=Y33 (trk h H) hm
  rw [z] at e;cases e
noncomputable def Ol (g h:Heap)(L:Addr):List (Addr×Obj):=(List.range h.objs.size).filterMap λ a=>if a=L\/(g.get? a).isSome=true then none else (h.get? a).map λ o=>(a,o)
noncomputable def qW (g h:Heap)(L d:Addr):List (Addr×Obj):=(Ol g h L).filter λ p=>decide (p.1≠d)
end L2
namespace L2
open PySem PySem.Spec PyProof.Rows
structure Mod (K:Y00)(mg:Str->Option Value)(base:Heap):Prop where
 kin:K.In base
 glob:base.Ns mainGlobals mg
 blt:∃ mb,base.Ns builtinsNs mb/\∀ x:Str,x≠"__name__"->mb x=bootBuiltins x
 nolimit:base.NoLimit
structure Cx where
 prog:Program
 w:World
 K:Y00
 mg:Str->Option Value
 base:Heap
 A:Around
 N:List Str
 s₀:Shared
 H₀:Hp
 env:Env
 outer:List Env
 stack:List Env
 ex:List Addr
 fn:Str->Bool
 calm:Bool
 pn:List (Addr×Obj)
 xe:Value->Shared->Prop
noncomputable def frs (l:List Env):List Addr:=l.filterMap (·.frame)
noncomputable abbrev Cx.fs (X:Cx):List Addr:=frs X.outer
noncomputable def Vis (sc:Scope)(x:Str):Prop:=sc.names.lookup x=some .local\/sc.names.lookup x=some .cell\/sc.names.lookup x=some .free
noncomputable def Loc (sc:Scope)(x:Str):Prop:=sc.names.lookup x=some .local\/sc.names.lookup x=some .cell
noncomputable def z5a (env:Env)(h:Heap)(m:Str->Option Value)(x:Str)(u:Value):Prop :=
 (env.kindOf x=some .local/\m x=some u)\/((env.kindOf x=some .cell\/env.kindOf x=some .free)/\∃ c,env.cells.lookup x=some c/\h.IsCell c (some u))
structure Cx.Ok (X:Cx):Prop where
 mod:Mod X.K X.mg X.base
 kind:X.env.scope.kind=.function
 glob:X.env.globals=mainGlobals
 blt:X.env.builtins=builtinsNs
 above:X.s₀.heap.objs.size<=X.env.locals
 inj:∀ x y c,X.env.cells.lookup x=some c->X.env.cells.lookup y=some c->x=y
 has:∀ x,(X.env.kindOf x=some .cell\/X.env.kindOf x=some .free)->∃ c,X.env.cells.lookup x=some c
 cab:∀ x c,X.fn x=true->X.env.cells.lookup x=some c->X.s₀.heap.objs.size<=c
 hd:X.calm=true->X.A.handled=none
 frames:X.A.frames=some X.stack
 stk:X.stack=X.outer\/(X.stack=X.env::X.outer/\X.env.frame=some X.env.locals)
 exf:∀ b∈X.ex,b≠X.env.locals/\∀ x c,X.env.cells.lookup x=some c->c≠b
 bs:∀ b o,X.base.get? b=some o->X.s₀.heap.get? b=some o/\X.H₀ b=none
 bsz:X.base.objs.size<=X.s₀.heap.objs.size
 noex:∀ b o,X.base.get? b=some o->b∉X.ex
 exfs:∀ b∈X.ex,b∉X.fs
 funs:X.s₀.heap.FunFrames X.base X.outer
 frf:∀ b∈X.fs,X.H₀ b=none
structure Inv (X:Cx)(pins:List (Addr×Obj))(σ:List (Option V))(H:Hp)(s:Shared):Prop where
 ok:X.Ok
 os:s.os=X.s₀.os
 bare:AllBare s.gens
 base:Un X.fs X.ex X.H₀ H X.s₀.heap s.heap
 loc:∃ m,s.heap.Ns X.env.locals m/\∀ (i:Nat) (x:Str) (v:V),X.N[i]?=some x->σ[i]?=some (some v)->Vis X.env.scope x->∃ u,RelV v u/\z5a X.env s.heap m x u
 cell:∀ x c,X.env.cells.lookup x=some c->∃ v,s.heap.IsCell c v
 free:H X.env.locals=none
 freeC:∀ x c,X.env.cells.lookup x=some c->H c=none
 pin:∀ p∈X.pn++pins,s.heap.get? p.1=some p.2/\H p.1=none/\p.1≠X.env.locals/\p.1∉X.fs/\∀ v,p.2.data≠.cell v
 hok:HOk X.prog X.w H s.heap
 len:σ.length=X.N.length
section
variable {X:Cx}{pins:List (Addr×Obj)}{σ:List (Option V)}{H H':Hp}{s:Shared}{h':Heap}
theorem Cx.Ok.nofr (ok:X.Ok){b:Addr}{o:Obj}(e:X.base.get? b=some o):b∉X.fs:=λ hb=>by
 have:=(ok.funs.mem hb).1
 rw [e] at this;cases this
theorem Inv.bs (I:Inv X pins σ H s):∀ b o,X.base.get? b=some o->s.heap.get? b=some o/\H b=none:=λ b o e =>
 ⟨I.base.keep b o (I.ok.bs b o e).1 (I.ok.bs b o e).2 (I.ok.nofr e) (I.ok.noex b o e),I.base.free b o (I.ok.bs b o e).1 (I.ok.bs b o e).2 (I.ok.noex b o e)⟩
theorem Inv.bk (I:Inv X pins σ H s):∀ b o,X.base.get? b=some o->s.heap.get? b=some o:=λ b o e=>(I.bs b o e).1
theorem Inv.mod (I:Inv X pins σ H s):Mod X.K X.mg X.base:=I.ok.mod
theorem Inv.kIn (I:Inv X pins σ H s):X.K.In s.heap:=I.ok.mod.kin.keeps I.bk
theorem Inv.lt (I:Inv X pins σ H s):X.env.locals<s.heap.objs.size:=let ⟨_,hn,_⟩:=I.loc;hn.lt
theorem Inv.sz (I:Inv X pins σ H s):X.s₀.heap.objs.size<=s.heap.objs.size:=Y11 I.ok.above (Y2h I.lt)
theorem Inv.nofs (I:Inv X pins σ H s){a:Addr}(h:s.heap.objs.size<=a):a∉X.fs:=λ hb=>by
 obtain ⟨_,o,ho,_⟩:=I.ok.funs.mem hb
 exact absurd (Y0g (Y07 ho) (Y11 I.sz h)) (Y14 _)
theorem Inv.cne (I:Inv X pins σ H s):∀ x c,X.env.cells.lookup x=some c->c≠X.env.locals:=λ x c e z=>by
 obtain ⟨v,o,ho,hd⟩:=I.cell x c e
 obtain ⟨m,⟨o',es,ep,ho',hd',_⟩,_⟩:=I.loc
 rw [z,ho'] at ho;cases ho;rw [hd'] at hd;cases hd
theorem Inv.funs (I:Inv X pins σ H s):s.heap.FunFrames X.base X.outer:=by
 have all:∀ (l:List Env),(∀ b∈frs l,b∈X.fs)->X.s₀.heap.FunFrames X.base l->s.heap.FunFrames X.base l:=by
  intro l
  induction l with
  | nil=>intro _ _;trivial
  | cons env r ih =>
   intro hs hl
   obtain ⟨hk,⟨L,o,hf,hn,ho,hd⟩,hr⟩:=hl
   have hL:L∈X.fs:=hs L (by unfold frs;rw [Y26,hf];exact Y0b)
   obtain ⟨sl,e⟩:=I.base.slot L o ho (I.ok.frf L hL) hL λ z=>I.ok.exfs L z hL
   exact ⟨hk,⟨L,_,hf,hn,e,hd⟩,ih (λ b hb=>hs b (by unfold frs;rw [Y26,hf];exact Y04 _ hb)) hr⟩
 exact all X.outer (λ _ hb=>hb) I.ok.funs
theorem Inv.stack (I:Inv X pins σ H s):s.heap.FunFrames X.base X.stack:=by
 rcases I.ok.stk with e | ⟨e,hf⟩
 ·rw [e];exact I.funs
 ·rw [e]
  obtain ⟨m,hn,_⟩:=I.loc
  refine .cons (by rw [I.ok.kind];decide) hf hn ?_ I.funs
  exact Y22 (Y11 I.ok.bsz I.ok.above)
theorem Inv.stkSub (I:Inv X pins σ H s):∀ b∈frs X.stack,b∈X.env.locals::X.fs:=λ b hb=>by
 rcases I.ok.stk with e | ⟨e,hf⟩
 ·rw [e] at hb;exact Y04 _ hb
 ·rw [e] at hb
  unfold frs at hb
  rw [Y26,hf] at hb
  exact hb
theorem Inv.stkFree (I:Inv X pins σ H s):∀ b∈frs X.stack,H b=none:=λ b hb=>by
 rcases Y0d.mp (I.stkSub b hb) with e | hb
 ·rw [e];exact I.free
 ·obtain ⟨_,o,ho,_⟩:=I.ok.funs.mem hb
  exact I.base.free b o ho (I.ok.frf b hb) λ z=>I.ok.exfs b z hb
theorem Inv.step {g':Array GenState}{t':Nat}{d':Drawn}{ch:List Addr}(I:Inv X pins σ H s)
  (hch:∀ b∈ch,(b∈X.ex\/X.s₀.heap.objs.size<=b)/\b≠X.env.locals/\(∀ x c,X.env.cells.lookup x=some c->c≠b)/\∀ p∈X.pn++pins,p.1≠b)
  (keep:∀ b o,b≠X.env.locals->b∉X.fs->b∉ch->s.heap.get? b=some o->H b=none->h'.get? b=some o)
  (slot:∀ b o,b≠X.env.locals->b∈X.fs->b∉ch->s.heap.get? b=some o->H b=none->∃ sl,h'.get? b=some { o with slots:=sl }) (free:∀ b o,b∉ch->s.heap.get? b=some o->H b=none->H' b=none)
  (there:∀ b o,b∉ch->s.heap.get? b=some o->∃ o',h'.get? b=some o')
  (tups:∀ b xs,H b=some (.tup xs)->H' b=some (.tup xs)) (frzs:∀ b o u,H b=some (.frz o u)->H' b=some (.frz o u)) (tbls:∀ b ps,H b=some (.tbl ps)->∃ more,H' b=some (.tbl (ps++more)))
  (ns:∀ m,s.heap.Ns X.env.locals m->h'.Ns X.env.locals m) (hok:HOk X.prog X.w H' h') (hg:AllBare g') :
  Inv X pins σ H' { s with heap:=h',gens:=g',drawn:=d',toks:=t' }:=by
 have neL:∀ b o,X.s₀.heap.get? b=some o->b≠X.env.locals:=λ b o e=>Y0f (Y0g (Y07 e) I.ok.above)
 have neC:∀ b o,X.s₀.heap.get? b=some o->b∉X.ex->b∉ch:=λ b o e hx hb=>by
  rcases (hch b hb).1 with z | z
  ·exact hx z
  ·exact absurd (Y0g (Y07 e) z) (Y14 _)
 have cellK:∀ x c,X.env.cells.lookup x=some c->∀ v,s.heap.IsCell c v->h'.IsCell c v:=λ x c e v ⟨o,ho,hd⟩=>by
  have nch:c∉ch:=λ z=>(hch c z).2.2.1 x c e rfl
  by_cases hc:c∈X.fs
  ·obtain ⟨sl,q⟩:=slot c o (I.cne x c e) hc nch ho (I.freeC x c e)
   exact ⟨_,q,hd⟩
  ·exact ⟨o,keep c o (I.cne x c e) hc nch ho (I.freeC x c e),hd⟩
 refine ⟨I.ok,I.os,hg,⟨λ b o e n hb hx=>?_,λ b o e n hb hx=>?_,λ b o e n hx=>?_,λ b o e hx=>?_,λ b xs e=>tups b xs (I.base.tups b xs e),λ b o xs e=>frzs b o xs (I.base.frzs b o xs e),λ b ps e=>?_⟩,?_,λ x c e=>?_,?_,λ x c e=>?_,λ p hp=>?_,hok,I.len⟩
 ·exact keep b o (neL b o e) hb (neC b o e hx) (I.base.keep b o e n hb hx) (I.base.free b o e n hx)
 ·obtain ⟨sl,e1⟩:=I.base.slot b o e n hb hx
  obtain ⟨sl',e2⟩:=slot b _ (neL b o e) hb (neC b o e hx) e1 (I.base.free b o e n hx)
  exact ⟨sl',e2⟩
 ·obtain ⟨o',e1⟩:=I.base.there b o e hx
  exact free b o' (neC b o e hx) e1 (I.base.free b o e n hx)
 ·obtain ⟨o',e1⟩:=I.base.there b o e hx
  exact there b o' (neC b o e hx) e1
 ·obtain ⟨m1,e1⟩:=I.base.tbls b ps e
  obtain ⟨m2,e2⟩:=tbls b _ e1
  exact ⟨m1++m2,by rw [e2,Array.append_assoc]⟩
 ·obtain ⟨m,hn,hl⟩:=I.loc
  refine ⟨m,ns m hn,λ i x v e1 e2 e3=>?_⟩
  obtain ⟨u,r,l⟩:=hl i x v e1 e2 e3
  refine ⟨u,r,?_⟩
  rcases l with l | ⟨k,c,e,z⟩
  ·exact .inl l
  ·exact .inr ⟨k,c,e,cellK x c e _ z⟩
 ·obtain ⟨v,z⟩:=I.cell x c e
  exact ⟨v,cellK x c e v z⟩
 ·obtain ⟨m,⟨o,_,_,ho,_⟩,_⟩:=I.loc
  exact free _ o (λ z=>(hch _ z).2.1 rfl) ho I.free
 ·obtain ⟨v,o,ho,hd⟩:=I.cell x c e
  exact free c o (λ z=>(hch c z).2.2.1 x c e rfl) ho (I.freeC x c e)
 ·obtain ⟨e,n,ne,nf,d⟩:=I.pin p hp
  have nch:p.1∉ch:=λ z=>(hch p.1 z).2.2.2 p hp rfl
  exact ⟨keep p.1 p.2 ne nf nch e n,free p.1 p.2 nch e n,ne,nf,d⟩
theorem Inv.un {t':Nat}(I:Inv X pins σ H s)(u:Un X.fs [] H H' s.heap h')(hok:HOk X.prog X.w H' h'):Inv X pins σ H' { s with heap:=h',toks:=t' }:=by
 obtain ⟨m,⟨o,es,ep,ho,r⟩,_⟩:=id I.loc
 obtain ⟨sl,hL⟩:=u.any ho I.free (by simp)
 exact I.step (g':=s.gens) (d':=s.drawn) (ch:=[]) (λ _ z=>nomatch z) (λ b o _ hb _ e n=>u.keep b o e n hb (by simp)) (λ b o _ hb _ e n=>u.slot b o e n hb (by simp)) (λ b o _ e n=>u.free b o e n (by simp)) (λ b o _ e=>u.there b o e (by simp)) u.tups u.frzs u.tbls (λ m' hm=>by
  obtain ⟨o',es',ep',ho',r'⟩:=hm
  rw [ho] at ho';cases ho'
  exact ⟨_,es',ep',hL,r'⟩) hok I.bare
theorem Inv.call {g':Array GenState}{t':Nat}{d':Drawn}{ch:List Addr}(I:Inv X pins σ H s)(u:Un (frs X.stack) ch H H' s.heap h')(hok:HOk X.prog X.w H' h')(hg:AllBare g')
  (hch:∀ b∈ch,(b∈X.ex\/X.s₀.heap.objs.size<=b)/\b≠X.env.locals/\(∀ x c,X.env.cells.lookup x=some c->c≠b)/\∀ p∈X.pn++pins,p.1≠b) :
  Inv X pins σ H' { s with heap:=h',gens:=g',drawn:=d',toks:=t' }:=by
 obtain ⟨m,⟨o,es,ep,ho,r⟩,_⟩:=id I.loc
 obtain ⟨sl,hL⟩:=u.any ho I.free λ z=>(hch _ z).2.1 rfl
 exact I.step (ch:=ch) hch (λ b o hL hb hc e n=>u.keep b o e n (λ z=>(Y0d.mp (I.stkSub b z)).elim hL hb) hc) (λ b o _ _ hc e n=>u.any e n hc) (λ b o hc e n=>u.free b o e n hc) (λ b o hc e=>u.there b o e hc) u.tups u.frzs u.tbls (λ m' hm=>by
  obtain ⟨o',es',ep',ho',r'⟩:=hm
  rw [ho] at ho';cases ho'
  exact ⟨_,es',ep',hL,r'⟩) hok hg
theorem Inv.turned {t':Nat}{it:Addr}(I:Inv X pins σ H s)(k:∀ b o,b≠it->s.heap.get? b=some o->h'.get? b=some o)(hn:H it=none)(hL:it≠X.env.locals)
  (h1:it∈X.ex\/X.s₀.heap.objs.size<=it) (h2:∀ x c,X.env.cells.lookup x=some c->c≠it) (h3:∀ p∈X.pn++pins,p.1≠it):Inv X pins σ H { s with heap:=h',toks:=t' }:=by
 have nit:∀ b u,H b=some u->b≠it:=λ b u e z=>by rw [z,hn] at e;cases e
 refine I.step (g':=s.gens) (d':=s.drawn) (ch:=[it]) (λ b hb=>?_) (λ b o _ _ hc e _=>k b o (λ z=>hc (by simp [z])) e) (λ b o _ _ hc e _=>⟨o.slots,k b o (λ z=>hc (by simp [z])) e⟩) (λ _ _ _ _ n=>n)
  (λ b o hc e=>⟨o,k b o (λ z=>hc (by simp [z])) e⟩) (λ _ _ e=>e) (λ _ _ _ e=>e) (λ b ps e=>⟨#[],by rw [e];simp⟩) (λ m hm=>?_) (λ b u e=>?_) I.bare
 ·have e:b=it:=by simpa using hb
  subst e
  exact ⟨h1,hL,h2,h3⟩
 ·obtain ⟨o,es,ep,ho,r⟩:=hm
  exact ⟨o,es,ep,k _ o (Ne.symm hL) ho,r⟩
 ·refine (I.hok b u e).stay (λ c v hc q=>k c v ?_ q) (λ _ q=>q) λ _ _ q=>q
  rcases hc with z | z
  ·rw [z];exact nit b u e
  ·exact nit c _ z
theorem Inv.tok (I:Inv X pins σ H s)(t:Nat):Inv X pins σ H { s with toks:=t }:=I.un (h':=s.heap) (t':=t) Un.refl I.hok
theorem Inv.kept {t':Nat}(I:Inv X pins σ H s)(k:∀ b u,s.heap.get? b=some u->h'.get? b=some u):Inv X pins σ H { s with heap:=h',toks:=t' }:=I.un (Un.kept k) (I.hok.kept k)
theorem Inv.laid {a:Addr}{o:HO}{t':Nat}(I:Inv X pins σ H s)(k:∀ b u,s.heap.get? b=some u->h'.get? b=some u)(hp:s.heap.objs.size<=a)(new:ObjOk X.prog X.w (upd H a o) h' a o) :
  Inv X pins σ (upd H a o) { s with heap:=h',toks:=t' }:=I.un (Un.laid k hp (I.hok.fresh hp)) (I.hok.laid k hp new)
theorem Inv.write {x e:Addr}{o:HO}{t':Nat}(I:Inv X pins σ H s)(mu:Mut (H x))(he:e=x\/H e=some (.own x))(k:∀ b u,b≠e->s.heap.get? b=some u->h'.get? b=some u)(heo:∃ u,h'.get? e=some u)
  (new:ObjOk X.prog X.w (upd H x o) h' x o):Inv X pins σ (upd H x o) { s with heap:=h',toks:=t' }:=I.un (Un.write mu he k heo) (I.hok.write mu he k heo new)
theorem Inv.weak {σ':List (Option V)}(I:Inv X pins σ H s)(hl:σ'.length=σ.length)(w:∀ (i:Nat) v,σ'[i]?=some (some v)->σ[i]?=some (some v)):Inv X pins σ' H s :=
 ⟨I.ok,I.os,I.bare,I.base,let ⟨m,hn,hl'⟩:=I.loc;⟨m,hn,λ i x v e1 e2 e3=>hl' i x v e1 (w i v e2) e3⟩,I.cell,I.free,I.freeC,I.pin,I.hok,hl.trans I.len⟩
theorem Inv.pins_of {pins':List (Addr×Obj)}(I:Inv X pins σ H s)(h:∀ p∈pins',s.heap.get? p.1=some p.2/\H p.1=none/\p.1≠X.env.locals/\p.1∉X.fs/\∀ v,p.2.data≠.cell v):Inv X pins' σ H s :=
 ⟨I.ok,I.os,I.bare,I.base,I.loc,I.cell,I.free,I.freeC,λ p hp=>(Y2b.mp hp).elim (λ z=>I.pin p (Y1b _ z)) (h p),I.hok,I.len⟩
theorem WS {N:List Str}(hN:N.Nodup){i j:Nat}{x:Str}(a:N[i]?=some x)(b:N[j]?=some x):i=j:=by
 obtain ⟨h1,e1⟩:=Y0c.mp a
 obtain ⟨h2,e2⟩:=Y0c.mp b
 exact (List.getElem_inj hN).mp (e1.trans e2.symm)
theorem Jn {M:Model}{A:Around}{E:Value->Shared->Prop}{i:Nat}{x:Str}{v:V}{u:Value}{Q:Unit->Shared->Prop}(I:Inv X pins σ H s)(hN:X.N.Nodup)(hi:X.N[i]?=some x)(hx:Loc X.env.scope x)(r:RelV v u)
  (h:∀ s',Inv X pins (σ.set i (some v)) H s'->(∃ a,Heap.SameBut a s.heap s'.heap/\(a=X.env.locals\/X.env.cells.lookup x=some a))->Q () s') (hf:X.fn x=true\/X.env.scope.names.lookup x=some .local:=by first | exact .inl rfl | exact .inr rfl | assumption):wpAny M A (storeName X.env x u) Q E s:=by
 obtain ⟨m,hn,hl⟩:=id I.loc
 have hcls:(X.env.scope.kind==.class||(X.env.scope.kind==.module&&X.env.locals != X.env.globals))=false:=by rw [I.ok.kind];rfl
 have hiσ:i<σ.length:=by rw [I.len];exact (Y0c.mp hi).1
 have cne:=I.cne
 have tracked:∀ {a:Addr}{h':Heap},(∃ o,s.heap.get? a=some o/\H a=none)->Heap.SameBut a s.heap h'->HOk X.prog X.w H h':=λ {a h'} ha hs b ob e=>by
  obtain ⟨_,_,hfree⟩:=ha
  refine (I.hok b ob e).stay (λ c w' hc q=>(hs.2 c ?_).trans q) (λ _ q=>q) λ _ _ q=>q
  rintro rfl
  rcases hc with rfl | hc
  ·rw [hfree] at e;cases e
  ·rw [hfree] at hc;cases hc
 rcases hx with hk | hk
 ·refine wpAny_storeName_local hk hn (λ h' hn' hs=>?_) hcls
  obtain ⟨oL,_,_,hoL,_⟩:=id hn
  refine h _ ⟨I.ok,I.os,I.bare,⟨λ b o e n hb hx=>?_,λ b o e n hb hx=>?_,I.base.free,λ b o e hx=>?_,I.base.tups,I.base.frzs,I.base.tbls⟩,⟨_,hn',λ j y v' e1 e2 e3=>?_⟩,λ y c e=>?_,I.free,I.freeC,λ p hp=>?_,tracked ⟨oL,hoL,I.free⟩ hs,by simpa using I.len⟩ ⟨_,hs,.inl rfl⟩
  ·exact (hs.2 b (Y0f (Y0g (Y07 e) I.ok.above))).trans (I.base.keep b o e n hb hx)
  ·obtain ⟨sl,e1⟩:=I.base.slot b o e n hb hx
   exact ⟨sl,(hs.2 b (Y0f (Y0g (Y07 e) I.ok.above))).trans e1⟩
  ·obtain ⟨o',e1⟩:=I.base.there b o e hx
   exact ⟨o',(hs.2 b (Y0f (Y0g (Y07 e) I.ok.above))).trans e1⟩
  ·by_cases hj:j=i
   ·subst hj
    rw [hi] at e1;cases e1
    rw [Y0r hiσ] at e2
    cases e2
    exact ⟨u,r,.inl ⟨hk,by simp⟩⟩
   ·rw [Y15 (Ne.symm hj)] at e2
    obtain ⟨u',r',q⟩:=hl j y v' e1 e2 e3
    refine ⟨u',r',?_⟩
    rcases q with ⟨k,e⟩ | ⟨k,c,e,z⟩
    ·refine .inl ⟨k,?_⟩
     have:y≠x:=λ e=>hj (WS hN e1 (e▸hi))
     simp [this,e]
    ·exact .inr ⟨k,c,e,z.sameBut hs (cne y c e)⟩
  ·obtain ⟨w',z⟩:=I.cell y c e
   exact ⟨w',z.sameBut hs (cne y c e)⟩
  ·obtain ⟨e,n,ne,nf,d⟩:=I.pin p hp
   exact ⟨(hs.2 p.1 ne).trans e,n,ne,nf,d⟩
 ·have hfn:X.fn x=true:=by
   rcases hf with z | z
   ·exact z
   ·rw [z] at hk;cases hk
  obtain ⟨c,hc⟩:=I.ok.has x (.inl hk)
  obtain ⟨w',z⟩:=I.cell x c hc
  refine wpAny_storeName_cell I.ok.kind hk hc z (λ h' hc' hs=>?_)
  obtain ⟨oc,hoc,hocd⟩:=id z
  refine h { s with heap:=h' } ⟨I.ok,I.os,I.bare,⟨λ b o e n hb hx=>?_,λ b o e n hb hx=>?_,I.base.free,λ b o e hx=>?_,I.base.tups,I.base.frzs,I.base.tbls⟩,⟨m,hn.sameBut hs (Ne.symm (cne x c hc)),λ j y v' e1 e2 e3=>?_⟩,λ y c' e=>?_,I.free,I.freeC,λ p hp=>?_,tracked ⟨oc,hoc,I.freeC x c hc⟩ hs,by simpa using I.len⟩ ⟨c,hs,.inr hc⟩
  ·exact (hs.2 b (Y0f (Y0g (Y07 e) (I.ok.cab x c hfn hc)))).trans (I.base.keep b o e n hb hx)
  ·obtain ⟨sl,e1⟩:=I.base.slot b o e n hb hx
   exact ⟨sl,(hs.2 b (Y0f (Y0g (Y07 e) (I.ok.cab x c hfn hc)))).trans e1⟩
  ·obtain ⟨o',e1⟩:=I.base.there b o e hx
   exact ⟨o',(hs.2 b (Y0f (Y0g (Y07 e) (I.ok.cab x c hfn hc)))).trans e1⟩
  ·by_cases hj:j=i
   ·subst hj
    rw [hi] at e1;cases e1
    rw [Y0r hiσ] at e2
    cases e2
    exact ⟨u,r,.inr ⟨.inl hk,c,hc,hc'⟩⟩
   ·rw [Y15 (Ne.symm hj)] at e2
    obtain ⟨u',r',q⟩:=hl j y v' e1 e2 e3
    refine ⟨u',r',?_⟩
    rcases q with q | ⟨k,c',e,z'⟩
    ·exact .inl q
    ·refine .inr ⟨k,c',e,z'.sameBut hs ?_⟩
     rintro rfl
     exact hj (WS hN e1 (I.ok.inj _ _ _ e hc▸hi))
  ·by_cases hcc:c'=c
   ·subst hcc;exact ⟨_,hc'⟩
   ·obtain ⟨w2,z2⟩:=I.cell y c' e
    exact ⟨w2,z2.sameBut hs hcc⟩
  ·obtain ⟨e,n,ne,nf,d⟩:=I.pin p hp
   refine ⟨(hs.2 p.1 ?_).trans e,n,ne,nf,d⟩
   intro q
   rw [q,hoc] at e
   have q':oc=p.2:=Option.some.inj e
   exact d w' (by rw [<- q'];exact hocd)
theorem WT {M:Model}{A:Around}{E:Value->Shared->Prop}{i:Nat}{x:Str}{v:V}{u:Value}{Q:Unit->Shared->Prop}(I:Inv X pins σ H s)(hN:X.N.Nodup)(hi:X.N[i]?=some x)(hx:Loc X.env.scope x)(r:RelV v u)
  (h:∀ s',Inv X pins (σ.set i (some v)) H s'->Q () s') (hf:X.fn x=true\/X.env.scope.names.lookup x=some .local:=by first | exact .inl rfl | exact .inr rfl | assumption):wpAny M A (storeName X.env x u) Q E s :=
 Jn I hN hi hx r (λ s' I' _=>h s' I') hf
theorem Inv.call' {s':Shared}{ch:List Addr}(I:Inv X pins σ H s)(ho:s'.os=s.os)(u:Un (frs X.stack) ch H H' s.heap s'.heap)(hok:HOk X.prog X.w H' s'.heap)(hg:AllBare s'.gens)
  (hch:∀ b∈ch,(b∈X.ex\/X.s₀.heap.objs.size<=b)/\b≠X.env.locals/\(∀ x c,X.env.cells.lookup x=some c->c≠b)/\∀ p∈X.pn++pins,p.1≠b):Inv X pins σ H' s':=by
 obtain ⟨h',g',d',t',o'⟩:=s'
 have e:o'=s.os:=ho
 subst e
 exact I.call (g':=g') (t':=t') (d':=d') u hok hg hch
end
noncomputable abbrev XK:=Value->Option Addr->Hp->Prop
noncomputable abbrev St:=List (Option V)
noncomputable abbrev VK:=V->Hp->Prop
noncomputable abbrev TE:=St->Hp->VK->Prop
noncomputable abbrev TT:=St->Hp->(Bool->Hp->Prop)->Prop
noncomputable abbrev TA:=St->Hp->(List V->Hp->Prop)->Prop
structure Ends where
 nx:St->Hp->Prop
 rt:VK
 bk:St->Hp->Prop:=λ _ _=>False
 ct:St->Hp->Prop:=λ _ _=>False
noncomputable abbrev TS:=Ends->St->Hp->Prop
noncomputable def EP (X:Cx)(pins:List (Addr×Obj))(σ:St)(Q:VK)(u:Value)(s':Shared):Prop:=∃ v H',Inv X pins σ H' s'/\RelV v u/\Q v H'
noncomputable def TP (X:Cx)(pins:List (Addr×Obj))(σ:St)(Q:Bool->Hp->Prop)(b:Bool)(s':Shared):Prop:=∃ H',Inv X pins σ H' s'/\Q b H'
noncomputable def AP (X:Cx)(pins:List (Addr×Obj))(σ:St)(Q:List V->Hp->Prop)(us:List Value)(s':Shared):Prop:=∃ vs H',Inv X pins σ H' s'/\Vals vs us/\Q vs H'
noncomputable def SP (X:Cx)(pins:List (Addr×Obj))(D:Ends)(f:Flow)(s':Shared):Prop :=
 match f with
 | .next=>∃ σ' H',Inv X pins σ' H' s'/\D.nx σ' H'
 | .brk=>∃ σ' H',Inv X pins σ' H' s'/\D.bk σ' H'
 | .cont=>∃ σ' H',Inv X pins σ' H' s'/\D.ct σ' H'
 | .ret u=>∃ v σ' H',Inv X pins σ' H' s'/\RelV v u/\D.rt v H'
noncomputable def PE (X:Cx)(e:Expr)(t:TE):Prop :=
 ∀ (pins:List (Addr×Obj)) (s:Shared) (σ:St) (H:Hp) (Q:VK),Inv X pins σ H s->t σ H Q->wpAny (model X.prog X.w) X.A (eval e X.env) (EP X pins σ Q) X.xe s
noncomputable def PT (X:Cx)(e:Expr)(t:TT):Prop :=
 ∀ (pins:List (Addr×Obj)) (s:Shared) (σ:St) (H:Hp) (Q:Bool->Hp->Prop),Inv X pins σ H s->t σ H Q->wpAny (model X.prog X.w) X.A (isTrue e X.env (eval e X.env)) (TP X pins σ Q) X.xe s
noncomputable def PW (X:Cx)(e:Expr)(t:TT):Prop :=
 ∀ (whole:Sem Value) (pins:List (Addr×Obj)) (s:Shared) (σ:St) (H:Hp) (Q:Bool->Hp->Prop),Inv X pins σ H s->t σ H Q->wpAny (model X.prog X.w) X.A (isTrue e X.env whole) (TP X pins σ Q) X.xe s
theorem PW.pt {X:Cx}{e:Expr}{t:TT}(h:PW X e t):PT X e t:=h _
noncomputable def PA (X:Cx)(es:List Expr)(t:TA):Prop :=
 ∀ (pos:Pos) (pins:List (Addr×Obj)) (s:Shared) (σ:St) (H:Hp) (Q:List V->Hp->Prop),Inv X pins σ H s->t σ H Q->wpAny (model X.prog X.w) X.A (spliced (backTo pos (starEach es X.env))) (AP X pins σ Q) X.xe s
noncomputable def PS (X:Cx)(st:Stmt)(t:TS):Prop :=
 ∀ (pins:List (Addr×Obj)) (s:Shared) (σ:St) (H:Hp) (D:Ends),Inv X pins σ H s->t D σ H->wpAny (model X.prog X.w) X.A (exec st X.env) (SP X pins D) X.xe s
noncomputable def PSs (X:Cx)(st:List Stmt)(t:TS):Prop :=
 ∀ (pins:List (Addr×Obj)) (s:Shared) (σ:St) (H:Hp) (D:Ends),Inv X pins σ H s->t D σ H->wpAny (model X.prog X.w) X.A (execs st X.env) (SP X pins D) X.xe s
theorem thn {α:Type}{t:Sem α}{Q Q':α->Shared->Prop}{M:Model}{A:Around}{E:Value->Shared->Prop}{s:Shared}(h:wpAny M A t Q E s)(hQ:∀ a s,Q a s->Q' a s):wpAny M A t Q' E s:=wpAny_mono h hQ λ _ _ x=>x
end L2
namespace L2
open PySem PySem.Spec PyProof.Rows
section
variable {X:Cx}
theorem bin {a b:Expr}{ta tb:TE}(ha:PE X a ta)(hb:PE X b tb){pins:List (Addr×Obj)}{s:Shared}{σ:St}{H:Hp}{R:V->V->Hp->Prop}(I:Inv X pins σ H s)(h:ta σ H λ x H1=>tb σ H1 λ y H2=>R x y H2)
  {α:Type}{Q:α->Shared->Prop}{f:Value->Value->Sem α}
  (hf:∀ v u s2 x y H2,Inv X pins σ H2 s2->RelV x v->RelV y u->R x y H2->wpAny (model X.prog X.w) X.A (f v u) Q X.xe s2) :
  wpAny (model X.prog X.w) X.A (eval a X.env) (λ v s₁=>wpAny (model X.prog X.w) X.A (eval b X.env) (λ u s₂=>wpAny (model X.prog X.w) X.A (f v u) Q X.xe s₂) X.xe s₁) X.xe s:=by
 refine thn (ha pins s σ H _ I h) λ v s1 ⟨x,H1,I1,r1,q1⟩=>?_
 refine thn (hb pins s1 σ H1 _ I1 q1) λ u s2 ⟨y,H2,I2,r2,q2⟩=>?_
 exact hf v u s2 x y H2 I2 r1 r2 q2
noncomputable def z3c (i:Nat):TE:=λ σ H Q=>∃ v,σ[i]?=some (some v)/\Q v H
noncomputable def tC (v:V):TE:=λ _ H Q=>Q v H
theorem Vn {i:Nat}{x:Str}{pos:Pos} (hN:X.N[i]?=some x) (hv:Vis X.env.scope x) (hd:(x==("__debug__":Str))=false:=by decide) (hcd:(x==("__classdict__":Str))=false:=by decide):PE X (.Name x pos) (z3c i):=by
 intro pins s σ H Q I h
 obtain ⟨v,e,h⟩:=h
 obtain ⟨m,hn,hl⟩:=I.loc
 obtain ⟨u,r,l⟩:=hl i x v hN e hv
 have fin:EP X pins σ Q u s:=⟨v,H,I,r,h⟩
 rcases l with ⟨hk,hm⟩ | ⟨hk,c,hc,hcell⟩
 ·exact wpAny_Name (wpAny_loadName_local I.ok.kind hk hn hm fin) hd
 ·rcases hk with hk | hk
  ·exact wpAny_Name (wpAny_loadName_cell I.ok.kind hk hc hcell fin) hd
  ·exact wpAny_Name (wpAny_loadName_free I.ok.kind hk hc hcell fin hcd) hd
theorem z0m {i j pos}:PE X (.Constant (.int i) j pos) (tC (.int i)):=λ _ _ _ H _ I h=>wpAny_Constant_int ⟨.int i,H,I.tok _,⟨_,rfl⟩,h⟩
theorem z3d {b j pos}:PE X (.Constant (.bool b) j pos) (tC (.bl b)):=λ _ _ _ H _ I h=>Constant_bool ⟨.bl b,H,I,rfl,h⟩
theorem z0n {j pos}:PE X (.Constant .none j pos) (tC .non):=λ _ _ _ H _ I h=>Constant_none ⟨.non,H,I,rfl,h⟩
theorem Vo {x j pos}:PE X (.Constant (.str x) j pos) (tC (.str x)):=λ _ _ _ H _ I h=>Calls.Constant_str ⟨.str x,H,I.tok _,⟨_,rfl⟩,h⟩
noncomputable def Gl (X:Cx)(x:Str):Prop:=X.env.kindOf x=some .globalImplicit
theorem Z7 {E:Value->Shared->Prop}{pins:List (Addr×Obj)}{s:Shared}{σ:St}{H:Hp}{x:Str}{u:Value}{pos:Pos}{Q:Value->Shared->Prop}(I:Inv X pins σ H s)(hg:Gl X x)(hm:X.mg x=some u)(h:Q u s)
  (hd:(x==("__debug__":Str))=false:=by decide):wpAny (model X.prog X.w) X.A (eval (.Name x pos) X.env) Q E s :=
 Calls.Name_function_global I.ok.kind hg (Calls.loadGlobal_global (by rw [I.ok.glob];exact I.mod.glob.keeps I.bk) hm h) hd
theorem wG {E:Value->Shared->Prop}{pins:List (Addr×Obj)}{s:Shared}{σ:St}{H:Hp}{x:Str}{u:Value}{pos:Pos}{Q:Value->Shared->Prop}(I:Inv X pins σ H s)(hg:Gl X x)(hm:X.mg x=none)(hv:bootBuiltins x=some u)(h:Q u s)
  (hn:x≠"__name__":=by decide) (hd:(x==("__debug__":Str))=false:=by decide):wpAny (model X.prog X.w) X.A (eval (.Name x pos) X.env) Q E s:=by
 obtain ⟨mb,h1,h2⟩:=I.mod.blt
 exact Calls.Name_function_global I.ok.kind hg (Calls.loadGlobal_builtin (by rw [I.ok.glob];exact I.mod.glob.keeps I.bk) hm (by rw [I.ok.blt];exact h1.keeps I.bk) ((h2 x hn).trans hv) h) hd
theorem jw {x:Str}{v:V}{u:Value}{pos:Pos} (hg:Gl X x) (hm:X.mg x=some u) (r:RelV v u) (hd:(x==("__debug__":Str))=false:=by decide):PE X (.Name x pos) (tC v) :=
 λ _ _ _ H _ I h=>Z7 I hg hm ⟨v,H,I,r,h⟩ hd
theorem Om {x:Str}{v:V}{u:Value}{pos:Pos} (hg:Gl X x) (hm:X.mg x=none) (hv:bootBuiltins x=some u) (r:RelV v u) (hn:x≠"__name__":=by decide) (hd:(x==("__debug__":Str))=false:=by decide):PE X (.Name x pos) (tC v) :=
 λ _ _ _ H _ I h=>wG I hg hm hv ⟨v,H,I,r,h⟩ hn hd
variable {a b:Expr}{ta tb:TE}{pos:Pos}
noncomputable def tB (t:TE):TT:=λ σ H Q=>t σ H λ x H1=>∃ c,x=.bl c/\Q c H1
theorem z0o {e:Expr}{t:TE}(h:PE X e t)(he:∀ whole,isTrue e X.env whole=(do let v <- whole;standAt e.pos;holding [v] (truthy v)):=by intro _;rfl):PT X e (tB t):=by
 intro pins s σ H Q I hw
 refine isTrue_plain (thn (h pins s σ H _ I hw) λ v s1 ⟨x,H1,I1,r1,q1⟩=>?_) (he _)
 obtain ⟨d,rfl,q⟩:=q1
 cases r1
 exact wpAny_truthy_bool ⟨H1,I1,q⟩
variable {tA tB':TT}{qW:List Expr}
noncomputable def z5b (t u:TT):TT:=λ σ H Q=>t σ H λ c H1=>if c=true then u σ H1 Q else Q false H1
noncomputable def tOr (t u:TT):TT:=λ σ H Q=>t σ H λ c H1=>if c=true then Q true H1 else u σ H1 Q
noncomputable def z5c (t:TT):TT:=λ σ H Q=>t σ H λ c H1=>Q (!c) H1
theorem On (ha:PT X a tA):PW X (.BoolOp .And [a] pos) tA:=by
 intro wh pins s σ H Q I h
 refine isTrue_and (thn (ha pins s σ H Q I h) λ c s1 e=>?_)
 cases c with
 | true=>exact isTrue_and_nil e
 | false=>exact e
theorem z0p (ha:PT X a tA):PW X (.BoolOp .Or [a] pos) tA:=by
 intro wh pins s σ H Q I h
 refine isTrue_or (thn (ha pins s σ H Q I h) λ c s1 e=>?_)
 cases c with
 | false=>exact isTrue_or_nil e
 | true=>exact e
theorem Vp (ha:PT X a tA)(hb:PW X (.BoolOp .And (b::qW) pos) tB'):PW X (.BoolOp .And (a::b::qW) pos) (z5b tA tB'):=by
 intro wh pins s σ H Q I h
 refine isTrue_and (thn (ha pins s σ H _ I h) λ c s1 ⟨H1,I1,q1⟩=>?_)
 cases c with
 | true=>exact hb wh pins s1 σ H1 Q I1 q1
 | false=>exact ⟨H1,I1,q1⟩
theorem BT (ha:PT X a tA)(hb:PW X (.BoolOp .Or (b::qW) pos) tB'):PW X (.BoolOp .Or (a::b::qW) pos) (tOr tA tB'):=by
 intro wh pins s σ H Q I h
 refine isTrue_or (thn (ha pins s σ H _ I h) λ c s1 ⟨H1,I1,q1⟩=>?_)
 cases c with
 | true=>exact ⟨H1,I1,q1⟩
 | false=>exact hb wh pins s1 σ H1 Q I1 q1
theorem z0q (ha:PT X a tA):PT X (.UnaryOp .Not a pos) (z5c tA):=by
 intro pins s σ H Q I h
 exact isTrue_not (ha pins s σ H (λ c H1=>Q (!c) H1) I h)
noncomputable def z3e (ta tb:TE):TE:=λ σ H Q=>ta σ H λ x H1=>∃ c,x=.bl c/\if c=true then tb σ H1 Q else Q (.bl false) H1
noncomputable def z5d (ta tb:TE):TE:=λ σ H Q=>ta σ H λ x H1=>∃ c,x=.bl c/\if c=true then Q (.bl true) H1 else tb σ H1 Q
noncomputable def z3f (ta:TE):TE:=λ σ H Q=>ta σ H λ x H1=>∃ c,x=.bl c/\Q (.bl (!c)) H1
theorem Vq {op}{t:TE}(h:PE X a t):PE X (.BoolOp op [a] pos) t:=λ pins s σ H Q I hw=>BoolOp_one (h pins s σ H Q I hw)
theorem Vr (ha:PE X a ta)(hb:PE X (.BoolOp .And (b::qW) pos) tb):PE X (.BoolOp .And (a::b::qW) pos) (z3e ta tb):=by
 intro pins s σ H Q I h
 refine BoolOp_and (thn (ha pins s σ H _ I h) λ v s1 ⟨x,H1,I1,r1,q1⟩=>?_)
 obtain ⟨c,rfl,q1⟩:=q1
 cases r1
 refine wpAny_truthy_bool ?_
 cases c with
 | true=>exact hb pins s1 σ H1 Q I1 q1
 | false=>exact ⟨.bl false,H1,I1,rfl,q1⟩
theorem BU (ha:PE X a ta)(hb:PE X (.BoolOp .Or (b::qW) pos) tb):PE X (.BoolOp .Or (a::b::qW) pos) (z5d ta tb):=by
 intro pins s σ H Q I h
 refine BoolOp_or (thn (ha pins s σ H _ I h) λ v s1 ⟨x,H1,I1,r1,q1⟩=>?_)
 obtain ⟨c,rfl,q1⟩:=q1
 cases r1
 refine wpAny_truthy_bool ?_
 cases c with
 | false=>exact hb pins s1 σ H1 Q I1 q1
 | true=>exact ⟨.bl true,H1,I1,rfl,q1⟩
theorem z0r (ha:PE X a ta):PE X (.UnaryOp .Not a pos) (z3f ta):=by
 intro pins s σ H Q I h
 refine UnaryOp_ (thn (ha pins s σ H _ I h) λ v s1 ⟨x,H1,I1,r1,q1⟩=>?_)
 obtain ⟨c,rfl,q1⟩:=q1
 cases r1
 exact not_of (wpAny_truthy_bool ⟨.bl (!c),H1,I1,rfl,q1⟩)
noncomputable def tIf (t:TT)(ta tb:TE):TE:=λ σ H Q=>t σ H λ c H1=>if c=true then ta σ H1 Q else tb σ H1 Q
theorem Vs {c:Expr}(hc:PT X c tA)(ha:PE X a ta)(hb:PE X b tb):PE X (.IfExp c a b pos) (tIf tA ta tb):=by
 intro pins s σ H Q I h
 refine wpAny_IfExp (thn (hc pins s σ H _ I h) λ d s1 ⟨H1,I1,q1⟩=>?_)
 cases d with
 | true=>exact ha pins s1 σ H1 Q I1 q1
 | false=>exact hb pins s1 σ H1 Q I1 q1
end
end L2
namespace L2
open PySem PySem.Spec PyProof.Rows
noncomputable def SqL (K:Y00)(H:Hp)(a:Addr)(xs:List V):Prop :=
 Rd H a (.lst xs) \/
  ∃ (o:Obj) (its:Array Value) (n:Nat),K.lookup a=some o/\o.cls=.type "list"/\o.dict=none/\o.data=.seq its n/\its.size<=sizeLine/\Vals xs its.toList
noncomputable def SqT (K:Y00)(H:Hp)(a:Addr)(xs:List V):Prop :=
 Rd H a (.tup xs) \/
  ∃ (o:Obj) (its:Array Value) (n:Nat),K.lookup a=some o/\o.cls=.type "tuple"/\o.data=.seq its n/\its.size<=sizeLine/\Vals xs its.toList
noncomputable def z5e:Value->Option V
 | .none=>some .non
 | .bool b=>some (.bl b)
 | .int i _=>some (.int i)
 | .str x _=>some (.str x)
 | .bytes b _=>some (.byt b)
 | .float b _=>some (.flt b)
 | .ref a=>some (.ref a)
 | .type n=>some (.ty n)
 | _=>none
theorem RelV.abs {x:V}{u:Value}(r:RelV x u):z5e u=some x:=by
 cases x with
 | non=>cases r;rfl
 | bl _=>cases r;rfl
 | int _=>obtain ⟨t,rfl⟩:=r;rfl
 | str _=>obtain ⟨t,rfl⟩:=r;rfl
 | byt _=>obtain ⟨t,rfl⟩:=r;rfl
 | flt _=>obtain ⟨t,rfl⟩:=r;rfl
 | ref _=>cases r;rfl
 | ty _=>cases r;rfl
theorem RelV.inj {x y:V}{u:Value}(r:RelV x u)(q:RelV y u):x=y:=Option.some.inj (r.abs.symm.trans q.abs)
theorem Vals.inj:∀ {xs ys:List V}{us:List Value},Vals xs us->Vals ys us->xs=ys
 | _,_,_,.nil,.nil=>rfl
 | _,_,_,.cons r t,.cons r' t'=>by rw [r.inj r',Vals.inj t t']
section
variable {X:Cx}{pins:List (Addr×Obj)}{σ:St}{H:Hp}{s:Shared}{a:Addr}{xs ys:List V}
theorem SqL.of {K:Y00}(h:H a=some (.lst xs)):SqL K H a xs:=.inl (.inl h)
theorem SqT.of {K:Y00}(h:H a=some (.tup xs)):SqT K H a xs:=.inl (.inl h)
theorem Inv.list (I:Inv X pins σ H s)(h:SqL X.K H a xs):∃ its:List Value,Vals xs its/\PlainL s.heap a its.toArray/\xs.length<=sizeLine:=by
 rcases h with h | ⟨o,its,n,hk,hc,hd,hs,hz,r⟩
 ·obtain ⟨z,its,n,r,e⟩:=h.ok I.hok
  exact ⟨its,r,⟨_,n,e,rfl,rfl,rfl⟩,z⟩
 ·refine ⟨its.toList,r,⟨o,n,I.kIn a o hk,hc,hd,by simpa using hs⟩,?_⟩
  have e:=r.length
  simp only [Y1t] at e
  omega
theorem Inv.tuple (I:Inv X pins σ H s)(h:SqT X.K H a xs):∃ its:List Value,Vals xs its/\IsTup s.heap a its.toArray/\xs.length<=sizeLine:=by
 rcases h with h | ⟨o,its,n,hk,hc,hs,hz,r⟩
 ·obtain ⟨z,its,r,p⟩:=h.ok I.hok
  exact ⟨its,r,p,z⟩
 ·refine ⟨its.toList,r,⟨o,I.kIn a o hk,hc,n,by simpa using hs⟩,?_⟩
  have e:=r.length
  simp only [Y1t] at e
  omega
theorem Inv.list_inj (I:Inv X pins σ H s)(h:SqL X.K H a xs)(h':SqL X.K H a ys):xs=ys:=by
 obtain ⟨its,r,⟨o,n,e,_,_,d⟩,_⟩:=I.list h
 obtain ⟨its',r',⟨o',n',e',_,_,d'⟩,_⟩:=I.list h'
 rw [e] at e';cases e'
 rw [d] at d'
 injection d' with d1 _
 have:its=its':=by simpa using congrArg Array.toList d1
 subst this
 exact r.inj r'
theorem Inv.tuple_inj (I:Inv X pins σ H s)(h:SqT X.K H a xs)(h':SqT X.K H a ys):xs=ys:=by
 obtain ⟨its,r,⟨o,e,_,n,d⟩,_⟩:=I.tuple h
 obtain ⟨its',r',⟨o',e',_,n',d'⟩,_⟩:=I.tuple h'
 rw [e] at e';cases e'
 rw [d] at d'
 injection d' with d1 _
 have:its=its':=by simpa using congrArg Array.toList d1
 subst this
 exact r.inj r'
end
noncomputable abbrev Cx.wish (X:Cx)(E:Value->Shared->Prop):Cx:={ X with xe:=E }
noncomputable abbrev Cx.nox (X:Cx):Cx:=X.wish λ _ _=>False
theorem Cx.Ok.wish {X:Cx}(ok:X.Ok)(E:Value->Shared->Prop):(X.wish E).Ok :=
 ⟨ok.mod,ok.kind,ok.glob,ok.blt,ok.above,ok.inj,ok.has,ok.cab,ok.hd,ok.frames,ok.stk,ok.exf,ok.bs,ok.bsz,ok.noex,ok.exfs,ok.funs,ok.frf⟩
theorem Cx.Ok.unwish {X:Cx}{E:Value->Shared->Prop}(ok:(X.wish E).Ok):X.Ok :=
 ⟨ok.mod,ok.kind,ok.glob,ok.blt,ok.above,ok.inj,ok.has,ok.cab,ok.hd,ok.frames,ok.stk,ok.exf,ok.bs,ok.bsz,ok.noex,ok.exfs,ok.funs,ok.frf⟩
section
variable {X:Cx}{pins:List (Addr×Obj)}{σ:St}{H:Hp}{s:Shared}{E:Value->Shared->Prop}
theorem Inv.wish (I:Inv X pins σ H s)(E:Value->Shared->Prop):Inv (X.wish E) pins σ H s:=⟨I.ok.wish E,I.os,I.bare,I.base,I.loc,I.cell,I.free,I.freeC,I.pin,I.hok,I.len⟩
theorem Inv.unwish (I:Inv (X.wish E) pins σ H s):Inv X pins σ H s:=⟨I.ok.unwish,I.os,I.bare,I.base,I.loc,I.cell,I.free,I.freeC,I.pin,I.hok,I.len⟩
theorem SP.unwish {D:Ends}{f:Flow}{s':Shared}(h:SP (X.wish E) pins D f s'):SP X pins D f s':=by
 cases f with
 | next=>obtain ⟨σ',H',I,q⟩:=h;exact ⟨σ',H',I.unwish,q⟩
 | brk=>obtain ⟨σ',H',I,q⟩:=h;exact ⟨σ',H',I.unwish,q⟩
 | cont=>obtain ⟨σ',H',I,q⟩:=h;exact ⟨σ',H',I.unwish,q⟩
 | ret u=>obtain ⟨v,σ',H',I,r,q⟩:=h;exact ⟨v,σ',H',I.unwish,r,q⟩
end
section
variable {X:Cx}{st:Stmt}{qW:List Stmt}{t u:TS}{e:Expr}{te:TE}{pos:Pos}
noncomputable def z3g:TS:=λ D σ H=>D.nx σ H
noncomputable def z5f (t u:TS):TS:=λ D σ H=>t { D with nx:=u D } σ H
theorem Oo:PSs X [] z3g:=λ _ _ σ H _ I h=>wpAny_execs_nil ⟨σ,H,I,h⟩
theorem Vt (h1:PS X st t)(h2:PSs X qW u):PSs X (st::qW) (z5f t u):=by
 intro pins s σ H D I h
 refine wpAny_execs_cons (thn (h1 pins s σ H { D with nx:=u D } I h) λ f s1 q=>?_)
 cases f with
 | next =>
  obtain ⟨σ',H',I',q⟩:=q
  exact h2 pins s1 σ' H' D I' q
 | ret v=>exact q
 | brk=>exact q
 | cont=>exact q
theorem Inv.quiet {pins:List (Addr×Obj)}{σ:St}{H:Hp}{s:Shared}(I:Inv X pins σ H s):interactive X.env=false:=by simp [interactive,I.ok.kind]
noncomputable def z3h (te:TE):TS:=λ D σ H=>te σ H λ _ H1=>D.nx σ H1
theorem Op (he:PE X e te)(hs:swapsWith e none pos.line X.env=pure false:=by rfl):PS X (.Expr e pos) (z3h te):=by
 intro pins s σ H D I h
 exact wpAny_Expr_any (thn (he pins s σ H _ I h) λ v s1 ⟨x,H1,I1,r1,q1⟩=>⟨σ,H1,I1,q1⟩) I.quiet hs
noncomputable def z5g (te:TE):TS:=λ D σ H=>te σ H D.rt
theorem z0s (he:PE X e te):PS X (.Return (some e) pos) (z5g te):=by
 intro pins s σ H D I h
 exact wpAny_Return_some (thn (he pins s σ H _ I h) λ v s1 ⟨x,H1,I1,r1,q1⟩=>⟨x,σ,H1,I1,r1,q1⟩)
noncomputable def z3i:TS:=λ D _ H=>D.rt .non H
theorem Oq:PS X (.Return none pos) z3i:=λ _ _ σ H _ I h=>wpAny_Return_none ⟨.non,σ,H,I,rfl,h⟩
noncomputable def z5h (c:TT)(t u:TS):TS:=λ D σ H=>c σ H λ b H1=>if b=true then t D σ H1 else u D σ H1
theorem z3j {c:Expr}{a b:List Stmt}{tc:TT}(hc:PT X c tc)(ha:PSs X a t)(hb:PSs X b u):PS X (.If c a b pos) (z5h tc t u):=by
 intro pins s σ H D I h
 refine wpAny_If (thn (hc pins s σ H _ I h) λ d s1 ⟨H1,I1,q1⟩=>?_)
 cases d with
 | true=>exact ha pins s1 σ H1 D I1 q1
 | false=>exact hb pins s1 σ H1 D I1 q1
end
noncomputable abbrev TG:=V->St->Hp->(St->Hp->Prop)->Prop
noncomputable abbrev TGs:=List V->St->Hp->(St->Hp->Prop)->Prop
noncomputable def PG (X:Cx)(target:Expr)(t:TG):Prop :=
 ∀ (pins:List (Addr×Obj)) (s:Shared) (σ:St) (H:Hp) (v:V) (u:Value) (Q:St->Hp->Prop),Inv X pins σ H s->RelV v u->t v σ H Q ->
  wpAny (model X.prog X.w) X.A (assign target X.env u) (λ _ s'=>∃ σ' H',Inv X pins σ' H' s'/\Q σ' H') X.xe s
noncomputable def PGs (X:Cx)(ts:List Expr)(t:TGs):Prop :=
 ∀ (pins:List (Addr×Obj)) (s:Shared) (σ:St) (H:Hp) (vs:List V) (us:List Value) (Q:St->Hp->Prop),Inv X pins σ H s->Vals vs us->t vs σ H Q ->
  wpAny (model X.prog X.w) X.A (assignInOrder ((assignEach ts X.env).map (·.2)) us) (λ _ s'=>∃ σ' H',Inv X pins σ' H' s'/\Q σ' H') X.xe s
noncomputable abbrev Os:=V->V->V->Hp->(Hp->Prop)->Prop
noncomputable def z0t (X:Cx)(t:Os):Prop :=
 ∀ (pins:List (Addr×Obj)) (s:Shared) (σ:St) (H:Hp) (o i v:V) (ov iv u:Value) (Q:Hp->Prop),Inv X pins σ H s->RelV o ov->RelV i iv->RelV v u->t o i v H Q ->
  wpAny (model X.prog X.w) X.A (setItem ov iv u) (λ _ s'=>∃ H',Inv X pins σ H' s'/\Q H') X.xe s
section
variable {X:Cx}{pos:Pos}
noncomputable def YF (i:Nat):TG:=λ v σ H Q=>Q (σ.set i (some v)) H
theorem YG {i:Nat}{x:Str}(hN:X.N.Nodup)(hi:X.N[i]?=some x)(hx:Loc X.env.scope x)(hf:X.fn x=true\/X.env.scope.names.lookup x=some .local:=by first | exact .inl rfl | exact .inr rfl | assumption):PG X (.Name x pos) (YF i):=by
 intro pins s σ H v u Q I r h
 exact wpAny_assign_Name (WT I hN hi hx r (λ s' I'=>⟨_,H,I',h⟩) hf)
noncomputable def z3k:TGs:=λ vs σ H Q=>vs=[]/\Q σ H
noncomputable def BV (t:TG)(u:TGs):TGs:=λ vs σ H Q=>∃ v r,vs=v::r/\t v σ H λ σ' H'=>u r σ' H' Q
theorem Ot:PGs X [] z3k:=by
 intro pins s σ H vs us Q I r h
 obtain ⟨e,h⟩:=h
 subst e
 cases r
 exact assignInOrder_nil ⟨σ,H,I,h⟩
theorem Vu {e:Expr}{es:List Expr}{t:TG}{u:TGs}(h1:PG X e t)(h2:PGs X es u)
  (hs:(assignEach (e::es) X.env).map (·.2)=assign e X.env::(assignEach es X.env).map (·.2):=by rfl):PGs X (e::es) (BV t u):=by
 intro pins s σ H vs us Q I r h
 obtain ⟨v,vr,e1,h⟩:=h
 subst e1
 cases r with
 | cons r rr =>
  rw [hs]
  refine assignInOrder_cons (thn (h1 pins s σ H _ _ _ I r h) λ _ s1 ⟨σ1,H1,I1,q1⟩=>?_)
  exact h2 pins s1 σ1 H1 _ _ Q I1 rr q1
noncomputable def z5i (K:Y00)(n:Nat)(t:TGs):TG:=λ v σ H Q=>∃ a xs,v=.ref a/\SqT K H a xs/\xs.length=n/\t xs σ H Q
theorem Vv {es:List Expr}{k:Nat}{t:TGs}{n:Nat}(hc:X.calm=true)(h:PGs X es t)
  (hn:(assignEach es X.env).length=n:=by rfl) (hst:(assignEach es X.env).findIdx? (·.1)=none:=by rfl):PG X (.Tuple es k pos) (z5i X.K n t):=by
 intro pins s σ H v u Q I r hw
 obtain ⟨a,xs,e1,hq,hl,hw⟩:=hw
 subst e1
 cases r
 obtain ⟨its,rv,ht,hz⟩:=I.tuple hq
 refine assign_Tuple_tuple (I.ok.hd hc) ht (by simp [hn,<- hl,rv.length]) hst λ h' hx=>?_
 have I1:Inv X pins σ H { s with heap:=h' }:=I.kept (t':=s.toks) λ b o e=>hx b o (Y0f (Y07 e)) e
 exact h pins _ σ H xs _ Q I1 (by simpa using rv) hw
noncomputable def z5j (to ti:TE)(t:Os):TG:=λ v σ H Q=>to σ H λ o H1=>ti σ H1 λ i H2=>t o i v H2 λ H3=>Q σ H3
theorem z0u {o i:Expr}{to ti:TE}{t:Os}(ho:PE X o to)(hi:PE X i ti)(hs:z0t X t)
  (ha:∀ v,assign (.Subscript o i pos) X.env v=(do
   let ov <- holding [v] (eval o X.env)
   let iv <- holding [v,ov] (eval i X.env)
   standAt pos
   holding [v,ov,iv] (setItem ov iv v)
   release [v,ov,iv] []):=by intro _;rfl):PG X (.Subscript o i pos) (z5j to ti t):=by
 intro pins s σ H v u Q I r h
 rw [ha]
 refine wpAny_bind (wpAny_holding (thn (ho pins s σ H _ I h) λ ov s1 ⟨x,H1,I1,r1,q1⟩=>?_))
 refine wpAny_bind (wpAny_holding (thn (hi pins s1 σ H1 _ I1 q1) λ iv s2 ⟨y,H2,I2,r2,q2⟩=>?_))
 refine wpAny_bind (wpAny_standAt (wpAny_bind (wpAny_holding (thn (hs pins s2 σ H2 x y v ov iv u _ I2 r1 r2 r q2) λ _ s3 ⟨H3,I3,q3⟩=>?_))))
 exact wpAny_release ⟨σ,H3,I3,q3⟩
noncomputable def z0v (te:TE)(g:TG):TS:=λ D σ H=>te σ H λ x H1=>g x σ H1 D.nx
theorem Vw {tg e:Expr}{te:TE}{g:TG}(he:PE X e te)(hg:PG X tg g)(hs:swapsWithSole [tg] e pos.line X.env=pure false:=by rfl)(hw:swappedStores [tg] e X.env=pure none:=by rfl)
  (h1:(assignEach [tg] X.env).map (·.2)=[assign tg X.env]:=by rfl):PS X (.Assign [tg] e pos) (z0v te g):=by
 intro pins s σ H D I h
 refine wpAny_Assign_stores (thn (he pins s σ H _ I h) λ v s1 ⟨x,H1,I1,r1,q1⟩=>?_) hs hw
 rw [h1]
 exact thn (hg pins s1 σ H1 x v _ I1 r1 q1) λ _ s2 q=>q
theorem z0w {i:Nat}{x:Str}{e:Expr}{te:TE}{pos':Pos}(hN:X.N.Nodup)(hi:X.N[i]?=some x)(hx:Loc X.env.scope x)(he:PE X e te)(hs:swapsWith e (some (.Name x pos')) pos.line X.env=pure false:=by rfl)(hf:X.fn x=true\/X.env.scope.names.lookup x=some .local:=by first | exact .inl rfl | exact .inr rfl | assumption) :
  PS X (.Assign [.Name x pos'] e pos) (z0v te (YF i)):=by
 intro pins s σ H D I h
 refine wpAny_Assign_Name (thn (he pins s σ H _ I h) λ v s1 ⟨y,H1,I1,r1,q1⟩=>?_) hs
 exact WT I1 hN hi hx r1 (λ s2 I2=>⟨_,H1,I2,q1⟩) hf
end
section
variable {X:Cx}{pos:Pos}
noncomputable def QC (c:TT)(tb:TS):TS:=λ D σ H=>∃ W:Nat->St->Hp->Prop,(∃ m,W m σ H)/\∀ m σ H,W m σ H ->
 c σ H λ b H1=>if b=true then ∃ N:St->Hp->Prop,(∀ σ' H',N σ' H'->∃ m',m'<m/\W m' σ' H')/\tb { D with nx:=N,ct:=N,bk:=D.nx } σ H1 else D.nx σ H1
theorem Vx {c:Expr}{body:List Stmt}{tc:TT}{tb:TS}(hp:PassesOwn (model X.prog X.w) X.A X.env X.xe)(hc:PT X c tc)(hb:PSs X body tb):PS X (.While c body [] pos) (QC tc tb):=by
 intro pins s σ H D I h
 obtain ⟨W,⟨m0,w0⟩,turn⟩:=h
 refine wpAny_While (codeAny_whileLoop (λ n s'=>∃ σ' H',Inv X pins σ' H' s'/\W n σ' H') ?_ m0 ⟨σ,H,I,w0⟩)
 rintro n s1 ⟨σ1,H1,I1,w1⟩
 refine wpAny_passesOwn hp (thn (hc pins s1 σ1 H1 _ I1 (turn n σ1 H1 w1)) λ b s2 ⟨H2,I2,q2⟩=>?_)
 cases b with
 | true =>
  obtain ⟨N,hN,q2⟩:=q2
  rw [if_pos rfl]
  refine wpAny_passesOwn hp (thn (hb pins s2 σ1 H2 _ I2 q2) λ f s3 q3=>?_)
  cases f with
  | next =>
   obtain ⟨σ3,H3,I3,n3⟩:=q3
   obtain ⟨m',hm,w3⟩:=hN σ3 H3 n3
   exact ⟨m',hm,σ3,H3,I3,w3⟩
  | cont =>
   obtain ⟨σ3,H3,I3,n3⟩:=q3
   obtain ⟨m',hm,w3⟩:=hN σ3 H3 n3
   exact ⟨m',hm,σ3,H3,I3,w3⟩
  | brk=>exact q3
  | ret v=>exact q3
 | false =>
  rw [if_neg Y0s]
  exact wpAny_execs_nil ⟨σ1,H2,I2,q2⟩
end
structure It where
 go:Nat->Hp->Prop
 yld:Nat->Hp->V->Hp->Prop
 stop:Nat->Hp->Prop
noncomputable def ym (X:Cx)(pins:List (Addr×Obj))(H:Hp)(b:Addr):Prop :=
 H b=none/\b≠X.env.locals/\b∉X.fs/\(b∈X.ex\/X.s₀.heap.objs.size<=b)/\(∀ x c,X.env.cells.lookup x=some c->c≠b)/\∀ p∈X.pn++pins,p.1≠b
theorem Inv.fpOk {X:Cx}{pins:List (Addr×Obj)}{σ:St}{H H':Hp}{s:Shared}{b:Addr}(I:Inv X pins σ H s)(hb:s.heap.objs.size<=b)(hn:H' b=none):ym X pins H' b:=by
 refine ⟨hn,Y1f (Y0g I.lt hb),I.nofs hb,.inr (Y11 I.sz hb),λ x c e z=>?_,λ p hp z=>?_⟩
 ·obtain ⟨v,q⟩:=I.cell x c e
  exact absurd (Y0g q.lt (by rw [z];exact hb)) (Y14 _)
 ·exact absurd (Y0g (Y07 (I.pin p hp).1) (by rw [z];exact hb)) (Y14 _)
structure Turn (P:Program)(w:World)(K:Y00)(tg:Expr)(J:It)(fp:List Addr)(it:Addr)(tn:Nat->Heap->Prop):Prop where
 mem:it∈fp
 obj:∀ i h,tn i h->∀ b∈fp,∃ o,h.get? b=some o/\∀ v,o.data≠.cell v
 keep:∀ i h h',tn i h->(∀ b∈fp,∀ o,h.get? b=some o->h'.get? b=some o)->tn i h'
 item:∀ (X:Cx),X.prog=P->X.w=w->X.K=K->X.calm=true->∀ (i:Nat) (pins:List (Addr×Obj)) (s:Shared) (σ:St) (H:Hp) (E:Value->Shared->Prop),Inv X pins σ H s->(∀ b∈fp,ym X pins H b)->tn i s.heap->J.go i H ->
  wpAny (model P w) X.A (pyNext (.ref it)) (λ r s1=>∃ u,r=some u /\
   wpAny (model P w) X.A (letOwnedTupleGo tg (.ref it) u) (λ _ s2=>∃ x H',Inv X pins σ H' s2/\RelV x u/\J.yld i H x H'/\tn (i+1) s2.heap/\∀ b∈fp,H' b=none) E s1) E s
 done:∀ (X:Cx),X.prog=P->X.w=w->X.K=K->X.calm=true->∀ (i:Nat) (pins:List (Addr×Obj)) (s:Shared) (σ:St) (H:Hp) (E:Value->Shared->Prop),Inv X pins σ H s->(∀ b∈fp,ym X pins H b)->tn i s.heap->J.stop i H ->
  wpAny (model P w) X.A (pyNext (.ref it)) (λ r s1=>r=none/\Inv X pins σ H s1) E s
 self:∀ (A:Around) (i:Nat) (s:Shared) (Q:Value->Shared->Prop) (E:Value->Shared->Prop),tn i s.heap->Q (.ref it) s->wpAny (model P w) A (pyIter (.ref it)) Q E s
noncomputable abbrev TI:=St->Hp->(It->Hp->Prop)->Prop
noncomputable def PIE (X:Cx)(pins:List (Addr×Obj))(σ:St)(tg:Expr)(R:It->Hp->Prop)(itv:Value)(s2:Shared):Prop :=
 ∃ (it:Addr) (fp:List Addr) (tn:Nat->Heap->Prop) (J:It) (H':Hp),itv=.ref it/\Inv X pins σ H' s2/\Turn X.prog X.w X.K tg J fp it tn/\tn 0 s2.heap/\(∀ b∈fp,ym X pins H' b)/\R J H'
noncomputable def PI (X:Cx)(tg iter:Expr)(wi:TI):Prop :=
 ∀ (pins:List (Addr×Obj)) (s:Shared) (σ:St) (H:Hp) (R:It->Hp->Prop),Inv X pins σ H s->wi σ H R ->
  wpAny (model X.prog X.w) X.A (eval iter X.env) (λ v s1=>wpAny (model X.prog X.w) X.A (pyIter v) (PIE X pins σ tg R) X.xe s1) X.xe s
theorem Zh {M:Model}{A:Around}{E:Value->Shared->Prop}{s:Shared}{tg:Expr}{it:Addr}{u:Value}{o:Obj}{n:String}{vs:Array Value}{Q:Unit->Shared->Prop}(ho:s.heap.get? it=some o)(hc:o.cls=.type n)(hd:o.data=.fields vs)
    (hn:["enumerate","zip","dict_itemiterator","dict_reverseitemiterator","odict_iterator","itertools.zip_longest","itertools.pairwise"].contains n=false) (hQ:Q () s):wpAny M A (letOwnedTupleGo tg (.ref it) u) Q E s:=by
  unfold letOwnedTupleGo
  cases tg<;>first
    | exact wpAny_pure hQ
    | (cases u<;>first
        | exact wpAny_pure hQ
        | (refine wpAny_bind (wpAny_load ho ?_)
           rw [hc,hd]
           show wpAny M A (if (["enumerate","zip","dict_itemiterator","dict_reverseitemiterator","odict_iterator","itertools.zip_longest","itertools.pairwise"].contains n&&vs[0]?==some (rawInt _))=true then _ else _) Q E s
           rw [if_neg (by intro h;rw [hn,Bool.false_and] at h;cases h)]
           exact wpAny_pure hQ))
noncomputable def Itl (K:Y00)(a:Addr):It :=
 ⟨λ i H=>∃ xs x,SqL K H a xs/\xs[i]?=some x,λ i H x H'=>H'=H/\∀ xs,SqL K H a xs->xs[i]?=some x,λ i H=>∃ xs,SqL K H a xs/\xs.length<=i⟩
noncomputable def Itt (K:Y00)(a:Addr):It :=
 ⟨λ i H=>∃ xs x,SqT K H a xs/\xs[i]?=some x,λ i H x H'=>H'=H/\∀ xs,SqT K H a xs->xs[i]?=some x,λ i H=>∃ xs,SqT K H a xs/\xs.length<=i⟩
noncomputable def Itr (lo:Int)(n:Nat):It:=⟨λ i _=>i<n,λ i H x H'=>H'=H/\x=.int (lo+i),λ i _=>n<=i⟩
theorem Jo {P:Program}{w:World}{K:Y00}{tg:Expr}(a it:Addr):Turn P w K tg (Itl K a) [it] it (λ i h=>h.IsListIter it a i) where
 mem:=by simp
 obj:=λ i h st b hb=>by
  have e:b=it:=by simpa using hb
  subst e
  obtain ⟨o,e,c,d⟩:=st
  exact ⟨o,e,λ v z=>by rw [d] at z;cases z⟩
 keep:=λ i h h' st k=>st.at λ o e=>k it (by simp) o e
 item:=by
  intro X hP hw hK hc i pins s σ H E I hf st hg
  subst hP hw hK
  obtain ⟨xs,x,hq,hx⟩:=hg
  obtain ⟨its,rv,p,hz⟩:=I.list hq
  obtain ⟨u,hu,ru⟩:=rv.get hx
  obtain ⟨f0,f1,f2,f3,f4,f5⟩:=hf it (by simp)
  refine wpAny_pyNext_list_item st p.isList (x:=u) (by simpa using hu) λ h' st' sb=>?_
  have I1:Inv X pins σ H { s with heap:=h' }:=I.turned (t':=s.toks) (λ b o hb e=>(sb.2 b hb).trans e) f0 f1 f3 f4 f5
  obtain ⟨o,e,c,d⟩:=id st'
  exact ⟨u,rfl,Zh (s:={ s with heap:=h' }) e c d (by decide) ⟨x,H,I1,ru,⟨rfl,λ ys hy=>by rw [I.list_inj hy hq];exact hx⟩,st',λ b hb=>(hf b hb).1⟩⟩
 done:=by
  intro X hP hw hK hc i pins s σ H E I hf st hg
  subst hP hw hK
  obtain ⟨xs,hq,hx⟩:=hg
  obtain ⟨its,rv,p,hz⟩:=I.list hq
  obtain ⟨f0,f1,f2,f3,f4,f5⟩:=hf it (by simp)
  have hl:=rv.length
  exact wpAny_pyNext_list_end (I.ok.hd hc) st p.isList (by simp;omega) λ h' eb=>⟨rfl,I.turned (t':=s.toks) (λ b o hb e=>eb b o hb e) f0 f1 f3 f4 f5⟩
 self:=λ _ _ _ _ _ st h=>wpAny_pyIter_listiter st h
theorem QD {P:Program}{w:World}{K:Y00}{tg:Expr}(a it:Addr):Turn P w K tg (Itt K a) [it] it (λ i h=>h.IsTupleIter it a i) where
 mem:=by simp
 obj:=λ i h st b hb=>by
  have e:b=it:=by simpa using hb
  subst e
  obtain ⟨o,e,c,d⟩:=st
  exact ⟨o,e,λ v z=>by rw [d] at z;cases z⟩
 keep:=λ i h h' st k=>st.at λ o e=>k it (by simp) o e
 item:=by
  intro X hP hw hK hc i pins s σ H E I hf st hg
  subst hP hw hK
  obtain ⟨xs,x,hq,hx⟩:=hg
  obtain ⟨its,rv,p,hz⟩:=I.tuple hq
  obtain ⟨u,hu,ru⟩:=rv.get hx
  obtain ⟨f0,f1,f2,f3,f4,f5⟩:=hf it (by simp)
  refine wpAny_pyNext_tuple_item st (show s.heap.IsTuple a its.toArray from p) (x:=u) (by simpa using hu) λ h' st' sb=>?_
  have I1:Inv X pins σ H { s with heap:=h' }:=I.turned (t':=s.toks) (λ b o hb e=>(sb.2 b hb).trans e) f0 f1 f3 f4 f5
  obtain ⟨o,e,c,d⟩:=id st'
  exact ⟨u,rfl,Zh (s:={ s with heap:=h' }) e c d (by decide) ⟨x,H,I1,ru,⟨rfl,λ ys hy=>by rw [I.tuple_inj hy hq];exact hx⟩,st',λ b hb=>(hf b hb).1⟩⟩
 done:=by
  intro X hP hw hK hc i pins s σ H E I hf st hg
  subst hP hw hK
  obtain ⟨xs,hq,hx⟩:=hg
  obtain ⟨its,rv,p,hz⟩:=I.tuple hq
  obtain ⟨f0,f1,f2,f3,f4,f5⟩:=hf it (by simp)
  have hl:=rv.length
  exact wpAny_pyNext_tuple_end (I.ok.hd hc) st (show s.heap.IsTuple a its.toArray from p) (by simp;omega) λ h' eb=>⟨rfl,I.turned (t':=s.toks) (λ b o hb e=>eb b o hb e) f0 f1 f3 f4 f5⟩
 self:=λ _ _ _ _ _ st h=>wpAny_pyIter_tupleiter st h
theorem QE {P:Program}{w:World}{K:Y00}{tg:Expr}(it:Addr)(lo:Int)(n:Nat):Turn P w K tg (Itr lo n) [it] it (λ i h=>IsRangeIter h it (lo+(i:Nat)*1) ((n:Int)-(i:Nat)) 1) where
 mem:=by simp
 obj:=λ i h st b hb=>by
  have e:b=it:=by simpa using hb
  subst e
  exact ⟨_,st,λ v z=>by
   have z':Data.fields _=Data.cell v:=z
   cases z'⟩
 keep:=λ i h h' st k=>k it (by simp) _ st
 item:=by
  intro X hP hw hK hc i pins s σ H E I hf st hg
  subst hP hw hK
  obtain ⟨f0,f1,f2,f3,f4,f5⟩:=hf it (by simp)
  have W:=Walks.range (prog:=X.prog) (w:=X.w) (I.ok.hd hc) it lo 1 n
  refine W.item i s _ _ hg st λ v h' tk hv st' kk=>?_
  obtain ⟨t,rfl⟩:=hv
  have I1:Inv X pins σ H { s with heap:=h',toks:=tk }:=I.turned (λ b o hb e=>kk b o (by simpa using hb) e) f0 f1 f3 f4 f5
  refine ⟨_,rfl,Zh (s:={ s with heap:=h',toks:=tk }) (n:="range_iterator") st' rfl rfl (by decide) ⟨.int (lo+i),H,I1,⟨t,?_⟩,⟨rfl,rfl⟩,st',λ b hb=>(hf b hb).1⟩⟩
  rw [Int.mul_one]
 done:=by
  intro X hP hw hK hc i pins s σ H E I hf st hg
  subst hP hw hK
  obtain ⟨f0,f1,f2,f3,f4,f5⟩:=hf it (by simp)
  exact wpAny_pyNext_range_end (I.ok.hd hc) st (by have:n<=i:=hg;omega) λ h' eb=>⟨rfl,I.turned (t':=s.toks) (λ b o hb e=>eb b o hb e) f0 f1 f3 f4 f5⟩
 self:=λ _ _ _ _ _ st h=>wpAny_pyIter_rangeiter st h
end L2
namespace L2
open PySem PySem.Spec PyProof.Rows
section
variable {X:Cx}{tg:Expr}
noncomputable def z3l (K:Y00)(tl:TE):TI:=λ σ H R=>tl σ H λ x H1=>∃ a,x=.ref a/\(∃ xs,SqL K H1 a xs)/\R (Itl K a) H1
theorem Ou {l:Expr}{tl:TE}(hl:PE X l tl):PI X tg l (z3l X.K tl):=by
 intro pins s σ H R I h
 refine thn (hl pins s σ H _ I h) λ v s1 ⟨x,H1,I1,r1,q1⟩=>?_
 obtain ⟨a,e,⟨xs,hq⟩,q⟩:=q1
 subst e
 cases r1
 obtain ⟨its,rv,p,hz⟩:=I1.list hq
 refine wpAny_pyIter_list p.isList ?_
 refine ⟨s1.heap.objs.size,[s1.heap.objs.size],_,_,H1,rfl,I1.kept (t':=s1.toks) λ b o e=>Y01 _ e,Jo a _,⟨_,Y0a _ rfl,rfl,rfl⟩,λ b hb=>?_,q⟩
 have e:b=s1.heap.objs.size:=by simpa using hb
 subst e
 exact I1.fpOk (Y03 _) (I1.hok.fresh (Y03 _))
theorem Vy {pins:List (Addr×Obj)}{σ:St}{H:Hp}{s:Shared}{R:It->Hp->Prop}{E:Value->Shared->Prop}{lo hi:Int}{t u v:Tok}{tk:Nat}(I:Inv X pins σ H s)(h1:-(2 ^ 62)<=lo)(h2:lo<2 ^ 62)(h3:-(2 ^ 62)<=hi)(h4:hi<2 ^ 62)
  (q:R (Itr lo (hi-lo).toNat) H):wpAny (model X.prog X.w) X.A (pyIter (.ref s.heap.objs.size)) (PIE X pins σ tg R) E { s with heap:=s.heap.push { cls:=.type "range",data:=.fields #[.int lo t,.int hi u,.int 1 v] },toks:=tk }:=by
 refine wpAny_pyIter_range (IsRange.new ..) (small_one h1 h2 h3 h4) ?_
 have I1:Inv X pins σ H { s with heap:=s.heap.push { cls:=.type "range",data:=.fields #[.int lo t,.int hi u,.int 1 v] },toks:=tk }:=I.kept λ b o e=>Y01 _ e
 refine ⟨(s.heap.push { cls:=.type "range",data:=.fields #[.int lo t,.int hi u,.int 1 v] }).objs.size,[(s.heap.push { cls:=.type "range",data:=.fields #[.int lo t,.int hi u,.int 1 v] }).objs.size],_,_,H,rfl,
  I1.kept (t':=tk) λ b o e=>Y01 _ e,QE _ lo (hi-lo).toNat,?_,λ b hb=>?_,q⟩
 ·have e1:lo+((0:Nat):Int)*1=lo:=by simp
  have e2:(((hi-lo).toNat:Nat):Int)-((0:Nat):Int)=Builtin.Range.rangeSize lo hi 1:=by rw [rangeSize_one];split<;>omega
  show IsRangeIter _ _ (lo+((0:Nat):Int)*1) ((((hi-lo).toNat:Nat):Int)-((0:Nat):Int)) 1
  rw [e1,e2]
  exact Y0a _ rfl
 ·have e:b=(s.heap.push { cls:=.type "range",data:=.fields #[.int lo t,.int hi u,.int 1 v] }).objs.size:=by simpa using hb
  subst e
  exact I1.fpOk (Y03 _) (I1.hok.fresh (Y03 _))
noncomputable def z3m (ta:TA):TI:=λ σ H R=>ta σ H λ vs H1=>∃ j:Int,vs=[.int j]/\-(2 ^ 62)<=j/\j<2 ^ 62/\R (Itr 0 j.toNat) H1
theorem Ut {a:Expr}{ta:TA}{p pos:Pos} (hg:Gl X "range") (hm:X.mg "range"=none) (ha:PA X [a] ta) (hs:starEach [a] X.env=[(false,eval a X.env)]:=by rfl):PI X tg (.Call (.Name "range" p) [a] [] pos) (z3m ta):=by
 intro pins s σ H R I h
 refine Call_ (wG I hg hm boot_range (Y13 (thn (ha pos pins s σ H _ I h) λ us s1 ⟨vs,H1,I1,r1,q1⟩=>?_) hs rfl))
 obtain ⟨j,e,q1,q2,q⟩:=q1
 subst e
 cases r1 with
 | cons r rr =>
  cases rr
  obtain ⟨t,rfl⟩:=r
  exact call_range_1 (Vy I1 (by omega) (by omega) q1 q2 (by simpa using q))
noncomputable def z0x (wi:TI)(g:TG)(tb:TS):TS:=λ D σ H=>wi σ H λ J H1=>∃ W:Nat->Nat->St->Hp->Prop,(∃ m,W 0 m σ H1)/\∀ i m σ H,W i m σ H ->
 (J.stop i H/\D.nx σ H)\/(J.go i H/\∃ N:St->Hp->Prop,(∀ σ' H',N σ' H'->∃ m',m'<m/\W (i+1) m' σ' H')/\∀ x H',J.yld i H x H'->g x σ H' λ σ2 H2=>tb { D with nx:=N,ct:=N,bk:=D.nx } σ2 H2)
noncomputable def wV (fp:List Addr)(h:Heap):List (Addr×Obj):=fp.filterMap λ b=>(h.get? b).map λ o=>(b,o)
theorem jN {fp:List Addr}{h:Heap}{b:Addr}{o:Obj}(hb:b∈fp)(e:h.get? b=some o):(b,o)∈wV fp h:=Y3b.mpr ⟨b,hb,by rw [e];rfl⟩
theorem Jp {fp:List Addr}{h:Heap}{p:Addr×Obj}(hp:p∈wV fp h):p.1∈fp/\h.get? p.1=some p.2:=by
 obtain ⟨b,hb,e⟩:=Y3b.mp hp
 cases q:h.get? b with
 | none=>rw [q] at e;cases e
 | some o =>
  rw [q] at e
  have e':(b,o)=p:=Option.some.inj e
  subst e'
  exact ⟨hb,q⟩
theorem Inv.pinned {pins:List (Addr×Obj)}{σ:St}{H:Hp}{s:Shared}{fp:List Addr}(I:Inv X pins σ H s)(hf:∀ b∈fp,ym X pins H b)(ho:∀ b∈fp,∃ o,s.heap.get? b=some o/\∀ v,o.data≠.cell v):Inv X (pins++wV fp s.heap) σ H s :=
 I.pins_of λ p hp=>(Y2b.mp hp).elim (λ z=>I.pin p (Y0p _ z)) λ z=>by
  obtain ⟨hb,e⟩:=Jp z
  obtain ⟨f0,f1,f2,_⟩:=hf p.1 hb
  obtain ⟨o,e',d⟩:=ho p.1 hb
  rw [e] at e';cases e'
  exact ⟨e,f0,f1,f2,d⟩
theorem Inv.unpinned {pins pl:List (Addr×Obj)}{σ:St}{H:Hp}{s:Shared}(I:Inv X (pins++pl) σ H s):Inv X pins σ H s:=I.pins_of λ p hp=>I.pin p (Y0p _ (Y1b _ hp))
theorem z0y {iter:Expr}{body:List Stmt}{wi:TI}{g:TG}{tb:TS}{pos:Pos}(hp:PassesOwn (model X.prog X.w) X.A X.env X.xe)(hc:X.calm=true)(hi:PI X tg iter wi)(hg:PG X tg g)(hb:PSs X body tb)
  (hs:∀ x,foldedSetIterable iter X.env x=pure x:=by intro _;rfl):PS X (.For tg iter body [] pos) (z0x wi g tb):=by
 intro pins s σ H D I h
 refine wpAny_For (thn (hi pins s σ H _ I h) λ v s1 h1=>thn h1 λ itv s2 h2=>?_) hs
 obtain ⟨it,fp,tn,J,H2,e,I2,T,st2,f2,W,⟨m0,w0⟩,turn⟩:=h2
 subst e
 have stat:∀ {H':Hp},(∀ b∈fp,H' b=none)->∀ b∈fp,ym X pins H' b:=λ hn b hb=>⟨hn b hb,(f2 b hb).2⟩
 refine codeAny_forLoop_any (λ n s'=>∃ i σ' H',Inv X pins σ' H' s'/\tn i s'.heap/\(∀ b∈fp,H' b=none)/\W i n σ' H') ?_ m0 ⟨0,σ,H2,I2,st2,λ b hb=>(f2 b hb).1,w0⟩
 rintro n s3 ⟨i,σ3,H3,I3,st3,fr3,w3⟩
 rcases turn i n σ3 H3 w3 with ⟨stop,qn⟩ | ⟨go,N,hN,step⟩
 ·refine wpAny_passesOwn hp (thn (T.done X rfl rfl rfl hc i pins s3 σ3 H3 X.xe I3 (stat fr3) st3 stop) λ r s4 ⟨hr,I4⟩=>?_)
  subst hr
  exact wpAny_execs_nil ⟨σ3,H3,I4,qn⟩
 ·refine wpAny_passesOwn hp (thn (T.item X rfl rfl rfl hc i pins s3 σ3 H3 X.xe I3 (stat fr3) st3 go) λ r s4 ⟨u,hr,h4⟩=>?_)
  subst hr
  refine wpAny_passesOwn hp (thn h4 λ _ s5 ⟨x,H5,I5,r5,y5,st5,fr5⟩=>?_)
  have I5':=I5.pinned (stat fr5) (T.obj _ _ st5)
  refine wpAny_passesOwn hp (thn (hg _ s5 σ3 H5 x u _ I5' r5 (step x H5 y5)) λ _ s6 ⟨σ6,H6,I6,q6⟩=>?_)
  refine wpAny_passesOwn hp (thn (hb _ s6 σ6 H6 _ I6 q6) λ f s7 q7=>?_)
  have again:∀ {σ7:St}{H7:Hp},Inv X (pins++wV fp s5.heap) σ7 H7 s7->N σ7 H7->∃ m,m<n/\∃ i σ' H',Inv X pins σ' H' s7/\tn i s7.heap/\(∀ b∈fp,H' b=none)/\W i m σ' H':=λ {σ7 H7} I7 n7=>by
   obtain ⟨m',hm,w7⟩:=hN σ7 H7 n7
   refine ⟨m',hm,i+1,σ7,H7,I7.unpinned,T.keep _ _ _ st5 λ b hb o e=>(I7.pin (b,o) (Y0p _ (Y0p _ (jN hb e)))).1,λ b hb=>?_,w7⟩
   obtain ⟨o,e,d⟩:=T.obj _ _ st5 b hb
   exact (I7.pin (b,o) (Y0p _ (Y0p _ (jN hb e)))).2.1
  cases f with
  | next=>obtain ⟨σ7,H7,I7,n7⟩:=q7;exact again I7 n7
  | cont=>obtain ⟨σ7,H7,I7,n7⟩:=q7;exact again I7 n7
  | brk=>obtain ⟨σ7,H7,I7,q7⟩:=q7;exact ⟨σ7,H7,I7.unpinned,q7⟩
  | ret v=>obtain ⟨x7,σ7,H7,I7,r7,q7⟩:=q7;exact ⟨x7,σ7,H7,I7.unpinned,r7,q7⟩
end
end L2
namespace L2
open PySem PySem.Spec PyProof.Rows
noncomputable abbrev R2:=V->V->Hp->VK->Prop
noncomputable def OpR (X:Cx)(f:Value->Value->Sem Value)(r:R2):Prop :=
 ∀ (pins:List (Addr×Obj)) (s:Shared) (σ:St) (H:Hp) (x y:V) (v u:Value) (Q:VK),Inv X pins σ H s->RelV x v->RelV y u->r x y H Q ->
  wpAny (model X.prog X.w) X.A (f v u) (EP X pins σ Q) X.xe s
noncomputable def UnR (X:Cx)(f:Value->Sem Value)(r:V->Hp->VK->Prop):Prop :=
 ∀ (pins:List (Addr×Obj)) (s:Shared) (σ:St) (H:Hp) (x:V) (v:Value) (Q:VK),Inv X pins σ H s->RelV x v->r x H Q ->
  wpAny (model X.prog X.w) X.A (f v) (EP X pins σ Q) X.xe s
noncomputable def CallR (X:Cx)(f:Value)(r:List V->Hp->VK->Prop):Prop :=
 ∀ (pins:List (Addr×Obj)) (s:Shared) (σ:St) (H:Hp) (xs:List V) (us:List Value) (Q:VK),Inv X pins σ H s->Vals xs us->r xs H Q ->
  wpAny (model X.prog X.w) X.A (call f us) (EP X pins σ Q) X.xe s
noncomputable def tOp (r:R2)(ta tb:TE):TE:=λ σ H Q=>ta σ H λ x H1=>tb σ H1 λ y H2=>r x y H2 Q
noncomputable def tUn (r:V->Hp->VK->Prop)(ta:TE):TE:=λ σ H Q=>ta σ H λ x H1=>r x H1 Q
noncomputable def rI (C:Int->Int->Prop)(g:Int->Int->V):R2:=λ x y H Q=>∃ i j,x=.int i/\y=.int j/\C i j/\Q (g i j) H
noncomputable def rI0 (g:Int->Int->V):R2:=λ x y H Q=>∃ i j,x=.int i/\y=.int j/\Q (g i j) H
noncomputable def rU (g:Int->V):V->Hp->VK->Prop:=λ x H Q=>∃ i,x=.int i/\Q (g i) H
section
variable {X:Cx}{a b c:Expr}{ta tb tc:TE}{pos:Pos}
theorem z0z (ha:PE X a ta)(hb:PE X b tb){pins:List (Addr×Obj)}{s:Shared}{σ:St}{H:Hp}{R:V->V->Hp->Prop}(I:Inv X pins σ H s)
  (h:ta σ H λ x H1=>tb σ H1 λ y H2=>R x y H2) {Q:Value->Shared->Prop}{f:Value->Value->Sem Value}
  (hf:∀ v u s2 x y H2,Inv X pins σ H2 s2->RelV x v->RelV y u->R x y H2->wpAny (model X.prog X.w) X.A (f v u) Q X.xe s2) :
  wpAny (model X.prog X.w) X.A (eval a X.env) (λ v s₁=>wpAny (model X.prog X.w) X.A (eval b X.env) (λ u s₂=>wpAny (model X.prog X.w) X.A (f v u) Q X.xe s₂) X.xe s₁) X.xe s:=by
 refine thn (ha pins s σ H _ I h) λ v s1 ⟨x,H1,I1,r1,q1⟩=>?_
 refine thn (hb pins s1 σ H1 _ I1 q1) λ u s2 ⟨y,H2,I2,r2,q2⟩=>?_
 exact hf v u s2 x y H2 I2 r1 r2 q2
theorem z3n {op:Operator}{r:R2}(ho:OpR X (binaryOp op) r)(ha:PE X a ta)(hb:PE X b tb):PE X (.BinOp a op b pos) (tOp r ta tb):=by
 intro pins s σ H Q I h
 exact wpAny_BinOp (z0z ha hb I h λ v u s2 x y H2 I2 rx ry q=>ho pins s2 σ H2 x y v u Q I2 rx ry q)
theorem Vz {op:UnaryOp}{r:V->Hp->VK->Prop}(ho:UnR X (unaryOp op) r)(ha:PE X a ta):PE X (.UnaryOp op a pos) (tUn r ta):=by
 intro pins s σ H Q I h
 exact UnaryOp_ (thn (ha pins s σ H _ I h) λ v s1 ⟨x,H1,I1,r1,q1⟩=>ho pins s1 σ H1 x v Q I1 r1 q1)
theorem opI {f:Value->Value->Sem Value}{C:Int->Int->Prop}{g:Int->Int->Int}
  (rule:∀ (i j:Int) (t u:Tok) (s:Shared) (Q:Value->Shared->Prop) (E:Value->Shared->Prop),C i j->Q (.int (g i j) s.toks) { s with toks:=s.toks+1 }->wpAny (model X.prog X.w) X.A (f (.int i t) (.int j u)) Q E s) :
  OpR X f (rI C λ i j=>.int (g i j)):=by
 intro pins s σ H x y v u Q I rx ry h
 obtain ⟨i,j,rfl,rfl,hc,q⟩:=h
 obtain ⟨t,rfl⟩:=rx
 obtain ⟨t',rfl⟩:=ry
 exact rule i j t t' s _ _ hc ⟨.int (g i j),H,I.tok _,⟨_,rfl⟩,q⟩
theorem Ov {f:Value->Value->Sem Value}{g:Int->Int->Int}
  (rule:∀ (i j:Int) (t u:Tok) (s:Shared) (Q:Value->Shared->Prop) (E:Value->Shared->Prop),Q (.int (g i j) s.toks) { s with toks:=s.toks+1 }->wpAny (model X.prog X.w) X.A (f (.int i t) (.int j u)) Q E s) :
  OpR X f (rI0 λ i j=>.int (g i j)):=by
 intro pins s σ H x y v u Q I rx ry h
 obtain ⟨i,j,rfl,rfl,q⟩:=h
 obtain ⟨t,rfl⟩:=rx
 obtain ⟨t',rfl⟩:=ry
 exact rule i j t t' s _ _ ⟨.int (g i j),H,I.tok _,⟨_,rfl⟩,q⟩
theorem Ox {f:Value->Value->Sem Value}{g:Int->Int->Bool}
  (rule:∀ (i j:Int) (t u:Tok) (s:Shared) (Q:Value->Shared->Prop) (E:Value->Shared->Prop),Q (.bool (g i j)) s->wpAny (model X.prog X.w) X.A (f (.int i t) (.int j u)) Q E s) :
  OpR X f (rI0 λ i j=>.bl (g i j)):=by
 intro pins s σ H x y v u Q I rx ry h
 obtain ⟨i,j,rfl,rfl,q⟩:=h
 obtain ⟨t,rfl⟩:=rx
 obtain ⟨t',rfl⟩:=ry
 exact rule i j t t' s _ _ ⟨.bl (g i j),H,I,rfl,q⟩
noncomputable def z5k (i j:Int):Prop:=0<j/\j<1073741824
noncomputable def z5l (i j:Int):Prop:=0<=j/\j<=1000000/\i.natAbs<2 ^ 64
noncomputable def CMul (i j:Int):Prop:=(-(2 ^ 64)<i/\i<2 ^ 64)\/(-(2 ^ 64)<j/\j<2 ^ 64)
theorem QF (k:Nat):(0:Int)<=2 ^ k:=by
 rw [two_pow_cast]
 exact Int.natCast_nonneg _
theorem z1a:OpR X (binaryOp .Add) (rI0 λ i j=>.int (i+j)):=Ov λ _ _ _ _ _ _ _ q=>add_int q
theorem z1b:OpR X (binaryOp .Sub) (rI0 λ i j=>.int (i-j)):=Ov λ _ _ _ _ _ _ _ q=>sub_int q
theorem Oy:OpR X (binaryOp .FloorDiv) (rI z5k λ i j=>.int (i/j)):=opI λ i j _ _ _ _ _ hc q=>by
 have h1:(0:Int)<j:=hc.1
 have h2:j<1073741824:=hc.2
 exact floordiv_int (by omega) (by rw [Int.fdiv_eq_ediv_of_nonneg i (by omega)];exact q) (.inl (PyProof.noPylong_small (by omega)))
theorem z1c:OpR X (binaryOp .Mod) (rI (λ _ j=>0<j) λ i j=>.int (i%j)):=opI λ i j _ _ _ _ _ hc q=>by
 have h1:(0:Int)<j:=hc
 exact mod_int' (by omega) (by rw [Int.fmod_eq_emod_of_nonneg i (by omega)];exact q)
theorem z1d:OpR X (binaryOp .Pow) (rI z5l λ i j=>.int (i ^ j.toNat)):=opI λ _ _ _ _ _ _ _ hc q=>pow_int_small hc.1 hc.2.1 hc.2.2 q
theorem z1e:OpR X (binaryOp .RShift) (rI (λ _ j=>0<=j) λ i j=>.int (i/2 ^ j.toNat)):=opI λ i j _ _ _ _ _ hc q =>
 rshift_int hc (by rw [Int.fdiv_eq_ediv_of_nonneg i (QF _)];exact q)
theorem z1f:OpR X (binaryOp .BitAnd) (rI0 λ i j=>.int (Builtin.bitAnd i j)):=Ov λ _ _ _ _ _ _ _ q=>and_int q
theorem z3o:OpR X (binaryOp .BitOr) (rI0 λ i j=>.int (Builtin.bitOr i j)):=Ov λ _ _ _ _ _ _ _ q=>or_int q
theorem unI {f:Value->Sem Value}{g:Int->Int}
  (rule:∀ (i:Int) (t:Tok) (s:Shared) (Q:Value->Shared->Prop) (E:Value->Shared->Prop),Q (.int (g i) s.toks) { s with toks:=s.toks+1 }->wpAny (model X.prog X.w) X.A (f (.int i t)) Q E s) :
  UnR X f (rU λ i=>.int (g i)):=by
 intro pins s σ H x v Q I rx h
 obtain ⟨i,rfl,q⟩:=h
 obtain ⟨t,rfl⟩:=rx
 exact rule i t s _ _ ⟨.int (g i),H,I.tok _,⟨_,rfl⟩,q⟩
theorem z1g:UnR X (unaryOp .USub) (rU λ i=>.int (-i)):=unI λ _ _ _ _ _ q=>neg_int q
theorem z1h:UnR X (unaryOp .Invert) (rU λ i=>.int (Builtin.bitNot i)):=unI λ _ _ _ _ _ q=>invert_int q
end
section
variable {X:Cx}{a b c:Expr}{ta tb tc:TE}{pos:Pos}
theorem Zi {pins:List (Addr×Obj)}{σ:St}{H:Hp}{s:Shared}{Q:VK}{k k':Bool}(I:Inv X pins σ H s)(q:Q (.bl k) H)(e:k=k'):EP X pins σ Q (.bool k') s:=by
 subst e
 exact ⟨.bl k,H,I,rfl,q⟩
theorem z3p:OpR X (compareOp .Lt) (rI0 λ i j=>.bl (decide (i<j))):=Ox λ _ _ _ _ _ _ _ q=>lt_int q
theorem z3q:OpR X (compareOp .LtE) (rI0 λ i j=>.bl (decide (i<=j))):=Ox λ _ _ _ _ _ _ _ q=>le_int q
theorem z3r:OpR X (compareOp .Gt) (rI0 λ i j=>.bl (decide (j<i))):=Ox λ _ _ _ _ _ _ _ q=>gt_int q
theorem z3s:OpR X (compareOp .GtE) (rI0 λ i j=>.bl (decide (j<=i))):=Ox λ _ _ _ _ _ _ _ q=>ge_int q
theorem Uu:OpR X (compareOp .In) (λ x y H Q=>∃ i j,x=.str i/\y=.str j/\Q (.bl (!(Builtin.Str.occurrences j i 0 j.length 1).isEmpty)) H):=by
 intro pins s σ H x y v u Q I rx ry h
 obtain ⟨i,j,rfl,rfl,q⟩:=h
 obtain ⟨t,rfl⟩:=rx
 obtain ⟨t',rfl⟩:=ry
 exact in_str (Zi I q rfl)
theorem YH {op:CmpOp}{r:R2}(ho:OpR X (compareOp op) r)(ha:PE X a ta)(hb:PE X b tb)(hm:behindInMarks op b=false):PE X (.Compare a [op] [b] pos) (tOp r ta tb):=by
 intro pins s σ H Q I h
 exact wpAny_Compare1 (z0z ha hb I h λ v u s2 x y H2 I2 rx ry q=>ho pins s2 σ H2 x y v u Q I2 rx ry q) hm
noncomputable def VA (t:TE):TT:=λ σ H Q=>t σ H λ x H'=>∃ k,x=.bl k/\Q k H'
theorem YI {op:CmpOp}{r:R2}(ho:OpR X (compareOp op) r)(ha:PE X a ta)(hb:PE X b tb)(hm:behindInMarks op b=false):PT X (.Compare a [op] [b] pos) (VA (tOp r ta tb)):=by
 intro pins s σ H Q I h
 refine wpAny_isTrue_Compare1 (thn (ha pins s σ H _ I h) λ v s1 ⟨x,H1,I1,r1,q1⟩=>thn (hb pins s1 σ H1 _ I1 q1) λ u s2 ⟨y,H2,I2,r2,q2⟩ =>
  thn (ho pins s2 σ H2 x y v u _ I2 r1 r2 q2) λ c s3 ⟨z,H3,I3,r3,k,e,q3⟩=>?_) hm
 subst e
 cases r3
 exact wpAny_truthy_bool ⟨H3,I3,q3⟩
theorem wW:(sizeLine:Nat)<2 ^ 63:=by rw [sizeLine_eq];decide
theorem QG:OpR X (binaryOp .Add) (λ x y H Q=>∃ i j,x=.str i/\y=.str j/\i.length+j.length<=sizeLine/\Q (.str (i++j)) H):=by
 intro pins s σ H x y v u Q I rx ry h
 obtain ⟨i,j,rfl,rfl,hz,q⟩:=h
 obtain ⟨t,rfl⟩:=rx
 obtain ⟨t',rfl⟩:=ry
 exact add_str (λ t' tk=>⟨.str (i++j),H,I.tok _,⟨_,rfl⟩,q⟩) hz
theorem wX {x:V}{us:List Value}(r:Vals [x] us):∃ u,us=[u]/\RelV x u:=by
 cases r with
 | cons r1 r2=>cases r2;exact ⟨_,rfl,r1⟩
theorem BW {x y:V}{us:List Value}(r:Vals [x,y] us):∃ u w',us=[u,w']/\RelV x u/\RelV y w':=by
 cases r with
 | cons r1 r2 =>
  cases r2 with
  | cons r3 r4=>cases r4;exact ⟨_,_,rfl,r1,r3⟩
theorem VB:CallR X (.builtin "abs") (λ xs H Q=>∃ i,xs=[.int i]/\Q (.int (if i<0 then -i else i)) H):=by
 intro pins s σ H xs us Q I r h
 obtain ⟨i,rfl,q⟩:=h
 obtain ⟨u,rfl,t,rfl⟩:=wX r
 exact call_abs_int λ u tk=>⟨.int (if i<0 then -i else i),H,I.tok _,⟨_,rfl⟩,q⟩
theorem Jq:CallR X (.type "int") (λ xs H Q=>(∃ i,xs=[.int i]/\Q (.int i) H)\/∃ k,xs=[.bl k]/\Q (.int (if k then 1 else 0)) H):=by
 intro pins s σ H xs us Q I r h
 rcases h with ⟨i,rfl,q⟩ | ⟨k,rfl,q⟩
 ·obtain ⟨u,rfl,t,rfl⟩:=wX r
  exact call_int_int ⟨.int i,H,I,⟨_,rfl⟩,q⟩
 ·obtain ⟨u,rfl,r1⟩:=wX r
  cases r1
  exact call_int_bool ⟨.int (if k then 1 else 0),H,I.tok _,⟨_,rfl⟩,q⟩
theorem W5:CallR X (.type "str") (λ xs H Q=>∃ i,xs=[.int i]/\i.natAbs.log2<1920/\Q (.str (toString i)) H):=by
 intro pins s σ H xs us Q I r h
 obtain ⟨i,rfl,hz,q⟩:=h
 obtain ⟨u,rfl,t,rfl⟩:=wX r
 exact PySem.P.str_of_int hz ⟨.str _,H,I.tok _,⟨_,rfl⟩,q⟩
noncomputable def z5n (K:Y00)(x:V)(H:Hp)(n:Nat):Prop :=
 match x with
 | .str y=>y.length<=sizeLine/\n=y.length
 | .byt y=>y.size<=sizeLine/\n=y.size
 | .ref p=>(∃ xs,SqL K H p xs/\n=xs.length)\/∃ xs,SqT K H p xs/\n=xs.length
 | _=>False
theorem VC:CallR X (.builtin "len") (λ xs H Q=>∃ x n,xs=[x]/\z5n X.K x H n/\Q (.int n) H):=by
 intro pins s σ H xs us Q I r h
 obtain ⟨x,n,rfl,e,q⟩:=h
 obtain ⟨u,rfl,rx⟩:=wX r
 have hl:=wW
 have hs:sizeLine=16777216:=sizeLine_eq
 cases x with
 | str y =>
  obtain ⟨t,rfl⟩:=rx
  obtain ⟨hy,e'⟩:y.length<=sizeLine/\n=y.length:=e
  subst e'
  exact len_str (by omega) ⟨.int _,H,I.tok _,⟨_,rfl⟩,q⟩
 | byt y =>
  obtain ⟨t,rfl⟩:=rx
  obtain ⟨hy,e'⟩:y.size<=sizeLine/\n=y.size:=e
  subst e'
  exact PySem.W.len_bytes (by omega) ⟨.int _,H,I.tok _,⟨_,rfl⟩,q⟩
 | ref p =>
  cases rx
  have e':(∃ xs,SqL X.K H p xs/\n=xs.length)\/∃ xs,SqT X.K H p xs/\n=xs.length:=e
  rcases e' with ⟨xs,hx,e'⟩ | ⟨xs,hx,e'⟩
  ·subst e'
   obtain ⟨its,r',pl,hz⟩:=I.list hx
   have hlen:=r'.length
   exact Calls.call_len_list pl.isList (by simp only [Y09];omega) ⟨.int xs.length,H,I.tok _,⟨_,by simp only [Y09];rw [hlen]⟩,q⟩
  ·subst e'
   obtain ⟨its,r',pl,hz⟩:=I.tuple hx
   have hlen:=r'.length
   exact len_tuple pl (by simp only [Y09];omega) ⟨.int xs.length,H,I.tok _,⟨_,by simp only [Y09];rw [hlen]⟩,q⟩
 | _=>exact (show False from e).elim
end
end L2
namespace L2
open PySem PySem.Spec PyProof.Rows
structure ObjM (h:Heap)(x dx C:Addr)(mA:Str->Option Value):Prop where
 obj:h.get? x=some (PySem.W.instObj C dx)
 ns:h.Ns1 dx mA
 ne:dx≠x
theorem Uv {h:Heap}{dx:Addr}{mA:Str->Option Value}(n:h.Ns1 dx mA):∃ od,h.get? dx=some od/\∀ name,PySem.W.lookIn name od=some (mA name):=by
 obtain ⟨o,es,ep,ho,hd,hk,_,hm⟩:=n
 refine ⟨o,ho,λ name=>?_⟩
 have e:=hm name
 unfold nsFind findBy at e
 rw [<- Array.find?_toList] at e
 unfold PySem.W.lookIn
 rw [hd]
 dsimp only
 split
 ·rename_i y q
  rw [q] at e
  exact congrArg some e
 ·rename_i q
  rw [q] at e
  have a:es.toList.any (·.refKey)=false:=by
   rw [List.any_eq_false]
   intro y hy
   obtain ⟨z,t,hkey⟩:=hk y (Array.mem_toList_iff.mp hy)
   simp [DictEntry.refKey,hkey]
  have a':¬ es.toList.any (·.refKey)=true:=by rw [a];exact Y0s
  rw [if_neg a']
  exact congrArg some e
theorem ObjM.look {h:Heap}{x dx C:Addr}{mA:Str->Option Value}(I:ObjM h x dx C mA):∃ od,PySem.W.InstAt h x (PySem.W.instObj C dx) C (some od)/\∀ name,PySem.W.lookIn name od=some (mA name) :=
 let ⟨od,ho,hl⟩:=Uv I.ns
 ⟨od,⟨I.obj,rfl,rfl,ho⟩,hl⟩
section
variable {prog:Program}{w:World}{A:Around}{E:Value->Shared->Prop}{s:Shared}{K:Y00}{x dx C f:Addr}{mA:Str->Option Value}{name:Str}{v:Value}
theorem Oz {expr:Bool}{Q:Value->Shared->Prop}(X:K.In s.heap)(I:ObjM s.heap x dx C mA)(hg:PySem.W.plainGet K C name=true)(hh:PySem.W.hasDictIn K C=true)
  (ha:PySem.W.findIn K (.ref C) name=some none) (hv:mA name=some v) (hv':PySem.W.handedIn v=true) (h:Q v { s with toks:=s.toks+1 }) :
  wpAny (model prog w) A (getAttr (.ref x) name expr) Q E s:=by
 obtain ⟨od,J,hl⟩:=I.look
 exact PySem.W.get_value X J (PySem.W.plainGet_of hg).1 (PySem.W.findObj_own hh ha rfl (by rw [hl,hv])) hv' h
theorem OA {ns:List Str}{Q:Unit->Shared->Prop}(X:K.In s.heap)(I:ObjM s.heap x dx C mA)
  (hs:PySem.W.findIn K (.ref C) "__setattr__"=some (some (.builtin "object.__setattr__"))) (hp:PySem.W.plainOver K C=true) (ht:PySem.W.takerIn K C name=some none) (hh:PySem.W.hasDictIn K C=true)
  (hw:PySem.Within mA ns) (hsz:ns.length<=sizeLine)
  (h:∀ h',ObjM h' x dx C (λ y=>if y=name then some v else mA y)->Heap.SameBut dx s.heap h'->Q () { s with heap:=h',toks:=s.toks+2 }) :
  wpAny (model prog w) A (setAttr (.ref x) name v) Q E s:=by
 obtain ⟨od,J,hl⟩:=I.look
 refine PySem.W.set_plain X J hs (PySem.W.osa_open (s:={ s with toks:=s.toks+1 }) (r:=none) X J hp ht λ b=>?_)
 obtain ⟨cd,hc,hd'⟩:=PySem.W.any_some hh
 have hx:s.heap.get? x=some ⟨.ref C,some dx,.plain,#[]⟩:=I.obj
 refine wpAny_bind (wpAny_pure (wpAny_bind (wpAny_bind (wpAny_loadPart hx (wpAny_bind (PySem.W.Looks.here (s:={ s with toks:=s.toks+1 }) (PySem.W.looks_clsIn X hc) ?_))))))
 rw [hd']
 refine wpAny_pure (a:=some dx) (wpAny_bind (wpAny_pure (wpAny_bind ?_)))
 refine wpAny_nsSet1 (s:={ s with toks:=s.toks+1 }) I.ns λ h' hn2 hs2=>?_
 obtain ⟨oD,esD,epD,hoD,hdD,hcD⟩:=hn2.count (PySem.Within.cons name v hw)
 refine wpAny_bind (wpAny_lookBehind hoD (by rw [hdD];exact pastItsLine_dict (Y11 hcD (by rw [Y06];omega))) ?_)
 exact wpAny_pure (h _ ⟨(hs2.2 _ (Ne.symm I.ne)).trans I.obj,hn2,I.ne⟩ hs2)
theorem VD {R:Result->Shared->Prop}{vs:List Value}{kw:List (Str×Value)}(X:K.In s.heap)(hm:PySem.W.makesIn K C=true)
    (hi:PySem.W.findIn K (.ref C) "__init__"=some (some (.ref f))) (hf:PySem.W.typeIn K (.ref f)=some (.type "function"))
    (h:codeAny (model prog w) (A.under (.builtin "type.__call__" ⟨.ref C::vs,kw⟩)) (.call (.ref f) ⟨.ref (s.heap.objs.size+1)::vs,kw⟩) (PySem.W.InitBack (s.heap.objs.size+1) R)
      { s with heap:=(s.heap.push PySem.W.emptyDict).push (PySem.W.instObj C s.heap.objs.size) }) :
    codeAny (model prog w) A (.call (.ref C) ⟨vs,kw⟩) R s:=by
  obtain ⟨hh,g,d,t,os⟩:=s
  exact PySem.W.make_core (PySem.W.makes_of X hm) (PySem.W.looks_findIn X hi) (λ self=>PySem.W.bind_fn X self hf) (.inl rfl) h
end
noncomputable def wH (f:Str)(v:V):List (Str×V)->List (Str×V)
 | []=>[(f,v)]
 | (g,x)::r=>if g=f then (g,v)::r else (g,x)::wH f v r
theorem yJ (f g:Str)(v:V):∀ fs:List (Str×V),(wH f v fs).lookup g=if g=f then some v else fs.lookup g
 | []=>by
  show List.lookup g [(f,v)]=_
  by_cases h:g=f
  ·have hb:(g==f)=true:=beq_iff_eq.mpr h
   simp only [List.lookup,hb,if_pos h]
  ·have hb:(g==f)=false:=beq_eq_false_iff_ne.mpr h
   simp only [List.lookup,hb,if_neg h]
 | (k,x)::r=>by
  have ih:=yJ f g v r
  rw [show wH f v ((k,x)::r)=(if k=f then (k,v)::r else (k,x)::wH f v r) from rfl]
  by_cases hk:k=f
  ·rw [if_pos hk]
   by_cases h:g=k
   ·have hb:(g==k)=true:=beq_iff_eq.mpr h
    simp only [List.lookup,hb,if_pos (h.trans hk)]
   ·have hb:(g==k)=false:=beq_eq_false_iff_ne.mpr h
    simp only [List.lookup,hb,if_neg (λ e:g=f=>h (e.trans hk.symm))]
  ·rw [if_neg hk]
   by_cases h:g=k
   ·have hb:(g==k)=true:=beq_iff_eq.mpr h
    simp only [List.lookup,hb,if_neg (λ e:g=f=>hk (h.symm.trans e))]
   ·have hb:(g==k)=false:=beq_eq_false_iff_ne.mpr h
    simp only [List.lookup,hb]
    exact ih
theorem yn (f:Str)(v:V):∀ fs:List (Str×V),f∈(wH f v fs).map (·.1)/\∀ g,g∈fs.map (·.1)->g∈(wH f v fs).map (·.1)
 | []=>⟨by simp [wH],λ g h=>by simp at h⟩
 | (k,x)::r=>by
  obtain ⟨i1,i2⟩:=yn f v r
  rw [show wH f v ((k,x)::r)=(if k=f then (k,v)::r else (k,x)::wH f v r) from rfl]
  by_cases hk:k=f
  ·rw [if_pos hk]
   subst hk
   exact ⟨by simp,λ g h=>by simpa using h⟩
  ·rw [if_neg hk]
   refine ⟨?_,λ g h=>?_⟩
   ·rw [Y0h]
    exact Y04 _ i1
   ·rw [Y0h] at h ⊢
    rcases Y0d.mp h with e | e
    ·exact Y0d.mpr (.inl e)
    ·exact Y04 _ (i2 g e)
theorem yK (f:Str)(v:V):∀ fs:List (Str×V),(wH f v fs).length<=fs.length+1
 | []=>by simp [wH]
 | (k,x)::r=>by
  have ih:=yK f v r
  rw [show wH f v ((k,x)::r)=(if k=f then (k,v)::r else (k,x)::wH f v r) from rfl]
  by_cases hk:k=f
  ·rw [if_pos hk,Y06,Y06];omega
  ·rw [if_neg hk,Y06,Y06];omega
theorem RelO.some_of {v:V}{o:Option Value}(r:RelO (some v) o):∃ u,o=some u/\RelV v u:=by
 cases o with
 | none=>exact (show False from r).elim
 | some u=>exact ⟨u,rfl,r⟩
theorem Uw {v:V}{u:Value}(r:RelV v u):PySem.W.handedIn u=true:=by
 cases v with
 | non=>cases (show u=Value.none from r);rfl
 | bl b=>cases (show u=Value.bool b from r);rfl
 | int i=>obtain ⟨t,e⟩:=(show ∃ t,u=Value.int i t from r);cases e;rfl
 | str x=>obtain ⟨t,e⟩:=(show ∃ t,u=Value.str x t from r);cases e;rfl
 | byt b=>obtain ⟨t,e⟩:=(show ∃ t,u=Value.bytes b t from r);cases e;rfl
 | flt b=>obtain ⟨t,e⟩:=(show ∃ t,u=Value.float b t from r);cases e;rfl
 | ref a=>cases (show u=Value.ref a from r);rfl
 | ty n=>cases (show u=Value.type n from r);rfl
section
variable {P:Program}{w:World}{H H':Hp}{h h':Heap}{a C dx:Addr}{fs fs':List (Str×V)}
theorem W6 (hok:HOk P w H h)(e:H a=some (.ins C dx fs)):∃ mA,ObjM h a dx C mA/\(∀ f,RelO (fs.lookup f) (mA f))/\PySem.Within mA (fs.map (·.1))/\fs.length<=1000/\H dx=some (.own a):=by
 obtain ⟨d,z,ne,ob,mA,n,r,q⟩:=(show ObjOk P w H h a (.ins C dx fs) from hok a _ e)
 exact ⟨mA,⟨ob,n,ne⟩,r,q,z,d⟩
end
structure Cls (K:Y00)(C:Addr):Prop where
 pg:PySem.W.plainGet K C Str.empty=true
 hd:PySem.W.hasDictIn K C=true
 po:PySem.W.plainOver K C=true
 sa:PySem.W.findIn K (.ref C) "__setattr__"=some (some (.builtin "object.__setattr__"))
theorem Cls.get {K:Y00}{C:Addr}(c:Cls K C)(f:Str):PySem.W.plainGet K C f=true:=c.pg
noncomputable def NoAttr (K:Y00)(C:Addr)(f:Str):Prop:=PySem.W.findIn K (.ref C) f=some none
theorem NoAttr.taker {K:Y00}{C:Addr}{f:Str}(n:NoAttr K C f):PySem.W.takerIn K C f=some none:=by
 unfold PySem.W.takerIn
 rw [show PySem.W.findIn K (.ref C) f=some none from n]
 rfl
structure Con (K:Y00)(C:Addr)(f:Str)(v:V)(u:Value):Prop where
 at_:PySem.W.findIn K (.ref C) f=some (some u)
 rel:RelV v u
 get:PySem.W.specialIn K u "__get__"=some none
 cp:PySem.W.copiedNames.contains f=false
structure Meth (K:Y00)(C:Addr)(m:Str)(f:Addr):Prop where
 at_:PySem.W.findIn K (.ref C) m=some (some (.ref f))
 fn:PySem.W.isFn K (.ref f)=true
 kp:PySem.W.keepIn K (.ref f)=true
section
variable {X:Cx}{pins:List (Addr×Obj)}{σ:St}{H:Hp}{s:Shared}{a C dx:Addr}{fs:List (Str×V)}{f:Str}{v:V}{A:Around}{E:Value->Shared->Prop}
theorem QH {b:Bool}{Q:Value->Shared->Prop}(I:Inv X pins σ H s)(e:H a=some (.ins C dx fs))(c:Cls X.K C)(n:NoAttr X.K C f)(l:fs.lookup f=some v)
  (h:∀ u s',Inv X pins σ H s'->RelV v u->Q u s'):wpAny (model X.prog X.w) A (getAttr (.ref a) f b) Q E s:=by
 obtain ⟨mA,O,r,_,_,_⟩:=W6 I.hok e
 obtain ⟨u,hu,ru⟩:=RelO.some_of (v:=v) (o:=mA f) (by rw [<- l];exact r f)
 exact Oz I.kIn O (c.get f) c.hd n hu (Uw ru) (h u _ (I.tok _) ru)
theorem QI {y:V}{u:Value}{Q:Unit->Shared->Prop}(I:Inv X pins σ H s)(e:H a=some (.ins C dx fs))(c:Cls X.K C)(n:NoAttr X.K C f)(hl:fs.length<1000)(ry:RelV y u)
  (h:∀ s',Inv X pins σ (upd H a (.ins C dx (wH f y fs))) s'->Q () s'):wpAny (model X.prog X.w) A (setAttr (.ref a) f u) Q E s:=by
 obtain ⟨mA,O,r,wi,_,ho⟩:=W6 I.hok e
 have hz:(fs.map (·.1)).length<=sizeLine:=by rw [Y0j,sizeLine_eq];omega
 refine OA I.kIn O c.sa c.po n.taker c.hd wi hz λ h' O' sb=>h _ ?_
 have hd:∃ o,h'.get? dx=some o:=let ⟨o,_,_,e',_⟩:=O'.ns;⟨o,e'⟩
 refine I.write (x:=a) (e:=dx) (by rw [e];exact True.intro) (.inr ho) (λ b q hb z=>(sb.2 b hb).trans z) hd ?_
 refine ⟨by rw [zq O.ne];exact ho,?_,O.ne,O'.obj,_,O'.ns,λ g=>?_,λ g hg=>?_⟩
 ·have:=yK f y fs;omega
 ·show RelO ((wH f y fs).lookup g) (if g=f then some u else mA g)
  rw [yJ]
  by_cases q:g=f
  ·rw [if_pos q,if_pos q];exact ry
  ·rw [if_neg q,if_neg q];exact r g
 ·by_cases q:g=f
  ·rw [q];exact (yn f y fs).1
  ·refine (yn f y fs).2 g (wi g λ z=>hg ?_)
   show (if g=f then some u else mA g)=none
   rw [if_neg q];exact z
theorem Inv.made (I:Inv X pins σ H s):Inv X pins σ (upd (upd H s.heap.objs.size (.own (s.heap.objs.size+1))) (s.heap.objs.size+1) (.ins C s.heap.objs.size []))
    { s with heap:=(s.heap.push PySem.W.emptyDict).push (PySem.W.instObj C s.heap.objs.size) }:=by
  have e1:(s.heap.push PySem.W.emptyDict).get? s.heap.objs.size=some PySem.W.emptyDict:=Y0a s.heap rfl
  have e2:((s.heap.push PySem.W.emptyDict).push (PySem.W.instObj C s.heap.objs.size)).get? (s.heap.objs.size+1)=some (PySem.W.instObj C s.heap.objs.size):=by
    have:=Y0a (s.heap.push PySem.W.emptyDict) (o:=PySem.W.instObj C s.heap.objs.size) rfl
    rwa [Y1c] at this
  have e3:(s.heap.push PySem.W.emptyDict).Ns s.heap.objs.size (λ _=>none):=⟨PySem.W.emptyDict,#[],_,e1,rfl,(λ e he=>absurd he (by simp)),λ _=>rfl⟩
  have I1:=I.laid (a:=s.heap.objs.size) (o:=.own (s.heap.objs.size+1)) (h':=s.heap.push PySem.W.emptyDict) (t':=s.toks) (λ b u q=>Y01 _ q) (Y03 _) ⟨_,e1⟩
  refine I1.laid (a:=s.heap.objs.size+1) (o:=.ins C s.heap.objs.size []) (t':=s.toks) (λ b u q=>Y01 _ q) (Nat.le_of_eq (Y1c _ _)) ?_
  have ne:s.heap.objs.size≠s.heap.objs.size+1:=Y0f (Y24 _)
  refine ⟨by rw [zq ne,zx],Y1h _,ne,e2,λ _=>none,(Heap.Ns1.of_empty e3).at λ o q=>Y01 _ q,λ _=>True.intro,λ y hy=>absurd rfl hy⟩
theorem OB {prog:Program}{w:World}{env:Env}{e:Expr}{f:Str}{pos:Pos}{s:Shared}{Q:Value->Shared->Prop}(hb:attributeBase e f env (eval e env)=eval e env)
  (h:wpAny (model prog w) A (eval e env) (λ o s₁=>wpAny (model prog w) A (getAttr o f true) Q E s₁) E s):wpAny (model prog w) A (eval (.Attribute e f pos) env) Q E s :=
 Attribute_any_ h (by rw [arm_eval_Attribute,hb])
end
noncomputable def z5o (K:Y00)(ta:TE)(f:Str):TE:=λ σ H Q=>ta σ H λ x H1=>∃ a C dx fs v,x=.ref a/\H1 a=some (.ins C dx fs)/\Cls K C/\NoAttr K C f/\fs.lookup f=some v/\Q v H1
noncomputable def z5p (K:Y00)(ta tv:TE)(f:Str):TS:=λ D σ H=>tv σ H λ y H1=>ta σ H1 λ x H2=>∃ a C dx fs,x=.ref a/\H2 a=some (.ins C dx fs)/\Cls K C/\NoAttr K C f/\fs.length<1000 /\
 D.nx σ (upd H2 a (.ins C dx (wH f y fs)))
section
variable {X:Cx}{o e value:Expr}{f:Str}{pos pos' tpos:Pos}{ta tv:TE}
theorem z1i (he:PE X e ta)(hb:attributeBase e f X.env (eval e X.env)=eval e X.env):PE X (.Attribute e f pos) (z5o X.K ta f):=by
 intro pins s σ H Q I h
 refine OB hb (thn (he pins s σ H _ I h) λ u s1 ⟨x,H1,I1,rx,a,C,dx,fs,v,ex,ea,c,n,l,q⟩=>?_)
 subst ex
 obtain rfl:u=Value.ref a:=rx
 exact QH I1 ea c n l λ u' s2 I2 ru=>⟨v,H1,I2,ru,q⟩
theorem z1j (ha:PE X o ta)(hv:PE X value tv)(hs:swapsWith value (some (.Attribute o f pos')) pos.line X.env=pure false):PS X (.Assign [.Attribute o f pos'] value pos) (z5p X.K ta tv f):=by
 intro pins s σ H D I h
 refine plainObj_wpAny_Assign_Attribute (thn (hv pins s σ H _ I h) λ u s1 ⟨y,H1,I1,ry,q⟩=>thn (ha pins s1 σ H1 _ I1 q) λ ov s2 ⟨x,H2,I2,rx,a,C,dx,fs,ex,ea,c,n,l,q2⟩=>?_) hs
 subst ex
 obtain rfl:ov=Value.ref a:=rx
 exact QI I2 ea c n l ry λ s3 I3=>⟨σ,_,I3,q2⟩
end
section
variable {X:Cx}{pins:List (Addr×Obj)}{σ:St}{H:Hp}{s:Shared}{A:Around}{E:Value->Shared->Prop}{Q:Value->Shared->Prop}{c:Value}{b:Bool}
inductive TyOf (K:Y00)(H:Hp):V->Value->Prop where
 | non:TyOf K H .non (.type "NoneType")
 | bl (x:Bool):TyOf K H (.bl x) (.type "bool")
 | int (i:Int):TyOf K H (.int i) (.type "int")
 | str (x:Str):TyOf K H (.str x) (.type "str")
 | flt (x:UInt64):TyOf K H (.flt x) (.type "float")
 | lst {a:Addr}{xs:List V} (e:H a=some (.lst xs)):TyOf K H (.ref a) (.type "list")
 | frz {a:Addr}{o:Obj}{xs:List V} (e:H a=some (.frz o (.lst xs))):TyOf K H (.ref a) (.type "list")
 | tup {a:Addr}{xs:List V} (e:H a=some (.tup xs)):TyOf K H (.ref a) (.type "tuple")
 | dK {a:Addr}{kvs:List (Key×V)} (e:H a=some (.dK kvs)):TyOf K H (.ref a) (.type "dict")
 | dT {a:Addr}{kvs:List (List Key×V)} (e:H a=some (.dT kvs)):TyOf K H (.ref a) (.type "dict")
 | ins {a C dx:Addr}{fs:List (Str×V)} (e:H a=some (.ins C dx fs)) (cl:Cls K C) (ha:PySem.W.findIn K (.ref C) "__class__"=some (some (.builtin "object.__class__")))
   (hn:PySem.W.specialIn K (.builtin "object.__class__") "__get__"=some (some (.builtin "getset_descriptor.__get__"))) (htk:PySem.W.takesIn K (.builtin "object.__class__")=some true)
   (hm:PySem.W.mroIn K C (.type "object")=some true):TyOf K H (.ref a) (.ref C)
theorem ww {x:V}{u t:Value}(I:Inv X pins σ H s)(rx:RelV x u)(ty:TyOf X.K H x t)(e:PySem.W.kitOne X.K t c=some b)(h:∀ tk,Q (.bool b) { s with toks:=tk }) :
  wpAny (model X.prog X.w) A (call (.builtin "isinstance") [u,c]) Q E s:=by
 cases ty with
 | non=>cases (show u=Value.none from rx);exact Y0y PySem.W.kitx_none I.kIn True.intro e (λ z=>nomatch z) h
 | bl y=>cases (show u=Value.bool y from rx);exact Y0y PySem.W.kitx_bool I.kIn True.intro e (λ z=>nomatch z) h
 | int i=>obtain ⟨t,q⟩:=(show ∃ t,u=Value.int i t from rx);cases q;exact Y0y PySem.W.kitx_int I.kIn True.intro e (λ z=>nomatch z) h
 | str y=>obtain ⟨t,q⟩:=(show ∃ t,u=Value.str y t from rx);cases q;exact Y0y PySem.W.kitx_str I.kIn True.intro e (λ z=>nomatch z) h
 | flt y=>obtain ⟨t,q⟩:=(show ∃ t,u=Value.float y t from rx);cases q;exact Y0y PySem.W.kitx_float I.kIn True.intro e (λ z=>nomatch z) h
 | @lst a xs ea =>
  cases (show u=Value.ref a from rx)
  obtain ⟨_,_,n,_,h1⟩:=(show ObjOk X.prog X.w H s.heap a (.lst xs) from I.hok a _ ea)
  exact Y0y Y2l I.kIn ⟨_,h1,rfl⟩ e (λ z=>nomatch z) h
 | @frz a ob xs ea =>
  cases (show u=Value.ref a from rx)
  obtain ⟨_,_,_,n,_,h1⟩:=(show ObjOk X.prog X.w H s.heap a (.frz ob (.lst xs)) from I.hok a _ ea)
  exact Y0y Y2l I.kIn ⟨_,h1,rfl⟩ e (λ z=>nomatch z) h
 | @tup a xs ea =>
  cases (show u=Value.ref a from rx)
  obtain ⟨_,_,_,p⟩:=(show ObjOk X.prog X.w H s.heap a (.tup xs) from I.hok a _ ea)
  obtain ⟨o,h1,h2,_⟩:=p
  exact Y0y PySem.W.kitx_tuple I.kIn ⟨o,h1,h2⟩ e (λ z=>nomatch z) h
 | @dK a kvs ea =>
  cases (show u=Value.ref a from rx)
  obtain ⟨_,_,vs,_,p⟩:=(show ObjOk X.prog X.w H s.heap a (.dK kvs) from I.hok a _ ea)
  obtain ⟨o,es,ep,h1,h2,_⟩:=p
  exact Y0y PySem.W.kitx_dict I.kIn ⟨o,h1,h2.1⟩ e (λ z=>nomatch z) h
 | @dT a kvs ea =>
  cases (show u=Value.ref a from rx)
  obtain ⟨_,_,xs,_,o,es,ep,h1,h2,_⟩:=(show ObjOk X.prog X.w H s.heap a (.dT kvs) from I.hok a _ ea)
  exact Y0y PySem.W.kitx_dict I.kIn ⟨o,h1,h2.1⟩ e (λ z=>nomatch z) h
 | @ins a C dx fs ea cl ha hn htk hm =>
  cases (show u=Value.ref a from rx)
  obtain ⟨mA,O,_⟩:=W6 I.hok ea
  obtain ⟨od,J,_⟩:=O.look
  exact Y0y (PySem.W.kitx_own (cl.get _) cl.hd ha hn htk hm) I.kIn J e (λ z=>nomatch z) h
end
end L2
namespace L2
open PySem PySem.Spec PyProof.Rows
structure Room (k:Nat)(A:Around):Prop where
 hd:A.handled=none
 dp:A.depth+3*k+5<recursionLimit
 un:A.units+16*k+200<cLine
theorem Room.mono {j k:Nat}{A:Around}(r:Room k A)(h:j<=k):Room j A:=⟨r.hd,by have:=r.dp;omega,by have:=r.un;omega⟩
theorem Room.deeper {k:Nat}{A:Around}(r:Room (k+1) A)(env:Env):Room k (A.deeper env) :=
 ⟨r.hd,by have:=r.dp;show A.depth+1+3*k+5<_;omega,by have:=r.un;show A.units+3+16*k+200<_;omega⟩
theorem QJ {A:Around}{C:Addr}{us:List Value}{kw:List (Str×Value)}:(A.under (.builtin "type.__call__" ⟨.ref C::us,kw⟩)).depth=A.depth+1:=by
 first | rfl | simp [Around.under,Code.weight,Code.isCreation,Code.isGuard,Code.isCaller,Code.frames,Code.isFrame,guardIds]
theorem QK {A:Around}{C:Addr}{us:List Value}{kw:List (Str×Value)}:(A.under (.builtin "type.__call__" ⟨.ref C::us,kw⟩)).units=A.units+1:=by
 first | rfl | simp [Around.under,Code.cUnits,Code.frames,Code.isFrame]
theorem Room.make {k:Nat}{A:Around}(r:Room (k+1) A)(C:Addr)(us:List Value)(kw:List (Str×Value)):Room k (A.under (.builtin "type.__call__" ⟨.ref C::us,kw⟩)) :=
 ⟨r.hd,by have:=r.dp;rw [QJ];omega,by have:=r.un;rw [QK];omega⟩
theorem Room.depth {k:Nat}{A:Around}(r:Room k A):A.depth<recursionLimit:=by have:=r.dp;omega
theorem Room.units {k:Nat}{A:Around}(r:Room k A):A.units+64<cLine:=by have:=r.un;omega
noncomputable def z5q:TA:=λ _ H Q=>Q [] H
noncomputable def VE (ta:TE)(tr:TA):TA:=λ σ H Q=>ta σ H λ x H1=>tr σ H1 λ xs H2=>Q (x::xs) H2
section
variable {X:Cx}{e:Expr}{es:List Expr}{te:TE}{t:TA}{pos:Pos}
theorem zK:PA X [] z5q:=λ _ _ _ _ H Q I h=>Calls.spliced_nil ⟨[],H,I,.nil,h⟩
theorem zu (ha:PE X e te)(hr:PA X es t)(hs:starEach (e::es) X.env=(false,eval e X.env)::starEach es X.env:=by rfl):PA X (e::es) (VE te t):=by
 intro pos pins s σ H Q I h
 rw [hs]
 show wpAny _ _ (spliced ((false,eval e X.env)::backTo pos (starEach es X.env))) _ _ s
 refine Calls.spliced_cons (thn (ha pins s σ H _ I h) λ u s1 ⟨x,H1,I1,r1,q1⟩=>?_)
 exact thn (hr pos pins s1 σ H1 _ I1 q1) λ us s2 ⟨xs,H2,I2,r2,q2⟩=>⟨x::xs,H2,I2,.cons r1 r2,q2⟩
noncomputable def z5r (t:TA):TE:=λ σ H Q=>t σ H λ xs H1=>xs.length<=sizeLine/\∀ p,H1 p=none->Q (.ref p) (upd H1 p (.tup xs))
noncomputable def z5s (t:TA):TE:=λ σ H Q=>t σ H λ xs H1=>xs.length<=sizeLine/\∀ p,H1 p=none->Q (.ref p) (upd H1 p (.lst xs))
theorem z1k {x1}(h:PA X es t):PE X (.Tuple es x1 pos) (z5r t):=by
 intro pins s σ H Q I hq
 refine wpAny_Tuple_spliced (thn (h pos pins s σ H _ I hq) λ us s1 ⟨xs,H1,I1,r,z,q⟩=>⟨by rw [<- r.length];exact z,?_⟩)
 have hf:H1 s1.heap.objs.size=none:=I1.hok.fresh (Y03 _)
 refine ⟨.ref s1.heap.objs.size,upd H1 s1.heap.objs.size (.tup xs),I1.laid (t':=s1.toks) (λ b u e=>Y01 _ e) (Y03 _) ?_,rfl,q _ hf⟩
 exact ⟨z,us,r,⟨_,Y0a _ rfl,rfl,_,rfl⟩⟩
theorem QL (h:PA X es t):PE X (.List es pos) (z5s t):=by
 intro pins s σ H Q I hq
 refine wpAny_List_spliced (thn (h pos pins s σ H _ I hq) λ us s1 ⟨xs,H1,I1,r,z,q⟩=>⟨by rw [<- r.length];exact z,?_⟩)
 have hf:H1 s1.heap.objs.size=none:=I1.hok.fresh (Y03 _)
 refine ⟨.ref s1.heap.objs.size,upd H1 s1.heap.objs.size (.lst xs),I1.laid (t':=s1.toks) (λ b u e=>Y01 _ e) (Y03 _) ?_,rfl,q _ hf⟩
 exact ⟨z,us,0,r,Y0a _ rfl⟩
end
noncomputable abbrev Sp:=List V->Hp->VK->XK->Prop
noncomputable abbrev CXT:=List Env->Hp->Shared->XK->Value->Shared->Prop
structure Env0 (P:Program)(w:World)(K:Y00)(mg:Str->Option Value)(base:Heap)(A:Around)(outer:List Env)(s:Shared)(H:Hp):Prop where
 frames:A.frames=some outer
 mod:Mod K mg base
 bs:∀ b o,base.get? b=some o->s.heap.get? b=some o/\H b=none
 bsz:base.objs.size<=s.heap.objs.size
 funs:s.heap.FunFrames base outer
 frf:∀ b∈frs outer,H b=none
 hok:HOk P w H s.heap
 bare:AllBare s.gens
noncomputable def CE (outer:List Env)(P:Program)(w:World)(H:Hp)(s:Shared)(Q:VK)(u:Value)(s':Shared):Prop :=
 ∃ v H',s'.os=s.os/\AllBare s'.gens/\Un (frs outer) [] H H' s.heap s'.heap/\HOk P w H' s'.heap/\RelV v u/\Q v H'
noncomputable def CR (CX:CXT)(outer:List Env)(P:Program)(w:World)(H:Hp)(s:Shared)(Q:VK)(E:XK)(r:Result)(s':Shared):Prop :=
 match r with
 | .ok (.ret u)=>CE outer P w H s Q u s'
 | .ok _=>False
 | .error e=>CX outer H s E e s'
structure FnOk (P:Program)(w:World)(K:Y00)(mg:Str->Option Value)(base:Heap)(CX:CXT)(k:Nat)(f:Addr)(fd:FuncData)(ps:List Str)(sp:Sp):Prop where
 len:∀ vs H Q E,sp vs H Q E->vs.length=ps.length
 run:∀ (A:Around) (outer:List Env) (s:Shared) (H:Hp) (args:Args) (us:List Value) (vs:List V) (Q:VK) (E:XK),Room k A->Env0 P w K mg base A outer s H->BindsTo s fd args (ps.zip us)->Vals vs us->sp vs H Q E ->
  codeAny (model P w) A (.call (.ref f) args) (CR CX outer P w H s Q E) s
theorem Env0.make {P:Program}{w:World}{K:Y00}{mg:Str->Option Value}{base:Heap}{A:Around}{outer:List Env}{s:Shared}{H:Hp}(e:Env0 P w K mg base A outer s H)(C:Addr)(us:List Value)(kw:List (Str×Value)) :
  Env0 P w K mg base (A.under (.builtin "type.__call__" ⟨.ref C::us,kw⟩)) outer s H:=⟨by first | exact e.frames | (simpa [Around.under,Code.envs,Code.isFrame,pushEnvs] using e.frames),e.mod,e.bs,e.bsz,e.funs,e.frf,e.hok,e.bare⟩
section
variable {X:Cx}{pins:List (Addr×Obj)}{σ:St}{H:Hp}{s s':Shared}
theorem Inv.env0 (I:Inv X pins σ H s):Env0 X.prog X.w X.K X.mg X.base X.A X.stack s H :=
 ⟨I.ok.frames,I.ok.mod,I.bs,Y11 I.ok.bsz I.sz,I.stack,I.stkFree,I.hok,I.bare⟩
theorem Inv.after {Q:VK}{u:Value}(I:Inv X pins σ H s)(h:CE X.stack X.prog X.w H s Q u s'):EP X pins σ Q u s':=by
 obtain ⟨v,H',os,bare,un,hok,r,q⟩:=h
 obtain ⟨hh,g,d,t,os'⟩:=s'
 obtain rfl:os'=s.os:=os
 exact ⟨v,H',I.call (h':=hh) (g':=g) (d':=d) (t':=t) (ch:=[]) un hok bare (λ b z=>absurd z (by simp)),r,q⟩
end
noncomputable def Binds (K:Y00)(fd:FuncData)(ps:List Str)(ds:List Value):Prop :=
 ∀ (s:Shared) (us:List Value),K.In s.heap->(us++ds).length=ps.length->BindsTo s fd ⟨us,[]⟩ (ps.zip (us++ds))
theorem Binds.all {K:Y00}{fd:FuncData}{ps:List Str}(h:∀ us:List Value,us.length=ps.length->bindArgs fd ⟨us,[]⟩=pure (ps.zip us)):Binds K fd ps []:=λ s us _ hl=>by
 rw [Y0z] at hl ⊢
 exact .of_eq (h us hl)
section
variable {X:Cx}{CX:CXT}{k:Nat}{f C:Addr}{fd:FuncData}{ps:List Str}{sp:Sp}{dvs:List V}{ds:List Value}{E:XK}{x m:Str}{p pos apos:Pos}{e o:Expr}{es:List Expr}{ta:TE}{t:TA}
structure Mk (K:Y00)(C f:Addr):Prop where
 makes:PySem.W.makesIn K C=true
 init:PySem.W.findIn K (.ref C) "__init__"=some (some (.ref f))
 fn:PySem.W.isFn K (.ref f)=true
 kp:PySem.W.keepIn K (.ref C)=true
end
section
variable {X:Cx}{CX:CXT}{k:Nat}{f C:Addr}{fd:FuncData}{ps ks:List Str}{sp:Sp}{E:XK}{x m:Str}{p pos apos kpos:Pos}{e o:Expr}{es:List Expr}{kws:List Keyword}{te ta:TE}{t tk:TA}{nm:Option Str}
structure KBinds (K:Y00)(fd:FuncData)(ps ks:List Str)(g:List Value->List Value->List Value)(gV:List V->List V->List V):Prop where
 to:∀ (s:Shared) (us ws:List Value),K.In s.heap->(g us ws).length=ps.length->BindsTo s fd ⟨us,ks.zip ws⟩ (ps.zip (g us ws))
 rel:∀ {vs:List V}{us:List Value}{zs:List V}{ws:List Value},Vals vs us->Vals zs ws->Vals (gV vs zs) (g us ws)
variable {g:List Value->List Value->List Value}{gV:List V->List V->List V}
end
structure FnScope (N P:List Str)(sc:Scope):Prop where
 kind:sc.kind=.function
 co:sc.isCoroutine=false
 gen:sc.isGenerator=false
 nd:N.Nodup
 pre:N.take P.length=P
 par:∀ x∈P,sc.names.lookup x=some .local\/sc.names.lookup x=some .cell
 nofree:∀ y∈sc.names,y.2≠.free
theorem Jr {kindOf:Str->Option NameKind}{x:Str}:∀ {binds:List (Str×Value)}{m:Str->Option Value},(∀ v,(x,v)∉binds)->bindL kindOf binds m x=m x
 | [],_,_=>rfl
 | (n,v)::r,m,h=>by
  unfold bindL
  rw [Jr λ w hw=>h w (Y04 _ hw)]
  split
  ·have:x≠n:=by rintro rfl;exact h v Y0b
   simp [this]
  ·rfl
theorem Js {kindOf:Str->Option NameKind}{x:Str}:∀ {binds:List (Str×Value)}{m:Str->Option Value},(∀ v,(x,v)∉binds)->bindC kindOf binds m x=m x
 | [],_,_=>rfl
 | (n,v)::r,m,h=>by
  unfold bindC
  rw [Js λ w hw=>h w (Y04 _ hw)]
  split
  ·rfl
  ·have:x≠n:=by rintro rfl;exact h v Y0b
   simp [this]
theorem Jt {kindOf:Str->Option NameKind}{x:Str}{v:Value}:∀ {P:List Str}{vs:List Value}{i:Nat}{m:Str->Option Value},P.Nodup->P[i]?=some x->vs[i]?=some v->kindOf x=some .local ->
  bindL kindOf (P.zip vs) m x=some v
 | [],_,_,_,_,h,_,_=>by simp at h
 | _::_,[],_,_,_,_,h,_=>by simp at h
 | p::P,w::vs,0,m,nd,h1,h2,hk=>by
  simp at h1 h2;subst h1;subst h2
  show bindL kindOf ((p,w)::P.zip vs) m p=_
  unfold bindL
  rw [Jr λ v hv=>(Y1j.mp nd).1 (Y2a hv).1,if_pos hk]
  simp
 | p::P,w::vs,i+1,m,nd,h1,h2,hk=>by
  show bindL kindOf ((p,w)::P.zip vs) m x=_
  unfold bindL
  exact Jt (i:=i) (Y1j.mp nd).2 (by simpa using h1) (by simpa using h2) hk
theorem Ju {kindOf:Str->Option NameKind}{x:Str}{v:Value}:∀ {P:List Str}{vs:List Value}{i:Nat}{m:Str->Option Value},P.Nodup->P[i]?=some x->vs[i]?=some v->kindOf x≠some .local ->
  bindC kindOf (P.zip vs) m x=some v
 | [],_,_,_,_,h,_,_=>by simp at h
 | _::_,[],_,_,_,_,h,_=>by simp at h
 | p::P,w::vs,0,m,nd,h1,h2,hk=>by
  simp at h1 h2;subst h1;subst h2
  show bindC kindOf ((p,w)::P.zip vs) m p=_
  unfold bindC
  rw [Js λ v hv=>(Y1j.mp nd).1 (Y2a hv).1,if_neg hk]
  simp
 | p::P,w::vs,i+1,m,nd,h1,h2,hk=>by
  show bindC kindOf ((p,w)::P.zip vs) m x=_
  unfold bindC
  exact Ju (i:=i) (Y1j.mp nd).2 (by simpa using h1) (by simpa using h2) hk
noncomputable def start (N:List Str)(vs:List V):St:=vs.map some++List.replicate (N.length-vs.length) none
noncomputable def qX (CX:CXT)(P:Program)(w:World)(K:Y00)(mg:Str->Option Value)(base:Heap)(N:List Str)(qual:Str)(scope:Scope)(f:Addr)(cd:Value)(A:Around)(outer:List Env)(s:Shared)(H:Hp)(E:XK):Cx where
 prog:=P
 w:=w
 K:=K
 mg:=mg
 base:=base
 A:=A.deeper (envOfC qual scope s.heap.objs.size f cd)
 N:=N
 s₀:=s
 H₀:=H
 env:=envOfC qual scope s.heap.objs.size f cd
 outer:=outer
 stack:=envOfC qual scope s.heap.objs.size f cd::outer
 ex:=[]
 calm:=true
 fn:=λ _=>true
 pn:=[]
 xe:=λ e s'=>wpAny (model P w) (A.deeper (envOfC qual scope s.heap.objs.size f cd)) (leaving (envOfC qual scope s.heap.objs.size f cd) e) (λ _ s''=>CX outer H s E e s'') (λ e' s''=>CX outer H s E e' s'') s'
theorem WU {sc:Scope}{n:Nat}{x:Str}(h:sc.names.lookup x=some .cell):∃ c,(cellsFrom n sc.names []).lookup x=some c:=by
 have q:=Y1u sc.names n [] (.inl h)
 exact Y27.mp q
theorem Jv {CX:CXT}{P:Program}{w:World}{K:Y00}{mg:Str->Option Value}{base:Heap}{N ps:List Str}{qual:Str}{scope:Scope}{f:Addr}{cd:Value}{A:Around}{outer:List Env}{s s1:Shared}{H:Hp}{E:XK}{us:List Value}{vs:List V}
  (S:FnScope N ps scope) (hd:A.handled=none) (e0:Env0 P w K mg base A outer s H) (hl:vs.length=ps.length) (r:Vals vs us)
  (x:InCallC s s.heap.objs.size (bindL (envOfC qual scope s.heap.objs.size f cd).kindOf (ps.zip us) λ _=>none) (cellsFrom (s.heap.objs.size+1) scope.names []) (bindC (envOfC qual scope s.heap.objs.size f cd).kindOf (ps.zip us) λ _=>none) s1) :
  Inv (qX CX P w K mg base N qual scope f cd A outer s H E) [] (start N vs) H s1:=by
 have hpl:ps.length<=N.length:=by have:=congrArg List.length S.pre;rw [Y2u] at this;omega
 obtain ⟨h1,tk,rfl,hk⟩:=x.done
 have noA:∀ b:Addr,b∉(qX CX P w K mg base N qual scope f cd A outer s H E).ex:=λ b z=>absurd (show b∈([]:List Addr) from z) (by simp)
 refine ⟨⟨e0.mod,S.kind,rfl,rfl,Y03 _,λ y z c h1 h2=>?_,λ y hy=>?_,λ y c _ h=>?_,λ _=>hd,Around.frames_deeper e0.frames,.inr ⟨rfl,rfl⟩,λ b z=>absurd z (noA b),e0.bs,e0.bsz,λ b _ _=>noA b,λ b z=>absurd z (noA b),e0.funs,e0.frf⟩,
  rfl,e0.bare,Un.kept hk,⟨_,x.toInCall.ns,λ i y v h1 h2 h3=>?_⟩,λ y c h=>⟨_,x.cell y c h⟩,e0.hok.fresh (Y03 _),λ y c h=>?_,λ p hp=>absurd (show p∈([]:List (Addr×Obj)) from hp) (by simp),e0.hok.kept hk,?_⟩
 ·exact name_of_addr x.apart (Y0t h1) (Y0t h2)
 ·have hy:scope.names.lookup y=some .cell\/scope.names.lookup y=some .free:=hy
  rcases hy with hy | hy
  ·exact WU hy
  ·exact absurd rfl (S.nofree _ (Y0t hy))
 ·exact Y2h (x.above y c (Y0t h))
 ·have hi:i<vs.length:=by
   unfold start at h2
   by_cases hi:i<vs.length
   ·exact hi
   ·rw [Y08 (by simpa using hi)] at h2
    rw [List.getElem?_replicate] at h2
    split at h2<;>cases h2
  have ha:vs[i]?=some v:=by
   unfold start at h2
   rw [Y0x (by simpa using hi),Y0k] at h2
   cases e:vs[i]? with
   | none=>rw [e] at h2;cases h2
   | some a=>rw [e] at h2;cases h2;rfl
  obtain ⟨u,hu,rv⟩:=r.get ha
  have hp:ps[i]?=some y:=by
   rw [<- S.pre,List.getElem?_take_of_lt (by omega)];exact h1
  have ndP:ps.Nodup:=by rw [<- S.pre];exact S.nd.sublist (List.take_sublist _ _)
  refine ⟨u,rv,?_⟩
  rcases S.par y (Y12 hp) with k | k
  ·exact .inl ⟨k,Jt ndP hp hu k⟩
  ·obtain ⟨c,e⟩:=WU (n:=s.heap.objs.size+1) k
   refine .inr ⟨.inl k,c,e,?_⟩
   have q:=x.cell y c e
   rw [Ju ndP hp hu (by show scope.names.lookup y≠_;rw [k];decide)] at q
   exact q
 ·exact e0.hok.fresh (Y2h (x.above y c (Y0t h)))
 ·unfold start
  show _=N.length
  rw [Y0u,Y0j,List.length_replicate]
  omega
theorem BX {CX:CXT}{P:Program}{w:World}{K:Y00}{mg:Str->Option Value}{base:Heap}{k:Nat}{f:Addr}{name qual:Str}{params:Arguments}{body:List Stmt}{scope:Scope}{dV kV doc pm cdv ct oc:Value}{an od:Option Addr}
  {osl:Array (Option Value)}{N ps:List Str}{sp:Sp} (lk:K.lookup f=some ⟨oc,od,.func (PySem.W.fnOf name qual params body scope dV kV doc pm an cdv ct),osl⟩) (hcd:PySem.W.codeIn K cdv qual=true) (S:FnScope N ps scope)
  (len:∀ vs H Q E,sp vs H Q E->vs.length=ps.length)
  (hbody:∀ (A:Around) (outer:List Env) (s:Shared) (H:Hp) (vs:List V) (Q:VK) (E:XK),Room k (A.deeper (envOfC qual scope s.heap.objs.size f cdv))->sp vs H Q E ->
   ∃ t,PSs (qX CX P w K mg base N qual scope f cdv A outer s H E) body t/\t { nx:=λ _ H'=>Q .non H',rt:=Q } (start N vs) H) :
  FnOk P w K mg base CX (k+1) f (PySem.W.fnOf name qual params body scope dV kV doc pm an cdv ct) ps sp:=by
 refine ⟨len,λ A outer s H args us vs Q E hr e0 hb r hsp=>?_⟩
 have hl:=len _ _ _ _ hsp
 have KX:K.In s.heap:=e0.mod.kin.keeps λ b o e=>(e0.bs b o e).1
 have lim:s.heap.NoLimit:=e0.mod.nolimit.keeps λ b o e=>(e0.bs b o e).1
 have hkind:∀ y∈ps.zip us,scope.names.lookup y.1=some .local\/(scope.names.lookup y.1=some .cell/\((cellsFrom (s.heap.objs.size+1) scope.names []).lookup y.1).isSome=true):=λ ⟨n,v⟩ hy=>by
  rcases S.par n (Y2a hy).1 with q | q
  ·exact .inl q
  ·exact .inr ⟨q,Y1u _ _ _ (.inl q)⟩
 refine codeAny_call_function hr.depth (KX _ _ lk) rfl S.co S.gen rfl (PySem.W.codeRec_of KX hcd) (hb _ _ _ _ ?_)
 refine wpAny_newFunctionEnv_cells S.kind hkind λ env he s1 x=>?_
 subst he
 refine ⟨lim.keeps x.toInCall.keep,codeAny_func ?_⟩
 obtain ⟨t,ht,hq⟩:=hbody A outer s H vs Q E (hr.deeper _) hsp
 have I:Inv (qX CX P w K mg base N qual scope f cdv A outer s H E) [] (start N vs) H s1:=Jv S hr.hd e0 hl r x
 refine wpAny_mono (ht [] s1 (start N vs) H _ I hq) (λ fl s' hs=>?_) λ e s' hs=>hs
 have fin:∀ {σ':St}{H':Hp}{v:V}{u:Value},Inv (qX CX P w K mg base N qual scope f cdv A outer s H E) [] σ' H' s'->RelV v u->Q v H'->CE outer P w H s Q u s' :=
  λ {σ' H' v u} J rv q=>⟨v,H',J.os,J.bare,J.base,J.hok,rv,q⟩
 cases fl with
 | ret u =>
  obtain ⟨v,σ',H',J,rv,q⟩:=hs
  exact fin J rv q
 | next =>
  obtain ⟨σ',H',J,q⟩:=hs
  exact fin (v:=V.non) (u:=Value.none) J rfl q
 | brk =>
  obtain ⟨_,_,_,q⟩:=hs
  exact False.elim q
 | cont =>
  obtain ⟨_,_,_,q⟩:=hs
  exact False.elim q
end L2
namespace L2
open PySem PySem.Spec PyProof.Rows
section
variable {X:Cx}{x:Str}{p pos:Pos}{e:Expr}{es:List Expr}{t:TA}{id T:String}{r:List V->Hp->VK->Prop}
noncomputable def tCB (r:List V->Hp->VK->Prop)(t:TA):TE:=λ σ H Q=>t σ H λ vs H1=>r vs H1 Q
theorem wx (hc:CallR X (.builtin id) r) (hg:Gl X x) (hm:X.mg x=none) (hv:bootBuiltins x=some (.builtin id)) (ha:PA X (e::es) t) (hn:x≠"__name__":=by decide) (hdb:(x==("__debug__":Str))=false:=by decide)
  (he:starEach (e::es) X.env=(false,eval e X.env)::starEach es X.env:=by rfl) (hpl:(backTo pos (starEach es X.env)).any (·.1)=false:=by rfl):PE X (.Call (.Name x p) (e::es) [] pos) (tCB r t):=by
 intro pins s σ H Q I h
 refine wpAny_Call_Name_kw (wG I hg hm hv ?_ hn hdb)
 exact PyProof.Rows.callWith_builtin1 (thn (ha pos pins s σ H _ I h) λ us s1 ⟨vs,H1,I1,r1,q1⟩=>hc pins s1 σ H1 vs us Q I1 r1 q1) he hpl
theorem wy (hc:CallR X (.type T) r) (hg:Gl X x) (hm:X.mg x=none) (hv:bootBuiltins x=some (.type T)) (ha:PA X (e::es) t) (hn:x≠"__name__":=by decide) (hdb:(x==("__debug__":Str))=false:=by decide)
  (he:starEach (e::es) X.env=(false,eval e X.env)::starEach es X.env:=by rfl) (hpl:(backTo pos (starEach es X.env)).any (·.1)=false:=by rfl):PE X (.Call (.Name x p) (e::es) [] pos) (tCB r t):=by
 intro pins s σ H Q I h
 refine wpAny_Call_Name_kw (wG I hg hm hv ?_ hn hdb)
 exact Y13 (thn (ha pos pins s σ H _ I h) λ us s1 ⟨vs,H1,I1,r1,q1⟩=>hc pins s1 σ H1 vs us Q I1 r1 q1) he hpl
end
end L2
namespace HT
open PySem PyProof.Rows
section
open PySem.SeqAt
open PySem.AutoSeq1 (wpAny_loadPart')
open PySem.MeetsSeq PySem.MeetsSeq2 PySem.MeetsSeq3
end
section
variable {prog:Program}{w:World}{A:Around}{E:Value->Shared->Prop}{s:Shared}
theorem cat_tup {t b:Addr}{vs ws:List Value}{Q:Value->Shared->Prop}(ht:IsTup s.heap t vs.toArray)(hb:IsTup s.heap b ws.toArray)(hv:vs≠[])
  (h1:ws=[]->Q (.ref t) s) (h2:ws≠[]->Q (.ref s.heap.objs.size) { s with heap:=s.heap.push { cls:=.type "tuple",data:=.seq (vs++ws).toArray } })
  (hsz:vs.length+ws.length<=sizeLine):wpAny (model prog w) A (binaryOp .Add (.ref t) (.ref b)) Q E s:=by
 obtain ⟨⟨cls,dd,data,sl⟩,ho,hc,n,hd⟩:=id ht
 obtain ⟨⟨cls2,dd2,data2,sl2⟩,ho2,hc2,n2,hd2⟩:=id hb
 simp only at hc hd hc2 hd2
 subst hc hd hc2 hd2
 have e:vs.toArray++ws.toArray=(vs++ws).toArray:=by simp
 by_cases hw:ws=[]
 ·exact concat_meets ⟨_,ho,rfl⟩ ⟨_,ho2,rfl⟩ noFill_tuple_add seq_tuple_add Y2v Y2o (Y2m _ _)
   (tuple_addW1 t b vs.toArray ws.toArray n n2 dd dd2 sl sl2 (by simpa using hv) (by simp [hw])) ⟨ho,ho2,h1 hw⟩
 ·refine concat_meets ⟨_,ho,rfl⟩ ⟨_,ho2,rfl⟩ noFill_tuple_add seq_tuple_add Y2v Y2o (Y2m _ _)
   (tuple_addW2 t b vs.toArray ws.toArray n n2 dd dd2 sl sl2 (by simpa using hv) (by simpa using hw) (by rw [Y09,Y09];exact hsz)) ⟨ho,ho2,?_⟩
  rw [e]
  exact h2 hw
noncomputable def sIx (n d:Nat):Option Int->Nat
 | none=>d
 | some v=>if v<0 then (v+(n:Int)).toNat else min v.toNat n
theorem z1l (n d:Nat)(hd:d<=n)(o:Option Int):sIx n d o<=n:=by
 cases o with
 | none=>exact hd
 | some v =>
  show (if v<0 then (v+(n:Int)).toNat else min v.toNat n)<=n
  by_cases hv:v<0
  ·rw [if_pos hv];omega
  ·rw [if_neg hv];exact Nat.min_le_right _ _
theorem YJ (v:Int)(n d:Nat):(if v<0 then max (v+(n:Int)) 0 else min v (n:Int))=((sIx n d (some v):Nat):Int):=by
 show (if v<0 then max (v+(n:Int)) 0 else min v (n:Int))=(((if v<0 then (v+(n:Int)).toNat else min v.toNat n):Nat):Int)
 by_cases hv:v<0
 ·simp only [if_pos hv];omega
 ·simp only [if_neg hv];omega
theorem QM (lo hi:Option Int)(n:Nat):Builtin.Slice.sliceAdjust lo hi 1 (n:Int)=(((sIx n 0 lo:Nat):Int),((sIx n n hi:Nat):Int)):=by
 have h1:¬ ((1:Int)<0):=by omega
 unfold Builtin.Slice.sliceAdjust
 simp only [h1,if_false]
 refine Prod.ext ?_ ?_
 ·cases lo with
  | none=>rfl
  | some v=>exact YJ v n 0
 ·cases hi with
  | none=>rfl
  | some v=>exact YJ v n n
theorem QN (i j:Nat):Builtin.Slice.slicePlaces (i:Int) (j:Int) 1=j-i:=by
 unfold Builtin.Slice.slicePlaces
 have h1:(1:Int) > 0:=by omega
 simp only [h1,if_true,Int.ediv_one]
 split<;>omega
theorem Zj {v:Value}{o:Option Int}{Q:Option Int->Shared->Prop}(p:IsPart v o)(h:Q o s):wpAny (model prog w) A (Builtin.Slice.slicePartIndex v) Q E s:=by
 cases p with
 | none=>exact slicePart_none h
 | int i t=>exact slicePart_int h
theorem wz {sl:Addr}{vl vu:Value}{lo hi:Option Int}{n:Nat}{Q:Int×Int×Nat->Shared->Prop}(hs:s.heap.IsSliceOf sl vl vu .none)(pl:IsPart vl lo)(pu:IsPart vu hi)
  (h:Q (((sIx n 0 lo:Nat):Int),1,sIx n n hi-sIx n 0 lo) s):wpAny (model prog w) A (Builtin.Slice.sliceApplied (.ref sl) (pure (n:Int))) Q E s:=by
 obtain ⟨os,hos,hcs,hds⟩:=id hs
 unfold Builtin.Slice.sliceApplied Builtin.Slice.sliceFields
 refine wpAny_bind (wpAny_bind (wpAny_field hos hds (x:=vl) rfl (wpAny_bind (wpAny_field hos hds (x:=vu) rfl (wpAny_bind (wpAny_field hos hds (x:=.none) rfl (wpAny_pure ?_)))))))
 refine wpAny_bind (slicePart_none ?_)
 show wpAny _ _ (if ((1:Int)==0)=true then _ else _) _ _ s
 rw [if_neg (by decide)]
 refine wpAny_bind (Zj pl (wpAny_bind (Zj pu (wpAny_bind (wpAny_pure ?_)))))
 show wpAny _ _ (match Builtin.Slice.sliceAdjust lo hi 1 (n:Int) with | (lo,hi)=>pure (lo,(1:Int),Builtin.Slice.slicePlaces lo hi 1)) _ _ s
 rw [QM lo hi n]
 show wpAny _ _ (pure (((sIx n 0 lo:Nat):Int),(1:Int),Builtin.Slice.slicePlaces ((sIx n 0 lo:Nat):Int) ((sIx n n hi:Nat):Int) 1)) _ _ s
 rw [QN]
 exact wpAny_pure h
theorem VF (xs:Array Value)(i k:Nat):((List.range k).filterMap λ (m:Nat)=>xs[((i:Int)+(m:Int)*1).toNat]?).toArray=((xs.toList.drop i).take k).toArray:=by
 have e:(λ (m:Nat)=>xs[((i:Int)+(m:Int)*1).toNat]?)=λ m=>xs[i+m]?:=by
  funext m
  have:((i:Int)+(m:Int)*1).toNat=i+m:=by omega
  rw [this]
 rw [e]
 have:=pick_run xs i k
 rw [Y2c] at this
 have e2:((λ x=>xs[x]?)∘λ x=>i+x)=λ m=>xs[i+m]?:=rfl
 rw [e2] at this
 rw [this]
theorem getItem_tuple_cut {t sl:Addr}{items:Array Value}{vl vu:Value}{lo hi:Option Int}{Q:Value->Shared->Prop}(ht:IsTup s.heap t items)(hs:s.heap.IsSliceOf sl vl vu .none)(pl:IsPart vl lo)(pu:IsPart vu hi)
  (hw:¬ (sIx items.size 0 lo=0/\sIx items.size items.size hi=items.size))
  (h:Q (.ref s.heap.objs.size) { s with heap:=s.heap.push { cls:=.type "tuple",data:=.seq ((items.toList.drop (sIx items.size 0 lo)).take (sIx items.size items.size hi-sIx items.size 0 lo)).toArray } })
  (hsz:items.size<=sizeLine):wpAny (model prog w) A (getItem (.ref t) (.ref sl)) Q E s:=by
 have htake:sizeOk (.seq ((items.toList.drop (sIx items.size 0 lo)).take (sIx items.size items.size hi-sIx items.size 0 lo)).toArray):=by
  show ((items.toList.drop (sIx items.size 0 lo)).take (sIx items.size items.size hi-sIx items.size 0 lo)).toArray.size<=sizeLine
  rw [Y09,Y2u,List.length_drop,Y1t]
  omega
 have hj:sIx items.size items.size hi<=items.size:=z1l _ _ (Y03 _) hi
 obtain ⟨os,hos,hcs,hds⟩:=id hs
 have hTs:s.TypeIs (.ref sl) "slice":=⟨os,hos,hcs⟩
 unfold getItem
 try with_reducible refine wpAny_holding ?_
 first | refine wpAny_bind (wpAny_pure ?_) | skip
 refine wpAny_bind (wpAny_sequenceKey ht.typeIs (by decide) ?_)
 refine wpAny_bind (wpAny_callSpecial?_slot (name:=Str.ofString "__getitem__") ht.typeIs Y1p
  (wpAny_call_entry Y1p ht.typeIs entry_tuple_getitem ?_ (args_tuple_getitem _ _)))
 show wpAny _ _ (Builtin.Tuple.tupleItemsOf (.ref t) >>= _) _ _ s
 refine wpAny_bind (tupleItemsOf_ ht ?_)
 refine wpAny_bind (wpAny_typeOf hTs ?_)
 rw [if_pos (by decide)]
 refine wpAny_bind (wz hs pl pu ?_)
 have hno:¬ ((((sIx items.size 0 lo:Nat):Int)==0&&(1:Int)==1&&(sIx items.size items.size hi-sIx items.size 0 lo)==items.size)=true):=by
  intro q
  rw [Y0o,Y0o] at q
  have q1:((sIx items.size 0 lo:Nat):Int)=0:=eq_of_beq q.1.1
  have q2:sIx items.size items.size hi-sIx items.size 0 lo=items.size:=eq_of_beq q.2
  exact hw ⟨by omega,by omega⟩
 show wpAny _ _ (if (((sIx items.size 0 lo:Nat):Int)==0&&(1:Int)==1&&(sIx items.size items.size hi-sIx items.size 0 lo)==items.size)=true then _ else _) _ _ s
 rw [if_neg hno,VF]
 first
  | exact wpAny_bind (m:=Builtin.Tuple.tupleExact _) (wpAny_newObj_type (wpAny_pure ⟨_,rfl,wpAny_pure h⟩) htake)
  | exact wpAny_bind (m:=Builtin.Tuple.tupleExact _) (wpAny_newObj_type (wpAny_bind (wpAny_pure (wpAny_pure ⟨_,rfl,wpAny_pure h⟩))) htake)
  | exact wpAny_bind (wpAny_bind (m:=Builtin.Tuple.tupleExact _) (wpAny_newObj_type (wpAny_pure (wpAny_pure ⟨_,rfl,wpAny_pure h⟩)) htake))
  | exact wpAny_bind (wpAny_bind (m:=Builtin.Tuple.tupleExact _) (wpAny_newObj_type (wpAny_pure ⟨_,rfl,wpAny_pure h⟩) htake))
end
end HT
namespace L2
open PySem PySem.Spec PyProof.Rows
noncomputable abbrev TO:=St->Hp->(Option Int->Hp->Prop)->Prop
noncomputable def PO (X:Cx)(e:Option Expr)(t:TO):Prop :=
 ∀ (pins:List (Addr×Obj)) (s:Shared) (σ:St) (H:Hp) (Q:Option Int->Hp->Prop),Inv X pins σ H s->t σ H Q ->
  wpAny (model X.prog X.w) X.A (evalPart e X.env) (λ u s'=>∃ o H',Inv X pins σ H' s'/\IsPart u o/\Q o H') X.xe s
noncomputable def OC:TO:=λ _ H Q=>Q none H
noncomputable def z3t (t:TE):TO:=λ σ H Q=>t σ H λ x H1=>∃ i,x=.int i/\Q (some i) H1
section
variable {X:Cx}{e:Expr}{te:TE}{lo hi:Option Expr}{tl th:TO}{pos p2:Pos}
theorem OD:PO X none OC:=by
 intro pins s σ H Q I h
 rw [evalPart_none]
 exact wpAny_pure ⟨none,H,I,.none,h⟩
theorem OE (h:PE X e te):PO X (some e) (z3t te):=by
 intro pins s σ H Q I hw
 rw [evalPart_some]
 refine thn (h pins s σ H _ I hw) λ u s1 ⟨x,H1,I1,r1,q1⟩=>?_
 obtain ⟨i,rfl,q⟩:=q1
 obtain ⟨t,rfl⟩:=r1
 exact ⟨some i,H1,I1,.int i t,q⟩
noncomputable def SlR (X:Cx)(r:V->Option Int->Option Int->Hp->VK->Prop):Prop :=
 ∀ (pins:List (Addr×Obj)) (s:Shared) (σ:St) (H:Hp) (x:V) (v vl vu:Value) (lo hi:Option Int) (sl:Addr) (Q:VK),Inv X pins σ H s->RelV x v->s.heap.IsSliceOf sl vl vu .none->IsPart vl lo->IsPart vu hi->r x lo hi H Q ->
  ∃ T id,typeLookup (.type T) "__getitem__"=pure (some (.builtin id))/\s.TypeIs v T/\wpAny (model X.prog X.w) X.A (getItem v (.ref sl)) (EP X pins σ Q) X.xe s
noncomputable def tSl (r:V->Option Int->Option Int->Hp->VK->Prop)(te:TE)(tl th:TO):TE:=λ σ H Q=>te σ H λ x H1=>tl σ H1 λ l H2=>th σ H2 λ u H3=>r x l u H3 Q
theorem VG {r:V->Option Int->Option Int->Hp->VK->Prop}(hr:SlR X r)(he:PE X e te)(hl:PO X lo tl)(hu:PO X hi th):PE X (.Subscript e (.Slice lo hi none p2) pos) (tSl r te tl th):=by
 intro pins s σ H Q I h
 refine Subscript_ (thn (he pins s σ H _ I h) λ v s1 ⟨x,H1,I1,r1,q1⟩=>?_)
 refine wpAny_Slice (thn (hl pins s1 σ H1 _ I1 q1) λ vl s2 ⟨l,H2,I2,pl,q2⟩=>thn (hu pins s2 σ H2 _ I2 q2) λ vu s3 ⟨u,H3,I3,pu,q3⟩=>?_)
 rw [evalPart_none]
 refine wpAny_pure ?_
 have I4:Inv X pins σ H3 { s3 with heap:=s3.heap.push { cls:=.type "slice",data:=.fields #[vl,vu,.none] } }:=I3.kept (t':=s3.toks) λ b ob q=>Y01 _ q
 obtain ⟨T,id,hT,ht,hg⟩:=hr pins { s3 with heap:=s3.heap.push { cls:=.type "slice",data:=.fields #[vl,vu,.none] } } σ H3 x v vl vu l u s3.heap.objs.size Q I4 r1 (Heap.IsSliceOf.new ..) pl pu q3
 show wpAny (model X.prog X.w) X.A (subscriptTail e (.Slice lo hi none p2) v (.ref s3.heap.objs.size)) (EP X pins σ Q) X.xe { s3 with heap:=s3.heap.push { cls:=.type "slice",data:=.fields #[vl,vu,.none] } }
 exact tail_any (ops:=[.ref s3.heap.objs.size,v]) ht hT hg (by with_unfolding_all rfl)
noncomputable def WV (xs:List V)(lo hi:Option Int):List V:=(xs.drop (HT.sIx xs.length 0 lo)).take (HT.sIx xs.length xs.length hi-HT.sIx xs.length 0 lo)
theorem yL (xs:List V)(lo hi:Option Int):(WV xs lo hi).length<=xs.length:=by
 unfold WV
 rw [Y2u,List.length_drop]
 omega
noncomputable def z5t (K:Y00):V->Option Int->Option Int->Hp->VK->Prop:=λ x lo hi H Q=>∃ a xs,x=.ref a/\SqT K H a xs /\
 ¬ (HT.sIx xs.length 0 lo=0/\HT.sIx xs.length xs.length hi=xs.length)/\∀ p,H p=none->Q (.ref p) (upd H p (.tup (WV xs lo hi)))
theorem z1m:SlR X (z5t X.K):=by
 intro pins s σ H x v vl vu lo hi sl Q I rx hs pl pu h
 obtain ⟨a,xs,rfl,hx,hw,q⟩:=h
 cases rx
 obtain ⟨its,r,ht,hz⟩:=I.tuple hx
 have hlen:its.toArray.size=xs.length:=by rw [Y09];exact r.length.symm
 refine ⟨"tuple",_,PyProof.Rows.slot_tuple_getitem.lookup,ht.typeIs,?_⟩
 refine HT.getItem_tuple_cut ht hs pl pu (by rw [hlen];exact hw) ?_ (by rw [hlen];exact hz)
 rw [hlen]
 refine ⟨.ref s.heap.objs.size,_,I.laid (t':=s.toks) (o:=.tup (WV xs lo hi)) (λ b ob q=>Y01 _ q) (Y03 _) ?_,rfl,q _ (I.hok.fresh (Y03 _))⟩
 exact ⟨Y11 (yL xs lo hi) hz,_,(r.drop (HT.sIx xs.length 0 lo)).take (HT.sIx xs.length xs.length hi-HT.sIx xs.length 0 lo),IsTup.new _ _⟩
noncomputable def z3u (K:Y00):R2:=λ x y H Q=>∃ a b xs ys,x=.ref a/\y=.ref b/\SqT K H a xs/\SqT K H b ys/\xs≠[]/\xs.length+ys.length<=sizeLine /\
 (ys=[]->Q (.ref a) H)/\(ys≠[]->∀ p,H p=none->Q (.ref p) (upd H p (.tup (xs++ys))))
theorem Vals.nil_iff {xs:List V}{us:List Value}(r:Vals xs us):us=[] ↔ xs=[]:=by
 cases r with
 | nil=>simp
 | cons _ _=>simp
theorem OF:OpR X (binaryOp .Add) (z3u X.K):=by
 intro pins s σ H x y v u Q I rx ry h
 obtain ⟨a,b,xs,ys,rfl,rfl,ha,hb,hx,hz,q1,q2⟩:=h
 cases rx
 cases ry
 obtain ⟨its,r1,p1,_⟩:=I.tuple ha
 obtain ⟨its2,r2,p2,_⟩:=I.tuple hb
 refine HT.cat_tup p1 p2 (λ z=>hx (r1.nil_iff.mp z)) (λ z=>⟨.ref a,H,I,rfl,q1 (r2.nil_iff.mp z)⟩) (λ z=>?_) (by rw [<- r1.length,<- r2.length];exact hz)
 refine ⟨.ref s.heap.objs.size,_,I.laid (t':=s.toks) (o:=.tup (xs++ys)) (λ b ob q=>Y01 _ q) (Y03 _) ?_,rfl,q2 (λ w=>z (r2.nil_iff.mpr w)) _ (I.hok.fresh (Y03 _))⟩
 exact ⟨by rw [Y0u];exact hz,_,r1.append r2,IsTup.new _ _⟩
end
end L2
namespace L2
open PySem PySem.Spec PyProof.Rows
noncomputable def ixN (n:Nat)(i:Int):Option Nat:=if 0<=i then (if i<n then some i.toNat else none) else if -(n:Int)<=i then some (i+n).toNat else none
noncomputable def atI {α:Type}(xs:List α)(i:Int):Option α:=(ixN xs.length i).bind λ j=>xs[j]?
theorem YK {n:Nat}{i:Int}{j:Nat}(h:ixN n i=some j):seqIndex? i n=some j/\j<n/\-(n:Int)<=i/\i<n:=by
 unfold ixN at h
 by_cases h0:0<=i
 ·rw [if_pos h0] at h
  by_cases h1:i<n
  ·rw [if_pos h1] at h
   have e:i.toNat=j:=Option.some.inj h
   exact ⟨by rw [seqIndex_of h0 h1,e],by omega,by omega,h1⟩
  ·rw [if_neg h1] at h;cases h
 ·rw [if_neg h0] at h
  by_cases h1:-(n:Int)<=i
  ·rw [if_pos h1] at h
   have e:(i+n).toNat=j:=Option.some.inj h
   exact ⟨by rw [seqIndex_neg (by omega) h1,e],by omega,h1,by omega⟩
  ·rw [if_neg h1] at h;cases h
theorem W7 {α:Type}{xs:List α}{i:Int}{v:α}(h:atI xs i=some v):∃ j,seqIndex? i xs.length=some j/\xs[j]?=some v/\j<xs.length/\-(xs.length:Int)<=i/\i<xs.length:=by
 unfold atI at h
 cases e:ixN xs.length i with
 | none=>rw [e] at h;cases h
 | some j =>
  rw [e] at h
  obtain ⟨h1,h2,h3,h4⟩:=YK e
  exact ⟨j,h1,h,h2,h3,h4⟩
noncomputable def YL (b:Expr):Prop:=∀ o i,subscripted b false o i=operate [o,i] (getItem o i)
noncomputable def IxR (X:Cx)(r:R2):Prop :=
 ∀ (value slice:Expr) (pins:List (Addr×Obj)) (s:Shared) (σ:St) (H:Hp) (x y:V) (v u:Value) (Q:VK),Inv X pins σ H s->RelV x v->RelV y u->r x y H Q ->
  subscripted slice false v u=operate [v,u] (getItem v u)->wpAny (model X.prog X.w) X.A (subscriptTail value slice v u) (EP X pins σ Q) X.xe s
noncomputable def MtR (X:Cx)(id:String)(r:V->List V->Hp->VK->Prop):Prop :=
 ∀ (pins:List (Addr×Obj)) (s:Shared) (σ:St) (H:Hp) (x:V) (xs:List V) (v:Value) (us:List Value) (Q:VK),Inv X pins σ H s->RelV x v->Vals xs us->r x xs H Q ->
  wpAny (model X.prog X.w) X.A (call (.builtin id) (v::us)) (EP X pins σ Q) X.xe s
section
variable {X:Cx}{a b:Expr}{ta tb:TE}{pos:Pos}
theorem VH {r:R2}(hr:IxR X r)(ha:PE X a ta)(hb:PE X b tb)(hs:YL b):PE X (.Subscript a b pos) (tOp r ta tb):=by
 intro pins s σ H Q I h
 exact Subscript_ (z0z ha hb I h λ v u s2 x y H2 I2 rx ry q=>hr a b pins s2 σ H2 x y v u Q I2 rx ry q (hs _ _))
noncomputable def z5u (K:Y00):R2:=λ x y H Q=>∃ p xs i v,x=.ref p/\y=.int i/\SqL K H p xs/\atI xs i=some v/\Q v H
noncomputable def z5v (K:Y00):R2:=λ x y H Q=>∃ p xs i v,x=.ref p/\y=.int i/\SqT K H p xs/\atI xs i=some v/\Q v H
noncomputable def z5w:R2:=λ x y H Q=>∃ z i c,x=.str z/\y=.int i/\z.length<=sizeLine/\atI z.cps.toList i=some c/\Q (.str ⟨#[c]⟩) H
theorem YM:IxR X (z5u X.K):=by
 intro value slice pins s σ H x y v u Q I rx ry h hs
 obtain ⟨p,xs,i,z,rfl,rfl,hq,he,q⟩:=h
 cases rx
 obtain ⟨t,rfl⟩:=ry
 obtain ⟨its,r,pl,hz⟩:=I.list hq
 obtain ⟨j,h1,h2,h3,h4,h5⟩:=W7 he
 obtain ⟨w,ew,rw'⟩:=r.get h2
 have hl:=r.length
 have hn:=wW
 have fin:EP X pins σ Q w s:=⟨z,H,I,rw',q⟩
 by_cases h0:0<=i
 ·have hj:i.toNat=j:=by
   rw [seqIndex_of h0 h5] at h1
   exact Option.some.inj h1
  exact item_listR pl.isList h0 (by omega) (by rw [hj];simpa using ew) fin hs
 ·have hj:(i+(its.toArray.size:Int)).toNat=j:=by
   rw [seqIndex_neg (by omega) h4] at h1
   rw [Y09,<- hl]
   exact Option.some.inj h1
  exact subscriptTail_builtinR (x:=w) pl.isList.typeIs slot_list_getitem.lookup
   (wpAny_getItem_list_neg (Q:=λ r s'=>r=w/\EP X pins σ Q r s') pl.isList (by omega) (by rw [Y09]<;>omega) (by omega) (by rw [hj];simpa using ew) ⟨rfl,fin⟩) hs
theorem z1n:IxR X (z5v X.K):=by
 intro value slice pins s σ H x y v u Q I rx ry h hs
 obtain ⟨p,xs,i,z,rfl,rfl,hq,he,q⟩:=h
 cases rx
 obtain ⟨t,rfl⟩:=ry
 obtain ⟨its,r,pl,hz⟩:=I.tuple hq
 obtain ⟨j,h1,h2,h3,h4,h5⟩:=W7 he
 obtain ⟨w,ew,rw'⟩:=r.get h2
 have hl:=r.length
 have hn:=wW
 have fin:EP X pins σ Q w s:=⟨z,H,I,rw',q⟩
 exact subscriptTail_builtinR (x:=w) pl.typeIs slot_tuple_getitem.lookup
  (getItem_tuple (j:=j) (Q:=λ r s'=>r=w/\EP X pins σ Q r s') pl (by omega) (by omega) (by rw [Y09,<- hl];exact h1) (by simpa using ew) ⟨rfl,fin⟩) hs
theorem z1o:IxR X z5w:=by
 intro value slice pins s σ H x y v u Q I rx ry h hs
 obtain ⟨z,i,c,rfl,rfl,hz,he,q⟩:=h
 obtain ⟨t,rfl⟩:=rx
 obtain ⟨t',rfl⟩:=ry
 obtain ⟨j,h1,h2,h3,h4,h5⟩:=W7 he
 have hl:z.cps.toList.length=z.length:=by simp [Str.length]
 rw [hl] at h1 h4 h5
 have hn:=wW
 exact tail_any (typeIs_str s z t) slot_str_getitem.lookup (getItem_str (c:=c) (by
  have e1:decide (i < -(2 ^ 63:Int))=false:=decide_eq_false (by omega)
  have e2:decide (i >= 2 ^ 63)=false:=decide_eq_false (by omega)
  rw [e1,e2,Bool.or_false]) (by rw [h1];simpa using h2) ⟨.str ⟨#[c]⟩,H,I.tok _,⟨_,rfl⟩,q⟩) hs
theorem QO (its:List Value)(n j:Nat)(u:Value):Obj.mapSeq (·.setIfInBounds j u) { cls:=.type "list",data:=.seq its.toArray n }={ cls:=.type "list",data:=.seq (its.set j u).toArray n }:=by
 simp [Obj.mapSeq]
theorem Inv.lst {pins:List (Addr×Obj)}{σ:St}{H:Hp}{s:Shared}{p:Addr}{xs:List V}(I:Inv X pins σ H s)(h:H p=some (.lst xs)) :
  ∃ (its:List Value) (n:Nat),Vals xs its/\s.heap.get? p=some { cls:=.type "list",data:=.seq its.toArray n }/\xs.length<=sizeLine:=by
 obtain ⟨z,its,n,r,e⟩:=I.hok p _ h
 exact ⟨its,n,r,e,z⟩
theorem Inv.lstUpd {pins:List (Addr×Obj)}{σ:St}{H:Hp}{s:Shared}{p:Addr}{xs ys:List V}{its its':List Value}{n n':Nat}{f:Obj->Obj}(I:Inv X pins σ H s)(h:H p=some (.lst xs))
  (ho:s.heap.get? p=some { cls:=.type "list",data:=.seq its.toArray n }) (hf:f { cls:=.type "list",data:=.seq its.toArray n }={ cls:=.type "list",data:=.seq its'.toArray n' }) (r:Vals ys its') (hz:ys.length<=sizeLine) (t:Nat) :
  Inv X pins σ (upd H p (.lst ys)) { s with heap:=s.heap.update p f,toks:=t }:=by
 have e:(s.heap.update p f).get? p=some { cls:=.type "list",data:=.seq its'.toArray n' }:=by
  rw [Y1m f ho (by rw [hf]<;>rfl),hf]
 refine I.write (x:=p) (e:=p) (by rw [h];trivial) (.inl rfl) (λ b u hb q=>(Y1v _ _ (Ne.symm hb)).trans q) ⟨_,e⟩ ?_
 exact ⟨hz,its',n',r,e⟩
noncomputable def z3v:V->V->V->Hp->(Hp->Prop)->Prop:=λ o i v H Q=>∃ p xs k j,o=.ref p/\i=.int k/\H p=some (.lst xs)/\ixN xs.length k=some j/\Q (upd H p (.lst (xs.set j v)))
theorem VI:z0t X z3v:=by
 intro pins s σ H o i v ov iv u Q I ro ri rv h
 obtain ⟨p,xs,k,j,rfl,rfl,hp,hj,q⟩:=h
 cases ro
 obtain ⟨t,rfl⟩:=ri
 obtain ⟨its,n,r,ho,hz⟩:=I.lst hp
 obtain ⟨h1,h2,h3,h4⟩:=YK hj
 have hl:=r.length
 have hn:=wW
 have I':Inv X pins σ (upd H p (.lst (xs.set j v))) { s with heap:=s.heap.update p (Obj.mapSeq (·.setIfInBounds j u)) } :=
  I.lstUpd hp ho (QO its n j u) (r.set rv j) (by rw [Y0n];exact hz) s.toks
 by_cases h0:0<=k
 ·have hk:k.toNat=j:=by
   rw [seqIndex_of h0 h4] at h1
   exact Option.some.inj h1
  exact PySem.W.ki_setAt ho h0 (by omega) (by rw [Y09,<- hl];exact h4) (by rw [hk];exact ⟨_,I',q⟩)
 ·have hk:(k+(its.toArray.size:Int)).toNat=j:=by
   rw [seqIndex_neg (by omega) h3] at h1
   rw [Y09,<- hl]
   exact Option.some.inj h1
  exact PySem.W.ki_setBack ho (by omega) (by rw [Y09,<- hl];exact h3) (by omega) (by rw [hk];exact ⟨_,I',q⟩)
theorem W8 (lo hi:Option Int)(n:Nat):(sliceBounds lo hi none n).1=((HT.sIx n 0 lo:Nat):Int)/\(sliceBounds lo hi none n).2.1=((HT.sIx n n hi:Nat):Int)/\(sliceBounds lo hi none n).2.2=1:=by
 refine ⟨?_,?_,rfl⟩
 ·cases lo with
  | none=>simp [sliceBounds,HT.sIx]
  | some i =>
   simp only [sliceBounds,HT.sIx,Option.getD_none,show (1:Int) > 0 by decide,if_true]
   by_cases h:i<0
   ·simp only [h,if_true]<;>omega
   ·simp only [h,if_false]<;>omega
 ·cases hi with
  | none=>simp [sliceBounds,HT.sIx]
  | some i =>
   simp only [sliceBounds,HT.sIx,Option.getD_none,show (1:Int) > 0 by decide,if_true]
   by_cases h:i<0
   ·simp only [h,if_true]<;>omega
   ·simp only [h,if_false]<;>omega
theorem J7 (its:List Value)(lo hi:Option Int):slicePick its.toArray lo hi none=((its.drop (HT.sIx its.length 0 lo)).take (HT.sIx its.length its.length hi-HT.sIx its.length 0 lo)).toArray:=by
 obtain ⟨h1,h2,h3⟩:=W8 lo hi its.toArray.size
 unfold slicePick
 rw [h1,h2,h3]
 simp only [sliceRange_one,pick_run,Y09]<;>rfl
noncomputable def z5x (K:Y00):V->Option Int->Option Int->Hp->VK->Prop:=λ x lo hi H Q=>∃ a xs,x=.ref a/\SqL K H a xs/\∀ p,H p=none->Q (.ref p) (upd H p (.lst (WV xs lo hi)))
theorem YN:SlR X (z5x X.K):=by
 intro pins s σ H x v vl vu lo hi sl Q I rx hs pl pu h
 obtain ⟨a,xs,rfl,hx,q⟩:=h
 cases rx
 obtain ⟨its,r,ht,hz⟩:=I.list hx
 have hlen:=r.length
 refine ⟨"list",_,slot_list_getitem.lookup,ht.isList.typeIs,?_⟩
 refine wpAny_getItem_list_slice ht.isList hs pl pu .none (by simp) ?_ (by rw [Y09]<;>omega)
 rw [J7,<- hlen]
 refine ⟨.ref s.heap.objs.size,_,I.laid (t':=s.toks) (o:=.lst (WV xs lo hi)) (λ b ob q=>Y01 _ q) (Y03 _) ?_,rfl,q _ (I.hok.fresh (Y03 _))⟩
 exact ⟨Y11 (yL xs lo hi) hz,_,0,(r.drop (HT.sIx xs.length 0 lo)).take (HT.sIx xs.length xs.length hi-HT.sIx xs.length 0 lo),Y0a _ rfl⟩
noncomputable def ji:V->Bool
 | .non=>true
 | .bl _=>true
 | .int _=>true
 | .str _=>true
 | _=>false
noncomputable def eqV:V->V->Bool
 | .non,.non=>true
 | .bl a,.bl b=>a==b
 | .bl a,.int b=>(if a then 1 else 0)==b
 | .int a,.bl b=>a==(if b then 1 else 0)
 | .int a,.int b=>a==b
 | .str a,.str b=>a==b
 | _,_=>false
theorem VJ {A:Around}{s:Shared}{y x:V}{u v:Value}(ry:RelV y u)(rx:RelV x v)(fy:ji y=true)(fx:ji x=true):SeqAt.EqAt A s u v (eqV y x):=by
 cases y with
 | non =>
  cases ry
  cases x with
  | non=>cases rx;exact SeqAt.EqAt.same _
  | bl b=>cases rx;exact SeqAt.EqAt.none_bool b
  | int b=>obtain ⟨t,rfl⟩:=rx;exact SeqAt.EqAt.none_int b t
  | str b=>obtain ⟨t,rfl⟩:=rx;exact SeqAt.EqAt.none_str b t
  | _=>exact absurd (show false=true from fx) Y0s
 | bl a =>
  cases ry
  cases x with
  | non=>cases rx;exact SeqAt.EqAt.bool_none a
  | bl b=>cases rx;exact SeqAt.EqAt.bool_bool a b
  | int b=>obtain ⟨t,rfl⟩:=rx;exact SeqAt.EqAt.bool_int a b t
  | str b=>obtain ⟨t,rfl⟩:=rx;exact SeqAt.EqAt.bool_str a b t
  | _=>exact absurd (show false=true from fx) Y0s
 | int a =>
  obtain ⟨t',rfl⟩:=ry
  cases x with
  | non=>cases rx;exact SeqAt.EqAt.int_none a t'
  | bl b=>cases rx;exact SeqAt.EqAt.int_bool a t' b
  | int b=>obtain ⟨t,rfl⟩:=rx;exact SeqAt.EqAt.int_int a t' b t
  | str b=>obtain ⟨t,rfl⟩:=rx;exact SeqAt.EqAt.int_str a t' b t
  | _=>exact absurd (show false=true from fx) Y0s
 | str a =>
  obtain ⟨t',rfl⟩:=ry
  cases x with
  | non=>cases rx;exact SeqAt.EqAt.str_none a t'
  | bl b=>cases rx;exact SeqAt.EqAt.str_bool a t' b
  | int b=>obtain ⟨t,rfl⟩:=rx;exact SeqAt.EqAt.str_int a t' b t
  | str b=>obtain ⟨t,rfl⟩:=rx;exact SeqAt.EqAt.str_str a t' b t
  | _=>exact absurd (show false=true from fx) Y0s
 | _=>exact absurd (show false=true from fy) Y0s
noncomputable def eqU (x:V)(u:Value):Bool:=match u with
 | .none=>eqV .non x
 | .bool b=>eqV (.bl b) x
 | .int i _=>eqV (.int i) x
 | .str z _=>eqV (.str z) x
 | _=>false
theorem Zk {x y:V}{u:Value}(r:RelV y u)(f:ji y=true):eqU x u=eqV y x:=by
 cases y with
 | non=>cases r;rfl
 | bl b=>cases r;rfl
 | int i=>obtain ⟨t,rfl⟩:=r;rfl
 | str z=>obtain ⟨t,rfl⟩:=r;rfl
 | _=>exact absurd (show false=true from f) Y0s
theorem qY {x:V}:∀ {xs:List V}{us:List Value},Vals xs us->xs.all ji=true->us.any (eqU x)=xs.any λ y=>eqV y x
 | _,_,.nil,_=>rfl
 | y::xs,u::us,.cons r t,f=>by
  rw [Y2q,Y0o] at f
  rw [Y1e,Y1e,Zk r f.1,qY t f.2]
theorem wA {A:Around}{s:Shared}{x:V}{v:Value}(rx:RelV x v)(fx:ji x=true):∀ {xs:List V}{us:List Value},Vals xs us->xs.all ji=true->∀ u∈us,SeqAt.EqAt A s u v (eqU x u)
 | _,_,.nil,_=>λ u hu=>by cases hu
 | y::xs,u::us,.cons r t,f=>λ u' hu=>by
  rw [Y2q,Y0o] at f
  rcases Y0d.mp hu with rfl | hu
  ·rw [Zk r f.1];exact VJ r rx f.1 fx
  ·exact wA rx fx t f.2 u' hu
noncomputable def inV (x:V)(xs:List V):Bool:=xs.any λ y=>eqV y x
noncomputable def rIn (K:Y00)(neg:Bool):R2:=λ x y H Q=>∃ p xs,y=.ref p/\(SqL K H p xs\/SqT K H p xs)/\ji x=true/\xs.all ji=true/\Q (.bl (if neg then !inV x xs else inV x xs)) H
theorem Ux:OpR X (compareOp .In) (rIn X.K false):=by
 intro pins s σ H x y v u Q I rx ry h
 obtain ⟨p,xs,rfl,hq,fx,fs,q⟩:=h
 cases ry
 rcases hq with hq | hq
 ·obtain ⟨its,r,pl,hz⟩:=I.list hq
  refine SeqAt.in_listAt (eqU x) pl.isList (λ w hw=>wA rx fx r fs w (by simpa using hw)) ⟨.bl _,H,I,rfl,?_⟩
  rw [show its.toArray.any (eqU x)=its.any (eqU x) by simp,qY r fs]
  exact q
 ·obtain ⟨its,r,pl,hz⟩:=I.tuple hq
  refine SeqAt.in_tupleAt (eqU x) pl (λ w hw=>wA rx fx r fs w (by simpa using hw)) ⟨.bl _,H,I,rfl,?_⟩
  rw [show its.toArray.any (eqU x)=its.any (eqU x) by simp,qY r fs]
  exact q
theorem W9:OpR X (compareOp .NotIn) (rIn X.K true):=by
 intro pins s σ H x y v u Q I rx ry h
 obtain ⟨p,xs,rfl,hq,fx,fs,q⟩:=h
 cases ry
 rcases hq with hq | hq
 ·obtain ⟨its,r,pl,hz⟩:=I.list hq
  refine SeqAt.notIn_listAt (eqU x) pl.isList (λ w hw=>wA rx fx r fs w (by simpa using hw)) ⟨.bl _,H,I,rfl,?_⟩
  rw [show its.toArray.any (eqU x)=its.any (eqU x) by simp,qY r fs]
  exact q
 ·obtain ⟨its,r,pl,hz⟩:=I.tuple hq
  refine SeqAt.notIn_tupleAt (eqU x) pl (λ w hw=>wA rx fx r fs w (by simpa using hw)) ⟨.bl _,H,I,rfl,?_⟩
  rw [show its.toArray.any (eqU x)=its.any (eqU x) by simp,qY r fs]
  exact q
theorem Wa:OpR X (compareOp .NotIn) (λ x y H Q=>∃ i j,x=.str i/\y=.str j/\Q (.bl (!(!(Builtin.Str.occurrences j i 0 j.length 1).isEmpty))) H):=by
 intro pins s σ H x y v u Q I rx ry h
 obtain ⟨i,j,rfl,rfl,q⟩:=h
 obtain ⟨t,rfl⟩:=rx
 obtain ⟨t',rfl⟩:=ry
 exact notIn_str ⟨.bl _,H,I,rfl,q⟩
theorem Wb:CallR X (.type "list") (λ xs H Q=>∃ p ys,xs=[.ref p]/\(SqL X.K H p ys\/SqT X.K H p ys)/\∀ l,H l=none->Q (.ref l) (upd H l (.lst ys))):=by
 intro pins s σ H xs us Q I r h
 obtain ⟨p,ys,rfl,hq,q⟩:=h
 obtain ⟨u,rfl,rx⟩:=wX r
 cases rx
 have fin:∀ (its:List Value),Vals ys its->ys.length<=sizeLine->∀ (h':Heap) (c':Nat),(∀ b o',s.heap.get? b=some o'->h'.get? b=some o') ->
   h'.get? s.heap.objs.size=some { cls:=.type "list",dict:=none,data:=.seq its.toArray c',slots:=#[] }->EP X pins σ Q (.ref s.heap.objs.size) { s with heap:=h' }:=λ its r' hz h' c' kp e =>
  ⟨.ref s.heap.objs.size,_,I.laid (t':=s.toks) kp (Y03 _) (show ObjOk X.prog X.w _ h' _ (.lst ys) from ⟨hz,its,c',r',e⟩),rfl,q _ (I.hok.fresh (Y03 _))⟩
 rcases hq with hq | hq
 ·obtain ⟨its,r',pl,hz⟩:=I.list hq
  have hlen:=r'.length
  obtain ⟨o,ho,hc,n,hd⟩:=pl.isList
  exact call_list_seq p (.inl rfl) ho hc hd (λ h' c' kp e=>fin its r' hz h' c' kp e) (by simp only [Y09]<;>omega)
 ·obtain ⟨its,r',pl,hz⟩:=I.tuple hq
  have hlen:=r'.length
  obtain ⟨o,ho,hc,n,hd⟩:=pl
  exact call_list_seq p (.inr rfl) ho hc hd (λ h' c' kp e=>fin its r' hz h' c' kp e) (by simp only [Y09]<;>omega)
theorem J8:CallR X (.type "tuple") (λ xs H Q=>∃ p ys,xs=[.ref p]/\((SqL X.K H p ys/\∀ l,H l=none->Q (.ref l) (upd H l (.tup ys)))\/(SqT X.K H p ys/\Q (.ref p) H))):=by
 intro pins s σ H xs us Q I r h
 obtain ⟨p,ys,rfl,h⟩:=h
 obtain ⟨u,rfl,rx⟩:=wX r
 cases rx
 rcases h with ⟨hq,q⟩ | ⟨hq,q⟩
 ·obtain ⟨its,r',pl,hz⟩:=I.list hq
  have hlen:=r'.length
  refine call_tuple_list pl.isList (λ h' kp=>?_) (by simp only [Y09]<;>omega)
  have I1:Inv X pins σ H { s with heap:=h' }:=I.kept (t':=s.toks) kp
  have I2:Inv X pins σ (upd H h'.objs.size (.tup ys)) { s with heap:=h'.push { cls:=.type "tuple",data:=.seq its.toArray } } :=
   I1.laid (t':=s.toks) (λ b o e=>Y01 _ e) (Y03 _) (show ObjOk X.prog X.w _ _ _ (.tup ys) from ⟨hz,its,r',IsTup.new _ _⟩)
  exact ⟨.ref h'.objs.size,_,I2,rfl,q _ (I1.hok.fresh (Y03 _))⟩
 ·obtain ⟨its,r',pl,hz⟩:=I.tuple hq
  exact call_tuple_same pl ⟨.ref p,H,I,rfl,q⟩
noncomputable def tyV (K:Y00)(T:String)(x:V)(H:Hp):Prop:=match x with
 | .str _=>T="str"
 | .int _=>T="int"
 | .ref p=>(T="list"/\∃ xs,SqL K H p xs)\/(T="tuple"/\∃ o,K.lookup p=some o/\o.cls=.type "tuple"/\o.dict=none) \/
   (T="dict"/\((∃ kvs,H p=some (.dK kvs))\/∃ kvs,H p=some (.dT kvs)))\/(T="set"/\∃ S n,H p=some (.set S n))
 | _=>False
theorem VL {pins:List (Addr×Obj)}{σ:St}{H:Hp}{s:Shared}{T:String}{x:V}{v:Value}(I:Inv X pins σ H s)(r:RelV x v)(ty:tyV X.K T x H) :
  s.TypeIs v T/\∀ a,v=.ref a->∃ ob,s.heap.get? a=some ob/\ob.dict=none:=by
 cases x with
 | str z =>
  obtain ⟨t,rfl⟩:=r
  cases (show T="str" from ty)
  exact ⟨typeIs_str s z t,λ _ e=>nomatch e⟩
 | int i =>
  obtain ⟨t,rfl⟩:=r
  cases (show T="int" from ty)
  exact ⟨typeIs_int s i t,λ _ e=>nomatch e⟩
 | ref p =>
  cases r
  rcases ty with ⟨rfl,xs,hq⟩ | ⟨rfl,o,hk,hc,hd⟩ | ⟨rfl,hk⟩ | ⟨rfl,S,n,hk⟩
  ·obtain ⟨its,_,pl,_⟩:=I.list hq
   refine ⟨pl.isList.typeIs,λ a e=>?_⟩
   cases e
   obtain ⟨o,n,e,c,hd,_⟩:=pl
   exact ⟨o,e,hd⟩
  ·refine ⟨⟨o,I.kIn p o hk,hc⟩,λ a e=>?_⟩
   cases e
   exact ⟨o,I.kIn _ o hk,hd⟩
  ·have z:∃ o,s.heap.get? p=some o/\o.ExactDict:=by
    rcases hk with ⟨kvs,hk⟩ | ⟨kvs,hk⟩
    ·obtain ⟨_,_,_,_,o,_,_,e,ex,_⟩:=I.hok p _ hk
     exact ⟨o,e,ex⟩
    ·obtain ⟨_,_,_,_,o,_,_,e,ex,_⟩:=I.hok p _ hk
     exact ⟨o,e,ex⟩
   obtain ⟨o,e,ex⟩:=z
   refine ⟨⟨o,e,ex.1⟩,λ a e2=>?_⟩
   cases e2
   exact ⟨o,e,ex.2.1⟩
  ·obtain ⟨o,_,_,_,e,ex,_⟩:=I.hok p _ hk
   refine ⟨⟨o,e,ex.1⟩,λ a e2=>?_⟩
   cases e2
   exact ⟨o,e,ex.2.1⟩
 | _=>exact False.elim ty
noncomputable def z5y (K:Y00)(T:String)(r:V->List V->Hp->VK->Prop)(to:TE):TE:=λ σ H Q=>to σ H λ x H1=>tyV K T x H1/\r x [] H1 Q
noncomputable def tBM (K:Y00)(T:String)(r:V->List V->Hp->VK->Prop)(to:TE)(t:TA):TE:=λ σ H Q=>to σ H λ x H1=>tyV K T x H1/\t σ H1 λ xs H2=>r x xs H2 Q
variable {o e:Expr}{es:List Expr}{to:TE}{t:TA}{name:Str}{apos cpos:Pos}{T id:String}{r:V->List V->Hp->VK->Prop}
theorem z1p (pa:PlainAttrs T) (slot:Slot T name id) (hty:typeOf (.builtin id)=pure (.type "method_descriptor")) (hm:MtR X id r) (ho:PE X o to)
  (hbase:attributeBase o name X.env (eval o X.env)=eval o X.env:=by rfl) (hline:(apos.endLine==cpos.line)=true:=by rfl):PE X (.Call (.Attribute o name apos) [] [] cpos) (z5y X.K T r to):=by
 intro pins s σ H Q I h
 refine wpAny_Call_method0_late hbase hline (thn (ho pins s σ H _ I h) λ v s1 ⟨x,H1,I1,r1,ty,q1⟩=>?_)
 obtain ⟨h1,h2⟩:=VL I1 r1 ty
 exact ⟨T,id,pa,slot,hty,h1,h2,Calls.callWith_builtin rfl (PySem.evalArgs_none (hm pins s1 σ H1 x [] v [] Q I1 r1 .nil q1))⟩
theorem BY (pa:PlainAttrs T) (slot:Slot T name id) (hty:typeOf (.builtin id)=pure (.type "method_descriptor")) (hm:MtR X id r) (ho:PE X o to) (ha:PA X (e::es) t)
  (hbase:attributeBase o name X.env (eval o X.env)=eval o X.env:=by rfl)
  (hfew:((backTo cpos (starEach (e::es) X.env)).all (λ x=>!x.1)&&(backToKw cpos (keywordEach [] X.env)).all (λ x=>x.1.isSome)
   && decide ((e::es).length+([]:List Keyword).length+(if ([]:List Keyword).isEmpty then 0 else 1)<30))=true:=by rfl)
  (hline:(apos.endLine==cpos.line)=true:=by rfl) (hs:starEach (e::es) X.env=(false,eval e X.env)::starEach es X.env:=by rfl) (hplain:(backTo cpos (starEach es X.env)).any (·.1)=false:=by rfl) :
  PE X (.Call (.Attribute o name apos) (e::es) [] cpos) (tBM X.K T r to t):=by
 intro pins s σ H Q I h
 refine wpAny_Call_method_late hbase hfew hline rfl (thn (ho pins s σ H _ I h) λ v s1 ⟨x,H1,I1,r1,ty,q1⟩=>?_)
 obtain ⟨h1,h2⟩:=VL I1 r1 ty
 refine ⟨T,id,pa,slot,hty,h1,h2,?_⟩
 have hA:=ha cpos pins s1 σ H1 _ I1 q1
 rw [hs] at hA ⊢
 refine Calls.callWith_builtin (by show (false||(backTo cpos (starEach es X.env)).any (·.1))=false;rw [hplain]<;>rfl) (Calls.evalArgs_plain ?_)
 exact thn hA λ us s2 ⟨vs,H2,I2,r2,q2⟩=>hm pins s2 σ H2 x vs v us Q I2 r1 r2 q2
end
end L2
namespace L2
open PySem PySem.Spec PyProof.Rows
noncomputable def MtM (X:Cx)(id:String)(r:V->List V->Hp->VK->Prop):Prop :=
 ∀ (pins:List (Addr×Obj)) (s:Shared) (σ:St) (H:Hp) (x:V) (xs:List V) (v:Value) (us:List Value) (Q:VK),Inv X pins σ H s->RelV x v->Vals xs us->r x xs H Q ->
  wpAny (model X.prog X.w) X.A (call (.builtin id) (v::us)) (EP X pins σ Q) X.xe s
theorem Vals.one:∀ {x:V}{us:List Value},Vals [x] us->∃ u,us=[u]/\RelV x u
 | _,_,.cons r .nil=>⟨_,rfl,r⟩
theorem Vals.zero:∀ {us:List Value},Vals [] us->us=[]
 | _,.nil=>rfl
theorem Vals.dropLast {xs:List V}{us:List Value}(h:Vals xs us):Vals xs.dropLast us.dropLast:=by
 induction h with
 | nil=>exact .nil
 | cons r t ih =>
  cases t with
  | nil=>exact .nil
  | cons q t'=>exact .cons r ih
theorem Vals.rep {xs:List V}{us:List Value}(h:Vals xs us):∀ k:Nat,Vals (List.replicate k xs).flatten (List.replicate k us).flatten
 | 0=>.nil
 | k+1=>by
  rw [Y1i,Y1i,Y21,Y21]
  exact Vals.append h (Vals.rep h k)
theorem QP {α:Type}(l:List α):l.eraseIdx (l.length-1)=l.dropLast:=by
 induction l with
 | nil=>rfl
 | cons a r ih =>
  cases r with
  | nil=>rfl
  | cons b r =>
   have e:(a::b::r).length-1=((b::r).length-1)+1:=by
    have h1:(a::b::r).length=r.length+2:=rfl
    have h2:(b::r).length=r.length+1:=rfl
    omega
   rw [e,List.eraseIdx_cons_succ,ih]
   all_goals rfl
theorem Jw (its:List Value):∀ (k:Nat) (acc:List Value),
  List.foldl (λ x1 x2=>x1++x2) acc.toArray (List.replicate k its.toArray)=(acc++(List.replicate k its).flatten).toArray
 | 0,acc=>by simp
 | k+1,acc=>by
  have e:acc.toArray++its.toArray=(acc++its).toArray:=by simp
  have e2:(acc++its)++(List.replicate k its).flatten=acc++(List.replicate (k+1) its).flatten:=by
   rw [Y1i,Y21,Y0e]
  rw [<- e2,<- Jw its k (acc++its),<- e,Y1i,List.foldl_cons]
section
variable {X:Cx}{pins:List (Addr×Obj)}{σ:St}{H:Hp}{s:Shared}{l b:Addr}{xs ys zs:List V}
theorem Inv.lset {its its':List Value}{n:Nat}{f:Array Value->Array Value}{t':Nat}(I:Inv X pins σ H s)(hH:H l=some (.lst xs))
  (e:s.heap.get? l=some { cls:=.type "list",data:=.seq its.toArray n }) (hf:f its.toArray=its'.toArray) (hv:Vals ys its') (hz:ys.length<=sizeLine) :
  Inv X pins σ (upd H l (.lst ys)) { s with heap:=s.heap.update l (Obj.mapSeq f),toks:=t' }:=by
 have q:=PySem.IsL.update e f
 rw [hf] at q
 refine I.write (x:=l) (e:=l) (by rw [hH];exact trivial) (.inl rfl) (λ b' u hb hu=>(Y1v s.heap (Obj.mapSeq f) (Ne.symm hb)).trans hu) ⟨_,q⟩ ?_
 exact ⟨hz,its',_,hv,q⟩
theorem Inv.lnew {its:List Value}{t':Nat}(I:Inv X pins σ H s)(hv:Vals ys its)(hz:ys.length<=sizeLine) :
  Inv X pins σ (upd H s.heap.objs.size (.lst ys)) { s with heap:=s.heap.push { cls:=.type "list",data:=.seq its.toArray },toks:=t' } :=
 I.laid (λ _ _ q=>Y01 _ q) (Y03 _) ⟨hz,its,0,hv,Y0a _ rfl⟩
theorem Inv.fresh (I:Inv X pins σ H s):H s.heap.objs.size=none:=I.hok.fresh (Y03 _)
theorem Inv.lstM (I:Inv X pins σ H s)(hH:H l=some (.lst xs)):xs.length<=sizeLine/\∃ (its:List Value) (n:Nat),Vals xs its/\xs.length=its.length/\s.heap.get? l=some { cls:=.type "list",data:=.seq its.toArray n }:=by
 obtain ⟨z,its,n,r,e⟩:=I.hok l _ hH
 exact ⟨z,its,n,r,r.length,e⟩
theorem VM {n:Nat}(h:n<=sizeLine):Builtin.List.listTooLong n=false:=by
 unfold Builtin.List.listTooLong
 exact decide_eq_false (by omega)
end
section
variable {X:Cx}
noncomputable def OG:V->List V->Hp->VK->Prop:=λ x vs H Q=>∃ l xs y,x=.ref l/\vs=[y]/\H l=some (.lst xs)/\xs.length<sizeLine/\Q .non (upd H l (.lst (xs++[y])))
theorem Uy:MtM X "list.append" OG:=by
 intro pins s σ H x vs v us Q I rx rv h
 obtain ⟨l,xs,y,rfl,rfl,hH,hz,q⟩:=h
 cases rx
 obtain ⟨u,rfl,ru⟩:=rv.one
 obtain ⟨z,its,n,r,hl,e⟩:=I.lstM hH
 refine call_meets F.slot_list_append ⟨_,e,rfl⟩ F.entry_list_append (F.args_list_append_2 _ _) (PySem.list_append l its.toArray n u (by rw [Y09];omega)) ⟨e,?_⟩
 refine ⟨.non,_,I.lset (its':=its++[u]) hH e (by simp) (r.append (.cons ru .nil)) ?_,rfl,q⟩
 rw [Y0u,List.length_singleton]
 omega
noncomputable def z5z:V->List V->Hp->VK->Prop:=λ x vs H Q=>∃ l xs y,x=.ref l/\vs=[]/\H l=some (.lst xs)/\xs[xs.length-1]?=some y/\Q y (upd H l (.lst xs.dropLast))
theorem z1q:MtM X "list.pop" z5z:=by
 intro pins s σ H x vs v us Q I rx rv h
 obtain ⟨l,xs,y,rfl,rfl,hH,hy,q⟩:=h
 cases rx
 have hus:=rv.zero
 subst hus
 obtain ⟨z,its,n,r,hl,e⟩:=I.lstM hH
 obtain ⟨u,hu,ru⟩:=r.get hy
 have hy':its.toArray[its.toArray.size-1]?=some u:=by
  show its.toArray[its.length-1]?=some u
  rw [<- Y32,<- hl]
  exact hu
 refine call_meets F.slot_list_pop ⟨_,e,rfl⟩ F.entry_list_pop (F.args_list_pop_1 _) (MeetsSeq.list_pop_last l its.toArray n u hy' (by rw [Y09];omega)) ⟨e,?_⟩
 refine ⟨y,_,I.lset (its':=its.dropLast) hH e ?_ r.dropLast ?_,ru,q⟩
 ·show its.toArray.eraseIdxIfInBounds (its.toArray.size-1)=its.dropLast.toArray
  rw [Y09,List.eraseIdxIfInBounds_toArray,QP]
 ·rw [List.length_dropLast]
  omega
noncomputable def z60:R2:=λ x y H Q=>∃ l b xs zs,x=.ref l/\y=.ref b/\H l=some (.lst xs)/\H b=some (.lst zs)/\xs.length+zs.length<=sizeLine/\∀ p,H p=none->Q (.ref p) (upd H p (.lst (xs++zs)))
theorem z1r:OpR X (binaryOp .Add) z60:=by
 intro pins s σ H x y v u Q I rx ry h
 obtain ⟨l,b,xs,zs,rfl,rfl,hH,hB,hz,q⟩:=h
 cases rx
 cases ry
 obtain ⟨z,its,n,r,hl,e⟩:=I.lstM hH
 obtain ⟨z2,its2,n2,r2,hl2,e2⟩:=I.lstM hB
 refine PySem.P.add_list e e2 ?_ (by rw [Y09,Y09];omega)
 have ea:its.toArray++its2.toArray=(its++its2).toArray:=by simp
 rw [ea]
 exact ⟨.ref _,_,I.lnew (t':=s.toks) (r.append r2) (by rw [Y0u];omega),rfl,q _ I.fresh⟩
noncomputable def z61:R2:=λ x y H Q=>∃ l k xs,x=.ref l/\y=.int k/\H l=some (.lst xs)/\-(2 ^ 63)<=k/\k<2 ^ 63/\xs.length*k.toNat<=sizeLine /\
 ∀ p,H p=none->Q (.ref p) (upd H p (.lst (List.replicate k.toNat xs).flatten))
theorem OH {α:Type}(xs:List α)(k:Nat):(List.replicate k xs).flatten.length=k*xs.length:=by
 induction k with
 | zero=>simp
 | succ k ih=>rw [Y1i,Y21,Y0u,ih,Nat.succ_mul,Nat.add_comm]
theorem z1s:OpR X (binaryOp .Mult) z61:=by
 intro pins s σ H x y v u Q I rx ry h
 obtain ⟨l,k,xs,rfl,rfl,hH,h1,h2,hz,q⟩:=h
 cases rx
 obtain ⟨t,rfl⟩:=ry
 obtain ⟨z,its,n,r,hl,e⟩:=I.lstM hH
 have hlen:its.toArray.size*k.toNat<=sizeLine:=by rw [Y09,<- hl];exact hz
 have hcap:¬ its.toArray.size*k.toNat > (2 ^ 63-1)/8:=by
  have:(sizeLine:Nat)<=(2 ^ 63-1)/8:=by decide
  omega
 have hfit:¬ (!Builtin.List.listFitsIndex k)=true:=by
  rw [fitsIndex_both h1 h2]
  exact Y0s
 have hlong:¬ Builtin.List.listTooLong (its.toArray.size*k.toNat)=true:=by
  rw [VM hlen]
  exact Y0s
 have hnew:List.foldl (λ x1 x2=>x1++x2) #[] (List.replicate (if its.toArray.isEmpty=true then 0 else k.toNat) its.toArray)=(List.replicate k.toNat its).flatten.toArray:=by
  have f0:∀ m:Nat,List.foldl (λ x1 x2=>x1++x2) #[] (List.replicate m its.toArray)=(List.replicate m its).flatten.toArray:=λ m=>by
   have:=Jw its m []
   rw [Y16] at this
   exact this
  rw [f0]
  cases its with
  | nil=>simp
  | cons a r'=>rw [if_neg (by simp)]
 refine wpAny_binaryOp_repeat_ref (T:="list") (U:="int") (by decide) ⟨_,e,rfl⟩ (λ s'=>typeIs_int s' k t) noFill_list_mul F.fills_int_mul F.slot_int_rmul repeat_list F.slot_int_index.lookup
  (call_meets F.slot_int_rmul (typeIs_int s k t) F.entry_int_rmul (F.args_int_rmul_2 _ _) (int___rmul___int_list k t l its.toArray n)
   ⟨e,rfl,⟨_,e,rfl⟩,call_meets F.slot_list_mul ⟨_,e,rfl⟩ F.entry_list_mul (F.args_list_mul_2 _ _) (AutoListH.list___mul___list_int_3 l its.toArray n k t hfit hcap hlong) ⟨e,?_⟩⟩)
 rw [hnew]
 exact ⟨.ref _,_,I.lnew (t':=s.toks) (r.rep k.toNat) (by rw [OH,Nat.mul_comm];exact hz),rfl,q _ I.fresh⟩
end
section
variable {prog:Program}{w:World}{A:Around}{E:Value->Shared->Prop}{s:Shared}
end
section
variable {X:Cx}
end
end L2
namespace Att
open PySem PySem.W PySem.Calls PyProof.Rows
theorem yT {P:Params}{h:Heap}:∀ (ns:List Int) (vs:List Value),WellAll P h vs (ns.map WData.int)->IntsAre vs ns:=by
 intro ns
 induction ns with
 | nil =>
  intro vs w
  rw [Y1x] at w
  cases w
  exact .nil
 | cons n ns ih =>
  intro vs w
  rw [Y0h] at w
  cases w with
  | cons a b =>
   cases a
   exact .cons _ _ (ih _ b)
theorem script_of {l:OpenLaw}{n:Nat}(hn:l.most=some n){P:Params}{h:Heap}{args:List WData}{vals:List Value}
  (hpre:l.row.toRowW.claim.pre args=true) (hwl:WellAll P h vals args) :
  ∃ a vs ns,vals=[Value.ref a]/\args=[WData.list (ns.map WData.int)]/\h.get? a=some { cls:=.type "list",data:=.seq vs.toArray }/\IntsAre vs ns/\ns.length<=n:=by
 have hsh:WShape.hasAll [] args [.list .int]=true:=(pre_splitW hpre).1
 have hc:l.pre.holds [] { args:=args }=true:=(pre_splitW hpre).2
 obtain ⟨d,r,rfl,h1,h2⟩:=hasAllW_cons hsh
 obtain rfl:=hasAllW_nil h2
 obtain ⟨xs,rfl,h3⟩:=hasW_list h1
 obtain ⟨ns,rfl⟩:=items_int h3
 have hlen:ns.length<=n:=by
  unfold OpenLaw.pre at hc
  have h4:(WTm.not (.lt (.lit (.int (n:Int))) (.len (.arg 0)))).holds [] { args:=[.list (ns.map .int)] }=true:=by
   have h4:=(holds_andW hc).1
   rw [hn] at h4
   exact h4
  have h5:=condW_of h4 (w_not (w_lt w_lit (w_len_list (w_arg rfl))))
  rw [Y0j] at h5
  refine Nat.le_of_not_lt λ q=>?_
  have q':(n:Int)<((ns.length:Nat):Int):=by omega
  first
   | (rw [decide_eq_true q'] at h5;exact absurd h5 (by decide))
   | (simp at h5;omega)
 cases hwl with
 | cons w1 w2 =>
  cases w2
  cases w1 with
  | list ho hall=>exact ⟨_,_,ns,rfl,rfl,ho,yT ns _ hall,hlen⟩
theorem post_true (l:OpenLaw)(args:List WData):l.row.toRowW.claim.post args (.bool true) args=true :=
 postW_of (r:=l.row.toRowW) (X:=(true==true))
  (show WShape.has [] (.bool true) .bool=true by first | rfl | decide | simp [WShape.has,WShape.arms,WShape.armsAll])
  (show (WTm.eq .res (.lit (.bool true))).value [] { args:=args,res:=some (.bool true),after:=args }=some (.bool (true==true)) from w_eq_bool (w_res rfl) w_lit) rfl
section
variable {prog:Program}{w:World}{A:Around}{E:Value->Shared->Prop}{s:Shared}{K:Frag}
noncomputable def z62 (h:Heap)(L d:Addr):List (Addr×Obj):=(List.range h.objs.size).filterMap λ a=>if a=L\/a=d then none else (h.get? a).map λ o=>(a,o)
end
end Att
namespace L2
open PySem PySem.Spec PyProof.Rows
theorem Jx:∀ {vs:List Value}{ns:List Int},IntsAre vs ns->Vals (ns.map V.int) vs
 | _,_,.nil=>.nil
 | _,_,.cons n t h=>.cons ⟨t,rfl⟩ (Jx h)
noncomputable def OI (H:Hp):Prop:=∀ b,H b=none\/∃ o xs,H b=some (.frz o (.lst xs))
theorem WW {P:Program}{w:World}{K:Y00}{mg mb:Str->Option Value}{CX:CXT}{k:Nat}{fa a:Addr}{fd:FuncData}{x:Str}{sp:Sp}{s₁:Shared}{vs:List Value}{ns:List Int}
  (KX:K.In s₁.heap) (hns:s₁.heap.Ns mainGlobals mg) (hb:s₁.heap.Ns builtinsNs mb) (hbb:∀ x:Str,x≠"__name__"->mb x=bootBuiltins x) (hlim:s₁.heap.NoLimit) (hg:s₁.gens=#[])
  (ha:s₁.heap.get? a=some { cls:=.type "list",data:=.seq vs.toArray }) (hi:IntsAre vs ns) (hl:ns.length<=sizeLine) (hr:Room k callerA)
  (F:∀ base:Heap,K.In base->base.Ns mainGlobals mg->FnOk P w K mg base CX k fa fd [x] sp) (hbind:∀ (s:Shared) (u:Value),BindsTo s fd ⟨[u],[]⟩ [(x,u)])
  (hsp:∀ H:Hp,OI H->SqL K H a (ns.map V.int)->sp [.ref a] H (λ v _=>v=.bl true) λ _ _ _=>False)
  (hCX:∀ H e s',CX [] H s₁ (λ _ _ _=>False) e s'->False) :
  codeAny (model P w) callerA (.call (.ref fa) ⟨[.ref a],[]⟩) (λ r s'=>r=.ok (.ret (.bool true))/\OldK s₁.heap s'.heap/\s'.os=s₁.os/\AllBare s'.gens) s₁:=by
 have rv:=Jx hi
 have lenV:=hi.length
 have core:∀ H:Hp,OI H->SqL K H a (ns.map V.int)->HOk P w H s₁.heap->(∀ b,H b≠none->b=a)->(H a≠none->K.lookup a=none) ->
   codeAny (model P w) callerA (.call (.ref fa) ⟨[.ref a],[]⟩) (λ r s'=>r=.ok (.ret (.bool true))/\OldK s₁.heap s'.heap/\s'.os=s₁.os/\AllBare s'.gens) s₁:=by
  intro H hO hS hok hA hK
  have base_of:∀ {b:Addr}{o:Obj},s₁.heap.get? b=some o->H b=none->(W4 s₁.heap H).get? b=some o:=λ e n=>Vm e n
  have noA:∀ {b:Addr}{o:Obj}{es:Array DictEntry}{ep:Nat},s₁.heap.get? b=some o->o.data=.dict es ep->H b=none:=λ {b o es ep} e d=>by
   cases q:H b with
   | none=>rfl
   | some u =>
    have e':b=a:=hA b (by rw [q];simp)
    subst e'
    rw [ha] at e;cases e
    have d':Data.seq vs.toArray _=Data.dict es ep:=d
    cases d'
  have nsK:∀ {b:Addr}{m:Str->Option Value},s₁.heap.Ns b m->(W4 s₁.heap H).Ns b m:=λ {b m} ⟨o,es,ep,e,d,r⟩=>⟨o,es,ep,base_of e (noA e d),d,r⟩
  have hKb:K.In (W4 s₁.heap H):=λ b o e=>base_of (KX b o e) (by
   cases q:H b with
   | none=>rfl
   | some u =>
    have e':b=a:=hA b (by rw [q];simp)
    subst e'
    rw [hK (by rw [q];simp)] at e;cases e)
  have hM:Mod K mg (W4 s₁.heap H):=⟨hKb,nsK hns,⟨mb,nsK hb,hbb⟩,let ⟨mc,h1,h2⟩:=hlim;⟨mc,nsK h1,h2⟩⟩
  have e0:Env0 P w K mg (W4 s₁.heap H) callerA [] s₁ H:=⟨rfl,hM,λ b o e=>Oj e,Nat.le_of_eq (Us _ _),trivial,λ b hb=>absurd (show b∈([]:List Addr) from hb) (by simp),hok,.of_eq hg⟩
  refine codeAny_mono ((F _ hKb (nsK hns)).run callerA [] s₁ H ⟨[.ref a],[]⟩ [.ref a] [.ref a] _ _ hr e0 (hbind s₁ (.ref a)) (.cons rfl .nil) (hsp H hO hS)) λ r s' h=>?_
  cases r with
  | error e=>exact (hCX H e s' h).elim
  | ok fl =>
   cases fl with
   | next=>exact False.elim h
   | brk=>exact False.elim h
   | cont=>exact False.elim h
   | ret u =>
    obtain ⟨v,H',os,bare,un,hok',r',q⟩:=h
    have q':v=.bl true:=q
    subst q'
    obtain rfl:u=Value.bool true:=r'
    refine ⟨rfl,OldK.of_keep λ b o e=>?_,os,bare⟩
    cases q:H b with
    | none=>exact un.keep b o e q (by intro z;exact absurd (show b∈([]:List Addr) from z) (by simp)) (by simp)
    | some u =>
     rcases hO b with z | ⟨ob,xs,z⟩
     ·rw [q] at z;cases z
     ·have z2:=un.frzs b ob _ z
      obtain ⟨e1,_⟩:=hok b _ z
      obtain ⟨e2,_⟩:=hok' b _ z2
      rw [e] at e1;cases e1
      exact e2
 cases hk:K.lookup a with
 | some o =>
  have e:=KX a o hk
  rw [ha] at e
  cases e
  refine core (λ _=>none) (λ _=>.inl rfl) (.inr ⟨_,vs.toArray,_,hk,rfl,rfl,rfl,by rw [Y09,lenV];exact hl,by simpa using rv⟩) (λ b u z=>by have z':(none:Option HO)=some u:=z;cases z') (λ b z=>absurd rfl z) λ z=>absurd rfl z
 | none =>
  refine core (λ b=>if b=a then some (.frz { cls:=.type "list",data:=.seq vs.toArray } (.lst (ns.map V.int))) else none) (λ b=>?_) (.inl (.inr ⟨{ cls:=.type "list",data:=.seq vs.toArray },if_pos rfl⟩)) (λ b u z=>?_) (λ b z=>?_) λ _=>hk
  ·by_cases hb:b=a
   ·exact .inr ⟨_,_,if_pos hb⟩
   ·exact .inl (if_neg hb)
  ·by_cases hb:b=a
   ·have z':=(if_pos hb).symm.trans z
    cases z'
    subst hb
    exact ⟨ha,by rw [Y0j];exact hl,vs,_,rv,ha⟩
   ·have z':=(if_neg hb).symm.trans z
    cases z'
  ·by_cases hb:b=a
   ·exact hb
   ·exact absurd (if_neg hb) z
end L2
namespace L2
open PySem PySem.Spec PyProof.Rows
noncomputable abbrev KOf {K:Y00}{h:Heap}(_:K.In h):Y00:=K
end L2
namespace L2
open PySem PySem.Spec PyProof.Rows
noncomputable def j1 (s:Stmt):Arguments:=match s with
 | .FunctionDef _ a _ _ _ _ _ _ _ _=>a
 | _=>{ posonlyargs:=[],args:=[],vararg:=none,kwonlyargs:=[],kw_defaults:=[],kwarg:=none,defaults:=[] }
noncomputable def zF (s:Stmt):List Stmt:=match s with
 | .FunctionDef _ _ b _ _ _ _ _ _ _=>b
 | _=>[]
noncomputable def zk (s:Stmt):Scope:=match s with
 | .FunctionDef _ _ _ _ _ _ sc _ _ _=>sc
 | _=>{ kind:=.function,names:=[],isGenerator:=false,isCoroutine:=false }
noncomputable abbrev CX0:CXT:=λ _ _ _ _ _ _=>False
noncomputable abbrev E0:XK:=λ _ _ _=>False
structure Fun (K:Y00)(x qual:Str)(st:Stmt)(f:Addr)(fd:FuncData):Prop where
 ex:∃ (oc:Value) (od:Option Addr) (kV doc pm:Value) (an:Option Addr) (cdv ct:Value) (osl:Array (Option Value)),
  fd=PySem.W.fnOf x qual (j1 st) (zF st) (zk st) .none kV doc pm an cdv ct/\K.lookup f=some ⟨oc,od,.func fd,osl⟩/\PySem.W.codeIn K cdv qual=true
 kp:PySem.W.keepIn K (.ref f)=true
section
variable {P:Program}{w:World}{K:Y00}{mg:Str->Option Value}{base:Heap}
theorem Fun.binds {x qual:Str}{st:Stmt}{f:Addr}{fd:FuncData}{ps:List Str}(F:Fun K x qual st f fd)
  (h:∀ (kV doc pm:Value) (an:Option Addr) (cdv ct:Value) (us:List Value),us.length=ps.length->bindArgs (PySem.W.fnOf x qual (j1 st) (zF st) (zk st) .none kV doc pm an cdv ct) ⟨us,[]⟩=pure (ps.zip us)):Binds K fd ps []:=by
 obtain ⟨oc,od,kV,doc,pm,an,cdv,ct,osl,rfl,lk,hcd⟩:=F.ex
 exact .all (h kV doc pm an cdv ct)
theorem yo {x qual:Str}{st:Stmt}{f:Addr}{oc:Value}{od an:Option Addr}{osl:Array (Option Value)}{kV doc pm cdv ct:Value}(l:K.lookup f=some ⟨oc,od,.func (PySem.W.fnOf x qual (j1 st) (zF st) (zk st) .none kV doc pm an cdv ct),osl⟩)
  (c:PySem.W.codeIn K cdv qual=true) (k:PySem.W.keepIn K (.ref f)=true):Fun K x qual st f (PySem.W.fnOf x qual (j1 st) (zF st) (zk st) .none kV doc pm an cdv ct):=⟨⟨oc,od,kV,doc,pm,an,cdv,ct,osl,rfl,l,c⟩,k⟩
end
theorem BZ {A:Around}{k:Nat}(hr:Room k A):A.units+1<cLine:=Nat.lt_of_le_of_lt (Nat.add_le_add_left (by decide:1<=64) _) hr.units
theorem Jy {n:Nat}(h:n<=1000):n<sizeLine:=Nat.lt_of_le_of_lt h (by decide)
section
variable {X:Cx}
theorem pv (i:Nat) {x:Str}{pos:Pos} (hN:X.N[i]?=some x:=by rfl) (hv:Vis X.env.scope x:=by first | exact Or.inl rfl | exact Or.inr (Or.inl rfl) | exact Or.inr (Or.inr rfl)) (hd:(x==("__debug__":Str))=false:=by decide)
  (hcd:(x==("__classdict__":Str))=false:=by decide):PE X (.Name x pos) (z3c i):=Vn hN hv hd hcd
end
theorem yU {A B:Prop}(h:B):if false=true then A else B:=by
 rw [if_neg Y0s]
 exact h
theorem yV {A B:Prop}(h:A):if true=true then A else B:=by
 rw [if_pos rfl]
 exact h
noncomputable def Same (H H':Hp):Prop:=∀ b o,H b=some o->H' b=some o
end L2
namespace L2
open PySem PySem.Spec PyProof.Rows
section
variable {κ:Type}[DecidableEq κ]
noncomputable def qZ (kvs:List (κ×V))(k:κ):Option V:=(kvs.find? λ kv=>decide (kv.1=k)).map (·.2)
noncomputable def wB (kvs:List (κ×V))(k:κ)(v:V):List (κ×V) :=
 if (kvs.any λ kv=>decide (kv.1=k))=true then kvs.map (λ kv=>if kv.1=k then (kv.1,v) else kv) else kvs++[(k,v)]
noncomputable def z00 (kvs:List (κ×V))(k:κ):List (κ×V):=kvs.filter λ kv=>decide (kv.1≠k)
theorem wY {p:κ×V}{r:List (κ×V)}{k:κ}(e:p.1=k):qZ (p::r) k=some p.2:=by simp [qZ,Y20,e]
theorem wZ {p:κ×V}{r:List (κ×V)}{k:κ}(e:¬ p.1=k):qZ (p::r) k=qZ r k:=by simp [qZ,Y20,e]
theorem WX (k:κ):∀ kvs:List (κ×V),(kvs.any λ kv=>decide (kv.1=k))=(qZ kvs k).isSome
 | []=>rfl
 | p::r=>by
  rw [Y1e]
  by_cases e:p.1=k
  ·simp only [wY e,decide_eq_true e,Bool.true_or,Option.isSome_some]
  ·rw [wZ e,decide_eq_false e,Bool.false_or];exact WX k r
theorem q8 (kvs:List (κ×V))(k:κ)(v:V):(wB kvs k v).length<=kvs.length+1:=by
 unfold wB
 split
 ·rw [Y0j];omega
 ·rw [Y0u,Y06,Y2z];omega
theorem RelO.isSome_eq {o:Option V}{u:Option Value}(r:RelO o u):o.isSome=u.isSome:=by
 cases o with
 | none=>cases u with
  | none=>rfl
  | some _=>exact (show False from r).elim
 | some _=>cases u with
  | none=>exact (show False from r).elim
  | some _=>rfl
theorem KV.val {kvs:List (κ×V)}{vs:List (κ×Value)}(r:KV kvs vs)(k:κ):RelO (qZ kvs k) (valueAt vs k):=by
 unfold KV at r
 induction r with
 | nil=>exact True.intro
 | @cons p q ps qs h t ih =>
  obtain ⟨h1,h2⟩:=h
  by_cases e:p.1=k
  ·have e':q.1=k:=h1.symm.trans e
   have b:valueAt (q::qs) k=some q.2:=by simp [valueAt,Y20,e']
   rw [wY e,b];exact h2
  ·have e':¬ q.1=k:=λ z=>e (h1.trans z)
   have b:valueAt (q::qs) k=valueAt qs k:=by simp [valueAt,Y20,e']
   rw [wZ e,b];exact ih
theorem KV.any {kvs:List (κ×V)}{vs:List (κ×Value)}(r:KV kvs vs)(k:κ):(kvs.any λ kv=>decide (kv.1=k))=vs.any λ kv=>decide (kv.1=k):=by
 unfold KV at r
 induction r with
 | nil=>rfl
 | cons h t ih=>rw [Y1e,Y1e,ih,h.1]
theorem KV.repl {kvs:List (κ×V)}{vs:List (κ×Value)}(r:KV kvs vs)(k:κ){y:V}{u:Value}(ry:RelV y u) :
  KV (kvs.map λ kv=>if kv.1=k then (kv.1,y) else kv) (vs.map λ kv=>if kv.1=k then (kv.1,u) else kv):=by
 unfold KV at r ⊢
 induction r with
 | nil=>exact .nil
 | @cons p q ps qs h t ih =>
  rw [Y0h,Y0h]
  refine .cons ?_ ih
  obtain ⟨h1,h2⟩:=h
  by_cases e:p.1=k
  ·rw [if_pos e,if_pos (h1.symm.trans e)];exact ⟨h1,ry⟩
  ·rw [if_neg e,if_neg (λ z=>e (h1.trans z))];exact ⟨h1,h2⟩
theorem KV.put {kvs:List (κ×V)}{vs:List (κ×Value)}(r:KV kvs vs)(k:κ){y:V}{u:Value}(ry:RelV y u):KV (wB kvs k y) (stored vs k u):=by
 unfold wB stored
 rw [r.any k]
 by_cases e:(vs.any λ kv=>decide (kv.1=k))=true
 ·rw [if_pos e,if_pos e];exact r.repl k ry
 ·rw [if_neg e,if_neg e];exact Paired.snoc r ⟨rfl,ry⟩
theorem KV.length {kvs:List (κ×V)}{vs:List (κ×Value)}(r:KV kvs vs):kvs.length=vs.length:=Paired.length r
end
theorem y0 {P:Program}{w:World}{k:Key}{u:Value}(r:RelV (kV k) u):(zy P w).is k u=true:=by
 cases k with
 | inl i=>obtain ⟨t,e⟩:=(show ∃ t,u=Value.int i t from r);subst e;exact WQ P w i t
 | inr x=>obtain ⟨t,e⟩:=(show ∃ t,u=Value.str x t from r);subst e;exact WR P w x t
theorem Jz {P:Program}{w:World}:∀ {ks:List Key}{us:List Value},Vals (ks.map kV) us->ItemsAre (zy P w) ks us
 | [],_,r=>by rw [Y1x] at r;cases r;exact .nil
 | k::ks,_,r=>by
  rw [Y0h] at r
  cases r with
  | cons h t=>exact .cons (y0 h) (Jz t)
noncomputable abbrev KT (H:Hp):List (List Key×V)->List (List Key×Addr×Value)->Prop:=Paired λ p q=>p.1=q.1/\H q.2.1=some (.tup (p.1.map kV))/\RelV p.2 q.2.2
theorem KT.val {H:Hp}{kvs:List (List Key×V)}{xs:List (List Key×Addr×Value)}(r:KT H kvs xs)(k:List Key):RelO (qZ kvs k) ((atKey xs k).map (·.2)):=by
 induction r with
 | nil=>exact True.intro
 | @cons p q ps qs h t ih =>
  obtain ⟨h1,_,h2⟩:=h
  by_cases e:p.1=k
  ·have e':q.1=k:=h1.symm.trans e
   have b:atKey (q::qs) k=some q.2:=by simp [atKey,Y20,e']
   rw [wY e,b];exact h2
  ·have e':¬ q.1=k:=λ z=>e (h1.trans z)
   have b:atKey (q::qs) k=atKey qs k:=by simp [atKey,Y20,e']
   rw [wZ e,b];exact ih
theorem KT.repl {H:Hp}{kvs:List (List Key×V)}{xs:List (List Key×Addr×Value)}(r:KT H kvs xs)(k:List Key){y:V}{u:Value}(ry:RelV y u) :
  KT H (kvs.map λ kv=>if kv.1=k then (kv.1,y) else kv) (xs.map (putAt k u)):=by
 induction r with
 | nil=>exact .nil
 | @cons p q ps qs h t ih =>
  rw [Y0h,Y0h]
  refine .cons ?_ ih
  obtain ⟨h1,h2,h3⟩:=h
  unfold putAt
  by_cases e:p.1=k
  ·rw [if_pos e,if_pos (h1.symm.trans e)];exact ⟨h1,h2,ry⟩
  ·rw [if_neg e,if_neg (λ z=>e (h1.trans z))];exact ⟨h1,h2,h3⟩
theorem KT.put {H:Hp}{kvs:List (List Key×V)}{xs:List (List Key×Addr×Value)}(r:KT H kvs xs)(k:List Key){b:Addr}{y:V}{u:Value}(hb:H b=some (.tup (k.map kV)))(ry:RelV y u) :
  KT H (wB kvs k y) (storedH xs k b u):=by
 have e:(kvs.any λ kv=>decide (kv.1=k))=(atKey xs k).isSome:=by
  rw [WX,(r.val k).isSome_eq,Y3d]
 unfold wB storedH
 rw [e]
 by_cases q:(atKey xs k).isSome=true
 ·rw [if_pos q,if_pos q];exact r.repl k ry
 ·rw [if_neg q,if_neg q];exact Paired.snoc r ⟨rfl,hb,ry⟩
theorem KT.keeps {H H':Hp}{kvs:List (List Key×V)}{xs:List (List Key×Addr×Value)}(r:KT H kvs xs)(ht:∀ b ys,H b=some (.tup ys)->H' b=some (.tup ys)):KT H' kvs xs :=
 Paired.mapP r λ _ _ z=>⟨z.1,ht _ _ z.2.1,z.2.2⟩
section
variable {P:Program}{w:World}{H:Hp}{h:Heap}{a:Addr}
theorem VN {u:HO}(ok:HOk P w H h)(e:Rd H a u):ObjOk P w H h a u:=e.ok ok
theorem YO {kvs:List (Key×V)}(ok:HOk P w H h)(e:Rd H a (.dK kvs)):kvs.length<=sizeLine/\(a==sysModules)=false/\∃ vs,KV kvs vs/\h.DictOf (zy P w) a vs :=
 show ObjOk P w H h a (.dK kvs) from VN ok e
theorem z01 {kvs:List (Key×V)}(ok:HOk P w H h)(e:H a=some (.dK kvs)):kvs.length<=sizeLine/\(a==sysModules)=false/\∃ vs,KV kvs vs/\h.DictOf (zy P w) a vs:=YO ok (.inl e)
theorem Zl {ks:List Key}(ok:HOk P w H h)(e:H a=some (.tup (ks.map kV))):(tupleKind (zy P w)).is h ks a:=by
 obtain ⟨_,its,r,o,h1,h2,n,h3⟩:=(show ObjOk P w H h a (.tup (ks.map kV)) from ok a _ e)
 exact ⟨o,its.toArray,n,h1,h2,h3,by simpa using Jz r⟩
theorem YQ {kvs:List (List Key×V)}(ok:HOk P w H h)(e:Rd H a (.dT kvs)):kvs.length<=sizeLine/\(a==sysModules)=false /\
  ∃ xs,KT H kvs xs/\h.DictOfH (tupleKind (zy P w)) a xs:=by
 obtain ⟨z,y,xs,r,o,es,ep,h1,h2,h3,h4,h5⟩:=(show ObjOk P w H h a (.dT kvs) from VN ok e)
 refine ⟨z,y,xs,r,o,es,ep,h1,h2,h3,h4,λ x hx=>?_,h5⟩
 have all:∀ {l:List (List Key×V)}{m:List (List Key×Addr×Value)},KT H l m->∀ x∈m,(tupleKind (zy P w)).is h x.1 x.2.1:=by
  intro l m q
  induction q with
  | nil=>intro x hx;exact nomatch hx
  | @cons p q ps qs hq t ih =>
   intro x hx
   rcases Y0d.mp hx with e | hx
   ·subst e
    exact Zl ok (by rw [<- hq.1];exact hq.2.1)
   ·exact ih x hx
 exact all r x hx
theorem z3w {kvs:List (List Key×V)}(ok:HOk P w H h)(e:H a=some (.dT kvs)):kvs.length<=sizeLine/\(a==sysModules)=false /\
  ∃ xs,KT H kvs xs/\h.DictOfH (tupleKind (zy P w)) a xs:=YQ ok (.inl e)
end
noncomputable def DGet (H:Hp)(a:Addr)(y:V)(r:Option V):Prop :=
 (∃ kvs k,Rd H a (.dK kvs)/\y=kV k/\r=qZ kvs k)\/∃ kvs k b,Rd H a (.dT kvs)/\y=.ref b/\H b=some (.tup (k.map kV))/\r=qZ kvs k
noncomputable def DPut (H:Hp)(a:Addr)(y v:V)(H':Hp):Prop :=
 (∃ kvs k,H a=some (.dK kvs)/\y=kV k/\kvs.length<sizeLine/\H'=upd H a (.dK (wB kvs k v))) \/
 ∃ kvs k b,H a=some (.dT kvs)/\y=.ref b/\H b=some (.tup (k.map kV))/\kvs.length<sizeLine/\H'=upd H a (.dT (wB kvs k v))
theorem DGet.k {H:Hp}{a:Addr}{kvs:List (Key×V)}{k:Key}(e:H a=some (.dK kvs)):DGet H a (kV k) (qZ kvs k):=.inl ⟨kvs,k,.inl e,rfl,rfl⟩
theorem DPut.k {H:Hp}{a:Addr}{kvs:List (Key×V)}{k:Key}{v:V}(e:H a=some (.dK kvs))(hl:kvs.length<sizeLine):DPut H a (kV k) v (upd H a (.dK (wB kvs k v))):=.inl ⟨kvs,k,e,rfl,hl,rfl⟩
section
variable {X:Cx}{pins:List (Addr×Obj)}{σ:St}{H:Hp}{s:Shared}{a:Addr}{y v:V}{u r:Value}{o:Option V}{A:Around}{E:Value->Shared->Prop}
theorem Inv.big (I:Inv X pins σ H s):sysModules<s.heap.objs.size:=by
 have h:mainGlobals<s.heap.objs.size:=(I.mod.glob.keeps I.bk).lt
 exact Y3h (by decide) h
theorem Uz {Q:Value->Shared->Prop}(hu:A.units+1<cLine)(I:Inv X pins σ H s)(g:DGet H a y (some v))(ry:RelV y u)(h:∀ w' s',Inv X pins σ H s'->RelV v w'->Q w' s') :
  wpAny (model X.prog X.w) A (getItem (.ref a) u) Q E s:=by
 rcases g with ⟨kvs,k,e,ey,l⟩ | ⟨kvs,k,b,e,ey,eb,l⟩
 ·subst ey
  obtain ⟨z,hd,vs,rel,dd⟩:=YO I.hok e
  obtain ⟨w',hw,rw'⟩:=RelO.some_of (v:=v) (o:=valueAt vs k) (by rw [l];exact rel.val k)
  exact wpAny_getItem_of (y0 ry) dd.mapOf hw (h w' _ (I.tok _) rw')
 ·subst ey
  cases (show u=Value.ref b from ry)
  obtain ⟨z,hd,xs,rel,dd⟩:=YQ I.hok e
  obtain ⟨w',hw,rw'⟩:=RelO.some_of (v:=v) (o:=(atKey xs k).map (·.2)) (by rw [l];exact rel.val k)
  obtain ⟨p,hp,hp2⟩:=Option.map_eq_some_iff.mp hw
  refine wpAny_getItem_heap (tupleKind_room_in1 hu) (Zl I.hok eb) dd hp ?_
  rw [hp2]
  exact h w' _ (I.tok _) rw'
theorem z63 {Q:Value->Shared->Prop}(hu:A.units+1<cLine)(I:Inv X pins σ H s)(g:DGet H a y o)(ry:RelV y u)(h:∀ s',Inv X pins σ H s'->Q (.bool o.isSome) s') :
  wpAny (model X.prog X.w) A (compareOp .In u (.ref a)) Q E s:=by
 rcases g with ⟨kvs,k,e,ey,l⟩ | ⟨kvs,k,b,e,ey,eb,l⟩
 ·subst ey
  obtain ⟨z,hd,vs,rel,dd⟩:=YO I.hok e
  refine wpAny_in_of (y0 ry) hd dd.mapOf ?_
  rw [<- (rel.val k).isSome_eq,<- l]
  exact h _ (I.tok _)
 ·subst ey
  cases (show u=Value.ref b from ry)
  obtain ⟨z,hd,xs,rel,dd⟩:=YQ I.hok e
  refine wpAny_in_heap (tupleKind_room_in1 hu) (Zl I.hok eb) hd dd ?_
  have q:=(rel.val k).isSome_eq
  rw [Y3d] at q
  rw [<- q,<- l]
  exact h _ (I.tok _)
theorem OJ {Q:Value->Shared->Prop}(hu:A.units+1<cLine)(I:Inv X pins σ H s)(g:DGet H a y o)(ry:RelV y u)(h:∀ s',Inv X pins σ H s'->Q (.bool (!o.isSome)) s') :
  wpAny (model X.prog X.w) A (compareOp .NotIn u (.ref a)) Q E s:=by
 rcases g with ⟨kvs,k,e,ey,l⟩ | ⟨kvs,k,b,e,ey,eb,l⟩
 ·subst ey
  obtain ⟨z,hd,vs,rel,dd⟩:=YO I.hok e
  refine wpAny_notIn_of (y0 ry) hd dd.mapOf ?_
  rw [<- (rel.val k).isSome_eq,<- l]
  exact h _ (I.tok _)
 ·subst ey
  cases (show u=Value.ref b from ry)
  obtain ⟨z,hd,xs,rel,dd⟩:=YQ I.hok e
  refine wpAny_notIn_heap (tupleKind_room_in1 hu) (Zl I.hok eb) hd dd ?_
  have q:=(rel.val k).isSome_eq
  rw [Y3d] at q
  rw [<- q,<- l]
  exact h _ (I.tok _)
theorem Wc {h':Heap}{t':Nat}{ob:HO}(I:Inv X pins σ H s)(mu:Mut (H a))(hs:Heap.SameBut a s.heap h')(he:∃ q,h'.get? a=some q)(new:ObjOk X.prog X.w (upd H a ob) h' a ob) :
  Inv X pins σ (upd H a ob) { s with heap:=h',toks:=t' } :=
 I.write (x:=a) (e:=a) mu (.inl rfl) (λ b q hb z=>(hs.2 b hb).trans z) he new
theorem QQ {P:Program}{w:World}{H':Hp}{h':Heap}{kvs:List (Key×V)}{vs:List (Key×Value)}(z:kvs.length<=sizeLine)(hd:(a==sysModules)=false)(rel:KV kvs vs)(dd:h'.DictOf (zy P w) a vs) :
  ObjOk P w H' h' a (.dK kvs):=⟨z,hd,vs,rel,dd⟩
theorem UA {H':Hp}{Q:Unit->Shared->Prop}(hu:A.units+1<cLine)(I:Inv X pins σ H s)(g:DPut H a y v H')(ry:RelV y u)(rv:RelV v r)(h:∀ s',Inv X pins σ H' s'->Q () s') :
  wpAny (model X.prog X.w) A (setItem (.ref a) u r) Q E s:=by
 rcases g with ⟨kvs,k,e,ey,l,eH⟩ | ⟨kvs,k,b,e,ey,eb,l,eH⟩
 ·subst ey eH
  obtain ⟨z,hd,vs,rel,dd⟩:=z01 I.hok e
  have hz:vs.length<=sizeLine:=by rw [<- rel.length];exact z
  have hl:(wB kvs k v).length<=sizeLine:=by have:=q8 kvs k v;omega
  refine wpAny_setItem_pairs (hsz:=hz) (y0 ry) dd λ h' dd' hs=>h _ ?_
  have he:∃ q,h'.get? a=some q:=let ⟨q,_,_,hq,_⟩:=dd';⟨q,hq⟩
  exact Wc I (by rw [e];exact True.intro) hs he (QQ hl hd (rel.put k rv) dd')
 ·subst ey eH
  cases (show u=Value.ref b from ry)
  obtain ⟨z,hd,xs,rel,dd⟩:=z3w I.hok e
  have hz:xs.length<=sizeLine:=by rw [<- Paired.length rel];exact z
  have hl:(wB kvs k v).length<=sizeLine:=by have:=q8 kvs k v;omega
  refine wpAny_setItem_heap (hsz:=hz) (tupleKind_room_in1 hu) (Zl I.hok eb) dd λ h' dd' hs=>h _ ?_
  obtain ⟨q,es,ep,hq,h2,h3,h4,_,h5⟩:=dd'
  refine Wc I (by rw [e];exact True.intro) hs ⟨q,hq⟩ ⟨hl,hd,_,(rel.put k eb rv).keeps λ c ys ec=>?_,q,es,ep,hq,h2,h3,h4,h5⟩
  rw [zq (z3b ec e (λ z=>nomatch z))]
  exact ec
end
section
variable {X:Cx}{pins:List (Addr×Obj)}{σ:St}{H:Hp}{s:Shared}{a:Addr}{kvs:List (Key×V)}{k:Key}{u:Value}{A:Around}{E:Value->Shared->Prop}
end
section
variable {X:Cx}{o i e value:Expr}{pos pos' tpos:Pos}{td ty tv:TE}
end
theorem WY {P:Program}{w:World}{H:Hp}(h:Heap)(hb:sysModules<h.objs.size):ObjOk P w H (h.push { cls:=.type "dict",data:=.dict #[] }) h.objs.size (.dK []) :=
 ⟨Y1h _,beq_eq_false_iff_ne.mpr (Ne.symm (Y0f hb)),[],.nil,Heap.DictOf.new h⟩
noncomputable def z1t:TE:=λ _ H Q=>∀ p,H p=none->Q (.ref p) (upd H p (.dK []))
section
variable {X:Cx}{pos:Pos}
theorem VO:PE X (.Dict [] [] pos) z1t:=λ pins s σ H Q I h =>
 wpAny_Dict_empty ⟨.ref s.heap.objs.size,_,I.laid (a:=s.heap.objs.size) (o:=.dK []) (t':=s.toks) (λ _ _ q=>Y01 _ q) (Y03 _) (WY s.heap I.big),rfl,h _ (I.hok.fresh (Y03 _))⟩
end
noncomputable def We:List (TE×TE)->St->Hp->(List (V×V)->Hp->Prop)->Prop
 | [],_,H,Q=>Q [] H
 | (tk,tv)::r,σ,H,Q=>tk σ H λ x H1=>tv σ H1 λ y H2=>We r σ H2 λ ps H3=>Q ((x,y)::ps) H3
noncomputable abbrev VV:List (V×V)->List (Value×Value)->Prop:=Paired λ p q=>RelV p.1 q.1/\RelV p.2 q.2
noncomputable def PPs (X:Cx)(pos:Pos)(keys:List (Option Expr))(values:List Expr)(trs:List (TE×TE)):Prop :=
 ∀ (pins:List (Addr×Obj)) (s:Shared) (σ:St) (H:Hp) (Q:List (V×V)->Hp->Prop),Inv X pins σ H s->We trs σ H Q ->
  wpAny (model X.prog X.w) X.A (evalPairs (pairTrees keys values X.env pos)) (λ vs s'=>∃ ps H',Inv X pins σ H' s'/\VV ps vs/\Q ps H') X.xe s
theorem OK {X:Cx}{pos:Pos}:PPs X pos [] [] []:=λ pins s σ H Q I h=>pairTrees_nil_walk ⟨[],H,I,.nil,h⟩
theorem VP {X:Cx}{pos:Pos}{k v:Expr}{ks:List (Option Expr)}{vs:List Expr}{tk tv:TE}{trs:List (TE×TE)}(hk:PE X k tk)(hv:PE X v tv)(hr:PPs X pos ks vs trs) :
  PPs X pos (some k::ks) (v::vs) ((tk,tv)::trs):=λ pins s σ H Q I h =>
 pairTrees_cons_walk (thn (hk pins s σ H _ I h) λ u s1 ⟨x,H1,I1,rx,q1⟩=>thn (hv pins s1 σ H1 _ I1 q1) λ w2 s2 ⟨y,H2,I2,ry,q2⟩ =>
  thn (hr pins s2 σ H2 _ I2 q2) λ ws s3 ⟨ps,H3,I3,rel,q3⟩=>⟨(x,y)::ps,H3,I3,.cons ⟨rx,ry⟩ rel,q3⟩)
noncomputable def w9 (kvs more:List (Key×V)):List (Key×V):=more.foldl (λ acc kv=>wB acc kv.1 kv.2) kvs
theorem KV.merge:∀ {more:List (Key×V)}{rs:List (Key×Value)}{kvs:List (Key×V)}{vs:List (Key×Value)},KV more rs->KV kvs vs->KV (w9 kvs more) (merged vs rs):=by
 intro more rs kvs vs r
 unfold KV at r
 induction r generalizing kvs vs with
 | nil=>intro q;exact q
 | @cons p q ps qs h t ih =>
  intro r0
  have e:KV (wB kvs p.1 p.2) (stored vs q.1 q.2):=by
   have:=r0.put p.1 h.2
   rw [<- h.1];exact this
  exact ih e
theorem wa:∀ (more kvs:List (Key×V)),(w9 kvs more).length<=kvs.length+more.length
 | [],kvs=>by show kvs.length<=kvs.length+0;omega
 | p::r,kvs=>by
  have h1:=wa r (wB kvs p.1 p.2)
  have h2:=q8 kvs p.1 p.2
  show (w9 (wB kvs p.1 p.2) r).length<=_
  rw [Y06];omega
theorem Zm {P:Program}{w:World}:∀ {kvs:List (Key×V)}{ws:List (Value×Value)},VV (kvs.map λ kv=>(kV kv.1,kv.2)) ws->∃ rs,Carries (zy P w) ws rs/\KV kvs rs
 | [],_,r=>by rw [Y1x] at r;cases r;exact ⟨[],True.intro,.nil⟩
 | p::kvs,_,r=>by
  rw [Y0h] at r
  cases r with
  | @cons a b as bs h t =>
   obtain ⟨rs,c,q⟩:=Zm (P:=P) (w:=w) t
   obtain ⟨b1,b2⟩:=b
   exact ⟨(p.1,b2)::rs,⟨y0 h.1,rfl,c⟩,.cons ⟨rfl,h.2⟩ q⟩
noncomputable def z3x (trs:List (TE×TE)):TE:=λ σ H Q=>∀ p,H p=none->We trs σ (upd H p (.dK [])) λ ps H2=>H2 p=some (.dK [])/\∃ kvs:List (Key×V),ps=kvs.map (λ kv=>(kV kv.1,kv.2))/\kvs.length<=15/\Q (.ref p) (upd H2 p (.dK (w9 [] kvs)))
theorem OL {X:Cx}{pos:Pos}{keys:List (Option Expr)}{values:List Expr}{trs:List (TE×TE)}(h:PPs X pos keys values trs)(hall:keys.all (·.isSome)=true)(hl:keys.length=values.length)(h0:keys≠[])
  (h15:keys.length<=15):PE X (.Dict keys values pos) (z3x trs):=by
 intro pins s σ H Q I q
 have hn:=I.hok.fresh (Y03 s.heap.objs.size)
 have I1:=I.laid (a:=s.heap.objs.size) (o:=.dK []) (h':=s.heap.push { cls:=.type "dict",data:=.dict #[] }) (t':=s.toks) (λ _ _ q=>Y01 _ q) (Y03 _) (WY s.heap I.big)
 refine wpAny_Dict_walk (knd:=zy X.prog X.w) hall hl h0 h15 (thn (h pins _ σ _ _ I1 (q _ hn)) λ ws s2 ⟨ps,H2,I2,rel,e,kvs,ep,lk,q2⟩=>?_)
 subst ep
 obtain ⟨rs,c,rk⟩:=Zm (P:=X.prog) (w:=X.w) rel
 obtain ⟨z,hd,vs0,r0,dd⟩:=z01 I2.hok e
 cases r0
 refine ⟨rs,c,dd,λ h' dd' hs=>⟨.ref s.heap.objs.size,_,?_,rfl,q2⟩⟩
 have hz:(w9 [] kvs).length<=sizeLine:=by
  have h1:=wa kvs []
  rw [Y2z] at h1
  rw [sizeLine_eq];omega
 have he:∃ q,h'.get? s.heap.objs.size=some q:=let ⟨q,_,_,hq,_⟩:=dd';⟨q,hq⟩
 exact Wc I2 (by rw [e];exact True.intro) hs he (QQ hz hd (rk.merge .nil) dd')
structure M1 (X:Cx)(o:Expr)(m:Str)(apos:Pos)(e:Expr)(cpos:Pos):Prop where
 base:attributeBase o m X.env (eval o X.env)=eval o X.env
 few:((backTo cpos (starEach [e] X.env)).all (λ x=>!x.1)&&(backToKw cpos (keywordEach [] X.env)).all (λ x=>x.1.isSome)
  && decide (([e]:List Expr).length+([]:List Keyword).length+(if ([]:List Keyword).isEmpty then 0 else 1)<30))=true
 line:(apos.endLine==cpos.line)=true
 trees:backTo cpos (starEach [e] X.env)=[(false,eval e X.env)]
structure M2 (X:Cx)(o:Expr)(m:Str)(apos:Pos)(e f:Expr)(cpos:Pos):Prop where
 base:attributeBase o m X.env (eval o X.env)=eval o X.env
 few:((backTo cpos (starEach [e,f] X.env)).all (λ x=>!x.1)&&(backToKw cpos (keywordEach [] X.env)).all (λ x=>x.1.isSome)
  && decide (([e,f]:List Expr).length+([]:List Keyword).length+(if ([]:List Keyword).isEmpty then 0 else 1)<30))=true
 line:(apos.endLine==cpos.line)=true
 trees:backTo cpos (starEach [e,f] X.env)=[(false,eval e X.env),(false,eval f X.env)]
section
variable {X:Cx}{pins:List (Addr×Obj)}{σ:St}{H:Hp}{s:Shared}{a:Addr}{y d:V}{u r:Value}{o:Option V}{A:Around}{E:Value->Shared->Prop}
end
section
variable {X:Cx}{o e f:Expr}{apos cpos:Pos}{td ty tx:TE}
end
section
variable {X:Cx}{pins:List (Addr×Obj)}{σ:St}{H:Hp}{s:Shared}{a:Addr}{kvs:List (Key×V)}{A:Around}{E:Value->Shared->Prop}
end
section
variable {X:Cx}{pins:List (Addr×Obj)}{σ:St}{H:Hp}{s:Shared}{a:Addr}{y:V}{u:Value}{A:Around}{E:Value->Shared->Prop}
end
end L2
namespace L2
open PySem PyProof.Rows
open Sem (wp)
end L2
namespace L2
open PySem PyProof.Rows
open Sem (wp)
end L2
namespace L2
open PySem PySem.Spec PyProof.Rows
noncomputable def Fl (h:Heap)(a:Addr)(C:Value)(T:Option Addr):Prop :=
 ∃ oe vs a0,h.get? a=some oe/\oe.cls=C/\oe.data=.fields vs/\vs[0]?=some a0/\1<vs.size /\
  (match T with
  | none=>vs[1]?=some Value.none
  | some t=>vs[1]?=some (Value.ref t)/\t≠a/\∃ oT ts,h.get? t=some oT/\oT.data=.fields ts/\3<ts.size)
theorem J9 {e1 e2:Env}(h:e1.frame=e2.frame):PySem.frameOf e1=PySem.frameOf e2:=by
 unfold PySem.frameOf;rw [h]
theorem yW {e:Value}{e1 e2:Env}(h:e1.frame=e2.frame):noteFrame e e1=noteFrame e e2:=by
 unfold noteFrame;rw [h,J9 h]
structure Wr (l fs:List Addr)(h h':Heap):Prop where
 keep:∀ b o,b∉l->b∉fs->h.get? b=some o->h'.get? b=some o
 slot:∀ b o,b∉l->b∈fs->h.get? b=some o->∃ sl,h'.get? b=some { o with slots:=sl }
theorem Wr.any {l fs:List Addr}{h h':Heap}(W:Wr l fs h h'){b:Addr}{o:Obj}(hb:b∉l)(e:h.get? b=some o):∃ sl,h'.get? b=some { o with slots:=sl }:=by
 by_cases hf:b∈fs
 ·exact W.slot b o hb hf e
 ·exact ⟨o.slots,W.keep b o hb hf e⟩
theorem ObjOk.there {P:Program}{w:World}{H:Hp}{h:Heap}{a:Addr}{o:HO}(x:ObjOk P w H h a o):∃ ob,h.get? a=some ob:=by
 cases o with
 | lst xs=>obtain ⟨_,_,_,_,e⟩:=x;exact ⟨_,e⟩
 | tup xs=>obtain ⟨_,_,_,ob,e,_⟩:=x;exact ⟨_,e⟩
 | dK kvs=>obtain ⟨_,_,_,_,o,_,_,e,_⟩:=x;exact ⟨_,e⟩
 | dT kvs=>obtain ⟨_,_,_,_,o,_,_,e,_⟩:=x;exact ⟨_,e⟩
 | set S n=>obtain ⟨o,_,_,_,e,_⟩:=x;exact ⟨_,e⟩
 | ins C dx fs=>obtain ⟨_,_,_,e,_⟩:=x;exact ⟨_,e⟩
 | own y=>obtain ⟨_,e⟩:=x;exact ⟨_,e⟩
 | xd fs=>obtain ⟨_,⟨_,_,_,e,_⟩,_⟩:=x;exact ⟨_,e⟩
 | rng lo hi=>obtain ⟨_,_,_,e⟩:=x;exact ⟨_,e⟩
 | frz ob u=>obtain ⟨e,_⟩:=x;exact ⟨_,e⟩
 | tbl ps=>exact ⟨_,(show h.get? a=some _ from x)⟩
 | met f y=>exact ⟨_,(show h.get? a=some _ from x)⟩
 | ext φ=>obtain ⟨_,⟨_,e⟩,_⟩:=x;exact ⟨_,e⟩
section
variable {M:Model}{A:Around}{E:Value->Shared->Prop}{s:Shared}{base:Heap}{env top:Env}{outer:List Env}{L a:Addr}{C:Value}{T:Option Addr}
theorem VQ {Q:Unit->Shared->Prop}(hfr:A.frames=some (top::outer))(ht:top.frame=some L)(hf:env.frame=some L)(hl:s.heap.FunFrames base (top::outer))(fl:Fl s.heap a C T)
    (h:∀ h' T',Wr (a::T.toList) (frs (top::outer)) s.heap h'->Fl h' a C (some T')->(T=some T'\/s.heap.get? T'=none)->Q () { s with heap:=h' }) :
    wpAny M A (noteFrame (.ref a) env) Q E s:=by
  rw [yW (e1:=env) (e2:=top) (hf.trans ht.symm)]
  have fl0:=fl
  obtain ⟨oe,vs,a0,he,hc,hd,h0,hsz,hT⟩:=fl
  subst hc
  generalize hB:PySem.W.hideAll s.heap (a::(T.toList++frs (top::outer)))=B
  have hkb:B.StaysIn s.heap:=λ b o e=>by rw [<- hB] at e;exact PySem.W.of_hideAll _ e
  have hen:B.get? a=none:=by rw [<- hB];exact Y33 _ (Y0b ..)
  have hl':s.heap.FunFrames B (top::outer):=by
    rw [<- hB]
    refine PySem.W.funFrames_hide hl λ env' he' b hb=>?_
    exact Y04 _ (Y0p _ (Y3b.mpr ⟨env',he',hb⟩))
  have nf:∀ b,b∈frs (top::outer)->∀ o,s.heap.get? b=some o->∀ vs,o.data≠.fields vs:=λ b hb o e=>by
    obtain ⟨_,o',ho',hnf⟩:=hl.mem hb
    rw [e] at ho';cases ho';exact hnf
  have unhid:∀ b o,b∉a::T.toList->b∉frs (top::outer)->s.heap.get? b=some o->B.get? b=some o:=λ b o hb hfb e=>by
    rw [<- hB]
    refine PySem.W.hideAll_get _ e λ z=>?_
    rcases Y0d.mp z with z | z
    · exact hb (z▸Y0b ..)
    · rcases Y2b.mp z with z | z
      · exact hb (Y04 _ z)
      · exact hfb z
  have fin:∀ h',Heap.NotedW B (top::outer) a oe.cls a0 (rawInt L) s.heap h'->Q () { s with heap:=h' }:=λ h' hN=>by
    obtain ⟨n1,n2,⟨oe',vs',T',oT',ts',g1,⟨g2,g3⟩,g4,g5,g6,g7,g8,g9,g10⟩,n4⟩:=hN
    have slot:∀ b o,b∈frs (top::outer)->s.heap.get? b=some o->∃ sl,h'.get? b=some { o with slots:=sl }:=λ b o hb e=>n4 b o e (nf b hb o e)
    refine h h' T' ⟨λ b o hb hfb e=>n1 b o (unhid b o hb hfb e),λ b o _ hb e=>slot b o hb e⟩ ⟨oe',vs',a0,g1,g2,g4,g3,(Array.getElem?_eq_some_iff.mp g5).1,g5,g7,oT',ts',g8,g9,(Array.getElem?_eq_some_iff.mp g10).1⟩ ?_
    by_cases q1:T'∈a::T.toList
    · rcases Y0d.mp q1 with z | z
      · exact absurd z g7
      · left
        cases T with
        | none=>simp at z
        | some t => have z' : T' = t := by simpa using z
                    rw [z']
    · right
      cases e:s.heap.get? T' with
      | none=>rfl
      | some o =>
        exfalso
        by_cases q2:T'∈frs (top::outer)
        · obtain ⟨sl,q⟩:=slot T' o q2 e
          rw [g8] at q
          have q':oT'={ o with slots:=sl }:=Option.some.inj q
          rw [q'] at g9
          exact nf T' q2 o e _ g9
        · have:=unhid T' o q1 q2 e
          rw [g6] at this;cases this
  cases T with
  | none =>
    unfold noteFrame
    simp only [ht]
    refine wpAny_bind (wpAny_field he hd hT ?_)
    rw [if_neg (by decide)]
    exact wpAny_entryW hfr hl' ht he hkb hen hd hsz h0 fin
  | some t =>
    obtain ⟨h1,hta,oT,ts,hoT,hdT,hs3⟩:=hT
    obtain ⟨fl3,h3⟩:∃ v,ts[3]?=some v:=⟨ts[3],by simp [hs3]⟩
    have hnT:B.get? t=none:=by rw [<- hB];exact Y33 _ (by simp)
    unfold noteFrame
    simp only [ht]
    refine wpAny_bind (wpAny_field he hd h1 ?_)
    rw [if_pos (show (Value.ref t != Value.none)=true from by simp)]
    refine wpAny_bind (wpAny_field hoT hdT h3 ?_)
    by_cases hfl:(fl3==rawInt L)=true
    · rw [if_pos hfl]
      exact wpAny_pure (h s.heap t ⟨λ b o _ _ e=>e,λ b o _ _ e=>⟨o.slots,e⟩⟩ fl0 (.inl rfl))
    · rw [if_neg hfl]
      refine wpAny_bind (wpAny_setField hoT hdT hs3 ?_)
      have other:∀ b,b≠t->(s.heap.update t (Obj.mapFields (·.setIfInBounds 3 Value.none))).get? b=s.heap.get? b:=λ b hb=>Y1v _ _ (Ne.symm hb)
      have noRecord:∀ b o,s.heap.get? b=some o->(∀ vs,o.data≠.fields vs)->b≠t:=λ b o hb hnf q=>by
        rw [q,hoT] at hb;injection hb with hb;subst hb;exact hnf ts hdT
      refine wpAny_entryW hfr (hl'.of_keeps λ b o hb hnf=>⟨o,(other b (noRecord b o hb hnf)).trans hb,rfl⟩) ht ((other a (Ne.symm hta)).trans he)
        (λ b o hbo=>(other b λ q=>by rw [q,hnT] at hbo;cases hbo).trans (hkb b o hbo)) hen hd hsz h0 ?_
      rintro h' ⟨x1,x2,x3,x4⟩
      exact fin h' ⟨x1,x2,x3,λ b o hb hnf=>x4 b o ((other b (noRecord b o hb hnf)).trans hb) hnf⟩
theorem QR {t:Addr}{f:Option Addr}{Q:Unit->Shared->Prop}(fl:Fl s.heap a C (some t))
  (h:∀ h',Heap.SameBut t s.heap h'->Fl h' a C (some t)->Q () { s with heap:=h' }):wpAny M A (setFlight (.ref a) f) Q E s:=by
 obtain ⟨oe,vs,a0,he,hc,hd,h0,hsz,h1,hta,oT,ts,hoT,hdT,hs3⟩:=fl
 unfold setFlight
 refine wpAny_bind (wpAny_field he hd h1 ?_)
 rw [if_pos (show (Value.ref t != Value.none)=true from by simp)]
 refine wpAny_setField hoT hdT hs3 (h _ (Heap.SameBut.update ..) ?_)
 have hdT':=Obj.data_mapFields hdT (·.setIfInBounds 3 (f.elim Value.none λ f=>rawInt f))
 refine ⟨oe,vs,a0,(Y1v _ _ hta).trans he,hc,hd,h0,hsz,h1,hta,_,_,Y1m _ hoT (Obj.isFreed_of_fields hdT'),hdT',?_⟩
 simpa using hs3
theorem Zo {t:Addr}{Q:Value->Shared->Prop}(fl:Fl s.heap a C (some t))(h:Q (.ref t) s):wpAny M A (field (.ref a) 1) Q E s:=by
 obtain ⟨oe,vs,a0,he,hc,hd,h0,hsz,h1,_⟩:=fl
 exact wpAny_field he hd h1 h
end
theorem Fl.at {h h':Heap}{a:Addr}{C:Value}{T:Option Addr}(fl:Fl h a C T)(k:∀ b∈a::T.toList,∀ o,h.get? b=some o->h'.get? b=some o):Fl h' a C T:=by
 obtain ⟨oe,vs,a0,he,hc,hd,h0,hsz,hT⟩:=fl
 refine ⟨oe,vs,a0,k a (by simp) _ he,hc,hd,h0,hsz,?_⟩
 cases T with
 | none=>exact hT
 | some t =>
  obtain ⟨h1,hta,oT,ts,hoT,r⟩:=hT
  exact ⟨h1,hta,oT,ts,k t (by simp) _ hoT,r⟩
theorem Fl.rec {h:Heap}{a:Addr}{C:Value}{T:Option Addr}(fl:Fl h a C T):∀ b∈a::T.toList,∃ o vs,h.get? b=some o/\o.data=.fields vs:=by
 obtain ⟨oe,vs,a0,he,hc,hd,h0,hsz,hT⟩:=fl
 intro b hb
 rcases Y0d.mp hb with rfl | hb
 ·exact ⟨oe,vs,he,hd⟩
 ·cases T with
  | none=>simp at hb
  | some t =>
   have e:b=t:=by simpa using hb
   subst e
   obtain ⟨h1,hta,oT,ts,hoT,hdT,_⟩:=hT
   exact ⟨oT,ts,hoT,hdT⟩
noncomputable def Ow (X:Cx)(pins:List (Addr×Obj))(H:Hp)(b:Addr):Prop:=H b=none/\X.s₀.heap.get? b=none/\b∉X.ex/\∀ p∈X.pn++pins,p.1≠b
structure XOk (X:Cx):Prop where
 top:∃ top outer L,X.stack=top::outer/\top.frame=some L/\X.env.frame=some L
 ex:∀ b∈X.ex,∃ o,(b,o)∈X.pn
structure Fly (X:Cx)(pins:List (Addr×Obj))(H:Hp)(h:Heap)(a:Addr)(C:Value)(T:Option Addr):Prop where
 fl:Fl h a C T
 ow:∀ b∈a::T.toList,Ow X pins H b
section
variable {X:Cx}{pins:List (Addr×Obj)}{σ:List (Option V)}{H H':Hp}{s:Shared}{h':Heap}
theorem Inv.ow (ok:XOk X)(I:Inv X pins σ H s)(hH:H'=H\/True){b:Addr}(n:s.heap.get? b=none)(hn:H' b=none):Ow X pins H' b:=by
 have nx:b∉X.ex:=λ z=>by
  obtain ⟨o,ho⟩:=ok.ex b z
  have:=(I.pin (b,o) (Y1b _ ho)).1
  rw [n] at this;cases this
 refine ⟨hn,?_,nx,λ p hp e=>?_⟩
 ·cases q:X.s₀.heap.get? b with
  | none=>rfl
  | some o =>
   obtain ⟨o',e⟩:=I.base.there b o q nx
   rw [n] at e;cases e
 ·have:=(I.pin p hp).1
  rw [e,n] at this;cases this
theorem Inv.untracked (I:Inv X pins σ H s){b:Addr}(n:s.heap.get? b=none):H b=none:=by
 cases q:H b with
 | none=>rfl
 | some o =>
  obtain ⟨ob,e⟩:=(I.hok b o q).there
  rw [n] at e;cases e
theorem Inv.wrote {l:List Addr}(I:Inv X pins σ H s)(W:Wr l (frs X.stack) s.heap h')(ow:∀ b∈l,Ow X pins H b)(rec:∀ b∈l,∃ o vs,s.heap.get? b=some o/\o.data=.fields vs) :
  Inv X pins σ H { s with heap:=h' }:=by
 have lL:X.env.locals∉l:=λ z=>by
  obtain ⟨o,vs,e,d⟩:=rec _ z
  obtain ⟨m,⟨o',es,ep,ho',hd',_⟩,_⟩:=I.loc
  rw [e] at ho';cases ho';rw [d] at hd';cases hd'
 have cL:∀ x c,X.env.cells.lookup x=some c->c∉l:=λ x c e z=>by
  obtain ⟨o,vs,e1,d⟩:=rec _ z
  obtain ⟨v,o',ho',hd'⟩:=I.cell x c e
  rw [e1] at ho';cases ho';rw [d] at hd';cases hd'
 have sL:∀ b o,X.s₀.heap.get? b=some o->b∉l:=λ b o e z=>by rw [(ow b z).2.1] at e;cases e
 have tL:∀ b o,H b=some o->b∉l:=λ b o e z=>by rw [(ow b z).1] at e;cases e
 have nL:∀ m,s.heap.Ns X.env.locals m->h'.Ns X.env.locals m:=λ m hm=>by
  obtain ⟨o,es,ep,ho,hd,r⟩:=hm
  obtain ⟨sl,q⟩:=W.any lL ho
  exact ⟨_,es,ep,q,hd,r⟩
 have cell:∀ x c,X.env.cells.lookup x=some c->∀ v,s.heap.IsCell c v->h'.IsCell c v:=λ x c e v ⟨o,ho,hd⟩=>by
  obtain ⟨sl,q⟩:=W.any (cL x c e) ho
  exact ⟨_,q,hd⟩
 have fs0:∀ b,b≠X.env.locals->b∉X.fs->b∉frs X.stack:=λ b h1 h2 z=>(Y0d.mp (I.stkSub b z)).elim h1 h2
 have old:∀ b o,X.s₀.heap.get? b=some o->b≠X.env.locals:=λ b o e=>Y0f (Y0g (Y07 e) I.ok.above)
 refine ⟨I.ok,I.os,I.bare,⟨λ b o e n hb hx=>?_,λ b o e n hb hx=>?_,I.base.free,λ b o e hx=>?_,I.base.tups,I.base.frzs,I.base.tbls⟩,?_,λ x c e=>?_,I.free,I.freeC,λ p hp=>?_,λ b u e=>?_,I.len⟩
 ·exact W.keep b o (sL b o e) (fs0 b (old b o e) hb) (I.base.keep b o e n hb hx)
 ·obtain ⟨sl,e1⟩:=I.base.slot b o e n hb hx
  obtain ⟨sl',e2⟩:=W.any (sL b o e) e1
  exact ⟨sl',e2⟩
 ·obtain ⟨o',e1⟩:=I.base.there b o e hx
  obtain ⟨sl,e2⟩:=W.any (sL b o e) e1
  exact ⟨_,e2⟩
 ·obtain ⟨m,hn,hl⟩:=I.loc
  refine ⟨m,nL m hn,λ i x v e1 e2 e3=>?_⟩
  obtain ⟨u,r,q⟩:=hl i x v e1 e2 e3
  refine ⟨u,r,?_⟩
  rcases q with q | ⟨k,c,e,z⟩
  ·exact .inl q
  ·exact .inr ⟨k,c,e,cell x c e _ z⟩
 ·obtain ⟨v,z⟩:=I.cell x c e
  exact ⟨v,cell x c e v z⟩
 ·obtain ⟨e,n,ne,nf,d⟩:=I.pin p hp
  exact ⟨W.keep p.1 p.2 (λ z=>(ow p.1 z).2.2.2 p hp rfl) (fs0 p.1 ne nf) e,n,ne,nf,d⟩
 ·refine (I.hok b u e).stay (λ c v hc q=>?_) (λ _ q=>q) λ _ _ q=>q
  have hc':∃ u,H c=some u:=hc.elim (λ z=>⟨u,z▸e⟩) λ z=>⟨_,z⟩
  obtain ⟨u',e'⟩:=hc'
  exact W.keep c v (tL c u' e') (λ z=>by rw [I.stkFree c z] at e';cases e') q
variable {M:Model}{A:Around}{E:Value->Shared->Prop}{a:Addr}{C:Value}{T:Option Addr}{env:Env}
theorem Inv.note {Q:Unit->Shared->Prop}(ok:XOk X)(I:Inv X pins σ H s)(F:Fly X pins H s.heap a C T)(hfr:A.frames=some X.stack)(hen:env.frame=X.env.frame)
  (h:∀ h' T',Inv X pins σ H { s with heap:=h' }->Fly X pins H h' a C (some T')->Q () { s with heap:=h' }):wpAny M A (noteFrame (.ref a) env) Q E s:=by
 obtain ⟨top,outer,L,e1,e2,e3⟩:=ok.top
 have hst:=I.stack
 rw [e1] at hfr hst
 refine VQ hfr e2 (hen.trans e3) hst F.fl λ h' T' W fl' new=>?_
 rw [<- e1] at W
 refine h h' T' (I.wrote W F.ow F.fl.rec) ⟨fl',λ b hb=>?_⟩
 rcases Y0d.mp hb with rfl | hb
 ·exact F.ow _ (Y0b ..)
 ·have e:b=T':=by simpa using hb
  subst e
  rcases new with q | q
  ·exact F.ow _ (by rw [q];simp)
  ·exact I.ow ok (.inr trivial) q (I.untracked q)
theorem Inv.flight {t:Addr}{f:Option Addr}{Q:Unit->Shared->Prop}(I:Inv X pins σ H s)(F:Fly X pins H s.heap a C (some t))
  (h:∀ h',Inv X pins σ H { s with heap:=h' }->Fly X pins H h' a C (some t)->Q () { s with heap:=h' }):wpAny M A (setFlight (.ref a) f) Q E s:=by
 refine QR F.fl λ h' sb fl'=>h h' (I.wrote (l:=[a,t]) ⟨λ b o hb _ e=>(sb.2 b λ z=>hb (by simp [z])).trans e,λ b o hb _ e=>⟨o.slots,(sb.2 b λ z=>hb (by simp [z])).trans e⟩⟩ (λ b hb=>F.ow b (by simpa using hb)) λ b hb=>F.fl.rec b (by simpa using hb)) ⟨fl',F.ow⟩
theorem Inv.passOn {α:Type}{t:Addr}{what:String}{Q:α->Shared->Prop}(I:Inv X pins σ H s)(F:Fly X pins H s.heap a C (some t))
  (h:∀ h',Inv X pins σ H { s with heap:=h' }->Fly X pins H h' a C (some t)->E (.ref a) { s with heap:=h' }):wpAny M A (passOn what (.ref a) env:Sem α) Q E s:=by
 unfold PySem.passOn
 refine wpAny_bind (Zo F.fl ?_)
 rw [if_neg (show ¬ ((Value.ref t==Value.none)=true) from by simp)]
 exact wpAny_bind (I.flight F λ h' I' F'=>wpAny_throw (h h' I' F'))
theorem Inv.cameBack {t:Addr}(I:Inv X pins σ H s)(F:Fly X pins H s.heap a C (some t))
  (h:∀ h',Inv X pins σ H { s with heap:=h' }->Fly X pins H h' a C (some t)->E (.ref a) { s with heap:=h' }):cameBackBy M A env E (.ref a) s:=by
 unfold cameBackBy
 refine wpAny_bind (Zo F.fl ?_)
 rw [if_neg (show ¬ ((Value.ref t==Value.none)=true) from by simp)]
 exact I.flight F λ h' I' F'=>h h' I' F'
end
noncomputable abbrev ZK:=St->Value->Hp->Prop
noncomputable def XE (X:Cx)(Z:ZK)(e:Value)(s':Shared):Prop:=∃ a C T σ' H',e=.ref a/\Inv X [] σ' H' s'/\Fly X [] H' s'.heap a C T/\Z σ' C H'
structure Thr (X:Cx)(Z:ZK):Prop extends XOk X where
 thr:∀ e s',XE X Z e s'->X.xe e s'
noncomputable def CXs (P:Program)(w:World):CXT:=λ outer H s E e s'=>∃ a C t H',e=.ref a/\s'.os=s.os/\AllBare s'.gens/\Un (frs outer) [] H H' s.heap s'.heap/\HOk P w H' s'.heap /\
 Fl s'.heap a C (some t)/\(∀ b∈[a,t],H' b=none/\s.heap.get? b=none)/\E C none H'
theorem OM {P:Program}{w:World}{K:Y00}{mg:Str->Option Value}{base:Heap}{N:List Str}{qual:Str}{scope:Scope}{f:Addr}{cd:Value}{A:Around}{outer:List Env}{s:Shared}{H:Hp}{E:XK} :
  Thr (qX (CXs P w) P w K mg base N qual scope f cd A outer s H E) (λ _ C H'=>E C none H') where
 top:=⟨_,_,_,rfl,rfl,rfl⟩
 ex:=λ b hb=>absurd (show b∈([]:List Addr) from hb) (by simp)
 thr:=by
  rintro e s' ⟨a,C,T,σ',H',rfl,I,F,z⟩
  have ok:XOk (qX (CXs P w) P w K mg base N qual scope f cd A outer s H E):=⟨⟨_,_,_,rfl,rfl,rfl⟩,λ b hb=>absurd (show b∈([]:List Addr) from hb) (by simp)⟩
  show wpAny (model P w) (A.deeper (envOfC qual scope s.heap.objs.size f cd)) (leaving (envOfC qual scope s.heap.objs.size f cd) (.ref a)) _ _ s'
  unfold leaving
  refine wpAny_bind (I.note ok F I.ok.frames rfl λ h1 t I1 F1=>?_)
  refine I1.flight F1 λ h2 I2 F2=>?_
  exact ⟨a,C,t,H',rfl,I2.os,I2.bare,I2.base,I2.hok,F2.fl,λ b hb=>⟨(F2.ow b (by simpa using hb)).1,(F2.ow b (by simpa using hb)).2.1⟩,z⟩
section
variable {X:Cx}{pins:List (Addr×Obj)}{σ:St}{H:Hp}{s s':Shared}
theorem Inv.thrown {E:XK}{e:Value}(ok:XOk X)(I:Inv X pins σ H s)(h:CXs X.prog X.w X.stack H s E e s'):∃ a C t H',e=.ref a/\Inv X pins σ H' s'/\Fly X pins H' s'.heap a C (some t)/\E C none H':=by
 obtain ⟨a,C,t,H',rfl,ho,hg,u,hok,fl,ow,q⟩:=h
 have I':Inv X pins σ H' s':=I.call' (ch:=[]) ho u hok hg λ b hb=>absurd hb (by simp)
 refine ⟨a,C,t,H',rfl,I',⟨fl,λ b hb=>?_⟩,q⟩
 obtain ⟨o1,o2⟩:=ow b (by simpa using hb)
 exact I.ow ok (.inr trivial) o2 o1
theorem Inv.nopins (I:Inv X pins σ H s):Inv X [] σ H s:=I.pins_of λ p hp=>absurd hp (by simp)
theorem Fly.nopins {h:Heap}{a:Addr}{C:Value}{T:Option Addr}(F:Fly X pins H h a C T):Fly X [] H h a C T :=
 ⟨F.fl,λ b hb=>⟨(F.ow b hb).1,(F.ow b hb).2.1,(F.ow b hb).2.2.1,λ p hp=>(F.ow b hb).2.2.2 p (by simp at hp;exact Y1b _ hp)⟩⟩
theorem Thr.go {Z:ZK}(th:Thr X Z){a:Addr}{C:Value}{T:Option Addr}(I:Inv X pins σ H s)(F:Fly X pins H s.heap a C T)(z:Z σ C H):X.xe (.ref a) s :=
 th.thr _ _ ⟨a,C,T,σ,H,rfl,I.nopins,F.nopins,z⟩
end
noncomputable def VR (sp:Sp)(dvs:List V)(Z:ZK)(t:TA):TE:=λ σ H Q=>t σ H λ vs H1=>sp (vs++dvs) H1 Q (λ C _ H'=>Z σ C H')
section
variable {X:Cx}{k:Nat}{f C:Addr}{fd:FuncData}{ps:List Str}{sp:Sp}{dvs:List V}{ds:List Value}{Z:ZK}{x m:Str}{p pos apos:Pos}{e o:Expr}{es:List Expr}{ta:TE}{t:TA}
theorem YR {pins:List (Addr×Obj)}{σ:St}{H:Hp}{s:Shared}{Q:VK}{us:List Value}{vs:List V}(F:FnOk X.prog X.w X.K X.mg X.base (CXs X.prog X.w) k f fd ps sp)(hr:Room k X.A)(hb:Binds X.K fd ps ds)(hd:Vals dvs ds)(th:Thr X Z)
  (I:Inv X pins σ H s) (r:Vals vs us) (h:sp (vs++dvs) H Q (λ C _ H'=>Z σ C H')):wpAny (model X.prog X.w) X.A (call (.ref f) us) (EP X pins σ Q) X.xe s:=by
 have r2:Vals (vs++dvs) (us++ds):=r.append hd
 have hl:(us++ds).length=ps.length:=by rw [<- r2.length];exact F.len _ _ _ _ h
 refine wpAny_call (codeAny_mono (F.run X.A X.stack s H ⟨us,[]⟩ (us++ds) (vs++dvs) Q _ hr I.env0 (hb s us I.kIn hl) r2 h) λ r s' hq=>?_)
 cases r with
 | error e =>
  have hq':CXs X.prog X.w X.stack H s (λ C _ H'=>Z σ C H') e s':=hq
  obtain ⟨a,C,t,H',rfl,I',F',z⟩:=I.thrown th.toXOk hq'
  exact th.go I' F' z
 | ok fl =>
  cases fl with
  | ret u=>exact I.after hq
  | next=>exact False.elim hq
  | brk=>exact False.elim hq
  | cont=>exact False.elim hq
theorem VS (F:FnOk X.prog X.w X.K X.mg X.base (CXs X.prog X.w) k f fd ps sp)(hr:Room k X.A)(hg:Gl X x)(hm:X.mg x=some (.ref f))(hk:PySem.W.keepIn X.K (.ref f)=true)(hb:Binds X.K fd ps ds)(hd:Vals dvs ds)(th:Thr X Z)
  (ha:PA X (e::es) t) (hdb:(x==("__debug__":Str))=false:=by decide) (he:starEach (e::es) X.env=(false,eval e X.env)::starEach es X.env:=by rfl) (hpl:(backTo pos (starEach es X.env)).any (·.1)=false:=by rfl) :
  PE X (.Call (.Name x p) (e::es) [] pos) (VR sp dvs Z t):=by
 intro pins s σ H Q I h
 refine wpAny_Call_Name_kw (Z7 I hg hm ?_ hdb)
 refine Y38 (h₀:=X.base) I.ok.mod.kin hk (thn (ha pos pins s σ H _ I h) λ us s1 ⟨vs,H1,I1,r,q⟩=>⟨I1.kIn,?_⟩) he hpl
 exact YR F hr hb hd th I1 r q
end
end L2
namespace L2
open PySem PySem.Spec PyProof.Rows
noncomputable def Ja (env:Env):List (Str×NameKind)->List (Str×Addr)->List (Str×Addr)
 | [],cs=>cs
 | (n,k)::r,cs=>Ja env r (if k==.free then (n,(env.cells.lookup n).getD 0)::cs else cs)
noncomputable def WZ (scope:Scope)(env:Env):List (Str×Addr):=Ja env scope.names []
theorem Zp {scope:Scope}{env:Env}(h:∀ y∈scope.names,y.2=.free->∃ c,env.cells.lookup y.1=some c):closureFor scope env=pure (WZ scope env):=by
 unfold closureFor WZ
 have go:∀ (l:List (Str×NameKind)) (cs:List (Str×Addr)),(∀ y∈l,y.2=.free->∃ c,env.cells.lookup y.1=some c) ->
   (forIn l cs λ (x:Str×NameKind) (r:List (Str×Addr))=>(match x with
    | (name,kind)=>if (kind==NameKind.free)=true then (do let a <- cellOf env name;pure (ForInStep.yield ((name,a)::r))) else (pure (ForInStep.yield r)):Sem (ForInStep (List (Str×Addr)))))=(pure (Ja env l cs):Sem (List (Str×Addr))):=by
  intro l
  induction l with
  | nil=>intro cs _;rfl
  | cons y r ih =>
   intro cs hl
   obtain ⟨n,k⟩:=y
   rw [Y1z]
   by_cases hk:(k==NameKind.free)=true
   ·obtain ⟨c,hc⟩:=hl (n,k) (Y0b ..) (by simpa using hk)
    have e:cellOf env n=pure c:=by unfold cellOf;rw [hc]
    simp only [hk,if_true,e,pure_bind,Ja,hc,Y3i]
    exact ih _ λ y hy=>hl y (Y04 _ hy)
   ·simp only [hk,if_false,pure_bind,Ja,Y1d]
    exact ih _ λ y hy=>hl y (Y04 _ hy)
 have:=go scope.names [] h
 first
  | (rw [this];rfl)
  | (simp only [bind_pure_comp] at this ⊢;rw [this];rfl)
  | (simp only [bind_pure_comp] at this ⊢;rw [this];simp)
theorem Q0 {env:Env}:∀ {l:List (Str×NameKind)}{cs:List (Str×Addr)}{x:Str}{c:Addr},(∀ y∈l,y.2=.free->∃ c,env.cells.lookup y.1=some c)->(x,c)∈Ja env l cs->(x,c)∈cs\/env.cells.lookup x=some c
 | [],_,_,_,_,h=>.inl h
 | (n,k)::r,cs,x,c,hl,h=>by
  rcases Q0 (l:=r) (λ y hy=>hl y (Y04 _ hy)) h with h | h
  ·by_cases hk:(k==NameKind.free)=true
   ·rw [if_pos hk] at h
    rcases Y0d.mp h with e | h
    ·obtain ⟨c',hc⟩:=hl (n,k) (Y0b ..) (by simpa using hk)
     rw [hc] at e
     cases e
     exact .inr hc
    ·exact .inl h
   ·rw [if_neg hk] at h
    exact .inl h
  ·exact .inr h
theorem JA {env:Env}:∀ {l:List (Str×NameKind)}{cs:List (Str×Addr)}{p:Str×Addr},p∈cs->p∈Ja env l cs
 | [],_,_,h=>h
 | (n,k)::r,cs,p,h=>by
  unfold Ja
  refine JA ?_
  split
  ·exact Y04 _ h
  ·exact h
theorem Zq {env:Env}:∀ {l:List (Str×NameKind)}{cs:List (Str×Addr)}{x:Str},(x,NameKind.free)∈l->∃ c,(x,c)∈Ja env l cs
 | (n,k)::r,cs,x,h=>by
  unfold Ja
  rcases Y0d.mp h with e | h
  ·cases e
   exact ⟨(env.cells.lookup n).getD 0,JA (by rw [if_pos (by decide)];exact Y0b ..)⟩
  ·exact Zq h
theorem j4 {α β:Type}[BEq α][LawfulBEq α]:∀ {l:List (α×β)}{x:α}{c:β},(x,c)∈l->∃ c',l.lookup x=some c'
 | (n,k)::r,x,c,h=>by
  rw [Y25]
  cases e:x==n with
  | true=>exact ⟨k,rfl⟩
  | false =>
   rcases Y0d.mp h with q | q
   ·cases q;simp at e
   ·exact j4 q
noncomputable def j9 (scope:Scope)(C:Addr)(env:Env):List (Str×Addr):=cellsFrom (C+1) scope.names (WZ scope env)
theorem zL:∀ (l:List (Str×NameKind)) (n:Nat) (acc:List (Str×Addr)),cellsFrom n l acc=cellsFrom n l []++acc
 | [],_,_=>rfl
 | (x,k)::r,n,acc=>by
  unfold cellsFrom
  by_cases hk:(k==NameKind.cell)=true
  ·rw [if_pos hk,if_pos hk,zL r (n+1) ((x,n)::acc),zL r (n+1) [(x,n)],Y0e];rfl
  ·rw [if_neg hk,if_neg hk];exact zL r n acc
theorem wb:∀ {l:List (Str×NameKind)}{n:Nat}{x:Str}{c:Addr},(x,c)∈cellsFrom n l []->(x,NameKind.cell)∈l
 | (y,k)::r,n,x,c,h=>by
  unfold cellsFrom at h
  by_cases hk:(k==NameKind.cell)=true
  ·rw [if_pos hk,zL] at h
   rcases Y2b.mp h with h | h
   ·exact Y04 _ (wb h)
   ·have e:x=y:=by simpa using (Y0m.mp h▸rfl:(x,c).1=(y,n).1)
    have e2:k=.cell:=by simpa using hk
    rw [e,e2];exact Y0b ..
  ·rw [if_neg hk] at h
   exact Y04 _ (wb h)
theorem VT {scope:Scope}{C:Addr}{env:Env}{x:Str}{c:Addr}(h:(j9 scope C env).lookup x=some c):(cellsFrom (C+1) scope.names []).lookup x=some c\/((cellsFrom (C+1) scope.names []).lookup x=none/\(WZ scope env).lookup x=some c):=by
 unfold j9 at h
 rw [zL,Y2i] at h
 cases e:(cellsFrom (C+1) scope.names []).lookup x with
 | none=>rw [e] at h;exact .inr ⟨rfl,h⟩
 | some c'=>rw [e] at h;exact .inl h
theorem z1u {scope:Scope}{C:Addr}{env:Env}{x:Str}{c:Addr}(h:(cellsFrom (C+1) scope.names []).lookup x=some c):(j9 scope C env).lookup x=some c:=by
 unfold j9
 rw [zL,Y2i,h];rfl
theorem z1v {scope:Scope}{C:Addr}{env:Env}{x:Str}{c:Addr}(h:(WZ scope env).lookup x=some c)(h0:(cellsFrom (C+1) scope.names []).lookup x=none):(j9 scope C env).lookup x=some c:=by
 unfold j9
 rw [zL,Y2i,h0];exact h
theorem Zr {M:Model}{A:Around}{E:Value->Shared->Prop}{s:Shared}{scope:Scope}{globals:Addr}{closure:List (Str×Addr)}{qual:Str}{func:Option Addr}{code:Value}{e:Env}{builtins:Addr}{Q:Env->Shared->Prop}
  (hQ:Q (newEnv scope s.heap.objs.size globals (cellsFrom (s.heap.objs.size+1) scope.names closure) qual func code (some e) builtins) { s with heap:=pushCells (s.heap.push { cls:=.type "dict",data:=.dict #[] }) scope.names }) :
  wpAny M A (newFunctionEnv scope globals closure [] qual func code (some e) builtins) Q E s:=by
 simp only [newFunctionEnv,Option.isSome_some,if_true]
 refine wpAny_bind (wpAny_alloc ?_)
 refine wpAny_bind (wpAny_layCells _ (λ name kind cells=>by cases hkc:kind==NameKind.cell<;>simp [hkc]) _ _ _ _ ?_)
 rw [show ({ s with heap:=s.heap.push { cls:=.type "dict",data:=.dict #[] } }:Shared).heap.objs.size=s.heap.objs.size+1 from Y1c ..]
 refine wpAny_bind ?_
 rw [Y23]
 exact wpAny_pure (wpAny_pure hQ)
noncomputable abbrev zr (X:Cx)(NC:List Str)(scope:Scope)(C:Addr)(s:Shared)(H:Hp)(ex:List Addr)(pn:List (Addr×Obj))(xe:Value->Shared->Prop):Cx :=
  { X with N:=NC,s₀:=s,H₀:=H,env:=compEnvC scope (j9 scope C X.env) C X.env,outer:=X.stack,stack:=X.stack,ex:=ex,fn:=λ x=>scope.names.lookup x==some .cell,calm:=true,pn:=pn,xe:=xe }
noncomputable def j5 (osc scope:Scope)(N NC:List Str)(cap:List (Option Nat)):Bool :=
 scope.kind==.function&&scope.names.all (λ y=>y.2 != .cell||scope.names.lookup y.1==some .cell) &&
 scope.names.all (λ y=>y.2 != .local||scope.names.lookup y.1==some .local) &&
 scope.names.all (λ y=>y.2 != .free||osc.names.lookup y.1==some .cell)&&cap.length==NC.length &&
 (List.range NC.length).all λ j=>match cap[j]?,NC[j]? with
  | some (some i),some x=>N[i]?==some x&&scope.names.lookup x==some .free
  | some none,some x=>scope.names.lookup x==some .local||scope.names.lookup x==some .cell
  | _,_=>false
noncomputable def q9 (cap:List (Option Nat))(σ:St):St:=cap.map λ o=>o.bind λ i=>(σ[i]?).bind id
theorem wI {scope:Scope}{env:Env}{x:Str}(hk:env.scope.kind=.function):∀ {names:List (Str×NameKind)},(∀ y∈names,y.2=.free->env.kindOf y.1=some .cell) ->
  (names.map λ (n,k)=>if (k==NameKind.free&&env.scope.kind==.function&&env.kindOf n==some .cell) then (n,NameKind.cell) else (n,k)).lookup x=(names.lookup x).map λ k=>if k=.free then .cell else k
 | [],_=>rfl
 | (n,k)::r,h=>by
  have ih:=wI (scope:=scope) (x:=x) hk (names:=r) λ y hy=>h y (Y04 _ hy)
  show List.lookup x ((if (k==NameKind.free&&env.scope.kind==.function&&env.kindOf n==some .cell)=true then (n,NameKind.cell) else (n,k))::_)=_
  by_cases hkf:k=.free
  ·subst hkf
   rw [if_pos (by rw [hk,h (n,.free) (Y0b ..) rfl];decide)]
   rw [Y25,Y25]
   cases e:x==n with
   | true=>rfl
   | false=>exact ih
  ·rw [if_neg (by intro z;simp only [Y0o,beq_iff_eq] at z;exact hkf z.1.1)]
   rw [Y25,Y25]
   cases e:x==n with
   | true=>simp [hkf]
   | false=>exact ih
section
variable {X:Cx}{pins:List (Addr×Obj)}{σ:St}{H H':Hp}{s s':Shared}
theorem Inv.repn {pn pins':List (Addr×Obj)}{xe:Value->Shared->Prop}(I:Inv X pins σ H s)(h:∀ p∈pn++pins',p∈X.pn++pins):Inv { X with pn:=pn,xe:=xe } pins' σ H s :=
 ⟨⟨I.ok.mod,I.ok.kind,I.ok.glob,I.ok.blt,I.ok.above,I.ok.inj,I.ok.has,I.ok.cab,I.ok.hd,I.ok.frames,I.ok.stk,I.ok.exf,I.ok.bs,I.ok.bsz,I.ok.noex,I.ok.exfs,I.ok.funs,I.ok.frf⟩,
  I.os,I.bare,I.base,I.loc,I.cell,I.free,I.freeC,λ p hp=>I.pin p (h p hp),I.hok,I.len⟩
theorem Inv.track {D:Addr}{o:HO}(I:Inv X pins σ H s)(hD:H D=none)(h0:X.s₀.heap.get? D=none)(hL:D≠X.env.locals)(hC:∀ x c,X.env.cells.lookup x=some c->c≠D)(hp:∀ p∈X.pn++pins,p.1≠D)
  (new:ObjOk X.prog X.w (upd H D o) s.heap D o):Inv X pins σ (upd H D o) s:=by
 have up:∀ b u,H b=some u->upd H D o b=some u:=λ b u e=>by rw [zq (jq e hD)];exact e
 refine ⟨I.ok,I.os,I.bare,⟨I.base.keep,I.base.slot,λ b u e n hx=>?_,I.base.there,λ b xs e=>up _ _ (I.base.tups b xs e),λ b u xs e=>up _ _ (I.base.frzs b u xs e),λ b ps e=>?_⟩,I.loc,I.cell,?_,λ x c e=>?_,λ p hq=>?_,λ b u e=>?_,I.len⟩
 ·rw [zq (λ z=>by rw [z,h0] at e;cases e)]
  exact I.base.free b u e n hx
 ·obtain ⟨more,q⟩:=I.base.tbls b ps e
  exact ⟨more,up _ _ q⟩
 ·rw [zq (Ne.symm hL)];exact I.free
 ·rw [zq (hC x c e)];exact I.freeC x c e
 ·obtain ⟨e,n,r⟩:=I.pin p hq
  exact ⟨e,by rw [zq (hp p hq)];exact n,r⟩
 ·by_cases hb:b=D
  ·subst hb
   rw [zx] at e
   cases e
   exact new
  ·rw [zq hb] at e
   exact (I.hok b u e).stay (λ _ _ _ q=>q) (λ c q=>up _ _ q) λ c xs q=>up _ _ q
end
noncomputable def PF (X:Cx)(ifs:List Expr)(t:TT):Prop :=
 ∀ (pins:List (Addr×Obj)) (s:Shared) (σ:St) (H:Hp) (Q:Bool->Hp->Prop),Inv X pins σ H s->t σ H Q ->
  wpAny (model X.prog X.w) X.A (forIn ifs true λ c r=>if r=true then do let ok <- isTrue c X.env (eval c X.env);pure (ForInStep.yield ok) else pure (ForInStep.yield r)) (TP X pins σ Q) X.xe s
noncomputable def ON:TT:=λ _ H Q=>Q true H
theorem z1w {X:Cx}:PF X [] ON:=λ pins s σ H Q I h=>wpAny_tests_nil ⟨H,I,h⟩
theorem VU {X:Cx}{c:Expr}{t:TT}(h:PT X c t):PF X [c] t:=λ pins s σ H Q I q=>wpAny_tests_one (h pins s σ H Q I q)
theorem zW {osc scope:Scope}{N NC:List Str}{cap:List (Option Nat)}(h:j5 osc scope N NC cap=true) :
  scope.kind=.function/\(∀ y∈scope.names,y.2=.cell->scope.names.lookup y.1=some .cell)/\(∀ y∈scope.names,y.2=.local->scope.names.lookup y.1=some .local)/\(∀ y∈scope.names,y.2=.free->osc.names.lookup y.1=some .cell)/\cap.length=NC.length /\
  (∀ (j i:Nat),cap[j]?=some (some i)->∃ x,NC[j]?=some x/\N[i]?=some x/\scope.names.lookup x=some .free)/\∀ (j:Nat) (x:Str),cap[j]?=some none->NC[j]?=some x->scope.names.lookup x=some .local\/scope.names.lookup x=some .cell:=by
 unfold j5 at h
 simp only [Y0o,Y10,bne_iff_ne,ne_eq,Bool.or_eq_true,beq_iff_eq,Y35] at h
 obtain ⟨⟨⟨⟨⟨h1,h2⟩,h3⟩,h4⟩,h5⟩,h6⟩:=h
 refine ⟨h1,λ y hy e=>(h2 y hy).resolve_left λ z=>z e,λ y hy e=>(h3 y hy).resolve_left λ z=>z e,λ y hy e=>(h4 y hy).resolve_left λ z=>z e,h5,λ j i e=>?_,λ j x e ex=>?_⟩
 ·have hj:j<NC.length:=by rw [<- h5];exact (Y0c.mp e).1
  have q:=h6 j hj
  rw [e] at q
  cases ex:NC[j]? with
  | none=>rw [ex] at q;simp at q
  | some x =>
   rw [ex] at q
   simp only [Y0o,beq_iff_eq] at q
   exact ⟨x,rfl,q.1,q.2⟩
 ·have hj:j<NC.length:=(Y0c.mp ex).1
  have q:=h6 j hj
  rw [e,ex] at q
  simpa using q
section
variable {X:Cx}{pins:List (Addr×Obj)}{σ:St}{H₂:Hp}{s₂:Shared}{scope:Scope}{NC:List Str}{cap:List (Option Nat)}{fp:List Addr}
theorem QS {C D:Addr}{h₁:Heap}{tk:Nat}{o:Obj}{xe:Value->Shared->Prop}(I:Inv X pins σ H₂ s₂)(hc:X.calm=true)(cok:j5 X.env.scope scope X.N NC cap=true)(f2:∀ b∈fp,ym X pins H₂ b)(hfp:∀ b∈fp,∃ o,s₂.heap.get? b=some o)
  (hD:D=s₂.heap.objs.size) (hC:C=s₂.heap.objs.size+1) (old:∀ b o,s₂.heap.get? b=some o->h₁.get? b=some o) (hacc:h₁.get? D=some o) (ho:∀ v,o.data≠.cell v) {m:Str->Option Value} (ns:h₁.Ns C m) (own:CellsOk h₁ (C+1) (cellsFrom (C+1) scope.names [])) :
  Inv (zr X NC scope C s₂ H₂ fp [] xe) [(D,o)] (q9 cap σ) H₂ { s₂ with heap:=h₁,toks:=tk }:=by
 obtain ⟨c1,c2,c3,c4,c5,c6,c7⟩:=zW cok
 have hfree:∀ y∈scope.names,y.2=.free->∃ c,X.env.cells.lookup y.1=some c:=λ y hy e=>I.ok.has y.1 (.inl (c4 y hy e))
 have clx:∀ x c,(WZ scope X.env).lookup x=some c->X.env.cells.lookup x=some c:=λ x c e=>by
  rcases Q0 hfree (Y0t e) with z | z
  ·simp at z
  ·exact z
 have ccx:∀ x c,(j9 scope C X.env).lookup x=some c->(cellsFrom (C+1) scope.names []).lookup x=some c\/X.env.cells.lookup x=some c:=λ x c e=>(VT e).imp id λ z=>clx x c z.2
 have hrel:∀ x,(compEnvC scope (j9 scope C X.env) C X.env).kindOf x=(scope.names.lookup x).map λ k=>if k=.free then .cell else k:=λ x=>wI (scope:=scope) I.ok.kind λ y hy e=>c4 y hy e
 have fresh:∀ b,s₂.heap.objs.size<=b->s₂.heap.get? b=none:=λ b hb=>Y22 hb
 have sz:s₂.heap.objs.size<=C:=by rw [hC];exact Y2g _
 have szD:s₂.heap.objs.size<=D:=by rw [hD];exact Y03 _
 have ownF:∀ x c,(cellsFrom (C+1) scope.names []).lookup x=some c->s₂.heap.get? c=none/\s₂.heap.objs.size<=c:=λ x c e=>by
  have q:=(own.empty x c (Y0t e)).2
  have q2:s₂.heap.objs.size<=c:=by rw [hC] at q;omega
  exact ⟨fresh c q2,q2⟩
 have cloF:∀ x c,X.env.cells.lookup x=some c->c<s₂.heap.objs.size:=λ x c e=>by
  obtain ⟨v,q⟩:=I.cell x c e
  exact q.lt
 have inj:∀ x y c,(j9 scope C X.env).lookup x=some c->(j9 scope C X.env).lookup y=some c->x=y:=λ x y c e1 e2=>by
  rcases ccx x c e1 with z1 | z1<;>rcases ccx y c e2 with z2 | z2
  ·exact name_of_addr own.apart (Y0t z1) (Y0t z2)
  ·exact absurd (cloF y c z2) (Nat.not_lt.mpr (ownF x c z1).2)
  ·exact absurd (cloF x c z1) (Nat.not_lt.mpr (ownF y c z2).2)
  ·exact I.ok.inj x y c z1 z2
 have exC:∀ b∈fp,b≠C:=λ b hb z=>by
  obtain ⟨o,e⟩:=hfp b hb
  rw [z,fresh C sz] at e;cases e
 have exD:∀ b∈fp,b≠D:=λ b hb z=>by
  obtain ⟨o,e⟩:=hfp b hb
  rw [z,fresh D szD] at e;cases e
 refine ⟨⟨I.ok.mod,c1,I.ok.glob,I.ok.blt,sz,inj,λ x hx=>?_,λ x c z e=>?_,λ _=>I.ok.hd hc,I.ok.frames,.inl rfl,λ b hb=>⟨exC b hb,λ x c e=>?_⟩,
  I.bs,Y11 I.ok.bsz I.sz,λ b o e z=>?_,λ b hb z=>?_,I.stack,I.stkFree⟩,rfl,I.bare,Un.kept old,⟨m,ns,λ j x v e1 e2 e3=>?_⟩,λ x c e=>?_,I.hok.fresh sz,λ x c e=>?_,λ p hp=>?_,I.hok.kept old,?_⟩
 ·rw [hrel] at hx
  have hxf:scope.names.lookup x=some .free\/scope.names.lookup x=some .cell:=by
   cases e:scope.names.lookup x with
   | none=>rw [e] at hx;simp at hx
   | some k =>
    rw [e] at hx
    by_cases hk:k=.free
    ·rw [hk];exact .inl rfl
    ·simp only [Y29,if_neg hk,Option.some.injEq] at hx
     rcases hx with z | z
     ·rw [z];exact .inr rfl
     ·exact absurd z hk
  rcases hxf with hxf | hxf
  ·obtain ⟨c,hm⟩:=Zq (env:=X.env) (cs:=[]) (Y0t hxf)
   obtain ⟨c',hl⟩:=j4 hm
   exact Y27.mp (Y1u _ _ _ (.inr (by rw [show (WZ scope X.env).lookup x=some c' from hl];rfl)))
  ·exact Y27.mp (Y1u _ _ _ (.inl hxf))
 ·have hx:scope.names.lookup x=some .cell:=by simpa using z
  obtain ⟨c',hl⟩:=Y27.mp (Y1u (x:=x) scope.names (C+1) [] (.inl hx))
  have e':(j9 scope C X.env).lookup x=some c:=e
  rw [z1u hl] at e'
  cases e'
  exact (ownF x _ hl).2
 ·rcases ccx x c e with z | z
  ·intro q
   obtain ⟨o,eb⟩:=hfp b hb
   rw [<- q,(ownF x c z).1] at eb
   cases eb
  ·exact (f2 b hb).2.2.2.2.1 x c z
 ·obtain ⟨e1,e2⟩:=I.bs b o e
  have:=(f2 b z).2.2.2.1
  rcases this with q | q
  ·exact I.ok.noex b o e q
  ·exact absurd (Y0g (Y07 (I.ok.bs b o e).1) q) (Y14 _)
 ·rcases Y0d.mp (I.stkSub b z) with q | q
  ·exact (f2 b hb).2.1 q
  ·exact (f2 b hb).2.2.1 q
 ·have ej:cap[j]?=some ((some ((cap[j]?.bind id).getD 0):Option Nat)):=by
   unfold q9 at e2
   rw [Y0k] at e2
   cases q:cap[j]? with
   | none=>rw [q] at e2;simp at e2
   | some oo =>
    rw [q] at e2
    cases oo with
    | none=>simp at e2
    | some i=>simp
  generalize ((cap[j]?.bind id).getD 0)=i at ej
  obtain ⟨y,y1,y2,y3⟩:=c6 j i ej
  have:y=x:=Option.some.inj (y1.symm.trans e1)
  subst this
  have ev:σ[i]?=some (some v):=by
   unfold q9 at e2
   rw [Y0k,ej] at e2
   simp only [Y29,Y3j,Option.some.injEq] at e2
   cases q:σ[i]? with
   | none=>rw [q] at e2;simp at e2
   | some w=>rw [q] at e2;simp at e2;rw [e2]
  have kc:X.env.scope.names.lookup y=some .cell:=c4 (y,.free) (Y0t y3) rfl
  obtain ⟨m',hn',hl'⟩:=I.loc
  obtain ⟨u,r,q⟩:=hl' i y v y2 ev (.inr (.inl kc))
  refine ⟨u,r,.inr ⟨.inl (by rw [hrel,y3];rfl),?_⟩⟩
  rcases q with ⟨k,_⟩ | ⟨k,c,e,z⟩
  ·rw [show X.env.kindOf y=some .cell from kc] at k;cases k
  ·obtain ⟨c',hm⟩:=Zq (env:=X.env) (cs:=[]) (Y0t y3)
   obtain ⟨c'',hl⟩:=j4 hm
   have:=clx y c'' hl
   rw [e] at this
   cases this
   obtain ⟨oc,h1,h2⟩:=z
   refine ⟨c,z1v hl ?_,oc,old c oc h1,h2⟩
   cases eo:(cellsFrom (C+1) scope.names []).lookup y with
   | none=>rfl
   | some c2' =>
    have q1:=c2 (y,.cell) (wb (Y0t eo)) rfl
    rw [y3] at q1
    cases q1
 ·rcases ccx x c e with z | z
  ·exact ⟨none,(own.empty x c (Y0t z)).1⟩
  ·obtain ⟨v,oc,h1,h2⟩:=I.cell x c z
   exact ⟨v,oc,old c oc h1,h2⟩
 ·rcases ccx x c e with z | z
  ·exact I.hok.fresh (ownF x c z).2
  ·exact I.freeC x c z
 ·have e:p=(D,o):=by simpa using hp
  subst e
  refine ⟨hacc,I.hok.fresh szD,λ z=>by rw [hC,hD] at z;exact absurd z (Y0f (Y24 _)),λ z=>?_,ho⟩
  obtain ⟨_,ob,e,_⟩:=I.stack.mem z
  rw [fresh D szD] at e;cases e
 ·unfold q9
  rw [Y0j]
  exact c5
theorem Zs {C:Addr}{pn pc:List (Addr×Obj)}{σ':St}{H':Hp}{s':Shared}{h':Heap}{xe:Value->Shared->Prop}(I:Inv X pins σ H₂ s₂)(f2:∀ b∈fp,ym X pins H₂ b)(hC:C=s₂.heap.objs.size+1)
  (J:Inv (zr X NC scope C s₂ H₂ fp pn xe) pc σ' H' s') (sb:Heap.SameBut C s'.heap h'):Inv X pins σ H' { s' with heap:=h' }:=by
 have fC:s₂.heap.get? C=none:=Y22 (by rw [hC];exact Y2g _)
 have nC:∀ b o,s₂.heap.get? b=some o->b≠C:=λ b o e z=>by rw [z,fC] at e;cases e
 have u:Un (frs X.stack) fp H₂ H' s₂.heap h':=by
  have v:Un (frs X.stack) fp H₂ H' s₂.heap s'.heap:=J.base
  refine ⟨λ b o e n hb hx=>(sb.2 b (nC b o e)).trans (v.keep b o e n hb hx),λ b o e n hb hx=>?_,v.free,λ b o e hx=>?_,v.tups,v.frzs,v.tbls⟩
  ·obtain ⟨sl,q⟩:=v.slot b o e n hb hx
   exact ⟨sl,(sb.2 b (nC b o e)).trans q⟩
  ·obtain ⟨o',q⟩:=v.there b o e hx
   exact ⟨o',(sb.2 b (nC b o e)).trans q⟩
 have hok:HOk X.prog X.w H' h':=λ b o e=>by
  refine (J.hok b o e).stay (λ c w hc q=>(sb.2 c λ z=>?_).trans q) (λ _ q=>q) λ _ _ q=>q
  have fr:H' C=none:=J.free
  subst z
  rcases hc with rfl | hc
  ·rw [fr] at e;cases e
  ·rw [fr] at hc;cases hc
 exact I.call' (s':={ s' with heap:=h' }) (ch:=fp) J.os u hok J.bare λ b hb=>⟨(f2 b hb).2.2.2.1,(f2 b hb).2.1,(f2 b hb).2.2.2.2.1,(f2 b hb).2.2.2.2.2⟩
end
end L2
namespace L2
open PySem PySem.Spec PyProof.Rows
noncomputable def Weak (σ σ':St):Prop:=σ'.length=σ.length/\∀ (i:Nat) v,σ[i]?=some (some v)->σ'[i]?=some (some v)
section
variable {prog:Program}{w:World}{A:Around}{R:Result->Shared->Prop}{s:Shared}
theorem Wf {elt target iter:Expr}{ifs:List Expr}{scope:Scope}{pos:Pos}{it acc:Value}{env:Env}(I:Nat->Shared->Prop)
  (turn:∀ n s,I n s->wpAny (model prog w) A (pyNext it) (λ r s₁=>match r with
   | none=>R (.ok .next) s₁
   | some v=>wpAny (model prog w) A (letOwnedTupleGo target it v) (λ _ s₁'=>wpAny (model prog w) A (assign target env v) (λ _ s₂ =>
     wpAny (model prog w) A (forIn ifs true λ c r=>if r=true then do let ok <- isTrue c env (eval c env);pure (ForInStep.yield ok) else pure (ForInStep.yield r)) (λ ok s₃ =>
      if ok=true then wpAny (model prog w) A (eval elt env) (λ x s₄ =>
       wpAny (model prog w) A (call (.builtin "list.append") [acc,x]) (λ _ s₅=>∃ m,m<n/\I m s₅) (notedBy (model prog w) A env λ e s'=>R (.error e) s') s₄) (notedBy (model prog w) A env λ e s'=>R (.error e) s') s₃
      else ∃ m,m<n/\I m s₃) (notedBy (model prog w) A env λ e s'=>R (.error e) s') s₂) (notedBy (model prog w) A env λ e s'=>R (.error e) s') s₁') (notedBy (model prog w) A env λ e s'=>R (.error e) s') s₁) (notedBy (model prog w) A env λ e s'=>R (.error e) s') s)
  (n:Nat) (h:I n s):codeAny (model prog w) A (.compLoop (.ListComp elt [⟨target,iter,ifs,0⟩] scope pos) 0 it acc env) R s:=by
 refine codeAny_loop rfl I (λ n s hI=>?_) n h
 show wpAny _ A ((compTurn (.ListComp elt [⟨target,iter,ifs,0⟩] scope pos) 0 it acc env).onRaise (λ x=>do noteFrame x env;theTreesLotGoes x)) _ _ s
 refine wpAny_noted ?_
 rw [compTurn_list]
 refine wpAny_bind (wpAny_standAt (wpAny_bind (wpAny_mono (turn n s hI) (λ r s₁ h₁=>?_) λ _ _ h'=>h')))
 cases r with
 | none=>exact wpAny_pure h₁
 | some v =>
  refine wpAny_bind (wpAny_mono h₁ (λ _ s₁' h₁'=>?_) λ _ _ h'=>h')
  refine wpAny_bind (wpAny_mono h₁' (λ _ s₂ h₂=>wpAny_bind (wpAny_mono h₂ (λ ok s₃ h₃=>?_) λ _ _ h'=>h')) λ _ _ h'=>h')
  cases ok with
  | false=>exact wpAny_pure ⟨rfl,h₃⟩
  | true =>
   exact wpAny_bind (wpAny_bind (wpAny_mono h₃ (λ x s₄ h₄=>wpAny_bind (wpAny_mono h₄ (λ _ s₅ h₅=>wpAny_pure (wpAny_pure ⟨rfl,h₅⟩)) λ _ _ h'=>h')) λ _ _ h'=>h'))
end
section
variable {X:Cx}{σ:St}{H:Hp}{s:Shared}
theorem Inv.repin {D:Addr}{o o':Obj}{h':Heap}(I:Inv X [(D,o)] σ H s)(hpn:∀ p∈X.pn,p.1≠D)(h0:X.s₀.heap.objs.size<=D)(ho':∀ v,o'.data≠.cell v)(sb:Heap.SameBut D s.heap h')(e':h'.get? D=some o') :
  Inv X [(D,o')] σ H { s with heap:=h' }:=by
 obtain ⟨e,n,ne,nf,d⟩:=I.pin (D,o) (Y0p _ (by simp))
 have I0:Inv X [] σ H s:=I.pins_of λ p hp=>absurd hp (by simp)
 have I1:Inv X [] σ H { s with heap:=h' }:=I0.turned (t':=s.toks) (it:=D) (λ b u hb q=>(sb.2 b hb).trans q) n ne (.inr h0) (λ x c ec z=>by
  obtain ⟨v,oc,h1,h2⟩:=I.cell x c ec
  subst z
  rw [e] at h1;cases h1
  exact d v h2) λ p hp=>hpn p (by simpa using hp)
 refine I1.pins_of λ p hp=>?_
 have q:p=(D,o'):=by simpa using hp
 subst q
 exact ⟨e',n,ne,nf,ho'⟩
end
section
variable {X:Cx}{pins:List (Addr×Obj)}{σ:St}{H₂:Hp}{s₂:Shared}{scope:Scope}{NC:List Str}{cap:List (Option Nat)}{fp:List Addr}{elt tg iter:Expr}{ifs:List Expr}{pos:Pos}{Z:ZK}{J:It}{it:Addr}{tn:Nat->Heap->Prop}
 {g:TG}{tf:TT}{te:TE}{use:Option (Value->Sem Unit)}{Qv:Value->Shared->Prop}
theorem JB (hc:X.calm=true)(th:Thr X Z)(I:Inv X pins σ H₂ s₂)(T:Turn X.prog X.w X.K tg J fp it tn)(st2:tn 0 s₂.heap)(f2:∀ b∈fp,ym X pins H₂ b)(cok:j5 X.env.scope scope X.N NC cap=true)
  (hg:∀ C pn xe,PG (zr X NC scope C s₂ H₂ fp pn xe) tg g)
  (hf:∀ C pn xe,Thr (zr X NC scope C s₂ H₂ fp pn xe) (λ _ C' H'=>Z σ C' H')->PF (zr X NC scope C s₂ H₂ fp pn xe) ifs tf)
  (hb:∀ C pn xe,Thr (zr X NC scope C s₂ H₂ fp pn xe) (λ _ C' H'=>Z σ C' H')->PE (zr X NC scope C s₂ H₂ fp pn xe) elt te)
  (W:Nat->Nat->List V->Hp->Prop) (m0:Nat) (w0:W 0 m0 [] H₂) {Fn:List V->Hp->Prop}
  (turn:∀ i m ys H2,W i m ys H2->(J.stop i H2/\Fn ys H2)\/(J.go i H2/\ys.length<sizeLine/\∀ x H3,J.yld i H2 x H3->g x (q9 cap σ) H3 λ σ4 H4=>Weak (q9 cap σ) σ4/\tf σ4 H4 λ b H5 =>
   if b=true then te σ4 H5 λ y H6=>∃ m',m'<m/\W (i+1) m' (ys++[y]) H6 else ∃ m',m'<m/\W (i+1) m' ys H5))
  (fin:∀ (C D:Addr) (s':Shared) (H':Hp) (ys:List V) (us:List Value) (n:Nat),Fn ys H'->Vals ys us->s'.heap.get? D=some { cls:=.type "list",data:=.seq us.toArray n }->H' D=none->H' C=none->D=s₂.heap.objs.size->C=s₂.heap.objs.size+1 ->
   (∃ m,s'.heap.Ns C m)->(∀ h',Heap.SameBut C s'.heap h'->Inv X pins σ H' { s' with heap:=h' })->compPost (model X.prog X.w) X.A X.xe use Qv (.ref D) C (.ok .next) s') :
  wpAny (model X.prog X.w) X.A (newList []) (λ acc s₃=>wpAny (model X.prog X.w) X.A (newFunctionEnv scope X.env.globals (WZ scope X.env) [] X.env.qual none .none (some X.env)) (λ cenv s₄ =>
   codeAny (model X.prog X.w) X.A (.compStart (.ListComp elt [⟨tg,iter,ifs,0⟩] scope pos) 0 (.ref it) acc { cenv with scope:=relabel scope X.env }) (compPost (model X.prog X.w) X.A X.xe use Qv acc cenv.locals) s₄) X.xe s₃) X.xe s₂:=by
 obtain ⟨c1,c2,c3,c4,c5,c6,c7⟩:=zW cok
 refine wpAny_newObj_type (Zr ?_)
 dsimp only
 generalize hH2:s₂.heap.push { cls:=.type "list",dict:=none,data:=.seq ([]:List Value).toArray }=H2
 generalize hh1:pushCells (H2.push { cls:=.type "dict",data:=.dict #[] }) scope.names=h₁
 have hns₁:h₁.Ns H2.objs.size (λ _=>none):=hh1▸(Heap.Ns.new H2 (.type "dict")).keeps (pushCells_keeps _ _)
 have own₁:CellsOk h₁ (H2.objs.size+1) (cellsFrom (H2.objs.size+1) scope.names []):=by
  have ok:=cellsFrom_ok scope.names (H2.push { cls:=.type "dict",data:=.dict #[] }) (H2.objs.size+1) [] ⟨λ _ _ hm=>(nomatch hm),List.Pairwise.nil⟩ (by rw [Y1c];exact Y03 _)
  rw [Y1c,hh1] at ok
  exact ok
 have hC:H2.objs.size=s₂.heap.objs.size+1:=by rw [<- hH2,Y1c]
 have hDC:s₂.heap.objs.size≠H2.objs.size:=by rw [hC];exact Y0f (Y24 _)
 have below:∀ b,b<s₂.heap.objs.size->b≠H2.objs.size:=λ b hb=>by rw [hC];exact Y0f (Nat.lt_succ_of_lt hb)
 have old:∀ b o,s₂.heap.get? b=some o->h₁.get? b=some o:=λ b o e=>hh1▸pushCells_keeps _ _ _ _ (Y01 _ (hH2▸Y01 _ e))
 have hacc:h₁.get? s₂.heap.objs.size=some { cls:=.type "list",data:=.seq ([]:List Value).toArray 0 }:=hh1▸pushCells_keeps _ _ _ _ (Y01 _ (hH2▸Y0a _ rfl))
 have hfp:∀ b∈fp,∃ o,s₂.heap.get? b=some o:=λ b hb=>let ⟨o,e,_⟩:=T.obj _ _ st2 b hb;⟨o,e⟩
 have nodata:∀ (us:List Value) (n:Nat) v,({ cls:=.type "list",data:=.seq us.toArray n }:Obj).data≠.cell v:=λ us n v z=>by cases z
 have fpD:∀ b∈fp,b≠s₂.heap.objs.size:=λ b hb z=>by
  obtain ⟨o,e⟩:=hfp b hb
  exact absurd (Y07 e) (by rw [z];exact Y14 _)
 generalize hEn:(notedBy (model X.prog X.w) X.A (compEnvC scope (j9 scope H2.objs.size X.env) H2.objs.size X.env) λ e s'=>compPost (model X.prog X.w) X.A X.xe use Qv (.ref s₂.heap.objs.size) H2.objs.size (.error e) s')=En
 have loop:∀ s₃:Shared,s₃={ s₂ with heap:=h₁,toks:=s₂.toks } ->
   codeAny (model X.prog X.w) X.A (.compLoop (.ListComp elt [⟨tg,iter,ifs,0⟩] scope pos) 0 (.ref it) (.ref s₂.heap.objs.size) (compEnvC scope (j9 scope H2.objs.size X.env) H2.objs.size X.env))
    (compPost (model X.prog X.w) X.A X.xe use Qv (.ref s₂.heap.objs.size) H2.objs.size) s₃:=by
  rintro s₃ rfl
  refine Wf (λ k s'=>∃ i ys us n H',Vals ys us/\W i k ys H'/\tn i s'.heap/\(∀ b∈fp,H' b=none) /\
   Inv (zr X NC scope H2.objs.size s₂ H₂ fp [] En) [(s₂.heap.objs.size,{ cls:=.type "list",data:=.seq us.toArray n })] (q9 cap σ) H' s') ?_ m0
   ⟨0,[],[],0,H₂,.nil,w0,T.keep _ _ _ st2 λ b _ o e=>old b o e,λ b hb=>(f2 b hb).1,QS I hc cok f2 hfp rfl hC old hacc (nodata _ _) hns₁ own₁⟩
  rw [hEn]
  rintro k s' ⟨i,ys,us,n,H',rv,w,st,fr,Ic⟩
  have Fp:∀ {H':Hp}{us:List Value}{n:Nat},(∀ b∈fp,H' b=none)->∀ b∈fp,ym (zr X NC scope H2.objs.size s₂ H₂ fp [] En) [(s₂.heap.objs.size,({ cls:=.type "list",data:=.seq us.toArray n }:Obj))] H' b:=λ {H' us n} hn b hb=>by
   have q:=Ic.ok.exf b hb
   refine ⟨hn b hb,q.1,λ z=>Ic.ok.exfs b hb z,.inl hb,q.2,λ p hp=>?_⟩
   have e:p=(s₂.heap.objs.size,({ cls:=.type "list",data:=.seq us.toArray n }:Obj)):=by simpa using hp
   subst e
   exact (fpD b hb).symm
  rcases turn i k ys H' w with ⟨stop,q⟩ | ⟨go,hlen,step⟩
  ·refine wpAny_mono (T.done (zr X NC scope H2.objs.size s₂ H₂ fp [] En) rfl rfl rfl rfl i _ s' _ H' En Ic (Fp fr) st stop) (λ r s4 h4=>?_) λ _ _ x=>x
   obtain ⟨hr,I4⟩:=h4
   subst hr
   obtain ⟨m,ns,_⟩:=id I4.loc
   obtain ⟨p1,p2,_⟩:=I4.pin _ (Y0p _ (Y0m.mpr rfl))
   exact fin _ _ s4 H' ys us n q rv p1 p2 I4.free rfl hC ⟨m,ns⟩ λ h' sb=>Zs I f2 hC I4 sb
  ·refine wpAny_mono (T.item (zr X NC scope H2.objs.size s₂ H₂ fp [] En) rfl rfl rfl rfl i _ s' _ H' En Ic (Fp fr) st go) (λ r s4 h4=>?_) λ _ _ x=>x
   obtain ⟨u,hr,h4⟩:=h4
   subst hr
   refine wpAny_mono h4 (λ _ s5 h5=>?_) λ _ _ x=>x
   obtain ⟨x,H5,I5,r5,y5,st5,fr5⟩:=h5
   have I5':Inv (zr X NC scope H2.objs.size s₂ H₂ fp (wV fp s5.heap) En) [(s₂.heap.objs.size,{ cls:=.type "list",data:=.seq us.toArray n })] (q9 cap σ) H5 s5 :=
    (I5.pinned (Fp fr5) (T.obj _ _ st5)).repn λ p hp=>by
     rcases Y2b.mp hp with z | z
     ·exact Y0p _ (Y0p _ z)
     ·exact Y0p _ (Y1b _ z)
   have okx:XOk (zr X NC scope H2.objs.size s₂ H₂ fp (wV fp s5.heap) En):=by
    obtain ⟨top,outer,L,e1,e2,e3⟩:=th.top
    exact ⟨⟨top,outer,L,e1,e2,e3⟩,λ b hb=>let ⟨o,e,_⟩:=T.obj _ _ st5 b hb;⟨o,jN hb e⟩⟩
   have thx:Thr (zr X NC scope H2.objs.size s₂ H₂ fp (wV fp s5.heap) En) (λ _ C' H'=>Z σ C' H'):=by
    refine ⟨okx,?_⟩
    rintro e s6 ⟨a,C',T',σ6,H6,rfl,I6,F6,z6⟩
    show En (.ref a) s6
    rw [<- hEn]
    unfold notedBy
    refine I6.note okx F6 I6.ok.frames rfl λ h7 t7 I7 F7=>?_
    obtain ⟨m,ns,_⟩:=id I7.loc
    have fin7:∃ m,h7.Ns H2.objs.size m/\∀ h',Heap.SameBut H2.objs.size h7 h'->∀ cenv:Env,cenv.locals=H2.objs.size->wpAny (model X.prog X.w) X.A (passOn "comprehension.variables-let-go" (.ref a) cenv:Sem Value) (λ _ _=>False) X.xe { s6 with heap:=h' }:=by
     refine ⟨m,ns,λ h' sb cenv _=>?_⟩
     have I8:Inv X pins σ H6 { s6 with heap:=h' }:=Zs (s':={ s6 with heap:=h7 }) I f2 hC I7 sb
     have F8:Fly X pins H6 h' a C' (some t7):=by
      refine ⟨F7.fl.at λ b hb o e=>(sb.2 b λ z=>?_).trans e,λ b hb=>?_⟩
      ·obtain ⟨o',vs,e1,e2⟩:=F7.fl.rec b hb
       obtain ⟨oC,es,ep,e3,e4,_⟩:=ns
       subst z
       have q:o'=oC:=Option.some.inj (e1.symm.trans e3)
       rw [q] at e2
       have q2:=e2.symm.trans e4
       cases q2
      ·obtain ⟨o1,o2,_⟩:=F7.ow b hb
       exact I.ow th.toXOk (.inr trivial) o2 o1
     exact I8.passOn F8 λ h9 I9 F9=>th.go I9 F9 z6
    show compPost _ _ _ _ _ _ _ (.error (.ref a)) _
    cases use<;>exact fin7
   refine wpAny_mono (hg _ _ En _ s5 _ H5 x u _ I5' r5 (step x H5 y5)) (λ _ s6 h6=>?_) λ _ _ x=>x
   obtain ⟨σ6,H6,I6,wk,q6⟩:=h6
   refine wpAny_mono (hf _ _ En thx _ s6 σ6 H6 _ I6 q6) (λ b s7 h7=>?_) λ _ _ x=>x
   obtain ⟨H7,I7,q7⟩:=h7
   have back:∀ {s8:Shared}{H8:Hp}{ys':List V}{us':List Value}{n' m':Nat},Inv (zr X NC scope H2.objs.size s₂ H₂ fp (wV fp s5.heap) En) [(s₂.heap.objs.size,{ cls:=.type "list",data:=.seq us'.toArray n' })] σ6 H8 s8->Vals ys' us'->m'<k->W (i+1) m' ys' H8 ->
     ∃ m,m<k/\∃ i ys us n H',Vals ys us/\W i m ys H'/\tn i s8.heap/\(∀ b∈fp,H' b=none)/\Inv (zr X NC scope H2.objs.size s₂ H₂ fp [] En) [(s₂.heap.objs.size,{ cls:=.type "list",data:=.seq us.toArray n })] (q9 cap σ) H' s8:=by
    intro s8 H8 ys' us' n' m' I8 rv8 hm w8
    refine ⟨m',hm,i+1,ys',us',n',H8,rv8,w8,T.keep _ _ _ st5 λ b hb o e=>(I8.pin (b,o) (Y1b _ (jN hb e))).1,λ b hb=>?_,?_⟩
    ·obtain ⟨o,e,d⟩:=T.obj _ _ st5 b hb
     exact (I8.pin (b,o) (Y1b _ (jN hb e))).2.1
    ·have I9:=I8.weak (σ':=q9 cap σ) wk.1.symm wk.2
     exact I9.repn λ p hp=>Y0p _ (by simpa using hp)
   cases b with
   | false =>
    obtain ⟨m',hm,w8⟩:=q7
    exact back I7 rv hm w8
   | true =>
    refine wpAny_mono (hb _ _ En thx _ s7 σ6 H7 _ I7 q7) (λ y s8 h8=>?_) λ _ _ x=>x
    obtain ⟨v,H8,I8,rv8,m',hm,w8⟩:=h8
    obtain ⟨p1,p2,_⟩:=I8.pin _ (Y0p _ (Y0m.mpr rfl))
    have hlu:us.length=ys.length:=rv.length.symm
    refine append_at p1 (hsz:=by show us.toArray.size<=sizeLine;rw [Y09,hlu];exact Y2h hlen) λ h9 sb9 e9=>?_
    rw [List.push_toArray] at e9
    have I9:=I8.repin (λ p hp=>by
     have q:=(Jp hp).1
     exact fpD _ q) (Y03 _) (nodata _ _) sb9 e9
    exact back I9 (rv.append (.cons rv8 .nil)) hm w8
 exact codeAny_compStart_list (loop _ rfl) (T.self _ 0 _ _ _ (T.keep _ _ _ st2 λ b _ o e=>old b o e) (loop _ rfl))
end
noncomputable def z3y (J:It)(H1:Hp)(cap:List (Option Nat))(σ:St)(g:TG)(tf:TT)(te:TE)(Q:VK):Prop:=∃ W:Nat->Nat->List V->Hp->Prop,(∃ m,W 0 m [] H1)/\∀ i m ys H2,W i m ys H2 ->
 (J.stop i H2/\ys.length<=sizeLine/\∀ p,H2 p=none->Q (.ref p) (upd H2 p (.lst ys))) \/
 (J.go i H2/\ys.length<sizeLine/\∀ x H3,J.yld i H2 x H3->g x (q9 cap σ) H3 λ σ4 H4=>Weak (q9 cap σ) σ4/\tf σ4 H4 λ b H5 =>
  if b=true then te σ4 H5 λ y H6=>∃ m',m'<m/\W (i+1) m' (ys++[y]) H6 else ∃ m',m'<m/\W (i+1) m' ys H5)
noncomputable def VW (Z:ZK)(cap:List (Option Nat))(wi:TI)(g:TG)(tf:ZK->TT)(te:ZK->TE):TE:=λ σ H Q=>wi σ H λ J H1=>z3y J H1 cap σ g (tf (λ _ C H'=>Z σ C H')) (te (λ _ C H'=>Z σ C H')) Q
section
variable {X:Cx}{scope:Scope}{NC:List Str}{cap:List (Option Nat)}{elt tg iter:Expr}{ifs:List Expr}{pos:Pos}{Z:ZK}{wi:TI}{g:TG}{tf:ZK->TT}{te:ZK->TE}
theorem OO (hc:X.calm=true)(th:Thr X Z)(hi:PI X tg iter wi)(cok:j5 X.env.scope scope X.N NC cap=true)
  (hg:∀ C s H fp pn xe,PG (zr X NC scope C s H fp pn xe) tg g)
  (hf:∀ C s H fp pn xe Zc,Thr (zr X NC scope C s H fp pn xe) Zc->PF (zr X NC scope C s H fp pn xe) ifs (tf Zc))
  (hb:∀ C s H fp pn xe Zc,Thr (zr X NC scope C s H fp pn xe) Zc->PE (zr X NC scope C s H fp pn xe) elt (te Zc))
  (hs:∀ x,foldedSetIterable iter X.env x=pure x:=by intro _;rfl):PE X (.ListComp elt [⟨tg,iter,ifs,0⟩] scope pos) (VW Z cap wi g tf te):=by
 intro pins s σ H Q I h
 obtain ⟨c1,c2,c3,c4,c5,c6,c7⟩:=zW cok
 rw [eval_ListComp]
 refine wpAny_comprehension_free (use:=none) rfl hs (Zp λ y hy e=>I.ok.has y.1 (.inl (c4 y hy e))) c1 c3 (thn (hi pins s σ H _ I h) λ xv s₁ h₁=>thn h₁ λ itv s₂ h₂=>?_)
 obtain ⟨it,fp,tn,J,H2,rfl,I2,T,st2,f2,W,⟨m0,w0⟩,turn⟩:=h₂
 refine JB hc th I2 T st2 f2 cok (λ C pn xe=>hg C s₂ H2 fp pn xe) (λ C pn xe t=>hf C s₂ H2 fp pn xe _ t) (λ C pn xe t=>hb C s₂ H2 fp pn xe _ t) W m0 w0 turn ?_
 rintro C D s' H' ys us n ⟨hlen,q⟩ rv e hn _ rfl rfl ⟨m,ns⟩ lv
 refine ⟨m,ns,λ h' sb=>?_⟩
 have I':=lv h' sb
 have eD:h'.get? s₂.heap.objs.size=some { cls:=.type "list",data:=.seq us.toArray n }:=(sb.2 _ (Y0f (Y24 _))).trans e
 refine ⟨.ref s₂.heap.objs.size,_,I'.track (o:=.lst ys) hn (Y22 I2.sz) (Y1f I2.lt) (λ x c ec z=>?_) (λ p hp z=>?_) ⟨hlen,us,n,rv,eD⟩,rfl,q _ hn⟩
 ·obtain ⟨v,q⟩:=I2.cell x c ec
  exact absurd q.lt (by rw [z];exact Y14 _)
 ·exact absurd (Y07 (I2.pin p hp).1) (by rw [z];exact Y14 _)
end
end L2
namespace L2
open PySem PySem.Spec PyProof.Rows
section
variable {X:Cx}{Z:ZK}{x:Str}{C:Addr}{bmB:List Value}{B newId initId:String}{e₀:Expr}{qW:List Expr}{ta:TA}{np cpos pos:Pos}
end
noncomputable def VX (K:Y00)(c D:Addr):Prop:=(∃ bmB newId,PySem.W.excIn K c bmB newId=true)/\∃ oc dd cd sl,K.lookup c=some ⟨oc,dd,.cls cd,sl⟩/\cd.mro.contains (.ref D)=true
noncomputable abbrev YT (X:Cx)(pins:List (Addr×Obj))(xe:Value->Shared->Prop):Cx:={ X with pn:=X.pn++pins,xe:=xe }
noncomputable abbrev VY (X:Cx)(pins:List (Addr×Obj))(a:Addr):Cx:={ X with A:=X.A.mark (some (.ref a)),calm:=false,pn:=X.pn++pins,xe:=λ _ _=>False }
section
variable {X:Cx}{pins:List (Addr×Obj)}{σ:St}{H:Hp}{s:Shared}{xe:Value->Shared->Prop}{a:Addr}
end
section
variable {X:Cx}{Z:ZK}{x n:Str}{D:Addr}{bmB:List Value}{newId:String}{body suite:List Stmt}{b₀:Stmt}{tb:ZK->TS}{ts:TS}{np hpos pos:Pos}{j:Nat}
end
end L2
namespace L2
open PySem PySem.Spec PyProof.Rows
noncomputable def Its (x:Str):It:=⟨λ i _=>i<x.length,λ i H v H'=>H'=H/\∃ c,x.cps.toList[i]?=some c/\v=.str ⟨#[c]⟩,λ i _=>x.length<=i⟩
theorem QT {P:Program}{w:World}{K:Y00}{tg:Expr}(it:Addr)(x:Str)(t:Tok):Turn P w K tg (Its x) [it] it (λ i h=>h.IsStrIter it "str_ascii_iterator" x t i) where
 mem:=by simp
 obj:=λ i h st b hb=>by
  have e:b=it:=by simpa using hb
  subst e
  obtain ⟨o,e,c,d⟩:=st
  exact ⟨o,e,λ v z=>by rw [d] at z;cases z⟩
 keep:=λ i h h' st k=>let ⟨o,e,r⟩:=st;⟨o,k it (by simp) o e,r⟩
 item:=by
  intro X hP hw hK hc i pins s σ H E I hf st hg
  subst hP hw hK
  obtain ⟨f0,f1,f2,f3,f4,f5⟩:=hf it (by simp)
  have hg':i<x.cps.size:=hg
  refine wpAny_pyNext_ascii_item st (c:=x.cps[i]) (by simp [hg']) λ h' st' sb=>?_
  have I1:Inv X pins σ H { s with heap:=h',toks:=s.toks+1 }:=I.turned (λ b o hb e=>(sb.2 b hb).trans e) f0 f1 f3 f4 f5
  obtain ⟨o,e,c,d⟩:=id st'
  exact ⟨_,rfl,Zh (s:={ s with heap:=h',toks:=s.toks+1 }) e c d (by decide) ⟨.str ⟨#[x.cps[i]]⟩,H,I1,⟨_,rfl⟩,⟨rfl,x.cps[i],by simp [hg'],rfl⟩,st',λ b hb=>(hf b hb).1⟩⟩
 done:=by
  intro X hP hw hK hc i pins s σ H E I hf st hg
  subst hP hw hK
  obtain ⟨f0,f1,f2,f3,f4,f5⟩:=hf it (by simp)
  have hg':x.cps.size<=i:=hg
  exact wpAny_pyNext_ascii_end (I.ok.hd hc) st (by simp [hg']) λ h' eb=>⟨rfl,I.turned (t':=s.toks) (λ b o hb e=>eb b o hb e) f0 f1 f3 f4 f5⟩
 self:=λ _ _ _ _ _ st h=>wpAny_pyIter_striter_ascii st h
theorem UB {P:Program}{w:World}{K:Y00}{tg:Expr}(it:Addr)(x:Str)(t:Tok):Turn P w K tg (Its x) [it] it (λ i h=>h.IsStrIter it "str_iterator" x t i) where
 mem:=by simp
 obj:=λ i h st b hb=>by
  have e:b=it:=by simpa using hb
  subst e
  obtain ⟨o,e,c,d⟩:=st
  exact ⟨o,e,λ v z=>by rw [d] at z;cases z⟩
 keep:=λ i h h' st k=>let ⟨o,e,r⟩:=st;⟨o,k it (by simp) o e,r⟩
 item:=by
  intro X hP hw hK hc i pins s σ H E I hf st hg
  subst hP hw hK
  obtain ⟨f0,f1,f2,f3,f4,f5⟩:=hf it (by simp)
  have hg':i<x.cps.size:=hg
  refine wpAny_pyNext_wide_item st (c:=x.cps[i]) (by simp [hg']) λ h' st' sb=>?_
  have I1:Inv X pins σ H { s with heap:=h',toks:=s.toks+1 }:=I.turned (λ b o hb e=>(sb.2 b hb).trans e) f0 f1 f3 f4 f5
  obtain ⟨o,e,c,d⟩:=id st'
  exact ⟨_,rfl,Zh (s:={ s with heap:=h',toks:=s.toks+1 }) e c d (by decide) ⟨.str ⟨#[x.cps[i]]⟩,H,I1,⟨_,rfl⟩,⟨rfl,x.cps[i],by simp [hg'],rfl⟩,st',λ b hb=>(hf b hb).1⟩⟩
 done:=by
  intro X hP hw hK hc i pins s σ H E I hf st hg
  subst hP hw hK
  obtain ⟨f0,f1,f2,f3,f4,f5⟩:=hf it (by simp)
  have hg':x.cps.size<=i:=hg
  exact wpAny_pyNext_wide_end (I.ok.hd hc) st (by simp [hg']) λ h' eb=>⟨rfl,I.turned (t':=s.toks) (λ b o hb e=>eb b o hb e) f0 f1 f3 f4 f5⟩
 self:=λ _ _ _ _ _ st h=>wpAny_pyIter_striter_wide st h
section
variable {X:Cx}{tg:Expr}
theorem Zt:∀ {bs:List Bool}{us:List Value},Vals (bs.map V.bl) us->PyProof.Rows.LSm.BoolsAre us bs
 | [],_,r=>by cases r;exact .nil
 | b::bs,_,r=>by
  cases r with
  | cons r1 r2=>cases (show _=Value.bool b from r1);exact .cons b (Zt r2)
theorem VZ (hc:X.calm=true):CallR X (.builtin "all") (λ xs H Q=>∃ (p:Addr) (bs:List Bool),xs=[.ref p]/\SqL X.K H p (bs.map V.bl)/\Q (.bl (bs.all id)) H):=by
 intro pins s σ H xs us Q I r h
 obtain ⟨p,bs,rfl,hq,q⟩:=h
 obtain ⟨u,rfl,ru⟩:=wX r
 cases ru
 obtain ⟨its,rv,pl,hz⟩:=I.list hq
 have hb:=Zt rv
 have hl:s.heap.IsList p its.toArray:=pl.isList
 have hlt:p<s.heap.objs.size:=by obtain ⟨_,e,_⟩:=hl;exact Y07 e
 refine call_all_walk (wpAny_pyIter_list hl ?_)
 refine ⟨s.heap.objs.size,[s.heap.objs.size,p],[s.heap.objs.size],its.toArray.size,_,_,λ i=>(bs[i]?).getD true,rfl,Walks.list (A:=X.A.in1) (I.ok.hd hc) _ p (Y0f hlt) its.toArray,
  ⟨⟨_,Y0a _ rfl,rfl,rfl⟩,hl.push _⟩,λ i v s' Q' E' hP hQ=>?_,λ h' tk hk=>?_⟩
 ·obtain ⟨b,e,rfl⟩:=hb.get i v (by simpa using hP)
  simp only [e,Y3i] at hQ
  exact wpAny_truthy_bool hQ
 ·have e:((List.range its.toArray.size).all λ i=>(bs[i]?).getD true)=bs.all id:=by
   rw [Y09,hb.length];exact PyProof.Rows.LSm.range_all bs
  rw [e]
  exact ⟨.bl (bs.all id),H,I.kept (PyProof.Rows.LSm.kept_iter hk),rfl,q⟩
theorem UC:CallR X (.type "int") (λ xs H Q=>∃ x n,xs=[.str x]/\PySem.intText? x=some n/\x.length<=640/\Q (.int n) H):=by
 intro pins s σ H xs us Q I r h
 obtain ⟨x,n,rfl,hn,hl,q⟩:=h
 obtain ⟨u,rfl,t,rfl⟩:=wX r
 exact PySem.W.KIN.call_text hn hl ⟨.int n,H,I.tok _,⟨_,rfl⟩,q⟩
end
end L2
namespace L2
open PySem PySem.Spec PyProof.Rows
noncomputable def z3z (X:Cx)(st:List Stmt)(t:TS):Prop :=
 ∀ (pins:List (Addr×Obj)) (s:Shared) (σ:St) (H:Hp) (D:Ends),Inv X pins σ H s->0<s.toks->t D σ H->wpAny (model X.prog X.w) X.A (execs st X.env) (SP X pins D) X.xe s
section
variable {X:Cx}{e o:Expr}{t to:TE}{st:Stmt}{qW:List Stmt}{tS u:TS}{apos cpos pos p1 p2:Pos}{c d:Str}{k1 k2:Nat}
end
end L2
namespace L2
open PySem PySem.Spec PyProof.Rows
structure Walk (J:It)(xs:List V)(Pv:Hp->Prop):Prop where
 stop:∀ H,Pv H->J.stop xs.length H
 go:∀ i H,i<xs.length->Pv H->J.go i H
 yld:∀ i H x H',i<xs.length->Pv H->J.yld i H x H'->H'=H/\xs[i]?=some x
section
variable {P:Program}{w:World}{K:Y00}{mg:Str->Option Value}{base:Heap}
theorem Fun.okX {x qual:Str}{st:Stmt}{f:Addr}{fd:FuncData}{N ps:List Str}{k:Nat}{sp:Sp}(F:Fun K x qual st f fd)(S:FnScope N ps (zk st))(len:∀ vs H Q E,sp vs H Q E->vs.length=ps.length)
  (hbody:∀ (cdv:Value) (A:Around) (outer:List Env) (s:Shared) (H:Hp) (vs:List V) (Q:VK) (E:XK),Room k (A.deeper (envOfC qual (zk st) s.heap.objs.size f cdv))->sp vs H Q E ->
   ∃ t,PSs (qX (CXs P w) P w K mg base N qual (zk st) f cdv A outer s H E) (zF st) t/\t { nx:=λ _ H'=>Q .non H',rt:=Q } (start N vs) H):FnOk P w K mg base (CXs P w) (k+1) f fd ps sp:=by
 obtain ⟨oc,od,kV,doc,pm,an,cdv,ct,osl,rfl,lk,hcd⟩:=F.ex
 exact BX lk hcd S len λ A outer s H vs Q E hr hsp=>hbody cdv A outer s H vs Q E hr hsp
end
end L2
namespace L2
open PySem PySem.Spec PyProof.Rows
noncomputable abbrev TJ:=St->Hp->Str->(Str->Hp->Prop)->Prop
section
variable {X:Cx}{e v₁ v₂:Expr}{es:List Expr}{te:TE}{t:TJ}{c:Str}{k:Nat}{pos p:Pos}
noncomputable def OP (K:Y00)(neg:Bool):R2:=λ x y H Q=>∃ p q xs,x=.ref p/\y=.ref q/\SqL K H p xs/\SqL K H q []/\Q (.bl (if neg then !xs.isEmpty else xs.isEmpty)) H
theorem G0 (hu:X.A.units<cLine):OpR X (compareOp .Eq) (OP X.K false):=by
 intro pins s σ H x y v u Q I rx ry h
 obtain ⟨p,q,xs,rfl,rfl,h1,h2,hq⟩:=h
 cases rx;cases ry
 obtain ⟨its,r,pl,hz⟩:=I.list h1
 obtain ⟨its2,r2,pl2,_⟩:=I.list h2
 cases r2
 cases xs with
 | nil =>
  cases r
  exact SeqAt.eq_listAt (e:=λ _=>true) pl.isList pl2.isList rfl hu (λ j h1 _=>absurd h1 (by simp)) ⟨.bl true,H,I,rfl,hq⟩
 | cons a t =>
  cases r with
  | cons r1 r2=>exact SeqAt.eq_list_lengthsAt pl.isList pl2.isList (by simp) hu ⟨.bl false,H,I,rfl,hq⟩
theorem G1 (hu:X.A.units<cLine):OpR X (compareOp .NotEq) (OP X.K true):=by
 intro pins s σ H x y v u Q I rx ry h
 obtain ⟨p,q,xs,rfl,rfl,h1,h2,hq⟩:=h
 cases rx;cases ry
 obtain ⟨its,r,pl,hz⟩:=I.list h1
 obtain ⟨its2,r2,pl2,_⟩:=I.list h2
 cases r2
 cases xs with
 | nil =>
  cases r
  exact SeqAt.RcNeAt.lists (e:=λ _=>true) pl.isList pl2.isList rfl hu (λ j h1 _=>absurd h1 (by simp)) _ _ _ _ ⟨.bl false,H,I,rfl,hq⟩
 | cons a t =>
  cases r with
  | cons r1 r2=>exact SeqAt.RcNeAt.lists_lengths pl.isList pl2.isList (by simp) hu _ _ _ _ ⟨.bl true,H,I,rfl,hq⟩
end
end L2
namespace L2
open PySem PySem.Spec PyProof.Rows
noncomputable def SIt (h:Heap)(i a:Addr)(k:Nat)(xs:Array Value):Prop:=(h.IsListIter i a k/\h.IsList a xs)\/(h.IsTupleIter i a k/\h.IsTuple a xs)
theorem SIt.move {h h':Heap}{i a:Addr}{k:Nat}{xs:Array Value}(x:SIt h i a k xs)(hi:∀ o,h.get? i=some o->h'.get? i=some o)(ha:∀ o,h.get? a=some o->h'.get? a=some o):SIt h' i a k xs:=by
 rcases x with ⟨x,y⟩ | ⟨x,y⟩
 ·exact .inl ⟨x.at hi,y.at ha⟩
 ·exact .inr ⟨x.at hi,y.at ha⟩
theorem SIt.there {h:Heap}{i a:Addr}{k:Nat}{xs:Array Value}(x:SIt h i a k xs):∃ o,h.get? i=some o/\∀ v,o.data≠.cell v:=by
 rcases x with ⟨⟨o,e,_,d⟩,_⟩ | ⟨⟨o,e,_,d⟩,_⟩<;>exact ⟨o,e,λ v z=>by rw [d] at z;cases z⟩
section
variable {prog:Program}{w:World}{A:Around}{E:Value->Shared->Prop}{s:Shared}
theorem y4 {it t:Addr}{i:Nat}{items:Array Value}{x:Value}{Q:Value->Shared->Prop}(hit:s.heap.IsTupleIter it t i)(ht:s.heap.IsTuple t items)(hx:items[i]?=some x)
  (hQ:∀ h',h'.IsTupleIter it t (i+1)->Heap.SameBut it s.heap h'->Q x { s with heap:=h' }):wpAny (model prog w) A (Builtin.SmallTypes.nextOf (.ref it)) Q E s:=by
 obtain ⟨o,ho,hc,hd⟩:=id hit
 obtain ⟨ol,hol,_,nl,hdl⟩:=ht
 unfold Builtin.SmallTypes.nextOf
 refine wpAny_bind (wpAny_callSpecial?_slot (name:=Str.ofString "__next__") hit.typeIs Y1n
  (wpAny_call_entry Y1n hit.typeIs Y39 ?_ (Y37 _)))
 show wpAny _ _ (field (.ref it) 0 >>= _) _ _ s
 refine wpAny_bind (wpAny_field ho hd (x:=.ref t) rfl ?_)
 show wpAny _ _ (if (Value.ref t==Value.none)=true then _ else _) _ _ s
 rw [if_neg (show ¬ ((Value.ref t==Value.none)=true) from Y0s)]
 show wpAny _ _ (field (.ref it) 1 >>= _) _ _ s
 refine wpAny_bind (wpAny_field ho hd (x:=.int i 0) rfl ?_)
 show wpAny _ _ (seqItems? (.ref t) >>= _) _ _ s
 refine wpAny_bind (wpAny_seqItems hol hdl ?_)
 simp only [Y1g,hx]
 refine wpAny_bind (wpAny_setField ho hd (by simp) (wpAny_pure ⟨x,rfl,wpAny_pure (hQ _ ?_ (Heap.SameBut.update ..))⟩))
 exact ⟨_,Y1m _ ho (Obj.isFreed_of_fields (Obj.data_mapFields hd _)),(Obj.cls_mapFields ..).trans hc,by
  rw [Obj.data_mapFields hd];simp [rawInt]⟩
theorem yp {it t:Addr}{i:Nat}{items:Array Value}{Q:Value->Shared->Prop}(hh:A.handled=none)(hit:s.heap.IsTupleIter it t i)(ht:s.heap.IsTuple t items)(hx:items[i]?=none)
  (hE:∀ h' e,Heap.ExtBut it s.heap h'->(∃ o,h'.get? e=some o/\o.cls=.type "StopIteration")->E (.ref e) { s with heap:=h' }):wpAny (model prog w) A (Builtin.SmallTypes.nextOf (.ref it)) Q E s:=by
 obtain ⟨o,ho,hc,hd⟩:=id hit
 obtain ⟨ol,hol,_,nl,hdl⟩:=ht
 unfold Builtin.SmallTypes.nextOf
 refine wpAny_bind (wpAny_callSpecial?_slot (name:=Str.ofString "__next__") hit.typeIs Y1n
  (wpAny_call_entry Y1n hit.typeIs Y39 ?_ (Y37 _)))
 show wpAny _ _ (field (.ref it) 0 >>= _) _ _ s
 refine wpAny_bind (wpAny_field ho hd (x:=.ref t) rfl ?_)
 show wpAny _ _ (if (Value.ref t==Value.none)=true then _ else _) _ _ s
 rw [if_neg (show ¬ ((Value.ref t==Value.none)=true) from Y0s)]
 show wpAny _ _ (field (.ref it) 1 >>= _) _ _ s
 refine wpAny_bind (wpAny_field ho hd (x:=.int i 0) rfl ?_)
 show wpAny _ _ (seqItems? (.ref t) >>= _) _ _ s
 refine wpAny_bind (wpAny_seqItems hol hdl ?_)
 simp only [Y1g,hx]
 refine wpAny_bind (wpAny_rule (wpAny_bind (wpAny_setField ho hd (by simp) ?_)))
 show wpAny _ _ (newExc (.type "StopIteration") [] >>= _) _ _ _
 refine wpAny_bind ?_
 simp only [newExc,newTuple]
 refine wpAny_bind (wpAny_newObj_type ?_ (by size_fits))
 refine wpAny_bind (m:=firstArgMember _ _) (wpAny_of_eq (a:=Value.none) (by first | rfl | (simp only [firstArgMember];rfl)) ?_)
 refine wpAny_newObj_type ?_ (by size_fits)
 simp only [raiseNew]
 refine wpAny_bind (wpAny_handled ?_)
 first | rw [show A.in1.handled=none from hh] | rw [hh]
 refine wpAny_bind (wpAny_pure (wpAny_throw ?_))
 exact hE _ _ (((Heap.SameBut.update ..).extBut.push _).push _) ⟨_,Y0a _ rfl,rfl⟩
theorem zJ {i a:Addr}{k:Nat}{xs:Array Value}{x:Value}{Q:Value->Shared->Prop}(hne:a≠i)(h:SIt s.heap i a k xs)(hx:xs[k]?=some x)
  (hQ:∀ h',SIt h' i a (k+1) xs->Heap.SameBut i s.heap h'->Q x { s with heap:=h' }):wpAny (model prog w) A (Builtin.SmallTypes.nextOf (.ref i)) Q E s:=by
 rcases h with ⟨h1,h2⟩ | ⟨h1,h2⟩
 ·exact wpAny_nextOf_list_item h1 h2 hx λ h' h3 sb=>hQ h' (.inl ⟨h3,h2.extBut sb.extBut hne⟩) sb
 ·exact y4 h1 h2 hx λ h' h3 sb=>hQ h' (.inr ⟨h3,h2.extBut sb.extBut hne⟩) sb
theorem jr {i a:Addr}{k:Nat}{xs:Array Value}{Q:Value->Shared->Prop}(hh:A.handled=none)(h:SIt s.heap i a k xs)(hx:xs[k]?=none)
  (hE:∀ h' e,Heap.ExtBut i s.heap h'->(∃ o,h'.get? e=some o/\o.cls=.type "StopIteration")->E (.ref e) { s with heap:=h' }):wpAny (model prog w) A (Builtin.SmallTypes.nextOf (.ref i)) Q E s:=by
 rcases h with ⟨h1,h2⟩ | ⟨h1,h2⟩
 ·exact wpAny_nextOf_list_end hh h1 h2 hx hE
 ·exact yp hh h1 h2 hx hE
theorem SIt.ext {h h':Heap}{i a b:Addr}{k:Nat}{xs:Array Value}(x:SIt h i a k xs)(hs:Heap.ExtBut b h h')(h1:i≠b)(h2:a≠b):SIt h' i a k xs:=x.move (λ o e=>hs i o h1 e) (λ o e=>hs a o h2 e)
theorem Zu {z TI TO i1 i2 l1 l2:Addr}{k1 k2:Nat}{xs ys:Array Value}{x y a b:Value}{Q:Value->Shared->Prop}(D:ZipApart z TI TO i1 i2 l1 l2)
  (hz:IsZip s.heap z TI TO .none) (hTI:IsPair s.heap TI (.ref i1) (.ref i2)) (hTO:IsPair s.heap TO a b)
  (h1:SIt s.heap i1 l1 k1 xs) (h2:SIt s.heap i2 l2 k2 ys) (hx:xs[k1]?=some x) (hy:ys[k2]?=some y)
  (hQ:∀ h',IsZip h' z TI TO (rawInt s.heap.objs.size)->IsPair h' TO x y->SIt h' i1 l1 (k1+1) xs->SIt h' i2 l2 (k2+1) ys->IsPair h' s.heap.objs.size x y->h'.objs.size=s.heap.objs.size+1 ->
   (∀ c o,c≠z->c≠TO->c≠i1->c≠i2->s.heap.get? c=some o->h'.get? c=some o)->Q (.ref s.heap.objs.size) { s with heap:=h' }) :
  wpAny (model prog w) A (Builtin.«zip.__next__» ⟨[.ref z],[]⟩) (λ fin s'=>∃ v,fin=.done (.ret v)/\Q v s') E s:=by
 show wpAny _ _ (field (.ref z) 2 >>= _) _ _ _
 refine wpAny_bind (wpAny_field hz rfl (x:=.bool false) rfl ?_)
 show wpAny _ _ (field (.ref z) 3 >>= _) _ _ _
 refine wpAny_bind (wpAny_field hz rfl (x:=.ref TI) rfl ?_)
 refine wpAny_bind (wpAny_seqItems hTI rfl ?_)
 show wpAny _ _ (Builtin.SmallTypes.ownedTupleIsFree (.ref z) >>= _) _ _ _
 refine wpAny_bind ?_
 unfold Builtin.SmallTypes.ownedTupleIsFree
 refine wpAny_bind (wpAny_field hz rfl (x:=.none) rfl (wpAny_pure ?_))
 simp only [if_true]
 refine wpAny_bind (wpAny_rule ?_)
 refine wpAny_bind (wpAny_field hz rfl (x:=.ref TO) rfl ?_)
 refine wpAny_bind (wpAny_setField_rec hz (by simp) λ h₁ hz₁ hs₁=>?_)
 replace hz₁:IsZip h₁ z TI TO .ellipsis:=hz₁
 refine wpAny_bind ?_
 simp only [Y2r,Y2y,Y1z,Y23]
 refine wpAny_bind (wpAny_bind (wpAny_onRaise ?_))
 show wpAny _ _ (Builtin.SmallTypes.nextOf (.ref i1) >>= _) _ _ _
 refine wpAny_bind (zJ D.l1i1 (h1.ext hs₁.extBut D.i1z D.l1z) hx λ h₂ h1₂ hs₂=>wpAny_pure ?_)
 have hTO₂:IsPair h₂ TO a b:=hs₂.extBut _ _ D.TOi1 (hs₁.extBut _ _ D.TOz hTO)
 refine wpAny_bind (wpAny_seqItems hTO₂ rfl ?_)
 refine wpAny_bind (wpAny_updateSeq_pair hTO₂ λ h₃ hTO₃ hs₃=>?_)
 replace hTO₃:IsPair h₃ TO x b:=hTO₃
 refine wpAny_bind (wpAny_letGo (wpAny_pure ?_))
 refine wpAny_bind (wpAny_bind (wpAny_onRaise ?_))
 show wpAny _ _ (Builtin.SmallTypes.nextOf (.ref i2) >>= _) _ _ _
 refine wpAny_bind (zJ D.l2i2 (((h2.ext hs₁.extBut D.i2z D.l2z).ext hs₂.extBut D.i12.symm D.l2i1).ext hs₃.extBut D.TOi2.symm D.l2TO) hy λ h₄ h2₄ hs₄=>wpAny_pure ?_)
 have hTO₄:IsPair h₄ TO x b:=hs₄.extBut _ _ D.TOi2 hTO₃
 refine wpAny_bind (wpAny_seqItems hTO₄ rfl ?_)
 refine wpAny_bind (wpAny_updateSeq_pair hTO₄ λ h₅ hTO₅ hs₅=>?_)
 replace hTO₅:IsPair h₅ TO x y:=hTO₅
 refine wpAny_bind (wpAny_letGo (wpAny_pure (wpAny_pure ?_)))
 refine wpAny_bind (wpAny_seqItems hTO₅ rfl ?_)
 refine wpAny_bind (wpAny_newTuple ?_)
 have hsz:h₅.objs.size=s.heap.objs.size:=by rw [hs₅.1,hs₄.1,hs₃.1,hs₂.1,hs₁.1]
 have hz₅:IsZip h₅ z TI TO .ellipsis:=hs₅.extBut _ _ D.TOz.symm (hs₄.extBut _ _ D.i2z.symm (hs₃.extBut _ _ D.TOz.symm (hs₂.extBut _ _ D.i1z.symm hz₁)))
 have hk₅:∀ c o,c≠z->c≠TO->c≠i1->c≠i2->s.heap.get? c=some o->h₅.get? c=some o:=λ c o c1 c2 c3 c4 e =>
  hs₅.extBut _ _ c2 (hs₄.extBut _ _ c4 (hs₃.extBut _ _ c2 (hs₂.extBut _ _ c3 (hs₁.extBut _ _ c1 e))))
 have h1₅:SIt h₅ i1 l1 (k1+1) xs:=((h1₂.ext hs₃.extBut D.TOi1.symm D.l1TO).ext hs₄.extBut D.i12 D.l1i2).ext hs₅.extBut D.TOi1.symm D.l1TO
 have h2₅:SIt h₅ i2 l2 (k2+1) ys:=h2₄.ext hs₅.extBut D.TOi2.symm D.l2TO
 have hzlt:z<h₅.objs.size:=Y07 hz₅
 have hTOlt:TO<h₅.objs.size:=Y07 hTO₅
 have hi1lt:i1<h₅.objs.size:=by obtain ⟨_,e,_⟩:=h1₅.there;exact Y07 e
 have hi2lt:i2<h₅.objs.size:=by obtain ⟨_,e,_⟩:=h2₅.there;exact Y07 e
 show wpAny _ _ (Builtin.SmallTypes.ownedTupleHandOut (.ref z) (.ref h₅.objs.size) >>= _) _ _ _
 refine wpAny_bind ?_
 unfold Builtin.SmallTypes.ownedTupleHandOut
 have hz₆:IsZip (h₅.push { cls:=.type "tuple",data:=.seq #[x,y] }) z TI TO .ellipsis:=Y01 _ hz₅
 refine wpAny_bind (wpAny_setField_rec hz₆ (by simp) λ h₇ hz₇ hs₇=>?_)
 replace hz₇:IsZip h₇ z TI TO (rawInt h₅.objs.size):=hz₇
 refine wpAny_setField_rec hz₇ (by simp) λ h₈ hz₈ hs₈=>?_
 replace hz₈:IsZip h₈ z TI TO (rawInt h₅.objs.size):=hz₈
 have up:∀ c o,c≠z->h₅.get? c=some o->h₈.get? c=some o:=λ c o c1 e=>hs₈.extBut _ _ c1 (hs₇.extBut _ _ c1 (Y01 _ e))
 have hT₈:IsPair h₈ h₅.objs.size x y:=hs₈.extBut _ _ (Y1f hzlt) (hs₇.extBut _ _ (Y1f hzlt) (Y0a _ rfl))
 have hz8:h₈.objs.size=h₅.objs.size+1:=by rw [hs₈.1,hs₇.1,Y1c]
 rw [hsz] at hz₈ hT₈ hz8
 refine wpAny_pure ⟨_,rfl,?_⟩
 show Q (.ref h₅.objs.size) _
 rw [hsz]
 exact hQ h₈ hz₈ (up _ _ D.TOz hTO₅) (h1₅.move (λ o e=>up _ o D.i1z e) (λ o e=>up _ o D.l1z e)) (h2₅.move (λ o e=>up _ o D.i2z e) (λ o e=>up _ o D.l2z e)) hT₈ hz8 λ c o c1 c2 c3 c4 e=>up c o c1 (hk₅ c o c1 c2 c3 c4 e)
theorem Jb {z TI TO i1 i2 l1 l2:Addr}{k1 k2:Nat}{xs ys:Array Value}{a b:Value}{Q:Fin->Shared->Prop}(hh:A.handled=none)(D:ZipApart z TI TO i1 i2 l1 l2)
  (hz:IsZip s.heap z TI TO .none) (hTI:IsPair s.heap TI (.ref i1) (.ref i2)) (hTO:IsPair s.heap TO a b)
  (h1:SIt s.heap i1 l1 k1 xs) (h2:SIt s.heap i2 l2 k2 ys) (hend:xs[k1]?=none\/ys[k2]?=none)
  (hE:∀ h' e,(∀ c o,c≠z->c≠TO->c≠i1->c≠i2->s.heap.get? c=some o->h'.get? c=some o)->(∃ o,h'.get? e=some o/\o.cls=.type "StopIteration")->E (.ref e) { s with heap:=h' }) :
  wpAny (model prog w) A (Builtin.«zip.__next__» ⟨[.ref z],[]⟩) Q E s:=by
 show wpAny _ _ (field (.ref z) 2 >>= _) _ _ _
 refine wpAny_bind (wpAny_field hz rfl (x:=.bool false) rfl ?_)
 show wpAny _ _ (field (.ref z) 3 >>= _) _ _ _
 refine wpAny_bind (wpAny_field hz rfl (x:=.ref TI) rfl ?_)
 refine wpAny_bind (wpAny_seqItems hTI rfl ?_)
 show wpAny _ _ (Builtin.SmallTypes.ownedTupleIsFree (.ref z) >>= _) _ _ _
 refine wpAny_bind ?_
 unfold Builtin.SmallTypes.ownedTupleIsFree
 refine wpAny_bind (wpAny_field hz rfl (x:=.none) rfl (wpAny_pure ?_))
 simp only [if_true]
 refine wpAny_bind (wpAny_rule ?_)
 refine wpAny_bind (wpAny_field hz rfl (x:=.ref TO) rfl ?_)
 refine wpAny_bind (wpAny_setField_rec hz (by simp) λ h₁ hz₁ hs₁=>?_)
 replace hz₁:IsZip h₁ z TI TO .ellipsis:=hz₁
 refine wpAny_bind ?_
 simp only [Y2r,Y2y,Y1z,Y23]
 refine wpAny_bind (wpAny_bind (wpAny_onRaise ?_))
 show wpAny _ _ (Builtin.SmallTypes.nextOf (.ref i1) >>= _) _ _ _
 cases hx:xs[k1]? with
 | none =>
  refine wpAny_bind (jr hh (h1.ext hs₁.extBut D.i1z D.l1z) hx λ h₂ e hs₂ he=>?_)
  obtain ⟨oe,hoe,hce⟩:=he
  have hz₂:IsZip h₂ z TI TO .ellipsis:=hs₂ _ _ D.i1z.symm hz₁
  have hez:e≠z:=λ x=>by subst x;rw [hz₂] at hoe;cases hoe;simp at hce
  refine wpAny_setField_rec hz₂ (by simp) λ h₃ _ hs₃=>hE h₃ e (λ c o c1 _ c3 _ x=>hs₃.extBut _ _ c1 (hs₂ _ _ c3 (hs₁.extBut _ _ c1 x))) ⟨oe,hs₃.extBut _ _ hez hoe,hce⟩
 | some x =>
  have hy:ys[k2]?=none:=by rcases hend with h | h;rw [hx] at h;cases h;exact h
  refine wpAny_bind (zJ D.l1i1 (h1.ext hs₁.extBut D.i1z D.l1z) hx λ h₂ h1₂ hs₂=>wpAny_pure ?_)
  have hTO₂:IsPair h₂ TO a b:=hs₂.extBut _ _ D.TOi1 (hs₁.extBut _ _ D.TOz hTO)
  refine wpAny_bind (wpAny_seqItems hTO₂ rfl ?_)
  refine wpAny_bind (wpAny_updateSeq_pair hTO₂ λ h₃ hTO₃ hs₃=>?_)
  refine wpAny_bind (wpAny_letGo (wpAny_pure ?_))
  refine wpAny_bind (wpAny_bind (wpAny_onRaise ?_))
  show wpAny _ _ (Builtin.SmallTypes.nextOf (.ref i2) >>= _) _ _ _
  refine wpAny_bind (jr hh (((h2.ext hs₁.extBut D.i2z D.l2z).ext hs₂.extBut D.i12.symm D.l2i1).ext hs₃.extBut D.TOi2.symm D.l2TO) hy λ h₄ e hs₄ he=>?_)
  obtain ⟨oe,hoe,hce⟩:=he
  have hz₄:IsZip h₄ z TI TO .ellipsis:=hs₄ _ _ D.i2z.symm (hs₃.extBut _ _ D.TOz.symm (hs₂.extBut _ _ D.i1z.symm hz₁))
  have hez:e≠z:=λ x=>by subst x;rw [hz₄] at hoe;cases hoe;simp at hce
  refine wpAny_setField_rec hz₄ (by simp) λ h₅ _ hs₅=>hE h₅ e (λ c o c1 c2 c3 c4 x=>hs₅.extBut _ _ c1 (hs₄ _ _ c4 (hs₃.extBut _ _ c2 (hs₂.extBut _ _ c3 (hs₁.extBut _ _ c1 x))))) ⟨oe,hs₅.extBut _ _ hez hoe,hce⟩
theorem yq {z TI TO i1 i2 l1 l2:Addr}{k1 k2:Nat}{xs ys:Array Value}{x y a b:Value}{Q:Option Value->Shared->Prop}(D:ZipApart z TI TO i1 i2 l1 l2)
  (hz:IsZip s.heap z TI TO .none) (hTI:IsPair s.heap TI (.ref i1) (.ref i2)) (hTO:IsPair s.heap TO a b)
  (h1:SIt s.heap i1 l1 k1 xs) (h2:SIt s.heap i2 l2 k2 ys) (hx:xs[k1]?=some x) (hy:ys[k2]?=some y)
  (hQ:∀ h',IsZip h' z TI TO (rawInt s.heap.objs.size)->IsPair h' TO x y->SIt h' i1 l1 (k1+1) xs->SIt h' i2 l2 (k2+1) ys->IsPair h' s.heap.objs.size x y->h'.objs.size=s.heap.objs.size+1 ->
   (∀ c o,c≠z->c≠TO->c≠i1->c≠i2->s.heap.get? c=some o->h'.get? c=some o)->Q (some (.ref s.heap.objs.size)) { s with heap:=h' }) :
  wpAny (model prog w) A (pyNext (.ref z)) Q E s:=by
 have hT:s.TypeIs (.ref z) "zip":=⟨_,hz,rfl⟩
 unfold pyNext
 exact wpAny_bind (wpAny_attempt (wpAny_callSpecial?_slot (name:=Str.ofString "__next__") hT Y18
  (wpAny_call_entry Y18 hT Y2d
   (Zu D hz hTI hTO h1 h2 hx hy λ h' a1 a2 a3 a4 a5 a6 a7=>wpAny_pure (hQ h' a1 a2 a3 a4 a5 a6 a7)) (Y28 _))))
theorem yX {z TI TO i1 i2 l1 l2:Addr}{k1 k2:Nat}{xs ys:Array Value}{a b:Value}{Q:Option Value->Shared->Prop}(hh:A.handled=none)(D:ZipApart z TI TO i1 i2 l1 l2)
  (hz:IsZip s.heap z TI TO .none) (hTI:IsPair s.heap TI (.ref i1) (.ref i2)) (hTO:IsPair s.heap TO a b)
  (h1:SIt s.heap i1 l1 k1 xs) (h2:SIt s.heap i2 l2 k2 ys) (hend:xs[k1]?=none\/ys[k2]?=none)
  (hQ:∀ h',(∀ c o,c≠z->c≠TO->c≠i1->c≠i2->s.heap.get? c=some o->h'.get? c=some o)->Q none { s with heap:=h' }):wpAny (model prog w) A (pyNext (.ref z)) Q E s:=by
 have hT:s.TypeIs (.ref z) "zip":=⟨_,hz,rfl⟩
 unfold pyNext
 refine wpAny_bind (wpAny_attempt (wpAny_callSpecial?_slot (name:=Str.ofString "__next__") hT Y18
  (wpAny_call_entry Y18 hT Y2d (Jb hh D hz hTI hTO h1 h2 hend λ h' e hk he=>?_) (Y28 _))))
 obtain ⟨o,ho,hc⟩:=he
 refine wpAny_bind (wpAny_isInstance (T:="StopIteration") (b:=true) ⟨o,ho,hc⟩ isSubtype_stop ?_)
 exact wpAny_pure (hQ _ hk)
end
end L2
namespace L2
open PySem PySem.Spec PyProof.Rows
noncomputable def ItR (h:Heap)(i a:Addr)(k:Nat)(b:Bool):Prop:=if b=true then h.IsListIter i a k else h.IsTupleIter i a k
noncomputable def SqB (K:Y00)(H:Hp)(a:Addr)(b:Bool)(xs:List V):Prop:=if b=true then SqL K H a xs else SqT K H a xs
theorem ItR.at {h h':Heap}{i a:Addr}{k:Nat}{b:Bool}(x:ItR h i a k b)(hi:∀ o,h.get? i=some o->h'.get? i=some o):ItR h' i a k b:=by
 cases b with
 | true=>exact Heap.IsListIter.at (show h.IsListIter i a k from x) hi
 | false=>exact Heap.IsTupleIter.at (show h.IsTupleIter i a k from x) hi
theorem ItR.rec {h:Heap}{i a:Addr}{k:Nat}{b:Bool}(x:ItR h i a k b):∃ o vs,h.get? i=some o/\o.data=.fields vs:=by
 cases b with
 | true=>obtain ⟨o,e,_,d⟩:=(show h.IsListIter i a k from x);exact ⟨o,_,e,d⟩
 | false=>obtain ⟨o,e,_,d⟩:=(show h.IsTupleIter i a k from x);exact ⟨o,_,e,d⟩
section
variable {X:Cx}{pins:List (Addr×Obj)}{σ:St}{H:Hp}{s:Shared}
theorem Inv.seqB {a:Addr}{b:Bool}{xs:List V}(I:Inv X pins σ H s)(h:SqB X.K H a b xs):∃ its:List Value,Vals xs its/\(∀ (i:Addr) (k:Nat) (h':Heap),ItR h' i a k b->(∀ o,s.heap.get? a=some o->h'.get? a=some o)->SIt h' i a k its.toArray)/\∃ o n,s.heap.get? a=some o/\o.data=.seq its.toArray n:=by
 cases b with
 | true =>
  obtain ⟨its,r,pl,_⟩:=I.list (show SqL X.K H a xs from h)
  have hl:s.heap.IsList a its.toArray:=pl.isList
  obtain ⟨o,e,c,n,d⟩:=id hl
  exact ⟨its,r,λ i k h' x ka=>.inl ⟨x,hl.at ka⟩,o,n,e,d⟩
 | false =>
  obtain ⟨its,r,pl,_⟩:=I.tuple (show SqT X.K H a xs from h)
  have hl:s.heap.IsTuple a its.toArray:=pl
  obtain ⟨o,e,c,n,d⟩:=id hl
  exact ⟨its,r,λ i k h' x ka=>.inr ⟨x,hl.at ka⟩,o,n,e,d⟩
theorem Inv.seqB_inj {a:Addr}{b:Bool}{xs ys:List V}(I:Inv X pins σ H s)(h:SqB X.K H a b xs)(h':SqB X.K H a b ys):xs=ys:=by
 cases b with
 | true=>exact I.list_inj (show SqL X.K H a xs from h) h'
 | false=>exact I.tuple_inj (show SqT X.K H a xs from h) h'
end
end L2
namespace L2
open PySem PySem.Spec PyProof.Rows
section
variable {X:Cx}{pins:List (Addr×Obj)}{σ:St}{H:Hp}{s:Shared}{h':Heap}
theorem Inv.turnedL {t':Nat}{l:List Addr}(I:Inv X pins σ H s)(k:∀ b o,b∉l->s.heap.get? b=some o->h'.get? b=some o)(hf:∀ b∈l,ym X pins H b):Inv X pins σ H { s with heap:=h',toks:=t' }:=by
 have nit:∀ b u,H b=some u->b∉l:=λ b u e z=>by rw [(hf b z).1] at e;cases e
 have hL:X.env.locals∉l:=λ z=>(hf _ z).2.1 rfl
 refine I.step (g':=s.gens) (d':=s.drawn) (ch:=l) (λ b hb=>?_) (λ b o _ _ hc e _=>k b o hc e) (λ b o _ _ hc e _=>⟨o.slots,k b o hc e⟩) (λ _ _ _ _ n=>n)
  (λ b o hc e=>⟨o,k b o hc e⟩) (λ _ _ e=>e) (λ _ _ _ e=>e) (λ b ps e=>⟨#[],by rw [e];simp⟩) (λ m hm=>?_) (λ b u e=>?_) I.bare
 ·obtain ⟨_,f1,_,f3,f4,f5⟩:=hf b hb
  exact ⟨f3,f1,f4,f5⟩
 ·obtain ⟨o,es,ep,ho,r⟩:=hm
  exact ⟨o,es,ep,k _ o hL ho,r⟩
 ·refine (I.hok b u e).stay (λ c v hc q=>k c v ?_ q) (λ _ q=>q) λ _ _ q=>q
  rcases hc with z | z
  ·rw [z];exact nit b u e
  ·exact nit c _ z
end
theorem ItR.ofS {h:Heap}{i a:Addr}{k m:Nat}{xs ys:Array Value}{b:Bool}{h0:Heap}(x:SIt h i a k xs)(q:ItR h0 i a m b)(y:SIt h0 i a m ys)(hc:∀ o,h0.get? a=some o->h.get? a=some o):ItR h i a k b:=by
 cases b with
 | true =>
  rcases x with ⟨x,_⟩ | ⟨_,⟨o,e,c,n,d⟩⟩
  ·exact x
  ·rcases y with ⟨_,⟨o',e',c',_⟩⟩ | ⟨⟨o',e',c',_⟩,_⟩
   ·have:=hc _ e';rw [e] at this;cases this;rw [c] at c';exact absurd c' (by decide)
   ·obtain ⟨o2,e2,c2,_⟩:=(show h0.IsListIter i a m from q)
    rw [e2] at e';cases e';rw [c2] at c';exact absurd c' (by decide)
 | false =>
  rcases x with ⟨_,⟨o,e,c,n,d⟩⟩ | ⟨x,_⟩
  ·rcases y with ⟨⟨o',e',c',_⟩,_⟩ | ⟨_,⟨o',e',c',_⟩⟩
   ·obtain ⟨o2,e2,c2,_⟩:=(show h0.IsTupleIter i a m from q)
    rw [e2] at e';cases e';rw [c2] at c';exact absurd c' (by decide)
   ·have:=hc _ e';rw [e] at this;cases this;rw [c] at c';exact absurd c' (by decide)
  ·exact x
noncomputable def Itz (K:Y00)(l1 l2:Addr)(b1 b2:Bool)(n m:Nat):It :=
  ⟨λ i H=>i<n/\i<m/\∃ xs ys,SqB K H l1 b1 xs/\SqB K H l2 b2 ys/\xs.length=n/\ys.length=m,
   λ i H v H'=>∃ T,v=.ref T/\H T=none/\∀ xs ys,SqB K H l1 b1 xs->SqB K H l2 b2 ys->∃ x y,xs[i]?=some x/\ys[i]?=some y/\H'=upd H T (.tup [x,y]),
   λ i H=>(i=n\/i=m)/\∃ xs ys,SqB K H l1 b1 xs/\SqB K H l2 b2 ys/\xs.length=n/\ys.length=m⟩
noncomputable def ZTn (z TI TO i1 i2 l1 l2:Addr)(b1 b2:Bool)(i:Nat)(h:Heap):Prop :=
 IsZip h z TI TO .none/\IsPair h TI (.ref i1) (.ref i2)/\(∃ a b,IsPair h TO a b)/\ItR h i1 l1 i b1/\ItR h i2 l2 i b2
theorem G2 {P:Program}{w:World}{K:Y00}{elts:List Expr}{x1}{pos:Pos}{z TI TO i1 i2 l1 l2:Addr}(D:ZipApart z TI TO i1 i2 l1 l2)(hT1:l1≠TI)(hT2:l2≠TI)(b1 b2:Bool)(n m:Nat) :
  Turn P w K (.Tuple elts x1 pos) (Itz K l1 l2 b1 b2 n m) [z,TI,TO,i1,i2] z (ZTn z TI TO i1 i2 l1 l2 b1 b2) where
 mem:=by simp
 obj:=λ i h st b hb=>by
  obtain ⟨z0,zI,⟨a,c,zO⟩,t1,t2⟩:=st
  have sq:∀ {i a k b},ItR h i a k b->∃ o,h.get? i=some o/\∀ v,o.data≠.cell v:=λ t=>by
   obtain ⟨o,vs,e,d⟩:=t.rec
   exact ⟨o,e,λ v q=>by rw [d] at q;cases q⟩
  simp only [Y0d,Y0q,or_false] at hb
  rcases hb with rfl | rfl | rfl | rfl | rfl
  ·exact ⟨_,z0,λ v q=>by cases q⟩
  ·exact ⟨_,zI,λ v q=>by cases q⟩
  ·exact ⟨_,zO,λ v q=>by cases q⟩
  ·exact sq t1
  ·exact sq t2
 keep:=λ i h h' st k=>by
  obtain ⟨z0,zI,⟨a,c,zO⟩,t1,t2⟩:=st
  exact ⟨k z (by simp) _ z0,k TI (by simp) _ zI,⟨a,c,k TO (by simp) _ zO⟩,t1.at λ o e=>k i1 (by simp) o e,t2.at λ o e=>k i2 (by simp) o e⟩
 item:=by
  intro X hP hw hK hc i pins s σ H E I hf st hg
  subst hP hw hK
  obtain ⟨hi,hj,xs,ys,hx,hy,lx,ly⟩:=hg
  obtain ⟨z0,zI,⟨a,c,zO⟩,t1,t2⟩:=st
  obtain ⟨its1,v1,k1,o1,n1,e1,d1⟩:=I.seqB hx
  obtain ⟨its2,v2,k2,o2,n2,e2,d2⟩:=I.seqB hy
  have S1:=k1 i1 i s.heap t1 λ _ e=>e
  have S2:=k2 i2 i s.heap t2 λ _ e=>e
  have gx:xs[i]?=some (xs[i]'(by omega)):=Y02 _
  have gy:ys[i]?=some (ys[i]'(by omega)):=Y02 _
  generalize xs[i]'(by omega)=x at gx
  generalize ys[i]'(by omega)=y at gy
  obtain ⟨u,hu,ru⟩:=v1.get gx
  obtain ⟨v,hv,rv⟩:=v2.get gy
  refine yq D z0 zI zO S1 S2 (x:=u) (y:=v) (by simpa using hu) (by simpa using hv) λ h' a1 a2 a3 a4 a5 a6 a7=>?_
  refine ⟨_,rfl,wpAny_letOwnedTupleGo_zip (s:={ s with heap:=h' }) a1 λ h'' q1 q2=>?_⟩
  have up:∀ b o,b∉[z,TI,TO,i1,i2]->s.heap.get? b=some o->h''.get? b=some o:=λ b o hb e=>by
   simp only [Y0d,Y0q,or_false,not_or] at hb
   exact (q2.2 b hb.1).trans (a7 b o hb.1 hb.2.2.1 hb.2.2.2.1 hb.2.2.2.2 e)
  have I1:Inv X pins σ H { s with heap:=h'',toks:=s.toks }:=I.turnedL up hf
  have F:=I.fpOk (b:=s.heap.objs.size) (H':=H) (Y03 _) (I.hok.fresh (Y03 _))
  have h0:X.s₀.heap.get? s.heap.objs.size=none:=by
   cases q:X.s₀.heap.get? s.heap.objs.size with
   | none=>rfl
   | some o=>exact absurd (Y0g (Y07 q) I.sz) (Y14 _)
  have zs:s.heap.objs.size≠z:=Y1f (Y07 z0)
  have T':IsPair h'' s.heap.objs.size u v:=(q2.2 _ zs).trans a5
  have I2:Inv X pins σ (upd H s.heap.objs.size (.tup [x,y])) { s with heap:=h'',toks:=s.toks }:=I1.track F.1 h0 F.2.1 F.2.2.2.2.1 F.2.2.2.2.2 ⟨by show 2<=sizeLine;rw [sizeLine_eq];decide,[u,v],.cons ru (.cons rv .nil),⟨_,T',rfl,0,rfl⟩⟩
  have l1lt:l1<s.heap.objs.size:=Y07 e1
  have l2lt:l2<s.heap.objs.size:=Y07 e2
  have l1f:l1∉[z,TI,TO,i1,i2]:=by simp [D.l1z,D.l1TO,D.l1i1,D.l1i2,hT1]
  have l2f:l2∉[z,TI,TO,i1,i2]:=by simp [D.l2z,D.l2TO,D.l2i1,D.l2i2,hT2]
  have S1':SIt h'' i1 l1 (i+1) its1.toArray:=a3.move (λ o e=>(q2.2 _ D.i1z).trans e) (λ o e=>(q2.2 _ D.l1z).trans e)
  have S2':SIt h'' i2 l2 (i+1) its2.toArray:=a4.move (λ o e=>(q2.2 _ D.i2z).trans e) (λ o e=>(q2.2 _ D.l2z).trans e)
  refine ⟨.ref s.heap.objs.size,_,I2,rfl,⟨_,rfl,F.1,λ xs' ys' hx' hy'=>?_⟩,⟨q1,?_,⟨u,v,?_⟩,?_,?_⟩,λ b hb=>?_⟩
  ·rw [I.seqB_inj hx' hx,I.seqB_inj hy' hy]
   exact ⟨x,y,gx,gy,rfl⟩
  ·exact (q2.2 _ D.TIz).trans (a7 TI _ D.TIz D.TITO D.TIi1 D.TIi2 zI)
  ·exact (q2.2 _ D.TOz).trans a2
  ·exact ItR.ofS S1' t1 S1 λ o e=>up l1 o l1f e
  ·exact ItR.ofS S2' t2 S2 λ o e=>up l2 o l2f e
  ·have hb':=hf b hb
   have ne:b≠s.heap.objs.size:=by
    obtain ⟨o,e,_⟩:∃ o,s.heap.get? b=some o/\True:=by
     simp only [Y0d,Y0q,or_false] at hb
     rcases hb with rfl | rfl | rfl | rfl | rfl
     ·exact ⟨_,z0,trivial⟩
     ·exact ⟨_,zI,trivial⟩
     ·exact ⟨_,zO,trivial⟩
     ·obtain ⟨o,vs,e,_⟩:=t1.rec;exact ⟨o,e,trivial⟩
     ·obtain ⟨o,vs,e,_⟩:=t2.rec;exact ⟨o,e,trivial⟩
    exact Y0f (Y07 e)
   rw [zq ne];exact hb'.1
 done:=by
  intro X hP hw hK hc i pins s σ H E I hf st hg
  subst hP hw hK
  obtain ⟨hi,xs,ys,hx,hy,lx,ly⟩:=hg
  obtain ⟨z0,zI,⟨a,c,zO⟩,t1,t2⟩:=st
  obtain ⟨its1,v1,k1,o1,n1,e1,d1⟩:=I.seqB hx
  obtain ⟨its2,v2,k2,o2,n2,e2,d2⟩:=I.seqB hy
  have S1:=k1 i1 i s.heap t1 λ _ e=>e
  have S2:=k2 i2 i s.heap t2 λ _ e=>e
  refine yX (I.ok.hd hc) D z0 zI zO S1 S2 ?_ λ h' a1=>⟨rfl,I.turnedL (t':=s.toks) (l:=[z,TI,TO,i1,i2]) (λ b o hb e=>?_) hf⟩
  ·rcases hi with q | q
   ·exact .inl (by simp;rw [<- v1.length,lx,q];exact Y03 _)
   ·exact .inr (by simp;rw [<- v2.length,ly,q];exact Y03 _)
  ·simp only [Y0d,Y0q,or_false,not_or] at hb
   exact a1 b o hb.1 hb.2.2.1 hb.2.2.2.1 hb.2.2.2.2 e
 self:=λ _ _ _ _ _ st h=>wpAny_pyIter_zip st.1 h
end L2
set_option maxHeartbeats 4000000
namespace L2
open PySem PySem.Spec PyProof.Rows
noncomputable def itN (b:Bool):String:=if b=true then "list_iterator" else "tuple_iterator"
noncomputable def SqH (h:Heap)(a:Addr)(b:Bool)(xs:Array Value):Prop:=if b=true then h.IsList a xs else h.IsTuple a xs
noncomputable abbrev OQ (b1:Bool)(h:Heap)(l1:Addr):Heap:=h.push { cls:=.type (itN b1),data:=.fields #[.ref l1,.int 0 0] }
noncomputable abbrev OR (b1 b2:Bool)(h:Heap)(l1 l2:Addr):Heap:=(OQ b1 h l1).push { cls:=.type (itN b2),data:=.fields #[.ref l2,.int 0 0] }
noncomputable abbrev OS (b1 b2:Bool)(h:Heap)(l1 l2:Addr):Heap:=(OR b1 b2 h l1 l2).push { cls:=.type "tuple",data:=.seq #[.ref h.objs.size,.ref (OQ b1 h l1).objs.size] }
noncomputable abbrev OT (b1 b2:Bool)(h:Heap)(l1 l2:Addr):Heap:=(OS b1 b2 h l1 l2).push { cls:=.type "tuple",data:=.seq #[.none,.none] }
noncomputable abbrev UD (b1 b2:Bool)(h:Heap)(l1 l2:Addr):Heap:=(OT b1 b2 h l1 l2).push { cls:=.type "zip",data:=.fields #[.none,.bool false,.bool false,.ref (OR b1 b2 h l1 l2).objs.size,.ref (OS b1 b2 h l1 l2).objs.size] }
theorem QU (b1 b2:Bool)(l1 l2:Addr)(xs ys:Array Value) :
  Meets (Builtin.«zip.__new__» ⟨[.type "zip",.ref l1,.ref l2],[]⟩) (λ _ R s=>SqH s.heap l1 b1 xs/\SqH s.heap l2 b2 ys /\
   R (.ok (.ret (.ref (OT b1 b2 s.heap l1 l2).objs.size))) { s with heap:=UD b1 b2 s.heap l1 l2 }) :=
 .of_wp λ prog w A R s h=>by
  obtain ⟨hp,g,d,tk,os⟩:=s;obtain ⟨hl1,hl2,h⟩:=h
  have hsub:=PySem.sub_zip
  cases b1<;>cases b2
  ·have hL1:Heap.IsTuple (Shared.heap ⟨hp,g,d,tk,os⟩) l1 xs:=hl1
   have hL2:Heap.IsTuple (Shared.heap ⟨hp.push { cls:=.type "tuple_iterator",data:=.fields #[.ref l1,.int 0 0] },g,d,tk,os⟩) l2 ys:=Heap.IsTuple.at (show hp.IsTuple l2 ys from hl2) λ o e=>Y01 _ e
   wp_walk using wpAny_pyIter_tuple hL1,wpAny_pyIter_tuple hL2
   exact ⟨_,rfl,h⟩
  ·have hL1:Heap.IsTuple (Shared.heap ⟨hp,g,d,tk,os⟩) l1 xs:=hl1
   have hL2:Heap.IsList (Shared.heap ⟨hp.push { cls:=.type "tuple_iterator",data:=.fields #[.ref l1,.int 0 0] },g,d,tk,os⟩) l2 ys:=Heap.IsList.push (show hp.IsList l2 ys from hl2) _
   wp_walk using wpAny_pyIter_tuple hL1,wpAny_pyIter_list hL2
   exact ⟨_,rfl,h⟩
  ·have hL1:Heap.IsList (Shared.heap ⟨hp,g,d,tk,os⟩) l1 xs:=hl1
   have hL2:Heap.IsTuple (Shared.heap ⟨hp.push { cls:=.type "list_iterator",data:=.fields #[.ref l1,.int 0 0] },g,d,tk,os⟩) l2 ys:=Heap.IsTuple.at (show hp.IsTuple l2 ys from hl2) λ o e=>Y01 _ e
   wp_walk using wpAny_pyIter_list hL1,wpAny_pyIter_tuple hL2
   exact ⟨_,rfl,h⟩
  ·have hL1:Heap.IsList (Shared.heap ⟨hp,g,d,tk,os⟩) l1 xs:=hl1
   have hL2:Heap.IsList (Shared.heap ⟨hp.push { cls:=.type "list_iterator",data:=.fields #[.ref l1,.int 0 0] },g,d,tk,os⟩) l2 ys:=Heap.IsList.push (show hp.IsList l2 ys from hl2) _
   wp_walk using wpAny_pyIter_list hL1,wpAny_pyIter_list hL2
   exact ⟨_,rfl,h⟩
theorem YU {h:Heap}{i a:Addr}(b:Bool)(e:h.get? i=some { cls:=.type (itN b),data:=.fields #[.ref a,.int 0 0] }):ItR h i a 0 b:=by
 cases b with
 | true=>exact (show h.IsListIter i a 0 from ⟨_,e,rfl,rfl⟩)
 | false=>exact (show h.IsTupleIter i a 0 from ⟨_,e,rfl,rfl⟩)
section
variable {prog:Program}{w:World}{A:Around}{E:Value->Shared->Prop}{s:Shared}
theorem JD {l1 l2:Addr}{xs ys:Array Value}{Q:Value->Shared->Prop}(b1 b2:Bool)(hl1:SqH s.heap l1 b1 xs)(hl2:SqH s.heap l2 b2 ys)
  (h:∀ h',ZTn (s.heap.objs.size+4) (s.heap.objs.size+2) (s.heap.objs.size+3) s.heap.objs.size (s.heap.objs.size+1) l1 l2 b1 b2 0 h'->(∀ c o,s.heap.get? c=some o->h'.get? c=some o)->Q (.ref (s.heap.objs.size+4)) { s with heap:=h' }) :
  wpAny (model prog w) A (call (.type "zip") [.ref l1,.ref l2]) Q E s:=by
 refine callType_new PySem.F.called_zip (by decide) (PySem.F.typeCall_zip_2 _ _) (PySem.F.newCall_zip_2 _ _) (λ obj=>PySem.F.args_object_init_3 obj _ _) PySem.F.entry_zip_new
  (QU b1 b2 l1 l2 xs ys) ⟨hl1,hl2,?_⟩
 have z1:(OQ b1 s.heap l1).objs.size=s.heap.objs.size+1:=Y1c ..
 have z2:(OR b1 b2 s.heap l1 l2).objs.size=s.heap.objs.size+2:=by rw [Y1c,z1]
 have z3:(OS b1 b2 s.heap l1 l2).objs.size=s.heap.objs.size+3:=by rw [Y1c,z2]
 have z4:(OT b1 b2 s.heap l1 l2).objs.size=s.heap.objs.size+4:=by rw [Y1c,z3]
 have g5:(UD b1 b2 s.heap l1 l2).get? (OT b1 b2 s.heap l1 l2).objs.size=some _:=Y0a _ rfl
 have g4:(UD b1 b2 s.heap l1 l2).get? (OS b1 b2 s.heap l1 l2).objs.size=some _:=Y01 _ (Y0a _ rfl)
 have g3:(UD b1 b2 s.heap l1 l2).get? (OR b1 b2 s.heap l1 l2).objs.size=some _:=Y01 _ (Y01 _ (Y0a _ rfl))
 have g2:(UD b1 b2 s.heap l1 l2).get? (OQ b1 s.heap l1).objs.size=some _:=Y01 _ (Y01 _ (Y01 _ (Y0a _ rfl)))
 have g1:(UD b1 b2 s.heap l1 l2).get? s.heap.objs.size=some _:=Y01 _ (Y01 _ (Y01 _ (Y01 _ (Y0a _ rfl))))
 show _/\_
 rw [z2,z3,z4] at g5
 rw [z1,z2] at g3
 rw [z3] at g4
 rw [z1] at g2
 rw [z4]
 exact ⟨⟨_,g5,rfl⟩,h _ ⟨g5,g3,⟨_,_,g4⟩,YU b1 g1,YU b2 g2⟩ λ c o x =>
  Y01 _ (Y01 _ (Y01 _ (Y01 _ (Y01 _ x))))⟩
end
section
variable {X:Cx}
theorem Q1:bootBuiltins "zip"=some (.type "zip"):=by decide +kernel
noncomputable def z40 (K:Y00)(ta:TA):TI:=λ σ H R=>ta σ H λ vs H1=>∃ l1 l2 b1 b2 xs ys,vs=[.ref l1,.ref l2]/\SqB K H1 l1 b1 xs/\SqB K H1 l2 b2 ys/\R (Itz K l1 l2 b1 b2 xs.length ys.length) H1
theorem Inv.seqH {pins:List (Addr×Obj)}{σ:St}{H:Hp}{s:Shared}{a:Addr}{b:Bool}{xs:List V}(I:Inv X pins σ H s)(h:SqB X.K H a b xs):∃ its:Array Value,SqH s.heap a b its/\a<s.heap.objs.size:=by
 cases b with
 | true =>
  obtain ⟨its,r,pl,_⟩:=I.list (show SqL X.K H a xs from h)
  obtain ⟨o,e,_⟩:=id pl.isList
  exact ⟨_,pl.isList,Y07 e⟩
 | false =>
  obtain ⟨its,r,pl,_⟩:=I.tuple (show SqT X.K H a xs from h)
  obtain ⟨o,e,_⟩:=id pl
  exact ⟨_,pl,Y07 e⟩
theorem z1y {a b:Expr}{ta:TA}{p pos:Pos}{elts:List Expr}{x1}{pos':Pos} (hg:Gl X "zip") (hm:X.mg "zip"=none) (ha:PA X [a,b] ta) (hs:starEach [a,b] X.env=(false,eval a X.env)::starEach [b] X.env) (hs2:(backTo pos (starEach [b] X.env)).any (·.1)=false):PI X (.Tuple elts x1 pos') (.Call (.Name "zip" p) [a,b] [] pos) (z40 X.K ta):=by
 intro pins s σ H R I h
 refine Call_ (wG I hg hm Q1 (Y13 (thn (ha pos pins s σ H _ I h) λ us s1 ⟨vs,H1,I1,r1,q1⟩=>?_) hs hs2))
 obtain ⟨l1,l2,b1,b2,xs,ys,e,hx,hy,q⟩:=q1
 subst e
 cases r1 with
 | cons r rr =>
  cases rr with
  | cons r' rr' =>
   cases rr'
   cases r
   cases r'
   obtain ⟨i1,s1',t1⟩:=I1.seqH hx
   obtain ⟨i2,s2',t2⟩:=I1.seqH hy
   refine JD b1 b2 s1' s2' λ h' st k=>?_
   have D:ZipApart (s1.heap.objs.size+4) (s1.heap.objs.size+2) (s1.heap.objs.size+3) s1.heap.objs.size (s1.heap.objs.size+1) l1 l2:=by constructor<;>first | exact Y0f (by omega) | exact Y1f (by omega) | exact Y0f (Y0g t1 (by omega)) | exact Y0f (Y0g t2 (by omega))
   refine wpAny_pyIter_zip (s:={ s1 with heap:=h' }) st.1 ?_
   refine ⟨_,_,_,_,H1,rfl,I1.kept (t':=s1.toks) k,G2 D (Y0f (Y0g t1 (by omega))) (Y0f (Y0g t2 (by omega))) b1 b2 xs.length ys.length,st,λ b' hb=>?_,q⟩
   have hb':s1.heap.objs.size<=b':=by
    simp only [Y0d,Y0q,or_false] at hb
    rcases hb with rfl | rfl | rfl | rfl | rfl
    all_goals first | exact Y03 _ | exact Y3k _ _
   exact I1.fpOk hb' (I1.hok.fresh hb')
end
end L2
namespace L2
open PySem PySem.Spec PyProof.Rows
section
variable {X:Cx}{Z:ZK}{tg iter:Expr}{body:List Stmt}{wi:TI}{g:TG}{tb:TS}{pos:Pos}
theorem JE (ok:XOk X):PassesOwn (model X.prog X.w) X.A X.env (XE X Z):=by
 rintro e s' ⟨a,C,T,σ',H',rfl,I,F,z⟩
 refine I.note ok F I.ok.frames rfl λ h1 t I1 F1=>?_
 exact I1.cameBack F1 λ h2 I2 F2=>⟨a,C,some t,σ',H',rfl,I2,F2,z⟩
theorem Thr.wished (th:Thr X Z):Thr (X.wish (XE X Z)) Z:=by
 refine ⟨⟨th.top,th.ex⟩,?_⟩
 rintro e s' ⟨a,C,T,σ',H',rfl,I,F,z⟩
 exact ⟨a,C,T,σ',H',rfl,I.unwish,⟨F.fl,F.ow⟩,z⟩
theorem OU (th:Thr X Z)(hc:X.calm=true)(hi:PI (X.wish (XE X Z)) tg iter wi)(hg:PG (X.wish (XE X Z)) tg g)(hb:PSs (X.wish (XE X Z)) body tb)
  (hs:∀ x,foldedSetIterable iter X.env x=pure x:=by intro _;rfl):PS X (.For tg iter body [] pos) (z0x wi g tb):=by
 intro pins s σ H D I h
 refine wpAny_mono (z0y (X:=X.wish (XE X Z)) (JE th.toXOk) hc hi hg hb hs pins s σ H D (I.wish _) h) (λ f s' q=>q.unwish) λ e s' x=>th.thr e s' x
end
end L2
namespace L2
open PySem PySem.Spec PyProof.Rows
section
variable {X:Cx}{scope:Scope}{NC:List Str}{cap:List (Option Nat)}{elt tg iter:Expr}{ifs:List Expr}{pos pos' spos:Pos}{Z:ZK}{wi:TI}{g:TG}{tf:ZK->TT}{te:ZK->TE}{i:Nat}{x:Str}
theorem OV (hc:X.calm=true)(th:Thr X Z)(hi:PI X tg iter wi)(cok:j5 X.env.scope scope X.N NC cap=true)
  (hg:∀ C s H fp pn xe,PG (zr X NC scope C s H fp pn xe) tg g)
  (hf:∀ C s H fp pn xe Zc,Thr (zr X NC scope C s H fp pn xe) Zc->PF (zr X NC scope C s H fp pn xe) ifs (tf Zc))
  (hb:∀ C s H fp pn xe Zc,Thr (zr X NC scope C s H fp pn xe) Zc->PE (zr X NC scope C s H fp pn xe) elt (te Zc))
  (hs:∀ x,foldedSetIterable iter X.env x=pure x) (hN:X.N.Nodup) (hx:X.N[i]?=some x) (hlo:X.env.scope.names.lookup x=some .local)
  (hsw:swapsWith (.ListComp elt [⟨tg,iter,ifs,0⟩] scope pos) (some (.Name x pos')) spos.line X.env=pure true) :
  PS X (.Assign [.Name x pos'] (.ListComp elt [⟨tg,iter,ifs,0⟩] scope pos) spos) (z0v (VW Z cap wi g tf te) (YF i)):=by
 intro pins s σ H D I h
 obtain ⟨c1,c2,c3,c4,c5,c6,c7⟩:=zW cok
 rw [exec_Assign_Name_used _ _ _ _ hsw]
 refine wpAny_bind (wpAny_standAt (wpAny_bind ?_))
 show wpAny _ X.A (do let _ <- comprehension (.ListComp elt [⟨tg,iter,ifs,0⟩] scope pos) scope X.env _ (newList []) false (eval iter X.env) (some (assign (.Name x pos') X.env))) _ _ s
 refine wpAny_bind (wpAny_mono (wpAny_comprehension_free (use:=some (assign (.Name x pos') X.env)) (Q:=λ _ s'=>SP X pins D .next s') rfl hs (Zp λ y hy e=>I.ok.has y.1 (.inl (c4 y hy e))) c1 c3
  (thn (hi pins s σ H _ I h) λ xv s₁ h₁=>thn h₁ λ itv s₂ h₂=>?_)) (λ _ s' hq=>wpAny_pure (wpAny_pure hq)) λ _ _ e=>e)
 obtain ⟨it,fp,tn,J,H2,rfl,I2,T,st2,f2,W,⟨m0,w0⟩,turn⟩:=h₂
 refine JB hc th I2 T st2 f2 cok (λ C pn xe=>hg C s₂ H2 fp pn xe) (λ C pn xe t=>hf C s₂ H2 fp pn xe _ t) (λ C pn xe t=>hb C s₂ H2 fp pn xe _ t) W m0 w0 turn ?_
 rintro C D' s' H' ys us n ⟨hlen,q⟩ rv e hn hnC rfl rfl ⟨m,ns⟩ lv
 have I':Inv X pins σ H' s':=lv s'.heap (Heap.SameBut.refl _ _)
 have I3:Inv X pins σ (upd H' s₂.heap.objs.size (.lst ys)) s':=I'.track (o:=.lst ys) hn (Y22 I2.sz) (Y1f I2.lt) (λ y c ec z=>by
  obtain ⟨v,q⟩:=I2.cell y c ec
  exact absurd q.lt (by rw [z];exact Y14 _)) (λ p hp z=>absurd (Y07 (I2.pin p hp).1) (by rw [z];exact Y14 _)) ⟨hlen,us,n,rv,e⟩
 have fC:ym X pins (upd H' s₂.heap.objs.size (.lst ys)) (s₂.heap.objs.size+1):=I2.fpOk (Y2g _) (by rw [zq (Nat.succ_ne_self _)];exact hnC)
 show wpAny _ X.A (assign (.Name x pos') X.env (.ref s₂.heap.objs.size)) _ _ _
 refine wpAny_assign_Name (Jn I3 hN hx (.inl hlo) (v:=.ref s₂.heap.objs.size) rfl (λ s'' I4 ⟨a,sb,ha⟩=>?_) (.inr hlo))
 have nC:s₂.heap.objs.size+1≠a:=by
  rcases ha with rfl | ha
  ·exact fC.2.1
  ·exact λ z=>fC.2.2.2.2.1 x a ha z.symm
 refine ⟨m,ns.sameBut sb nC,λ h' sb'=>⟨_,_,I4.turned (t':=s''.toks) (λ b o hb e=>(sb'.2 b hb).trans e) fC.1 fC.2.1 fC.2.2.2.1 fC.2.2.2.2.1 fC.2.2.2.2.2,q _ hn⟩⟩
end
end L2
namespace L2
open PySem PySem.Spec PyProof.Rows
noncomputable def Itv (K:Y00)(a:Addr)(n:Nat):It :=
 ⟨λ i H=>i<n/\∃ xs,SqL K H a xs/\xs.length=n,λ i H x H'=>H'=H/\∀ xs,SqL K H a xs->xs[n-1-i]?=some x,λ i _=>i=n⟩
theorem G3 {P:Program}{w:World}{K:Y00}{tg:Expr}(a it:Addr)(n:Nat):Turn P w K tg (Itv K a n) [it] it (λ i h=>h.IsRevIter it a ((n:Int)-1-(i:Int))) where
 mem:=by simp
 obj:=λ i h st b hb=>by
  have e:b=it:=by simpa using hb
  subst e
  obtain ⟨o,e,c,d⟩:=st
  exact ⟨o,e,λ v z=>by rw [d] at z;cases z⟩
 keep:=λ i h h' st k=>st.at λ o e=>k it (by simp) o e
 item:=by
  intro X hP hw hK hc i pins s σ H E I hf st hg
  subst hP hw hK
  obtain ⟨hi,xs,hq,hn⟩:=hg
  obtain ⟨its,rv,p,hz⟩:=I.list hq
  have hx:xs[n-1-i]?=some (xs[n-1-i]'(by omega)):=Y02 _
  obtain ⟨u,hu,ru⟩:=rv.get hx
  obtain ⟨f0,f1,f2,f3,f4,f5⟩:=hf it (by simp)
  have e1:((n:Int)-1-(i:Int))=((n-1-i:Nat):Int):=by omega
  rw [e1] at st
  refine wpAny_pyNext_rev_item st p.isList (x:=u) (by simpa using hu) λ h' st' sb=>?_
  have I1:Inv X pins σ H { s with heap:=h' }:=I.turned (t':=s.toks) (λ b o hb e=>(sb.2 b hb).trans e) f0 f1 f3 f4 f5
  have e2:((n-1-i:Nat):Int)-1=(n:Int)-1-((i+1:Nat):Int):=by omega
  rw [e2] at st'
  obtain ⟨o,e,c,d⟩:=id st'
  exact ⟨u,rfl,Zh (s:={ s with heap:=h' }) e c d (by decide) ⟨_,H,I1,ru,⟨rfl,λ ys hy=>by rw [I.list_inj hy hq];exact hx⟩,st',λ b hb=>(hf b hb).1⟩⟩
 done:=by
  intro X hP hw hK hc i pins s σ H E I hf st hg
  subst hP hw hK
  have hg':i=n:=hg
  subst hg'
  obtain ⟨f0,f1,f2,f3,f4,f5⟩:=hf it (by simp)
  have e1:((i:Int)-1-(i:Int))=-1:=by omega
  rw [e1] at st
  exact wpAny_pyNext_rev_end (I.ok.hd hc) st λ h' eb=>⟨rfl,I.turned (t':=s.toks) (λ b o hb e=>eb b o hb e) f0 f1 f3 f4 f5⟩
 self:=λ _ _ _ _ _ st h=>wpAny_pyIter_revIter st h
section
variable {X:Cx}{tg:Expr}
end
end L2
namespace L2
open PySem PySem.Spec PyProof.Rows
theorem UE:typeLookup (.type "list_reverseiterator") "__len__"=pure none:=by rw [typeLookup_type,builtinLookup_eq_fast];kernel_rfl
theorem G4:typeLookup (.type "list_reverseiterator") "__length_hint__"=pure (some (.builtin "list_reverseiterator.__length_hint__")):=by rw [typeLookup_type,builtinLookup_eq_fast];kernel_rfl
section
variable {prog:Program}{w:World}{A:Around}{s:Shared}{R:Result->Shared->Prop}
variable {I:Addr}{fp wr:List Addr}{G:Array GenState->Array GenState->Prop}{n:Nat}{P:Nat->Value->Prop}{St:Nat->Shared->Prop}
theorem OW (W:WalksS prog w A.in1 I fp wr G n P St) (hT:∀ i s,St i s->s.TypeIs (.ref I) "list_reverseiterator") (S:Addr) (res:Value) (c₀:Nat) (hst:St 0 s) (hSf:S∉fp) (hI:I∈fp)
  (hS:s.heap.get? S=some { cls:=.type "list",data:=.seq #[] c₀ }) (hn:n<=sizeLine)
  (hR:∀ s' acc' c',Moved (S::wr) G s s'->s'.heap.get? S=some { cls:=.type "list",dict:=none,data:=.seq acc' c',slots:=#[] }->ItemsOf P acc' n->R (.ok (.ret res)) s') :
  wpAny (model prog w) A.in1 (Builtin.List.listExtendWith (.ref S) (.ref I) res)
   (λ fin s'=>match fin with | .done f=>R (.ok f) s' | .again c'=>c'.quiet=true/\codeAny (model prog w) A c' R s') (λ e s'=>R (.error e) s') s:=by
 have hSI:S≠I:=λ e=>hSf (e▸hI)
 have h1:Builtin.List.listSameRef (.ref S) (.ref I)=false:=by simp [Builtin.List.listSameRef,hSI]
 unfold Builtin.List.listExtendWith
 refine wpAny_bind (wpAny_typeOf (hT 0 _ hst) ?_)
 rw [if_neg (by rw [h1];decide)]
 refine wpAny_bind (W.self 0 _ _ _ hst ?_)
 refine wpAny_bind (wpAny_holding ?_)
 unfold Builtin.List.listLengthHint
 refine wpAny_bind (wpAny_specialOf (hT 0 _ hst) UE ?_)
 show wpAny _ A.in1 (specialOf (Value.ref I) (Str.ofString "__length_hint__") >>= _) _ _ _
 refine wpAny_bind (wpAny_specialOf (hT 0 _ hst) G4 ?_)
 generalize hid:("list_reverseiterator.__length_hint__":String)=id0
 wp_delta
 rw [show splitId id0=some ("list_reverseiterator","__length_hint__") from by subst hid;decide +kernel]
 subst hid
 refine wpAny_bind (wpAny_isInstance (b:=true) (hT 0 _ hst) (by rw [isSubtype_type];kernel_rfl) ?_)
 refine wpAny_pure ?_
 rw [if_neg (by decide)]
 exact wpAny_pure ⟨plainId_quiet F.plain_extend_loop _,codeAny_extend_loopS W hn _ hSf _ n 0 _ _ _ rfl (Y1h _) hst hS (ItemsOf.nil P) λ s' acc' c' hm hS' hacc=>hR s' acc' c' hm hS' hacc⟩
theorem G5 (W:WalksS prog w A.in1 I fp wr G n P St) (hT:∀ i s,St i s->s.TypeIs (.ref I) "list_reverseiterator") (S:Addr) (hst:St 0 s) (hSf:S∉fp) (hI:I∈fp)
  (hS:s.heap.get? S=some { cls:=.type "list",data:=.seq #[] }) (hn:n<=sizeLine)
  (hR:∀ s' acc' c',Moved (S::wr) G s s'->s'.heap.get? S=some { cls:=.type "list",dict:=none,data:=.seq acc' c',slots:=#[] }->ItemsOf P acc' n->R (.ok (.ret .none)) s') :
  wpAny (model prog w) A.in1 (Builtin.«list.__init__» ⟨[.ref S,.ref I],[]⟩)
   (λ fin s'=>match fin with | .done f=>R (.ok f) s' | .again c'=>c'.quiet=true/\codeAny (model prog w) A c' R s') (λ e s'=>R (.error e) s') s:=by
 show wpAny _ A.in1 (do let old <- Builtin.List.listItems (.ref S);Builtin.List.listUpdate (.ref S) (λ _=>#[]);letGo old.toList.reverse;Builtin.List.listExtendWith (.ref S) (.ref I) .none) _ _ s
 refine wpAny_bind ?_
 unfold Builtin.List.listItems
 refine wpAny_bind (wpAny_seqItems hS rfl (wpAny_pure ?_))
 show wpAny _ A.in1 (updateSeq S (λ _=>#[]) >>= λ _=>letGo (#[]:Array Value).toList.reverse >>= λ _=>Builtin.List.listExtendWith (.ref S) (.ref I) .none) _ _ s
 refine wpAny_bind (wpAny_updateSeq hS rfl ?_)
 have hS2:=Y1m (Obj.mapSeq (λ _=>(#[]:Array Value))) hS rfl
 have oth:∀ b o,b≠S->s.heap.get? b=some o->(s.heap.update S (Obj.mapSeq (λ _=>(#[]:Array Value)))).get? b=some o:=λ b o hb e=>(Y1v _ _ (Ne.symm hb)).trans e
 refine wpAny_bind (wpAny_letGo ?_)
 refine OW W hT S .none _ (W.frame 0 s _ s.toks hst (Y03 _) λ b hb o e=>oth b o (λ h=>hSf (h▸hb)) e) hSf hI hS2 hn λ s' acc' c' hm hS' hacc=>?_
 exact hR s' acc' c' (Moved.trans W.gtrans ((Moved.refl W.grefl).then_heap (Y03 _) λ b o hb e=>oth b o (λ h=>hb (h▸Y0b)) e) hm) hS' hacc
end
section
variable {prog:Program}{w:World}{A:Around}{E:Value->Shared->Prop}{s:Shared}
theorem G6 {I l:Addr}{items:Array Value}{Q:Value->Shared->Prop}(hh:A.handled=none)(hne:l≠I)(hI:I<s.heap.objs.size)(hit:s.heap.IsRevIter I l ((items.size:Int)-1))(hl:s.heap.IsList l items)(hn:items.size<=sizeLine)
  (hQ:∀ s' acc c,(∀ b o,b≠I->s.heap.get? b=some o->s'.heap.get? b=some o)->s'.gens=s.gens->s'.drawn=s.drawn->s'.os=s.os->s.toks<=s'.toks ->
   s'.heap.get? s.heap.objs.size=some { cls:=.type "list",data:=.seq acc c }->acc.toList=items.toList.reverse->Q (.ref s.heap.objs.size) s') :
  wpAny (model prog w) A (call (.type "list") [.ref I]) Q E s:=by
 have hll:l<s.heap.objs.size:=by obtain ⟨_,e,_⟩:=hl;exact Y07 e
 have W:=(Walks.listRev (prog:=prog) (w:=w) (A:=A.in1.in1) hh I l hne items).toS
 have hfp:∀ b∈[I,l],b<s.heap.objs.size:=λ b hb=>by simp at hb;rcases hb with rfl | rfl<;>assumption
 have hSf:s.heap.objs.size∉[I,l]:=λ hm=>Y14 _ (hfp _ hm)
 refine callType_codes (Q₁:=λ obj s₁=>obj=.ref s.heap.objs.size/\s₁={ s with heap:=s.heap.push { cls:=.type "list",data:=.seq #[] } }) F.called_list (F.typeCall_list_1 _) F.entry_list_init (code_list_new _ ⟨rfl,rfl⟩) λ obj s₁ h₁=>?_
 obtain ⟨rfl,rfl⟩:=h₁
 have hS:(s.heap.push { cls:=.type "list",data:=.seq #[] }).get? s.heap.objs.size=some { cls:=.type "list",data:=.seq #[] }:=Y0a _ rfl
 have st0:0<=items.size/\s.heap.IsRevIter I l ((items.size:Int)-1-((0:Nat):Int))/\s.heap.IsList l items:=⟨Y1h _,by simpa using hit,hl⟩
 refine ⟨⟨_,hS,rfl⟩,F.args_list_init_2 _ _,G5 W (λ i s x=>x.2.1.typeIs) _ (W.frame 0 s _ s.toks st0 (Y03 _) λ b _ o e=>Y01 _ e) hSf (by simp) hS hn λ s' acc' c' hm hS' hacc=>?_⟩
 refine ⟨rfl,hQ s' acc' c' (λ b o hb e=>hm.heap b o ?_ (Y01 _ e)) hm.gens hm.drawn hm.os hm.toks hS' ?_⟩
 ·have:=Y07 e
  simp
  exact ⟨Y0f this,hb⟩
 ·obtain ⟨a1,a2⟩:=hacc
  apply List.ext_getElem?
  intro i
  rw [Y32]
  by_cases hi:i<acc'.size
  ·have e:=a2 i _ (Array.getElem?_eq_getElem hi)
   rw [Array.getElem?_eq_getElem hi,Y30 (by rw [Y1t];omega),Y1t,Y32,e]
  ·rw [Array.getElem?_eq_none (by omega),Y31 (by rw [Y1s,Y1t];omega)]
variable {X:Cx}
noncomputable def rLR (K:Y00):List V->Hp->VK->Prop:=λ xs H Q=>∃ p ys,xs=[.ref p]/\SqL K H p ys/\∀ l,H l=none->Q (.ref l) (upd H l (.lst ys.reverse))
theorem Vals.rev:∀ {xs:List V}{us:List Value},Vals xs us->Vals xs.reverse us.reverse
 | _,_,.nil=>.nil
 | _,_,.cons r t=>by rw [Y1a,Y1a];exact (Vals.rev t).append (.cons r .nil)
theorem QV {a:Expr}{ta:TA}{p p' pos pos':Pos} (hc:X.calm=true) (hg:Gl X "reversed") (hm:X.mg "reversed"=none) (hg2:Gl X "list") (hm2:X.mg "list"=none) (ha:PA X [a] ta) (hs:starEach [a] X.env=[(false,eval a X.env)]) :
  PE X (.Call (.Name "list" p) [.Call (.Name "reversed" p') [a] [] pos'] [] pos) (λ σ H Q=>ta σ H λ vs H1=>rLR X.K vs H1 Q):=by
 intro pins s σ H Q I h
 refine wpAny_Call_Name_kw (wG I hg2 hm2 boot_list ?_ (by decide) (by decide))
 refine Y13 ?_ rfl rfl
 show wpAny _ _ (spliced ((false,eval (.Call (.Name "reversed" p') [a] [] pos') X.env)::[])) _ _ s
 refine Calls.spliced_cons (Call_ (wG I hg hm boot_reversed (Y13 (thn (ha pos' pins s σ H _ I h) λ us s1 ⟨vs,H1,I1,r1,q1⟩=>?_) hs rfl) (by decide) (by decide)))
 obtain ⟨b,xs,e,hq,q⟩:=q1
 subst e
 cases r1 with
 | cons r rr =>
  cases rr
  cases r
  obtain ⟨its,rv,pl,hz⟩:=I1.list hq
  have hl:=rv.length
  have hb:b<s1.heap.objs.size:=by obtain ⟨_,e,_⟩:=pl.isList;exact Y07 e
  refine call_reversed_list pl.isList ?_
  refine wpAny_pure ?_
  refine G6 (s:={ s1 with heap:=s1.heap.push (revObj b ((its.toArray.size:Int)-1)) }) (items:=its.toArray) (I1.ok.hd hc) (Y0f hb) (by simp) ⟨_,Y0a _ rfl,rfl,rfl⟩ (pl.isList.push _) (by simp only [Y09];omega) λ s' acc c k1 k2 k3 k4 k5 k6 k7=>?_
  obtain ⟨hp',g',d',tk',os'⟩:=s'
  simp only at k2 k3 k4
  subst k2 k3 k4
  have kp:∀ b' o,s1.heap.get? b'=some o->hp'.get? b'=some o:=λ b' o e=>k1 b' o (Y0f (Y07 e)) (Y01 _ e)
  have sz:s1.heap.objs.size<=(s1.heap.push (revObj b ((its.toArray.size:Int)-1))).objs.size:=by simp
  refine ⟨.ref _,_,I1.laid (t':=tk') kp sz (show ObjOk X.prog X.w _ hp' _ (.lst xs.reverse) from ⟨by rw [Y1s];exact hz,its.reverse,c,rv.rev,?_⟩),rfl,q _ (I1.hok.fresh sz)⟩
  have ea:acc=its.reverse.toArray:=by
   have:=congrArg List.toArray k7
   simpa using this
  rw [<- ea]
  exact k6
end
end L2
namespace L2
open PySem PySem.Spec PyProof.Rows
theorem JF:Manifest.owners.lookup (String.ofList ['d','e','s','r','e','v','e','r'].reverse)=some Manifest.sig_reversed:=by kernel_rfl
theorem rvt_next:Slot "reversed" "__next__" "reversed.__next__":=.of (owner:="reversed") (n:="__next__") (by rw [typeLookup_type,builtinLookup_eq_fast];kernel_rfl) (by decide +kernel) (by decide +kernel) (by decide +kernel) (by first | exact .inl (by decide +kernel) | exact .inr (by decide +kernel)) (by rw [isSubtype_type];kernel_rfl)
theorem Zv:entryFor table "reversed.__next__"=some Builtin.«reversed.__next__»:=entryFor_of_tree (by kernel_rfl)
theorem Zw (a:Value):argsOk "reversed.__next__" ⟨[a],[]⟩:=by unfold argsOk;rw [signature?_of (id:="reversed.__next__") (n:=['_','_','t','x','e','n','_','_']) (o:=['d','e','s','r','e','v','e','r']) (by kernel_rfl) JF];kernel_rfl
theorem Q2:Slot "reversed" "__iter__" "reversed.__iter__":=.of (owner:="reversed") (n:="__iter__") (by rw [typeLookup_type,builtinLookup_eq_fast];kernel_rfl) (by decide +kernel) (by decide +kernel) (by decide +kernel) (by first | exact .inl (by decide +kernel) | exact .inr (by decide +kernel)) (by rw [isSubtype_type];kernel_rfl)
theorem QW (a:Value):argsOk "reversed.__iter__" ⟨[a],[]⟩:=by unfold argsOk;rw [signature?_of (id:="reversed.__iter__") (n:=['_','_','r','e','t','i','_','_']) (o:=['d','e','s','r','e','v','e','r']) (by kernel_rfl) JF];kernel_rfl
theorem QX:entryFor table "reversed.__iter__"=some Builtin.«dict_keyiterator.__iter__»:=entryFor_alias (id':="dict_keyiterator.__iter__") (by kernel_rfl) (by first | rfl | decide +kernel | (unfold String.splitOn;simp +decide [String.splitOnAux])) (by decide +kernel) (by kernel_rfl)
theorem G7:Slot "reversed" "__init__" "object.__init__":=.of (owner:="object") (n:="__init__") (by rw [typeLookup_type,builtinLookup_eq_fast];kernel_rfl) (by decide +kernel) (by decide +kernel) (by decide +kernel) (by first | exact .inl (by decide +kernel) | exact .inr (by decide +kernel)) (by rw [isSubtype_type];kernel_rfl)
theorem QY:TypeCalled "reversed" "reversed.__new__" "object.__init__":=⟨by decide +kernel,by decide +kernel,⟨_,_,PySem.F.mro_reversed⟩,PySem.F.made_reversed,by decide +kernel,by rw [isSubtype_type];kernel_rfl,G7⟩
theorem QZ (a b:Value):argsOk "object.__init__" ⟨[a,b],[]⟩:=by unfold argsOk;rw [signature?_of (id:="object.__init__") (n:=['_','_','t','i','n','i','_','_']) (o:=['t','c','e','j','b','o']) (by kernel_rfl) PySem.F.owner_object];kernel_rfl
theorem UF:typeLookup (.type "tuple") "__reversed__"=pure none:=by rw [typeLookup_type,builtinLookup_eq_fast];kernel_rfl
theorem Y0:isSubtype (.type "tuple") (.type "dict")=pure false:=by rw [isSubtype_type];kernel_rfl
end L2
namespace L2
open PySem PySem.Spec PyProof.Rows
noncomputable def Zx (l:Addr)(i:Int):Obj:={ cls:=.type "reversed",data:=.fields #[.ref l,rawInt i] }
noncomputable def IsRvt (h:Heap)(a l:Addr)(i:Int):Prop:=∃ o,h.get? a=some o/\o.cls=.type "reversed"/\o.data=.fields #[.ref l,rawInt i]
theorem IsRvt.typeIs {s:Shared}{a l:Addr}{i:Int}(x:IsRvt s.heap a l i):s.TypeIs (.ref a) "reversed":=let ⟨o,ho,hc,_⟩:=x;⟨o,ho,hc⟩
theorem IsRvt.at {h h':Heap}{a l:Addr}{i:Int}(x:IsRvt h a l i)(e:∀ o,h.get? a=some o->h'.get? a=some o):IsRvt h' a l i:=let ⟨o,ho,r⟩:=x;⟨o,e _ ho,r⟩
theorem UG (t:Addr)(its:Array Value)(hz:(its.size:Int)<2 ^ 63):Meets (Builtin.«reversed.__new__» ⟨[.type "reversed",.ref t],[]⟩) (λ _ R s=>IsTup s.heap t its/\∀ tk,R (.ok (.ret (.ref s.heap.objs.size))) { s with heap:=s.heap.push (Zx t ((its.size:Int)-1)),toks:=tk }) :=
 .of_wp λ prog w A R s h=>by
  obtain ⟨ht,h⟩:=h
  unfold Builtin.«reversed.__new__»
  refine wpAny_bind (wpAny_of_eq (newClass_reversed _) ?_)
  try dsimp only
  refine wpAny_bind (wpAny_of_eq (a:=()) (by first | rfl | kernel_rfl) ?_)
  refine wpAny_bind (wpAny_of_eq (a:=()) (by first | rfl | kernel_rfl) ?_)
  try dsimp only
  refine wpAny_bind (wpAny_specialOf ht.typeIs UF ?_)
  try dsimp only
  refine wpAny_bind (wpAny_mono (Q:=λ b s'=>b=true/\s'=s) ?_ ?_ (λ _ _ e=>e))
  ·show wpAny _ _ (isInstance (.ref t) (.type "dict") >>= _) _ _ s
   refine wpAny_bind (wpAny_isInstance (T:="tuple") (b:=false) ht.typeIs Y0 ?_)
   simp only [Y1d,if_false,pure_bind]
   refine wpAny_bind (wpAny_specialOf ht.typeIs slot_tuple_getitem.lookup ?_)
   simp only []
   rw [if_pos (by decide)]
   exact wpAny_pure ⟨rfl,rfl⟩
  ·rintro b s' ⟨rfl,rfl⟩
   simp only [Bool.not_true,Y1d,if_false]
   refine wpAny_bind (len_tuple ht hz ?_)
   refine wpAny_bind (wpAny_of_eq (a:=some (its.size:Int)) rfl ?_)
   simp only []
   refine wpAny_bind (m:=Builtin.SmallTypes.newRecord (Value.type "reversed") [Value.ref t,rawInt ((its.size:Int)-1)]) ?_
   show wpAny _ _ (newObj (.type "reversed") (.fields #[Value.ref t,rawInt ((its.size:Int)-1)])) _ _ _
   refine wpAny_newObj_type ?_ (by size_fits)
   exact wpAny_pure ⟨_,rfl,h _⟩
section
variable {prog:Program}{w:World}{A:Around}{E:Value->Shared->Prop}{s:Shared}
theorem G8 {t:Addr}{its:Array Value}{Q:Value->Shared->Prop}(ht:IsTup s.heap t its)(hz:(its.size:Int)<2 ^ 63)
  (h:∀ tk,Q (.ref s.heap.objs.size) { s with heap:=s.heap.push (Zx t ((its.size:Int)-1)),toks:=tk }):wpAny (model prog w) A (call (.type "reversed") [.ref t]) Q E s:=by
 refine callType_new QY (by decide) (PySem.F.typeCall_reversed_1 _) (PySem.F.newCall_reversed_1 _) (λ obj=>QZ obj _) PySem.F.entry_reversed_new (UG t its hz) ⟨ht,λ tk=>?_⟩
 exact ⟨⟨_,Y0a _ rfl,rfl⟩,h tk⟩
theorem G9 {it t:Addr}{i:Nat}{its:Array Value}{x:Value}{Q:Option Value->Shared->Prop}(hit:IsRvt s.heap it t (i:Int))(ht:IsTup s.heap t its)(hx:its[i]?=some x)(hz:(its.size:Int)<2 ^ 63)
  (hQ:∀ h' tk,IsRvt h' it t ((i:Int)-1)->Heap.SameBut it s.heap h'->Q (some x) { s with heap:=h',toks:=tk }):wpAny (model prog w) A (pyNext (.ref it)) Q E s:=by
 obtain ⟨o,ho,hc,hd⟩:=id hit
 have hi:i<its.size:=by
  by_cases h:i<its.size
  ·exact h
  ·rw [Array.getElem?_eq_none (by omega)] at hx;cases hx
 unfold pyNext
 refine wpAny_bind (wpAny_attempt (wpAny_callSpecial?_slot (name:=Str.ofString "__next__") hit.typeIs rvt_next (wpAny_call_entry rvt_next hit.typeIs Zv ?_ (Zw _))))
 unfold Builtin.«reversed.__next__»
 refine wpAny_bind (wpAny_of_eq (a:=(Value.ref it,[])) rfl ?_)
 try dsimp only
 refine wpAny_bind (wpAny_field ho hd (x:=.ref t) rfl ?_)
 refine wpAny_bind (wpAny_field ho hd (x:=rawInt (i:Int)) rfl ?_)
 show wpAny _ _ (if (i:Int)<0 then _ else _) _ _ s
 rw [if_neg (by omega)]
 show wpAny _ _ (specialOf (.ref t) "__getitem__" >>= _) _ _ s
 refine wpAny_bind (wpAny_specialOf ht.typeIs slot_tuple_getitem.lookup ?_)
 simp only [Option.isNone,Y1d,if_false]
 refine wpAny_bind (wpAny_mkInt ?_)
 refine wpAny_bind (wpAny_attempt (getItem_tuple (s:={ s with toks:=s.toks+1 }) (j:=i) (x:=x) ht (by omega) (by omega) (by unfold seqIndex?;simp only [];split<;>simp_all<;>omega) hx ?_))
 simp only []
 refine wpAny_bind (wpAny_field (s:={ s with toks:=s.toks+1 }) ho hd (x:=rawInt (i:Int)) rfl ?_)
 show wpAny _ _ (setField (.ref it) 1 (rawInt ((i:Int)-1)) >>= _) _ _ _
 refine wpAny_bind (wpAny_setField (s:={ s with toks:=s.toks+1 }) ho hd (by simp) ?_)
 refine wpAny_pure ⟨x,rfl,wpAny_pure (hQ _ _ ?_ (Heap.SameBut.update ..))⟩
 exact ⟨_,Y1m _ ho (Obj.isFreed_of_fields (Obj.data_mapFields hd _)),(Obj.cls_mapFields ..).trans hc,by rw [Obj.data_mapFields hd];simp⟩
theorem OX {it t:Addr}{Q:Option Value->Shared->Prop}(hh:A.handled=none)(hit:IsRvt s.heap it t (-1))
  (hQ:∀ h',Heap.ExtBut it s.heap h'->Q none { s with heap:=h' }):wpAny (model prog w) A (pyNext (.ref it)) Q E s:=by
 obtain ⟨o,ho,hc,hd⟩:=id hit
 unfold pyNext
 refine wpAny_bind (wpAny_attempt (wpAny_callSpecial?_slot (name:=Str.ofString "__next__") hit.typeIs rvt_next (wpAny_call_entry rvt_next hit.typeIs Zv ?_ (Zw _))))
 unfold Builtin.«reversed.__next__»
 refine wpAny_bind (wpAny_of_eq (a:=(Value.ref it,[])) rfl ?_)
 try dsimp only
 refine wpAny_bind (wpAny_field ho hd (x:=.ref t) rfl ?_)
 refine wpAny_bind (wpAny_field ho hd (x:=rawInt (-1)) rfl ?_)
 show wpAny _ _ (if (-1:Int)<0 then _ else _) _ _ s
 rw [if_pos (by decide)]
 refine wpAny_bind (wpAny_rule ?_)
 refine wpAny_bind (wpAny_mono (Q:=λ _ s'=>∃ h',s'={ s with heap:=h' }/\Heap.SameBut it s.heap h') ?_ ?_ (λ _ _ e=>e))
 ·show wpAny _ _ (setField (.ref it) 1 (rawInt (-1)) >>= λ _=>setField (.ref it) 0 .none) _ _ s
  refine wpAny_bind (wpAny_setField ho hd (by simp) ?_)
  refine wpAny_setField (Y1m _ ho (Obj.isFreed_of_fields (Obj.data_mapFields hd _))) (Obj.data_mapFields hd _) (by simp) ?_
  exact ⟨_,rfl,(Heap.SameBut.update ..).trans (Heap.SameBut.update ..)⟩
 ·rintro _ s' ⟨h1,rfl,sb⟩
  refine wpAny_bind ?_
  unfold Builtin.SmallTypes.stopIteration
  refine wpAny_bind ?_
  simp only [newExc,newTuple]
  refine wpAny_bind (wpAny_newObj_type ?_ (by size_fits))
  refine wpAny_bind (m:=firstArgMember _ _) (wpAny_of_eq (a:=Value.none) (by first | rfl | (simp only [firstArgMember];rfl)) ?_)
  refine wpAny_newObj_type ?_ (by size_fits)
  simp only [raiseNew]
  refine wpAny_bind (wpAny_handled ?_)
  first | rw [show A.in1.handled=none from hh] | rw [hh]
  refine wpAny_bind (wpAny_pure (wpAny_throw ?_))
  refine wpAny_bind (wpAny_isInstance (T:="StopIteration") (b:=true) ⟨_,Y0a _ rfl,rfl⟩ isSubtype_stop ?_)
  exact wpAny_pure (hQ _ ((sb.extBut.push _).push _))
theorem Q3 {it t:Addr}{i:Int}{Q:Value->Shared->Prop}(hit:IsRvt s.heap it t i)(h:Q (.ref it) s):wpAny (model prog w) A (pyIter (.ref it)) Q E s:=by
 refine wpAny_pyIter_slot hit.typeIs Q2 (wpAny_call_entry Q2 hit.typeIs QX ?_ (QW _))
 show wpAny _ _ (ret (.ref it)) _ _ s
 exact wpAny_pure ⟨_,rfl,"reversed",_,hit.typeIs,rvt_next.lookup,h⟩
end
noncomputable def Itw (K:Y00)(a:Addr)(n:Nat):It :=
 ⟨λ i H=>i<n/\∃ xs,SqT K H a xs/\xs.length=n,λ i H x H'=>H'=H/\∀ xs,SqT K H a xs->xs[n-1-i]?=some x,λ i _=>i=n⟩
theorem Ga {P:Program}{w:World}{K:Y00}{tg:Expr}(a it:Addr)(n:Nat):Turn P w K tg (Itw K a n) [it] it (λ i h=>IsRvt h it a ((n:Int)-1-(i:Int))) where
 mem:=by simp
 obj:=λ i h st b hb=>by
  have eb:b=it:=by simpa using hb
  subst eb
  obtain ⟨o,e1,e2,e3⟩:=st
  exact ⟨o,e1,λ v z=>by rw [e3] at z;cases z⟩
 keep:=λ i h h' st k=>st.at λ o e=>k it (by simp) o e
 item:=by
  intro X hP hw hK hc i pins s σ H E I hf st hg
  subst hP hw hK
  obtain ⟨hi,xs,hq,hn⟩:=hg
  obtain ⟨its,rv,p,hz⟩:=I.tuple hq
  have hl:=rv.length
  have ln:=wW
  have hx:xs[n-1-i]?=some (xs[n-1-i]'(by omega)):=Y02 _
  obtain ⟨u,hu,ru⟩:=rv.get hx
  obtain ⟨f0,f1,f2,f3,f4,f5⟩:=hf it (by simp)
  have e1:((n:Int)-1-(i:Int))=((n-1-i:Nat):Int):=by omega
  rw [e1] at st
  refine G9 st p (x:=u) (by simpa using hu) (by rw [Y09];omega) λ h' tk st' sb=>?_
  have I1:Inv X pins σ H { s with heap:=h',toks:=tk }:=I.turned (t':=tk) (λ b o hb e=>(sb.2 b hb).trans e) f0 f1 f3 f4 f5
  have e2:((n-1-i:Nat):Int)-1=(n:Int)-1-((i+1:Nat):Int):=by omega
  rw [e2] at st'
  obtain ⟨o,g1,g2,g3⟩:=id st'
  exact ⟨u,rfl,Zh (s:={ s with heap:=h',toks:=tk }) g1 g2 g3 (by decide) ⟨_,H,I1,ru,⟨rfl,λ ys hy=>by rw [I.tuple_inj hy hq];exact hx⟩,st',λ b hb=>(hf b hb).1⟩⟩
 done:=by
  intro X hP hw hK hc i pins s σ H E I hf st hg
  subst hP hw hK
  have hg':i=n:=hg
  subst hg'
  obtain ⟨f0,f1,f2,f3,f4,f5⟩:=hf it (by simp)
  have e1:((i:Int)-1-(i:Int))=-1:=by omega
  rw [e1] at st
  exact OX (I.ok.hd hc) st λ h' eb=>⟨rfl,I.turned (t':=s.toks) (λ b o hb e=>eb b o hb e) f0 f1 f3 f4 f5⟩
 self:=λ _ _ _ _ _ st h=>Q3 st h
section
variable {X:Cx}{tg:Expr}
noncomputable def z41 (K:Y00)(ta:TA):TI:=λ σ H R=>ta σ H λ vs H1=>∃ a xs,vs=[.ref a]/\((SqL K H1 a xs/\R (Itv K a xs.length) H1)\/(SqT K H1 a xs/\R (Itw K a xs.length) H1))
theorem OY {a:Expr}{ta:TA}{p pos:Pos} (hg:Gl X "reversed") (hm:X.mg "reversed"=none) (ha:PA X [a] ta) (hs:starEach [a] X.env=[(false,eval a X.env)]):PI X tg (.Call (.Name "reversed" p) [a] [] pos) (z41 X.K ta):=by
 intro pins s σ H R I h
 refine Call_ (wG I hg hm boot_reversed (Y13 (thn (ha pos pins s σ H _ I h) λ us s1 ⟨vs,H1,I1,r1,q1⟩=>?_) hs rfl))
 obtain ⟨b,xs,e,hq⟩:=q1
 subst e
 cases r1 with
 | cons r rr =>
  cases rr
  cases r
  rcases hq with ⟨hq,q⟩ | ⟨hq,q⟩
  ·obtain ⟨its,rv,pl,hz⟩:=I1.list hq
   refine call_reversed_list pl.isList ?_
   have hl:(its.toArray.size:Int)=(xs.length:Int):=by rw [Y09,rv.length]
   have it0:(s1.heap.push (revObj b ((its.toArray.size:Int)-1))).IsRevIter s1.heap.objs.size b ((xs.length:Int)-1-((0:Nat):Int)):=⟨_,Y0a _ rfl,rfl,by rw [hl];simp [revObj]⟩
   refine wpAny_pyIter_revIter (s:={ s1 with heap:=s1.heap.push (revObj b ((its.toArray.size:Int)-1)) }) it0 ?_
   refine ⟨s1.heap.objs.size,[s1.heap.objs.size],_,_,H1,rfl,I1.kept (t':=s1.toks) λ b' o e=>Y01 _ e,G3 b _ xs.length,it0,λ b' hb=>?_,q⟩
   have e:b'=s1.heap.objs.size:=by simpa using hb
   subst e
   exact I1.fpOk (Y03 _) (I1.hok.fresh (Y03 _))
  ·obtain ⟨its,rv,pl,hz⟩:=I1.tuple hq
   have ln:=wW
   have hl:(its.toArray.size:Int)=(xs.length:Int):=by rw [Y09,rv.length]
   refine G8 pl (by have:=rv.length;rw [Y09];omega) λ tk=>?_
   have it0:IsRvt (s1.heap.push (Zx b ((its.toArray.size:Int)-1))) s1.heap.objs.size b ((xs.length:Int)-1-((0:Nat):Int)):=⟨_,Y0a _ rfl,rfl,by rw [hl];simp [Zx]⟩
   refine Q3 (s:={ s1 with heap:=s1.heap.push (Zx b ((its.toArray.size:Int)-1)),toks:=tk }) it0 ?_
   refine ⟨s1.heap.objs.size,[s1.heap.objs.size],_,_,H1,rfl,I1.kept (t':=tk) λ b' o e=>Y01 _ e,Ga b _ xs.length,it0,λ b' hb=>?_,q⟩
   have e:b'=s1.heap.objs.size:=by simpa using hb
   subst e
   exact I1.fpOk (Y03 _) (I1.hok.fresh (Y03 _))
end
end L2
namespace L2
open PySem PySem.Spec PyProof.Rows
open HT in
theorem OZ {prog:Program}{w:World}{A:Around}{E:Value->Shared->Prop}{s:Shared}{t sl:Addr}{items:Array Value}{vl vu:Value}{lo hi:Option Int}{Q:Value->Shared->Prop}(ht:IsTup s.heap t items)(hs:s.heap.IsSliceOf sl vl vu .none)(pl:IsPart vl lo)(pu:IsPart vu hi)
  (h1:sIx items.size 0 lo=0) (h2:sIx items.size items.size hi=items.size) (h:Q (.ref t) s):wpAny (model prog w) A (getItem (.ref t) (.ref sl)) Q E s:=by
 obtain ⟨os,hos,hcs,hds⟩:=id hs
 have hTs:s.TypeIs (.ref sl) "slice":=⟨os,hos,hcs⟩
 unfold getItem
 try with_reducible refine wpAny_holding ?_
 first | refine wpAny_bind (wpAny_pure ?_) | skip
 refine wpAny_bind (wpAny_sequenceKey ht.typeIs (by decide) ?_)
 refine wpAny_bind (wpAny_callSpecial?_slot (name:=Str.ofString "__getitem__") ht.typeIs Y1p (wpAny_call_entry Y1p ht.typeIs entry_tuple_getitem ?_ (args_tuple_getitem _ _)))
 show wpAny _ _ (Builtin.Tuple.tupleItemsOf (.ref t) >>= _) _ _ s
 refine wpAny_bind (tupleItemsOf_ ht ?_)
 refine wpAny_bind (wpAny_typeOf hTs ?_)
 rw [if_pos (by decide)]
 refine wpAny_bind (wz hs pl pu ?_)
 have hy:(((sIx items.size 0 lo:Nat):Int)==0&&(1:Int)==1&&(sIx items.size items.size hi-sIx items.size 0 lo)==items.size)=true:=by rw [h1,h2];simp
 show wpAny _ _ (if (((sIx items.size 0 lo:Nat):Int)==0&&(1:Int)==1&&(sIx items.size items.size hi-sIx items.size 0 lo)==items.size)=true then _ else _) _ _ s
 rw [if_pos hy]
 refine wpAny_bind ?_
 unfold Builtin.Tuple.tupleIsExact
 refine wpAny_bind (wpAny_typeOf ht.typeIs (wpAny_pure ?_))
 rw [if_pos (by decide)]
 refine wpAny_bind (wpAny_rule ?_)
 exact wpAny_pure ⟨_,rfl,wpAny_pure h⟩
noncomputable def z65 (K:Y00):V->Option Int->Option Int->Hp->VK->Prop:=λ x lo hi H Q=>∃ a xs,x=.ref a/\SqT K H a xs/\HT.sIx xs.length 0 lo=0/\HT.sIx xs.length xs.length hi=xs.length/\Q (.ref a) H
theorem B0 {X:Cx}:SlR X (z65 X.K):=by
 intro pins s σ H x v vl vu lo hi sl Q I rx hs pl pu h
 obtain ⟨a,xs,rfl,hx,w1,w2,q⟩:=h
 cases rx
 obtain ⟨its,r,ht,hz⟩:=I.tuple hx
 have hlen:its.toArray.size=xs.length:=by rw [Y09];exact r.length.symm
 exact ⟨"tuple",_,PyProof.Rows.slot_tuple_getitem.lookup,ht.typeIs,OZ ht hs pl pu (by rw [hlen];exact w1) (by rw [hlen];exact w2) ⟨.ref a,H,I,rfl,q⟩⟩
end L2
namespace L2
open PySem PySem.Spec PyProof.Rows
theorem ja:entryFor table "dict.update.loop"=some Builtin.«dict.update.loop»:=entryFor_of_tree (by kernel_rfl)
theorem zD:plainId "dict.update.loop"=true:=by decide +kernel
theorem Q4:typeLookup (.type "list") "keys"=pure none:=by rw [typeLookup_type,builtinLookup_eq_fast];kernel_rfl
section
variable {prog:Program}{w:World}{A:Around}{E:Value->Shared->Prop}{s:Shared}
theorem Jc {a:Addr}{xs:Array Value}{k:Nat}{sl:Array (Option Value)}{Q:Option Value->Shared->Prop} (hx:s.heap.get? a=some { cls:=.type "list",dict:=none,data:=.seq xs k,slots:=sl }) (hA:A.handled=none)
  (h:∀ h' tk,(∀ b ob,s.heap.get? b=some ob->h'.get? b=some ob)->Q none { s with heap:=h',toks:=tk }) :
  wpAny (model prog w) A (getAttr? (.ref a) "keys") Q E s:=by
 obtain ⟨hp,g,d,tk,os⟩:=s
 have hT:∀ tk',(⟨hp,g,d,tk',os⟩:Shared).TypeIs (.ref a) "list":=λ _=>⟨_,hx,rfl⟩
 have f1:=sub_AttributeError
 have f3:=F.slot_list_getattribute.lookup
 have f4:=F.slot_list_getattribute.bind (.ref a)
 have f5:=am_list_getattr_none
 have hname:(["__module__","__name__","__qualname__","__doc__","__annotations__"]:List Str).contains "keys"=false:=by decide +kernel
 have hsz:(Str.ofString "keys").length+100<=sizeLine:=by decide +kernel
 unfold getAttr? getAttrBy? getAttrBy
 repeat (any_goals (first | assumption | exact hT _ | ((with_reducible show wpAny _ _ (call (Value.builtin "list.__getattribute__") _ _) _ _ _);refine call_meets F.slot_list_getattribute (hT _) am_entry_list_getattribute (F.args_list_getattribute_2 _ _) (meets_getattribute_miss_list a xs k sl "keys" _ Q4 hname hsz) ⟨hx,hA,λ h' tk' e hx'=>?_⟩) | wp_step))
 obtain ⟨t',u',he⟩:=hx'.there
 show wpAny _ _ (getattributeRaised _ _ _ _ _ _ _) _ _ _
 unfold getattributeRaised
 repeat (any_goals (first | assumption | wp_step))
 exact h _ _ hx'.keeps
end
section
variable {prog:Program}{w:World}{A:Around}{R:Result->Shared->Prop}{I:Addr}{fp wr:List Addr}{G:Array GenState->Array GenState->Prop}{n:Nat}{P:Nat->Value->Prop}{St:Nat->Shared->Prop}{K:Type}[DecidableEq K]{knd:KeyKind prog w K}
noncomputable def Two (h:Heap)(a:Addr)(x y:Value):Prop:=∃ o n,h.get? a=some o/\o.cls=.type "tuple"/\o.data=.seq #[x,y] n
theorem Y1 (kvs:List (K×Value)):∀ (more:List (K×Value)),(merged kvs more).length<=kvs.length+more.length:=by
 intro more
 induction more generalizing kvs with
 | nil=>exact Y03 _
 | cons p r ih =>
  have h1:=ih (stored kvs p.1 p.2)
  have h2:(stored kvs p.1 p.2).length<=kvs.length+1:=by
   unfold stored
   split
   ·rw [Y0j];exact Y2g _
   ·rw [Y0u];exact Y03 _
  show (merged (stored kvs p.1 p.2) r).length<=_
  rw [Y06];omega
theorem UH (W:WalksS prog w A.in1 I fp wr G n P St)(D:Addr)(hDf:D∉fp)(more:List (K×Value))(hn:n<=1000000)(hml:more.length=n)(s₀:Shared)
  (hval:∀ (i:Nat) (v:Value),P i v->∃ a kv vv k,v=.ref a/\a∉D::wr/\Two s₀.heap a kv vv/\more[i]?=some (k,vv)/\knd.is k kv=true) :
  ∀ (k i:Nat) (s:Shared) (ti:Tok),n-i=k->i<=n->St i s->Moved (D::wr) G s₀ s->s.heap.DictOf knd D (merged [] (more.take i)) ->
   (∀ s',Moved (D::wr) G s₀ s'->s'.heap.DictOf knd D (merged [] more)->R (.ok (.ret .none)) s') ->
   codeAny (model prog w) A (.builtin "dict.update.loop" ⟨[.ref D,.ref I,.int (i:Nat) ti,.none],[]⟩) R s:=by
 have hDw:D∉wr:=λ h=>hDf (W.sub _ h)
 have hsub:∀ b∈wr,b∈D::wr:=λ b hb=>Y04 _ hb
 intro k
 induction k with
 | zero =>
  intro i s ti hk hi hst mv hS hR
  have hin:i=n:=by omega
  subst hin
  refine codeAny_builtin ja ?_
  rw [Around.under_plainId zD _]
  show wpAny _ A.in1 (pyNext (.ref I) >>= _) _ _ s
  refine wpAny_bind (W.done s _ _ hst λ s' hm=>?_)
  show wpAny _ A.in1 (Builtin.Dict.addKeywords D [] >>= λ _=>ret Value.none) _ _ s'
  refine wpAny_bind (wpAny_pure (wpAny_pure (hR s' (mv.trans W.gtrans (hm.mono hsub)) ?_)))
  rw [<- hml,List.take_length] at hS
  obtain ⟨o,es,ep,ho,r⟩:=hS
  exact ⟨o,es,ep,hm.heap D _ hDw ho,r⟩
 | succ k ih =>
  intro i s ti hk hi hst mv hS hR
  have hlt:i<n:=by omega
  refine codeAny_builtin ja ?_
  rw [Around.under_plainId zD _]
  show wpAny _ A.in1 (pyNext (.ref I) >>= _) _ _ s
  refine wpAny_bind (W.item i s _ _ hlt hst λ v s' hP hst' hm=>?_)
  obtain ⟨a,kv,vv,kk,rfl,ha,⟨o,n',ho,hoc,hod⟩,hmi,hkk⟩:=hval i v hP
  have mv':=mv.trans W.gtrans (hm.mono hsub)
  have ho':=mv'.heap a o ha ho
  have hS':s'.heap.DictOf knd D (merged [] (more.take i)):=by
   obtain ⟨o,es,ep,ho,r⟩:=hS
   exact ⟨o,es,ep,hm.heap D _ hDw ho,r⟩
  have hT:s'.TypeIs (.ref a) "tuple":=⟨_,ho',hoc⟩
  refine wpAny_bind (wpAny_holding ?_)
  have pr:∀ {Q:List Value->Shared->Prop}{E:Value->Shared->Prop},Q [kv,vv] s'->wpAny (model prog w) A.in1 (Builtin.Dict.pairItems (.ref a)) Q E s':=λ {Q E} q=>by
   unfold Builtin.Dict.pairItems
   refine wpAny_bind (wpAny_typeOf hT ?_)
   rw [if_pos (by decide)]
   exact wpAny_bind (wpAny_seqItems ho' hod (wpAny_pure q))
  refine wpAny_bind (wpAny_tryCatch (pr ?_))
  show wpAny _ A.in1 (holding [kv,vv] (dictSet D kv vv)) _ _ s'
  refine wpAny_holding (wpAny_dictSet_pairs hkk hS' (λ h' hd' hsb=>?_) ?_)
  ·refine wpAny_pure ⟨plainId_quiet zD _,?_⟩
   have e:((i:Int)+1)=((i+1:Nat):Int):=rfl
   show codeAny _ A (.builtin "dict.update.loop" ⟨[.ref D,.ref I,.int ((i:Int)+1) 0,.none],[]⟩) R _
   rw [e]
   refine ih (i+1) _ 0 (by omega) hlt (W.frame _ s' _ _ hst' (Y2g _) λ b hb o e=>?_) (mv'.then_heap (Y2g _) λ b o hb e=>?_) ?_ hR
   ·exact (hsb.2 b (λ h:b=D=>hDf (h▸hb))).trans e
   ·exact (hsb.2 b (λ h:b=D=>hb (h▸Y0b))).trans e
   ·rw [merged_take_succ _ _ _ _ hmi];exact hd'
  ·have h1:=Y1 ([]:List (K×Value)) (more.take i)
   rw [Y2z,Y2u] at h1
   rw [sizeLine_eq];omega
end
section
variable {prog:Program}{w:World}{A:Around}{E:Value->Shared->Prop}{s:Shared}{K:Type}[DecidableEq K]{knd:KeyKind prog w K}
theorem yY {l:Addr}{items:Array Value}{c:Nat}{sl:Array (Option Value)}{more:List (K×Value)}{Q:Value->Shared->Prop} (hh:A.handled=none) (hl:s.heap.get? l=some { cls:=.type "list",dict:=none,data:=.seq items c,slots:=sl }) (hn:items.size<=1000000) (hml:more.length=items.size)
  (hval:∀ (i:Nat) (v:Value),items[i]?=some v->∃ a kv vv k,v=.ref a/\Two s.heap a kv vv/\more[i]?=some (k,vv)/\knd.is k kv=true)
  (h:∀ h' tk,h'.DictOf knd s.heap.objs.size (merged [] more)->(∀ b o,s.heap.get? b=some o->h'.get? b=some o)->Q (.ref s.heap.objs.size) { s with heap:=h',toks:=tk }) :
  wpAny (model prog w) A (call (.type "dict") [.ref l]) Q E s:=by
 refine callType_codes (Q₁:=λ obj s₁=>obj=.ref s.heap.objs.size/\s₁={ s with heap:=s.heap.push { cls:=.type "dict",data:=.dict #[] } }) F.kt_called_dict (F.kt_typeCall_dict_1 _) F.entry_dict_init (kt_code_dict_new _ ⟨rfl,rfl⟩) ?_
 rintro obj s₁ ⟨rfl,rfl⟩
 have hnew:(s.heap.push { cls:=.type "dict",data:=.dict #[] }).DictOf knd s.heap.objs.size []:=Heap.DictOf.new s.heap
 have hl1:(s.heap.push { cls:=.type "dict",data:=.dict #[] }).get? l=some { cls:=.type "list",dict:=none,data:=.seq items c,slots:=sl }:=Y01 _ hl
 have hT:Shared.TypeIs { s with heap:=s.heap.push { cls:=.type "dict",data:=.dict #[] } } (.ref l) "list":=⟨_,hl1,rfl⟩
 refine ⟨hnew.typeIs,F.args_dict_init_2 _ _,?_⟩
 unfold Builtin.«dict.__init__»
 refine wpAny_bind ?_
 unfold Builtin.Dict.selfAndRest
 refine wpAny_bind (wpAny_notOrdered_dict hnew.typeIs ?_)
 show wpAny _ _ (pure (s.heap.objs.size,[Value.ref l])) _ _ _
 refine wpAny_pure ?_
 show wpAny _ _ (Builtin.Dict.updateFrom "dict.__init__" s.heap.objs.size (.ref l) [] .none) _ _ _
 unfold Builtin.Dict.updateFrom
 refine wpAny_bind (wpAny_typeOf hT ?_)
 rw [if_pos (by decide)]
 refine wpAny_bind (Jc hl1 hh λ h1 t1 k1=>?_)
 rw [if_pos (by decide)]
 refine wpAny_bind (wpAny_rule ?_)
 have hl2:h1.IsList l items:=⟨_,k1 _ _ hl1,rfl,c,rfl⟩
 refine wpAny_bind (wpAny_pyIter_list hl2 ?_)
 have hlt:l<s.heap.objs.size:=Y07 hl
 have sz1:s.heap.objs.size<h1.objs.size:=by
  obtain ⟨o,_,_,e,_⟩:=hnew
  exact Y07 (k1 _ _ e)
 have hne:l≠h1.objs.size:=Y0f (Y3h hlt sz1)
 have old:∀ b o,s.heap.get? b=some o->h1.get? b=some o:=λ b o e=>k1 b o (Y01 _ e)
 refine wpAny_pure ⟨plainId_quiet zD _,?_⟩
 have hDf:s.heap.objs.size∉[h1.objs.size,l]:=by
  simp only [Y0d,Y0m,Y0q,or_false,not_or]
  exact ⟨Y0f sz1,Y1f hlt⟩
 refine UH (knd:=knd) ((Walks.list (prog:=prog) (w:=w) (A:=A.in1.in1) hh h1.objs.size l hne items).toS) s.heap.objs.size hDf more hn hml _ (λ i v hv=>?_) items.size 0 _ 0 (by omega) (Y1h _) ⟨⟨_,Y0a _ rfl,rfl,rfl⟩,hl2.push _⟩ (Moved.refl λ _=>rfl) ?_ λ s' mv hd=>?_
 ·obtain ⟨a,kv,vv,k,e,⟨o,n',e1,e2,e3⟩,e4,e5⟩:=hval i v hv
  have hla:=Y07 e1
  refine ⟨a,kv,vv,k,e,?_,⟨o,n',Y01 _ (old a o e1),e2,e3⟩,e4,e5⟩
  simp only [Y0d,Y0m,Y0q,or_false,not_or]
  exact ⟨Y0f hla,Y0f (Y3h hla sz1)⟩
 ·obtain ⟨o,es,ep,ho,r⟩:=hnew
  exact ⟨o,es,ep,Y01 _ (k1 _ _ ho),r⟩
 ·obtain ⟨h',g',d',tk',os'⟩:=s'
  have eg:g'=s.gens:=mv.gens
  have ed:d'=s.drawn:=mv.drawn
  have eo:os'=s.os:=mv.os
  subst eg;subst ed;subst eo
  refine ⟨rfl,h h' tk' hd λ b o e=>mv.heap b o ?_ (Y01 _ (old b o e))⟩
  have hb:=Y07 e
  simp only [Y0d,Y0m,Y0q,or_false,not_or]
  exact ⟨Y0f hb,Y0f (Y3h hb sz1)⟩
end
section
variable {X:Cx}
theorem Q5 {pins:List (Addr×Obj)}{σ:St}{H:Hp}{s:Shared}(I:Inv X pins σ H s):∀ {ys:List V}{kvs:List (Key×V)}{its:List Value},Paired (λ (x:V) (kv:Key×V)=>∃ a,x=.ref a/\SqT X.K H a [kV kv.1,kv.2]) ys kvs->Vals ys its ->
  ∃ more:List (Key×Value),KV kvs more/\more.length=its.length/\∀ (i:Nat) (v:Value),its[i]?=some v->∃ a kv vv k,v=.ref a/\Two s.heap a kv vv/\more[i]?=some (k,vv)/\(zy X.prog X.w).is k kv=true
 | _,_,_,.nil,.nil=>⟨[],.nil,rfl,λ i v h=>by simp at h⟩
 | _,_,_,@Paired.cons _ _ _ x kv ys kvs h t,.cons (b:=u) (l₂:=us) r rr=>by
  obtain ⟨more,m1,m2,m3⟩:=Q5 I t rr
  obtain ⟨a,rfl,q⟩:=h
  have ru:u=.ref a:=r
  subst ru
  obtain ⟨its2,r2,⟨o,e1,e2,n,e3⟩,_⟩:=I.tuple q
  cases r2 with
  | @cons _ kvv _ _ ra rt =>
   cases rt with
   | @cons _ vv _ _ rb rn =>
    cases rn
    refine ⟨(kv.1,vv)::more,.cons ⟨rfl,rb⟩ m1,by rw [Y06,Y06,m2],λ i v hv=>?_⟩
    cases i with
    | zero =>
     have:v=.ref a:=by simpa using hv.symm
     subst this
     exact ⟨a,kvv,vv,kv.1,rfl,⟨o,n,e1,e2,e3⟩,rfl,y0 ra⟩
    | succ i=>exact m3 i v (by simpa using hv)
noncomputable def rDP (K:Y00):List V->Hp->VK->Prop:=λ xs H Q=>∃ p ys kvs,xs=[.ref p]/\SqL K H p ys/\ys.length<=1000000/\Paired (λ (x:V) (kv:Key×V)=>∃ a,x=.ref a/\SqT K H a [kV kv.1,kv.2]) ys kvs/\∀ l,H l=none->Q (.ref l) (upd H l (.dK (w9 [] kvs)))
theorem Y2 (hc:X.calm=true):CallR X (.type "dict") (rDP X.K):=by
 rintro pins s σ H xs us Q I r ⟨p,ys,kvs,rfl,hl,hn,hp,q⟩
 cases r with
 | cons r rr =>
  cases rr
  cases r
  obtain ⟨its,rv,⟨o,n,e1,e2,e3,e4⟩,hz⟩:=I.list hl
  obtain ⟨c,dct,dat,sl⟩:=o
  simp only at e2 e3 e4
  subst e2 e3 e4
  obtain ⟨more,m1,m2,m3⟩:=Q5 I hp rv
  have hle:=rv.length
  have hkl:kvs.length=ys.length:=hp.length.symm
  refine yY (knd:=zy X.prog X.w) (more:=more) (I.ok.hd hc) e1 (by simp only [Y09];omega) (by simp only [Y09];exact m2) (λ i v hv=>m3 i v (by simpa using hv)) λ h' tk dd old=>?_
  have hz:(w9 [] kvs).length<=sizeLine:=by
   have h1:=wa kvs []
   rw [Y2z] at h1
   rw [sizeLine_eq];omega
  exact ⟨.ref _,_,I.laid (t':=tk) old (Y03 _) (QQ hz (beq_eq_false_iff_ne.mpr (Ne.symm (Y0f I.big))) (m1.merge .nil) dd),rfl,q _ (I.hok.fresh (Y03 _))⟩
end
section
variable {prog:Program}{w:World}{A:Around}{E:Value->Shared->Prop}{s:Shared}
theorem JG {it t:Addr}{items:Array Value}(hne:t≠it):∀ (n i:Nat) (s:Shared) (Q:List Value->Shared->Prop),s.heap.IsListIter it t i->s.heap.IsList t items->i+n<=items.size ->
  (∀ h',h'.IsListIter it t (i+n)->Heap.SameBut it s.heap h'->Q ((items.toList.drop i).take n) { s with heap:=h' })->wpAny (model prog w) A (draw (.ref it) n) Q E s
 | 0,i,s,Q,hit,_,_,hQ=>by
  show wpAny _ _ (pure []) Q E s
  exact wpAny_pure (by simpa using hQ s.heap hit (Heap.SameBut.refl ..))
 | n+1,i,s,Q,hit,ht,hle,hQ=>by
  have hlt:i<items.size:=by omega
  show wpAny _ _ (pyNext (.ref it) >>= _) Q E s
  refine wpAny_bind (wpAny_pyNext_list_item hit ht (x:=items[i]) (by simp [hlt]) λ h₁ hit₁ hs₁=>?_)
  refine wpAny_bind (wpAny_holding (JG hne n (i+1) _ _ hit₁ (ht.extBut hs₁.extBut hne) (by omega) λ h₂ hit₂ hs₂=>wpAny_pure ?_))
  have hd:items.toList.drop i=items[i]::items.toList.drop (i+1):=by simp [Y2k,hlt]
  have:=hQ h₂ (by rw [show i+(n+1)=i+1+n by omega];exact hit₂) (hs₁.trans hs₂)
  rw [hd,List.take_succ_cons] at this
  exact this
theorem yr {t:Addr}{items:Array Value}{Q:List Value->Shared->Prop}(hh:A.handled=none)(ht:s.heap.IsList t items)
  (hQ:∀ h',Heap.ExtBut s.heap.objs.size s.heap h'->Q items.toList { s with heap:=h' }):wpAny (model prog w) A (unpackItems (.ref t) items.size none) Q E s:=by
 have hlt:t≠s.heap.objs.size:=by obtain ⟨o,ho,_⟩:=ht;exact Y0f (Y07 ho)
 unfold unpackItems
 refine wpAny_bind ?_
 unfold notIterableAtAll
 refine wpAny_bind (wpAny_specialOf ht.typeIs slot_list_iter.lookup ?_)
 refine wpAny_pure ?_
 simp only [Y1d,if_false]
 refine wpAny_bind (wpAny_holding (wpAny_pyIter_list ht ?_))
 refine wpAny_bind (wpAny_holding (JG hlt items.size 0 _ _ ⟨_,Y0a _ rfl,rfl,rfl⟩ (ht.push _) (by omega) λ h₁ hit₁ hs₁=>?_))
 have hall:List.take items.size (List.drop 0 items.toList)=items.toList:=by
  rw [List.drop_zero];exact List.take_of_length_le (by simp)
 rw [hall]
 rw [if_neg (by simp)]
 have ht₁:h₁.IsList t items:=(ht.push _).extBut hs₁.extBut hlt
 refine wpAny_bind (wpAny_holding (wpAny_pyNext_list_end hh hit₁ ht₁ (by simp) λ h₂ he₂=>?_))
 simp only [Option.isSome_none,Y1d,if_false]
 exact wpAny_pure (hQ h₂ λ b o hb e=>he₂ b o hb (hs₁.extBut b o hb (Y01 _ e)))
theorem y6 {env:Env}{elts:List Expr}{x1}{pos:Pos}{t:Addr}{items:Array Value}{Q:Unit->Shared->Prop}(hh:A.handled=none)(ht:s.heap.IsList t items)
  (hn:(assignEach elts env).length=items.size) (hstar:(assignEach elts env).findIdx? (·.1)=none)
  (h:∀ h',Heap.ExtBut s.heap.objs.size s.heap h'->wpAny (model prog w) A (assignInOrder ((assignEach elts env).map (·.2)) items.toList) Q E { s with heap:=h' }) :
  wpAny (model prog w) A (assign (.Tuple elts x1 pos) env (.ref t)) Q E s:=by
 rw [arm_assign_Tuple]
 refine wpAny_bind (wpAny_standAt ?_)
 unfold unpack
 rw [hn,hstar]
 exact wpAny_bind (wpAny_holding (yr hh ht h))
end
section
variable {X:Cx}{pos:Pos}
noncomputable def gTL (K:Y00)(n:Nat)(t:TGs):TG:=λ v σ H Q=>∃ a xs,v=.ref a/\(SqT K H a xs\/SqL K H a xs)/\xs.length=n/\t xs σ H Q
theorem B1 {es:List Expr}{k:Nat}{t:TGs}{n:Nat}(hc:X.calm=true)(h:PGs X es t)
  (hn:(assignEach es X.env).length=n:=by rfl) (hst:(assignEach es X.env).findIdx? (·.1)=none:=by rfl):PG X (.Tuple es k pos) (gTL X.K n t):=by
 intro pins s σ H v u Q I r hw
 obtain ⟨a,xs,e1,hq,hl,hw⟩:=hw
 subst e1
 rcases hq with hq | hq
 ·exact Vv hc h hn hst pins s σ H _ u Q I r ⟨a,xs,rfl,hq,hl,hw⟩
 cases r
 obtain ⟨its,rv,⟨o,c,e1,e2,e3,e4⟩,hz⟩:=I.list hq
 refine y6 (I.ok.hd hc) (items:=its.toArray) ⟨o,e1,e2,c,e4⟩ (by simp [hn,<- hl,rv.length]) hst λ h' hx=>?_
 have I1:Inv X pins σ H { s with heap:=h' }:=I.kept (t':=s.toks) λ b o e=>hx b o (Y0f (Y07 e)) e
 exact h pins _ σ H xs _ Q I1 (by simpa using rv) hw
end
end L2
namespace L2
open PySem PySem.Spec PyProof.Rows
section
variable {X:Cx}
end
section
variable {prog:Program}{w:World}{A:Around}{E:Value->Shared->Prop}{s:Shared}
end
section
variable {X:Cx}{e st:Expr}{te ts:TE}{p2 pos:Pos}
end
section
variable {X:Cx}
noncomputable def z66:V->Option Int->Option Int->Hp->VK->Prop:=λ x lo hi H Q=>∃ z,x=.str z/\z.length<=sizeLine/\Q (.str (Txt.slice z lo hi)) H
theorem z1z:SlR X z66:=by
 intro pins s σ H x v vl vu lo hi sl Q I rx hs pl pu h
 obtain ⟨z,rfl,hz,q⟩:=h
 obtain ⟨t,rfl⟩:=rx
 obtain ⟨os,hos,hcs,hds⟩:=hs
 refine ⟨"str",_,F.slot_str_getitem.lookup,typeIs_str _ _ _,?_⟩
 cases pl with
 | none =>
  cases pu with
  | none=>exact wpAny_getItem_str_slice (l:=none) (u:=none) (st:=none) ⟨os,hos,hcs,hds⟩ rfl (post_val_or_str ⟨Y11 (Txt.slice_le z _ _) hz,λ t' k=>⟨.str _,H,I.tok k,⟨t',rfl⟩,q⟩⟩)
  | int j uj=>exact wpAny_getItem_str_slice (l:=none) (u:=some (j,uj)) (st:=none) ⟨os,hos,hcs,hds⟩ rfl (post_val_or_str ⟨Y11 (Txt.slice_le z _ _) hz,λ t' k=>⟨.str _,H,I.tok k,⟨t',rfl⟩,q⟩⟩)
 | int i ui =>
  cases pu with
  | none=>exact wpAny_getItem_str_slice (l:=some (i,ui)) (u:=none) (st:=none) ⟨os,hos,hcs,hds⟩ rfl (post_val_or_str ⟨Y11 (Txt.slice_le z _ _) hz,λ t' k=>⟨.str _,H,I.tok k,⟨t',rfl⟩,q⟩⟩)
  | int j uj=>exact wpAny_getItem_str_slice (l:=some (i,ui)) (u:=some (j,uj)) (st:=none) ⟨os,hos,hcs,hds⟩ rfl (post_val_or_str ⟨Y11 (Txt.slice_le z _ _) hz,λ t' k=>⟨.str _,H,I.tok k,⟨t',rfl⟩,q⟩⟩)
end
end L2
namespace L2
open PySem PySem.Spec PyProof.Rows
section
variable {X:Cx}{tg:Expr}
end
section
variable {X:Cx}
end
end L2
namespace L2
open PySem PySem.Spec PyProof.Rows
noncomputable def Zy:V->Bool
 | .non=>true
 | _=>false
noncomputable def z21 (K:Y00):R2:=λ x y H Q=>∃ p xs,x=.non/\y=.ref p/\(SqL K H p xs\/SqT K H p xs)/\(∀ v∈xs,ji v=true\/∃ a ts,v=.ref a/\SqT K H a ts)/\Q (.bl (xs.any Zy)) H
section
variable {X:Cx}
theorem z22 {v:V}{u:Value}{H:Hp}{K:Y00}(r:RelV v u)(f:ji v=true\/∃ a ts,v=.ref a/\SqT K H a ts):eqU .non u=Zy v:=by
 rcases f with f | ⟨a,ts,rfl,_⟩
 ·rw [Zk r f]
  cases v<;>first | rfl | exact absurd (show false=true from f) Y0s
 ·cases r;rfl
theorem Wg {H:Hp}{K:Y00}:∀ {xs:List V}{us:List Value},Vals xs us->(∀ v∈xs,ji v=true\/∃ a ts,v=.ref a/\SqT K H a ts)->us.any (eqU .non)=xs.any Zy
 | _,_,.nil,_=>rfl
 | y::xs,u::us,.cons r t,f=>by
  rw [Y1e,Y1e,z22 r (f y (Y0b ..)),Wg t λ v hv=>f v (Y04 _ hv)]
theorem Wh {pins:List (Addr×Obj)}{σ:St}{H:Hp}{s:Shared}{A:Around}(I:Inv X pins σ H s)(hu:A.units<cLine):∀ {xs:List V}{us:List Value},Vals xs us->(∀ v∈xs,ji v=true\/∃ a ts,v=.ref a/\SqT X.K H a ts)->∀ u∈us,SeqAt.EqAt A s u .none (eqU .non u)
 | _,_,.nil,_=>λ u hu=>by cases hu
 | y::xs,u::us,.cons r t,f=>λ u' hu'=>by
  rcases Y0d.mp hu' with rfl | hu'
  ·rcases f y (Y0b ..) with fy | ⟨a,ts,rfl,sq⟩
   ·rw [Zk r fy];exact VJ r (show RelV .non .none from rfl) fy rfl
   ·cases r
    obtain ⟨its,_,pl,_⟩:=I.tuple sq
    exact SeqAt.EqAt.tuple_none pl hu
  ·exact Wh I hu t (λ v hv=>f v (Y04 _ hv)) u' hu'
theorem Y3 (hu:X.A.in1.units<cLine):OpR X (compareOp .In) (z21 X.K):=by
 intro pins s σ H x y v u Q I rx ry h
 obtain ⟨p,xs,rfl,rfl,hq,fs,q⟩:=h
 cases rx
 cases ry
 rcases hq with hq | hq
 ·obtain ⟨its,r,pl,hz⟩:=I.list hq
  refine SeqAt.in_listAt (eqU .non) pl.isList (λ w hw=>Wh I hu r fs w (by simpa using hw)) ⟨.bl _,H,I,rfl,?_⟩
  rw [show its.toArray.any (eqU .non)=its.any (eqU .non) by simp,Wg r fs]
  exact q
 ·obtain ⟨its,r,pl,hz⟩:=I.tuple hq
  refine SeqAt.in_tupleAt (eqU .non) pl (λ w hw=>Wh I hu r fs w (by simpa using hw)) ⟨.bl _,H,I,rfl,?_⟩
  rw [show its.toArray.any (eqU .non)=its.any (eqU .non) by simp,Wg r fs]
  exact q
end
end L2
namespace L2
open PySem PySem.W PySem.Spec PyProof.Rows PySem.Calls PySem.Builtin PySem.Builtin.ObjectAttr PySem.Builtin.Getset_descriptor
structure ExC (K:Y00)(C:Addr):Prop where
 ga:findIn K (.ref C) "__getattribute__"=some (some (.builtin "BaseException.__getattribute__"))
 ng:findIn K (.ref C) "__getattr__"=some none
 cl:findIn K (.ref C) "__class__"=some (some (.builtin "object.__class__"))
 bx:mroIn K C (.type "BaseException")=some true
 ob:mroIn K C (.type "object")=some true
 is:(clsIn K C).isSome=true
section
variable {prog:Program}{w:World}{A:Around}{E:Value->Shared->Prop}{h:Heap}{g:Array GenState}{d:Drawn}{t:Nat}{os:OsState}{a C:Addr}{o:Obj}{K:Y00}
end
section
variable {X:Cx}{C:Addr}
end
end L2
namespace L2
open PySem PySem.Spec PyProof.Rows
noncomputable def Gb (C:Addr)(sp:Sp)(Z:ZK)(t:TA):TE:=λ σ H Q=>t σ H λ vs H1=>∀ x dx,H1 x=none->H1 dx=none->dx≠x ->
 sp (.ref x::vs) (upd (upd H1 dx (.own x)) x (.ins C dx [])) (λ v H2=>v=.non/\Q (.ref x) H2) (λ C _ H'=>Z σ C H')
section
variable {X:Cx}{k:Nat}{f C:Addr}{fd:FuncData}{ps:List Str}{sp:Sp}{Z:ZK}{x:Str}{p pos:Pos}{e:Expr}{es:List Expr}{t:TA}
theorem UI {pins:List (Addr×Obj)}{σ:St}{H:Hp}{s:Shared}{Q:VK}{us:List Value}{vs:List V}(M:Mk X.K C f)(F:FnOk X.prog X.w X.K X.mg X.base (CXs X.prog X.w) k f fd ps sp)(hr:Room (k+1) X.A)(hb:Binds X.K fd ps [])
  (th:Thr X Z) (I:Inv X pins σ H s) (r:Vals vs us)
  (h:∀ x dx,H x=none->H dx=none->dx≠x->sp (.ref x::vs) (upd (upd H dx (.own x)) x (.ins C dx [])) (λ v H2=>v=.non/\Q (.ref x) H2) (λ C _ H'=>Z σ C H')) :
  wpAny (model X.prog X.w) X.A (call (.ref C) us) (EP X pins σ Q) X.xe s:=by
 have hq:=h (s.heap.objs.size+1) s.heap.objs.size (I.hok.fresh (Y2g _)) (I.hok.fresh (Y03 _)) (Y0f (Y24 _))
 have I2:=Inv.made (C:=C) I
 have r2:Vals (V.ref (s.heap.objs.size+1)::vs) (Value.ref (s.heap.objs.size+1)::us):=.cons rfl r
 have hl:((Value.ref (s.heap.objs.size+1)::us)++[]).length=ps.length:=by
  have e:=r2.length
  rw [F.len _ _ _ _ hq] at e
  rw [Y0z]
  exact e.symm
 have hb2:=hb _ (Value.ref (s.heap.objs.size+1)::us) I2.kIn hl
 rw [Y0z] at hb2
 refine wpAny_call (VD (f:=f) I.kIn M.makes M.init (beq_iff_eq.mp M.fn) (codeAny_mono (F.run _ X.stack _ _ ⟨Value.ref (s.heap.objs.size+1)::us,[]⟩ (Value.ref (s.heap.objs.size+1)::us) _ _ _ (hr.make C us [])
  (I2.env0.make C us []) hb2 r2 hq) λ r s' hq'=>?_))
 cases r with
 | error e =>
  have hq2:CXs X.prog X.w X.stack _ _ (λ C _ H'=>Z σ C H') e s':=hq'
  obtain ⟨a,C,t,H',rfl,I',F',z⟩:=I2.thrown th.toXOk hq2
  exact th.go I' F' z
 | ok fl =>
  cases fl with
  | ret u =>
   obtain ⟨v,H',I3,rv,ev,q3⟩:=I2.after hq'
   subst ev
   exact ⟨rv,⟨V.ref (s.heap.objs.size+1),H',I3,rfl,q3⟩⟩
  | next=>exact False.elim hq'
  | brk=>exact False.elim hq'
  | cont=>exact False.elim hq'
theorem Gc (M:Mk X.K C f)(F:FnOk X.prog X.w X.K X.mg X.base (CXs X.prog X.w) k f fd ps sp)(hr:Room (k+1) X.A)(hg:Gl X x)(hm:X.mg x=some (.ref C))(hb:Binds X.K fd ps [])(th:Thr X Z)
  (ha:PA X (e::es) t) (hdb:(x==("__debug__":Str))=false:=by decide) (he:starEach (e::es) X.env=(false,eval e X.env)::starEach es X.env:=by rfl) (hpl:(backTo pos (starEach es X.env)).any (·.1)=false:=by rfl) :
  PE X (.Call (.Name x p) (e::es) [] pos) (Gb C sp Z t):=by
 intro pins s σ H Q I h
 refine wpAny_Call_Name_kw (Z7 I hg hm ?_ hdb)
 refine Y38 (h₀:=X.base) I.ok.mod.kin M.kp (thn (ha pos pins s σ H _ I h) λ us s1 ⟨vs,H1,I1,r,q⟩=>⟨I1.kIn,?_⟩) he hpl
 exact UI M F hr hb th I1 r q
end
end L2
namespace L2
open PySem PySem.Spec PyProof.Rows
noncomputable def z23 (X:Cx)(Z:ZK)(tf:TE)(t:TA):TE:=λ σ H Q=>tf σ H λ v H1=>∃ f k fd ps sp,v=.ref f/\FnOk X.prog X.w X.K X.mg X.base (CXs X.prog X.w) k f fd ps sp/\Room k X.A/\PySem.W.keepIn X.K (.ref f)=true/\Binds X.K fd ps [] /\
 t σ H1 λ vs H2=>sp vs H2 Q (λ C _ H'=>Z σ C H')
section
variable {X:Cx}{Z:ZK}{o i e:Expr}{p pos:Pos}{es:List Expr}{tf:TE}{t:TA}
theorem Gd (hf:PE X (.Subscript o i p) tf)(th:Thr X Z)(ha:PA X (e::es) t)(he:starEach (e::es) X.env=(false,eval e X.env)::starEach es X.env:=by rfl)(hpl:(backTo pos (starEach es X.env)).any (·.1)=false:=by rfl) :
  PE X (.Call (.Subscript o i p) (e::es) [] pos) (z23 X Z tf t):=by
 intro pins s σ H Q I h
 have arm:eval (.Call (.Subscript o i p) (e::es) [] pos) X.env=(do callWith pos (<- eval (.Subscript o i p) X.env) [] (backTo pos (starEach (e::es) X.env)) (backToKw pos (keywordEach [] X.env))):=rfl
 rw [arm]
 refine wpAny_bind (thn (hf pins s σ H _ I h) λ u s1 ⟨v,H1,I1,rv,q⟩=>?_)
 obtain ⟨f,k,fd,ps,sp,rfl,F,hr,hk,hb,q⟩:=q
 cases (show u=Value.ref f from rv)
 refine Y38 (h₀:=X.base) I1.ok.mod.kin hk (thn (ha pos pins s1 σ H1 _ I1 q) λ us s2 ⟨vs,H2,I2,r,q2⟩=>⟨I2.kIn,?_⟩) he hpl
 exact YR F hr hb .nil th I2 r (by rw [Y0z];exact q2)
end
end L2
namespace L2
open PySem PySem.Spec PyProof.Rows
noncomputable abbrev wC (h:Heap)(z TI TO:Addr)(f0:Value)(f1:Bool):Prop :=
 h.get? z=some { cls:=.type "zip",dict:=none,data:=.fields #[f0,.bool f1,.bool false,.ref TI,.ref TO],slots:=#[] }
noncomputable def okF (f0:Value):Prop:=f0=.none\/∃ a t,f0=.int a t
section
variable {prog:Program}{w:World}{A:Around}{E:Value->Shared->Prop}{s:Shared}
theorem Q6 {z TI TO:Addr}{f0:Value}{f1:Bool}{Q:Bool->Shared->Prop}(hz:wC s.heap z TI TO f0 f1)(ok:okF f0)(hT:Q true s)(hF:∀ h',wC h' z TI TO f0 true->Heap.SameBut z s.heap h'->Q false { s with heap:=h' }) :
  wpAny (model prog w) A (Builtin.SmallTypes.ownedTupleIsFree (.ref z)) Q E s:=by
 unfold Builtin.SmallTypes.ownedTupleIsFree
 refine wpAny_bind (wpAny_field hz rfl (x:=f0) rfl ?_)
 rcases ok with rfl | ⟨a,t,rfl⟩
 ·exact wpAny_pure hT
 ·show wpAny _ _ (loadIfAlive a.toNat >>= _) _ _ _
  refine wpAny_bind ?_
  cases e:s.heap.get? a.toNat with
  | none =>
   have al:∀ {Q:Option Obj->Shared->Prop},Q none s->wpAny (model prog w) A (loadIfAlive a.toNat) Q E s:=λ {Q} h=>by
    have h':Q (s.heap.get? a.toNat) s:=by rw [e];exact h
    exact λ _ _ _=>h'
   exact al (wpAny_pure hT)
  | some o =>
   refine PySem.W.kdx_alive e ?_
   show wpAny _ _ (field (.ref z) 1 >>= _) _ _ _
   refine wpAny_bind (wpAny_field hz rfl (x:=.bool f1) rfl ?_)
   cases f1 with
   | true=>exact wpAny_pure (by have:=hF s.heap hz ⟨rfl,λ _ _=>rfl⟩;exact this)
   | false =>
    show wpAny _ _ (setField (.ref z) 1 (.bool true) >>= _) _ _ _
    refine wpAny_bind (wpAny_setField_rec hz (by simp) λ h₁ hz₁ hs₁=>wpAny_pure (hF h₁ hz₁ hs₁))
theorem ZA {z TI TO i1 i2 l1 l2:Addr}{k1 k2:Nat}{xs ys:Array Value}{x y a b f0:Value}{f1:Bool}{Q:Value->Shared->Prop}(D:ZipApart z TI TO i1 i2 l1 l2)
  (hz:wC s.heap z TI TO f0 f1) (ok:okF f0) (hTI:IsPair s.heap TI (.ref i1) (.ref i2)) (hTO:IsPair s.heap TO a b)
  (h1:SIt s.heap i1 l1 k1 xs) (h2:SIt s.heap i2 l2 k2 ys) (hx:xs[k1]?=some x) (hy:ys[k2]?=some y)
  (hQ:∀ h' g0 g1,wC h' z TI TO g0 g1->okF g0->(∃ a b,IsPair h' TO a b)->SIt h' i1 l1 (k1+1) xs->SIt h' i2 l2 (k2+1) ys->IsPair h' s.heap.objs.size x y ->
   (∀ c o,c≠z->c≠TO->c≠i1->c≠i2->s.heap.get? c=some o->h'.get? c=some o)->Q (.ref s.heap.objs.size) { s with heap:=h' }) :
  wpAny (model prog w) A (Builtin.«zip.__next__» ⟨[.ref z],[]⟩) (λ fin s'=>∃ v,fin=.done (.ret v)/\Q v s') E s:=by
 show wpAny _ _ (field (.ref z) 2 >>= _) _ _ _
 refine wpAny_bind (wpAny_field hz rfl (x:=.bool false) rfl ?_)
 show wpAny _ _ (field (.ref z) 3 >>= _) _ _ _
 refine wpAny_bind (wpAny_field hz rfl (x:=.ref TI) rfl ?_)
 refine wpAny_bind (wpAny_seqItems hTI rfl ?_)
 show wpAny _ _ (Builtin.SmallTypes.ownedTupleIsFree (.ref z) >>= _) _ _ _
 refine wpAny_bind (Q6 hz ok ?_ λ h0 hz0 hs0=>?_)
 ·simp only [if_true]
  refine wpAny_bind (wpAny_rule ?_)
  refine wpAny_bind (wpAny_field hz rfl (x:=.ref TO) rfl ?_)
  refine wpAny_bind (wpAny_setField_rec hz (by simp) λ h₁ hz₁ hs₁=>?_)
  replace hz₁:wC h₁ z TI TO .ellipsis f1:=hz₁
  refine wpAny_bind ?_
  simp only [Y2r,Y2y,Y1z,Y23]
  refine wpAny_bind (wpAny_bind (wpAny_onRaise ?_))
  show wpAny _ _ (Builtin.SmallTypes.nextOf (.ref i1) >>= _) _ _ _
  refine wpAny_bind (zJ D.l1i1 (h1.ext hs₁.extBut D.i1z D.l1z) hx λ h₂ h1₂ hs₂=>wpAny_pure ?_)
  have hTO₂:IsPair h₂ TO a b:=hs₂.extBut _ _ D.TOi1 (hs₁.extBut _ _ D.TOz hTO)
  refine wpAny_bind (wpAny_seqItems hTO₂ rfl ?_)
  refine wpAny_bind (wpAny_updateSeq_pair hTO₂ λ h₃ hTO₃ hs₃=>?_)
  replace hTO₃:IsPair h₃ TO x b:=hTO₃
  refine wpAny_bind (wpAny_letGo (wpAny_pure ?_))
  refine wpAny_bind (wpAny_bind (wpAny_onRaise ?_))
  show wpAny _ _ (Builtin.SmallTypes.nextOf (.ref i2) >>= _) _ _ _
  refine wpAny_bind (zJ D.l2i2 (((h2.ext hs₁.extBut D.i2z D.l2z).ext hs₂.extBut D.i12.symm D.l2i1).ext hs₃.extBut D.TOi2.symm D.l2TO) hy λ h₄ h2₄ hs₄=>wpAny_pure ?_)
  have hTO₄:IsPair h₄ TO x b:=hs₄.extBut _ _ D.TOi2 hTO₃
  refine wpAny_bind (wpAny_seqItems hTO₄ rfl ?_)
  refine wpAny_bind (wpAny_updateSeq_pair hTO₄ λ h₅ hTO₅ hs₅=>?_)
  replace hTO₅:IsPair h₅ TO x y:=hTO₅
  refine wpAny_bind (wpAny_letGo (wpAny_pure (wpAny_pure ?_)))
  refine wpAny_bind (wpAny_seqItems hTO₅ rfl ?_)
  refine wpAny_bind (wpAny_newTuple ?_)
  have hsz:h₅.objs.size=s.heap.objs.size:=by rw [hs₅.1,hs₄.1,hs₃.1,hs₂.1,hs₁.1]
  have hz₅:wC h₅ z TI TO .ellipsis f1:=hs₅.extBut _ _ D.TOz.symm (hs₄.extBut _ _ D.i2z.symm (hs₃.extBut _ _ D.TOz.symm (hs₂.extBut _ _ D.i1z.symm hz₁)))
  have hk₅:∀ c o,c≠z->c≠TO->c≠i1->c≠i2->s.heap.get? c=some o->h₅.get? c=some o:=λ c o c1 c2 c3 c4 e =>
   hs₅.extBut _ _ c2 (hs₄.extBut _ _ c4 (hs₃.extBut _ _ c2 (hs₂.extBut _ _ c3 (hs₁.extBut _ _ c1 e))))
  have h1₅:SIt h₅ i1 l1 (k1+1) xs:=((h1₂.ext hs₃.extBut D.TOi1.symm D.l1TO).ext hs₄.extBut D.i12 D.l1i2).ext hs₅.extBut D.TOi1.symm D.l1TO
  have h2₅:SIt h₅ i2 l2 (k2+1) ys:=h2₄.ext hs₅.extBut D.TOi2.symm D.l2TO
  have hzlt:z<h₅.objs.size:=Y07 hz₅
  show wpAny _ _ (Builtin.SmallTypes.ownedTupleHandOut (.ref z) (.ref h₅.objs.size) >>= _) _ _ _
  refine wpAny_bind ?_
  unfold Builtin.SmallTypes.ownedTupleHandOut
  have hz₆:wC (h₅.push { cls:=.type "tuple",data:=.seq #[x,y] }) z TI TO .ellipsis f1:=Y01 _ hz₅
  refine wpAny_bind (wpAny_setField_rec hz₆ (by simp) λ h₇ hz₇ hs₇=>?_)
  replace hz₇:wC h₇ z TI TO (rawInt h₅.objs.size) f1:=hz₇
  refine wpAny_setField_rec hz₇ (by simp) λ h₈ hz₈ hs₈=>?_
  replace hz₈:wC h₈ z TI TO (rawInt h₅.objs.size) false:=hz₈
  have up:∀ c o,c≠z->h₅.get? c=some o->h₈.get? c=some o:=λ c o c1 e=>hs₈.extBut _ _ c1 (hs₇.extBut _ _ c1 (Y01 _ e))
  have hT₈:IsPair h₈ h₅.objs.size x y:=hs₈.extBut _ _ (Y1f hzlt) (hs₇.extBut _ _ (Y1f hzlt) (Y0a _ rfl))
  rw [hsz] at hz₈ hT₈
  refine wpAny_pure ⟨_,rfl,?_⟩
  show Q (.ref h₅.objs.size) _
  rw [hsz]
  exact hQ h₈ _ _ hz₈ (.inr ⟨_,_,rfl⟩) ⟨x,y,up _ _ D.TOz hTO₅⟩ (h1₅.move (λ o e=>up _ o D.i1z e) (λ o e=>up _ o D.l1z e)) (h2₅.move (λ o e=>up _ o D.i2z e) (λ o e=>up _ o D.l2z e)) hT₈ λ c o c1 c2 c3 c4 e=>up c o c1 (hk₅ c o c1 c2 c3 c4 e)
 ·simp only [Y1d,if_false]
  refine wpAny_bind ?_
  simp only [List.forIn_toArray,Y1z,Y23]
  refine wpAny_bind (wpAny_bind (wpAny_holding ?_))
  show wpAny _ _ (Builtin.SmallTypes.nextOf (.ref i1) >>= _) _ _ _
  refine wpAny_bind (zJ D.l1i1 (h1.ext hs0.extBut D.i1z D.l1z) hx λ h₂ h1₂ hs₂=>wpAny_pure (wpAny_pure ?_))
  refine wpAny_bind (wpAny_bind (wpAny_holding ?_))
  show wpAny _ _ (Builtin.SmallTypes.nextOf (.ref i2) >>= _) _ _ _
  refine wpAny_bind (zJ D.l2i2 ((h2.ext hs0.extBut D.i2z D.l2z).ext hs₂.extBut D.i12.symm D.l2i1) hy λ h₄ h2₄ hs₄=>wpAny_pure (wpAny_pure (wpAny_pure ?_)))
  refine wpAny_bind (wpAny_newTuple (wpAny_pure ⟨_,rfl,?_⟩) (by show 2<=sizeLine;rw [sizeLine_eq];decide))
  have hsz:h₄.objs.size=s.heap.objs.size:=by rw [hs₄.1,hs₂.1,hs0.1]
  have hz₄:wC h₄ z TI TO f0 true:=hs₄.extBut _ _ D.i2z.symm (hs₂.extBut _ _ D.i1z.symm hz0)
  have up:∀ c o,h₄.get? c=some o->(h₄.push { cls:=.type "tuple",data:=.seq #[x,y] }).get? c=some o:=λ c o e=>Y01 _ e
  have hk:∀ c o,c≠z->c≠TO->c≠i1->c≠i2->s.heap.get? c=some o->h₄.get? c=some o:=λ c o c1 c2 c3 c4 e=>hs₄.extBut _ _ c4 (hs₂.extBut _ _ c3 (hs0.extBut _ _ c1 e))
  have h1₄:SIt h₄ i1 l1 (k1+1) xs:=h1₂.ext hs₄.extBut D.i12 D.l1i2
  show Q (.ref h₄.objs.size) _
  have T':IsPair (h₄.push { cls:=.type "tuple",data:=.seq #[x,y] }) h₄.objs.size x y:=Y0a _ rfl
  rw [hsz] at T' ⊢
  exact hQ _ _ _ (up _ _ hz₄) ok ⟨a,b,up _ _ (hs₄.extBut _ _ D.TOi2 (hs₂.extBut _ _ D.TOi1 (hs0.extBut _ _ D.TOz hTO)))⟩ (h1₄.move (λ o e=>up _ o e) (λ o e=>up _ o e)) (h2₄.move (λ o e=>up _ o e) (λ o e=>up _ o e)) T' λ c o c1 c2 c3 c4 e=>up c o (hk c o c1 c2 c3 c4 e)
theorem Jd {z TI TO i1 i2 l1 l2:Addr}{k1 k2:Nat}{xs ys:Array Value}{a b f0:Value}{f1:Bool}{Q:Fin->Shared->Prop}(hh:A.handled=none)(D:ZipApart z TI TO i1 i2 l1 l2)
  (hz:wC s.heap z TI TO f0 f1) (ok:okF f0) (hTI:IsPair s.heap TI (.ref i1) (.ref i2)) (hTO:IsPair s.heap TO a b)
  (h1:SIt s.heap i1 l1 k1 xs) (h2:SIt s.heap i2 l2 k2 ys) (hend:xs[k1]?=none\/ys[k2]?=none)
  (hE:∀ h' e,(∀ c o,c≠z->c≠TO->c≠i1->c≠i2->s.heap.get? c=some o->h'.get? c=some o)->(∃ o,h'.get? e=some o/\o.cls=.type "StopIteration")->E (.ref e) { s with heap:=h' }) :
  wpAny (model prog w) A (Builtin.«zip.__next__» ⟨[.ref z],[]⟩) Q E s:=by
 show wpAny _ _ (field (.ref z) 2 >>= _) _ _ _
 refine wpAny_bind (wpAny_field hz rfl (x:=.bool false) rfl ?_)
 show wpAny _ _ (field (.ref z) 3 >>= _) _ _ _
 refine wpAny_bind (wpAny_field hz rfl (x:=.ref TI) rfl ?_)
 refine wpAny_bind (wpAny_seqItems hTI rfl ?_)
 show wpAny _ _ (Builtin.SmallTypes.ownedTupleIsFree (.ref z) >>= _) _ _ _
 refine wpAny_bind (Q6 hz ok ?_ λ h0 hz0 hs0=>?_)
 ·simp only [if_true]
  refine wpAny_bind (wpAny_rule ?_)
  refine wpAny_bind (wpAny_field hz rfl (x:=.ref TO) rfl ?_)
  refine wpAny_bind (wpAny_setField_rec hz (by simp) λ h₁ hz₁ hs₁=>?_)
  replace hz₁:wC h₁ z TI TO .ellipsis f1:=hz₁
  refine wpAny_bind ?_
  simp only [Y2r,Y2y,Y1z,Y23]
  refine wpAny_bind (wpAny_bind (wpAny_onRaise ?_))
  show wpAny _ _ (Builtin.SmallTypes.nextOf (.ref i1) >>= _) _ _ _
  cases hx:xs[k1]? with
  | none =>
   refine wpAny_bind (jr hh (h1.ext hs₁.extBut D.i1z D.l1z) hx λ h₂ e hs₂ he=>?_)
   obtain ⟨oe,hoe,hce⟩:=he
   have hz₂:wC h₂ z TI TO .ellipsis f1:=hs₂ _ _ D.i1z.symm hz₁
   have hez:e≠z:=λ x=>by subst x;rw [hz₂] at hoe;cases hoe;simp at hce
   refine wpAny_setField_rec hz₂ (by simp) λ h₃ _ hs₃=>hE h₃ e (λ c o c1 _ c3 _ x=>hs₃.extBut _ _ c1 (hs₂ _ _ c3 (hs₁.extBut _ _ c1 x))) ⟨oe,hs₃.extBut _ _ hez hoe,hce⟩
  | some x =>
   have hy:ys[k2]?=none:=by rcases hend with h | h;rw [hx] at h;cases h;exact h
   refine wpAny_bind (zJ D.l1i1 (h1.ext hs₁.extBut D.i1z D.l1z) hx λ h₂ h1₂ hs₂=>wpAny_pure ?_)
   have hTO₂:IsPair h₂ TO a b:=hs₂.extBut _ _ D.TOi1 (hs₁.extBut _ _ D.TOz hTO)
   refine wpAny_bind (wpAny_seqItems hTO₂ rfl ?_)
   refine wpAny_bind (wpAny_updateSeq_pair hTO₂ λ h₃ hTO₃ hs₃=>?_)
   refine wpAny_bind (wpAny_letGo (wpAny_pure ?_))
   refine wpAny_bind (wpAny_bind (wpAny_onRaise ?_))
   show wpAny _ _ (Builtin.SmallTypes.nextOf (.ref i2) >>= _) _ _ _
   refine wpAny_bind (jr hh (((h2.ext hs₁.extBut D.i2z D.l2z).ext hs₂.extBut D.i12.symm D.l2i1).ext hs₃.extBut D.TOi2.symm D.l2TO) hy λ h₄ e hs₄ he=>?_)
   obtain ⟨oe,hoe,hce⟩:=he
   have hz₄:wC h₄ z TI TO .ellipsis f1:=hs₄ _ _ D.i2z.symm (hs₃.extBut _ _ D.TOz.symm (hs₂.extBut _ _ D.i1z.symm hz₁))
   have hez:e≠z:=λ x=>by subst x;rw [hz₄] at hoe;cases hoe;simp at hce
   refine wpAny_setField_rec hz₄ (by simp) λ h₅ _ hs₅=>hE h₅ e (λ c o c1 c2 c3 c4 x=>hs₅.extBut _ _ c1 (hs₄ _ _ c4 (hs₃.extBut _ _ c2 (hs₂.extBut _ _ c3 (hs₁.extBut _ _ c1 x))))) ⟨oe,hs₅.extBut _ _ hez hoe,hce⟩
 ·simp only [Y1d,if_false]
  refine wpAny_bind ?_
  simp only [List.forIn_toArray,Y1z,Y23]
  refine wpAny_bind (wpAny_bind (wpAny_holding ?_))
  show wpAny _ _ (Builtin.SmallTypes.nextOf (.ref i1) >>= _) _ _ _
  cases hx:xs[k1]? with
  | none=>exact wpAny_bind (jr hh (h1.ext hs0.extBut D.i1z D.l1z) hx λ h₂ e hs₂ he=>hE h₂ e (λ c o c1 _ c3 _ x=>hs₂ _ _ c3 (hs0.extBut _ _ c1 x)) he)
  | some x =>
   have hy:ys[k2]?=none:=by rcases hend with h | h;rw [hx] at h;cases h;exact h
   refine wpAny_bind (zJ D.l1i1 (h1.ext hs0.extBut D.i1z D.l1z) hx λ h₂ h1₂ hs₂=>wpAny_pure (wpAny_pure ?_))
   refine wpAny_bind (wpAny_bind (wpAny_holding ?_))
   show wpAny _ _ (Builtin.SmallTypes.nextOf (.ref i2) >>= _) _ _ _
   exact wpAny_bind (jr hh ((h2.ext hs0.extBut D.i2z D.l2z).ext hs₂.extBut D.i12.symm D.l2i1) hy λ h₄ e hs₄ he=>hE h₄ e (λ c o c1 c2 c3 c4 x=>hs₄ _ _ c4 (hs₂.extBut _ _ c3 (hs0.extBut _ _ c1 x))) he)
theorem yt {z TI TO i1 i2 l1 l2:Addr}{k1 k2:Nat}{xs ys:Array Value}{x y a b f0:Value}{f1:Bool}{Q:Option Value->Shared->Prop}(D:ZipApart z TI TO i1 i2 l1 l2)
  (hz:wC s.heap z TI TO f0 f1) (ok:okF f0) (hTI:IsPair s.heap TI (.ref i1) (.ref i2)) (hTO:IsPair s.heap TO a b)
  (h1:SIt s.heap i1 l1 k1 xs) (h2:SIt s.heap i2 l2 k2 ys) (hx:xs[k1]?=some x) (hy:ys[k2]?=some y)
  (hQ:∀ h' g0 g1,wC h' z TI TO g0 g1->okF g0->(∃ a b,IsPair h' TO a b)->SIt h' i1 l1 (k1+1) xs->SIt h' i2 l2 (k2+1) ys->IsPair h' s.heap.objs.size x y ->
   (∀ c o,c≠z->c≠TO->c≠i1->c≠i2->s.heap.get? c=some o->h'.get? c=some o)->Q (some (.ref s.heap.objs.size)) { s with heap:=h' }) :
  wpAny (model prog w) A (pyNext (.ref z)) Q E s:=by
 have hT:s.TypeIs (.ref z) "zip":=⟨_,hz,rfl⟩
 unfold pyNext
 exact wpAny_bind (wpAny_attempt (wpAny_callSpecial?_slot (name:=Str.ofString "__next__") hT Y18
  (wpAny_call_entry Y18 hT Y2d
   (ZA D hz ok hTI hTO h1 h2 hx hy λ h' g0 g1 a1 a2 a3 a4 a5 a6 a7=>wpAny_pure (hQ h' g0 g1 a1 a2 a3 a4 a5 a6 a7)) (Y28 _))))
theorem yZ {z TI TO i1 i2 l1 l2:Addr}{k1 k2:Nat}{xs ys:Array Value}{a b f0:Value}{f1:Bool}{Q:Option Value->Shared->Prop}(hh:A.handled=none)(D:ZipApart z TI TO i1 i2 l1 l2)
  (hz:wC s.heap z TI TO f0 f1) (ok:okF f0) (hTI:IsPair s.heap TI (.ref i1) (.ref i2)) (hTO:IsPair s.heap TO a b)
  (h1:SIt s.heap i1 l1 k1 xs) (h2:SIt s.heap i2 l2 k2 ys) (hend:xs[k1]?=none\/ys[k2]?=none)
  (hQ:∀ h',(∀ c o,c≠z->c≠TO->c≠i1->c≠i2->s.heap.get? c=some o->h'.get? c=some o)->Q none { s with heap:=h' }):wpAny (model prog w) A (pyNext (.ref z)) Q E s:=by
 have hT:s.TypeIs (.ref z) "zip":=⟨_,hz,rfl⟩
 unfold pyNext
 refine wpAny_bind (wpAny_attempt (wpAny_callSpecial?_slot (name:=Str.ofString "__next__") hT Y18
  (wpAny_call_entry Y18 hT Y2d (Jd hh D hz ok hTI hTO h1 h2 hend λ h' e hk he=>?_) (Y28 _))))
 obtain ⟨o,ho,hc⟩:=he
 refine wpAny_bind (wpAny_isInstance (T:="StopIteration") (b:=true) ⟨o,ho,hc⟩ isSubtype_stop ?_)
 exact wpAny_pure (hQ _ hk)
end
end L2
namespace L2
open PySem PySem.Spec PyProof.Rows
noncomputable def ZTm (z TI TO i1 i2 l1 l2:Addr)(b1 b2:Bool)(i:Nat)(h:Heap):Prop :=
 (∃ f0 f1,wC h z TI TO f0 f1/\okF f0)/\IsPair h TI (.ref i1) (.ref i2)/\(∃ a b,IsPair h TO a b)/\ItR h i1 l1 i b1/\ItR h i2 l2 i b2
theorem Q7 {prog:Program}{w:World}{A:Around}{E:Value->Shared->Prop}{s:Shared}{z TI TO:Addr}{f0:Value}{f1:Bool}{Q:Value->Shared->Prop}(hz:wC s.heap z TI TO f0 f1)(h:Q (.ref z) s):wpAny (model prog w) A (pyIter (.ref z)) Q E s:=by
 have hT:s.TypeIs (.ref z) "zip":=⟨_,hz,rfl⟩
 refine wpAny_pyIter_slot hT PySem.F.slot_zip_iter (wpAny_call_entry PySem.F.slot_zip_iter hT PySem.F.entry_zip_iter ?_ (PySem.F.args_zip_iter_1 _))
 exact wpAny_pure ⟨_,rfl,"zip",_,hT,PySem.F.slot_zip_next.lookup,h⟩
theorem UJ {P:Program}{w:World}{K:Y00}{x1:Str}{pos:Pos}{z TI TO i1 i2 l1 l2:Addr}(D:ZipApart z TI TO i1 i2 l1 l2)(hT1:l1≠TI)(hT2:l2≠TI)(b1 b2:Bool)(n m:Nat) :
  Turn P w K (.Name x1 pos) (Itz K l1 l2 b1 b2 n m) [z,TI,TO,i1,i2] z (ZTm z TI TO i1 i2 l1 l2 b1 b2) where
 mem:=by simp
 obj:=λ i h st b hb=>by
  obtain ⟨⟨f0,f1,z0,okf⟩,zI,⟨a,c,zO⟩,t1,t2⟩:=st
  have sq:∀ {i a k b},ItR h i a k b->∃ o,h.get? i=some o/\∀ v,o.data≠.cell v:=λ t=>by
   obtain ⟨o,vs,e,d⟩:=t.rec
   exact ⟨o,e,λ v q=>by rw [d] at q;cases q⟩
  simp only [Y0d,Y0q,or_false] at hb
  rcases hb with rfl | rfl | rfl | rfl | rfl
  ·exact ⟨_,z0,λ v q=>by cases q⟩
  ·exact ⟨_,zI,λ v q=>by cases q⟩
  ·exact ⟨_,zO,λ v q=>by cases q⟩
  ·exact sq t1
  ·exact sq t2
 keep:=λ i h h' st k=>by
  obtain ⟨⟨f0,f1,z0,okf⟩,zI,⟨a,c,zO⟩,t1,t2⟩:=st
  exact ⟨⟨f0,f1,k z (by simp) _ z0,okf⟩,k TI (by simp) _ zI,⟨a,c,k TO (by simp) _ zO⟩,t1.at λ o e=>k i1 (by simp) o e,t2.at λ o e=>k i2 (by simp) o e⟩
 item:=by
  intro X hP hw hK hc i pins s σ H E I hf st hg
  subst hP hw hK
  obtain ⟨hi,hj,xs,ys,hx,hy,lx,ly⟩:=hg
  obtain ⟨⟨f0,f1,z0,okf⟩,zI,⟨a,c,zO⟩,t1,t2⟩:=st
  obtain ⟨its1,v1,k1,o1,n1,e1,d1⟩:=I.seqB hx
  obtain ⟨its2,v2,k2,o2,n2,e2,d2⟩:=I.seqB hy
  have S1:=k1 i1 i s.heap t1 λ _ e=>e
  have S2:=k2 i2 i s.heap t2 λ _ e=>e
  have gx:xs[i]?=some (xs[i]'(by omega)):=Y02 _
  have gy:ys[i]?=some (ys[i]'(by omega)):=Y02 _
  generalize xs[i]'(by omega)=x at gx
  generalize ys[i]'(by omega)=y at gy
  obtain ⟨u,hu,ru⟩:=v1.get gx
  obtain ⟨v,hv,rv⟩:=v2.get gy
  refine yt D z0 okf zI zO S1 S2 (x:=u) (y:=v) (by simpa using hu) (by simpa using hv) λ h'' g0 g1 q1 okg a2 a3 a4 a5 a7=>?_
  refine ⟨_,rfl,wpAny_pure ?_⟩
  have up:∀ b o,b∉[z,TI,TO,i1,i2]->s.heap.get? b=some o->h''.get? b=some o:=λ b o hb e=>by
   simp only [Y0d,Y0q,or_false,not_or] at hb
   exact a7 b o hb.1 hb.2.2.1 hb.2.2.2.1 hb.2.2.2.2 e
  have I1:Inv X pins σ H { s with heap:=h'',toks:=s.toks }:=I.turnedL up hf
  have F:=I.fpOk (b:=s.heap.objs.size) (H':=H) (Y03 _) (I.hok.fresh (Y03 _))
  have h0:X.s₀.heap.get? s.heap.objs.size=none:=by
   cases q:X.s₀.heap.get? s.heap.objs.size with
   | none=>rfl
   | some o=>exact absurd (Y0g (Y07 q) I.sz) (Y14 _)
  have zs:s.heap.objs.size≠z:=Y1f (Y07 z0)
  have T':IsPair h'' s.heap.objs.size u v:=a5
  have I2:Inv X pins σ (upd H s.heap.objs.size (.tup [x,y])) { s with heap:=h'',toks:=s.toks }:=I1.track F.1 h0 F.2.1 F.2.2.2.2.1 F.2.2.2.2.2 ⟨by show 2<=sizeLine;rw [sizeLine_eq];decide,[u,v],.cons ru (.cons rv .nil),⟨_,T',rfl,0,rfl⟩⟩
  have l1lt:l1<s.heap.objs.size:=Y07 e1
  have l2lt:l2<s.heap.objs.size:=Y07 e2
  have l1f:l1∉[z,TI,TO,i1,i2]:=by simp [D.l1z,D.l1TO,D.l1i1,D.l1i2,hT1]
  have l2f:l2∉[z,TI,TO,i1,i2]:=by simp [D.l2z,D.l2TO,D.l2i1,D.l2i2,hT2]
  have S1':SIt h'' i1 l1 (i+1) its1.toArray:=a3
  have S2':SIt h'' i2 l2 (i+1) its2.toArray:=a4
  refine ⟨.ref s.heap.objs.size,_,I2,rfl,⟨_,rfl,F.1,λ xs' ys' hx' hy'=>?_⟩,⟨⟨g0,g1,q1,okg⟩,?_,a2,?_,?_⟩,λ b hb=>?_⟩
  ·rw [I.seqB_inj hx' hx,I.seqB_inj hy' hy]
   exact ⟨x,y,gx,gy,rfl⟩
  ·exact a7 TI _ D.TIz D.TITO D.TIi1 D.TIi2 zI
  ·exact ItR.ofS S1' t1 S1 λ o e=>up l1 o l1f e
  ·exact ItR.ofS S2' t2 S2 λ o e=>up l2 o l2f e
  ·have hb':=hf b hb
   have ne:b≠s.heap.objs.size:=by
    obtain ⟨o,e,_⟩:∃ o,s.heap.get? b=some o/\True:=by
     simp only [Y0d,Y0q,or_false] at hb
     rcases hb with rfl | rfl | rfl | rfl | rfl
     ·exact ⟨_,z0,trivial⟩
     ·exact ⟨_,zI,trivial⟩
     ·exact ⟨_,zO,trivial⟩
     ·obtain ⟨o,vs,e,_⟩:=t1.rec;exact ⟨o,e,trivial⟩
     ·obtain ⟨o,vs,e,_⟩:=t2.rec;exact ⟨o,e,trivial⟩
    exact Y0f (Y07 e)
   rw [zq ne];exact hb'.1
 done:=by
  intro X hP hw hK hc i pins s σ H E I hf st hg
  subst hP hw hK
  obtain ⟨hi,xs,ys,hx,hy,lx,ly⟩:=hg
  obtain ⟨⟨f0,f1,z0,okf⟩,zI,⟨a,c,zO⟩,t1,t2⟩:=st
  obtain ⟨its1,v1,k1,o1,n1,e1,d1⟩:=I.seqB hx
  obtain ⟨its2,v2,k2,o2,n2,e2,d2⟩:=I.seqB hy
  have S1:=k1 i1 i s.heap t1 λ _ e=>e
  have S2:=k2 i2 i s.heap t2 λ _ e=>e
  refine yZ (I.ok.hd hc) D z0 okf zI zO S1 S2 ?_ λ h' a1=>⟨rfl,I.turnedL (t':=s.toks) (l:=[z,TI,TO,i1,i2]) (λ b o hb e=>?_) hf⟩
  ·rcases hi with q | q
   ·exact .inl (by simp;rw [<- v1.length,lx,q];exact Y03 _)
   ·exact .inr (by simp;rw [<- v2.length,ly,q];exact Y03 _)
  ·simp only [Y0d,Y0q,or_false,not_or] at hb
   exact a1 b o hb.1 hb.2.2.1 hb.2.2.2.1 hb.2.2.2.2 e
 self:=λ _ _ _ _ _ st h=>by
  obtain ⟨⟨f0,f1,z0,okf⟩,_⟩:=st
  exact Q7 z0 h
section
variable {X:Cx}
theorem B2 {a b:Expr}{ta:TA}{p pos:Pos}{x1:Str}{pos':Pos} (hg:Gl X "zip") (hm:X.mg "zip"=none) (ha:PA X [a,b] ta) (hs:starEach [a,b] X.env=(false,eval a X.env)::starEach [b] X.env) (hs2:(backTo pos (starEach [b] X.env)).any (·.1)=false):PI X (.Name x1 pos') (.Call (.Name "zip" p) [a,b] [] pos) (z40 X.K ta):=by
 intro pins s σ H R I h
 refine Call_ (wG I hg hm Q1 (Y13 (thn (ha pos pins s σ H _ I h) λ us s1 ⟨vs,H1,I1,r1,q1⟩=>?_) hs hs2))
 obtain ⟨l1,l2,b1,b2,xs,ys,e,hx,hy,q⟩:=q1
 subst e
 cases r1 with
 | cons r rr =>
  cases rr with
  | cons r' rr' =>
   cases rr'
   cases r
   cases r'
   obtain ⟨i1,s1',t1⟩:=I1.seqH hx
   obtain ⟨i2,s2',t2⟩:=I1.seqH hy
   refine JD b1 b2 s1' s2' λ h' st k=>?_
   have D:ZipApart (s1.heap.objs.size+4) (s1.heap.objs.size+2) (s1.heap.objs.size+3) s1.heap.objs.size (s1.heap.objs.size+1) l1 l2:=by constructor<;>first | exact Y0f (by omega) | exact Y1f (by omega) | exact Y0f (Y0g t1 (by omega)) | exact Y0f (Y0g t2 (by omega))
   refine wpAny_pyIter_zip (s:={ s1 with heap:=h' }) st.1 ?_
   refine ⟨_,_,_,_,H1,rfl,I1.kept (t':=s1.toks) k,UJ D (Y0f (Y0g t1 (by omega))) (Y0f (Y0g t2 (by omega))) b1 b2 xs.length ys.length,⟨⟨_,_,st.1,.inl rfl⟩,st.2⟩,λ b' hb=>?_,q⟩
   have hb':s1.heap.objs.size<=b':=by
    simp only [Y0d,Y0q,or_false] at hb
    rcases hb with rfl | rfl | rfl | rfl | rfl
    all_goals first | exact Y03 _ | exact Y3k _ _
   exact I1.fpOk hb' (I1.hok.fresh hb')
end
end L2
namespace L2
open PySem PySem.Spec PyProof.Rows
structure ZL (h:Heap)(z TI TO i1 i2 l1 l2 S B:Addr)(xs ys:Array Value)(c i:Nat)(Ts:List Addr):Prop where
 zs:∃ f0 f1,wC h z TI TO f0 f1/\okF f0
 ti:IsPair h TI (.ref i1) (.ref i2)
 to:∃ a b,IsPair h TO a b
 s1:SIt h i1 l1 i xs
 s2:SIt h i2 l2 i ys
 ls:h.get? S=some { cls:=.type "list",dict:=none,data:=.seq (Ts.map Value.ref).toArray c,slots:=#[] }
 sz:Ts.length=i
 it:∀ (j:Nat) (T:Addr),Ts[j]?=some T->B<=T/\∃ x y,xs[j]?=some x/\ys[j]?=some y/\IsPair h T x y
 nd:Ts.Nodup
section
variable {prog:Program}{w:World}{A:Around}{R:Result->Shared->Prop}{z TI TO i1 i2 l1 l2 S B:Addr}{xs ys:Array Value}{res:Value}
end
end L2
namespace L2
open PySem PySem.Spec PyProof.Rows
section
variable {prog:Program}{w:World}{A:Around}{E:Value->Shared->Prop}{s:Shared}{z TI TO i1 i2 l1 l2:Addr}{xs ys:Array Value}
end
end L2
namespace L2
open PySem PySem.Spec PyProof.Rows
section
variable {X:Cx}{pins:List (Addr×Obj)}{σ:St}
end
end L2
namespace PI
open PySem L2
inductive D where
 | non | bl (b:Bool) | int (i:Int) | str (x:Str) | tup (xs:List D) | loc (n:Nat) | fl (xs:List D)
inductive O where
 | lst (xs:List D) | dK (kvs:List (Key×D)) | obj (x:Str) (fs:List (Str×D))
noncomputable abbrev Hh:=List O
noncomputable abbrev En:=List (Option D)
inductive Res (α:Type) where
 | ok (a:α) (h:Hh) | exc (c:Nat) (h:Hh) | no
noncomputable def Res.bind {α β:Type}(r:Res α)(f:α->Hh->Res β):Res β:=match r with
 | .ok a h=>f a h
 | .exc c h=>.exc c h
 | .no=>.no
@[simp] theorem bind_ok {α β:Type}{a:α}{h:Hh}{f:α->Hh->Res β}:(Res.ok a h).bind f=f a h:=rfl
@[simp] theorem bind_exc {α β:Type}{c:Nat}{h:Hh}{f:α->Hh->Res β}:(Res.exc c h:Res α).bind f=.exc c h:=rfl
@[simp] theorem bind_no {α β:Type}{f:α->Hh->Res β}:(Res.no:Res α).bind f=.no:=rfl
inductive RS where
 | nx (ρ:En) (h:Hh) | rt (d:D) (h:Hh) | bk (ρ:En) (h:Hh) | ct (ρ:En) (h:Hh) | ex (c:Nat) (ρ:En) (h:Hh) | no
inductive Tg where
 | one (i:Nat) (p:Pos) | tup (is:List (Nat×Pos)) (p:Pos)
inductive M0 where
 | pop
inductive M1 where
 | append   | index
inductive F1 where
 | str | int | all | abs | any
noncomputable def F1.name:F1->Str
 | .str=>"str" | .int=>"int" | .all=>"all" | .abs=>"abs" | .any=>"any"
inductive Cv where
 | tup (xs:List Str) | int (i:Int) | fn (i:Nat) (x:Str) | oth
 deriving DecidableEq
inductive Cn where
 | int (i:Int) | str (x:Str) | tup (xs:List Str) | dic (kvs:List (Str×Cv)) | exc (c:Nat) (ups:List Nat) | cls (i:Nat) | isc (x:Str) (ys:List Str)
 deriving DecidableEq
set_option genInjectivity false
set_option genSizeOf false
mutual
inductive E where
 | non (p:Pos) | bl (b:Bool) (p:Pos) | int (i:Int) (p:Pos) | str (x:Str) (p:Pos)
 | var (i:Nat) (p:Pos)
 | bin (op:Operator) (a b:E) (p:Pos)
 | un (op:UnaryOp) (a:E) (p:Pos)
 | cmp (op:CmpOp) (a b:E) (p:Pos)
 | and (a b:E) (r:Es) (p:Pos)
 | or (a b:E) (r:Es) (p:Pos)
 | ite (c a b:E) (p:Pos)
 | call (f:Nat) (a:E) (r:Es) (p0 p:Pos)
 | len (a:E) (p0 p:Pos)
 | isi (T:Nat) (a:E) (p0 p1 p:Pos)
 | isC (x:Str) (ys:List Str) (a:E) (p0 p1 p:Pos)
 | sub (a i:E) (p:Pos)
 | tup (es:Es) (p:Pos)
 | ofL (l:L)
 | tupE (e:E) (p0 p:Pos)
 | listE (e:E) (p0 p:Pos)
 | dicP (e:E) (p0 p:Pos)
 | dispD (ks:List (Str×Pos)) (vs:Es) (p:Pos)
 | cut (a:E) (lo hi:Eo) (p2 p:Pos)
 | dic (p:Pos)
 | m0 (m:M0) (o:E) (p1 p:Pos)
 | m1 (m:M1) (o a:E) (p1 p:Pos)
 | c1 (f:F1) (a:E) (p0 p:Pos)
 | listR (e:E) (p0 p1 p2 p:Pos)
 | cmpN (neg:Bool) (a:E) (p1 p:Pos)
 | gcon (x:Str) (c:Cn) (p:Pos)
 | gsub (x:Str) (kvs:List (Str×Cv)) (i:E) (p0 p:Pos)
 | fld (a:E) (f:Str) (p:Pos)
 | callG (x:Str) (kvs:List (Str×Cv)) (key a:E) (r:Es) (p0 p1 p:Pos)
 | mk (i:Nat) (x:Str) (a:E) (r:Es) (p0 p:Pos)
inductive Es where
 | nil | cons (e:E) (r:Es)
inductive Eo where
 | none | some (e:E)
inductive L where
 | disp (es:Es) (p:Pos)
 | comp (elt:E) (t:Tg) (it:I) (c:Es) (NC:List Str) (cap:List (Option Nat)) (sc:Scope) (p:Pos)
inductive I where
 | seq (e:E) | lst (l:L) | rng (a:E) (p0 p:Pos) | rev (e:E) (p0 p:Pos)
 | zip (a b:E) (p0 p:Pos)
end
structure Rp where
 c:Str
 d:Str
 pa:Pos
 pc:Pos
 pd:Pos
 p:Pos
noncomputable def Rp.py (e:Expr)(r:Rp):Expr:=.Call (.Attribute e "replace" r.pa) [.Constant (.str r.c) 0 r.pc,.Constant (.str r.d) 0 r.pd] [] r.p
inductive Fp where
 | c (x:Str) (p:Pos)
 | r (i:Nat) (p0 p:Pos)
noncomputable def Fp.py (N:List Str):Fp->Expr
 | .c x p=>.Constant (.str x) 0 p
 | .r i p0 p=>.FormattedValue (.Name (N.getD i "") p0) 114 none p
inductive Ms where
 | s (x:Str) (p:Pos)
 | f (a b:Fp) (r:List Fp) (p:Pos)
noncomputable def Ms.py (N:List Str):Ms->Expr
 | .s x p=>.Constant (.str x) 0 p
 | .f a b r p=>.JoinedStr (a.py N::b.py N::r.map (Fp.py N)) p
structure Xt where
 neg:Bool
 x:Str
 d:Option Nat
 pe:Pos
 p0:Pos
 p1:Pos
 p:Pos
 pn:Pos
noncomputable def Xt.call (e:Str)(t:Xt):Expr:=.Call (.Name "isinstance" t.p0) [.Name e t.pe,.Name t.x t.p1] [] t.p
noncomputable def Xt.py (e:Str)(t:Xt):Expr:=match t.neg with
 | true=>.UnaryOp .Not (t.call e) t.pn
 | false=>t.call e
noncomputable def Xt.is (u:List Nat)(t:Xt):Bool:=match t.d with
 | some d=>u.contains d
 | none=>true
noncomputable def Xt.val (u:List Nat)(t:Xt):Bool:=match t.neg with
 | true=>!(t.is u)
 | false=>t.is u
inductive Xv where
 | and (a b:Xt) (r:List Xt) (p:Pos) | lst (ts:List Xt) (p:Pos) | one (t:Xt)
noncomputable def Xv.py (e:Str):Xv->Expr
 | .and a b r p=>.BoolOp .And (a.py e::b.py e::r.map (Xt.py e)) p
 | .lst ts p=>.List (ts.map (Xt.py e)) p
 | .one t=>t.py e
mutual
inductive S where
 | set (i:Nat) (e:E) (p1 p:Pos)
 | ret (e:E) (p:Pos)
 | iff (c:E) (a b:Ss) (p:Pos)
 | ex (e:E) (p:Pos)
 | put (o i v:E) (p1 p:Pos)
 | forr (t:Tg) (it:I) (b:Ss) (p:Pos)
 | whil (c:E) (b:Ss) (p:Pos)
 | setF (o:E) (f:Str) (v:E) (p1 p:Pos)
 | retN (p:Pos)
 | setT (is:List (Nat×Pos)) (e:E) (p1 p:Pos)
 | raw (st:Stmt)
inductive Ss where
 | nil | cons (s:S) (r:Ss)
end
set_option genInjectivity true
set_option genSizeOf true
structure Nm where
 N:List Str
 F:List Str
 G:List (Str×Cn):=[]
noncomputable def qM:Nat->Str
 | 0=>"int" | 1=>"bool" | 2=>"str" | 3=>"tuple" | _=>"list"
noncomputable def YV:Nat->String
 | 0=>"int" | 1=>"bool" | 2=>"str" | 3=>"tuple" | _=>"list"
noncomputable def Tg.py (N:List Str):Tg->Expr
 | .one i p=>.Name (N.getD i "") p
 | .tup is p=>.Tuple (is.map λ q=>.Name (N.getD q.1 "") q.2) 0 p
mutual
noncomputable def E.py (n:Nm):E->Expr
 | .non p=>.Constant .none 0 p
 | .bl b p=>.Constant (.bool b) 0 p
 | .int i p=>.Constant (.int i) 0 p
 | .str x p=>.Constant (.str x) 0 p
 | .var i p=>.Name (n.N.getD i "") p
 | .bin op a b p=>.BinOp (a.py n) op (b.py n) p
 | .un op a p=>.UnaryOp op (a.py n) p
 | .cmp op a b p=>.Compare (a.py n) [op] [b.py n] p
 | .and a b r p=>.BoolOp .And (a.py n::b.py n::r.py n) p
 | .or a b r p=>.BoolOp .Or (a.py n::b.py n::r.py n) p
 | .ite c a b p=>.IfExp (c.py n) (a.py n) (b.py n) p
 | .call f a r p0 p=>.Call (.Name (n.F.getD f "") p0) (a.py n::r.py n) [] p
 | .len a p0 p=>.Call (.Name "len" p0) [a.py n] [] p
 | .isi T a p0 p1 p=>.Call (.Name "isinstance" p0) [a.py n,.Name (qM T) p1] [] p
 | .isC x _ a p0 p1 p=>.Call (.Name "isinstance" p0) [a.py n,.Name x p1] [] p
 | .sub a i p=>.Subscript (a.py n) (i.py n) p
 | .tup es p=>.Tuple (es.py n) 0 p
 | .ofL l=>l.py n
 | .tupE e p0 p=>.Call (.Name "tuple" p0) [e.py n] [] p
 | .listE e p0 p=>.Call (.Name "list" p0) [e.py n] [] p
 | .dicP e p0 p=>.Call (.Name "dict" p0) [e.py n] [] p
 | .dispD ks vs p=>.Dict (ks.map λ q=>some (.Constant (.str q.1) 0 q.2)) (vs.py n) p
 | .cut a lo hi p2 p=>.Subscript (a.py n) (.Slice (lo.py n) (hi.py n) .none p2) p
 | .dic p=>.Dict [] [] p
 | .m0 m o p1 p=>.Call (.Attribute (o.py n) (match m with | .pop=>"pop") p1) [] [] p
 | .m1 m o a p1 p=>.Call (.Attribute (o.py n) (match m with | .append=>"append" | .index=>"index") p1) [a.py n] [] p
 | .c1 f a p0 p=>.Call (.Name f.name p0) [a.py n] [] p
 | .cmpN neg a p1 p=>.Compare (a.py n) [if neg then .NotEq else .Eq] [.List [] p1] p
 | .listR e p0 p1 p2 p=>.Call (.Name "list" p0) [.Call (.Name "reversed" p1) [e.py n] [] p2] [] p
 | .gcon x _ p=>.Name x p
 | .gsub x _ i p0 p=>.Subscript (.Name x p0) (i.py n) p
 | .fld a f p=>.Attribute (a.py n) f p
 | .callG x _ key a r p0 p1 p=>.Call (.Subscript (.Name x p0) (key.py n) p1) (a.py n::r.py n) [] p
 | .mk _ x a r p0 p=>.Call (.Name x p0) (a.py n::r.py n) [] p
noncomputable def Eo.py (n:Nm):Eo->Option Expr
 | .none=>.none
 | .some e=>.some (e.py n)
noncomputable def L.py (n:Nm):L->Expr
 | .disp es p=>.List (es.py n) p
 | .comp elt t it c NC cap sc p=>.ListComp (elt.py ⟨NC,n.F,n.G⟩) [⟨t.py NC,it.py n,c.py ⟨NC,n.F,n.G⟩,0⟩] sc p
noncomputable def I.py (n:Nm):I->Expr
 | .seq e=>e.py n
 | .lst l=>l.py n
 | .rng a p0 p=>.Call (.Name "range" p0) [a.py n] [] p
 | .rev e p0 p=>.Call (.Name "reversed" p0) [e.py n] [] p
 | .zip a b p0 p=>.Call (.Name "zip" p0) [a.py n,b.py n] [] p
noncomputable def Es.py (n:Nm):Es->List Expr
 | .nil=>[]
 | .cons e r=>e.py n::r.py n
end
mutual
noncomputable def S.py (n:Nm):S->Stmt
 | .set i e p1 p=>.Assign [.Name (n.N.getD i "") p1] (e.py n) p
 | .ret e p=>.Return (some (e.py n)) p
 | .iff c a b p=>.If (c.py n) (a.py n) (b.py n) p
 | .ex e p=>.Expr (e.py n) p
 | .put o i v p1 p=>.Assign [.Subscript (o.py n) (i.py n) p1] (v.py n) p
 | .forr t it b p=>.For (t.py n.N) (it.py n) (b.py n) [] p
 | .whil c b p=>.While (c.py n) (b.py n) [] p
 | .retN p=>.Return none p
 | .setF o f v p1 p=>.Assign [.Attribute (o.py n) f p1] (v.py n) p
 | .setT is e p1 p=>.Assign [(Tg.tup is p1).py n.N] (e.py n) p
 | .raw st=>st
noncomputable def Ss.py (n:Nm):Ss->List Stmt
 | .nil=>[]
 | .cons s r=>s.py n::r.py n
end
mutual
noncomputable def D.pd (h:Hh):D->Option PyData
 | .non=>some .none
 | .bl b=>some (.bool b)
 | .int i=>some (.int i)
 | .str x=>some (.str x)
 | .tup xs=>(D.pds h xs).map .tuple
 | .loc _=>none
 | .fl xs=>(D.pds h xs).map .list
noncomputable def D.pds (h:Hh):List D->Option (List PyData)
 | []=>some []
 | x::r=>match D.pd h x,D.pds h r with
  | some a,some b=>some (a::b)
  | _,_=>none
end
noncomputable def wU:D->Option Key
 | .int i=>some (.inl i)
 | .str x=>some (.inr x)
 | _=>none
noncomputable def jf (kvs:List (Key×D))(k:Key):Option D:=(kvs.find? λ kv=>decide (kv.1=k)).map (·.2)
noncomputable def rd (h:Hh)(n:Nat):Option (List D):=match h[n]? with
 | some (.lst xs)=>some xs
 | _=>none
noncomputable def pdT (h:Hh):D->Option PyData
 | .loc n=>(rd h n).bind λ xs=>(D.pds h xs).map .list
 | d=>D.pd h d
noncomputable def isI (h:Hh):D->Nat->Option Bool
 | .non,_=>some false
 | .bl _,T=>some (T==0||T==1)
 | .int _,T=>some (T==0)
 | .str _,T=>some (T==2)
 | .tup _,T=>some (T==3)
 | .loc n,T=>(rd h n).map λ _=>T==4
 | .fl _,T=>some (T==4)
noncomputable def fits (i:Int):Bool:=decide (Builtin.Int.intBits i<=2 ^ 20)
noncomputable def eqR (neg:Bool)(u v:Option PyData)(h:Hh):Res D:=match u,v with
 | some u,some v=>if u.canLay0=true/\v.canLay0=true/\u.depth<=60 then .ok (.bl (if neg then !PyData.eqv u v else PyData.eqv u v)) h else .no
 | _,_=>.no
noncomputable def i2 (a b:D)(f:Int->Int->Res D):Res D:=match a,b with
 | .int i,.int j=>f i j
 | _,_=>.no
noncomputable def z42 (a b:D)(h:Hh):Res D:=match a,b with
 | .int i,.int j=>.ok (.int (i+j)) h
 | .str x,.str y=>if x.length+y.length<=1000000 then .ok (.str (x++y)) h else .no
 | .loc n,.loc m=>match h[n]?,h[m]? with
  | some (.lst xs),some (.lst ys)=>if xs.length+ys.length<=1000000 then .ok (.loc h.length) (h++[.lst (xs++ys)]) else .no
  | _,_=>.no
 | .tup xs,.tup ys=>if xs.length+ys.length<=1000000 then .ok (.tup (xs++ys)) h else .no
 | _,_=>.no
noncomputable def z43 (a b:D)(h:Hh):Res D:=match b with
 | .int j=>match a with
  | .int i=>if fits i=true/\fits j=true then .ok (.int (i*j)) h else .no
  | .str x=>if 0<=j/\j<=1000/\x.length<=1000 then .ok (.str (Txt.mul x j)) h else .no
  | .loc n=>match h[n]? with
   | some (.lst xs)=>if 0<=j/\j<=1000/\xs.length<=1000 then .ok (.loc h.length) (h++[.lst (List.replicate j.toNat xs).flatten]) else .no
   | _=>.no
  | _=>.no
 | _=>.no
noncomputable def wc (op:Operator)(a b:D)(h:Hh):Res D:=match op with
 | .Add=>z42 a b h
 | .Mult=>z43 a b h
 | .Sub=>i2 a b λ i j=>.ok (.int (i-j)) h
 | .FloorDiv=>i2 a b λ i j=>if 0<j/\j<1073741824 then .ok (.int (i/j)) h else .no
 | .Mod=>i2 a b λ i j=>if 0<j then .ok (.int (i%j)) h else .no
 | .Pow=>i2 a b λ i j=>if 0<=j/\j<=1000000/\i.natAbs<2 ^ 64 then .ok (.int (i ^ j.toNat)) h else .no
 | .LShift=>i2 a b λ i j=>if fits i=true/\0<=j/\j<=1000000 then .ok (.int (i*2 ^ j.toNat)) h else .no
 | .RShift=>i2 a b λ i j=>if 0<=j then .ok (.int (i/2 ^ j.toNat)) h else .no
 | .BitAnd=>i2 a b λ i j=>.ok (.int (Builtin.bitAnd i j)) h
 | .BitOr=>i2 a b λ i j=>.ok (.int (Builtin.bitOr i j)) h
 | _=>.no
noncomputable def vOf:D->V
 | .bl b=>.bl b
 | .int i=>.int i
 | .str x=>.str x
 | _=>.non
noncomputable def jW:D->Bool
 | .non | .bl _ | .int _ | .str _=>true
 | _=>false
noncomputable def ngB (neg b:Bool):Bool:=if neg then !b else b
@[simp] theorem ngB_f {b:Bool}:ngB false b=b:=rfl
@[simp] theorem ngB_t {b:Bool}:ngB true b=!b:=rfl
noncomputable def isN:D->Bool
 | .non=>true
 | _=>false
noncomputable def z02:D->Bool
 | .tup _=>true
 | d=>jW d
noncomputable def Z0 (neg:Bool)(x:D)(ds:List D)(h:Hh):Res D:=if jW x=true/\ds.all jW=true then .ok (.bl (ngB neg (ds.any λ y=>eqV (vOf y) (vOf x)))) h else if neg=false/\isN x=true/\ds.all z02=true then .ok (.bl (ds.any isN)) h else .no
noncomputable def inD (neg:Bool)(x y:D)(h:Hh):Res D:=match y with
 | .tup ds=>Z0 neg x ds h
 | .fl ds=>Z0 neg x ds h
 | .loc n=>match h[n]? with
  | some (.lst ds)=>Z0 neg x ds h
  | some (.dK kvs)=>(match wU x with | some k=>.ok (.bl (ngB neg (jf kvs k).isSome)) h | none=>.no)
  | _=>.no
 | .str z=>(match x with | .str u=>.ok (.bl (ngB neg (!(Builtin.Str.occurrences z u 0 z.length 1).isEmpty))) h | _=>.no)
 | _=>.no
noncomputable def isV (neg:Bool)(a b:D)(h:Hh):Res D:=match b with
 | .non=>.ok (.bl (ngB neg (isN a))) h
 | .bl y=>match a with
  | .bl x=>.ok (.bl (ngB neg (x==y))) h
  | _=>.no
 | _=>.no
noncomputable def j0 (op:CmpOp)(a b:D)(h:Hh):Res D:=match op with
 | .Lt=>i2 a b λ i j=>.ok (.bl (decide (i<j))) h
 | .LtE=>i2 a b λ i j=>.ok (.bl (decide (i<=j))) h
 | .Gt=>i2 a b λ i j=>.ok (.bl (decide (j<i))) h
 | .GtE=>i2 a b λ i j=>.ok (.bl (decide (j<=i))) h
 | .Eq=>eqR false (pdT h a) (pdT h b) h
 | .NotEq=>eqR true (pdT h a) (pdT h b) h
 | .In=>inD false a b h
 | .NotIn=>inD true a b h
 | .Is=>isV false a b h
 | .IsNot=>isV true a b h
noncomputable def unD (op:UnaryOp)(a:D)(h:Hh):Res D:=match op,a with
 | .Not,.bl b=>.ok (.bl (!b)) h
 | .Invert,.int i=>.ok (.int (Builtin.bitNot i)) h
 | .USub,.int i=>.ok (.int (-i)) h
 | _,_=>.no
noncomputable def Z2 (a:D)(h:Hh):Res D:=match a with
 | .tup xs=>.ok (.int xs.length) h
 | .loc n=>match rd h n with | some xs=>.ok (.int xs.length) h | none=>.no
 | .str x=>if x.length<=1000000 then .ok (.int x.length) h else .no
 | .fl xs=>.ok (.int xs.length) h
 | _=>.no
noncomputable def jg (a i:D)(h:Hh):Res D:=match a,i with
 | .tup xs,.int k=>match atI xs k with | some d=>.ok d h | none=>.no
 | .fl xs,.int k=>match atI xs k with | some d=>.ok d h | none=>.no
 | .str x,.int k=>if x.length<=1000000 then (match atI x.cps.toList k with | some c=>.ok (.str ⟨#[c]⟩) h | none=>.no) else .no
 | .loc n,y=>match h[n]? with
  | some (.dK kvs)=>match (wU y).bind (λ k=>jf kvs k) with | some d=>.ok d h | none=>.no
  | some (.lst xs)=>match y with
   | .int k=>match atI xs k with | some d=>.ok d h | none=>.no
   | _=>.no
  | _=>.no
 | _,_=>.no
noncomputable def new (o:O)(h:Hh):Res D:=.ok (.loc h.length) (h++[o])
noncomputable def ZB (kvs:List (Key×D))(k:Key)(v:D):List (Key×D):=if (kvs.any λ kv=>decide (kv.1=k))=true then kvs.map (λ kv=>if kv.1=k then (kv.1,v) else kv) else kvs++[(k,v)]
noncomputable def onL (x:D)(h:Hh)(r:Res D):Res D:=match x with
 | .loc n=>match h[n]? with
  | some (.lst _)=>r
  | _=>.no
 | _=>.no
noncomputable def m0D (m:M0)(o:D)(h:Hh):Res D:=match o with
 | .loc n=>match h[n]? with
  | some (.lst xs)=>match m with
   | .pop=>match xs.getLast? with | some x=>.ok x (h.set n (.lst xs.dropLast)) | none=>.no
  | _=>.no
 | _=>.no
noncomputable def m1D (m:M1)(o a:D)(h:Hh):Res D:=match o with
 | .loc n=>match h[n]? with
  | some (.lst xs)=>match m with
   | .append=>if xs.length<1000000 then .ok .non (h.set n (.lst (xs++[a]))) else .no
   | .index=>if jW a=true/\xs.all jW=true/\xs.length<=1000000 then (match xs.findIdx? λ y=>eqV (vOf y) (vOf a) with | some j=>.ok (.int (j:Nat)) h | none=>.no) else .no
  | _=>.no
 | _=>.no
noncomputable def Je (o i v:D)(h:Hh):Option Hh:=match o with
 | .loc n=>match h[n]? with
  | some (.lst xs)=>match i with
   | .int k=>(ixN xs.length k).map λ j=>h.set n (.lst (xs.set j v))
   | _=>none
  | some (.dK kvs)=>(wU i).bind λ k=>if kvs.length<1000000 then some (h.set n (.dK (ZB kvs k v))) else none
  | _=>none
 | _=>none
noncomputable def wD (xs:List D)(lo hi:Option Int):List D:=(xs.drop (HT.sIx xs.length 0 lo)).take (HT.sIx xs.length xs.length hi-HT.sIx xs.length 0 lo)
noncomputable def UK (a:D)(lo hi:Option Int)(h:Hh):Res D:=match a with
 | .loc n=>match rd h n with
  | some xs=>new (.lst (wD xs lo hi)) h
  | none=>.no
 | .fl xs=>new (.lst (wD xs lo hi)) h
 | .str x=>if x.length<=1000000 then .ok (.str (Txt.slice x lo hi)) h else .no
 | .tup xs=>if HT.sIx xs.length 0 lo=0/\HT.sIx xs.length xs.length hi=xs.length then .ok (.tup xs) h else .ok (.tup (wD xs lo hi)) h
 | _=>.no
noncomputable def z44 (d:D)(h:Hh):Res (Option Int):=match d with | .int i=>.ok (some i) h | _=>.no
noncomputable def wR (d:D)(h:Hh):Option (List D):=match d with
 | .tup xs=>some xs
 | .fl xs=>some xs
 | .loc n=>rd h n
 | _=>none
noncomputable abbrev Ck:=List (Nat×List D)
noncomputable def stay (c:Ck)(h:Hh):Prop:=∀ p∈c,rd h p.1=some p.2
noncomputable def jj (t:Tg)(d:D)(ρ:En):Option En:=match t with
 | .one i _=>some (ρ.set i (some d))
 | .tup is _=>match d with
  | .tup xs=>if xs.length=is.length then some ((is.zip xs).foldl (λ ρ q=>ρ.set q.1.1 (some q.2)) ρ) else none
  | _=>none
noncomputable def qf (cap:List (Option Nat))(ρ:En):En:=cap.map λ o=>o.bind λ i=>(ρ[i]?).bind id
noncomputable def jk (t:Tg)(ρ:En)(c:En->Hh->Res Bool)(e:En->Hh->Res D)(x:D)(h:Hh):Res (Option D):=match jj t x ρ with
 | some ρ'=>(c ρ' h).bind λ b h1=>if b then (e ρ' h1).bind λ d h2=>.ok (some d) h2 else .ok none h1
 | none=>.no
noncomputable def zQ (t:Tg)(b:En->Hh->RS)(x:D)(ρ:En)(h:Hh):RS:=match jj t x ρ with
 | some ρ'=>b ρ' h
 | none=>.no
noncomputable def Ge (acc:List D):Option D->List D
 | some d=>acc++[d]
 | none=>acc
@[simp] theorem addO_some {acc:List D}{d:D}:Ge acc (some d)=acc++[d]:=rfl
@[simp] theorem addO_none {acc:List D}:Ge acc none=acc:=rfl
open Classical in
noncomputable def zX (c:Ck)(f:D->Hh->Res (Option D)):List D->List D->Hh->Res (List D)
 | [],acc,h=>if stay c h then .ok acc h else .no
 | x::r,acc,h=>if stay c h then (f x h).bind λ o h'=>zX c f r (Ge acc o) h' else .no
open Classical in
noncomputable def jz (c:Ck)(f:D->En->Hh->RS):List D->En->Hh->RS
 | [],ρ,h=>if stay c h then .nx ρ h else .no
 | x::r,ρ,h=>if stay c h then (match f x ρ h with
   | .nx ρ' h'=>jz c f r ρ' h'
   | .ct ρ' h'=>jz c f r ρ' h'
   | .bk ρ' h'=>.nx ρ' h'
   | o=>o) else .no
noncomputable def whL (c:En->Hh->Res Bool)(b:En->Hh->RS):Nat->En->Hh->RS
 | 0,_,_=>.no
 | n+1,ρ,h=>match c ρ h with
  | .ok true h1=>(match b ρ h1 with
   | .nx ρ' h'=>whL c b n ρ' h'
   | .ct ρ' h'=>whL c b n ρ' h'
   | .bk ρ' h'=>.nx ρ' h'
   | o=>o)
  | .ok false h1=>.nx ρ h1
  | .exc k h1=>.ex k ρ h1
  | .no=>.no
theorem ZC {c:En->Hh->Res Bool}{b:En->Hh->RS}:∀ (n:Nat) (ρ:En) (h:Hh),whL c b n ρ h≠.no->whL c b (n+1) ρ h=whL c b n ρ h
 | 0,ρ,h,z=>absurd rfl z
 | n+1,ρ,h,z=>by
  rw [whL] at z ⊢
  rw [whL]
  cases ec:c ρ h with
  | ok t h1 =>
   cases t with
   | true =>
    rw [ec] at z
    simp only at z ⊢
    cases eb:b ρ h1 with
    | nx ρ' h'=>rw [eb] at z;exact ZC n ρ' h' z
    | ct ρ' h'=>rw [eb] at z;exact ZC n ρ' h' z
    | _=>rfl
   | false=>rfl
  | _=>rfl
theorem Gf {c:En->Hh->Res Bool}{b:En->Hh->RS}{n m:Nat}{ρ:En}{h:Hh}(hl:n<=m)(z:whL c b n ρ h≠.no):whL c b m ρ h=whL c b n ρ h:=by
 induction hl with
 | refl=>rfl
 | step _ ih=>rw [ZC _ _ _ (by rw [ih];exact z),ih]
open Classical in
noncomputable def whR (c:En->Hh->Res Bool)(b:En->Hh->RS)(ρ:En)(h:Hh):RS:=if e:∃ n,whL c b n ρ h≠.no then whL c b (Classical.choose e) ρ h else .no
theorem Wi {c:En->Hh->Res Bool}{b:En->Hh->RS}{n:Nat}{ρ:En}{h:Hh}{r:RS}(e:whL c b n ρ h=r)(z:r≠.no):whR c b ρ h=r:=by
 have ex:∃ n,whL c b n ρ h≠.no:=⟨n,by rw [e];exact z⟩
 unfold whR
 rw [dif_pos ex]
 have z2:=Classical.choose_spec ex
 rw [<- Gf (Nat.le_max_left (Classical.choose ex) n) z2,Gf (Nat.le_max_right (Classical.choose ex) n) (by rw [e];exact z),e]
theorem Wj {c:En->Hh->Res Bool}{b:En->Hh->RS}{ρ:En}{h:Hh}(z:whR c b ρ h≠.no):∃ n,whL c b n ρ h=whR c b ρ h:=by
 unfold whR at z ⊢
 split at z
 ·rename_i e
  exact ⟨_,by rw [dif_pos e]⟩
 ·exact absurd rfl z
theorem jy {c:En->Hh->Res Bool}{b:En->Hh->RS}{ρ ρ':En}{h h1 h':Hh}(ec:c ρ h=.ok true h1)(eb:b ρ h1=.nx ρ' h'):whR c b ρ h=whR c b ρ' h':=by
 by_cases z:whR c b ρ' h'=.no
 ·by_cases z2:whR c b ρ h=.no
  ·rw [z,z2]
  ·obtain ⟨n,e⟩:=Wj z2
   cases n with
   | zero=>rw [<- e] at z2;exact absurd rfl z2
   | succ n =>
    rw [whL,ec] at e
    simp only [eb] at e
    rw [<- Wi e z2]
 ·obtain ⟨n,e⟩:=Wj z
  exact Wi (n:=n+1) (by rw [whL,ec];simp only [eb];exact e) z
theorem jO {c:En->Hh->Res Bool}{b:En->Hh->RS}{ρ:En}{h h1:Hh}(ec:c ρ h=.ok false h1):whR c b ρ h=.nx ρ h1 :=
 Wi (n:=1) (by rw [whL,ec]) (by simp)
theorem YW {c:En->Hh->Res Bool}{b:En->Hh->RS}{ρ:En}{h h1 h':Hh}{d:D}(ec:c ρ h=.ok true h1)(eb:b ρ h1=.rt d h'):whR c b ρ h=.rt d h' :=
 Wi (n:=1) (by rw [whL,ec];simp only [eb]) (by simp)
noncomputable def tru (d:D)(h:Hh)(f:Bool->Hh->Res D):Res D:=match d with
 | .bl b=>f b h
 | _=>.no
noncomputable def qg:List D->Option (List Bool)
 | []=>some []
 | .bl b::r=>(qg r).map (b::·)
 | _::_=>none
noncomputable def c1D (f:F1)(a:D)(h:Hh):Res D:=match f,a with
 | .str,.int i=>if i.natAbs.log2<1920 then .ok (.str (toString i)) h else .no
 | .str,.str x=>.ok (.str x) h
 | .int,.int i=>.ok (.int i) h
 | .int,.bl b=>.ok (.int (if b then 1 else 0)) h
 | .int,.str x=>(match PySem.intText? x with | some n=>if x.length<=640 then .ok (.int n) h else .no | none=>.no)
 | .all,.loc n=>(match (rd h n).bind qg with | some bs=>.ok (.bl (bs.all id)) h | none=>.no)
 | .abs,.int i=>.ok (.int (if i<0 then -i else i)) h
 | .any,.loc n=>(match (rd h n).bind qg with | some bs=>.ok (.bl (bs.any id)) h | none=>.no)
 | _,_=>.no
noncomputable def Q8 {α:Type}(f:Str)(v:α):List (Str×α)->List (Str×α)
 | []=>[(f,v)]
 | (g,x)::r=>if g=f then (g,v)::r else (g,x)::Q8 f v r
noncomputable def ZD (x:D)(f:Str)(h:Hh):Res D:=match x with
 | .loc n=>(match h[n]? with
  | some (.obj _ fs)=>(match fs.lookup f with | some d=>.ok d h | none=>.no)
  | _=>.no)
 | _=>.no
noncomputable def B3 (x:Str)(ys:List Str)(v:D)(h:Hh):Option Bool:=match v with
 | .loc n=>(match h[n]? with
  | some (.obj y _)=>if y∈ys then some (decide (y=x)) else none
  | _=>none)
 | _=>none
noncomputable def qh (x:D)(f:Str)(v:D)(h:Hh):Option Hh:=match x with
 | .loc n=>(match h[n]? with
  | some (.obj y fs)=>if fs.length<1000 then some (h.set n (.obj y (Q8 f v fs))) else none
  | _=>none)
 | _=>none
noncomputable def mkR (n:Nat)(r:Res D):Res D:=match r with
 | .ok .non h=>.ok (.loc n) h
 | .exc c h=>.exc c h
 | _=>.no
noncomputable def Y4 (neg:Bool)(x:D)(h:Hh):Res D:=match x with
 | .fl xs=>.ok (.bl (ngB neg xs.isEmpty)) h
 | .loc n=>(match rd h n with | some xs=>.ok (.bl (ngB neg xs.isEmpty)) h | none=>.no)
 | _=>.no
noncomputable def lrD (x:D)(h:Hh):Res D:=match x with
 | .fl xs=>new (.lst xs.reverse) h
 | .loc n=>(match rd h n with | some xs=>new (.lst xs.reverse) h | none=>.no)
 | _=>.no
noncomputable def z24 (x:D)(h:Hh):Res (Ck×List D):=match x with
 | .fl xs=>.ok ([],xs.reverse) h
 | .tup xs=>.ok ([],xs.reverse) h
 | .loc n=>(match rd h n with | some xs=>.ok ([(n,xs)],xs.reverse) h | none=>.no)
 | _=>.no
noncomputable def Cv.d:Cv->D
 | .tup xs=>.tup (xs.map .str)
 | .int i=>.int i
 | .fn _ _=>.non
 | .oth=>.non
noncomputable def Cv.isFn:Cv->Bool
 | .fn _ _=>true
 | .oth=>true
 | _=>false
noncomputable def z45 (kvs:List (Str×Cv))(y:D)(h:Hh):Res D:=match y with
 | .str k=>(match kvs.lookup k with | some c=>if c.isFn then .no else .ok c.d h | none=>.no)
 | _=>.no
noncomputable def fnOf (kvs:List (Str×Cv))(y:D):Option Nat:=match y with
 | .str k=>(match kvs.lookup k with | some (.fn i _)=>some i | _=>none)
 | _=>none
noncomputable def YX:D->Option (Key×D)
 | .tup [k,v]=>(wU k).map λ q=>(q,v)
 | _=>none
noncomputable def we:List D->Option (List (Key×D))
 | []=>some []
 | x::r=>match YX x,we r with
  | some a,some b=>some (a::b)
  | _,_=>none
noncomputable def wJ (kvs more:List (Key×D)):List (Key×D):=more.foldl (λ acc kv=>ZB acc kv.1 kv.2) kvs
noncomputable def YY (x:D)(h:Hh):Res D:=match x with
 | .loc n=>(match rd h n with
  | some xs=>if xs.length<=1000000 then (match we xs with | some kvs=>new (.dK (wJ [] kvs)) h | none=>.no) else .no
  | none=>.no)
 | _=>.no
noncomputable def YZ (ks:List (Str×Pos))(n:Nat)(xs:List D)(h:Hh):Res D:=match h[n]? with
 | some (.dK [])=>.ok (.loc n) (h.set n (.dK (wJ [] ((ks.map λ q=>(Sum.inr q.1:Key)).zip xs))))
 | _=>.no
noncomputable def Wk (d:D)(h:Hh):D:=match d with
 | .loc n=>(match rd h n with | some xs=>.tup xs | none=>.non)
 | d=>d
@[simp] theorem unpD_tup {xs:List D}{h:Hh}:Wk (.tup xs) h=.tup xs:=rfl
noncomputable def Y5 (x:D)(h:Hh):Option (Ck×List D):=match x with
 | .tup xs=>some ([],xs)
 | .fl xs=>some ([],xs)
 | .loc n=>(rd h n).map λ xs=>([(n,xs)],xs)
 | _=>none
noncomputable def Q9 (q:D×D):D:=.tup [q.1,q.2]
noncomputable def Qa (x y:D)(h:Hh):Res (Ck×List D):=match Y5 x h with
 | some p=>(match Y5 y h with
  | some q=>.ok (p.1++q.1,(p.2.zip q.2).map Q9) h
  | none=>.no)
 | none=>.no
noncomputable def Xv.run (u:List Nat)(h:Hh):Xv->D×Hh
 | .and a b r _=>(.bl (a.val u&&(b.val u&&r.all (Xt.val u))),h)
 | .lst ts _=>(.loc h.length,h++[.lst (ts.map λ t=>.bl (t.val u))])
 | .one t=>(.bl (t.val u),h)
noncomputable section
variable (cl:Nat->List D->Hh->Res D)
mutual
noncomputable def E.ev:E->En->Hh->Res D
 | .non _,_,h=>.ok .non h
 | .bl b _,_,h=>.ok (.bl b) h
 | .int i _,_,h=>.ok (.int i) h
 | .str x _,_,h=>.ok (.str x) h
 | .var i _,ρ,h=>match ρ[i]? with | some (some d)=>.ok d h | _=>.no
 | .bin op a b _,ρ,h=>(a.ev ρ h).bind λ x h1=>(b.ev ρ h1).bind λ y h2=>wc op x y h2
 | .un op a _,ρ,h=>(a.ev ρ h).bind λ x h1=>unD op x h1
 | .cmp op a b _,ρ,h=>(a.ev ρ h).bind λ x h1=>(b.ev ρ h1).bind λ y h2=>j0 op x y h2
 | .and a b r _,ρ,h=>(a.ev ρ h).bind λ x h1=>tru x h1 λ c h1=>if c then (b.ev ρ h1).bind λ y h2=>r.evAnd ρ y h2 else .ok (.bl false) h1
 | .or a b r _,ρ,h=>(a.ev ρ h).bind λ x h1=>tru x h1 λ c h1=>if c then .ok (.bl true) h1 else (b.ev ρ h1).bind λ y h2=>r.evOr ρ y h2
 | .ite c a b _,ρ,h=>(c.ev ρ h).bind λ x h1=>tru x h1 λ t h1=>if t then a.ev ρ h1 else b.ev ρ h1
 | .call f a r _ _,ρ,h=>(a.ev ρ h).bind λ x h1=>(r.ev ρ h1).bind λ xs h2=>cl f (x::xs) h2
 | .len a _ _,ρ,h=>(a.ev ρ h).bind λ x h1=>Z2 x h1
 | .isi T a _ _ _,ρ,h=>(a.ev ρ h).bind λ x h1=>match isI h1 x T with | some b=>.ok (.bl b) h1 | none=>.no
 | .isC y ys a _ _ _,ρ,h=>(a.ev ρ h).bind λ x h1=>match B3 y ys x h1 with | some b=>.ok (.bl b) h1 | none=>.no
 | .sub a i _,ρ,h=>(a.ev ρ h).bind λ x h1=>(i.ev ρ h1).bind λ y h2=>jg x y h2
 | .tup es _,ρ,h=>(es.ev ρ h).bind λ xs h1=>if xs.length<=1000 then .ok (.tup xs) h1 else .no
 | .ofL l,ρ,h=>(l.ev ρ h).bind λ xs h1=>new (.lst xs) h1
 | .tupE e _ _,ρ,h=>(e.ev ρ h).bind λ x h1=>match wR x h1 with | some xs=>.ok (.tup xs) h1 | none=>.no
 | .listE e _ _,ρ,h=>(e.ev ρ h).bind λ x h1=>match wR x h1 with | some xs=>new (.lst xs) h1 | none=>.no
 | .dicP e _ _,ρ,h=>(e.ev ρ h).bind λ x h1=>YY x h1
 | .dispD ks vs _,ρ,h=>(vs.ev ρ (h++[.dK []])).bind λ xs h1=>YZ ks h.length xs h1
 | .cut a lo hi _ _,ρ,h=>(a.ev ρ h).bind λ x h1=>(lo.ev ρ h1).bind λ l h2=>(hi.ev ρ h2).bind λ u h3=>UK x l u h3
 | .dic _,_,h=>new (.dK []) h
 | .m0 m o _ _,ρ,h=>(o.ev ρ h).bind λ x h1=>m0D m x h1
 | .m1 m o a _ _,ρ,h=>(o.ev ρ h).bind λ x h1=>onL x h1 ((a.ev ρ h1).bind λ y h2=>m1D m x y h2)
 | .c1 f a _ _,ρ,h=>(a.ev ρ h).bind λ x h1=>c1D f x h1
 | .cmpN neg a _ _,ρ,h=>(a.ev ρ h).bind λ x h1=>Y4 neg x h1
 | .listR e _ _ _ _,ρ,h=>(e.ev ρ h).bind λ x h1=>lrD x h1
 | .gcon _ c _,_,h=>match c with | .int i=>.ok (.int i) h | .str x=>.ok (.str x) h | .tup xs=>.ok (.tup (xs.map .str)) h | .dic _=>.no | .exc _ _=>.no | .cls _=>.no | .isc _ _=>.no
 | .gsub _ kvs i _ _,ρ,h=>(i.ev ρ h).bind λ y h1=>z45 kvs y h1
 | .callG _ kvs key a r _ _ _,ρ,h=>(key.ev ρ h).bind λ y h1=>match fnOf kvs y with | some i=>(a.ev ρ h1).bind λ x h2=>(r.ev ρ h2).bind λ xs h3=>cl i (x::xs) h3 | none=>.no
 | .fld a f _,ρ,h=>(a.ev ρ h).bind λ x h1=>ZD x f h1
 | .mk i x a r _ _,ρ,h=>(a.ev ρ h).bind λ y h1=>(r.ev ρ h1).bind λ ys h2=>mkR h2.length (cl i (.loc h2.length::y::ys) (h2++[.obj x []]))
noncomputable def Eo.ev:Eo->En->Hh->Res (Option Int)
 | .none,_,h=>.ok none h
 | .some e,ρ,h=>(e.ev ρ h).bind λ d h1=>z44 d h1
noncomputable def L.ev:L->En->Hh->Res (List D)
 | .disp es _,ρ,h=>(es.ev ρ h).bind λ xs h1=>if xs.length<=1000 then .ok xs h1 else .no
 | .comp elt t it c _ cap _ _,ρ,h=>(it.ev ρ h).bind λ q h1=>if q.2.length<=1000000 then zX q.1 (jk t (qf cap ρ) (λ ρ' h2=>c.evC ρ' h2) (λ ρ' h2=>elt.ev ρ' h2)) q.2 [] h1 else .no
noncomputable def I.ev:I->En->Hh->Res (Ck×List D)
 | .seq e,ρ,h=>(e.ev ρ h).bind λ x h1=>match x with
  | .tup xs=>.ok ([],xs) h1
  | .fl xs=>.ok ([],xs) h1
  | .loc n=>match rd h1 n with | some xs=>.ok ([(n,xs)],xs) h1 | none=>.no
  | .str x=>.ok ([],x.cps.toList.map λ c=>.str ⟨#[c]⟩) h1
  | _=>.no
 | .lst l,ρ,h=>(l.ev ρ h).bind λ xs h1=>.ok ([],xs) h1
 | .rng a _ _,ρ,h=>(a.ev ρ h).bind λ x h1=>match x with
  | .int j=>if -1000000<=j/\j<=1000000 then .ok ([],(List.range j.toNat).map λ k=>.int (k:Nat)) h1 else .no
  | _=>.no
 | .rev e _ _,ρ,h=>(e.ev ρ h).bind λ x h1=>z24 x h1
 | .zip a b _ _,ρ,h=>(a.ev ρ h).bind λ x h1=>(b.ev ρ h1).bind λ y h2=>Qa x y h2
noncomputable def Es.evC:Es->En->Hh->Res Bool
 | .nil,_,h=>.ok true h
 | .cons e _,ρ,h=>(e.ev ρ h).bind λ d h1=>match d with | .bl b=>.ok b h1 | _=>.no
noncomputable def Es.ev:Es->En->Hh->Res (List D)
 | .nil,_,h=>.ok [] h
 | .cons e r,ρ,h=>(e.ev ρ h).bind λ x h1=>(r.ev ρ h1).bind λ xs h2=>.ok (x::xs) h2
noncomputable def Es.evAnd:Es->En->D->Hh->Res D
 | .nil,_,x,h=>.ok x h
 | .cons e r,ρ,x,h=>tru x h λ c h1=>if c then (e.ev ρ h1).bind λ y h2=>r.evAnd ρ y h2 else .ok (.bl false) h1
noncomputable def Es.evOr:Es->En->D->Hh->Res D
 | .nil,_,x,h=>.ok x h
 | .cons e r,ρ,x,h=>tru x h λ c h1=>if c then .ok (.bl true) h1 else (e.ev ρ h1).bind λ y h2=>r.evOr ρ y h2
end
noncomputable def E.evT (e:E)(ρ:En)(h:Hh):Res Bool:=(e.ev cl ρ h).bind λ d h1=>match d with | .bl b=>.ok b h1 | _=>.no
noncomputable def zY {α:Type}(ρ:En)(r:Res α)(f:α->Hh->RS):RS:=match r with
 | .ok a h=>f a h
 | .exc c h=>.ex c ρ h
 | .no=>.no
@[simp] theorem andS_ok {α:Type}{ρ:En}{a:α}{h:Hh}{f:α->Hh->RS}:zY ρ (.ok a h) f=f a h:=rfl
@[simp] theorem andS_exc {α:Type}{ρ:En}{c:Nat}{h:Hh}{f:α->Hh->RS}:zY ρ (.exc c h) f=.ex c ρ h:=rfl
noncomputable def jP (o:RS)(f:En->Hh->RS):RS:=match o with
 | .nx ρ h=>f ρ h
 | o=>o
@[simp] theorem seqS_nx {ρ:En}{h:Hh}{f:En->Hh->RS}:jP (.nx ρ h) f=f ρ h:=rfl
@[simp] theorem seqS_rt {d:D}{h:Hh}{f:En->Hh->RS}:jP (.rt d h) f=.rt d h:=rfl
@[simp] theorem seqS_bk {ρ:En}{h:Hh}{f:En->Hh->RS}:jP (.bk ρ h) f=.bk ρ h:=rfl
@[simp] theorem seqS_ct {ρ:En}{h:Hh}{f:En->Hh->RS}:jP (.ct ρ h) f=.ct ρ h:=rfl
@[simp] theorem seqS_ex {c:Nat}{ρ:En}{h:Hh}{f:En->Hh->RS}:jP (.ex c ρ h) f=.ex c ρ h:=rfl
mutual
noncomputable def S.run:S->En->Hh->RS
 | .set i e _ _,ρ,h=>zY ρ (e.ev cl ρ h) λ d h1=>.nx (ρ.set i (some d)) h1
 | .ret e _,ρ,h=>zY ρ (e.ev cl ρ h) λ d h1=>.rt d h1
 | .iff c a b _,ρ,h=>zY ρ (c.evT cl ρ h) λ t h1=>if t then a.run ρ h1 else b.run ρ h1
 | .ex e _,ρ,h=>zY ρ (e.ev cl ρ h) λ _ h1=>.nx ρ h1
 | .put o i v _ _,ρ,h=>zY ρ (v.ev cl ρ h) λ z h1=>zY ρ (o.ev cl ρ h1) λ x h2=>zY ρ (i.ev cl ρ h2) λ y h3=>match Je x y z h3 with | some h4=>.nx ρ h4 | none=>.no
 | .forr t it b _,ρ,h=>zY ρ (it.ev cl ρ h) λ q h1=>jz q.1 (zQ t λ ρ' h'=>b.run ρ' h') q.2 ρ h1
 | .whil c b _,ρ,h=>whR (λ ρ' h'=>c.evT cl ρ' h') (λ ρ' h'=>b.run ρ' h') ρ h
 | .retN _,_,h=>.rt .non h
 | .setF o f v _ _,ρ,h=>zY ρ (v.ev cl ρ h) λ z h1=>zY ρ (o.ev cl ρ h1) λ x h2=>match qh x f z h2 with | some h3=>.nx ρ h3 | none=>.no
 | .raw _,_,_=>.no
 | .setT is e p1 _,ρ,h=>zY ρ (e.ev cl ρ h) λ d h1=>match jj (.tup is p1) (Wk d h1) ρ with | some ρ'=>.nx ρ' h1 | none=>.no
noncomputable def Ss.run:Ss->En->Hh->RS
 | .nil,ρ,h=>.nx ρ h
 | .cons s r,ρ,h=>jP (s.run ρ h) λ ρ' h'=>r.run ρ' h'
end
end
noncomputable def z46:Stmt->Nat->List Stmt
 | .If _ a b _,k=>if k=0 then a else b
 | .For _ _ b _ _,_=>b
 | .While _ b _ _,_=>b
 | .Try b _ _ _ _,_=>b
 | _,_=>[]
noncomputable def z25 (l:List Stmt):Nat->List (Nat×Nat)->Stmt
 | i,[]=>l.getD i (.Pass ⟨0,0,0,0⟩)
 | i,(b,j)::r=>z25 (z46 (l.getD i (.Pass ⟨0,0,0,0⟩)) b) j r
noncomputable def zG:Stmt->List Stmt
 | .ClassDef _ _ _ b _ _ _ _ _ _ _=>b
 | _=>[]
structure Df where
 name:Str
 ps:List Str
 N:List Str
 body:Ss
noncomputable def Wl:RS->Res D
 | .rt v h'=>.ok v h'
 | .nx _ h'=>.ok .non h'
 | .ex c _ h'=>.exc c h'
 | _=>.no
noncomputable def Df.run (cl:Nat->List D->Hh->Res D)(d:Df)(as:List D)(h:Hh):Res D :=
 Wl (d.body.run cl (as.map some++List.replicate (d.N.length-as.length) none) h)
noncomputable def callI (ds:List Df):Nat->Nat->List D->Hh->Res D
 | 0,_,_,_=>.no
 | k+1,f,as,h=>match ds[f]? with
  | some d=>if as.length=d.ps.length then d.run (callI ds k) as h else .no
  | none=>.no
section
variable {i j:Int}{h:Hh}{x y:Str}{b c:Bool}{d e:D}{xs:List D}
@[simp] theorem bin_add:wc .Add (.int i) (.int j) h=.ok (.int (i+j)) h:=rfl
@[simp] theorem bin_sub:wc .Sub (.int i) (.int j) h=.ok (.int (i-j)) h:=rfl
@[simp] theorem bin_mul:wc .Mult (.int i) (.int j) h=if fits i=true/\fits j=true then .ok (.int (i*j)) h else .no:=rfl
@[simp] theorem bin_fdiv:wc .FloorDiv (.int i) (.int j) h=if 0<j/\j<1073741824 then .ok (.int (i/j)) h else .no:=rfl
@[simp] theorem bin_mod:wc .Mod (.int i) (.int j) h=if 0<j then .ok (.int (i%j)) h else .no:=rfl
@[simp] theorem bin_pow:wc .Pow (.int i) (.int j) h=if 0<=j/\j<=1000000/\i.natAbs<2 ^ 64 then .ok (.int (i ^ j.toNat)) h else .no:=rfl
@[simp] theorem bin_shl:wc .LShift (.int i) (.int j) h=if fits i=true/\0<=j/\j<=1000000 then .ok (.int (i*2 ^ j.toNat)) h else .no:=rfl
@[simp] theorem bin_shr:wc .RShift (.int i) (.int j) h=if 0<=j then .ok (.int (i/2 ^ j.toNat)) h else .no:=rfl
@[simp] theorem bin_and:wc .BitAnd (.int i) (.int j) h=.ok (.int (Builtin.bitAnd i j)) h:=rfl
@[simp] theorem bin_or:wc .BitOr (.int i) (.int j) h=.ok (.int (Builtin.bitOr i j)) h:=rfl
@[simp] theorem bin_adds:wc .Add (.str x) (.str y) h=if x.length+y.length<=1000000 then .ok (.str (x++y)) h else .no:=rfl
@[simp] theorem cmp_lt:j0 .Lt (.int i) (.int j) h=.ok (.bl (decide (i<j))) h:=rfl
@[simp] theorem cmp_le:j0 .LtE (.int i) (.int j) h=.ok (.bl (decide (i<=j))) h:=rfl
@[simp] theorem cmp_gt:j0 .Gt (.int i) (.int j) h=.ok (.bl (decide (j<i))) h:=rfl
@[simp] theorem cmp_ge:j0 .GtE (.int i) (.int j) h=.ok (.bl (decide (j<=i))) h:=rfl
@[simp] theorem cmp_eq:j0 .Eq d e h=eqR false (pdT h d) (pdT h e) h:=rfl
@[simp] theorem cmp_ne:j0 .NotEq d e h=eqR true (pdT h d) (pdT h e) h:=rfl
@[simp] theorem cmp_in:j0 .In d e h=inD false d e h:=rfl
@[simp] theorem cmp_notin:j0 .NotIn d e h=inD true d e h:=rfl
theorem B4 {neg:Bool}{ys:List Str}:Z0 neg (.str x) (ys.map .str) h=.ok (.bl (ngB neg (ys.any λ y=>y==x))) h:=by
 unfold Z0
 rw [if_pos ⟨rfl,by simp [jW]⟩,List.any_map]
 rfl
@[simp] theorem cmp_isN:j0 .Is d .non h=.ok (.bl (match d with | .non=>true | _=>false)) h:=by cases d<;>rfl
@[simp] theorem cmp_isnotN:j0 .IsNot d .non h=.ok (.bl (match d with | .non=>false | _=>true)) h:=by cases d<;>rfl
@[simp] theorem cmp_is:j0 .Is (.bl b) (.bl c) h=.ok (.bl (b==c)) h:=rfl
@[simp] theorem cmp_isnot:j0 .IsNot (.bl b) (.bl c) h=.ok (.bl (!(b==c))) h:=rfl
@[simp] theorem eqR_some {neg:Bool}{u v:PyData}:eqR neg (some u) (some v) h=if u.canLay0=true/\v.canLay0=true/\u.depth<=60 then .ok (.bl (if neg then !PyData.eqv u v else PyData.eqv u v)) h else .no:=rfl
@[simp] theorem pdT_non:pdT h .non=some .none:=by unfold pdT D.pd;rfl
@[simp] theorem pdT_bl:pdT h (.bl b)=some (.bool b):=by unfold pdT D.pd;rfl
@[simp] theorem pdT_int:pdT h (.int i)=some (.int i):=by unfold pdT D.pd;rfl
@[simp] theorem pdT_str:pdT h (.str x)=some (.str x):=by unfold pdT D.pd;rfl
@[simp] theorem pdT_tup:pdT h (.tup xs)=(D.pds h xs).map .tuple:=by unfold pdT D.pd;rfl
@[simp] theorem pdT_loc {n:Nat}:pdT h (.loc n)=(rd h n).bind λ xs=>(D.pds h xs).map .list:=rfl
@[simp] theorem pds_nil:D.pds h []=some []:=by unfold D.pds;rfl
@[simp] theorem un_not:unD .Not (.bl b) h=.ok (.bl (!b)) h:=rfl
@[simp] theorem un_invert:unD .Invert (.int i) h=.ok (.int (Builtin.bitNot i)) h:=rfl
@[simp] theorem un_usub:unD .USub (.int i) h=.ok (.int (-i)) h:=rfl
@[simp] theorem pdT_fl:pdT h (.fl xs)=(D.pds h xs).map .list:=by unfold pdT D.pd;rfl
@[simp] theorem len_fl:Z2 (.fl xs) h=.ok (.int xs.length) h:=rfl
@[simp] theorem sub_fl:jg (.fl xs) (.int i) h=match atI xs i with | some d=>.ok d h | none=>.no:=rfl
@[simp] theorem len_tup:Z2 (.tup xs) h=.ok (.int xs.length) h:=rfl
@[simp] theorem len_loc {n:Nat}:Z2 (.loc n) h=match rd h n with | some xs=>.ok (.int xs.length) h | none=>.no:=rfl
@[simp] theorem len_str:Z2 (.str x) h=if x.length<=1000000 then .ok (.int x.length) h else .no:=rfl
@[simp] theorem sub_tup:jg (.tup xs) (.int i) h=match atI xs i with | some d=>.ok d h | none=>.no:=rfl
@[simp] theorem bin_muls:wc .Mult (.str x) (.int j) h=if 0<=j/\j<=1000/\x.length<=1000 then .ok (.str (Txt.mul x j)) h else .no:=rfl
@[simp] theorem bin_addt {ys:List D}:wc .Add (.tup xs) (.tup ys) h=if xs.length+ys.length<=1000000 then .ok (.tup (xs++ys)) h else .no:=rfl
@[simp] theorem bin_addl {n m:Nat}:wc .Add (.loc n) (.loc m) h=(match h[n]?,h[m]? with
  | some (.lst xs),some (.lst ys)=>if xs.length+ys.length<=1000000 then .ok (.loc h.length) (h++[.lst (xs++ys)]) else .no
  | _,_=>.no):=rfl
theorem Wm:jg (.str x) (.int i) h=if x.length<=1000000 then (match atI x.cps.toList i with | some c=>.ok (.str ⟨#[c]⟩) h | none=>.no) else .no:=rfl
theorem B5 {n:Nat}{y:D}:jg (.loc n) y h=(match h[n]? with
  | some (.dK kvs)=>match (wU y).bind (λ k=>jf kvs k) with | some d=>.ok d h | none=>.no
  | some (.lst xs)=>match y with
   | .int k=>match atI xs k with | some d=>.ok d h | none=>.no
   | _=>.no
  | _=>.no):=rfl
@[simp] theorem tru_bl {f:Bool->Hh->Res D}:tru (.bl b) h f=f b h:=rfl
end
theorem za {ds:List Df}{k i:Nat}{d:Df}{as:List D}{h:Hh}(hd:ds[i]?=some d)(hl:as.length=d.ps.length):callI ds (k+1) i as h=d.run (callI ds k) as h:=by
 unfold callI;rw [hd];exact if_pos hl
theorem z67 {α:Type}{P:List α->Prop}(f:P [])(us:List α)(hl:us.length=0):P us:=by
 cases us with
 | nil=>exact f
 | cons=>cases hl
theorem Gg {α:Type}{n:Nat}{P:List α->Prop}(f:∀ a us,us.length=n->P (a::us))(us:List α)(hl:us.length=n+1):P us:=by
 cases us with
 | nil=>cases hl
 | cons a r=>exact f a r (Nat.succ.inj hl)
theorem yu {α:Type}{P:List α->Prop}(f:∀ a,P [a]):∀ us:List α,us.length=1->P us:=Gg λ a=>z67 (P:=λ us=>P (a::us)) (f a)
theorem qi {α:Type}{P:List α->Prop}(f:∀ a b,P [a,b]):∀ us:List α,us.length=2->P us:=Gg λ a=>yu (P:=λ us=>P (a::us)) (f a)
theorem Wn {α:Type}{P:List α->Prop}(f:∀ a b c,P [a,b,c]):∀ us:List α,us.length=3->P us:=Gg λ a=>qi (P:=λ us=>P (a::us)) (f a)
theorem Gh {α:Type}{P:List α->Prop}(f:∀ a b c d,P [a,b,c,d]):∀ us:List α,us.length=4->P us:=Gg λ a=>Wn (P:=λ us=>P (a::us)) (f a)
theorem z26 {α:Type}{P:List α->Prop}(f:∀ a b c d e,P [a,b,c,d,e]):∀ us:List α,us.length=5->P us:=Gg λ a=>Gh (P:=λ us=>P (a::us)) (f a)
end PI
namespace PI
open PySem L2
noncomputable def Fz (K:Y00)(H:Hp)(a:Addr)(vs:List V):Prop:=(∃ o,H a=some (.frz o (.lst vs)))\/∀ H',SqL K H' a vs
theorem Fz.sq {K:Y00}{H:Hp}{a:Addr}{vs:List V}(h:Fz K H a vs):SqL K H a vs:=h.elim (λ ⟨o,q⟩=>.inl (.inr ⟨o,q⟩)) λ q=>q H
mutual
inductive Rep (K:Y00)(μ:List Addr)(H:Hp):D->V->Prop
 | non:Rep K μ H .non .non
 | bl (b:Bool):Rep K μ H (.bl b) (.bl b)
 | int (i:Int):Rep K μ H (.int i) (.int i)
 | str (x:Str):Rep K μ H (.str x) (.str x)
 | tup {ds:List D}{vs:List V}{a:Addr}:SqT K H a vs->Reps K μ H ds vs->Rep K μ H (.tup ds) (.ref a)
 | loc {n:Nat}{a:Addr}:μ[n]?=some a->Rep K μ H (.loc n) (.ref a)
 | fl {ds:List D}{vs:List V}{a:Addr}:Fz K H a vs->Reps K μ H ds vs->Rep K μ H (.fl ds) (.ref a)
inductive Reps (K:Y00)(μ:List Addr)(H:Hp):List D->List V->Prop
 | nil:Reps K μ H [] []
 | cons {d:D}{v:V}{ds:List D}{vs:List V}:Rep K μ H d v->Reps K μ H ds vs->Reps K μ H (d::ds) (v::vs)
end
structure Ext (K:Y00)(μ:List Addr)(H:Hp)(μ':List Addr)(H':Hp):Prop where
 loc:∀ (n:Nat) a,μ[n]?=some a->μ'[n]?=some a
 tup:∀ a xs,SqT K H a xs->SqT K H' a xs
 fz:∀ a xs,Fz K H a xs->Fz K H' a xs
 oth:∀ a o,H a=some o->a∉μ->H' a=some o
 new:∀ a,a∈μ'->a∈μ\/H a=none
theorem Ext.refl {K:Y00}{μ:List Addr}{H:Hp}:Ext K μ H μ H:=⟨λ _ _ h=>h,λ _ _ h=>h,λ _ _ h=>h,λ _ _ h _=>h,λ _ h=>.inl h⟩
theorem Ext.sub {K:Y00}{μ μ1:List Addr}{H H1:Hp}(a:Ext K μ H μ1 H1){x:Addr}(h:x∈μ):x∈μ1:=by
 obtain ⟨n,hn⟩:=Y34 h
 exact Y12 (a.loc n x hn)
theorem Ext.apart {K:Y00}{μ μ1:List Addr}{H H1:Hp}(a:Ext K μ H μ1 H1){x:Addr}{o:HO}(h:H x=some o)(n:x∉μ):x∉μ1:=λ z=>by
 rcases a.new x z with q | q
 ·exact n q
 ·rw [h] at q;cases q
theorem Ext.trans {K:Y00}{μ μ1 μ2:List Addr}{H H1 H2:Hp}(a:Ext K μ H μ1 H1)(b:Ext K μ1 H1 μ2 H2):Ext K μ H μ2 H2:=by
 refine ⟨λ n x h=>b.loc n x (a.loc n x h),λ x y h=>b.tup x y (a.tup x y h),λ x y h=>b.fz x y (a.fz x y h),λ x o h n=>b.oth x o (a.oth x o h n) (a.apart h n),λ x h=>?_⟩
 rcases b.new x h with z | z
 ·exact a.new x z
 ·by_cases hx:x∈μ
  ·exact .inl hx
  ·right
   cases e:H x with
   | none=>rfl
   | some o=>rw [a.oth x o e hx] at z;cases z
mutual
theorem Rep.mono {K:Y00}{μ μ':List Addr}{H H':Hp}(e:Ext K μ H μ' H'):∀ {d:D}{v:V},Rep K μ H d v->Rep K μ' H' d v
 | _,_,.non=>.non
 | _,_,.bl b=>.bl b
 | _,_,.int i=>.int i
 | _,_,.str x=>.str x
 | _,_,.tup h r=>.tup (e.tup _ _ h) (Reps.mono e r)
 | _,_,.loc h=>.loc (e.loc _ _ h)
 | _,_,.fl h r=>.fl (e.fz _ _ h) (Reps.mono e r)
theorem Reps.mono {K:Y00}{μ μ':List Addr}{H H':Hp}(e:Ext K μ H μ' H'):∀ {ds:List D}{vs:List V},Reps K μ H ds vs->Reps K μ' H' ds vs
 | _,_,.nil=>.nil
 | _,_,.cons h r=>.cons (Rep.mono e h) (Reps.mono e r)
end
mutual
theorem Rep.mono' {K:Y00}{μ μ':List Addr}{H:Hp}(e:∀ (n:Nat) a,μ[n]?=some a->μ'[n]?=some a):∀ {d:D}{v:V},Rep K μ H d v->Rep K μ' H d v
 | _,_,.non=>.non
 | _,_,.bl b=>.bl b
 | _,_,.int i=>.int i
 | _,_,.str x=>.str x
 | _,_,.tup h r=>.tup h (Reps.mono' e r)
 | _,_,.loc h=>.loc (e _ _ h)
 | _,_,.fl h r=>.fl h (Reps.mono' e r)
theorem Reps.mono' {K:Y00}{μ μ':List Addr}{H:Hp}(e:∀ (n:Nat) a,μ[n]?=some a->μ'[n]?=some a):∀ {ds:List D}{vs:List V},Reps K μ H ds vs->Reps K μ' H ds vs
 | _,_,.nil=>.nil
 | _,_,.cons h r=>.cons (Rep.mono' e h) (Reps.mono' e r)
end
theorem Reps.length {K:Y00}{μ:List Addr}{H:Hp}:∀ {ds:List D}{vs:List V},Reps K μ H ds vs->ds.length=vs.length
 | _,_,.nil=>rfl
 | _,_,.cons _ r=>by rw [Y06,Y06,r.length]
theorem Reps.get {K:Y00}{μ:List Addr}{H:Hp}:∀ {ds:List D}{vs:List V}{i:Nat}{d:D},Reps K μ H ds vs->ds[i]?=some d->∃ v,vs[i]?=some v/\Rep K μ H d v
 | _,_,_,_,.nil,e=>by simp at e
 | _,_,0,_,.cons h _,e=>by simp at e;subst e;exact ⟨_,rfl,h⟩
 | _,_,i+1,d,.cons _ r,e=>by
  obtain ⟨v,h1,h2⟩:=Reps.get (i:=i) (d:=d) r (by simpa using e)
  exact ⟨v,by simpa using h1,h2⟩
theorem Reps.append {K:Y00}{μ:List Addr}{H:Hp}:∀ {ds es:List D}{vs ws:List V},Reps K μ H ds vs->Reps K μ H es ws->Reps K μ H (ds++es) (vs++ws)
 | _,_,_,_,.nil,r=>r
 | _,_,_,_,.cons h t,r=>.cons h (t.append r)
theorem Reps.atI {K:Y00}{μ:List Addr}{H:Hp}{ds:List D}{vs:List V}{k:Int}{d:D}(r:Reps K μ H ds vs)(e:L2.atI ds k=some d):∃ v,L2.atI vs k=some v/\Rep K μ H d v:=by
 unfold L2.atI at e ⊢
 rw [<- r.length]
 cases h:ixN ds.length k with
 | none=>rw [h] at e;cases e
 | some j =>
  rw [h] at e
  exact r.get e
inductive RepKs (K:Y00)(μ:List Addr)(H:Hp):List (Key×D)->List (Key×V)->Prop
 | nil:RepKs K μ H [] []
 | cons {k:Key}{d:D}{v:V}{ds:List (Key×D)}{vs:List (Key×V)}:Rep K μ H d v->RepKs K μ H ds vs->RepKs K μ H ((k,d)::ds) ((k,v)::vs)
theorem RepKs.mono {K:Y00}{μ μ':List Addr}{H H':Hp}(e:Ext K μ H μ' H'):∀ {ds:List (Key×D)}{vs:List (Key×V)},RepKs K μ H ds vs->RepKs K μ' H' ds vs
 | _,_,.nil=>.nil
 | _,_,.cons h r=>.cons (h.mono e) (r.mono e)
theorem RepKs.length {K:Y00}{μ:List Addr}{H:Hp}:∀ {ds:List (Key×D)}{vs:List (Key×V)},RepKs K μ H ds vs->ds.length=vs.length
 | _,_,.nil=>rfl
 | _,_,.cons _ r=>by rw [Y06,Y06,r.length]
inductive RepFs (K:Y00)(μ:List Addr)(H:Hp):List (Str×D)->List (Str×V)->Prop
 | nil:RepFs K μ H [] []
 | cons {f:Str}{d:D}{v:V}{ds:List (Str×D)}{vs:List (Str×V)}:Rep K μ H d v->RepFs K μ H ds vs->RepFs K μ H ((f,d)::ds) ((f,v)::vs)
theorem RepFs.mono {K:Y00}{μ μ':List Addr}{H H':Hp}(e:Ext K μ H μ' H'):∀ {ds:List (Str×D)}{vs:List (Str×V)},RepFs K μ H ds vs->RepFs K μ' H' ds vs
 | _,_,.nil=>.nil
 | _,_,.cons h r=>.cons (h.mono e) (r.mono e)
theorem RepFs.mono' {K:Y00}{μ μ':List Addr}{H:Hp}(e:∀ (n:Nat) a,μ[n]?=some a->μ'[n]?=some a):∀ {ds:List (Str×D)}{vs:List (Str×V)},RepFs K μ H ds vs->RepFs K μ' H ds vs
 | _,_,.nil=>.nil
 | _,_,.cons h r=>.cons (h.mono' e) (r.mono' e)
theorem RepFs.length {K:Y00}{μ:List Addr}{H:Hp}:∀ {ds:List (Str×D)}{vs:List (Str×V)},RepFs K μ H ds vs->ds.length=vs.length
 | _,_,.nil=>rfl
 | _,_,.cons _ r=>by rw [Y06,Y06,r.length]
theorem RepFs.get {K:Y00}{μ:List Addr}{H:Hp}{f:Str}{d:D}:∀ {ds:List (Str×D)}{vs:List (Str×V)},RepFs K μ H ds vs->ds.lookup f=some d->∃ v,vs.lookup f=some v/\Rep K μ H d v
 | _,_,.nil,e=>by cases e
 | _,_,@RepFs.cons _ _ _ g _ _ _ _ h r,e=>by
  rw [List.lookup] at e ⊢
  cases c:f==g with
  | true=>rw [c] at e;cases e;exact ⟨_,rfl,h⟩
  | false=>rw [c] at e;exact r.get e
theorem RepFs.put {K:Y00}{μ:List Addr}{H:Hp}{f:Str}{d:D}{v:V}(q:Rep K μ H d v):∀ {ds:List (Str×D)}{vs:List (Str×V)},RepFs K μ H ds vs->RepFs K μ H (Q8 f d ds) (wH f v vs)
 | _,_,.nil=>.cons q .nil
 | _,_,@RepFs.cons _ _ _ g _ _ _ _ h r=>by
  rw [Q8,wH]
  by_cases c:g=f
  ·rw [if_pos c,if_pos c];exact .cons q r
  ·rw [if_neg c,if_neg c];exact .cons h (r.put q)
noncomputable def zS:List Str:=["named","clauses","bound","doing","left","standing","record","used","end","tasks","numbers","known","block","held","went","name","kept"]
structure ClsN (K:Y00)(x:Str)(C:Addr):Prop where
 nm:PySem.W.nsIn K mainGlobals x=some (some (.ref C))
 cl:Cls K C
 na:∀ f∈zS,NoAttr K C f
noncomputable def RepO (K:Y00)(μ:List Addr)(H:Hp)(a:Addr):O->Prop
 | .lst ds=>∃ vs,H a=some (.lst vs)/\Reps K μ H ds vs
 | .dK kvs=>∃ vs,H a=some (.dK vs)/\RepKs K μ H kvs vs
 | .obj x fs=>∃ C dx vs,H a=some (.ins C dx vs)/\ClsN K x C/\RepFs K μ H fs vs
theorem RepKs.mono' {K:Y00}{μ μ':List Addr}{H:Hp}(e:∀ (n:Nat) a,μ[n]?=some a->μ'[n]?=some a):∀ {ds:List (Key×D)}{vs:List (Key×V)},RepKs K μ H ds vs->RepKs K μ' H ds vs
 | _,_,.nil=>.nil
 | _,_,.cons h r=>.cons (h.mono' e) (r.mono' e)
theorem RepO.mono' {K:Y00}{μ μ':List Addr}{H:Hp}{a:Addr}{o:O}(e:∀ (n:Nat) a,μ[n]?=some a->μ'[n]?=some a)(r:RepO K μ H a o):RepO K μ' H a o:=by
 cases o with
 | lst ds=>obtain ⟨vs,q,r⟩:=r;exact ⟨vs,q,r.mono' e⟩
 | dK ds=>obtain ⟨vs,q,r⟩:=r;exact ⟨vs,q,r.mono' e⟩
 | obj x fs=>obtain ⟨C,dx,vs,q,c,r⟩:=r;exact ⟨C,dx,vs,q,c,r.mono' e⟩
structure HR (K:Y00)(μ:List Addr)(h:Hh)(H:Hp):Prop where
 len:μ.length=h.length
 inj:∀ (n m:Nat) (a:Addr),μ[n]?=some a->μ[m]?=some a->n=m
 obj:∀ (n:Nat) (a:Addr) (o:O),μ[n]?=some a->h[n]?=some o->RepO K μ H a o
theorem HR.fresh {K:Y00}{μ:List Addr}{h:Hh}{H:Hp}(r:HR K μ h H){p:Addr}(hp:H p=none):p∉μ:=λ z=>by
 obtain ⟨n,hn⟩:=Y34 z
 have hl:n<h.length:=by rw [<- r.len];exact (Y0c.mp hn).1
 have:=r.obj n p h[n] hn (Y02 hl)
 cases e:h[n] with
 | lst ds=>rw [e] at this;obtain ⟨vs,q,_⟩:=this;rw [hp] at q;cases q
 | dK ds=>rw [e] at this;obtain ⟨vs,q,_⟩:=this;rw [hp] at q;cases q
 | obj x fs=>rw [e] at this;obtain ⟨C,dx,vs,q,_⟩:=this;rw [hp] at q;cases q
theorem zp {K:Y00}{μ:List Addr}{H:Hp}{p:Addr}{u:HO}(hp:H p=none):Ext K μ H μ (upd H p u) :=
 ⟨λ _ _ h=>h,λ a xs h=>by
  rcases h with h | h
  ·left
   rcases h with h | ⟨o,h⟩
   ·exact .inl (by rw [zq (λ z=>by rw [z,hp] at h;cases h)];exact h)
   ·exact .inr ⟨o,by rw [zq (λ z=>by rw [z,hp] at h;cases h)];exact h⟩
  ·exact .inr h,λ a xs h=>by
  rcases h with ⟨o,h⟩ | h
  ·exact .inl ⟨o,by rw [zq (λ z=>by rw [z,hp] at h;cases h)];exact h⟩
  ·exact .inr h,λ a o h _=>by rw [zq (λ z=>by rw [z,hp] at h;cases h)];exact h,λ _ h=>.inl h⟩
theorem Ext.add {K:Y00}{μ μ':List Addr}{H H':Hp}{p:Addr}(e:Ext K μ H μ' H')(hp:H p=none):Ext K μ H (μ'++[p]) H' :=
 ⟨λ n a h=>by rw [Y0x (Y0c.mp (e.loc n a h)).1];exact e.loc n a h,e.tup,e.fz,e.oth,
  λ a h=>by
   rcases Y2b.mp h with h | h
   ·exact e.new a h
   ·rw [Y0m.mp h];exact .inr hp⟩
theorem RepO.keep {K:Y00}{μ μ':List Addr}{H H':Hp}{a:Addr}{o:O}(e:Ext K μ H μ' H')(k:∀ u,H a=some u->H' a=some u)(r:RepO K μ H a o):RepO K μ' H' a o:=by
 cases o with
 | lst ds=>obtain ⟨vs,q,r⟩:=r;exact ⟨vs,k _ q,r.mono e⟩
 | dK ds=>obtain ⟨vs,q,r⟩:=r;exact ⟨vs,k _ q,r.mono e⟩
 | obj x fs=>obtain ⟨C,dx,vs,q,c,r⟩:=r;exact ⟨C,dx,vs,k _ q,c,r.mono e⟩
theorem Gi {H:Hp}{p a:Addr}{u w:HO}(hp:H p=none)(h:H a=some w):upd H p u a=some w:=by
 rw [zq (λ z=>by rw [z,hp] at h;cases h)];exact h
theorem HR.tup {K:Y00}{μ:List Addr}{h:Hh}{H:Hp}{p:Addr}{u:HO}(r:HR K μ h H)(hp:H p=none):HR K μ h (upd H p u) :=
 ⟨r.len,r.inj,λ n a o e1 e2=>(r.obj n a o e1 e2).keep (zp hp) λ _ q=>Gi hp q⟩
theorem HR.add {K:Y00}{μ:List Addr}{h:Hh}{H:Hp}{p:Addr}{o:O}(r:HR K μ h H)(hp:p∉μ)(q:∀ μ',(∀ (n:Nat) a,μ[n]?=some a->μ'[n]?=some a)->RepO K μ' H p o):HR K (μ++[p]) (h++[o]) H:=by
 have gr:∀ (n:Nat) a,μ[n]?=some a->(μ++[p])[n]?=some a:=λ n a e=>by rw [Y0x (Y0c.mp e).1];exact e
 refine ⟨by rw [Y0u,Y0u,r.len];rfl,λ n m a e1 e2=>?_,λ n a o1 e1 e2=>?_⟩
 ·have key:∀ (n:Nat) (a:Addr),(μ++[p])[n]?=some a->(n<μ.length/\μ[n]?=some a)\/(n=μ.length/\a=p):=λ n a e=>by
   by_cases hn:n<μ.length
   ·rw [Y0x hn] at e;exact .inl ⟨hn,e⟩
   ·right
    rw [Y08 (by omega)] at e
    have:n-μ.length=0:=by
     cases q:n-μ.length with
     | zero=>rfl
     | succ z=>rw [q] at e;simp at e
    rw [this] at e
    simp at e
    exact ⟨by omega,e.symm⟩
  rcases key n a e1 with ⟨hn,q1⟩ | ⟨hn,q1⟩<;>rcases key m a e2 with ⟨hm,q2⟩ | ⟨hm,q2⟩
  ·exact r.inj n m a q1 q2
  ·exact absurd (Y12 q1) (q2▸hp)
  ·exact absurd (Y12 q2) (q1▸hp)
  ·omega
 ·by_cases hn:n<μ.length
  ·rw [Y0x hn] at e1
   rw [Y0x (by rw [<- r.len];exact hn)] at e2
   exact (r.obj n a o1 e1 e2).mono' gr
  ·rw [Y08 (by omega)] at e1
   have hz:n-μ.length=0:=by
    cases z:n-μ.length with
    | zero=>rfl
    | succ y=>rw [z] at e1;simp at e1
   rw [hz] at e1
   simp at e1
   subst e1
   rw [Y08 (by rw [<- r.len];omega),<- r.len,hz] at e2
   simp at e2
   subst e2
   exact q _ gr
theorem HR.alloc {K:Y00}{μ:List Addr}{h:Hh}{H:Hp}{p:Addr}{u:HO}{o:O}(r:HR K μ h H)(hp:H p=none)(hm:p∉μ)(q:∀ μ',(∀ (n:Nat) a,μ[n]?=some a->μ'[n]?=some a)->RepO K μ' (upd H p u) p o):HR K (μ++[p]) (h++[o]) (upd H p u) :=
 (r.tup hp).add hm q
theorem HR.chg {K:Y00}{μ:List Addr}{h:Hh}{H:Hp}{n:Nat}{a:Addr}{o o':O}{u:HO}(r:HR K μ h H)(hn:h[n]?=some o)(ha:μ[n]?=some a)
  (q:∀ H',Ext K μ H μ H'->H' a=some u->RepO K μ H' a o'):HR K μ (h.set n o') (upd H a u)/\Ext K μ H μ (upd H a u):=by
 obtain ⟨w,hw,nt,nf⟩:∃ w,H a=some w/\(∀ xs,w≠.tup xs)/\∀ o x,w≠.frz o x:=by
  have z:=r.obj n a o ha hn
  cases o with
  | lst ds=>obtain ⟨vs,e,_⟩:=z;exact ⟨_,e,λ _ y=>(nomatch y),λ _ _ y=>(nomatch y)⟩
  | dK ds=>obtain ⟨vs,e,_⟩:=z;exact ⟨_,e,λ _ y=>(nomatch y),λ _ _ y=>(nomatch y)⟩
  | obj x fs=>obtain ⟨C,dx,vs,e,_⟩:=z;exact ⟨_,e,λ _ y=>(nomatch y),λ _ _ y=>(nomatch y)⟩
 have ht:∀ b xs,SqT K H b xs->SqT K (upd H a u) b xs:=λ b xs z=>by
  rcases z with z | z
  ·left
   rcases z with z | ⟨ob,z⟩
   ·exact .inl (by rw [zq (λ y=>by rw [y,hw] at z;exact nt _ (Option.some.inj z))];exact z)
   ·exact .inr ⟨ob,by rw [zq (λ y=>by rw [y,hw] at z;exact nf _ _ (Option.some.inj z))];exact z⟩
  ·exact .inr z
 have hf:∀ b xs,Fz K H b xs->Fz K (upd H a u) b xs:=λ b xs z=>by
  rcases z with ⟨ob,z⟩ | z
  ·exact .inl ⟨ob,by rw [zq (λ y=>by rw [y,hw] at z;exact nf _ _ (Option.some.inj z))];exact z⟩
  ·exact .inr z
 have ex:Ext K μ H μ (upd H a u):=⟨λ _ _ z=>z,ht,hf,λ b v e z=>by rw [zq (λ (y:b=a)=>z (by rw [y];exact Y12 ha))];exact e,λ _ z=>.inl z⟩
 have hl:n<h.length:=(Y0c.mp hn).1
 refine ⟨⟨by rw [Y0n];exact r.len,r.inj,λ m b v e1 e2=>?_⟩,ex⟩
 by_cases hmn:m=n
 ·subst hmn
  rw [Y0r hl] at e2
  cases e2
  rw [ha] at e1
  cases e1
  exact q _ ex zx
 ·rw [Y15 (Ne.symm hmn)] at e2
  have nb:b≠a:=λ y=>hmn (r.inj m n a (y▸e1) ha)
  exact (r.obj m b v e1 e2).keep ex λ _ g=>by rw [zq nb];exact g
structure ER (K:Y00)(μ:List Addr)(ρ:En)(σ:St)(H:Hp):Prop where
 len:ρ.length=σ.length
 val:∀ (i:Nat) d,ρ[i]?=some (some d)->∃ v,σ[i]?=some (some v)/\Rep K μ H d v
theorem ER.mono {K:Y00}{μ μ':List Addr}{H H':Hp}{ρ:En}{σ:St}(r:ER K μ ρ σ H)(e:Ext K μ H μ' H'):ER K μ' ρ σ H' :=
 ⟨r.len,λ i d h=>let ⟨v,a,b⟩:=r.val i d h;⟨v,a,b.mono e⟩⟩
theorem ER.set {K:Y00}{μ:List Addr}{H:Hp}{ρ:En}{σ:St}{d:D}{v:V}(r:ER K μ ρ σ H)(q:Rep K μ H d v)(i:Nat):ER K μ (ρ.set i (some d)) (σ.set i (some v)) H:=by
 refine ⟨by rw [Y0n,Y0n,r.len],λ j e hj=>?_⟩
 by_cases hij:i=j
 ·subst hij
  rw [List.getElem?_set] at hj ⊢
  have hl:i<ρ.length:=by
   by_cases hl:i<ρ.length
   ·exact hl
   ·rw [if_pos rfl,if_neg hl] at hj;cases hj
  rw [if_pos rfl,if_pos hl] at hj
  rw [if_pos rfl,if_pos (by rw [<- r.len];exact hl)]
  cases hj
  exact ⟨v,rfl,q⟩
 ·rw [Y15 hij] at hj ⊢
  exact r.val j e hj
noncomputable def PostE {α β:Type}(K:Y00)(cv:Nat->Value)(R:List Addr->Hp->α->β->Prop)(μ:List Addr)(H:Hp)(r:Res α)(Q:β->Hp->Prop)(Z:Value->Hp->Prop):Prop :=
 match r with
 | .ok d h'=>∀ μ' H' v,Ext K μ H μ' H'->HR K μ' h' H'->R μ' H' d v->Q v H'
 | .exc c h'=>∀ μ' H',Ext K μ H μ' H'->HR K μ' h' H'->Z (cv c) H'
 | .no=>False
noncomputable def zt {α β:Type}(K:Y00)(cv:Nat->Value)(R:List Addr->Hp->α->β->Prop)(Z:ZK)(m:En->Hh->Res α):St->Hp->(β->Hp->Prop)->Prop :=
 λ σ H Q=>∃ μ ρ h,HR K μ h H/\ER K μ ρ σ H/\PostE K cv R μ H (m ρ h) Q (Z σ)
theorem zb {α β:Type}{K:Y00}{cv:Nat->Value}{R:List Addr->Hp->α->β->Prop}{Z:ZK}{m:En->Hh->Res α}{σ:St}{H:Hp}{Q:β->Hp->Prop}{G:Prop}(f:∀ μ ρ h,HR K μ h H->ER K μ ρ σ H->PostE K cv R μ H (m ρ h) Q (Z σ)->G)(x:zt K cv R Z m σ H Q):G:=by
 obtain ⟨μ,ρ,h,hr,er,q⟩:=x
 exact f μ ρ h hr er q
theorem zc {α β γ δ:Type}{K:Y00}{cv:Nat->Value}{R:List Addr->Hp->α->β->Prop}{R':List Addr->Hp->γ->δ->Prop}{μ:List Addr}{ρ:En}{h:Hh}{σ:St}{H:Hp}{Z:ZK}{m:En->Hh->Res α}{f:α->Hh->Res γ}{Q:δ->Hp->Prop}{Q':β->Hp->Prop}
  (hr:HR K μ h H) (er:ER K μ ρ σ H) (p:PostE K cv R' μ H ((m ρ h).bind f) Q (Z σ))
  (go:∀ a h1 μ1 H1 x,m ρ h=.ok a h1->Ext K μ H μ1 H1->HR K μ1 h1 H1->ER K μ1 ρ σ H1->R μ1 H1 a x->PostE K cv R' μ1 H1 (f a h1) Q (Z σ)->Q' x H1) :
  zt K cv R Z m σ H Q':=by
 refine ⟨μ,ρ,h,hr,er,?_⟩
 cases e:m ρ h with
 | ok a h1 =>
  rw [e,bind_ok] at p
  intro μ1 H1 x e1 r1 q1
  refine go a h1 μ1 H1 x e e1 r1 (er.mono e1) q1 ?_
  unfold PostE at p ⊢
  cases e2:f a h1 with
  | ok b h2=>rw [e2] at p;exact λ μ2 H2 v e3 r3 q3=>p μ2 H2 v (e1.trans e3) r3 q3
  | exc c h2=>rw [e2] at p;exact λ μ2 H2 e3 r3=>p μ2 H2 (e1.trans e3) r3
  | no=>rw [e2] at p;exact p
 | exc c h1=>rw [e,bind_exc] at p;exact p
 | no=>rw [e,bind_no] at p;exact p
theorem PostE.here {α β:Type}{K:Y00}{cv:Nat->Value}{R:List Addr->Hp->α->β->Prop}{μ:List Addr}{H:Hp}{d:α}{h:Hh}{v:β}{Q:β->Hp->Prop}{Z:Value->Hp->Prop}(p:PostE K cv R μ H (.ok d h) Q Z)(hr:HR K μ h H)(r:R μ H d v):Q v H :=
 p μ H v Ext.refl hr r
end PI
namespace PI
open PySem L2 PySem.Spec
open PyProof.Rows hiding St
section
variable {X:Cx}{pins:List (Addr×Obj)}{σ:St}{H:Hp}{s:Shared}{μ:List Addr}{h:Hh}
mutual
theorem jQ (I:Inv X pins σ H s):∀ {d:D}{v:V}{u:Value}{p:PyData},Rep X.K μ H d v->RelV v u->D.pd h d=some p->∃ as,Reads s.heap u p as
 | .non,_,_,_,r,q,e=>by cases r;cases q;cases e;exact ⟨_,.none⟩
 | .bl b,_,_,_,r,q,e=>by cases r;cases q;cases e;exact ⟨_,.bool b⟩
 | .int i,_,_,_,r,q,e=>by cases r;obtain ⟨t,rfl⟩:=q;cases e;exact ⟨_,.int i t⟩
 | .str x,_,_,_,r,q,e=>by cases r;obtain ⟨t,rfl⟩:=q;cases e;exact ⟨_,.str x t⟩
 | .tup ds,_,_,_,r,q,e=>by
  cases r with
  | tup hs rs =>
   cases q
   unfold D.pd at e
   cases e1:D.pds h ds with
   | none=>rw [e1] at e;cases e
   | some ps =>
    rw [e1] at e;cases e
    obtain ⟨its,rv,⟨o,g1,g2,n,g3⟩,_⟩:=I.tuple hs
    obtain ⟨as,ra⟩:=readsAll_of I rs rv e1
    exact ⟨_,.tuple g1 g2 g3 (by simpa using ra)⟩
 | .loc n,_,_,_,r,q,e=>by cases e
 | .fl ds,_,_,_,r,q,e=>by
  cases r with
  | fl hs rs =>
   cases q
   unfold D.pd at e
   cases e1:D.pds h ds with
   | none=>rw [e1] at e;cases e
   | some ps =>
    rw [e1] at e;cases e
    obtain ⟨its,rv,⟨o,n,g1,g2,_,g3⟩,_⟩:=I.list hs.sq
    obtain ⟨as,ra⟩:=readsAll_of I rs rv e1
    exact ⟨_,.list g1 g2 g3 (by simpa using ra)⟩
theorem readsAll_of (I:Inv X pins σ H s):∀ {ds:List D}{vs:List V}{us:List Value}{ps:List PyData},Reps X.K μ H ds vs->Vals vs us->D.pds h ds=some ps->∃ as,ReadsAll s.heap us ps as
 | [],_,_,_,r,q,e=>by cases r;cases q;cases e;exact ⟨_,.nil⟩
 | d::ds,_,_,_,r,q,e=>by
  cases r with
  | cons r1 r2 =>
   cases q with
   | cons q1 q2 =>
    unfold D.pds at e
    cases e1:D.pd h d with
    | none=>rw [e1] at e;cases e
    | some p =>
     cases e2:D.pds h ds with
     | none=>rw [e1,e2] at e;cases e
     | some ps =>
      rw [e1,e2] at e;cases e
      obtain ⟨as,ra⟩:=jQ I r1 q1 e1
      obtain ⟨bs,rb⟩:=readsAll_of I r2 q2 e2
      exact ⟨_,.cons ra rb⟩
end
theorem HR.rd (hr:HR X.K μ h H){n:Nat}{ds:List D}(e:rd h n=some ds){a:Addr}(m:μ[n]?=some a):∃ vs,SqL X.K H a vs/\Reps X.K μ H ds vs:=by
 unfold PI.rd at e
 cases e1:h[n]? with
 | none=>rw [e1] at e;cases e
 | some o =>
  rw [e1] at e
  have q:=hr.obj n a o m e1
  cases o with
  | lst xs=>cases e;obtain ⟨vs,q1,q2⟩:=q;exact ⟨vs,SqL.of q1,q2⟩
  | dK xs=>cases e
  | obj _ _=>cases e
theorem qx (I:Inv X pins σ H s)(hr:HR X.K μ h H){d:D}{v:V}{u:Value}{p:PyData}(r:Rep X.K μ H d v)(q:RelV v u)(e:pdT h d=some p):∃ as,Reads s.heap u p as:=by
 cases d with
 | loc n =>
  cases r with
  | loc m =>
   cases q
   rw [pdT_loc] at e
   cases e1:rd h n with
   | none=>rw [e1] at e;cases e
   | some ds =>
    rw [e1] at e
    cases e2:D.pds h ds with
    | none=>rw [show (some ds).bind (λ xs=>(D.pds h xs).map PyData.list)=(D.pds h ds).map PyData.list from rfl,e2] at e;cases e
    | some ps =>
     rw [show (some ds).bind (λ xs=>(D.pds h xs).map PyData.list)=(D.pds h ds).map PyData.list from rfl,e2] at e;cases e
     obtain ⟨vs,hs,rs⟩:=hr.rd e1 m
     obtain ⟨its,rv,⟨o,n',g1,g2,_,g3⟩,_⟩:=I.list hs
     obtain ⟨as,ra⟩:=readsAll_of I rs rv e2
     exact ⟨_,.list g1 g2 g3 (by simpa using ra)⟩
 | non=>exact jQ (h:=h) I r q e
 | bl b=>exact jQ (h:=h) I r q e
 | int i=>exact jQ (h:=h) I r q e
 | str x=>exact jQ (h:=h) I r q e
 | tup ds=>exact jQ (h:=h) I r q e
 | fl ds=>exact jQ (h:=h) I r q e
end
theorem y7 {n:Nat}(h:n<=1000000):n<=sizeLine:=by rw [sizeLine_eq];omega
theorem U0 {n:Nat}(h:n<1000000):n<sizeLine:=by rw [sizeLine_eq];omega
section
variable {X:Cx}{cv:Nat->Value}
noncomputable def r2 (K:Y00)(cv:Nat->Value)(f:D->D->Hh->Res D):R2:=λ x y H Q=>∃ μ h a b Z,HR K μ h H/\Rep K μ H a x/\Rep K μ H b y/\PostE K cv (Rep K) μ H (f a b h) Q Z
noncomputable def r1 (K:Y00)(cv:Nat->Value)(f:D->Hh->Res D):V->Hp->VK->Prop:=λ x H Q=>∃ μ h a Z,HR K μ h H/\Rep K μ H a x/\PostE K cv (Rep K) μ H (f a h) Q Z
theorem B6:OpR X (binaryOp .Mult) (rI (λ i j=>Builtin.Int.intBits i<=2 ^ 20/\Builtin.Int.intBits j<=2 ^ 20) λ i j=>.int (i*j)):=opI λ _ _ _ _ _ _ _ hc q=>mul_int q (IntMulOk.of_bits hc.1 hc.2)
theorem B7:OpR X (binaryOp .LShift) (rI (λ i j=>Builtin.Int.intBits i<=2 ^ 20/\0<=j/\j<=1000000) λ i j=>.int (i*2 ^ j.toNat)):=opI λ _ _ _ _ _ _ _ hc q=>lshift_int hc.2.1 (by have:=hc.1;have:=hc.2.2;omega) q
theorem z27 {x:Str}{j:Int}(h:0<=j/\j<=1000/\x.length<=1000):MulOk x j:=by
 obtain ⟨h0,h1,h2⟩:=h
 refine ⟨by simp;omega,λ a b c=>?_,λ a b=>?_⟩
 ·have hj:1<=j:=by omega
  have:(2 ^ 63-1)/1000<=(2 ^ 63-1:Int)/j:=Int.le_ediv_of_mul_le (by omega) (by
   have:((2 ^ 63-1)/1000:Int)*j<=((2 ^ 63-1)/1000)*1000:=Int.mul_le_mul_of_nonneg_left h1 (by decide)
   have e:(((2 ^ 63-1)/1000:Int)*1000)<=2 ^ 63-1:=by decide
   omega)
  have e:(1000:Int)<(2 ^ 63-1)/1000:=by decide
  omega
 ·have hm:x.length*j.toNat<=1000*1000:=Nat.mul_le_mul h2 (by omega)
  unfold PySem.Builtin.Str.tooLong
  exact decide_eq_false (by rw [sizeLine_eq];omega)
theorem B8:OpR X (binaryOp .Mult) (λ x y H Q=>∃ z j,x=.str z/\y=.int j/\(0<=j/\j<=1000/\z.length<=1000)/\Q (.str (Txt.mul z j)) H):=by
 intro pins s σ H x y v u Q I rx ry h
 obtain ⟨z,j,rfl,rfl,hc,q⟩:=h
 obtain ⟨t,rfl⟩:=rx
 obtain ⟨t',rfl⟩:=ry
 exact SB.mul (z27 hc) λ t' k=>⟨.str _,H,I.tok _,⟨_,rfl⟩,q⟩
theorem Qb (t b:Addr)(xs ys:Array Value)(n m:Nat)(d1 d2:Option Addr)(s1 s2:Array (Option Value))(h0:xs.isEmpty=true) :
  Meets (Builtin.«tuple.__add__» ⟨[.ref t,.ref b],[]⟩) (λ _ R s =>
   s.heap.get? t=some ⟨.type "tuple",d1,.seq xs n,s1⟩ /\
   s.heap.get? b=some ⟨.type "tuple",d2,.seq ys m,s2⟩ /\
   R (.ok (.ret (Value.ref b))) s) :=
 .of_wp λ prog w A R s h=>by
  obtain ⟨hp,g,d,tk,os⟩:=s
  obtain ⟨hl,hb,h⟩:=h
  have f1:=AutoSeq1.idx_int
  have f2:=AutoSeq1.sub_list_tuple
  have f3:=AutoSeq1.sub_tuple_list
  have f4:=AutoSeq1.sub_tuple_tuple
  have f5:=AutoSeq1.sub_list_list
  wp_walk using AutoSeq1.wpAny_loadPart' hl,AutoSeq1.wpAny_loadPart' hb
  exact ⟨_,rfl,h⟩
theorem B9 {A:Around}{E:Value->Shared->Prop}{prog:Program}{w:World}{s:Shared}{t b:Addr}{vs ws:List Value}{Q:Value->Shared->Prop}(ht:IsTup s.heap t vs.toArray)(hb:IsTup s.heap b ws.toArray)(hv:vs=[])(h1:Q (.ref b) s) :
  wpAny (model prog w) A (binaryOp .Add (.ref t) (.ref b)) Q E s:=by
 obtain ⟨⟨cls,dd,data,sl⟩,ho,hc,n,hd⟩:=id ht
 obtain ⟨⟨cls2,dd2,data2,sl2⟩,ho2,hc2,n2,hd2⟩:=id hb
 simp only at hc hd hc2 hd2
 subst hc hd hc2 hd2
 exact concat_meets ⟨_,ho,rfl⟩ ⟨_,ho2,rfl⟩ noFill_tuple_add seq_tuple_add Y2v Y2o (Y2m _ _) (Qb t b vs.toArray ws.toArray n n2 dd dd2 sl sl2 (by simp [hv])) ⟨ho,ho2,h1⟩
theorem Reps.rep {K:Y00}{μ:List Addr}{H:Hp}{ds:List D}{vs:List V}(r:Reps K μ H ds vs):∀ k:Nat,Reps K μ H (List.replicate k ds).flatten (List.replicate k vs).flatten
 | 0=>.nil
 | k+1=>by rw [Y1i,Y1i,Y21,Y21];exact r.append (Reps.rep r k)
section
variable {K:Y00}{μ:List Addr}{H:Hp}{Q:VK}{Z:Value->Hp->Prop}
theorem j2 {c:Prop}[Decidable c]{r:Res D}{G:Prop}(p:PostE K cv (Rep K) μ H (if c then r else .no) Q Z)(f:c->PostE K cv (Rep K) μ H r Q Z->G):G:=by
 by_cases hc:c
 ·rw [if_pos hc] at p;exact f hc p
 ·rw [if_neg hc] at p;exact p.elim
theorem j3 {a b:D}{x y:V}{g:Int->Int->Res D}{G:Prop}(ra:Rep K μ H a x)(rb:Rep K μ H b y)(p:PostE K cv (Rep K) μ H (i2 a b g) Q Z)(f:∀ i j,x=.int i->y=.int j->PostE K cv (Rep K) μ H (g i j) Q Z->G):G:=by
 cases a with
 | int i =>
  cases b with
  | int j=>cases ra;cases rb;exact f i j rfl rfl p
  | _=>exact p.elim
 | _=>exact p.elim
theorem Qc {neg:Bool}{u v:Option PyData}{h:Hh}{G:Prop}(p:PostE K cv (Rep K) μ H (eqR neg u v h) Q Z)(f:∀ pu pv,u=some pu->v=some pv->pu.canLay0=true->pv.canLay0=true->pu.depth<=60->PostE K cv (Rep K) μ H (.ok (.bl (if neg then !PyData.eqv pu pv else PyData.eqv pu pv)) h) Q Z->G):G:=by
 cases u with
 | none=>exact p.elim
 | some pu =>
  cases v with
  | none=>exact p.elim
  | some pv=>exact j2 p λ c q=>f pu pv rfl rfl c.1 c.2.1 c.2.2 q
end
theorem Ba:OpR X (binaryOp .Add) (r2 X.K cv z42):=by
 intro pins s σ H x y v u Q I rx ry hh
 obtain ⟨μ,h,a,b,Z,hr,ra,rb,p⟩:=hh
 cases a with
 | int i =>
  cases b with
  | int j=>cases ra;cases rb;exact z1a pins s σ H _ _ v u Q I rx ry ⟨_,_,rfl,rfl,p.here hr (.int _)⟩
  | _=>exact p.elim
 | str i =>
  cases b with
  | str j=>cases ra;cases rb;exact j2 p λ c p=>QG pins s σ H _ _ v u Q I rx ry ⟨_,_,rfl,rfl,y7 c,p.here hr (.str _)⟩
  | _=>exact p.elim
 | loc n =>
  cases b with
  | loc m =>
   cases ra with
   | loc ma =>
    cases rb with
    | loc mb =>
     have p:PostE X.K cv (Rep X.K) μ H (match h[n]?,h[m]? with
      | some (.lst xs),some (.lst ys)=>if xs.length+ys.length<=1000000 then .ok (.loc h.length) (h++[.lst (xs++ys)]) else .no
      | _,_=>.no) Q Z:=p
     cases e1:h[n]? with
     | none=>rw [e1] at p;exact p.elim
     | some o1 =>
      cases e2:h[m]? with
      | none=>rw [e1,e2] at p;cases o1<;>exact p.elim
      | some o2 =>
       rw [e1,e2] at p
       cases o1 with
       | dK k=>exact p.elim
       | obj _ _=>exact p.elim
       | lst xs =>
        cases o2 with
        | dK k=>exact p.elim
        | obj _ _=>exact p.elim
        | lst ys =>
         refine j2 p λ c p=>?_
         obtain ⟨va,ha,qa⟩:=hr.obj n _ _ ma e1
         obtain ⟨vb,hb,qb⟩:=hr.obj m _ _ mb e2
         refine z1r pins s σ H _ _ v u Q I rx ry ⟨_,_,_,_,rfl,rfl,ha,hb,by rw [<- qa.length,<- qb.length];exact y7 c,λ b hb=>?_⟩
         have nb:b∉μ:=hr.fresh hb
         refine p _ _ _ ((zp hb).add hb) (hr.alloc hb nb λ μ' g=>⟨_,zx,((qa.append qb).mono (zp hb)).mono' g⟩) (.loc ?_)
         rw [<- hr.len,Y08 (Y03 _),Y0w]
         rfl
  | _=>exact p.elim
 | tup ds =>
  cases b with
  | tup es =>
   refine j2 p λ c p=>?_
   cases ra with
   | @tup _ vs a h1 r1 =>
    cases rb with
    | @tup _ ws b h2 r2 =>
     by_cases hv:vs=[]
     ·subst hv
      cases r1
      cases rx
      cases ry
      obtain ⟨its,q1,p1,_⟩:=I.tuple h1
      obtain ⟨its2,q2,p2,_⟩:=I.tuple h2
      cases q1
      exact B9 p1 p2 rfl ⟨.ref b,H,I,rfl,p.here hr (.tup h2 r2)⟩
     ·refine OF pins s σ H _ _ v u Q I rx ry ⟨a,b,vs,ws,rfl,rfl,h1,h2,hv,by rw [<- r1.length,<- r2.length];exact y7 c,λ hz=>?_,λ _ l hl=>?_⟩
      ·subst hz
       cases r2
       rw [Y0z] at p
       exact p.here hr (.tup h1 r1)
      ·exact p μ _ _ (zp hl) (hr.tup hl) (.tup (SqT.of zx) ((r1.append r2).mono (zp hl)))
  | _=>exact p.elim
 | _=>exact p.elim
theorem Bb:OpR X (binaryOp .Mult) (r2 X.K cv z43):=by
 intro pins s σ H x y v u Q I rx ry hh
 obtain ⟨μ,h,a,b,Z,hr,ra,rb,p⟩:=hh
 cases b with
 | int j =>
  cases rb
  cases a with
  | int i=>cases ra;exact j2 p λ c p=>B6 pins s σ H _ _ v u Q I rx ry ⟨_,_,rfl,rfl,⟨of_decide_eq_true c.1,of_decide_eq_true c.2⟩,p.here hr (.int _)⟩
  | str z=>cases ra;exact j2 p λ c p=>B8 pins s σ H _ _ v u Q I rx ry ⟨_,_,rfl,rfl,c,p.here hr (.str _)⟩
  | loc n =>
   cases ra with
   | loc ma =>
    have p:PostE X.K cv (Rep X.K) μ H (match h[n]? with
     | some (.lst xs)=>if 0<=j/\j<=1000/\xs.length<=1000 then .ok (.loc h.length) (h++[.lst (List.replicate j.toNat xs).flatten]) else .no
     | _=>.no) Q Z:=p
    cases e1:h[n]? with
    | none=>rw [e1] at p;exact p.elim
    | some o1 =>
     rw [e1] at p
     cases o1 with
     | dK k=>exact p.elim
     | obj _ _=>exact p.elim
     | lst xs =>
      refine j2 p λ c p=>?_
      obtain ⟨va,ha,qa⟩:=hr.obj n _ _ ma e1
      refine z1s pins s σ H _ _ v u Q I rx ry ⟨_,_,va,rfl,rfl,ha,by omega,by omega,?_,λ b hb=>?_⟩
      ·have hm:va.length*j.toNat<=1000*1000:=Nat.mul_le_mul (by rw [<- qa.length];exact c.2.2) (by omega)
       rw [sizeLine_eq];omega
      ·have nb:b∉μ:=hr.fresh hb
       refine p _ _ _ ((zp hb).add hb) (hr.alloc hb nb λ μ' g=>⟨_,zx,((qa.rep j.toNat).mono (zp hb)).mono' g⟩) (.loc ?_)
       rw [<- hr.len,Y08 (Y03 _),Y0w]
       rfl
  | _=>exact p.elim
 | _=>exact p.elim
theorem z28 (op:Operator):OpR X (binaryOp op) (r2 X.K cv (wc op)):=by
 cases op with
 | Add=>exact Ba
 | Mult=>exact Bb
 | Sub =>
  intro pins s σ H x y v u Q I rx ry q0
  obtain ⟨μ,h,a,b,Z,hr,ra,rb,p⟩:=q0
  exact j3 ra rb p λ i j ex ey p=>z1b pins s σ H _ _ v u Q I rx ry ⟨i,j,ex,ey,p.here hr (.int _)⟩
 | FloorDiv =>
  intro pins s σ H x y v u Q I rx ry q0
  obtain ⟨μ,h,a,b,Z,hr,ra,rb,p⟩:=q0
  exact j3 ra rb p λ i j ex ey p=>j2 p λ c p=>Oy pins s σ H _ _ v u Q I rx ry ⟨i,j,ex,ey,c,p.here hr (.int _)⟩
 | Mod =>
  intro pins s σ H x y v u Q I rx ry q0
  obtain ⟨μ,h,a,b,Z,hr,ra,rb,p⟩:=q0
  exact j3 ra rb p λ i j ex ey p=>j2 p λ c p=>z1c pins s σ H _ _ v u Q I rx ry ⟨i,j,ex,ey,c,p.here hr (.int _)⟩
 | Pow =>
  intro pins s σ H x y v u Q I rx ry q0
  obtain ⟨μ,h,a,b,Z,hr,ra,rb,p⟩:=q0
  exact j3 ra rb p λ i j ex ey p=>j2 p λ c p=>z1d pins s σ H _ _ v u Q I rx ry ⟨i,j,ex,ey,c,p.here hr (.int _)⟩
 | LShift =>
  intro pins s σ H x y v u Q I rx ry q0
  obtain ⟨μ,h,a,b,Z,hr,ra,rb,p⟩:=q0
  exact j3 ra rb p λ i j ex ey p=>j2 p λ c p=>B7 pins s σ H _ _ v u Q I rx ry ⟨i,j,ex,ey,⟨of_decide_eq_true c.1,c.2⟩,p.here hr (.int _)⟩
 | RShift =>
  intro pins s σ H x y v u Q I rx ry q0
  obtain ⟨μ,h,a,b,Z,hr,ra,rb,p⟩:=q0
  exact j3 ra rb p λ i j ex ey p=>j2 p λ c p=>z1e pins s σ H _ _ v u Q I rx ry ⟨i,j,ex,ey,c,p.here hr (.int _)⟩
 | BitAnd =>
  intro pins s σ H x y v u Q I rx ry q0
  obtain ⟨μ,h,a,b,Z,hr,ra,rb,p⟩:=q0
  exact j3 ra rb p λ i j ex ey p=>z1f pins s σ H _ _ v u Q I rx ry ⟨i,j,ex,ey,p.here hr (.int _)⟩
 | BitOr =>
  intro pins s σ H x y v u Q I rx ry q0
  obtain ⟨μ,h,a,b,Z,hr,ra,rb,p⟩:=q0
  exact j3 ra rb p λ i j ex ey p=>z3o pins s σ H _ _ v u Q I rx ry ⟨i,j,ex,ey,p.here hr (.int _)⟩
 | _ =>
  intro pins s σ H x y v u Q I rx ry q0
  obtain ⟨μ,h,a,b,Z,hr,ra,rb,p⟩:=q0
  exact p.elim
theorem ZE {K:Y00}{μ:List Addr}{H:Hp}{d:D}{v:V}(r:Rep K μ H d v)(f:jW d=true):v=vOf d/\ji v=true:=by
 cases r with
 | non=>exact ⟨rfl,rfl⟩
 | bl b=>exact ⟨rfl,rfl⟩
 | int i=>exact ⟨rfl,rfl⟩
 | str x=>exact ⟨rfl,rfl⟩
 | _=>cases f
theorem yv {K:Y00}{μ:List Addr}{H:Hp}:∀ {ds:List D}{vs:List V},Reps K μ H ds vs->ds.all jW=true->vs=ds.map vOf/\vs.all ji=true
 | _,_,.nil,_=>⟨rfl,rfl⟩
 | _,_,.cons r t,f=>by
  rw [Y2q,Y0o] at f
  obtain ⟨rfl,f1⟩:=ZE r f.1
  obtain ⟨rfl,f2⟩:=yv t f.2
  exact ⟨rfl,by rw [Y2q,f1,f2];rfl⟩
theorem z68 (x:D)(ds:List D):inV (vOf x) (ds.map vOf)=ds.any λ y=>eqV (vOf y) (vOf x):=by unfold inV;rw [List.any_map];rfl
theorem ZF {K:Y00}{μ:List Addr}{H:Hp}:∀ {ds:List D}{vs:List V},Reps K μ H ds vs->ds.all z02=true->(∀ v∈vs,ji v=true\/∃ a ts,v=.ref a/\SqT K H a ts)/\ds.any isN=vs.any Zy
 | _,_,.nil,_=>⟨λ v hv=>(nomatch hv),rfl⟩
 | d::ds,v::vs,.cons r t,f=>by
  rw [Y2q,Y0o] at f
  obtain ⟨f1,f2⟩:=ZF t f.2
  have g:(ji v=true\/∃ a ts,v=.ref a/\SqT K H a ts)/\isN d=Zy v:=by
   have f0:=f.1
   cases r with
   | tup h1 h2=>exact ⟨.inr ⟨_,_,rfl,h1⟩,rfl⟩
   | non=>exact ⟨.inl rfl,rfl⟩
   | bl b=>exact ⟨.inl rfl,rfl⟩
   | int i=>exact ⟨.inl rfl,rfl⟩
   | str x=>exact ⟨.inl rfl,rfl⟩
   | _=>exact absurd (show false=true from f0) Y0s
  exact ⟨λ w hw=>by rcases Y0d.mp hw with rfl | hw;exact g.1;exact f1 w hw,by rw [Y1e,Y1e,g.2,f2]⟩
theorem Wo {neg:Bool}{pins:List (Addr×Obj)}{s:Shared}{σ:St}{H:Hp}{v u:Value}{Q:VK}{μ:List Addr}{h:Hh}{a:D}{x:V}{Z':Value->Hp->Prop}{ds:List D}{vs:List V}{p':Addr}(op:CmpOp)(hop:OpR X (compareOp op) (rIn X.K neg))(hopN:neg=false->OpR X (compareOp op) (z21 X.K))
  (I:Inv X pins σ H s) (rx:RelV x v) (ry:RelV (.ref p') u) (hr:HR X.K μ h H) (ra:Rep X.K μ H a x) (sq:SqL X.K H p' vs\/SqT X.K H p' vs) (rs:Reps X.K μ H ds vs) (p:PostE X.K cv (Rep X.K) μ H (Z0 neg a ds h) Q Z') :
  wpAny (model X.prog X.w) X.A (compareOp op v u) (EP X pins σ Q) X.xe s:=by
 unfold Z0 at p
 split at p
 ·rename_i c
  obtain ⟨rfl,f1⟩:=ZE ra c.1
  obtain ⟨rfl,f2⟩:=yv rs c.2
  refine hop pins s σ H _ _ v u Q I rx ry ⟨p',_,rfl,sq,f1,f2,?_⟩
  rw [z68]
  exact p.here hr (.bl _)
 ·split at p
  ·rename_i c
   cases ra<;>first | (exact absurd c.2.1 Y0s) | skip
   obtain ⟨f1,f2⟩:=ZF rs c.2.2
   refine hopN c.1 pins s σ H _ _ v u Q I rx ry ⟨p',_,rfl,rfl,sq,f1,?_⟩
   rw [<- f2]
   exact p.here hr (.bl _)
  ·exact p.elim
theorem UL {K:Y00}{μ:List Addr}{H:Hp}{d:D}{v:V}{k:Key}(r:Rep K μ H d v)(e:wU d=some k):v=kV k:=by
 unfold wU at e
 cases r<;>first | (cases e;rfl) | cases e
theorem RepKs.none {K:Y00}{μ:List Addr}{H:Hp}{k:Key}:∀ {ds:List (Key×D)}{vs:List (Key×V)},RepKs K μ H ds vs->(jf ds k).isSome=(qZ vs k).isSome
 | _,_,.nil=>rfl
 | _,_,.cons (k:=k') (d:=d') (v:=v') h r=>by
  have ih:=RepKs.none (k:=k) r
  by_cases hk:k'=k
  ·rw [wY (p:=(k',v')) hk]
   unfold jf
   rw [Y2w (by simpa using hk)]
   rfl
  ·rw [wZ (p:=(k',v')) hk,<- ih]
   unfold jf
   rw [Y2x (by simpa using hk)]
theorem Gj (hu:X.A.units+1<cLine)(neg:Bool):OpR X (compareOp (if neg then .NotIn else .In)) (r2 X.K cv (inD neg)):=by
 intro pins s σ H x y v u Q I rx ry hh
 obtain ⟨μ,h,a,b,Z',hr,ra,rb,p⟩:=hh
 have hop:OpR X (compareOp (if neg then .NotIn else .In)) (rIn X.K neg):=by cases neg with | true=>exact W9 | false=>exact Ux
 have hopN:neg=false->OpR X (compareOp (if neg then .NotIn else .In)) (z21 X.K):=λ z=>by subst z;exact Y3 hu
 unfold inD at p
 cases rb with
 | tup h1 h2=>exact Wo _ hop hopN I rx ry hr ra (.inr h1) h2 p
 | fl h1 h2=>exact Wo _ hop hopN I rx ry hr ra (.inl h1.sq) h2 p
 | @loc nn b' m =>
  cases e1:h[nn]? with
  | none=>simp only [e1] at p;exact p.elim
  | some o =>
   have q:=hr.obj nn b' o m e1
   cases o with
   | lst ds =>
    simp only [e1] at p
    obtain ⟨vs,q1,q2⟩:=q
    exact Wo _ hop hopN I rx ry hr ra (.inl (SqL.of q1)) q2 p
   | obj _ _=>simp only [e1] at p;exact p.elim
   | dK kvs =>
    simp only [e1] at p
    obtain ⟨vs,q1,q2⟩:=q
    cases e2:wU a with
    | none=>simp only [e2] at p;exact p.elim
    | some k =>
     simp only [e2] at p
     have ey:=UL ra e2
     subst ey
     cases ry
     have p':=p.here hr (.bl _)
     rw [q2.none] at p'
     cases neg with
     | true=>exact OJ hu I (DGet.k q1) rx λ s' I'=>⟨.bl _,H,I',rfl,p'⟩
     | false=>exact z63 hu I (DGet.k q1) rx λ s' I'=>⟨.bl _,H,I',rfl,p'⟩
 | str z =>
  cases ra with
  | str w =>
   cases neg with
   | true=>exact Wa pins s σ H _ _ v u Q I rx ry ⟨w,z,rfl,rfl,p.here hr (.bl _)⟩
   | false=>exact Uu pins s σ H _ _ v u Q I rx ry ⟨w,z,rfl,rfl,p.here hr (.bl _)⟩
  | _=>exact p.elim
 | _=>exact p.elim
theorem Gk (hu:X.A.units+64<cLine)(op:CmpOp):OpR X (compareOp op) (r2 X.K cv (j0 op)):=by
 intro pins s σ H x y v u Q I rx ry hh
 obtain ⟨μ,h,a,b,Z,hr,ra,rb,p⟩:=hh
 cases op with
 | Lt=>exact j3 ra rb p λ i j ex ey p=>z3p pins s σ H _ _ v u Q I rx ry ⟨i,j,ex,ey,p.here hr (.bl _)⟩
 | LtE=>exact j3 ra rb p λ i j ex ey p=>z3q pins s σ H _ _ v u Q I rx ry ⟨i,j,ex,ey,p.here hr (.bl _)⟩
 | Gt=>exact j3 ra rb p λ i j ex ey p=>z3r pins s σ H _ _ v u Q I rx ry ⟨i,j,ex,ey,p.here hr (.bl _)⟩
 | GtE=>exact j3 ra rb p λ i j ex ey p=>z3s pins s σ H _ _ v u Q I rx ry ⟨i,j,ex,ey,p.here hr (.bl _)⟩
 | Eq =>
  refine Qc p λ pu pv e1 e2 c1 c2 c3 p=>?_
  obtain ⟨as,q1⟩:=qx I hr ra rx e1
  obtain ⟨bs,q2⟩:=qx I hr rb ry e2
  exact SeqAt.compareEq_reads q1 q2 c1 c2 (by have:=Nat.min_le_left pu.depth pv.depth;omega) ⟨.bl _,H,I,rfl,p.here hr (.bl _)⟩
 | NotEq =>
  refine Qc p λ pu pv e1 e2 c1 c2 c3 p=>?_
  obtain ⟨as,q1⟩:=qx I hr ra rx e1
  obtain ⟨bs,q2⟩:=qx I hr rb ry e2
  exact SeqAt.compareNe_reads q1 q2 c1 c2 (by have:=Nat.min_le_left pu.depth pv.depth;omega) ⟨.bl _,H,I,rfl,p.here hr (.bl _)⟩
 | In=>exact Gj (cv:=cv) (by omega) false pins s σ H _ _ v u Q I rx ry ⟨μ,h,_,_,Z,hr,ra,rb,p⟩
 | NotIn=>exact Gj (cv:=cv) (by omega) true pins s σ H _ _ v u Q I rx ry ⟨μ,h,_,_,Z,hr,ra,rb,p⟩
 | Is =>
  cases b with
  | non =>
   cases rb
   cases ry
   refine wpAny_is_plain (by cases ra<;>first | (cases rx;rfl) | (obtain ⟨t,rfl⟩:=rx;rfl)) (Zi I (p.here hr (.bl _)) ?_)
   cases ra<;>first | (cases rx;rfl) | (obtain ⟨t,rfl⟩:=rx;rfl)
  | bl y =>
   cases a with
   | bl x =>
    cases ra;cases rb;cases rx;cases ry
    exact wpAny_is_plain rfl (Zi I (p.here hr (.bl _)) (by cases x<;>cases y<;>rfl))
   | _=>exact p.elim
  | _=>exact p.elim
 | IsNot =>
  cases b with
  | non =>
   cases rb
   cases ry
   refine wpAny_isNot_plain (by cases ra<;>first | (cases rx;rfl) | (obtain ⟨t,rfl⟩:=rx;rfl)) (Zi I (p.here hr (.bl _)) ?_)
   cases ra<;>first | (cases rx;rfl) | (obtain ⟨t,rfl⟩:=rx;rfl)
  | bl y =>
   cases a with
   | bl x =>
    cases ra;cases rb;cases rx;cases ry
    exact wpAny_isNot_plain rfl (Zi I (p.here hr (.bl _)) (by cases x<;>cases y<;>rfl))
   | _=>exact p.elim
  | _=>exact p.elim
end
end PI
namespace PI
open PySem L2 PySem.Spec
open PyProof.Rows hiding St
noncomputable def RB:List Addr->Hp->Bool->Bool->Prop:=λ _ _ b c=>b=c
noncomputable def spI (K:Y00)(cv:Nat->Value)(np:Nat)(c:List D->Hh->Res D):Sp:=λ vs H Q E =>
 vs.length=np/\∃ μ h ds,HR K μ h H/\Reps K μ H ds vs/\PostE K cv (Rep K) μ H (c ds h) Q (λ C H'=>E C none H')
noncomputable def Wp:List Str:=["len","isinstance","int","bool","str","tuple","list","range","max","min","sum","all","any","zip","reversed","sorted","set","enumerate","dict","abs","ValueError"]
noncomputable def gOf (sc:Scope)(x:Str):Bool:=decide (sc.names.lookup x=some .globalImplicit)
noncomputable def U1 (scope osc:Scope):Scope :=
  { scope with names:=scope.names.map λ (n,k)=>if (k==.free&&osc.kind==.function&&osc.names.lookup n==some .cell) then (n,.cell) else (n,k) }
noncomputable def Tg.idx:Tg->List Nat
 | .one i _=>[i]
 | .tup is _=>is.map (·.1)
noncomputable def Tg.ok (sc:Scope)(N:List Str)(t:Tg):Bool:=t.idx.all λ i=>decide (i<N.length)&&decide (sc.names.lookup (N.getD i "")=some .local\/sc.names.lookup (N.getD i "")=some .cell)
noncomputable def Tg.okS (N:List Str)(t:Tg):Bool:=t.idx.all λ i=>decide (i<N.length)
noncomputable def ZG (x:Str):Bool:=!(x==("__debug__":Str))&&!(x==("__classdict__":Str))
noncomputable def Tg.forI (t:Tg):I->Bool
 | .zip _ _ _ _=>true
 | _=>true
mutual
noncomputable def E.ok (sc:Scope)(n:Nm):E->Bool
 | .non _ | .bl _ _ | .int _ _ | .str _ _=>true
 | .var i _=>decide (i<n.N.length)
 | .bin _ a b _=>a.ok sc n&&b.ok sc n
 | .un op a _=>a.ok sc n&&(match op with | .Not=>a.okT | _=>true)
 | .cmp op a b _=>a.ok sc n&&b.ok sc n&&!behindInMarks op (b.py n)
 | .and a b r _=>a.ok sc n&&b.ok sc n&&r.ok sc n&&a.okT&&b.okT&&r.okT
 | .or a b r _=>a.ok sc n&&b.ok sc n&&r.ok sc n&&a.okT&&b.okT&&r.okT
 | .ite c a b _=>c.ok sc n&&a.ok sc n&&b.ok sc n&&c.okT
 | .call f a r _ _=>decide (f<n.F.length)&&!(n.G.any λ q=>decide (q.2=Cn.cls f))&&gOf sc (n.F.getD f "")&&a.ok sc n&&r.ok sc n
 | .len a _ _=>gOf sc "len"&&a.ok sc n
 | .isi T a _ _ _=>gOf sc "isinstance"&&gOf sc (qM T)&&decide (T<5)&&a.ok sc n
 | .isC x ys a _ _ _=>gOf sc "isinstance"&&gOf sc x&&decide ((x,Cn.isc x ys)∈n.G)&&a.ok sc n
 | .sub a i _=>a.ok sc n&&i.ok sc n
 | .tup es _=>es.ok sc n
 | .ofL l=>l.ok sc n
 | .tupE e _ _=>gOf sc "tuple"&&e.ok sc n
 | .listE e _ _=>gOf sc "list"&&e.ok sc n
 | .dicP e _ _=>gOf sc "dict"&&e.ok sc n
 | .dispD ks vs _=>vs.ok sc n&&decide (ks.length=(vs.py n).length)&&decide (ks.length<=15)&&decide (0<ks.length)
 | .cut a lo hi _ _=>a.ok sc n&&lo.ok sc n&&hi.ok sc n
 | .dic _=>true
 | .m0 _ o p1 p=>o.ok sc n&&decide (p1.endLine=p.line)
 | .m1 _ o a p1 p=>o.ok sc n&&a.ok sc n&&decide (p1.endLine=p.line)
 | .c1 f a _ _=>gOf sc f.name&&a.ok sc n
 | .cmpN _ a _ _=>a.ok sc n
 | .listR e _ _ _ _=>gOf sc "list"&&gOf sc "reversed"&&e.ok sc n
 | .gcon x c _=>gOf sc x&&decide ((x,c)∈n.G)
 | .gsub x kvs i _ _=>gOf sc x&&decide ((x,Cn.dic kvs)∈n.G)&&i.ok sc n
 | .fld a f _=>a.ok sc n&&decide (f∈zS)
 | .callG x kvs key a r _ _ _=>gOf sc x&&decide ((x,Cn.dic kvs)∈n.G)&&key.ok sc n&&a.ok sc n&&r.ok sc n&&kvs.all (λ q=>match q.2 with | .fn i y=>decide (n.F[i]?=some y)&&!(n.G.any λ q=>decide (q.2=Cn.cls i)) | _=>true)
 | .mk i x a r _ _=>gOf sc x&&decide ((x,Cn.cls i)∈n.G)&&a.ok sc n&&r.ok sc n
noncomputable def Eo.ok (sc:Scope)(n:Nm):Eo->Bool
 | .none=>true
 | .some e=>e.ok sc n
noncomputable def L.ok (sc:Scope)(n:Nm):L->Bool
 | .disp es _=>es.ok sc n
 | .comp elt t it c NC cap csc _=>(it.ok sc n&&t.forI it)&&j5 sc csc n.N NC cap&&decide NC.Nodup&&NC.all ZG&&t.ok csc NC&&elt.ok (U1 csc sc) ⟨NC,n.F,n.G⟩&&c.ok (U1 csc sc) ⟨NC,n.F,n.G⟩&&c.okT&&c.short
noncomputable def I.ok (sc:Scope)(n:Nm):I->Bool
 | .seq e=>e.ok sc n
 | .lst l=>l.ok sc n
 | .rng a _ _=>gOf sc "range"&&a.ok sc n
 | .rev e _ _=>gOf sc "reversed"&&e.ok sc n
 | .zip a b _ _=>gOf sc "zip"&&a.ok sc n&&b.ok sc n
noncomputable def Es.ok (sc:Scope)(n:Nm):Es->Bool
 | .nil=>true
 | .cons e r=>e.ok sc n&&r.ok sc n
noncomputable def E.okT:E->Bool
 | .non _ | .bl _ _ | .int _ _ | .str _ _=>false
 | .ite _ _ _ _=>false
 | .ofL _=>false
 | .dic _=>false
 | .dispD _ _ _=>false
 | .gcon _ _ _=>false
 | .un op a _=>match op with | .Not=>a.okT | _=>true
 | _=>true
noncomputable def Es.okT:Es->Bool
 | .nil=>true
 | .cons e r=>e.okT&&r.okT
noncomputable def Es.short:Es->Bool
 | .nil=>true
 | .cons _ .nil=>true
 | .cons _ (.cons _ _)=>false
end
noncomputable def TupK (K:Y00)(a:Addr)(xs:List Str):Prop:=∃ (o:Obj) (its:Array Value) (n:Nat),K.lookup a=some o/\o.cls=.type "tuple"/\o.data=.seq its n/\its.size<=sizeLine/\Vals (xs.map V.str) its.toList
noncomputable def CvOk (K:Y00)(v:Value):Cv->Prop
 | .tup xs=>∃ a,v=.ref a/\TupK K a xs
 | .int i=>∃ t,v=.int i t
 | .fn _ x=>∃ f,v=.ref f/\PySem.W.nsIn K mainGlobals x=some (some (.ref f))
 | .oth=>∃ f,v=.ref f
noncomputable def DicV (K:Y00):List (Str×Cv)->List (Key×Value)->Prop
 | [],[]=>True
 | kx::r,qv::s=>qv.1=.inr kx.1/\CvOk K qv.2 kx.2/\DicV K r s
 | _,_=>False
structure IsK (K:Y00)(C:Addr):Prop where
 ha:PySem.W.findIn K (.ref C) "__class__"=some (some (.builtin "object.__class__"))
 hn:PySem.W.specialIn K (.builtin "object.__class__") "__get__"=some (some (.builtin "getset_descriptor.__get__"))
 ht:PySem.W.takesIn K (.builtin "object.__class__")=some true
 hm:PySem.W.mroIn K C (.type "object")=some true
noncomputable def Bc (P:Program)(w:World)(K:Y00)(v:Value):Cn->Prop
 | .int i=>∃ t,v=.int i t
 | .str x=>∃ t,v=.str x t
 | .tup xs=>∃ a,v=.ref a/\TupK K a xs
 | .cls _=>∃ a,v=.ref a
 | .isc x ys=>∃ D,v=.ref D/\∀ y∈ys,∃ C,PySem.W.nsIn K mainGlobals y=some (some (.ref C))/\IsK K C/\PySem.W.kitOne K (.ref C) (.ref D)=some (decide (y=x))
 | .exc _ _=>∃ a bmB newId initId B,v=.ref a/\PySem.W.excIn K a bmB newId=true/\ExcBaseFacts B newId initId bmB/\bmB.contains (.type "BaseException")=true
 | .dic kvs=>∃ a o es ep vs,v=.ref a/\K.lookup a=some o/\o.ExactDict/\o.data=.dict es ep/\KeysOf (zy P w) es/\Pairs (zy P w) es.toList vs/\(vs.map (·.1)).Nodup/\DicV K kvs vs
structure TstK (K:Y00)(G:List (Str×Cn))(cv:Nat->Value)(C:Addr)(u:List Nat):Prop where
 ec:ExC K C
 ve:PySem.W.kitOne K (.ref C) (.type "ValueError")=some true
 ot:∀ y d w,(y,Cn.exc d w)∈G->PySem.W.kitOne K (.ref C) (cv d)=some (u.contains d)
structure Kx (X:Cx)(Z:ZK)(k:Nat)(n:Nm)(cv:Nat->Value)(cl:Nat->List D->Hh->Res D):Prop where
 th:Thr X Z
 rm:Room (2*k+1) X.A
 nN:X.N=n.N
 nd:X.N.Nodup
 cm:X.calm=true
 kd:X.env.scope.kind=.function
 nm:∀ x∈n.N,Vis X.env.scope x/\ZG x=true
 bm:∀ x,x∈Wp->X.mg x=none
 gc:∀ x c,(x,c)∈n.G->(x==("__debug__":Str))=false/\∃ v,X.mg x=some v/\Bc X.prog X.w X.K v c
 fn:∀ i x,n.F[i]?=some x->(n.G.any λ q=>decide (q.2=Cn.cls i))=false->(x==("__debug__":Str))=false/\∃ f fd ps,X.mg x=some (.ref f)/\PySem.W.nsIn X.K mainGlobals x=some (some (.ref f))/\PySem.W.keepIn X.K (.ref f)=true/\Binds X.K fd ps []/\(∀ ds h,cl i ds h≠.no->ds.length=ps.length) /\
  FnOk X.prog X.w X.K X.mg X.base (CXs X.prog X.w) (2*k) f fd ps (spI X.K cv ps.length (cl i))
 mc:∀ x i,(x,Cn.cls i)∈n.G->(x==("__debug__":Str))=false/\∃ C f fd ps,X.mg x=some (.ref C)/\Mk X.K C f/\ClsN X.K x C/\Binds X.K fd ps []/\(∀ ds h,cl i ds h≠.no->ds.length=ps.length) /\
  FnOk X.prog X.w X.K X.mg X.base (CXs X.prog X.w) (2*k) f fd ps (spI X.K cv ps.length (cl i))
 xc:∀ x c u,(x,Cn.exc c u)∈n.G->X.mg x=some (cv c)/\(∀ D∈u,∃ a d,cv c=.ref a/\cv D=.ref d/\VX X.K a d)/\∃ a,cv c=.ref a/\TstK X.K n.G cv a u
theorem Kx.gl {X:Cx}{Z:ZK}{k:Nat}{n:Nm}{cv:Nat->Value}{cl:Nat->List D->Hh->Res D}(C:Kx X Z k n cv cl){x:Str}(h:gOf X.env.scope x=true):Gl X x:=show X.env.scope.names.lookup x=some .globalImplicit from of_decide_eq_true h
theorem Gm {x:Str}(h:ZG x=true):(x==("__debug__":Str))=false/\(x==("__classdict__":Str))=false:=by unfold ZG at h;simpa using h
theorem jM {α:Type}(r:Res α):(r.bind λ a h=>.ok a h)=r:=by cases r<;>rfl
theorem zm {α β γ:Type}(r:Res α)(f:α->Hh->Res β)(q:β->Hh->Res γ):(r.bind f).bind q=r.bind λ a h=>(f a h).bind q:=by cases r<;>rfl
theorem PE.mono {X:Cx}{e:Expr}{t t':TE}(p:PE X e t)(h:∀ σ H Q,t' σ H Q->t σ H Q):PE X e t':=λ pins s σ H Q I q=>p pins s σ H Q I (h σ H Q q)
theorem PT.mono {X:Cx}{e:Expr}{t t':TT}(p:PT X e t)(h:∀ σ H Q,t' σ H Q->t σ H Q):PT X e t':=λ pins s σ H Q I q=>p pins s σ H Q I (h σ H Q q)
theorem PW.mono {X:Cx}{e:Expr}{t t':TT}(p:PW X e t)(h:∀ σ H Q,t' σ H Q->t σ H Q):PW X e t':=λ wh pins s σ H Q I q=>p wh pins s σ H Q I (h σ H Q q)
theorem PA.mono {X:Cx}{e:List Expr}{t t':TA}(p:PA X e t)(h:∀ σ H Q,t' σ H Q->t σ H Q):PA X e t':=λ ps pins s σ H Q I q=>p ps pins s σ H Q I (h σ H Q q)
noncomputable def toB (d:D)(h:Hh):Res Bool:=match d with | .bl b=>.ok b h | _=>.no
theorem wK (cl:Nat->List D->Hh->Res D)(e:E)(ρ:En)(h:Hh):e.evT cl ρ h=(e.ev cl ρ h).bind toB:=rfl
section
variable {X:Cx}{Z:ZK}{k:Nat}{n:Nm}{cv:Nat->Value}{cl:Nat->List D->Hh->Res D}
theorem L.py_star (l:L)(r:List Expr)(env:Env):starEach (l.py n::r) env=(false,eval (l.py n) env)::starEach r env:=by cases l<;>rfl
theorem zd (e:E)(r:List Expr)(env:Env):starEach (e.py n::r) env=(false,eval (e.py n) env)::starEach r env:=by
 cases e with
 | ofL l=>exact L.py_star l r env
 | _=>rfl
theorem wL:∀ (r:Es) (pos:Pos) (env:Env),(backTo pos (starEach (r.py n) env)).any (·.1)=false
 | .nil,_,_=>rfl
 | .cons e r,pos,env=>by
  show (backTo pos (starEach (e.py n::r.py n) env)).any (·.1)=false
  rw [zd]
  exact wL r pos env
theorem ZH (e:E):YL (e.py n):=by
 intro o i
 cases e with
 | ofL l=>cases l<;>rfl
 | _=>rfl
theorem ZI {α:Type}{k:Str}{v:α}:∀ {l:List (Str×α)},l.lookup k=some v->(k,v)∈l
 | [],h=>by cases h
 | (x,y)::r,h=>by
  rw [List.lookup] at h
  cases c:k==x with
  | true=>rw [c] at h;cases h;rw [eq_of_beq c];exact Y0b ..
  | false=>rw [c] at h;exact Y04 _ (ZI h)
theorem Y6 (e:E)(f:Str)(env:Env)(w:Sem Value):attributeBase (e.py n) f env w=w:=by
 cases e with
 | ofL l=>cases l<;>rfl
 | _=>rfl
theorem zB {e:Expr}{m:En->Hh->Res D}(p:PE X e (zt X.K cv (Rep X.K) Z m))(he:∀ whole,isTrue e X.env whole=(do let v <- whole;standAt e.pos;holding [v] (truthy v))) :
  PT X e (zt X.K cv RB Z λ ρ h=>(m ρ h).bind toB):=by
 refine PT.mono (z0o p he) λ σ H Q=>zb λ μ ρ h hr er q=>?_
 refine zc (m:=m) hr er q λ a h1 μ1 H1 x _ e1 r1 er1 qa p1=>?_
 unfold toB at p1
 cases qa with
 | bl b=>exact ⟨b,rfl,p1.here r1 rfl⟩
 | _=>exact p1.elim
noncomputable def Es.evAndT (cl:Nat->List D->Hh->Res D):Es->En->Bool->Hh->Res Bool
 | .nil,_,c,h=>.ok c h
 | .cons e r,ρ,c,h=>if c then (e.evT cl ρ h).bind λ c' h2=>r.evAndT cl ρ c' h2 else .ok false h
noncomputable def Es.evOrT (cl:Nat->List D->Hh->Res D):Es->En->Bool->Hh->Res Bool
 | .nil,_,c,h=>.ok c h
 | .cons e r,ρ,c,h=>if c then .ok true h else (e.evT cl ρ h).bind λ c' h2=>r.evOrT cl ρ c' h2
theorem U2:∀ (r:Es) (ρ:En) (d:D) (h:Hh),(r.evAnd cl ρ d h).bind toB=(toB d h).bind λ c h1=>r.evAndT cl ρ c h1
 | .nil,ρ,d,h=>(jM (r:=toB d h)).symm
 | .cons e r,ρ,d,h=>by
  cases d with
  | bl b =>
   cases b with
   | false=>rfl
   | true =>
    show (((e.ev cl ρ h).bind λ y h2=>r.evAnd cl ρ y h2).bind toB)=((e.ev cl ρ h).bind toB).bind λ c' h2=>r.evAndT cl ρ c' h2
    rw [zm,zm]
    congr 1
    funext y h2
    exact U2 r ρ y h2
  | _=>rfl
theorem Gn:∀ (r:Es) (ρ:En) (d:D) (h:Hh),(r.evOr cl ρ d h).bind toB=(toB d h).bind λ c h1=>r.evOrT cl ρ c h1
 | .nil,ρ,d,h=>(jM (r:=toB d h)).symm
 | .cons e r,ρ,d,h=>by
  cases d with
  | bl b =>
   cases b with
   | true=>rfl
   | false =>
    show (((e.ev cl ρ h).bind λ y h2=>r.evOr cl ρ y h2).bind toB)=((e.ev cl ρ h).bind toB).bind λ c' h2=>r.evOrT cl ρ c' h2
    rw [zm,zm]
    congr 1
    funext y h2
    exact Gn r ρ y h2
  | _=>rfl
end
end PI
namespace PI
open PySem L2 PySem.Spec
open PyProof.Rows hiding St
section
variable {X:Cx}{Z:ZK}{k:Nat}{n:Nm}{cv:Nat->Value}{cl:Nat->List D->Hh->Res D}
structure SE (X:Cx)(Z:ZK)(n:Nm)(cv:Nat->Value)(cl:Nat->List D->Hh->Res D)(e:E):Prop where
 pe:PE X (e.py n) (zt X.K cv (Rep X.K) Z (e.ev cl))
 pt:e.okT=true->PT X (e.py n) (zt X.K cv RB Z (e.evT cl))
noncomputable def Bd (X:Cx)(Z:ZK)(n:Nm)(cv:Nat->Value)(cl:Nat->List D->Hh->Res D)(r:Es):Prop:=∀ (ks:List (Str×Pos)) (pos:Pos),ks.length=(r.py n).length ->
 ∃ trs,PPs X pos (ks.map λ q=>some (.Constant (.str q.1) 0 q.2)) (r.py n) trs/\∀ σ H (Q:List (V×V)->Hp->Prop),zt X.K cv (Reps X.K) Z (r.ev cl) σ H (λ us H'=>Q ((ks.map λ q=>V.str q.1).zip us) H')->We trs σ H Q
structure SEs (X:Cx)(Z:ZK)(n:Nm)(cv:Nat->Value)(cl:Nat->List D->Hh->Res D)(r:Es):Prop where
 pa:PA X (r.py n) (zt X.K cv (Reps X.K) Z (r.ev cl))
 an:∀ (b:E) (p:Pos),SE X Z n cv cl b->PE X (.BoolOp .And (b.py n::r.py n) p) (zt X.K cv (Rep X.K) Z λ ρ h=>(b.ev cl ρ h).bind λ y h2=>r.evAnd cl ρ y h2)
 anT:∀ (b:E) (p:Pos),SE X Z n cv cl b->b.okT=true->r.okT=true->PW X (.BoolOp .And (b.py n::r.py n) p) (zt X.K cv RB Z λ ρ h=>(b.evT cl ρ h).bind λ c h2=>r.evAndT cl ρ c h2)
 orr:∀ (b:E) (p:Pos),SE X Z n cv cl b->PE X (.BoolOp .Or (b.py n::r.py n) p) (zt X.K cv (Rep X.K) Z λ ρ h=>(b.ev cl ρ h).bind λ y h2=>r.evOr cl ρ y h2)
 orT:∀ (b:E) (p:Pos),SE X Z n cv cl b->b.okT=true->r.okT=true->PW X (.BoolOp .Or (b.py n::r.py n) p) (zt X.K cv RB Z λ ρ h=>(b.evT cl ρ h).bind λ c h2=>r.evOrT cl ρ c h2)
 ps:Bd X Z n cv cl r
theorem Wq {v:V}{d:D}{Q:VK}{σ:St}{H:Hp}(hv:∀ K μ H,Rep K μ H d v)(p:zt X.K cv (Rep X.K) Z (λ _ h=>.ok d h) σ H Q):tC v σ H Q:=by
 obtain ⟨μ,ρ,h,hr,er,q⟩:=p
 exact q.here hr (hv _ _ _)
theorem Go {f:D->D->Hh->Res D}{a b:E}{σ:St}{H:Hp}{Q:VK}(p:zt X.K cv (Rep X.K) Z (λ ρ h=>(a.ev cl ρ h).bind λ x h1=>(b.ev cl ρ h1).bind λ y h2=>f x y h2) σ H Q) :
  tOp (r2 X.K cv f) (zt X.K cv (Rep X.K) Z (a.ev cl)) (zt X.K cv (Rep X.K) Z (b.ev cl)) σ H Q:=by
 obtain ⟨μ,ρ,h,hr,er,q⟩:=p
 refine zc (m:=a.ev cl) hr er q λ da h1 μ1 H1 x _ e1 r1 er1 qa p1=>?_
 refine zc (m:=b.ev cl) r1 er1 p1 λ db h2 μ2 H2 y _ e2 r2 er2 qb p2=>?_
 exact ⟨μ2,h2,da,db,_,r2,qa.mono e2,qb,p2⟩
theorem z03 {f:D->Hh->Res D}{a:E}{σ:St}{H:Hp}{Q:VK}(p:zt X.K cv (Rep X.K) Z (λ ρ h=>(a.ev cl ρ h).bind λ x h1=>f x h1) σ H Q) :
  tUn (r1 X.K cv f) (zt X.K cv (Rep X.K) Z (a.ev cl)) σ H Q:=by
 obtain ⟨μ,ρ,h,hr,er,q⟩:=p
 refine zc (m:=a.ev cl) hr er q λ da h1 μ1 H1 x _ e1 r1 er1 qa p1=>?_
 exact ⟨μ1,h1,da,_,r1,qa,p1⟩
theorem z04 (op:UnaryOp)(h:op=.Invert\/op=.USub):UnR X (unaryOp op) (r1 X.K cv (unD op)):=by
 intro pins s σ H x v Q I rx hh
 obtain ⟨μ,h',a,Z',hr,ra,p⟩:=hh
 rcases h with rfl | rfl
 ·unfold unD at p
  cases ra with
  | int i=>exact z1h pins s σ H _ v Q I rx ⟨i,rfl,p.here hr (.int _)⟩
  | _=>exact p.elim
 ·unfold unD at p
  cases ra with
  | int i=>exact z1g pins s σ H _ v Q I rx ⟨i,rfl,p.here hr (.int _)⟩
  | _=>exact p.elim
theorem Be (hu:X.A.units+1<cLine):IxR X (λ x y H Q=>∃ a v,x=.ref a/\DGet H a y (some v)/\Q v H):=by
 intro value slice pins s σ H x y v u Q I rx ry h hs
 obtain ⟨a,w,rfl,g,q⟩:=h
 cases rx
 have ty:s.TypeIs (.ref a) "dict":=by
  rcases g with ⟨kvs,k,e,ey,l⟩ | ⟨kvs,k,b,e,ey,eb,l⟩
  ·obtain ⟨_,_,vs,_,o,es,ep,e1,ex,_⟩:=e.ok I.hok
   exact ⟨o,e1,ex.1⟩
  ·obtain ⟨_,_,xs,_,o,es,ep,e1,ex,_⟩:=e.ok I.hok
   exact ⟨o,e1,ex.1⟩
 exact tail_any ty slot_dict_getitem.lookup (Uz hu I g ry λ w' s' I' r'=>⟨w,H,I',r',q⟩) hs
theorem RepKs.val {K:Y00}{μ:List Addr}{H:Hp}{k:Key}{d:D}:∀ {ds:List (Key×D)}{vs:List (Key×V)},RepKs K μ H ds vs->jf ds k=some d->∃ v,qZ vs k=some v/\Rep K μ H d v
 | _,_,.nil,e=>by unfold jf at e;simp at e
 | _,_,.cons (k:=k') (d:=d') (v:=v') h r,e=>by
  by_cases hk:k'=k
  ·rw [wY (p:=(k',v')) hk]
   unfold jf at e
   rw [Y2w (by simpa using hk)] at e
   cases e
   exact ⟨_,rfl,h⟩
  ·rw [wZ (p:=(k',v')) hk]
   unfold jf at e
   rw [Y2x (by simpa using hk)] at e
   exact RepKs.val r e
theorem ZJ {K:Y00}{μ:List Addr}{H:Hp}{d:D}{v:V}{k:Key}(r:Rep K μ H d v)(e:wU d=some k):v=kV k:=by
 unfold wU at e
 cases r<;>first | (cases e;rfl) | cases e
theorem DicV.at {K:Y00}{k:Str}{c:Cv}:∀ {kvs:List (Str×Cv)}{vs:List (Key×Value)},DicV K kvs vs->kvs.lookup k=some c->∃ v,valueAt vs (Sum.inr k:Key)=some v/\CvOk K v c
 | [],[],_,e=>by cases e
 | [],_::_,h,_=>h.elim
 | _::_,[],h,_=>h.elim
 | (k',ys)::r,(q,v)::s,⟨h1,h2,h4⟩,e=>by
  rw [Y25] at e
  by_cases hk:k=k'
  ·subst hk
   simp only [beq_self_eq_true] at e
   cases e
   refine ⟨v,?_,h2⟩
   unfold valueAt
   rw [Y2w (by simpa using h1)]
   rfl
  ·have hb:(k==k')=false:=by simpa using hk
   rw [hb] at e
   obtain ⟨b,e1,e2⟩:=DicV.at h4 e
   refine ⟨b,?_,e2⟩
   unfold valueAt at e1 ⊢
   rw [Y2x (by
    have h1':q=Sum.inr k':=h1
    simp only [decide_eq_true_eq]
    intro z
    rw [h1'] at z
    exact hk (Sum.inr.inj z).symm)]
   exact e1
noncomputable def CvV (K:Y00)(u:V):Cv->Prop
 | .tup xs=>∃ a,u=.ref a/\TupK K a xs
 | .int i=>u=.int i
 | .fn _ x=>∃ f,u=.ref f/\PySem.W.nsIn K mainGlobals x=some (some (.ref f))
 | .oth=>∃ f,u=.ref f
theorem CvOk.v {K:Y00}{v:Value}{c:Cv}(h:CvOk K v c):∃ u,RelV u v/\CvV K u c:=by
 cases c with
 | tup xs=>obtain ⟨a,rfl,t⟩:=h;exact ⟨.ref a,rfl,a,rfl,t⟩
 | int i=>obtain ⟨t,rfl⟩:=h;exact ⟨.int i,⟨t,rfl⟩,rfl⟩
 | fn i x=>obtain ⟨f,rfl,t⟩:=h;exact ⟨.ref f,rfl,f,rfl,t⟩
 | oth=>obtain ⟨f,rfl⟩:=h;exact ⟨.ref f,rfl,f,rfl⟩
theorem Gp {kvs:List (Str×Cv)}:IxR X (λ x y H Q=>∃ a k c,x=.ref a/\y=.str k/\Bc X.prog X.w X.K (.ref a) (.dic kvs)/\kvs.lookup k=some c/\∀ u,CvV X.K u c->Q u H):=by
 intro value slice pins s σ H x y v u Q I rx ry h hs
 obtain ⟨a,k,xs,rfl,rfl,ok,l,q⟩:=h
 cases rx
 obtain ⟨a',o,es,ep,vs,ea,e1,ex,ed,ks,ps,nd,dv⟩:=ok
 cases ea
 obtain ⟨b,e2,tk⟩:=dv.at l
 obtain ⟨bu,tr,tk⟩:=tk.v
 have eh:=I.kIn a o e1
 have dd:s.heap.DictOf (zy X.prog X.w) a vs:=⟨o,es,ep,eh,ex,ed,ks,ps,nd⟩
 exact tail_any ⟨o,eh,ex.1⟩ slot_dict_getitem.lookup (wpAny_getItem_of (y0 (k:=.inr k) ry) dd.mapOf e2 ⟨bu,H,I.tok _,tr,q bu tk⟩) hs
theorem TupK.rep {K:Y00}{μ:List Addr}{H:Hp}{a:Addr}{xs:List Str}(h:TupK K a xs):Rep K μ H (.tup (xs.map .str)) (.ref a):=by
 have rs:∀ ys:List Str,Reps K μ H (ys.map D.str) (ys.map V.str):=λ ys=>by
  induction ys with
  | nil=>exact .nil
  | cons y r ih=>exact .cons (.str y) ih
 exact .tup (.inr h) (rs xs)
theorem CvV.rep {K:Y00}{μ:List Addr}{H:Hp}{u:V}{c:Cv}(h:CvV K u c)(nf:c.isFn=false):Rep K μ H c.d u:=by
 cases c with
 | tup xs=>obtain ⟨a,rfl,t⟩:=h;exact t.rep
 | int i=>cases h;exact .int i
 | fn i x=>cases nf
 | oth=>cases nf
theorem Bf (hu:X.A.units+1<cLine):IxR X (r2 X.K cv jg):=by
 intro value slice pins s σ H x y v u Q I rx ry hh hs
 obtain ⟨μ,h,a,b,Z',hr,ra,rb,p⟩:=hh
 cases ra with
 | tup h1 h2 =>
  cases rb with
  | int k =>
   rw [sub_tup] at p
   split at p
   ·rename_i d e
    obtain ⟨w,e1,e2⟩:=h2.atI e
    exact z1n value slice pins s σ H _ _ v u Q I rx ry ⟨_,_,_,w,rfl,rfl,h1,e1,p.here hr e2⟩ hs
   ·exact p.elim
  | _=>exact p.elim
 | fl h1 h2 =>
  cases rb with
  | int k =>
   rw [sub_fl] at p
   split at p
   ·rename_i d e
    obtain ⟨w,e1,e2⟩:=h2.atI e
    exact YM value slice pins s σ H _ _ v u Q I rx ry ⟨_,_,_,w,rfl,rfl,h1.sq,e1,p.here hr e2⟩ hs
   ·exact p.elim
  | _=>exact p.elim
 | str z =>
  cases rb with
  | int k =>
   rw [Wm] at p
   split at p
   ·rename_i c
    split at p
    ·rename_i d e
     exact z1o value slice pins s σ H _ _ v u Q I rx ry ⟨_,_,_,rfl,rfl,y7 c,e,p.here hr (.str _)⟩ hs
    ·exact p.elim
   ·exact p.elim
  | _=>exact p.elim
 | @loc nn a m =>
  rw [B5] at p
  cases e1:h[nn]? with
  | none=>rw [e1] at p;exact p.elim
  | some o =>
   rw [e1] at p
   have q:=hr.obj nn a o m e1
   cases o with
   | lst xs =>
    obtain ⟨vs,q1,q2⟩:=q
    cases rb with
    | int k =>
     cases e2:atI xs k with
     | none=>simp only [e2] at p;exact p.elim
     | some d =>
      simp only [e2] at p
      obtain ⟨w,e3,e4⟩:=q2.atI e2
      exact YM value slice pins s σ H _ _ v u Q I rx ry ⟨_,_,_,w,rfl,rfl,SqL.of q1,e3,p.here hr e4⟩ hs
    | _=>exact p.elim
   | obj _ _=>exact p.elim
   | dK kvs =>
    obtain ⟨vs,q1,q2⟩:=q
    cases e2:wU b with
    | none=>simp only [e2,Option.bind_none] at p;exact p.elim
    | some k =>
     simp only [e2,Y3j] at p
     cases e3:jf kvs k with
     | none=>simp only [e3] at p;exact p.elim
     | some d =>
      simp only [e3] at p
      obtain ⟨w,e4,e5⟩:=q2.val e3
      have ey:=ZJ rb e2
      subst ey
      exact Be hu value slice pins s σ H _ _ v u Q I rx ry ⟨_,w,rfl,e4▸DGet.k q1,p.here hr e5⟩ hs
 | _=>exact p.elim
noncomputable def z69 (K:Y00)(cv:Nat->Value):List V->Hp->VK->Prop:=λ xs H Q=>∃ x,xs=[x]/\r1 K cv Z2 x H Q
theorem UM:CallR X (.builtin "len") (z69 X.K cv):=by
 intro pins s σ H xs us Q I r hh
 obtain ⟨x,rfl,μ,h,a,Z',hr,ra,p⟩:=hh
 refine VC pins s σ H _ us Q I r ⟨x,?_⟩
 cases ra with
 | tup h1 h2=>exact ⟨_,rfl,.inr ⟨_,h1,h2.length⟩,p.here hr (.int _)⟩
 | @loc nn b m =>
  rw [len_loc] at p
  cases e1:rd h nn with
  | none=>rw [e1] at p;exact p.elim
  | some ys =>
   rw [e1] at p
   obtain ⟨vs,hs1,rs⟩:=hr.rd e1 m
   exact ⟨_,rfl,.inl ⟨_,hs1,rs.length⟩,p.here hr (.int _)⟩
 | fl h1 h2=>exact ⟨_,rfl,.inl ⟨_,h1.sq,h2.length⟩,p.here hr (.int _)⟩
 | str y =>
  rw [len_str] at p
  split at p
  ·rename_i c;exact ⟨_,rfl,⟨y7 c,rfl⟩,p.here hr (.int _)⟩
  ·exact p.elim
 | _=>exact p.elim
noncomputable def isD (T:Nat)(d:D)(h:Hh):Res D:=match isI h d T with | some b=>.ok (.bl b) h | none=>.no
theorem Y7 {P:Nat->Prop}{T:Nat}(hT:T<5)(a:P 0)(b:P 1)(c:P 2)(d:P 3)(e:P 4):P T:=by
 match T,hT with | 0,_=>exact a | 1,_=>exact b | 2,_=>exact c | 3,_=>exact d | 4,_=>exact e
theorem Gq (T:Nat)(hT:T<5):CallR X (.builtin "isinstance") (λ xs H Q=>∃ x,xs=[x,.ty (YV T)]/\r1 X.K cv (isD T) x H Q):=by
 intro pins s σ H xs us Q I r hh
 obtain ⟨x,rfl,μ,h,a,Z',hr,ra,p⟩:=hh
 obtain ⟨u,w',rfl,rx,rw'⟩:=BW r
 cases (show w'=Value.type (YV T) from rw')
 unfold isD at p
 have key:∀ (b:Bool),Q (.bl b) H->∀ tk,EP X pins σ Q (.bool b) { s with toks:=tk }:=λ b q tk=>⟨.bl b,H,I.tok _,rfl,q⟩
 cases ra with
 | non =>
  have p1:Q (.bl false) H:=p.here hr (.bl _)
  refine ww I rx .non (b:=false) ?_ (key _ p1)
  apply Y7 hT<;>rfl
 | bl y =>
  have p1:Q (.bl (T==0||T==1)) H:=p.here hr (.bl _)
  refine ww I rx (.bl y) (b:=(T==0||T==1)) ?_ (key _ p1)
  apply Y7 hT<;>rfl
 | int y =>
  have p1:Q (.bl (T==0)) H:=p.here hr (.bl _)
  refine ww I rx (.int y) (b:=(T==0)) ?_ (key _ p1)
  apply Y7 hT<;>rfl
 | str y =>
  have p1:Q (.bl (T==2)) H:=p.here hr (.bl _)
  refine ww I rx (.str y) (b:=(T==2)) ?_ (key _ p1)
  apply Y7 hT<;>rfl
 | tup h1 h2 =>
  have p1:Q (.bl (T==3)) H:=p.here hr (.bl _)
  cases rx
  obtain ⟨its,rv,⟨o,g1,g2,_⟩,_⟩:=I.tuple h1
  refine Y0y PySem.W.kitx_tuple I.kIn ⟨_,g1,g2⟩ (b:=(T==3)) ?_ (λ z=>nomatch z) (key _ p1)
  apply Y7 hT<;>rfl
 | fl h1 h2 =>
  have p1:Q (.bl (T==4)) H:=p.here hr (.bl _)
  cases rx
  obtain ⟨its,rv,⟨o,n',g1,g2,_⟩,_⟩:=I.list h1.sq
  refine Y0y Y2l I.kIn ⟨_,g1,g2⟩ (b:=(T==4)) ?_ (λ z=>nomatch z) (key _ p1)
  apply Y7 hT<;>rfl
 | @loc nn b m =>
  cases e1:rd h nn with
  | none=>rw [show isI h (.loc nn) T=(rd h nn).map λ _=>T==4 from rfl,e1] at p;exact p.elim
  | some ys =>
   rw [show isI h (.loc nn) T=(rd h nn).map λ _=>T==4 from rfl,e1] at p
   have p1:Q (.bl (T==4)) H:=p.here hr (.bl _)
   obtain ⟨vs,hs1,rs⟩:=hr.rd e1 m
   cases rx
   obtain ⟨its,rv,⟨o,n',g1,g2,_⟩,_⟩:=I.list hs1
   refine Y0y Y2l I.kIn ⟨_,g1,g2⟩ (b:=(T==4)) ?_ (λ z=>nomatch z) (key _ p1)
   apply Y7 hT<;>rfl
end
end PI
namespace PI
open PySem L2 PySem.Spec
open PyProof.Rows hiding St
section
variable {X:Cx}{Z:ZK}{k:Nat}{n:Nm}{cv:Nat->Value}{cl:Nat->List D->Hh->Res D}
noncomputable def rM0 (K:Y00)(cv:Nat->Value)(m:M0):V->List V->Hp->VK->Prop:=λ x vs H Q=>vs=[]/\r1 K cv (m0D m) x H Q
noncomputable def rM1 (K:Y00)(cv:Nat->Value)(m:M1):V->List V->Hp->VK->Prop:=λ x vs H Q=>∃ y,vs=[y]/\r2 K cv (m1D m) x y H Q
theorem wf {K:Y00}{μ:List Addr}{H:Hp}{h:Hh}(hr:HR K μ h H){n:Nat}{a:Addr}{xs:List D}(m:μ[n]?=some a)(e:h[n]?=some (.lst xs)):∃ vs,H a=some (.lst vs)/\Reps K μ H xs vs:=hr.obj n a _ m e
theorem Reps.reverse {K:Y00}{μ:List Addr}{H:Hp}:∀ {ds:List D}{vs:List V},Reps K μ H ds vs->Reps K μ H ds.reverse vs.reverse
 | _,_,.nil=>.nil
 | _,_,.cons h r=>by rw [Y1a,Y1a];exact r.reverse.append (.cons h .nil)
theorem Reps.dropLast {K:Y00}{μ:List Addr}{H:Hp}:∀ {ds:List D}{vs:List V},Reps K μ H ds vs->Reps K μ H ds.dropLast vs.dropLast
 | _,_,.nil=>.nil
 | _,_,.cons h .nil=>.nil
 | _,_,.cons h (.cons h' r)=>.cons h (Reps.dropLast (.cons h' r))
theorem Reps.set {K:Y00}{μ:List Addr}{H:Hp}{d:D}{v:V}(q:Rep K μ H d v):∀ {ds:List D}{vs:List V} (i:Nat),Reps K μ H ds vs->Reps K μ H (ds.set i d) (vs.set i v)
 | _,_,_,.nil=>.nil
 | _,_,0,.cons _ r=>.cons q r
 | _,_,i+1,.cons h r=>.cons h (Reps.set q i r)
theorem Reps.take {K:Y00}{μ:List Addr}{H:Hp}:∀ {ds:List D}{vs:List V} (i:Nat),Reps K μ H ds vs->Reps K μ H (ds.take i) (vs.take i)
 | _,_,0,_=>.nil
 | _,_,_+1,.nil=>.nil
 | _,_,i+1,.cons h r=>.cons h (Reps.take i r)
theorem Reps.drop {K:Y00}{μ:List Addr}{H:Hp}:∀ {ds:List D}{vs:List V} (i:Nat),Reps K μ H ds vs->Reps K μ H (ds.drop i) (vs.drop i)
 | _,_,0,r=>r
 | _,_,_+1,.nil=>.nil
 | _,_,i+1,.cons _ r=>Reps.drop i r
theorem Reps.cut {K:Y00}{μ:List Addr}{H:Hp}{ds:List D}{vs:List V}(r:Reps K μ H ds vs)(lo hi:Option Int):Reps K μ H (wD ds lo hi) (WV vs lo hi):=by
 unfold wD WV
 rw [<- r.length]
 exact (r.drop _).take _
theorem Bg:MtR X "list.pop" (rM0 X.K cv .pop):=by
 intro pins s σ H x xs v us Q I rx rs hh
 obtain ⟨rfl,μ,h,a,Z',hr,ra,p⟩:=hh
 unfold m0D at p
 cases ra with
 | @loc nn b m =>
  cases e1:h[nn]? with
  | none=>simp only [e1] at p;exact p.elim
  | some o =>
   cases o with
   | dK _=>simp only [e1] at p;exact p.elim
   | obj _ _=>simp only [e1] at p;exact p.elim
   | lst ds =>
    simp only [e1] at p
    obtain ⟨vs,q1,q2⟩:=wf hr m e1
    cases e2:ds.getLast? with
    | none=>simp only [e2] at p;exact p.elim
    | some d =>
     simp only [e2] at p
     rw [List.getLast?_eq_getElem?] at e2
     obtain ⟨w,e3,e4⟩:=q2.get e2
     rw [q2.length] at e3
     obtain ⟨hr',ex⟩:=hr.chg (u:=.lst vs.dropLast) (o':=.lst ds.dropLast) e1 m λ H' ex e=>⟨_,e,(q2.mono ex).dropLast⟩
     exact z1q pins s σ H _ _ v us Q I rx rs ⟨b,vs,w,rfl,rfl,q1,e3,p μ _ w ex hr' (e4.mono ex)⟩
 | _=>exact p.elim
theorem Y8:MtR X "list.append" (rM1 X.K cv .append):=by
 intro pins s σ H x xs v us Q I rx rs hh
 obtain ⟨y,rfl,μ,h,a,d,Z',hr,ra,rb,p⟩:=hh
 unfold m1D at p
 cases ra with
 | @loc nn b m =>
  cases e1:h[nn]? with
  | none=>simp only [e1] at p;exact p.elim
  | some o =>
   cases o with
   | dK _=>simp only [e1] at p;exact p.elim
   | obj _ _=>simp only [e1] at p;exact p.elim
   | lst ds =>
    simp only [e1] at p
    obtain ⟨vs,q1,q2⟩:=wf hr m e1
    split at p
    ·rename_i c
     obtain ⟨hr',ex⟩:=hr.chg (u:=.lst (vs++[y])) (o':=.lst (ds++[d])) e1 m λ H' ex e=>⟨_,e,(q2.mono ex).append (.cons (rb.mono ex) .nil)⟩
     exact Uy pins s σ H _ _ v us Q I rx rs ⟨b,vs,y,rfl,rfl,q1,by rw [<- q2.length];exact U0 c,p μ _ .non ex hr' .non⟩
    ·exact p.elim
 | _=>exact p.elim
noncomputable def z6a (K:Y00)(cv:Nat->Value):V->Option Int->Option Int->Hp->VK->Prop:=λ x lo hi H Q=>∃ μ h a Z,HR K μ h H/\Rep K μ H a x/\PostE K cv (Rep K) μ H (UK a lo hi h) Q Z
theorem ya {K:Y00}{cv:Nat->Value}{μ:List Addr}{H:Hp}{h:Hh}{ds:List D}{vs:List V}{Q:VK}{Z:Value->Hp->Prop}(hr:HR K μ h H)(r:Reps K μ H ds vs)(p:PostE K cv (Rep K) μ H (new (.lst ds) h) Q Z) :
  ∀ b,H b=none->Q (.ref b) (upd H b (.lst vs)):=λ b hb=>by
 refine p _ _ _ ((zp hb).add hb) (hr.alloc hb (hr.fresh hb) λ μ' g=>⟨_,zx,(r.mono (zp hb)).mono' g⟩) (.loc ?_)
 rw [<- hr.len,Y08 (Y03 _),Y0w]
 rfl
theorem Bh {xs:List D}{lo hi:Option Int}{h:Hh}:UK (.tup xs) lo hi h=if HT.sIx xs.length 0 lo=0/\HT.sIx xs.length xs.length hi=xs.length then .ok (.tup xs) h else .ok (.tup (wD xs lo hi)) h:=rfl
theorem Bi {n:Nat}{lo hi:Option Int}{h:Hh}:UK (.loc n) lo hi h=match rd h n with | some xs=>new (.lst (wD xs lo hi)) h | none=>.no:=rfl
theorem Bj:SlR X (z6a X.K cv):=by
 intro pins s σ H x v vl vu lo hi sl Q I rx hs pl pu hh
 obtain ⟨μ,h,a,Z',hr,ra,p⟩:=hh
 cases ra with
 | tup h1 h2 =>
  rw [Bh] at p
  split at p
  ·rename_i c
   rw [h2.length] at c
   exact B0 pins s σ H _ v vl vu lo hi sl Q I rx hs pl pu ⟨_,_,rfl,h1,c.1,c.2,p.here hr (.tup h1 h2)⟩
  ·rename_i c
   rw [h2.length] at c
   exact z1m pins s σ H _ v vl vu lo hi sl Q I rx hs pl pu ⟨_,_,rfl,h1,c,λ b hb=>p μ _ _ (zp hb) (hr.tup hb) (.tup (SqT.of zx) ((h2.cut lo hi).mono (zp hb)))⟩
 | fl h1 h2=>exact YN pins s σ H _ v vl vu lo hi sl Q I rx hs pl pu ⟨_,_,rfl,h1.sq,ya hr (h2.cut lo hi) p⟩
 | str x =>
  simp only [UK] at p
  split at p
  ·rename_i c
   exact z1z pins s σ H _ v vl vu lo hi sl Q I rx hs pl pu ⟨x,rfl,Y11 c (by decide),p.here hr (.str _)⟩
  ·exact p.elim
 | @loc nn b m =>
  rw [Bi] at p
  cases e1:rd h nn with
  | none=>simp only [e1] at p;exact p.elim
  | some xs =>
   simp only [e1] at p
   obtain ⟨vs,hs1,rs⟩:=hr.rd e1 m
   exact YN pins s σ H _ v vl vu lo hi sl Q I rx hs pl pu ⟨_,_,rfl,hs1,ya hr (rs.cut lo hi) p⟩
 | _=>exact p.elim
theorem JH {K:Y00}{μ:List Addr}{H:Hp}{h:Hh}{d:D}{v:V}{xs:List D}(hr:HR K μ h H)(r:Rep K μ H d v)(e:wR d h=some xs):∃ a vs,v=.ref a/\((SqL K H a vs/\(∀ ys,d≠.tup ys))\/(SqT K H a vs/\d=.tup xs))/\Reps K μ H xs vs:=by
 unfold wR at e
 cases r with
 | tup h1 h2=>cases e;exact ⟨_,_,rfl,.inr ⟨h1,rfl⟩,h2⟩
 | fl h1 h2=>cases e;exact ⟨_,_,rfl,.inl ⟨h1.sq,λ _ z=>nomatch z⟩,h2⟩
 | @loc nn b m =>
  unfold PI.rd at e
  cases e1:h[nn]? with
  | none=>simp only [e1] at e;cases e
  | some o =>
   cases o with
   | dK _=>simp only [e1] at e;cases e
   | obj _ _=>simp only [e1] at e;cases e
   | lst ds =>
    simp only [e1] at e
    cases e
    obtain ⟨vs,q1,q2⟩:=wf hr m e1
    exact ⟨_,_,rfl,.inl ⟨SqL.of q1,λ _ z=>nomatch z⟩,q2⟩
 | _=>cases e
noncomputable def z05 (d:D)(h:Hh):Res D:=match wR d h with | some xs=>new (.lst xs) h | none=>.no
noncomputable def z47 (d:D)(h:Hh):Res D:=match wR d h with | some xs=>.ok (.tup xs) h | none=>.no
theorem Y9:CallR X (.type "list") (λ xs H Q=>∃ x,xs=[x]/\r1 X.K cv z05 x H Q):=by
 intro pins s σ H xs us Q I r hh
 obtain ⟨x,rfl,μ,h,a,Z',hr,ra,p⟩:=hh
 unfold z05 at p
 cases e:wR a h with
 | none=>rw [e] at p;exact p.elim
 | some ds =>
  rw [e] at p
  obtain ⟨b,vs,rfl,q1,q2⟩:=JH hr ra e
  exact Wb pins s σ H _ us Q I r ⟨b,vs,rfl,q1.elim (λ z=>.inl z.1) (λ z=>.inr z.1),ya hr q2 p⟩
theorem UN:CallR X (.type "tuple") (λ xs H Q=>∃ x,xs=[x]/\r1 X.K cv z47 x H Q):=by
 intro pins s σ H xs us Q I r hh
 obtain ⟨x,rfl,μ,h,a,Z',hr,ra,p⟩:=hh
 unfold z47 at p
 cases e:wR a h with
 | none=>rw [e] at p;exact p.elim
 | some ds =>
  rw [e] at p
  obtain ⟨b,vs,rfl,q1,q2⟩:=JH hr ra e
  refine J8 pins s σ H _ us Q I r ⟨b,vs,rfl,?_⟩
  rcases q1 with ⟨q1,_⟩ | ⟨q1,rfl⟩
  ·exact .inl ⟨q1,λ l hl=>p μ _ _ (zp hl) (hr.tup hl) (.tup (SqT.of zx) (q2.mono (zp hl)))⟩
  ·exact .inr ⟨q1,p.here hr ra⟩
theorem ZM {K:Y00}{μ:List Addr}{H:Hp}:∀ {ds:List D}{vs:List V}{bs:List Bool},Reps K μ H ds vs->qg ds=some bs->vs=bs.map V.bl
 | _,_,_,.nil,e=>by cases e;rfl
 | _,_,_,.cons r t,e=>by
  cases r with
  | bl b =>
   unfold qg at e
   obtain ⟨bs',e1,rfl⟩:=Option.map_eq_some_iff.mp e
   rw [ZM t e1]
   rfl
  | _=>cases e
theorem jX {K:Y00}{μ:List Addr}{H:Hp}{h:Hh}{n:Nat}{a:Addr}{ds:List D}(hr:HR K μ h H)(m:μ[n]?=some a)(e:PI.rd h n=some ds):∃ vs,H a=some (.lst vs)/\Reps K μ H ds vs:=by
 unfold PI.rd at e
 cases e1:h[n]? with
 | none=>simp only [e1] at e;cases e
 | some o =>
  cases o with
  | dK _=>simp only [e1] at e;cases e
  | obj _ _=>simp only [e1] at e;cases e
  | lst xs =>
   simp only [e1] at e
   cases e
   exact wf hr m e1
theorem UO:CallR X (.type "str") (λ xs H Q=>∃ x,xs=[x]/\r1 X.K cv (c1D .str) x H Q):=by
 intro pins s σ H xs us Q I r hh
 obtain ⟨x,rfl,μ,h,a,Z',hr,ra,p⟩:=hh
 unfold c1D at p
 cases ra with
 | int i =>
  simp only at p
  split at p
  ·rename_i c
   exact W5 pins s σ H _ us Q I r ⟨i,rfl,c,p.here hr (.str _)⟩
  ·exact p.elim
 | str z =>
  obtain ⟨u,rfl,t,rfl⟩:=wX r
  exact PySem.P.str_of_str ⟨.str z,H,I,⟨_,rfl⟩,p.here hr (.str _)⟩
 | _=>exact p.elim
theorem UP:CallR X (.type "int") (λ xs H Q=>∃ x,xs=[x]/\r1 X.K cv (c1D .int) x H Q):=by
 intro pins s σ H xs us Q I r hh
 obtain ⟨x,rfl,μ,h,a,Z',hr,ra,p⟩:=hh
 unfold c1D at p
 cases ra with
 | int i=>exact Jq pins s σ H _ us Q I r (.inl ⟨i,rfl,p.here hr (.int _)⟩)
 | bl b=>exact Jq pins s σ H _ us Q I r (.inr ⟨b,rfl,p.here hr (.int _)⟩)
 | str z =>
  simp only at p
  split at p
  ·rename_i n e
   split at p
   ·rename_i c
    exact UC pins s σ H _ us Q I r ⟨z,n,rfl,e,c,p.here hr (.int _)⟩
   ·exact p.elim
  ·exact p.elim
 | _=>exact p.elim
theorem UQ:CallR X (.builtin "abs") (λ xs H Q=>∃ x,xs=[x]/\r1 X.K cv (c1D .abs) x H Q):=by
 intro pins s σ H xs us Q I r hh
 obtain ⟨x,rfl,μ,h,a,Z',hr,ra,p⟩:=hh
 unfold c1D at p
 cases ra with
 | int i=>exact VB pins s σ H _ us Q I r ⟨i,rfl,p.here hr (.int _)⟩
 | _=>exact p.elim
theorem UR (hc:X.calm=true):CallR X (.builtin "all") (λ xs H Q=>∃ x,xs=[x]/\r1 X.K cv (c1D .all) x H Q):=by
 intro pins s σ H xs us Q I r hh
 obtain ⟨x,rfl,μ,h,a,Z',hr,ra,p⟩:=hh
 unfold c1D at p
 cases ra with
 | @loc nn b m =>
  simp only at p
  split at p
  ·rename_i bs e
   obtain ⟨ds,e1,e2⟩:=Option.bind_eq_some_iff.mp e
   obtain ⟨vs,q1,q2⟩:=jX hr m e1
   have ev:=ZM q2 e2
   subst ev
   exact VZ hc pins s σ H _ us Q I r ⟨b,bs,rfl,SqL.of q1,p.here hr (.bl _)⟩
  ·exact p.elim
 | _=>exact p.elim
theorem Gr (hc:X.calm=true):CallR X (.builtin "any") (λ xs H Q=>∃ (p:Addr) (bs:List Bool),xs=[.ref p]/\SqL X.K H p (bs.map V.bl)/\Q (.bl (bs.any id)) H):=by
 intro pins s σ H xs us Q I r h
 obtain ⟨p,bs,rfl,hq,q⟩:=h
 obtain ⟨u,rfl,ru⟩:=wX r
 cases ru
 obtain ⟨its,rv,pl,hz⟩:=I.list hq
 have hb:=Zt rv
 have hl:s.heap.IsList p its.toArray:=pl.isList
 have hlt:p<s.heap.objs.size:=by obtain ⟨_,e,_⟩:=hl;exact Y07 e
 refine call_any_walk (wpAny_pyIter_list hl ?_)
 refine ⟨s.heap.objs.size,[s.heap.objs.size,p],[s.heap.objs.size],its.toArray.size,_,_,λ i=>(bs[i]?).getD false,rfl,Walks.list (A:=X.A.in1) (I.ok.hd hc) _ p (Y0f hlt) its.toArray,
  ⟨⟨_,Y0a _ rfl,rfl,rfl⟩,hl.push _⟩,λ i v s' Q' E' hP hQ=>?_,λ h' tk hk=>?_⟩
 ·obtain ⟨b,e,rfl⟩:=hb.get i v (by simpa using hP)
  simp only [e,Y3i] at hQ
  exact wpAny_truthy_bool hQ
 ·have e:((List.range its.toArray.size).any λ i=>(bs[i]?).getD false)=bs.any id:=by
   rw [Y09,hb.length];exact PyProof.Rows.LSm.range_any bs
  rw [e]
  exact ⟨.bl (bs.any id),H,I.kept (PyProof.Rows.LSm.kept_iter hk),rfl,q⟩
theorem US (hc:X.calm=true):CallR X (.builtin "any") (λ xs H Q=>∃ x,xs=[x]/\r1 X.K cv (c1D .any) x H Q):=by
 intro pins s σ H xs us Q I r hh
 obtain ⟨x,rfl,μ,h,a,Z',hr,ra,p⟩:=hh
 unfold c1D at p
 cases ra with
 | @loc nn b m =>
  simp only at p
  split at p
  ·rename_i bs e
   obtain ⟨ds,e1,e2⟩:=Option.bind_eq_some_iff.mp e
   obtain ⟨vs,q1,q2⟩:=jX hr m e1
   have ev:=ZM q2 e2
   subst ev
   exact Gr hc pins s σ H _ us Q I r ⟨b,bs,rfl,SqL.of q1,p.here hr (.bl _)⟩
  ·exact p.elim
 | _=>exact p.elim
theorem Gs:MtM X "list.index" (λ x vs H Q=>∃ l xs y j,x=.ref l/\vs=[y]/\SqL X.K H l xs/\ji y=true/\xs.all ji=true/\xs.findIdx? (λ z=>eqV z y)=some j/\Q (.int (j:Nat)) H):=by
 intro pins s σ H x vs v us Q I rx rv h
 obtain ⟨l,xs,y,j,rfl,rfl,hq,fy,fs,hj,q⟩:=h
 cases rx
 obtain ⟨u,rfl,ru⟩:=rv.one
 obtain ⟨its,r,pl,hz⟩:=I.list hq
 have hn:=wW
 obtain ⟨⟨cls,dd,data,sl⟩,n,e,c1,_,c2⟩:=pl
 simp only at c1 c2
 subst c1 c2
 obtain ⟨jl,jt,jn⟩:=List.findIdx?_eq_some_iff_getElem.mp hj
 have hl:=r.length
 have at':∀ m (hm:m<its.length),eqU y its[m]=eqV (xs[m]'(by omega)) y:=λ m hm=>by
  obtain ⟨w,ew,rw'⟩:=r.get (Y02 (l:=xs) (i:=m) (by omega))
  rw [Y02 hm] at ew
  cases ew
  exact Zk rw' (Y10.mp fs _ (Y2f _))
 refine call_meets PySem.F.slot_list_index ⟨_,e,rfl⟩ PySem.F.entry_list_index (PySem.F.args_list_index_2 _ _)
  (SeqAt.list_indexAt l its.toArray n dd sl u (eqU y) j (by rw [Y09];omega) (by omega) ?_ ?_) ⟨e,λ w hw=>wA ru fy r fs w (by simpa using hw),.int (j:Nat),H,I.tok _,⟨_,rfl⟩,q⟩
 ·simp only [List.getElem_toArray]
  rw [at' j (by omega)]
  exact jt
 ·intro m hm hmj
  simp only [List.getElem_toArray]
  rw [at' m (by simpa using hm)]
  simpa using jn m hmj
theorem UT:MtR X "list.index" (rM1 X.K cv .index):=by
 intro pins s σ H x xs v us Q I rx rs hh
 obtain ⟨y,rfl,μ,h,a,d,Z',hr,ra,rb,p⟩:=hh
 unfold m1D at p
 cases ra with
 | @loc nn b m =>
  cases e1:h[nn]? with
  | none=>simp only [e1] at p;exact p.elim
  | some o =>
   cases o with
   | dK _=>simp only [e1] at p;exact p.elim
   | obj _ _=>simp only [e1] at p;exact p.elim
   | lst ds =>
    simp only [e1] at p
    obtain ⟨vs,q1,q2⟩:=wf hr m e1
    split at p
    ·rename_i c
     obtain ⟨rfl,f1⟩:=ZE rb c.1
     obtain ⟨rfl,f2⟩:=yv q2 c.2.1
     split at p
     ·rename_i j ej
      refine Gs pins s σ H _ _ v us Q I rx rs ⟨b,_,_,j,rfl,rfl,SqL.of q1,f1,f2,?_,p.here hr (.int _)⟩
      rw [List.findIdx?_map]
      exact ej
     ·exact p.elim
    ·exact p.elim
 | _=>exact p.elim
noncomputable def z6b (K:Y00):Os:=λ o i v H Q=>∃ μ h a b c h',HR K μ h H/\Rep K μ H a o/\Rep K μ H b i/\Rep K μ H c v/\Je a b c h=some h'/\∀ μ' H',Ext K μ H μ' H'->HR K μ' h' H'->Q H'
theorem RepKs.map {K:Y00}{μ:List Addr}{H:Hp}{k:Key}{d:D}{v:V}(q:Rep K μ H d v):∀ {ds:List (Key×D)}{vs:List (Key×V)},RepKs K μ H ds vs ->
  RepKs K μ H (ds.map λ kv=>if kv.1=k then (kv.1,d) else kv) (vs.map λ kv=>if kv.1=k then (kv.1,v) else kv)
 | _,_,.nil=>.nil
 | _,_,.cons (k:=k') h r=>by
  rw [Y0h,Y0h]
  by_cases e:k'=k
  ·rw [if_pos e,if_pos e];exact .cons q (RepKs.map q r)
  ·rw [if_neg e,if_neg e];exact .cons h (RepKs.map q r)
theorem RepKs.any {K:Y00}{μ:List Addr}{H:Hp}(k:Key):∀ {ds:List (Key×D)}{vs:List (Key×V)},RepKs K μ H ds vs->(ds.any λ kv=>decide (kv.1=k))=(vs.any λ kv=>decide (kv.1=k))
 | _,_,.nil=>rfl
 | _,_,.cons h r=>by rw [Y1e,Y1e,RepKs.any k r]
theorem RepKs.snoc {K:Y00}{μ:List Addr}{H:Hp}{k:Key}{d:D}{v:V}(q:Rep K μ H d v):∀ {ds:List (Key×D)}{vs:List (Key×V)},RepKs K μ H ds vs->RepKs K μ H (ds++[(k,d)]) (vs++[(k,v)])
 | _,_,.nil=>.cons q .nil
 | _,_,.cons h r=>.cons h (RepKs.snoc q r)
theorem RepKs.put {K:Y00}{μ:List Addr}{H:Hp}{k:Key}{d:D}{v:V}{ds:List (Key×D)}{vs:List (Key×V)}(r:RepKs K μ H ds vs)(q:Rep K μ H d v):RepKs K μ H (ZB ds k d) (wB vs k v):=by
 unfold ZB wB
 rw [<- r.any k]
 split
 ·exact r.map q
 ·exact r.snoc q
theorem Gu (hu:X.A.units+1<cLine):z0t X (z6b X.K):=by
 intro pins s σ H o i v ov iv u Q I ro ri rv hh
 obtain ⟨μ,h,a,b,c,h',hr,ra,rb,rc,e,q⟩:=hh
 unfold Je at e
 cases ra with
 | @loc nn p m =>
  cases e1:h[nn]? with
  | none=>simp only [e1] at e;cases e
  | some ob =>
   cases ob with
   | lst xs =>
    simp only [e1] at e
    obtain ⟨vs,q1,q2⟩:=wf hr m e1
    cases rb with
    | int k =>
     cases e2:ixN xs.length k with
     | none=>simp only [e2,Option.map_none] at e;cases e
     | some j =>
      simp only [e2,Y29] at e
      cases e
      obtain ⟨hr',ex⟩:=hr.chg (u:=.lst (vs.set j v)) (o':=.lst (xs.set j c)) e1 m λ H' ex e=>⟨_,e,(q2.mono ex).set (rc.mono ex) j⟩
      exact VI pins s σ H _ _ v ov iv u Q I ro ri rv ⟨p,vs,k,j,rfl,rfl,q1,by rw [<- q2.length];exact e2,q μ _ ex hr'⟩
    | _=>cases e
   | obj _ _=>simp only [e1] at e;cases e
   | dK kvs =>
    simp only [e1] at e
    obtain ⟨vs,q1,q2⟩:=(hr.obj nn p _ m e1:RepO X.K μ H p (.dK kvs))
    cases e2:wU b with
    | none=>simp only [e2,Option.bind_none] at e;cases e
    | some k =>
     simp only [e2,Y3j] at e
     split at e
     ·rename_i hl
      cases e
      have ey:=ZJ rb e2
      subst ey
      obtain ⟨hr',ex⟩:=hr.chg (u:=.dK (wB vs k v)) (o':=.dK (ZB kvs k c)) e1 m λ H' ex e=>⟨_,e,(q2.mono ex).put (rc.mono ex)⟩
      cases ro
      exact UA hu I (DPut.k q1 (by rw [<- q2.length];exact U0 hl)) ri rv λ s' I'=>⟨_,I',q μ _ ex hr'⟩
     ·cases e
 | _=>cases e
end
end PI
namespace PI
open PySem L2 PySem.Spec
open PyProof.Rows hiding St
theorem j6 {α β γ δ:Type}{K:Y00}{cv:Nat->Value}{R:List Addr->Hp->α->β->Prop}{R':List Addr->Hp->γ->δ->Prop}{μ0 μ:List Addr}{ρ:En}{h:Hh}{σ:St}{H0 H:Hp}{Z:ZK}{Zz:Value->Hp->Prop}{m:En->Hh->Res α}{f:α->Hh->Res γ}{Q:δ->Hp->Prop}{Q':β->Hp->Prop}
  (e0:Ext K μ0 H0 μ H) (hr:HR K μ h H) (er:ER K μ ρ σ H) (p:PostE K cv R' μ0 H0 ((m ρ h).bind f) Q Zz) (hz:∀ C H',Zz C H'->Z σ C H')
  (go:∀ a h1 μ1 H1 x,m ρ h=.ok a h1->Ext K μ H μ1 H1->HR K μ1 h1 H1->ER K μ1 ρ σ H1->R μ1 H1 a x->PostE K cv R' μ0 H0 (f a h1) Q Zz->Q' x H1) :
  zt K cv R Z m σ H Q':=by
 refine ⟨μ,ρ,h,hr,er,?_⟩
 cases e:m ρ h with
 | ok a h1 =>
  rw [e,bind_ok] at p
  exact λ μ1 H1 x e1 r1 q1=>go a h1 μ1 H1 x e e1 r1 (er.mono e1) q1 p
 | exc c h1 =>
  rw [e,bind_exc] at p
  exact λ μ1 H1 e1 r1=>hz _ _ (p μ1 H1 (e0.trans e1) r1)
 | no=>rw [e,bind_no] at p;exact p
noncomputable def Src (K:Y00)(μ0:List Addr)(H0:Hp)(c:Ck)(ds:List D)(J:It):Prop:=∀ μ h H,Ext K μ0 H0 μ H->HR K μ h H->stay c h ->
 (∀ i d,ds[i]?=some d->J.go i H/\∀ x H',J.yld i H x H'->Ext K μ H μ H'/\HR K μ h H'/\Rep K μ H' d x)/\J.stop ds.length H
noncomputable def RJ (K:Y00):List Addr->Hp->(Ck×List D)->It->Prop:=λ μ H q J=>Src K μ H q.1 q.2 J
noncomputable def RL (K:Y00)(H0:Hp):List Addr->Hp->List D->V->Prop:=λ μ H ds v=>∃ p vs,v=.ref p/\H p=some (.lst vs)/\Reps K μ H ds vs/\p∉μ/\H0 p=none
noncomputable abbrev Gv (K:Y00)(cv:Nat->Value)(Z:ZK)(m:En->Hh->Res (List D)):TE:=λ σ H Q=>zt K cv (RL K H) Z m σ H Q
section
variable {K:Y00}{μ:List Addr}{H:Hp}{h:Hh}{ds:List D}{vs:List V}{a:Addr}
theorem yw {c:Ck}{J:It}(k:∀ μ1 h1 H1,Ext K μ H μ1 H1->HR K μ1 h1 H1->stay c h1->(∀ i d,ds[i]?=some d->J.go i H1/\∀ x H',J.yld i H1 x H'->H'=H1/\Rep K μ1 H1 d x)/\J.stop ds.length H1):Src K μ H c ds J:=λ μ1 h1 H1 ex hr st =>
 ⟨λ i d e=>⟨((k μ1 h1 H1 ex hr st).1 i d e).1,λ x H' y=>by obtain ⟨rfl,r⟩:=((k μ1 h1 H1 ex hr st).1 i d e).2 x H' y;exact ⟨Ext.refl,hr,r⟩⟩,(k μ1 h1 H1 ex hr st).2⟩
theorem Ya {c:Ck}(k:∀ μ1 h1 H1,Ext K μ H μ1 H1->HR K μ1 h1 H1->stay c h1->∃ vs,SqL K H1 a vs/\Reps K μ1 H1 ds vs):Src K μ H c ds (Itl K a):=yw λ μ1 h1 H1 ex hr st=>by
 obtain ⟨vs,q1,q2⟩:=k μ1 h1 H1 ex hr st
 refine ⟨λ i d e=>?_,⟨vs,q1,by rw [<- q2.length];exact Y03 _⟩⟩
 obtain ⟨w,e1,e2⟩:=q2.get e
 refine ⟨⟨vs,w,q1,e1⟩,λ x H' y=>⟨y.1,?_⟩⟩
 have:=y.2 vs q1
 rw [e1] at this
 cases this
 exact e2
theorem Bk {n:Nat}(m:μ[n]?=some a):Src K μ H [(n,ds)] ds (Itl K a):=Ya λ μ1 h1 H1 ex hr st=>by
 have e:rd h1 n=some ds:=st (n,ds) (Y0m.mpr rfl)
 have m1:=ex.loc n a m
 unfold PI.rd at e
 cases e1:h1[n]? with
 | none=>simp only [e1] at e;cases e
 | some o =>
  cases o with
  | dK _=>simp only [e1] at e;cases e
  | obj _ _=>simp only [e1] at e;cases e
  | lst xs =>
   simp only [e1] at e
   cases e
   obtain ⟨vs,q1,q2⟩:=wf hr m1 e1
   exact ⟨vs,SqL.of q1,q2⟩
theorem z29 (f:Fz K H a vs)(r:Reps K μ H ds vs):Src K μ H [] ds (Itl K a):=Ya λ μ1 h1 H1 ex hr st=>⟨vs,(ex.fz _ _ f).sq,r.mono ex⟩
theorem Bl (e:H a=some (.lst vs))(n:a∉μ)(r:Reps K μ H ds vs):Src K μ H [] ds (Itl K a):=Ya λ μ1 h1 H1 ex hr st=>⟨vs,SqL.of (ex.oth _ _ e n),r.mono ex⟩
theorem Bm (f:SqT K H a vs)(r:Reps K μ H ds vs):Src K μ H [] ds (Itt K a):=yw λ μ1 h1 H1 ex hr st=>by
 have q1:=ex.tup _ _ f
 have q2:=r.mono ex
 refine ⟨λ i d e=>?_,⟨vs,q1,by rw [<- q2.length];exact Y03 _⟩⟩
 obtain ⟨w,e1,e2⟩:=q2.get e
 refine ⟨⟨vs,w,q1,e1⟩,λ x H' y=>⟨y.1,?_⟩⟩
 have:=y.2 vs q1
 rw [e1] at this
 cases this
 exact e2
theorem Bn (z:Str):Src K μ H [] (z.cps.toList.map λ c=>.str ⟨#[c]⟩) (Its z):=yw λ μ1 h1 H1 ex hr st=>by
 refine ⟨λ i d e=>?_,by show z.length<=_;rw [Y0j];exact Nat.le_of_eq rfl⟩
 rw [Y0k] at e
 cases e1:z.cps.toList[i]? with
 | none=>rw [e1] at e;cases e
 | some c =>
  rw [e1] at e
  cases e
  refine ⟨?_,λ x H' y=>⟨y.1,?_⟩⟩
  ·have:=(Y0c.mp e1).1
   exact (by simpa using this:i<z.cps.size)
  ·obtain ⟨c',e2,rfl⟩:=y.2
   rw [e1] at e2
   cases e2
   exact .str _
theorem Gw {c:Ck}(k:∀ μ1 h1 H1,Ext K μ H μ1 H1->HR K μ1 h1 H1->stay c h1->∃ vs,SqL K H1 a vs/\Reps K μ1 H1 ds vs):Src K μ H c ds.reverse (Itv K a ds.length):=yw λ μ1 h1 H1 ex hr st=>by
 obtain ⟨vs,q1,q2⟩:=k μ1 h1 H1 ex hr st
 have hl:=q2.length
 refine ⟨λ i d e=>?_,by show _=_;rw [Y1s]⟩
 have hi:i<ds.length:=by have:=(Y0c.mp e).1;rwa [Y1s] at this
 rw [Y30 hi] at e
 obtain ⟨w,e1,e2⟩:=q2.get e
 refine ⟨⟨hi,vs,q1,hl.symm⟩,λ x H' y=>⟨y.1,?_⟩⟩
 have:=y.2 vs q1
 rw [e1] at this
 cases this
 exact e2
theorem Bo (f:SqT K H a vs)(r:Reps K μ H ds vs):Src K μ H [] ds.reverse (Itw K a ds.length):=yw λ μ1 h1 H1 ex hr st=>by
 have q1:=ex.tup _ _ f
 have q2:=r.mono ex
 have hl:=q2.length
 refine ⟨λ i d e=>?_,by show _=_;rw [Y1s]⟩
 have hi:i<ds.length:=by have:=(Y0c.mp e).1;rwa [Y1s] at this
 rw [Y30 hi] at e
 obtain ⟨w,e1,e2⟩:=q2.get e
 refine ⟨⟨hi,vs,q1,hl.symm⟩,λ x H' y=>⟨y.1,?_⟩⟩
 have:=y.2 vs q1
 rw [e1] at this
 cases this
 exact e2
theorem Bp {n:Nat}(m:μ[n]?=some a):Src K μ H [(n,ds)] ds.reverse (Itv K a ds.length):=Gw λ μ1 h1 H1 ex hr st=>by
 have e:rd h1 n=some ds:=st (n,ds) (Y0m.mpr rfl)
 obtain ⟨vs,q1,q2⟩:=jX hr (ex.loc n a m) e
 exact ⟨vs,SqL.of q1,q2⟩
theorem Bq (f:Fz K H a vs)(r:Reps K μ H ds vs):Src K μ H [] ds.reverse (Itv K a ds.length):=Gw λ μ1 h1 H1 ex hr st=>⟨vs,(ex.fz _ _ f).sq,r.mono ex⟩
theorem Z8 {c:Ck}{d:D}{x:V}(r:Rep K μ H d x)(hr:HR K μ h H)(e:Y5 d h=some (c,ds)):∃ l b vs,x=.ref l/\SqB K H l b vs/\vs.length=ds.length/\∀ μ1 h1 H1,Ext K μ H μ1 H1->HR K μ1 h1 H1->stay c h1->∃ vs',SqB K H1 l b vs'/\Reps K μ1 H1 ds vs':=by
 cases r with
 | @tup xs vs a f r =>
  cases e
  exact ⟨a,false,vs,rfl,f,r.length.symm,λ μ1 h1 H1 ex _ _=>⟨vs,ex.tup _ _ f,r.mono ex⟩⟩
 | @fl xs vs a f r =>
  cases e
  exact ⟨a,true,vs,rfl,f.sq,r.length.symm,λ μ1 h1 H1 ex _ _=>⟨vs,(ex.fz _ _ f).sq,r.mono ex⟩⟩
 | @loc n a m =>
  have e:(PI.rd h n).map (λ xs=>(([(n,xs)],xs):Ck×List D))=some (c,ds):=e
  cases e1:PI.rd h n with
  | none=>rw [e1] at e;cases e
  | some xs =>
   rw [e1] at e
   cases e
   obtain ⟨vs,q1,q2⟩:=jX hr m e1
   refine ⟨a,true,vs,rfl,SqL.of q1,q2.length.symm,λ μ1 h1 H1 ex hr1 st=>?_⟩
   obtain ⟨vs',q3,q4⟩:=jX hr1 (ex.loc n a m) (st (n,ds) (Y0m.mpr rfl))
   exact ⟨vs',SqL.of q3,q4⟩
 | _=>cases e
theorem U3 {c1 c2:Ck}{ds es:List D}{l1 l2:Addr}{b1 b2:Bool}(k1:∀ μ1 h1 H1,Ext K μ H μ1 H1->HR K μ1 h1 H1->stay c1 h1->∃ vs',SqB K H1 l1 b1 vs'/\Reps K μ1 H1 ds vs')(k2:∀ μ1 h1 H1,Ext K μ H μ1 H1->HR K μ1 h1 H1->stay c2 h1->∃ vs',SqB K H1 l2 b2 vs'/\Reps K μ1 H1 es vs') :
  Src K μ H (c1++c2) ((ds.zip es).map Q9) (Itz K l1 l2 b1 b2 ds.length es.length):=λ μ1 h1 H1 ex hr st=>by
 obtain ⟨vs,q1,r1⟩:=k1 μ1 h1 H1 ex hr λ p hp=>st p (Y1b _ hp)
 obtain ⟨ws,q2,r2⟩:=k2 μ1 h1 H1 ex hr λ p hp=>st p (Y0p _ hp)
 refine ⟨λ i d e=>?_,?_,vs,ws,q1,q2,r1.length.symm,r2.length.symm⟩
 ·rw [Y0k] at e
  cases e1:(ds.zip es)[i]? with
  | none=>rw [e1] at e;cases e
  | some q =>
   rw [e1] at e
   cases e
   obtain ⟨z1,z2⟩:=List.getElem?_zip_eq_some.mp e1
   obtain ⟨w1,g1,p1⟩:=r1.get z1
   obtain ⟨w2,g2,p2⟩:=r2.get z2
   refine ⟨⟨(Y0c.mp z1).1,(Y0c.mp z2).1,vs,ws,q1,q2,r1.length.symm,r2.length.symm⟩,λ x H' y=>?_⟩
   obtain ⟨T,rfl,hT,f⟩:=y
   obtain ⟨u,v,f1,f2,rfl⟩:=f vs ws q1 q2
   rw [g1] at f1;cases f1
   rw [g2] at f2;cases f2
   exact ⟨zp hT,hr.tup hT,.tup (SqT.of zx) (.cons (p1.mono (zp hT)) (.cons (p2.mono (zp hT)) .nil))⟩
 ·rw [Y0j,List.length_zip]
  rcases Nat.le_total ds.length es.length with z | z
  ·exact .inl (Nat.min_eq_left z)
  ·exact .inr (Nat.min_eq_right z)
theorem Br (j:Nat):Src K μ H [] ((List.range j).map λ (k:Nat)=>.int (k:Nat)) (Itr 0 j):=yw λ μ1 h1 H1 ex hr st=>by
 refine ⟨λ i d e=>?_,by show j<=_;rw [Y0j,List.length_range];exact Y03 _⟩
 rw [Y0k] at e
 cases e1:(List.range j)[i]? with
 | none=>rw [e1] at e;cases e
 | some c =>
  rw [e1] at e
  cases e
  obtain ⟨hi,e2⟩:=Y0c.mp e1
  rw [List.length_range] at hi
  rw [List.getElem_range] at e2
  subst e2
  refine ⟨hi,λ x H' y=>⟨y.1,?_⟩⟩
  rw [y.2,Int.zero_add]
  exact .int _
end
section
variable {X:Cx}{Z:ZK}{k:Nat}{n:Nm}{cv:Nat->Value}{cl:Nat->List D->Hh->Res D}{tg:Expr}
theorem z2a {l:Expr}{tl:TE}(hl:PE X l tl):PI X tg l (λ σ H R=>tl σ H λ x H1=>(∃ a,x=.ref a/\(∃ xs,SqL X.K H1 a xs)/\R (Itl X.K a) H1)\/(∃ a,x=.ref a/\(∃ xs,SqT X.K H1 a xs)/\R (Itt X.K a) H1)\/∃ z,x=.str z/\R (Its z) H1):=by
 intro pins s σ H R I h
 refine thn (hl pins s σ H _ I h) λ v s1 ⟨x,H1,I1,r1,q1⟩=>?_
 rcases q1 with ⟨a,rfl,⟨xs,hq⟩,q⟩ | ⟨a,rfl,⟨xs,hq⟩,q⟩ | ⟨x,rfl,q⟩
 ·cases r1
  obtain ⟨its,rv,p,hz⟩:=I1.list hq
  refine wpAny_pyIter_list p.isList ?_
  refine ⟨s1.heap.objs.size,[s1.heap.objs.size],_,_,H1,rfl,I1.kept (t':=s1.toks) λ b o e=>Y01 _ e,Jo a _,⟨_,Y0a _ rfl,rfl,rfl⟩,λ b hb=>?_,q⟩
  have e:b=s1.heap.objs.size:=by simpa using hb
  subst e
  exact I1.fpOk (Y03 _) (I1.hok.fresh (Y03 _))
 ·cases r1
  obtain ⟨its,rv,p,hz⟩:=I1.tuple hq
  refine wpAny_pyIter_tuple (show s1.heap.IsTuple a its.toArray from p) ?_
  refine ⟨s1.heap.objs.size,[s1.heap.objs.size],_,_,H1,rfl,I1.kept (t':=s1.toks) λ b o e=>Y01 _ e,QD a _,⟨_,Y0a _ rfl,rfl,rfl⟩,λ b hb=>?_,q⟩
  have e:b=s1.heap.objs.size:=by simpa using hb
  subst e
  exact I1.fpOk (Y03 _) (I1.hok.fresh (Y03 _))
 ·obtain ⟨t,rfl⟩:=r1
  have fp:∀ b∈[s1.heap.objs.size],ym X pins H1 b:=λ b hb=>by
   have e:b=s1.heap.objs.size:=by simpa using hb
   subst e
   exact I1.fpOk (Y03 _) (I1.hok.fresh (Y03 _))
  cases ha:x.cps.all (·<128) with
  | false =>
   refine wpAny_pyIter_wide ha ?_
   exact ⟨s1.heap.objs.size,[s1.heap.objs.size],_,_,H1,rfl,I1.kept (t':=s1.toks) λ b o e=>Y01 _ e,UB _ x t,⟨_,Y0a _ rfl,rfl,rfl⟩,fp,q⟩
  | true =>
   refine wpAny_pyIter_ascii ha ?_
   exact ⟨s1.heap.objs.size,[s1.heap.objs.size],_,_,H1,rfl,I1.kept (t':=s1.toks) λ b o e=>Y01 _ e,QT _ x t,⟨_,Y0a _ rfl,rfl,rfl⟩,fp,q⟩
theorem PI.mono {iter:Expr}{t t':TI}(p:L2.PI X tg iter t)(h:∀ σ H R,t' σ H R->t σ H R):L2.PI X tg iter t':=λ pins s σ H R I q=>p pins s σ H R I (h σ H R q)
noncomputable def gB (K:Y00)(t:Tg):TG:=λ v σ H Q=>∃ μ ρ d ρ' h,HR K μ h H/\ER K μ ρ σ H/\Rep K μ H d v/\jj t d ρ=some ρ' /\
 ∀ σ',ER K μ ρ' σ' H->σ'.length=σ.length->(∀ i,i∉t.idx->σ'[i]?=σ[i]?)->Q σ' H
theorem PG.mono {t t':TG}(p:PG X tg t)(h:∀ v σ H Q,t' v σ H Q->t v σ H Q):PG X tg t':=λ pins s σ H v u Q I r q=>p pins s σ H v u Q I r (h v σ H Q q)
noncomputable def gNs:List (Nat×Pos)->TGs
 | []=>z3k
 | q::r=>BV (YF q.1) (gNs r)
theorem yx (hN:X.N.Nodup):∀ (is:List (Nat×Pos)),(∀ q∈is,q.1<X.N.length/\Loc X.env.scope (X.N.getD q.1 "")/\(X.fn (X.N.getD q.1 "")=true\/X.env.scope.names.lookup (X.N.getD q.1 "")=some .local)) ->
  PGs X (is.map λ q=>.Name (X.N.getD q.1 "") q.2) (gNs is)
 | [],_=>Ot
 | q::r,h=>by
  have hq:=h q (Y0b ..)
  exact Vu (YG (i:=q.1) hN (by rw [Y05,Y02 hq.1];rfl) hq.2.1 hq.2.2) (yx hN r λ z hz=>h z (Y04 _ hz))
theorem wE (N:List Str)(env:Env):∀ is:List (Nat×Pos),(assignEach (is.map λ q=>.Name (N.getD q.1 "") q.2) env).length=is.length/\(assignEach (is.map λ q=>.Name (N.getD q.1 "") q.2) env).findIdx? (·.1)=none
 | []=>⟨rfl,rfl⟩
 | q::r=>by
  have ih:=wE N env r
  rw [Y0h]
  refine ⟨?_,?_⟩
  ·show ((false,_)::assignEach (r.map λ q=>.Name (N.getD q.1 "") q.2) env).length=_
   rw [Y06,ih.1,Y06]
  ·show ((false,_)::assignEach (r.map λ q=>.Name (N.getD q.1 "") q.2) env).findIdx? (·.1)=none
   rw [Y3c,ih.2]
   rfl
theorem Ws {K:Y00}{μ:List Addr}{H:Hp}:∀ (is:List (Nat×Pos)) {ds:List D}{vs:List V}{ρ:En}{σ:St}{Q:St->Hp->Prop},Reps K μ H ds vs->ds.length=is.length->ER K μ ρ σ H ->
  (∀ σ',ER K μ ((is.zip ds).foldl (λ ρ q=>ρ.set q.1.1 (some q.2)) ρ) σ' H->σ'.length=σ.length->(∀ i,i∉is.map (·.1)->σ'[i]?=σ[i]?)->Q σ' H)->gNs is vs σ H Q
 | [],_,_,ρ,σ,Q,r,hl,er,q=>by
  cases r with
  | nil=>exact ⟨rfl,q σ er rfl λ _ _=>rfl⟩
  | cons _ _=>cases hl
 | p::is,_,_,ρ,σ,Q,r,hl,er,q=>by
  cases r with
  | nil=>cases hl
  | cons r1 r2 =>
   refine ⟨_,_,rfl,?_⟩
   refine Ws is r2 (by simpa using hl) (er.set r1 p.1) λ σ' e1 e2 e3=>?_
   refine q σ' e1 (e2.trans Y0n) λ i hi=>?_
   rw [Y0h] at hi
   rw [e3 i λ z=>hi (Y04 _ z),Y15 λ z=>hi (by rw [<- z];exact Y0b ..)]
theorem z48 (hc:X.calm=true) (hN:X.N.Nodup) (t:Tg) (h:∀ i∈t.idx,i<X.N.length/\Loc X.env.scope (X.N.getD i "")/\(X.fn (X.N.getD i "")=true\/X.env.scope.names.lookup (X.N.getD i "")=some .local)):PG X (t.py X.N) (gB X.K t):=by
 cases t with
 | one i p =>
  have hq:=h i (Y0m.mpr rfl)
  refine PG.mono (YG (i:=i) hN (by rw [Y05,Y02 hq.1];rfl) hq.2.1 hq.2.2) λ v σ H Q ⟨μ,ρ,d,ρ',h,hr,er,r,e,q⟩=>?_
  cases e
  exact q _ (er.set r i) Y0n λ j hj=>Y15 λ z=>hj (by rw [<- z];exact Y0m.mpr rfl)
 | tup is p =>
  refine PG.mono (Vv (k:=0) (pos:=p) hc (yx hN is λ q hq=>h q.1 (Y0v.mpr ⟨q,hq,rfl⟩)) (wE X.N X.env is).1 (wE X.N X.env is).2) λ v σ H Q ⟨μ,ρ,d,ρ',h,hr,er,r,e,q⟩=>?_
  unfold jj at e
  cases r with
  | tup h1 h2 =>
   simp only at e
   split at e
   ·rename_i c
    cases e
    exact ⟨_,_,rfl,h1,by rw [<- h2.length];exact c,Ws is h2 c er q⟩
   ·cases e
  | _=>cases e
end
end PI
namespace PI
open PySem L2 PySem.Spec
open PyProof.Rows hiding St
theorem U4:(1000000:Nat)<sizeLine:=by rw [sizeLine_eq];decide
section
variable {X:Cx}{Z:ZK}{k:Nat}{n:Nm}{cv:Nat->Value}{cl:Nat->List D->Hh->Res D}
theorem z49 {K:Y00}{μ:List Addr}{H:Hp}{ρ:En}{σ:St}(cap:List (Option Nat))(er:ER K μ ρ σ H):ER K μ (qf cap ρ) (q9 cap σ) H:=by
 refine ⟨by unfold qf q9;rw [Y0j,Y0j],λ j d e=>?_⟩
 unfold qf at e
 unfold q9
 rw [Y0k] at e ⊢
 cases e1:cap[j]? with
 | none=>rw [e1] at e;cases e
 | some o =>
  rw [e1] at e
  cases o with
  | none=>cases e
  | some i =>
   have e':(ρ[i]?).bind id=some d:=Option.some.inj e
   cases e2:ρ[i]? with
   | none=>rw [e2] at e';cases e'
   | some o2 =>
    rw [e2] at e'
    have e3:o2=some d:=e'
    subst e3
    obtain ⟨v,q1,q2⟩:=er.val i d e2
    exact ⟨v,by show some ((σ[i]?).bind id)=_;rw [q1];rfl,q2⟩
theorem Gx {osc scope:Scope}{N NC:List Str}{cap:List (Option Nat)}{t:Tg}(cok:j5 osc scope N NC cap=true)(ht:t.ok scope NC=true)(σ:St):∀ i∈t.idx,(q9 cap σ)[i]?=some none:=by
 intro i hi
 unfold Tg.ok at ht
 have h1:=Y10.mp ht i hi
 rw [Y0o] at h1
 have hl:i<NC.length:=of_decide_eq_true h1.1
 have hloc:scope.names.lookup (NC.getD i "")=some .local\/scope.names.lookup (NC.getD i "")=some .cell:=of_decide_eq_true h1.2
 unfold j5 at cok
 simp only [Y0o] at cok
 obtain ⟨⟨⟨⟨⟨k1,k2⟩,k3⟩,k4⟩,k5⟩,k6⟩:=cok
 have hj:=Y10.mp k6 i (Y35.mpr hl)
 have hN:NC[i]?=some (NC.getD i ""):=by rw [Y05,Y02 hl];rfl
 have hc:i<cap.length:=by rw [beq_iff_eq.mp k5];exact hl
 unfold q9
 rw [Y0k]
 cases e:cap[i]? with
 | none=>rw [List.getElem?_eq_none_iff] at e;omega
 | some o =>
  cases o with
  | none=>rfl
  | some m =>
   exfalso
   rw [e,hN] at hj
   simp only [Y0o,beq_iff_eq] at hj
   have hfree:=hj.2
   rcases hloc with z | z<;>(rw [hfree] at z;cases z)
theorem JI {scope:Scope}{NC:List Str}{cap:List (Option Nat)}{t:Tg}{mi:En->Hh->Res (Ck×List D)}{mc:En->Hh->Res Bool}{me:En->Hh->Res D}
  (cok:j5 X.env.scope scope X.N NC cap=true) (ht:t.ok scope NC=true) {σ:St}{H:Hp}{Q:VK}
  (p:Gv X.K cv Z (λ ρ h=>(mi ρ h).bind λ q h1=>if q.2.length<=1000000 then zX q.1 (jk t (qf cap ρ) mc me) q.2 [] h1 else .no) σ H Q) :
  VW Z cap (zt X.K cv (RJ X.K) Z mi) (gB X.K t) (λ Zc=>zt X.K cv RB Zc mc) (λ Zc=>zt X.K cv (Rep X.K) Zc me) σ H Q:=by
 obtain ⟨μ,ρ,h,hr,er,p⟩:=p
 refine j6 (m:=mi) Ext.refl hr er p (λ _ _ z=>z) λ q h1 μ1 H1 J _ e1 r1 er1 src p1=>?_
 split at p1
 rotate_left
 ·exact p1.elim
 rename_i hlen
 obtain ⟨c,ds⟩:=q
 refine ⟨λ i m ys H2=>m=ds.length-i/\i<=ds.length/\∃ μ2 h2 acc,Ext X.K μ1 H1 μ2 H2/\HR X.K μ2 h2 H2/\Reps X.K μ2 H2 acc ys/\acc.length<=i/\PostE X.K cv (RL X.K H) μ H (zX c (jk t (qf cap ρ) mc me) (ds.drop i) acc h2) Q (Z σ),
  ⟨ds.length,by simp,Y1h _,μ1,h1,[],Ext.refl,r1,.nil,Y03 _,p1⟩,?_⟩
 rintro i m ys H2 ⟨rfl,hi',μ2,h2,acc,e2,r2,ry,ha,p2⟩
 have hyl:ys.length<=i:=by rw [<- ry.length];exact ha
 have hll:ds.length<=1000000:=hlen
 by_cases hlt:i<ds.length
 ·right
  rw [Y2k hlt] at p2
  unfold zX at p2
  split at p2
  rotate_left
  ·exact p2.elim
  rename_i st
  obtain ⟨s1,s2⟩:=src μ2 h2 H2 e2 r2 st
  obtain ⟨g1,g2⟩:=s1 i ds[i] (Y02 hlt)
  refine ⟨g1,by have:=U4;omega,λ x H3 y=>?_⟩
  obtain ⟨e2',r2',rx⟩:=g2 x H3 y
  replace e2:=e2.trans e2'
  replace r2:=r2'
  replace ry:=ry.mono e2'
  have er2:ER X.K μ2 ρ σ H3:=er1.mono e2
  unfold jk at p2
  cases eb:jj t ds[i] (qf cap ρ) with
  | none=>rw [eb] at p2;exact p2.elim
  | some ρ' =>
   rw [eb] at p2
   refine ⟨μ2,qf cap ρ,ds[i],ρ',h2,r2,z49 cap er2,rx,eb,λ σ4 er4 hl4 hs4=>⟨⟨hl4,λ j v ej=>?_⟩,?_⟩⟩
   ·have nj:j∉t.idx:=λ z=>by rw [Gx cok ht σ j z] at ej;cases ej
    rw [hs4 j nj];exact ej
   have p3:PostE X.K cv (RL X.K H) μ H ((mc ρ' h2).bind λ b h3=>(if b then (me ρ' h3).bind λ d h4=>Res.ok (some d) h4 else Res.ok none h3).bind λ o h'=>zX c (jk t (qf cap ρ) mc me) (ds.drop (i+1)) (Ge acc o) h') Q (Z σ):=by
    have p2':=p2
    rw [zm] at p2'
    exact p2'
   refine j6 (m:=mc) (R:=RB) (e1.trans e2) r2 er4 p3 (λ _ _ z=>z) λ b h3 μ3 H3' bb _ e3 r3 er5 qb p4=>?_
   have qb':b=bb:=qb
   subst qb'
   cases b with
   | false =>
    refine yU ⟨ds.length-(i+1),by omega,rfl,hlt,μ3,h3,acc,e2.trans e3,r3,ry.mono e3,Nat.le_succ_of_le ha,p4⟩
   | true =>
    refine yV ?_
    have p5:PostE X.K cv (RL X.K H) μ H ((me ρ' h3).bind λ d h4=>zX c (jk t (qf cap ρ) mc me) (ds.drop (i+1)) (acc++[d]) h4) Q (Z σ):=by
     have p4':=p4
     rw [if_pos rfl,zm] at p4'
     exact p4'
    refine j6 (m:=me) ((e1.trans e2).trans e3) r3 er5 p5 (λ _ _ z=>z) λ d h4 μ4 H4 v _ e4 r4 er6 qd p6=>?_
    exact ⟨ds.length-(i+1),by omega,rfl,hlt,μ4,h4,acc++[d],(e2.trans e3).trans e4,r4,((ry.mono e3).mono e4).append (.cons qd .nil),by rw [Y0u];exact Nat.succ_le_succ ha,p6⟩
 ·left
  have ei:i=ds.length:=by omega
  subst ei
  rw [List.drop_length] at p2
  unfold zX at p2
  split at p2
  rotate_left
  ·exact p2.elim
  rename_i st
  refine ⟨(src μ2 h2 H2 e2 r2 st).2,by have:=U4;omega,λ a ha'=>?_⟩
  have ex:=(e1.trans e2)
  have na:=r2.fresh ha'
  have n0:H a=none:=by
   cases e:H a with
   | none=>rfl
   | some o=>rw [ex.oth a o e λ z=>na (ex.sub z)] at ha';cases ha'
  exact p2 μ2 _ _ (ex.trans (zp ha')) (r2.tup ha') ⟨a,ys,rfl,zx,ry.mono (zp ha'),na,n0⟩
theorem Gy {elt iter:Expr}{ifs:List Expr}{scope:Scope}{NC:List Str}{cap:List (Option Nat)}{t:Tg}{pos:Pos}{mi:En->Hh->Res (Ck×List D)}{mc:En->Hh->Res Bool}{me:En->Hh->Res D}
  (hc:X.calm=true) (th:Thr X Z) (hi:L2.PI X (t.py NC) iter (zt X.K cv (RJ X.K) Z mi)) (cok:j5 X.env.scope scope X.N NC cap=true) (ht:t.ok scope NC=true)
  (hg:∀ C s H fp pn xe,PG (zr X NC scope C s H fp pn xe) (t.py NC) (gB X.K t))
  (hf:∀ C s H fp pn xe Zc,Thr (zr X NC scope C s H fp pn xe) Zc->PF (zr X NC scope C s H fp pn xe) ifs (zt X.K cv RB Zc mc))
  (hb:∀ C s H fp pn xe Zc,Thr (zr X NC scope C s H fp pn xe) Zc->PE (zr X NC scope C s H fp pn xe) elt (zt X.K cv (Rep X.K) Zc me))
  (hs:∀ x,foldedSetIterable iter X.env x=pure x) :
  PE X (.ListComp elt [⟨t.py NC,iter,ifs,0⟩] scope pos) (Gv X.K cv Z λ ρ h=>(mi ρ h).bind λ q h1=>if q.2.length<=1000000 then zX q.1 (jk t (qf cap ρ) mc me) q.2 [] h1 else .no) :=
 PE.mono (OO hc th hi cok hg (tf:=λ Zc=>zt X.K cv RB Zc mc) (te:=λ Zc=>zt X.K cv (Rep X.K) Zc me) hf hb hs) λ σ H Q p=>JI cok ht p
theorem Kx.comp {scope:Scope}{NC:List Str}{cap:List (Option Nat)}(C:Kx X Z k n cv cl)(cok:j5 X.env.scope scope X.N NC cap=true)(hnd:NC.Nodup)(hgood:NC.all ZG=true){Cc:Addr}{s:Shared}{H:Hp}{fp:List Addr}{pn:List (Addr×Obj)}{xe:Value->Shared->Prop}{Zc:ZK}
  (th:Thr (zr X NC scope Cc s H fp pn xe) Zc):Kx (zr X NC scope Cc s H fp pn xe) Zc k ⟨NC,n.F,n.G⟩ cv cl:=by
 obtain ⟨c1,c2,c3,c4,c5,c6,c7⟩:=zW cok
 refine ⟨th,C.rm,rfl,hnd,rfl,c1,λ x hx=>⟨?_,Y10.mp hgood x hx⟩,C.bm,C.gc,C.fn,C.mc,C.xc⟩
 obtain ⟨j,hj⟩:=Y34 hx
 have cok':=cok
 unfold j5 at cok'
 simp only [Y0o] at cok'
 obtain ⟨⟨⟨⟨⟨k1,k2⟩,k3⟩,k4⟩,k5⟩,k6⟩:=cok'
 have hl:j<NC.length:=(Y0c.mp hj).1
 have hk:=Y10.mp k6 j (Y35.mpr hl)
 have rel:(relabel scope X.env).names.lookup x=(scope.names.lookup x).map λ k=>if k=.free then .cell else k:=wI (scope:=scope) C.kd λ y hy e=>c4 y hy e
 rw [hj] at hk
 show Vis (relabel scope X.env) x
 unfold Vis
 rw [rel]
 cases e:cap[j]? with
 | none=>rw [e] at hk;cases hk
 | some o =>
  rw [e] at hk
  cases o with
  | none =>
   have hk':scope.names.lookup x=some .local\/scope.names.lookup x=some .cell:=by simpa using hk
   rcases hk' with hk' | hk'
   ·rw [hk'];exact .inl rfl
   ·rw [hk'];exact .inr (.inl rfl)
  | some m =>
   simp only [Y0o,beq_iff_eq] at hk
   rw [hk.2];exact .inr (.inl rfl)
end
end PI
namespace PI
open PySem L2 PySem.Spec
open PyProof.Rows hiding St
theorem RepKs.merge {K:Y00}{μ:List Addr}{H:Hp}:∀ {more:List (Key×D)}{mv:List (Key×V)}{ds:List (Key×D)}{vs:List (Key×V)},RepKs K μ H more mv->RepKs K μ H ds vs->RepKs K μ H (wJ ds more) (w9 vs mv)
 | _,_,_,_,.nil,r=>r
 | _,_,ds,vs,@RepKs.cons _ _ _ k d v ds' vs' h t,r=>by
  have z:=RepKs.merge (ds:=ZB ds k d) (vs:=wB vs k v) t (r.put h)
  exact z
theorem RepKs.zip {K:Y00}{μ:List Addr}{H:Hp}:∀ (ks:List (Str×Pos)) {ds:List D}{vs:List V},Reps K μ H ds vs->RepKs K μ H ((ks.map λ q=>(Sum.inr q.1:Key)).zip ds) ((ks.map λ q=>(Sum.inr q.1:Key)).zip vs)
 | [],_,_,_=>.nil
 | q::ks,_,_,.nil=>.nil
 | q::ks,_,_,.cons h t=>.cons h (RepKs.zip ks t)
theorem JJ {K:Y00}{μ:List Addr}{H:Hp}:∀ {ds:List D}{vs:List V}{kvs:List (Key×D)},Reps K μ H ds vs->we ds=some kvs ->
  ∃ mv:List (Key×V),RepKs K μ H kvs mv/\Paired (λ (x:V) (kv:Key×V)=>∃ a,x=.ref a/\SqT K H a [kV kv.1,kv.2]) vs mv
 | _,_,_,.nil,e=>by
  unfold we at e
  cases e
  exact ⟨[],.nil,.nil⟩
 | _,_,kvs,@Reps.cons _ _ _ d v ds vs h t,e=>by
  unfold we at e
  cases e1:YX d with
  | none=>rw [e1] at e;simp at e
  | some a =>
   cases e2:we ds with
   | none=>rw [e1,e2] at e;simp at e
   | some b =>
    rw [e1,e2] at e
    simp only [Option.some.injEq] at e
    subst e
    obtain ⟨mv,m1,m2⟩:=JJ t e2
    unfold YX at e1
    split at e1
    ·rename_i k x
     cases ek:wU k with
     | none=>rw [ek] at e1;simp at e1
     | some q =>
      rw [ek] at e1
      simp only [Y29,Option.some.injEq] at e1
      subst e1
      cases h with
      | tup h1 h2 =>
       cases h2 with
       | cons hk ht =>
        cases ht with
        | cons hx hn =>
         cases hn
         have:=ZJ hk ek
         subst this
         exact ⟨_,.cons hx m1,.cons ⟨_,rfl,h1⟩ m2⟩
    ·cases e1
theorem z2b {X:Cx}{Z:ZK}{n:Nm}{cv:Nat->Value}{cl:Nat->List D->Hh->Res D}:Bd X Z n cv cl .nil:=by
 intro ks pos hl
 cases ks with
 | nil =>
  refine ⟨[],OK,λ σ H Q=>zb λ μ ρ h hr er q=>?_⟩
  exact q.here hr .nil
 | cons _ _=>cases hl
theorem Bs {X:Cx}{Z:ZK}{n:Nm}{cv:Nat->Value}{cl:Nat->List D->Hh->Res D}{e:E}{r:Es}(se:PE X (e.py n) (zt X.K cv (Rep X.K) Z (e.ev cl)))(sr:Bd X Z n cv cl r):Bd X Z n cv cl (.cons e r):=by
 intro ks pos hl
 have hl:ks.length=(e.py n::r.py n).length:=hl
 cases ks with
 | nil=>cases hl
 | cons k ks =>
  obtain ⟨trs,p1,p2⟩:=sr ks pos (by simpa using hl)
  refine ⟨(tC (.str k.1),zt X.K cv (Rep X.K) Z (e.ev cl))::trs,VP Vo se p1,λ σ H Q=>zb λ μ ρ h hr er q=>?_⟩
  show zt X.K cv (Rep X.K) Z (e.ev cl) σ H _
  refine zc (m:=e.ev cl) hr er q λ da h1 μ1 H1 x _ e1 r1 er1 qa p3=>?_
  refine p2 σ H1 _ (zc (m:=r.ev cl) r1 er1 p3 λ ds h2 μ2 H2 xs _ e2 r2 er2 qb p4=>?_)
  exact p4.here r2 (.cons (qa.mono e2) qb)
section
variable {X:Cx}{cv:Nat->Value}
theorem Yb (hc:X.calm=true):CallR X (.type "dict") (λ xs H Q=>∃ x,xs=[x]/\r1 X.K cv YY x H Q):=by
 intro pins s σ H xs us Q I r hh
 obtain ⟨x,rfl,μ,h,a,Z',hr,ra,p⟩:=hh
 unfold YY at p
 cases ra with
 | @loc nn b mm =>
  simp only at p
  cases e:rd h nn with
  | none=>rw [e] at p;exact p.elim
  | some ds =>
   rw [e] at p
   simp only at p
   split at p
   ·rename_i hl
    cases e2:we ds with
    | none=>rw [e2] at p;exact p.elim
    | some kvs =>
     rw [e2] at p
     have e3:h[nn]?=some (.lst ds):=by
      unfold rd at e
      cases e4:h[nn]? with
      | none=>rw [e4] at e;cases e
      | some o=>cases o with
       | lst xs=>rw [e4] at e;cases e;rfl
       | dK _=>rw [e4] at e;cases e
       | obj _ _=>rw [e4] at e;cases e
     obtain ⟨vs,q1,q2⟩:=wf hr mm e3
     obtain ⟨mv,m1,m2⟩:=JJ q2 e2
     refine Y2 hc pins s σ H _ us Q I r ⟨b,vs,mv,rfl,SqL.of q1,by rw [<- q2.length];exact hl,m2,λ l hb=>?_⟩
     refine p _ _ _ ((zp hb).add hb) (hr.alloc hb (hr.fresh hb) λ μ' g=>⟨_,zx,((RepKs.merge m1 .nil).mono (zp hb)).mono' g⟩) (.loc ?_)
     rw [<- hr.len,Y08 (Y03 _),Y0w]
     rfl
   ·exact p.elim
 | _=>exact p.elim
theorem UU {ks:List (Str×Pos)}{n:Nat}{b:Addr}{μ0 μ1:List Addr}{H0 H1:Hp}{h1:Hh}{xs:List D}{us:List V}{Q:VK}{Z:Value->Hp->Prop}(hb:μ1[n]?=some b)(r1:HR X.K μ1 h1 H1)(qa:Reps X.K μ1 H1 xs us)(h15:ks.length<=15)(e0:Ext X.K μ0 H0 μ1 H1)(p:PostE X.K cv (Rep X.K) μ0 H0 (YZ ks n xs h1) Q Z) :
  H1 b=some (.dK [])/\∃ kvs:List (Key×V),((ks.map λ q=>V.str q.1).zip us)=kvs.map (λ kv=>(kV kv.1,kv.2))/\kvs.length<=15/\Q (.ref b) (upd H1 b (.dK (w9 [] kvs))):=by
 unfold YZ at p
 split at p
 ·rename_i e
  obtain ⟨vs,q1,q2⟩:=r1.obj n b _ hb e
  cases q2
  obtain ⟨hr2,ex2⟩:=r1.chg (o':=.dK (wJ [] ((ks.map λ q=>(Sum.inr q.1:Key)).zip xs))) (u:=.dK (w9 [] ((ks.map λ q=>(Sum.inr q.1:Key)).zip us))) e hb λ H' ex eH=>⟨_,eH,RepKs.merge (RepKs.zip ks (qa.mono ex)) .nil⟩
  refine ⟨q1,(ks.map λ q=>(Sum.inr q.1:Key)).zip us,?_,?_,p μ1 _ _ (e0.trans ex2) hr2 (.loc hb)⟩
  ·clear p hr2 ex2 qa h15 e q1
   induction ks generalizing us with
   | nil=>rfl
   | cons k ks ih =>
    cases us with
    | nil=>rfl
    | cons u us=>simp only [Y0h,Y3a];rw [ih];rfl
  ·rw [List.length_zip,Y0j];exact Y11 (Nat.min_le_left ..) h15
 ·exact p.elim
theorem z4a (hc:X.calm=true) (hN:X.N.Nodup) (is:List (Nat×Pos)) (p1:Pos) (h:∀ i∈(Tg.tup is p1).idx,i<X.N.length/\Loc X.env.scope (X.N.getD i "")/\(X.fn (X.N.getD i "")=true\/X.env.scope.names.lookup (X.N.getD i "")=some .local)) :
  PG X ((Tg.tup is p1).py X.N) (λ v σ H Q=>∃ μ ρ d ρ' h,HR X.K μ h H/\ER X.K μ ρ σ H/\Rep X.K μ H d v/\jj (.tup is p1) (Wk d h) ρ=some ρ'/\∀ σ',ER X.K μ ρ' σ' H->Q σ' H):=by
 refine PG.mono (B1 (k:=0) (pos:=p1) hc (yx hN is λ q hq=>h q.1 (Y0v.mpr ⟨q,hq,rfl⟩)) (wE X.N X.env is).1 (wE X.N X.env is).2) λ v σ H Q ⟨μ,ρ,d,ρ',h,hr,er,r,e,q⟩=>?_
 have fin:∀ (ds:List D) (vs:List V),Reps X.K μ H ds vs->jj (.tup is p1) (.tup ds) ρ=some ρ'->vs.length=is.length/\gNs is vs σ H Q:=λ ds vs h2 e=>by
  unfold jj at e
  simp only at e
  split at e
  ·rename_i c
   cases e
   exact ⟨by rw [<- h2.length];exact c,Ws is h2 c er λ σ' e1 _ _=>q σ' e1⟩
  ·cases e
 cases r with
 | tup h1 h2 =>
  obtain ⟨a,b⟩:=fin _ _ h2 e
  exact ⟨_,_,rfl,.inl h1,a,b⟩
 | @loc nn b mm =>
  unfold Wk at e
  simp only at e
  cases e1:rd h nn with
  | none=>rw [e1] at e;simp [jj] at e
  | some ds =>
   rw [e1] at e
   obtain ⟨vs,hs1,rs⟩:=hr.rd e1 mm
   obtain ⟨a,b⟩:=fin _ _ rs e
   exact ⟨_,_,rfl,.inr hs1,a,b⟩
 | _=>simp [jj,Wk] at e
end
end PI
namespace PI
open PySem PySem.Spec PyProof.Rows L2
section
variable {K:Y00}{μ:List Addr}{h:Hh}
end
end PI
namespace PI
open PySem L2 PySem.Spec
open PyProof.Rows hiding St
section
variable {X:Cx}{Z:ZK}{k:Nat}{n:Nm}{cv:Nat->Value}{cl:Nat->List D->Hh->Res D}
theorem z2c (T:Nat)(h:T<5):bootBuiltins (qM T)=some (.type (YV T))/\qM T≠"__name__"/\(qM T==("__debug__":Str))=false/\qM T∈Wp:=by
 match T,h with
 | 0,_=>exact ⟨rfl,by decide,by decide,by decide⟩
 | 1,_=>exact ⟨rfl,by decide,by decide,by decide⟩
 | 2,_=>exact ⟨rfl,by decide,by decide,by decide⟩
 | 3,_=>exact ⟨rfl,by decide,by decide,by decide⟩
 | 4,_=>exact ⟨rfl,by decide,by decide,by decide⟩
theorem getD_some {α:Type}{xs:List α}{i:Nat}{d:α}(h:i<xs.length):xs[i]?=some (xs.getD i d):=by
 rw [Y05,Y02 h];rfl
theorem yb {α:Type}{xs:List α}{i:Nat}{d:α}(h:i<xs.length):xs.getD i d∈xs:=Y12 (getD_some h)
theorem PO.mono {X:Cx}{e:Option Expr}{t t':TO}(p:PO X e t)(h:∀ σ H Q,t' σ H Q->t σ H Q):PO X e t':=λ pins s σ H Q I q=>p pins s σ H Q I (h σ H Q q)
theorem qN (o:E)(x:Str)(env:Env):attributeBase (o.py n) x env (eval (o.py n) env)=eval (o.py n) env:=by
 cases o with
 | ofL l=>cases l<;>(rfl)
 | _=>rfl
theorem U5 (a : E)(pos : Pos)(env : Env) : ((backTo pos (starEach [a.py n] env)).all (λ x => !x.1)&&(backToKw pos (keywordEach [] env)).all (λ x => x.1.isSome)
      && decide (([a.py n]:List Expr).length+([]:List Keyword).length+(if ([]:List Keyword).isEmpty then 0 else 1)<30))=true:=by
  rw [zd];rfl
theorem z4b {K:Y00}{μ:List Addr}{H:Hp}{h:Hh}{m:M0}{d:D}{v:V}(hr:HR K μ h H)(r:Rep K μ H d v)(e:m0D m d h≠.no):tyV K "list" v H:=by
 unfold m0D at e
 cases r with
 | @loc nn b mm =>
  cases e1:h[nn]? with
  | none=>simp only [e1] at e;exact absurd rfl e
  | some o =>
   cases o with
   | dK _=>simp only [e1] at e;exact absurd rfl e
   | obj _ _=>simp only [e1] at e;exact absurd rfl e
   | lst ds=>obtain ⟨vs,q1,q2⟩:=wf hr mm e1;exact .inl ⟨rfl,vs,SqL.of q1⟩
 | _=>exact absurd rfl e
theorem Reps.isEmpty {K:Y00}{μ:List Addr}{H:Hp}{ds:List D}{vs:List V}(r:Reps K μ H ds vs):ds.isEmpty=vs.isEmpty:=by cases r<;>rfl
theorem Gz {K:Y00}{cv:Nat->Value}{R:List Addr->Hp->D->V->Prop}{μ:List Addr}{H:Hp}{h:Hh}{d:D}{v:V}{r:Res D}{Q:VK}{Z:Value->Hp->Prop}(hr:HR K μ h H)(q:Rep K μ H d v)(p:PostE K cv R μ H (onL d h r) Q Z):tyV K "list" v H/\PostE K cv R μ H r Q Z:=by
 unfold onL at p
 cases q with
 | @loc nn b mm =>
  cases e1:h[nn]? with
  | none=>simp only [e1] at p;exact p.elim
  | some o =>
   cases o with
   | dK _=>simp only [e1] at p;exact p.elim
   | obj _ _=>simp only [e1] at p;exact p.elim
   | lst ds=>simp only [e1] at p;obtain ⟨vs,q1,q2⟩:=wf hr mm e1;exact ⟨.inl ⟨rfl,vs,SqL.of q1⟩,p⟩
 | _=>exact p.elim
theorem qO (it:I){env:Env}:∀ x,foldedSetIterable (it.py n) env x=pure x:=by
 intro x
 cases it with
 | seq e =>
  cases e with
  | ofL l=>cases l<;>(rfl)
  | _=>rfl
 | lst l=>cases l<;>(rfl)
 | rng a p0 p=>rfl
 | rev e p0 p=>rfl
 | zip a b p0 p=>rfl
theorem U6 {elt:E}{t:Tg}{it:I}{c:Es}{NC:List Str}{cap:List (Option Nat)}{csc:Scope}{p:Pos}(C:Kx X Z k n cv cl)(h:(L.comp elt t it c NC cap csc p).ok X.env.scope n=true) :
  (it.ok X.env.scope n=true/\t.forI it=true)/\j5 X.env.scope csc X.N NC cap=true/\NC.Nodup/\NC.all ZG=true/\t.ok csc NC=true/\elt.ok (U1 csc X.env.scope) ⟨NC,n.F,n.G⟩=true/\c.ok (U1 csc X.env.scope) ⟨NC,n.F,n.G⟩=true/\c.okT=true/\c.short=true:=by
 have h:(_&&_)=true:=h
 simp only [Y0o,decide_eq_true_eq] at h
 obtain ⟨⟨⟨⟨⟨⟨⟨⟨k1,k2⟩,k3⟩,k4⟩,k5⟩,k6⟩,k7⟩,k8⟩,k9⟩:=h
 exact ⟨k1,by rw [C.nN];exact k2,k3,k4,k5,k6,k7,k8,k9⟩
theorem U7 {Zc:ZK}{m:Nm}:PF X (Es.nil.py m) (zt X.K cv RB Zc (Es.nil.evC cl)):=by
 refine λ pins s σ H Q I q=>z1w pins s σ H Q I ?_
 obtain ⟨μ,ρ,h,hr,er,q⟩:=q
 exact q.here hr rfl
theorem U8 {scope:Scope}{NC:List Str}{cap:List (Option Nat)}{t:Tg}(kd:X.env.scope.kind=.function)(cok:j5 X.env.scope scope X.N NC cap=true)(hnd:NC.Nodup)(ht:t.ok scope NC=true){Cc:Addr}{s:Shared}{H:Hp}{fp:List Addr}{pn:List (Addr×Obj)}{xe:Value->Shared->Prop} :
  PG (zr X NC scope Cc s H fp pn xe) (t.py NC) (gB X.K t):=by
 refine z48 (X:=zr X NC scope Cc s H fp pn xe) rfl hnd t λ i hi=>?_
 unfold Tg.ok at ht
 have h1:=Y10.mp ht i hi
 rw [Y0o] at h1
 have h2:scope.names.lookup (NC.getD i "")=some .local\/scope.names.lookup (NC.getD i "")=some .cell:=of_decide_eq_true h1.2
 obtain ⟨c1,c2,c3,c4,c5,c6,c7⟩:=zW cok
 have rel:∀ x,(relabel scope X.env).names.lookup x=(scope.names.lookup x).map λ k=>if k=.free then .cell else k:=λ x=>wI (scope:=scope) kd λ y hy e=>c4 y hy e
 refine ⟨of_decide_eq_true h1.1,?_,?_⟩
 ·show Loc (relabel scope X.env) _
  unfold L2.Loc
  rw [rel]
  rcases h2 with h2 | h2
  ·rw [h2];exact .inl rfl
  ·rw [h2];exact .inr rfl
 ·rcases h2 with h2 | h2
  ·refine .inr ?_
   show (relabel scope X.env).names.lookup _=_
   rw [rel,h2];rfl
  ·refine .inl ?_
   show (scope.names.lookup _==some NameKind.cell)=true
   rw [h2];rfl
theorem GA {X:Cx}{d:Addr}:CallR X (.builtin "isinstance") (λ xs H Q=>∃ a C b dx vs,xs=[.ref a,.ref d]/\H a=some (.ins C dx vs)/\Cls X.K C/\IsK X.K C/\PySem.W.kitOne X.K (.ref C) (.ref d)=some b/\Q (.bl b) H):=by
 intro pins s σ H xs us Q I r h
 obtain ⟨a,C,b,dx,vs,rfl,ea,cl,Z,e,q⟩:=h
 obtain ⟨u,w',rfl,rx,rw'⟩:=BW r
 cases (show w'=Value.ref d from rw')
 exact ww I rx (.ins ea cl Z.ha Z.hn Z.ht Z.hm) e λ tk=>⟨.bl b,H,I.tok _,rfl,q⟩
mutual
theorem sE:∀ (e:E) (X:Cx) (Z:ZK) (k:Nat) (n:Nm) (cv:Nat->Value) (cl:Nat->List D->Hh->Res D),Kx X Z k n cv cl->e.ok X.env.scope n=true->SE X Z n cv cl e
 | .non p,X,Z,k,n,cv,cl,C,_=>⟨PE.mono z0n λ σ H Q q=>Wq (λ _ _ _=>.non) q,λ z=>nomatch z⟩
 | .bl b p,X,Z,k,n,cv,cl,C,_=>⟨PE.mono z3d λ σ H Q q=>Wq (λ _ _ _=>.bl b) q,λ z=>nomatch z⟩
 | .int i p,X,Z,k,n,cv,cl,C,_=>⟨PE.mono z0m λ σ H Q q=>Wq (λ _ _ _=>.int i) q,λ z=>nomatch z⟩
 | .str x p,X,Z,k,n,cv,cl,C,_=>⟨PE.mono Vo λ σ H Q q=>Wq (λ _ _ _=>.str x) q,λ z=>nomatch z⟩
 | .var i p,X,Z,k,n,cv,cl,C,h=>by
  have hi:i<n.N.length:=of_decide_eq_true h
  have hm:=C.nm _ (yb (d:=("":Str)) hi)
  have hv:=hm.1
  have hg:=Gm hm.2
  have pe:PE X ((E.var i p).py n) (zt X.K cv (Rep X.K) Z ((E.var i p).ev cl)):=by
   refine PE.mono (Vn (i:=i) (by rw [C.nN];exact getD_some hi) hv hg.1 hg.2) λ σ H Q=>zb λ μ ρ h hr er q=>?_
   have q:PostE X.K cv (Rep X.K) μ H (match ρ[i]? with | some (some d)=>.ok d h | _=>.no) Q (Z σ):=q
   cases e:ρ[i]? with
   | none=>rw [e] at q;exact q.elim
   | some o =>
    cases o with
    | none=>rw [e] at q;exact q.elim
    | some d =>
     rw [e] at q
     obtain ⟨v,e1,r1⟩:=er.val i d e
     exact ⟨v,e1,q.here hr r1⟩
  exact ⟨pe,λ _=>by exact zB pe λ _=>rfl⟩
 | .bin op a b p,X,Z,k,n,cv,cl,C,h=>by
  have h':a.ok X.env.scope n=true/\b.ok X.env.scope n=true:=by have h:(_&&_)=true:=h;simpa using h
  have sa:=sE a X Z k n cv cl C h'.1
  have sb:=sE b X Z k n cv cl C h'.2
  have pe:PE X ((E.bin op a b p).py n) (zt X.K cv (Rep X.K) Z ((E.bin op a b p).ev cl)):=by
   refine PE.mono (z3n (z28 (cv:=cv) op) sa.pe sb.pe) λ σ H Q q=>?_
   exact Go q
  exact ⟨pe,λ _=>by exact zB pe λ _=>rfl⟩
 | .un op a p,X,Z,k,n,cv,cl,C,h=>by
  have h':a.ok X.env.scope n=true:=by have h:(_&&_)=true:=h;simp at h;exact h.1
  have sa:=sE a X Z k n cv cl C h'
  cases op with
  | Not =>
   refine ⟨?_,λ z=>?_⟩
   ·skip
    refine PE.mono (z0r sa.pe) λ σ H Q=>zb λ μ ρ h hr er q=>?_
    refine zc (m:=a.ev cl) hr er q λ d h1 μ1 H1 x _ e1 r1 er1 qa p1=>?_
    unfold unD at p1
    cases qa with
    | bl b=>exact ⟨b,rfl,p1.here r1 (.bl _)⟩
    | _=>exact p1.elim
   ·skip
    have z':a.okT=true:=by exact z
    refine PT.mono (z0q (sa.pt z')) λ σ H Q=>zb λ μ ρ h hr er q=>?_
    refine ⟨μ,ρ,h,hr,er,?_⟩
    have e1:(E.un .Not a p).evT cl ρ h=(a.evT cl ρ h).bind λ b h1=>.ok (!b) h1:=by
     rw [wK,wK,zm]
     show ((a.ev cl ρ h).bind λ x h1=>unD .Not x h1).bind toB=_
     rw [zm]
     congr 1
     funext d h1
     unfold unD toB
     cases d<;>rfl
    rw [e1] at q
    cases e2:a.evT cl ρ h with
    | ok b h1 =>
     rw [e2] at q
     intro μ1 H1 v x1 x2 x3
     have x3':b=v:=x3
     subst x3'
     exact q μ1 H1 (!b) x1 x2 rfl
    | exc c h1=>rw [e2] at q;exact q
    | no=>rw [e2] at q;exact q
  | Invert =>
   have pe:PE X ((E.un .Invert a p).py n) (zt X.K cv (Rep X.K) Z ((E.un .Invert a p).ev cl)):=by
    refine PE.mono (Vz (z04 (cv:=cv) .Invert (.inl rfl)) sa.pe) λ σ H Q q=>?_
    exact z03 q
   exact ⟨pe,λ _=>by exact zB pe λ _=>rfl⟩
  | USub =>
   have pe:PE X ((E.un .USub a p).py n) (zt X.K cv (Rep X.K) Z ((E.un .USub a p).ev cl)):=by
    refine PE.mono (Vz (z04 (cv:=cv) .USub (.inr rfl)) sa.pe) λ σ H Q q=>?_
    exact z03 q
   exact ⟨pe,λ _=>by exact zB pe λ _=>rfl⟩
  | UAdd =>
   have no:∀ {β:Type}{σ:St}{H:Hp}{R:List Addr->Hp->D->β->Prop}{Q:β->Hp->Prop},zt X.K cv R Z ((E.un .UAdd a p).ev cl) σ H Q->zt X.K cv (Rep X.K) Z (a.ev cl) σ H (λ _ _=>False):=by
    intro β σ H R Q ⟨μ,ρ,h,hr,er,q⟩
    refine zc (m:=a.ev cl) hr er q λ d h1 μ1 H1 x _ e1 r1 er1 qa p1=>?_
    unfold unD at p1
    cases d<;>exact p1.elim
   have pe:PE X ((E.un .UAdd a p).py n) (zt X.K cv (Rep X.K) Z ((E.un .UAdd a p).ev cl)):=by
    refine PE.mono (Vz (r:=λ _ _ _=>False) (λ _ _ _ _ _ _ _ _ _ z=>z.elim) sa.pe) λ σ H Q q=>no q
   exact ⟨pe,λ _=>by exact zB pe λ _=>rfl⟩
 | .cmp op a b p,X,Z,k,n,cv,cl,C,h=>by
  have h':(a.ok X.env.scope n=true/\b.ok X.env.scope n=true)/\behindInMarks op (b.py n)=false:=by have h:(_&&_)=true:=h;simpa using h
  have sa:=sE a X Z k n cv cl C h'.1.1
  have sb:=sE b X Z k n cv cl C h'.1.2
  refine ⟨?_,λ _=>?_⟩
  ·skip
   refine PE.mono (YH (Gk (cv:=cv) C.rm.units op) sa.pe sb.pe h'.2) λ σ H Q q=>?_
   exact Go q
  ·skip
   refine PT.mono (YI (Gk (cv:=cv) C.rm.units op) sa.pe sb.pe h'.2) λ σ H Q=>zb λ μ ρ h hr er q=>?_
   have q:PostE X.K cv RB μ H (((a.ev cl ρ h).bind λ x h1=>(b.ev cl ρ h1).bind λ y h2=>j0 op x y h2).bind toB) Q (Z σ):=q
   rw [zm] at q
   unfold VA
   refine zc (m:=a.ev cl) hr er q λ da h1 μ1 H1 x _ e1 r1 er1 qa p1=>?_
   rw [zm] at p1
   refine zc (m:=b.ev cl) r1 er1 p1 λ db h2 μ2 H2 y _ e2 r2 er2 qb p2=>?_
   refine ⟨μ2,h2,da,db,Z σ,r2,qa.mono e2,qb,?_⟩
   cases e3:j0 op da db h2 with
   | ok d h3 =>
    rw [e3] at p2
    intro μ3 H3 v x1 x2 x3
    unfold Res.bind toB at p2
    cases x3 with
    | bl c=>exact ⟨c,rfl,p2 μ3 H3 c x1 x2 rfl⟩
    | _=>exact p2.elim
   | exc c h3=>rw [e3] at p2;exact p2
   | no=>rw [e3] at p2;exact p2
 | .and a b r p,X,Z,k,n,cv,cl,C,h=>by
  have h':((((a.ok X.env.scope n=true/\b.ok X.env.scope n=true)/\r.ok X.env.scope n=true)/\a.okT=true)/\b.okT=true)/\r.okT=true:=by have h:(_&&_)=true:=h;simpa using h
  have sa:=sE a X Z k n cv cl C h'.1.1.1.1.1
  have sb:=sE b X Z k n cv cl C h'.1.1.1.1.2
  have sr:=sEs r X Z k n cv cl C h'.1.1.1.2
  refine ⟨?_,λ _=>?_⟩
  ·skip
   refine PE.mono (Vr sa.pe (sr.an b p sb)) λ σ H Q=>zb λ μ ρ h hr er q=>?_
   refine zc (m:=a.ev cl) hr er q λ d h1 μ1 H1 x _ e1 r1 er1 qa p1=>?_
   unfold tru at p1
   cases qa with
   | bl c =>
    refine ⟨c,rfl,?_⟩
    cases c with
    | true=>exact yV ⟨μ1,ρ,h1,r1,er1,p1⟩
    | false=>exact yU (p1.here r1 (.bl _))
   | _=>exact p1.elim
  ·skip
   refine PT.mono (PW.pt (Vp (sa.pt h'.1.1.2) (sr.anT b p sb h'.1.2 h'.2))) λ σ H Q=>zb λ μ ρ h hr er q=>?_
   have e0:(E.and a b r p).evT cl ρ h=(a.evT cl ρ h).bind λ c h1=>if c then (b.evT cl ρ h1).bind λ c' h2=>r.evAndT cl ρ c' h2 else .ok false h1:=by
    rw [wK,wK,zm]
    show ((a.ev cl ρ h).bind λ x h1=>tru x h1 λ c h1=>if c then (b.ev cl ρ h1).bind λ y h2=>r.evAnd cl ρ y h2 else .ok (.bl false) h1).bind toB=_
    rw [zm]
    congr 1
    funext d h1
    unfold tru
    cases d with
    | bl c =>
     cases c with
     | false=>rfl
     | true =>
      show ((b.ev cl ρ h1).bind λ y h2=>r.evAnd cl ρ y h2).bind toB=(b.evT cl ρ h1).bind λ c' h2=>r.evAndT cl ρ c' h2
      rw [wK,zm,zm]
      congr 1
      funext y h2
      exact U2 r ρ y h2
    | _=>rfl
   rw [e0] at q
   refine zc (m:=a.evT cl) (R:=RB) hr er q λ c h1 μ1 H1 x _ e1 r1 er1 qa p1=>?_
   have qa':c=x:=qa
   subst qa'
   cases c with
   | true=>exact yV ⟨μ1,ρ,h1,r1,er1,p1⟩
   | false=>exact yU (p1.here r1 rfl)
 | .or a b r p,X,Z,k,n,cv,cl,C,h=>by
  have h':((((a.ok X.env.scope n=true/\b.ok X.env.scope n=true)/\r.ok X.env.scope n=true)/\a.okT=true)/\b.okT=true)/\r.okT=true:=by have h:(_&&_)=true:=h;simpa using h
  have sa:=sE a X Z k n cv cl C h'.1.1.1.1.1
  have sb:=sE b X Z k n cv cl C h'.1.1.1.1.2
  have sr:=sEs r X Z k n cv cl C h'.1.1.1.2
  refine ⟨?_,λ _=>?_⟩
  ·skip
   refine PE.mono (BU sa.pe (sr.orr b p sb)) λ σ H Q=>zb λ μ ρ h hr er q=>?_
   refine zc (m:=a.ev cl) hr er q λ d h1 μ1 H1 x _ e1 r1 er1 qa p1=>?_
   unfold tru at p1
   cases qa with
   | bl c =>
    refine ⟨c,rfl,?_⟩
    cases c with
    | true=>exact yV (p1.here r1 (.bl _))
    | false=>exact yU ⟨μ1,ρ,h1,r1,er1,p1⟩
   | _=>exact p1.elim
  ·skip
   refine PT.mono (PW.pt (BT (sa.pt h'.1.1.2) (sr.orT b p sb h'.1.2 h'.2))) λ σ H Q=>zb λ μ ρ h hr er q=>?_
   have e0:(E.or a b r p).evT cl ρ h=(a.evT cl ρ h).bind λ c h1=>if c then .ok true h1 else (b.evT cl ρ h1).bind λ c' h2=>r.evOrT cl ρ c' h2:=by
    rw [wK,wK,zm]
    show ((a.ev cl ρ h).bind λ x h1=>tru x h1 λ c h1=>if c then .ok (.bl true) h1 else (b.ev cl ρ h1).bind λ y h2=>r.evOr cl ρ y h2).bind toB=_
    rw [zm]
    congr 1
    funext d h1
    unfold tru
    cases d with
    | bl c =>
     cases c with
     | true=>rfl
     | false =>
      show ((b.ev cl ρ h1).bind λ y h2=>r.evOr cl ρ y h2).bind toB=(b.evT cl ρ h1).bind λ c' h2=>r.evOrT cl ρ c' h2
      rw [wK,zm,zm]
      congr 1
      funext y h2
      exact Gn r ρ y h2
    | _=>rfl
   rw [e0] at q
   refine zc (m:=a.evT cl) (R:=RB) hr er q λ c h1 μ1 H1 x _ e1 r1 er1 qa p1=>?_
   have qa':c=x:=qa
   subst qa'
   cases c with
   | true=>exact yV (p1.here r1 rfl)
   | false=>exact yU ⟨μ1,ρ,h1,r1,er1,p1⟩
 | .ite c a b p,X,Z,k,n,cv,cl,C,h=>by
  have h':((c.ok X.env.scope n=true/\a.ok X.env.scope n=true)/\b.ok X.env.scope n=true)/\c.okT=true:=by have h:(_&&_)=true:=h;simpa using h
  have sc:=sE c X Z k n cv cl C h'.1.1.1
  have sa:=sE a X Z k n cv cl C h'.1.1.2
  have sb:=sE b X Z k n cv cl C h'.1.2
  refine ⟨?_,λ z=>nomatch z⟩
  refine PE.mono (Vs (sc.pt h'.2) sa.pe sb.pe) λ σ H Q=>zb λ μ ρ h hr er q=>?_
  have e0:((c.ev cl ρ h).bind λ x h1=>tru x h1 λ t h1=>if t then a.ev cl ρ h1 else b.ev cl ρ h1)=(c.evT cl ρ h).bind λ t h1=>if t then a.ev cl ρ h1 else b.ev cl ρ h1:=by
   rw [wK,zm]
   congr 1
   funext d h1
   unfold tru toB
   cases d<;>rfl
  have q:PostE X.K cv (Rep X.K) μ H ((c.ev cl ρ h).bind λ x h1=>tru x h1 λ t h1=>if t then a.ev cl ρ h1 else b.ev cl ρ h1) Q (Z σ):=q
  rw [e0] at q
  refine zc (m:=c.evT cl) (R:=RB) hr er q λ t h1 μ1 H1 x _ e1 r1 er1 qa p1=>?_
  have qa':t=x:=qa
  subst qa'
  cases t with
  | true=>exact yV ⟨μ1,ρ,h1,r1,er1,p1⟩
  | false=>exact yU ⟨μ1,ρ,h1,r1,er1,p1⟩
 | .call f a r p0 p,X,Z,k,n,cv,cl,C,h=>by
  have h':((f<n.F.length/\gOf X.env.scope (n.F.getD f "")=true)/\a.ok X.env.scope n=true)/\r.ok X.env.scope n=true:=by have h:(_&&_)=true:=h;simp only [Y0o,decide_eq_true_eq] at h;exact ⟨⟨⟨h.1.1.1.1,h.1.1.2⟩,h.1.2⟩,h.2⟩
  have hnc:(n.G.any λ q=>decide (q.2=Cn.cls f))=false:=by have h:(_&&_)=true:=h;simp only [Y0o,Y3f] at h;exact h.1.1.1.2
  have sa:=sE a X Z k n cv cl C h'.1.2
  have sr:=sEs r X Z k n cv cl C h'.2
  obtain ⟨hdb,fa,fd,ps,hm,_,hk,hb,hl,F⟩:=C.fn f _ (getD_some (d:=("":Str)) h'.1.1.1) hnc
  have pe:PE X ((E.call f a r p0 p).py n) (zt X.K cv (Rep X.K) Z ((E.call f a r p0 p).ev cl)):=by
   refine PE.mono (VS F (C.rm.mono (by omega)) (C.gl h'.1.1.2) hm hk hb .nil C.th (zu sa.pe sr.pa (zd a _ _)) hdb (zd a _ _) (wL r p X.env)) λ σ H Q=>zb λ μ ρ h hr er q=>?_
   unfold VR VE
   refine zc (m:=a.ev cl) hr er q λ da h1 μ1 H1 x _ e1 r1 er1 qa p1=>?_
   refine zc (m:=r.ev cl) r1 er1 p1 λ ds h2 μ2 H2 xs _ e2 r2 er2 qb p2=>?_
   show spI X.K cv ps.length (cl f) ((x::xs)++[]) H2 Q λ C _ H'=>Z σ C H'
   rw [Y0z]
   have z:=hl (da::ds) h2 λ z=>by rw [z] at p2;exact p2
   exact ⟨by rw [Y06,<- qb.length,<- Y06 (a:=da)];exact z,μ2,h2,da::ds,r2,.cons (qa.mono e2) qb,p2⟩
  exact ⟨pe,λ _=>by exact zB pe λ _=>rfl⟩
 | .callG x kvs key a r p0 p1 p,X,Z,k,n,cv,cl,C,h=>by
  have h:(_&&_)=true:=h
  simp only [Y0o,decide_eq_true_eq] at h
  obtain ⟨⟨⟨⟨⟨hg,hG⟩,hk⟩,ha⟩,hr⟩,hall⟩:=h
  have sk:=sE key X Z k n cv cl C hk
  have sa:=sE a X Z k n cv cl C ha
  have sr:=sEs r X Z k n cv cl C hr
  obtain ⟨hd,v,hm,ok⟩:=C.gc x _ hG
  have pe:PE X ((E.callG x kvs key a r p0 p1 p).py n) (zt X.K cv (Rep X.K) Z ((E.callG x kvs key a r p0 p1 p).ev cl)):=by
   have ok':=ok
   obtain ⟨d,o,es,ep,vs,rfl,_⟩:=ok'
   refine PE.mono (Gd (VH (Gp (kvs:=kvs)) (jw (v:=.ref d) (C.gl hg) hm rfl hd) sk.pe (ZH key)) C.th (zu sa.pe sr.pa (zd a _ _)) (zd a _ _) (wL r p X.env)) λ σ H Q=>zb λ μ ρ h hr er q=>?_
   refine zc (m:=key.ev cl) hr er q λ y h1 μ1 H1 z _ e1 r1 er1 qa q1=>?_
   cases qa with
   | str kk =>
    unfold fnOf at q1
    simp only at q1
    cases l:kvs.lookup kk with
    | none=>rw [l] at q1;exact q1.elim
    | some c =>
     rw [l] at q1
     cases c with
     | tup _=>exact q1.elim
     | int _=>exact q1.elim
     | oth=>exact q1.elim
     | fn i y =>
      simp only at q1
      have hm2:(kk,Cv.fn i y)∈kvs:=ZI l
      have hf:=Y10.mp hall _ hm2
      simp only [Y0o,decide_eq_true_eq,Y3f] at hf
      obtain ⟨hdb,fa,fd,ps,hm3,hns,hkp,hb,hl,F⟩:=C.fn i _ hf.1 hf.2
      refine ⟨d,kk,_,rfl,rfl,ok,l,λ b tk=>?_⟩
      obtain ⟨f,rfl,tk⟩:=tk
      rw [hns] at tk
      cases tk
      refine ⟨fa,_,fd,ps,_,rfl,F,C.rm.mono (by omega),hkp,hb,?_⟩
      refine zc (m:=a.ev cl) r1 er1 q1 λ da h2 μ2 H2 w _ e2 r2 er2 qb q2=>?_
      refine zc (m:=r.ev cl) r2 er2 q2 λ ds h3 μ3 H3 ws _ e3 r3 er3 qc q3=>?_
      have z:=hl (da::ds) h3 λ z=>by rw [z] at q3;exact q3
      exact ⟨by rw [Y06,<- qc.length,<- Y06 (a:=da)];exact z,μ3,h3,da::ds,r3,.cons (qb.mono e3) qc,q3⟩
   | _=>exact q1.elim
  exact ⟨pe,λ _=>by exact zB pe λ _=>rfl⟩
 | .fld a f p,X,Z,k,n,cv,cl,C,h=>by
  have h':a.ok X.env.scope n=true/\f∈zS:=by have h:(_&&_)=true:=h;simpa using h
  have sa:=sE a X Z k n cv cl C h'.1
  have pe:PE X ((E.fld a f p).py n) (zt X.K cv (Rep X.K) Z ((E.fld a f p).ev cl)):=by
   refine PE.mono (z1i sa.pe (Y6 a f _ _)) λ σ H Q=>zb λ μ ρ h hr er q=>?_
   refine zc (m:=a.ev cl) hr er q λ da h1 μ1 H1 x _ e1 r1 er1 qa p1=>?_
   unfold ZD at p1
   cases qa with
   | @loc nn b m =>
    cases e2:h1[nn]? with
    | none=>simp only [e2] at p1;exact p1.elim
    | some o =>
     have q:=r1.obj nn b o m e2
     cases o with
     | lst _=>simp only [e2] at p1;exact p1.elim
     | dK _=>simp only [e2] at p1;exact p1.elim
     | obj y fs =>
      simp only [e2] at p1
      obtain ⟨Cc,dx,vs,q1,q2,q3⟩:=q
      cases e3:fs.lookup f with
      | none=>rw [e3] at p1;exact p1.elim
      | some d =>
       rw [e3] at p1
       obtain ⟨v,e4,e5⟩:=q3.get e3
       exact ⟨b,Cc,dx,vs,v,rfl,q1,q2.cl,q2.na f h'.2,e4,p1.here r1 e5⟩
   | _=>exact p1.elim
  exact ⟨pe,λ _=>by exact zB pe λ _=>rfl⟩
 | .mk i x a r p0 p,X,Z,k,n,cv,cl,C,h=>by
  have h':((gOf X.env.scope x=true/\(x,Cn.cls i)∈n.G)/\a.ok X.env.scope n=true)/\r.ok X.env.scope n=true:=by have h:(_&&_)=true:=h;simpa using h
  have sa:=sE a X Z k n cv cl C h'.1.2
  have sr:=sEs r X Z k n cv cl C h'.2
  obtain ⟨hdb,Ca,f,fd,ps,hm,M,CN,hb,hl,F⟩:=C.mc x i h'.1.1.2
  have pe:PE X ((E.mk i x a r p0 p).py n) (zt X.K cv (Rep X.K) Z ((E.mk i x a r p0 p).ev cl)):=by
   refine PE.mono (Gc M F C.rm (C.gl h'.1.1.1) hm hb C.th (zu sa.pe sr.pa (zd a _ _)) hdb (zd a _ _) (wL r p X.env)) λ σ H Q=>zb λ μ ρ h hr er q=>?_
   unfold Gb VE
   refine zc (m:=a.ev cl) hr er q λ da h1 μ1 H1 y _ e1 r1 er1 qa p1=>?_
   refine zc (m:=r.ev cl) r1 er1 p1 λ ds h2 μ2 H2 ys _ e2 r2 er2 qb p2=>?_
   intro b dx hb1 hb2 ne
   have e3:Ext X.K μ2 H2 μ2 (upd H2 dx (.own b)):=zp hb2
   have hb3:upd H2 dx (.own b) b=none:=by rw [zq (Ne.symm ne)];exact hb1
   have r3:HR X.K μ2 h2 (upd H2 dx (.own b)):=r2.tup hb2
   have nb:b∉μ2:=r3.fresh hb3
   have r4:=r3.alloc (o:=.obj x []) (u:=.ins Ca dx []) hb3 nb λ μ' _=>⟨Ca,dx,[],zx,CN,.nil⟩
   have e4:Ext X.K μ2 H2 (μ2++[b]) (upd (upd H2 dx (.own b)) b (.ins Ca dx [])):=e3.trans ((zp hb3).add hb3)
   have lb:(μ2++[b])[h2.length]?=some b:=by rw [<- r2.len];simp
   have ne0:cl i (.loc h2.length::da::ds) (h2++[.obj x []])≠.no:=λ z=>by rw [z] at p2;exact p2
   have z:=hl _ _ ne0
   refine ⟨by rw [Y06,Y06,<- qb.length,<- Y06 (a:=da),<- Y06 (a:=D.loc h2.length)];exact z,μ2++[b],h2++[.obj x []],.loc h2.length::da::ds,r4,.cons (.loc lb) (.cons ((qa.mono e2).mono e4) (qb.mono e4)),?_⟩
   cases ec:cl i (.loc h2.length::da::ds) (h2++[.obj x []]) with
   | no=>exact absurd ec ne0
   | exc c h3 =>
    rw [ec] at p2
    exact λ μ3 H3 e5 r5=>p2 μ3 H3 (e4.trans e5) r5
   | ok d h3 =>
    rw [ec] at p2
    cases d with
    | non =>
     intro μ3 H3 v e5 r5 q5
     cases q5
     exact ⟨rfl,p2 μ3 H3 (.ref b) (e4.trans e5) r5 (.loc (e5.loc _ _ lb))⟩
    | _=>exact p2.elim
  exact ⟨pe,λ _=>by exact zB pe λ _=>rfl⟩
 | .len a p0 p,X,Z,k,n,cv,cl,C,h=>by
  have h':gOf X.env.scope "len"=true/\a.ok X.env.scope n=true:=by have h:(_&&_)=true:=h;simpa using h
  have sa:=sE a X Z k n cv cl C h'.2
  have pe:PE X ((E.len a p0 p).py n) (zt X.K cv (Rep X.K) Z ((E.len a p0 p).ev cl)):=by
   refine PE.mono (wx (UM (cv:=cv)) (C.gl h'.1) (C.bm _ (by decide)) PySem.boot_len (zu sa.pe zK (zd a _ _)) (by decide) (by decide) (zd a _ _) rfl) λ σ H Q=>zb λ μ ρ h hr er q=>?_
   refine zc (m:=a.ev cl) hr er q λ da h1 μ1 H1 x _ e1 r1 er1 qa p1=>?_
   exact ⟨x,rfl,μ1,h1,da,_,r1,qa,p1⟩
  exact ⟨pe,λ _=>by exact zB pe λ _=>rfl⟩
 | .isi T a p0 p1 p,X,Z,k,n,cv,cl,C,h=>by
  have h':((gOf X.env.scope "isinstance"=true/\gOf X.env.scope (qM T)=true)/\T<5)/\a.ok X.env.scope n=true:=by have h:(_&&_)=true:=h;simpa using h
  have sa:=sE a X Z k n cv cl C h'.2
  obtain ⟨b1,b2,b3,b4⟩:=z2c T h'.1.2
  have pe:PE X ((E.isi T a p0 p1 p).py n) (zt X.K cv (Rep X.K) Z ((E.isi T a p0 p1 p).ev cl)):=by
   refine PE.mono (wx (Gq (cv:=cv) T h'.1.2) (C.gl h'.1.1.1) (C.bm _ (by decide)) PyProof.Rows.boot_isinstance (zu sa.pe (zu (Om (v:=.ty (YV T)) (C.gl h'.1.1.2) (C.bm _ b4) b1 rfl b2 b3) zK) (zd a _ _)) (by decide) (by decide) (zd a _ _) rfl) λ σ H Q=>zb λ μ ρ h hr er q=>?_
   refine zc (m:=a.ev cl) hr er q λ da h1 μ1 H1 x _ e1 r1 er1 qa p1=>?_
   exact ⟨x,rfl,μ1,h1,da,_,r1,qa,p1⟩
  exact ⟨pe,λ _=>by exact zB pe λ _=>rfl⟩
 | .isC x ys a p0 p1 p,X,Z,k,n,cv,cl,C,h=>by
  have h':((gOf X.env.scope "isinstance"=true/\gOf X.env.scope x=true)/\(x,Cn.isc x ys)∈n.G)/\a.ok X.env.scope n=true:=by have h:(_&&_)=true:=h;simpa using h
  have sa:=sE a X Z k n cv cl C h'.2
  obtain ⟨hd,v,hm,Dd,rfl,ok⟩:=C.gc x _ h'.1.2
  have pe:PE X ((E.isC x ys a p0 p1 p).py n) (zt X.K cv (Rep X.K) Z ((E.isC x ys a p0 p1 p).ev cl)):=by
   refine PE.mono (wx (GA (d:=Dd)) (C.gl h'.1.1.1) (C.bm _ (by decide)) PyProof.Rows.boot_isinstance (zu sa.pe (zu (jw (v:=.ref Dd) (C.gl h'.1.1.2) hm rfl hd) zK) (zd a _ _)) (by decide) (by decide) (zd a _ _) rfl) λ σ H Q=>zb λ μ ρ h hr er q=>?_
   refine zc (m:=a.ev cl) hr er q λ da h1 μ1 H1 y _ e1 r1 er1 qa p1=>?_
   unfold B3 at p1
   cases qa with
   | @loc nn b m =>
    cases e2:h1[nn]? with
    | none=>simp only [e2] at p1;exact p1.elim
    | some o =>
     have q:=r1.obj nn b o m e2
     cases o with
     | lst _=>simp only [e2] at p1;exact p1.elim
     | dK _=>simp only [e2] at p1;exact p1.elim
     | obj y fs =>
      simp only [e2] at p1
      obtain ⟨Cc,dx,vs,q1,q2,q3⟩:=q
      by_cases hy:y∈ys
      ·rw [if_pos hy] at p1
       obtain ⟨C',g1,g2,g3⟩:=ok y hy
       have e4:=q2.nm.symm.trans g1
       cases e4
       exact ⟨b,Cc,_,dx,vs,rfl,q1,q2.cl,g2,g3,p1.here r1 (.bl _)⟩
      ·rw [if_neg hy] at p1;exact p1.elim
   | _=>exact p1.elim
  exact ⟨pe,λ _=>by exact zB pe λ _=>rfl⟩
 | .sub a i p,X,Z,k,n,cv,cl,C,h=>by
  have h':a.ok X.env.scope n=true/\i.ok X.env.scope n=true:=by have h:(_&&_)=true:=h;simpa using h
  have sa:=sE a X Z k n cv cl C h'.1
  have sb:=sE i X Z k n cv cl C h'.2
  have pe:PE X ((E.sub a i p).py n) (zt X.K cv (Rep X.K) Z ((E.sub a i p).ev cl)):=by
   refine PE.mono (VH (Bf (cv:=cv) (BZ C.rm)) sa.pe sb.pe (ZH i)) λ σ H Q q=>?_
   exact Go q
  exact ⟨pe,λ _=>by exact zB pe λ _=>rfl⟩
 | .tup es p,X,Z,k,n,cv,cl,C,h=>by
  have h':es.ok X.env.scope n=true:=by exact h
  have sr:=sEs es X Z k n cv cl C h'
  have pe:PE X ((E.tup es p).py n) (zt X.K cv (Rep X.K) Z ((E.tup es p).ev cl)):=by
   refine PE.mono (z1k sr.pa) λ σ H Q=>zb λ μ ρ h hr er q=>?_
   refine zc (m:=es.ev cl) hr er q λ ds h1 μ1 H1 xs _ e1 r1 er1 qa p1=>?_
   split at p1
   ·rename_i c
    refine ⟨by rw [<- qa.length];exact Y2h (Jy c),λ a ha=>?_⟩
    exact p1 μ1 _ (.ref a) (zp ha) (r1.tup ha) (.tup (SqT.of zx) (qa.mono (zp ha)))
   ·exact p1.elim
  exact ⟨pe,λ _=>by exact zB pe λ _=>rfl⟩
 | .ofL l,X,Z,k,n,cv,cl,C,h=>by
  have sl:=sL l X Z k n cv cl C (by exact h)
  refine ⟨?_,λ z=>nomatch z⟩
  refine PE.mono sl λ σ H Q=>zb λ μ ρ h hr er q=>?_
  refine j6 (m:=l.ev cl) Ext.refl hr er q (λ _ _ z=>z) λ ds h1 μ1 H1 x _ e1 r1 er1 qa p1=>?_
  obtain ⟨p,vs,rfl,g1,g2,g3,g4⟩:=qa
  refine p1 (μ1++[p]) H1 _ (e1.add g4) (r1.add g3 λ μ' gr=>⟨vs,g1,g2.mono' gr⟩) (.loc ?_)
  rw [<- r1.len,Y08 (Y03 _),Y0w]
  rfl
 | .tupE e p0 p,X,Z,k,n,cv,cl,C,h=>by
  have h':gOf X.env.scope "tuple"=true/\e.ok X.env.scope n=true:=by have h:(_&&_)=true:=h;simpa using h
  have se:=sE e X Z k n cv cl C h'.2
  have pe:PE X ((E.tupE e p0 p).py n) (zt X.K cv (Rep X.K) Z ((E.tupE e p0 p).ev cl)):=by
   refine PE.mono (wy (UN (cv:=cv)) (C.gl h'.1) (C.bm _ (by decide)) PyProof.Rows.boot_tuple (zu se.pe zK (zd e _ _)) (by decide) (by decide) (zd e _ _) rfl) λ σ H Q=>zb λ μ ρ h hr er q=>?_
   refine zc (m:=e.ev cl) hr er q λ da h1 μ1 H1 x _ e1 r1 er1 qa p1=>?_
   exact ⟨x,rfl,μ1,h1,da,_,r1,qa,p1⟩
  exact ⟨pe,λ _=>by exact zB pe λ _=>rfl⟩
 | .listE e p0 p,X,Z,k,n,cv,cl,C,h=>by
  have h':gOf X.env.scope "list"=true/\e.ok X.env.scope n=true:=by have h:(_&&_)=true:=h;simpa using h
  have se:=sE e X Z k n cv cl C h'.2
  have pe:PE X ((E.listE e p0 p).py n) (zt X.K cv (Rep X.K) Z ((E.listE e p0 p).ev cl)):=by
   refine PE.mono (wy (Y9 (cv:=cv)) (C.gl h'.1) (C.bm _ (by decide)) PyProof.Rows.boot_list (zu se.pe zK (zd e _ _)) (by decide) (by decide) (zd e _ _) rfl) λ σ H Q=>zb λ μ ρ h hr er q=>?_
   refine zc (m:=e.ev cl) hr er q λ da h1 μ1 H1 x _ e1 r1 er1 qa p1=>?_
   exact ⟨x,rfl,μ1,h1,da,_,r1,qa,p1⟩
  exact ⟨pe,λ _=>by exact zB pe λ _=>rfl⟩
 | .dicP e p0 p,X,Z,k,n,cv,cl,C,h=>by
  have h':gOf X.env.scope "dict"=true/\e.ok X.env.scope n=true:=by have h:(_&&_)=true:=h;simpa using h
  have se:=sE e X Z k n cv cl C h'.2
  have pe:PE X ((E.dicP e p0 p).py n) (zt X.K cv (Rep X.K) Z ((E.dicP e p0 p).ev cl)):=by
   refine PE.mono (wy (Yb (cv:=cv) C.cm) (C.gl h'.1) (C.bm _ (by decide)) rfl (zu se.pe zK (zd e _ _)) (by decide) (by decide) (zd e _ _) rfl) λ σ H Q=>zb λ μ ρ h hr er q=>?_
   refine zc (m:=e.ev cl) hr er q λ da h1 μ1 H1 x _ e1 r1 er1 qa p1=>?_
   exact ⟨x,rfl,μ1,h1,da,_,r1,qa,p1⟩
  exact ⟨pe,λ _=>by exact zB pe λ _=>rfl⟩
 | .dispD ks vs p,X,Z,k,n,cv,cl,C,h=>by
  have h':((vs.ok X.env.scope n=true/\ks.length=(vs.py n).length)/\ks.length<=15)/\0<ks.length:=by have h:(_&&_)=true:=h;simpa using h
  have sv:=sEs vs X Z k n cv cl C h'.1.1.1
  obtain ⟨trs,pp,go⟩:=sv.ps ks p h'.1.1.2
  refine ⟨?_,λ z=>nomatch z⟩
  refine PE.mono (OL pp (by simp) (by rw [Y0j];exact h'.1.1.2) (λ z=>by have:=congrArg List.length z;rw [Y0j] at this;have:=h'.2;simp_all) (by rw [Y0j];exact h'.1.2)) λ σ H Q=>zb λ μ ρ h hr er q=>?_
  intro b hb
  have hr':HR X.K (μ++[b]) (h++[.dK []]) (upd H b (.dK [])):=hr.alloc hb (hr.fresh hb) λ μ' g=>⟨_,zx,.nil⟩
  have e0:Ext X.K μ H (μ++[b]) (upd H b (.dK [])):=(zp hb).add hb
  refine go σ _ _ (j6 (m:=vs.ev cl) e0 hr' (er.mono e0) q (λ _ _ z=>z) λ ds h1 μ1 H1 us _ e1 r1 er1 qa p1=>?_)
  refine UU (e1.loc h.length b ?_) r1 qa h'.1.2 (e0.trans e1) p1
  rw [<- hr.len,Y08 (Y03 _),Y0w]
  rfl
 | .cut a lo hi p2 p,X,Z,k,n,cv,cl,C,h=>by
  have h':(a.ok X.env.scope n=true/\lo.ok X.env.scope n=true)/\hi.ok X.env.scope n=true:=by have h:(_&&_)=true:=h;simpa using h
  have sa:=sE a X Z k n cv cl C h'.1.1
  have sl:=sEo lo X Z k n cv cl C h'.1.2
  have sh:=sEo hi X Z k n cv cl C h'.2
  have pe:PE X ((E.cut a lo hi p2 p).py n) (zt X.K cv (Rep X.K) Z ((E.cut a lo hi p2 p).ev cl)):=by
   refine PE.mono (VG (Bj (cv:=cv)) sa.pe sl sh) λ σ H Q=>zb λ μ ρ h hr er q=>?_
   refine zc (m:=a.ev cl) hr er q λ da h1 μ1 H1 x _ e1 r1 er1 qa p1=>?_
   refine zc (m:=lo.ev cl) (R:=λ _ _ a b=>a=b) r1 er1 p1 λ l h2 μ2 H2 l' _ e2 r2 er2 ql p2=>?_
   have ql':l=l':=ql
   subst ql'
   refine zc (m:=hi.ev cl) (R:=λ _ _ a b=>a=b) r2 er2 p2 λ u h3 μ3 H3 u' _ e3 r3 er3 qu p3=>?_
   have qu':u=u':=qu
   subst qu'
   exact ⟨μ3,h3,da,_,r3,(qa.mono e2).mono e3,p3⟩
  exact ⟨pe,λ _=>by exact zB pe λ _=>rfl⟩
 | .dic p,X,Z,k,n,cv,cl,C,h=>by
  refine ⟨?_,λ z=>nomatch z⟩
  refine PE.mono VO λ σ H Q=>zb λ μ ρ h hr er q=>?_
  intro b hb
  refine q _ _ _ ((zp hb).add hb) (hr.alloc hb (hr.fresh hb) λ μ' g=>⟨_,zx,.nil⟩) (.loc ?_)
  rw [<- hr.len,Y08 (Y03 _),Y0w]
  rfl
 | .m0 m o p1 p,X,Z,k,n,cv,cl,C,h=>by
  have h':o.ok X.env.scope n=true/\p1.endLine=p.line:=by have h:(_&&_)=true:=h;simpa using h
  have so:=sE o X Z k n cv cl C h'.1
  have hl:(p1.endLine==p.line)=true:=beq_iff_eq.mpr h'.2
  have pe:PE X ((E.m0 m o p1 p).py n) (zt X.K cv (Rep X.K) Z ((E.m0 m o p1 p).ev cl)):=by
   cases m with
   | pop =>
    refine PE.mono (z1p Y2n PySem.F.slot_list_pop PySem.F.type_list_pop (Bg (cv:=cv)) so.pe (qN o _ _) hl) λ σ H Q=>zb λ μ ρ h hr er q=>?_
    refine zc (m:=o.ev cl) hr er q λ da h1 μ1 H1 x _ e1 r1 er1 qa p1=>?_
    exact ⟨z4b r1 qa λ z=>by rw [z] at p1;exact p1,rfl,μ1,h1,da,_,r1,qa,p1⟩
  exact ⟨pe,λ _=>by exact zB pe λ _=>rfl⟩
 | .m1 m o a p1 p,X,Z,k,n,cv,cl,C,h=>by
  have h':(o.ok X.env.scope n=true/\a.ok X.env.scope n=true)/\p1.endLine=p.line:=by have h:(_&&_)=true:=h;simpa using h
  have so:=sE o X Z k n cv cl C h'.1.1
  have sa:=sE a X Z k n cv cl C h'.1.2
  have hl:(p1.endLine==p.line)=true:=beq_iff_eq.mpr h'.2
  have pe:PE X ((E.m1 m o a p1 p).py n) (zt X.K cv (Rep X.K) Z ((E.m1 m o a p1 p).ev cl)):=by
   cases m with
   | append =>
    refine PE.mono (BY Y2n PySem.F.slot_list_append PySem.F.type_list_append (Y8 (cv:=cv)) so.pe (zu sa.pe zK (zd a _ _)) (qN o _ _) (U5 a _ _) hl (zd a _ _) rfl) λ σ H Q=>zb λ μ ρ h hr er q=>?_
    refine zc (m:=o.ev cl) hr er q λ da h1 μ1 H1 x _ e1 r1 er1 qa p1=>?_
    obtain ⟨ty,p1⟩:=Gz r1 qa p1
    refine ⟨ty,?_⟩
    refine zc (m:=a.ev cl) r1 er1 p1 λ db h2 μ2 H2 y _ e2 r2 er2 qb p2=>?_
    exact ⟨y,rfl,μ2,h2,da,db,_,r2,qa.mono e2,qb,p2⟩
   | index =>
    refine PE.mono (BY Y2n PySem.F.slot_list_index PySem.F.type_list_index (UT (cv:=cv)) so.pe (zu sa.pe zK (zd a _ _)) (qN o _ _) (U5 a _ _) hl (zd a _ _) rfl) λ σ H Q=>zb λ μ ρ h hr er q=>?_
    refine zc (m:=o.ev cl) hr er q λ da h1 μ1 H1 x _ e1 r1 er1 qa p1=>?_
    obtain ⟨ty,p1⟩:=Gz r1 qa p1
    refine ⟨ty,?_⟩
    refine zc (m:=a.ev cl) r1 er1 p1 λ db h2 μ2 H2 y _ e2 r2 er2 qb p2=>?_
    exact ⟨y,rfl,μ2,h2,da,db,_,r2,qa.mono e2,qb,p2⟩
  exact ⟨pe,λ _=>by exact zB pe λ _=>rfl⟩
 | .gcon x c p,X,Z,k,n,cv,cl,C,h=>by
  have h':gOf X.env.scope x=true/\(x,c)∈n.G:=by have h:(_&&_)=true:=h;simpa using h
  obtain ⟨hd,v,hm,ok⟩:=C.gc x c h'.2
  have pe:PE X ((E.gcon x c p).py n) (zt X.K cv (Rep X.K) Z ((E.gcon x c p).ev cl)):=by
   cases c with
   | int i =>
    obtain ⟨t,rfl⟩:=ok
    refine PE.mono (jw (v:=.int i) (C.gl h'.1) hm ⟨t,rfl⟩ hd) λ σ H Q=>zb λ μ ρ h hr er q=>?_
    exact q.here hr (.int i)
   | str z =>
    obtain ⟨t,rfl⟩:=ok
    refine PE.mono (jw (v:=.str z) (C.gl h'.1) hm ⟨t,rfl⟩ hd) λ σ H Q=>zb λ μ ρ h hr er q=>?_
    exact q.here hr (.str z)
   | tup xs =>
    obtain ⟨a,rfl,tk⟩:=ok
    refine PE.mono (jw (v:=.ref a) (C.gl h'.1) hm rfl hd) λ σ H Q=>zb λ μ ρ h hr er q=>?_
    exact q.here hr tk.rep
   | dic kvs =>
    obtain ⟨a,o,es,ep,vs,rfl,_⟩:=ok
    refine PE.mono (jw (v:=.ref a) (C.gl h'.1) hm rfl hd) λ σ H Q=>zb λ μ ρ h hr er q=>?_
    exact q.elim
   | cls i =>
    obtain ⟨a,rfl⟩:=ok
    refine PE.mono (jw (v:=.ref a) (C.gl h'.1) hm rfl hd) λ σ H Q=>zb λ μ ρ h hr er q=>?_
    exact q.elim
   | isc x' ys =>
    obtain ⟨a,rfl,_⟩:=ok
    refine PE.mono (jw (v:=.ref a) (C.gl h'.1) hm rfl hd) λ σ H Q=>zb λ μ ρ h hr er q=>?_
    exact q.elim
   | exc c u =>
    obtain ⟨a,_,_,_,_,rfl,_⟩:=ok
    refine PE.mono (jw (v:=.ref a) (C.gl h'.1) hm rfl hd) λ σ H Q=>zb λ μ ρ h hr er q=>?_
    exact q.elim
  exact ⟨pe,λ z=>by cases z⟩
 | .gsub x kvs i p0 p,X,Z,k,n,cv,cl,C,h=>by
  have h':(gOf X.env.scope x=true/\(x,Cn.dic kvs)∈n.G)/\i.ok X.env.scope n=true:=by have h:(_&&_)=true:=h;simpa using h
  obtain ⟨hd,v,hm,ok⟩:=C.gc x _ h'.1.2
  have si:=sE i X Z k n cv cl C h'.2
  have pe:PE X ((E.gsub x kvs i p0 p).py n) (zt X.K cv (Rep X.K) Z ((E.gsub x kvs i p0 p).ev cl)):=by
   have ok':=ok
   obtain ⟨a,o,es,ep,vs,rfl,_⟩:=ok'
   refine PE.mono (VH (Gp (kvs:=kvs)) (jw (v:=.ref a) (C.gl h'.1.1) hm rfl hd) si.pe (ZH i)) λ σ H Q=>zb λ μ ρ h hr er q=>?_
   refine zc (m:=i.ev cl) hr er q λ d h1 μ1 H1 y _ e1 r1 er1 qa p1=>?_
   unfold z45 at p1
   cases qa with
   | str kk =>
    simp only at p1
    split at p1
    ·rename_i xs l
     split at p1
     ·exact p1.elim
     ·rename_i nf
      exact ⟨a,kk,xs,rfl,rfl,ok,l,λ b tk=>p1.here r1 (tk.rep ((Bool.not_eq_true _).mp nf))⟩
    ·exact p1.elim
   | _=>exact p1.elim
  exact ⟨pe,λ _=>by exact zB pe λ _=>rfl⟩
 | .c1 f a p0 p,X,Z,k,n,cv,cl,C,h=>by
  have h':gOf X.env.scope f.name=true/\a.ok X.env.scope n=true:=by have h:(_&&_)=true:=h;simpa using h
  have sa:=sE a X Z k n cv cl C h'.2
  have fin:∀ {σ H Q},zt X.K cv (Rep X.K) Z ((E.c1 f a p0 p).ev cl) σ H Q->zt X.K cv (Rep X.K) Z (a.ev cl) σ H λ x H1=>∃ y,[x]=[y]/\r1 X.K cv (c1D f) y H1 Q:=λ {σ H Q} ⟨μ,ρ,h,hr,er,q⟩=>by
   refine zc (m:=a.ev cl) hr er q λ da h1 μ1 H1 x _ e1 r1 er1 qa p1=>?_
   exact ⟨x,rfl,μ1,h1,da,_,r1,qa,p1⟩
  have pe:PE X ((E.c1 f a p0 p).py n) (zt X.K cv (Rep X.K) Z ((E.c1 f a p0 p).ev cl)):=by
   cases f with
   | str=>exact PE.mono (wy (UO (cv:=cv)) (C.gl h'.1) (C.bm _ (by decide)) PyProof.Rows.boot_str (zu sa.pe zK (zd a _ _)) (by decide) (by decide) (zd a _ _) rfl) λ σ H Q q=>fin q
   | int=>exact PE.mono (wy (UP (cv:=cv)) (C.gl h'.1) (C.bm _ (by decide)) PyProof.Rows.boot_int (zu sa.pe zK (zd a _ _)) (by decide) (by decide) (zd a _ _) rfl) λ σ H Q q=>fin q
   | all=>exact PE.mono (wx (UR (cv:=cv) C.cm) (C.gl h'.1) (C.bm _ (by decide)) PyProof.Rows.boot_all (zu sa.pe zK (zd a _ _)) (by decide) (by decide) (zd a _ _) rfl) λ σ H Q q=>fin q
   | any=>exact PE.mono (wx (US (cv:=cv) C.cm) (C.gl h'.1) (C.bm _ (by decide)) PyProof.Rows.boot_any (zu sa.pe zK (zd a _ _)) (by decide) (by decide) (zd a _ _) rfl) λ σ H Q q=>fin q
   | abs=>exact PE.mono (wx (UQ (cv:=cv)) (C.gl h'.1) (C.bm _ (by decide)) PyProof.Rows.boot_abs (zu sa.pe zK (zd a _ _)) (by decide) (by decide) (zd a _ _) rfl) λ σ H Q q=>fin q
  exact ⟨pe,λ _=>by exact zB pe λ _=>rfl⟩
 | .listR e p0 p1 p2 p,X,Z,k,n,cv,cl,C,h=>by
  have h':(gOf X.env.scope "list"=true/\gOf X.env.scope "reversed"=true)/\e.ok X.env.scope n=true:=by have h:(_&&_)=true:=h;simpa using h
  have se:=sE e X Z k n cv cl C h'.2
  have pe:PE X ((E.listR e p0 p1 p2 p).py n) (zt X.K cv (Rep X.K) Z ((E.listR e p0 p1 p2 p).ev cl)):=by
   refine PE.mono (QV C.cm (C.gl h'.1.2) (C.bm _ (by decide)) (C.gl h'.1.1) (C.bm _ (by decide)) (zu se.pe zK (zd e _ _)) (zd e _ _)) λ σ H Q=>zb λ μ ρ h hr er q=>?_
   refine zc (m:=e.ev cl) hr er q λ d h1 μ1 H1 x _ e1 r1 er1 qa p1=>?_
   unfold lrD at p1
   cases qa with
   | @fl ds vs a f r=>exact ⟨a,vs,rfl,f.sq,ya r1 r.reverse p1⟩
   | @loc nn b m =>
    cases e2:PI.rd h1 nn with
    | none=>simp only [e2] at p1;exact p1.elim
    | some ds =>
     simp only [e2] at p1
     obtain ⟨vs,q1,q2⟩:=jX r1 m e2
     exact ⟨b,vs,rfl,SqL.of q1,ya r1 q2.reverse p1⟩
   | _=>exact p1.elim
  exact ⟨pe,λ _=>by exact zB pe λ _=>rfl⟩
 | .cmpN neg a p1 p,X,Z,k,n,cv,cl,C,h=>by
  have h':a.ok X.env.scope n=true:=by exact h
  have sa:=sE a X Z k n cv cl C h'
  have hu:X.A.units<cLine:=by have:=C.rm.units;omega
  have hop:OpR X (compareOp (if neg then .NotEq else .Eq)) (OP X.K neg):=by cases neg with | true=>exact G1 hu | false=>exact G0 hu
  have hb:behindInMarks (if neg then .NotEq else .Eq) (.List [] p1)=false:=by cases neg<;>rfl
  have fin:∀ {μ1:List Addr}{h1:Hh}{H1:Hp}{x:V}{da:D}{Q:VK}{Z1:Value->Hp->Prop},HR X.K μ1 h1 H1->Rep X.K μ1 H1 da x->PostE X.K cv (Rep X.K) μ1 H1 (Y4 neg da h1) Q Z1->∀ b,H1 b=none->OP X.K neg x (.ref b) (upd H1 b (.lst [])) Q:=λ {μ1 h1 H1 x da Q Z1} r1 qa p1 b hb'=>by
   unfold Y4 at p1
   have q2:=SqL.of (K:=X.K) (zx (H:=H1) (a:=b) (o:=.lst []))
   cases qa with
   | @fl ds vs a f r =>
    refine ⟨a,b,vs,rfl,rfl,((zp (μ:=μ1) hb').fz _ _ f).sq,q2,?_⟩
    have z:=p1 μ1 (upd H1 b (.lst [])) _ (zp hb') (r1.tup hb') (.bl _)
    rw [r.isEmpty] at z
    exact z
   | @loc nn a m =>
    cases e2:PI.rd h1 nn with
    | none=>simp only [e2] at p1;exact p1.elim
    | some ds =>
     simp only [e2] at p1
     obtain ⟨vs,q1,r⟩:=jX r1 m e2
     refine ⟨a,b,vs,rfl,rfl,SqL.of (by rw [zq (by intro z;rw [z,hb'] at q1;cases q1)];exact q1),q2,?_⟩
     have z:=p1 μ1 (upd H1 b (.lst [])) _ (zp hb') (r1.tup hb') (.bl _)
     rw [r.isEmpty] at z
     exact z
   | _=>exact p1.elim
  have pe:PE X ((E.cmpN neg a p1 p).py n) (zt X.K cv (Rep X.K) Z ((E.cmpN neg a p1 p).ev cl)):=by
   refine PE.mono (YH hop sa.pe (QL zK) hb) λ σ H Q=>zb λ μ ρ h hr er q=>?_
   refine zc (m:=a.ev cl) hr er q λ da h1 μ1 H1 x _ e1 r1 er1 qa p1=>?_
   exact ⟨Y1h _,λ b hb'=>fin r1 qa p1 b hb'⟩
  refine ⟨pe,λ _=>?_⟩
  refine PT.mono (YI hop sa.pe (QL zK) hb) λ σ H Q=>zb λ μ ρ h hr er q=>?_
  have q:PostE X.K cv RB μ H (((a.ev cl ρ h).bind λ x h1=>Y4 neg x h1).bind toB) Q (Z σ):=q
  rw [zm] at q
  unfold VA
  refine zc (m:=a.ev cl) hr er q λ da h1 μ1 H1 x _ e1 r1 er1 qa p1=>?_
  refine ⟨Y1h _,λ b hb'=>fin (Z1:=Z σ) r1 qa ?_ b hb'⟩
  cases e3:Y4 neg da h1 with
  | ok d h3 =>
   rw [e3] at p1
   intro μ3 H3 v x1 x2 x3
   unfold Res.bind toB at p1
   cases x3 with
   | bl c=>exact ⟨c,rfl,p1 μ3 H3 c x1 x2 rfl⟩
   | _=>exact p1.elim
  | exc c h3=>rw [e3] at p1;exact p1
  | no=>rw [e3] at p1;exact p1
theorem sEo:∀ (e:Eo) (X:Cx) (Z:ZK) (k:Nat) (n:Nm) (cv:Nat->Value) (cl:Nat->List D->Hh->Res D),Kx X Z k n cv cl->e.ok X.env.scope n=true->PO X (e.py n) (zt X.K cv (λ _ _ a b=>a=b) Z (e.ev cl))
 | .none,X,Z,k,n,cv,cl,C,h=>by
  refine PO.mono OD λ σ H Q=>zb λ μ ρ h hr er q=>?_
  exact q.here hr rfl
 | .some e,X,Z,k,n,cv,cl,C,h=>by
  have se:=sE e X Z k n cv cl C (by exact h)
  refine PO.mono (OE se.pe) λ σ H Q=>zb λ μ ρ h hr er q=>?_
  refine zc (m:=e.ev cl) hr er q λ d h1 μ1 H1 x _ e1 r1 er1 qa p1=>?_
  unfold z44 at p1
  cases qa with
  | int i=>exact ⟨i,rfl,p1.here r1 rfl⟩
  | _=>exact p1.elim
theorem sL:∀ (l:L) (X:Cx) (Z:ZK) (k:Nat) (n:Nm) (cv:Nat->Value) (cl:Nat->List D->Hh->Res D),Kx X Z k n cv cl->l.ok X.env.scope n=true->PE X (l.py n) (Gv X.K cv Z (l.ev cl))
 | .disp es p,X,Z,k,n,cv,cl,C,h=>by
  have sr:=sEs es X Z k n cv cl C (by exact h)
  refine PE.mono (QL sr.pa) λ σ H Q=>zb λ μ ρ h hr er q=>?_
  refine j6 (m:=es.ev cl) Ext.refl hr er q (λ _ _ z=>z) λ ds h1 μ1 H1 xs _ e1 r1 er1 qa p1=>?_
  split at p1
  ·rename_i c
   refine ⟨by rw [<- qa.length];exact Y2h (Jy c),λ a ha=>?_⟩
   have na:=r1.fresh ha
   have n0:H a=none:=by
    cases e:H a with
    | none=>rfl
    | some o=>rw [e1.oth a o e λ z=>na (e1.sub z)] at ha;cases ha
   exact p1 μ1 _ _ (e1.trans (zp ha)) (r1.tup ha) ⟨a,xs,rfl,zx,qa.mono (zp ha),na,n0⟩
  ·exact p1.elim
 | .comp elt t it c NC cap csc p,X,Z,k,n,cv,cl,C,h=>by
  obtain ⟨k1,k2',k3,k4,k5,k6,k7,k8,k9⟩:=U6 C h
  have hit:=sI it X Z k n cv cl C k1.1 t k1.2 NC
  exact Gy (X:=X) (Z:=Z) (cv:=cv) (mi:=it.ev cl) (mc:=c.evC cl) (me:=elt.ev cl) (pos:=p) (elt:=elt.py ⟨NC,n.F,n.G⟩) (iter:=it.py n) (ifs:=c.py ⟨NC,n.F,n.G⟩) C.cm C.th hit k2' k5
   (λ Cc s H fp pn xe=>U8 C.kd k2' k3 k5)
   (λ Cc s H fp pn xe Zc th=>by
    have Cc':=C.comp k2' k3 k4 th
    cases c with
    | nil=>exact U7
    | cons e r =>
     cases r with
     | cons _ _=>cases k9
     | nil =>
      have se:=sE e _ Zc k ⟨NC,n.F,n.G⟩ cv cl Cc' (by have k7:(_&&_)=true:=k7;simp at k7;exact k7.1)
      have ht:=se.pt (by have k8:(_&&_)=true:=k8;simp at k8;exact k8.1)
      exact VU ht)
   (λ Cc s H fp pn xe Zc th=>(sE elt _ Zc k ⟨NC,n.F,n.G⟩ cv cl (C.comp k2' k3 k4 th) k6).pe) (qO it)
theorem sI:∀ (it:I) (X:Cx) (Z:ZK) (k:Nat) (n:Nm) (cv:Nat->Value) (cl:Nat->List D->Hh->Res D),Kx X Z k n cv cl->it.ok X.env.scope n=true->∀ t:Tg,t.forI it=true->∀ N,L2.PI X (t.py N) (it.py n) (zt X.K cv (RJ X.K) Z (it.ev cl))
 | .seq e,X,Z,k,n,cv,cl,C,h=>λ t ht N=>by
  have se:=sE e X Z k n cv cl C (by exact h)
  refine PI.mono (z2a se.pe) λ σ H Q=>zb λ μ ρ h hr er q=>?_
  refine zc (m:=e.ev cl) hr er q λ d h1 μ1 H1 x _ e1 r1 er1 qa p1=>?_
  cases qa with
  | tup g1 g2=>exact .inr (.inl ⟨_,rfl,⟨_,g1⟩,p1.here r1 (Bm g1 g2)⟩)
  | fl g1 g2=>exact .inl ⟨_,rfl,⟨_,g1.sq⟩,p1.here r1 (z29 g1 g2)⟩
  | str z=>exact .inr (.inr ⟨_,rfl,p1.here r1 (Bn z)⟩)
  | @loc nn a m =>
   cases e2:rd h1 nn with
   | none=>simp only [e2] at p1;exact p1.elim
   | some xs =>
    simp only [e2] at p1
    obtain ⟨vs,hs1,rs⟩:=r1.rd e2 m
    exact .inl ⟨_,rfl,⟨_,hs1⟩,p1.here r1 (Bk m)⟩
  | _=>exact p1.elim
 | .lst l,X,Z,k,n,cv,cl,C,h=>λ t ht N=>by
  have sl:=sL l X Z k n cv cl C (by exact h)
  refine PI.mono (Ou sl) λ σ H Q=>zb λ μ ρ h hr er q=>?_
  refine j6 (m:=l.ev cl) Ext.refl hr er q (λ _ _ z=>z) λ ds h1 μ1 H1 x _ e1 r1 er1 qa p1=>?_
  obtain ⟨p,vs,rfl,g1,g2,g3,g4⟩:=qa
  exact ⟨p,rfl,⟨vs,SqL.of g1⟩,p1 μ1 H1 _ e1 r1 (Bl g1 g3 g2)⟩
 | .rng a p0 p,X,Z,k,n,cv,cl,C,h=>λ t ht N=>by
  have h':gOf X.env.scope "range"=true/\a.ok X.env.scope n=true:=by have h:(_&&_)=true:=h;simpa using h
  have sa:=sE a X Z k n cv cl C h'.2
  refine PI.mono (Ut (C.gl h'.1) (C.bm _ (by decide)) (zu sa.pe zK (zd a _ _)) (zd a _ _)) λ σ H Q=>zb λ μ ρ h hr er q=>?_
  refine zc (m:=a.ev cl) hr er q λ d h1 μ1 H1 x _ e1 r1 er1 qa p1=>?_
  cases qa with
  | int j =>
   simp only at p1
   split at p1
   ·rename_i c
    exact ⟨j,rfl,by have:=c.1;omega,by have:=c.2;omega,p1.here r1 (Br j.toNat)⟩
   ·exact p1.elim
  | _=>exact p1.elim
 | .rev e p0 p,X,Z,k,n,cv,cl,C,h=>λ t ht N=>by
  have h':gOf X.env.scope "reversed"=true/\e.ok X.env.scope n=true:=by have h:(_&&_)=true:=h;simpa using h
  have sa:=sE e X Z k n cv cl C h'.2
  refine PI.mono (OY (C.gl h'.1) (C.bm _ (by decide)) (zu sa.pe zK (zd e _ _)) (zd e _ _)) λ σ H Q=>zb λ μ ρ h hr er q=>?_
  refine zc (m:=e.ev cl) hr er q λ d h1 μ1 H1 x _ e1 r1 er1 qa p1=>?_
  unfold z24 at p1
  cases qa with
  | @fl ds vs a f r =>
   simp only at p1
   refine ⟨a,vs,rfl,.inl ⟨f.sq,?_⟩⟩
   rw [<- r.length]
   exact p1.here r1 (Bq f r)
  | @tup ds vs a f r =>
   simp only at p1
   refine ⟨a,vs,rfl,.inr ⟨f,?_⟩⟩
   rw [<- r.length]
   exact p1.here r1 (Bo f r)
  | @loc nn b m =>
   cases e2:PI.rd h1 nn with
   | none=>simp only [e2] at p1;exact p1.elim
   | some ds =>
    simp only [e2] at p1
    obtain ⟨vs,q1,q2⟩:=jX r1 m e2
    refine ⟨b,vs,rfl,.inl ⟨SqL.of q1,?_⟩⟩
    rw [<- q2.length]
    exact p1.here r1 (Bp m)
  | _=>exact p1.elim
 | .zip a b p0 p,X,Z,k,n,cv,cl,C,h=>λ t ht N=>by
  cases t with
  | one i q =>
   have h':(gOf X.env.scope "zip"=true/\a.ok X.env.scope n=true)/\b.ok X.env.scope n=true:=by have h:(_&&_)=true:=h;simpa using h
   have sa:=sE a X Z k n cv cl C h'.1.2
   have sb:=sE b X Z k n cv cl C h'.2
   refine PI.mono (B2 (C.gl h'.1.1) (C.bm _ (by decide)) (zu sa.pe (zu sb.pe zK (zd b _ _)) (zd a _ _)) (zd a _ _) (by rw [zd];rfl)) λ σ H Q=>zb λ μ ρ h hr er q=>?_
   refine zc (m:=a.ev cl) hr er q λ d h1 μ1 H1 x _ e1 r1 er1 qa p1=>?_
   refine zc (m:=b.ev cl) r1 er1 p1 λ d2 h2 μ2 H2 y _ e2 r2 er2 qb p2=>?_
   unfold Qa at p2
   cases g1:Y5 d h2 with
   | none=>rw [g1] at p2;exact p2.elim
   | some s1 =>
    cases g2:Y5 d2 h2 with
    | none=>simp only [g1,g2] at p2;exact p2.elim
    | some s2 =>
     simp only [g1,g2] at p2
     obtain ⟨l1,b1,vs,rfl,u1,v1,w1⟩:=Z8 (qa.mono e2) r2 g1
     obtain ⟨l2,b2,ws,rfl,u2,v2,w2⟩:=Z8 qb r2 g2
     refine ⟨l1,l2,b1,b2,vs,ws,rfl,u1,u2,?_⟩
     rw [v1,v2]
     exact p2.here r2 (U3 w1 w2)
  | tup is q =>
   have h':(gOf X.env.scope "zip"=true/\a.ok X.env.scope n=true)/\b.ok X.env.scope n=true:=by have h:(_&&_)=true:=h;simpa using h
   have sa:=sE a X Z k n cv cl C h'.1.2
   have sb:=sE b X Z k n cv cl C h'.2
   refine PI.mono (z1y (C.gl h'.1.1) (C.bm _ (by decide)) (zu sa.pe (zu sb.pe zK (zd b _ _)) (zd a _ _)) (zd a _ _) (by rw [zd];rfl)) λ σ H Q=>zb λ μ ρ h hr er q=>?_
   refine zc (m:=a.ev cl) hr er q λ d h1 μ1 H1 x _ e1 r1 er1 qa p1=>?_
   refine zc (m:=b.ev cl) r1 er1 p1 λ d2 h2 μ2 H2 y _ e2 r2 er2 qb p2=>?_
   unfold Qa at p2
   cases g1:Y5 d h2 with
   | none=>rw [g1] at p2;exact p2.elim
   | some s1 =>
    cases g2:Y5 d2 h2 with
    | none=>simp only [g1,g2] at p2;exact p2.elim
    | some s2 =>
     simp only [g1,g2] at p2
     obtain ⟨l1,b1,vs,rfl,u1,v1,w1⟩:=Z8 (qa.mono e2) r2 g1
     obtain ⟨l2,b2,ws,rfl,u2,v2,w2⟩:=Z8 qb r2 g2
     refine ⟨l1,l2,b1,b2,vs,ws,rfl,u1,u2,?_⟩
     rw [v1,v2]
     exact p2.here r2 (U3 w1 w2)
theorem sEs:∀ (r:Es) (X:Cx) (Z:ZK) (k:Nat) (n:Nm) (cv:Nat->Value) (cl:Nat->List D->Hh->Res D),Kx X Z k n cv cl->r.ok X.env.scope n=true->SEs X Z n cv cl r
 | .nil,X,Z,k,n,cv,cl,C,_=>by
  refine ⟨?_,λ b p sb=>?_,λ b p sb hb _=>?_,λ b p sb=>?_,λ b p sb hb _=>?_,z2b⟩
  ·skip
   refine PA.mono zK λ σ H Q=>zb λ μ ρ h hr er q=>?_
   exact q.here hr .nil
  ·skip
   refine PE.mono (Vq sb.pe) λ σ H Q=>zb λ μ ρ h hr er q=>⟨μ,ρ,h,hr,er,?_⟩
   have q:PostE X.K cv (Rep X.K) μ H ((b.ev cl ρ h).bind λ a h1=>.ok a h1) Q (Z σ):=q
   rwa [jM] at q
  ·skip
   refine PW.mono (On (sb.pt hb)) λ σ H Q=>zb λ μ ρ h hr er q=>⟨μ,ρ,h,hr,er,?_⟩
   have q:PostE X.K cv RB μ H ((b.evT cl ρ h).bind λ a h1=>.ok a h1) Q (Z σ):=q
   rwa [jM] at q
  ·skip
   refine PE.mono (Vq sb.pe) λ σ H Q=>zb λ μ ρ h hr er q=>⟨μ,ρ,h,hr,er,?_⟩
   have q:PostE X.K cv (Rep X.K) μ H ((b.ev cl ρ h).bind λ a h1=>.ok a h1) Q (Z σ):=q
   rwa [jM] at q
  ·skip
   refine PW.mono (z0p (sb.pt hb)) λ σ H Q=>zb λ μ ρ h hr er q=>⟨μ,ρ,h,hr,er,?_⟩
   have q:PostE X.K cv RB μ H ((b.evT cl ρ h).bind λ a h1=>.ok a h1) Q (Z σ):=q
   rwa [jM] at q
 | .cons e r,X,Z,k,n,cv,cl,C,h=>by
  have h':e.ok X.env.scope n=true/\r.ok X.env.scope n=true:=by have h:(_&&_)=true:=h;simpa using h
  have se:=sE e X Z k n cv cl C h'.1
  have sr:=sEs r X Z k n cv cl C h'.2
  refine ⟨?_,λ b p sb=>?_,λ b p sb hb hr'=>?_,λ b p sb=>?_,λ b p sb hb hr'=>?_,Bs se.pe sr.ps⟩
  ·skip
   refine PA.mono (zu se.pe sr.pa (zd e _ _)) λ σ H Q=>zb λ μ ρ h hr er q=>?_
   refine zc (m:=e.ev cl) hr er q λ da h1 μ1 H1 x _ e1 r1 er1 qa p1=>?_
   refine zc (m:=r.ev cl) r1 er1 p1 λ ds h2 μ2 H2 xs _ e2 r2 er2 qb p2=>?_
   exact p2.here r2 (.cons (qa.mono e2) qb)
  ·skip
   refine PE.mono (Vr sb.pe (sr.an e p se)) λ σ H Q=>zb λ μ ρ h hr er q=>?_
   refine zc (m:=b.ev cl) hr er q λ d h1 μ1 H1 x _ e1 r1 er1 qa p1=>?_
   cases qa with
   | bl c =>
    refine ⟨c,rfl,?_⟩
    cases c with
    | true=>exact yV ⟨μ1,ρ,h1,r1,er1,p1⟩
    | false=>exact yU (p1.here r1 (.bl _))
   | _=>exact p1.elim
  ·skip
   have hr2:e.okT=true/\r.okT=true:=by have hr':(_&&_)=true:=hr';simpa using hr'
   refine PW.mono (Vp (sb.pt hb) (sr.anT e p se hr2.1 hr2.2)) λ σ H Q=>zb λ μ ρ h hr er q=>?_
   refine zc (m:=b.evT cl) (R:=RB) hr er q λ c h1 μ1 H1 x _ e1 r1 er1 qa p1=>?_
   have qa':c=x:=qa
   subst qa'
   cases c with
   | true=>exact yV ⟨μ1,ρ,h1,r1,er1,p1⟩
   | false=>exact yU (p1.here r1 rfl)
  ·skip
   refine PE.mono (BU sb.pe (sr.orr e p se)) λ σ H Q=>zb λ μ ρ h hr er q=>?_
   refine zc (m:=b.ev cl) hr er q λ d h1 μ1 H1 x _ e1 r1 er1 qa p1=>?_
   cases qa with
   | bl c =>
    refine ⟨c,rfl,?_⟩
    cases c with
    | true=>exact yV (p1.here r1 (.bl _))
    | false=>exact yU ⟨μ1,ρ,h1,r1,er1,p1⟩
   | _=>exact p1.elim
  ·skip
   have hr2:e.okT=true/\r.okT=true:=by have hr':(_&&_)=true:=hr';simpa using hr'
   refine PW.mono (BT (sb.pt hb) (sr.orT e p se hr2.1 hr2.2)) λ σ H Q=>zb λ μ ρ h hr er q=>?_
   refine zc (m:=b.evT cl) (R:=RB) hr er q λ c h1 μ1 H1 x _ e1 r1 er1 qa p1=>?_
   have qa':c=x:=qa
   subst qa'
   cases c with
   | true=>exact yV (p1.here r1 rfl)
   | false=>exact yU ⟨μ1,ρ,h1,r1,er1,p1⟩
end
end
end PI
namespace PI
open PySem L2 PySem.Spec
open PyProof.Rows hiding St
noncomputable def PostS (K:Y00)(cv:Nat->Value)(μ:List Addr)(H:Hp)(r:RS)(En:Ends)(Z:ZK):Prop :=
 match r with
 | .nx ρ h'=>∀ μ' H' σ',Ext K μ H μ' H'->HR K μ' h' H'->ER K μ' ρ σ' H'->En.nx σ' H'
 | .bk ρ h'=>∀ μ' H' σ',Ext K μ H μ' H'->HR K μ' h' H'->ER K μ' ρ σ' H'->En.bk σ' H'
 | .ct ρ h'=>∀ μ' H' σ',Ext K μ H μ' H'->HR K μ' h' H'->ER K μ' ρ σ' H'->En.ct σ' H'
 | .rt d h'=>∀ μ' H' v,Ext K μ H μ' H'->HR K μ' h' H'->Rep K μ' H' d v->En.rt v H'
 | .ex c ρ h'=>∀ μ' H' σ',Ext K μ H μ' H'->HR K μ' h' H'->ER K μ' ρ σ' H'->Z σ' (cv c) H'
 | .no=>False
noncomputable def ZN (K:Y00)(cv:Nat->Value)(Z:ZK)(m:En->Hh->RS):TS:=λ En σ H=>∃ μ ρ h,HR K μ h H/\ER K μ ρ σ H/\PostS K cv μ H (m ρ h) En Z
theorem zC {K:Y00}{cv:Nat->Value}{Z:ZK}{m:En->Hh->RS}{En:Ends}{σ:St}{H:Hp}{G:Prop}(f:∀ μ ρ h,HR K μ h H->ER K μ ρ σ H->PostS K cv μ H (m ρ h) En Z->G)(x:ZN K cv Z m En σ H):G:=by
 obtain ⟨μ,ρ,h,hr,er,q⟩:=x
 exact f μ ρ h hr er q
theorem PostS.ext {K:Y00}{cv:Nat->Value}{μ μ1:List Addr}{H H1:Hp}{r:RS}{En:Ends}{Z:ZK}(p:PostS K cv μ H r En Z)(e:Ext K μ H μ1 H1):PostS K cv μ1 H1 r En Z:=by
 unfold PostS at p ⊢
 cases r with
 | nx ρ h=>exact λ μ' H' σ' e1 r1 q1=>p μ' H' σ' (e.trans e1) r1 q1
 | bk ρ h=>exact λ μ' H' σ' e1 r1 q1=>p μ' H' σ' (e.trans e1) r1 q1
 | ct ρ h=>exact λ μ' H' σ' e1 r1 q1=>p μ' H' σ' (e.trans e1) r1 q1
 | rt d h=>exact λ μ' H' σ' e1 r1 q1=>p μ' H' σ' (e.trans e1) r1 q1
 | ex c ρ h=>exact λ μ' H' σ' e1 r1 q1=>p μ' H' σ' (e.trans e1) r1 q1
 | no=>exact p
theorem zE {α β:Type}{K:Y00}{cv:Nat->Value}{R:List Addr->Hp->α->β->Prop}{μ:List Addr}{ρ:En}{h:Hh}{σ:St}{H:Hp}{Z:ZK}{m:En->Hh->Res α}{f:α->Hh->RS}{En:Ends}{Q':β->Hp->Prop}
  (hr:HR K μ h H) (er:ER K μ ρ σ H) (p:PostS K cv μ H (zY ρ (m ρ h) f) En Z)
  (go:∀ a h1 μ1 H1 x,m ρ h=.ok a h1->Ext K μ H μ1 H1->HR K μ1 h1 H1->ER K μ1 ρ σ H1->R μ1 H1 a x->PostS K cv μ1 H1 (f a h1) En Z->Q' x H1) :
  zt K cv R Z m σ H Q':=by
 refine ⟨μ,ρ,h,hr,er,?_⟩
 unfold zY at p
 cases e:m ρ h with
 | ok a h1 =>
  rw [e] at p
  exact λ μ1 H1 x e1 r1 q1=>go a h1 μ1 H1 x e e1 r1 (er.mono e1) q1 (PostS.ext p e1)
 | exc c h1 =>
  rw [e] at p
  exact λ μ1 H1 e1 r1=>p μ1 H1 σ e1 r1 (er.mono e1)
 | no=>rw [e] at p;exact p
noncomputable def Xt.ok (sc:Scope)(n:Nm)(t:Xt):Bool:=gOf sc t.x&&!(t.x==("__debug__":Str))&&(match t.d with
 | some d=>n.G.any λ q=>q.1==t.x&&(match q.2 with | .exc d' _=>d'==d | _=>false)
 | none=>t.x==("ValueError":Str))
noncomputable def Xv.ok (sc:Scope)(n:Nm):Xv->Bool
 | .and a b r _=>a.ok sc n&&b.ok sc n&&r.all (Xt.ok sc n)
 | .lst ts _=>ts.all (Xt.ok sc n)&&decide (ts.length<=1000)
 | .one t=>t.ok sc n
structure XK' (X:Cx)(n:Nm)(cv:Nat->Value)(j:Nat):Prop where
 is:Gl X "isinstance"
 mi:X.mg "isinstance"=none
 mv:X.mg "ValueError"=none
 hj:X.N[j]?=some (n.N.getD j "")
 vi:Vis X.env.scope (n.N.getD j "")
 nd:(n.N.getD j ""==("__debug__":Str))=false
 nc:(n.N.getD j ""==("__classdict__":Str))=false
 gc:∀ x c u,(x,Cn.exc c u)∈n.G->∃ a,X.mg x=some (.ref a)/\cv c=.ref a
section
variable {X:Cx}{n:Nm}{cv:Nat->Value}{j:Nat}
end
noncomputable def E.noT:E->Bool
 | .tup _ _=>false
 | .ofL _=>false
 | _=>true
noncomputable def E.noC:E->Bool
 | .ofL (.comp _ _ _ _ _ _ _ _)=>false
 | _=>true
noncomputable def Fp.ok (n:Nm):Fp->Bool
 | .c _ _=>true
 | .r i _ _=>decide (i<n.N.length)
noncomputable def Ms.ok (n:Nm):Ms->Bool
 | .s _ _=>true
 | .f a b r _=>a.ok n&&b.ok n&&r.all (λ q=>q.ok n)
mutual
noncomputable def S.ok (sc:Scope)(n:Nm):S->Bool
 | .set i e _ _=>decide (i<n.N.length)&&e.ok sc n
 | .ret e _=>e.ok sc n
 | .iff c a b _=>c.ok sc n&&c.okT&&a.ok sc n&&b.ok sc n
 | .ex e _=>e.ok sc n&&e.noC
 | .retN _=>true
 | .setF o f v _ _=>o.ok sc n&&v.ok sc n&&decide (f∈zS)&&v.noC
 | .put o i v _ _=>o.ok sc n&&i.ok sc n&&v.ok sc n
 | .forr t it b _=>t.okS n.N&&(it.ok sc n&&t.forI it)&&b.ok sc n
 | .whil c b _=>c.ok sc n&&c.okT&&b.ok sc n
 | .raw _=>true
 | .setT is e p1 _=>(Tg.tup is p1).okS n.N&&e.ok sc n&&e.noT
noncomputable def Ss.ok (sc:Scope)(n:Nm):Ss->Bool
 | .nil=>true
 | .cons s r=>s.ok sc n&&r.ok sc n
end
theorem PS.mono {X:Cx}{e:Stmt}{t t':TS}(p:PS X e t)(h:∀ En σ H,t' En σ H->t En σ H):PS X e t':=λ pins s σ H En I q=>p pins s σ H En I (h En σ H q)
theorem PSs.mono {X:Cx}{e:List Stmt}{t t':TS}(p:PSs X e t)(h:∀ En σ H,t' En σ H->t En σ H):PSs X e t':=λ pins s σ H En I q=>p pins s σ H En I (h En σ H q)
structure KxS (X:Cx)(Z:ZK)(k:Nat)(n:Nm)(cv:Nat->Value)(cl:Nat->List D->Hh->Res D):Prop extends Kx X Z k n cv cl where
 lo:∀ x∈n.N,Loc X.env.scope x/\(X.fn x=true\/X.env.scope.names.lookup x=some .local)
theorem KxS.wish {X:Cx}{Z:ZK}{k:Nat}{n:Nm}{cv:Nat->Value}{cl:Nat->List D->Hh->Res D}(C:KxS X Z k n cv cl):KxS (X.wish (XE X Z)) Z k n cv cl :=
 ⟨⟨C.th.wished,C.rm,C.nN,C.nd,C.cm,C.kd,C.nm,C.bm,C.gc,C.fn,C.mc,C.xc⟩,C.lo⟩
section
variable {X:Cx}{Z:ZK}{k:Nat}{n:Nm}{cv:Nat->Value}{cl:Nat->List D->Hh->Res D}
theorem yM (e:E)(h:e.noC=true)(t:Option Expr)(l:Nat)(env:Env):swapsWith (e.py n) t l env=pure false:=by
 cases e with
 | ofL l =>
  cases l with
  | disp es p=>rfl
  | comp=>cases h
 | _=>rfl
theorem Yc (o i : E)(p1 : Pos)(env : Env) : ∀ v, assign (.Subscript (o.py n) (i.py n) p1) env v = (do
      let ov <- holding [v] (eval (o.py n) env)
      let iv <- holding [v,ov] (eval (i.py n) env)
      standAt p1
      holding [v,ov,iv] (setItem ov iv v)
      release [v,ov,iv] []):=by
  intro v
  generalize o.py n=oo
  cases i with
  | ofL l=>cases l<;>(rfl)
  | _=>rfl
theorem Yd (o i e:E)(p1:Pos)(l:Nat)(env:Env):swapsWithSole [.Subscript (o.py n) (i.py n) p1] (e.py n) l env=pure false:=by
 generalize o.py n=oo
 generalize i.py n=ii
 cases e with
 | ofL l=>cases l<;>(rfl)
 | _=>rfl
theorem Wt (o i e:E)(p1:Pos)(env:Env):swappedStores [.Subscript (o.py n) (i.py n) p1] (e.py n) env=pure none:=by
 generalize o.py n=oo
 generalize i.py n=ii
 cases e with
 | ofL l=>cases l<;>(rfl)
 | _=>rfl
theorem Bt (ts:List Expr)(e:E)(h:e.noT=true)(k:Nat)(p1:Pos)(l:Nat)(env:Env):swapsWithSole [.Tuple ts k p1] (e.py n) l env=pure false:=by
 cases e with
 | ofL l=>cases h
 | tup es p=>cases h
 | _=>rfl
theorem Ye (e:E)(h:e.noC=true)(t:Option Expr)(l:Nat)(env:Env):swapsWith (e.py n) t l env=pure false:=by
 cases e with
 | ofL l=>cases l with
  | disp es p=>rfl
  | comp _ _ _ _ _ _ _ _=>cases h
 | _=>rfl
theorem UV (ts:List Expr)(e:E)(h:e.noT=true)(k:Nat)(p1:Pos)(env:Env):swappedStores [.Tuple ts k p1] (e.py n) env=pure none:=by
 cases e with
 | ofL l=>cases h
 | tup es p=>cases h
 | _=>rfl
theorem Yf {c:E}{b:Ss}{p:Pos}{En:Ends}{σ:St}{H:Hp}{μ:List Addr}{ρ:PI.En}{h:Hh}(hr:HR X.K μ h H)(er:ER X.K μ ρ σ H)(q:PostS X.K cv μ H ((S.whil c b p).run cl ρ h) En Z) :
  QC (zt X.K cv RB Z (c.evT cl)) (ZN X.K cv Z (b.run cl)) En σ H:=by
 have q:PostS X.K cv μ H (whR (λ ρ' h'=>c.evT cl ρ' h') (λ ρ' h'=>b.run cl ρ' h') ρ h) En Z:=q
 have nz:whR (λ ρ' h'=>c.evT cl ρ' h') (λ ρ' h'=>b.run cl ρ' h') ρ h≠.no:=λ z=>by rw [z] at q;exact q
 obtain ⟨n0,e0⟩:=Wj nz
 rw [<- e0] at q
 refine ⟨λ m σ H=>∃ μ ρ h,HR X.K μ h H/\ER X.K μ ρ σ H/\PostS X.K cv μ H (whL (λ ρ' h'=>c.evT cl ρ' h') (λ ρ' h'=>b.run cl ρ' h') m ρ h) En Z,⟨n0,μ,ρ,h,hr,er,q⟩,?_⟩
 rintro m σ1 H1 ⟨μ1,ρ1,h1,hr1,er1,q1⟩
 cases m with
 | zero=>exact q1.elim
 | succ m =>
  rw [whL] at q1
  refine ⟨μ1,ρ1,h1,hr1,er1,?_⟩
  cases ec:c.evT cl ρ1 h1 with
  | ok t h2 =>
   rw [ec] at q1
   intro μ2 H2 x e2 r2 hx
   have hx':t=x:=hx
   subst hx'
   cases t with
   | false=>exact yU (q1 μ2 H2 σ1 e2 r2 (er1.mono e2))
   | true =>
    refine yV ⟨λ σ' H'=>∃ μ ρ h,HR X.K μ h H'/\ER X.K μ ρ σ' H'/\PostS X.K cv μ H' (whL (λ ρ' h'=>c.evT cl ρ' h') (λ ρ' h'=>b.run cl ρ' h') m ρ h) En Z,λ σ' H' z=>⟨m,Y24 m,z⟩,μ2,ρ1,h2,r2,er1.mono e2,?_⟩
    simp only at q1
    have q2:=PostS.ext q1 e2
    cases eb:b.run cl ρ1 h2 with
    | nx ρ4 h4=>simp only [eb] at q2;exact λ μ4 H4 σ4 e4 r4 er4=>⟨μ4,ρ4,h4,r4,er4,PostS.ext q2 e4⟩
    | ct ρ4 h4=>simp only [eb] at q2;exact λ μ4 H4 σ4 e4 r4 er4=>⟨μ4,ρ4,h4,r4,er4,PostS.ext q2 e4⟩
    | bk ρ4 h4=>simp only [eb] at q2;exact q2
    | rt d h4=>simp only [eb] at q2;exact q2
    | ex c' ρ4 h4=>simp only [eb] at q2;exact q2
    | no=>simp only [eb] at q2;exact q2
  | exc k h2 =>
   rw [ec] at q1
   exact λ μ2 H2 e2 r2=>q1 μ2 H2 σ1 e2 r2 (er1.mono e2)
  | no=>rw [ec] at q1;exact q1
theorem UW {c:Expr}{body:List Stmt}{tc:TT}{tb:TS}{pos:Pos}(th:Thr X Z)(hc:PT (X.wish (XE X Z)) c tc)(hb:PSs (X.wish (XE X Z)) body tb):PS X (.While c body [] pos) (QC tc tb):=by
 intro pins s σ H D I h
 refine wpAny_mono (Vx (X:=X.wish (XE X Z)) (JE th.toXOk) hc hb pins s σ H D (I.wish _) h) (λ f s' q=>q.unwish) λ e s' x=>th.thr e s' x
theorem GB {t:Tg}{it:I}{b:Ss}{En:Ends}{σ:St}{H:Hp}{μ:List Addr}{ρ:PI.En}{h:Hh}(hr:HR X.K μ h H)(er:ER X.K μ ρ σ H)(q:PostS X.K cv μ H ((S.forr t it b p).run cl ρ h) En Z) :
  z0x (zt X.K cv (RJ X.K) Z (it.ev cl)) (gB X.K t) (ZN X.K cv Z (b.run cl)) En σ H:=by
 refine zE (m:=it.ev cl) hr er q λ qq h1 μ1 H1 J _ e1 r1 er1 src p1=>?_
 obtain ⟨c,ds⟩:=qq
 refine ⟨λ i m σ' H'=>m=ds.length-i/\i<=ds.length/\∃ μ2 ρ2 h2,Ext X.K μ1 H1 μ2 H'/\HR X.K μ2 h2 H'/\ER X.K μ2 ρ2 σ' H'/\PostS X.K cv μ2 H' (jz c (zQ t λ ρ' h'=>b.run cl ρ' h') (ds.drop i) ρ2 h2) En Z,
  ⟨ds.length,by simp,Y1h _,μ1,ρ,h1,Ext.refl,r1,er1,p1⟩,?_⟩
 rintro i m σ' H' ⟨rfl,hi,μ2,ρ2,h2,e2,r2,er2,p2⟩
 by_cases hlt:i<ds.length
 ·right
  rw [Y2k hlt] at p2
  unfold jz at p2
  split at p2
  rotate_left
  ·exact p2.elim
  rename_i st
  obtain ⟨s1,s2⟩:=src μ2 h2 H' e2 r2 st
  obtain ⟨g1,g2⟩:=s1 i ds[i] (Y02 hlt)
  refine ⟨g1,λ σ3 H3=>ds.length-(i+1)=ds.length-(i+1)/\i+1<=ds.length/\∃ μ3 ρ3 h3,Ext X.K μ1 H1 μ3 H3/\HR X.K μ3 h3 H3/\ER X.K μ3 ρ3 σ3 H3/\PostS X.K cv μ3 H3 (jz c (zQ t λ ρ' h'=>b.run cl ρ' h') (ds.drop (i+1)) ρ3 h3) En Z,
   λ σ3 H3 z=>⟨ds.length-(i+1),by omega,z⟩,λ x H3 y=>?_⟩
  obtain ⟨e2',r2',rx⟩:=g2 x H3 y
  replace p2:=PostS.ext p2 e2'
  replace e2:=e2.trans e2'
  replace r2:=r2'
  replace er2:=er2.mono e2'
  unfold zQ at p2
  cases eb:jj t ds[i] ρ2 with
  | none=>rw [eb] at p2;exact p2.elim
  | some ρ3 =>
   rw [eb] at p2
   refine ⟨μ2,ρ2,ds[i],ρ3,h2,r2,er2,rx,eb,λ σ3 er3 _ _=>⟨μ2,ρ3,h2,r2,er3,?_⟩⟩
   cases eo:b.run cl ρ3 h2 with
   | nx ρ4 h4 =>
    simp only [eo] at p2
    exact λ μ4 H4 σ4 e4 r4 er4=>⟨rfl,hlt,μ4,ρ4,h4,e2.trans e4,r4,er4,PostS.ext p2 e4⟩
   | ct ρ4 h4 =>
    simp only [eo] at p2
    exact λ μ4 H4 σ4 e4 r4 er4=>⟨rfl,hlt,μ4,ρ4,h4,e2.trans e4,r4,er4,PostS.ext p2 e4⟩
   | bk ρ4 h4=>simp only [eo] at p2;exact p2
   | rt d h4=>simp only [eo] at p2;exact p2
   | ex c' ρ4 h4=>simp only [eo] at p2;exact p2
   | no=>simp only [eo] at p2;exact p2
 ·left
  have ei:i=ds.length:=by omega
  subst ei
  rw [List.drop_length] at p2
  unfold jz at p2
  split at p2
  rotate_left
  ·exact p2.elim
  rename_i st
  exact ⟨(src μ2 h2 H' e2 r2 st).2,p2 μ2 H' σ' Ext.refl r2 er2⟩
mutual
theorem sS:∀ (s:S) (X:Cx) (Z:ZK) (k:Nat) (n:Nm) (cv:Nat->Value) (cl:Nat->List D->Hh->Res D),KxS X Z k n cv cl->s.ok X.env.scope n=true->PS X (s.py n) (ZN X.K cv Z (s.run cl))
 | .set i e p1 p,X,Z,k,n,cv,cl,C,h=>by
  have h':i<n.N.length/\e.ok X.env.scope n=true:=by have h:(_&&_)=true:=h;simpa using h
  have hm:=C.lo _ (yb (d:=("":Str)) h'.1)
  have hN:X.N[i]?=some (n.N.getD i ""):=by rw [C.nN];exact getD_some h'.1
  have plain:swapsWith (e.py n) (some (.Name (n.N.getD i "") p1)) p.line X.env=pure false->PS X ((S.set i e p1 p).py n) (ZN X.K cv Z ((S.set i e p1 p).run cl)):=λ hs=>by
   have se:=sE e X Z k n cv cl C.toKx h'.2
   refine PS.mono (z0w (i:=i) C.nd hN hm.1 se.pe hs hm.2) λ En σ H=>zC λ μ ρ h hr er q=>?_
   refine zE (m:=e.ev cl) hr er q λ d h1 μ1 H1 x _ e1 r1 er1 qa p1=>?_
   exact p1 μ1 H1 _ Ext.refl r1 (er1.set qa i)
  cases hn:e.noC with
  | true=>exact plain (yM e hn _ _ _)
  | false =>
   cases e with
   | ofL l =>
    cases l with
    | disp es pp=>cases hn
    | comp elt t it c NC cap csc pp =>
     have hL:(L.comp elt t it c NC cap csc pp).ok X.env.scope n=true:=by exact h'.2
     obtain ⟨b,eb,hb⟩:∃ b,swapsWith ((E.ofL (.comp elt t it c NC cap csc pp)).py n) (some (.Name (n.N.getD i "") p1)) p.line X.env=pure b/\(b=true->X.env.scope.names.lookup (n.N.getD i "")=some .local):=by
      refine ⟨_,by rfl,λ z=>?_⟩
      simp only [Y0o,beq_iff_eq] at z
      exact z.1.1.2
     cases b with
     | false=>exact plain eb
     | true =>
      obtain ⟨k1,k2,k3,k4,k5,k6,k7,k8,k9⟩:=U6 C.toKx hL
      have hit:=sI it X Z k n cv cl C.toKx k1.1 t k1.2 NC
      have hff:∀ Cc s H fp pn xe Zc,Thr (zr X NC csc Cc s H fp pn xe) Zc->PF (zr X NC csc Cc s H fp pn xe) (c.py ⟨NC,n.F,n.G⟩) (zt X.K cv RB Zc (c.evC cl)):=λ Cc s H fp pn xe Zc th=>by
       have Cc':=C.toKx.comp k2 k3 k4 th
       cases c with
       | nil=>exact U7
       | cons e r =>
        cases r with
        | cons _ _=>cases k9
        | nil =>
         have se:=sE e _ Zc k ⟨NC,n.F,n.G⟩ cv cl Cc' (by have k7:(_&&_)=true:=k7;simp at k7;exact k7.1)
         have ht:=se.pt (by have k8:(_&&_)=true:=k8;simp at k8;exact k8.1)
         exact VU ht
      have key:=OV (X:=X) (i:=i) (cap:=cap) (pos:=pp) (pos':=p1) (spos:=p) (g:=gB X.K t) (tf:=λ Zc=>zt X.K cv RB Zc (c.evC cl)) (te:=λ Zc=>zt X.K cv (Rep X.K) Zc (elt.ev cl)) C.cm C.th hit k2 (λ Cc s H fp pn xe=>U8 C.kd k2 k3 k5) hff
       (λ Cc s H fp pn xe Zc th=>(sE elt _ Zc k ⟨NC,n.F,n.G⟩ cv cl (C.toKx.comp k2 k3 k4 th) k6).pe) (qO it) C.nd hN (hb rfl) eb
      refine PS.mono key λ En σ H=>zC λ μ ρ h hr er q=>JI k2 k5 ⟨μ,ρ,h,hr,er,?_⟩
      have q:PostS X.K cv μ H (zY ρ (((L.comp elt t it c NC cap csc pp).ev cl ρ h).bind λ xs h1=>new (.lst xs) h1) λ d h1=>.nx (ρ.set i (some d)) h1) En Z:=q
      show PostE X.K cv (RL X.K H) μ H ((L.comp elt t it c NC cap csc pp).ev cl ρ h) _ (Z σ)
      cases el:(L.comp elt t it c NC cap csc pp).ev cl ρ h with
      | ok ds h1 =>
       rw [el] at q
       intro μ1 H1 x e1 r1 ⟨pa,vs,ex,g1,g2,g3,g4⟩
       subst ex
       have er1:ER X.K (μ1++[pa]) ρ σ H1:=er.mono (e1.add g4)
       refine q (μ1++[pa]) H1 _ (e1.add g4) (r1.add g3 λ μ' gr=>⟨vs,g1,g2.mono' gr⟩) (er1.set (.loc ?_) i)
       rw [<- r1.len,Y08 (Y03 _),Y0w]
       rfl
      | exc cc h1=>rw [el] at q;exact λ μ1 H1 e1 r1=>q μ1 H1 σ e1 r1 (er.mono e1)
      | no=>rw [el] at q;exact q
   | _=>cases hn
 | .ret e p,X,Z,k,n,cv,cl,C,h=>by
  have se:=sE e X Z k n cv cl C.toKx (by exact h)
  refine PS.mono (z0s se.pe) λ En σ H=>zC λ μ ρ h hr er q=>?_
  refine zE (m:=e.ev cl) hr er q λ d h1 μ1 H1 x _ e1 r1 er1 qa p1=>?_
  exact p1 μ1 H1 x Ext.refl r1 qa
 | .iff c a b p,X,Z,k,n,cv,cl,C,h=>by
  have h':((c.ok X.env.scope n=true/\c.okT=true)/\a.ok X.env.scope n=true)/\b.ok X.env.scope n=true:=by have h:(_&&_)=true:=h;simpa using h
  have sc:=sE c X Z k n cv cl C.toKx h'.1.1.1
  have sa:=sSs a X Z k n cv cl C h'.1.2
  have sb:=sSs b X Z k n cv cl C h'.2
  refine PS.mono (z3j (sc.pt h'.1.1.2) sa sb) λ En σ H=>zC λ μ ρ h hr er q=>?_
  refine zE (m:=c.evT cl) (R:=RB) hr er q λ t h1 μ1 H1 x _ e1 r1 er1 qa p1=>?_
  have qa':t=x:=qa
  subst qa'
  cases t with
  | true=>exact yV ⟨μ1,ρ,h1,r1,er1,p1⟩
  | false=>exact yU ⟨μ1,ρ,h1,r1,er1,p1⟩
 | .ex e p,X,Z,k,n,cv,cl,C,h=>by
  have h':e.ok X.env.scope n=true/\e.noC=true:=by have h:(_&&_)=true:=h;simpa using h
  have se:=sE e X Z k n cv cl C.toKx h'.1
  refine PS.mono (Op se.pe (yM e h'.2 _ _ _)) λ En σ H=>zC λ μ ρ h hr er q=>?_
  refine zE (m:=e.ev cl) hr er q λ d h1 μ1 H1 x _ e1 r1 er1 qa p1=>?_
  exact p1 μ1 H1 _ Ext.refl r1 er1
 | .retN p,X,Z,k,n,cv,cl,C,h=>by
  refine PS.mono Oq λ En σ H=>zC λ μ ρ h hr er q=>?_
  exact q μ H .non Ext.refl hr .non
 | .setF o f v p1 p,X,Z,k,n,cv,cl,C,h=>by
  have h':((o.ok X.env.scope n=true/\v.ok X.env.scope n=true)/\f∈zS)/\v.noC=true:=by have h:(_&&_)=true:=h;simpa using h
  have so:=sE o X Z k n cv cl C.toKx h'.1.1.1
  have sv:=sE v X Z k n cv cl C.toKx h'.1.1.2
  refine PS.mono (z1j so.pe sv.pe (Ye v h'.2 _ _ _)) λ En σ H=>zC λ μ ρ h hr er q=>?_
  refine zE (m:=v.ev cl) hr er q λ z h1 μ1 H1 x _ e1 r1 er1 qz p1=>?_
  refine zE (m:=o.ev cl) r1 er1 p1 λ a h2 μ2 H2 y _ e2 r2 er2 qa p2=>?_
  unfold qh at p2
  cases qa with
  | @loc nn b m =>
   cases e3:h2[nn]? with
   | none=>simp only [e3] at p2;exact p2.elim
   | some ob =>
    have q:=r2.obj nn b ob m e3
    cases ob with
    | lst _=>simp only [e3] at p2;exact p2.elim
    | dK _=>simp only [e3] at p2;exact p2.elim
    | obj w fs =>
     simp only [e3] at p2
     obtain ⟨Cc,dx,vs,q1,q2,q3⟩:=q
     split at p2
     ·rename_i hlt e4
      split at e4
      ·rename_i hl
       cases e4
       obtain ⟨hr',ex⟩:=r2.chg (u:=.ins Cc dx (wH f x vs)) (o':=.obj w (Q8 f z fs)) e3 m λ H' ex e=>⟨Cc,dx,_,e,q2,(q3.mono ex).put ((qz.mono e2).mono ex)⟩
       exact ⟨b,Cc,dx,vs,rfl,q1,q2.cl,q2.na f h'.1.2,by rw [<- q3.length];exact hl,p2 μ2 _ σ ex hr' (er2.mono ex)⟩
      ·cases e4
     ·exact p2.elim
  | _=>exact p2.elim
 | .put o i v p1 p,X,Z,k,n,cv,cl,C,h=>by
  have h':(o.ok X.env.scope n=true/\i.ok X.env.scope n=true)/\v.ok X.env.scope n=true:=by have h:(_&&_)=true:=h;simpa using h
  have so:=sE o X Z k n cv cl C.toKx h'.1.1
  have si:=sE i X Z k n cv cl C.toKx h'.1.2
  have sv:=sE v X Z k n cv cl C.toKx h'.2
  refine PS.mono (Vw sv.pe (z0u so.pe si.pe (Gu (BZ C.rm)) (Yc o i p1 _)) (Yd o i v p1 _ _) (Wt o i v p1 _) rfl) λ En σ H=>zC λ μ ρ h hr er q=>?_
  refine zE (m:=v.ev cl) hr er q λ z h1 μ1 H1 x _ e1 r1 er1 qz p1=>?_
  refine zE (m:=o.ev cl) r1 er1 p1 λ a h2 μ2 H2 y _ e2 r2 er2 qa p2=>?_
  refine zE (m:=i.ev cl) r2 er2 p2 λ b h3 μ3 H3 w _ e3 r3 er3 qb p3=>?_
  cases e:Je a b z h3 with
  | none=>rw [e] at p3;exact p3.elim
  | some h4 =>
   rw [e] at p3
   exact ⟨μ3,h3,a,b,z,h4,r3,qa.mono e3,qb,(qz.mono e2).mono e3,e,λ μ4 H4 e4 r4=>p3 μ4 H4 σ e4 r4 (er3.mono e4)⟩
 | .forr t it b p,X,Z,k,n,cv,cl,C,h=>by
  have h':(t.okS n.N=true/\it.ok X.env.scope n=true/\t.forI it=true)/\b.ok X.env.scope n=true:=by have h:(_&&_)=true:=h;simpa using h
  have hi:=sI it _ Z k n cv cl C.wish.toKx h'.1.2.1 t h'.1.2.2 n.N
  have hb:=sSs b _ Z k n cv cl C.wish h'.2
  have hg:PG (X.wish (XE X Z)) (t.py n.N) (gB X.K t):=by
   have z:=z48 (X:=X.wish (XE X Z)) C.cm C.nd t λ i hi=>by
    have h1:=Y10.mp h'.1.1 i hi
    have hl:i<n.N.length:=of_decide_eq_true h1
    have hm:=C.lo _ (yb (d:=("":Str)) hl)
    have eN:(X.wish (XE X Z)).N=n.N:=C.nN
    rw [eN]
    exact ⟨hl,hm⟩
   rw [show (X.wish (XE X Z)).N=n.N from C.nN] at z
   exact z
  exact PS.mono (OU C.th C.cm hi hg hb (qO it)) λ En σ H=>zC λ μ ρ h hr er q=>GB (p:=p) hr er q
 | .whil c b p,X,Z,k,n,cv,cl,C,h=>by
  have h':(c.ok X.env.scope n=true/\c.okT=true)/\b.ok X.env.scope n=true:=by have h:(_&&_)=true:=h;simpa using h
  have sc:=sE c _ Z k n cv cl C.wish.toKx h'.1.1
  have hb:=sSs b _ Z k n cv cl C.wish h'.2
  exact PS.mono (UW C.th (sc.pt h'.1.2) hb) λ En σ H=>zC λ μ ρ h hr er q=>Yf (p:=p) hr er q
 | .raw st,X,Z,k,n,cv,cl,C,h=>by
  refine λ pins s σ H En I q=>?_
  obtain ⟨μ,ρ,h,hr,er,q⟩:=q
  exact q.elim
 | .setT is e p1 p,X,Z,k,n,cv,cl,C,h=>by
  have h':((Tg.tup is p1).okS n.N=true/\e.ok X.env.scope n=true)/\e.noT=true:=by have h:(_&&_)=true:=h;simpa using h
  have se:=sE e X Z k n cv cl C.toKx h'.1.2
  have hg:PG X ((Tg.tup is p1).py n.N) (λ v σ H Q=>∃ μ ρ d ρ' h,HR X.K μ h H/\ER X.K μ ρ σ H/\Rep X.K μ H d v/\jj (.tup is p1) (Wk d h) ρ=some ρ'/\∀ σ',ER X.K μ ρ' σ' H->Q σ' H):=by
   have z:=z4a (X:=X) C.cm C.nd is p1 λ i hi=>by
    have h1:=Y10.mp h'.1.1 i hi
    have hl:i<n.N.length:=of_decide_eq_true h1
    have hm:=C.lo _ (yb (d:=("":Str)) hl)
    rw [C.nN]
    exact ⟨hl,hm⟩
   rw [C.nN] at z
   exact z
  refine PS.mono (Vw se.pe hg (Bt _ e h'.2 _ _ _ _) (UV _ e h'.2 _ _ _) rfl) λ En σ H=>zC λ μ ρ h hr er q=>?_
  refine zE (m:=e.ev cl) hr er q λ d h1 μ1 H1 x _ e1 r1 er1 qa q1=>?_
  cases eb:jj (.tup is p1) (Wk d h1) ρ with
  | none=>rw [eb] at q1;exact q1.elim
  | some ρ' =>
   rw [eb] at q1
   exact ⟨μ1,ρ,d,ρ',h1,r1,er1,qa,eb,λ σ' er'=>q1 μ1 H1 σ' Ext.refl r1 er'⟩
theorem sSs:∀ (s:Ss) (X:Cx) (Z:ZK) (k:Nat) (n:Nm) (cv:Nat->Value) (cl:Nat->List D->Hh->Res D),KxS X Z k n cv cl->s.ok X.env.scope n=true->PSs X (s.py n) (ZN X.K cv Z (s.run cl))
 | .nil,X,Z,k,n,cv,cl,C,_=>by
  refine PSs.mono Oo λ En σ H=>zC λ μ ρ h hr er q=>?_
  exact q μ H σ Ext.refl hr er
 | .cons s r,X,Z,k,n,cv,cl,C,h=>by
  have h':s.ok X.env.scope n=true/\r.ok X.env.scope n=true:=by have h:(_&&_)=true:=h;simpa using h
  have ss:=sS s X Z k n cv cl C h'.1
  have sr:=sSs r X Z k n cv cl C h'.2
  refine PSs.mono (Vt ss sr) λ En σ H=>zC λ μ ρ h hr er q=>?_
  have q:PostS X.K cv μ H (jP (s.run cl ρ h) λ ρ' h'=>r.run cl ρ' h') En Z:=q
  refine ⟨μ,ρ,h,hr,er,?_⟩
  cases e:s.run cl ρ h with
  | nx ρ' h1 =>
   rw [e] at q
   exact λ μ1 H1 σ1 e1 r1 er1=>⟨μ1,ρ',h1,r1,er1,PostS.ext q e1⟩
  | bk ρ' h1=>rw [e] at q;exact q
  | ct ρ' h1=>rw [e] at q;exact q
  | rt d h1=>rw [e] at q;exact q
  | ex c ρ' h1=>rw [e] at q;exact q
  | no=>rw [e] at q;exact q
end
end
end PI
namespace PI
open PySem L2 PySem.Spec
open PyProof.Rows hiding St
section
variable {X:Cx}{Z:ZK}{k:Nat}{n:Nm}{cv:Nat->Value}{cl:Nat->List D->Hh->Res D}
noncomputable def okD (b:Ss)(sc:Scope)(n:Nm)(ps:List Str):Bool:=b.ok sc n
end
structure DefOk (st:Stmt)(d:Df)(F:List Str)(G:List (Str×Cn))(nm q:Str):Prop where
 body:zF st=d.body.py ⟨d.N,F,G⟩
 sc:FnScope d.N d.ps (zk st)
 ok:okD d.body (zk st) ⟨d.N,F,G⟩ d.ps=true
 nms:∀ x∈d.N,((zk st).names.lookup x=some .local\/(zk st).names.lookup x=some .cell)/\ZG x=true
 bd:∀ (kV doc pm:Value) (an:Option Addr) (cdv ct:Value) (us:List Value),us.length=d.ps.length ->
  bindArgs (PySem.W.fnOf nm q (j1 st) (zF st) (zk st) .none kV doc pm an cdv ct) ⟨us,[]⟩=pure (d.ps.zip us)
structure Tab (P:Program)(w:World)(K:Y00)(mg:Str->Option Value)(ds:List Df)(G:List (Str×Cn)):Prop where
 bm:∀ x,x∈Wp->mg x=none
 gc:∀ x c,(x,c)∈G->(x==("__debug__":Str))=false/\∃ v,mg x=some v/\Bc P w K v c
 fn:∀ (i:Nat) d,ds[i]?=some d->(G.any λ q=>decide (q.2=Cn.cls i))=false->(d.name==("__debug__":Str))=false/\∃ st f fd,mg d.name=some (.ref f)/\PySem.W.nsIn K mainGlobals d.name=some (some (.ref f))/\Fun K d.name d.name st f fd/\DefOk st d (ds.map (·.name)) G d.name d.name
 mc:∀ x i,(x,Cn.cls i)∈G->(x==("__debug__":Str))=false/\∃ d st C f fd nm q,ds[i]?=some d/\mg x=some (.ref C)/\Mk K C f/\ClsN K x C/\Fun K nm q st f fd/\DefOk st d (ds.map (·.name)) G nm q
theorem GC {K:Y00}{μ:List Addr}{H:Hp}{as:List D}{vs:List V}(N:List Str)(r:Reps K μ H as vs):ER K μ (as.map some++List.replicate (N.length-as.length) none) (L2.start N vs) H:=by
 unfold L2.start
 refine ⟨by simp [r.length],λ i d h=>?_⟩
 rw [List.getElem?_append] at h ⊢
 rw [Y0j] at h ⊢
 rw [<- r.length]
 split at h
 ·rename_i c
  rw [if_pos c]
  rw [Y0k] at h ⊢
  cases e:as[i]? with
  | none=>rw [e] at h;cases h
  | some a =>
   rw [e] at h
   cases h
   obtain ⟨v,e1,e2⟩:=r.get e
   rw [e1]
   exact ⟨v,rfl,e2⟩
 ·exfalso
  rw [List.getElem?_replicate] at h
  split at h<;>cases h
theorem JK {ds:List Df}{k i:Nat}{d:Df}(hd:ds[i]?=some d):∀ as h,callI ds k i as h≠.no->as.length=d.ps.length:=by
 intro as h q
 cases k with
 | zero=>exact absurd rfl q
 | succ k =>
  unfold callI at q
  rw [hd] at q
  by_cases c:as.length=d.ps.length
  ·exact c
  ·exact absurd (if_neg c) q
section
variable {P:Program}{w:World}{K:Y00}{mg:Str->Option Value}{base:Heap}{ds:List Df}{G:List (Str×Cn)}{cv:Nat->Value}
noncomputable def z06 (K:Y00)(mg:Str->Option Value)(cv:Nat->Value)(G:List (Str×Cn)):Prop:=∀ x c u,(x,Cn.exc c u)∈G->mg x=some (cv c)/\(∀ D∈u,∃ a d,cv c=.ref a/\cv D=.ref d/\VX K a d)/\∃ a,cv c=.ref a/\TstK K G cv a u
noncomputable def z4c:Cn->Bool
 | .exc _ _=>true
 | _=>false
theorem z2d (h:(G.all λ q=>!z4c q.2)=true):z06 K mg cv G:=λ x c u hm=>by
 have:=Y10.mp h _ hm
 cases this
theorem Yg (T:Tab P w K mg ds G)(XC:z06 K mg cv G):∀ (k i:Nat) (d:Df) (nm qn:Str) (st:Stmt) (f:Addr) (fd:FuncData),ds[i]?=some d->Fun K nm qn st f fd->DefOk st d (ds.map (·.name)) G nm qn ->
  FnOk P w K mg base (CXs P w) (2*k) f fd d.ps (spI K cv d.ps.length (callI ds k i))
 | 0,i,d,nm,qn,st,f,fd,hd,F,o=>by
  have no:∀ vs H Q E,¬ spI K cv d.ps.length (callI ds 0 i) vs H Q E:=λ vs H Q E ⟨_,_,_,_,_,_,z⟩=>z
  exact ⟨λ vs H Q E h=>absurd h (no vs H Q E),λ A outer s H args us vs Q E _ _ _ _ h=>absurd h (no vs H Q E)⟩
 | k+1,i,d,nm,qn,st,f,fd,hd,F,o=>by
  have KC:∀ (cdv:Value) (A:Around) (outer:List Env) (s:Shared) (H:Hp) (E:XK),Room (2*k+1) (A.deeper (envOfC qn (zk st) s.heap.objs.size f cdv))->KxS (qX (CXs P w) P w K mg base d.N qn (zk st) f cdv A outer s H E) (λ _ C H'=>E C none H') k ⟨d.N,ds.map (·.name),G⟩ cv (callI ds k):=λ cdv A outer s H E hr=>by
   refine ⟨⟨OM,hr,rfl,o.sc.nd,rfl,o.sc.kind,λ x hx=>⟨(o.nms x hx).1.elim .inl λ z=>.inr (.inl z),(o.nms x hx).2⟩,T.bm,T.gc,λ j x hj hnc=>?_,λ x j hx=>?_,λ x c u hm=>XC x c u hm⟩,λ x hx=>⟨(o.nms x hx).1,.inl rfl⟩⟩
   rotate_left
   ·obtain ⟨h1,d',st',C',f',fd',nm',q',e',m',M',N',F',o'⟩:=T.mc x j hx
    exact ⟨h1,C',f',fd',d'.ps,m',M',N',F'.binds o'.bd,JK e',Yg T XC k j d' nm' q' st' f' fd' e' F' o'⟩
   have hj':(ds.map (·.name))[j]?=some x:=hj
   rw [Y0k] at hj'
   cases e:ds[j]? with
   | none=>rw [e] at hj';cases hj'
   | some d' =>
    rw [e] at hj'
    cases hj'
    obtain ⟨h1,st',f',fd',m',s',F',o'⟩:=T.fn j d' e hnc
    exact ⟨h1,f',fd',d'.ps,m',s',F'.kp,F'.binds o'.bd,JK e,Yg T XC k j d' _ _ st' f' fd' e F' o'⟩
  have fin:∀ {H:Hp}{vs:List V}{Q:VK}{E:XK},spI K cv d.ps.length (callI ds (k+1) i) vs H Q E->ZN K cv (λ _ C H'=>E C none H') (d.body.run (callI ds k)) { nx:=λ _ H'=>Q .non H',rt:=Q } (L2.start d.N vs) H:=λ {H vs Q E} h=>by
   obtain ⟨hl,μ,h,as,hH,hv,p⟩:=h
   refine ⟨μ,_,h,hH,GC d.N hv,?_⟩
   have c:as.length=d.ps.length:=by rw [hv.length];exact hl
   rw [za hd c] at p
   have p1:=p
   unfold Df.run Wl at p1
   cases e:d.body.run (callI ds k) (as.map some++List.replicate (d.N.length-as.length) none) h with
   | nx ρ h1=>rw [e] at p1;exact λ μ1 H1 σ1 e1 r1 er1=>p1 μ1 H1 .non e1 r1 .non
   | rt v h1=>rw [e] at p1;exact p1
   | ex c ρ h1=>rw [e] at p1;exact λ μ1 H1 σ1 e1 r1 er1=>p1 μ1 H1 e1 r1
   | bk ρ h1=>rw [e] at p1;exact p1.elim
   | ct ρ h1=>rw [e] at p1;exact p1.elim
   | no=>rw [e] at p1;exact p1.elim
  exact F.okX o.sc (λ vs H Q E h=>h.1) λ cdv A outer s H vs Q E hr h=>⟨_,by rw [o.body];exact sSs d.body _ _ _ _ _ _ (KC cdv A outer s H E hr) o.ok,fin h⟩
end
theorem Wu {K:Y00}{C E:Addr}{o:Value}{dd:Option Addr}{cd:ClassData}{sl:Array (Option Value)}{b:Bool} (l:K.lookup E=some ⟨o,dd,.cls cd,sl⟩) (ty:PySem.W.typeIn K (.ref E)=some (.type "type")) (m:PySem.W.mroIn K C (.ref E)=some b) (hb:b=true\/C≠E):PySem.W.kitOne K (.ref C) (.ref E)=some b:=by
 unfold PySem.W.kitOne
 by_cases q:C=E
 ·subst q
  rw [if_pos (by simp)]
  rcases hb with rfl | z
  ·rfl
  ·exact absurd rfl z
 ·rw [if_neg (λ z=>q (Value.ref.inj (eq_of_beq z)))]
  show (if ((PySem.W.clsIn K E).isSome&&PySem.W.typeIn K (.ref E)==some (.type "type"))=true then PySem.W.subIn K (.ref C) (.ref E) else none)=_
  rw [if_pos (by rw [ty,Y0o];exact ⟨by unfold PySem.W.clsIn;rw [l];rfl,by decide⟩)]
  exact m
noncomputable def ZO (w:World)(K:Y00):List DictEntry->List (Str×Cv)->Prop
 | [],[]=>True
 | e::r,kx::s=>(e.hash=hashStr w kx.1/\(∃ t,e.key=.str kx.1 t)/\CvOk K e.val kx.2)/\ZO w K r s
 | _,_=>False
theorem tupK_mk {K:Y00}{a:Addr}{d:Option Addr}{its:Array Value}{n:Nat}{sl:Array (Option Value)}{xs:List Str} (l:K.lookup a=some ⟨.type "tuple",d,.seq its n,sl⟩) (z:its.size<=sizeLine) (v:Vals (xs.map V.str) its.toList):TupK K a xs :=
 ⟨_,its,n,l,rfl,rfl,z,v⟩
theorem ZP {P:Program}{w:World}{K:Y00}:∀ {es:List DictEntry}{kvs:List (Str×Cv)},ZO w K es kvs->∃ vs,Pairs (zy P w) es vs/\DicV K kvs vs/\vs.map (·.1)=kvs.map (λ kx=>(Sum.inr kx.1:Key))/\∀ e∈es,∃ k,(zy P w).is k e.key=true/\e.hash=(zy P w).hash k
 | [],[],_=>⟨[],.nil,trivial,rfl,λ e h=>absurd h (by simp)⟩
 | [],_::_,h=>h.elim
 | _::_,[],h=>h.elim
 | e::r,(k,xs)::s,⟨⟨h1,⟨t,h2⟩,h4⟩,h5⟩=>by
  obtain ⟨vs,p,d,n,ks⟩:=ZP (P:=P) h5
  have ik:(zy P w).is (.inr k) e.key=true:=y0 (k:=.inr k) ⟨t,h2⟩
  refine ⟨(.inr k,e.val)::vs,.cons ik rfl p,⟨rfl,h4,d⟩,by simp [n],λ e' he=>?_⟩
  rcases Y0d.mp he with rfl | he
  ·exact ⟨_,ik,h1⟩
  ·exact ks e' he
theorem GD {P:Program}{w:World}{K:Y00}{a:Addr}{es:Array DictEntry}{ep:Nat}{kvs:List (Str×Cv)} (l:K.lookup a=some { cls:=.type "dict",data:=.dict es ep }) (h:ZO w K es.toList kvs) (nd:(kvs.map (·.1)).Nodup) :
  Bc P w K (.ref a) (.dic kvs):=by
 obtain ⟨vs,p,d,n,ks⟩:=ZP (P:=P) h
 refine ⟨a,_,es,ep,vs,rfl,l,⟨rfl,rfl,rfl⟩,rfl,λ e he=>ks e (by simpa using he),p,?_,d⟩
 rw [n]
 have e:kvs.map (λ kx=>(Sum.inr kx.1:Key))=(kvs.map (·.1)).map λ k=>(Sum.inr k:Key):=by simp
 rw [e]
 exact List.Pairwise.map _ (λ x y hxy z=>hxy (Sum.inr.inj z)) nd
theorem JL:∀ {ns:List Int},PySem.W.WData.weightAll (ns.map PySem.W.WData.int)<=2 ^ 20->∀ n∈ns,Builtin.Int.intBits n<=2 ^ 20
 | [],_,n,hn=>absurd hn (by simp)
 | m::r,h,n,hn=>by
  rw [Y0h,PySem.W.WData.weightAll] at h
  rcases Y0d.mp hn with rfl | hn
  ·have e:PySem.W.WData.weight (.int n)=Builtin.Int.intBits n:=by rw [PySem.W.WData.weight];rfl
   omega
  ·exact JL (by omega) n hn
noncomputable def GE (K:Y00)(cv:Nat->Value)(c:List D->Hh->Res D):Sp:=spI K cv 1 c
theorem z2e {K:Y00}{cv:Nat->Value}{c:List D->Hh->Res D}{H:Hp}{a:Addr}{ns:List Int}{h':Hh}(hO:OI H)(hS:SqL K H a (ns.map V.int))(e:c [.fl (ns.map D.int)] []=.ok (.bl true) h') :
  GE K cv c [.ref a] H (λ v _=>v=.bl true) (λ _ _ _=>False):=by
 have rp:∀ ms:List Int,Reps K [] H (ms.map D.int) (ms.map V.int):=λ ms=>by
  induction ms with
  | nil=>exact .nil
  | cons m r ih=>exact .cons (.int m) ih
 have fz:Fz K H a (ns.map V.int):=by
  rcases hS with h | h
  ·left
   rcases h with h | h
   ·rcases hO a with z | ⟨o,xs,z⟩
    ·rw [h] at z;cases z
    ·rw [h] at z;cases z
   ·exact h
  ·exact .inr λ H'=>.inr h
 refine ⟨rfl,[],[],[.fl (ns.map D.int)],⟨rfl,λ n m b e1=>by simp at e1,λ n b o e1=>by simp at e1⟩,.cons (.fl fz (rp ns)) .nil,?_⟩
 ·rw [e]
  intro μ1 H1 v e1 r1 q1
  cases q1
  rfl
theorem walk_ofB {l:PySem.W.OpenLaw}{k:Nat}{q:Program}{loose:List Str}{XP:(Str->Option Value)->Heap->Prop}{YP:World->Heap->Prop}{d:DefRec}{K:Params->Y00}{c:List D->Hh->Res D}{x:Str}
  (hn:l.most=some 63) (hdf:d.params.defaults=[]) (hr:Room k callerA)
  (hY:∀ (w:World) (h:Heap),YP w h->(K w.params).In h)
  (F:∀ (w:World) (mg:Str->Option Value) (fa:Addr) (h:Heap),(K w.params).In h->h.Ns mainGlobals mg->mg d.name=some (.ref fa) ->
   ∃ (cv:Nat->Value) (fd:FuncData),(∀ (s:Shared) (u:Value),BindsTo s fd ⟨[u],[]⟩ [(x,u)]) /\
    ∀ base:Heap,(K w.params).In base->base.Ns mainGlobals mg->FnOk l.prog w (K w.params) mg base (CXs l.prog w) k fa fd [x] (GE (K w.params) cv c))
  (hc:∀ ns:List Int,ns.length<=63->(∀ n∈ns,Builtin.Int.intBits n<=2 ^ 20)->∃ h',c [.fl (ns.map D.int)] []=.ok (.bl true) h') :
  PySem.W.WalkO q loose XP YP l.row.toRowW d [] (λ f vs=>PySem.call f vs):=by
 intro w s₀ s₁ mg mb G Y fa o pm cd doc dV kV ho hd hcd hD hmg hg args vals as hpre hlay hrd hwl hlo
 obtain rfl:dV=.none:=PySem.W.Dflts.none hD hdf
 obtain rfl:kV=.none:=PySem.W.Dflts.noKw hD
 obtain ⟨a,vs,ns,rfl,rfl,hobj,hints,hlen⟩:=Att.script_of hn hpre hwl
 have hbits:∀ n∈ns,Builtin.Int.intBits n<=2 ^ 20:=by
  have h1:PySem.W.WData.layable (.list (ns.map .int))=true:=by
   have:=hlay
   unfold PySem.W.WData.layableAll at this
   simpa using this
  have h2:=(PySem.W.layableW_iff.mp h1).2.2
  exact JL (by simpa [PySem.W.WData.weight] using h2)
 have KX:=hY w _ Y
 obtain ⟨cv,fd,hb,hF⟩:=F w mg fa _ KX G.T.g hmg
 obtain ⟨h',e⟩:=hc ns hlen hbits
 refine PySem.W.enter_call (codeAny_mono (WW KX G.T.g G.T.b G.T.builtins G.T.nolimit hg hobj hints (Y11 hlen (by decide)) hr hF hb (λ H hO hS=>z2e hO hS e) (λ H e' s' z=>by
  obtain ⟨_,_,_,_,_,_,_,_,_,_,_,z⟩:=z
  exact z)) λ r s' hq=>?_)
 obtain ⟨rfl,h2,h3,h4⟩:=hq
 exact ⟨.inl ⟨.bool true,.bool true,[],rfl,λ _=>rfl,.bool true,Att.post_true l _,λ _=>⟨List.Pairwise.nil,λ _ hm=>(nomatch hm)⟩⟩,h2,h3,h4⟩
end PI
namespace PI
open PySem L2
section
variable {cl:Nat->List D->Hh->Res D}
theorem z6c {z0 z1 h}:E.ev cl (.non z0) z1 h=.ok .non h:=rfl
theorem UX {i z0 z1 h}:E.ev cl (.int i z0) z1 h=.ok (.int i) h:=rfl
theorem zR {i z0 ρ h}:E.ev cl (.var i z0) ρ h=match ρ[i]? with | some (some d)=>.ok d h | _=>.no:=rfl
theorem vun {op a z0 ρ h}:E.ev cl (.un op a z0) ρ h=(a.ev cl ρ h).bind λ x h1=>unD op x h1:=rfl
theorem Bu {op a b z0 ρ h}:E.ev cl (.cmp op a b z0) ρ h=(a.ev cl ρ h).bind λ x h1=>(b.ev cl ρ h1).bind λ y h2=>j0 op x y h2:=rfl
theorem z4d {c a b z0 ρ h}:E.ev cl (.ite c a b z0) ρ h=(c.ev cl ρ h).bind λ x h1=>tru x h1 λ t h1=>if t then a.ev cl ρ h1 else b.ev cl ρ h1:=rfl
theorem z6d {a z0 z1 ρ h}:E.ev cl (.len a z0 z1) ρ h=(a.ev cl ρ h).bind λ x h1=>Z2 x h1:=rfl
theorem z6e {T a z0 z1 z2 ρ h}:E.ev cl (.isi T a z0 z1 z2) ρ h=(a.ev cl ρ h).bind λ x h1=>match isI h1 x T with | some b=>.ok (.bl b) h1 | none=>.no:=rfl
theorem GF {a i z0 ρ h}:E.ev cl (.sub a i z0) ρ h=(a.ev cl ρ h).bind λ x h1=>(i.ev cl ρ h1).bind λ y h2=>jg x y h2:=rfl
theorem z6f {es z0 ρ h}:E.ev cl (.tup es z0) ρ h=(es.ev cl ρ h).bind λ xs h1=>if xs.length<=1000 then .ok (.tup xs) h1 else .no:=rfl
theorem vofL {l ρ h}:E.ev cl (.ofL l) ρ h=(l.ev cl ρ h).bind λ xs h1=>new (.lst xs) h1:=rfl
theorem z2f {e z0 z1 ρ h}:E.ev cl (.listE e z0 z1) ρ h=(e.ev cl ρ h).bind λ x h1=>match wR x h1 with | some xs=>new (.lst xs) h1 | none=>.no:=rfl
theorem vdicP {e z0 z1 ρ h}:E.ev cl (.dicP e z0 z1) ρ h=(e.ev cl ρ h).bind λ x h1=>YY x h1:=rfl
theorem z2g {ks vs z0 ρ h}:E.ev cl (.dispD ks vs z0) ρ h=(vs.ev cl ρ (h++[.dK []])).bind λ xs h1=>YZ ks h.length xs h1:=rfl
theorem z4e {a lo hi z0 z1 ρ h}:E.ev cl (.cut a lo hi z0 z1) ρ h=(a.ev cl ρ h).bind λ x h1=>(lo.ev cl ρ h1).bind λ l h2=>(hi.ev cl ρ h2).bind λ u h3=>UK x l u h3:=rfl
theorem vm0 {m o z0 z1 ρ h}:E.ev cl (.m0 m o z0 z1) ρ h=(o.ev cl ρ h).bind λ x h1=>m0D m x h1:=rfl
theorem vm1 {m o a z0 z1 ρ h}:E.ev cl (.m1 m o a z0 z1) ρ h=(o.ev cl ρ h).bind λ x h1=>onL x h1 ((a.ev cl ρ h1).bind λ y h2=>m1D m x y h2):=rfl
theorem vc1 {f a z0 z1 ρ h}:E.ev cl (.c1 f a z0 z1) ρ h=(a.ev cl ρ h).bind λ x h1=>c1D f x h1:=rfl
theorem Yh {e z0 z1 z2 z3 ρ h}:E.ev cl (.listR e z0 z1 z2 z3) ρ h=(e.ev cl ρ h).bind λ x h1=>lrD x h1:=rfl
theorem z4f {z0 c z1 z2 h}:E.ev cl (.gcon z0 c z1) z2 h=match c with | .int i=>.ok (.int i) h | .str x=>.ok (.str x) h | .tup xs=>.ok (.tup (xs.map .str)) h | .dic _=>.no | .exc _ _=>.no | .cls _=>.no | .isc _ _=>.no:=rfl
theorem z2h {z0 kvs key a r z1 z2 z3 ρ h}:E.ev cl (.callG z0 kvs key a r z1 z2 z3) ρ h=(key.ev cl ρ h).bind λ y h1=>match fnOf kvs y with | some i=>(a.ev cl ρ h1).bind λ x h2=>(r.ev cl ρ h2).bind λ xs h3=>cl i (x::xs) h3 | none=>.no:=rfl
theorem z4g {a f z0 ρ h}:E.ev cl (.fld a f z0) ρ h=(a.ev cl ρ h).bind λ x h1=>ZD x f h1:=rfl
theorem vmk {i x a r z0 z1 ρ h}:E.ev cl (.mk i x a r z0 z1) ρ h=(a.ev cl ρ h).bind λ y h1=>(r.ev cl ρ h1).bind λ ys h2=>mkR h2.length (cl i (.loc h2.length::y::ys) (h2++[.obj x []])):=rfl
theorem ldisp {es z0 ρ h}:L.ev cl (.disp es z0) ρ h=(es.ev cl ρ h).bind λ xs h1=>if xs.length<=1000 then .ok xs h1 else .no:=rfl
theorem izip {a b z0 z1 ρ h}:I.ev cl (.zip a b z0 z1) ρ h=(a.ev cl ρ h).bind λ x h1=>(b.ev cl ρ h1).bind λ y h2=>Qa x y h2:=rfl
theorem z6g {z0 h}:Es.ev cl .nil z0 h=.ok [] h:=rfl
theorem Bv {i e z0 z1 ρ h}:S.run cl (.set i e z0 z1) ρ h=zY ρ (e.ev cl ρ h) λ d h1=>.nx (ρ.set i (some d)) h1:=rfl
theorem GG {e z0 ρ h}:S.run cl (.ret e z0) ρ h=zY ρ (e.ev cl ρ h) λ d h1=>.rt d h1:=rfl
theorem yex {e z0 ρ h}:S.run cl (.ex e z0) ρ h=zY ρ (e.ev cl ρ h) λ _ h1=>.nx ρ h1:=rfl
theorem Qd {c b z0 ρ h}:S.run cl (.whil c b z0) ρ h=whR (λ ρ' h'=>c.evT cl ρ' h') (λ ρ' h'=>b.run cl ρ' h') ρ h:=rfl
theorem GH {o f v z0 z1 ρ h}:S.run cl (.setF o f v z0 z1) ρ h=zY ρ (v.ev cl ρ h) λ z h1=>zY ρ (o.ev cl ρ h1) λ x h2=>match qh x f z h2 with | some h3=>.nx ρ h3 | none=>.no:=rfl
theorem ZQ {ρ h}:Ss.run cl .nil ρ h=.nx ρ h:=rfl
theorem wF {s r ρ h}:Ss.run cl (.cons s r) ρ h=jP (s.run cl ρ h) λ ρ' h'=>r.run cl ρ' h':=rfl
end
end PI
namespace PI
open PySem L2
section
variable {h l:Hh}{o u:O}{n k:Nat}{xs:List D}
theorem hx (h l:Hh)(k:Nat):(h++l)[h.length+k]?=l[k]?:=by
 rw [Y08 (by omega)];congr 1;omega
theorem VN (e:h[n]?=some (.lst xs)):rd h n=some xs:=by unfold rd;rw [e]
end
theorem js {c:Ck}{f:D->Hh->Res (Option D)}{h:Hh}(st:stay c h)(g:D->Option D):∀ (xs acc:List D),(∀ x∈xs,f x h=.ok (g x) h)->zX c f xs acc h=.ok (acc++xs.filterMap g) h
 | [],acc,_=>by simp [zX,st]
 | x::r,acc,e=>by
  have e1:=e x (Y0b ..)
  have ih:=js st g r (Ge acc (g x)) λ y hy=>e y (Y04 _ hy)
  unfold zX
  rw [if_pos st,e1,bind_ok,ih,Y26]
  cases g x<;>simp
theorem eqS {a b:Str}{h:Hh}(ha:PyData.strOk a=true)(hb:PyData.strOk b=true):j0 .Eq (.str a) (.str b) h=.ok (.bl (a==b)) h:=if_pos ⟨ha,hb,Y1h _⟩
theorem neS {a b:Str}{h:Hh}(ha:PyData.strOk a=true)(hb:PyData.strOk b=true):j0 .NotEq (.str a) (.str b) h=.ok (.bl (!(a==b))) h:=if_pos ⟨ha,hb,Y1h _⟩
theorem eqI {a b:Int}{h:Hh}:j0 .Eq (.int a) (.int b) h=.ok (.bl (a==b)) h:=rfl
theorem neI {a b:Int}{h:Hh}:j0 .NotEq (.int a) (.int b) h=.ok (.bl (!(a==b))) h:=rfl
noncomputable def yc:Nat->Ss->Ss
 | 0,_=>.nil
 | _+1,.nil=>.nil
 | n+1,.cons s r=>.cons s (yc n r)
noncomputable def jm:Nat->Ss->Ss
 | 0,b=>b
 | _+1,.nil=>.nil
 | n+1,.cons _ r=>jm n r
theorem GI (cl:Nat->List D->Hh->Res D):∀ (n:Nat) (b:Ss) (ρ:En) (h:Hh),Ss.run cl b ρ h=jP (Ss.run cl (yc n b) ρ h) λ ρ' h'=>Ss.run cl (jm n b) ρ' h'
 | 0,b,ρ,h=>by simp [yc,jm,ZQ,wF]
 | n+1,.nil,ρ,h=>by simp [yc,jm,ZQ,wF]
 | n+1,.cons s r,ρ,h=>by
  simp only [yc,jm,ZQ,wF]
  cases S.run cl s ρ h with
  | nx ρ' h'=>simp only [seqS_nx];exact GI cl n r ρ' h'
  | _=>rfl
theorem Z9:∀ (bs:List Bool),qg (bs.map D.bl)=some bs
 | []=>rfl
 | b::r=>by simp [qg,Z9 r]
end PI
namespace PI
open PySem L2
noncomputable def cs (x:Str):List Nat:=x.cps.toList
noncomputable def mkS (l:List Nat):Str:=⟨l.toArray⟩
theorem JM (l:List Nat):cs (mkS l)=l:=by simp [cs,mkS]
theorem GJ (x:Str):mkS (cs x)=x:=by cases x;simp [cs,mkS]
theorem z2i {x y:Str}(h:cs x=cs y):x=y:=by rw [<- GJ x,<- GJ y,h]
theorem GK {a b:List Nat}(h:mkS a=mkS b):a=b:=by rw [<- JM a,<- JM b,h]
theorem UY (x y:Str):cs (x++y)=cs x++cs y:=by
 show (x.cps++y.cps).toList=_
 simp [cs]
theorem UZ (a b:List Nat):mkS a++mkS b=mkS (a++b):=z2i (by rw [UY,JM,JM,JM])
theorem z2j (x:Str):x.length=(cs x).length:=by simp [cs,Str.length]
theorem GL (l:List Nat):(mkS l).length=l.length:=by rw [z2j,JM]
theorem GM {l:List Nat}(h:∀ c∈l,c<1114112):PyData.strOk (mkS l)=true:=by
 unfold PyData.strOk mkS
 simpa using h
theorem Za {i:Int}(h:i.natAbs<18446744073709551616):fits i=true:=by
 unfold fits Builtin.Int.intBits
 refine decide_eq_true ?_
 split
 ·decide
 ·rename_i z
  have hz:i.natAbs≠0:=by simpa using z
  have:i.natAbs.log2<64:=by
   rw [Nat.log2_lt hz]
   exact h
  omega
structure Wd (x:Str):Prop where
 ne:cs x≠[]
 len:(cs x).length<=20
 ch:∀ c∈cs x,c≠40/\c≠41/\c≠10/\c<1114112
end PI
namespace PI
open PySem L2
section
variable {cl:Nat->List D->Hh->Res D}{ρ ρ':En}{h h' h2 h3:Hh}{c e:E}{a b r:Ss}{p p0 p1 p2 p3:Pos}{d x:D}{i:Nat}
theorem zi {o:RS}(hc:c.evT cl ρ h=.ok false h')(k:Ss.run cl r ρ h'=o):Ss.run cl (.cons (.iff c a .nil p) r) ρ h=o:=by
 rw [<- k]
 show jP (zY ρ (c.evT cl ρ h) λ t h1=>if t then a.run cl ρ h1 else Ss.nil.run cl ρ h1) (λ ρ' h'=>r.run cl ρ' h')=_
 rw [hc];rfl
theorem z07 (hc:c.evT cl ρ h=.ok true h'):Ss.run cl (.cons (.iff c a b p) r) ρ h=jP (a.run cl ρ h') λ ρ' h'=>r.run cl ρ' h':=by
 show jP (zY ρ (c.evT cl ρ h) λ t h1=>if t then a.run cl ρ h1 else b.run cl ρ h1) (λ ρ' h'=>r.run cl ρ' h')=_
 rw [hc];rfl
theorem jb (hc:c.evT cl ρ h=.ok true h')(ha:a.run cl ρ h'=.rt d h2):Ss.run cl (.cons (.iff c a b p) r) ρ h=.rt d h2:=by rw [z07 hc,ha];rfl
theorem jc {o:RS}(hc:c.evT cl ρ h=.ok true h')(ha:a.run cl ρ h'=.nx ρ' h2)(k:Ss.run cl r ρ' h2=o):Ss.run cl (.cons (.iff c a b p) r) ρ h=o:=by rw [<- k,z07 hc,ha];rfl
theorem zo (he:e.ev cl ρ h=.ok d h'):Ss.run cl (.cons (.ret e p) r) ρ h=.rt d h':=by
 show jP (zY ρ (e.ev cl ρ h) λ d h1=>.rt d h1) (λ ρ' h'=>r.run cl ρ' h')=_
 rw [he];rfl
theorem ze {o:RS}(he:e.ev cl ρ h=.ok d h')(k:Ss.run cl r (ρ.set i (some d)) h'=o):Ss.run cl (.cons (.set i e p1 p) r) ρ h=o:=by
 rw [<- k]
 show jP (zY ρ (e.ev cl ρ h) λ d h1=>.nx (ρ.set i (some d)) h1) (λ ρ' h'=>r.run cl ρ' h')=_
 rw [he];rfl
theorem yy {o:RS}(he:e.ev cl ρ h=.ok d h')(k:Ss.run cl r ρ h'=o):Ss.run cl (.cons (.ex e p) r) ρ h=o:=by
 rw [<- k]
 show jP (zY ρ (e.ev cl ρ h) λ d h1=>.nx ρ h1) (λ ρ' h'=>r.run cl ρ' h')=_
 rw [he];rfl
theorem z2k {o:RS}{is:List (Nat×Pos)}(he:e.ev cl ρ h=.ok d h')(hb:jj (.tup is p1) (Wk d h') ρ=some ρ')(k:Ss.run cl r ρ' h'=o):Ss.run cl (.cons (.setT is e p1 p) r) ρ h=o:=by
 rw [<- k]
 show jP (zY ρ (e.ev cl ρ h) λ d h1=>match jj (.tup is p1) (Wk d h1) ρ with | some ρ'=>.nx ρ' h1 | none=>.no) (λ ρ' h'=>r.run cl ρ' h')=_
 rw [he,andS_ok,hb];rfl
theorem zg {o:RS}(q:o=.rt d h):Wl o=.ok d h:=by rw [q];rfl
theorem zZ {o:RS}(q:o=.nx ρ h):Wl o=.ok .non h:=by rw [q];rfl
theorem JN {x k:Int}{b:Bool}(q:ρ[i]?=some (some (.int x)))(hb:(x==k)=b):E.evT cl (.cmp .Eq (.var i p1) (.int k p2) p3) ρ h=.ok b h:=by
 show ((match ρ[i]? with | some (some d)=>Res.ok d h | _=>.no).bind λ x h1=>j0 .Eq x (.int k) h1).bind _=_
 rw [q,<- hb]
 show (j0 .Eq (.int x) (.int k) h).bind _=_
 rw [eqI];rfl
theorem bnd {α β:Type}{m:Res α}{f:α->Hh->Res β}{x:α}{y:Res β}(q:m=.ok x h)(g:f x h=y):m.bind f=y:=by rw [q];exact g
theorem ju {b:Bool}(q:e.evT cl ρ h=.ok b h'):e.ev cl ρ h=.ok (.bl b) h':=by
 have q:((e.ev cl ρ h).bind λ d h1=>match d with | .bl b=>.ok b h1 | _=>.no)=Res.ok b h':=q
 cases m:e.ev cl ρ h with
 | ok d h1 =>
  rw [m] at q
  cases d with
  | bl b'=>cases q;rfl
  | _=>cases q
 | exc c h1=>rw [m] at q;cases q
 | no=>rw [m] at q;cases q
theorem z2l {e':E}{r:Es}(ha:e.evT cl ρ h=.ok false h'):(E.and e e' r p).evT cl ρ h=.ok false h':=bnd (bnd (ju ha) rfl) rfl
theorem z08 {e':E}{t:Bool}(ha:e.evT cl ρ h=.ok true h')(hb:e'.evT cl ρ h'=.ok t h2):(E.and e e' .nil p).evT cl ρ h=.ok t h2:=bnd (bnd (ju ha) (bnd (ju hb) rfl)) rfl
theorem zf {a' b':E}{x y:D}{op:CmpOp}{t:Bool}(ha:a'.ev cl ρ h=.ok x h')(hb:b'.ev cl ρ h'=.ok y h2)(hc:j0 op x y h2=.ok (.bl t) h3):E.evT cl (.cmp op a' b' p) ρ h=.ok t h3:=bnd (bnd ha (bnd hb hc)) rfl
theorem z2m {e':E}{t:Bool}(ha:e.evT cl ρ h=.ok true h')(hb:e'.evT cl ρ h'=.ok true h2)(hc:c.evT cl ρ h2=.ok t h3):(E.and e e' (.cons c .nil) p).evT cl ρ h=.ok t h3:=bnd (bnd (ju ha) (bnd (ju hb) (bnd (ju hc) rfl))) rfl
theorem j7 {o:RS}{tg:Tg}{it:I}{q:Ck×List D}(hi:it.ev cl ρ h=.ok q h')(hf:jz q.1 (zQ tg λ ρ' h'=>a.run cl ρ' h') q.2 ρ h'=.nx ρ' h2)(k:Ss.run cl r ρ' h2=o):Ss.run cl (.cons (.forr tg it a p) r) ρ h=o:=by
 rw [<- k]
 show jP (zY ρ (it.ev cl ρ h) λ q h1=>jz q.1 (zQ tg λ ρ' h'=>a.run cl ρ' h') q.2 ρ h1) (λ ρ' h'=>r.run cl ρ' h')=_
 rw [hi,andS_ok,hf];rfl
theorem z2n {tg:Tg}{it:I}{q:Ck×List D}(hi:it.ev cl ρ h=.ok q h')(hf:jz q.1 (zQ tg λ ρ' h'=>a.run cl ρ' h') q.2 ρ h'=.rt d h2):Ss.run cl (.cons (.forr tg it a p) r) ρ h=.rt d h2:=by
 show jP (zY ρ (it.ev cl ρ h) λ q h1=>jz q.1 (zQ tg λ ρ' h'=>a.run cl ρ' h') q.2 ρ h1) (λ ρ' h'=>r.run cl ρ' h')=_
 rw [hi,andS_ok,hf];rfl
theorem ZR {o:RS}{oe ie ve:E}{x y z:D}{h4:Hh}(hv:ve.ev cl ρ h=.ok z h')(ho:oe.ev cl ρ h'=.ok x h2)(hi:ie.ev cl ρ h2=.ok y h3)(hp:Je x y z h3=some h4)(k:Ss.run cl r ρ h4=o):Ss.run cl (.cons (.put oe ie ve p1 p) r) ρ h=o:=by
 rw [<- k]
 show jP (zY ρ (ve.ev cl ρ h) λ z h1=>zY ρ (oe.ev cl ρ h1) λ x h2=>zY ρ (ie.ev cl ρ h2) λ y h3=>match Je x y z h3 with | some h4=>.nx ρ h4 | none=>.no) (λ ρ' h'=>r.run cl ρ' h')=_
 rw [hv,andS_ok,ho,andS_ok,hi,andS_ok,hp];rfl
theorem jR {o:RS}{ck:Ck}{f:D->En->Hh->RS}{l:List D}(hs:stay ck h)(hf:f x ρ h=.nx ρ' h')(k:jz ck f l ρ' h'=o):jz ck f (x::l) ρ h=o:=by
 rw [jz,if_pos hs,hf];exact k
theorem Wv {n:Nat}{l:List D}(g:h[n]?=some (.lst l))(m:Res D):onL (.loc n) h m=m:=by
 show (match h[n]? with | some (.lst _)=>m | _=>.no)=m
 rw [g]
theorem fdk {i k:Int}(hk:0<k/\k<1073741824):wc .FloorDiv (.int i) (.int k) h=.ok (.int (i/k)) h:=if_pos hk
theorem mdk {i k:Int}(hk:0<k):wc .Mod (.int i) (.int k) h=.ok (.int (i%k)) h:=if_pos hk
theorem z09 {j:Int}(ha:e.ev cl ρ h=.ok (.int j) h')(hj:-1000000<=j/\j<=1000000):I.ev cl (.rng e p1 p2) ρ h=.ok ([],(List.range j.toNat).map λ k=>.int (k:Nat)) h':=bnd ha (if_pos hj)
theorem V3 {e':E}{t:Bool}(ha:e.evT cl ρ h=.ok false h')(hb:e'.evT cl ρ h'=.ok t h2):(E.or e e' .nil p).evT cl ρ h=.ok t h2:=bnd (bnd (ju ha) (bnd (ju hb) rfl)) rfl
theorem Yi {xs:List D}(he:e.ev cl ρ h=.ok x h')(hs:wR x h'=some xs):E.ev cl (.tupE e p p1) ρ h=.ok (.tup xs) h':=bnd he (by
 show (match wR x h' with | some xs=>Res.ok (D.tup xs) h' | none=>.no)=_
 rw [hs])
theorem jH {tg:Tg}{ct:En->Hh->Res Bool}{ce:En->Hh->Res D}(hb:jj tg x ρ=some ρ')(hc:ct ρ' h=.ok true h')(he:ce ρ' h'=.ok d h2):jk tg ρ ct ce x h=.ok (some d) h2:=by
 show (match jj tg x ρ with | some ρ'=>(ct ρ' h).bind λ b h1=>if b then (ce ρ' h1).bind λ d h2=>.ok (some d) h2 else .ok none h1 | none=>.no)=_
 rw [hb];exact bnd hc (bnd he rfl)
theorem Ww {n:Nat}{xs:List D}(he:e.ev cl ρ h=.ok (.loc n) h')(hr:rd h' n=some xs):I.ev cl (.seq e) ρ h=.ok ([(n,xs)],xs) h':=bnd he (by
 show (match rd h' n with | some xs=>Res.ok (([(n,xs)],xs):Ck×List D) h' | none=>.no)=_
 rw [hr])
theorem jd {elt:E}{tg:Tg}{it:I}{ct:Es}{ns:List Str}{cap:List (Option Nat)}{sc:Scope}{q:Ck×List D}{xs:List D}(hi:it.ev cl ρ h=.ok q h')(hl:q.2.length<=1000000)(hc:zX q.1 (jk tg (qf cap ρ) (λ ρ' h2=>ct.evC cl ρ' h2) (λ ρ' h2=>elt.ev cl ρ' h2)) q.2 [] h'=.ok xs h2):E.ev cl (.ofL (.comp elt tg it ct ns cap sc p)) ρ h=.ok (.loc h2.length) (h2++[.lst xs]):=bnd (bnd hi ((if_pos hl).trans hc)) rfl
theorem GN {i:Int}(he:e.ev cl ρ h=.ok (.int i) h'):Eo.ev cl (.some e) ρ h=.ok (some i) h':=bnd he rfl
theorem GO (n:Nat){s:Ss}{o:RS}(q:Ss.run cl (yc n s) ρ h=.nx ρ' h')(k:Ss.run cl (jm n s) ρ' h'=o):Ss.run cl s ρ h=o:=by rw [GI cl n,q];exact k
theorem mlk {i j:Int}(hi:fits i=true)(hj:fits j=true):wc .Mult (.int i) (.int j) h=.ok (.int (i*j)) h:=if_pos ⟨hi,hj⟩
theorem zM {o:RS}(hc:c.evT cl ρ h=.ok false h')(hb:b.run cl ρ h'=.nx ρ' h2)(k:Ss.run cl r ρ' h2=o):Ss.run cl (.cons (.iff c a b p) r) ρ h=o:=by
 rw [<- k]
 show jP (zY ρ (c.evT cl ρ h) λ t h1=>if t then a.run cl ρ h1 else b.run cl ρ h1) (λ ρ' h'=>r.run cl ρ' h')=_
 rw [hc]
 show jP (b.run cl ρ h') _=_
 rw [hb];rfl
end
end PI
namespace PI
open PySem L2
inductive Kd where
 | num (n:Int) | var (x:Str) | op (s:Str) | lett (x:Str) | ite | call (f:Str) (g:Option Str) | doo (d:Str) | handle (h:Str) | go | guard
inductive G where
 | nd (k:Kd) (ps:List G)
noncomputable def z6h:Option Str->D
 | none=>.non
 | some g=>.str g
noncomputable def Kd.enc:Kd->List D->D
 | .num n,ps=>.tup (.str "num"::.int n::ps)
 | .var x,ps=>.tup (.str "var"::.str x::ps)
 | .op s,ps=>.tup (.str "op"::.str s::ps)
 | .lett x,ps=>.tup (.str "let"::.str x::ps)
 | .ite,ps=>.tup (.str "if"::ps)
 | .call f g,ps=>.tup [.str "call",.str f,z6h g,.tup ps]
 | .doo d,ps=>.tup (.str "do"::.str d::ps)
 | .handle h,ps=>.tup (.str "handle"::.str h::ps)
 | .go,ps=>.tup (.str "go"::ps)
 | .guard,ps=>.tup (.str "guard"::ps)
mutual
noncomputable def G.d:G->D
 | .nd k ps=>k.enc (G.ds ps)
noncomputable def G.ds:List G->List D
 | []=>[]
 | g::r=>g.d::G.ds r
end
mutual
noncomputable def G.size:G->Nat
 | .nd _ ps=>1+G.sizes ps
noncomputable def G.sizes:List G->Nat
 | []=>0
 | g::r=>g.size+G.sizes r
end
noncomputable def Kd.ok (k:Kd)(n:Nat):Bool:=match k with
 | .num _ | .var _=>n==0
 | .op _ | .lett _ | .handle _ | .go | .guard=>n==2
 | .ite=>n==3
 | .doo _=>n==1
 | .call _ _=>true
mutual
noncomputable def G.ok:G->Bool
 | .nd k ps=>k.ok ps.length&&G.oks ps
noncomputable def G.oks:List G->Bool
 | []=>true
 | g::r=>g.ok&&G.oks r
end
theorem so:∀ x∈(["num","var","op","let","if","call","do","handle","go","guard","never","jump","once","many"]:List Str),PyData.strOk x=true:=by decide +kernel
theorem jI:PyData.strOk "call"=true:=so _ (by simp)
theorem JO:PyData.strOk "if"=true:=so _ (by simp)
noncomputable def Kd.isGuard:Kd->Bool
 | .guard=>true
 | _=>false
end PI
namespace K43
open PySem L2 PI
noncomputable abbrev qQ (l a b:Nat):PySem.Pos:=⟨l,a,l,b⟩
noncomputable def z4i (i:Nat):Stmt:=PySem.Challenge.pw_deedwright_k43_calls_in_turn.main.body.getD i (.Pass ⟨0,0,0,0⟩)
noncomputable def wM:List (Str×Cv):=[("num",.int 2),("var",.int 2),("op",.int 2),("let",.int 2),("if",.int 1),("do",.int 2),("handle",.int 2),("go",.int 1),("guard",.int 1)]
noncomputable def wg:List Str:=["let","if","handle","guard"]
noncomputable def qP:List (Str×Cv):=[("op",.fn 19 "then_op"),("let",.oth),("if",.fn 20 "then_if"),("call",.fn 21 "then_call"),("do",.oth),("handle",.oth),("go",.oth),("guard",.oth)]
noncomputable def zh:List (Str×Cn):=[("FIRST_PART",(.dic wM)),("GREATEST",(.int (1000000000000000000))),("FIRST_AHEAD",(.tup wg)),("THEN",(.dic qP)),("Walk",(.cls 40)),("Doing",(.cls 41)),("Standing",(.cls 42)),("Standing",(.isc "Standing" ["Walk","Doing","Standing"]))]
noncomputable def d_parts_of:Df:=⟨"parts_of",["tree"],["tree"],(.cons (.iff (.cmp .Eq (.sub (.var 0 (qQ 11 7 11)) (.int 0 (qQ 11 12 13)) (qQ 11 7 14)) (.str "call" (qQ 11 18 24)) (qQ 11 7 24)) (.cons (.ret (.sub (.var 0 (qQ 12 15 19)) (.int 3 (qQ 12 20 21)) (qQ 12 15 22)) (qQ 12 8 22)) .nil) .nil ⟨11,4,12,22⟩) (.cons (.ret (.cut (.var 0 (qQ 13 11 15)) (.some (.gsub "FIRST_PART" wM (.sub (.var 0 (qQ 13 27 31)) (.int 0 (qQ 13 32 33)) (qQ 13 27 34)) (qQ 13 16 26) (qQ 13 16 35))) .none (qQ 13 16 36) (qQ 13 11 37)) (qQ 13 4 37)) .nil))⟩
noncomputable def jJ:Df:=⟨"stands_for",["name","block"],["name","block"],(.cons (.ret (.ite (.cmp .Eq (.var 0 (qQ 15 23 27)) (.sub (.var 1 (qQ 15 31 36)) (.int 0 (qQ 15 37 38)) (qQ 15 31 39)) (qQ 15 23 39)) (.sub (.var 1 (qQ 15 11 16)) (.int 1 (qQ 15 17 18)) (qQ 15 11 19)) (.var 0 (qQ 15 45 49)) (qQ 15 11 49)) (qQ 15 4 49)) .nil)⟩
noncomputable def e_items_by_name_1:E:=(.tup (.cons (.sub (.var 0 (qQ 17 18 22)) (.int 1 (qQ 17 23 24)) (qQ 17 18 25)) (.cons (.var 0 (qQ 17 27 31)) .nil)) (qQ 17 17 32))
noncomputable def c_items_by_name_1:Es:=.nil
noncomputable def jY:Tg:=(.one 0 (qQ 17 37 41))
noncomputable def yd:Scope:={ kind:=PySem.ScopeKind.function,names:=[(PySem.Str.ofString ".0",PySem.NameKind.local),(PySem.Str.ofString "item",PySem.NameKind.local)],isGenerator:=false,isCoroutine:=false,more:=[]:PySem.Scope }
noncomputable def jA:Df:=⟨"items_by_name",["program"],["program"],(.cons (.ret (.dicP (.ofL (.comp e_items_by_name_1 jY (.seq (.var 0 (qQ 17 45 52))) c_items_by_name_1 ["item"] [none] yd (qQ 17 16 53))) (qQ 17 11 15) (qQ 17 11 54)) (qQ 17 4 54)) .nil)⟩
noncomputable def wj:Df:=⟨"is_function",["name","items"],["name","items"],(.cons (.ret (.and (.cmp .In (.var 0 (qQ 20 11 15)) (.var 1 (qQ 20 19 24)) (qQ 20 11 24)) (.cmp .Eq (.sub (.sub (.var 1 (qQ 20 29 34)) (.var 0 (qQ 20 35 39)) (qQ 20 29 40)) (.int 0 (qQ 20 41 42)) (qQ 20 29 43)) (.str "def" (qQ 20 47 52)) (qQ 20 29 52)) .nil (qQ 20 11 52)) (qQ 20 4 52)) .nil)⟩
noncomputable def qR:Df:=⟨"begun_at",["f","items"],["f","items"],(.cons (.iff (.or (.un .Not (.call 3 (.var 0 (qQ 22 23 24)) (.cons (.var 1 (qQ 22 26 31)) .nil) (qQ 22 11 22) (qQ 22 11 32)) (qQ 22 7 32)) (.cmp .IsNot (.sub (.sub (.var 1 (qQ 22 36 41)) (.var 0 (qQ 22 42 43)) (qQ 22 36 44)) (.int 3 (qQ 22 45 46)) (qQ 22 36 47)) (.non (qQ 22 55 59)) (qQ 22 36 59)) .nil (qQ 22 7 59)) (.cons (.raw (.Raise (some (.Call (.Name "NoName" (qQ 23 14 20)) [(.JoinedStr [(.FormattedValue (.Name "f" (qQ 23 24 25)) (-1) none (qQ 23 23 26)),(.Constant (.str " is no function without block") 0 (qQ 23 26 55))] (qQ 23 21 56))] [] (qQ 23 14 57))) none (qQ 23 8 57))) .nil) .nil ⟨22,4,23,57⟩) (.cons (.ret (.sub (.var 1 (qQ 24 11 16)) (.var 0 (qQ 24 17 18)) (qQ 24 11 19)) (qQ 24 4 19)) .nil))⟩
noncomputable def jB:Df:=⟨"check_numbers",["function","numbers"],["function","numbers","name"],(.cons (.iff (.cmp .NotEq (.len (.var 1 (qQ 26 11 18)) (qQ 26 7 10) (qQ 26 7 19)) (.len (.sub (.var 0 (qQ 26 27 35)) (.int 2 (qQ 26 36 37)) (qQ 26 27 38)) (qQ 26 23 26) (qQ 26 23 39)) (qQ 26 7 39)) (.cons (.set 2 (.sub (.var 0 (qQ 27 15 23)) (.int 1 (qQ 27 24 25)) (qQ 27 15 26)) (qQ 27 8 12) (qQ 27 8 26)) (.cons (.raw (.Raise (some (.Call (.Name "NoCount" (qQ 28 14 21)) [(.JoinedStr [(.FormattedValue (.Name "name" (qQ 28 25 29)) (-1) none (qQ 28 24 30)),(.Constant (.str " is begun with too few or too many numbers") 0 (qQ 28 30 72))] (qQ 28 22 73))] [] (qQ 28 14 74))) none (qQ 28 8 74))) .nil)) .nil ⟨26,4,28,74⟩) .nil)⟩
noncomputable def d_reckoned:Df:=⟨"reckoned",["sign","a","b"],["sign","a","b","told"],(.cons (.iff (.cmp .Eq (.var 0 (qQ 32 7 11)) (.str "<" (qQ 32 15 18)) (qQ 32 7 18)) (.cons (.ret (.ite (.cmp .Lt (.var 1 (qQ 33 20 21)) (.var 2 (qQ 33 24 25)) (qQ 33 20 25)) (.int 1 (qQ 33 15 16)) (.int 0 (qQ 33 31 32)) (qQ 33 15 32)) (qQ 33 8 32)) .nil) .nil ⟨32,4,33,32⟩) (.cons (.iff (.cmp .Eq (.var 0 (qQ 34 7 11)) (.str "+" (qQ 34 15 18)) (qQ 34 7 18)) (.cons (.set 3 (.bin .Add (.var 1 (qQ 35 15 16)) (.var 2 (qQ 35 19 20)) (qQ 35 15 20)) (qQ 35 8 12) (qQ 35 8 20)) .nil) (.cons (.iff (.cmp .Eq (.var 0 (qQ 36 9 13)) (.str "-" (qQ 36 17 20)) (qQ 36 9 20)) (.cons (.set 3 (.bin .Sub (.var 1 (qQ 37 15 16)) (.var 2 (qQ 37 19 20)) (qQ 37 15 20)) (qQ 37 8 12) (qQ 37 8 20)) .nil) (.cons (.set 3 (.bin .Mult (.var 1 (qQ 39 15 16)) (.var 2 (qQ 39 19 20)) (qQ 39 15 20)) (qQ 39 8 12) (qQ 39 8 20)) .nil) ⟨36,4,39,20⟩) .nil) ⟨34,4,39,20⟩) (.cons (.ret (.ite (.cmp .Gt (.c1 .abs (.var 3 (qQ 40 23 27)) (qQ 40 19 22) (qQ 40 19 28)) (.gcon "GREATEST" (.int (1000000000000000000)) (qQ 40 31 39)) (qQ 40 19 39)) (.non (qQ 40 11 15)) (.var 3 (qQ 40 45 49)) (qQ 40 11 49)) (qQ 40 4 49)) .nil)))⟩
noncomputable def Bw:Tg:=(.one 6 (qQ 72 8 14))
noncomputable def Bx:Ss:=(.cons (.iff (.cmp .Eq (.sub (.fld (.var 5 (qQ 73 11 15)) "end" (qQ 73 11 19)) (.int 0 (qQ 73 20 21)) (qQ 73 11 22)) (.str "asks" (qQ 73 26 32)) (qQ 73 11 32)) (.cons (.raw (z25 (zF (z4i 21)) 2 [(0,0),(0,0)])) .nil) .nil ⟨73,8,74,34⟩) .nil)
noncomputable def GP:Df:=⟨"run",["program","f","numbers","answers","turns"],["program","f","numbers","answers","turns","walk","answer"],(.cons (.set 5 (.call 8 (.var 0 (qQ 70 19 26)) (.cons (.var 1 (qQ 70 28 29)) (.cons (.var 2 (qQ 70 31 38)) (.cons (.var 4 (qQ 70 40 45)) .nil))) (qQ 70 11 18) (qQ 70 11 46)) (qQ 70 4 8) (qQ 70 4 46)) (.cons (.ex (.call 12 (.var 5 (qQ 71 12 16)) .nil (qQ 71 4 11) (qQ 71 4 17)) (qQ 71 4 17)) (.cons (.forr Bw (.seq (.var 3 (qQ 72 18 25))) Bx ⟨72,4,74,34⟩) (.cons (.ret (.tup (.cons (.fld (.var 5 (qQ 75 12 16)) "end" (qQ 75 12 20)) (.cons (.fld (.var 5 (qQ 75 22 26)) "record" (qQ 75 22 33)) (.cons (.fld (.var 5 (qQ 75 35 39)) "used" (qQ 75 35 44)) .nil))) (qQ 75 11 45)) (qQ 75 4 45)) .nil))))⟩
noncomputable def yz:Df:=⟨"readied",["program","f","numbers","turns"],["program","f","numbers","turns","named","function","walk"],(.cons (.set 4 (.call 2 (.var 0 (qQ 77 26 33)) .nil (qQ 77 12 25) (qQ 77 12 34)) (qQ 77 4 9) (qQ 77 4 34)) (.cons (.set 5 (.call 4 (.var 1 (qQ 78 24 25)) (.cons (.var 4 (qQ 78 27 32)) .nil) (qQ 78 15 23) (qQ 78 15 33)) (qQ 78 4 12) (qQ 78 4 33)) (.cons (.ex (.call 5 (.var 5 (qQ 79 18 26)) (.cons (.var 2 (qQ 79 28 35)) .nil) (qQ 79 4 17) (qQ 79 4 36)) (qQ 79 4 36)) (.cons (.set 6 (.mk 40 "Walk" (.var 4 (qQ 80 16 21)) (.cons (.call 9 (.var 0 (qQ 80 39 46)) .nil (qQ 80 23 38) (qQ 80 23 47)) (.cons (.var 3 (qQ 80 49 54)) .nil)) (qQ 80 11 15) (qQ 80 11 55)) (qQ 80 4 8) (qQ 80 4 55)) (.cons (.setF (.var 6 (qQ 81 4 8)) "doing" (.mk 41 "Doing" (.sub (.var 5 (qQ 81 23 31)) (.int 4 (qQ 81 32 33)) (qQ 81 23 34)) (.cons (.call 11 (.sub (.var 5 (qQ 81 43 51)) (.int 2 (qQ 81 52 53)) (qQ 81 43 54)) (.cons (.var 2 (qQ 81 56 63)) .nil) (qQ 81 36 42) (qQ 81 36 64)) (.cons (.tup (.cons (.non (qQ 81 67 71)) (.cons (.non (qQ 81 73 77)) .nil)) (qQ 81 66 78)) (.cons (.non (qQ 81 80 84)) .nil))) (qQ 81 17 22) (qQ 81 17 85)) (qQ 81 4 14) (qQ 81 4 85)) (.cons (.ret (.var 6 (qQ 82 11 15)) (qQ 82 4 15)) .nil))))))⟩
noncomputable def qC:Tg:=(.one 3 (qQ 87 16 22))
noncomputable def qD:Ss:=(.cons (.put (.var 1 (qQ 88 16 23)) (.tup (.cons (.sub (.var 2 (qQ 88 24 28)) (.int 1 (qQ 88 29 30)) (qQ 88 24 31)) (.cons (.sub (.var 3 (qQ 88 33 39)) (.int 0 (qQ 88 40 41)) (qQ 88 33 42)) .nil)) (qQ 88 24 42)) (.var 3 (qQ 88 46 52)) (qQ 88 16 43) (qQ 88 16 52)) .nil)
noncomputable def jF:Tg:=(.one 2 (qQ 85 8 12))
noncomputable def b_clauses_by_deed_1:Ss:=(.cons (.iff (.cmp .Eq (.sub (.var 2 (qQ 86 11 15)) (.int 0 (qQ 86 16 17)) (qQ 86 11 18)) (.str "handler" (qQ 86 22 31)) (qQ 86 11 31)) (.cons (.forr qC (.seq (.sub (.var 2 (qQ 87 26 30)) (.int 2 (qQ 87 31 32)) (qQ 87 26 33))) qD ⟨87,12,88,52⟩) .nil) .nil ⟨86,8,88,52⟩) .nil)
noncomputable def je:Df:=⟨"clauses_by_deed",["program"],["program","clauses","item","clause"],(.cons (.set 1 (.dic (qQ 84 14 16)) (qQ 84 4 11) (qQ 84 4 16)) (.cons (.forr jF (.seq (.var 0 (qQ 85 16 23))) b_clauses_by_deed_1 ⟨85,4,88,52⟩) (.cons (.ret (.var 1 (qQ 89 11 18)) (qQ 89 4 18)) .nil)))⟩
noncomputable def jS:Df:=⟨"doing_copied",["doing"],["doing","other"],(.cons (.set 1 (.mk 41 "Doing" (.non (qQ 91 18 22)) (.cons (.fld (.var 0 (qQ 91 24 29)) "known" (qQ 91 24 35)) (.cons (.fld (.var 0 (qQ 91 37 42)) "block" (qQ 91 37 48)) (.cons (.fld (.var 0 (qQ 91 50 55)) "held" (qQ 91 50 60)) .nil))) (qQ 91 12 17) (qQ 91 12 61)) (qQ 91 4 9) (qQ 91 4 61)) (.cons (.setF (.var 1 (qQ 92 4 9)) "tasks" (.fld (.var 0 (qQ 92 18 23)) "tasks" (qQ 92 18 29)) (qQ 92 4 15) (qQ 92 4 29)) (.cons (.setF (.var 1 (qQ 93 4 9)) "numbers" (.fld (.var 0 (qQ 93 20 25)) "numbers" (qQ 93 20 33)) (qQ 93 4 17) (qQ 93 4 33)) (.cons (.setF (.var 1 (qQ 94 4 9)) "went" (.fld (.var 0 (qQ 94 17 22)) "went" (qQ 94 17 27)) (qQ 94 4 14) (qQ 94 4 27)) (.cons (.ret (.var 1 (qQ 95 11 16)) (qQ 95 4 16)) .nil)))))⟩
noncomputable def ZS:Tg:=(.one 3 (qQ 98 8 12))
noncomputable def b_linked_1:Ss:=(.cons (.set 2 (.tup (.cons (.var 3 (qQ 99 17 21)) (.cons (.var 2 (qQ 99 23 28)) .nil)) (qQ 99 16 29)) (qQ 99 8 13) (qQ 99 8 29)) .nil)
noncomputable def ZT:Df:=⟨"linked",["names","numbers"],["names","numbers","known","pair"],(.cons (.set 2 (.non (qQ 97 12 16)) (qQ 97 4 9) (qQ 97 4 16)) (.cons (.forr ZS (.zip (.var 0 (qQ 98 20 25)) (.var 1 (qQ 98 27 34)) (qQ 98 16 19) (qQ 98 16 35)) b_linked_1 ⟨98,4,99,29⟩) (.cons (.ret (.var 2 (qQ 100 11 16)) (qQ 100 4 16)) .nil)))⟩
noncomputable def w_walk_on_1:E:=(.cmp .Is (.fld (.var 0 (qQ 106 10 14)) "end" (qQ 106 10 18)) (.non (qQ 106 22 26)) (qQ 106 10 26))
noncomputable def b_walk_on_1:Ss:=(.cons (.set 1 (.fld (.var 0 (qQ 107 16 20)) "doing" (qQ 107 16 26)) (qQ 107 8 13) (qQ 107 8 26)) (.cons (.iff (.cmp .Is (.fld (.var 1 (qQ 108 11 16)) "tasks" (qQ 108 11 22)) (.non (qQ 108 26 30)) (qQ 108 11 30)) (.cons (.ex (.call 22 (.var 0 (qQ 109 18 22)) .nil (qQ 109 12 17) (qQ 109 12 23)) (qQ 109 12 23)) .nil) (.cons (.set 2 (.sub (.fld (.var 1 (qQ 111 19 24)) "tasks" (qQ 111 19 30)) (.int 0 (qQ 111 31 32)) (qQ 111 19 33)) (qQ 111 12 16) (qQ 111 12 33)) (.cons (.setF (.var 1 (qQ 112 12 17)) "tasks" (.sub (.fld (.var 1 (qQ 112 26 31)) "tasks" (qQ 112 26 37)) (.int 1 (qQ 112 38 39)) (qQ 112 26 40)) (qQ 112 12 23) (qQ 112 12 40)) (.cons (.ex (.call 13 (.var 0 (qQ 113 20 24)) (.cons (.var 2 (qQ 113 26 30)) .nil) (qQ 113 12 19) (qQ 113 12 31)) (qQ 113 12 31)) .nil))) ⟨108,8,113,31⟩) .nil))
noncomputable def yA:Df:=⟨"walk_on",["walk"],["walk","doing","task"],(.cons (.whil w_walk_on_1 b_walk_on_1 ⟨106,4,113,31⟩) .nil)⟩
noncomputable def qj:Tg:=(.one 3 (qQ 128 12 16))
noncomputable def b_do_task_1:Ss:=(.cons (.setF (.var 2 (qQ 129 12 17)) "tasks" (.tup (.cons (.var 3 (qQ 129 27 31)) (.cons (.fld (.var 2 (qQ 129 33 38)) "tasks" (qQ 129 33 44)) .nil)) (qQ 129 26 45)) (qQ 129 12 23) (qQ 129 12 45)) .nil)
noncomputable def j8:Df:=⟨"do_task",["walk","task"],["walk","task","doing","part"],(.cons (.set 2 (.fld (.var 0 (qQ 115 12 16)) "doing" (qQ 115 12 22)) (qQ 115 4 9) (qQ 115 4 22)) (.cons (.iff (.cmp .Eq (.sub (.var 1 (qQ 116 7 11)) (.int 0 (qQ 116 12 13)) (qQ 116 7 14)) (.str "num" (qQ 116 18 23)) (qQ 116 7 23)) (.cons (.ex (.call 16 (.var 2 (qQ 117 12 17)) (.cons (.sub (.var 1 (qQ 117 19 23)) (.int 1 (qQ 117 24 25)) (qQ 117 19 26)) .nil) (qQ 117 8 11) (qQ 117 8 27)) (qQ 117 8 27)) .nil) (.cons (.iff (.cmp .Eq (.sub (.var 1 (qQ 118 9 13)) (.int 0 (qQ 118 14 15)) (qQ 118 9 16)) (.str "var" (qQ 118 20 25)) (qQ 118 9 25)) (.cons (.ex (.call 16 (.var 2 (qQ 119 12 17)) (.cons (.call 15 (.sub (.var 1 (qQ 119 29 33)) (.int 1 (qQ 119 34 35)) (qQ 119 29 36)) (.cons (.fld (.var 2 (qQ 119 38 43)) "known" (qQ 119 38 49)) .nil) (qQ 119 19 28) (qQ 119 19 50)) .nil) (qQ 119 8 11) (qQ 119 8 51)) (qQ 119 8 51)) .nil) (.cons (.iff (.cmp .Eq (.sub (.var 1 (qQ 120 9 13)) (.int 0 (qQ 120 14 15)) (qQ 120 9 16)) (.str "then" (qQ 120 20 26)) (qQ 120 9 26)) (.cons (.ex (.callG "THEN" qP (.sub (.sub (.var 1 (qQ 121 13 17)) (.int 1 (qQ 121 18 19)) (qQ 121 13 20)) (.int 0 (qQ 121 21 22)) (qQ 121 13 23)) (.var 0 (qQ 121 25 29)) (.cons (.sub (.var 1 (qQ 121 31 35)) (.int 1 (qQ 121 36 37)) (qQ 121 31 38)) .nil) (qQ 121 8 12) (qQ 121 8 24) (qQ 121 8 39)) (qQ 121 8 39)) .nil) (.cons (.iff (.cmp .Eq (.sub (.var 1 (qQ 122 9 13)) (.int 0 (qQ 122 14 15)) (qQ 122 9 16)) (.str "drop" (qQ 122 20 26)) (qQ 122 9 26)) (.cons (.setF (.var 2 (qQ 123 8 13)) "known" (.sub (.fld (.var 2 (qQ 123 22 27)) "known" (qQ 123 22 33)) (.int 1 (qQ 123 34 35)) (qQ 123 22 36)) (qQ 123 8 19) (qQ 123 8 36)) .nil) (.cons (.iff (.cmp .Eq (.sub (.var 1 (qQ 124 9 13)) (.int 0 (qQ 124 14 15)) (qQ 124 9 16)) (.str "clean" (qQ 124 20 27)) (qQ 124 9 27)) (.cons (.ex (.m1 .append (.fld (.var 0 (qQ 125 8 12)) "record" (qQ 125 8 19)) (.var 1 (qQ 125 27 31)) (qQ 125 8 26) (qQ 125 8 32)) (qQ 125 8 32)) .nil) (.cons (.setF (.var 2 (qQ 127 8 13)) "tasks" (.tup (.cons (.tup (.cons (.str "then" (qQ 127 24 30)) (.cons (.var 1 (qQ 127 32 36)) .nil)) (qQ 127 23 37)) (.cons (.fld (.var 2 (qQ 127 39 44)) "tasks" (qQ 127 39 50)) .nil)) (qQ 127 22 51)) (qQ 127 8 19) (qQ 127 8 51)) (.cons (.forr qj (.rev (.call 14 (.var 1 (qQ 128 38 42)) .nil (qQ 128 29 37) (qQ 128 29 43)) (qQ 128 20 28) (qQ 128 20 44)) b_do_task_1 ⟨128,8,129,45⟩) .nil)) ⟨124,4,129,45⟩) .nil) ⟨122,4,129,45⟩) .nil) ⟨120,4,129,45⟩) .nil) ⟨118,4,129,45⟩) .nil) ⟨116,4,129,45⟩) .nil))⟩
noncomputable def jT:Df:=⟨"ahead_of",["tree"],["tree","parts"],(.cons (.set 1 (.call 0 (.var 0 (qQ 131 21 25)) .nil (qQ 131 12 20) (qQ 131 12 26)) (qQ 131 4 9) (qQ 131 4 26)) (.cons (.ret (.ite (.cmp .In (.sub (.var 0 (qQ 132 24 28)) (.int 0 (qQ 132 29 30)) (qQ 132 24 31)) (.gcon "FIRST_AHEAD" (.tup wg) (qQ 132 35 46)) (qQ 132 24 46)) (.cut (.var 1 (qQ 132 11 16)) .none (.some (.int 1 (qQ 132 18 19))) (qQ 132 17 19) (qQ 132 11 20)) (.var 1 (qQ 132 52 57)) (qQ 132 11 57)) (qQ 132 4 57)) .nil))⟩
noncomputable def w_looked_up_1:E:=(.cmp .NotEq (.sub (.sub (.var 1 (qQ 134 10 15)) (.int 0 (qQ 134 16 17)) (qQ 134 10 18)) (.int 0 (qQ 134 19 20)) (qQ 134 10 21)) (.var 0 (qQ 134 25 29)) (qQ 134 10 29))
noncomputable def b_looked_up_1:Ss:=(.cons (.set 1 (.sub (.var 1 (qQ 135 16 21)) (.int 1 (qQ 135 22 23)) (qQ 135 16 24)) (qQ 135 8 13) (qQ 135 8 24)) .nil)
noncomputable def d_looked_up:Df:=⟨"looked_up",["name","known"],["name","known"],(.cons (.whil w_looked_up_1 b_looked_up_1 ⟨134,4,135,24⟩) (.cons (.ret (.sub (.sub (.var 1 (qQ 136 11 16)) (.int 0 (qQ 136 17 18)) (qQ 136 11 19)) (.int 1 (qQ 136 20 21)) (qQ 136 11 22)) (qQ 136 4 22)) .nil))⟩
noncomputable def d_put:Df:=⟨"put",["doing","number"],["doing","number"],(.cons (.setF (.var 0 (qQ 138 4 9)) "numbers" (.tup (.cons (.var 1 (qQ 138 21 27)) (.cons (.fld (.var 0 (qQ 138 29 34)) "numbers" (qQ 138 29 42)) .nil)) (qQ 138 20 43)) (qQ 138 4 17) (qQ 138 4 43)) .nil)⟩
noncomputable def w_taken_1:E:=(.cmp .Lt (.len (.var 2 (qQ 141 14 21)) (qQ 141 10 13) (qQ 141 10 22)) (.var 1 (qQ 141 25 30)) (qQ 141 10 30))
noncomputable def b_taken_1:Ss:=(.cons (.ex (.m1 .append (.var 2 (qQ 142 8 15)) (.sub (.fld (.var 0 (qQ 142 23 28)) "numbers" (qQ 142 23 36)) (.int 0 (qQ 142 37 38)) (qQ 142 23 39)) (qQ 142 8 22) (qQ 142 8 40)) (qQ 142 8 40)) (.cons (.setF (.var 0 (qQ 143 8 13)) "numbers" (.sub (.fld (.var 0 (qQ 143 24 29)) "numbers" (qQ 143 24 37)) (.int 1 (qQ 143 38 39)) (qQ 143 24 40)) (qQ 143 8 21) (qQ 143 8 40)) .nil))
noncomputable def d_taken:Df:=⟨"taken",["doing","count"],["doing","count","numbers"],(.cons (.set 2 (.ofL (.disp .nil (qQ 140 14 16))) (qQ 140 4 11) (qQ 140 4 16)) (.cons (.whil w_taken_1 b_taken_1 ⟨141,4,143,40⟩) (.cons (.ret (.listR (.var 2 (qQ 144 25 32)) (qQ 144 11 15) (qQ 144 16 24) (qQ 144 16 33) (qQ 144 11 34)) (qQ 144 4 34)) .nil)))⟩
noncomputable def jZ:Df:=⟨"took_turn",["walk"],["walk"],(.cons (.iff (.cmp .GtE (.fld (.var 0 (qQ 146 7 11)) "used" (qQ 146 7 16)) (.fld (.var 0 (qQ 146 20 24)) "bound" (qQ 146 20 30)) (qQ 146 7 30)) (.cons (.setF (.var 0 (qQ 147 8 12)) "end" (.tup (.cons (.str "spent" (qQ 147 20 27)) .nil) (qQ 147 19 29)) (qQ 147 8 16) (qQ 147 8 29)) (.cons (.ret (.bl false (qQ 148 15 20)) (qQ 148 8 20)) .nil)) .nil ⟨146,4,148,20⟩) (.cons (.setF (.var 0 (qQ 149 4 8)) "used" (.bin .Add (.fld (.var 0 (qQ 149 16 20)) "used" (qQ 149 16 25)) (.int 1 (qQ 149 28 29)) (qQ 149 16 29)) (qQ 149 4 13) (qQ 149 4 29)) (.cons (.ret (.bl true (qQ 150 11 15)) (qQ 150 4 15)) .nil)))⟩
noncomputable def qy:Df:=⟨"then_op",["walk","tree"],["walk","tree","pair","number"],(.cons (.set 2 (.call 17 (.fld (.var 0 (qQ 152 17 21)) "doing" (qQ 152 17 27)) (.cons (.int 2 (qQ 152 29 30)) .nil) (qQ 152 11 16) (qQ 152 11 31)) (qQ 152 4 8) (qQ 152 4 31)) (.cons (.set 3 (.call 6 (.sub (.var 1 (qQ 153 22 26)) (.int 1 (qQ 153 27 28)) (qQ 153 22 29)) (.cons (.sub (.var 2 (qQ 153 31 35)) (.int 0 (qQ 153 36 37)) (qQ 153 31 38)) (.cons (.sub (.var 2 (qQ 153 40 44)) (.int 1 (qQ 153 45 46)) (qQ 153 40 47)) .nil)) (qQ 153 13 21) (qQ 153 13 48)) (qQ 153 4 10) (qQ 153 4 48)) (.cons (.iff (.cmp .Is (.var 3 (qQ 154 7 13)) (.non (qQ 154 17 21)) (qQ 154 7 21)) (.cons (.setF (.var 0 (qQ 155 8 12)) "end" (.tup (.cons (.str "great" (qQ 155 20 27)) .nil) (qQ 155 19 29)) (qQ 155 8 16) (qQ 155 8 29)) .nil) (.cons (.ex (.call 16 (.fld (.var 0 (qQ 157 12 16)) "doing" (qQ 157 12 22)) (.cons (.var 3 (qQ 157 24 30)) .nil) (qQ 157 8 11) (qQ 157 8 31)) (qQ 157 8 31)) .nil) ⟨154,4,157,31⟩) .nil)))⟩
noncomputable def yB:Df:=⟨"then_if",["walk","tree"],["walk","tree","doing","chosen"],(.cons (.set 2 (.fld (.var 0 (qQ 163 12 16)) "doing" (qQ 163 12 22)) (qQ 163 4 9) (qQ 163 4 22)) (.cons (.set 3 (.ite (.cmp .Eq (.sub (.call 17 (.var 2 (qQ 164 30 35)) (.cons (.int 1 (qQ 164 37 38)) .nil) (qQ 164 24 29) (qQ 164 24 39)) (.int 0 (qQ 164 40 41)) (qQ 164 24 42)) (.int 0 (qQ 164 46 47)) (qQ 164 24 47)) (.sub (.var 1 (qQ 164 13 17)) (.int 3 (qQ 164 18 19)) (qQ 164 13 20)) (.sub (.var 1 (qQ 164 53 57)) (.int 2 (qQ 164 58 59)) (qQ 164 53 60)) (qQ 164 13 60)) (qQ 164 4 10) (qQ 164 4 60)) (.cons (.setF (.var 2 (qQ 165 4 9)) "tasks" (.tup (.cons (.var 3 (qQ 165 19 25)) (.cons (.fld (.var 2 (qQ 165 27 32)) "tasks" (qQ 165 27 38)) .nil)) (qQ 165 18 39)) (qQ 165 4 15) (qQ 165 4 39)) .nil)))⟩
noncomputable def w4:Df:=⟨"then_call",["walk","tree"],["walk","tree","doing","numbers","function","block"],(.cons (.set 2 (.fld (.var 0 (qQ 172 12 16)) "doing" (qQ 172 12 22)) (qQ 172 4 9) (qQ 172 4 22)) (.cons (.set 3 (.call 17 (.var 2 (qQ 173 20 25)) (.cons (.len (.sub (.var 1 (qQ 173 31 35)) (.int 3 (qQ 173 36 37)) (qQ 173 31 38)) (qQ 173 27 30) (qQ 173 27 39)) .nil) (qQ 173 14 19) (qQ 173 14 40)) (qQ 173 4 11) (qQ 173 4 40)) (.cons (.iff (.call 18 (.var 0 (qQ 174 17 21)) .nil (qQ 174 7 16) (qQ 174 7 22)) (.cons (.set 4 (.sub (.fld (.var 0 (qQ 175 19 23)) "named" (qQ 175 19 29)) (.call 1 (.sub (.var 1 (qQ 175 41 45)) (.int 1 (qQ 175 46 47)) (qQ 175 41 48)) (.cons (.fld (.var 2 (qQ 175 50 55)) "block" (qQ 175 50 61)) .nil) (qQ 175 30 40) (qQ 175 30 62)) (qQ 175 19 63)) (qQ 175 8 16) (qQ 175 8 63)) (.cons (.set 5 (.tup (.cons (.sub (.var 4 (qQ 176 17 25)) (.int 3 (qQ 176 26 27)) (qQ 176 17 28)) (.cons (.call 1 (.sub (.var 1 (qQ 176 41 45)) (.int 2 (qQ 176 46 47)) (qQ 176 41 48)) (.cons (.fld (.var 2 (qQ 176 50 55)) "block" (qQ 176 50 61)) .nil) (qQ 176 30 40) (qQ 176 30 62)) .nil)) (qQ 176 16 63)) (qQ 176 8 13) (qQ 176 8 63)) (.cons (.ex (.m1 .append (.fld (.var 0 (qQ 177 8 12)) "left" (qQ 177 8 17)) (.var 2 (qQ 177 25 30)) (qQ 177 8 24) (qQ 177 8 31)) (qQ 177 8 31)) (.cons (.setF (.var 0 (qQ 178 8 12)) "doing" (.mk 41 "Doing" (.sub (.var 4 (qQ 178 27 35)) (.int 4 (qQ 178 36 37)) (qQ 178 27 38)) (.cons (.call 11 (.sub (.var 4 (qQ 178 47 55)) (.int 2 (qQ 178 56 57)) (qQ 178 47 58)) (.cons (.var 3 (qQ 178 60 67)) .nil) (qQ 178 40 46) (qQ 178 40 68)) (.cons (.var 5 (qQ 178 70 75)) (.cons (.non (qQ 178 77 81)) .nil))) (qQ 178 21 26) (qQ 178 21 82)) (qQ 178 8 18) (qQ 178 8 82)) .nil)))) .nil ⟨174,4,178,82⟩) .nil)))⟩
noncomputable def Zb:Df:=⟨"leave",["walk"],["walk","number","piece","end"],(.cons (.set 1 (.sub (.fld (.fld (.var 0 (qQ 223 13 17)) "doing" (qQ 223 13 23)) "numbers" (qQ 223 13 31)) (.int 0 (qQ 223 32 33)) (qQ 223 13 34)) (qQ 223 4 10) (qQ 223 4 34)) (.cons (.iff (.call 23 (.fld (.var 0 (qQ 224 19 23)) "doing" (qQ 224 19 29)) .nil (qQ 224 7 18) (qQ 224 7 30)) (.cons (.raw (z25 (zF (z4i 45)) 1 [(0,0)])) .nil) .nil ⟨224,4,225,48⟩) (.cons (.iff (.cmpN false (.fld (.var 0 (qQ 226 7 11)) "left" (qQ 226 7 16)) (qQ 226 20 22) (qQ 226 7 22)) (.cons (.setF (.var 0 (qQ 227 8 12)) "end" (.tup (.cons (.str "done" (qQ 227 20 26)) (.cons (.var 1 (qQ 227 28 34)) .nil)) (qQ 227 19 35)) (qQ 227 8 16) (qQ 227 8 35)) (.cons (.retN (qQ 228 8 14)) .nil)) .nil ⟨226,4,228,14⟩) (.cons (.set 2 (.m0 .pop (.fld (.var 0 (qQ 229 12 16)) "left" (qQ 229 12 21)) (qQ 229 12 25) (qQ 229 12 27)) (qQ 229 4 9) (qQ 229 4 27)) (.cons (.iff (.isC "Standing" ["Walk","Doing","Standing"] (.var 2 (qQ 230 18 23)) (qQ 230 7 17) (qQ 230 25 33) (qQ 230 7 34)) (.cons (.ex (.m0 .pop (.fld (.var 0 (qQ 231 8 12)) "standing" (qQ 231 8 21)) (qQ 231 8 25) (qQ 231 8 27)) (qQ 231 8 27)) (.cons (.set 3 (.sub (.sub (.fld (.var 0 (qQ 232 14 18)) "named" (qQ 232 14 24)) (.fld (.var 2 (qQ 232 25 30)) "name" (qQ 232 25 35)) (qQ 232 14 36)) (.int 3 (qQ 232 37 38)) (qQ 232 14 39)) (qQ 232 8 11) (qQ 232 8 39)) (.cons (.setF (.var 0 (qQ 233 8 12)) "doing" (.mk 41 "Doing" (.sub (.var 3 (qQ 233 27 30)) (.int 2 (qQ 233 31 32)) (qQ 233 27 33)) (.cons (.call 11 (.cut (.var 3 (qQ 233 42 45)) .none (.some (.int 2 (qQ 233 47 48))) (qQ 233 46 48) (qQ 233 42 49)) (.cons (.tup (.cons (.var 1 (qQ 233 52 58)) (.cons (.fld (.var 2 (qQ 233 60 65)) "kept" (qQ 233 60 70)) .nil)) (qQ 233 51 71)) .nil) (qQ 233 35 41) (qQ 233 35 72)) (.cons (.tup (.cons (.non (qQ 233 75 79)) (.cons (.non (qQ 233 81 85)) .nil)) (qQ 233 74 86)) (.cons (.non (qQ 233 88 92)) .nil))) (qQ 233 21 26) (qQ 233 21 93)) (qQ 233 8 18) (qQ 233 8 93)) .nil))) (.cons (.setF (.var 0 (qQ 235 8 12)) "doing" (.call 10 (.var 2 (qQ 235 34 39)) .nil (qQ 235 21 33) (qQ 235 21 40)) (qQ 235 8 18) (qQ 235 8 40)) (.cons (.ex (.call 16 (.fld (.var 0 (qQ 236 12 16)) "doing" (qQ 236 12 22)) (.cons (.var 1 (qQ 236 24 30)) .nil) (qQ 236 8 11) (qQ 236 8 31)) (qQ 236 8 31)) .nil)) ⟨230,4,236,31⟩) .nil)))))⟩
noncomputable def d_holds_alone:Df:=⟨"holds_alone",["doing"],["doing"],(.cons (.ret (.and (.cmp .IsNot (.fld (.var 0 (qQ 238 11 16)) "held" (qQ 238 11 21)) (.non (qQ 238 29 33)) (qQ 238 11 33)) (.un .Not (.fld (.var 0 (qQ 238 43 48)) "went" (qQ 238 43 53)) (qQ 238 39 53)) .nil (qQ 238 11 54)) (qQ 238 4 54)) .nil)⟩
noncomputable def wn:Df:=⟨"_law_cell_at",["_law_script","_law_k"],["_law_script","_law_k"],(.cons (.iff (.cmp .Lt (.var 1 (qQ 257 7 13)) (.len (.var 0 (qQ 257 20 31)) (qQ 257 16 19) (qQ 257 16 32)) (qQ 257 7 32)) (.cons (.ret (.sub (.var 0 (qQ 258 15 26)) (.var 1 (qQ 258 27 33)) (qQ 258 15 34)) (qQ 258 8 34)) .nil) .nil ⟨257,4,258,34⟩) (.cons (.ret (.int 0 (qQ 259 11 12)) (qQ 259 4 12)) .nil))⟩
noncomputable def qk:Df:=⟨"_law_whole",["_law_found"],["_law_found"],(.cons (.ret (.and (.isi 0 (.var 0 (qQ 261 22 32)) (qQ 261 11 21) (qQ 261 34 37) (qQ 261 11 38)) (.un .Not (.isi 1 (.var 0 (qQ 261 59 69)) (qQ 261 48 58) (qQ 261 71 75) (qQ 261 48 76)) (qQ 261 44 76)) .nil (qQ 261 11 77)) (qQ 261 4 77)) .nil)⟩
noncomputable def Jf:Tg:=(.tup [(2,(qQ 265 8 16)),(3,(qQ 265 18 28))] (qQ 265 8 28))
noncomputable def Jg:Ss:=(.cons (.iff (.isi 2 (.var 3 (qQ 266 22 32)) (qQ 266 11 21) (qQ 266 34 37) (qQ 266 11 38)) (.cons (.iff (.un .Not (.isi 2 (.var 2 (qQ 267 30 38)) (qQ 267 19 29) (qQ 267 40 43) (qQ 267 19 44)) (qQ 267 15 44)) (.cons (.ret (.bl false (qQ 268 23 28)) (qQ 268 16 28)) .nil) .nil ⟨267,12,268,28⟩) .nil) (.cons (.iff (.un .Not (.call 25 (.var 2 (qQ 269 28 36)) .nil (qQ 269 17 27) (qQ 269 17 37)) (qQ 269 13 37)) (.cons (.ret (.bl false (qQ 270 19 24)) (qQ 270 12 24)) .nil) .nil ⟨269,8,270,24⟩) .nil) ⟨266,8,270,24⟩) .nil)
noncomputable def qm:Df:=⟨"_law_alike",["_law_found","_law_due_here"],["_law_found","_law_due_here","_law_one","_law_other"],(.cons (.iff (.or (.un .Not (.isi 3 (.var 0 (qQ 263 22 32)) (qQ 263 11 21) (qQ 263 34 39) (qQ 263 11 40)) (qQ 263 7 40)) (.cmp .NotEq (.len (.var 0 (qQ 263 48 58)) (qQ 263 44 47) (qQ 263 44 59)) (.len (.var 1 (qQ 263 67 80)) (qQ 263 63 66) (qQ 263 63 81)) (qQ 263 44 81)) .nil (qQ 263 7 81)) (.cons (.ret (.bl false (qQ 264 15 20)) (qQ 264 8 20)) .nil) .nil ⟨263,4,264,20⟩) (.cons (.forr Jf (.zip (.var 0 (qQ 265 36 46)) (.var 1 (qQ 265 48 61)) (qQ 265 32 35) (qQ 265 32 62)) Jg ⟨265,4,270,24⟩) (.cons (.ret (.cmp .Eq (.var 0 (qQ 271 11 21)) (.var 1 (qQ 271 25 38)) (qQ 271 11 38)) (qQ 271 4 38)) .nil)))⟩
noncomputable def Jh:Tg:=(.tup [(4,(qQ 277 8 16)),(5,(qQ 277 18 28))] (qQ 277 8 28))
noncomputable def Ji:Ss:=(.cons (.iff (.un .Not (.call 26 (.var 4 (qQ 278 26 34)) (.cons (.var 5 (qQ 278 36 46)) .nil) (qQ 278 15 25) (qQ 278 15 47)) (qQ 278 11 47)) (.cons (.ret (.bl false (qQ 279 19 24)) (qQ 279 12 24)) .nil) .nil ⟨278,8,279,24⟩) .nil)
noncomputable def qo:Df:=⟨"_law_right",["_law_found","_law_end","_law_record","_law_used"],["_law_found","_law_end","_law_record","_law_used","_law_one","_law_other"],(.cons (.iff (.or (.un .Not (.isi 3 (.var 0 (qQ 273 22 32)) (qQ 273 11 21) (qQ 273 34 39) (qQ 273 11 40)) (qQ 273 7 40)) (.cmp .NotEq (.len (.var 0 (qQ 273 48 58)) (qQ 273 44 47) (qQ 273 44 59)) (.int 3 (qQ 273 63 64)) (qQ 273 44 64)) .nil (qQ 273 7 64)) (.cons (.ret (.bl false (qQ 274 15 20)) (qQ 274 8 20)) .nil) .nil ⟨273,4,274,20⟩) (.cons (.iff (.or (.un .Not (.isi 4 (.sub (.var 0 (qQ 275 22 32)) (.int 1 (qQ 275 33 34)) (qQ 275 22 35)) (qQ 275 11 21) (qQ 275 37 41) (qQ 275 11 42)) (qQ 275 7 42)) (.cmp .NotEq (.len (.sub (.var 0 (qQ 275 50 60)) (.int 1 (qQ 275 61 62)) (qQ 275 50 63)) (qQ 275 46 49) (qQ 275 46 64)) (.len (.var 2 (qQ 275 72 83)) (qQ 275 68 71) (qQ 275 68 84)) (qQ 275 46 84)) .nil (qQ 275 7 84)) (.cons (.ret (.bl false (qQ 276 15 20)) (qQ 276 8 20)) .nil) .nil ⟨275,4,276,20⟩) (.cons (.forr Jh (.zip (.sub (.var 0 (qQ 277 36 46)) (.int 1 (qQ 277 47 48)) (qQ 277 36 49)) (.var 2 (qQ 277 51 62)) (qQ 277 32 35) (qQ 277 32 63)) Ji ⟨277,4,279,24⟩) (.cons (.ret (.and (.call 26 (.sub (.var 0 (qQ 280 22 32)) (.int 0 (qQ 280 33 34)) (qQ 280 22 35)) (.cons (.var 1 (qQ 280 37 45)) .nil) (qQ 280 11 21) (qQ 280 11 46)) (.call 25 (.sub (.var 0 (qQ 280 62 72)) (.int 2 (qQ 280 73 74)) (qQ 280 62 75)) .nil (qQ 280 51 61) (qQ 280 51 76)) (.cons (.cmp .Eq (.sub (.var 0 (qQ 280 82 92)) (.int 2 (qQ 280 93 94)) (qQ 280 82 95)) (.var 3 (qQ 280 99 108)) (qQ 280 82 108)) .nil) (qQ 280 11 109)) (qQ 280 4 109)) .nil))))⟩
noncomputable def e_law_names_1:E:=(.cmp .In (.var 0 (qQ 296 12 21)) (.var 1 (qQ 296 25 35)) (qQ 296 12 35))
noncomputable def c_law_names_1:Es:=.nil
noncomputable def wo:Tg:=(.one 0 (qQ 296 40 49))
noncomputable def qE:Scope:={ kind:=PySem.ScopeKind.function,names:=[ (PySem.Str.ofString ".0",PySem.NameKind.local),(PySem.Str.ofString "_law_name",PySem.NameKind.local),(PySem.Str.ofString "_law_words",PySem.NameKind.free)],isGenerator:=false,isCoroutine:=false,more:=[]:PySem.Scope }
noncomputable def e_law_names_2:E:=(.sub (.var 2 (qQ 297 27 37)) (.bin .Mod (.bin .Add (.bin .FloorDiv (.var 1 (qQ 297 39 48)) (.int 64 (qQ 297 52 54)) (qQ 297 39 54)) (.var 0 (qQ 297 57 63)) (qQ 297 39 63)) (.int 21 (qQ 297 67 69)) (qQ 297 38 69)) (qQ 297 27 70))
noncomputable def c_law_names_2:Es:=.nil
noncomputable def wq:Tg:=(.one 0 (qQ 297 75 81))
noncomputable def qF:Scope:={ kind:=PySem.ScopeKind.function,names:=[ (PySem.Str.ofString ".0",PySem.NameKind.local),(PySem.Str.ofString "_law_k",PySem.NameKind.local),(PySem.Str.ofString "_law_cell",PySem.NameKind.free),(PySem.Str.ofString "_law_tells",PySem.NameKind.free)],isGenerator:=false,isCoroutine:=false,more:=[]:PySem.Scope }
noncomputable def qG:Tg:=(.one 10 (qQ 290 12 18))
noncomputable def b_law_names_4:Ss:=(.cons (.set 11 (.sub (.var 2 (qQ 291 24 36)) (.bin .Mod (.bin .Add (.bin .FloorDiv (.bin .FloorDiv (.var 0 (qQ 291 38 47)) (.int 64 (qQ 291 51 53)) (qQ 291 38 53)) (.bin .Add (.var 10 (qQ 291 58 64)) (.int 1 (qQ 291 67 68)) (qQ 291 58 68)) (qQ 291 38 69)) (.bin .Mult (.int 5 (qQ 291 72 73)) (.var 10 (qQ 291 76 82)) (qQ 291 72 82)) (qQ 291 38 82)) (.int 26 (qQ 291 86 88)) (qQ 291 37 88)) (qQ 291 24 89)) (qQ 291 12 21) (qQ 291 12 89)) (.cons (.iff (.cmp .Eq (.var 10 (qQ 292 15 21)) (.var 6 (qQ 292 25 32)) (qQ 292 15 32)) (.cons (.set 11 (.sub (.var 3 (qQ 293 28 38)) (.bin .Mod (.bin .Add (.bin .FloorDiv (.var 0 (qQ 293 40 49)) (.int 64 (qQ 293 53 55)) (qQ 293 40 55)) (.var 8 (qQ 293 58 64)) (qQ 293 40 64)) (.int 21 (qQ 293 68 70)) (qQ 293 39 70)) (qQ 293 28 71)) (qQ 293 16 25) (qQ 293 16 71)) .nil) .nil ⟨292,12,293,71⟩) (.cons (.set 9 (.bin .Add (.var 9 (qQ 294 24 33)) (.var 11 (qQ 294 36 45)) (qQ 294 24 45)) (qQ 294 12 21) (qQ 294 12 45)) .nil)))
noncomputable def qH:Tg:=(.one 8 (qQ 288 8 14))
noncomputable def b_law_names_3:Ss:=(.cons (.set 9 (.str "" (qQ 289 20 22)) (qQ 289 8 17) (qQ 289 8 22)) (.cons (.forr qG (.rng (.var 5 (qQ 290 28 37)) (qQ 290 22 27) (qQ 290 22 38)) b_law_names_4 ⟨290,8,294,45⟩) (.cons (.ex (.m1 .append (.var 7 (qQ 295 8 23)) (.var 9 (qQ 295 31 40)) (qQ 295 8 30) (qQ 295 8 41)) (qQ 295 8 41)) .nil)))
noncomputable def qp:Df:=⟨"_law_names",["_law_cell","_law_many"],["_law_cell","_law_many","_law_letters","_law_tells","_law_words","_law_size","_law_at","_law_names_here","_law_k","_law_name","_law_j","_law_sign"],(.cons (.set 2 (.str "abcdefghijklmnopqrstuvwxyz" (qQ 282 19 47)) (qQ 282 4 16) (qQ 282 4 47)) (.cons (.set 3 (.str "bcdfghjklmnpqrstvwxyz" (qQ 283 17 40)) (qQ 283 4 14) (qQ 283 4 40)) (.cons (.set 4 (.ofL (.disp (.cons (.str "def" (qQ 284 18 23)) (.cons (.str "handler" (qQ 284 25 34)) (.cons (.str "on" (qQ 284 36 40)) (.cons (.str "end" (qQ 284 42 47)) (.cons (.str "let" (qQ 284 49 54)) (.cons (.str "if" (qQ 284 56 60)) (.cons (.str "call" (qQ 284 62 68)) (.cons (.str "hand" (qQ 284 70 76)) (.cons (.str "do" (qQ 284 78 82)) (.cons (.str "handle" (qQ 284 84 92)) (.cons (.str "go" (qQ 284 94 98)) (.cons (.str "guard" (qQ 284 100 107)) .nil)))))))))))) (qQ 284 17 108))) (qQ 284 4 14) (qQ 284 4 108)) (.cons (.set 5 (.bin .Add (.int 1 (qQ 285 16 17)) (.bin .Mod (.var 0 (qQ 285 20 29)) (.int 8 (qQ 285 32 33)) (qQ 285 20 33)) (qQ 285 16 33)) (qQ 285 4 13) (qQ 285 4 33)) (.cons (.set 6 (.bin .Mod (.bin .FloorDiv (.var 0 (qQ 286 14 23)) (.int 8 (qQ 286 27 28)) (qQ 286 14 28)) (.var 5 (qQ 286 31 40)) (qQ 286 14 40)) (qQ 286 4 11) (qQ 286 4 40)) (.cons (.set 7 (.ofL (.disp .nil (qQ 287 22 24))) (qQ 287 4 19) (qQ 287 4 24)) (.cons (.forr qH (.rng (.var 1 (qQ 288 24 33)) (qQ 288 18 23) (qQ 288 18 34)) b_law_names_3 ⟨288,4,295,41⟩) (.cons (.iff (.c1 .any (.ofL (.comp e_law_names_1 wo (.seq (.var 7 (qQ 296 53 68))) c_law_names_1 ["_law_name","_law_words"] [none,some 4] qE (qQ 296 11 69))) (qQ 296 7 10) (qQ 296 7 70)) (.cons (.set 7 (.ofL (.comp e_law_names_2 wq (.rng (.var 1 (qQ 297 91 100)) (qQ 297 85 90) (qQ 297 85 101)) c_law_names_2 ["_law_k","_law_cell","_law_tells"] [none,some 0,some 3] qF (qQ 297 26 102))) (qQ 297 8 23) (qQ 297 8 102)) .nil) .nil ⟨296,4,297,102⟩) (.cons (.ret (.var 7 (qQ 298 11 26)) (qQ 298 4 26)) .nil)))))))))⟩
noncomputable def d_law_number:Df:=⟨"_law_number",["_law_cell"],["_law_cell","_law_rest"],(.cons (.set 1 (.bin .FloorDiv (.var 0 (qQ 300 16 25)) (.int 6 (qQ 300 29 30)) (qQ 300 16 30)) (qQ 300 4 13) (qQ 300 4 30)) (.cons (.iff (.cmp .Eq (.bin .Mod (.var 0 (qQ 301 7 16)) (.int 6 (qQ 301 19 20)) (qQ 301 7 20)) (.int 0 (qQ 301 24 25)) (qQ 301 7 25)) (.cons (.ret (.bin .Sub (.bin .Mod (.var 1 (qQ 302 15 24)) (.int 7 (qQ 302 27 28)) (qQ 302 15 28)) (.int 3 (qQ 302 31 32)) (qQ 302 15 32)) (qQ 302 8 32)) .nil) .nil ⟨301,4,302,32⟩) (.cons (.iff (.cmp .Eq (.bin .Mod (.var 0 (qQ 303 7 16)) (.int 6 (qQ 303 19 20)) (qQ 303 7 20)) (.int 1 (qQ 303 24 25)) (qQ 303 7 25)) (.cons (.ret (.bin .Sub (.bin .Mod (.var 1 (qQ 304 15 24)) (.int 2001 (qQ 304 27 31)) (qQ 304 15 31)) (.int 1000 (qQ 304 34 38)) (qQ 304 15 38)) (qQ 304 8 38)) .nil) .nil ⟨303,4,304,38⟩) (.cons (.iff (.cmp .Eq (.bin .Mod (.var 0 (qQ 305 7 16)) (.int 6 (qQ 305 19 20)) (qQ 305 7 20)) (.int 2 (qQ 305 24 25)) (qQ 305 7 25)) (.cons (.ret (.bin .Sub (.bin .Add (.bin .Pow (.int 10 (qQ 306 15 17)) (.int 9 (qQ 306 21 22)) (qQ 306 15 22)) (.bin .Mod (.var 1 (qQ 306 25 34)) (.int 5 (qQ 306 37 38)) (qQ 306 25 38)) (qQ 306 15 38)) (.int 2 (qQ 306 41 42)) (qQ 306 15 42)) (qQ 306 8 42)) .nil) .nil ⟨305,4,306,42⟩) (.cons (.iff (.cmp .Eq (.bin .Mod (.var 0 (qQ 307 7 16)) (.int 6 (qQ 307 19 20)) (qQ 307 7 20)) (.int 3 (qQ 307 24 25)) (qQ 307 7 25)) (.cons (.ret (.bin .Sub (.bin .Pow (.int 10 (qQ 308 15 17)) (.int 18 (qQ 308 21 23)) (qQ 308 15 23)) (.bin .Mod (.var 1 (qQ 308 26 35)) (.int 3 (qQ 308 38 39)) (qQ 308 26 39)) (qQ 308 15 39)) (qQ 308 8 39)) .nil) .nil ⟨307,4,308,39⟩) (.cons (.iff (.cmp .Eq (.bin .Mod (.var 0 (qQ 309 7 16)) (.int 6 (qQ 309 19 20)) (qQ 309 7 20)) (.int 4 (qQ 309 24 25)) (qQ 309 7 25)) (.cons (.ret (.bin .Sub (.bin .Mod (.var 1 (qQ 310 15 24)) (.bin .Add (.bin .Mult (.int 2 (qQ 310 28 29)) (.bin .Pow (.int 10 (qQ 310 32 34)) (.int 18 (qQ 310 38 40)) (qQ 310 32 40)) (qQ 310 28 40)) (.int 1 (qQ 310 43 44)) (qQ 310 28 44)) (qQ 310 15 45)) (.bin .Pow (.int 10 (qQ 310 48 50)) (.int 18 (qQ 310 54 56)) (qQ 310 48 56)) (qQ 310 15 56)) (qQ 310 8 56)) .nil) .nil ⟨309,4,310,56⟩) (.cons (.ret (.bin .Sub (.bin .Mod (.var 1 (qQ 311 11 20)) (.int 3 (qQ 311 23 24)) (qQ 311 11 24)) (.bin .Pow (.int 10 (qQ 311 27 29)) (.int 18 (qQ 311 33 35)) (qQ 311 27 35)) (qQ 311 11 35)) (qQ 311 4 35)) .nil)))))))⟩
noncomputable def d_law_reckoned:Df:=⟨"_law_reckoned",["_law_sign","_law_one","_law_other"],["_law_sign","_law_one","_law_other","_law_found"],(.cons (.set 3 (.c1 .int (.cmp .Lt (.var 1 (qQ 313 21 29)) (.var 2 (qQ 313 32 42)) (qQ 313 21 42)) (qQ 313 17 20) (qQ 313 17 43)) (qQ 313 4 14) (qQ 313 4 43)) (.cons (.iff (.cmp .Eq (.var 0 (qQ 314 7 16)) (.str "+" (qQ 314 20 23)) (qQ 314 7 23)) (.cons (.set 3 (.bin .Add (.var 1 (qQ 315 21 29)) (.var 2 (qQ 315 32 42)) (qQ 315 21 42)) (qQ 315 8 18) (qQ 315 8 42)) .nil) .nil ⟨314,4,315,42⟩) (.cons (.iff (.cmp .Eq (.var 0 (qQ 316 7 16)) (.str "-" (qQ 316 20 23)) (qQ 316 7 23)) (.cons (.set 3 (.bin .Sub (.var 1 (qQ 317 21 29)) (.var 2 (qQ 317 32 42)) (qQ 317 21 42)) (qQ 317 8 18) (qQ 317 8 42)) .nil) .nil ⟨316,4,317,42⟩) (.cons (.iff (.cmp .Eq (.var 0 (qQ 318 7 16)) (.str "*" (qQ 318 20 23)) (qQ 318 7 23)) (.cons (.set 3 (.bin .Mult (.var 1 (qQ 319 21 29)) (.var 2 (qQ 319 32 42)) (qQ 319 21 42)) (qQ 319 8 18) (qQ 319 8 42)) .nil) .nil ⟨318,4,319,42⟩) (.cons (.iff (.cmp .Gt (.c1 .abs (.var 3 (qQ 320 11 21)) (qQ 320 7 10) (qQ 320 7 22)) (.bin .Pow (.int 10 (qQ 320 25 27)) (.int 18 (qQ 320 31 33)) (qQ 320 25 33)) (qQ 320 7 33)) (.cons (.ret (.non (qQ 321 15 19)) (qQ 321 8 19)) .nil) .nil ⟨320,4,321,19⟩) (.cons (.ret (.var 3 (qQ 322 11 21)) (qQ 322 4 21)) .nil))))))⟩
noncomputable def qS:Df:=⟨"_law_draw",["_law_cell","_law_k"],["_law_cell","_law_k"],(.cons (.ret (.bin .Mod (.bin .Add (.bin .Add (.bin .Mult (.bin .Mult (.bin .Mod (.var 0 (qQ 324 12 21)) (.int 1000003 (qQ 324 24 31)) (qQ 324 12 31)) (.bin .Add (.bin .Mult (.int 2 (qQ 324 35 36)) (.var 1 (qQ 324 39 45)) (qQ 324 35 45)) (.int 1 (qQ 324 48 49)) (qQ 324 35 49)) (qQ 324 12 50)) (.int 48271 (qQ 324 53 58)) (qQ 324 12 58)) (.bin .Mult (.int 7919 (qQ 324 61 65)) (.var 1 (qQ 324 68 74)) (qQ 324 61 74)) (qQ 324 12 74)) (.var 0 (qQ 324 77 86)) (qQ 324 12 86)) (.int 2147483647 (qQ 324 90 100)) (qQ 324 11 100)) (qQ 324 4 100)) .nil)⟩
noncomputable def e_law_plan_1:E:=(.sub (.var 3 (qQ 327 19 34)) (.bin .Mod (.bin .Add (.call 31 (.var 1 (qQ 327 46 55)) (.cons (.int 1 (qQ 327 57 58)) .nil) (qQ 327 36 45) (qQ 327 36 59)) (.bin .Mult (.var 0 (qQ 327 62 68)) (.bin .Add (.int 1 (qQ 327 72 73)) (.bin .Mult (.int 2 (qQ 327 76 77)) (.bin .Mod (.var 2 (qQ 327 81 87)) (.int 2 (qQ 327 90 91)) (qQ 327 81 91)) (qQ 327 76 92)) (qQ 327 72 92)) (qQ 327 62 93)) (qQ 327 36 93)) (.int 8 (qQ 327 97 98)) (qQ 327 35 98)) (qQ 327 19 99))
noncomputable def c_law_plan_1:Es:=.nil
noncomputable def wN:Tg:=(.one 0 (qQ 327 104 110))
noncomputable def ye:Scope:={ kind:=PySem.ScopeKind.function,names:=[ (PySem.Str.ofString ".0",PySem.NameKind.local),(PySem.Str.ofString "_law_j",PySem.NameKind.local),(PySem.Str.ofString "_law_draw",PySem.NameKind.globalImplicit),(PySem.Str.ofString "_law_cell",PySem.NameKind.free),(PySem.Str.ofString "_law_k",PySem.NameKind.free),(PySem.Str.ofString "_law_names_here",PySem.NameKind.free)],isGenerator:=false,isCoroutine:=false,more:=[]:PySem.Scope }
noncomputable def qT:Df:=⟨"_law_plan",["_law_cell","_law_k","_law_names_here"],["_law_cell","_law_k","_law_names_here","_law_many","_law_params","_law_plan_here"],(.cons (.set 3 (.bin .Add (.int 1 (qQ 326 16 17)) (.bin .Mod (.call 31 (.var 0 (qQ 326 30 39)) (.cons (.int 0 (qQ 326 41 42)) .nil) (qQ 326 20 29) (qQ 326 20 43)) (.int 8 (qQ 326 46 47)) (qQ 326 20 47)) (qQ 326 16 47)) (qQ 326 4 13) (qQ 326 4 47)) (.cons (.set 4 (.ofL (.comp e_law_plan_1 wN (.rng (.var 3 (qQ 327 120 129)) (qQ 327 114 119) (qQ 327 114 130)) c_law_plan_1 ["_law_j","_law_cell","_law_k","_law_names_here"] [none,some 0,some 1,some 2] ye (qQ 327 18 131))) (qQ 327 4 15) (qQ 327 4 131)) (.cons (.set 5 (.dispD [("params",(qQ 328 22 30)),("counted",(qQ 328 45 54)),("behind",(qQ 328 93 101))] (.cons (.var 4 (qQ 328 32 43)) (.cons (.bin .Mod (.call 31 (.var 0 (qQ 328 66 75)) (.cons (.int 2 (qQ 328 77 78)) .nil) (qQ 328 56 65) (qQ 328 56 79)) (.var 3 (qQ 328 82 91)) (qQ 328 56 91)) (.cons (.bin .Mod (.call 31 (.var 0 (qQ 328 113 122)) (.cons (.int 3 (qQ 328 124 125)) .nil) (qQ 328 103 112) (qQ 328 103 126)) (.var 3 (qQ 328 129 138)) (qQ 328 103 138)) .nil))) (qQ 328 21 139)) (qQ 328 4 18) (qQ 328 4 139)) (.cons (.put (.var 5 (qQ 329 4 18)) (.str "last" (qQ 329 19 25)) (.bin .Mod (.call 31 (.var 0 (qQ 329 39 48)) (.cons (.int 4 (qQ 329 50 51)) .nil) (qQ 329 29 38) (qQ 329 29 52)) (.var 3 (qQ 329 55 64)) (qQ 329 29 64)) (qQ 329 4 26) (qQ 329 4 64)) (.cons (.put (.var 5 (qQ 330 4 18)) (.str "sign" (qQ 330 19 25)) (.sub (.str "+-+-<+-*" (qQ 330 29 39)) (.bin .Mod (.call 31 (.var 0 (qQ 330 50 59)) (.cons (.int 5 (qQ 330 61 62)) .nil) (qQ 330 40 49) (qQ 330 40 63)) (.int 8 (qQ 330 66 67)) (qQ 330 40 67)) (qQ 330 29 68)) (qQ 330 4 26) (qQ 330 4 68)) (.cons (.put (.var 5 (qQ 331 4 18)) (.str "turned" (qQ 331 19 27)) (.cmp .Eq (.bin .Mod (.call 31 (.var 0 (qQ 331 41 50)) (.cons (.int 6 (qQ 331 52 53)) .nil) (qQ 331 31 40) (qQ 331 31 54)) (.int 2 (qQ 331 57 58)) (qQ 331 31 58)) (.int 1 (qQ 331 62 63)) (qQ 331 31 63)) (qQ 331 4 28) (qQ 331 4 63)) (.cons (.ret (.var 5 (qQ 332 11 25)) (qQ 332 4 25)) .nil)))))))⟩
noncomputable def yC:Df:=⟨"_law_arg",["_law_cell","_law_j","_law_plan_here"],["_law_cell","_law_j","_law_plan_here","_law_name","_law_number_here","_law_kind"],(.cons (.set 3 (.sub (.sub (.var 2 (qQ 334 16 30)) (.str "params" (qQ 334 31 39)) (qQ 334 16 40)) (.bin .Mod (.call 31 (.var 0 (qQ 334 51 60)) (.cons (.bin .Add (.int 7 (qQ 334 62 63)) (.bin .Mult (.int 3 (qQ 334 66 67)) (.var 1 (qQ 334 70 76)) (qQ 334 66 76)) (qQ 334 62 76)) .nil) (qQ 334 41 50) (qQ 334 41 77)) (.len (.sub (.var 2 (qQ 334 84 98)) (.str "params" (qQ 334 99 107)) (qQ 334 84 108)) (qQ 334 80 83) (qQ 334 80 109)) (qQ 334 41 109)) (qQ 334 16 110)) (qQ 334 4 13) (qQ 334 4 110)) (.cons (.set 4 (.bin .Mod (.call 31 (.var 0 (qQ 335 33 42)) (.cons (.bin .Add (.int 8 (qQ 335 44 45)) (.bin .Mult (.int 3 (qQ 335 48 49)) (.var 1 (qQ 335 52 58)) (qQ 335 48 58)) (qQ 335 44 58)) .nil) (qQ 335 23 32) (qQ 335 23 59)) (.int 1000003 (qQ 335 62 69)) (qQ 335 23 69)) (qQ 335 4 20) (qQ 335 4 69)) (.cons (.set 5 (.bin .Mod (.call 31 (.var 0 (qQ 336 26 35)) (.cons (.bin .Add (.int 9 (qQ 336 37 38)) (.bin .Mult (.int 3 (qQ 336 41 42)) (.var 1 (qQ 336 45 51)) (qQ 336 41 51)) (qQ 336 37 51)) .nil) (qQ 336 16 25) (qQ 336 16 52)) (.int 4 (qQ 336 55 56)) (qQ 336 16 56)) (qQ 336 4 13) (qQ 336 4 56)) (.cons (.iff (.cmp .Eq (.var 5 (qQ 337 7 16)) (.int 0 (qQ 337 20 21)) (qQ 337 7 21)) (.cons (.ret (.tup (.cons (.str "num" (qQ 338 16 21)) (.cons (.var 4 (qQ 338 23 39)) .nil)) (qQ 338 15 40)) (qQ 338 8 40)) .nil) .nil ⟨337,4,338,40⟩) (.cons (.iff (.cmp .Eq (.var 5 (qQ 339 7 16)) (.int 1 (qQ 339 20 21)) (qQ 339 7 21)) (.cons (.ret (.tup (.cons (.str "op" (qQ 340 16 20)) (.cons (.sub (.str "+-<" (qQ 340 22 27)) (.bin .Mod (.var 4 (qQ 340 28 44)) (.int 3 (qQ 340 47 48)) (qQ 340 28 48)) (qQ 340 22 49)) (.cons (.tup (.cons (.str "var" (qQ 340 52 57)) (.cons (.var 3 (qQ 340 59 68)) .nil)) (qQ 340 51 69)) (.cons (.tup (.cons (.str "num" (qQ 340 72 77)) (.cons (.var 4 (qQ 340 79 95)) .nil)) (qQ 340 71 96)) .nil)))) (qQ 340 15 97)) (qQ 340 8 97)) .nil) .nil ⟨339,4,340,97⟩) (.cons (.ret (.tup (.cons (.str "var" (qQ 341 12 17)) (.cons (.var 3 (qQ 341 19 28)) .nil)) (qQ 341 11 29)) (qQ 341 4 29)) .nil))))))⟩
noncomputable def e_law_args_1:E:=(.call 33 (.var 1 (qQ 343 31 40)) (.cons (.var 0 (qQ 343 42 48)) (.cons (.var 2 (qQ 343 50 64)) .nil)) (qQ 343 22 30) (qQ 343 22 65))
noncomputable def c_law_args_1:Es:=.nil
noncomputable def wO:Tg:=(.one 0 (qQ 343 70 76))
noncomputable def yf:Scope:={ kind:=PySem.ScopeKind.function,names:=[ (PySem.Str.ofString ".0",PySem.NameKind.local),(PySem.Str.ofString "_law_j",PySem.NameKind.local),(PySem.Str.ofString "_law_arg",PySem.NameKind.globalImplicit),(PySem.Str.ofString "_law_cell",PySem.NameKind.free),(PySem.Str.ofString "_law_plan_here",PySem.NameKind.free)],isGenerator:=false,isCoroutine:=false,more:=[]:PySem.Scope }
noncomputable def qU:Df:=⟨"_law_args",["_law_cell","_law_plan_here","_law_callee"],["_law_cell","_law_plan_here","_law_callee","_law_args_here"],(.cons (.set 3 (.ofL (.comp e_law_args_1 wO (.rng (.len (.sub (.var 2 (qQ 343 90 101)) (.str "params" (qQ 343 102 110)) (qQ 343 90 111)) (qQ 343 86 89) (qQ 343 86 112)) (qQ 343 80 85) (qQ 343 80 113)) c_law_args_1 ["_law_j","_law_cell","_law_plan_here"] [none,some 0,some 1] yf (qQ 343 21 114))) (qQ 343 4 18) (qQ 343 4 114)) (.cons (.put (.var 3 (qQ 344 4 18)) (.sub (.var 2 (qQ 344 19 30)) (.str "counted" (qQ 344 31 40)) (qQ 344 19 41)) (.tup (.cons (.str "op" (qQ 344 46 50)) (.cons (.str "-" (qQ 344 52 55)) (.cons (.tup (.cons (.str "var" (qQ 344 58 63)) (.cons (.sub (.sub (.var 1 (qQ 344 65 79)) (.str "params" (qQ 344 80 88)) (qQ 344 65 89)) (.sub (.var 1 (qQ 344 90 104)) (.str "counted" (qQ 344 105 114)) (qQ 344 90 115)) (qQ 344 65 116)) .nil)) (qQ 344 57 117)) (.cons (.tup (.cons (.str "num" (qQ 344 120 125)) (.cons (.int 1 (qQ 344 127 128)) .nil)) (qQ 344 119 129)) .nil)))) (qQ 344 45 130)) (qQ 344 4 42) (qQ 344 4 130)) (.cons (.ret (.var 3 (qQ 345 11 25)) (qQ 345 4 25)) .nil)))⟩
noncomputable def d_law_function:Df:=⟨"_law_function",["_law_name","_law_plan_here","_law_callee_name","_law_args_here"],["_law_name","_law_plan_here","_law_callee_name","_law_args_here","_law_call","_law_beside","_law_both","_law_params","_law_body"],(.cons (.set 4 (.tup (.cons (.str "call" (qQ 347 17 23)) (.cons (.var 2 (qQ 347 25 41)) (.cons (.non (qQ 347 43 47)) (.cons (.tupE (.var 3 (qQ 347 55 69)) (qQ 347 49 54) (qQ 347 49 70)) .nil)))) (qQ 347 16 71)) (qQ 347 4 13) (qQ 347 4 71)) (.cons (.set 5 (.tup (.cons (.str "var" (qQ 348 19 24)) (.cons (.sub (.sub (.var 1 (qQ 348 26 40)) (.str "params" (qQ 348 41 49)) (qQ 348 26 50)) (.sub (.var 1 (qQ 348 51 65)) (.str "behind" (qQ 348 66 74)) (qQ 348 51 75)) (qQ 348 26 76)) .nil)) (qQ 348 18 77)) (qQ 348 4 15) (qQ 348 4 77)) (.cons (.set 6 (.tup (.cons (.str "op" (qQ 349 17 21)) (.cons (.sub (.var 1 (qQ 349 23 37)) (.str "sign" (qQ 349 38 44)) (qQ 349 23 45)) (.cons (.var 4 (qQ 349 47 56)) (.cons (.var 5 (qQ 349 58 69)) .nil)))) (qQ 349 16 70)) (qQ 349 4 13) (qQ 349 4 70)) (.cons (.iff (.sub (.var 1 (qQ 350 7 21)) (.str "turned" (qQ 350 22 30)) (qQ 350 7 31)) (.cons (.set 6 (.tup (.cons (.str "op" (qQ 351 21 25)) (.cons (.sub (.var 1 (qQ 351 27 41)) (.str "sign" (qQ 351 42 48)) (qQ 351 27 49)) (.cons (.var 5 (qQ 351 51 62)) (.cons (.var 4 (qQ 351 64 73)) .nil)))) (qQ 351 20 74)) (qQ 351 8 17) (qQ 351 8 74)) .nil) .nil ⟨350,4,351,74⟩) (.cons (.set 7 (.sub (.var 1 (qQ 352 18 32)) (.str "params" (qQ 352 33 41)) (qQ 352 18 42)) (qQ 352 4 15) (qQ 352 4 42)) (.cons (.set 8 (.tup (.cons (.str "if" (qQ 353 17 21)) (.cons (.tup (.cons (.str "var" (qQ 353 24 29)) (.cons (.sub (.var 7 (qQ 353 31 42)) (.sub (.var 1 (qQ 353 43 57)) (.str "counted" (qQ 353 58 67)) (qQ 353 43 68)) (qQ 353 31 69)) .nil)) (qQ 353 23 70)) (.cons (.var 6 (qQ 353 72 81)) (.cons (.tup (.cons (.str "var" (qQ 353 84 89)) (.cons (.sub (.var 7 (qQ 353 91 102)) (.sub (.var 1 (qQ 353 103 117)) (.str "last" (qQ 353 118 124)) (qQ 353 103 125)) (qQ 353 91 126)) .nil)) (qQ 353 83 127)) .nil)))) (qQ 353 16 128)) (qQ 353 4 13) (qQ 353 4 128)) (.cons (.ret (.tup (.cons (.str "def" (qQ 354 12 17)) (.cons (.var 0 (qQ 354 19 28)) (.cons (.tupE (.var 7 (qQ 354 36 47)) (qQ 354 30 35) (qQ 354 30 48)) (.cons (.non (qQ 354 50 54)) (.cons (.var 8 (qQ 354 56 65)) .nil))))) (qQ 354 11 66)) (qQ 354 4 66)) .nil)))))))⟩
noncomputable def jC:Df:=⟨"_law_number_of",["_law_arg_here","_law_plan_here","_law_numbers"],["_law_arg_here","_law_plan_here","_law_numbers"],(.cons (.iff (.cmp .Eq (.sub (.var 0 (qQ 356 7 20)) (.int 0 (qQ 356 21 22)) (qQ 356 7 23)) (.str "num" (qQ 356 27 32)) (qQ 356 7 32)) (.cons (.ret (.sub (.var 0 (qQ 357 15 28)) (.int 1 (qQ 357 29 30)) (qQ 357 15 31)) (qQ 357 8 31)) .nil) .nil ⟨356,4,357,31⟩) (.cons (.iff (.cmp .Eq (.sub (.var 0 (qQ 358 7 20)) (.int 0 (qQ 358 21 22)) (qQ 358 7 23)) (.str "var" (qQ 358 27 32)) (qQ 358 7 32)) (.cons (.ret (.sub (.var 2 (qQ 359 15 27)) (.m1 .index (.sub (.var 1 (qQ 359 28 42)) (.str "params" (qQ 359 43 51)) (qQ 359 28 52)) (.sub (.var 0 (qQ 359 59 72)) (.int 1 (qQ 359 73 74)) (qQ 359 59 75)) (qQ 359 28 58) (qQ 359 28 76)) (qQ 359 15 77)) (qQ 359 8 77)) .nil) .nil ⟨358,4,359,77⟩) (.cons (.ret (.call 30 (.sub (.var 0 (qQ 360 25 38)) (.int 1 (qQ 360 39 40)) (qQ 360 25 41)) (.cons (.sub (.var 2 (qQ 360 43 55)) (.m1 .index (.sub (.var 1 (qQ 360 56 70)) (.str "params" (qQ 360 71 79)) (qQ 360 56 80)) (.sub (.sub (.var 0 (qQ 360 87 100)) (.int 2 (qQ 360 101 102)) (qQ 360 87 103)) (.int 1 (qQ 360 104 105)) (qQ 360 87 106)) (qQ 360 56 86) (qQ 360 56 107)) (qQ 360 43 108)) (.cons (.sub (.sub (.var 0 (qQ 360 110 123)) (.int 3 (qQ 360 124 125)) (qQ 360 110 126)) (.int 1 (qQ 360 127 128)) (qQ 360 110 129)) .nil)) (qQ 360 11 24) (qQ 360 11 130)) (qQ 360 4 130)) .nil)))⟩
noncomputable def jK:Tg:=(.tup [(3,(qQ 362 8 14)),(4,(qQ 362 16 28))] (qQ 362 8 28))
noncomputable def b_law_back_1:Ss:=(.cons (.set 5 (.sub (.var 4 (qQ 363 21 33)) (.sub (.sub (.var 0 (qQ 363 34 44)) (.var 3 (qQ 363 45 51)) (qQ 363 34 52)) (.str "behind" (qQ 363 53 61)) (qQ 363 34 62)) (qQ 363 21 63)) (qQ 363 8 18) (qQ 363 8 63)) (.cons (.iff (.sub (.sub (.var 0 (qQ 364 11 21)) (.var 3 (qQ 364 22 28)) (qQ 364 11 29)) (.str "turned" (qQ 364 30 38)) (qQ 364 11 39)) (.cons (.set 2 (.call 30 (.sub (.sub (.var 0 (qQ 365 39 49)) (.var 3 (qQ 365 50 56)) (qQ 365 39 57)) (.str "sign" (qQ 365 58 64)) (qQ 365 39 65)) (.cons (.var 5 (qQ 365 67 77)) (.cons (.var 2 (qQ 365 79 89)) .nil)) (qQ 365 25 38) (qQ 365 25 90)) (qQ 365 12 22) (qQ 365 12 90)) .nil) (.cons (.set 2 (.call 30 (.sub (.sub (.var 0 (qQ 367 39 49)) (.var 3 (qQ 367 50 56)) (qQ 367 39 57)) (.str "sign" (qQ 367 58 64)) (qQ 367 39 65)) (.cons (.var 2 (qQ 367 67 77)) (.cons (.var 5 (qQ 367 79 89)) .nil)) (qQ 367 25 38) (qQ 367 25 90)) (qQ 367 12 22) (qQ 367 12 90)) .nil) ⟨364,8,367,90⟩) (.cons (.iff (.cmp .Is (.var 2 (qQ 368 11 21)) (.non (qQ 368 25 29)) (qQ 368 11 29)) (.cons (.ret (.tup (.cons (.str "great" (qQ 369 20 27)) .nil) (qQ 369 19 29)) (qQ 369 12 29)) .nil) .nil ⟨368,8,369,29⟩) .nil)))
noncomputable def qV:Df:=⟨"_law_back",["_law_plans","_law_callers","_law_value"],["_law_plans","_law_callers","_law_value","_law_k","_law_numbers","_law_other"],(.cons (.forr jK (.rev (.var 1 (qQ 362 41 53)) (qQ 362 32 40) (qQ 362 32 54)) b_law_back_1 ⟨362,4,369,29⟩) (.cons (.ret (.tup (.cons (.str "done" (qQ 370 12 18)) (.cons (.var 2 (qQ 370 20 30)) .nil)) (qQ 370 11 31)) (qQ 370 4 31)) .nil))⟩
noncomputable def yN:E:=(.call 36 (.var 0 (qQ 374 37 50)) (.cons (.sub (.var 3 (qQ 374 52 62)) (.var 1 (qQ 374 63 69)) (qQ 374 52 70)) (.cons (.var 2 (qQ 374 72 84)) .nil)) (qQ 374 22 36) (qQ 374 22 85))
noncomputable def yO:Es:=.nil
noncomputable def yP:Tg:=(.one 0 (qQ 374 90 103))
noncomputable def yQ:Scope:={ kind:=PySem.ScopeKind.function,names:=[ (PySem.Str.ofString ".0",PySem.NameKind.local),(PySem.Str.ofString "_law_arg_here",PySem.NameKind.local),(PySem.Str.ofString "_law_number_of",PySem.NameKind.globalImplicit),(PySem.Str.ofString "_law_k",PySem.NameKind.free),(PySem.Str.ofString "_law_numbers",PySem.NameKind.free),(PySem.Str.ofString "_law_plans",PySem.NameKind.free)],isGenerator:=false,isCoroutine:=false,more:=[]:PySem.Scope }
noncomputable def w_law_due_1:E:=(.cmp .NotEq (.sub (.var 3 (qQ 373 10 22)) (.sub (.sub (.var 0 (qQ 373 23 33)) (.var 2 (qQ 373 34 40)) (qQ 373 23 41)) (.str "counted" (qQ 373 42 51)) (qQ 373 23 52)) (qQ 373 10 53)) (.int 0 (qQ 373 57 58)) (qQ 373 10 58))
noncomputable def b_law_due_1:Ss:=(.cons (.set 6 (.ofL (.comp yN yP (.seq (.sub (.var 1 (qQ 374 107 116)) (.var 2 (qQ 374 117 123)) (qQ 374 107 124))) yO ["_law_arg_here","_law_k","_law_numbers","_law_plans"] [none,some 2,some 3,some 0] yQ (qQ 374 21 125))) (qQ 374 8 18) (qQ 374 8 125)) (.cons (.iff (.cmp .In (.non (qQ 375 11 15)) (.var 6 (qQ 375 19 29)) (qQ 375 11 29)) (.cons (.ret (.tup (.cons (.tup (.cons (.str "great" (qQ 376 21 28)) .nil) (qQ 376 20 30)) (.cons (.len (.var 5 (qQ 376 36 48)) (qQ 376 32 35) (qQ 376 32 49)) .nil)) (qQ 376 19 50)) (qQ 376 12 50)) .nil) .nil ⟨375,8,376,50⟩) (.cons (.iff (.cmp .GtE (.len (.var 5 (qQ 377 15 27)) (qQ 377 11 14) (qQ 377 11 28)) (.var 4 (qQ 377 32 42)) (qQ 377 11 42)) (.cons (.ret (.tup (.cons (.tup (.cons (.str "spent" (qQ 378 21 28)) .nil) (qQ 378 20 30)) (.cons (.len (.var 5 (qQ 378 36 48)) (qQ 378 32 35) (qQ 378 32 49)) .nil)) (qQ 378 19 50)) (qQ 378 12 50)) .nil) .nil ⟨377,8,378,50⟩) (.cons (.ex (.m1 .append (.var 5 (qQ 379 8 20)) (.tup (.cons (.var 2 (qQ 379 29 35)) (.cons (.var 3 (qQ 379 37 49)) .nil)) (qQ 379 28 50)) (qQ 379 8 27) (qQ 379 8 51)) (qQ 379 8 51)) (.cons (.set 2 (.bin .Mod (.bin .Add (.var 2 (qQ 380 18 24)) (.int 1 (qQ 380 27 28)) (qQ 380 18 28)) (.len (.var 0 (qQ 380 36 46)) (qQ 380 32 35) (qQ 380 32 47)) (qQ 380 17 47)) (qQ 380 8 14) (qQ 380 8 47)) (.cons (.set 3 (.var 6 (qQ 381 23 33)) (qQ 381 8 20) (qQ 381 8 33)) .nil))))))
noncomputable def d_law_due:Df:=⟨"_law_due",["_law_plans","_law_rows","_law_k","_law_numbers","_law_turns"],["_law_plans","_law_rows","_law_k","_law_numbers","_law_turns","_law_callers","_law_given"],(.cons (.set 5 (.ofL (.disp .nil (qQ 372 19 21))) (qQ 372 4 16) (qQ 372 4 21)) (.cons (.whil w_law_due_1 b_law_due_1 ⟨373,4,381,33⟩) (.cons (.ret (.tup (.cons (.call 37 (.var 0 (qQ 382 22 32)) (.cons (.var 5 (qQ 382 34 46)) (.cons (.sub (.var 3 (qQ 382 48 60)) (.sub (.sub (.var 0 (qQ 382 61 71)) (.var 2 (qQ 382 72 78)) (qQ 382 61 79)) (.str "last" (qQ 382 80 86)) (qQ 382 61 87)) (qQ 382 48 88)) .nil)) (qQ 382 12 21) (qQ 382 12 89)) (.cons (.len (.var 5 (qQ 382 95 107)) (qQ 382 91 94) (qQ 382 91 108)) .nil)) (qQ 382 11 109)) (qQ 382 4 109)) .nil)))⟩
noncomputable def e_law_1:E:=(.call 29 (.call 24 (.var 1 (qQ 395 45 56)) (.cons (.bin .Add (.int 9 (qQ 395 58 59)) (.var 0 (qQ 395 62 68)) (qQ 395 58 68)) .nil) (qQ 395 32 44) (qQ 395 32 69)) .nil (qQ 395 20 31) (qQ 395 20 70))
noncomputable def c_law_1:Es:=.nil
noncomputable def Wx:Tg:=(.one 0 (qQ 395 75 81))
noncomputable def U9:Scope:={ kind:=PySem.ScopeKind.function,names:=[ (PySem.Str.ofString ".0",PySem.NameKind.local),(PySem.Str.ofString "_law_k",PySem.NameKind.local),(PySem.Str.ofString "_law_number",PySem.NameKind.globalImplicit),(PySem.Str.ofString "_law_cell_at",PySem.NameKind.globalImplicit),(PySem.Str.ofString "_law_script",PySem.NameKind.free)],isGenerator:=false,isCoroutine:=false,more:=[]:PySem.Scope }
noncomputable def e_law_2:E:=(.call 35 (.sub (.var 2 (qQ 391 31 46)) (.var 0 (qQ 391 47 53)) (qQ 391 31 54)) (.cons (.sub (.var 3 (qQ 391 56 66)) (.var 0 (qQ 391 67 73)) (qQ 391 56 74)) (.cons (.sub (.var 2 (qQ 391 76 91)) (.bin .Mod (.bin .Add (.var 0 (qQ 391 93 99)) (.int 1 (qQ 391 102 103)) (qQ 391 93 103)) (.var 1 (qQ 391 107 116)) (qQ 391 92 116)) (qQ 391 76 117)) (.cons (.sub (.var 4 (qQ 391 119 128)) (.var 0 (qQ 391 129 135)) (qQ 391 119 136)) .nil))) (qQ 391 17 30) (qQ 391 17 137))
noncomputable def c_law_2:Es:=.nil
noncomputable def Wy:Tg:=(.one 0 (qQ 391 142 148))
noncomputable def Ua:Scope:={ kind:=PySem.ScopeKind.function,names:=[ (PySem.Str.ofString ".0",PySem.NameKind.local),(PySem.Str.ofString "_law_k",PySem.NameKind.local),(PySem.Str.ofString "_law_function",PySem.NameKind.globalImplicit),(PySem.Str.ofString "_law_many",PySem.NameKind.free),(PySem.Str.ofString "_law_names_here",PySem.NameKind.free),(PySem.Str.ofString "_law_plans",PySem.NameKind.free),(PySem.Str.ofString "_law_rows",PySem.NameKind.free)],isGenerator:=false,isCoroutine:=false,more:=[]:PySem.Scope }
noncomputable def Wz:Tg:=(.one 6 (qQ 389 8 14))
noncomputable def b_law_3:Ss:=(.cons (.ex (.m1 .append (.var 5 (qQ 390 8 17)) (.call 34 (.call 24 (.var 0 (qQ 390 48 59)) (.cons (.bin .Add (.int 3 (qQ 390 61 62)) (.var 6 (qQ 390 65 71)) (qQ 390 61 71)) .nil) (qQ 390 35 47) (qQ 390 35 72)) (.cons (.sub (.var 4 (qQ 390 74 84)) (.var 6 (qQ 390 85 91)) (qQ 390 74 92)) (.cons (.sub (.var 4 (qQ 390 94 104)) (.bin .Mod (.bin .Add (.var 6 (qQ 390 106 112)) (.int 1 (qQ 390 115 116)) (qQ 390 106 116)) (.var 2 (qQ 390 120 129)) (qQ 390 105 129)) (qQ 390 94 130)) .nil)) (qQ 390 25 34) (qQ 390 25 131)) (qQ 390 8 24) (qQ 390 8 132)) (qQ 390 8 132)) .nil)
noncomputable def e_law_4:E:=(.call 32 (.call 24 (.var 1 (qQ 387 41 52)) (.cons (.bin .Add (.int 3 (qQ 387 54 55)) (.var 0 (qQ 387 58 64)) (qQ 387 54 64)) .nil) (qQ 387 28 40) (qQ 387 28 65)) (.cons (.var 0 (qQ 387 67 73)) (.cons (.call 28 (.call 24 (.var 1 (qQ 387 99 110)) (.cons (.int 2 (qQ 387 112 113)) .nil) (qQ 387 86 98) (qQ 387 86 114)) (.cons (.int 8 (qQ 387 116 117)) .nil) (qQ 387 75 85) (qQ 387 75 118)) .nil)) (qQ 387 18 27) (qQ 387 18 119))
noncomputable def c_law_4:Es:=.nil
noncomputable def WA:Tg:=(.one 0 (qQ 387 124 130))
noncomputable def By:Scope:={ kind:=PySem.ScopeKind.function,names:=[ (PySem.Str.ofString ".0",PySem.NameKind.local),(PySem.Str.ofString "_law_k",PySem.NameKind.local),(PySem.Str.ofString "_law_plan",PySem.NameKind.globalImplicit),(PySem.Str.ofString "_law_cell_at",PySem.NameKind.globalImplicit),(PySem.Str.ofString "_law_names",PySem.NameKind.globalImplicit),(PySem.Str.ofString "_law_script",PySem.NameKind.free)],isGenerator:=false,isCoroutine:=false,more:=[]:PySem.Scope }
noncomputable def d_law:Df:=⟨"law",["_law_script"],["_law_script","_law_cell","_law_many","_law_names_here","_law_plans","_law_rows","_law_k","_law_some","_law_shift","_law_program","_law_start","_law_numbers","_law_turns","_law_end","_law_used"],(.cons (.set 1 (.call 24 (.var 0 (qQ 384 29 40)) (.cons (.int 0 (qQ 384 42 43)) .nil) (qQ 384 16 28) (qQ 384 16 44)) (qQ 384 4 13) (qQ 384 4 44)) (.cons (.set 2 (.bin .Add (.int 1 (qQ 385 16 17)) (.bin .Mod (.var 1 (qQ 385 20 29)) (.int 6 (qQ 385 32 33)) (qQ 385 20 33)) (qQ 385 16 33)) (qQ 385 4 13) (qQ 385 4 33)) (.cons (.set 3 (.call 28 (.call 24 (.var 0 (qQ 386 46 57)) (.cons (.int 1 (qQ 386 59 60)) .nil) (qQ 386 33 45) (qQ 386 33 61)) (.cons (.int 6 (qQ 386 63 64)) .nil) (qQ 386 22 32) (qQ 386 22 65)) (qQ 386 4 19) (qQ 386 4 65)) (.cons (.set 4 (.ofL (.comp e_law_4 WA (.rng (.var 2 (qQ 387 140 149)) (qQ 387 134 139) (qQ 387 134 150)) c_law_4 ["_law_k","_law_script"] [none,some 0] By (qQ 387 17 151))) (qQ 387 4 14) (qQ 387 4 151)) (.cons (.set 5 (.ofL (.disp .nil (qQ 388 16 18))) (qQ 388 4 13) (qQ 388 4 18)) (.cons (.forr Wz (.rng (.var 2 (qQ 389 24 33)) (qQ 389 18 23) (qQ 389 18 34)) b_law_3 ⟨389,4,390,132⟩) (.cons (.set 7 (.ofL (.comp e_law_2 Wy (.rng (.var 2 (qQ 391 158 167)) (qQ 391 152 157) (qQ 391 152 168)) c_law_2 ["_law_k","_law_many","_law_names_here","_law_plans","_law_rows"] [none,some 2,some 3,some 4,some 5] Ua (qQ 391 16 169))) (qQ 391 4 13) (qQ 391 4 169)) (.cons (.set 8 (.bin .Mod (.bin .FloorDiv (.var 1 (qQ 392 17 26)) (.int 6 (qQ 392 30 31)) (qQ 392 17 31)) (.var 2 (qQ 392 34 43)) (qQ 392 17 43)) (qQ 392 4 14) (qQ 392 4 43)) (.cons (.set 9 (.tupE (.bin .Add (.cut (.var 7 (qQ 393 25 34)) (.some (.var 8 (qQ 393 35 45))) .none (qQ 393 35 46) (qQ 393 25 47)) (.cut (.var 7 (qQ 393 50 59)) .none (.some (.var 8 (qQ 393 61 71))) (qQ 393 60 71) (qQ 393 50 72)) (qQ 393 25 72)) (qQ 393 19 24) (qQ 393 19 73)) (qQ 393 4 16) (qQ 393 4 73)) (.cons (.set 10 (.bin .Mod (.bin .FloorDiv (.var 1 (qQ 394 17 26)) (.int 36 (qQ 394 30 32)) (qQ 394 17 32)) (.var 2 (qQ 394 35 44)) (qQ 394 17 44)) (qQ 394 4 14) (qQ 394 4 44)) (.cons (.set 11 (.ofL (.comp e_law_1 Wx (.rng (.len (.sub (.sub (.var 4 (qQ 395 95 105)) (.var 10 (qQ 395 106 116)) (qQ 395 95 117)) (.str "params" (qQ 395 118 126)) (qQ 395 95 127)) (qQ 395 91 94) (qQ 395 91 128)) (qQ 395 85 90) (qQ 395 85 129)) c_law_1 ["_law_k","_law_script"] [none,some 0] U9 (qQ 395 19 130))) (qQ 395 4 16) (qQ 395 4 130)) (.cons (.put (.var 11 (qQ 396 4 16)) (.sub (.sub (.var 4 (qQ 396 17 27)) (.var 10 (qQ 396 28 38)) (qQ 396 17 39)) (.str "counted" (qQ 396 40 49)) (qQ 396 17 50)) (.bin .Mod (.bin .FloorDiv (.var 1 (qQ 396 54 63)) (.int 216 (qQ 396 67 70)) (qQ 396 54 70)) (.int 25 (qQ 396 73 75)) (qQ 396 54 75)) (qQ 396 4 51) (qQ 396 4 75)) (.cons (.iff (.cmp .Eq (.bin .Mod (.bin .FloorDiv (.var 1 (qQ 397 7 16)) (.int 5400 (qQ 397 20 24)) (qQ 397 7 24)) (.int 16 (qQ 397 27 29)) (qQ 397 7 29)) (.int 5 (qQ 397 33 34)) (qQ 397 7 34)) (.cons (.put (.var 11 (qQ 398 8 20)) (.sub (.sub (.var 4 (qQ 398 21 31)) (.var 10 (qQ 398 32 42)) (qQ 398 21 43)) (.str "counted" (qQ 398 44 53)) (qQ 398 21 54)) (.bin .Add (.int 340 (qQ 398 58 61)) (.bin .Mod (.bin .FloorDiv (.var 1 (qQ 398 64 73)) (.int 216 (qQ 398 77 80)) (qQ 398 64 80)) (.int 60 (qQ 398 83 85)) (qQ 398 64 85)) (qQ 398 58 85)) (qQ 398 8 55) (qQ 398 8 85)) .nil) .nil ⟨397,4,398,85⟩) (.cons (.set 12 (.sub (.ofL (.disp (.cons (.bin .Mod (.bin .FloorDiv (.var 1 (qQ 399 18 27)) (.int 86400 (qQ 399 31 36)) (qQ 399 18 36)) (.int 41 (qQ 399 39 41)) (qQ 399 18 41)) (.cons (.bin .Mod (.bin .FloorDiv (.var 1 (qQ 399 43 52)) (.int 86400 (qQ 399 56 61)) (qQ 399 43 61)) (.int 2001 (qQ 399 64 68)) (qQ 399 43 68)) (.cons (.int 2000 (qQ 399 70 74)) .nil))) (qQ 399 17 75))) (.bin .Mod (.bin .FloorDiv (.var 1 (qQ 399 76 85)) (.int 400 (qQ 399 89 92)) (qQ 399 76 92)) (.int 3 (qQ 399 95 96)) (qQ 399 76 96)) (qQ 399 17 97)) (qQ 399 4 14) (qQ 399 4 97)) (.cons (.setT [(13,(qQ 400 4 12)),(14,(qQ 400 14 23))] (.call 38 (.var 4 (qQ 400 35 45)) (.cons (.var 5 (qQ 400 47 56)) (.cons (.var 10 (qQ 400 58 68)) (.cons (.var 11 (qQ 400 70 82)) (.cons (.var 12 (qQ 400 84 94)) .nil)))) (qQ 400 26 34) (qQ 400 26 95)) (qQ 400 4 23) (qQ 400 4 95)) (.cons (.iff (.un .Not (.call 27 (.call 7 (.var 9 (qQ 401 26 38)) (.cons (.sub (.var 3 (qQ 401 40 55)) (.var 10 (qQ 401 56 66)) (qQ 401 40 67)) (.cons (.listE (.var 11 (qQ 401 74 86)) (qQ 401 69 73) (qQ 401 69 87)) (.cons (.ofL (.disp .nil (qQ 401 89 91))) (.cons (.var 12 (qQ 401 93 103)) .nil)))) (qQ 401 22 25) (qQ 401 22 104)) (.cons (.var 13 (qQ 401 106 114)) (.cons (.ofL (.disp .nil (qQ 401 116 118))) (.cons (.var 14 (qQ 401 120 129)) .nil))) (qQ 401 11 21) (qQ 401 11 130)) (qQ 401 7 130)) (.cons (.ret (.bl false (qQ 402 15 20)) (qQ 402 8 20)) .nil) .nil ⟨401,4,402,20⟩) (.cons (.iff (.cmp .Eq (.var 14 (qQ 403 7 16)) (.int 0 (qQ 403 20 21)) (qQ 403 7 21)) (.cons (.ret (.bl true (qQ 404 15 19)) (qQ 404 8 19)) .nil) .nil ⟨403,4,404,19⟩) (.cons (.ret (.call 27 (.call 7 (.var 9 (qQ 405 26 38)) (.cons (.sub (.var 3 (qQ 405 40 55)) (.var 10 (qQ 405 56 66)) (qQ 405 40 67)) (.cons (.listE (.var 11 (qQ 405 74 86)) (qQ 405 69 73) (qQ 405 69 87)) (.cons (.ofL (.disp .nil (qQ 405 89 91))) (.cons (.bin .Sub (.var 14 (qQ 405 93 102)) (.int 1 (qQ 405 105 106)) (qQ 405 93 106)) .nil)))) (qQ 405 22 25) (qQ 405 22 107)) (.cons (.tup (.cons (.str "spent" (qQ 405 110 117)) .nil) (qQ 405 109 119)) (.cons (.ofL (.disp .nil (qQ 405 121 123))) (.cons (.bin .Sub (.var 14 (qQ 405 125 134)) (.int 1 (qQ 405 137 138)) (qQ 405 125 138)) .nil))) (qQ 405 11 21) (qQ 405 11 139)) (qQ 405 4 139)) .nil))))))))))))))))))⟩
noncomputable def w5:Df:=⟨"__init__",["self","named","clauses","bound"],["self","named","clauses","bound"],(.cons (.setF (.var 0 (qQ 46 8 12)) "named" (.var 1 (qQ 46 21 26)) (qQ 46 8 18) (qQ 46 8 26)) (.cons (.setF (.var 0 (qQ 47 8 12)) "clauses" (.var 2 (qQ 47 23 30)) (qQ 47 8 20) (qQ 47 8 30)) (.cons (.setF (.var 0 (qQ 48 8 12)) "bound" (.var 3 (qQ 48 21 26)) (qQ 48 8 18) (qQ 48 8 26)) (.cons (.setF (.var 0 (qQ 49 8 12)) "doing" (.non (qQ 49 21 25)) (qQ 49 8 18) (qQ 49 8 25)) (.cons (.setF (.var 0 (qQ 50 8 12)) "left" (.ofL (.disp .nil (qQ 50 20 22))) (qQ 50 8 17) (qQ 50 8 22)) (.cons (.setF (.var 0 (qQ 51 8 12)) "standing" (.ofL (.disp .nil (qQ 51 24 26))) (qQ 51 8 21) (qQ 51 8 26)) (.cons (.setF (.var 0 (qQ 52 8 12)) "record" (.ofL (.disp .nil (qQ 52 22 24))) (qQ 52 8 19) (qQ 52 8 24)) (.cons (.setF (.var 0 (qQ 53 8 12)) "used" (.int 0 (qQ 53 20 21)) (qQ 53 8 17) (qQ 53 8 21)) (.cons (.setF (.var 0 (qQ 54 8 12)) "end" (.non (qQ 54 19 23)) (qQ 54 8 16) (qQ 54 8 23)) .nil)))))))))⟩
noncomputable def jL:Df:=⟨"__init__",["self","body","known","block","held"],["self","body","known","block","held"],(.cons (.setF (.var 0 (qQ 58 8 12)) "tasks" (.tup (.cons (.var 1 (qQ 58 22 26)) (.cons (.non (qQ 58 28 32)) .nil)) (qQ 58 21 33)) (qQ 58 8 18) (qQ 58 8 33)) (.cons (.setF (.var 0 (qQ 59 8 12)) "numbers" (.non (qQ 59 23 27)) (qQ 59 8 20) (qQ 59 8 27)) (.cons (.setF (.var 0 (qQ 60 8 12)) "known" (.var 2 (qQ 60 21 26)) (qQ 60 8 18) (qQ 60 8 26)) (.cons (.setF (.var 0 (qQ 61 8 12)) "block" (.var 3 (qQ 61 21 26)) (qQ 61 8 18) (qQ 61 8 26)) (.cons (.setF (.var 0 (qQ 62 8 12)) "held" (.var 4 (qQ 62 20 24)) (qQ 62 8 17) (qQ 62 8 24)) (.cons (.setF (.var 0 (qQ 63 8 12)) "went" (.bl false (qQ 63 20 25)) (qQ 63 8 17) (qQ 63 8 25)) .nil))))))⟩
noncomputable def jD:Df:=⟨"__init__",["self","name","kept"],["self","name","kept"],(.cons (.setF (.var 0 (qQ 67 8 12)) "name" (.var 1 (qQ 67 20 24)) (qQ 67 8 17) (qQ 67 8 24)) (.cons (.setF (.var 0 (qQ 68 8 12)) "kept" (.var 2 (qQ 68 20 24)) (qQ 68 8 17) (qQ 68 8 24)) .nil))⟩
noncomputable def defs:List Df:=[d_parts_of,jJ,jA,wj,qR,jB,d_reckoned,GP,yz,je,jS,ZT,yA,j8,jT,d_looked_up,d_put,d_taken,jZ,qy,yB,w4,Zb,d_holds_alone,wn,qk,qm,qo,qp,d_law_number,d_law_reckoned,qS,qT,yC,qU,d_law_function,jC,qV,d_law_due,d_law,w5,jL,jD]
end K43
namespace K43
open PySem L2 PI
noncomputable def wk (nd cs:D)(b:D)(d l s r:Nat)(u:Int)(e:D):O:=.obj "Walk" [("named",nd),("clauses",cs),("bound",b),("doing",.loc d),("left",.loc l),("standing",.loc s),("record",.loc r),("used",.int u),("end",e)]
noncomputable def dg (bl:D)(ts ns kn:D):O:=.obj "Doing" [("tasks",ts),("numbers",ns),("known",kn),("block",bl),("held",.non),("went",.bl false)]
noncomputable def M (h:Hh)(d:Nat)(bl ts ns kn:D)(J:Hh):Hh:=h.set d (dg bl ts ns kn)++J
section
variable {h:Hh}{w d:Nat}{bl ts ts' ns ns' kn kn':D}{J J':Hh}{o:O}
theorem M_d (hd:d<h.length):(M h d bl ts ns kn J)[d]?=some (dg bl ts ns kn):=by
 unfold M
 rw [Y0x (by rw [Y0n];exact hd),Y0r hd]
theorem M_o (hw:h[w]?=some o)(ne:w≠d):(M h d bl ts ns kn J)[w]?=some o:=by
 unfold M
 rw [Y0x (by rw [Y0n];exact (Y0c.mp hw).1),Y15 (Ne.symm ne)];exact hw
theorem z0a (hd:d<h.length):(M h d bl ts ns kn J).set d (dg bl ts' ns' kn')=M h d bl ts' ns' kn' J:=by
 unfold M
 rw [List.set_append_left _ _ (by rw [Y0n];exact hd),List.set_set]
theorem GQ:M h d bl ts ns kn J++J'=M h d bl ts ns kn (J++J'):=Y0e ..
end
theorem a0 {α:Type}{a:α}{r:List α}:atI (a::r) 0=some a:=by simp [atI,ixN]
theorem ixk {n k:Nat}(h:k<n):ixN n (k:Int)=some k:=by unfold ixN;simp;omega
theorem atk {α:Type}{l:List α}{k:Nat}{a:α}(e:l[k]?=some a):atI l (k:Int)=some a:=by unfold atI;rw [ixk (Y0c.mp e).1];exact e
theorem a1 {α:Type}{a b:α}{r:List α}:atI (a::b::r) 1=some b:=atk (k:=1) rfl
theorem a2 {α:Type}{a b c:α}{r:List α}:atI (a::b::c::r) 2=some c:=atk (k:=2) rfl
theorem a3 {α:Type}{a b c d:α}{r:List α}:atI (a::b::c::d::r) 3=some d:=atk (k:=3) rfl
theorem a4 {α:Type}{a b c d e:α}{r:List α}:atI (a::b::c::d::e::r) 4=some e:=atk (k:=4) rfl
theorem rdl {h:Hh}{n:Nat}{l:List D}(g:h[n]?=some (.lst l)):PI.rd h n=some l:=by
 show (match h[n]? with | some (.lst xs)=>some xs | _=>none)=_
 rw [g]
theorem zn {h:Hh}{n:Nat}{y f:Str}{fs:List (Str×D)}{v:D}(g:h[n]?=some (.obj y fs))(q:fs.lookup f=some v):ZD (.loc n) f h=.ok v h:=by
 show (match h[n]? with | some (.obj _ fs)=>(match fs.lookup f with | some d=>Res.ok d h | none=>.no) | _=>.no)=_
 rw [g];simp only [q]
theorem jx {h:Hh}{n:Nat}{y f:Str}{fs fs':List (Str×D)}{z:D}(g:h[n]?=some (.obj y fs))(hl:fs.length<1000)(q:Q8 f z fs=fs'):qh (.loc n) f z h=some (h.set n (.obj y fs')):=by
 show (match h[n]? with | some (.obj y fs)=>if fs.length<1000 then some (h.set n (.obj y (Q8 f z fs))) else none | _=>none)=_
 rw [g];simp only [hl,if_true,q]
section
variable {h:Hh}{w d:Nat}{bl ts ts' ns ns' kn kn':D}{J J':Hh}{z:D}
theorem w6 (hd:d<h.length):ZD (.loc d) "tasks" (M h d bl ts ns kn J)=.ok ts (M h d bl ts ns kn J):=zn (M_d hd) rfl
theorem JP (hd:d<h.length):ZD (.loc d) "numbers" (M h d bl ts ns kn J)=.ok ns (M h d bl ts ns kn J):=zn (M_d hd) rfl
theorem Bz (hd:d<h.length):ZD (.loc d) "known" (M h d bl ts ns kn J)=.ok kn (M h d bl ts ns kn J):=zn (M_d hd) rfl
theorem z2o (hd:d<h.length):ZD (.loc d) "held" (M h d bl ts ns kn J)=.ok .non (M h d bl ts ns kn J):=zn (M_d hd) rfl
theorem qA (hd:d<h.length):qh (.loc d) "tasks" z (M h d bl ts ns kn J)=some (M h d bl z ns kn J):=(jx (M_d hd) (by simp) rfl).trans (congrArg some (z0a hd))
theorem JQ (hd:d<h.length):qh (.loc d) "numbers" z (M h d bl ts ns kn J)=some (M h d bl ts z kn J):=(jx (M_d hd) (by simp) rfl).trans (congrArg some (z0a hd))
end
section
variable {cl:Nat->List D->Hh->Res D}{h:Hh}{w d:Nat}{bl ts ts' ns ns' kn kn':D}{J J':Hh}{v v1 v2:D}
theorem z4j (hd:d<h.length):d_put.run cl [.loc d,v] (M h d bl ts ns kn J)=.ok .non (M h d bl ts (.tup [v,ns]) kn J):=by
 simp [d_put,Df.run,wF,ZQ,GH,z6f,zR,z4g,Es.ev,JP hd,JQ hd,Wl]
theorem GR:(M h d bl ts ns kn J).length=h.length+J.length:=by unfold M;rw [Y0u,Y0n]
theorem jE {xs:List D}:(M h d bl ts ns kn (J++[.lst xs]))[h.length+J.length]?=some (.lst xs):=by
 unfold M
 rw [Y08 (by rw [Y0n];omega),Y0n,Y1r,Y08 (Y03 _),Y0w];rfl
theorem z2p {xs:List D}{o:O}:(M h d bl ts ns kn (J++[.lst xs])).set (h.length+J.length) o=M h d bl ts ns kn (J++[o]):=by
 unfold M
 rw [Y19 _ _ (by rw [Y0n];omega),Y0n,Y1r,Y19 _ _ (Y03 _),Y0w];rfl
theorem Zd {c:D}{l:List D}(hd:d<h.length)(hl:l.length<1000):Ss.run cl b_taken_1 [some (.loc d),some c,some (.loc (h.length+J.length))] (M h d bl ts (.tup [v1,ns]) kn (J++[.lst l]))=.nx [some (.loc d),some c,some (.loc (h.length+J.length))] (M h d bl ts ns kn (J++[.lst (l++[v1])])):=by
 have:l.length<1000000:=by omega
 simp [b_taken_1,wF,ZQ,yex,GH,vm1,zR,GF,UX,z4g,JP hd,JQ hd,Wv jE,m1D,jE,z2p,a0,a1,this]
theorem wP {c:Int}{n:Nat}(l:List D)(X:Hh)(x:Bool)(q:X[n]?=some (.lst l))(e:decide ((l.length:Int)<c)=x):E.evT cl w_taken_1 [some (.loc d),some (.int c),some (.loc n)] X=.ok x X:=by
 simp [w_taken_1,E.evT,Bu,z6d,zR,Z2,rdl q,e]
theorem GS (hd:d<h.length):d_taken.run cl [.loc d,.int 1] (M h d bl ts (.tup [v1,ns]) kn J)=.ok (.loc (h.length+J.length+1)) (M h d bl ts ns kn (J++[.lst [v1],.lst [v1]])):=by
 have e2:whR (λ ρ' h'=>w_taken_1.evT cl ρ' h') (λ ρ' h'=>b_taken_1.run cl ρ' h') [some (.loc d),some (.int 1),some (.loc (h.length+J.length))] (M h d bl ts (.tup [v1,ns]) kn (J++[.lst []]))=.nx [some (.loc d),some (.int 1),some (.loc (h.length+J.length))] (M h d bl ts ns kn (J++[.lst [v1]])) :=
  (jy (wP _ _ true jE rfl) (Zd hd (by decide))).trans (jO (wP _ _ false jE rfl))
 simp [d_taken,Df.run,wF,ZQ,Bv,vofL,L.ev,Es.ev,new,GQ,GR,Qd,e2,GG,Yh,lrD,zR,rdl jE,Wl,Y2p]
theorem Qe (hd:d<h.length):d_taken.run cl [.loc d,.int 2] (M h d bl ts (.tup [v2,.tup [v1,ns]]) kn J)=.ok (.loc (h.length+J.length+1)) (M h d bl ts ns kn (J++[.lst [v2,v1],.lst [v1,v2]])):=by
 have e2:whR (λ ρ' h'=>w_taken_1.evT cl ρ' h') (λ ρ' h'=>b_taken_1.run cl ρ' h') [some (.loc d),some (.int 2),some (.loc (h.length+J.length))] (M h d bl ts (.tup [v2,.tup [v1,ns]]) kn (J++[.lst []]))=.nx [some (.loc d),some (.int 2),some (.loc (h.length+J.length))] (M h d bl ts ns kn (J++[.lst [v2,v1]])) :=
  (jy (wP _ _ true jE rfl) (Zd hd (by decide))).trans ((jy (wP _ _ true jE rfl) (Zd hd (by simp))).trans (jO (wP _ _ false jE rfl)))
 simp [d_taken,Df.run,wF,ZQ,Bv,vofL,L.ev,Es.ev,new,GQ,GR,Qd,e2,GG,Yh,lrD,zR,rdl jE,Wl,Y2p]
end
theorem yR:PyData.strOk "<"=true:=by decide +kernel
theorem wS:PyData.strOk "+"=true:=by decide +kernel
theorem wT:PyData.strOk "-"=true:=by decide +kernel
theorem qI:PyData.strOk "*"=true:=by decide +kernel
theorem jU:PyData.strOk "num"=true:=by decide +kernel
theorem jV:PyData.strOk "var"=true:=by decide +kernel
theorem wQ:PyData.strOk "then"=true:=by decide +kernel
theorem WB:PyData.strOk "drop"=true:=by decide +kernel
theorem ZU:PyData.strOk "clean"=true:=by decide +kernel
theorem yS:PyData.strOk "op"=true:=by decide +kernel
noncomputable def zP (s:Str)(a b:Int):Option Int:=if s="<" then some (if a<b then 1 else 0) else
 if (if s="+" then a+b else if s="-" then a-b else a*b).natAbs<=1000000000000000000 then some (if s="+" then a+b else if s="-" then a-b else a*b) else none
noncomputable def opI:Option Int->D
 | none=>.non
 | some v=>.int v
noncomputable def Sg (s:Str):Prop:=s="+"\/s="-"\/s="*"\/s="<"
noncomputable def Sm (i:Int):Prop:=i.natAbs<=1000000000000000000
theorem Sm.fits {i:Int}(h:Sm i):fits i=true:=Za (by unfold Sm at h;omega)
theorem WC {s:Str}{a b v:Int}(h:zP s a b=some v):Sm v:=by
 unfold zP at h
 unfold Sm
 by_cases q:s="<"
 ·rw [if_pos q] at h;cases h;split<;>decide
 ·rw [if_neg q] at h
  generalize (if s="+" then a+b else if s="-" then a-b else a*b)=t at h
  by_cases q:t.natAbs<=1000000000000000000
  ·rw [if_pos q] at h;cases h;exact q
  ·rw [if_neg q] at h;cases h
theorem GT {t:Int}:(decide ((if t<0 then -t else t) > 1000000000000000000))=!(decide (t.natAbs<=1000000000000000000)):=by
 by_cases q:t.natAbs<=1000000000000000000
 ·rw [decide_eq_true q,decide_eq_false];rfl
  split<;>omega
 ·rw [decide_eq_false q,decide_eq_true];rfl
  split<;>omega
theorem ZV {cl:Nat->List D->Hh->Res D}{h:Hh}{s:Str}{a b:Int}(hs:Sg s)(ha:Sm a)(hb:Sm b):d_reckoned.run cl [.str s,.int a,.int b] h=.ok (opI (zP s a b)) h:=by
 have fin:∀ t:Int,Ss.run cl (jm 2 d_reckoned.body) [some (.str s),some (.int a),some (.int b),some (.int t)] h=.rt (opI (if t.natAbs<=1000000000000000000 then some t else none)) h:=λ t=>by
  have e:Ss.run cl (jm 2 d_reckoned.body) [some (.str s),some (.int a),some (.int b),some (.int t)] h=.rt (if (decide ((if t<0 then -t else t) > 1000000000000000000))=true then .non else .int t) h:=by
   simp only [d_reckoned,jm,wF,ZQ,GG,z4d,Bu,vc1,zR,z4f,z6c,c1D]
   by_cases q:t<0
   ·simp [q]
    split<;>rfl
   ·simp [q]
    split<;>rfl
  rw [e,GT]
  by_cases q:t.natAbs<=1000000000000000000
  ·simp [q,opI]
  ·simp [q,opI]
 rcases hs with rfl | rfl | rfl | rfl
 ·rw [show zP "+" a b=(if (a+b).natAbs<=1000000000000000000 then some (a+b) else none) from rfl]
  exact zg (zi (zf rfl rfl (eqS wS yR)) (jc (zf rfl rfl (eqS wS wS)) (ze rfl rfl) (fin _)))
 ·rw [show zP "-" a b=(if (a-b).natAbs<=1000000000000000000 then some (a-b) else none) from rfl]
  exact zg (zi (zf rfl rfl (eqS wT yR)) (zM (zf rfl rfl (eqS wT wS)) (jc (zf rfl rfl (eqS wT wT)) (ze rfl rfl) rfl) (fin _)))
 ·rw [show zP "*" a b=(if (a*b).natAbs<=1000000000000000000 then some (a*b) else none) from rfl]
  exact zg (zi (zf rfl rfl (eqS qI yR)) (zM (zf rfl rfl (eqS qI wS)) (zM (zf rfl rfl (eqS qI wT)) (ze (bnd rfl (bnd rfl (mlk ha.fits hb.fits))) rfl) rfl) (fin _)))
 ·rw [show zP "<" a b=some (if a<b then 1 else 0) from rfl]
  refine zg (jb (zf rfl rfl (eqS yR yR)) (zo ?_))
  simp only [z4d,Bu,zR,UX]
  by_cases q:a<b
  ·simp [q,opI]
  ·simp [q,opI]
end K43
namespace K43
open PySem L2 PI
inductive T where
 | num (c:Int) | var (x:Str) | op (s:Str) (a b:T)
noncomputable def T.d:T->D
 | .num c=>.tup [.str "num",.int c]
 | .var x=>.tup [.str "var",.str x]
 | .op s a b=>.tup [.str "op",.str s,a.d,b.d]
noncomputable def knD:List (Str×Int)->D
 | []=>.non
 | p::r=>.tup [.tup [.str p.1,.int p.2],knD r]
noncomputable def val:T->List (Str×Int)->Option Int
 | .num c,_=>some c
 | .var x,kn=>kn.lookup x
 | .op s a b,kn=>(val a kn).bind λ v=>(val b kn).bind λ u=>zP s v u
noncomputable def T.ok:List Str->T->Prop
 | _,.num c=>Sm c
 | S,.var x=>x∈S
 | S,.op s a b=>Sg s/\T.ok S a/\T.ok S b
structure KnOk (S:List Str)(kn:List (Str×Int)):Prop where
 all:∀ x∈S,∃ v,kn.lookup x=some v
 sok:∀ x∈S,PyData.strOk x=true
 key:∀ p∈kn,PyData.strOk p.1=true
 sm:∀ p∈kn,Sm p.2
theorem JR {kn:List (Str×Int)}{x:Str}{v:Int}(h:∀ p∈kn,Sm p.2)(e:kn.lookup x=some v):Sm v:=by
 induction kn with
 | nil=>cases e
 | cons p r ih =>
  obtain ⟨y,u⟩:=p
  by_cases q:(x==y)=true
  ·rw [List.lookup,q] at e;cases e;exact h _ Y0b
  ·rw [List.lookup,Y3g.mpr q] at e
   exact ih (λ p hp=>h p (Y04 _ hp)) e
theorem Yj:∀ (t:T) (S:List Str) (kn:List (Str×Int)) (v:Int),t.ok S->KnOk S kn->val t kn=some v->Sm v
 | .num c,S,kn,v,o,k,e=>by cases e;exact o
 | .var x,S,kn,v,o,k,e=>JR k.sm e
 | .op s a b,S,kn,v,o,k,e=>by
  have e:((val a kn).bind λ v=>(val b kn).bind λ u=>zP s v u)=some v:=e
  cases q1:val a kn with
  | none=>rw [q1] at e;cases e
  | some x =>
   cases q2:val b kn with
   | none=>rw [q1,q2] at e;cases e
   | some y=>rw [q1,q2] at e;exact WC e
section
variable {cl:Nat->List D->Hh->Res D}{h:Hh}
theorem GU {x:Str}{v:Int}(hx:PyData.strOk x=true)(kn:List (Str×Int))(hk:∀ p∈kn,PyData.strOk p.1=true)(e:kn.lookup x=some v):d_looked_up.run cl [.str x,knD kn] h=.ok (.int v) h:=by
 have L:∃ r,whR (λ ρ' h'=>w_looked_up_1.evT cl ρ' h') (λ ρ' h'=>b_looked_up_1.run cl ρ' h') [some (.str x),some (knD kn)] h=.nx [some (.str x),some (.tup [.tup [.str x,.int v],r])] h:=by
  induction kn with
  | nil=>cases e
  | cons p r ih =>
   obtain ⟨y,u⟩:=p
   have hy:=hk (y,u) Y0b
   have c:E.evT cl w_looked_up_1 [some (.str x),some (knD ((y,u)::r))] h=.ok (!(y==x)) h:=by
    simp [-cmp_ne,w_looked_up_1,E.evT,Bu,GF,zR,UX,knD,a0,neS hy hx]
   by_cases q:(x==y)=true
   ·have q':x=y:=eq_of_beq q
    subst q'
    rw [List.lookup,beq_self_eq_true] at e
    cases e
    exact ⟨knD r,jO (by rw [c,beq_self_eq_true];rfl)⟩
   ·rw [List.lookup,Y3g.mpr q] at e
    obtain ⟨r',ih⟩:=ih (λ p hp=>hk p (Y04 _ hp)) e
    refine ⟨r',(jy (h1:=h) (ρ':=[some (.str x),some (knD r)]) (h':=h) ?_ ?_).trans ih⟩
    ·have:(y==x)=false:=by rw [beq_eq_false_iff_ne];intro z;rw [z,beq_self_eq_true] at q;exact q rfl
     rw [c,this];rfl
    ·simp [b_looked_up_1,wF,ZQ,Bv,GF,zR,UX,knD,a1]
 obtain ⟨r,L⟩:=L
 simp [d_looked_up,Df.run,wF,ZQ,Qd,L,GG,GF,zR,UX,a0,a1,Wl]
end
section
variable {cl:Nat->List D->Hh->Res D}{h:Hh}
theorem Yk {s a b:D}:d_parts_of.run cl [.tup [.str "op",s,a,b]] h=.ok (.tup [a,b]) h:=zg (zi (zf rfl rfl (eqS yS jI)) (zo rfl))
theorem Yl {a b c:D}:d_parts_of.run cl [.tup [.str "if",a,b,c]] h=.ok (.tup [a,b,c]) h:=zg (zi (zf rfl rfl (eqS JO jI)) (zo rfl))
theorem Ym {n:Nat}{s a b:D}:callI defs (n+2) 14 [.tup [.str "op",s,a,b]] h=.ok (.tup [a,b]) h:=by
 rw [za (d:=jT) rfl rfl]
 exact zg (ze (bnd rfl (bnd rfl ((za (d:=d_parts_of) rfl rfl).trans Yk))) (zo rfl))
theorem Yn {n:Nat}{a b c:D}:callI defs (n+2) 14 [.tup [.str "if",a,b,c]] h=.ok (.tup [a]) h:=by
 rw [za (d:=jT) rfl rfl]
 exact zg (ze (bnd rfl (bnd rfl ((za (d:=d_parts_of) rfl rfl).trans Yl))) (zo rfl))
end
end K43
namespace K43
open PySem L2 PI
section
variable {n:Nat}{h:Hh}{w d l s r:Nat}{u:Int}{nd cs bd e bl ts ns kn:D}{J:Hh}
structure At (h:Hh)(w d l s r:Nat)(u:Int)(nd cs bd e:D):Prop where
 hw:h[w]?=some (wk nd cs bd d l s r u e)
 ne:w≠d
 hd:d<h.length
theorem At.doing (a:At h w d l s r u nd cs bd e):ZD (.loc w) "doing" (M h d bl ts ns kn J)=.ok (.loc d) (M h d bl ts ns kn J):=zn (M_o a.hw a.ne) rfl
theorem At.endF (a:At h w d l s r u nd cs bd e):ZD (.loc w) "end" (M h d bl ts ns kn J)=.ok e (M h d bl ts ns kn J):=zn (M_o a.hw a.ne) rfl
theorem At.setEnd {z:D}(a:At h w d l s r u nd cs bd e):qh (.loc w) "end" z (M h d bl ts ns kn J)=some (M (h.set w (wk nd cs bd d l s r u z)) d bl ts ns kn J):=by
 refine (jx (M_o a.hw a.ne) (by simp) rfl).trans (congrArg some ?_)
 show (M h d bl ts ns kn J).set w (wk nd cs bd d l s r u z)=_
 unfold M
 have lw:=(Y0c.mp a.hw).1
 rw [List.set_append_left _ _ (by rw [Y0n];exact lw),List.set_comm _ _ (Ne.symm a.ne)]
theorem Ub {v:D}(hd:d<h.length):callI defs (n+1) 16 [.loc d,v] (M h d bl ts ns kn J)=.ok .non (M h d bl ts (.tup [v,ns]) kn J):=(za (d:=d_put) rfl rfl).trans (z4j hd)
theorem Yo {v:D}(a:At h w d l s r u nd cs bd e):callI defs (n+2) 13 [.loc w,.tup [.str "num",v]] (M h d bl ts ns kn J)=.ok .non (M h d bl ts (.tup [v,ns]) kn J):=by
 rw [za (d:=j8) rfl rfl]
 exact zZ (ze (bnd rfl a.doing) (jc (zf rfl rfl (eqS jU jU)) (yy (bnd rfl (bnd rfl (Ub a.hd))) rfl) rfl))
theorem ZW {x:Str}{v:Int}{kn':List (Str×Int)}(a:At h w d l s r u nd cs bd e)(hx:PyData.strOk x=true)(hk:∀ p∈kn',PyData.strOk p.1=true)(q:kn'.lookup x=some v):callI defs (n+2) 13 [.loc w,.tup [.str "var",.str x]] (M h d bl ts ns (knD kn') J)=.ok .non (M h d bl ts (.tup [.int v,ns]) (knD kn') J):=by
 rw [za (d:=j8) rfl rfl]
 refine zZ (ze (bnd rfl a.doing) (zM (zf rfl rfl (eqS jV jU)) (jc (zf rfl rfl (eqS jV jV)) (yy (bnd rfl (bnd (bnd (bnd rfl (bnd (bnd (bnd rfl (Bz a.hd)) rfl) ((za (d:=d_looked_up) rfl rfl).trans (GU hx kn' hk q)))) rfl) (Ub a.hd))) rfl) rfl) rfl))
end
end K43
namespace K43
open PySem L2 PI
section
variable {cl:Nat->List D->Hh->Res D}{ρ ρ':En}{h h' h2 h3:Hh}{e1 e2 oe ve:E}{r:Ss}{p p1:Pos}{x y z:D}{f:Str}
theorem zw {o:RS}(hv:ve.ev cl ρ h=.ok z h')(ho:oe.ev cl ρ h'=.ok x h2)(hp:qh x f z h2=some h3)(k:Ss.run cl r ρ h3=o):Ss.run cl (.cons (.setF oe f ve p1 p) r) ρ h=o:=by
 rw [<- k,wF,GH,hv,andS_ok,ho,andS_ok,hp];rfl
theorem jv (q1:e1.ev cl ρ h=.ok x h')(q2:e2.ev cl ρ h'=.ok y h2):E.ev cl (.tup (.cons e1 (.cons e2 .nil)) p) ρ h=.ok (.tup [x,y]) h2:=bnd (bnd q1 (bnd (bnd q2 (bnd rfl rfl)) rfl)) rfl
theorem yD {b:Ss}{i:Nat}(k:b.run cl (ρ.set i (some x)) h=.nx ρ' h'):zQ (.one i p) (λ ρ' h'=>b.run cl ρ' h') x ρ h=.nx ρ' h':=k
theorem for_0 {f:D->En->Hh->RS}:jz [] f [] ρ h=.nx ρ h:=if_pos (λ _ hp=>nomatch hp)
theorem GV {c a b:E}{t:Bool}(hc:c.ev cl ρ h=.ok (.bl t) h')(k:(if t then a.ev cl ρ h' else b.ev cl ρ h')=.ok x h2):E.ev cl (.ite c a b p) ρ h=.ok x h2:=bnd hc k
theorem yE {m:Nat}{l:List D}{i:Int}{v:D}(g:h[m]?=some (.lst l))(e:atI l i=some v):jg (.loc m) (.int i) h=.ok v h:=by
 have q:jg (.loc m) (.int i) h=match h[m]? with
  | some (.dK kvs)=>(match (wU (.int i)).bind (λ k=>jf kvs k) with | some d=>Res.ok d h | none=>.no)
  | some (.lst xs)=>(match atI xs i with | some d=>Res.ok d h | none=>.no)
  | _=>.no:=rfl
 rw [q,g];simp only [e]
end
section
variable {n:Nat}{h:Hh}{w d l s r:Nat}{u:Int}{nd cs bd e bl ts ns kn:D}{J:Hh}
theorem Ze {cl:Nat->List D->Hh->Res D}{a b:Option D}{c:Option D}{x:D}(hd:d<h.length):zQ qj (λ ρ' h'=>b_do_task_1.run cl ρ' h') x [a,b,some (.loc d),c] (M h d bl ts ns kn J)=.nx [a,b,some (.loc d),some x] (M h d bl (.tup [x,ts]) ns kn J) :=
 yD (zw (jv rfl (bnd rfl (w6 hd))) rfl (qA hd) rfl)
theorem yF {x a b:D}(q:At h w d l s r u nd cs bd e):callI defs (n+3) 13 [.loc w,.tup [.str "op",x,a,b]] (M h d bl ts ns kn J)=.ok .non (M h d bl (.tup [a,.tup [b,.tup [.tup [.str "then",.tup [.str "op",x,a,b]],ts]]]) ns kn J):=by
 rw [za (d:=j8) rfl rfl]
 exact zZ (ze (bnd rfl q.doing) (zM (zf rfl rfl (eqS yS jU)) (zM (zf rfl rfl (eqS yS jV)) (zM (zf rfl rfl (eqS yS wQ)) (zM (zf rfl rfl (eqS yS WB)) (zM (zf rfl rfl (eqS yS ZU))
  (zw (jv (jv rfl rfl) (bnd rfl (w6 q.hd))) rfl (qA q.hd) (j7 (bnd (bnd rfl (bnd rfl Ym)) rfl) (jR (λ _ hp=>nomatch hp) (Ze q.hd) (jR (λ _ hp=>nomatch hp) (Ze q.hd) for_0)) rfl)) rfl) rfl) rfl) rfl) rfl))
theorem V4 {a b c:D}(q:At h w d l s r u nd cs bd e):callI defs (n+3) 13 [.loc w,.tup [.str "if",a,b,c]] (M h d bl ts ns kn J)=.ok .non (M h d bl (.tup [a,.tup [.tup [.str "then",.tup [.str "if",a,b,c]],ts]]) ns kn J):=by
 rw [za (d:=j8) rfl rfl]
 exact zZ (ze (bnd rfl q.doing) (zM (zf rfl rfl (eqS JO jU)) (zM (zf rfl rfl (eqS JO jV)) (zM (zf rfl rfl (eqS JO wQ)) (zM (zf rfl rfl (eqS JO WB)) (zM (zf rfl rfl (eqS JO ZU))
  (zw (jv (jv rfl rfl) (bnd rfl (w6 q.hd))) rfl (qA q.hd) (j7 (bnd (bnd rfl (bnd rfl Yn)) rfl) (jR (λ _ hp=>nomatch hp) (Ze q.hd) for_0) rfl)) rfl) rfl) rfl) rfl) rfl))
theorem qB {o:O}{xs:List D}:(M h d bl ts ns kn (J++[o,.lst xs]))[h.length+J.length+1]?=some (.lst xs):=by
 unfold M
 rw [Y08 (by rw [Y0n];omega),Y0n,Y2p,Y1r,Y08 (by omega),Y1r];rfl
theorem zT {k:Str}{i:Nat}{R:List D}{h2:Hh}(q:At h w d l s r u nd cs bd e)(hk:fnOf qP (.str k)=some i)(c:callI defs n i [.loc w,.tup (.str k::R)] (M h d bl ts ns kn J)=.ok .non h2):callI defs (n+1) 13 [.loc w,.tup [.str "then",.tup (.str k::R)]] (M h d bl ts ns kn J)=.ok .non h2:=by
 rw [za (d:=j8) rfl rfl]
 refine zZ (ze (bnd rfl q.doing) (zM (zf rfl rfl (eqS wQ jU)) (zM (zf rfl rfl (eqS wQ jV)) (jc (zf rfl rfl (eqS wQ wQ)) (yy (d:=.non) (h':=h2) ?_ rfl) rfl) rfl) rfl))
 refine (z2h).trans (bnd (x:=.str k) (h:=M h d bl ts ns kn J) ?_ ?_)
 ·exact bnd (bnd rfl (bnd rfl rfl)) (bnd rfl (by show (match atI (D.str k::R) 0 with | some d=>Res.ok d _ | none=>.no)=_;rw [a0]))
 ·simp only [hk]
  exact bnd rfl (bnd (bnd (bnd rfl (bnd rfl rfl)) (bnd rfl rfl)) c)
theorem JS {x:Str}{a b:D}{v1 v2 v:Int}(q:At h w d l s r u nd cs bd e)(hs:Sg x)(h1:Sm v1)(h2:Sm v2)(hv:zP x v1 v2=some v) :
  callI defs (n+2) 19 [.loc w,.tup [.str "op",.str x,a,b]] (M h d bl ts (.tup [.int v2,.tup [.int v1,ns]]) kn J)=.ok .non (M h d bl ts (.tup [.int v,ns]) kn (J++[.lst [.int v2,.int v1],.lst [.int v1,.int v2]])):=by
 rw [za (d:=qy) rfl rfl]
 refine zZ (ze (bnd (bnd rfl q.doing) (bnd rfl ((za (d:=d_taken) rfl rfl).trans (Qe q.hd)))) (ze (d:=.int v) (bnd rfl (bnd (bnd (bnd rfl (bnd rfl (yE qB a0))) (bnd (bnd (bnd rfl (bnd rfl (yE qB a1))) (bnd rfl rfl)) rfl)) ((za (d:=d_reckoned) rfl rfl).trans (by rw [ZV hs h1 h2,hv];rfl)))) (zM (zf rfl rfl rfl) (yy (bnd (bnd rfl q.doing) (bnd rfl (Ub q.hd))) rfl) rfl)))
theorem yg {x:Str}{a b:D}{v1 v2:Int}(q:At h w d l s r u nd cs bd e)(hs:Sg x)(h1:Sm v1)(h2:Sm v2)(hv:zP x v1 v2=none) :
  callI defs (n+2) 19 [.loc w,.tup [.str "op",.str x,a,b]] (M h d bl ts (.tup [.int v2,.tup [.int v1,ns]]) kn J)=.ok .non (M (h.set w (wk nd cs bd d l s r u (.tup [.str "great"]))) d bl ts ns kn (J++[.lst [.int v2,.int v1],.lst [.int v1,.int v2]])):=by
 rw [za (d:=qy) rfl rfl]
 refine zZ (ze (bnd (bnd rfl q.doing) (bnd rfl ((za (d:=d_taken) rfl rfl).trans (Qe q.hd)))) (ze (d:=.non) (bnd rfl (bnd (bnd (bnd rfl (bnd rfl (yE qB a0))) (bnd (bnd (bnd rfl (bnd rfl (yE qB a1))) (bnd rfl rfl)) rfl)) ((za (d:=d_reckoned) rfl rfl).trans (by rw [ZV hs h1 h2,hv];rfl)))) (jc (zf rfl rfl rfl) (zw rfl rfl q.setEnd rfl) rfl)))
theorem V5 {a b c:D}{v:Int}(q:At h w d l s r u nd cs bd e):callI defs (n+2) 20 [.loc w,.tup [.str "if",a,b,c]] (M h d bl ts (.tup [.int v,ns]) kn J)=.ok .non (M h d bl (.tup [if v=0 then c else b,ts]) ns kn (J++[.lst [.int v],.lst [.int v]])):=by
 rw [za (d:=yB) rfl rfl]
 refine zZ (ze (bnd rfl q.doing) (ze (d:=if v=0 then c else b) (GV (t:=v==0) (bnd (bnd (bnd rfl (bnd rfl ((za (d:=d_taken) rfl rfl).trans (GS q.hd)))) (bnd rfl (yE qB a0))) (bnd rfl eqI)) ?_) (zw (jv rfl (bnd rfl (w6 q.hd))) rfl (qA q.hd) rfl)))
 by_cases z:v=0
 ·rw [if_pos z,z];rfl
 ·rw [if_neg z,show (v==0)=false from by simpa using z];rfl
end
end K43
namespace K43
open PySem L2 PI
noncomputable def Lp (n:Nat)(ρ:En)(H:Hh):RS:=whR (λ ρ' h'=>w_walk_on_1.evT (callI defs (n+3)) ρ' h') (λ ρ' h'=>b_walk_on_1.run (callI defs (n+3)) ρ' h') ρ H
section
variable {n:Nat}{h:Hh}{w d l s r:Nat}{u:Int}{nd cs bd bl ts ns kn:D}{J:Hh}
theorem turn {tk:D}{h2:Hh}{x y:Option D}(q:At h w d l s r u nd cs bd .non)(c:callI defs (n+3) 13 [.loc w,tk] (M h d bl ts ns kn J)=.ok .non h2) :
  Lp n [some (.loc w),x,y] (M h d bl (.tup [tk,ts]) ns kn J)=Lp n [some (.loc w),some (.loc d),some tk] h2 :=
 jy (zf (bnd rfl q.endF) rfl rfl) (ze (bnd rfl q.doing) (zM (zf (bnd rfl (w6 q.hd)) rfl rfl) (ze (bnd (bnd rfl (w6 q.hd)) (bnd rfl rfl)) (zw (bnd (bnd rfl (w6 q.hd)) (bnd rfl rfl)) rfl (qA q.hd) (yy (bnd rfl (bnd rfl c)) rfl))) rfl))
theorem At.ended {z:D}(q:At h w d l s r u nd cs bd .non):At (h.set w (wk nd cs bd d l s r u z)) w d l s r u nd cs bd z :=
 ⟨Y0r (Y0c.mp q.hw).1,q.ne,by rw [Y0n];exact q.hd⟩
theorem z2q {z:List D}{ρ:En}(q:At h w d l s r u nd cs bd (.tup z))(e:ρ[0]?=some (some (.loc w))):Lp n ρ (M h d bl ts ns kn J)=.nx ρ (M h d bl ts ns kn J) :=
 jO (zf (bnd (by rw [zR,e]) q.endF) rfl rfl)
theorem Uc:fnOf qP (.str "op")=some 19:=by rfl
theorem z4k:fnOf qP (.str "if")=some 20:=by rfl
structure Tld (n:Nat)(h:Hh)(w d l s r:Nat)(u:Int)(nd cs bd bl:D)(t:T)(kn:List (Str×Int))(ts ns:D)(J:Hh)(x y:Option D):Prop where
 go:∀ v,val t kn=some v->∃ x' y' J',Lp n [some (.loc w),x,y] (M h d bl (.tup [t.d,ts]) ns (knD kn) J)=Lp n [some (.loc w),x',y'] (M h d bl ts (.tup [.int v,ns]) (knD kn) (J++J'))
 great:val t kn=none->∃ x' y' ts' ns' kn' J',Lp n [some (.loc w),x,y] (M h d bl (.tup [t.d,ts]) ns (knD kn) J)=.nx [some (.loc w),x',y'] (M (h.set w (wk nd cs bd d l s r u (.tup [.str "great"]))) d bl ts' ns' kn' (J++J'))
theorem Yp (q:At h w d l s r u nd cs bd .non):∀ (t:T) (S:List Str) (kn:List (Str×Int)) (ts ns:D) (J:Hh) (x y:Option D),t.ok S->KnOk S kn->Tld n h w d l s r u nd cs bd bl t kn ts ns J x y
 | .num c,S,kn,ts,ns,J,x,y,o,k=>⟨λ v e=>by cases e;exact ⟨_,_,[],by rw [Y0z];exact turn q (Yo q)⟩,λ e=>by cases e⟩
 | .var z,S,kn,ts,ns,J,x,y,o,k=>⟨λ v e=>⟨_,_,[],by rw [Y0z];exact turn q (ZW q (k.sok z o) k.key e)⟩,λ e=>by
   obtain ⟨v,e'⟩:=k.all z o
   have e:kn.lookup z=none:=e
   rw [e'] at e;cases e⟩
 | .op z a b,S,kn,ts,ns,J,x,y,o,k=>by
  have e1:Lp n [some (.loc w),x,y] (M h d bl (.tup [(T.op z a b).d,ts]) ns (knD kn) J)=_:=turn q (yF (n:=n) q)
  have va:val (.op z a b) kn=(val a kn).bind λ v=>(val b kn).bind λ u=>zP z v u:=rfl
  have A:=Yp q a _ kn (.tup [b.d,.tup [.tup [.str "then",(T.op z a b).d],ts]]) ns J (some (.loc d)) (some (T.op z a b).d) o.2.1 k
  cases ea:val a kn with
  | none =>
   refine ⟨λ v e=>(by rw [va,ea] at e;cases e),λ _=>?_⟩
   obtain ⟨x',y',t',n',k',J',e2⟩:=A.great ea
   exact ⟨x',y',t',n',k',J',e1.trans e2⟩
  | some v1 =>
   obtain ⟨x1,y1,J1,e2⟩:=A.go v1 ea
   have B:=Yp q b _ kn (.tup [.tup [.str "then",(T.op z a b).d],ts]) (.tup [.int v1,ns]) (J++J1) x1 y1 o.2.2 k
   cases eb:val b kn with
   | none =>
    refine ⟨λ v e=>(by rw [va,ea,eb] at e;cases e),λ _=>?_⟩
    obtain ⟨x',y',t',n',k',J',e3⟩:=B.great eb
    exact ⟨x',y',t',n',k',J1++J',by rw [<- Y0e];exact e1.trans (e2.trans e3)⟩
   | some v2 =>
    obtain ⟨x2,y2,J2,e3⟩:=B.go v2 eb
    have s1:=Yj a _ kn v1 o.2.1 k ea
    have s2:=Yj b _ kn v2 o.2.2 k eb
    cases er:zP z v1 v2 with
    | none =>
     refine ⟨λ v e=>(by rw [va,ea,eb] at e;rw [show ((some v1).bind λ v=>(some v2).bind λ u=>zP z v u)=zP z v1 v2 from rfl,er] at e;cases e),λ _=>?_⟩
     have e4:=turn (x:=x2) (y:=y2) q (zT (bl:=bl) (ts:=ts) (J:=J++J1++J2) (kn:=knD kn) q Uc (yg (n:=n) (ns:=ns) (a:=a.d) (b:=b.d) q o.1 s1 s2 er))
     exact ⟨_,_,_,_,_,J1++(J2++[.lst [.int v2,.int v1],.lst [.int v1,.int v2]]),by
      rw [<- Y0e,<- Y0e]
      exact e1.trans (e2.trans (e3.trans (e4.trans (z2q q.ended rfl))))⟩
    | some v3 =>
     refine ⟨λ v e=>?_,λ e=>by rw [va,ea,eb] at e;rw [show ((some v1).bind λ v=>(some v2).bind λ u=>zP z v u)=zP z v1 v2 from rfl,er] at e;cases e⟩
     rw [va,ea,eb,show ((some v1).bind λ v=>(some v2).bind λ u=>zP z v u)=zP z v1 v2 from rfl,er] at e
     cases e
     have e4:=turn (x:=x2) (y:=y2) q (zT (bl:=bl) (ts:=ts) (J:=J++J1++J2) (kn:=knD kn) q Uc (JS (n:=n) (ns:=ns) (a:=a.d) (b:=b.d) q o.1 s1 s2 er))
     exact ⟨_,_,J1++(J2++[.lst [.int v2,.int v1],.lst [.int v1,.int v2]]),by
      rw [<- Y0e,<- Y0e]
      exact e1.trans (e2.trans (e3.trans e4))⟩
end
end K43
namespace K43
open PySem L2 PI
section
variable {n:Nat}{h:Hh}{w d l s r:Nat}{u:Int}{nd cs bd bl ts ns kn:D}{J:Hh}
theorem BA (hd:d<h.length):callI defs (n+1) 23 [.loc d] (M h d bl ts ns kn J)=.ok (.bl false) (M h d bl ts ns kn J):=by
 rw [za (d:=d_holds_alone) rfl rfl]
 exact zg (zo (ju (z2l (zf (bnd rfl (z2o hd)) rfl rfl))))
end
section
variable {n:Nat}{H:Hh}{m:Nat}
theorem Ud {cl:Nat->List D->Hh->Res D}{a b:Option D}{xs:List D}(g:H[m]?=some (.lst xs)):∀ (ps:List (Str×Int)) (kn:List (Str×Int)) (c:Option D),∃ c',jz [(m,xs)] (zQ ZS λ ρ' h'=>b_linked_1.run cl ρ' h') (ps.map λ p=>.tup [.str p.1,.int p.2]) [a,b,some (knD kn),c] H=.nx [a,b,some (knD (ps.reverse++kn)),c'] H
 | [],kn,c=>⟨c,if_pos (λ p hp=>by rw [Y0m.mp hp];exact rdl g)⟩
 | p::r,kn,c=>by
  obtain ⟨c',e⟩:=Ud (cl:=cl) (a:=a) (b:=b) g r (p::kn) (some (.tup [.str p.1,.int p.2]))
  refine ⟨c',jR (λ p hp=>by rw [Y0m.mp hp];exact rdl g) (yD (ze (jv rfl rfl) rfl)) ?_⟩
  rw [Y1a,Y0e]
  exact e
theorem Qf {names:List Str}{nums:List Int}(g:H[m]?=some (.lst (nums.map .int))):callI defs (n+1) 11 [.tup (names.map .str),.loc m] H=.ok (knD (names.zip nums).reverse) H:=by
 rw [za (d:=ZT) rfl rfl]
 obtain ⟨c',e⟩:=Ud (cl:=callI defs n) (a:=some (.tup (names.map .str))) (b:=some (.loc m)) g (names.zip nums) [] none
 rw [Y0z] at e
 have hz:Qa (.tup (names.map .str)) (.loc m) H=.ok (([(m,nums.map .int)]:Ck),(names.zip nums).map λ p:Str×Int=>D.tup [.str p.1,.int p.2]) H:=by
  have q:Qa (.tup (names.map .str)) (.loc m) H=(match (PI.rd H m).map (λ xs=>(([(m,xs)],xs):Ck×List D)) with | some q=>Res.ok ([]++q.1,((names.map D.str).zip q.2).map Q9) H | none=>.no):=rfl
  rw [q,rdl g]
  show Res.ok (([(m,nums.map .int)]:Ck),((names.map D.str).zip (nums.map D.int)).map Q9) H=_
  rw [List.zip_map,Y1y]
  rfl
 exact zg (ze rfl (j7 (izip.trans (bnd rfl (bnd rfl hz))) e (zo rfl)))
end
section
variable {n:Nat}{H R:Hh}{y f:Str}{fs fs':List (Str×D)}{z a b c e:D}
theorem jo (hl:fs.length<1000)(q:Q8 f z fs=fs'):qh (.loc H.length) f z (H++(.obj y fs::R))=some (H++(.obj y fs'::R)):=by
 refine (jx (y:=y) (fs:=fs) ?_ hl q).trans (congrArg some ?_)
 ·rw [Y08 (Y03 _),Y0w];rfl
 ·rw [Y19 _ _ (Y03 _),Y0w];rfl
theorem GW {cl:Nat->List D->Hh->Res D}{ρ:En}{p:Pos}:E.ev cl (.ofL (.disp .nil p)) ρ (H++(.obj y fs::R))=.ok (.loc (H.length+(R.length+1))) (H++(.obj y fs::(R++[.lst []]))):=by
 simp [vofL,ldisp,z6g,new]
theorem z4l:callI defs (n+1) 40 [.loc H.length,a,b,c] (H++[.obj "Walk" []])=.ok .non (H++[.obj "Walk" [("named",a),("clauses",b),("bound",c),("doing",.non),("left",.loc (H.length+1)),("standing",.loc (H.length+2)),("record",.loc (H.length+3)),("used",.int 0),("end",.non)],.lst [],.lst [],.lst []]):=by
 rw [za (d:=w5) rfl rfl]
 exact zZ (zw rfl rfl (jo (Y0i rfl) rfl) (zw rfl rfl (jo (Y0i rfl) rfl) (zw rfl rfl (jo (Y0i rfl) rfl) (zw rfl rfl (jo (Y0i rfl) rfl) (zw GW rfl (jo (Y0i rfl) rfl) (zw GW rfl (jo (Y0i rfl) rfl) (zw GW rfl (jo (Y0i rfl) rfl) (zw rfl rfl (jo (Y0i rfl) rfl) (zw rfl rfl (jo (Y0i rfl) rfl) rfl)))))))))
theorem GX:callI defs (n+1) 41 [.loc H.length,a,b,c,.non] (H++[.obj "Doing" []])=.ok .non (H++[dg c (.tup [a,.non]) .non b]):=by
 rw [za (d:=jL) rfl rfl]
 exact zZ (zw (jv rfl rfl) rfl (jo (Y0i rfl) rfl) (zw rfl rfl (jo (Y0i rfl) rfl) (zw rfl rfl (jo (Y0i rfl) rfl) (zw rfl rfl (jo (Y0i rfl) rfl) (zw rfl rfl (jo (Y0i rfl) rfl) (zw rfl rfl (jo (Y0i rfl) rfl) rfl))))))
end
end K43
namespace K43
open PySem L2 PI
noncomputable def jG (ns:D):List D->D
 | []=>ns
 | w::ws=>.tup [w,jG ns ws]
theorem JT {ns v:D}:∀ ws:List D,jG ns (ws++[v])=jG (.tup [v,ns]) ws
 | []=>rfl
 | w::ws=>by rw [Y3m,jG,jG,JT ws]
noncomputable def qJ (ts:D):List D->D
 | []=>ts
 | a::r=>.tup [a,qJ ts r]
theorem JU {ts v:D}:∀ ws:List D,qJ ts (ws++[v])=qJ (.tup [v,ts]) ws
 | []=>rfl
 | w::ws=>by rw [Y3m,qJ,qJ,JU ws]
section
variable {cl:Nat->List D->Hh->Res D}{h:Hh}{w d:Nat}{bl ts ns kn:D}{J:Hh}
theorem ZX (hd:d<h.length):∀ (ws l:List D) (c:Nat),c=l.length+ws.length->c<1000->whR (λ ρ' h'=>w_taken_1.evT cl ρ' h') (λ ρ' h'=>b_taken_1.run cl ρ' h') [some (.loc d),some (.int c),some (.loc (h.length+J.length))] (M h d bl ts (jG ns ws) kn (J++[.lst l]))=.nx [some (.loc d),some (.int c),some (.loc (h.length+J.length))] (M h d bl ts ns kn (J++[.lst (l++ws)]))
 | [],l,c,hc,hl=>by rw [Y0z];exact jO (wP _ _ false jE (by rw [hc];simp))
 | w::ws,l,c,hc,hl=>by
  rw [Y06] at hc
  have e:=ZX hd ws (l++[w]) c (by rw [Y0u];simp;omega) hl
  rw [Y0e] at e
  exact (jy (wP _ _ true jE (decide_eq_true (by omega))) (Zd hd (by omega))).trans e
theorem GY (hd:d<h.length)(vs:List D)(c:Nat)(hc:c=vs.length)(hl:c<1000):d_taken.run cl [.loc d,.int c] (M h d bl ts (jG ns vs.reverse) kn J)=.ok (.loc (h.length+J.length+1)) (M h d bl ts ns kn (J++[.lst vs.reverse,.lst vs])):=by
 have e2:=ZX (cl:=cl) (bl:=bl) (ts:=ts) (ns:=ns) (kn:=kn) (J:=J) hd vs.reverse [] c (by simp [hc]) hl
 rw [Y16] at e2
 simp [d_taken,Df.run,wF,ZQ,Bv,vofL,L.ev,Es.ev,new,GQ,GR,Qd,e2,GG,Yh,lrD,zR,rdl jE,Wl,Y2p]
noncomputable def zU (g:Str)(as:List D):D:=.tup [.str "call",.str g,.non,.tup as]
theorem WD {g:Str}{as:List D}:d_parts_of.run cl [zU g as] h=.ok (.tup as) h:=zg (jb (zf rfl rfl (eqS jI jI)) (zo rfl))
theorem WE {n:Nat}{g:Str}{as:List D}:callI defs (n+2) 14 [zU g as] h=.ok (.tup as) h:=by
 rw [za (d:=jT) rfl rfl]
 exact zg (ze (bnd rfl (bnd rfl ((za (d:=d_parts_of) rfl rfl).trans WD))) (zo rfl))
theorem JV {a b:Option D}(hd:d<h.length):∀ (xs:List D) (ts:D) (c:Option D),∃ c',jz [] (zQ qj (λ ρ' h'=>b_do_task_1.run cl ρ' h')) xs [a,b,some (.loc d),c] (M h d bl ts ns kn J)=.nx [a,b,some (.loc d),c'] (M h d bl (qJ ts xs.reverse) ns kn J)
 | [],ts,c=>⟨c,for_0⟩
 | x::xs,ts,c=>by
  obtain ⟨c',e⟩:=JV hd xs (.tup [x,ts]) (some x)
  refine ⟨c',?_⟩
  rw [Y1a,JU]
  exact jR (λ _ hp=>nomatch hp) (Ze hd) e
end
section
variable {n:Nat}{h:Hh}{w d l s r:Nat}{u:Int}{nd cs bd e bl ts ns kn:D}{J:Hh}
theorem Qg {g:Str}{as:List D}(q:At h w d l s r u nd cs bd e):callI defs (n+3) 13 [.loc w,zU g as] (M h d bl ts ns kn J)=.ok .non (M h d bl (qJ (.tup [.tup [.str "then",zU g as],ts]) as) ns kn J):=by
 rw [za (d:=j8) rfl rfl]
 obtain ⟨c',F⟩:=JV (cl:=callI defs (n+2)) (bl:=bl) (ns:=ns) (kn:=kn) (J:=J) (a:=some (.loc w)) (b:=some (zU g as)) q.hd as.reverse (.tup [.tup [.str "then",zU g as],ts]) none
 rw [List.reverse_reverse] at F
 exact zZ (ze (bnd rfl q.doing) (zM (zf rfl rfl (eqS jI jU)) (zM (zf rfl rfl (eqS jI jV)) (zM (zf rfl rfl (eqS jI wQ)) (zM (zf rfl rfl (eqS jI WB)) (zM (zf rfl rfl (eqS jI ZU))
  (zw (jv (jv rfl rfl) (bnd rfl (w6 q.hd))) rfl (qA q.hd) (j7 (bnd (bnd rfl (bnd rfl WE)) rfl) F rfl)) rfl) rfl) rfl) rfl) rfl))
noncomputable def vals:List T->List (Str×Int)->Option (List Int)
 | [],_=>some []
 | t::r,kn=>(val t kn).bind λ v=>(vals r kn).bind λ vs=>some (v::vs)
theorem GZ (q:At h w d l s r u nd cs bd .non){S:List Str}{kn:List (Str×Int)}(k:KnOk S kn):∀ (as:List T) (ts ns:D) (J:Hh) (x y:Option D),(∀ t∈as,t.ok S) ->
  (∀ vs,vals as kn=some vs->∃ x' y' J',Lp n [some (.loc w),x,y] (M h d bl (qJ ts (as.map T.d)) ns (knD kn) J)=Lp n [some (.loc w),x',y'] (M h d bl ts (jG ns (vs.reverse.map .int)) (knD kn) (J++J'))) /\
  (vals as kn=none->∃ x' y' ts' ns' kn' J',Lp n [some (.loc w),x,y] (M h d bl (qJ ts (as.map T.d)) ns (knD kn) J)=.nx [some (.loc w),x',y'] (M (h.set w (wk nd cs bd d l s r u (.tup [.str "great"]))) d bl ts' ns' kn' (J++J')))
 | [],ts,ns,J,x,y,o=>⟨λ vs e=>by cases e;exact ⟨x,y,[],by rw [Y0z];rfl⟩,λ e=>by cases e⟩
 | t::as,ts,ns,J,x,y,o=>by
  have A:=Yp (n:=n) (bl:=bl) q t S kn (qJ ts (as.map T.d)) ns J x y (o t Y0b) k
  have ve:vals (t::as) kn=(val t kn).bind λ v=>(vals as kn).bind λ vs=>some (v::vs):=rfl
  cases ea:val t kn with
  | none =>
   refine ⟨λ vs e=>(by rw [ve,ea] at e;cases e),λ _=>A.great ea⟩
  | some v =>
   obtain ⟨x1,y1,J1,e1⟩:=A.go v ea
   have B:=GZ q k as ts (.tup [.int v,ns]) (J++J1) x1 y1 λ t' h'=>o t' (Y04 _ h')
   cases eb:vals as kn with
   | none =>
    refine ⟨λ vs e=>(by rw [ve,ea,eb] at e;cases e),λ _=>?_⟩
    obtain ⟨x',y',t',n',k',J',e2⟩:=B.2 eb
    exact ⟨x',y',t',n',k',J1++J',by rw [<- Y0e];exact e1.trans e2⟩
   | some us =>
    refine ⟨λ vs e=>?_,λ e=>(by rw [ve,ea,eb] at e;cases e)⟩
    rw [ve,ea,eb] at e
    cases e
    obtain ⟨x',y',J',e2⟩:=B.1 us eb
    exact ⟨x',y',J1++J',by rw [<- Y0e,Y1a,List.map_append,List.map_singleton,JT];exact e1.trans e2⟩
end
end K43
namespace K43
open PySem L2 PI
theorem z2r {h:Hh}{d:Nat}{bl ts ns kn:D}(e:h[d]?=some (dg bl ts ns kn)):M h d bl ts ns kn []=h:=by
 unfold M
 rw [Y0z]
 obtain ⟨hd,q⟩:=Y0c.mp e
 rw [<- q,List.set_getElem_self]
structure Fr where
 at_:Nat
 ts:D
 ns:D
 kn:D
noncomputable abbrev blN:D:=.tup [.non,.non]
structure St (H0 H:Hh)(w d l s r m c:Nat)(bd:Int)(kvs:List (Key×D))(u:Int)(ts ns kn:D)(fr:List Fr):Prop where
 hw:H[w]?=some (wk (.loc m) (.loc c) (.int bd) d l s r u .non)
 hd:H[d]?=some (dg blN ts ns kn)
 hl:H[l]?=some (.lst (fr.reverse.map λ f=>.loc f.at_))
 hr:H[r]?=some (.lst [])
 hm:H[m]?=some (.dK kvs)
 wd:w≠d
 wl:w≠l
 wr:w≠r
 wm:w≠m
 dl:d≠l
 dr:d≠r
 dm:d≠m
 lr:l≠r
 lm:l≠m
 fs:∀ f∈fr,H[f.at_]?=some (dg blN f.ts f.ns f.kn)/\f.at_≠w/\f.at_≠l/\f.at_≠d
 old:∀ (i:Nat) (o:O),H0[i]?=some o->H[i]?=some o
 bw:H0.length<=w
 bl:H0.length<=l
 bd:H0.length<=d
structure Fin (H0 H:Hh)(w r:Nat)(u:Int)(e:D):Prop where
 hw:∃ nd cs bd d l s,H[w]?=some (wk nd cs bd d l s r u e)
 hr:H[r]?=some (.lst [])
 old:∀ (i:Nat) (o:O),H0[i]?=some o->H[i]?=some o
theorem zN {H:Hh}{i:Nat}{o:O}(e:H[i]?=some o):i<H.length:=(Y0c.mp e).1
theorem zv {H:Hh}{i j:Nat}{o o':O}(ne:i≠j)(e:H[i]?=some o):(H.set j o')[i]?=some o:=by rw [Y15 (Ne.symm ne)];exact e
theorem zj {A B:Hh}{i:Nat}{o:O}(e:A[i]?=some o):(A++B)[i]?=some o:=by rw [Y0x (zN e)];exact e
section
variable {H0 H:Hh}{w d l s r m c:Nat}{bd:Int}{kvs:List (Key×D)}{u:Int}{ts ns kn ts' ns' kn' e:D}{fr:List Fr}{J:Hh}
theorem St.at (q:St H0 H w d l s r m c bd kvs u ts ns kn fr):At H w d l s r u (.loc m) (.loc c) (.int bd) .non:=⟨q.hw,q.wd,zN q.hd⟩
theorem St.self (q:St H0 H w d l s r m c bd kvs u ts ns kn fr):M H d blN ts ns kn []=H:=z2r q.hd
theorem St.M (q:St H0 H w d l s r m c bd kvs u ts ns kn fr):St H0 (M H d blN ts' ns' kn' J) w d l s r m c bd kvs u ts' ns' kn' fr :=
 ⟨M_o q.hw q.wd,M_d (zN q.hd),M_o q.hl (Ne.symm q.dl),M_o q.hr (Ne.symm q.dr),M_o q.hm (Ne.symm q.dm),q.wd,q.wl,q.wr,q.wm,q.dl,q.dr,q.dm,q.lr,q.lm,
  λ f hf=>⟨M_o (q.fs f hf).1 (q.fs f hf).2.2.2,(q.fs f hf).2⟩,λ i o ho=>M_o (q.old i o ho) (by have:=zN ho;have:=q.bd;omega),q.bw,q.bl,q.bd⟩
theorem St.fin (q:St H0 H w d l s r m c bd kvs u ts ns kn fr):Fin H0 (K43.M (H.set w (wk (.loc m) (.loc c) (.int bd) d l s r u e)) d blN ts' ns' kn' J) w r u e :=
 ⟨⟨_,_,_,_,_,_,M_o (Y0r (zN q.hw)) q.wd⟩,M_o (zv (Ne.symm q.wr) q.hr) (Ne.symm q.dr),λ i o ho=>M_o (zv (by have:=zN ho;have:=q.bw;omega) (q.old i o ho)) (by have:=zN ho;have:=q.bd;omega)⟩
theorem St.turned (q:St H0 H w d l s r m c bd kvs u ts ns kn fr)(v:Int):St H0 (H.set w (wk (.loc m) (.loc c) (.int bd) d l s r v .non)) w d l s r m c bd kvs v ts ns kn fr :=
 ⟨Y0r (zN q.hw),zv (Ne.symm q.wd) q.hd,zv (Ne.symm q.wl) q.hl,zv (Ne.symm q.wr) q.hr,zv (Ne.symm q.wm) q.hm,q.wd,q.wl,q.wr,q.wm,q.dl,q.dr,q.dm,q.lr,q.lm,
  λ f hf=>⟨zv (q.fs f hf).2.1 (q.fs f hf).1,(q.fs f hf).2⟩,λ i o ho=>zv (by have:=zN ho;have:=q.bw;omega) (q.old i o ho),q.bw,q.bl,q.bd⟩
theorem St.under {fr':List Fr}{b k:D}(q:St H0 H w d l s r m c bd kvs u ts ns kn fr)(hf:∀ f∈fr',H[f.at_]?=some (dg blN f.ts f.ns f.kn)/\f.at_≠w/\f.at_≠l) :
  St H0 (((H.set l (.lst (fr'.reverse.map λ f=>.loc f.at_)))++[dg blN b ns' k]).set w (wk (.loc m) (.loc c) (.int bd) H.length l s r u .non)) w H.length l s r m c bd kvs u b ns' k fr':=by
 have ll:=zN q.hl
 have lw:=zN q.hw
 have E:((H.set l (.lst (fr'.reverse.map λ f=>.loc f.at_)))++[dg blN b ns' k]).length=H.length+1:=by simp
 have low:∀ (i:Nat) (o:O),H[i]?=some o->i≠l->i≠w->(((H.set l (.lst (fr'.reverse.map λ f=>.loc f.at_)))++[dg blN b ns' k]).set w (wk (.loc m) (.loc c) (.int bd) H.length l s r u .non))[i]?=some o:=λ i o e n1 n2=>zv n2 (zj (zv n1 e))
 refine ⟨Y0r (by omega),zv (by omega) ?_,zv (Ne.symm q.wl) (zj (Y0r ll)),low _ _ q.hr (Ne.symm q.lr) (Ne.symm q.wr),low _ _ q.hm (Ne.symm q.lm) (Ne.symm q.wm),by omega,q.wl,q.wr,q.wm,by omega,by have:=zN q.hr;omega,by have:=zN q.hm;omega,q.lr,q.lm,λ f h=>?_,λ i o ho=>?_,q.bw,q.bl,by have:=q.bw;omega⟩
 ·rw [Y08 (by rw [Y0n];exact Y03 _),Y0n,Y0w];rfl
 ·obtain ⟨a,b,c⟩:=hf f h
  exact ⟨low _ _ a c b,b,c,by have:=zN a;omega⟩
 ·exact low _ _ (q.old i o ho) (by have:=zN ho;have:=q.bl;omega) (by have:=zN ho;have:=q.bw;omega)
theorem append_at {cl:Nat->List D->Hh->Res D}{ρ:En}{X X1 X2:Hh}{n:Nat}{xs:List D}{oe ae:E}{v:D}{p1 p:Pos}(ho:oe.ev cl ρ X=.ok (.loc n) X1)(g1:X1[n]?=some (.lst xs))(ha:ae.ev cl ρ X1=.ok v X2)(g:X2[n]?=some (.lst xs))(hl:xs.length<1000000) :
  E.ev cl (.m1 .append oe ae p1 p) ρ X=.ok .non (X2.set n (.lst (xs++[v]))):=by
 rw [vm1]
 refine bnd ho ?_
 rw [Wv g1]
 refine bnd ha ?_
 simp [m1D,g,hl]
theorem z6i {g:Str}(hg:PyData.strOk g=true):j0 .Eq (.str g) .non H=.ok (.bl false) H:=if_pos ⟨hg,rfl,Y1h _⟩
theorem V6 {n:Nat}{g:Str}(hg:PyData.strOk g=true):callI defs (n+1) 1 [.str g,blN] H=.ok (.str g) H:=by
 rw [za (d:=jJ) rfl rfl]
 exact zg (zo (GV (t:=false) (bnd rfl (bnd (bnd rfl (bnd rfl rfl)) (z6i hg))) rfl))
theorem V7 {n:Nat}:callI defs (n+1) 1 [.non,blN] H=.ok .non H:=by
 rw [za (d:=jJ) rfl rfl]
 exact zg (zo (GV (t:=true) (bnd rfl (bnd (bnd rfl (bnd rfl rfl)) rfl)) rfl))
theorem z2s {n:Nat}(q:St H0 H w d l s r m c bd kvs u ts ns kn fr)(hu:u<bd):callI defs (n+1) 18 [.loc w] H=.ok (.bl true) (H.set w (wk (.loc m) (.loc c) (.int bd) d l s r (u+1) .non)):=by
 rw [za (d:=jZ) rfl rfl]
 exact zg (zi (zf (bnd rfl (zn q.hw rfl)) (bnd rfl (zn q.hw rfl)) (cmp_ge.trans (by rw [decide_eq_false (by omega)]))) (zw (bnd (bnd rfl (zn q.hw rfl)) rfl) rfl (jx q.hw (by simp) rfl) (zo rfl)))
theorem BB {n:Nat}(q:St H0 H w d l s r m c bd kvs u ts ns kn fr)(hu:¬ u<bd):callI defs (n+1) 18 [.loc w] H=.ok (.bl false) (H.set w (wk (.loc m) (.loc c) (.int bd) d l s r u (.tup [.str "spent"]))):=by
 rw [za (d:=jZ) rfl rfl]
 exact zg (jb (zf (bnd rfl (zn q.hw rfl)) (bnd rfl (zn q.hw rfl)) (cmp_ge.trans (by rw [decide_eq_true (by omega)]))) (zw rfl rfl (jx q.hw (by simp) rfl) (zo rfl)))
end
end K43
namespace K43
open PySem L2 PI
noncomputable def it (x:Str)(p b:D):D:=.tup [.str "def",.str x,p,.non,b]
theorem Jj {H:Hh}{m:Nat}{f:Str}{kvs:List (Key×D)}{v:D}(g:H[m]?=some (.dK kvs))(e:jf kvs (.inr f)=some v):jg (.loc m) (.str f) H=.ok v H:=by
 have q:jg (.loc m) (.str f) H=match H[m]? with
  | some (.dK kvs)=>(match (wU (.str f)).bind (λ k=>jf kvs k) with | some d=>Res.ok d H | none=>.no)
  | some (.lst xs)=>.no
  | _=>.no:=rfl
 rw [q,g]
 show (match jf kvs (.inr f) with | some d=>Res.ok d H | none=>.no)=_
 rw [e]
section
variable {n:Nat}{H0 H:Hh}{w d l s r m c:Nat}{bd:Int}{kvs:List (Key×D)}{u:Int}{ts ns kn ts' ns' kn' e:D}{fr:List Fr}{J:Hh}
theorem yh {vs:List Int}{as:List D}(q:St H0 H w d l s r m c bd kvs u ts (jG ns (vs.map .int).reverse) kn fr)(hl:as.length=vs.length)(hs:vs.length<1000) :
  ∃ X1,callI defs (n+1) 17 [.loc d,.int as.length] H=.ok (.loc (H.length+1)) X1/\St H0 X1 w d l s r m c bd kvs u ts ns kn fr/\X1[H.length+1]?=some (.lst (vs.map .int)):=by
 have T:callI defs (n+1) 17 [.loc d,.int as.length] (M H d blN ts (jG ns (vs.map D.int).reverse) kn [])=_:=(za (d:=d_taken) rfl rfl).trans (GY (J:=[]) (zN q.hd) (vs.map D.int) as.length (by simp [hl]) (by omega))
 rw [q.self] at T
 exact ⟨_,T,q.M,qB (J:=[])⟩
theorem Qh {g x:Str}{vs:List Int}{as:List D}{ps:List Str}{body:D}(q:St H0 H w d l s r m c bd kvs u ts (jG ns (vs.map .int).reverse) kn fr)(hl:as.length=vs.length)(hs:vs.length<1000)(hf:fr.length<1000000)(hg:PyData.strOk g=true)(hv:jf kvs (.inr g)=some (it x (.tup (ps.map .str)) body))(hu:u<bd) :
  ∃ H' d',callI defs (n+2) 21 [.loc w,zU g as] H=.ok .non H'/\St H0 H' w d' l s r m c bd kvs (u+1) (.tup [body,.non]) .non (knD (ps.zip vs).reverse) (⟨d,ts,ns,kn⟩::fr):=by
 obtain ⟨X1,T,q1,g1⟩:=yh (n:=n) q hl hs
 have lw:=zN q.hw
 have ll:=zN q.hl
 have q2:=q1.turned (u+1)
 have tk:=z2s (n:=n) q1 hu
 generalize hX:X1.set w (wk (.loc m) (.loc c) (.int bd) d l s r (u+1) .non)=X2 at q2 tk
 have g2:X2[H.length+1]?=some (.lst (vs.map .int)):=by rw [<- hX];exact zv (by omega) g1
 have q3:=q2.under (fr':=⟨d,ts,ns,kn⟩::fr) (b:=.tup [body,.non]) (ns':=.non) (k:=knD (ps.zip vs).reverse) λ f hf=>by
  rcases Y0d.mp hf with rfl | hf
  ·exact ⟨q2.hd,Ne.symm q2.wd,q2.dl⟩
  ·exact ⟨(q2.fs f hf).1,(q2.fs f hf).2.1,(q2.fs f hf).2.2.1⟩
 refine ⟨_,_,?_,q3⟩
 rw [za (d:=w4) rfl rfl]
 have ea:(List.map (λ f:Fr=>D.loc f.at_) (List.reverse (⟨d,ts,ns,kn⟩::fr)))=fr.reverse.map (λ f=>D.loc f.at_)++[.loc d]:=by simp
 rw [ea]
 have g3:(X2.set l (.lst (fr.reverse.map (λ f=>D.loc f.at_)++[.loc d])))[H.length+1]?=some (.lst (vs.map .int)):=zv (by omega) g2
 have l3:(X2.set l (.lst (fr.reverse.map (λ f=>D.loc f.at_)++[.loc d]))).length=X2.length:=Y0n
 have hw3:(X2.set l (.lst (fr.reverse.map (λ f=>D.loc f.at_)++[.loc d])))[w]?=_:=zv q2.wl q2.hw
 have A:=append_at (cl:=callI defs (n+1)) (ρ:=[some (.loc w),some (zU g as),some (.loc d),some (.loc (H.length+1)),some (it x (.tup (ps.map .str)) body),some blN]) (X:=X2) (oe:=.fld (.var 0 ⟨0,0,0,0⟩) "left" ⟨0,0,0,0⟩) (ae:=.var 2 ⟨0,0,0,0⟩) (p1:=⟨0,0,0,0⟩) (p:=⟨0,0,0,0⟩) (v:=.loc d) (bnd rfl (zn q2.hw rfl)) q2.hl rfl q2.hl (by simpa using hf)
 generalize hX3:X2.set l (.lst (fr.reverse.map (λ f=>D.loc f.at_)++[.loc d]))=X3 at g3 l3 hw3 A
 have Dd:callI defs (n+1) 41 [.loc X3.length,body,knD (ps.zip vs).reverse,blN,.non] (X3++[.obj "Doing" []])=.ok .non (X3++[dg blN (.tup [body,.non]) .non (knD (ps.zip vs).reverse)]):=GX
 refine zZ (ze (bnd rfl (zn q.hw rfl)) (ze (bnd rfl (bnd (bnd (bnd (bnd rfl (bnd rfl rfl)) rfl) rfl) T)) (jc (bnd (bnd rfl (bnd rfl tk)) rfl) (ze (bnd (bnd rfl (zn q2.hw rfl)) (bnd (bnd (bnd rfl (bnd rfl rfl)) (bnd (bnd (bnd rfl (zn q2.hd rfl)) rfl) (V6 hg))) (Jj q2.hm hv))) (ze (jv (bnd rfl (bnd rfl rfl)) (bnd (bnd rfl (bnd rfl rfl)) (bnd (bnd (bnd rfl (zn q2.hd rfl)) rfl) V7))) (yy (d:=.non) (h':=X3) A
  (zw (z:=.loc X3.length) (vmk.trans (bnd (bnd rfl (bnd rfl rfl)) (bnd (bnd (bnd (bnd rfl (bnd rfl rfl)) (bnd (bnd rfl rfl) (Qf g3))) (bnd (bnd rfl (bnd (bnd rfl rfl) rfl)) rfl)) (by rw [Dd];rfl)))) rfl ((jx (zj hw3) (by simp) rfl).trans (by rw [l3];rfl)) rfl)))) rfl)))
end
end K43
namespace K43
open PySem L2 PI
section
variable {n:Nat}{H0 H:Hh}{w d l s r m c:Nat}{bd:Int}{kvs:List (Key×D)}{u:Int}{ts ns kn ts' ns' kn' e v:D}{fr:List Fr}{J:Hh}{f:Fr}{x y:Option D}
theorem St.fin0 (q:St H0 H w d l s r m c bd kvs u ts ns kn fr):Fin H0 (H.set w (wk (.loc m) (.loc c) (.int bd) d l s r u e)) w r u e :=
 ⟨⟨_,_,_,_,_,_,Y0r (zN q.hw)⟩,zv (Ne.symm q.wr) q.hr,λ i o ho=>zv (by have:=zN ho;have:=q.bw;omega) (q.old i o ho)⟩
theorem WF {g:Str}{vs:List Int}{as:List D}(q:St H0 H w d l s r m c bd kvs u ts (jG ns (vs.map .int).reverse) kn fr)(hl:as.length=vs.length)(hs:vs.length<1000)(hu:¬ u<bd) :
  ∃ H',callI defs (n+2) 21 [.loc w,zU g as] H=.ok .non H'/\Fin H0 H' w r u (.tup [.str "spent"]):=by
 obtain ⟨X1,T,q1,g1⟩:=yh (n:=n) q hl hs
 refine ⟨_,?_,q1.fin0⟩
 rw [za (d:=w4) rfl rfl]
 exact zZ (ze (bnd rfl (zn q.hw rfl)) (ze (bnd rfl (bnd (bnd (bnd (bnd rfl (bnd rfl rfl)) rfl) rfl) T)) (zi (bnd (bnd rfl (bnd rfl (BB q1 hu))) rfl) rfl)))
theorem Qi (q:St H0 H w d l s r m c bd kvs u ts ns kn fr):callI defs (n+1) 23 [.loc d] H=.ok (.bl false) H:=by
 have A:=BA (n:=n) (bl:=blN) (ts:=ts) (ns:=ns) (kn:=kn) (J:=[]) (zN q.hd)
 rw [q.self] at A
 exact A
theorem O0 {i:Nat}(g:H[i]?=some (dg blN ts ns kn)):callI defs (n+2) 10 [.loc i] H=.ok (.loc H.length) (H++[dg blN ts ns kn]):=by
 rw [za (d:=jS) rfl rfl]
 have Dd:callI defs (n+1) 41 [.loc H.length,.non,kn,blN,.non] (H++[.obj "Doing" []])=.ok .non (H++[dg blN (.tup [.non,.non]) .non kn]):=GX
 exact zg (ze (d:=.loc H.length) (h':=H++[dg blN (.tup [.non,.non]) .non kn]) (vmk.trans (bnd rfl (bnd (bnd (bnd rfl (zn g rfl)) (bnd (bnd (bnd rfl (zn g rfl)) (bnd (bnd (bnd rfl (zn g rfl)) (bnd rfl rfl)) rfl)) rfl)) (by rw [Dd];rfl))))
  (zw (bnd rfl (zn (zj g) rfl)) rfl (jo (R:=[]) (Y0i rfl) rfl) (zw (bnd rfl (zn (zj g) rfl)) rfl (jo (R:=[]) (Y0i rfl) rfl) (zw (bnd rfl (zn (zj g) rfl)) rfl (jo (R:=[]) (Y0i rfl) rfl) (zo rfl)))))
theorem z0b {m:Nat}{xs:List D}(g:H[m]?=some (.lst xs)):Y4 false (.loc m) H=.ok (.bl xs.isEmpty) H:=by
 show (match PI.rd H m with | some xs=>Res.ok (D.bl (ngB false xs.isEmpty)) H | none=>.no)=_
 rw [rdl g];rfl
theorem z2t {cl:Nat->List D->Hh->Res D}{ρ:En}{X:Hh}{n:Nat}{xs:List D}{oe:E}{v:D}{p1 p:Pos}(ho:oe.ev cl ρ H=.ok (.loc n) X)(g:X[n]?=some (.lst (xs++[v]))):E.ev cl (.m0 .pop oe p1 p) ρ H=.ok v (X.set n (.lst xs)):=by
 rw [vm0]
 refine bnd ho ?_
 simp [m0D,g]
theorem z4m {m:Nat}{xs:List D}{v:D}(g:H[m]?=some (.lst (xs++[v]))):Y4 false (.loc m) H=.ok (.bl false) H:=(z0b g).trans (by simp)
theorem z4n {i:Nat}(g:H[i]?=some (dg blN ts ns kn)):(match B3 "Standing" ["Walk","Doing","Standing"] (.loc i) H with | some b=>Res.ok (D.bl b) H | none=>.no)=.ok (.bl false) H:=by
 have e:B3 "Standing" ["Walk","Doing","Standing"] (.loc i) H=some false:=by
  show (match H[i]? with | some (.obj y _)=>if y∈(["Walk","Doing","Standing"]:List Str) then some (decide (y="Standing")) else none | _=>none)=_
  rw [g]
  show (if ("Doing":Str)∈(["Walk","Doing","Standing"]:List Str) then some (decide (("Doing":Str)="Standing")) else none)=_
  decide +kernel
 rw [e]
theorem WG (q:St H0 H w d l s r m c bd kvs u ts (.tup [v,ns]) kn (f::fr)):∃ H' d',callI defs (n+3) 22 [.loc w] H=.ok .non H'/\St H0 H' w d' l s r m c bd kvs u f.ts (.tup [v,f.ns]) f.kn fr:=by
 have hl:H[l]?=some (.lst (fr.reverse.map (λ f=>D.loc f.at_)++[.loc f.at_])):=by rw [q.hl];simp
 obtain ⟨gf,f1,f2,f3⟩:=q.fs f Y0b
 have q3:=q.under (fr':=fr) (b:=f.ts) (ns':=f.ns) (k:=f.kn) λ x hx=>⟨(q.fs x (Y04 _ hx)).1,(q.fs x (Y04 _ hx)).2.1,(q.fs x (Y04 _ hx)).2.2.1⟩
 refine ⟨_,_,?_,q3.M (J:=[]) (ts':=f.ts) (ns':=.tup [v,f.ns]) (kn':=f.kn)⟩
 have P:=Ub (n:=n+1) (bl:=blN) (ts:=f.ts) (ns:=f.ns) (kn:=f.kn) (J:=[]) (v:=v) (zN q3.hd)
 rw [q3.self] at P
 have g1:(H.set l (.lst (fr.reverse.map λ f=>.loc f.at_)))[f.at_]?=_:=zv f2 gf
 have gw:(H.set l (.lst (fr.reverse.map λ f=>.loc f.at_)))[w]?=_:=zv q.wl q.hw
 have l1:(H.set l (.lst (fr.reverse.map λ f=>.loc f.at_))).length=H.length:=Y0n
 have S:qh (.loc w) "doing" (.loc (H.set l (.lst (fr.reverse.map λ f=>.loc f.at_))).length) (H.set l (.lst (fr.reverse.map λ f=>.loc f.at_))++[dg blN f.ts f.ns f.kn])=_:=jx (zj gw) (by simp) rfl
 rw [l1] at S
 rw [za (d:=Zb) rfl rfl]
 exact zZ (ze (bnd (bnd (bnd rfl (zn q.hw rfl)) (zn q.hd rfl)) (bnd rfl rfl)) (zi (bnd (bnd (bnd rfl (zn q.hw rfl)) (bnd rfl (Qi q))) rfl) (zi (bnd (bnd (bnd rfl (zn q.hw rfl)) (z4m hl)) rfl) (ze (z2t (bnd rfl (zn q.hw rfl)) hl)
  (zM (bnd (bnd rfl (z4n g1)) rfl) (zw (bnd rfl (bnd rfl (O0 g1))) rfl (by rw [l1];exact S) (yy (bnd (bnd rfl (zn q3.hw rfl)) (bnd rfl P)) rfl)) rfl)))))
theorem WH (q:St H0 H w d l s r m c bd kvs u ts (.tup [v,ns]) kn []):∃ H',callI defs (n+3) 22 [.loc w] H=.ok .non H'/\Fin H0 H' w r u (.tup [.str "done",v]):=by
 refine ⟨_,?_,q.fin0⟩
 rw [za (d:=Zb) rfl rfl]
 exact zg (ze (bnd (bnd (bnd rfl (zn q.hw rfl)) (zn q.hd rfl)) (bnd rfl rfl)) (zi (bnd (bnd (bnd rfl (zn q.hw rfl)) (bnd rfl (Qi q))) rfl) (jb (bnd (bnd (bnd rfl (zn q.hw rfl)) (z0b q.hl)) rfl) (zw (jv rfl rfl) rfl (jx q.hw (by simp) rfl) rfl))))
theorem qK {tk:D}{h2:Hh}(q:St H0 H w d l s r m c bd kvs u (.tup [tk,ts]) ns kn fr)(c:callI defs (n+3) 13 [.loc w,tk] (M H d blN ts ns kn [])=.ok .non h2):Lp n [some (.loc w),x,y] H=Lp n [some (.loc w),some (.loc d),some tk] h2:=by
 have:=turn (x:=x) (y:=y) q.at c
 rw [q.self] at this
 exact this
theorem ZY {h2:Hh}(q:St H0 H w d l s r m c bd kvs u .non ns kn fr)(c:callI defs (n+3) 22 [.loc w] H=.ok .non h2):Lp n [some (.loc w),x,y] H=Lp n [some (.loc w),some (.loc d),y] h2 :=
 jy (zf (bnd rfl (zn q.hw rfl)) rfl rfl) (ze (bnd rfl (zn q.hw rfl)) (jc (zf (bnd rfl (zn q.hd rfl)) rfl rfl) (yy (bnd rfl (bnd rfl c)) rfl) rfl))
theorem Yq {z:List D}(q:Fin H0 H w r u (.tup z)):Lp n [some (.loc w),x,y] H=.nx [some (.loc w),x,y] H:=by
 obtain ⟨_,_,_,_,_,_,g⟩:=q.hw
 exact jO (zf (bnd rfl (zn g rfl)) rfl rfl)
end
end K43
namespace K43
open PySem L2 PI
noncomputable def yi (x:Str):D:=.tup [.str "var",.str x]
noncomputable def JW (c la:Str)(both:D):D:=.tup [.str "if",yi c,both,yi la]
noncomputable def ZZ (tn:Bool)(sg be:Str)(cd:D):D:=.tup (.str "op"::.str sg::if tn then [yi be,cd] else [cd,yi be])
noncomputable def O1 (d:Nat)(tn:Bool)(sg be:Str)(cd:D)(b:Int)(kn:List (Str×Int)):Fr:=⟨d,if tn then .tup [.tup [.str "then",ZZ tn sg be cd],.non] else .tup [yi be,.tup [.tup [.str "then",ZZ tn sg be cd],.non]],if tn then .tup [.int b,.non] else .non,knD kn⟩
noncomputable def qr (tn:Bool)(sg:Str)(v b:Int):Option Int:=if tn then zP sg b v else zP sg v b
noncomputable abbrev wt:D:=.tup [.str "great"]
noncomputable abbrev wu:D:=.tup [.str "spent"]
section
variable {n:Nat}{H0 H:Hh}{w d l s r m c:Nat}{bd:Int}{kvs:List (Key×D)}{u:Int}{ts ns:D}{kn:List (Str×Int)}{fr:List Fr}{S:List Str}
theorem Ue {x:Str}{v:Int}(q:St H0 H w d l s r m c bd kvs u (.tup [yi x,ts]) ns (knD kn) fr)(k:KnOk S kn)(hx:x∈S)(hv:kn.lookup x=some v)(a b:Option D) :
  ∃ a' b' H',Lp n [some (.loc w),a,b] H=Lp n [some (.loc w),a',b'] H'/\St H0 H' w d l s r m c bd kvs u ts (.tup [.int v,ns]) (knD kn) fr :=
 ⟨_,_,_,qK q (ZW q.at (k.sok x hx) k.key hv),q.M⟩
theorem z4o {cn la:Str}{both:D}{v:Int}(q:St H0 H w d l s r m c bd kvs u (.tup [JW cn la both,ts]) ns (knD kn) fr)(k:KnOk S kn)(hx:cn∈S)(hv:kn.lookup cn=some v)(a b:Option D) :
  ∃ a' b' H',Lp n [some (.loc w),a,b] H=Lp n [some (.loc w),a',b'] H'/\St H0 H' w d l s r m c bd kvs u (.tup [if v=0 then yi la else both,ts]) ns (knD kn) fr:=by
 have e1:=qK (x:=a) (y:=b) q (V4 (n:=n) q.at)
 have q1:=q.M (J:=[]) (ts':=.tup [yi cn,.tup [.tup [.str "then",.tup [.str "if",yi cn,both,yi la]],ts]]) (ns':=ns) (kn':=knD kn)
 obtain ⟨a2,b2,H2,e2,q2⟩:=Ue (n:=n) q1 k hx hv (some (.loc d)) (some (JW cn la both))
 exact ⟨_,_,_,e1.trans (e2.trans (qK q2 (zT q2.at z4k (V5 q2.at)))),q2.M⟩
theorem z4p {sg:Str}{a' b':D}{v1 v2 v:Int} (q:St H0 H w d l s r m c bd kvs u (.tup [.tup [.str "then",.tup [.str "op",.str sg,a',b']],ts]) (.tup [.int v2,.tup [.int v1,ns]]) (knD kn) fr) (hs:Sg sg) (h1:Sm v1) (h2:Sm v2) (hv:zP sg v1 v2=some v) (a b:Option D) :
  ∃ a' b' H',Lp n [some (.loc w),a,b] H=Lp n [some (.loc w),a',b'] H'/\St H0 H' w d l s r m c bd kvs u ts (.tup [.int v,ns]) (knD kn) fr :=
 ⟨_,_,_,qK q (zT q.at Uc (JS q.at hs h1 h2 hv)),q.M⟩
theorem Uf {sg:Str}{a' b':D}{v1 v2:Int} (q:St H0 H w d l s r m c bd kvs u (.tup [.tup [.str "then",.tup [.str "op",.str sg,a',b']],ts]) (.tup [.int v2,.tup [.int v1,ns]]) (knD kn) fr) (hs:Sg sg) (h1:Sm v1) (h2:Sm v2) (hv:zP sg v1 v2=none) (a b:Option D) :
  ∃ a' b' H',Lp n [some (.loc w),a,b] H=.nx [some (.loc w),a',b'] H'/\Fin H0 H' w r u wt :=
 have F:=q.fin (e:=.tup [.str "great"]) (J:=[]++[O.lst [D.int v2,D.int v1],O.lst [D.int v1,D.int v2]]) (ts':=ts) (ns':=ns) (kn':=knD kn)
 ⟨_,_,_,(qK q (zT q.at Uc (yg q.at hs h1 h2 hv))).trans (Yq F),F⟩
theorem Ug:fnOf qP (.str "call")=some 21:=by rfl
theorem z2u {g x:Str}{as:List T}{ps:List Str}{body:D}(q:St H0 H w d l s r m c bd kvs u (.tup [zU g (as.map T.d),ts]) ns (knD kn) fr)(k:KnOk S kn)(ha:∀ t∈as,t.ok S)(hs:as.length<1000)(hf:fr.length<1000000)(hg:PyData.strOk g=true)(hv:jf kvs (.inr g)=some (it x (.tup (ps.map .str)) body))(a b:Option D) :
  (∀ vs,vals as kn=some vs->u<bd->∃ a' b' H' d',Lp n [some (.loc w),a,b] H=Lp n [some (.loc w),a',b'] H'/\St H0 H' w d' l s r m c bd kvs (u+1) (.tup [body,.non]) .non (knD (ps.zip vs).reverse) (⟨d,ts,ns,knD kn⟩::fr)) /\
  (∀ vs,vals as kn=some vs->¬ u<bd->∃ a' b' H',Lp n [some (.loc w),a,b] H=.nx [some (.loc w),a',b'] H'/\Fin H0 H' w r u wu) /\
  (vals as kn=none->∃ a' b' H',Lp n [some (.loc w),a,b] H=.nx [some (.loc w),a',b'] H'/\Fin H0 H' w r u wt):=by
 have e1:=qK (x:=a) (y:=b) q (Qg (n:=n) q.at)
 have A:=GZ (n:=n) (bl:=blN) q.at k as (.tup [.tup [.str "then",zU g (as.map T.d)],ts]) ns [] (some (.loc d)) (some (zU g (as.map T.d))) ha
 have len:∀ vs,vals as kn=some vs->as.length=vs.length:=by
  have:∀ (l:List T) vs,vals l kn=some vs->l.length=vs.length:=by
   intro l
   induction l with
   | nil=>intro vs e;cases e;rfl
   | cons t r ih =>
    intro vs e
    have e:((val t kn).bind λ v=>(vals r kn).bind λ vs=>some (v::vs))=some vs:=e
    cases e1:val t kn with
    | none=>rw [e1] at e;cases e
    | some v =>
     cases e2:vals r kn with
     | none=>rw [e1,e2] at e;cases e
     | some us=>rw [e1,e2] at e;cases e;rw [Y06,Y06,ih us e2]
  exact this as
 refine ⟨λ vs hvs hu=>?_,λ vs hvs hu=>?_,λ hn=>?_⟩
 ·obtain ⟨x',y',J',e2⟩:=A.1 vs hvs
  have q2:=q.M (J:=[]++J') (ts':=.tup [.tup [.str "then",zU g (as.map T.d)],ts]) (ns':=jG ns (vs.reverse.map .int)) (kn':=knD kn)
  have q3:=q2.M (J:=[]) (ts':=ts) (ns':=jG ns (vs.map .int).reverse) (kn':=knD kn)
  obtain ⟨H',d',e4,q4⟩:=Qh (n:=n) (as:=as.map T.d) q3 (by rw [Y0j];exact len vs hvs) (by rw [<- len vs hvs];exact hs) hf hg hv hu
  rw [<- Y3l] at e4
  exact ⟨_,_,H',d',e1.trans (e2.trans (qK q2 (zT q2.at Ug e4))),q4⟩
 ·obtain ⟨x',y',J',e2⟩:=A.1 vs hvs
  have q2:=q.M (J:=[]++J') (ts':=.tup [.tup [.str "then",zU g (as.map T.d)],ts]) (ns':=jG ns (vs.reverse.map .int)) (kn':=knD kn)
  have q3:=q2.M (J:=[]) (ts':=ts) (ns':=jG ns (vs.map .int).reverse) (kn':=knD kn)
  obtain ⟨H',e4,q4⟩:=WF (n:=n) (g:=g) (as:=as.map T.d) q3 (by rw [Y0j];exact len vs hvs) (by rw [<- len vs hvs];exact hs) hu
  rw [<- Y3l] at e4
  exact ⟨_,_,H',e1.trans (e2.trans ((qK q2 (zT q2.at Ug e4)).trans (Yq q4))),q4⟩
 ·obtain ⟨x',y',t',n',k',J',e2⟩:=A.2 hn
  exact ⟨_,_,_,e1.trans e2,q.fin⟩
theorem z2v {cn la sg be g x:Str}{tn:Bool}{as:List T}{ps:List Str}{body:D}{v bv:Int}(q:St H0 H w d l s r m c bd kvs u (.tup [JW cn la (ZZ tn sg be (zU g (as.map T.d))),.non]) .non (knD kn) fr)(k:KnOk S kn)(hc:cn∈S)(hcv:kn.lookup cn=some v)(hv0:v≠0)(hb:be∈S)(hbv:kn.lookup be=some bv)
  (ha:∀ t∈as,t.ok S) (hs:as.length<1000) (hf:fr.length<1000000) (hg:PyData.strOk g=true) (hv:jf kvs (.inr g)=some (it x (.tup (ps.map .str)) body)) (a b:Option D) :
  (∀ vs,vals as kn=some vs->u<bd->∃ a' b' H' d',Lp n [some (.loc w),a,b] H=Lp n [some (.loc w),a',b'] H'/\St H0 H' w d' l s r m c bd kvs (u+1) (.tup [body,.non]) .non (knD (ps.zip vs).reverse) (O1 d tn sg be (zU g (as.map T.d)) bv kn::fr)) /\
  (∀ vs,vals as kn=some vs->¬ u<bd->∃ a' b' H',Lp n [some (.loc w),a,b] H=.nx [some (.loc w),a',b'] H'/\Fin H0 H' w r u wu) /\
  (vals as kn=none->∃ a' b' H',Lp n [some (.loc w),a,b] H=.nx [some (.loc w),a',b'] H'/\Fin H0 H' w r u wt):=by
 obtain ⟨a1,b1,H1,e1,q1⟩:=z4o (n:=n) q k hc hcv a b
 rw [if_neg hv0] at q1
 have key:∃ a2 b2 H2,Lp n [some (.loc w),a1,b1] H1=Lp n [some (.loc w),a2,b2] H2/\St H0 H2 w d l s r m c bd kvs u (.tup [zU g (as.map T.d),(O1 d tn sg be (zU g (as.map T.d)) bv kn).ts]) (O1 d tn sg be (zU g (as.map T.d)) bv kn).ns (knD kn) fr:=by
  cases tn with
  | true =>
   have e2:=qK (x:=a1) (y:=b1) q1 (yF (n:=n) q1.at)
   have q2:=q1.M (J:=[]) (ts':=.tup [yi be,.tup [zU g (as.map T.d),.tup [.tup [.str "then",ZZ true sg be (zU g (as.map T.d))],.non]]]) (ns':=.non) (kn':=knD kn)
   obtain ⟨a3,b3,H3,e3,q3⟩:=Ue (n:=n) q2 k hb hbv (some (.loc d)) (some (ZZ true sg be (zU g (as.map T.d))))
   exact ⟨a3,b3,H3,e2.trans e3,q3⟩
  | false=>exact ⟨_,_,_,qK (x:=a1) (y:=b1) q1 (yF (n:=n) q1.at),q1.M⟩
 obtain ⟨a2,b2,H2,e2,q2⟩:=key
 obtain ⟨A,B,C⟩:=z2u (n:=n) q2 k ha hs hf hg hv a2 b2
 refine ⟨λ vs h1 h2=>?_,λ vs h1 h2=>?_,λ h1=>?_⟩
 ·obtain ⟨a3,b3,H3,d3,e3,q3⟩:=A vs h1 h2
  exact ⟨a3,b3,H3,d3,e1.trans (e2.trans e3),q3⟩
 ·obtain ⟨a3,b3,H3,e3,q3⟩:=B vs h1 h2
  exact ⟨a3,b3,H3,e1.trans (e2.trans e3),q3⟩
 ·obtain ⟨a3,b3,H3,e3,q3⟩:=C h1
  exact ⟨a3,b3,H3,e1.trans (e2.trans e3),q3⟩
theorem z2w {cn la:Str}{both:D}{v:Int}(q:St H0 H w d l s r m c bd kvs u (.tup [JW cn la both,.non]) .non (knD kn) fr)(k:KnOk S kn)(hc:cn∈S)(hcv:kn.lookup cn=some 0)(hl:la∈S)(hlv:kn.lookup la=some v)(a b:Option D) :
  ∃ a' b' H',Lp n [some (.loc w),a,b] H=Lp n [some (.loc w),a',b'] H'/\St H0 H' w d l s r m c bd kvs u .non (.tup [.int v,.non]) (knD kn) fr:=by
 obtain ⟨a1,b1,H1,e1,q1⟩:=z4o (n:=n) q k hc hcv a b
 rw [if_pos rfl] at q1
 obtain ⟨a2,b2,H2,e2,q2⟩:=Ue (n:=n) q1 k hl hlv a1 b1
 exact ⟨a2,b2,H2,e1.trans e2,q2⟩
theorem z6j {d0:Nat}{sg be:Str}{tn:Bool}{cd kd:D}{v bv:Int}{ns:D}(q:St H0 H w d l s r m c bd kvs u .non (.tup [.int v,ns]) kd (O1 d0 tn sg be cd bv kn::fr))(k:KnOk S kn)(hs:Sg sg)(hb:be∈S)(hbv:kn.lookup be=some bv)(hv:Sm v)(a b:Option D) :
  (∀ z,qr tn sg v bv=some z->∃ a' b' H' d',Lp n [some (.loc w),a,b] H=Lp n [some (.loc w),a',b'] H'/\St H0 H' w d' l s r m c bd kvs u .non (.tup [.int z,.non]) (knD kn) fr) /\
  (qr tn sg v bv=none->∃ a' b' H',Lp n [some (.loc w),a,b] H=.nx [some (.loc w),a',b'] H'/\Fin H0 H' w r u wt):=by
 obtain ⟨H1,d1,c1,q1⟩:=WG (n:=n) q
 have e1:=ZY (n:=n) (x:=a) (y:=b) q c1
 have sb:Sm bv:=JR k.sm hbv
 cases tn with
 | true =>
  refine ⟨λ z hz=>?_,λ hz=>?_⟩
  ·obtain ⟨a2,b2,H2,e2,q2⟩:=z4p (n:=n) q1 hs sb hv hz (some (.loc d)) b
   exact ⟨a2,b2,H2,d1,e1.trans e2,q2⟩
  ·obtain ⟨a2,b2,H2,e2,q2⟩:=Uf (n:=n) q1 hs sb hv hz (some (.loc d)) b
   exact ⟨a2,b2,H2,e1.trans e2,q2⟩
 | false =>
  obtain ⟨a2,b2,H2,e2,q2⟩:=Ue (n:=n) q1 k hb hbv (some (.loc d)) b
  refine ⟨λ z hz=>?_,λ hz=>?_⟩
  ·obtain ⟨a3,b3,H3,e3,q3⟩:=z4p (n:=n) q2 hs hv sb hz a2 b2
   exact ⟨a3,b3,H3,d1,e1.trans (e2.trans e3),q3⟩
  ·obtain ⟨a3,b3,H3,e3,q3⟩:=Uf (n:=n) q2 hs hv sb hz a2 b2
   exact ⟨a3,b3,H3,e1.trans (e2.trans e3),q3⟩
theorem z2x {kd ns:D}{v:Int}(q:St H0 H w d l s r m c bd kvs u .non (.tup [.int v,ns]) kd [])(a b:Option D):∃ a' b' H',Lp n [some (.loc w),a,b] H=.nx [some (.loc w),a',b'] H'/\Fin H0 H' w r u (.tup [.str "done",.int v]):=by
 obtain ⟨H1,c1,F⟩:=WH (n:=n) q
 exact ⟨_,_,_,(ZY (n:=n) (x:=a) (y:=b) q c1).trans (Yq F),F⟩
end
end K43
namespace K43
open PySem L2 PI
structure Pl where
 ps:List Str
 co:Nat
 be:Nat
 la:Nat
 sg:Str
 tn:Bool
noncomputable def pA (p:Pl)(i:Nat):Str:=p.ps.getD i ""
noncomputable def knO (p:Pl)(nums:List Int):List (Str×Int):=(p.ps.zip nums).reverse
noncomputable def cdO (g:Str)(as:List T):D:=zU g (as.map T.d)
noncomputable def bdO (p:Pl)(g:Str)(as:List T):D:=JW (pA p p.co) (pA p p.la) (ZZ p.tn p.sg (pA p p.be) (cdO g as))
structure Pl.ok (p:Pl):Prop where
 nd:p.ps.Nodup
 so:∀ x∈p.ps,PyData.strOk x=true
 co:p.co<p.ps.length
 be:p.be<p.ps.length
 la:p.la<p.ps.length
 sg:Sg p.sg
 le:p.ps.length<=8
theorem qt {p:Pl}{i:Nat}(h:i<p.ps.length):pA p i∈p.ps:=by
 unfold pA
 rw [Y05,Y02 h]
 exact Y2f h
theorem O2:∀ (ps:List Str) (nums:List Int) (i:Nat) (x:Str) (v:Int),ps.Nodup->ps[i]?=some x->nums[i]?=some v->(ps.zip nums).lookup x=some v
 | [],nums,i,x,v,nd,h1,h2=>by simp at h1
 | p::ps,[],i,x,v,nd,h1,h2=>by simp at h2
 | p::ps,n::nums,0,x,v,nd,h1,h2=>by
  cases h1;cases h2
  simp [List.lookup]
 | p::ps,n::nums,i+1,x,v,nd,h1,h2=>by
  have nd:=Y1j.mp nd
  have hx:x∈ps:=Y12 h1
  have ne:(x==p)=false:=beq_eq_false_iff_ne.mpr λ e=>nd.1 (e▸hx)
  rw [Y3a,List.lookup,ne]
  exact O2 ps nums i x v nd.2 h1 h2
theorem Yr {x:Str}{v:Int}:∀ {kn:List (Str×Int)},kn.lookup x=some v->(x,v)∈kn
 | [],e=>by cases e
 | (y,u)::r,e=>by
  rw [List.lookup] at e
  cases c:x==y with
  | true=>rw [c] at e;cases e;rw [eq_of_beq c];exact Y0b
  | false=>rw [c] at e;exact Y04 _ (Yr e)
theorem z0c {x:Str}:∀ {kn:List (Str×Int)}{v:Int},(x,v)∈kn->∃ u,kn.lookup x=some u
 | [],v,h=>by cases h
 | (y,u)::r,v,h=>by
  rw [List.lookup]
  cases c:x==y with
  | true=>exact ⟨u,rfl⟩
  | false =>
   rcases Y0d.mp h with h | h
   ·cases h;rw [beq_self_eq_true] at c;cases c
   ·exact z0c h
theorem z2y {x:Str}{v:Int}{kn:List (Str×Int)}(nd:(kn.map (·.1)).Nodup)(e:kn.lookup x=some v):kn.reverse.lookup x=some v:=by
 obtain ⟨u,h⟩:=z0c (Y2t.mpr (Yr e))
 have m:=Y2t.mp (Yr h)
 have uq:∀ (l:List (Str×Int)),(l.map (·.1)).Nodup->l.lookup x=some v->(x,u)∈l->u=v:=by
  intro l
  induction l with
  | nil=>intro _ e;cases e
  | cons p r ih =>
   obtain ⟨y,z⟩:=p
   intro nd e hm
   rw [Y0h] at nd
   have nd:=Y1j.mp nd
   rw [List.lookup] at e
   cases c:x==y with
   | true =>
    rw [c] at e
    cases e
    rcases Y0d.mp hm with h | h
    ·cases h;rfl
    ·exact absurd (Y0v.mpr ⟨_,h,rfl⟩) (eq_of_beq c▸nd.1)
   | false =>
    rw [c] at e
    rcases Y0d.mp hm with h | h
    ·cases h;rw [beq_self_eq_true] at c;cases c
    ·exact ih nd.2 e h
 rw [h,uq kn nd e m]
theorem Qj:∀ (ps:List Str) (nums:List Int),nums.length=ps.length->(ps.zip nums).map (·.1)=ps
 | [],_,_=>by simp
 | p::ps,[],h=>by simp at h
 | p::ps,n::nums,h=>by rw [Y3a,Y0h,Qj ps nums (by simpa using h)]
structure NumOk (p:Pl)(nums:List Int):Prop where
 ln:nums.length=p.ps.length
 sm:∀ v∈nums,Sm v
theorem qL {p:Pl}{nums:List Int}{i:Nat}(o:p.ok)(k:NumOk p nums)(h:i<p.ps.length):(knO p nums).lookup (pA p i)=some (nums.getD i 0):=by
 have hi:i<nums.length:=by rw [k.ln];exact h
 refine z2y (by rw [Qj _ _ k.ln];exact o.nd) (O2 p.ps nums i _ _ o.nd ?_ ?_)
 ·unfold pA
  rw [Y05,Y02 h];rfl
 ·rw [Y05,Y02 hi];rfl
theorem Qk {p:Pl}{nums:List Int}(o:p.ok)(k:NumOk p nums):KnOk p.ps (knO p nums):=by
 refine ⟨λ x hx=>?_,o.so,λ q hq=>?_,λ q hq=>?_⟩
 ·obtain ⟨i,hi,e⟩:=List.getElem_of_mem hx
  have:=qL (i:=i) o k hi
  unfold pA at this
  rw [Y05,Y02 hi] at this
  exact ⟨_,by rw [<- e];exact this⟩
 ·exact o.so _ (Y2a (Y2t.mp hq)).1
 ·exact k.sm _ (Y2a (Y2t.mp hq)).2
theorem WI {S:List Str}{kn:List (Str×Int)}(k:KnOk S kn):∀ (as:List T) (vs:List Int),(∀ t∈as,t.ok S)->vals as kn=some vs->vs.length=as.length/\(∀ v∈vs,Sm v)/\∀ (i:Nat) (t:T),as[i]?=some t->∃ v,vs[i]?=some v/\val t kn=some v
 | [],vs,o,e=>by cases e;exact ⟨rfl,λ _ h=>(nomatch h),λ i t h=>by simp at h⟩
 | t::r,vs,o,e=>by
  have e:((val t kn).bind λ v=>(vals r kn).bind λ vs=>some (v::vs))=some vs:=e
  cases e1:val t kn with
  | none=>rw [e1] at e;cases e
  | some v =>
   cases e2:vals r kn with
   | none=>rw [e1,e2] at e;cases e
   | some us =>
    rw [e1,e2] at e;cases e
    obtain ⟨a,b,c⟩:=WI k r us (λ t h=>o t (Y04 _ h)) e2
    refine ⟨by rw [Y06,Y06,a],λ z hz=>?_,λ i t' ht=>?_⟩
    ·rcases Y0d.mp hz with rfl | hz
     ·exact Yj t S kn _ (o t Y0b) k e1
     ·exact b z hz
    ·cases i with
     | zero=>cases ht;exact ⟨v,rfl,e1⟩
     | succ i=>exact c i t' ht
structure Ring (P:Nat->Pl)(A:Nat->List T)(nm:Nat->Str)(nx:Nat->Nat)(ok:Nat->Prop)(kvs:List (Key×D)):Prop where
 st:∀ k,ok k->ok (nx k)
 pl:∀ k,ok k->(P k).ok
 ln:∀ k,ok k->(A k).length=(P (nx k)).ps.length
 ao:∀ k,ok k->∀ t∈A k,t.ok (P k).ps
 ct:∀ k,ok k->(A k)[(P (nx k)).co]?=some (.op "-" (.var (pA (P k) (P k).co)) (.num 1))
 so:∀ k,ok k->PyData.strOk (nm k)=true
 fn:∀ k,ok k->jf kvs (.inr (nm k))=some (it (nm k) (.tup ((P k).ps.map .str)) (bdO (P k) (nm (nx k)) (A k)))
section
variable (P:Nat->Pl)(A:Nat->List T)(nx:Nat->Nat)
noncomputable def qw:List (Nat×List Int)->Int->Option Int
 | [],v=>some v
 | (k,nums)::cs,v=>(qr (P k).tn (P k).sg v (nums.getD (P k).be 0)).bind λ z=>qw cs z
noncomputable def BC:Option Int->D
 | some v=>.tup [.str "done",.int v]
 | none=>wt
noncomputable def jh (bd:Int):Nat->Nat->List Int->List (Nat×List Int)->D×Nat
 | 0,k,nums,cs=>(BC (qw P cs (nums.getD (P k).la 0)),cs.length)
 | c+1,k,nums,cs=>match vals (A k) (knO (P k) nums) with
  | none=>(wt,cs.length)
  | some vs=>if (cs.length:Int)<bd then jh bd c (nx k) vs ((k,nums)::cs) else (wu,cs.length)
end
inductive Frs (P:Nat->Pl)(A:Nat->List T)(nm:Nat->Str)(nx:Nat->Nat)(ok:Nat->Prop):List (Nat×List Int)->List Fr->Prop
 | nil:Frs P A nm nx ok [] []
 | cons {k d:Nat}{nums:List Int}{cs:List (Nat×List Int)}{fr:List Fr} (o:ok k) (q:NumOk (P k) nums) (r:Frs P A nm nx ok cs fr) :
  Frs P A nm nx ok ((k,nums)::cs) (O1 d (P k).tn (P k).sg (pA (P k) (P k).be) (cdO (nm (nx k)) (A k)) (nums.getD (P k).be 0) (knO (P k) nums)::fr)
theorem Frs.len {P:Nat->Pl}{A:Nat->List T}{nm:Nat->Str}{nx:Nat->Nat}{ok:Nat->Prop}{cs:List (Nat×List Int)}{fr:List Fr}(h:Frs P A nm nx ok cs fr):fr.length=cs.length:=by
 induction h with
 | nil=>rfl
 | cons _ _ _ ih=>rw [Y06,Y06,ih]
theorem Ql {tn:Bool}{sg:Str}{a b v:Int}(h:qr tn sg a b=some v):Sm v:=by
 unfold qr at h
 split at h
 ·exact WC h
 ·exact WC h
theorem Zf {nums:List Int}{i:Nat}(h:∀ v∈nums,Sm v):Sm (nums.getD i 0):=by
 rw [Y05]
 cases e:nums[i]? with
 | none=>unfold Sm;decide
 | some v=>exact h v (Y12 e)
section
variable {P:Nat->Pl}{A:Nat->List T}{nm:Nat->Str}{nx:Nat->Nat}{ok:Nat->Prop}{kvs:List (Key×D)}{n:Nat}{H0:Hh}{w l s r m c:Nat}{bd u:Int}
theorem O3 (R:Ring P A nm nx ok kvs):∀ {cs:List (Nat×List Int)}{fr:List Fr}{H:Hh}{d:Nat}{v:Int}{ns kd:D} (a b:Option D),Frs P A nm nx ok cs fr->St H0 H w d l s r m c bd kvs u .non (.tup [.int v,ns]) kd fr->Sm v ->
  ∃ a' b' H',Lp n [some (.loc w),a,b] H=.nx [some (.loc w),a',b'] H'/\Fin H0 H' w r u (BC (qw P cs v))
 | [],_,H,d,v,ns,kd,a,b,.nil,q,hv=>z2x q a b
 | _,_,H,d,v,ns,kd,a,b,@Frs.cons _ _ _ _ _ k d0 nums cs fr o p r,q,hv=>by
  have po:=R.pl k o
  obtain ⟨U,V⟩:=z6j (n:=n) q (Qk po p) po.sg (qt po.be) (qL po p po.be) hv a b
  have eb:qw P ((k,nums)::cs) v=(qr (P k).tn (P k).sg v (nums.getD (P k).be 0)).bind λ z=>qw P cs z:=rfl
  cases e:qr (P k).tn (P k).sg v (nums.getD (P k).be 0) with
  | none=>rw [eb,e];exact V e
  | some z =>
   obtain ⟨a1,b1,H1,d1,e1,q1⟩:=U z e
   obtain ⟨a2,b2,H2,e2,F⟩:=O3 R a1 b1 r q1 (Ql e)
   rw [eb,e]
   exact ⟨a2,b2,H2,e1.trans e2,F⟩
theorem z0d (R:Ring P A nm nx ok kvs):∀ (cn:Nat) {k:Nat}{nums:List Int}{cs:List (Nat×List Int)}{fr:List Fr}{H:Hh}{d:Nat} (a b:Option D),ok k->NumOk (P k) nums->nums.getD (P k).co 0=cn->Frs P A nm nx ok cs fr->cs.length+cn<1000000 ->
  St H0 H w d l s r m c bd kvs cs.length (.tup [bdO (P k) (nm (nx k)) (A k),.non]) .non (knD (knO (P k) nums)) fr ->
  ∃ a' b' H',Lp n [some (.loc w),a,b] H=.nx [some (.loc w),a',b'] H'/\Fin H0 H' w r (jh P A nx bd cn k nums cs).2 (jh P A nx bd cn k nums cs).1
 | 0,k,nums,cs,fr,H,d,a,b,o,p,hc,f,hb,q=>by
  have po:=R.pl k o
  obtain ⟨a1,b1,H1,e1,q1⟩:=z2w (n:=n) q (Qk po p) (qt po.co) ((qL po p po.co).trans (by rw [hc];rfl)) (qt po.la) (qL po p po.la) a b
  obtain ⟨a2,b2,H2,e2,F⟩:=O3 R a1 b1 f q1 (Zf p.sm)
  exact ⟨a2,b2,H2,e1.trans e2,F⟩
 | cn+1,k,nums,cs,fr,H,d,a,b,o,p,hc,f,hb,q=>by
  have po:=R.pl k o
  have o':=R.st k o
  have po':=R.pl _ o'
  obtain ⟨X,Y,Z⟩:=z2v (n:=n) (as:=A k) q (Qk po p) (qt po.co) (qL po p po.co) (by rw [hc];omega) (qt po.be) (qL po p po.be) (R.ao k o) (by rw [R.ln k o];have:=po'.le;omega) (by rw [f.len];omega) (R.so _ o') (R.fn _ o') a b
  have ed:jh P A nx bd (cn+1) k nums cs=match vals (A k) (knO (P k) nums) with
   | none=>(wt,cs.length)
   | some vs=>if (cs.length:Int)<bd then jh P A nx bd cn (nx k) vs ((k,nums)::cs) else (wu,cs.length):=rfl
  cases e:vals (A k) (knO (P k) nums) with
  | none =>
   rw [ed,e]
   exact Z e
  | some vs =>
   rw [ed,e]
   by_cases hu:(cs.length:Int)<bd
   ·simp only [if_pos hu]
    obtain ⟨a1,b1,H1,d1,e1,q1⟩:=X vs e hu
    obtain ⟨v1,v2,v3⟩:=WI (Qk po p) (A k) vs (R.ao k o) e
    have p':NumOk (P (nx k)) vs:=⟨by rw [v1,R.ln k o],v2⟩
    obtain ⟨z,z1,z2⟩:=v3 _ _ (R.ct k o)
    have hz:vs.getD (P (nx k)).co 0=(cn:Int):=by
     rw [Y05,z1]
     have z3:((knO (P k) nums).lookup (pA (P k) (P k).co)).bind (λ v=>(some (1:Int)).bind λ u=>zP "-" v u)=some z:=z2
     rw [qL po p po.co,hc] at z3
     have z4:zP "-" ((cn+1:Nat):Int) 1=some z:=z3
     rw [show ∀ a b:Int,zP "-" a b=(if (a-b).natAbs<=1000000000000000000 then some (a-b) else none) from λ _ _=>rfl] at z4
     split at z4
     ·cases z4
      show ((cn+1:Nat):Int)-1=cn
      omega
     ·cases z4
    obtain ⟨a2,b2,H2,e2,F⟩:=z0d R cn a1 b1 o' p' hz (.cons (d:=d) o p f) (by rw [Y06];omega) (by rw [Y06];exact q1)
    exact ⟨a2,b2,H2,e1.trans e2,F⟩
   ·simp only [if_neg hu]
    exact Y vs e hu
end
end K43
namespace K43
open PySem L2 PI
theorem Ys:PyData.strOk "def"=true:=by decide +kernel
theorem z4q:PyData.strOk "handler"=true:=by decide +kernel
noncomputable def tab (qs:List (Str×D)):List (Key×D):=wJ [] (qs.map λ q=>((Sum.inr q.1:Key),q.2))
theorem V8:∀ (qs:List (Str×D)) (acc:List (Key×D)),(qs.map (·.1)).Nodup->(∀ q∈qs,(acc.any λ kv=>decide (kv.1=Sum.inr q.1))=false)->wJ acc (qs.map λ q=>((Sum.inr q.1:Key),q.2))=acc++qs.map λ q=>((Sum.inr q.1:Key),q.2):=by
 intro qs
 induction qs with
 | nil=>intro acc _ _;simp [wJ]
 | cons q r ih =>
  intro acc hn ha
  rw [Y0h,Y1j] at hn
  have e1:ZB acc (Sum.inr q.1) q.2=acc++[(Sum.inr q.1,q.2)]:=by
   unfold ZB
   rw [if_neg (by rw [ha q (Y0b ..)];decide)]
  have:=ih (acc++[(Sum.inr q.1,q.2)]) hn.2 (λ z hz=>by
   rw [List.any_append,ha z (Y04 _ hz)]
   have:q.1≠z.1:=λ e=>hn.1 (Y0v.mpr ⟨z,hz,e.symm⟩)
   simp [this])
  show wJ (ZB acc (Sum.inr q.1) q.2) (r.map λ q=>((Sum.inr q.1:Key),q.2))=_
  rw [e1,this]
  simp
theorem Qm {qs:List (Str×D)}{n:Str}{d:D}(hn:(qs.map (·.1)).Nodup)(hm:(n,d)∈qs):jf (tab qs) (Sum.inr n)=some d:=by
 unfold tab
 rw [V8 qs [] hn (by simp),Y16]
 unfold jf
 induction qs with
 | nil=>cases hm
 | cons q r ih =>
  rw [Y0h,Y1j] at hn
  rw [Y0h,Y20]
  rcases Y0d.mp hm with e | e
  ·subst e;simp
  ·have:q.1≠n:=λ z=>hn.1 (Y0v.mpr ⟨(n,d),e,z.symm⟩)
   have z:decide ((Sum.inr q.1:Key)=Sum.inr n)=false:=by simp [this]
   simp only [z]
   exact ih hn.2 e
section
variable {n:Nat}{H:Hh}{m:Nat}{f x1:Str}{p b:D}{kvs:List (Key×D)}{v:D}{qs:List (Str×D)}
theorem inK (g:H[m]?=some (.dK kvs))(e:jf kvs (.inr f)=some v):j0 .In (.str f) (.loc m) H=.ok (.bl true) H:=by
 have q:j0 .In (.str f) (.loc m) H=match H[m]? with
  | some (.lst ds)=>Z0 false (.str f) ds H
  | some (.dK kvs)=>(match wU (.str f) with | some k=>Res.ok (.bl (ngB false (jf kvs k).isSome)) H | none=>.no)
  | _=>.no:=rfl
 rw [q,g]
 show Res.ok (D.bl (ngB false (jf kvs (.inr f)).isSome)) H=_
 rw [e];rfl
theorem z4r (g:H[m]?=some (.dK kvs))(e:jf kvs (.inr f)=some (it x1 p b)):callI defs (n+1) 3 [.str f,.loc m] H=.ok (.bl true) H:=by
 rw [za (d:=wj) rfl rfl]
 exact zg (zo (ju (z08 (zf rfl rfl (inK g e)) (zf (bnd (bnd rfl (bnd rfl (Jj g e))) (bnd rfl rfl)) rfl (eqS Ys Ys)))))
theorem BD (g:H[m]?=some (.dK kvs))(e:jf kvs (.inr f)=some (it x1 p b)):callI defs (n+2) 4 [.str f,.loc m] H=.ok (it x1 p b) H:=by
 rw [za (d:=qR) rfl rfl]
 exact zg (zi (V3 (bnd (bnd (bnd rfl (bnd rfl (z4r g e))) rfl) rfl) (zf (bnd (bnd rfl (bnd rfl (Jj g e))) (bnd rfl rfl)) rfl rfl)) (zo (bnd rfl (bnd rfl (Jj g e)))))
theorem len_loc {xs:List D}(g:H[m]?=some (.lst xs)):Z2 (.loc m) H=.ok (.int xs.length) H:=by simp [Z2,rdl g]
theorem BE {xs ys:List D}(g:H[m]?=some (.lst xs))(e:xs.length=ys.length):callI defs (n+1) 5 [it x1 (.tup ys) b,.loc m] H=.ok .non H:=by
 rw [za (d:=jB) rfl rfl]
 exact zZ (zi (zf (bnd rfl (len_loc g)) (bnd (bnd rfl (bnd rfl rfl)) rfl) (neI.trans (by rw [e];simp))) rfl)
noncomputable def Itm (qs:List (Str×D)):Prop:=∀ q∈qs,∃ p b,q.2=it q.1 p b
theorem Uh {cl:Nat->List D->Hh->Res D}{a b:Option D}:∀ (qs:List (Str×D)) (c e:Option D),Itm qs->∃ c' e',jz [] (zQ jF λ ρ' h'=>b_clauses_by_deed_1.run cl ρ' h') (qs.map (·.2)) [a,b,c,e] H=.nx [a,b,c',e'] H
 | [],c,e,_=>⟨c,e,for_0⟩
 | q::r,c,e,o=>by
  obtain ⟨p,b',eq⟩:=o q Y0b
  obtain ⟨c',e',z⟩:=Uh r (some q.2) e λ x hx=>o x (Y04 _ hx)
  refine ⟨c',e',?_⟩
  rw [Y0h]
  refine jR (λ _ hp=>nomatch hp) ?_ z
  rw [eq]
  exact yD (zi (zf rfl rfl (eqS Ys z4q)) rfl)
theorem V9 (o:Itm qs):callI defs (n+1) 9 [.tup (qs.map (·.2))] H=.ok (.loc H.length) (H++[.dK []]):=by
 rw [za (d:=je) rfl rfl]
 obtain ⟨c',e',z⟩:=Uh (H:=H++[.dK []]) (cl:=callI defs n) (a:=some (.tup (qs.map (·.2)))) (b:=some (.loc H.length)) qs none none o
 exact zg (ze rfl (j7 (bnd rfl rfl) z (zo rfl)))
noncomputable def pr2:D->Option D
 | .tup (k::x::r)=>some (.tup [x,.tup (k::x::r)])
 | _=>none
theorem Qn:∀ (qs:List (Str×D)),we (qs.map λ q=>.tup [.str q.1,q.2])=some (qs.map λ q=>((Sum.inr q.1:Key),q.2))
 | []=>rfl
 | q::r=>by
  show (match YX (.tup [.str q.1,q.2]),we (r.map λ q=>.tup [.str q.1,q.2]) with | some a,some b=>some (a::b) | _,_=>none)=_
  rw [Qn r];rfl
theorem BF (o:Itm qs)(hl:qs.length<=1000000):callI defs (n+1) 2 [.tup (qs.map (·.2))] H=.ok (.loc (H.length+1)) (H++[.lst (qs.map λ q=>.tup [.str q.1,q.2]),.dK (tab qs)]):=by
 have fm:(qs.map (·.2)).filterMap pr2=qs.map λ q=>D.tup [.str q.1,q.2]:=by
  clear hl
  induction qs with
  | nil=>rfl
  | cons q r ih =>
   obtain ⟨p,b',eq⟩:=o q Y0b
   have e1:pr2 q.2=some (.tup [.str q.1,q.2]):=by rw [eq];rfl
   rw [Y0h,Y26,e1]
   show _::_=_
   rw [ih λ x hx=>o x (Y04 _ hx),Y0h]
 rw [za (d:=jA) rfl rfl]
 have C:=js (c:=[]) (f:=jk jY (qf [none] [some (.tup (qs.map (·.2)))]) (λ ρ' h2=>c_items_by_name_1.evC (callI defs n) ρ' h2) (λ ρ' h2=>e_items_by_name_1.ev (callI defs n) ρ' h2)) (h:=H) (λ _ hp=>nomatch hp) pr2 (qs.map (·.2)) [] λ x hx=>by
  obtain ⟨q,hq,rfl⟩:=Y0v.mp hx
  obtain ⟨p,b',eq⟩:=o q hq
  rw [eq]
  exact jH rfl rfl (jv rfl rfl)
 rw [fm,Y16] at C
 have g:(H++[O.lst (qs.map λ q=>.tup [.str q.1,q.2])])[H.length]?=some (.lst (qs.map λ q=>.tup [.str q.1,q.2])):=by
  rw [Y08 (Y03 _),Y0w];rfl
 refine zg (zo (vdicP.trans (bnd (jd (q:=(([]:Ck),qs.map (λ q:Str×D=>q.2))) (bnd rfl rfl) (by rw [Y0j];exact hl) C) ?_)))
 show (match PI.rd (H++[O.lst _]) H.length with
  | some xs=>if xs.length<=1000000 then (match we xs with | some kvs=>new (.dK (wJ [] kvs)) (H++[O.lst _]) | none=>.no) else .no
  | none=>.no)=_
 rw [rdl g]
 simp only [Y0j,hl,if_true,Qn]
 simp [new,tab]
theorem Yt {A:Hh}{o:List O}(i:Nat){x:O}(q:o[i]?=some x):(A++o)[A.length+i]?=some x:=by
 rw [Y08 (Y3k _ _),Y1r];exact q
theorem Va {x:Str}{names:List Str}{nums:List Int}{bd:Int}(o:Itm qs)(nd:(qs.map (·.1)).Nodup)(hq:qs.length<=1000000)(hf:(f,it x (.tup (names.map .str)) b)∈qs)(g:H[m]?=some (.lst (nums.map .int)))(hl:nums.length=names.length) :
  ∃ R,callI defs (n+3) 8 [.tup (qs.map (·.2)),.str f,.loc m,.int bd] H=.ok (.loc (H.length+3)) R/\St H R (H.length+3) (H.length+7) (H.length+4) (H.length+5) (H.length+6) (H.length+1) (H.length+2) bd (tab qs) 0 (.tup [b,.non]) .non (knD (names.zip nums).reverse) []:=by
 have e:=Qm nd hf
 have A:=BF (n:=n+1) (H:=H) o hq
 have g1:(H++[O.lst (qs.map λ q=>.tup [.str q.1,q.2]),.dK (tab qs)])[H.length+1]?=some (.dK (tab qs)):=Yt 1 rfl
 have gm:=zj (B:=[O.lst (qs.map λ q=>.tup [.str q.1,q.2]),.dK (tab qs)]) g
 have l1:(H++[O.lst (qs.map λ q=>.tup [.str q.1,q.2]),.dK (tab qs)]).length=H.length+2:=by simp
 have od:∀ (i:Nat) (o:O),H[i]?=some o->(H++[O.lst (qs.map λ q=>.tup [.str q.1,q.2]),.dK (tab qs)])[i]?=some o:=λ i o=>zj
 generalize (H++[O.lst (qs.map λ q=>.tup [.str q.1,q.2]),.dK (tab qs)])=H1 at A g1 gm l1 od
 have hC:callI defs (n+2) 9 [.tup (qs.map (·.2))] H1=.ok (.loc H1.length) (H1++[O.dK []]):=V9 o
 have B:callI defs (n+2) 40 [.loc (H1++[O.dK []]).length,.loc (H.length+1),.loc H1.length,.int bd] ((H1++[O.dK []])++[.obj "Walk" []])=_:=z4l
 have l2:(H1++[O.dK []]).length=H.length+3:=by rw [Y0u,l1];rfl
 have W0:((H1++[O.dK []])++[O.obj "Walk" [("named",.loc (H.length+1)),("clauses",.loc H1.length),("bound",.int bd),("doing",.non),("left",.loc ((H1++[O.dK []]).length+1)),("standing",.loc ((H1++[O.dK []]).length+2)),("record",.loc ((H1++[O.dK []]).length+3)),("used",.int 0),("end",.non)],.lst [],.lst [],.lst []])[(H1++[O.dK []]).length]?=_:=Yt 0 rfl
 have W1:=Yt (A:=H1++[O.dK []]) (o:=[O.obj "Walk" [("named",.loc (H.length+1)),("clauses",.loc H1.length),("bound",.int bd),("doing",.non),("left",.loc ((H1++[O.dK []]).length+1)),("standing",.loc ((H1++[O.dK []]).length+2)),("record",.loc ((H1++[O.dK []]).length+3)),("used",.int 0),("end",.non)],.lst [],.lst [],.lst []]) 1 rfl
 have W3:=Yt (A:=H1++[O.dK []]) (o:=[O.obj "Walk" [("named",.loc (H.length+1)),("clauses",.loc H1.length),("bound",.int bd),("doing",.non),("left",.loc ((H1++[O.dK []]).length+1)),("standing",.loc ((H1++[O.dK []]).length+2)),("record",.loc ((H1++[O.dK []]).length+3)),("used",.int 0),("end",.non)],.lst [],.lst [],.lst []]) 3 rfl
 have od2:∀ (i:Nat) (o:O),H1[i]?=some o->((H1++[O.dK []])++[O.obj "Walk" [("named",.loc (H.length+1)),("clauses",.loc H1.length),("bound",.int bd),("doing",.non),("left",.loc ((H1++[O.dK []]).length+1)),("standing",.loc ((H1++[O.dK []]).length+2)),("record",.loc ((H1++[O.dK []]).length+3)),("used",.int 0),("end",.non)],.lst [],.lst [],.lst []])[i]?=some o:=λ i o h=>zj (zj h)
 have l3:((H1++[O.dK []])++[O.obj "Walk" [("named",.loc (H.length+1)),("clauses",.loc H1.length),("bound",.int bd),("doing",.non),("left",.loc ((H1++[O.dK []]).length+1)),("standing",.loc ((H1++[O.dK []]).length+2)),("record",.loc ((H1++[O.dK []]).length+3)),("used",.int 0),("end",.non)],.lst [],.lst [],.lst []]).length=H.length+7:=by rw [Y0u,l2];rfl
 rw [l2] at B
 simp only [l2,l1] at B W0 W1 W3 od2 l3
 generalize hW:((H1++[O.dK []])++[O.obj "Walk" [("named",.loc (H.length+1)),("clauses",.loc (H.length+2)),("bound",.int bd),("doing",.non),("left",.loc (H.length+3+1)),("standing",.loc (H.length+3+2)),("record",.loc (H.length+3+3)),("used",.int 0),("end",.non)],.lst [],.lst [],.lst []])=H3 at B W0 W1 W3 od2 l3
 have gm3:=od2 _ _ gm
 have Dd:callI defs (n+2) 41 [.loc H3.length,b,knD (names.zip nums).reverse,blN,.non] (H3++[.obj "Doing" []])=.ok .non (H3++[dg blN (.tup [b,.non]) .non (knD (names.zip nums).reverse)]):=GX
 have S:qh (.loc (H.length+3)) "doing" (.loc H3.length) (H3++[dg blN (.tup [b,.non]) .non (knD (names.zip nums).reverse)])=some ((H3++[dg blN (.tup [b,.non]) .non (knD (names.zip nums).reverse)]).set (H.length+3) (wk (.loc (H.length+1)) (.loc (H.length+2)) (.int bd) (H.length+7) (H.length+4) (H.length+5) (H.length+6) 0 .non)) :=
  (jx (zj W0) (by simp) rfl).trans (by rw [l3];rfl)
 refine ⟨(H3++[dg blN (.tup [b,.non]) .non (knD (names.zip nums).reverse)]).set (H.length+3) (wk (.loc (H.length+1)) (.loc (H.length+2)) (.int bd) (H.length+7) (H.length+4) (H.length+5) (H.length+6) 0 .non),?_,?_⟩
 ·rw [za (d:=yz) rfl rfl]
  exact zg (ze (bnd rfl (bnd rfl A)) (ze (bnd rfl (bnd rfl (BD g1 e))) (yy (bnd rfl (bnd rfl (BE gm (by simp [hl])))) (ze (d:=.loc (H.length+3)) (h':=H3) (vmk.trans (bnd rfl (bnd (bnd (bnd rfl (bnd rfl hC)) rfl) (by rw [l2,l1,B];rfl)))) (zw (z:=.loc H3.length) (vmk.trans (bnd rfl (bnd (bnd (bnd rfl (bnd rfl (Qf gm3))) rfl) (by rw [Dd];rfl)))) rfl S (zo rfl))))))
 ·refine ⟨Y0r (by simp [l3]),zv (by omega) ?_,zv (by omega) (zj W1),zv (by omega) (zj W3),zv (by omega) (zj (od2 _ _ g1)),by omega,by omega,by omega,by omega,by omega,by omega,by omega,by omega,by omega,λ _ h=>(nomatch h),λ i o ho=>zv (by have:=zN ho;omega) (zj (od2 _ _ (od _ _ ho))),by omega,by omega,by omega⟩
  rw [Y08 (by omega),show H.length+7-H3.length=0 from by omega];rfl
end
section
variable {P:Nat->Pl}{A:Nat->List T}{nm:Nat->Str}{nx:Nat->Nat}{ok:Nat->Prop}{n:Nat}{H:Hh}{m ma k cn:Nat}{bd:Int}{qs:List (Str×D)}{nums:List Int}
theorem z6k {cl:Nat->List D->Hh->Res D}{ρ:En}{h h' h2 h3:Hh}{e1 e2 e3:E}{p:Pos}{x y z:D}(q1:e1.ev cl ρ h=.ok x h')(q2:e2.ev cl ρ h'=.ok y h2)(q3:e3.ev cl ρ h2=.ok z h3):E.ev cl (.tup (.cons e1 (.cons e2 (.cons e3 .nil))) p) ρ h=.ok (.tup [x,y,z]) h3:=bnd (bnd q1 (bnd (bnd q2 (bnd (bnd q3 (bnd rfl rfl)) rfl)) rfl)) rfl
theorem z4s (R:Ring P A nm nx ok (tab qs))(o:Itm qs)(nd:(qs.map (·.1)).Nodup)(hq:qs.length<=1000000)(hk:ok k)(hf:(nm k,it (nm k) (.tup ((P k).ps.map .str)) (bdO (P k) (nm (nx k)) (A k)))∈qs)(g:H[m]?=some (.lst (nums.map .int)))(ga:H[ma]?=some (.lst []))(p:NumOk (P k) nums)(hc:nums.getD (P k).co 0=cn)(hcn:cn<1000000) :
  ∃ Hf rr,callI defs (n+6) 7 [.tup (qs.map (·.2)),.str (nm k),.loc m,.loc ma,.int bd] H=.ok (.tup [(jh P A nx bd cn k nums []).1,.loc rr,.int (jh P A nx bd cn k nums []).2]) Hf/\Hf[rr]?=some (.lst [])/\∀ (i:Nat) (o:O),H[i]?=some o->Hf[i]?=some o:=by
 obtain ⟨X,B,q⟩:=Va (n:=n+2) (bd:=bd) o nd hq hf g p.ln
 obtain ⟨a',b',Hf,e,F⟩:=z0d (n:=n+1) R cn (cs:=[]) none none hk p hc .nil (by simpa using hcn) q
 have W:callI defs (n+5) 12 [.loc (H.length+3)] X=.ok .non Hf:=by
  rw [za (d:=yA) rfl rfl]
  refine zZ (ρ:=[some (.loc (H.length+3)),a',b']) ?_
  show jP (Lp (n+1) [some (.loc (H.length+3)),none,none] X) _=_
  rw [e];rfl
 obtain ⟨_,_,_,_,_,_,gw⟩:=F.hw
 refine ⟨Hf,H.length+6,?_,F.hr,F.old⟩
 rw [za (d:=GP) rfl rfl]
 exact zg (ze (bnd rfl (bnd rfl B)) (yy (bnd rfl (bnd rfl W)) (j7 (Ww rfl (rdl (F.old _ _ ga))) (if_pos (λ p hp=>by rw [Y0m.mp hp];exact rdl (F.old _ _ ga))) (zo (z6k (bnd rfl (zn gw rfl)) (bnd rfl (zn gw rfl)) (bnd rfl (zn gw rfl)))))))
end
end K43
namespace K43
open PySem L2 PI
section
variable {cl:Nat->List D->Hh->Res D}{h:Hh}
theorem Ui {ρ:En}{p1 p2 p3 p4 p5 p6 p7:Pos}{t:Int}(e:ρ[3]?=some (some (.int t))):E.evT cl (.cmp .Gt (.c1 .abs (.var 3 p1) p2 p3) (.bin .Pow (.int 10 p4) (.int 18 p5) p6) p7) ρ h=.ok (!(decide (t.natAbs<=1000000000000000000))) h:=by
 refine zf (x:=.int (if t<0 then -t else t)) (y:=.int 1000000000000000000) (h':=h) (h2:=h) (bnd (x:=.int t) (h:=h) (by rw [zR,e]) rfl) (bnd rfl (bnd rfl ?_)) ?_
 ·rfl
 ·rw [<- GT];rfl
theorem WJ {s:Str}{a b:Int}(hs:Sg s)(ha:Sm a)(hb:Sm b):d_law_reckoned.run cl [.str s,.int a,.int b] h=.ok (opI (zP s a b)) h:=by
 have fin:∀ t:Int,Ss.run cl (jm 4 d_law_reckoned.body) [some (.str s),some (.int a),some (.int b),some (.int t)] h=.rt (opI (if t.natAbs<=1000000000000000000 then some t else none)) h:=λ t=>by
  by_cases q:t.natAbs<=1000000000000000000
  ·rw [if_pos q]
   refine zi (h':=h) ?_ (zo rfl)
   rw [Ui rfl,decide_eq_true q];rfl
  ·rw [if_neg q]
   refine jb (h':=h) ?_ (zo rfl)
   rw [Ui rfl,decide_eq_false q];rfl
 rcases hs with rfl | rfl | rfl | rfl
 ·rw [show zP "+" a b=(if (a+b).natAbs<=1000000000000000000 then some (a+b) else none) from rfl]
  exact zg (ze rfl (jc (zf rfl rfl (eqS wS wS)) (ze rfl rfl) (zi (zf rfl rfl (eqS wS wT)) (zi (zf rfl rfl (eqS wS qI)) (fin _)))))
 ·rw [show zP "-" a b=(if (a-b).natAbs<=1000000000000000000 then some (a-b) else none) from rfl]
  exact zg (ze rfl (zi (zf rfl rfl (eqS wT wS)) (jc (zf rfl rfl (eqS wT wT)) (ze rfl rfl) (zi (zf rfl rfl (eqS wT qI)) (fin _)))))
 ·rw [show zP "*" a b=(if (a*b).natAbs<=1000000000000000000 then some (a*b) else none) from rfl]
  exact zg (ze rfl (zi (zf rfl rfl (eqS qI wS)) (zi (zf rfl rfl (eqS qI wT)) (jc (zf rfl rfl (eqS qI qI)) (ze (bnd rfl (bnd rfl (mlk ha.fits hb.fits))) rfl) (fin _)))))
 ·have e:zP "<" a b=(if (if decide (a<b)=true then (1:Int) else 0).natAbs<=1000000000000000000 then some (if decide (a<b)=true then (1:Int) else 0) else none):=by
   rw [show zP "<" a b=some (if a<b then 1 else 0) from rfl]
   by_cases q:a<b<;>simp [q]
  rw [e]
  exact zg (ze rfl (zi (zf rfl rfl (eqS yR wS)) (zi (zf rfl rfl (eqS yR wT)) (zi (zf rfl rfl (eqS yR qI)) (fin _)))))
end
theorem BG:PyData.strOk "done"=true:=by decide +kernel
theorem O4:PyData.strOk "spent"=true:=by decide +kernel
theorem O5:PyData.strOk "great"=true:=by decide +kernel
section
variable {n:Nat}{H:Hh}
theorem Uj {v:Int}:callI defs (n+1) 25 [.int v] H=.ok (.bl true) H:=by
 rw [za (d:=qk) rfl rfl]
 exact zg (zo (ju (z08 rfl rfl)))
inductive Ed:D->Prop
 | done (v:Int):Ed (.tup [.str "done",.int v])
 | great:Ed (.tup [.str "great"])
 | spent:Ed (.tup [.str "spent"])
theorem z2z {e:D}(h:Ed e):j0 .Eq e e H=.ok (.bl true) H:=by
 cases h<;>simp [pdT,D.pd,D.pds,PyData.canLay0,PyData.canLayAll0,PyData.depth,PyData.depthAll,PyData.eqv,PyData.eqvAll,O5,BG,O4]
theorem BH {e:D}(h:Ed e):callI defs (n+2) 26 [e,e] H=.ok (.bl true) H:=by
 rw [za (d:=qm) rfl rfl]
 have z:=z2z (H:=H) h
 cases h with
 | done v=>exact zg (zi (V3 rfl rfl) (j7 (q:=([],[.tup [.str "done",.str "done"],.tup [.int v,.int v]])) (bnd rfl (bnd rfl rfl)) (jR (λ _ hp=>nomatch hp) (show zQ _ _ _ _ _=_ from jc rfl (zi rfl rfl) rfl) (jR (λ _ hp=>nomatch hp) (show zQ _ _ _ _ _=_ from zM rfl (zi (bnd (bnd (bnd rfl (bnd rfl Uj)) rfl) rfl) rfl) rfl) for_0)) (zo (bnd rfl (bnd rfl z)))))
 | great=>exact zg (zi (V3 rfl rfl) (j7 (q:=([],[.tup [.str "great",.str "great"]])) (bnd rfl (bnd rfl rfl)) (jR (λ _ hp=>nomatch hp) (show zQ _ _ _ _ _=_ from jc rfl (zi rfl rfl) rfl) for_0) (zo (bnd rfl (bnd rfl z)))))
 | spent=>exact zg (zi (V3 rfl rfl) (j7 (q:=([],[.tup [.str "spent",.str "spent"]])) (bnd rfl (bnd rfl rfl)) (jR (λ _ hp=>nomatch hp) (show zQ _ _ _ _ _=_ from jc rfl (zi rfl rfl) rfl) for_0) (zo (bnd rfl (bnd rfl z)))))
theorem z4t {m:Nat}{xs:List D}(g:H[m]?=some (.lst xs)):isI H (.loc m) 4=some true:=by
 show (PI.rd H m).map (λ _=>4==4)=_
 rw [rdl g];rfl
theorem BI {E':D}(hE:Ed E'){u:Int}{r e:Nat}(g:H[r]?=some (.lst []))(ge:H[e]?=some (.lst [])):callI defs (n+3) 27 [.tup [E',.loc r,.int u],E',.loc e,.int u] H=.ok (.bl true) H:=by
 rw [za (d:=qo) rfl rfl]
 have zz:Qa (.loc r) (.loc e) H=.ok (([(r,[]),(e,[])]:Ck),[]) H:=by
  have q:Qa (.loc r) (.loc e) H=(match (PI.rd H r).map (λ xs=>(([(r,xs)],xs):Ck×List D)) with
   | some p=>(match (PI.rd H e).map (λ xs=>(([(e,xs)],xs):Ck×List D)) with
    | some q=>Res.ok (p.1++q.1,(p.2.zip q.2).map Q9) H
    | none=>.no)
   | none=>.no):=rfl
  rw [q,rdl g,rdl ge];rfl
 have st:stay [(r,[]),(e,[])] H:=λ p hp=>by
  rcases Y0d.mp hp with rfl | hp
  ·exact rdl g
  ·rw [Y0m.mp hp];exact rdl ge
 have is1:∀ {ρ:En}{p1 p2 p3 p4 p5 p6 p7:Pos},ρ[0]?=some (some (.tup [E',.loc r,.int u]))->E.evT (callI defs (n+2)) (.un .Not (.isi 4 (.sub (.var 0 p1) (.int 1 p2) p3) p4 p5 p6) p7) ρ H=.ok false H:=λ {ρ p1 p2 p3 p4 p5 p6 p7} q=>by
  simp [E.evT,vun,z6e,GF,zR,q,UX,a1,z4t g,unD]
 refine zg (zi (V3 rfl rfl) (zi (V3 ?_ (zf (bnd (bnd rfl (bnd rfl rfl)) (len_loc g)) (bnd rfl (len_loc ge)) rfl)) (j7 (izip.trans (bnd (bnd rfl (bnd rfl rfl)) (bnd rfl zz))) (if_pos st) (zo (ju (z2m (bnd (bnd (bnd rfl (bnd rfl rfl)) (bnd rfl (BH hE))) rfl) (bnd (bnd (bnd rfl (bnd rfl rfl)) (bnd rfl Uj)) rfl) (zf (bnd rfl (bnd rfl rfl)) rfl (eqI.trans (by rw [beq_self_eq_true])))))))))
 exact is1 rfl
end
end K43
namespace K43
open PySem L2 PI
noncomputable def azS:Str:="abcdefghijklmnopqrstuvwxyz"
noncomputable def teS:Str:="bcdfghjklmnpqrstvwxyz"
noncomputable def TC:List Nat:=[98,99,100,102,103,104,106,107,108,109,110,112,113,114,115,116,118,119,120,121,122]
theorem z4u:cs azS=(List.range 26).map (·+97):=by decide
theorem z4v:cs teS=TC:=by decide
theorem z4w (i:Int)(h0:0<=i)(h1:i<26)(h:Hh):jg (.str azS) (.int i) h=.ok (.str (mkS [97+i.toNat])) h:=by
 rw [Wm,if_pos (by decide)]
 have:atI azS.cps.toList i=some (97+i.toNat):=by
  rw [<- Y1k h0]
  refine atk ?_
  show (cs azS)[i.toNat]?=_
  rw [z4u,Y0k,List.getElem?_range (by omega)]
  simp;omega
 rw [this]
 rfl
noncomputable def tc (i:Int):Nat:=TC.getD i.toNat 0
theorem z0e (i:Int)(h0:0<=i)(h1:i<21)(h:Hh):jg (.str teS) (.int i) h=.ok (.str (mkS [tc i])) h:=by
 rw [Wm,if_pos (by decide)]
 have hl:i.toNat<TC.length:=by show i.toNat<21;omega
 have:atI teS.cps.toList i=some (tc i):=by
  conv=>lhs;rw [<- Y1k h0]
  refine atk ?_
  show (cs teS)[i.toNat]?=_
  rw [z4v,Y02 hl]
  unfold tc
  rw [Y05,Y02 hl];rfl
 rw [this]
 rfl
theorem Qo (i:Int):tc i<1114112:=by
 unfold tc
 rw [Y05]
 cases e:TC[i.toNat]? with
 | none=>decide
 | some x =>
  have:∀ y∈TC,y<1114112:=by decide
  exact this x (Y12 e)
theorem z30 {i j:Int}(h0:0<=i)(h1:i<21)(h2:0<=j)(h3:j<21)(e:tc i=tc j):i=j:=by
 have:∀ a<21,∀ b<21,TC.getD a 0=TC.getD b 0->a=b:=by decide
 have:=this i.toNat (by omega) j.toNat (by omega) e
 omega
section
variable {cl:Nat->List D->Hh->Res D}{c:Int}{h:Hh}{a:Int}
noncomputable def tk (c:Int)(k:Nat):Int:=(c/64+k)%21
noncomputable def lk (c:Int)(j:Nat):Int:=(c/64/((j:Int)+1)+5*(j:Int))%26
noncomputable def sgn (c a:Int)(k j:Nat):Nat:=if (j:Int)=a then tc (tk c k) else 97+(lk c j).toNat
theorem Vb {k j:Nat}:sgn c a k j<1114112:=by
 unfold sgn lk
 split
 ·exact Qo _
 ·omega
theorem z4x {x y:List Nat}(hl:x.length+y.length<=1000):wc .Add (.str (mkS x)) (.str (mkS y)) h=.ok (.str (mkS (x++y))) h:=by
 rw [bin_adds,if_pos (by rw [GL,GL];omega),UZ]
theorem Uk {d0 d1 d4 d5 d7:Option D}{k:Nat}:∀ (m j:Nat) (Z:List Nat) (x y:Option D),j+m<=8->Z.length=j->∃ x' y',jz [] (zQ qG λ ρ' h'=>b_law_names_4.run cl ρ' h') ((List.range' j m).map λ (i:Nat)=>D.int (i:Nat)) [some (.int c),d1,some (.str azS),some (.str teS),d4,d5,some (.int a),d7,some (.int (k:Nat)),some (.str (mkS Z)),x,y] h=.nx [some (.int c),d1,some (.str azS),some (.str teS),d4,d5,some (.int a),d7,some (.int (k:Nat)),some (.str (mkS (Z++(List.range' j m).map (sgn c a k)))),x',y'] h
 | 0,j,Z,x,y,_,_=>⟨x,y,by rw [show (List.range' j 0)=[] from rfl,Y1x,Y1x,Y0z];exact for_0⟩
 | m+1,j,Z,x,y,hj,hZ=>by
  have f1:fits (5:Int)=true:=by decide
  have f2:fits (j:Int)=true:=Za (by omega)
  have l0:0<=lk c j:=by unfold lk;omega
  have l1:lk c j<26:=by unfold lk;omega
  have t0:0<=tk c k:=by unfold tk;omega
  have t1:tk c k<21:=by unfold tk;omega
  obtain ⟨x',y',ih⟩:=Uk (d0:=d0) (d1:=d1) (d4:=d4) (d5:=d5) (d7:=d7) (k:=k) m (j+1) (Z++[sgn c a k j]) (some (.int (j:Nat))) (some (.str (mkS [sgn c a k j]))) (by omega) (by simp [hZ])
  refine ⟨x',y',?_⟩
  rw [Y2s,Y0h,Y0h]
  rw [Y0e] at ih
  refine jR (λ _ hp=>nomatch hp) (yD (ze (d:=.str (mkS [97+(lk c j).toNat])) (h':=h) (bnd rfl (bnd (bnd (bnd (bnd (bnd rfl (bnd rfl (fdk (by decide)))) (bnd (bnd rfl (bnd rfl rfl)) (fdk (by omega)))) (bnd (bnd rfl (bnd rfl (mlk f1 f2))) rfl)) (bnd rfl (mdk (by decide)))) (z4w _ l0 l1 h))) ?_)) ih
  by_cases e:(j:Int)=a
  ·have es:sgn c a k j=tc (tk c k):=if_pos e
   rw [es]
   exact jc (zf rfl rfl (eqI.trans (by rw [e,beq_self_eq_true]))) (ze (bnd rfl (bnd (bnd (bnd (bnd rfl (bnd rfl (fdk (by decide)))) (bnd rfl rfl)) (bnd rfl (mdk (by decide)))) (z0e _ t0 t1 h))) rfl) (ze (bnd rfl (bnd rfl (z4x (by simp;omega)))) rfl)
  ·have es:sgn c a k j=97+(lk c j).toNat:=if_neg e
   rw [es]
   exact zi (zf rfl rfl (eqI.trans (by rw [show ((j:Int)==a)=false from by simpa using e]))) (ze (bnd rfl (bnd rfl (z4x (by simp;omega)))) rfl)
noncomputable def nm (c a:Int)(sz:Nat)(k:Nat):Str:=mkS ((List.range' 0 sz).map (sgn c a k))
theorem zV {h:Hh}{x:O}:(h++[x])[h.length]?=some x:=by rw [Y08 (Y03 _),Y0w];rfl
theorem z6l {ρ:En}{P:Hh}{l:List D}{v:D}{p1 p2 p3 p4:Pos}(e7:ρ[7]?=some (some (.loc P.length)))(e9:ρ[9]?=some (some v))(hl:l.length<1000):E.ev cl (.m1 .append (.var 7 p1) (.var 9 p2) p3 p4) ρ (P++[.lst l])=.ok .non (P++[.lst (l++[v])]):=by
 rw [vm1,zR,e7,bind_ok,Wv zV,zR,e9,bind_ok]
 show (match (P++[O.lst l])[P.length]? with | some (.lst xs)=>if xs.length<1000000 then Res.ok D.non ((P++[O.lst l]).set P.length (.lst (xs++[v]))) else .no | _=>.no)=_
 rw [zV]
 simp only [show l.length<1000000 from by omega,if_true]
 rw [Y19 _ _ (Y03 _),Y0w];rfl
theorem Qp {d1 d4:Option D}{sz:Nat}{P:Hh}(hsz:sz<=8):∀ (m k:Nat) (l:List D) (x8 x9 x10 x11:Option D),k+m<=12->l.length=k->∃ y8 y9 y10 y11,jz [] (zQ qH λ ρ' h'=>b_law_names_3.run cl ρ' h') ((List.range' k m).map λ (i:Nat)=>D.int (i:Nat)) [some (.int c),d1,some (.str azS),some (.str teS),d4,some (.int (sz:Nat)),some (.int a),some (.loc P.length),x8,x9,x10,x11] (P++[.lst l])=.nx [some (.int c),d1,some (.str azS),some (.str teS),d4,some (.int (sz:Nat)),some (.int a),some (.loc P.length),y8,y9,y10,y11] (P++[.lst (l++(List.range' k m).map λ k=>.str (nm c a sz k))])
 | 0,k,l,x8,x9,x10,x11,_,_=>⟨x8,x9,x10,x11,by rw [show (List.range' k 0)=[] from rfl,Y1x,Y1x,Y0z];exact for_0⟩
 | m+1,k,l,x8,x9,x10,x11,hk,hl=>by
  obtain ⟨x',y',e⟩:=Uk (cl:=cl) (c:=c) (a:=a) (h:=P++[.lst l]) (d0:=none) (d1:=d1) (d4:=d4) (d5:=some (.int (sz:Nat))) (d7:=some (.loc P.length)) (k:=k) sz 0 [] x10 x11 (by omega) rfl
  obtain ⟨y8,y9,y10,y11,ih⟩:=Qp (P:=P) (d1:=d1) (d4:=d4) hsz m (k+1) (l++[.str (nm c a sz k)]) (some (.int (k:Nat))) (some (.str (nm c a sz k))) x' y' (by omega) (by simp [hl])
  refine ⟨y8,y9,y10,y11,?_⟩
  rw [Y2s,Y0h,Y0h]
  rw [Y0e l [.str (nm c a sz k)]] at ih
  have e0:(Str.ofString "")=mkS []:=by decide
  refine jR (λ _ hp=>nomatch hp) (yD (ze (d:=.str (mkS [])) (h':=P++[.lst l]) (by rw [<- e0];rfl) (j7 (z09 rfl (by omega)) ?_ (yy (z6l (l:=l) rfl rfl (by omega)) rfl)))) ih
  rw [Y1g,List.range_eq_range']
  exact e
end
end K43
namespace K43
open PySem L2 PI
section
variable {cl:Nat->List D->Hh->Res D}{h:Hh}{ρ:En}
theorem md6 {i:Nat}{k:Int}{c:Int}{b:Bool}{p1 p2 p3 p4 p5:Pos}{j:Int}(e:ρ[i]?=some (some (.int c)))(hk:0<k)(q:(c%k==j)=b):E.evT cl (.cmp .Eq (.bin .Mod (.var i p1) (.int k p2) p3) (.int j p4) p5) ρ h=.ok b h :=
 zf (bnd (x:=.int c) (h:=h) (by rw [zR,e]) (bnd rfl (mdk hk))) rfl (by rw [<- q];rfl)
theorem mdv {i:Nat}{k:Int}{c:Int}{p1 p2 p3:Pos}(e:ρ[i]?=some (some (.int c)))(hk:0<k):E.ev cl (.bin .Mod (.var i p1) (.int k p2) p3) ρ h=.ok (.int (c%k)) h:=bnd (x:=.int c) (h:=h) (by rw [zR,e]) (bnd rfl (mdk hk))
theorem BJ {p1 p2 p3:Pos}:E.ev cl (.bin .Pow (.int 10 p1) (.int 18 p2) p3) ρ h=.ok (.int 1000000000000000000) h:=rfl
theorem pw9 {p1 p2 p3:Pos}:E.ev cl (.bin .Pow (.int 10 p1) (.int 9 p2) p3) ρ h=.ok (.int 1000000000) h:=rfl
theorem O6 {c:Int}:∃ v,d_law_number.run cl [.int c] h=.ok (.int v) h/\Sm v:=by
 have f2:fits (2:Int)=true:=by decide
 have f18:fits (1000000000000000000:Int)=true:=Za (by decide)
 have m:c%6=0\/c%6=1\/c%6=2\/c%6=3\/c%6=4\/c%6=5:=by omega
 rcases m with q | q | q | q | q | q
 ·exact ⟨c/6%7-3,zg (ze (bnd rfl (bnd rfl (fdk (by decide)))) (jb (md6 rfl (by decide) (by rw [q];rfl)) (zo (bnd (mdv rfl (by decide)) (bnd rfl rfl))))),by unfold Sm;omega⟩
 ·exact ⟨c/6%2001-1000,zg (ze (bnd rfl (bnd rfl (fdk (by decide)))) (zi (md6 rfl (by decide) (by rw [q];rfl)) (jb (md6 rfl (by decide) (by rw [q];rfl)) (zo (bnd (mdv rfl (by decide)) (bnd rfl rfl)))))),by unfold Sm;omega⟩
 ·exact ⟨1000000000+c/6%5-2,zg (ze (bnd rfl (bnd rfl (fdk (by decide)))) (zi (md6 rfl (by decide) (by rw [q];rfl)) (zi (md6 rfl (by decide) (by rw [q];rfl)) (jb (md6 rfl (by decide) (by rw [q];rfl)) (zo (bnd (bnd pw9 (bnd (mdv rfl (by decide)) rfl)) (bnd rfl rfl))))))),by unfold Sm;omega⟩
 ·exact ⟨1000000000000000000-c/6%3,zg (ze (bnd rfl (bnd rfl (fdk (by decide)))) (zi (md6 rfl (by decide) (by rw [q];rfl)) (zi (md6 rfl (by decide) (by rw [q];rfl)) (zi (md6 rfl (by decide) (by rw [q];rfl)) (jb (md6 rfl (by decide) (by rw [q];rfl)) (zo (bnd BJ (bnd (mdv rfl (by decide)) rfl)))))))),by unfold Sm;omega⟩
 ·exact ⟨c/6%2000000000000000001-1000000000000000000,zg (ze (bnd rfl (bnd rfl (fdk (by decide)))) (zi (md6 rfl (by decide) (by rw [q];rfl)) (zi (md6 rfl (by decide) (by rw [q];rfl)) (zi (md6 rfl (by decide) (by rw [q];rfl)) (zi (md6 rfl (by decide) (by rw [q];rfl)) (jb (md6 rfl (by decide) (by rw [q];rfl)) (zo (bnd (bnd rfl (bnd (bnd (bnd rfl (bnd BJ (mlk f2 f18))) (bnd rfl rfl)) (mdk (by decide)))) (bnd BJ rfl))))))))),by unfold Sm;omega⟩
 ·exact ⟨c/6%3-1000000000000000000,zg (ze (bnd rfl (bnd rfl (fdk (by decide)))) (zi (md6 rfl (by decide) (by rw [q];rfl)) (zi (md6 rfl (by decide) (by rw [q];rfl)) (zi (md6 rfl (by decide) (by rw [q];rfl)) (zi (md6 rfl (by decide) (by rw [q];rfl)) (zi (md6 rfl (by decide) (by rw [q];rfl)) (zo (bnd (mdv rfl (by decide)) (bnd BJ rfl))))))))),by unfold Sm;omega⟩
end
end K43
namespace K43
open PySem L2 PI
theorem Z9:∀ l:List Bool,qg (l.map D.bl)=some l
 | []=>rfl
 | b::r=>by show (qg (r.map D.bl)).map (b::·)=_;rw [Z9 r];rfl
noncomputable def wds:List Str:=["def","handler","on","end","let","if","call","hand","do","handle","go","guard"]
structure Nms (M:Nat)(H:Hh)(o:Res D):Prop where
 ex:∃ (J:Hh) (ws:List Str) (mq:Nat),o=.ok (.loc mq) (H++J)/\(H++J)[mq]?=some (.lst (ws.map D.str))/\ws.length=M/\(∀ x∈ws,PyData.strOk x=true)/\ws.Nodup
theorem WK {f:Nat->Str}{M:Nat}(h:∀ i j,i<j->j<M->f i≠f j):((List.range' 0 M).map f).Nodup:=by
 rw [List.Nodup,List.pairwise_map]
 exact (List.pairwise_lt_range' (s:=0) (n:=M)).imp_of_mem λ ha hb lt=>h _ _ lt (by have:=Y1q.mp hb;omega)
theorem WL {cl:Nat->List D->Hh->Res D}{ρ:En}{h h':Hh}{e:E}{p1 p2:Pos}{M:Nat}(ha:e.ev cl ρ h=.ok (.int (M:Nat)) h')(hM:M<=1000000):I.ev cl (.rng e p1 p2) ρ h=.ok ([],(List.range' 0 M).map λ k=>.int (k:Nat)) h':=by
 rw [z09 ha (by omega),Y1g,List.range_eq_range']
section
variable {n:Nat}{c:Int}{H:Hh}{M:Nat}
theorem z0f {i j:Nat}(hi:i<j)(hj:j<21):tc (tk c i)≠tc (tk c j):=λ e=>by
 have:=z30 (i:=tk c i) (j:=tk c j) (by unfold tk;omega) (by unfold tk;omega) (by unfold tk;omega) (by unfold tk;omega) e
 unfold tk at this
 omega
theorem z4y {a:Int}{sz i j:Nat}(h0:0<=a)(h1:a<sz)(hi:i<j)(hj:j<21):nm c a sz i≠nm c a sz j:=λ e=>by
 have e:=GK e
 have q:=congrArg (λ l=>l[a.toNat]?) e
 have hi':a.toNat<sz:=by omega
 simp only [Y0k,Y1o hi',Y29,Option.some.injEq] at q
 have:((0+1*a.toNat:Nat):Int)=a:=by omega
 unfold sgn at q
 rw [if_pos this,if_pos this] at q
 exact z0f hi hj q
theorem Ul (hM:M<=12):Nms M H (callI defs (n+1) 28 [.int c,.int (M:Nat)] H):=by
 rw [za (d:=qp) rfl rfl]
 obtain ⟨sz,hsz⟩:∃ sz:Nat,(sz:Int)=1+c%8:=⟨(1+c%8).toNat,by omega⟩
 have s8:sz<=8:=by omega
 have h0:0<=c/8%(sz:Int):=Y1l _ (by omega)
 have h1:c/8%(sz:Int)<sz:=Y1w _ (by omega)
 obtain ⟨y8,y9,y10,y11,lp⟩:=Qp (cl:=callI defs n) (c:=c) (a:=c/8%(sz:Int)) (d1:=some (.int (M:Nat))) (d4:=some (.loc H.length)) (P:=H++[.lst (wds.map D.str)]) s8 M 0 [] none none none none (by omega) rfl
 rw [Y16] at lp
 generalize hns:((List.range' 0 M).map λ k=>nm c (c/8%(sz:Int)) sz k)=ns
 have hnd:((List.range' 0 M).map λ k=>D.str (nm c (c/8%(sz:Int)) sz k))=ns.map D.str:=by rw [<- hns,Y1y];rfl
 rw [hnd] at lp
 have nok:∀ x∈ns,PyData.strOk x=true:=λ x hx=>by
  rw [<- hns] at hx
  obtain ⟨k,_,rfl⟩:=Y0v.mp hx
  exact GM λ z hz=>by
   obtain ⟨j,_,rfl⟩:=Y0v.mp hz
   exact Vb
 have nlen:ns.length=M:=by rw [<- hns];simp
 generalize hP:H++[O.lst (wds.map D.str)]=P at lp
 have gw:∀ (B:Hh),(P++B)[H.length]?=some (.lst (wds.map D.str)):=λ B=>zj (by rw [<- hP];exact zV)
 have an:E.evT (callI defs n) (.c1 .any (.ofL (.comp e_law_names_1 wo (.seq (.var 7 ⟨296,53,296,68⟩)) c_law_names_1 ["_law_name","_law_words"] [none,some 4] qE ⟨296,11,296,69⟩)) ⟨296,7,296,10⟩ ⟨296,7,296,70⟩) [some (.int c),some (.int (M:Nat)),some (.str azS),some (.str teS),some (.loc H.length),some (.int (sz:Nat)),some (.int (c/8%(sz:Int))),some (.loc P.length),y8,y9,y10,y11] (P++[.lst (ns.map D.str)])=.ok ((ns.map λ x=>wds.any λ y=>y==x).any id) (P++[.lst (ns.map D.str)]++[.lst ((ns.map λ x=>wds.any λ y=>y==x).map D.bl)]):=by
  refine bnd (x:=.bl ((ns.map λ x=>wds.any λ y=>y==x).any id)) (bnd (jd (q:=([(P.length,ns.map D.str)],ns.map D.str)) (xs:=(ns.map λ x=>wds.any λ y=>y==x).map D.bl) (h2:=P++[.lst (ns.map D.str)]) (Ww rfl (rdl zV)) (by show (ns.map D.str).length<=1000000;rw [Y0j,nlen];omega) ?_) ?_) rfl
  ·have cc:=js (c:=[(P.length,ns.map D.str)]) (f:=jk wo (qf [none,some 4] [some (.int c),some (.int (M:Nat)),some (.str azS),some (.str teS),some (.loc H.length),some (.int (sz:Nat)),some (.int (c/8%(sz:Int))),some (.loc P.length),y8,y9,y10,y11]) (λ ρ' h2=>c_law_names_1.evC (callI defs n) ρ' h2) (λ ρ' h2=>e_law_names_1.ev (callI defs n) ρ' h2)) (h:=P++[.lst (ns.map D.str)]) (λ p hp=>by rw [Y0m.mp hp];exact rdl zV) (λ d=>match d with | .str x=>some (.bl (wds.any λ y=>y==x)) | _=>none) (ns.map D.str) [] (λ z hz=>by
    obtain ⟨x,hx,rfl⟩:=Y0v.mp hz
    refine jH rfl rfl (bnd rfl (bnd rfl ?_))
    have q:j0 .In (.str x) (.loc H.length) (P++[.lst (ns.map D.str)])=match (P++[O.lst (ns.map D.str)])[H.length]? with
     | some (.lst ds)=>Z0 false (.str x) ds (P++[.lst (ns.map D.str)])
     | some (.dK kvs)=>(match wU (.str x) with | some k=>Res.ok (.bl (ngB false (jf kvs k).isSome)) (P++[.lst (ns.map D.str)]) | none=>.no)
     | _=>.no:=rfl
    rw [q,gw]
    exact B4)
   refine cc.trans ?_
   rw [Y16,Y2c,Y1y]
   congr 1
   exact Y2e (f:=λ x=>D.bl (wds.any λ y=>y==x))▸rfl
  ·show (match (PI.rd _ (P++[O.lst (ns.map D.str)]).length).bind qg with | some bs=>Res.ok (D.bl (bs.any id)) _ | none=>.no)=_
   rw [rdl zV]
   show (match qg ((ns.map λ x=>wds.any λ y=>y==x).map D.bl) with | some bs=>Res.ok (D.bl (bs.any id)) _ | none=>.no)=_
   rw [Z9]
 by_cases hb:(ns.map λ x=>wds.any λ y=>y==x).any id=true
 ·rw [hb] at an
  let A:List O:=[O.lst (ns.map D.str),O.lst ((ns.map λ x=>wds.any λ y=>y==x).map D.bl)]
  have eA:P++[O.lst (ns.map D.str)]++[O.lst ((ns.map λ x=>wds.any λ y=>y==x).map D.bl)]=P++A:=Y0e ..
  rw [eA] at an
  generalize A=A at an
  have st:E.ev (callI defs n) (.ofL (.comp e_law_names_2 wq (.rng (.var 1 ⟨297,91,297,100⟩) ⟨297,85,297,90⟩ ⟨297,85,297,101⟩) c_law_names_2 ["_law_k","_law_cell","_law_tells"] [none,some 0,some 3] qF ⟨297,26,297,102⟩)) [some (.int c),some (.int (M:Nat)),some (.str azS),some (.str teS),some (.loc H.length),some (.int (sz:Nat)),some (.int (c/8%(sz:Int))),some (.loc P.length),y8,y9,y10,y11] (P++A)=.ok (.loc (P++A).length) (P++A++[.lst (((List.range' 0 M).map λ k=>mkS [tc (tk c k)]).map D.str)]):=by
   refine jd (q:=([],(List.range' 0 M).map λ k=>.int (k:Nat))) (h2:=P++A) (WL rfl (by omega)) (by show _<=_;simp;omega) ?_
   have cc:=js (c:=[]) (f:=jk wq (qf [none,some 0,some 3] [some (.int c),some (.int (M:Nat)),some (.str azS),some (.str teS),some (.loc H.length),some (.int (sz:Nat)),some (.int (c/8%(sz:Int))),some (.loc P.length),y8,y9,y10,y11]) (λ ρ' h2=>c_law_names_2.evC (callI defs n) ρ' h2) (λ ρ' h2=>e_law_names_2.ev (callI defs n) ρ' h2)) (h:=P++A) (λ _ hp=>nomatch hp) (λ d=>match d with | .int k=>some (.str (mkS [tc ((c/64+k)%21)])) | _=>none) ((List.range' 0 M).map λ k=>D.int (k:Nat)) [] (λ z hz=>by
    obtain ⟨k,hk,rfl⟩:=Y0v.mp hz
    exact jH rfl rfl (bnd rfl (bnd (bnd (bnd (bnd rfl (bnd rfl (fdk (by decide)))) (bnd rfl rfl)) (bnd rfl (mdk (by decide)))) (z0e _ (by omega) (by omega) _))))
   refine cc.trans ?_
   rw [Y16,Y2c,Y1y]
   congr 1
   exact Y2e (f:=λ k:Nat=>D.str (mkS [tc (tk c k)]))▸rfl
  refine ⟨⟨[.lst (wds.map D.str)]++(A++[.lst (((List.range' 0 M).map λ k=>mkS [tc (tk c k)]).map D.str)]),(List.range' 0 M).map λ k=>mkS [tc (tk c k)],(P++A).length,?_,?_,by simp,?_,WK λ i j hi hj e=>z0f hi (by omega) (List.cons.inj (GK e)).1⟩⟩
  ·rw [<- Y0e,<- Y0e,hP]
   refine zg (ze rfl (ze rfl (ze (d:=.loc H.length) (h':=P) (by rw [<- hP];rfl) (ze (d:=.int (sz:Nat)) (bnd rfl (bnd (bnd rfl (bnd rfl (mdk (by decide)))) (by rw [hsz];rfl))) (ze (bnd (bnd rfl (bnd rfl (fdk (by decide)))) (bnd rfl (mdk (by omega)))) (ze (bnd rfl rfl) (j7 (WL rfl (by omega)) lp (jc an (ze st rfl) (zo rfl)))))))))
  ·rw [<- Y0e,<- Y0e,hP]
   exact zV
  ·intro x hx
   obtain ⟨k,_,rfl⟩:=Y0v.mp hx
   exact GM λ z hz=>by rw [Y0m.mp hz];exact Qo _
 ·rw [Y3g.mpr hb] at an
  refine ⟨⟨[.lst (wds.map D.str)]++([.lst (ns.map D.str)]++[.lst ((ns.map λ x=>wds.any λ y=>y==x).map D.bl)]),ns,P.length,?_,?_,nlen,nok,by rw [<- hns];exact WK λ i j hi hj=>z4y h0 h1 hi (by omega)⟩⟩
  ·rw [<- Y0e,<- Y0e,hP]
   refine zg (ze rfl (ze rfl (ze (d:=.loc H.length) (h':=P) (by rw [<- hP];rfl) (ze (d:=.int (sz:Nat)) (bnd rfl (bnd (bnd rfl (bnd rfl (mdk (by decide)))) (by rw [hsz];rfl))) (ze (bnd (bnd rfl (bnd rfl (fdk (by decide)))) (bnd rfl (mdk (by omega)))) (ze (bnd rfl rfl) (j7 (WL rfl (by omega)) lp (zi an (zo rfl)))))))))
  ·rw [<- Y0e,<- Y0e,hP]
   exact zj zV
end
end K43
namespace K43
open PySem L2 PI
noncomputable def drw (c:Int)(k:Nat):Int:=(c%1000003*(2*(k:Int)+1)*48271+7919*(k:Int)+c)%2147483647
section
variable {n:Nat}{c:Int}{H:Hh}{k:Nat}
theorem mlt {i:Int}(h:i.natAbs<18446744073709551616):fits i=true:=Za h
theorem Yu (hk:k<1000):callI defs (n+1) 31 [.int c,.int (k:Nat)] H=.ok (.int (drw c k)) H:=by
 rw [za (d:=qS) rfl rfl]
 have h1:0<=c%1000003:=Y1l _ (by decide)
 have h2:c%1000003<1000003:=Y1w _ (by decide)
 have h3:0<=c%1000003*(2*(k:Int)+1):=Int.mul_nonneg h1 (by omega)
 have h4:c%1000003*(2*(k:Int)+1)<=1000003*2001:=Int.mul_le_mul (by omega) (by omega) (by omega) (by omega)
 exact zg (zo (bnd (bnd (bnd (bnd (bnd (bnd rfl (bnd rfl (mdk (by decide)))) (bnd (bnd (bnd rfl (bnd rfl (mlk (by decide) (mlt (by omega))))) (bnd rfl rfl)) (mlk (mlt (by omega)) (mlt (by omega))))) (bnd rfl (mlk (mlt (by omega)) (by decide)))) (bnd (bnd rfl (bnd rfl (mlk (by decide) (mlt (by omega))))) rfl)) (bnd rfl rfl)) (bnd rfl (mdk (by decide)))))
noncomputable def many (c:Int):Nat:=(1+drw c 0%8).toNat
theorem O7 (c:Int):1<=many c/\many c<=8/\(many c:Int)=1+drw c 0%8:=by unfold many;omega
noncomputable def pix (c:Int)(k j:Nat):Nat:=((drw c 1+(j:Int)*(1+2*((k:Int)%2)))%8).toNat
noncomputable def sgs:List Str:=["+","-","+","-","<","+","-","*"]
noncomputable def zA (NS:List Str)(c:Int)(k:Nat):Pl:=⟨(List.range' 0 (many c)).map λ j=>NS.getD (pix c k j) "",(drw c 2%many c).toNat,(drw c 3%many c).toNat,(drw c 4%many c).toNat,sgs.getD (drw c 5%8).toNat "",drw c 6%2==1⟩
noncomputable def plD (q:Nat)(p:Pl):O:=.dK [(.inr "params",.loc q),(.inr "counted",.int (p.co:Nat)),(.inr "behind",.int (p.be:Nat)),(.inr "last",.int (p.la:Nat)),(.inr "sign",.str p.sg),(.inr "turned",.bl p.tn)]
theorem sg8 (r:Int)(h:Hh):Sg (sgs.getD (r%8).toNat "")/\jg (.str "+-+-<+-*") (.int (r%8)) h=.ok (.str (sgs.getD (r%8).toNat "")) h:=by
 have m:r%8=0\/r%8=1\/r%8=2\/r%8=3\/r%8=4\/r%8=5\/r%8=6\/r%8=7:=by omega
 unfold Sg
 rcases m with q | q | q | q | q | q | q | q<;>rw [q]
 ·exact ⟨.inl rfl,rfl⟩
 ·exact ⟨.inr (.inl rfl),rfl⟩
 ·exact ⟨.inl rfl,rfl⟩
 ·exact ⟨.inr (.inl rfl),rfl⟩
 ·exact ⟨.inr (.inr (.inr rfl)),rfl⟩
 ·exact ⟨.inl rfl,rfl⟩
 ·exact ⟨.inr (.inl rfl),rfl⟩
 ·exact ⟨.inr (.inr (.inl rfl)),rfl⟩
structure NsOk (NS:List Str):Prop where
 ln:NS.length=8
 so:∀ x∈NS,PyData.strOk x=true
 nd:NS.Nodup
theorem WM {j:Nat}:pix c k j<8:=by unfold pix;omega
theorem z31 {NS:List Str}(o:NsOk NS){i:Nat}(h:i<8):NS.getD i ""∈NS:=by
 rw [Y05,Y02 (by rw [o.ln];exact h)]
 exact Y2f _
theorem O8 {l:List Str}(nd:l.Nodup){i j:Nat}(hi:i<l.length)(hj:j<l.length)(e:l[i]=l[j]):i=j:=by
 have p:=List.pairwise_iff_getElem.mp nd
 rcases Nat.lt_trichotomy i j with h | h | h
 ·exact absurd e (p i j hi hj h)
 ·exact h
 ·exact absurd e.symm (p j i hj hi h)
theorem BK {NS:List Str}(o:NsOk NS):(zA NS c k).ok:=by
 have hm:=O7 c
 have ln:(zA NS c k).ps.length=many c:=by unfold zA;simp
 have lt:∀ i,(drw c i%many c).toNat<many c:=λ i=>by
  have h1:=Y1l (drw c i) (b:=(many c:Int)) (by omega)
  have h2:=Y1w (drw c i) (b:=(many c:Int)) (by omega)
  omega
 refine ⟨WK λ i j hi hj e=>?_,λ x hx=>?_,by rw [ln];exact lt 2,by rw [ln];exact lt 3,by rw [ln];exact lt 4,(sg8 _ []).1,by rw [ln];omega⟩
 ·have li:pix c k i<NS.length:=by rw [o.ln];exact WM
  have lj:pix c k j<NS.length:=by rw [o.ln];exact WM
  rw [Y05,Y05,Y02 li,Y02 lj] at e
  have e:NS[pix c k i]=NS[pix c k j]:=e
  have e:=O8 o.nd li lj e
  unfold pix at e
  have hk:(k:Int)%2=0\/(k:Int)%2=1:=by omega
  rcases hk with q | q<;>rw [q] at e<;>omega
 ·obtain ⟨j,_,rfl⟩:=Y0v.mp hx
  exact o.so _ (z31 o WM)
theorem Yv {P:Hh}{kvs kvs':List (Key×D)}{x:Str}{v:D}(hl:kvs.length<1000000)(e:ZB kvs (.inr x) v=kvs'):Je (.loc P.length) (.str x) v (P++[.dK kvs])=some (P++[.dK kvs']):=by
 show (match (P++[O.dK kvs])[P.length]? with
  | some (.lst xs)=>none
  | some (.dK kvs)=>if kvs.length<1000000 then some ((P++[O.dK _]).set P.length (.dK (ZB kvs (.inr x) v))) else none
  | _=>none)=_
 rw [zV]
 simp only [hl,if_true]
 rw [Y19 _ _ (Y03 _),Y0w,e];rfl
theorem drE {cl:Nat->List D->Hh->Res D}{ρ:En}{j:Nat}{h:Hh}{p1 p2 p3 p4:Pos}(e:ρ[0]?=some (some (.int c)))(hc:cl 31 [.int c,.int (j:Nat)] h=.ok (.int (drw c j)) h):E.ev cl (.call 31 (.var 0 p1) (.cons (.int (j:Nat) p2) .nil) p3 p4) ρ h=.ok (.int (drw c j)) h :=
 bnd (x:=.int c) (h:=h) (by rw [zR,e]) (bnd (bnd rfl (bnd rfl rfl)) hc)
theorem z32 {NS:List Str}{mq:Nat}(o:NsOk NS)(g:H[mq]?=some (.lst (NS.map .str))):callI defs (n+2) 32 [.int c,.int (k:Nat),.loc mq] H=.ok (.loc (H.length+1)) (H++[.lst ((zA NS c k).ps.map .str),plD H.length (zA NS c k)]):=by
 rw [za (d:=qT) rfl rfl]
 have hm:=O7 c
 have tn:∀ i,((drw c i%many c).toNat:Int)=drw c i%many c:=λ i=>Y1k (Y1l _ (by omega))
 have C:∀ {p1 p2 p3 p4:Pos},E.ev (callI defs (n+1)) (.ofL (.comp e_law_plan_1 wN (.rng (.var 3 p1) p2 p3) c_law_plan_1 ["_law_j","_law_cell","_law_k","_law_names_here"] [none,some 0,some 1,some 2] ye p4)) [some (.int c),some (.int (k:Nat)),some (.loc mq),some (.int (many c:Nat)),none,none] H=.ok (.loc H.length) (H++[.lst ((zA NS c k).ps.map .str)]):=λ {p1 p2 p3 p4}=>by
  refine jd (q:=([],(List.range' 0 (many c)).map λ j=>.int (j:Nat))) (h2:=H) (WL rfl (by omega)) (by show _<=_;simp;omega) ?_
  have cc:=js (c:=[]) (f:=jk wN (qf [none,some 0,some 1,some 2] [some (.int c),some (.int (k:Nat)),some (.loc mq),some (.int (many c:Nat)),none,none]) (λ ρ' h2=>c_law_plan_1.evC (callI defs (n+1)) ρ' h2) (λ ρ' h2=>e_law_plan_1.ev (callI defs (n+1)) ρ' h2)) (h:=H) (λ _ hp=>nomatch hp) (λ d=>match d with | .int j=>some (.str (NS.getD (pix c k j.toNat) "")) | _=>none) ((List.range' 0 (many c)).map λ j=>D.int (j:Nat)) [] (λ z hz=>by
   obtain ⟨j,hj,rfl⟩:=Y0v.mp hz
   have hj:=Y1q.mp hj
   have h2:(k:Int)%2=0\/(k:Int)%2=1:=by omega
   have ix:((pix c k j:Nat):Int)=(drw c 1+(j:Int)*(1+2*((k:Int)%2)))%8:=Y1k (Y1l _ (by decide))
   refine jH rfl rfl (bnd rfl (bnd (x:=.int (pix c k j:Nat)) (h:=H) ?_ (yE g (atk (by rw [Y1g,Y0k,Y05,Y02 (show pix c k j<NS.length by rw [o.ln];exact WM)];rfl)))))
   rw [ix]
   exact bnd (bnd (bnd rfl (bnd (bnd rfl (bnd rfl rfl)) (Yu (k:=1) (by decide)))) (bnd (bnd rfl (bnd (bnd rfl (bnd (bnd rfl (bnd (bnd rfl (bnd rfl (mdk (by decide)))) (mlk (by decide) (mlt (by omega))))) rfl)) (mlk (mlt (by omega)) (mlt (by omega))))) rfl)) (bnd rfl (mdk (by decide))))
  refine cc.trans ?_
  rw [Y16,Y2c]
  unfold zA
  rw [Y1y]
  congr 1
  exact Y2e (f:=λ j:Nat=>D.str (NS.getD (pix c k j) ""))▸rfl
 generalize hP:H++[O.lst ((zA NS c k).ps.map .str)]=P at C
 have lP:P.length=H.length+1:=by rw [<- hP];simp
 have eA:H++[.lst ((zA NS c k).ps.map .str),plD H.length (zA NS c k)]=P++[plD H.length (zA NS c k)]:=by rw [<- hP,Y0e];rfl
 rw [eA,<- lP]
 have dr:∀ (j:Nat) (h:Hh),j<1000->callI defs (n+1) 31 [.int c,.int (j:Nat)] h=.ok (.int (drw c j)) h:=λ j h hj=>Yu hj
 have D5:∀ {p0 p1 p2 p3:Pos}{vs:Es},vs.ev (callI defs (n+1)) [some (.int c),some (.int (k:Nat)),some (.loc mq),some (.int (many c:Nat)),some (.loc H.length),none] (P++[.dK []])=.ok [.loc H.length,.int ((zA NS c k).co:Nat),.int ((zA NS c k).be:Nat)] (P++[.dK []])->E.ev (callI defs (n+1)) (.dispD [("params",p0),("counted",p1),("behind",p2)] vs p3) [some (.int c),some (.int (k:Nat)),some (.loc mq),some (.int (many c:Nat)),some (.loc H.length),none] P=.ok (.loc P.length) (P++[.dK [(.inr "params",.loc H.length),(.inr "counted",.int ((zA NS c k).co:Nat)),(.inr "behind",.int ((zA NS c k).be:Nat))]]):=λ {p0 p1 p2 p3 vs} e=>by
  rw [z2g]
  refine bnd e ?_
  show (match (P++[O.dK []])[P.length]? with | some (.dK [])=>Res.ok (D.loc P.length) ((P++[O.dK []]).set P.length (.dK _)) | _=>.no)=_
  rw [zV]
  show Res.ok (D.loc P.length) ((P++[O.dK []]).set P.length (.dK _))=_
  rw [Y19 _ _ (Y03 _),Y0w];rfl
 refine zg (ze (d:=.int (many c:Nat)) (bnd rfl (bnd (bnd (drE (j:=0) rfl (dr _ _ (by decide))) (bnd rfl (mdk (by decide)))) (by rw [hm.2.2];rfl))) (ze C (ze (D5 (bnd rfl (bnd (bnd (x:=.int ((zA NS c k).co:Nat)) (bnd (drE (j:=2) rfl (dr _ _ (by decide))) (bnd rfl ((mdk (by omega)).trans (by rw [<- tn 2];rfl)))) (bnd (bnd (x:=.int ((zA NS c k).be:Nat)) (bnd (drE (j:=3) rfl (dr _ _ (by decide))) (bnd rfl ((mdk (by omega)).trans (by rw [<- tn 3];rfl)))) (bnd rfl rfl)) rfl)) rfl)))
  (ZR (z:=.int ((zA NS c k).la:Nat)) (bnd (drE (j:=4) rfl (dr _ _ (by decide))) (bnd rfl ((mdk (by omega)).trans (by rw [<- tn 4];rfl)))) rfl rfl (Yv (kvs':=[(.inr "params",.loc H.length),(.inr "counted",.int ((zA NS c k).co:Nat)),(.inr "behind",.int ((zA NS c k).be:Nat)),(.inr "last",.int ((zA NS c k).la:Nat))]) (Y0i rfl) rfl)
  (ZR (z:=.str (zA NS c k).sg) (bnd rfl (bnd (bnd (drE (j:=5) rfl (dr _ _ (by decide))) (bnd rfl (mdk (by decide)))) (sg8 _ _).2)) rfl rfl (Yv (kvs':=[(.inr "params",.loc H.length),(.inr "counted",.int ((zA NS c k).co:Nat)),(.inr "behind",.int ((zA NS c k).be:Nat)),(.inr "last",.int ((zA NS c k).la:Nat)),(.inr "sign",.str (zA NS c k).sg)]) (Y0i rfl) rfl)
  (ZR (z:=.bl (zA NS c k).tn) (ju (zf (bnd (drE (j:=6) rfl (dr _ _ (by decide))) (bnd rfl (mdk (by decide)))) rfl eqI)) rfl rfl (Yv (kvs':=[(.inr "params",.loc H.length),(.inr "counted",.int ((zA NS c k).co:Nat)),(.inr "behind",.int ((zA NS c k).be:Nat)),(.inr "last",.int ((zA NS c k).la:Nat)),(.inr "sign",.str (zA NS c k).sg),(.inr "turned",.bl (zA NS c k).tn)]) (Y0i rfl) rfl) (zo rfl)))))))
end
end K43
namespace K43
open PySem L2 PI
structure PlAt (H:Hh)(m q:Nat)(p:Pl):Prop where
 d:H[m]?=some (plD q p)
 l:H[q]?=some (.lst (p.ps.map .str))
theorem PlAt.mono {H H':Hh}{m q:Nat}{p:Pl}(h:PlAt H m q p)(e:∀ (i:Nat) (o:O),H[i]?=some o->H'[i]?=some o):PlAt H' m q p:=⟨e _ _ h.d,e _ _ h.l⟩
noncomputable def s3:List Str:=["+","-","<"]
noncomputable def J0 (p:Pl)(c:Int)(j:Nat):T :=
 if drw c (9+3*j)%4=0 then .num (drw c (8+3*j)%1000003)
 else if drw c (9+3*j)%4=1 then .op (s3.getD (drw c (8+3*j)%1000003%3).toNat "") (.var (pA p (drw c (7+3*j)%p.ps.length).toNat)) (.num (drw c (8+3*j)%1000003))
 else .var (pA p (drw c (7+3*j)%p.ps.length).toNat)
noncomputable def jp (p pc:Pl)(c:Int):List T:=((List.range' 0 pc.ps.length).map (J0 p c)).set pc.co (.op "-" (.var (pA p p.co)) (.num 1))
theorem sg3 (r:Int)(h:Hh):Sg (s3.getD (r%3).toNat "")/\jg (.str "+-<") (.int (r%3)) h=.ok (.str (s3.getD (r%3).toNat "")) h:=by
 have m:r%3=0\/r%3=1\/r%3=2:=by omega
 unfold Sg
 rcases m with q | q | q<;>rw [q]
 ·exact ⟨.inl rfl,rfl⟩
 ·exact ⟨.inr (.inl rfl),rfl⟩
 ·exact ⟨.inr (.inr (.inr rfl)),rfl⟩
theorem Qq {p:Pl}{r:Int}(h:0<p.ps.length):(r%(p.ps.length:Int)).toNat<p.ps.length:=by
 have h1:=Y1l r (b:=(p.ps.length:Int)) (by omega)
 have h2:=Y1w r (b:=(p.ps.length:Int)) (by omega)
 omega
theorem BL {p:Pl}{c:Int}{j:Nat}(h:0<p.ps.length):(J0 p c j).ok p.ps:=by
 have hn:Sm (drw c (8+3*j)%1000003):=by unfold Sm;omega
 unfold J0
 split
 ·exact hn
 ·split
  ·exact ⟨(sg3 _ []).1,qt (Qq h),hn⟩
  ·exact qt (Qq h)
theorem O9 {p pc:Pl}{c:Int}(o:p.ok):∀ t∈jp p pc c,t.ok p.ps:=λ t ht=>by
 rcases Y2j ht with h | h
 ·obtain ⟨j,_,rfl⟩:=Y0v.mp h
  exact BL (by have:=o.co;omega)
 ·rw [h];exact ⟨.inr (.inl rfl),qt o.co,by show Sm 1;unfold Sm;decide⟩
theorem Vc {p pc:Pl}{c:Int}:(jp p pc c).length=pc.ps.length:=by unfold jp;simp
theorem Oa {p pc:Pl}{c:Int}(o:pc.ok):(jp p pc c)[pc.co]?=some (.op "-" (.var (pA p p.co)) (.num 1)):=by
 unfold jp
 rw [Y0r (by simp;exact o.co)]
theorem Vd {cl:Nat->List D->Hh->Res D}{ρ:En}{h h1 h2 h3 h4:Hh}{e1 e2 e3 e4:E}{p:Pos}{x y z u:D}(q1:e1.ev cl ρ h=.ok x h1)(q2:e2.ev cl ρ h1=.ok y h2)(q3:e3.ev cl ρ h2=.ok z h3)(q4:e4.ev cl ρ h3=.ok u h4):E.ev cl (.tup (.cons e1 (.cons e2 (.cons e3 (.cons e4 .nil)))) p) ρ h=.ok (.tup [x,y,z,u]) h4:=bnd (bnd q1 (bnd (bnd q2 (bnd (bnd q3 (bnd (bnd q4 (bnd rfl rfl)) rfl)) rfl)) rfl)) rfl
section
variable {n:Nat}{c:Int}{H:Hh}{k m q mc qc:Nat}{p pc:Pl}
theorem PlAt.par (a:PlAt H m q p):jg (.loc m) (.str "params") H=.ok (.loc q) H:=Jj a.d rfl
theorem PlAt.cnt (a:PlAt H m q p):jg (.loc m) (.str "counted") H=.ok (.int (p.co:Nat)) H:=Jj a.d rfl
theorem PlAt.beh (a:PlAt H m q p):jg (.loc m) (.str "behind") H=.ok (.int (p.be:Nat)) H:=Jj a.d rfl
theorem PlAt.las (a:PlAt H m q p):jg (.loc m) (.str "last") H=.ok (.int (p.la:Nat)) H:=Jj a.d rfl
theorem PlAt.sig (a:PlAt H m q p):jg (.loc m) (.str "sign") H=.ok (.str p.sg) H:=Jj a.d rfl
theorem PlAt.trn (a:PlAt H m q p):jg (.loc m) (.str "turned") H=.ok (.bl p.tn) H:=Jj a.d rfl
theorem PlAt.at (a:PlAt H m q p){i:Nat}(h:i<p.ps.length):jg (.loc q) (.int (i:Nat)) H=.ok (.str (pA p i)) H :=
 yE a.l (atk (by unfold pA;rw [Y0k,Y05,Y02 h];rfl))
theorem PlAt.len (a:PlAt H m q p):Z2 (.loc q) H=.ok (.int (p.ps.length:Nat)) H:=by rw [len_loc a.l,Y0j]
theorem drJ {cl:Nat->List D->Hh->Res D}{ρ:En}{a j:Nat}{p1 p2 p3 p4 p5 p6 p7 p8:Pos}(e:ρ[0]?=some (some (.int c)))(e1:ρ[1]?=some (some (.int (j:Nat))))(hj:j<300)(hc:∀ i,i<1000->cl 31 [.int c,.int (i:Nat)] H=.ok (.int (drw c i)) H)(ha:a<10) :
  E.ev cl (.call 31 (.var 0 p1) (.cons (.bin .Add (.int (a:Nat) p2) (.bin .Mult (.int 3 p3) (.var 1 p4) p5) p6) .nil) p7 p8) ρ H=.ok (.int (drw c (a+3*j))) H:=by
 have q:=hc (a+3*j) (by omega)
 rw [show ((a+3*j:Nat):Int)=(a:Int)+3*(j:Int) from by omega] at q
 exact bnd (x:=.int c) (h:=H) (by rw [zR,e]) (bnd (bnd (bnd rfl (bnd (bnd rfl (bnd (x:=.int (j:Nat)) (h:=H) (by rw [zR,e1]) (mlk (by decide) (mlt (by omega))))) rfl)) (bnd rfl rfl)) q)
theorem z4z {j:Nat}(a:PlAt H m q p)(h0:0<p.ps.length)(hj:j<300):callI defs (n+2) 33 [.int c,.int (j:Nat),.loc m] H=.ok (J0 p c j).d H:=by
 rw [za (d:=yC) rfl rfl]
 have dr:∀ i,i<1000->callI defs (n+1) 31 [.int c,.int (i:Nat)] H=.ok (.int (drw c i)) H:=λ i hi=>Yu hi
 have tn:((drw c (7+3*j)%p.ps.length).toNat:Int)=drw c (7+3*j)%p.ps.length:=Y1k (Y1l _ (by omega))
 refine zg (ze (d:=.str (pA p (drw c (7+3*j)%p.ps.length).toNat)) (bnd (bnd rfl (bnd rfl a.par)) (bnd (x:=.int ((drw c (7+3*j)%p.ps.length).toNat:Nat)) (h:=H) (by rw [tn];exact bnd (drJ (a:=7) rfl rfl hj dr (by decide)) (bnd (bnd (bnd rfl (bnd rfl a.par)) a.len) (mdk (by omega)))) (a.at (Qq h0)))) (ze (d:=.int (drw c (8+3*j)%1000003)) (bnd (drJ (a:=8) rfl rfl hj dr (by decide)) (bnd rfl (mdk (by decide)))) (ze (d:=.int (drw c (9+3*j)%4)) (bnd (drJ (a:=9) rfl rfl hj dr (by decide)) (bnd rfl (mdk (by decide)))) ?_)))
 unfold J0
 by_cases z0:drw c (9+3*j)%4=0
 ·rw [if_pos z0]
  exact jb (JN rfl (by rw [z0];rfl)) (zo (jv rfl rfl))
 ·rw [if_neg z0]
  refine zi (JN rfl (by simpa using z0)) ?_
  by_cases z1:drw c (9+3*j)%4=1
  ·rw [if_pos z1]
   exact jb (JN rfl (by rw [z1];rfl)) (zo (Vd rfl (bnd rfl (bnd (bnd rfl (bnd rfl (mdk (by decide)))) (sg3 _ _).2)) (jv rfl rfl) (jv rfl rfl)))
  ·rw [if_neg z1]
   exact zi (JN rfl (by simpa using z1)) (zo (jv rfl rfl))
theorem z0g {P:Hh}{xs:List D}{i:Nat}{v:D}(hi:i<xs.length):Je (.loc P.length) (.int (i:Nat)) v (P++[.lst xs])=some (P++[.lst (xs.set i v)]):=by
 unfold Je
 simp only [zV,ixk hi,Y29]
 rw [Y19 _ _ (Y03 _),Y0w];rfl
theorem z33 (a:PlAt H m q p)(ac:PlAt H mc qc pc)(o:p.ok)(oc:pc.ok):callI defs (n+3) 34 [.int c,.loc m,.loc mc] H=.ok (.loc H.length) (H++[.lst ((jp p pc c).map T.d)]):=by
 rw [za (d:=qU) rfl rfl]
 have l8:=oc.le
 have C:∀ {p1 p2 p3 p4 p5 p6 p7 p8 p9:Pos},E.ev (callI defs (n+2)) (.ofL (.comp e_law_args_1 wO (.rng (.len (.sub (.var 2 p1) (.str "params" p2) p3) p4 p5) p6 p7) c_law_args_1 ["_law_j","_law_cell","_law_plan_here"] [none,some 0,some 1] yf p8)) [some (.int c),some (.loc m),some (.loc mc),none] H=.ok (.loc H.length) (H++[.lst (((List.range' 0 pc.ps.length).map (J0 p c)).map T.d)]):=λ {p1 p2 p3 p4 p5 p6 p7 p8 p9}=>by
  refine jd (q:=([],(List.range' 0 pc.ps.length).map λ j=>.int (j:Nat))) (h2:=H) (WL (bnd (bnd rfl (bnd rfl ac.par)) ac.len) (by omega)) (by show _<=_;simp;omega) ?_
  have cc:=js (c:=[]) (f:=jk wO (qf [none,some 0,some 1] [some (.int c),some (.loc m),some (.loc mc),none]) (λ ρ' h2=>c_law_args_1.evC (callI defs (n+2)) ρ' h2) (λ ρ' h2=>e_law_args_1.ev (callI defs (n+2)) ρ' h2)) (h:=H) (λ _ hp=>nomatch hp) (λ d=>match d with | .int j=>some (J0 p c j.toNat).d | _=>none) ((List.range' 0 pc.ps.length).map λ j=>D.int (j:Nat)) [] (λ z hz=>by
   obtain ⟨j,hj,rfl⟩:=Y0v.mp hz
   have hj:=Y1q.mp hj
   refine jH rfl rfl (bnd rfl (bnd (bnd rfl (bnd (bnd rfl (bnd rfl rfl)) rfl)) ?_))
   have:=z4z (n:=n) (c:=c) (j:=j) a (by have:=o.co;omega) (by omega)
   rw [Y1g]
   exact this)
  refine cc.trans ?_
  rw [Y16,Y2c,Y1y]
  congr 1
  exact Y2e (f:=λ j:Nat=>(J0 p c j).d)▸rfl
 have e:(jp p pc c).map T.d=(((List.range' 0 pc.ps.length).map (J0 p c)).map T.d).set pc.co (T.op "-" (.var (pA p p.co)) (.num 1)).d:=by unfold jp;rw [List.map_set]
 rw [e]
 have A:∀ (B:Hh),PlAt (H++B) m q p:=λ B=>a.mono λ _ _=>zj
 have AC:∀ (B:Hh),PlAt (H++B) mc qc pc:=λ B=>ac.mono λ _ _=>zj
 exact zg (ze (C (p9:=⟨0,0,0,0⟩)) (ZR (Vd rfl rfl (jv rfl (bnd (bnd rfl (bnd rfl (A _).par)) (bnd (bnd rfl (bnd rfl (A _).cnt)) ((A _).at o.co)))) (jv rfl rfl)) rfl (bnd rfl (bnd rfl (AC _).cnt)) (z0g (by simp;exact oc.co)) (zo rfl)))
theorem z6m {cl:Nat->List D->Hh->Res D}{ρ:En}{h h1 h2 h3 h4 h5:Hh}{e1 e2 e3 e4 e5:E}{p:Pos}{x y z u v:D}(q1:e1.ev cl ρ h=.ok x h1)(q2:e2.ev cl ρ h1=.ok y h2)(q3:e3.ev cl ρ h2=.ok z h3)(q4:e4.ev cl ρ h3=.ok u h4)(q5:e5.ev cl ρ h4=.ok v h5):E.ev cl (.tup (.cons e1 (.cons e2 (.cons e3 (.cons e4 (.cons e5 .nil))))) p) ρ h=.ok (.tup [x,y,z,u,v]) h5:=bnd (bnd q1 (bnd (bnd q2 (bnd (bnd q3 (bnd (bnd q4 (bnd (bnd q5 (bnd rfl rfl)) rfl)) rfl)) rfl)) rfl)) rfl
theorem Um {m:Nat}{xs:List D}(g:H[m]?=some (.lst xs)):wR (.loc m) H=some xs:=by
 show PI.rd H m=_
 exact rdl g
theorem z50 {x g:Str}{as:List T}{ma:Nat}(a:PlAt H m q p)(o:p.ok)(ga:H[ma]?=some (.lst (as.map T.d))):callI defs (n+1) 35 [.str x,.loc m,.str g,.loc ma] H=.ok (it x (.tup (p.ps.map .str)) (bdO p g as)) H:=by
 rw [za (d:=d_law_function) rfl rfl]
 have fin:∀ (b:D),Ss.run (callI defs n) (jm 4 d_law_function.body) [some (.str x),some (.loc m),some (.str g),some (.loc ma),some (cdO g as),some (yi (pA p p.be)),some b,none,none] H=.rt (it x (.tup (p.ps.map .str)) (JW (pA p p.co) (pA p p.la) b)) H:=λ b =>
  ze (bnd rfl (bnd rfl a.par)) (ze (Vd rfl (jv rfl (bnd rfl (bnd (bnd rfl (bnd rfl a.cnt)) (a.at o.co)))) rfl (jv rfl (bnd rfl (bnd (bnd rfl (bnd rfl a.las)) (a.at o.la))))) (zo (z6m rfl rfl (Yi rfl (Um a.l)) rfl rfl)))
 refine zg (ze (d:=cdO g as) (Vd rfl rfl rfl (Yi rfl (Um ga))) (ze (d:=yi (pA p p.be)) (jv rfl (bnd (bnd rfl (bnd rfl a.par)) (bnd (bnd rfl (bnd rfl a.beh)) (a.at o.be)))) (ze (d:=.tup [.str "op",.str p.sg,cdO g as,yi (pA p p.be)]) (Vd rfl (bnd rfl (bnd rfl a.sig)) rfl rfl) ?_)))
 unfold bdO ZZ
 cases ht:p.tn with
 | true=>exact jc (bnd (bnd rfl (bnd rfl a.trn)) (by rw [ht])) (ze (Vd rfl (bnd rfl (bnd rfl a.sig)) rfl rfl) rfl) (fin _)
 | false=>exact zi (bnd (bnd rfl (bnd rfl a.trn)) (by rw [ht])) (fin _)
end
end K43
namespace K43
open PySem L2 PI
inductive Sh (p:Pl):T->Prop
 | num {v:Int}:Sm v->Sh p (.num v)
 | var {i:Nat}:i<p.ps.length->Sh p (.var (pA p i))
 | op {s:Str}{i:Nat}{v:Int}:Sg s->i<p.ps.length->Sm v->Sh p (.op s (.var (pA p i)) (.num v))
theorem BM {p:Pl}{c:Int}{j:Nat}(h:0<p.ps.length):Sh p (J0 p c j):=by
 have hn:Sm (drw c (8+3*j)%1000003):=by unfold Sm;omega
 unfold J0
 split
 ·exact .num hn
 ·split
  ·exact .op (sg3 _ []).1 (Qq h) hn
  ·exact .var (Qq h)
theorem Ob {p pc:Pl}{c:Int}(o:p.ok):∀ t∈jp p pc c,Sh p t:=λ t ht=>by
 rcases Y2j ht with h | h
 ·obtain ⟨j,_,rfl⟩:=Y0v.mp h
  exact BM (by have:=o.co;omega)
 ·rw [h];exact .op (.inr (.inl rfl)) o.co (by unfold Sm;decide)
theorem Qr:∀ (ps:List Str) (i:Nat) (x:Str),ps.Nodup->ps[i]?=some x->(ps.map D.str).findIdx? (λ y=>eqV (vOf y) (vOf (.str x)))=some i
 | [],i,x,nd,e=>by simp at e
 | p::ps,0,x,nd,e=>by
  cases e
  rw [Y0h,Y3c,show eqV (vOf (.str p)) (vOf (.str p))=true from beq_self_eq_true p];rfl
 | p::ps,i+1,x,nd,e=>by
  have nd:=Y1j.mp nd
  have ne:eqV (vOf (.str p)) (vOf (.str x))=false:=beq_eq_false_iff_ne.mpr λ z=>nd.1 (z▸Y12 e)
  rw [Y0h,Y3c,ne,Qr ps i x nd.2 e];rfl
theorem Ve (ps:List Str):(ps.map D.str).all jW=true:=by
 rw [Y10]
 intro d hd
 obtain ⟨x,_,rfl⟩:=Y0v.mp hd
 rfl
section
variable {n:Nat}{c:Int}{H:Hh}{k m q mn:Nat}{p:Pl}{nums:List Int}
theorem yG (g:H[mn]?=some (.lst (nums.map .int))){i:Nat}(h:i<nums.length):jg (.loc mn) (.int (i:Nat)) H=.ok (.int (nums.getD i 0)) H :=
 yE g (atk (by rw [Y0k,Y05,Y02 h];rfl))
theorem z0h {cl:Nat->List D->Hh->Res D}{ρ:En}{oe ae:E}{p1 p2:Pos}{i:Nat}(a:PlAt H m q p)(o:p.ok)(hi:i<p.ps.length)(ho:oe.ev cl ρ H=.ok (.loc q) H)(ha:ae.ev cl ρ H=.ok (.str (pA p i)) H):E.ev cl (.m1 .index oe ae p1 p2) ρ H=.ok (.int (i:Nat)) H:=by
 rw [vm1]
 refine bnd ho ?_
 rw [Wv a.l]
 refine bnd ha ?_
 have f:=Qr p.ps i (pA p i) o.nd (by unfold pA;rw [Y05,Y02 hi];rfl)
 have l8:(p.ps.map D.str).length<=1000000:=by have:=o.le;simp;omega
 show (match H[q]? with
  | some (.lst xs)=>if jW (.str (pA p i))=true/\xs.all jW=true/\xs.length<=1000000 then (match xs.findIdx? λ y=>eqV (vOf y) (vOf (.str (pA p i))) with | some j=>Res.ok (D.int (j:Nat)) H | none=>.no) else .no
  | _=>.no)=_
 rw [a.l]
 show (if jW (.str (pA p i))=true/\(p.ps.map D.str).all jW=true/\(p.ps.map D.str).length<=1000000 then (match (p.ps.map D.str).findIdx? λ y=>eqV (vOf y) (vOf (.str (pA p i))) with | some j=>Res.ok (D.int (j:Nat)) H | none=>.no) else .no)=_
 rw [if_pos ⟨rfl,Ve _,l8⟩,f]
theorem z51 {t:T}(a:PlAt H m q p)(o:p.ok)(k:NumOk p nums)(g:H[mn]?=some (.lst (nums.map .int)))(h:Sh p t):callI defs (n+2) 36 [t.d,.loc m,.loc mn] H=.ok (opI (val t (knO p nums))) H:=by
 rw [za (d:=jC) rfl rfl]
 cases h with
 | num hv=>exact zg (jb (zf rfl rfl (eqS jU jU)) (zo rfl))
 | @var i hi =>
  rw [show val (.var (pA p i)) (knO p nums)=some (nums.getD i 0) from qL o k hi]
  exact zg (zi (zf rfl rfl (eqS jV jU)) (jb (zf rfl rfl (eqS jV jV)) (zo (bnd rfl (bnd (z0h a o hi (bnd rfl (bnd rfl a.par)) rfl) (yG g (by rw [k.ln];exact hi)))))))
 | @op s i v hs hi hv =>
  have e:val (.op s (.var (pA p i)) (.num v)) (knO p nums)=zP s (nums.getD i 0) v:=by
   show ((knO p nums).lookup (pA p i)).bind (λ a=>(some v).bind λ b=>zP s a b)=_
   rw [qL o k hi];rfl
  rw [e]
  exact zg (zi (zf rfl rfl (eqS yS jU)) (zi (zf rfl rfl (eqS yS jV)) (zo (bnd rfl (bnd (bnd (bnd rfl (bnd (z0h a o hi (bnd rfl (bnd rfl a.par)) rfl) (yG g (by rw [k.ln];exact hi)))) (bnd (bnd (bnd (bnd rfl (bnd rfl rfl)) (bnd rfl rfl)) (bnd rfl rfl)) rfl)) ((za (d:=d_law_reckoned) rfl rfl).trans (WJ hs (Zf k.sm) hv)))))))
end
structure Ev (H:Hh)(mp mr N:Nat)(ms qs rs:Nat->Nat)(P:Nat->Pl)(A:Nat->List T):Prop where
 pl:H[mp]?=some (.lst ((List.range' 0 N).map λ k=>.loc (ms k)))
 rw_:H[mr]?=some (.lst ((List.range' 0 N).map λ k=>.loc (rs k)))
 at_:∀ k,k<N->PlAt H (ms k) (qs k) (P k)
 ar:∀ k,k<N->H[rs k]?=some (.lst ((A k).map T.d))
theorem Ev.mono {H H':Hh}{mp mr N:Nat}{ms qs rs:Nat->Nat}{P:Nat->Pl}{A:Nat->List T}(h:Ev H mp mr N ms qs rs P A)(e:∀ (i:Nat) (o:O),H[i]?=some o->H'[i]?=some o):Ev H' mp mr N ms qs rs P A :=
 ⟨e _ _ h.pl,e _ _ h.rw_,λ k hk=>(h.at_ k hk).mono e,λ k hk=>e _ _ (h.ar k hk)⟩
structure Cr where
 k:Nat
 nums:List Int
 at_:Nat
noncomputable def Cr.d (x:Cr):D:=.tup [.int (x.k:Nat),.loc x.at_]
noncomputable def crs (L:List Cr):List (Nat×List Int):=L.map λ x=>(x.k,x.nums)
theorem z34 {ck:Ck}{f:D->En->Hh->RS}{l:List D}{x d:D}{ρ:En}{h h':Hh}(hs:stay ck h)(hf:f x ρ h=.rt d h'):jz ck f (x::l) ρ h=.rt d h':=by
 rw [jz,if_pos hs,hf]
section
variable {n:Nat}{H:Hh}{mp mr N lc:Nat}{ms qs rs:Nat->Nat}{P:Nat->Pl}{A:Nat->List T}
theorem Ev.sub (E:Ev H mp mr N ms qs rs P A){k:Nat}(h:k<N):jg (.loc mp) (.int (k:Nat)) H=.ok (.loc (ms k)) H :=
 yE E.pl (atk (by rw [Y0k,Y1o h];simp))
theorem Ev.row (E:Ev H mp mr N ms qs rs P A){k:Nat}(h:k<N):jg (.loc mr) (.int (k:Nat)) H=.ok (.loc (rs k)) H :=
 yE E.rw_ (atk (by rw [Y0k,Y1o h];simp))
noncomputable def z35 (H:Hh)(N:Nat)(P:Nat->Pl)(x:Cr):Prop:=x.k<N/\NumOk (P x.k) x.nums/\H[x.at_]?=some (.lst (x.nums.map .int))
theorem JX (E:Ev H mp mr N ms qs rs P A)(po:∀ k,k<N->(P k).ok){xs:List D}(g:H[lc]?=some (.lst xs)):∀ (L:List Cr) (v:Int) (a b d:Option D),(∀ x∈L,z35 H N P x)->Sm v ->
  (∀ z,qw P (crs L) v=some z->∃ a' b' d',jz [(lc,xs)] (zQ jK λ ρ' h'=>b_law_back_1.run (callI defs (n+1)) ρ' h') (L.map Cr.d) [some (.loc mp),some (.loc lc),some (.int v),a,b,d] H=.nx [some (.loc mp),some (.loc lc),some (.int z),a',b',d'] H) /\
  (qw P (crs L) v=none->jz [(lc,xs)] (zQ jK λ ρ' h'=>b_law_back_1.run (callI defs (n+1)) ρ' h') (L.map Cr.d) [some (.loc mp),some (.loc lc),some (.int v),a,b,d] H=.rt wt H)
 | [],v,a,b,d,o,hv=>⟨λ z e=>by cases e;exact ⟨a,b,d,if_pos (λ p hp=>by rw [Y0m.mp hp];exact rdl g)⟩,λ e=>by cases e⟩
 | x::L,v,a,b,d,o,hv=>by
  obtain ⟨xk,xn,xg⟩:=o x Y0b
  have st:stay [(lc,xs)] H:=λ p hp=>by rw [Y0m.mp hp];exact rdl g
  have pa:=E.at_ _ xk
  have pk:=po _ xk
  have bs:=Zf (i:=(P x.k).be) xn.sm
  have eb:qw P (crs (x::L)) v=(qr (P x.k).tn (P x.k).sg v (x.nums.getD (P x.k).be 0)).bind λ z=>qw P (crs L) z:=rfl
  have V0:Ss.run (callI defs (n+1)) (jm 2 b_law_back_1) [some (.loc mp),some (.loc lc),some .non,some (.int (x.k:Nat)),some (.loc x.at_),some (.int (x.nums.getD (P x.k).be 0))] H=.rt wt H:=jb (zf rfl rfl rfl) (zo (bnd (bnd rfl (bnd rfl rfl)) rfl))
  have V1:∀ i:Int,Ss.run (callI defs (n+1)) (jm 2 b_law_back_1) [some (.loc mp),some (.loc lc),some (.int i),some (.int (x.k:Nat)),some (.loc x.at_),some (.int (x.nums.getD (P x.k).be 0))] H=.nx [some (.loc mp),some (.loc lc),some (.int i),some (.int (x.k:Nat)),some (.loc x.at_),some (.int (x.nums.getD (P x.k).be 0))] H:=λ i=>zi (zf rfl rfl rfl) rfl
  have S:zQ jK (λ ρ' h'=>b_law_back_1.run (callI defs (n+1)) ρ' h') x.d [some (.loc mp),some (.loc lc),some (.int v),a,b,d] H=Ss.run (callI defs (n+1)) (jm 2 b_law_back_1) [some (.loc mp),some (.loc lc),some (opI (qr (P x.k).tn (P x.k).sg v (x.nums.getD (P x.k).be 0))),some (.int (x.k:Nat)),some (.loc x.at_),some (.int (x.nums.getD (P x.k).be 0))] H:=by
   have oth:∀ {ρ:En},ρ[0]?=some (some (.loc mp))->ρ[3]?=some (some (.int (x.k:Nat)))->∀ {p1 p2 p3:Pos},PI.E.ev (callI defs (n+1)) (.sub (.var 0 p1) (.var 3 p2) p3) ρ H=.ok (.loc (ms x.k)) H:=λ {ρ} e0 e3 {p1 p2 p3}=>bnd (x:=.loc mp) (h:=H) (by rw [zR,e0]) (bnd (x:=.int (x.k:Nat)) (h:=H) (by rw [zR,e3]) (E.sub xk))
   refine ze (d:=.int (x.nums.getD (P x.k).be 0)) (bnd rfl (bnd (bnd (oth rfl rfl) (bnd rfl pa.beh)) (yG xg (by rw [xn.ln];exact pk.be)))) ?_
   unfold qr
   cases ht:(P x.k).tn with
   | true=>exact jc (bnd (bnd (oth rfl rfl) (bnd rfl pa.trn)) (by rw [ht])) (ze (bnd (bnd (oth rfl rfl) (bnd rfl pa.sig)) (bnd (bnd rfl (bnd (bnd rfl (bnd rfl rfl)) rfl)) ((za (d:=d_law_reckoned) rfl rfl).trans (WJ pk.sg bs hv)))) rfl) rfl
   | false=>exact zM (bnd (bnd (oth rfl rfl) (bnd rfl pa.trn)) (by rw [ht])) (ze (bnd (bnd (oth rfl rfl) (bnd rfl pa.sig)) (bnd (bnd rfl (bnd (bnd rfl (bnd rfl rfl)) rfl)) ((za (d:=d_law_reckoned) rfl rfl).trans (WJ pk.sg hv bs)))) rfl) rfl
  cases e:qr (P x.k).tn (P x.k).sg v (x.nums.getD (P x.k).be 0) with
  | none =>
   rw [e] at S eb
   exact ⟨λ z h=>(by rw [eb] at h;cases h),λ _=>z34 st (S.trans V0)⟩
  | some w =>
   rw [e] at S eb
   have nx:=S.trans (V1 w)
   obtain ⟨X,Y⟩:=JX E po g L w (some (.int (x.k:Nat))) (some (.loc x.at_)) (some (.int (x.nums.getD (P x.k).be 0))) (λ y hy=>o y (Y04 _ hy)) (Ql e)
   rw [eb]
   refine ⟨λ z h=>?_,λ h=>jR st nx (Y h)⟩
   obtain ⟨a',b',d',e'⟩:=X z h
   exact ⟨a',b',d',jR st nx e'⟩
theorem z36 (E:Ev H mp mr N ms qs rs P A)(po:∀ k,k<N->(P k).ok)(L:List Cr)(g:H[lc]?=some (.lst (L.reverse.map Cr.d)))(v:Int)(o:∀ x∈L,z35 H N P x)(hv:Sm v):callI defs (n+2) 37 [.loc mp,.loc lc,.int v] H=.ok (BC (qw P (crs L) v)) H:=by
 rw [za (d:=qV) rfl rfl]
 obtain ⟨X,Y⟩:=JX (n:=n) E po g L v none none none o hv
 have rv:z24 (.loc lc) H=.ok ([(lc,L.reverse.map Cr.d)],L.map Cr.d) H:=by
  show (match PI.rd H lc with | some xs=>Res.ok (([(lc,xs)],xs.reverse):Ck×List D) H | none=>.no)=_
  rw [rdl g]
  show Res.ok (([(lc,L.reverse.map Cr.d)],(L.reverse.map Cr.d).reverse):Ck×List D) H=_
  rw [<- Y3l,List.reverse_reverse]
 cases e:qw P (crs L) v with
 | none=>exact zg (z2n (bnd rfl rv) (Y e))
 | some z =>
  obtain ⟨a',b',d',e'⟩:=X z e
  exact zg (j7 (bnd rfl rv) e' (zo (jv rfl rfl)))
end
end K43
namespace K43
open PySem L2 PI
theorem yj {H J:Hh}{o:O}:(H++(o::J))[H.length]?=some o:=by rw [Y08 (Y03 _),Y0w];rfl
theorem Zg {H J:Hh}{o o':O}:(H++(o::J)).set H.length o'=H++(o'::J):=by rw [Y19 _ _ (Y03 _),Y0w];rfl
theorem BN {H J:Hh}{o o' x:O}{i:Nat}(ne:i≠H.length)(e:(H++(o::J))[i]?=some x):(H++(o'::J))[i]?=some x:=by rw [<- Zg (o:=o)];exact zv ne e
theorem Uo {H J B:Hh}{o o' x:O}{i:Nat}(ne:i≠H.length)(e:(H++(o::J))[i]?=some x):(H++(o'::(J++B)))[i]?=some x:=by
 have:(H++(o'::J))[i]?=some x:=by rw [<- Zg (o:=o)];exact zv ne e
 have:=zj (B:=B) this
 rw [Y0e] at this
 exact this
theorem yH {α:Type}{c:Ck}{f:D->Hh->Res (Option D)}{h:Hh}(st:stay c h)(en out:α->D):∀ (xs:List α) (acc:List D),(∀ x∈xs,f (en x) h=.ok (some (out x)) h)->zX c f (xs.map en) acc h=.ok (acc++xs.map out) h
 | [],acc,_=>by simp [zX,st]
 | x::r,acc,e=>by
  rw [Y0h]
  unfold zX
  rw [if_pos st,e x Y0b,bind_ok,addO_some,yH st en out r _ λ y hy=>e y (Y04 _ hy)]
  simp
theorem Up {kn:List (Str×Int)}:∀ (as:List T),(∀ vs,vals as kn=some vs->(as.map λ t=>opI (val t kn))=vs.map D.int)/\(vals as kn=none->D.non∈as.map λ t=>opI (val t kn))
 | []=>⟨λ vs e=>(by cases e;rfl),λ e=>(by cases e)⟩
 | t::r=>by
  have ve:vals (t::r) kn=(val t kn).bind λ v=>(vals r kn).bind λ vs=>some (v::vs):=rfl
  obtain ⟨X,Y⟩:=Up (kn:=kn) r
  cases e1:val t kn with
  | none=>rw [ve,e1];exact ⟨λ vs e=>(by cases e),λ _=>by rw [Y0h,e1];exact Y0b⟩
  | some v =>
   cases e2:vals r kn with
   | none=>rw [ve,e1,e2];exact ⟨λ vs e=>(by cases e),λ _=>by rw [Y0h];exact Y04 _ (Y e2)⟩
   | some us=>rw [ve,e1,e2];exact ⟨λ vs e=>(by cases e;rw [Y0h,e1,X us e2];rfl),λ e=>(by cases e)⟩
theorem z52 {H:Hh}{m:Nat}{os:List (Option Int)}{b:Bool}(g:H[m]?=some (.lst (os.map opI)))(hb:(os.map opI).any (λ y=>eqV (vOf y) (vOf .non))=b):j0 .In .non (.loc m) H=.ok (.bl b) H:=by
 have q:j0 .In .non (.loc m) H=match H[m]? with
  | some (.lst ds)=>Z0 false .non ds H
  | some (.dK kvs)=>(match wU .non with | some k=>Res.ok (.bl (ngB false (jf kvs k).isSome)) H | none=>.no)
  | _=>.no:=rfl
 have fl:(os.map opI).all jW=true:=by
  rw [Y10]
  intro d hd
  obtain ⟨x,_,rfl⟩:=Y0v.mp hd
  cases x<;>rfl
 rw [q,g]
 show Z0 false .non (os.map opI) H=_
 unfold Z0
 rw [if_pos ⟨rfl,fl⟩,hb];rfl
section
variable {P:Nat->Pl}{A:Nat->List T}{nx:Nat->Nat}{bd:Int}
theorem Oc:∀ (cn k:Nat) (nums:List Int) (cs:List (Nat×List Int)),cs.length<=(jh P A nx bd cn k nums cs).2
 | 0,k,nums,cs=>Y03 _
 | cn+1,k,nums,cs=>by
  unfold jh
  cases vals (A k) (knO (P k) nums) with
  | none=>exact Y03 _
  | some vs =>
   show cs.length<=(if (cs.length:Int)<bd then jh P A nx bd cn (nx k) vs ((k,nums)::cs) else (wu,cs.length)).2
   split
   ·have:=Oc cn (nx k) vs ((k,nums)::cs)
    rw [Y06] at this
    omega
   ·exact Y03 _
theorem z37 {o:Option Int}:Ed (BC o):=by cases o;exact .great;exact .done _
theorem Od:∀ (cn k:Nat) (nums:List Int) (cs:List (Nat×List Int)),Ed (jh P A nx bd cn k nums cs).1
 | 0,k,nums,cs=>z37
 | cn+1,k,nums,cs=>by
  unfold jh
  cases vals (A k) (knO (P k) nums) with
  | none=>exact .great
  | some vs =>
   show Ed (if (cs.length:Int)<bd then jh P A nx bd cn (nx k) vs ((k,nums)::cs) else (wu,cs.length)).1
   split
   ·exact Od cn (nx k) vs _
   ·exact .spent
theorem Qs:∀ (cn k:Nat) (nums:List Int) (cs:List (Nat×List Int)) (U:Nat),(jh P A nx bd cn k nums cs).2=U->cs.length<U->jh P A nx ((U:Int)-1) cn k nums cs=(wu,U-1)
 | 0,k,nums,cs,U,e,h=>by
  have e:cs.length=U:=e
  omega
 | cn+1,k,nums,cs,U,e,h=>by
  unfold jh at e ⊢
  cases ev:vals (A k) (knO (P k) nums) with
  | none =>
   rw [ev] at e
   have e:cs.length=U:=e
   omega
  | some vs =>
   rw [ev] at e
   have e:(if (cs.length:Int)<bd then jh P A nx bd cn (nx k) vs ((k,nums)::cs) else (wu,cs.length)).2=U:=e
   show (if (cs.length:Int)<(U:Int)-1 then jh P A nx ((U:Int)-1) cn (nx k) vs ((k,nums)::cs) else (wu,cs.length))=_
   split at e
   ·by_cases h2:(cs.length:Int)<(U:Int)-1
    ·rw [if_pos h2]
     exact Qs cn (nx k) vs _ U e (by rw [Y06];omega)
    ·rw [if_neg h2]
     have:=Oc (P:=P) (A:=A) (nx:=nx) (bd:=bd) cn (nx k) vs ((k,nums)::cs)
     rw [e,Y06] at this
     rw [show cs.length=U-1 from by omega]
   ·have e:cs.length=U:=e
    omega
end
theorem Ev.lenP {H:Hh}{mp mr N:Nat}{ms qs rs:Nat->Nat}{P:Nat->Pl}{A:Nat->List T}(E:Ev H mp mr N ms qs rs P A):Z2 (.loc mp) H=.ok (.int (N:Nat)) H:=(len_loc E.pl).trans (by rw [Y0j,List.length_range'])
structure Law (N:Nat)(P:Nat->Pl)(A:Nat->List T)(nx:Nat->Nat):Prop where
 n0:0<N
 n6:N<=6
 nn:∀ k,k<N->nx k<N/\((nx k:Nat):Int)=((k:Int)+1)%(N:Int)
 pl:∀ k,k<N->(P k).ok
 ln:∀ k,k<N->(A k).length=(P (nx k)).ps.length
 sh:∀ k,k<N->∀ t∈A k,Sh (P k) t
 ao:∀ k,k<N->∀ t∈A k,t.ok (P k).ps
 ct:∀ k,k<N->(A k)[(P (nx k)).co]?=some (.op "-" (.var (pA (P k) (P k).co)) (.num 1))
noncomputable def z6n (H X:Hh)(N:Nat)(P:Nat->Pl)(x:Cr):Prop:=z35 X N P x/\x.at_≠H.length
section
variable {P:Nat->Pl}{A:Nat->List T}{nx:Nat->Nat}{bd:Int}{n:Nat}{H:Hh}{mp mr N:Nat}{ms qs rs:Nat->Nat}
theorem Oe (L0:Law N P A nx)(E0:Ev H mp mr N ms qs rs P A):∀ (cn k:Nat) (nums:List Int) (mn:Nat) (L:List Cr) (J:Hh) (gv:Option D),k<N->NumOk (P k) nums->nums.getD (P k).co 0=cn->(H++(.lst (L.reverse.map Cr.d)::J))[mn]?=some (.lst (nums.map .int))->mn≠H.length ->
  (∀ x∈L,z6n H (H++(.lst (L.reverse.map Cr.d)::J)) N P x)->L.length+cn<1000000 ->
  ∃ X',jP (whR (λ ρ' h'=>w_law_due_1.evT (callI defs (n+3)) ρ' h') (λ ρ' h'=>b_law_due_1.run (callI defs (n+3)) ρ' h') [some (.loc mp),some (.loc mr),some (.int (k:Nat)),some (.loc mn),some (.int bd),some (.loc H.length),gv] (H++(.lst (L.reverse.map Cr.d)::J))) (λ ρ' h'=>Ss.run (callI defs (n+3)) (jm 2 d_law_due.body) ρ' h')=.rt (.tup [(jh P A nx bd cn k nums (crs L)).1,.int ((jh P A nx bd cn k nums (crs L)).2:Nat)]) X'/\∀ (i:Nat) (o:O),H[i]?=some o->X'[i]?=some o:=by
 intro cn
 induction cn with
 | zero =>
  intro k nums mn L J gv hk p hc g hm o hl
  have E:=E0.mono (H':=H++(.lst (L.reverse.map Cr.d)::J)) λ i o=>zj
  have pk:=L0.pl k hk
  have pa:=E.at_ k hk
  have gl:(H++(.lst (L.reverse.map Cr.d)::J))[H.length]?=some (.lst (L.reverse.map Cr.d)):=yj
  refine ⟨H++(.lst (L.reverse.map Cr.d)::J),?_,λ i o=>zj⟩
  have tst:w_law_due_1.evT (callI defs (n+3)) [some (.loc mp),some (.loc mr),some (.int (k:Nat)),some (.loc mn),some (.int bd),some (.loc H.length),gv] (H++(.lst (L.reverse.map Cr.d)::J))=.ok false (H++(.lst (L.reverse.map Cr.d)::J)) :=
   zf (x:=.int (nums.getD (P k).co 0)) (bnd rfl (bnd (bnd (bnd rfl (bnd rfl (E.sub hk))) (bnd rfl pa.cnt)) (yG g (by rw [p.ln];exact pk.co)))) rfl (neI.trans (by rw [hc];rfl))
  rw [jO (c:=λ ρ' h'=>w_law_due_1.evT (callI defs (n+3)) ρ' h') tst]
  have B:=z36 (n:=n+1) E L0.pl L gl (nums.getD (P k).la 0) (λ x hx=>(o x hx).1) (Zf p.sm)
  have ll:((L.reverse.map Cr.d).length:Int)=((crs L).length:Nat):=by unfold crs;simp
  exact zo (jv (bnd rfl (bnd (bnd rfl (bnd (bnd (bnd rfl (bnd (bnd (bnd rfl (bnd rfl (E.sub hk))) (bnd rfl pa.las)) (yG g (by rw [p.ln];exact pk.la)))) (bnd rfl rfl)) rfl)) B)) (bnd rfl ((len_loc gl).trans (by rw [ll];rfl))))
 | succ cn ih =>
  intro k nums mn L J gv hk p hc g hm o hl
  have E:=E0.mono (H':=H++(.lst (L.reverse.map Cr.d)::J)) λ i o=>zj
  have pk:=L0.pl k hk
  have pa:=E.at_ k hk
  have gl:(H++(.lst (L.reverse.map Cr.d)::J))[H.length]?=some (.lst (L.reverse.map Cr.d)):=yj
  have tst:w_law_due_1.evT (callI defs (n+3)) [some (.loc mp),some (.loc mr),some (.int (k:Nat)),some (.loc mn),some (.int bd),some (.loc H.length),gv] (H++(.lst (L.reverse.map Cr.d)::J))=.ok true (H++(.lst (L.reverse.map Cr.d)::J)) :=
   zf (x:=.int (nums.getD (P k).co 0)) (bnd rfl (bnd (bnd (bnd rfl (bnd rfl (E.sub hk))) (bnd rfl pa.cnt)) (yG g (by rw [p.ln];exact pk.co)))) rfl (neI.trans (by rw [hc,beq_eq_false_iff_ne.mpr (by omega)];rfl))
  have C:∀ {p1 p2 p3 p4:Pos},PI.E.ev (callI defs (n+3)) (.ofL (.comp yN yP (.seq (.sub (.var 1 p1) (.var 2 p2) p3)) yO ["_law_arg_here","_law_k","_law_numbers","_law_plans"] [none,some 2,some 3,some 0] yQ p4)) [some (.loc mp),some (.loc mr),some (.int (k:Nat)),some (.loc mn),some (.int bd),some (.loc H.length),gv] (H++(.lst (L.reverse.map Cr.d)::J))=.ok (.loc (H++(.lst (L.reverse.map Cr.d)::J)).length) ((H++(.lst (L.reverse.map Cr.d)::J))++[.lst ((A k).map λ t=>opI (val t (knO (P k) nums)))]):=λ {p1 p2 p3 p4}=>by
   refine jd (q:=([(rs k,(A k).map T.d)],(A k).map T.d)) (h2:=H++(.lst (L.reverse.map Cr.d)::J)) (Ww (bnd rfl (bnd rfl (E.row hk))) (rdl (E.ar k hk))) (by show ((A k).map T.d).length<=_;rw [Y0j,L0.ln k hk];have:=(L0.pl _ (L0.nn k hk).1).le;omega) ?_
   exact yH (λ p hp=>by rw [Y0m.mp hp];exact rdl (E.ar k hk)) T.d (λ t=>opI (val t (knO (P k) nums))) (A k) [] λ t ht=>jH rfl rfl (bnd rfl (bnd (bnd (bnd rfl (bnd rfl (E.sub hk))) (bnd (bnd rfl (bnd rfl rfl)) rfl)) (z51 pa pk p g (L0.sh k hk t ht))))
  have ee:((A k).map λ t=>opI (val t (knO (P k) nums)))=((A k).map λ t=>val t (knO (P k) nums)).map opI:=by rw [Y1y];rfl
  obtain ⟨V1,V2⟩:=Up (kn:=knO (P k) nums) (A k)
  have lg:=zV (h:=H++(.lst (L.reverse.map Cr.d)::J)) (x:=.lst ((A k).map λ t=>opI (val t (knO (P k) nums))))
  have eX:(H++(O.lst (L.reverse.map Cr.d)::J))++[.lst ((A k).map λ t=>opI (val t (knO (P k) nums)))]=H++(.lst (L.reverse.map Cr.d)::(J++[.lst ((A k).map λ t=>opI (val t (knO (P k) nums)))])):=Y0e ..
  have nX:(H++(O.lst (L.reverse.map Cr.d)::J)).length≠H.length:=by simp
  generalize (H++(O.lst (L.reverse.map Cr.d)::J)).length=xl at C lg nX
  rw [eX] at C lg
  have gl1:(H++(O.lst (L.reverse.map Cr.d)::(J++[.lst ((A k).map λ t=>opI (val t (knO (P k) nums)))])))[H.length]?=some (.lst (L.reverse.map Cr.d)):=yj
  have ll:((L.reverse.map Cr.d).length:Int)=((crs L).length:Nat):=by unfold crs;simp
  have cl:(crs L).length=L.length:=by unfold crs;simp
  have ed:jh P A nx bd (cn+1) k nums (crs L)=match vals (A k) (knO (P k) nums) with
   | none=>(wt,(crs L).length)
   | some vs=>if ((crs L).length:Int)<bd then jh P A nx bd cn (nx k) vs ((k,nums)::crs L) else (wu,(crs L).length):=rfl
  have lenE:∀ {ρ:En}{p1 p2 p3:Pos},ρ[5]?=some (some (.loc H.length))->PI.E.ev (callI defs (n+3)) (.len (.var 5 p1) p2 p3) ρ (H++(O.lst (L.reverse.map Cr.d)::(J++[.lst ((A k).map λ t=>opI (val t (knO (P k) nums)))])))=.ok (.int ((crs L).length:Nat)) (H++(O.lst (L.reverse.map Cr.d)::(J++[.lst ((A k).map λ t=>opI (val t (knO (P k) nums)))]))):=λ {ρ p1 p2 p3} e=>bnd (x:=.loc H.length) (by rw [zR,e]) ((len_loc gl1).trans (by rw [ll]))
  rw [ed]
  cases ev:vals (A k) (knO (P k) nums) with
  | none =>
   refine ⟨H++(O.lst (L.reverse.map Cr.d)::(J++[.lst ((A k).map λ t=>opI (val t (knO (P k) nums)))])),?_,λ i o=>zj⟩
   rw [YW (c:=λ ρ' h'=>w_law_due_1.evT (callI defs (n+3)) ρ' h') (b:=λ ρ' h'=>b_law_due_1.run (callI defs (n+3)) ρ' h') tst (ze C (jb (zf rfl rfl (z52 (b:=true) (by rw [<- ee];exact lg) (by rw [<- ee,List.any_eq_true];exact ⟨.non,V2 ev,rfl⟩))) (zo (jv (bnd (bnd rfl (bnd rfl rfl)) rfl) (lenE rfl)))))]
   rfl
  | some vs =>
   have dv:=V1 vs ev
   have inF:j0 .In .non (.loc xl) (H++(O.lst (L.reverse.map Cr.d)::(J++[.lst ((A k).map λ t=>opI (val t (knO (P k) nums)))])))=.ok (.bl false) _:=z52 (b:=false) (by rw [<- ee];exact lg) (by
    rw [<- ee,dv,List.any_eq_false]
    intro y hy
    obtain ⟨v,_,rfl⟩:=Y0v.mp hy
    exact λ z=>nomatch z)
   by_cases hu:((crs L).length:Int)<bd
   ·simp only [if_pos hu]
    obtain ⟨v1,v2,v3⟩:=WI (Qk pk p) (A k) vs (L0.ao k hk) ev
    have p':NumOk (P (nx k)) vs:=⟨by rw [v1,L0.ln k hk],v2⟩
    obtain ⟨z,z1,z2⟩:=v3 _ _ (L0.ct k hk)
    have hz:vs.getD (P (nx k)).co 0=(cn:Int):=by
     rw [Y05,z1]
     have z3:((knO (P k) nums).lookup (pA (P k) (P k).co)).bind (λ v=>(some (1:Int)).bind λ u=>zP "-" v u)=some z:=z2
     rw [qL pk p pk.co,hc] at z3
     have z4:zP "-" ((cn+1:Nat):Int) 1=some z:=z3
     rw [show ∀ a b:Int,zP "-" a b=(if (a-b).natAbs<=1000000000000000000 then some (a-b) else none) from λ _ _=>rfl] at z4
     split at z4
     ·cases z4
      show ((cn+1:Nat):Int)-1=cn
      omega
     ·cases z4
    have e2:(List.map Cr.d (List.reverse (⟨k,nums,mn⟩::L)))=L.reverse.map Cr.d++[.tup [.int (k:Nat),.loc mn]]:=by simp [Cr.d]
    have E2:=E0.mono (H':=H++(O.lst (L.reverse.map Cr.d++[.tup [.int (k:Nat),.loc mn]])::(J++[.lst ((A k).map λ t=>opI (val t (knO (P k) nums)))]))) λ i o=>zj
    have lN:=E2.lenP
    have ap:∀ {p1 p2 p3 p4 p5 p6:Pos},PI.E.ev (callI defs (n+3)) (.m1 .append (.var 5 p1) (.tup (.cons (.var 2 p2) (.cons (.var 3 p3) .nil)) p4) p5 p6) [some (.loc mp),some (.loc mr),some (.int (k:Nat)),some (.loc mn),some (.int bd),some (.loc H.length),some (.loc xl)] (H++(O.lst (L.reverse.map Cr.d)::(J++[.lst ((A k).map λ t=>opI (val t (knO (P k) nums)))])))=.ok .non (H++(O.lst (L.reverse.map Cr.d++[.tup [.int (k:Nat),.loc mn]])::(J++[.lst ((A k).map λ t=>opI (val t (knO (P k) nums)))]))):=λ {p1 p2 p3 p4 p5 p6} =>
     (append_at rfl gl1 (jv rfl rfl) gl1 (by simp;omega)).trans (by rw [Zg])
    have tu:=jy (c:=λ ρ' h'=>w_law_due_1.evT (callI defs (n+3)) ρ' h') (b:=λ ρ' h'=>b_law_due_1.run (callI defs (n+3)) ρ' h') tst (ze C (zi (zf rfl rfl inF) (zi (zf (lenE rfl) rfl (cmp_ge.trans (by rw [decide_eq_false (by omega)]))) (yy ap (ze (d:=.int (nx k:Nat)) (bnd (bnd rfl (bnd rfl rfl)) (bnd (bnd rfl lN) ((mdk (by have:=L0.n0;omega)).trans (by rw [(L0.nn k hk).2])))) (ze rfl rfl))))))
    have R:=ih (nx k) vs xl (⟨k,nums,mn⟩::L) (J++[.lst ((A k).map λ t=>opI (val t (knO (P k) nums)))]) (some (.loc xl)) (L0.nn k hk).1 p' hz (by rw [e2,<- dv];exact BN nX lg) nX (λ x hx=>by
     rw [e2]
     rcases Y0d.mp hx with rfl | hx
     ·exact ⟨⟨hk,p,Uo hm g⟩,hm⟩
     ·obtain ⟨⟨c1,c2,c3⟩,c4⟩:=o x hx
      exact ⟨⟨c1,c2,Uo c4 c3⟩,c4⟩) (by rw [Y06];omega)
    rw [e2] at R
    rw [tu]
    exact R
   ·simp only [if_neg hu]
    refine ⟨H++(O.lst (L.reverse.map Cr.d)::(J++[.lst ((A k).map λ t=>opI (val t (knO (P k) nums)))])),?_,λ i o=>zj⟩
    rw [YW (c:=λ ρ' h'=>w_law_due_1.evT (callI defs (n+3)) ρ' h') (b:=λ ρ' h'=>b_law_due_1.run (callI defs (n+3)) ρ' h') tst (ze C (zi (zf rfl rfl inF) (jb (zf (lenE rfl) rfl (cmp_ge.trans (by rw [decide_eq_true (by omega)]))) (zo (jv (bnd (bnd rfl (bnd rfl rfl)) rfl) (lenE rfl))))))]
    rfl
theorem z53 (L0:Law N P A nx)(E0:Ev H mp mr N ms qs rs P A){cn k mn:Nat}{nums:List Int}(hk:k<N)(p:NumOk (P k) nums)(hc:nums.getD (P k).co 0=cn)(g:H[mn]?=some (.lst (nums.map .int)))(hl:cn<1000000) :
  ∃ X',callI defs (n+4) 38 [.loc mp,.loc mr,.int (k:Nat),.loc mn,.int bd] H=.ok (.tup [(jh P A nx bd cn k nums []).1,.int ((jh P A nx bd cn k nums []).2:Nat)]) X'/\∀ (i:Nat) (o:O),H[i]?=some o->X'[i]?=some o:=by
 rw [za (d:=d_law_due) rfl rfl]
 obtain ⟨X',e,old⟩:=Oe (n:=n) (bd:=bd) L0 E0 cn k nums mn [] [] none hk p hc (zj g) (by have:=zN g;omega) (λ _ h=>nomatch h) (by simpa using hl)
 refine ⟨X',zg (ze (d:=.loc H.length) (h':=H++[.lst []]) rfl ?_),old⟩
 show Ss.run _ (.cons (.whil w_law_due_1 b_law_due_1 _) _) _ _=_
 rw [wF,Qd]
 exact e
end
end K43
namespace K43
open PySem L2 PI
noncomputable def Ex (H H':Hh):Prop:=∀ (i:Nat) (o:O),H[i]?=some o->H'[i]?=some o
theorem Ex.rfl' {H:Hh}:Ex H H:=λ _ _ h=>h
theorem Ex.app {H B:Hh}:Ex H (H++B):=λ _ _=>zj
theorem Ex.tr {A B C:Hh}(x:Ex A B)(y:Ex B C):Ex A C:=λ i o h=>y i o (x i o h)
section
variable {n:Nat}{H:Hh}{ns:List Int}
theorem z6o {xs:List D}{i:Int}{v:D}(e:atI xs i=some v):jg (.fl xs) (.int i) H=.ok v H:=by
 show (match atI xs i with | some d=>Res.ok d H | none=>.no)=_
 rw [e]
theorem z54 {k:Nat}(h:k<ns.length):atI (ns.map D.int) (k:Int)=some (.int ns[k]):=atk (by rw [Y0k,Y02 h];rfl)
theorem yI (k:Nat):∃ v,callI defs (n+1) 24 [.fl (ns.map .int),.int (k:Nat)] H=.ok (.int v) H:=by
 rw [za (d:=wn) rfl rfl]
 have c:∀ {p1 p2 p3 p4 p5:Pos},E.evT (callI defs n) (.cmp .Lt (.var 1 p1) (.len (.var 0 p2) p3 p4) p5) [some (.fl (ns.map .int)),some (.int (k:Nat))] H=.ok (decide ((k:Int)<((ns.map D.int).length:Nat))) H:=zf rfl (bnd rfl rfl) rfl
 by_cases h:k<ns.length
 ·refine ⟨ns[k],zg (jb (h':=H) ?_ (zo (bnd rfl (bnd rfl (z6o (z54 h))))))⟩
  exact c.trans (by rw [decide_eq_true (by rw [Y0j];omega)])
 ·refine ⟨0,zg (zi (h':=H) ?_ (zo rfl))⟩
  exact c.trans (by rw [decide_eq_false (by rw [Y0j];omega)])
theorem Of {cl:Nat->List D->Hh->Res D}{ρ:En}{a i s k:Nat}{v:Int}{p1 p2 p3 p4 p5 p6:Pos}(e:ρ[s]?=some (some (.fl (ns.map .int))))(e1:ρ[i]?=some (some (.int (k:Nat))))(hc:cl 24 [.fl (ns.map .int),.int ((a+k:Nat):Int)] H=.ok (.int v) H) :
  E.ev cl (.call 24 (.var s p1) (.cons (.bin .Add (.int (a:Nat) p2) (.var i p3) p4) .nil) p5 p6) ρ H=.ok (.int v) H:=by
 rw [show ((a+k:Nat):Int)=(a:Int)+(k:Int) from by omega] at hc
 exact bnd (x:=.fl (ns.map .int)) (h:=H) (by rw [zR,e]) (bnd (bnd (bnd rfl (bnd (x:=.int (k:Nat)) (h:=H) (by rw [zR,e1]) rfl)) (bnd rfl rfl)) hc)
structure Rp where
 m:Nat
 q:Nat
 p:Pl
noncomputable def z38 (H:Hh)(r:Rp):Prop:=PlAt H r.m r.q r.p/\r.p.ok
theorem J3:∀ (m k:Nat) (acc:List D) (H:Hh),∃ (R:List Rp) (H':Hh),zX [] (jk WA [none,some (.fl (ns.map .int))] (λ ρ' h2=>c_law_4.evC (callI defs (n+2)) ρ' h2) (λ ρ' h2=>e_law_4.ev (callI defs (n+2)) ρ' h2)) ((List.range' k m).map λ (j:Nat)=>D.int (j:Nat)) acc H=.ok (acc++R.map λ r=>.loc r.m) H'/\R.length=m/\Ex H H'/\∀ r∈R,z38 H' r
 | 0,k,acc,H=>⟨[],H,by simp [zX,stay],rfl,Ex.rfl',λ _ h=>nomatch h⟩
 | m+1,k,acc,H=>by
  obtain ⟨c1,h1⟩:=yI (n:=n+1) (H:=H) (ns:=ns) (3+k)
  obtain ⟨c2,h2⟩:=yI (n:=n+1) (H:=H) (ns:=ns) 2
  obtain ⟨J,ws,mq,h3,g3,l3,s3,d3⟩:=(Ul (n:=n+1) (c:=c2) (H:=H) (M:=8) (by decide)).ex
  have o3:NsOk ws:=⟨l3,s3,d3⟩
  have h4:=z32 (n:=n) (c:=c1) (k:=k) o3 g3
  have e1:jk WA [none,some (.fl (ns.map .int))] (λ ρ' h2=>c_law_4.evC (callI defs (n+2)) ρ' h2) (λ ρ' h2=>e_law_4.ev (callI defs (n+2)) ρ' h2) (.int (k:Nat)) H=.ok (some (.loc ((H++J).length+1))) ((H++J)++[.lst ((zA ws c1 k).ps.map .str),plD (H++J).length (zA ws c1 k)]) :=
   jH rfl rfl (bnd (Of (a:=3) rfl rfl h1) (bnd (bnd rfl (bnd (bnd (bnd (bnd rfl (bnd (bnd rfl (bnd rfl rfl)) h2)) (bnd (bnd rfl (bnd rfl rfl)) h3)) (bnd rfl rfl)) rfl)) h4))
  have pa:PlAt ((H++J)++[.lst ((zA ws c1 k).ps.map .str),plD (H++J).length (zA ws c1 k)]) ((H++J).length+1) (H++J).length (zA ws c1 k):=⟨Yt 1 rfl,Yt 0 rfl⟩
  obtain ⟨R,H',e2,l2,x2,r2⟩:=J3 m (k+1) (acc++[.loc ((H++J).length+1)]) ((H++J)++[.lst ((zA ws c1 k).ps.map .str),plD (H++J).length (zA ws c1 k)])
  refine ⟨⟨(H++J).length+1,(H++J).length,zA ws c1 k⟩::R,H',?_,by rw [Y06,l2],Ex.app.tr (Ex.app.tr x2),λ r hr=>?_⟩
  ·rw [Y2s,Y0h]
   unfold zX
   rw [if_pos (show stay [] H from λ _ hp=>nomatch hp),e1,bind_ok,addO_some,e2,Y0e];rfl
  ·rcases Y0d.mp hr with rfl | hr
   ·exact ⟨pa.mono x2,BK o3⟩
   ·exact r2 r hr
theorem JY {N:Nat}{R:Nat->Rp}{mp:Nat}{a1 a3 a7 a8 a9 a10 a11 a12 a13 a14:Option D}(hN:0<N/\N<=6)(hp:H[mp]?=some (.lst ((List.range' 0 N).map λ k=>.loc (R k).m)))(hR:∀ k,k<N->z38 H (R k)):∀ (m k:Nat) (A:Nat->List T) (x:Option D),k+m=N->∃ (c:Nat->Int) (x':Option D),
    jz [] (zQ Wz λ ρ' h'=>b_law_3.run (callI defs (n+3)) ρ' h') ((List.range' k m).map λ (j:Nat)=>D.int (j:Nat)) [some (.fl (ns.map .int)),a1,some (.int (N:Nat)),a3,some (.loc mp),some (.loc H.length),x,a7,a8,a9,a10,a11,a12,a13,a14] (H++(.lst ((List.range' 0 k).map λ i=>.loc (H.length+1+i))::(List.range' 0 k).map λ i=>.lst ((A i).map T.d)))
     =.nx [some (.fl (ns.map .int)),a1,some (.int (N:Nat)),a3,some (.loc mp),some (.loc H.length),x',a7,a8,a9,a10,a11,a12,a13,a14] (H++(.lst ((List.range' 0 N).map λ i=>.loc (H.length+1+i))::(List.range' 0 N).map λ i=>.lst ((if i<k then A i else jp (R i).p (R ((i+1)%N)).p (c i)).map T.d)))
  | 0,k,A,x,hk=>⟨λ _=>0,x,by
      have:k=N:=by omega
      subst this
      rw [show List.range' k 0=[] from rfl,Y1x]
      refine for_0.trans ?_
      congr 3
      exact Y36 λ i hi=>by rw [if_pos (by have:=Y1q.mp hi;omega)]⟩
  | m+1,k,A,x,hk=>by
    have hkN:k<N:=by omega
    have hk':(k+1)%N<N:=Y3e _ hN.1
    obtain ⟨X,hX⟩:∃ X:Hh,X=H++(O.lst ((List.range' 0 k).map λ i=>.loc (H.length+1+i))::(List.range' 0 k).map λ i=>.lst ((A i).map T.d)):=⟨_,rfl⟩
    have lX:X.length=H.length+1+k:=by rw [hX];simp;omega
    have ex:Ex H X:=by rw [hX];exact Ex.app
    obtain ⟨c1,h1⟩:=yI (n:=n+2) (H:=X) (ns:=ns) (3+k)
    have ar:=z33 (n:=n) (c:=c1) ((hR k hkN).1.mono ex) ((hR _ hk').1.mono ex) (hR k hkN).2 (hR _ hk').2
    have gl:X[H.length]?=some (.lst ((List.range' 0 k).map λ i=>.loc (H.length+1+i))):=by rw [hX];exact yj
    have sb:∀ i,i<N->jg (.loc mp) (.int (i:Nat)) X=.ok (.loc (R i).m) X:=λ i hi=>yE (ex _ _ hp) (atk (by rw [Y0k,Y1o hi];simp))
    have md:((k:Int)+1)%(N:Int)=(((k+1)%N:Nat):Int):=by rw [Y3n];rfl
    have st:zQ Wz (λ ρ' h'=>b_law_3.run (callI defs (n+3)) ρ' h') (.int (k:Nat)) [some (.fl (ns.map .int)),a1,some (.int (N:Nat)),a3,some (.loc mp),some (.loc H.length),x,a7,a8,a9,a10,a11,a12,a13,a14] X=.nx [some (.fl (ns.map .int)),a1,some (.int (N:Nat)),a3,some (.loc mp),some (.loc H.length),some (.int (k:Nat)),a7,a8,a9,a10,a11,a12,a13,a14] ((X++[O.lst ((jp (R k).p (R ((k+1)%N)).p c1).map T.d)]).set H.length (O.lst ((List.range' 0 k).map (λ i=>D.loc (H.length+1+i))++[D.loc X.length]))) :=
      yD (yy (append_at rfl gl (bnd (Of (a:=3) rfl rfl h1) (bnd (bnd (bnd rfl (bnd rfl (sb k hkN))) (bnd (bnd (bnd rfl (bnd (x:=.int (((k+1)%N:Nat):Int)) (bnd (bnd rfl (bnd rfl rfl)) (bnd rfl ((mdk (by omega)).trans (by rw [md])))) (sb _ hk'))) (bnd rfl rfl)) rfl)) ar)) (zj gl) (by simp;omega)) rfl)
    have eX:(X++[O.lst ((jp (R k).p (R ((k+1)%N)).p c1).map T.d)]).set H.length (O.lst ((List.range' 0 k).map (λ i=>D.loc (H.length+1+i))++[D.loc X.length]))=H++(O.lst ((List.range' 0 (k+1)).map λ i=>D.loc (H.length+1+i))::(List.range' 0 (k+1)).map λ i=>O.lst ((if i<k then A i else jp (R k).p (R ((k+1)%N)).p c1).map T.d)):=by
      rw [lX,hX,Y0e,Y3m,Zg,List.range'_concat]
      simp only [List.map_append,Y0h,Y1x,Nat.one_mul,Nat.zero_add,Y14,if_false]
      congr 3
      exact Y36 λ i hi=>by rw [if_pos (by have:=Y1q.mp hi;omega)]
    obtain ⟨c,x',e⟩:=JY (a1:=a1) (a3:=a3) (a7:=a7) (a8:=a8) (a9:=a9) (a10:=a10) (a11:=a11) (a12:=a12) (a13:=a13) (a14:=a14) hN hp hR m (k+1) (λ i=>if i<k then A i else jp (R k).p (R ((k+1)%N)).p c1) (some (.int (k:Nat))) (by omega)
    refine ⟨λ i=>if i=k then c1 else c i,x',?_⟩
    rw [Y2s,Y0h]
    rw [<- hX]
    refine jR (λ _ hp=>nomatch hp) (st.trans (by rw [eX])) (e.trans ?_)
    congr 3
    refine Y36 λ i hi=>?_
    congr 2
    by_cases h1:i<k
    · rw [if_pos (by omega),if_pos h1,if_pos h1]
    · by_cases h2:i=k
      · subst h2;rw [if_pos (by omega),if_neg h1,if_neg h1];simp
      · rw [if_neg (by omega),if_neg h1];simp [h2]
end
end K43
namespace K43
open PySem L2 PI
theorem z39 {xs:List D}{s:Nat}(h:s<=xs.length):wD xs (some (s:Int)) none=xs.drop s:=by
 unfold wD HT.sIx
 simp only [show ¬ ((s:Int)<0) from by omega,if_false,Y1g,Nat.min_eq_left h]
 rw [List.take_of_length_le (by simp)]
theorem z3a {xs:List D}{s:Nat}(h:s<=xs.length):wD xs none (some (s:Int))=xs.take s:=by
 unfold wD HT.sIx
 simp only [show ¬ ((s:Int)<0) from by omega,if_false,Y1g,Nat.min_eq_left h,List.drop_zero,Nat.sub_zero]
section
variable {cl:Nat->List D->Hh->Res D}{ρ:En}{h:Hh}{p1 p2 p3 p4:Pos}
theorem z6p {i j m s:Nat}{xs:List D}(e:ρ[i]?=some (some (.loc m)))(e2:ρ[j]?=some (some (.int (s:Nat))))(g:h[m]?=some (.lst xs))(q:s<=xs.length):E.ev cl (.cut (.var i p1) (.some (.var j p2)) .none p3 p4) ρ h=.ok (.loc h.length) (h++[.lst (xs.drop s)]):=by
 rw [z4e,zR,e,bind_ok]
 refine bnd (x:=some (s:Int)) (h:=h) (GN (by rw [zR,e2])) (bnd (x:=none) (h:=h) rfl ?_)
 show (match PI.rd h m with | some xs=>new (.lst (wD xs (some (s:Int)) none)) h | none=>.no)=_
 rw [rdl g,<- z39 q];rfl
theorem z6q {i j m s:Nat}{xs:List D}(e:ρ[i]?=some (some (.loc m)))(e2:ρ[j]?=some (some (.int (s:Nat))))(g:h[m]?=some (.lst xs))(q:s<=xs.length):E.ev cl (.cut (.var i p1) .none (.some (.var j p2)) p3 p4) ρ h=.ok (.loc h.length) (h++[.lst (xs.take s)]):=by
 rw [z4e,zR,e,bind_ok]
 refine bnd (x:=none) (h:=h) rfl (bnd (x:=some (s:Int)) (h:=h) (GN (by rw [zR,e2])) ?_)
 show (match PI.rd h m with | some xs=>new (.lst (wD xs none (some (s:Int)))) h | none=>.no)=_
 rw [rdl g,<- z3a q];rfl
theorem z55 {h:Hh}{n m:Nat}{xs ys:List D}(g1:h[n]?=some (.lst xs))(g2:h[m]?=some (.lst ys))(hl:xs.length+ys.length<=1000000):wc .Add (.loc n) (.loc m) h=.ok (.loc h.length) (h++[.lst (xs++ys)]):=by
 rw [bin_addl,g1,g2]
 simp [hl,new]
end
structure Su (H:Hh)(mq mp mr N:Nat)(ws:List Str)(P:Nat->Pl)(A:Nat->List T)(ms qs rs:Nat->Nat):Prop where
 lw:Law N P A (λ k=>(k+1)%N)
 ev:Ev H mp mr N ms qs rs P A
 gq:H[mq]?=some (.lst (ws.map .str))
 l6:ws.length=6
 so:∀ x∈ws,PyData.strOk x=true
 nd:ws.Nodup
noncomputable def d0:Rp:=⟨0,0,⟨[],0,0,0,"",false⟩⟩
theorem Yw {α β:Type}(f:α->β)(d:α):∀ (R:List α) (N:Nat),R.length=N->R.map f=(List.range' 0 N).map λ k=>f (R.getD k d):=by
 intro R N h
 apply List.ext_getElem?
 intro i
 by_cases hi:i<N
 ·rw [Y0k,Y0k,Y1o hi,Y02 (by omega)]
  simp [Y05,Y02 (show i<R.length by omega)]
 ·rw [Y31 (by simp;omega),Y31 (by simp;omega)]
section
variable {n:Nat}{ns:List Int}
theorem BO:∃ (c:Int) (N mq mp mr:Nat) (x:Option D) (H:Hh) (ws:List Str) (P:Nat->Pl) (A:Nat->List T) (ms qs rs:Nat->Nat),Ss.run (callI defs (n+3)) (yc 6 d_law.body) [some (.fl (ns.map .int)),none,none,none,none,none,none,none,none,none,none,none,none,none,none] []=.nx [some (.fl (ns.map .int)),some (.int c),some (.int (N:Nat)),some (.loc mq),some (.loc mp),some (.loc mr),x,none,none,none,none,none,none,none,none] H/\Su H mq mp mr N ws P A ms qs rs:=by
 obtain ⟨c,hc⟩:=yI (n:=n+2) (H:=[]) (ns:=ns) 0
 obtain ⟨c1,hc1⟩:=yI (n:=n+2) (H:=[]) (ns:=ns) 1
 obtain ⟨N,hN⟩:∃ N:Nat,(N:Int)=1+c%6:=⟨(1+c%6).toNat,by omega⟩
 have bN:0<N/\N<=6:=by omega
 obtain ⟨J,ws,mq,h3,g3,l3,s3,d3⟩:=(Ul (n:=n+2) (c:=c1) (H:=[]) (M:=6) (by decide)).ex
 obtain ⟨RL,H2,e4,l4,x4,r4⟩:=J3 (n:=n+1) (ns:=ns) N 0 [] ([]++J)
 rw [Y16,Yw (λ r:Rp=>D.loc r.m) d0 RL N l4] at e4
 have hp:(H2++[O.lst ((List.range' 0 N).map λ k=>.loc (RL.getD k d0).m)])[H2.length]?=some (.lst ((List.range' 0 N).map λ k=>.loc (RL.getD k d0).m)):=zV
 have rk:∀ k,k<N->z38 (H2++[O.lst ((List.range' 0 N).map λ k=>.loc (RL.getD k d0).m)]) (RL.getD k d0):=λ k hk=>by
  have z:=r4 (RL.getD k d0) (by rw [Y05,Y02 (by omega)];exact Y2f _)
  exact ⟨z.1.mono Ex.app,z.2⟩
 have g3':=Ex.app (B:=[O.lst ((List.range' 0 N).map λ k=>.loc (RL.getD k d0).m)]) _ _ (x4 _ _ g3)
 obtain ⟨mp,hmp⟩:∃ mp,mp=H2.length:=⟨_,rfl⟩
 obtain ⟨H4,hH4⟩:∃ H4,H4=H2++[O.lst ((List.range' 0 N).map λ k=>.loc (RL.getD k d0).m)]:=⟨_,rfl⟩
 rw [<- hH4] at hp rk g3'
 rw [<- hmp] at hp
 obtain ⟨cc,x',e6⟩:=JY (n:=n) (ns:=ns) (a1:=some (.int c)) (a3:=some (.loc mq)) (a7:=none) (a8:=none) (a9:=none) (a10:=none) (a11:=none) (a12:=none) (a13:=none) (a14:=none) bN hp rk N 0 (λ _=>[]) none (by omega)
 simp only [Nat.not_lt_zero,if_false] at e6
 refine ⟨c,N,mq,mp,H4.length,x',H4++(O.lst ((List.range' 0 N).map λ i=>.loc (H4.length+1+i))::(List.range' 0 N).map λ i=>.lst ((jp (RL.getD i d0).p (RL.getD ((i+1)%N) d0).p (cc i)).map T.d)),ws,λ k=>(RL.getD k d0).p,λ i=>jp (RL.getD i d0).p (RL.getD ((i+1)%N) d0).p (cc i),λ k=>(RL.getD k d0).m,λ k=>(RL.getD k d0).q,λ k=>H4.length+1+k,?_,⟨⟨bN.1,bN.2,λ k hk=>⟨Y3e _ bN.1,by rw [Y3n];rfl⟩,λ k hk=>(rk k hk).2,λ k hk=>Vc,λ k hk=>Ob (rk k hk).2,λ k hk=>O9 (rk k hk).2,λ k hk=>Oa (rk _ (Y3e _ bN.1)).2⟩,⟨zj hp,yj,λ k hk=>(rk k hk).1.mono Ex.app,λ k hk=>?_⟩,zj g3',l3,s3,d3⟩⟩
 ·refine ze (bnd rfl (bnd (bnd rfl (bnd rfl rfl)) hc)) (ze (d:=.int (N:Nat)) (bnd rfl (bnd (bnd rfl (bnd rfl (mdk (by decide)))) (by rw [hN];rfl))) (ze (bnd (bnd rfl (bnd (bnd rfl (bnd rfl rfl)) hc1)) (bnd (bnd rfl (bnd rfl rfl)) h3)) (ze (d:=.loc mp) (h':=H4) ?_ (ze (d:=.loc H4.length) (h':=H4++[O.lst []]) rfl (j7 (WL rfl (by omega)) e6 rfl)))))
  rw [hmp,hH4]
  exact jd (q:=([],(List.range' 0 N).map λ j=>.int (j:Nat))) (h2:=H2) (WL rfl (by omega)) (by show _<=_;simp;omega) e4
 ·have:=Yt (A:=H4) (o:=O.lst ((List.range' 0 N).map λ i=>.loc (H4.length+1+i))::(List.range' 0 N).map λ i=>.lst ((jp (RL.getD i d0).p (RL.getD ((i+1)%N) d0).p (cc i)).map T.d)) (1+k) (x:=.lst ((jp (RL.getD k d0).p (RL.getD ((k+1)%N) d0).p (cc k)).map T.d)) (by rw [Nat.add_comm 1 k,List.getElem?_cons_succ,Y0k,Y1o hk];simp)
  rw [<- Y2p] at this
  exact this
end
end K43
namespace K43
open PySem L2 PI
noncomputable def nmO (ws:List Str)(k:Nat):Str:=ws.getD k ""
noncomputable def itO (ws:List Str)(N:Nat)(P:Nat->Pl)(A:Nat->List T)(k:Nat):D:=it (nmO ws k) (.tup ((P k).ps.map .str)) (bdO (P k) (nmO ws ((k+1)%N)) (A k))
noncomputable def qsO (ws:List Str)(N:Nat)(P:Nat->Pl)(A:Nat->List T):List (Str×D):=(List.range' 0 N).map λ k=>(nmO ws k,itO ws N P A k)
noncomputable def wv {α:Type}(l:List α)(s:Nat):List α:=l.drop s++l.take s
theorem yk {α:Type}(l:List α)(s:Nat):(wv l s).Perm l:=by
 unfold wv
 exact List.perm_append_comm.trans (by rw [List.take_append_drop])
section
variable {n:Nat}{H:Hh}{mq mp mr N:Nat}{ws:List Str}{P:Nat->Pl}{A:Nat->List T}{ms qs rs:Nat->Nat}{ns:List Int}
theorem Su.mono {H':Hh}(S:Su H mq mp mr N ws P A ms qs rs)(e:Ex H H'):Su H' mq mp mr N ws P A ms qs rs:=⟨S.lw,S.ev.mono e,e _ _ S.gq,S.l6,S.so,S.nd⟩
theorem Su.mem (S:Su H mq mp mr N ws P A ms qs rs){k:Nat}(h:k<N):nmO ws k∈ws:=by
 have:=S.lw.n6
 have:=S.l6
 unfold nmO
 rw [Y05,Y02 (by omega)]
 exact Y2f _
theorem Su.nm (S:Su H mq mp mr N ws P A ms qs rs){k:Nat}(h:k<N):jg (.loc mq) (.int (k:Nat)) H=.ok (.str (nmO ws k)) H:=by
 have:=S.lw.n6
 have:=S.l6
 exact yE S.gq (atk (by unfold nmO;rw [Y0k,Y05,Y02 (by omega)];rfl))
theorem Su.keys (S:Su H mq mp mr N ws P A ms qs rs)(s:Nat):((wv (qsO ws N P A) s).map (·.1)).Nodup:=by
 refine ((yk _ s).map _).nodup_iff.mpr ?_
 unfold qsO
 rw [Y1y]
 refine WK λ i j hi hj e=>?_
 have l6:=S.l6
 have n6:=S.lw.n6
 have e:nmO ws i=nmO ws j:=e
 unfold nmO at e
 rw [Y05,Y05,Y02 (show i<ws.length by omega),Y02 (show j<ws.length by omega)] at e
 have:=O8 S.nd (show i<ws.length by omega) (show j<ws.length by omega) e
 omega
theorem Su.itm (s:Nat):Itm (wv (qsO ws N P A) s):=λ q hq=>by
 obtain ⟨k,_,rfl⟩:=Y0v.mp ((yk _ s).mem_iff.mp hq)
 exact ⟨_,_,rfl⟩
theorem Su.in_ {k:Nat}(s:Nat)(h:k<N):(nmO ws k,itO ws N P A k)∈wv (qsO ws N P A) s :=
 (yk _ s).mem_iff.mpr (Y0v.mpr ⟨k,Y1q.mpr ⟨Y1h _,by omega⟩,rfl⟩)
theorem Su.ring (S:Su H mq mp mr N ws P A ms qs rs)(s:Nat):Ring P A (nmO ws) (λ k=>(k+1)%N) (·<N) (tab (wv (qsO ws N P A) s)) :=
 ⟨λ k hk=>Y3e _ S.lw.n0,S.lw.pl,S.lw.ln,S.lw.ao,S.lw.ct,λ k hk=>S.so _ (S.mem hk),λ k hk=>Qm (S.keys s) (Su.in_ s hk)⟩
theorem BP {α:Type}(l:List α)(s:Nat):(wv l s).length=l.length:=(yk l s).length_eq
theorem Og {c:Int}{x:Option D}(S:Su H mq mp mr N ws P A ms qs rs):∃ (s:Nat) (m7:Nat) (H':Hh),Ss.run (callI defs (n+1)) (yc 3 (jm 6 d_law.body)) [some (.fl (ns.map .int)),some (.int c),some (.int (N:Nat)),some (.loc mq),some (.loc mp),some (.loc mr),x,none,none,none,none,none,none,none,none] H
   =.nx [some (.fl (ns.map .int)),some (.int c),some (.int (N:Nat)),some (.loc mq),some (.loc mp),some (.loc mr),x,some (.loc m7),some (.int (s:Nat)),some (.tup ((wv (qsO ws N P A) s).map (·.2))),none,none,none,none,none] H'/\Ex H H':=by
  have n0:=S.lw.n0
  have n6:=S.lw.n6
  obtain ⟨s,hs⟩:∃ s:Nat,(s:Int)=c/6%N:=⟨(c/6%N).toNat,Y1k (Y1l _ (by omega))⟩
  have sN:s<N:=by have:=Y1w (c/6) (b:=(N:Int)) (by omega);omega
  have C:=yH (c:=[]) (f:=jk Wy [none,some (.int (N:Nat)),some (.loc mq),some (.loc mp),some (.loc mr)] (λ ρ' h2=>c_law_2.evC (callI defs (n+1)) ρ' h2) (λ ρ' h2=>e_law_2.ev (callI defs (n+1)) ρ' h2)) (h:=H) (λ _ hp=>nomatch hp) (λ j:Nat=>D.int (j:Nat)) (itO ws N P A) (List.range' 0 N) [] λ k hk=>by
    have hk:k<N:=by have:=Y1q.mp hk;omega
    have hk':(k+1)%N<N:=Y3e _ n0
    have md:((k:Int)+1)%(N:Int)=(((k+1)%N:Nat):Int):=by rw [Y3n];rfl
    exact jH rfl rfl (bnd (bnd rfl (bnd rfl (S.nm hk))) (bnd (bnd (bnd rfl (bnd rfl (S.ev.sub hk))) (bnd (bnd (bnd rfl (bnd (x:=.int (((k+1)%N:Nat):Int)) (bnd (bnd rfl (bnd rfl rfl)) (bnd rfl ((mdk (by omega)).trans (by rw [md])))) (S.nm hk'))) (bnd (bnd (bnd rfl (bnd rfl (S.ev.row hk))) (bnd rfl rfl)) rfl)) rfl)) (z50 (S.ev.at_ k hk) (S.lw.pl k hk) (S.ev.ar k hk))))
  rw [Y16] at C
  have g1:(H++[O.lst ((List.range' 0 N).map (itO ws N P A))])[H.length]?=some (.lst ((List.range' 0 N).map (itO ws N P A))):=zV
  have ll:s<=((List.range' 0 N).map (itO ws N P A)).length:=by simp;omega
  have e2:∀ (B:Hh),Ex (H++[O.lst ((List.range' 0 N).map (itO ws N P A))]) ((H++[O.lst ((List.range' 0 N).map (itO ws N P A))])++B):=λ B=>Ex.app
  have lH:(H++[O.lst ((List.range' 0 N).map (itO ws N P A))]).length=H.length+1:=by simp
  have e0:Ex H (H++[O.lst ((List.range' 0 N).map (itO ws N P A))]):=Ex.app
  have W:E.ev (callI defs (n+1)) (.ofL (.comp e_law_2 Wy (.rng (.var 2 ⟨0,0,0,0⟩) ⟨0,0,0,0⟩ ⟨0,0,0,0⟩) c_law_2 ["_law_k","_law_many","_law_names_here","_law_plans","_law_rows"] [none,some 2,some 3,some 4,some 5] Ua ⟨0,0,0,0⟩)) [some (.fl (ns.map .int)),some (.int c),some (.int (N:Nat)),some (.loc mq),some (.loc mp),some (.loc mr),x,none,none,none,none,none,none,none,none] H=.ok (.loc H.length) (H++[O.lst ((List.range' 0 N).map (itO ws N P A))]):=jd (q:=([],(List.range' 0 N).map λ j=>.int (j:Nat))) (h2:=H) (WL rfl (by omega)) (by show _<=_;simp;omega) C
  generalize H++[O.lst ((List.range' 0 N).map (itO ws N P A))]=H5 at g1 e2 lH e0 W
  have ge2:(H5++[O.lst (((List.range' 0 N).map (itO ws N P A)).drop s)])[H.length]?=some (.lst ((List.range' 0 N).map (itO ws N P A))):=zj g1
  have gd:((H5++[O.lst (((List.range' 0 N).map (itO ws N P A)).drop s)])++[O.lst (((List.range' 0 N).map (itO ws N P A)).take s)])[H5.length]?=some (.lst (((List.range' 0 N).map (itO ws N P A)).drop s)):=zj zV
  have gt:=zV (h:=H5++[O.lst (((List.range' 0 N).map (itO ws N P A)).drop s)]) (x:=O.lst (((List.range' 0 N).map (itO ws N P A)).take s))
  have rt:((List.range' 0 N).map (itO ws N P A)).drop s++((List.range' 0 N).map (itO ws N P A)).take s=(wv (qsO ws N P A) s).map (·.2):=by
    unfold wv qsO
    rw [List.map_append,List.map_drop,List.map_take,Y1y];rfl
  have B:=z55 gd gt (by simp;omega)
  rw [rt] at B
  have gb:=zV (h:=(H5++[O.lst (((List.range' 0 N).map (itO ws N P A)).drop s)])++[O.lst (((List.range' 0 N).map (itO ws N P A)).take s)]) (x:=O.lst ((wv (qsO ws N P A) s).map (·.2)))
  refine ⟨s,H.length,((H5++[O.lst (((List.range' 0 N).map (itO ws N P A)).drop s)])++[O.lst (((List.range' 0 N).map (itO ws N P A)).take s)])++[O.lst ((wv (qsO ws N P A) s).map (·.2))],?_,(e0.tr Ex.app).tr (Ex.app.tr (Ex.app (B:=[O.lst ((wv (qsO ws N P A) s).map (·.2))])))⟩
  exact ze W (ze (d:=.int (s:Nat)) (bnd (bnd rfl (bnd rfl (fdk (by decide)))) (bnd rfl ((mdk (by omega)).trans (by rw [hs])))) (ze (Yi (bnd (z6p rfl rfl g1 ll) (bnd (z6q rfl rfl ge2 ll) B)) (Um gb)) rfl))
theorem JZ {c:Ck}{f:D->Hh->Res (Option D)}{h:Hh}(st:stay c h):∀ (xs acc:List D),(∀ x∈xs,∃ v,f x h=.ok (some (.int v)) h/\Sm v)->∃ vs:List Int,zX c f xs acc h=.ok (acc++vs.map D.int) h/\vs.length=xs.length/\∀ v∈vs,Sm v
 | [],acc,_=>⟨[],by simp [zX,st],rfl,λ _ h=>nomatch h⟩
 | x::r,acc,e=>by
  obtain ⟨v,e1,s1⟩:=e x Y0b
  obtain ⟨vs,e2,l2,s2⟩:=JZ st r (acc++[.int v]) λ y hy=>e y (Y04 _ hy)
  refine ⟨v::vs,?_,by rw [Y06,Y06,l2],λ z hz=>?_⟩
  ·unfold zX
   rw [if_pos st,e1,bind_ok,addO_some,e2,Y0e];rfl
  ·rcases Y0d.mp hz with rfl | hz
   ·exact s1
   ·exact s2 z hz
theorem Oh {c:Int}{x a7 a8 a9:Option D}(S:Su H mq mp mr N ws P A ms qs rs):∃ (t cn m11:Nat) (nums:List Int) (H':Hh),Ss.run (callI defs (n+2)) (yc 4 (jm 9 d_law.body)) [some (.fl (ns.map .int)),some (.int c),some (.int (N:Nat)),some (.loc mq),some (.loc mp),some (.loc mr),x,a7,a8,a9,none,none,none,none,none] H
   =.nx [some (.fl (ns.map .int)),some (.int c),some (.int (N:Nat)),some (.loc mq),some (.loc mp),some (.loc mr),x,a7,a8,a9,some (.int (t:Nat)),some (.loc m11),none,none,none] H'/\Ex H H'/\t<N/\cn<400/\NumOk (P t) nums/\nums.getD (P t).co 0=cn/\H'[m11]?=some (.lst (nums.map .int)):=by
  have n0:=S.lw.n0
  obtain ⟨t,ht⟩:∃ t:Nat,(t:Int)=c/36%N:=⟨(c/36%N).toNat,Y1k (Y1l _ (by omega))⟩
  have tN:t<N:=by have:=Y1w (c/36) (b:=(N:Int)) (by omega);omega
  have pk:=S.lw.pl t tN
  have pa:=S.ev.at_ t tN
  have l8:=pk.le
  obtain ⟨vs,C,lv,sv⟩:=JZ (c:=[]) (f:=jk Wx [none,some (.fl (ns.map .int))] (λ ρ' h2=>c_law_1.evC (callI defs (n+2)) ρ' h2) (λ ρ' h2=>e_law_1.ev (callI defs (n+2)) ρ' h2)) (h:=H) (λ _ hp=>nomatch hp) ((List.range' 0 (P t).ps.length).map λ j=>D.int (j:Nat)) [] λ z hz=>by
    obtain ⟨j,_,rfl⟩:=Y0v.mp hz
    obtain ⟨v,hv⟩:=yI (n:=n+1) (H:=H) (ns:=ns) (9+j)
    obtain ⟨u,hu,su⟩:=O6 (cl:=callI defs (n+1)) (h:=H) (c:=v)
    exact ⟨u,jH rfl rfl (bnd (Of (a:=9) rfl rfl hv) (bnd rfl ((za (d:=d_law_number) rfl rfl).trans hu))),su⟩
  rw [Y0j,List.length_range'] at lv
  rw [Y16] at C
  obtain ⟨v1,hv1⟩:∃ v:Nat,(v:Int)=c/216%25:=⟨(c/216%25).toNat,by omega⟩
  obtain ⟨v2,hv2⟩:∃ v:Nat,(v:Int)=340+c/216%60:=⟨(340+c/216%60).toNat,by omega⟩
  have fin:∀ cn:Nat,cn<400->NumOk (P t) (vs.set (P t).co cn)/\(vs.set (P t).co (cn:Int)).getD (P t).co 0=cn:=λ cn hcn=>by
    refine ⟨⟨by rw [Y0n,lv],λ z hz=>?_⟩,?_⟩
    · rcases Y2j hz with h | h
      · exact sv z h
      · rw [h];unfold Sm;omega
    · rw [Y05,Y0r (by rw [lv];exact pk.co)];rfl
  have ms1:∀ (us:List Int) (v:Int),(us.map D.int).set (P t).co (.int v)=(us.set (P t).co v).map D.int:=λ us v=>by rw [List.map_set]
  have pu:∀ (us:List Int) (v:Int),us.length=(P t).ps.length->Je (.loc H.length) (.int ((P t).co:Nat)) (.int v) (H++[.lst (us.map D.int)])=some (H++[.lst ((us.set (P t).co v).map D.int)]):=λ us v hl=>by
    rw [<- ms1];exact z0g (by rw [Y0j,hl];exact pk.co)
  have sb:∀ (B:Hh) {ρ:En}{p1 p2 p3 p4 p5:Pos},ρ[4]?=some (some (.loc mp))->ρ[10]?=some (some (.int (t:Nat)))->E.ev (callI defs (n+2)) (.sub (.sub (.var 4 p1) (.var 10 p2) p3) (.str "counted" p4) p5) ρ (H++B)=.ok (.int ((P t).co:Nat)) (H++B):=λ B {ρ p1 p2 p3 p4 p5} e4 e10=>by
    have S':=S.mono (Ex.app (B:=B))
    exact bnd (bnd (x:=.loc mp) (h:=H++B) (by rw [zR,e4]) (bnd (x:=.int (t:Nat)) (h:=H++B) (by rw [zR,e10]) (S'.ev.sub tN))) (bnd rfl (S'.ev.at_ t tN).cnt)
  have W:E.ev (callI defs (n+2)) (.ofL (.comp e_law_1 Wx (.rng (.len (.sub (.sub (.var 4 ⟨0,0,0,0⟩) (.var 10 ⟨0,0,0,0⟩) ⟨0,0,0,0⟩) (.str "params" ⟨0,0,0,0⟩) ⟨0,0,0,0⟩) ⟨0,0,0,0⟩ ⟨0,0,0,0⟩) ⟨0,0,0,0⟩ ⟨0,0,0,0⟩) c_law_1 ["_law_k","_law_script"] [none,some 0] U9 ⟨0,0,0,0⟩)) [some (.fl (ns.map .int)),some (.int c),some (.int (N:Nat)),some (.loc mq),some (.loc mp),some (.loc mr),x,a7,a8,a9,some (.int (t:Nat)),none,none,none,none] H=.ok (.loc H.length) (H++[O.lst (vs.map D.int)]) :=
    jd (q:=([],(List.range' 0 (P t).ps.length).map λ j=>.int (j:Nat))) (h2:=H) (WL (bnd (bnd (bnd rfl (bnd rfl (S.ev.sub tN))) (bnd rfl pa.par)) pa.len) (by omega)) (by show _<=_;simp;omega) C
  by_cases z:c/5400%16=5
  · obtain ⟨f1,f2⟩:=fin v2 (by omega)
    have s2:=pu (vs.set (P t).co v1) v2 (by rw [Y0n,lv])
    rw [List.set_set] at s2
    refine ⟨t,v2,H.length,_,_,?_,Ex.app,tN,by omega,f1,f2,zV⟩
    exact ze (d:=.int (t:Nat)) (bnd (bnd rfl (bnd rfl (fdk (by decide)))) (bnd rfl ((mdk (by omega)).trans (by rw [ht])))) (ze W (ZR (z:=.int (v1:Nat)) (bnd (bnd rfl (bnd rfl (fdk (by decide)))) (bnd rfl ((mdk (by decide)).trans (by rw [hv1])))) rfl (sb _ rfl rfl) (pu vs v1 lv) (jc (zf (bnd (bnd rfl (bnd rfl (fdk (by decide)))) (bnd rfl (mdk (by decide)))) rfl (eqI.trans (by rw [z];rfl))) (ZR (z:=.int (v2:Nat)) (bnd rfl (bnd (bnd (bnd rfl (bnd rfl (fdk (by decide)))) (bnd rfl (mdk (by decide)))) (by rw [hv2];rfl))) rfl (sb _ rfl rfl) s2 rfl) rfl)))
  · obtain ⟨f1,f2⟩:=fin v1 (by omega)
    refine ⟨t,v1,H.length,_,_,?_,Ex.app,tN,by omega,f1,f2,zV⟩
    exact ze (d:=.int (t:Nat)) (bnd (bnd rfl (bnd rfl (fdk (by decide)))) (bnd rfl ((mdk (by omega)).trans (by rw [ht])))) (ze W (ZR (z:=.int (v1:Nat)) (bnd (bnd rfl (bnd rfl (fdk (by decide)))) (bnd rfl ((mdk (by decide)).trans (by rw [hv1])))) rfl (sb _ rfl rfl) (pu vs v1 lv) (zi (zf (bnd (bnd rfl (bnd rfl (fdk (by decide)))) (bnd rfl (mdk (by decide)))) rfl (eqI.trans (by rw [beq_eq_false_iff_ne.mpr z]))) rfl)))
end
end K43
namespace K43
open PySem L2 PI
section
variable {n:Nat}{H:Hh}{mq mp mr N:Nat}{ws:List Str}{P:Nat->Pl}{A:Nat->List T}{ms qs rs:Nat->Nat}{ns:List Int}
theorem W2 {s t cn m11:Nat}{nums:List Int}{bd:Int}{ρ:En}{be eE uE:E}{X:Hh}{U:Nat}{e:D}{p1 p2 p3 p4 p5 p6 p7 p8 p9 p10 p11 p12 p13:Pos}(S:Su X mq mp mr N ws P A ms qs rs)(ht:t<N)(p:NumOk (P t) nums)(hc:nums.getD (P t).co 0=cn)(hcn:cn<400)(g:X[m11]?=some (.lst (nums.map .int)))
  (e3:ρ[3]?=some (some (.loc mq))) (e9:ρ[9]?=some (some (.tup ((wv (qsO ws N P A) s).map (·.2))))) (e10:ρ[10]?=some (some (.int (t:Nat)))) (e11:ρ[11]?=some (some (.loc m11))) (hb:∀ h,be.ev (callI defs (n+6)) ρ h=.ok (.int bd) h) (he:∀ h,eE.ev (callI defs (n+6)) ρ h=.ok e h) (hu:∀ h,uE.ev (callI defs (n+6)) ρ h=.ok (.int (U:Nat)) h)
  (hd:jh P A (λ k=>(k+1)%N) bd cn t nums []=(e,U)):∃ Hf,Ex X Hf/\E.ev (callI defs (n+6)) (.call 27 (.call 7 (.var 9 p1) (.cons (.sub (.var 3 p2) (.var 10 p3) p4) (.cons (.listE (.var 11 p5) p6 p7) (.cons (.ofL (.disp .nil p8)) (.cons be .nil)))) p9 p10) (.cons eE (.cons (.ofL (.disp .nil p11)) (.cons uE .nil))) p12 p13) ρ X=.ok (.bl true) Hf:=by
 have ed:=Od (P:=P) (A:=A) (nx:=λ k=>(k+1)%N) (bd:=bd) cn t nums []
 have x1:Ex X ((X++[O.lst (nums.map .int)])++[O.lst []]):=Ex.app.tr Ex.app
 have g1:((X++[O.lst (nums.map D.int)])++[O.lst []])[X.length]?=some (.lst (nums.map .int)):=zj zV
 have g2:=zV (h:=X++[O.lst (nums.map D.int)]) (x:=O.lst [])
 have n6:=S.lw.n6
 obtain ⟨Hf,rr,R,gr,old⟩:=z4s (n:=n) (bd:=bd) (S.ring s) (Su.itm s) (S.keys s) (by rw [BP];unfold qsO;simp;omega) ht (Su.in_ s ht) g1 g2 p hc (by omega)
 rw [hd] at R ed
 have g3:=zV (h:=Hf) (x:=O.lst [])
 have K:=BI (n:=n+3) ed (u:=(U:Int)) (zj (B:=[O.lst []]) gr) g3
 refine ⟨Hf++[.lst []],(x1.tr old).tr Ex.app,?_⟩
 refine bnd (x:=.tup [e,.loc rr,.int (U:Nat)]) (h:=Hf) (bnd (x:=.tup ((wv (qsO ws N P A) s).map (·.2))) (h:=X) (by rw [zR,e9]) (bnd (x:=[.str (nmO ws t),.loc X.length,.loc (X++[O.lst (nums.map D.int)]).length,.int bd]) (h:=(X++[O.lst (nums.map D.int)])++[O.lst []]) ?_ R)) (bnd (x:=[e,.loc Hf.length,.int (U:Nat)]) (h:=Hf++[O.lst []]) ?_ K)
 ·refine bnd (x:=.str (nmO ws t)) (h:=X) (bnd (x:=.loc mq) (h:=X) (by rw [zR,e3]) (bnd (x:=.int (t:Nat)) (h:=X) (by rw [zR,e10]) (S.nm ht))) (bnd (x:=[.loc X.length,.loc (X++[O.lst (nums.map D.int)]).length,.int bd]) (h:=(X++[O.lst (nums.map D.int)])++[O.lst []]) (bnd (x:=.loc X.length) (h:=X++[O.lst (nums.map D.int)]) ?_ (bnd (x:=[.loc (X++[O.lst (nums.map D.int)]).length,.int bd]) (h:=(X++[O.lst (nums.map D.int)])++[O.lst []]) (bnd (x:=.loc (X++[O.lst (nums.map D.int)]).length) (h:=(X++[O.lst (nums.map D.int)])++[O.lst []]) rfl (bnd (bnd (hb _) (bnd rfl rfl)) rfl)) rfl)) rfl)
  rw [z2f,zR,e11]
  refine bnd rfl ?_
  rw [Um g];rfl
 ·exact bnd (he _) (bnd (bnd (x:=.loc Hf.length) (h:=Hf++[O.lst []]) rfl (bnd (bnd (hu _) (bnd rfl rfl)) rfl)) rfl)
theorem BQ:∃ h',callI defs (n+7) 39 [.fl (ns.map .int)] []=.ok (.bl true) h':=by
 obtain ⟨c,N,mq,mp,mr,x,H,ws,P,A,ms,qs,rs,L1,S⟩:=BO (n:=n+3) (ns:=ns)
 obtain ⟨s,m7,H2,L2,x2⟩:=Og (n:=n+5) (ns:=ns) (c:=c) (x:=x) S
 have S2:=S.mono x2
 obtain ⟨t,cn,m11,nums,H3,L3,x3,ht,hcn,p,hc,g⟩:=Oh (n:=n+4) (ns:=ns) (c:=c) (x:=x) (a7:=some (.loc m7)) (a8:=some (.int (s:Nat))) (a9:=some (.tup ((wv (qsO ws N P A) s).map (·.2)))) S2
 have S3:=S2.mono x3
 have tu:∃ bd:Int,∀ {p1 p2 p3 p4 p5 p6 p7 p8 p9 p10 p11 p12 p13 p14 p15 p16 p17 p18:Pos},E.ev (callI defs (n+6)) (.sub (.ofL (.disp (.cons (.bin .Mod (.bin .FloorDiv (.var 1 p1) (.int 86400 p2) p3) (.int 41 p4) p5) (.cons (.bin .Mod (.bin .FloorDiv (.var 1 p6) (.int 86400 p7) p8) (.int 2001 p9) p10) (.cons (.int 2000 p11) .nil))) p12)) (.bin .Mod (.bin .FloorDiv (.var 1 p13) (.int 400 p14) p15) (.int 3 p16) p17) p18) [some (.fl (ns.map .int)),some (.int c),some (.int (N:Nat)),some (.loc mq),some (.loc mp),some (.loc mr),x,some (.loc m7),some (.int (s:Nat)),some (.tup ((wv (qsO ws N P A) s).map (·.2))),some (.int (t:Nat)),some (.loc m11),none,none,none] H3=.ok (.int bd) (H3++[.lst [.int (c/86400%41),.int (c/86400%2001),.int 2000]]):=by
  have k3:c/400%3=0\/c/400%3=1\/c/400%3=2:=by omega
  have key:∀ (i:Nat) (bd:Int),c/400%3=(i:Int)->([.int (c/86400%41),.int (c/86400%2001),.int 2000]:List D)[i]?=some (.int bd)->∀ {p1 p2 p3 p4 p5 p6 p7 p8 p9 p10 p11 p12 p13 p14 p15 p16 p17 p18:Pos},E.ev (callI defs (n+6)) (.sub (.ofL (.disp (.cons (.bin .Mod (.bin .FloorDiv (.var 1 p1) (.int 86400 p2) p3) (.int 41 p4) p5) (.cons (.bin .Mod (.bin .FloorDiv (.var 1 p6) (.int 86400 p7) p8) (.int 2001 p9) p10) (.cons (.int 2000 p11) .nil))) p12)) (.bin .Mod (.bin .FloorDiv (.var 1 p13) (.int 400 p14) p15) (.int 3 p16) p17) p18) [some (.fl (ns.map .int)),some (.int c),some (.int (N:Nat)),some (.loc mq),some (.loc mp),some (.loc mr),x,some (.loc m7),some (.int (s:Nat)),some (.tup ((wv (qsO ws N P A) s).map (·.2))),some (.int (t:Nat)),some (.loc m11),none,none,none] H3=.ok (.int bd) (H3++[.lst [.int (c/86400%41),.int (c/86400%2001),.int 2000]]):=λ i bd h1 h2 {p1 p2 p3 p4 p5 p6 p7 p8 p9 p10 p11 p12 p13 p14 p15 p16 p17 p18} =>
   bnd (x:=.loc H3.length) (h:=H3++[O.lst [.int (c/86400%41),.int (c/86400%2001),.int 2000]]) (vofL.trans (bnd (x:=[.int (c/86400%41),.int (c/86400%2001),.int 2000]) (h:=H3) (ldisp.trans (bnd (x:=[.int (c/86400%41),.int (c/86400%2001),.int 2000]) (h:=H3) (bnd (bnd (bnd rfl (bnd rfl (fdk (by decide)))) (bnd rfl (mdk (by decide)))) (bnd (bnd (bnd (bnd rfl (bnd rfl (fdk (by decide)))) (bnd rfl (mdk (by decide)))) (bnd (bnd rfl (bnd rfl rfl)) rfl)) rfl)) rfl)) rfl)) (bnd (bnd (bnd rfl (bnd rfl (fdk (by decide)))) (bnd rfl ((mdk (by decide)).trans (by rw [h1])))) (yE zV (atk h2)))
  rcases k3 with q | q | q
  ·exact ⟨_,key 0 _ q rfl⟩
  ·exact ⟨_,key 1 _ q rfl⟩
  ·exact ⟨_,key 2 _ q rfl⟩
 obtain ⟨bd,tu⟩:=tu
 have x4:Ex H3 (H3++[.lst [.int (c/86400%41),.int (c/86400%2001),.int 2000]]):=Ex.app
 obtain ⟨X,D1,old⟩:=z53 (n:=n+2) (bd:=bd) (S3.mono x4).lw (S3.mono x4).ev ht p hc (x4 _ _ g) (by omega)
 have x5:Ex H3 X:=x4.tr old
 have S5:=S3.mono x5
 have g5:=x5 _ _ g
 obtain ⟨U,hU⟩:∃ U,(jh P A (λ k=>(k+1)%N) bd cn t nums []).2=U:=⟨_,rfl⟩
 obtain ⟨e,he⟩:∃ e,(jh P A (λ k=>(k+1)%N) bd cn t nums []).1=e:=⟨_,rfl⟩
 rw [hU,he] at D1
 have hd:jh P A (λ k=>(k+1)%N) bd cn t nums []=(e,U):=by rw [<- hU,<- he]
 have RR:∀ {p1 p2 p3 p4 p5 p6 p7 p8 p9 p10 p11 p12 p13 p14 p15 p16:Pos},∃ Hf,Ex X Hf/\E.ev (callI defs (n+6)) (.call 27 (.call 7 (.var 9 p1) (.cons (.sub (.var 3 p2) (.var 10 p3) p4) (.cons (.listE (.var 11 p5) p6 p7) (.cons (.ofL (.disp .nil p8)) (.cons (.var 12 p14) .nil)))) p9 p10) (.cons (.var 13 p15) (.cons (.ofL (.disp .nil p11)) (.cons (.var 14 p16) .nil))) p12 p13) [some (.fl (ns.map .int)),some (.int c),some (.int (N:Nat)),some (.loc mq),some (.loc mp),some (.loc mr),x,some (.loc m7),some (.int (s:Nat)),some (.tup ((wv (qsO ws N P A) s).map (·.2))),some (.int (t:Nat)),some (.loc m11),some (.int bd),some e,some (.int (U:Nat))] X=.ok (.bl true) Hf:=λ {p1 p2 p3 p4 p5 p6 p7 p8 p9 p10 p11 p12 p13 p14 p15 p16} =>
  W2 S5 ht p hc hcn g5 rfl rfl rfl rfl (λ _=>rfl) (λ _=>rfl) (λ _=>rfl) hd
 obtain ⟨Hf,xf,R1⟩:=RR (p1:=⟨0,0,0,0⟩) (p2:=⟨0,0,0,0⟩) (p3:=⟨0,0,0,0⟩) (p4:=⟨0,0,0,0⟩) (p5:=⟨0,0,0,0⟩) (p6:=⟨0,0,0,0⟩) (p7:=⟨0,0,0,0⟩) (p8:=⟨0,0,0,0⟩) (p9:=⟨0,0,0,0⟩) (p10:=⟨0,0,0,0⟩) (p11:=⟨0,0,0,0⟩) (p12:=⟨0,0,0,0⟩) (p13:=⟨0,0,0,0⟩) (p14:=⟨0,0,0,0⟩) (p15:=⟨0,0,0,0⟩) (p16:=⟨0,0,0,0⟩)
 have fin:∃ h',Ss.run (callI defs (n+6)) (jm 16 d_law.body) [some (.fl (ns.map .int)),some (.int c),some (.int (N:Nat)),some (.loc mq),some (.loc mp),some (.loc mr),x,some (.loc m7),some (.int (s:Nat)),some (.tup ((wv (qsO ws N P A) s).map (·.2))),some (.int (t:Nat)),some (.loc m11),some (.int bd),some e,some (.int (U:Nat))] Hf=.rt (.bl true) h':=by
  by_cases z:U=0
  ·exact ⟨Hf,jb (JN rfl (by rw [z];rfl)) (zo rfl)⟩
  ·have hl:=Qs (P:=P) (A:=A) (nx:=λ k=>(k+1)%N) (bd:=bd) cn t nums [] U hU (by show 0<U;omega)
   have hm:((U-1:Nat):Int)=(U:Int)-1:=by omega
   obtain ⟨h',_,R2⟩:=W2 (n:=n) (s:=s) (be:=.bin .Sub (.var 14 ⟨0,0,0,0⟩) (.int 1 ⟨0,0,0,0⟩) ⟨0,0,0,0⟩) (eE:=.tup (.cons (.str "spent" ⟨0,0,0,0⟩) .nil) ⟨0,0,0,0⟩) (uE:=.bin .Sub (.var 14 ⟨0,0,0,0⟩) (.int 1 ⟨0,0,0,0⟩) ⟨0,0,0,0⟩) (p1:=⟨0,0,0,0⟩) (p2:=⟨0,0,0,0⟩) (p3:=⟨0,0,0,0⟩) (p4:=⟨0,0,0,0⟩) (p5:=⟨0,0,0,0⟩) (p6:=⟨0,0,0,0⟩) (p7:=⟨0,0,0,0⟩) (p8:=⟨0,0,0,0⟩) (p9:=⟨0,0,0,0⟩) (p10:=⟨0,0,0,0⟩) (p11:=⟨0,0,0,0⟩) (p12:=⟨0,0,0,0⟩) (p13:=⟨0,0,0,0⟩)
    (ρ:=[some (.fl (ns.map .int)),some (.int c),some (.int (N:Nat)),some (.loc mq),some (.loc mp),some (.loc mr),x,some (.loc m7),some (.int (s:Nat)),some (.tup ((wv (qsO ws N P A) s).map (·.2))),some (.int (t:Nat)),some (.loc m11),some (.int bd),some e,some (.int (U:Nat))])
    (S5.mono xf) ht p hc hcn (xf _ _ g5) rfl rfl rfl rfl (λ _=>bnd rfl (bnd rfl rfl)) (λ _=>bnd (bnd rfl (bnd rfl rfl)) rfl) (λ _=>bnd rfl (bnd rfl (by rw [hm];rfl))) hl
   exact ⟨h',zi (JN rfl (by rw [beq_eq_false_iff_ne];omega)) (zo R2)⟩
 obtain ⟨h',fin⟩:=fin
 refine ⟨h',?_⟩
 rw [za (d:=d_law) rfl rfl]
 refine zg (GO 6 L1 (GO 3 L2 (GO 4 L3 ?_)))
 exact ze tu (z2k (bnd rfl (bnd (bnd rfl (bnd (bnd rfl (bnd (bnd rfl (bnd (bnd rfl (bnd rfl rfl)) rfl)) rfl)) rfl)) D1)) rfl (zi (bnd (bnd R1 rfl) rfl) fin))
end
theorem law_true (ns:List Int):∃ h',callI defs 7 39 [.fl (ns.map .int)] []=.ok (.bl true) h':=BQ (n:=0)
end K43
namespace K43
open PySem L2 PI
noncomputable def top (i:Nat):Stmt:=PySem.Challenge.pw_deedwright_k43_calls_in_turn.main.body.getD i (.Pass ⟨0,0,0,0⟩)
theorem Yx:DefOk (top 6) d_parts_of (defs.map (·.name)) zh "parts_of" "parts_of":=⟨rfl,⟨rfl,rfl,rfl,by decide +kernel,rfl,by decide +kernel,by decide +kernel⟩,by decide +kernel,by decide +kernel,λ _ _ _ _ _ _=>yu λ _=>rfl⟩
theorem WN:DefOk (top 7) jJ (defs.map (·.name)) zh "stands_for" "stands_for":=⟨rfl,⟨rfl,rfl,rfl,by decide +kernel,rfl,by decide +kernel,by decide +kernel⟩,by decide +kernel,by decide +kernel,λ _ _ _ _ _ _=>qi λ _ _=>rfl⟩
theorem Z3:DefOk (top 8) jA (defs.map (·.name)) zh "items_by_name" "items_by_name":=⟨rfl,⟨rfl,rfl,rfl,by decide +kernel,rfl,by decide +kernel,by decide +kernel⟩,by decide +kernel,by decide +kernel,λ _ _ _ _ _ _=>yu λ _=>rfl⟩
theorem Jk:DefOk (top 10) wj (defs.map (·.name)) zh "is_function" "is_function":=⟨rfl,⟨rfl,rfl,rfl,by decide +kernel,rfl,by decide +kernel,by decide +kernel⟩,by decide +kernel,by decide +kernel,λ _ _ _ _ _ _=>qi λ _ _=>rfl⟩
theorem Yy:DefOk (top 11) qR (defs.map (·.name)) zh "begun_at" "begun_at":=⟨rfl,⟨rfl,rfl,rfl,by decide +kernel,rfl,by decide +kernel,by decide +kernel⟩,by decide +kernel,by decide +kernel,λ _ _ _ _ _ _=>qi λ _ _=>rfl⟩
theorem Z4:DefOk (top 12) jB (defs.map (·.name)) zh "check_numbers" "check_numbers":=⟨rfl,⟨rfl,rfl,rfl,by decide +kernel,rfl,by decide +kernel,by decide +kernel⟩,by decide +kernel,by decide +kernel,λ _ _ _ _ _ _=>qi λ _ _=>rfl⟩
theorem Yz:DefOk (top 15) d_reckoned (defs.map (·.name)) zh "reckoned" "reckoned":=⟨rfl,⟨rfl,rfl,rfl,by decide +kernel,rfl,by decide +kernel,by decide +kernel⟩,by decide +kernel,by decide +kernel,λ _ _ _ _ _ _=>Wn λ _ _ _=>rfl⟩
theorem z56:DefOk (top 21) GP (defs.map (·.name)) zh "run" "run":=⟨rfl,⟨rfl,rfl,rfl,by decide +kernel,rfl,by decide +kernel,by decide +kernel⟩,by decide +kernel,by decide +kernel,λ _ _ _ _ _ _=>z26 λ _ _ _ _ _=>rfl⟩
theorem Vf:DefOk (top 22) yz (defs.map (·.name)) zh "readied" "readied":=⟨rfl,⟨rfl,rfl,rfl,by decide +kernel,rfl,by decide +kernel,by decide +kernel⟩,by decide +kernel,by decide +kernel,λ _ _ _ _ _ _=>Gh λ _ _ _ _=>rfl⟩
theorem yl:DefOk (top 23) je (defs.map (·.name)) zh "clauses_by_deed" "clauses_by_deed":=⟨rfl,⟨rfl,rfl,rfl,by decide +kernel,rfl,by decide +kernel,by decide +kernel⟩,by decide +kernel,by decide +kernel,λ _ _ _ _ _ _=>yu λ _=>rfl⟩
theorem J4:DefOk (top 24) jS (defs.map (·.name)) zh "doing_copied" "doing_copied":=⟨rfl,⟨rfl,rfl,rfl,by decide +kernel,rfl,by decide +kernel,by decide +kernel⟩,by decide +kernel,by decide +kernel,λ _ _ _ _ _ _=>yu λ _=>rfl⟩
theorem Oi:DefOk (top 25) ZT (defs.map (·.name)) zh "linked" "linked":=⟨rfl,⟨rfl,rfl,rfl,by decide +kernel,rfl,by decide +kernel,by decide +kernel⟩,by decide +kernel,by decide +kernel,λ _ _ _ _ _ _=>qi λ _ _=>rfl⟩
theorem Vg:DefOk (top 27) yA (defs.map (·.name)) zh "walk_on" "walk_on":=⟨rfl,⟨rfl,rfl,rfl,by decide +kernel,rfl,by decide +kernel,by decide +kernel⟩,by decide +kernel,by decide +kernel,λ _ _ _ _ _ _=>yu λ _=>rfl⟩
theorem Vh:DefOk (top 28) j8 (defs.map (·.name)) zh "do_task" "do_task":=⟨rfl,⟨rfl,rfl,rfl,by decide +kernel,rfl,by decide +kernel,by decide +kernel⟩,by decide +kernel,by decide +kernel,λ _ _ _ _ _ _=>qi λ _ _=>rfl⟩
theorem YA:DefOk (top 29) jT (defs.map (·.name)) zh "ahead_of" "ahead_of":=⟨rfl,⟨rfl,rfl,rfl,by decide +kernel,rfl,by decide +kernel,by decide +kernel⟩,by decide +kernel,by decide +kernel,λ _ _ _ _ _ _=>yu λ _=>rfl⟩
theorem Qt:DefOk (top 30) d_looked_up (defs.map (·.name)) zh "looked_up" "looked_up":=⟨rfl,⟨rfl,rfl,rfl,by decide +kernel,rfl,by decide +kernel,by decide +kernel⟩,by decide +kernel,by decide +kernel,λ _ _ _ _ _ _=>qi λ _ _=>rfl⟩
theorem z57:DefOk (top 31) d_put (defs.map (·.name)) zh "put" "put":=⟨rfl,⟨rfl,rfl,rfl,by decide +kernel,rfl,by decide +kernel,by decide +kernel⟩,by decide +kernel,by decide +kernel,λ _ _ _ _ _ _=>qi λ _ _=>rfl⟩
theorem BR:DefOk (top 32) d_taken (defs.map (·.name)) zh "taken" "taken":=⟨rfl,⟨rfl,rfl,rfl,by decide +kernel,rfl,by decide +kernel,by decide +kernel⟩,by decide +kernel,by decide +kernel,λ _ _ _ _ _ _=>qi λ _ _=>rfl⟩
theorem Qu:DefOk (top 33) jZ (defs.map (·.name)) zh "took_turn" "took_turn":=⟨rfl,⟨rfl,rfl,rfl,by decide +kernel,rfl,by decide +kernel,by decide +kernel⟩,by decide +kernel,by decide +kernel,λ _ _ _ _ _ _=>yu λ _=>rfl⟩
theorem Vi:DefOk (top 34) qy (defs.map (·.name)) zh "then_op" "then_op":=⟨rfl,⟨rfl,rfl,rfl,by decide +kernel,rfl,by decide +kernel,by decide +kernel⟩,by decide +kernel,by decide +kernel,λ _ _ _ _ _ _=>qi λ _ _=>rfl⟩
theorem Vj:DefOk (top 36) yB (defs.map (·.name)) zh "then_if" "then_if":=⟨rfl,⟨rfl,rfl,rfl,by decide +kernel,rfl,by decide +kernel,by decide +kernel⟩,by decide +kernel,by decide +kernel,λ _ _ _ _ _ _=>qi λ _ _=>rfl⟩
theorem Qw:DefOk (top 38) w4 (defs.map (·.name)) zh "then_call" "then_call":=⟨rfl,⟨rfl,rfl,rfl,by decide +kernel,rfl,by decide +kernel,by decide +kernel⟩,by decide +kernel,by decide +kernel,λ _ _ _ _ _ _=>qi λ _ _=>rfl⟩
theorem BS:DefOk (top 45) Zb (defs.map (·.name)) zh "leave" "leave":=⟨rfl,⟨rfl,rfl,rfl,by decide +kernel,rfl,by decide +kernel,by decide +kernel⟩,by decide +kernel,by decide +kernel,λ _ _ _ _ _ _=>yu λ _=>rfl⟩
theorem o_holds_alone:DefOk (top 46) d_holds_alone (defs.map (·.name)) zh "holds_alone" "holds_alone":=⟨rfl,⟨rfl,rfl,rfl,by decide +kernel,rfl,by decide +kernel,by decide +kernel⟩,by decide +kernel,by decide +kernel,λ _ _ _ _ _ _=>yu λ _=>rfl⟩
theorem Jl:DefOk (top 50) wn (defs.map (·.name)) zh "_law_cell_at" "_law_cell_at":=⟨rfl,⟨rfl,rfl,rfl,by decide +kernel,rfl,by decide +kernel,by decide +kernel⟩,by decide +kernel,by decide +kernel,λ _ _ _ _ _ _=>qi λ _ _=>rfl⟩
theorem Qx:DefOk (top 51) qk (defs.map (·.name)) zh "_law_whole" "_law_whole":=⟨rfl,⟨rfl,rfl,rfl,by decide +kernel,rfl,by decide +kernel,by decide +kernel⟩,by decide +kernel,by decide +kernel,λ _ _ _ _ _ _=>yu λ _=>rfl⟩
theorem Qy:DefOk (top 52) qm (defs.map (·.name)) zh "_law_alike" "_law_alike":=⟨rfl,⟨rfl,rfl,rfl,by decide +kernel,rfl,by decide +kernel,by decide +kernel⟩,by decide +kernel,by decide +kernel,λ _ _ _ _ _ _=>qi λ _ _=>rfl⟩
theorem Qz:DefOk (top 53) qo (defs.map (·.name)) zh "_law_right" "_law_right":=⟨rfl,⟨rfl,rfl,rfl,by decide +kernel,rfl,by decide +kernel,by decide +kernel⟩,by decide +kernel,by decide +kernel,λ _ _ _ _ _ _=>Gh λ _ _ _ _=>rfl⟩
theorem QA:DefOk (top 54) qp (defs.map (·.name)) zh "_law_names" "_law_names":=⟨rfl,⟨rfl,rfl,rfl,by decide +kernel,rfl,by decide +kernel,by decide +kernel⟩,by decide +kernel,by decide +kernel,λ _ _ _ _ _ _=>qi λ _ _=>rfl⟩
theorem WO:DefOk (top 55) d_law_number (defs.map (·.name)) zh "_law_number" "_law_number":=⟨rfl,⟨rfl,rfl,rfl,by decide +kernel,rfl,by decide +kernel,by decide +kernel⟩,by decide +kernel,by decide +kernel,λ _ _ _ _ _ _=>yu λ _=>rfl⟩
theorem J5:DefOk (top 56) d_law_reckoned (defs.map (·.name)) zh "_law_reckoned" "_law_reckoned":=⟨rfl,⟨rfl,rfl,rfl,by decide +kernel,rfl,by decide +kernel,by decide +kernel⟩,by decide +kernel,by decide +kernel,λ _ _ _ _ _ _=>Wn λ _ _ _=>rfl⟩
theorem YB:DefOk (top 57) qS (defs.map (·.name)) zh "_law_draw" "_law_draw":=⟨rfl,⟨rfl,rfl,rfl,by decide +kernel,rfl,by decide +kernel,by decide +kernel⟩,by decide +kernel,by decide +kernel,λ _ _ _ _ _ _=>qi λ _ _=>rfl⟩
theorem YC:DefOk (top 58) qT (defs.map (·.name)) zh "_law_plan" "_law_plan":=⟨rfl,⟨rfl,rfl,rfl,by decide +kernel,rfl,by decide +kernel,by decide +kernel⟩,by decide +kernel,by decide +kernel,λ _ _ _ _ _ _=>Wn λ _ _ _=>rfl⟩
theorem Vk:DefOk (top 59) yC (defs.map (·.name)) zh "_law_arg" "_law_arg":=⟨rfl,⟨rfl,rfl,rfl,by decide +kernel,rfl,by decide +kernel,by decide +kernel⟩,by decide +kernel,by decide +kernel,λ _ _ _ _ _ _=>Wn λ _ _ _=>rfl⟩
theorem YD:DefOk (top 60) qU (defs.map (·.name)) zh "_law_args" "_law_args":=⟨rfl,⟨rfl,rfl,rfl,by decide +kernel,rfl,by decide +kernel,by decide +kernel⟩,by decide +kernel,by decide +kernel,λ _ _ _ _ _ _=>Wn λ _ _ _=>rfl⟩
theorem J6:DefOk (top 61) d_law_function (defs.map (·.name)) zh "_law_function" "_law_function":=⟨rfl,⟨rfl,rfl,rfl,by decide +kernel,rfl,by decide +kernel,by decide +kernel⟩,by decide +kernel,by decide +kernel,λ _ _ _ _ _ _=>Gh λ _ _ _ _=>rfl⟩
theorem Z5:DefOk (top 62) jC (defs.map (·.name)) zh "_law_number_of" "_law_number_of":=⟨rfl,⟨rfl,rfl,rfl,by decide +kernel,rfl,by decide +kernel,by decide +kernel⟩,by decide +kernel,by decide +kernel,λ _ _ _ _ _ _=>Wn λ _ _ _=>rfl⟩
theorem YE:DefOk (top 63) qV (defs.map (·.name)) zh "_law_back" "_law_back":=⟨rfl,⟨rfl,rfl,rfl,by decide +kernel,rfl,by decide +kernel,by decide +kernel⟩,by decide +kernel,by decide +kernel,λ _ _ _ _ _ _=>Wn λ _ _ _=>rfl⟩
theorem Vl:DefOk (top 64) d_law_due (defs.map (·.name)) zh "_law_due" "_law_due":=⟨rfl,⟨rfl,rfl,rfl,by decide +kernel,rfl,by decide +kernel,by decide +kernel⟩,by decide +kernel,by decide +kernel,λ _ _ _ _ _ _=>z26 λ _ _ _ _ _=>rfl⟩
theorem o_law:DefOk (top 65) d_law (defs.map (·.name)) zh "law" "law":=⟨rfl,⟨rfl,rfl,rfl,by decide +kernel,rfl,by decide +kernel,by decide +kernel⟩,by decide +kernel,by decide +kernel,λ _ _ _ _ _ _=>yu λ _=>rfl⟩
theorem QB:DefOk ((zG (top 18)).getD 0 (.Pass ⟨0,0,0,0⟩)) w5 (defs.map (·.name)) zh "__init__" "Walk.__init__":=⟨rfl,⟨rfl,rfl,rfl,by decide +kernel,rfl,by decide +kernel,by decide +kernel⟩,by decide +kernel,by decide +kernel,λ _ _ _ _ _ _=>Gh λ _ _ _ _=>rfl⟩
theorem WP:DefOk ((zG (top 19)).getD 0 (.Pass ⟨0,0,0,0⟩)) jL (defs.map (·.name)) zh "__init__" "Doing.__init__":=⟨rfl,⟨rfl,rfl,rfl,by decide +kernel,rfl,by decide +kernel,by decide +kernel⟩,by decide +kernel,by decide +kernel,λ _ _ _ _ _ _=>z26 λ _ _ _ _ _=>rfl⟩
theorem Z6:DefOk ((zG (top 20)).getD 0 (.Pass ⟨0,0,0,0⟩)) jD (defs.map (·.name)) zh "__init__" "Standing.__init__":=⟨rfl,⟨rfl,rfl,rfl,by decide +kernel,rfl,by decide +kernel,by decide +kernel⟩,by decide +kernel,by decide +kernel,λ _ _ _ _ _ _=>Wn λ _ _ _=>rfl⟩
noncomputable def FnK (K:Y00)(x:Str)(i:Nat)(f:Addr)(fd:FuncData):Prop:=PySem.W.nsIn K mainGlobals x=some (some (.ref f))/\Fun K x x (top i) f fd
theorem fnk {K:Y00}{x:Str}{i:Nat}{f:Addr}{oc:Value}{od an:Option Addr}{sl:Array (Option Value)}{kV dc pm cd ct:Value}(a:PySem.W.nsIn K mainGlobals x=some (some (.ref f)))(l:K.lookup f=some ⟨oc,od,.func (PySem.W.fnOf x x (j1 (top i)) (zF (top i)) (zk (top i)) .none kV dc pm an cd ct),sl⟩)(c:PySem.W.codeIn K cd x=true)(k:PySem.W.keepIn K (.ref f)=true):FnK K x i f (PySem.W.fnOf x x (j1 (top i)) (zF (top i)) (zk (top i)) .none kV dc pm an cd ct):=⟨a,yo (st:=top i) l c k⟩
theorem FnK.row {K:Y00}{x:Str}{i:Nat}{f:Addr}{fd:FuncData}{h:Heap}{mg:Str->Option Value}{d:Df} (e:FnK K x i f fd) (X:K.In h) (G:h.Ns mainGlobals mg) (hx:d.name=x) (hb:(d.name==("__debug__":Str))=false) (o:DefOk (top i) d (defs.map (·.name)) zh x x):(d.name==("__debug__":Str))=false/\∃ st f fd,mg d.name=some (.ref f)/\PySem.W.nsIn K mainGlobals d.name=some (some (.ref f))/\Fun K d.name d.name st f fd/\DefOk st d (defs.map (·.name)) zh d.name d.name:=by
 subst hx
 exact ⟨hb,_,_,_,Y17 X G e.1,e.1,e.2,o⟩
theorem all_mk {l:PySem.W.OpenLaw}{w:World}{K:Y00}{h:Heap}{mg:Str->Option Value}{fa f0 f1 f2 f3 f4 f5 f6 f7 f8 f9 f10 f11 f12 f13 f14 f15 f16 f17 f18 f19 f20 f21 f22 f23 f24 f25 f26 f27 f28 f29 f30 f31 f32 f33 f34 f35 f36 f37 f38 f39:Addr}{d0 d1 d2 d3 d4 d5 d6 d7 d8 d9 d10 d11 d12 d13 d14 d15 d16 d17 d18 d19 d20 d21 d22 d23 d24 d25 d26 d27 d28 d29 d30 d31 d32 d33 d34 d35 d36 d37 d38:FuncData} (X:K.In h) (G:h.Ns mainGlobals mg) (hfa:mg "law"=some (.ref fa))
    (e0:FnK K "parts_of" 6 f0 d0)
    (e1:FnK K "stands_for" 7 f1 d1)
    (e2:FnK K "items_by_name" 8 f2 d2)
    (e3:FnK K "is_function" 10 f3 d3)
    (e4:FnK K "begun_at" 11 f4 d4)
    (e5:FnK K "check_numbers" 12 f5 d5)
    (e6:FnK K "reckoned" 15 f6 d6)
    (e7:FnK K "run" 21 f7 d7)
    (e8:FnK K "readied" 22 f8 d8)
    (e9:FnK K "clauses_by_deed" 23 f9 d9)
    (e10:FnK K "doing_copied" 24 f10 d10)
    (e11:FnK K "linked" 25 f11 d11)
    (e12:FnK K "walk_on" 27 f12 d12)
    (e13:FnK K "do_task" 28 f13 d13)
    (e14:FnK K "ahead_of" 29 f14 d14)
    (e15:FnK K "looked_up" 30 f15 d15)
    (e16:FnK K "put" 31 f16 d16)
    (e17:FnK K "taken" 32 f17 d17)
    (e18:FnK K "took_turn" 33 f18 d18)
    (e19:FnK K "then_op" 34 f19 d19)
    (e20:FnK K "then_if" 36 f20 d20)
    (e21:FnK K "then_call" 38 f21 d21)
    (e22:FnK K "leave" 45 f22 d22)
    (e23:FnK K "holds_alone" 46 f23 d23)
    (e24:FnK K "_law_cell_at" 50 f24 d24)
    (e25:FnK K "_law_whole" 51 f25 d25)
    (e26:FnK K "_law_alike" 52 f26 d26)
    (e27:FnK K "_law_right" 53 f27 d27)
    (e28:FnK K "_law_names" 54 f28 d28)
    (e29:FnK K "_law_number" 55 f29 d29)
    (e30:FnK K "_law_reckoned" 56 f30 d30)
    (e31:FnK K "_law_draw" 57 f31 d31)
    (e32:FnK K "_law_plan" 58 f32 d32)
    (e33:FnK K "_law_arg" 59 f33 d33)
    (e34:FnK K "_law_args" 60 f34 d34)
    (e35:FnK K "_law_function" 61 f35 d35)
    (e36:FnK K "_law_number_of" 62 f36 d36)
    (e37:FnK K "_law_back" 63 f37 d37)
    (e38:FnK K "_law_due" 64 f38 d38)
    {od an:Option Addr}{sl:Array (Option Value)}{oc kV dc pm cd ct:Value} (a:PySem.W.nsIn K mainGlobals "law"=some (some (.ref f39))) (l39:K.lookup f39=some ⟨oc,od,.func (PySem.W.fnOf "law" "law" (j1 (top 65)) (zF (top 65)) (zk (top 65)) .none kV dc pm an cd ct),sl⟩) (c39:PySem.W.codeIn K cd "law"=true) (k39:PySem.W.keepIn K (.ref f39)=true)
    (z0:PySem.W.nsIn K mainGlobals "len"=some none)
    (z1:PySem.W.nsIn K mainGlobals "isinstance"=some none)
    (z2:PySem.W.nsIn K mainGlobals "int"=some none)
    (z3:PySem.W.nsIn K mainGlobals "bool"=some none)
    (z4:PySem.W.nsIn K mainGlobals "str"=some none)
    (z5:PySem.W.nsIn K mainGlobals "tuple"=some none)
    (z6:PySem.W.nsIn K mainGlobals "list"=some none)
    (z7:PySem.W.nsIn K mainGlobals "range"=some none)
    (z8:PySem.W.nsIn K mainGlobals "max"=some none)
    (z9:PySem.W.nsIn K mainGlobals "min"=some none)
    (z10:PySem.W.nsIn K mainGlobals "sum"=some none)
    (z11:PySem.W.nsIn K mainGlobals "all"=some none)
    (z12:PySem.W.nsIn K mainGlobals "any"=some none)
    (z13:PySem.W.nsIn K mainGlobals "zip"=some none)
    (z14:PySem.W.nsIn K mainGlobals "reversed"=some none)
    (z15:PySem.W.nsIn K mainGlobals "sorted"=some none)
    (z16:PySem.W.nsIn K mainGlobals "set"=some none)
    (z17:PySem.W.nsIn K mainGlobals "enumerate"=some none)
    (z18:PySem.W.nsIn K mainGlobals "dict"=some none)
    (z19:PySem.W.nsIn K mainGlobals "abs"=some none)
    (z20:PySem.W.nsIn K mainGlobals "ValueError"=some none)
    {gc0:Addr}{es0:Array DictEntry}{ep0:Nat} (ga0:PySem.W.nsIn K mainGlobals "FIRST_PART"=some (some (.ref gc0))) (gl0:K.lookup gc0=some { cls:=.type "dict",data:=.dict es0 ep0 }) (ge0:ZO w K es0.toList wM)
    {gt1:Tok} (ga1:PySem.W.nsIn K mainGlobals "GREATEST"=some (some (.int (1000000000000000000) gt1)))
    {gc2:Addr} (ga2:PySem.W.nsIn K mainGlobals "FIRST_AHEAD"=some (some (.ref gc2))) (ge2:TupK K gc2 wg)
    {gc3:Addr}{es3:Array DictEntry}{ep3:Nat} (ga3:PySem.W.nsIn K mainGlobals "THEN"=some (some (.ref gc3))) (gl3:K.lookup gc3=some { cls:=.type "dict",data:=.dict es3 ep3 }) (ge3:ZO w K es3.toList qP)
    {cc0 ci0:Addr}{cod0 can0:Option Addr}{csl0:Array (Option Value)}{coc0 ckV0 cdc0 cpm0 ccd0 cct0:Value}
    (ca0:PySem.W.nsIn K mainGlobals "Walk"=some (some (.ref cc0)))
    (cy0:PySem.W.findIn K (.ref cc0) "__init__"=some (some (.ref ci0)))
    (cl0:K.lookup ci0=some ⟨coc0,cod0,.func (PySem.W.fnOf "__init__" "Walk.__init__" (j1 ((zG (top 18)).getD 0 (.Pass ⟨0,0,0,0⟩))) (zF ((zG (top 18)).getD 0 (.Pass ⟨0,0,0,0⟩))) (zk ((zG (top 18)).getD 0 (.Pass ⟨0,0,0,0⟩))) .none ckV0 cdc0 cpm0 can0 ccd0 cct0),csl0⟩)
    (ce0:PySem.W.codeIn K ccd0 "Walk.__init__"=true)
    (ck0:PySem.W.keepIn K (.ref ci0)=true)
    (cm0:PySem.W.makesIn K cc0=true)
    (cf0:PySem.W.isFn K (.ref ci0)=true)
    (cp0:PySem.W.keepIn K (.ref cc0)=true)
    (cg0:PySem.W.plainGet K cc0 Str.empty=true)
    (ch0:PySem.W.hasDictIn K cc0=true)
    (co0:PySem.W.plainOver K cc0=true)
    (cs0:PySem.W.findIn K (.ref cc0) "__setattr__"=some (some (.builtin "object.__setattr__")))
    (cn0_0:PySem.W.findIn K (.ref cc0) "named"=some none)
    (cn0_1:PySem.W.findIn K (.ref cc0) "clauses"=some none)
    (cn0_2:PySem.W.findIn K (.ref cc0) "bound"=some none)
    (cn0_3:PySem.W.findIn K (.ref cc0) "doing"=some none)
    (cn0_4:PySem.W.findIn K (.ref cc0) "left"=some none)
    (cn0_5:PySem.W.findIn K (.ref cc0) "standing"=some none)
    (cn0_6:PySem.W.findIn K (.ref cc0) "record"=some none)
    (cn0_7:PySem.W.findIn K (.ref cc0) "used"=some none)
    (cn0_8:PySem.W.findIn K (.ref cc0) "end"=some none)
    (cn0_9:PySem.W.findIn K (.ref cc0) "tasks"=some none)
    (cn0_10:PySem.W.findIn K (.ref cc0) "numbers"=some none)
    (cn0_11:PySem.W.findIn K (.ref cc0) "known"=some none)
    (cn0_12:PySem.W.findIn K (.ref cc0) "block"=some none)
    (cn0_13:PySem.W.findIn K (.ref cc0) "held"=some none)
    (cn0_14:PySem.W.findIn K (.ref cc0) "went"=some none)
    (cn0_15:PySem.W.findIn K (.ref cc0) "name"=some none)
    (cn0_16:PySem.W.findIn K (.ref cc0) "kept"=some none)
    {cc1 ci1:Addr}{cod1 can1:Option Addr}{csl1:Array (Option Value)}{coc1 ckV1 cdc1 cpm1 ccd1 cct1:Value}
    (ca1:PySem.W.nsIn K mainGlobals "Doing"=some (some (.ref cc1)))
    (cy1:PySem.W.findIn K (.ref cc1) "__init__"=some (some (.ref ci1)))
    (cl1:K.lookup ci1=some ⟨coc1,cod1,.func (PySem.W.fnOf "__init__" "Doing.__init__" (j1 ((zG (top 19)).getD 0 (.Pass ⟨0,0,0,0⟩))) (zF ((zG (top 19)).getD 0 (.Pass ⟨0,0,0,0⟩))) (zk ((zG (top 19)).getD 0 (.Pass ⟨0,0,0,0⟩))) .none ckV1 cdc1 cpm1 can1 ccd1 cct1),csl1⟩)
    (ce1:PySem.W.codeIn K ccd1 "Doing.__init__"=true)
    (ck1:PySem.W.keepIn K (.ref ci1)=true)
    (cm1:PySem.W.makesIn K cc1=true)
    (cf1:PySem.W.isFn K (.ref ci1)=true)
    (cp1:PySem.W.keepIn K (.ref cc1)=true)
    (cg1:PySem.W.plainGet K cc1 Str.empty=true)
    (ch1:PySem.W.hasDictIn K cc1=true)
    (co1:PySem.W.plainOver K cc1=true)
    (cs1:PySem.W.findIn K (.ref cc1) "__setattr__"=some (some (.builtin "object.__setattr__")))
    (cn1_0:PySem.W.findIn K (.ref cc1) "named"=some none)
    (cn1_1:PySem.W.findIn K (.ref cc1) "clauses"=some none)
    (cn1_2:PySem.W.findIn K (.ref cc1) "bound"=some none)
    (cn1_3:PySem.W.findIn K (.ref cc1) "doing"=some none)
    (cn1_4:PySem.W.findIn K (.ref cc1) "left"=some none)
    (cn1_5:PySem.W.findIn K (.ref cc1) "standing"=some none)
    (cn1_6:PySem.W.findIn K (.ref cc1) "record"=some none)
    (cn1_7:PySem.W.findIn K (.ref cc1) "used"=some none)
    (cn1_8:PySem.W.findIn K (.ref cc1) "end"=some none)
    (cn1_9:PySem.W.findIn K (.ref cc1) "tasks"=some none)
    (cn1_10:PySem.W.findIn K (.ref cc1) "numbers"=some none)
    (cn1_11:PySem.W.findIn K (.ref cc1) "known"=some none)
    (cn1_12:PySem.W.findIn K (.ref cc1) "block"=some none)
    (cn1_13:PySem.W.findIn K (.ref cc1) "held"=some none)
    (cn1_14:PySem.W.findIn K (.ref cc1) "went"=some none)
    (cn1_15:PySem.W.findIn K (.ref cc1) "name"=some none)
    (cn1_16:PySem.W.findIn K (.ref cc1) "kept"=some none)
    {cc2 ci2:Addr}{cod2 can2:Option Addr}{csl2:Array (Option Value)}{coc2 ckV2 cdc2 cpm2 ccd2 cct2:Value}
    (ca2:PySem.W.nsIn K mainGlobals "Standing"=some (some (.ref cc2)))
    (cy2:PySem.W.findIn K (.ref cc2) "__init__"=some (some (.ref ci2)))
    (cl2:K.lookup ci2=some ⟨coc2,cod2,.func (PySem.W.fnOf "__init__" "Standing.__init__" (j1 ((zG (top 20)).getD 0 (.Pass ⟨0,0,0,0⟩))) (zF ((zG (top 20)).getD 0 (.Pass ⟨0,0,0,0⟩))) (zk ((zG (top 20)).getD 0 (.Pass ⟨0,0,0,0⟩))) .none ckV2 cdc2 cpm2 can2 ccd2 cct2),csl2⟩)
    (ce2:PySem.W.codeIn K ccd2 "Standing.__init__"=true)
    (ck2:PySem.W.keepIn K (.ref ci2)=true)
    (cm2:PySem.W.makesIn K cc2=true)
    (cf2:PySem.W.isFn K (.ref ci2)=true)
    (cp2:PySem.W.keepIn K (.ref cc2)=true)
    (cg2:PySem.W.plainGet K cc2 Str.empty=true)
    (ch2:PySem.W.hasDictIn K cc2=true)
    (co2:PySem.W.plainOver K cc2=true)
    (cs2:PySem.W.findIn K (.ref cc2) "__setattr__"=some (some (.builtin "object.__setattr__")))
    (cn2_0:PySem.W.findIn K (.ref cc2) "named"=some none)
    (cn2_1:PySem.W.findIn K (.ref cc2) "clauses"=some none)
    (cn2_2:PySem.W.findIn K (.ref cc2) "bound"=some none)
    (cn2_3:PySem.W.findIn K (.ref cc2) "doing"=some none)
    (cn2_4:PySem.W.findIn K (.ref cc2) "left"=some none)
    (cn2_5:PySem.W.findIn K (.ref cc2) "standing"=some none)
    (cn2_6:PySem.W.findIn K (.ref cc2) "record"=some none)
    (cn2_7:PySem.W.findIn K (.ref cc2) "used"=some none)
    (cn2_8:PySem.W.findIn K (.ref cc2) "end"=some none)
    (cn2_9:PySem.W.findIn K (.ref cc2) "tasks"=some none)
    (cn2_10:PySem.W.findIn K (.ref cc2) "numbers"=some none)
    (cn2_11:PySem.W.findIn K (.ref cc2) "known"=some none)
    (cn2_12:PySem.W.findIn K (.ref cc2) "block"=some none)
    (cn2_13:PySem.W.findIn K (.ref cc2) "held"=some none)
    (cn2_14:PySem.W.findIn K (.ref cc2) "went"=some none)
    (cn2_15:PySem.W.findIn K (.ref cc2) "name"=some none)
    (cn2_16:PySem.W.findIn K (.ref cc2) "kept"=some none)
    (ih:PySem.W.specialIn K (.builtin "object.__class__") "__get__"=some (some (.builtin "getset_descriptor.__get__"))) (iht:PySem.W.takesIn K (.builtin "object.__class__")=some true)
    (ia0:PySem.W.findIn K (.ref cc0) "__class__"=some (some (.builtin "object.__class__"))) (im0:PySem.W.mroIn K cc0 (.type "object")=some true)
    (ia1:PySem.W.findIn K (.ref cc1) "__class__"=some (some (.builtin "object.__class__"))) (im1:PySem.W.mroIn K cc1 (.type "object")=some true)
    (ia2:PySem.W.findIn K (.ref cc2) "__class__"=some (some (.builtin "object.__class__"))) (im2:PySem.W.mroIn K cc2 (.type "object")=some true)
    {io2:Value}{id2:Option Addr}{ik2:ClassData}{is2:Array (Option Value)} (il2:K.lookup cc2=some ⟨io2,id2,.cls ik2,is2⟩) (it2:PySem.W.typeIn K (.ref cc2)=some (.type "type"))
    (ik0_2:PySem.W.mroIn K cc0 (.ref cc2)=some false) (in0_2:cc0≠cc2)
    (ik1_2:PySem.W.mroIn K cc1 (.ref cc2)=some false) (in1_2:cc1≠cc2)
    (ik2_2:PySem.W.mroIn K cc2 (.ref cc2)=some true)
   :∃ (cv:Nat->Value) (fd:FuncData),(∀ (s:Shared) (v:Value),BindsTo s fd ⟨[v],[]⟩ [("_law_script",v)])/\∀ base:Heap,K.In base->base.Ns mainGlobals mg->FnOk l.prog w K mg base (CXs l.prog w) 14 fa fd ["_law_script"] (GE K cv (callI defs 7 39)):=by
  have e:=hfa.symm.trans (Y17 X G a)
  cases e
  have T:Tab l.prog w K mg defs zh:=by
    refine ⟨λ x hx=>?_,λ x c hx=>?_,λ i d hd hnc=>?_,λ x i hx=>?_⟩
    · simp only [Wp,Y0d,Y0q,or_false] at hx
      rcases hx with rfl | rfl | rfl | rfl | rfl | rfl | rfl | rfl | rfl | rfl | rfl | rfl | rfl | rfl | rfl | rfl | rfl | rfl | rfl | rfl | rfl
      · exact Y0l X G z0
      · exact Y0l X G z1
      · exact Y0l X G z2
      · exact Y0l X G z3
      · exact Y0l X G z4
      · exact Y0l X G z5
      · exact Y0l X G z6
      · exact Y0l X G z7
      · exact Y0l X G z8
      · exact Y0l X G z9
      · exact Y0l X G z10
      · exact Y0l X G z11
      · exact Y0l X G z12
      · exact Y0l X G z13
      · exact Y0l X G z14
      · exact Y0l X G z15
      · exact Y0l X G z16
      · exact Y0l X G z17
      · exact Y0l X G z18
      · exact Y0l X G z19
      · exact Y0l X G z20
    · simp only [zh,Y0d,Y0q,or_false] at hx
      rcases hx with hq | hq | hq | hq | hq | hq | hq | hq
      · cases hq;exact ⟨by decide,_,Y17 X G ga0,GD gl0 ge0 (by decide)⟩
      · cases hq;exact ⟨by decide,_,Y17 X G ga1,⟨_,rfl⟩⟩
      · cases hq;exact ⟨by decide,_,Y17 X G ga2,⟨_,rfl,ge2⟩⟩
      · cases hq;exact ⟨by decide,_,Y17 X G ga3,GD gl3 ge3 (by decide)⟩
      · cases hq;exact ⟨by decide,_,Y17 X G ca0,⟨_,rfl⟩⟩
      · cases hq;exact ⟨by decide,_,Y17 X G ca1,⟨_,rfl⟩⟩
      · cases hq;exact ⟨by decide,_,Y17 X G ca2,⟨_,rfl⟩⟩
      · cases hq;refine ⟨by decide,_,Y17 X G ca2,_,rfl,λ y hy=>?_⟩
        simp only [Y0d,Y0q,or_false] at hy
        rcases hy with rfl | rfl | rfl
        · exact ⟨_,ca0,⟨ia0,ih,iht,im0⟩,(Wu il2 it2 ik0_2 (.inr in0_2)).trans (by decide +kernel)⟩
        · exact ⟨_,ca1,⟨ia1,ih,iht,im1⟩,(Wu il2 it2 ik1_2 (.inr in1_2)).trans (by decide +kernel)⟩
        · exact ⟨_,ca2,⟨ia2,ih,iht,im2⟩,(Wu il2 it2 ik2_2 (.inl rfl)).trans (by decide +kernel)⟩
    · match i,hd,hnc with
      | 0,hd,_=>cases hd;exact e0.row X G rfl (by decide) Yx
      | 1,hd,_=>cases hd;exact e1.row X G rfl (by decide) WN
      | 2,hd,_=>cases hd;exact e2.row X G rfl (by decide) Z3
      | 3,hd,_=>cases hd;exact e3.row X G rfl (by decide) Jk
      | 4,hd,_=>cases hd;exact e4.row X G rfl (by decide) Yy
      | 5,hd,_=>cases hd;exact e5.row X G rfl (by decide) Z4
      | 6,hd,_=>cases hd;exact e6.row X G rfl (by decide) Yz
      | 7,hd,_=>cases hd;exact e7.row X G rfl (by decide) z56
      | 8,hd,_=>cases hd;exact e8.row X G rfl (by decide) Vf
      | 9,hd,_=>cases hd;exact e9.row X G rfl (by decide) yl
      | 10,hd,_=>cases hd;exact e10.row X G rfl (by decide) J4
      | 11,hd,_=>cases hd;exact e11.row X G rfl (by decide) Oi
      | 12,hd,_=>cases hd;exact e12.row X G rfl (by decide) Vg
      | 13,hd,_=>cases hd;exact e13.row X G rfl (by decide) Vh
      | 14,hd,_=>cases hd;exact e14.row X G rfl (by decide) YA
      | 15,hd,_=>cases hd;exact e15.row X G rfl (by decide) Qt
      | 16,hd,_=>cases hd;exact e16.row X G rfl (by decide) z57
      | 17,hd,_=>cases hd;exact e17.row X G rfl (by decide) BR
      | 18,hd,_=>cases hd;exact e18.row X G rfl (by decide) Qu
      | 19,hd,_=>cases hd;exact e19.row X G rfl (by decide) Vi
      | 20,hd,_=>cases hd;exact e20.row X G rfl (by decide) Vj
      | 21,hd,_=>cases hd;exact e21.row X G rfl (by decide) Qw
      | 22,hd,_=>cases hd;exact e22.row X G rfl (by decide) BS
      | 23,hd,_=>cases hd;exact e23.row X G rfl (by decide) o_holds_alone
      | 24,hd,_=>cases hd;exact e24.row X G rfl (by decide) Jl
      | 25,hd,_=>cases hd;exact e25.row X G rfl (by decide) Qx
      | 26,hd,_=>cases hd;exact e26.row X G rfl (by decide) Qy
      | 27,hd,_=>cases hd;exact e27.row X G rfl (by decide) Qz
      | 28,hd,_=>cases hd;exact e28.row X G rfl (by decide) QA
      | 29,hd,_=>cases hd;exact e29.row X G rfl (by decide) WO
      | 30,hd,_=>cases hd;exact e30.row X G rfl (by decide) J5
      | 31,hd,_=>cases hd;exact e31.row X G rfl (by decide) YB
      | 32,hd,_=>cases hd;exact e32.row X G rfl (by decide) YC
      | 33,hd,_=>cases hd;exact e33.row X G rfl (by decide) Vk
      | 34,hd,_=>cases hd;exact e34.row X G rfl (by decide) YD
      | 35,hd,_=>cases hd;exact e35.row X G rfl (by decide) J6
      | 36,hd,_=>cases hd;exact e36.row X G rfl (by decide) Z5
      | 37,hd,_=>cases hd;exact e37.row X G rfl (by decide) YE
      | 38,hd,_=>cases hd;exact e38.row X G rfl (by decide) Vl
      | 39,hd,_=>cases hd;exact ⟨by decide,_,_,_,Y17 X G a,a,yo (st:=top 65) l39 c39 k39,o_law⟩
      | 40,hd,hnc=>exact absurd hnc (by decide)
      | 41,hd,hnc=>exact absurd hnc (by decide)
      | 42,hd,hnc=>exact absurd hnc (by decide)
      | n+43,hd,_=>exact absurd hd (by simp [defs])
    · simp only [zh,Y0d,Y0q,or_false] at hx
      rcases hx with hq | hq | hq | hq | hq | hq | hq | hq
      · cases hq
      · cases hq
      · cases hq
      · cases hq
      · cases hq
        refine ⟨by decide,w5,(zG (top 18)).getD 0 (.Pass ⟨0,0,0,0⟩),cc0,ci0,_,"__init__","Walk.__init__",rfl,Y17 X G ca0,⟨cm0,cy0,cf0,cp0⟩,⟨ca0,⟨cg0,ch0,co0,cs0⟩,λ f hf=>?_⟩,yo (st:=(zG (top 18)).getD 0 (.Pass ⟨0,0,0,0⟩)) cl0 ce0 ck0,QB⟩
        simp only [zS,Y0d,Y0q,or_false] at hf
        rcases hf with rfl | rfl | rfl | rfl | rfl | rfl | rfl | rfl | rfl | rfl | rfl | rfl | rfl | rfl | rfl | rfl | rfl
        · exact cn0_0
        · exact cn0_1
        · exact cn0_2
        · exact cn0_3
        · exact cn0_4
        · exact cn0_5
        · exact cn0_6
        · exact cn0_7
        · exact cn0_8
        · exact cn0_9
        · exact cn0_10
        · exact cn0_11
        · exact cn0_12
        · exact cn0_13
        · exact cn0_14
        · exact cn0_15
        · exact cn0_16
      · cases hq
        refine ⟨by decide,jL,(zG (top 19)).getD 0 (.Pass ⟨0,0,0,0⟩),cc1,ci1,_,"__init__","Doing.__init__",rfl,Y17 X G ca1,⟨cm1,cy1,cf1,cp1⟩,⟨ca1,⟨cg1,ch1,co1,cs1⟩,λ f hf=>?_⟩,yo (st:=(zG (top 19)).getD 0 (.Pass ⟨0,0,0,0⟩)) cl1 ce1 ck1,WP⟩
        simp only [zS,Y0d,Y0q,or_false] at hf
        rcases hf with rfl | rfl | rfl | rfl | rfl | rfl | rfl | rfl | rfl | rfl | rfl | rfl | rfl | rfl | rfl | rfl | rfl
        · exact cn1_0
        · exact cn1_1
        · exact cn1_2
        · exact cn1_3
        · exact cn1_4
        · exact cn1_5
        · exact cn1_6
        · exact cn1_7
        · exact cn1_8
        · exact cn1_9
        · exact cn1_10
        · exact cn1_11
        · exact cn1_12
        · exact cn1_13
        · exact cn1_14
        · exact cn1_15
        · exact cn1_16
      · cases hq
        refine ⟨by decide,jD,(zG (top 20)).getD 0 (.Pass ⟨0,0,0,0⟩),cc2,ci2,_,"__init__","Standing.__init__",rfl,Y17 X G ca2,⟨cm2,cy2,cf2,cp2⟩,⟨ca2,⟨cg2,ch2,co2,cs2⟩,λ f hf=>?_⟩,yo (st:=(zG (top 20)).getD 0 (.Pass ⟨0,0,0,0⟩)) cl2 ce2 ck2,Z6⟩
        simp only [zS,Y0d,Y0q,or_false] at hf
        rcases hf with rfl | rfl | rfl | rfl | rfl | rfl | rfl | rfl | rfl | rfl | rfl | rfl | rfl | rfl | rfl | rfl | rfl
        · exact cn2_0
        · exact cn2_1
        · exact cn2_2
        · exact cn2_3
        · exact cn2_4
        · exact cn2_5
        · exact cn2_6
        · exact cn2_7
        · exact cn2_8
        · exact cn2_9
        · exact cn2_10
        · exact cn2_11
        · exact cn2_12
        · exact cn2_13
        · exact cn2_14
        · exact cn2_15
        · exact cn2_16
      · cases hq
  refine ⟨λ _=>.none,PySem.W.fnOf "law" "law" (j1 (top 65)) (zF (top 65)) (zk (top 65)) .none kV dc pm an cd ct,λ s v=>.of_eq rfl,λ base _ _=>?_⟩
  exact Yg T (z2d (by decide)) 7 39 d_law _ _ (top 65) _ _ rfl (yo (st:=top 65) l39 c39 k39) o_law
end K43
namespace PySem.W.Fast
noncomputable def tw2311593664940582645 := ()
noncomputable def tw4535377009192262214 := ()
noncomputable def tw10274509675605107912 := ()
noncomputable def tw17389900409358303053 := ()
noncomputable def tw10975106391608139110 := ()
noncomputable def tw14268514325063132912 := ()
noncomputable def tw5132802161154052501 := ()
noncomputable def tw11378342659319491519 := ()
noncomputable def tw8065061556776307129 := ()
noncomputable def tw12508940131547486027 := ()
noncomputable def tw18091983627270581101 := ()
noncomputable def tw159062827623144773 := ()
noncomputable def tw9859084962383243824 := ()
noncomputable def tw16097103363878758678 := ()
noncomputable def tw3401656743938417115 := ()
noncomputable def tw11845799975961904939 := ()
noncomputable def tw6244718380600629161 := ()
noncomputable def tw9780827176711078933 := ()
noncomputable def tw14369681478360410464 := ()
noncomputable def tw1822567122061165413 := ()
noncomputable def tw1837649321046301260 := ()
noncomputable def tw9521481399392786177 := ()
noncomputable def tw12921316373396607858 := ()
noncomputable def tw12329746672797613496 := ()
noncomputable def tw10745573067113181793 := ()
noncomputable def tw2983626680234150892 := ()
noncomputable def tw16533481980353932804 := ()
noncomputable def tw1178634500655970385 := ()
noncomputable def tw13024138262456818385 := ()
noncomputable def tw1025594105708995915 := ()
noncomputable def tw8419800686031158889 := ()
end PySem.W.Fast
open PySem PySem.W
set_option maxRecDepth 100000 in
set_option maxHeartbeats 0 in
theorem PySem.Challenge.cw_deedwright_k43_calls_in_turn_holds : PySem.Challenge.rw_deedwright_k43_calls_in_turn.Holds := by
 w_on;o_law;k_head;(case hw=>w_witness2)
 k_fill
 refine PI.walk_ofB (l:=PySem.Challenge.rw_deedwright_k43_calls_in_turn) (k:=14) (c:=PI.callI K43.defs 7 39) (x:="_law_script") rfl rfl ⟨rfl,by decide,by decide⟩ (λ w h Y=>PySem.W.kIn_of Y) ?F ?S
 case F =>
  intro w mg fa h KX G hmg
  refine' K43.all_mk (l:=PySem.Challenge.rw_deedwright_k43_calls_in_turn) (w:=w) KX G hmg (K43.fnk ?a0 ?l0 ?c0 ?k0) (K43.fnk ?a1 ?l1 ?c1 ?k1) (K43.fnk ?a2 ?l2 ?c2 ?k2) (K43.fnk ?a3 ?l3 ?c3 ?k3) (K43.fnk ?a4 ?l4 ?c4 ?k4) (K43.fnk ?a5 ?l5 ?c5 ?k5) (K43.fnk ?a6 ?l6 ?c6 ?k6) (K43.fnk ?a7 ?l7 ?c7 ?k7) (K43.fnk ?a8 ?l8 ?c8 ?k8) (K43.fnk ?a9 ?l9 ?c9 ?k9) (K43.fnk ?a10 ?l10 ?c10 ?k10) (K43.fnk ?a11 ?l11 ?c11 ?k11) (K43.fnk ?a12 ?l12 ?c12 ?k12) (K43.fnk ?a13 ?l13 ?c13 ?k13) (K43.fnk ?a14 ?l14 ?c14 ?k14) (K43.fnk ?a15 ?l15 ?c15 ?k15) (K43.fnk ?a16 ?l16 ?c16 ?k16) (K43.fnk ?a17 ?l17 ?c17 ?k17) (K43.fnk ?a18 ?l18 ?c18 ?k18) (K43.fnk ?a19 ?l19 ?c19 ?k19) (K43.fnk ?a20 ?l20 ?c20 ?k20) (K43.fnk ?a21 ?l21 ?c21 ?k21) (K43.fnk ?a22 ?l22 ?c22 ?k22) (K43.fnk ?a23 ?l23 ?c23 ?k23) (K43.fnk ?a24 ?l24 ?c24 ?k24) (K43.fnk ?a25 ?l25 ?c25 ?k25) (K43.fnk ?a26 ?l26 ?c26 ?k26) (K43.fnk ?a27 ?l27 ?c27 ?k27) (K43.fnk ?a28 ?l28 ?c28 ?k28) (K43.fnk ?a29 ?l29 ?c29 ?k29) (K43.fnk ?a30 ?l30 ?c30 ?k30) (K43.fnk ?a31 ?l31 ?c31 ?k31) (K43.fnk ?a32 ?l32 ?c32 ?k32) (K43.fnk ?a33 ?l33 ?c33 ?k33) (K43.fnk ?a34 ?l34 ?c34 ?k34) (K43.fnk ?a35 ?l35 ?c35 ?k35) (K43.fnk ?a36 ?l36 ?c36 ?k36) (K43.fnk ?a37 ?l37 ?c37 ?k37) (K43.fnk ?a38 ?l38 ?c38 ?k38) ?a39 ?l39 ?c39 ?k39 ?z0 ?z1 ?z2 ?z3 ?z4 ?z5 ?z6 ?z7 ?z8 ?z9 ?z10 ?z11 ?z12 ?z13 ?z14 ?z15 ?z16 ?z17 ?z18 ?z19 ?z20 ?ga0 ?gl0 ?ge0 ?ga1 ?ga2 ?ge2 ?ga3 ?gl3 ?ge3 ?ca0 ?cy0 ?cl0 ?ce0 ?ck0 ?cm0 ?cf0 ?cp0 ?cg0 ?ch0 ?co0 ?cs0 ?cn0_0 ?cn0_1 ?cn0_2 ?cn0_3 ?cn0_4 ?cn0_5 ?cn0_6 ?cn0_7 ?cn0_8 ?cn0_9 ?cn0_10 ?cn0_11 ?cn0_12 ?cn0_13 ?cn0_14 ?cn0_15 ?cn0_16 ?ca1 ?cy1 ?cl1 ?ce1 ?ck1 ?cm1 ?cf1 ?cp1 ?cg1 ?ch1 ?co1 ?cs1 ?cn1_0 ?cn1_1 ?cn1_2 ?cn1_3 ?cn1_4 ?cn1_5 ?cn1_6 ?cn1_7 ?cn1_8 ?cn1_9 ?cn1_10 ?cn1_11 ?cn1_12 ?cn1_13 ?cn1_14 ?cn1_15 ?cn1_16 ?ca2 ?cy2 ?cl2 ?ce2 ?ck2 ?cm2 ?cf2 ?cp2 ?cg2 ?ch2 ?co2 ?cs2 ?cn2_0 ?cn2_1 ?cn2_2 ?cn2_3 ?cn2_4 ?cn2_5 ?cn2_6 ?cn2_7 ?cn2_8 ?cn2_9 ?cn2_10 ?cn2_11 ?cn2_12 ?cn2_13 ?cn2_14 ?cn2_15 ?cn2_16 ?ih ?iht ?ia0 ?im0 ?ia1 ?im1 ?ia2 ?im2 ?il2 ?it2 ?ik0_2 ?in0_2 ?ik1_2 ?in1_2 ?ik2_2
  all_goals try k_is
  (case ge0=>(refine ⟨⟨rfl,⟨_,rfl⟩,?hx⟩,?hr⟩;(case hx=>exact ⟨_,rfl⟩);(case hr=>(refine ⟨⟨rfl,⟨_,rfl⟩,?hx⟩,?hr⟩;(case hx=>exact ⟨_,rfl⟩);(case hr=>(refine ⟨⟨rfl,⟨_,rfl⟩,?hx⟩,?hr⟩;(case hx=>exact ⟨_,rfl⟩);(case hr=>(refine ⟨⟨rfl,⟨_,rfl⟩,?hx⟩,?hr⟩;(case hx=>exact ⟨_,rfl⟩);(case hr=>(refine ⟨⟨rfl,⟨_,rfl⟩,?hx⟩,?hr⟩;(case hx=>exact ⟨_,rfl⟩);(case hr=>(refine ⟨⟨rfl,⟨_,rfl⟩,?hx⟩,?hr⟩;(case hx=>exact ⟨_,rfl⟩);(case hr=>(refine ⟨⟨rfl,⟨_,rfl⟩,?hx⟩,?hr⟩;(case hx=>exact ⟨_,rfl⟩);(case hr=>(refine ⟨⟨rfl,⟨_,rfl⟩,?hx⟩,?hr⟩;(case hx=>exact ⟨_,rfl⟩);(case hr=>(refine ⟨⟨rfl,⟨_,rfl⟩,?hx⟩,?hr⟩;(case hx=>exact ⟨_,rfl⟩);(case hr=>exact trivial)))))))))))))))))))
  (case ge2=>(refine' PI.tupK_mk ?hk ?h4 ?h5;(case hk=>k_is);(case h4=>decide);(case h5=>(show L2.Vals _ (List.toArray _).toList;exact .cons ⟨_,rfl⟩ (.cons ⟨_,rfl⟩ (.cons ⟨_,rfl⟩ (.cons ⟨_,rfl⟩ (.nil))))))))
  (case ge3=>(refine ⟨⟨rfl,⟨_,rfl⟩,?hx⟩,?hr⟩;(case hx=>(refine ⟨_,rfl,?ht⟩;(case ht=>k_is)));(case hr=>(refine ⟨⟨rfl,⟨_,rfl⟩,?hx⟩,?hr⟩;(case hx=>exact ⟨_,rfl⟩);(case hr=>(refine ⟨⟨rfl,⟨_,rfl⟩,?hx⟩,?hr⟩;(case hx=>(refine ⟨_,rfl,?ht⟩;(case ht=>k_is)));(case hr=>(refine ⟨⟨rfl,⟨_,rfl⟩,?hx⟩,?hr⟩;(case hx=>(refine ⟨_,rfl,?ht⟩;(case ht=>k_is)));(case hr=>(refine ⟨⟨rfl,⟨_,rfl⟩,?hx⟩,?hr⟩;(case hx=>exact ⟨_,rfl⟩);(case hr=>(refine ⟨⟨rfl,⟨_,rfl⟩,?hx⟩,?hr⟩;(case hx=>exact ⟨_,rfl⟩);(case hr=>(refine ⟨⟨rfl,⟨_,rfl⟩,?hx⟩,?hr⟩;(case hx=>exact ⟨_,rfl⟩);(case hr=>(refine ⟨⟨rfl,⟨_,rfl⟩,?hx⟩,?hr⟩;(case hx=>exact ⟨_,rfl⟩);(case hr=>exact trivial)))))))))))))))))
  (case in0_2=>decide)
  (case in1_2=>decide)
 case S =>
  exact λ ns _ hb=>K43.law_true ns
#print axioms PySem.Challenge.cw_deedwright_k43_calls_in_turn_holds
