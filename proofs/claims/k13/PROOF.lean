import PyProof.Rows.All
import Wide.All
import OpenK.AllK
import Wide.FinOn
import Lean
import PyProof.EqAt
import PyProof.EqKinds
import PyProof.TupleCall
import KE.KIntText
import PyProof.NeKinds
import PyProof.FString4
import PyProof.StrLawsRepr
import PyProof.ZipIter
import PyProof.TupleIter
import KE.KRevIter
import KE.KDictOf
import PyProof.AttrMissHeap
import PyProof.StrLawsTight
import PyProof.StrCalls6
import PySem.Challenge.RW_deedwright_k13_programs_read
set_option Elab.async false
set_option linter.all false
set_option maxRecDepth 100000
set_option genSizeOf false
namespace L2
open PySem PySem.Spec PyProof.Rows
noncomputable abbrev Key:=Sum Int Str
noncomputable def keyIs:Key->Value->Bool
  | .inl k,v=>Value.isInt k v
  | .inr x,v=>Value.isStrOf x v
noncomputable def keyH (w:World):Key->Int
  | .inl k=>hashInt k
  | .inr x=>hashStr w x
theorem keyIs_shape:∀ {k:Key} {v:Value},keyIs k v=true->(∃ i t,k=Sum.inl i /\ v=Value.int i t) \/ (∃ x t,k=Sum.inr x /\ v=Value.str x t)
  | .inl i,v,h=>by
    obtain ⟨t,e⟩:=Value.isInt_shape (k:=i) (v:=v) h
    exact .inl ⟨i,t,rfl,e⟩
  | .inr x,v,h=>by
    obtain ⟨t,e⟩:=Value.isStrOf_shape (x:=x) (v:=v) h
    exact .inr ⟨x,t,rfl,e⟩
theorem keyIs_int (i:Int) (t:Tok):keyIs (.inl i) (.int i t)=true:=by simp [keyIs,Value.isInt]
theorem keyIs_str (x:Str) (t:Tok):keyIs (.inr x) (.str x t)=true:=by simp [keyIs,Value.isStrOf]
theorem key_ll (a b:Int):decide ((Sum.inl a:Key)=Sum.inl b)=(a == b):=by
  by_cases e:a=b
  · subst e; simp
  · have h:¬ (Sum.inl a:Key)=Sum.inl b:=fun q=>e (Sum.inl.inj q)
    rw [decide_eq_false h]
    exact (beq_eq_false_iff_ne.mpr e).symm
theorem key_rr (a b:Str):decide ((Sum.inr a:Key)=Sum.inr b)=decide (a=b):=by
  by_cases e:a=b
  · subst e; simp
  · have h:¬ (Sum.inr a:Key)=Sum.inr b:=fun q=>e (Sum.inr.inj q)
    rw [decide_eq_false h,decide_eq_false e]
theorem key_lr (a:Int) (b:Str):decide ((Sum.inl a:Key)=Sum.inr b)=false:=decide_eq_false (fun q=>nomatch q)
theorem key_rl (a:Str) (b:Int):decide ((Sum.inr a:Key)=Sum.inl b)=false:=decide_eq_false (fun q=>nomatch q)
noncomputable def mixKind (prog:Program) (w:World):PySem.KeyKind prog w Key where
  is:=keyIs
  hash:=keyH w
  inj:=fun v a b ha hb=>by
    rcases keyIs_shape ha with ⟨i,t,rfl,rfl⟩ | ⟨x,t,rfl,rfl⟩
    · rcases keyIs_shape hb with ⟨j,u,rfl,e⟩ | ⟨y,u,rfl,e⟩
      · injection e with e1 _; rw [e1]
      · exact nomatch e
    · rcases keyIs_shape hb with ⟨j,u,rfl,e⟩ | ⟨y,u,rfl,e⟩
      · exact nomatch e
      · injection e with e1 _; rw [e1]
  byValue:=fun k v h=>by
    rcases keyIs_shape h with ⟨i,t,rfl,rfl⟩ | ⟨x,t,rfl,rfl⟩ <;> rfl
  pyHash:=fun hv h=>by
    rcases keyIs_shape hv with ⟨i,t,rfl,rfl⟩ | ⟨x,t,rfl,rfl⟩
    · exact wpAny_pyHash_int h
    · exact wpAny_pyHash_str h
  eqBool:=fun hu hv h=>by
    rcases keyIs_shape hu with ⟨i,t,rfl,rfl⟩ | ⟨x,t,rfl,rfl⟩
    · rcases keyIs_shape hv with ⟨j,u,rfl,rfl⟩ | ⟨y,u,rfl,rfl⟩
      · rw [key_ll] at h; exact wpAny_eqBool_int h
      · rw [key_lr] at h; exact SeqAt.EqAt.int_str i t y u _ _ _ _ h
    · rcases keyIs_shape hv with ⟨j,u,rfl,rfl⟩ | ⟨y,u,rfl,rfl⟩
      · rw [key_rl] at h; exact SeqAt.EqAt.str_int x t j u _ _ _ _ h
      · rw [key_rr] at h; exact wpAny_eqBool_str h
  «strs»:=fun k x t v h=>by
    rcases keyIs_shape h with ⟨i,u,rfl,e⟩ | ⟨y,u,rfl,e⟩
    · exact nomatch e
    · injection e with e1 _
      subst e1
      cases v <;> rfl
theorem mixKind_int (prog:Program) (w:World) (i:Int) (t:Tok):(mixKind prog w).is (.inl i) (.int i t)=true:=keyIs_int i t
theorem mixKind_str (prog:Program) (w:World) (x:Str) (t:Tok):(mixKind prog w).is (.inr x) (.str x t)=true:=keyIs_str x t
end L2
namespace L2
open PySem PySem.Spec PyProof.Rows
inductive V where
  | non | bl (b:Bool) | int (i:Int) | str (x:Str) | byt (b:Array UInt8) | flt (b:UInt64) | ref (a:Addr) | ty (n:String)
  deriving DecidableEq
noncomputable def RelV:V->Value->Prop
  | .non,u=>u=Value.none
  | .bl b,u=>u=Value.bool b
  | .int i,u=>∃ t,u=Value.int i t
  | .str x,u=>∃ t,u=Value.str x t
  | .byt b,u=>∃ t,u=Value.bytes b t
  | .flt b,u=>∃ t,u=Value.float b t
  | .ref a,u=>u=Value.ref a
  | .ty n,u=>u=Value.type n
noncomputable abbrev Vals:List V->List Value->Prop:=Paired RelV
theorem Vals.length {xs:List V} {us:List Value} (r:Vals xs us):xs.length=us.length:=Paired.length r
theorem Vals.get:∀ {xs:List V} {us:List Value} {i:Nat} {x:V},Vals xs us->xs[i]?=some x->∃ u,us[i]?=some u /\ RelV x u
  | _,_,_,_,.nil,e=>by simp at e
  | _,_,0,_,.cons r _,e=>by simp at e; subst e; exact ⟨_,rfl,r⟩
  | _,_,i + 1,x,.cons _ t,e=>by
    obtain ⟨u,h1,h2⟩:=Vals.get (i:=i) (x:=x) t (by simpa using e)
    exact ⟨u,by simpa using h1,h2⟩
theorem Vals.append:∀ {xs ys:List V} {us ws:List Value},Vals xs us->Vals ys ws->Vals (xs ++ ys) (us ++ ws)
  | _,_,_,_,.nil,s=>s
  | _,_,_,_,.cons r t,s=>.cons r (Vals.append t s)
theorem Vals.take:∀ {xs:List V} {us:List Value} (n:Nat),Vals xs us->Vals (xs.take n) (us.take n)
  | _,_,0,_=>.nil
  | _,_,_ + 1,.nil=>.nil
  | _,_,n + 1,.cons r t=>.cons r (Vals.take n t)
theorem Vals.drop:∀ {xs:List V} {us:List Value} (n:Nat),Vals xs us->Vals (xs.drop n) (us.drop n)
  | _,_,0,r=>r
  | _,_,_ + 1,.nil=>.nil
  | _,_,n + 1,.cons _ t=>Vals.drop n t
noncomputable def RelO:Option V->Option Value->Prop
  | some v,some u=>RelV v u
  | none,none=>True
  | _,_=>False
noncomputable def KV {κ:Type}:List (κ × V)->List (κ × Value)->Prop:=Paired fun (p:κ × V) (q:κ × Value)=>p.1=q.1 /\ RelV p.2 q.2
noncomputable def kV:Key->V
  | .inl i=>.int i
  | .inr x=>.str x
inductive HO where
  | lst (xs:List V)
  | tup (xs:List V)
  | dK (kvs:List (Key × V)) | dT (kvs:List (List Key × V))
  | set (S:Int->Bool) (n:Nat)
  | ins (C dx:Addr) (fs:List (Str × V))
  | own (x:Addr)
  | xd (fs:List (Str × V))
  | met (f x:Addr)
  | rng (lo hi:Int)
  | frz (o:Obj) (u:HO)
  | tbl (ps:Array Value)
  | ext (φ:Heap->Prop)
noncomputable abbrev Hp:=Addr->Option HO
noncomputable def upd (H:Hp) (a:Addr) (o:HO):Hp:=fun b=>if b=a then some o else H b
theorem upd_same {H:Hp} {a:Addr} {o:HO}:upd H a o a=some o:=by unfold upd; rw [if_pos rfl]
theorem upd_ne {H:Hp} {a b:Addr} {o:HO} (h:b ≠ a):upd H a o b=H b:=by unfold upd; rw [if_neg h]
theorem ne_of_none {H:Hp} {a b:Addr} {o:HO} (h:H a=some o) (h':H b=none):a ≠ b:=by
  intro e; subst e; rw [h] at h'; cases h'
section
variable (P:Program) (w:World)
noncomputable def ObjOk (H:Hp) (h:Heap) (a:Addr):HO->Prop
  | .lst xs=>xs.length<=sizeLine /\ ∃ (its:List Value) (n:Nat),Vals xs its /\ h.get? a=some { cls:=.type "list",data:=.seq its.toArray n }
  | .tup xs=>xs.length<=sizeLine /\ ∃ its:List Value,Vals xs its /\ IsTup h a its.toArray
  | .dK kvs=>kvs.length<=sizeLine /\ (a == sysModules)=false /\ ∃ vs,KV kvs vs /\ h.DictOf (mixKind P w) a vs
  | .dT kvs=>kvs.length<=sizeLine /\ (a == sysModules)=false /\ ∃ xs:List (List Key × Addr × Value),
      Paired (fun (p:List Key × V) (q:List Key × Addr × Value)=>p.1=q.1 /\ H q.2.1=some (.tup (p.1.map kV)) /\ RelV p.2 q.2.2) kvs xs /\
      ∃ o es ep,h.get? a=some o /\ o.ExactDict /\ o.data=.dict es ep /\ es.toList=xs.map (entryOfKey (tupleKind (mixKind P w))) /\ (xs.map (·.1)).Nodup
  | .set S n=>h.SetOf (intKind P w) a S n
  | .ins C dx fs=>H dx=some (.own a) /\ fs.length<=1000 /\ dx ≠ a /\ h.get? a=some (PySem.W.instObj C dx) /\
      ∃ mA,h.Ns1 dx mA /\ (∀ f,RelO (fs.lookup f) (mA f)) /\ PySem.Within mA (fs.map (·.1))
  | .own _=>∃ o,h.get? a=some o
  | .xd fs=>∃ mA,h.Ns1 a mA /\ ∀ f,RelO (fs.lookup f) (mA f)
  | .rng lo hi=>∃ t u v,h.get? a=some { cls:=.type "range",data:=.fields #[.int lo t,.int hi u,.int 1 v] }
  | .frz o u=>h.get? a=some o /\ ObjOk H h a u
  | .tbl ps=>h.get? a=some { cls:=.none,data:=.fields ps }
  | .met f x=>h.get? a=some (PySem.W.methodObj (.ref f) (.ref x))
  | .ext φ=>φ h /\ (∃ o,h.get? a=some o) /\ ∀ h1 h2:Heap,φ h1->(∀ o,h1.get? a=some o->h2.get? a=some o)->φ h2
noncomputable def HOk (H:Hp) (h:Heap):Prop:=∀ a o,H a=some o->ObjOk P w H h a o
end
section
variable {P:Program} {w:World} {H H':Hp} {h h':Heap} {a:Addr} {o:HO}
theorem ObjOk.lt (x:ObjOk P w H h a o):a < h.objs.size:=by
  cases o with
  | lst xs=>obtain ⟨_,_,_,_,e⟩:=x; exact Heap.lt_size e
  | tup xs=>obtain ⟨_,_,_,p⟩:=x; exact p.lt
  | dK kvs=>obtain ⟨_,_,_,_,o,_,_,e,_⟩:=x; exact Heap.lt_size e
  | dT kvs=>obtain ⟨_,_,_,_,o,_,_,e,_⟩:=x; exact Heap.lt_size e
  | set S n=>obtain ⟨o,_,_,_,e,_⟩:=x; exact Heap.lt_size e
  | ins C dx fs=>obtain ⟨_,_,_,e,_⟩:=x; exact Heap.lt_size e
  | own y=>obtain ⟨_,e⟩:=x; exact Heap.lt_size e
  | xd fs=>obtain ⟨_,⟨_,_,_,e,_⟩,_⟩:=x; exact Heap.lt_size e
  | rng lo hi=>obtain ⟨_,_,_,e⟩:=x; exact Heap.lt_size e
  | frz ob u=>obtain ⟨e,_⟩:=x; exact Heap.lt_size e
  | tbl ps=>exact Heap.lt_size (show h.get? a=some _ from x)
  | met f y=>exact Heap.lt_size (show h.get? a=some _ from x)
  | ext φ=>obtain ⟨_,⟨_,e⟩,_⟩:=x; exact Heap.lt_size e
theorem Paired.mapP {α β:Type} {F G:α->β->Prop}:∀ {l₁:List α} {l₂:List β},Paired F l₁ l₂->(∀ a b,F a b->G a b)->Paired G l₁ l₂
  | _,_,.nil,_=>.nil
  | _,_,.cons r t,f=>.cons (f _ _ r) (Paired.mapP t f)
theorem ObjOk.stay (x:ObjOk P w H h a o) (k:∀ b u,(b=a \/ H b=some (.own a))->h.get? b=some u->h'.get? b=some u)
    (ho:∀ b,H b=some (.own a)->H' b=some (.own a)) (ht:∀ b xs,H b=some (.tup xs)->H' b=some (.tup xs)):ObjOk P w H' h' a o:=by
  induction o with
  | lst xs=>obtain ⟨z,its,n,r,e⟩:=x; exact ⟨z,its,n,r,k _ _ (.inl rfl) e⟩
  | tup xs=>obtain ⟨z,its,r,ob,e,c⟩:=x; exact ⟨z,its,r,ob,k _ _ (.inl rfl) e,c⟩
  | dK kvs=>obtain ⟨z,y,vs,r,ob,es,ep,e,c⟩:=x; exact ⟨z,y,vs,r,ob,es,ep,k _ _ (.inl rfl) e,c⟩
  | dT kvs =>
    obtain ⟨z,y,xs,r,ob,es,ep,e,c⟩:=x
    exact ⟨z,y,xs,Paired.mapP r fun p q z=>⟨z.1,ht _ _ z.2.1,z.2.2⟩,ob,es,ep,k _ _ (.inl rfl) e,c⟩
  | set S n=>obtain ⟨ob,es,ep,t,e,c⟩:=x; exact ⟨ob,es,ep,t,k _ _ (.inl rfl) e,c⟩
  | ins C dx fs =>
    obtain ⟨d,z,ne,e,mA,⟨od,es,ep,e2,c⟩,r⟩:=x
    exact ⟨ho _ d,z,ne,k _ _ (.inl rfl) e,mA,⟨od,es,ep,k _ _ (.inr d) e2,c⟩,r⟩
  | own y=>obtain ⟨ob,e⟩:=x; exact ⟨ob,k _ _ (.inl rfl) e⟩
  | xd fs=>obtain ⟨mA,⟨od,es,ep,e,c⟩,r⟩:=x; exact ⟨mA,⟨od,es,ep,k _ _ (.inl rfl) e,c⟩,r⟩
  | rng lo hi=>obtain ⟨t,u,v,e⟩:=x; exact ⟨t,u,v,k _ _ (.inl rfl) e⟩
  | frz ob u ih=>obtain ⟨e,q⟩:=x; exact ⟨k _ _ (.inl rfl) e,ih q⟩
  | tbl ps =>
    have e:h.get? a=some { cls:=.none,data:=.fields ps }:=x
    show h'.get? a=some { cls:=.none,data:=.fields ps }
    exact k a _ (.inl rfl) e
  | met f y =>
    have e:h.get? a=some (PySem.W.methodObj (.ref f) (.ref y)):=x
    show h'.get? a=some (PySem.W.methodObj (.ref f) (.ref y))
    exact k a _ (.inl rfl) e
  | ext φ=>obtain ⟨p,⟨o,e⟩,st⟩:=x; exact ⟨st _ _ p fun o q=>k _ _ (.inl rfl) q,⟨o,k _ _ (.inl rfl) e⟩,st⟩
theorem HOk.lt (x:HOk P w H h) (e:H a=some o):a < h.objs.size:=(x a o e).lt
theorem HOk.fresh (x:HOk P w H h) (e:h.objs.size<=a):H a=none:=by
  cases q:H a with
  | none=>rfl
  | some u=>exact absurd (Nat.lt_of_lt_of_le (x.lt q) e) (Nat.lt_irrefl _)
theorem HOk.kept (x:HOk P w H h) (k:∀ b u,h.get? b=some u->h'.get? b=some u):HOk P w H h':=fun a o e =>
  (x a o e).stay (fun b u _ q=>k b u q) (fun _ q=>q) fun _ _ q=>q
theorem HOk.laid (x:HOk P w H h) (k:∀ b u,h.get? b=some u->h'.get? b=some u) (hp:h.objs.size<=a) (new:ObjOk P w (upd H a o) h' a o):HOk P w (upd H a o) h':=fun b u e=>by
  have hn:=x.fresh hp
  by_cases hb:b=a
  · subst hb; rw [upd_same] at e; cases e; exact new
  · rw [upd_ne hb] at e
    exact (x b u e).stay (fun c v _ q=>k c v q) (fun c q=>by rw [upd_ne (ne_of_none q hn)]; exact q) fun c xs q=>by rw [upd_ne (ne_of_none q hn)]; exact q
end
noncomputable def Rd (H:Hp) (a:Addr) (u:HO):Prop:=H a=some u \/ ∃ o,H a=some (.frz o u)
theorem Rd.ok {P:Program} {w:World} {H:Hp} {h:Heap} {a:Addr} {u:HO} (r:Rd H a u) (x:HOk P w H h):ObjOk P w H h a u:=by
  rcases r with r | ⟨o,r⟩
  · exact x a u r
  · obtain ⟨_,q⟩:=x a _ r
    exact q
noncomputable def Mut:Option HO->Prop
  | some (.lst _)=>True
  | some (.dK _)=>True
  | some (.dT _)=>True
  | some (.set _ _)=>True
  | some (.ins _ _ _)=>True
  | some (.ext _)=>True
  | _=>False
section
variable {P:Program} {w:World} {H:Hp} {h h':Heap} {x e:Addr} {o':HO}
theorem HOk.write (ok:HOk P w H h) (mu:Mut (H x)) (he:e=x \/ H e=some (.own x)) (k:∀ b u,b ≠ e->h.get? b=some u->h'.get? b=some u) (heo:∃ u,h'.get? e=some u)
    (new:ObjOk P w (upd H x o') h' x o'):HOk P w (upd H x o') h':=fun b u q=>by
  have nown:∀ c y,H c=some (.own y)->c ≠ x:=fun c y r z=>by subst z; rw [r] at mu; exact mu
  have ntup:∀ c xs,H c=some (.tup xs)->c ≠ x:=fun c xs r z=>by subst z; rw [r] at mu; exact mu
  by_cases hb:b=x
  · subst hb; rw [upd_same] at q; cases q; exact new
  · rw [upd_ne hb] at q
    by_cases hbe:b=e
    · have q':H b=some (.own x):=by
        rcases he with z | z
        · exact absurd (hbe.trans z) hb
        · rw [hbe]; exact z
      rw [q] at q'; cases q'
      obtain ⟨v,hv⟩:=heo
      exact ⟨v,by rw [hbe]; exact hv⟩
    · refine (ok b u q).stay (fun c v hc r=>k c v ?_ r) (fun c r=>by rw [upd_ne (nown c b r)]; exact r) fun c xs r=>by rw [upd_ne (ntup c xs r)]; exact r
      rcases hc with rfl | hc
      · exact hbe
      · rintro rfl
        rcases he with z | z
        · exact nown c b hc z
        · rw [hc] at z; cases z; exact hb rfl
end
structure Un (fs ex:List Addr) (H H':Hp) (h h':Heap):Prop where
  keep:∀ b o,h.get? b=some o->H b=none->b ∉ fs->b ∉ ex->h'.get? b=some o
  slot:∀ b o,h.get? b=some o->H b=none->b ∈ fs->b ∉ ex->∃ sl,h'.get? b=some { o with slots:=sl }
  free:∀ b o,h.get? b=some o->H b=none->b ∉ ex->H' b=none
  there:∀ b o,h.get? b=some o->b ∉ ex->∃ o',h'.get? b=some o'
  tups:∀ b xs,H b=some (.tup xs)->H' b=some (.tup xs)
  frzs:∀ b o u,H b=some (.frz o u)->H' b=some (.frz o u)
  tbls:∀ b ps,H b=some (.tbl ps)->∃ more,H' b=some (.tbl (ps ++ more))
section
variable {fs fs' ex ex':List Addr} {H H1 H2:Hp} {h h1 h2 h':Heap} {a x e:Addr} {o:HO}
theorem Un.any (u:Un fs ex H H1 h h1) {b:Addr} {ob:Obj} (q:h.get? b=some ob) (n:H b=none) (hx:b ∉ ex):∃ sl,h1.get? b=some { ob with slots:=sl }:=by
  by_cases hb:b ∈ fs
  · exact u.slot b ob q n hb hx
  · exact ⟨ob.slots,u.keep b ob q n hb hx⟩
theorem Un.kept (k:∀ b u,h.get? b=some u->h'.get? b=some u):Un fs ex H H h h' :=
  ⟨fun b ob q _ _ _=>k b ob q,fun b ob q _ _ _=>⟨ob.slots,k b ob q⟩,fun _ _ _ n _=>n,fun b ob q _=>⟨ob,k b ob q⟩,fun _ _ q=>q,fun _ _ _ q=>q,fun _ ps q=>⟨#[],by rw [q]; simp⟩⟩
theorem Un.refl:Un fs ex H H h h:=Un.kept fun _ _ q=>q
theorem Un.laid (k:∀ b u,h.get? b=some u->h'.get? b=some u) (hp:h.objs.size<=a) (hn:H a=none):Un fs ex H (upd H a o) h h' where
  keep:=fun b u q _ _ _=>k b u q
  slot:=fun b u q _ _ _=>⟨u.slots,k b u q⟩
  free:=fun b u q n _=>by rw [upd_ne (Nat.ne_of_lt (Nat.lt_of_lt_of_le (Heap.lt_size q) hp))]; exact n
  there:=fun b u q _=>⟨u,k b u q⟩
  tups:=fun b xs q=>by rw [upd_ne (ne_of_none q hn)]; exact q
  frzs:=fun b u xs q=>by rw [upd_ne (ne_of_none q hn)]; exact q
  tbls:=fun b ps q=>⟨#[],by rw [upd_ne (ne_of_none q hn),q]; simp⟩
theorem Un.write (mu:Mut (H x)) (he:e=x \/ H e=some (.own x)) (k:∀ b u,b ≠ e->h.get? b=some u->h'.get? b=some u) (heo:∃ u,h'.get? e=some u):Un fs ex H (upd H x o) h h':=by
  have hx:∀ b,H b=none->b ≠ x:=fun b n z=>by subst z; rw [n] at mu; exact mu
  have hb:∀ b,H b=none->b ≠ e:=fun b n z=>by
    subst z
    rcases he with r | r
    · exact hx b n r
    · rw [n] at r; cases r
  have hm:∀ b u,H b=some u->¬ Mut (some u)->b ≠ x:=fun b u q nm z=>by subst z; rw [q] at mu; exact nm mu
  refine ⟨fun b u q n _ _=>k b u (hb b n) q,fun b u q n _ _=>⟨u.slots,k b u (hb b n) q⟩,fun b u q n _=>by rw [upd_ne (hx b n)]; exact n,fun b u q _=>?_,
    fun b xs q=>by rw [upd_ne (hm b _ q fun z=>z)]; exact q,fun b u xs q=>by rw [upd_ne (hm b _ q fun z=>z)]; exact q,fun b ps q=>⟨#[],by rw [upd_ne (hm b _ q fun z=>z),q]; simp⟩⟩
  by_cases hbe:b=e
  · subst hbe; exact heo
  · exact ⟨u,k b u hbe q⟩
end
noncomputable def trk (h:Heap) (H:Hp):List Addr:=(List.range h.objs.size).filter fun a=>(H a).isSome
noncomputable def hidT (h:Heap) (H:Hp):Heap:=PySem.W.hideAll h (trk h H)
theorem hidT_size (h:Heap) (H:Hp):(hidT h H).objs.size=h.objs.size:=PySem.W.hideAll_size _ _
theorem hidT_get {h:Heap} {H:Hp} {b:Addr} {o:Obj} (e:h.get? b=some o) (n:H b=none):(hidT h H).get? b=some o :=
  PySem.W.hideAll_get _ e fun hm=>by
    have q:(H b).isSome=true:=(List.mem_filter.mp hm).2
    rw [n] at q; simp at q
theorem of_hidT {h:Heap} {H:Hp} {b:Addr} {o:Obj} (e:(hidT h H).get? b=some o):h.get? b=some o /\ H b=none:=by
  have e':h.get? b=some o:=PySem.W.of_hideAll (trk h H) e
  refine ⟨e',?_⟩
  cases q:H b with
  | none=>rfl
  | some x =>
    have hm:b ∈ trk h H:=List.mem_filter.mpr ⟨List.mem_range.mpr (Heap.lt_size e'),by simp [q]⟩
    have z:(hidT h H).get? b=none:=PySem.W.hideAll_none (trk h H) hm
    rw [z] at e; cases e
noncomputable def allNews (g h:Heap) (L:Addr):List (Addr × Obj):=(List.range h.objs.size).filterMap fun a=>if a=L \/ (g.get? a).isSome=true then none else (h.get? a).map fun o=>(a,o)
noncomputable def rest (g h:Heap) (L d:Addr):List (Addr × Obj):=(allNews g h L).filter fun p=>decide (p.1 ≠ d)
end L2
namespace L2
open PySem PySem.Spec PyProof.Rows
structure Mod (K:PySem.W.Frag) (mg:Str->Option Value) (base:Heap):Prop where
  kin:K.In base
  glob:base.Ns mainGlobals mg
  blt:∃ mb,base.Ns builtinsNs mb /\ ∀ x:Str,x ≠ "__name__"->mb x=bootBuiltins x
  nolimit:base.NoLimit
structure Cx where
  prog:Program
  w:World
  K:PySem.W.Frag
  mg:Str->Option Value
  base:Heap
  A:Around
  N:List Str
  s₀:Shared
  H₀:Hp
  env:Env
  outer:List Env
  stack:List Env
  ex:List Addr
  fn:Str->Bool
  calm:Bool
  pn:List (Addr × Obj)
  xe:Value->Shared->Prop
noncomputable def frs (l:List Env):List Addr:=l.filterMap (·.frame)
noncomputable abbrev Cx.fs (X:Cx):List Addr:=frs X.outer
noncomputable def Vis (sc:Scope) (x:Str):Prop:=sc.names.lookup x=some .local \/ sc.names.lookup x=some .cell \/ sc.names.lookup x=some .free
noncomputable def Loc (sc:Scope) (x:Str):Prop:=sc.names.lookup x=some .local \/ sc.names.lookup x=some .cell
noncomputable def Look (env:Env) (h:Heap) (m:Str->Option Value) (x:Str) (u:Value):Prop :=
  (env.kindOf x=some .local /\ m x=some u) \/ ((env.kindOf x=some .cell \/ env.kindOf x=some .free) /\ ∃ c,env.cells.lookup x=some c /\ h.IsCell c (some u))
structure Cx.Ok (X:Cx):Prop where
  mod:Mod X.K X.mg X.base
  kind:X.env.scope.kind=.function
  glob:X.env.globals=mainGlobals
  blt:X.env.builtins=builtinsNs
  above:X.s₀.heap.objs.size<=X.env.locals
  inj:∀ x y c,X.env.cells.lookup x=some c->X.env.cells.lookup y=some c->x=y
  has:∀ x,(X.env.kindOf x=some .cell \/ X.env.kindOf x=some .free)->∃ c,X.env.cells.lookup x=some c
  cab:∀ x c,X.fn x=true->X.env.cells.lookup x=some c->X.s₀.heap.objs.size<=c
  hd:X.calm=true->X.A.handled=none
  frames:X.A.frames=some X.stack
  stk:X.stack=X.outer \/ (X.stack=X.env :: X.outer /\ X.env.frame=some X.env.locals)
  exf:∀ b ∈ X.ex,b ≠ X.env.locals /\ ∀ x c,X.env.cells.lookup x=some c->c ≠ b
  bs:∀ b o,X.base.get? b=some o->X.s₀.heap.get? b=some o /\ X.H₀ b=none
  bsz:X.base.objs.size<=X.s₀.heap.objs.size
  noex:∀ b o,X.base.get? b=some o->b ∉ X.ex
  exfs:∀ b ∈ X.ex,b ∉ X.fs
  funs:X.s₀.heap.FunFrames X.base X.outer
  frf:∀ b ∈ X.fs,X.H₀ b=none
structure Inv (X:Cx) (pins:List (Addr × Obj)) (σ:List (Option V)) (H:Hp) (s:Shared):Prop where
  ok:X.Ok
  os:s.os=X.s₀.os
  bare:AllBare s.gens
  base:Un X.fs X.ex X.H₀ H X.s₀.heap s.heap
  loc:∃ m,s.heap.Ns X.env.locals m /\ ∀ (i:Nat) (x:Str) (v:V),X.N[i]?=some x->σ[i]?=some (some v)->Vis X.env.scope x->∃ u,RelV v u /\ Look X.env s.heap m x u
  cell:∀ x c,X.env.cells.lookup x=some c->∃ v,s.heap.IsCell c v
  free:H X.env.locals=none
  freeC:∀ x c,X.env.cells.lookup x=some c->H c=none
  pin:∀ p ∈ X.pn ++ pins,s.heap.get? p.1=some p.2 /\ H p.1=none /\ p.1 ≠ X.env.locals /\ p.1 ∉ X.fs /\ ∀ v,p.2.data ≠ .cell v
  hok:HOk X.prog X.w H s.heap
  len:σ.length=X.N.length
section
variable {X:Cx} {pins:List (Addr × Obj)} {σ:List (Option V)} {H H':Hp} {s:Shared} {h':Heap}
theorem Cx.Ok.nofr (ok:X.Ok) {b:Addr} {o:Obj} (e:X.base.get? b=some o):b ∉ X.fs:=fun hb=>by
  have:=(ok.funs.mem hb).1
  rw [e] at this; cases this
theorem Inv.bs (I:Inv X pins σ H s):∀ b o,X.base.get? b=some o->s.heap.get? b=some o /\ H b=none:=fun b o e =>
  ⟨I.base.keep b o (I.ok.bs b o e).1 (I.ok.bs b o e).2 (I.ok.nofr e) (I.ok.noex b o e),I.base.free b o (I.ok.bs b o e).1 (I.ok.bs b o e).2 (I.ok.noex b o e)⟩
theorem Inv.bk (I:Inv X pins σ H s):∀ b o,X.base.get? b=some o->s.heap.get? b=some o:=fun b o e=>(I.bs b o e).1
theorem Inv.mod (I:Inv X pins σ H s):Mod X.K X.mg X.base:=I.ok.mod
theorem Inv.kIn (I:Inv X pins σ H s):X.K.In s.heap:=I.ok.mod.kin.keeps I.bk
theorem Inv.lt (I:Inv X pins σ H s):X.env.locals < s.heap.objs.size:=let ⟨_,hn,_⟩:=I.loc; hn.lt
theorem Inv.sz (I:Inv X pins σ H s):X.s₀.heap.objs.size<=s.heap.objs.size:=Nat.le_trans I.ok.above (Nat.le_of_lt I.lt)
theorem Inv.nofs (I:Inv X pins σ H s) {a:Addr} (h:s.heap.objs.size<=a):a ∉ X.fs:=fun hb=>by
  obtain ⟨_,o,ho,_⟩:=I.ok.funs.mem hb
  exact absurd (Nat.lt_of_lt_of_le (Heap.lt_size ho) (Nat.le_trans I.sz h)) (Nat.lt_irrefl _)
theorem Inv.cne (I:Inv X pins σ H s):∀ x c,X.env.cells.lookup x=some c->c ≠ X.env.locals:=fun x c e z=>by
  obtain ⟨v,o,ho,hd⟩:=I.cell x c e
  obtain ⟨m,⟨o',es,ep,ho',hd',_⟩,_⟩:=I.loc
  rw [z,ho'] at ho; cases ho; rw [hd'] at hd; cases hd
theorem Inv.funs (I:Inv X pins σ H s):s.heap.FunFrames X.base X.outer:=by
  have all:∀ (l:List Env),(∀ b ∈ frs l,b ∈ X.fs)->X.s₀.heap.FunFrames X.base l->s.heap.FunFrames X.base l:=by
    intro l
    induction l with
    | nil=>intro _ _; trivial
    | cons env r ih =>
      intro hs hl
      obtain ⟨hk,⟨L,o,hf,hn,ho,hd⟩,hr⟩:=hl
      have hL:L ∈ X.fs:=hs L (by unfold frs; rw [List.filterMap_cons,hf]; exact List.mem_cons_self)
      obtain ⟨sl,e⟩:=I.base.slot L o ho (I.ok.frf L hL) hL fun z=>I.ok.exfs L z hL
      exact ⟨hk,⟨L,_,hf,hn,e,hd⟩,ih (fun b hb=>hs b (by unfold frs; rw [List.filterMap_cons,hf]; exact List.mem_cons_of_mem _ hb)) hr⟩
  exact all X.outer (fun _ hb=>hb) I.ok.funs
theorem Inv.stack (I:Inv X pins σ H s):s.heap.FunFrames X.base X.stack:=by
  rcases I.ok.stk with e | ⟨e,hf⟩
  · rw [e]; exact I.funs
  · rw [e]
    obtain ⟨m,hn,_⟩:=I.loc
    refine .cons (by rw [I.ok.kind]; decide) hf hn ?_ I.funs
    exact Heap.get?_none_of_le (Nat.le_trans I.ok.bsz I.ok.above)
theorem Inv.stkSub (I:Inv X pins σ H s):∀ b ∈ frs X.stack,b ∈ X.env.locals :: X.fs:=fun b hb=>by
  rcases I.ok.stk with e | ⟨e,hf⟩
  · rw [e] at hb; exact List.mem_cons_of_mem _ hb
  · rw [e] at hb
    unfold frs at hb
    rw [List.filterMap_cons,hf] at hb
    exact hb
theorem Inv.stkFree (I:Inv X pins σ H s):∀ b ∈ frs X.stack,H b=none:=fun b hb=>by
  rcases List.mem_cons.mp (I.stkSub b hb) with e | hb
  · rw [e]; exact I.free
  · obtain ⟨_,o,ho,_⟩:=I.ok.funs.mem hb
    exact I.base.free b o ho (I.ok.frf b hb) fun z=>I.ok.exfs b z hb
theorem Inv.step {g':Array GenState} {t':Nat} {d':Drawn} {ch:List Addr} (I:Inv X pins σ H s)
    (hch:∀ b ∈ ch,(b ∈ X.ex \/ X.s₀.heap.objs.size<=b) /\ b ≠ X.env.locals /\ (∀ x c,X.env.cells.lookup x=some c->c ≠ b) /\ ∀ p ∈ X.pn ++ pins,p.1 ≠ b)
    (keep:∀ b o,b ≠ X.env.locals->b ∉ X.fs->b ∉ ch->s.heap.get? b=some o->H b=none->h'.get? b=some o)
    (slot:∀ b o,b ≠ X.env.locals->b ∈ X.fs->b ∉ ch->s.heap.get? b=some o->H b=none->∃ sl,h'.get? b=some { o with slots:=sl }) (free:∀ b o,b ∉ ch->s.heap.get? b=some o->H b=none->H' b=none)
    (there:∀ b o,b ∉ ch->s.heap.get? b=some o->∃ o',h'.get? b=some o')
    (tups:∀ b xs,H b=some (.tup xs)->H' b=some (.tup xs)) (frzs:∀ b o u,H b=some (.frz o u)->H' b=some (.frz o u)) (tbls:∀ b ps,H b=some (.tbl ps)->∃ more,H' b=some (.tbl (ps ++ more)))
    (ns:∀ m,s.heap.Ns X.env.locals m->h'.Ns X.env.locals m) (hok:HOk X.prog X.w H' h') (hg:AllBare g') :
    Inv X pins σ H' { s with heap:=h',gens:=g',drawn:=d',toks:=t' }:=by
  have neL:∀ b o,X.s₀.heap.get? b=some o->b ≠ X.env.locals:=fun b o e=>Nat.ne_of_lt (Nat.lt_of_lt_of_le (Heap.lt_size e) I.ok.above)
  have neC:∀ b o,X.s₀.heap.get? b=some o->b ∉ X.ex->b ∉ ch:=fun b o e hx hb=>by
    rcases (hch b hb).1 with z | z
    · exact hx z
    · exact absurd (Nat.lt_of_lt_of_le (Heap.lt_size e) z) (Nat.lt_irrefl _)
  have cellK:∀ x c,X.env.cells.lookup x=some c->∀ v,s.heap.IsCell c v->h'.IsCell c v:=fun x c e v ⟨o,ho,hd⟩=>by
    have nch:c ∉ ch:=fun z=>(hch c z).2.2.1 x c e rfl
    by_cases hc:c ∈ X.fs
    · obtain ⟨sl,q⟩:=slot c o (I.cne x c e) hc nch ho (I.freeC x c e)
      exact ⟨_,q,hd⟩
    · exact ⟨o,keep c o (I.cne x c e) hc nch ho (I.freeC x c e),hd⟩
  refine ⟨I.ok,I.os,hg,⟨fun b o e n hb hx=>?_,fun b o e n hb hx=>?_,fun b o e n hx=>?_,fun b o e hx=>?_,fun b xs e=>tups b xs (I.base.tups b xs e),fun b o xs e=>frzs b o xs (I.base.frzs b o xs e),fun b ps e=>?_⟩,?_,fun x c e=>?_,?_,fun x c e=>?_,fun p hp=>?_,hok,I.len⟩
  · exact keep b o (neL b o e) hb (neC b o e hx) (I.base.keep b o e n hb hx) (I.base.free b o e n hx)
  · obtain ⟨sl,e1⟩:=I.base.slot b o e n hb hx
    obtain ⟨sl',e2⟩:=slot b _ (neL b o e) hb (neC b o e hx) e1 (I.base.free b o e n hx)
    exact ⟨sl',e2⟩
  · obtain ⟨o',e1⟩:=I.base.there b o e hx
    exact free b o' (neC b o e hx) e1 (I.base.free b o e n hx)
  · obtain ⟨o',e1⟩:=I.base.there b o e hx
    exact there b o' (neC b o e hx) e1
  · obtain ⟨m1,e1⟩:=I.base.tbls b ps e
    obtain ⟨m2,e2⟩:=tbls b _ e1
    exact ⟨m1 ++ m2,by rw [e2,Array.append_assoc]⟩
  · obtain ⟨m,hn,hl⟩:=I.loc
    refine ⟨m,ns m hn,fun i x v e1 e2 e3=>?_⟩
    obtain ⟨u,r,l⟩:=hl i x v e1 e2 e3
    refine ⟨u,r,?_⟩
    rcases l with l | ⟨k,c,e,z⟩
    · exact .inl l
    · exact .inr ⟨k,c,e,cellK x c e _ z⟩
  · obtain ⟨v,z⟩:=I.cell x c e
    exact ⟨v,cellK x c e v z⟩
  · obtain ⟨m,⟨o,_,_,ho,_⟩,_⟩:=I.loc
    exact free _ o (fun z=>(hch _ z).2.1 rfl) ho I.free
  · obtain ⟨v,o,ho,hd⟩:=I.cell x c e
    exact free c o (fun z=>(hch c z).2.2.1 x c e rfl) ho (I.freeC x c e)
  · obtain ⟨e,n,ne,nf,d⟩:=I.pin p hp
    have nch:p.1 ∉ ch:=fun z=>(hch p.1 z).2.2.2 p hp rfl
    exact ⟨keep p.1 p.2 ne nf nch e n,free p.1 p.2 nch e n,ne,nf,d⟩
theorem Inv.un {t':Nat} (I:Inv X pins σ H s) (u:Un X.fs [] H H' s.heap h') (hok:HOk X.prog X.w H' h'):Inv X pins σ H' { s with heap:=h',toks:=t' }:=by
  obtain ⟨m,⟨o,es,ep,ho,r⟩,_⟩:=id I.loc
  obtain ⟨sl,hL⟩:=u.any ho I.free (by simp)
  exact I.step (g':=s.gens) (d':=s.drawn) (ch:=[]) (fun _ z=>nomatch z) (fun b o _ hb _ e n=>u.keep b o e n hb (by simp)) (fun b o _ hb _ e n=>u.slot b o e n hb (by simp)) (fun b o _ e n=>u.free b o e n (by simp)) (fun b o _ e=>u.there b o e (by simp)) u.tups u.frzs u.tbls (fun m' hm=>by
    obtain ⟨o',es',ep',ho',r'⟩:=hm
    rw [ho] at ho'; cases ho'
    exact ⟨_,es',ep',hL,r'⟩) hok I.bare
theorem Inv.call {g':Array GenState} {t':Nat} {d':Drawn} {ch:List Addr} (I:Inv X pins σ H s) (u:Un (frs X.stack) ch H H' s.heap h') (hok:HOk X.prog X.w H' h') (hg:AllBare g')
    (hch:∀ b ∈ ch,(b ∈ X.ex \/ X.s₀.heap.objs.size<=b) /\ b ≠ X.env.locals /\ (∀ x c,X.env.cells.lookup x=some c->c ≠ b) /\ ∀ p ∈ X.pn ++ pins,p.1 ≠ b) :
    Inv X pins σ H' { s with heap:=h',gens:=g',drawn:=d',toks:=t' }:=by
  obtain ⟨m,⟨o,es,ep,ho,r⟩,_⟩:=id I.loc
  obtain ⟨sl,hL⟩:=u.any ho I.free fun z=>(hch _ z).2.1 rfl
  exact I.step (ch:=ch) hch (fun b o hL hb hc e n=>u.keep b o e n (fun z=>(List.mem_cons.mp (I.stkSub b z)).elim hL hb) hc) (fun b o _ _ hc e n=>u.any e n hc) (fun b o hc e n=>u.free b o e n hc) (fun b o hc e=>u.there b o e hc) u.tups u.frzs u.tbls (fun m' hm=>by
    obtain ⟨o',es',ep',ho',r'⟩:=hm
    rw [ho] at ho'; cases ho'
    exact ⟨_,es',ep',hL,r'⟩) hok hg
theorem Inv.turned {t':Nat} {it:Addr} (I:Inv X pins σ H s) (k:∀ b o,b ≠ it->s.heap.get? b=some o->h'.get? b=some o) (hn:H it=none) (hL:it ≠ X.env.locals)
    (h1:it ∈ X.ex \/ X.s₀.heap.objs.size<=it) (h2:∀ x c,X.env.cells.lookup x=some c->c ≠ it) (h3:∀ p ∈ X.pn ++ pins,p.1 ≠ it):Inv X pins σ H { s with heap:=h',toks:=t' }:=by
  have nit:∀ b u,H b=some u->b ≠ it:=fun b u e z=>by rw [z,hn] at e; cases e
  refine I.step (g':=s.gens) (d':=s.drawn) (ch:=[it]) (fun b hb=>?_) (fun b o _ _ hc e _=>k b o (fun z=>hc (by simp [z])) e) (fun b o _ _ hc e _=>⟨o.slots,k b o (fun z=>hc (by simp [z])) e⟩) (fun _ _ _ _ n=>n)
    (fun b o hc e=>⟨o,k b o (fun z=>hc (by simp [z])) e⟩) (fun _ _ e=>e) (fun _ _ _ e=>e) (fun b ps e=>⟨#[],by rw [e]; simp⟩) (fun m hm=>?_) (fun b u e=>?_) I.bare
  · have e:b=it:=by simpa using hb
    subst e
    exact ⟨h1,hL,h2,h3⟩
  · obtain ⟨o,es,ep,ho,r⟩:=hm
    exact ⟨o,es,ep,k _ o (Ne.symm hL) ho,r⟩
  · refine (I.hok b u e).stay (fun c v hc q=>k c v ?_ q) (fun _ q=>q) fun _ _ q=>q
    rcases hc with z | z
    · rw [z]; exact nit b u e
    · exact nit c _ z
theorem Inv.tok (I:Inv X pins σ H s) (t:Nat):Inv X pins σ H { s with toks:=t }:=I.un (h':=s.heap) (t':=t) Un.refl I.hok
theorem Inv.kept {t':Nat} (I:Inv X pins σ H s) (k:∀ b u,s.heap.get? b=some u->h'.get? b=some u):Inv X pins σ H { s with heap:=h',toks:=t' }:=I.un (Un.kept k) (I.hok.kept k)
theorem Inv.laid {a:Addr} {o:HO} {t':Nat} (I:Inv X pins σ H s) (k:∀ b u,s.heap.get? b=some u->h'.get? b=some u) (hp:s.heap.objs.size<=a) (new:ObjOk X.prog X.w (upd H a o) h' a o) :
    Inv X pins σ (upd H a o) { s with heap:=h',toks:=t' }:=I.un (Un.laid k hp (I.hok.fresh hp)) (I.hok.laid k hp new)
theorem Inv.write {x e:Addr} {o:HO} {t':Nat} (I:Inv X pins σ H s) (mu:Mut (H x)) (he:e=x \/ H e=some (.own x)) (k:∀ b u,b ≠ e->s.heap.get? b=some u->h'.get? b=some u) (heo:∃ u,h'.get? e=some u)
    (new:ObjOk X.prog X.w (upd H x o) h' x o):Inv X pins σ (upd H x o) { s with heap:=h',toks:=t' }:=I.un (Un.write mu he k heo) (I.hok.write mu he k heo new)
theorem Inv.weak {σ':List (Option V)} (I:Inv X pins σ H s) (hl:σ'.length=σ.length) (w:∀ (i:Nat) v,σ'[i]?=some (some v)->σ[i]?=some (some v)):Inv X pins σ' H s :=
  ⟨I.ok,I.os,I.bare,I.base,let ⟨m,hn,hl'⟩:=I.loc; ⟨m,hn,fun i x v e1 e2 e3=>hl' i x v e1 (w i v e2) e3⟩,I.cell,I.free,I.freeC,I.pin,I.hok,hl.trans I.len⟩
theorem Inv.pins_of {pins':List (Addr × Obj)} (I:Inv X pins σ H s) (h:∀ p ∈ pins',s.heap.get? p.1=some p.2 /\ H p.1=none /\ p.1 ≠ X.env.locals /\ p.1 ∉ X.fs /\ ∀ v,p.2.data ≠ .cell v):Inv X pins' σ H s :=
  ⟨I.ok,I.os,I.bare,I.base,I.loc,I.cell,I.free,I.freeC,fun p hp=>(List.mem_append.mp hp).elim (fun z=>I.pin p (List.mem_append_left _ z)) (h p),I.hok,I.len⟩
theorem nodup_ix {N:List Str} (hN:N.Nodup) {i j:Nat} {x:Str} (a:N[i]?=some x) (b:N[j]?=some x):i=j:=by
  obtain ⟨h1,e1⟩:=List.getElem?_eq_some_iff.mp a
  obtain ⟨h2,e2⟩:=List.getElem?_eq_some_iff.mp b
  exact (List.getElem_inj hN).mp (e1.trans e2.symm)
theorem store_ok2 {M:Model} {A:Around} {E:Value->Shared->Prop} {i:Nat} {x:Str} {v:V} {u:Value} {Q:Unit->Shared->Prop} (I:Inv X pins σ H s) (hN:X.N.Nodup) (hi:X.N[i]?=some x) (hx:Loc X.env.scope x) (r:RelV v u)
    (h:∀ s',Inv X pins (σ.set i (some v)) H s'->(∃ a,Heap.SameBut a s.heap s'.heap /\ (a=X.env.locals \/ X.env.cells.lookup x=some a))->Q () s') (hf:X.fn x=true \/ X.env.scope.names.lookup x=some .local:=by first | exact .inl rfl | exact .inr rfl | assumption):wpAny M A (storeName X.env x u) Q E s:=by
  obtain ⟨m,hn,hl⟩:=id I.loc
  have hcls:(X.env.scope.kind == .class || (X.env.scope.kind == .module && X.env.locals != X.env.globals))=false:=by rw [I.ok.kind]; rfl
  have hiσ:i < σ.length:=by rw [I.len]; exact (List.getElem?_eq_some_iff.mp hi).1
  have cne:=I.cne
  have tracked:∀ {a:Addr} {h':Heap},(∃ o,s.heap.get? a=some o /\ H a=none)->Heap.SameBut a s.heap h'->HOk X.prog X.w H h':=fun {a h'} ha hs b ob e=>by
    obtain ⟨_,_,hfree⟩:=ha
    refine (I.hok b ob e).stay (fun c w' hc q=>(hs.2 c ?_).trans q) (fun _ q=>q) fun _ _ q=>q
    rintro rfl
    rcases hc with rfl | hc
    · rw [hfree] at e; cases e
    · rw [hfree] at hc; cases hc
  rcases hx with hk | hk
  · refine wpAny_storeName_local hk hn (fun h' hn' hs=>?_) hcls
    obtain ⟨oL,_,_,hoL,_⟩:=id hn
    refine h _ ⟨I.ok,I.os,I.bare,⟨fun b o e n hb hx=>?_,fun b o e n hb hx=>?_,I.base.free,fun b o e hx=>?_,I.base.tups,I.base.frzs,I.base.tbls⟩,⟨_,hn',fun j y v' e1 e2 e3=>?_⟩,fun y c e=>?_,I.free,I.freeC,fun p hp=>?_,tracked ⟨oL,hoL,I.free⟩ hs,by simpa using I.len⟩ ⟨_,hs,.inl rfl⟩
    · exact (hs.2 b (Nat.ne_of_lt (Nat.lt_of_lt_of_le (Heap.lt_size e) I.ok.above))).trans (I.base.keep b o e n hb hx)
    · obtain ⟨sl,e1⟩:=I.base.slot b o e n hb hx
      exact ⟨sl,(hs.2 b (Nat.ne_of_lt (Nat.lt_of_lt_of_le (Heap.lt_size e) I.ok.above))).trans e1⟩
    · obtain ⟨o',e1⟩:=I.base.there b o e hx
      exact ⟨o',(hs.2 b (Nat.ne_of_lt (Nat.lt_of_lt_of_le (Heap.lt_size e) I.ok.above))).trans e1⟩
    · by_cases hj:j=i
      · subst hj
        rw [hi] at e1; cases e1
        rw [List.getElem?_set_self hiσ] at e2
        cases e2
        exact ⟨u,r,.inl ⟨hk,by simp⟩⟩
      · rw [List.getElem?_set_ne (Ne.symm hj)] at e2
        obtain ⟨u',r',q⟩:=hl j y v' e1 e2 e3
        refine ⟨u',r',?_⟩
        rcases q with ⟨k,e⟩ | ⟨k,c,e,z⟩
        · refine .inl ⟨k,?_⟩
          have:y ≠ x:=fun e=>hj (nodup_ix hN e1 (e ▸ hi))
          simp [this,e]
        · exact .inr ⟨k,c,e,z.sameBut hs (cne y c e)⟩
    · obtain ⟨w',z⟩:=I.cell y c e
      exact ⟨w',z.sameBut hs (cne y c e)⟩
    · obtain ⟨e,n,ne,nf,d⟩:=I.pin p hp
      exact ⟨(hs.2 p.1 ne).trans e,n,ne,nf,d⟩
  · have hfn:X.fn x=true:=by
      rcases hf with z | z
      · exact z
      · rw [z] at hk; cases hk
    obtain ⟨c,hc⟩:=I.ok.has x (.inl hk)
    obtain ⟨w',z⟩:=I.cell x c hc
    refine wpAny_storeName_cell I.ok.kind hk hc z (fun h' hc' hs=>?_)
    obtain ⟨oc,hoc,hocd⟩:=id z
    refine h { s with heap:=h' } ⟨I.ok,I.os,I.bare,⟨fun b o e n hb hx=>?_,fun b o e n hb hx=>?_,I.base.free,fun b o e hx=>?_,I.base.tups,I.base.frzs,I.base.tbls⟩,⟨m,hn.sameBut hs (Ne.symm (cne x c hc)),fun j y v' e1 e2 e3=>?_⟩,fun y c' e=>?_,I.free,I.freeC,fun p hp=>?_,tracked ⟨oc,hoc,I.freeC x c hc⟩ hs,by simpa using I.len⟩ ⟨c,hs,.inr hc⟩
    · exact (hs.2 b (Nat.ne_of_lt (Nat.lt_of_lt_of_le (Heap.lt_size e) (I.ok.cab x c hfn hc)))).trans (I.base.keep b o e n hb hx)
    · obtain ⟨sl,e1⟩:=I.base.slot b o e n hb hx
      exact ⟨sl,(hs.2 b (Nat.ne_of_lt (Nat.lt_of_lt_of_le (Heap.lt_size e) (I.ok.cab x c hfn hc)))).trans e1⟩
    · obtain ⟨o',e1⟩:=I.base.there b o e hx
      exact ⟨o',(hs.2 b (Nat.ne_of_lt (Nat.lt_of_lt_of_le (Heap.lt_size e) (I.ok.cab x c hfn hc)))).trans e1⟩
    · by_cases hj:j=i
      · subst hj
        rw [hi] at e1; cases e1
        rw [List.getElem?_set_self hiσ] at e2
        cases e2
        exact ⟨u,r,.inr ⟨.inl hk,c,hc,hc'⟩⟩
      · rw [List.getElem?_set_ne (Ne.symm hj)] at e2
        obtain ⟨u',r',q⟩:=hl j y v' e1 e2 e3
        refine ⟨u',r',?_⟩
        rcases q with q | ⟨k,c',e,z'⟩
        · exact .inl q
        · refine .inr ⟨k,c',e,z'.sameBut hs ?_⟩
          rintro rfl
          exact hj (nodup_ix hN e1 (I.ok.inj _ _ _ e hc ▸ hi))
    · by_cases hcc:c'=c
      · subst hcc; exact ⟨_,hc'⟩
      · obtain ⟨w2,z2⟩:=I.cell y c' e
        exact ⟨w2,z2.sameBut hs hcc⟩
    · obtain ⟨e,n,ne,nf,d⟩:=I.pin p hp
      refine ⟨(hs.2 p.1 ?_).trans e,n,ne,nf,d⟩
      intro q
      rw [q,hoc] at e
      have q':oc=p.2:=Option.some.inj e
      exact d w' (by rw [<- q']; exact hocd)
theorem store_ok {M:Model} {A:Around} {E:Value->Shared->Prop} {i:Nat} {x:Str} {v:V} {u:Value} {Q:Unit->Shared->Prop} (I:Inv X pins σ H s) (hN:X.N.Nodup) (hi:X.N[i]?=some x) (hx:Loc X.env.scope x) (r:RelV v u)
    (h:∀ s',Inv X pins (σ.set i (some v)) H s'->Q () s') (hf:X.fn x=true \/ X.env.scope.names.lookup x=some .local:=by first | exact .inl rfl | exact .inr rfl | assumption):wpAny M A (storeName X.env x u) Q E s :=
  store_ok2 I hN hi hx r (fun s' I' _=>h s' I') hf
theorem Inv.call' {s':Shared} {ch:List Addr} (I:Inv X pins σ H s) (ho:s'.os=s.os) (u:Un (frs X.stack) ch H H' s.heap s'.heap) (hok:HOk X.prog X.w H' s'.heap) (hg:AllBare s'.gens)
    (hch:∀ b ∈ ch,(b ∈ X.ex \/ X.s₀.heap.objs.size<=b) /\ b ≠ X.env.locals /\ (∀ x c,X.env.cells.lookup x=some c->c ≠ b) /\ ∀ p ∈ X.pn ++ pins,p.1 ≠ b):Inv X pins σ H' s':=by
  obtain ⟨h',g',d',t',o'⟩:=s'
  have e:o'=s.os:=ho
  subst e
  exact I.call (g':=g') (t':=t') (d':=d') u hok hg hch
end
noncomputable abbrev XK:=Value->Option Addr->Hp->Prop
noncomputable abbrev St:=List (Option V)
noncomputable abbrev VK:=V->Hp->Prop
noncomputable abbrev TE:=St->Hp->VK->Prop
noncomputable abbrev TT:=St->Hp->(Bool->Hp->Prop)->Prop
noncomputable abbrev TA:=St->Hp->(List V->Hp->Prop)->Prop
structure Ends where
  nx:St->Hp->Prop
  rt:VK
  bk:St->Hp->Prop:=fun _ _=>False
  ct:St->Hp->Prop:=fun _ _=>False
noncomputable abbrev TS:=Ends->St->Hp->Prop
noncomputable def EP (X:Cx) (pins:List (Addr × Obj)) (σ:St) (Q:VK) (u:Value) (s':Shared):Prop:=∃ v H',Inv X pins σ H' s' /\ RelV v u /\ Q v H'
noncomputable def TP (X:Cx) (pins:List (Addr × Obj)) (σ:St) (Q:Bool->Hp->Prop) (b:Bool) (s':Shared):Prop:=∃ H',Inv X pins σ H' s' /\ Q b H'
noncomputable def AP (X:Cx) (pins:List (Addr × Obj)) (σ:St) (Q:List V->Hp->Prop) (us:List Value) (s':Shared):Prop:=∃ vs H',Inv X pins σ H' s' /\ Vals vs us /\ Q vs H'
noncomputable def SP (X:Cx) (pins:List (Addr × Obj)) (D:Ends) (f:Flow) (s':Shared):Prop :=
  match f with
  | .next=>∃ σ' H',Inv X pins σ' H' s' /\ D.nx σ' H'
  | .brk=>∃ σ' H',Inv X pins σ' H' s' /\ D.bk σ' H'
  | .cont=>∃ σ' H',Inv X pins σ' H' s' /\ D.ct σ' H'
  | .ret u=>∃ v σ' H',Inv X pins σ' H' s' /\ RelV v u /\ D.rt v H'
noncomputable def PE (X:Cx) (e:Expr) (t:TE):Prop :=
  ∀ (pins:List (Addr × Obj)) (s:Shared) (σ:St) (H:Hp) (Q:VK),Inv X pins σ H s->t σ H Q->wpAny (model X.prog X.w) X.A (eval e X.env) (EP X pins σ Q) X.xe s
noncomputable def PT (X:Cx) (e:Expr) (t:TT):Prop :=
  ∀ (pins:List (Addr × Obj)) (s:Shared) (σ:St) (H:Hp) (Q:Bool->Hp->Prop),Inv X pins σ H s->t σ H Q->wpAny (model X.prog X.w) X.A (isTrue e X.env (eval e X.env)) (TP X pins σ Q) X.xe s
noncomputable def PW (X:Cx) (e:Expr) (t:TT):Prop :=
  ∀ (whole:Sem Value) (pins:List (Addr × Obj)) (s:Shared) (σ:St) (H:Hp) (Q:Bool->Hp->Prop),Inv X pins σ H s->t σ H Q->wpAny (model X.prog X.w) X.A (isTrue e X.env whole) (TP X pins σ Q) X.xe s
theorem PW.pt {X:Cx} {e:Expr} {t:TT} (h:PW X e t):PT X e t:=h _
noncomputable def PA (X:Cx) (es:List Expr) (t:TA):Prop :=
  ∀ (pos:Pos) (pins:List (Addr × Obj)) (s:Shared) (σ:St) (H:Hp) (Q:List V->Hp->Prop),Inv X pins σ H s->t σ H Q->wpAny (model X.prog X.w) X.A (spliced (backTo pos (starEach es X.env))) (AP X pins σ Q) X.xe s
noncomputable def PS (X:Cx) (st:Stmt) (t:TS):Prop :=
  ∀ (pins:List (Addr × Obj)) (s:Shared) (σ:St) (H:Hp) (D:Ends),Inv X pins σ H s->t D σ H->wpAny (model X.prog X.w) X.A (exec st X.env) (SP X pins D) X.xe s
noncomputable def PSs (X:Cx) (st:List Stmt) (t:TS):Prop :=
  ∀ (pins:List (Addr × Obj)) (s:Shared) (σ:St) (H:Hp) (D:Ends),Inv X pins σ H s->t D σ H->wpAny (model X.prog X.w) X.A (execs st X.env) (SP X pins D) X.xe s
theorem thn {α:Type} {t:Sem α} {Q Q':α->Shared->Prop} {M:Model} {A:Around} {E:Value->Shared->Prop} {s:Shared} (h:wpAny M A t Q E s) (hQ:∀ a s,Q a s->Q' a s):wpAny M A t Q' E s:=wpAny_mono h hQ fun _ _ x=>x
end L2
namespace L2
open PySem PySem.Spec PyProof.Rows
section
variable {X:Cx}
theorem bin {a b:Expr} {ta tb:TE} (ha:PE X a ta) (hb:PE X b tb) {pins:List (Addr × Obj)} {s:Shared} {σ:St} {H:Hp} {R:V->V->Hp->Prop} (I:Inv X pins σ H s) (h:ta σ H fun x H1=>tb σ H1 fun y H2=>R x y H2)
    {α:Type} {Q:α->Shared->Prop} {f:Value->Value->Sem α}
    (hf:∀ v u s2 x y H2,Inv X pins σ H2 s2->RelV x v->RelV y u->R x y H2->wpAny (model X.prog X.w) X.A (f v u) Q X.xe s2) :
    wpAny (model X.prog X.w) X.A (eval a X.env) (fun v s₁=>wpAny (model X.prog X.w) X.A (eval b X.env) (fun u s₂=>wpAny (model X.prog X.w) X.A (f v u) Q X.xe s₂) X.xe s₁) X.xe s:=by
  refine thn (ha pins s σ H _ I h) fun v s1 ⟨x,H1,I1,r1,q1⟩=>?_
  refine thn (hb pins s1 σ H1 _ I1 q1) fun u s2 ⟨y,H2,I2,r2,q2⟩=>?_
  exact hf v u s2 x y H2 I2 r1 r2 q2
noncomputable def tVar (i:Nat):TE:=fun σ H Q=>∃ v,σ[i]?=some (some v) /\ Q v H
noncomputable def tC (v:V):TE:=fun _ H Q=>Q v H
theorem pe_var {i:Nat} {x:Str} {pos:Pos} (hN:X.N[i]?=some x) (hv:Vis X.env.scope x) (hd:(x == ("__debug__":Str))=false:=by decide) (hcd:(x == ("__classdict__":Str))=false:=by decide):PE X (.Name x pos) (tVar i):=by
  intro pins s σ H Q I h
  obtain ⟨v,e,h⟩:=h
  obtain ⟨m,hn,hl⟩:=I.loc
  obtain ⟨u,r,l⟩:=hl i x v hN e hv
  have fin:EP X pins σ Q u s:=⟨v,H,I,r,h⟩
  rcases l with ⟨hk,hm⟩ | ⟨hk,c,hc,hcell⟩
  · exact wpAny_Name (wpAny_loadName_local I.ok.kind hk hn hm fin) hd
  · rcases hk with hk | hk
    · exact wpAny_Name (wpAny_loadName_cell I.ok.kind hk hc hcell fin) hd
    · exact wpAny_Name (wpAny_loadName_free I.ok.kind hk hc hcell fin hcd) hd
theorem pe_int {i j pos}:PE X (.Constant (.int i) j pos) (tC (.int i)):=fun _ _ _ H _ I h=>wpAny_Constant_int ⟨.int i,H,I.tok _,⟨_,rfl⟩,h⟩
theorem pe_bl {b j pos}:PE X (.Constant (.bool b) j pos) (tC (.bl b)):=fun _ _ _ H _ I h=>Constant_bool ⟨.bl b,H,I,rfl,h⟩
theorem pe_non {j pos}:PE X (.Constant .none j pos) (tC .non):=fun _ _ _ H _ I h=>Constant_none ⟨.non,H,I,rfl,h⟩
theorem pe_str {x j pos}:PE X (.Constant (.str x) j pos) (tC (.str x)):=fun _ _ _ H _ I h=>Calls.Constant_str ⟨.str x,H,I.tok _,⟨_,rfl⟩,h⟩
noncomputable def Gl (X:Cx) (x:Str):Prop:=X.env.kindOf x=some .globalImplicit
theorem ld_glob {E:Value->Shared->Prop} {pins:List (Addr × Obj)} {s:Shared} {σ:St} {H:Hp} {x:Str} {u:Value} {pos:Pos} {Q:Value->Shared->Prop} (I:Inv X pins σ H s) (hg:Gl X x) (hm:X.mg x=some u) (h:Q u s)
    (hd:(x == ("__debug__":Str))=false:=by decide):wpAny (model X.prog X.w) X.A (eval (.Name x pos) X.env) Q E s :=
  Calls.Name_function_global I.ok.kind hg (Calls.loadGlobal_global (by rw [I.ok.glob]; exact I.mod.glob.keeps I.bk) hm h) hd
theorem ld_blt {E:Value->Shared->Prop} {pins:List (Addr × Obj)} {s:Shared} {σ:St} {H:Hp} {x:Str} {u:Value} {pos:Pos} {Q:Value->Shared->Prop} (I:Inv X pins σ H s) (hg:Gl X x) (hm:X.mg x=none) (hv:bootBuiltins x=some u) (h:Q u s)
    (hn:x ≠ "__name__":=by decide) (hd:(x == ("__debug__":Str))=false:=by decide):wpAny (model X.prog X.w) X.A (eval (.Name x pos) X.env) Q E s:=by
  obtain ⟨mb,h1,h2⟩:=I.mod.blt
  exact Calls.Name_function_global I.ok.kind hg (Calls.loadGlobal_builtin (by rw [I.ok.glob]; exact I.mod.glob.keeps I.bk) hm (by rw [I.ok.blt]; exact h1.keeps I.bk) ((h2 x hn).trans hv) h) hd
theorem pe_glob {x:Str} {v:V} {u:Value} {pos:Pos} (hg:Gl X x) (hm:X.mg x=some u) (r:RelV v u) (hd:(x == ("__debug__":Str))=false:=by decide):PE X (.Name x pos) (tC v) :=
  fun _ _ _ H _ I h=>ld_glob I hg hm ⟨v,H,I,r,h⟩ hd
theorem pe_bltn {x:Str} {v:V} {u:Value} {pos:Pos} (hg:Gl X x) (hm:X.mg x=none) (hv:bootBuiltins x=some u) (r:RelV v u) (hn:x ≠ "__name__":=by decide) (hd:(x == ("__debug__":Str))=false:=by decide):PE X (.Name x pos) (tC v) :=
  fun _ _ _ H _ I h=>ld_blt I hg hm hv ⟨v,H,I,r,h⟩ hn hd
variable {a b:Expr} {ta tb:TE} {pos:Pos}
noncomputable def tB (t:TE):TT:=fun σ H Q=>t σ H fun x H1=>∃ c,x=.bl c /\ Q c H1
theorem pt_val {e:Expr} {t:TE} (h:PE X e t) (he:∀ whole,isTrue e X.env whole=(do let v <- whole; standAt e.pos; holding [v] (truthy v)):=by intro _; rfl):PT X e (tB t):=by
  intro pins s σ H Q I hw
  refine isTrue_plain (thn (h pins s σ H _ I hw) fun v s1 ⟨x,H1,I1,r1,q1⟩=>?_) (he _)
  obtain ⟨d,rfl,q⟩:=q1
  cases r1
  exact wpAny_truthy_bool ⟨H1,I1,q⟩
variable {tA tB':TT} {rest:List Expr}
noncomputable def tAnd (t u:TT):TT:=fun σ H Q=>t σ H fun c H1=>if c=true then u σ H1 Q else Q false H1
noncomputable def tOr (t u:TT):TT:=fun σ H Q=>t σ H fun c H1=>if c=true then Q true H1 else u σ H1 Q
noncomputable def tNot (t:TT):TT:=fun σ H Q=>t σ H fun c H1=>Q (!c) H1
theorem pw_and1 (ha:PT X a tA):PW X (.BoolOp .And [a] pos) tA:=by
  intro wh pins s σ H Q I h
  refine isTrue_and (thn (ha pins s σ H Q I h) fun c s1 e=>?_)
  cases c with
  | true=>exact isTrue_and_nil e
  | false=>exact e
theorem pw_or1 (ha:PT X a tA):PW X (.BoolOp .Or [a] pos) tA:=by
  intro wh pins s σ H Q I h
  refine isTrue_or (thn (ha pins s σ H Q I h) fun c s1 e=>?_)
  cases c with
  | false=>exact isTrue_or_nil e
  | true=>exact e
theorem pw_and (ha:PT X a tA) (hb:PW X (.BoolOp .And (b :: rest) pos) tB'):PW X (.BoolOp .And (a :: b :: rest) pos) (tAnd tA tB'):=by
  intro wh pins s σ H Q I h
  refine isTrue_and (thn (ha pins s σ H _ I h) fun c s1 ⟨H1,I1,q1⟩=>?_)
  cases c with
  | true=>exact hb wh pins s1 σ H1 Q I1 q1
  | false=>exact ⟨H1,I1,q1⟩
theorem pw_or (ha:PT X a tA) (hb:PW X (.BoolOp .Or (b :: rest) pos) tB'):PW X (.BoolOp .Or (a :: b :: rest) pos) (tOr tA tB'):=by
  intro wh pins s σ H Q I h
  refine isTrue_or (thn (ha pins s σ H _ I h) fun c s1 ⟨H1,I1,q1⟩=>?_)
  cases c with
  | true=>exact ⟨H1,I1,q1⟩
  | false=>exact hb wh pins s1 σ H1 Q I1 q1
theorem pt_not (ha:PT X a tA):PT X (.UnaryOp .Not a pos) (tNot tA):=by
  intro pins s σ H Q I h
  exact isTrue_not (ha pins s σ H (fun c H1=>Q (!c) H1) I h)
noncomputable def tAndV (ta tb:TE):TE:=fun σ H Q=>ta σ H fun x H1=>∃ c,x=.bl c /\ if c=true then tb σ H1 Q else Q (.bl false) H1
noncomputable def tOrV (ta tb:TE):TE:=fun σ H Q=>ta σ H fun x H1=>∃ c,x=.bl c /\ if c=true then Q (.bl true) H1 else tb σ H1 Q
noncomputable def tNotV (ta:TE):TE:=fun σ H Q=>ta σ H fun x H1=>∃ c,x=.bl c /\ Q (.bl (!c)) H1
theorem pe_one {op} {t:TE} (h:PE X a t):PE X (.BoolOp op [a] pos) t:=fun pins s σ H Q I hw=>BoolOp_one (h pins s σ H Q I hw)
theorem pe_and (ha:PE X a ta) (hb:PE X (.BoolOp .And (b :: rest) pos) tb):PE X (.BoolOp .And (a :: b :: rest) pos) (tAndV ta tb):=by
  intro pins s σ H Q I h
  refine BoolOp_and (thn (ha pins s σ H _ I h) fun v s1 ⟨x,H1,I1,r1,q1⟩=>?_)
  obtain ⟨c,rfl,q1⟩:=q1
  cases r1
  refine wpAny_truthy_bool ?_
  cases c with
  | true=>exact hb pins s1 σ H1 Q I1 q1
  | false=>exact ⟨.bl false,H1,I1,rfl,q1⟩
theorem pe_or (ha:PE X a ta) (hb:PE X (.BoolOp .Or (b :: rest) pos) tb):PE X (.BoolOp .Or (a :: b :: rest) pos) (tOrV ta tb):=by
  intro pins s σ H Q I h
  refine BoolOp_or (thn (ha pins s σ H _ I h) fun v s1 ⟨x,H1,I1,r1,q1⟩=>?_)
  obtain ⟨c,rfl,q1⟩:=q1
  cases r1
  refine wpAny_truthy_bool ?_
  cases c with
  | false=>exact hb pins s1 σ H1 Q I1 q1
  | true=>exact ⟨.bl true,H1,I1,rfl,q1⟩
theorem pe_not (ha:PE X a ta):PE X (.UnaryOp .Not a pos) (tNotV ta):=by
  intro pins s σ H Q I h
  refine UnaryOp_ (thn (ha pins s σ H _ I h) fun v s1 ⟨x,H1,I1,r1,q1⟩=>?_)
  obtain ⟨c,rfl,q1⟩:=q1
  cases r1
  exact not_of (wpAny_truthy_bool ⟨.bl (!c),H1,I1,rfl,q1⟩)
noncomputable def tIf (t:TT) (ta tb:TE):TE:=fun σ H Q=>t σ H fun c H1=>if c=true then ta σ H1 Q else tb σ H1 Q
theorem pe_ifExp {c:Expr} (hc:PT X c tA) (ha:PE X a ta) (hb:PE X b tb):PE X (.IfExp c a b pos) (tIf tA ta tb):=by
  intro pins s σ H Q I h
  refine wpAny_IfExp (thn (hc pins s σ H _ I h) fun d s1 ⟨H1,I1,q1⟩=>?_)
  cases d with
  | true=>exact ha pins s1 σ H1 Q I1 q1
  | false=>exact hb pins s1 σ H1 Q I1 q1
end
end L2
namespace L2
open PySem PySem.Spec PyProof.Rows
noncomputable def SqL (K:PySem.W.Frag) (H:Hp) (a:Addr) (xs:List V):Prop :=
  Rd H a (.lst xs) \/
    ∃ (o:Obj) (its:Array Value) (n:Nat),K.lookup a=some o /\ o.cls=.type "list" /\ o.dict=none /\ o.data=.seq its n /\ its.size<=sizeLine /\ Vals xs its.toList
noncomputable def SqT (K:PySem.W.Frag) (H:Hp) (a:Addr) (xs:List V):Prop :=
  Rd H a (.tup xs) \/
    ∃ (o:Obj) (its:Array Value) (n:Nat),K.lookup a=some o /\ o.cls=.type "tuple" /\ o.data=.seq its n /\ its.size<=sizeLine /\ Vals xs its.toList
noncomputable def absV:Value->Option V
  | .none=>some .non
  | .bool b=>some (.bl b)
  | .int i _=>some (.int i)
  | .str x _=>some (.str x)
  | .bytes b _=>some (.byt b)
  | .float b _=>some (.flt b)
  | .ref a=>some (.ref a)
  | .type n=>some (.ty n)
  | _=>none
theorem RelV.abs {x:V} {u:Value} (r:RelV x u):absV u=some x:=by
  cases x with
  | non=>cases r; rfl
  | bl _=>cases r; rfl
  | int _=>obtain ⟨t,rfl⟩:=r; rfl
  | str _=>obtain ⟨t,rfl⟩:=r; rfl
  | byt _=>obtain ⟨t,rfl⟩:=r; rfl
  | flt _=>obtain ⟨t,rfl⟩:=r; rfl
  | ref _=>cases r; rfl
  | ty _=>cases r; rfl
theorem RelV.inj {x y:V} {u:Value} (r:RelV x u) (q:RelV y u):x=y:=Option.some.inj (r.abs.symm.trans q.abs)
theorem Vals.inj:∀ {xs ys:List V} {us:List Value},Vals xs us->Vals ys us->xs=ys
  | _,_,_,.nil,.nil=>rfl
  | _,_,_,.cons r t,.cons r' t'=>by rw [r.inj r',Vals.inj t t']
section
variable {X:Cx} {pins:List (Addr × Obj)} {σ:St} {H:Hp} {s:Shared} {a:Addr} {xs ys:List V}
theorem SqL.of {K:PySem.W.Frag} (h:H a=some (.lst xs)):SqL K H a xs:=.inl (.inl h)
theorem SqT.of {K:PySem.W.Frag} (h:H a=some (.tup xs)):SqT K H a xs:=.inl (.inl h)
theorem Inv.list (I:Inv X pins σ H s) (h:SqL X.K H a xs):∃ its:List Value,Vals xs its /\ PlainL s.heap a its.toArray /\ xs.length<=sizeLine:=by
  rcases h with h | ⟨o,its,n,hk,hc,hd,hs,hz,r⟩
  · obtain ⟨z,its,n,r,e⟩:=h.ok I.hok
    exact ⟨its,r,⟨_,n,e,rfl,rfl,rfl⟩,z⟩
  · refine ⟨its.toList,r,⟨o,n,I.kIn a o hk,hc,hd,by simpa using hs⟩,?_⟩
    have e:=r.length
    simp only [Array.length_toList] at e
    omega
theorem Inv.tuple (I:Inv X pins σ H s) (h:SqT X.K H a xs):∃ its:List Value,Vals xs its /\ IsTup s.heap a its.toArray /\ xs.length<=sizeLine:=by
  rcases h with h | ⟨o,its,n,hk,hc,hs,hz,r⟩
  · obtain ⟨z,its,r,p⟩:=h.ok I.hok
    exact ⟨its,r,p,z⟩
  · refine ⟨its.toList,r,⟨o,I.kIn a o hk,hc,n,by simpa using hs⟩,?_⟩
    have e:=r.length
    simp only [Array.length_toList] at e
    omega
theorem Inv.list_inj (I:Inv X pins σ H s) (h:SqL X.K H a xs) (h':SqL X.K H a ys):xs=ys:=by
  obtain ⟨its,r,⟨o,n,e,_,_,d⟩,_⟩:=I.list h
  obtain ⟨its',r',⟨o',n',e',_,_,d'⟩,_⟩:=I.list h'
  rw [e] at e'; cases e'
  rw [d] at d'
  injection d' with d1 _
  have:its=its':=by simpa using congrArg Array.toList d1
  subst this
  exact r.inj r'
theorem Inv.tuple_inj (I:Inv X pins σ H s) (h:SqT X.K H a xs) (h':SqT X.K H a ys):xs=ys:=by
  obtain ⟨its,r,⟨o,e,_,n,d⟩,_⟩:=I.tuple h
  obtain ⟨its',r',⟨o',e',_,n',d'⟩,_⟩:=I.tuple h'
  rw [e] at e'; cases e'
  rw [d] at d'
  injection d' with d1 _
  have:its=its':=by simpa using congrArg Array.toList d1
  subst this
  exact r.inj r'
end
noncomputable abbrev Cx.wish (X:Cx) (E:Value->Shared->Prop):Cx:={ X with xe:=E }
noncomputable abbrev Cx.nox (X:Cx):Cx:=X.wish fun _ _=>False
theorem Cx.Ok.wish {X:Cx} (ok:X.Ok) (E:Value->Shared->Prop):(X.wish E).Ok :=
  ⟨ok.mod,ok.kind,ok.glob,ok.blt,ok.above,ok.inj,ok.has,ok.cab,ok.hd,ok.frames,ok.stk,ok.exf,ok.bs,ok.bsz,ok.noex,ok.exfs,ok.funs,ok.frf⟩
theorem Cx.Ok.unwish {X:Cx} {E:Value->Shared->Prop} (ok:(X.wish E).Ok):X.Ok :=
  ⟨ok.mod,ok.kind,ok.glob,ok.blt,ok.above,ok.inj,ok.has,ok.cab,ok.hd,ok.frames,ok.stk,ok.exf,ok.bs,ok.bsz,ok.noex,ok.exfs,ok.funs,ok.frf⟩
section
variable {X:Cx} {pins:List (Addr × Obj)} {σ:St} {H:Hp} {s:Shared} {E:Value->Shared->Prop}
theorem Inv.wish (I:Inv X pins σ H s) (E:Value->Shared->Prop):Inv (X.wish E) pins σ H s:=⟨I.ok.wish E,I.os,I.bare,I.base,I.loc,I.cell,I.free,I.freeC,I.pin,I.hok,I.len⟩
theorem Inv.unwish (I:Inv (X.wish E) pins σ H s):Inv X pins σ H s:=⟨I.ok.unwish,I.os,I.bare,I.base,I.loc,I.cell,I.free,I.freeC,I.pin,I.hok,I.len⟩
theorem SP.unwish {D:Ends} {f:Flow} {s':Shared} (h:SP (X.wish E) pins D f s'):SP X pins D f s':=by
  cases f with
  | next=>obtain ⟨σ',H',I,q⟩:=h; exact ⟨σ',H',I.unwish,q⟩
  | brk=>obtain ⟨σ',H',I,q⟩:=h; exact ⟨σ',H',I.unwish,q⟩
  | cont=>obtain ⟨σ',H',I,q⟩:=h; exact ⟨σ',H',I.unwish,q⟩
  | ret u=>obtain ⟨v,σ',H',I,r,q⟩:=h; exact ⟨v,σ',H',I.unwish,r,q⟩
end
section
variable {X:Cx} {st:Stmt} {rest:List Stmt} {t u:TS} {e:Expr} {te:TE} {pos:Pos}
noncomputable def tNext:TS:=fun D σ H=>D.nx σ H
noncomputable def tSeq (t u:TS):TS:=fun D σ H=>t { D with nx:=u D } σ H
theorem pss_nil:PSs X [] tNext:=fun _ _ σ H _ I h=>wpAny_execs_nil ⟨σ,H,I,h⟩
theorem pss_cons (h1:PS X st t) (h2:PSs X rest u):PSs X (st :: rest) (tSeq t u):=by
  intro pins s σ H D I h
  refine wpAny_execs_cons (thn (h1 pins s σ H { D with nx:=u D } I h) fun f s1 q=>?_)
  cases f with
  | next =>
    obtain ⟨σ',H',I',q⟩:=q
    exact h2 pins s1 σ' H' D I' q
  | ret v=>exact q
  | brk=>exact q
  | cont=>exact q
theorem Inv.quiet {pins:List (Addr × Obj)} {σ:St} {H:Hp} {s:Shared} (I:Inv X pins σ H s):interactive X.env=false:=by simp [interactive,I.ok.kind]
noncomputable def tDrop (te:TE):TS:=fun D σ H=>te σ H fun _ H1=>D.nx σ H1
theorem ps_expr (he:PE X e te) (hs:swapsWith e none pos.line X.env=pure false:=by rfl):PS X (.Expr e pos) (tDrop te):=by
  intro pins s σ H D I h
  exact wpAny_Expr_any (thn (he pins s σ H _ I h) fun v s1 ⟨x,H1,I1,r1,q1⟩=>⟨σ,H1,I1,q1⟩) I.quiet hs
noncomputable def tRet (te:TE):TS:=fun D σ H=>te σ H D.rt
theorem ps_ret (he:PE X e te):PS X (.Return (some e) pos) (tRet te):=by
  intro pins s σ H D I h
  exact wpAny_Return_some (thn (he pins s σ H _ I h) fun v s1 ⟨x,H1,I1,r1,q1⟩=>⟨x,σ,H1,I1,r1,q1⟩)
noncomputable def tIfS (c:TT) (t u:TS):TS:=fun D σ H=>c σ H fun b H1=>if b=true then t D σ H1 else u D σ H1
theorem ps_if {c:Expr} {a b:List Stmt} {tc:TT} (hc:PT X c tc) (ha:PSs X a t) (hb:PSs X b u):PS X (.If c a b pos) (tIfS tc t u):=by
  intro pins s σ H D I h
  refine wpAny_If (thn (hc pins s σ H _ I h) fun d s1 ⟨H1,I1,q1⟩=>?_)
  cases d with
  | true=>exact ha pins s1 σ H1 D I1 q1
  | false=>exact hb pins s1 σ H1 D I1 q1
end
noncomputable abbrev TG:=V->St->Hp->(St->Hp->Prop)->Prop
noncomputable abbrev TGs:=List V->St->Hp->(St->Hp->Prop)->Prop
noncomputable def PG (X:Cx) (target:Expr) (t:TG):Prop :=
  ∀ (pins:List (Addr × Obj)) (s:Shared) (σ:St) (H:Hp) (v:V) (u:Value) (Q:St->Hp->Prop),Inv X pins σ H s->RelV v u->t v σ H Q ->
    wpAny (model X.prog X.w) X.A (assign target X.env u) (fun _ s'=>∃ σ' H',Inv X pins σ' H' s' /\ Q σ' H') X.xe s
noncomputable def PGs (X:Cx) (ts:List Expr) (t:TGs):Prop :=
  ∀ (pins:List (Addr × Obj)) (s:Shared) (σ:St) (H:Hp) (vs:List V) (us:List Value) (Q:St->Hp->Prop),Inv X pins σ H s->Vals vs us->t vs σ H Q ->
    wpAny (model X.prog X.w) X.A (assignInOrder ((assignEach ts X.env).map (·.2)) us) (fun _ s'=>∃ σ' H',Inv X pins σ' H' s' /\ Q σ' H') X.xe s
section
variable {X:Cx} {pos:Pos}
noncomputable def gName (i:Nat):TG:=fun v σ H Q=>Q (σ.set i (some v)) H
theorem pg_name {i:Nat} {x:Str} (hN:X.N.Nodup) (hi:X.N[i]?=some x) (hx:Loc X.env.scope x) (hf:X.fn x=true \/ X.env.scope.names.lookup x=some .local:=by first | exact .inl rfl | exact .inr rfl | assumption):PG X (.Name x pos) (gName i):=by
  intro pins s σ H v u Q I r h
  exact wpAny_assign_Name (store_ok I hN hi hx r (fun s' I'=>⟨_,H,I',h⟩) hf)
noncomputable def gNil:TGs:=fun vs σ H Q=>vs=[] /\ Q σ H
noncomputable def gCons (t:TG) (u:TGs):TGs:=fun vs σ H Q=>∃ v r,vs=v :: r /\ t v σ H fun σ' H'=>u r σ' H' Q
theorem pgs_nil:PGs X [] gNil:=by
  intro pins s σ H vs us Q I r h
  obtain ⟨e,h⟩:=h
  subst e
  cases r
  exact assignInOrder_nil ⟨σ,H,I,h⟩
theorem pgs_cons {e:Expr} {es:List Expr} {t:TG} {u:TGs} (h1:PG X e t) (h2:PGs X es u)
    (hs:(assignEach (e :: es) X.env).map (·.2)=assign e X.env :: (assignEach es X.env).map (·.2):=by rfl):PGs X (e :: es) (gCons t u):=by
  intro pins s σ H vs us Q I r h
  obtain ⟨v,vr,e1,h⟩:=h
  subst e1
  cases r with
  | cons r rr =>
    rw [hs]
    refine assignInOrder_cons (thn (h1 pins s σ H _ _ _ I r h) fun _ s1 ⟨σ1,H1,I1,q1⟩=>?_)
    exact h2 pins s1 σ1 H1 _ _ Q I1 rr q1
noncomputable def gTup (K:PySem.W.Frag) (n:Nat) (t:TGs):TG:=fun v σ H Q=>∃ a xs,v=.ref a /\ SqT K H a xs /\ xs.length=n /\ t xs σ H Q
theorem pg_tup {es:List Expr} {k:Nat} {t:TGs} {n:Nat} (hc:X.calm=true) (h:PGs X es t)
    (hn:(assignEach es X.env).length=n:=by rfl) (hst:(assignEach es X.env).findIdx? (·.1)=none:=by rfl):PG X (.Tuple es k pos) (gTup X.K n t):=by
  intro pins s σ H v u Q I r hw
  obtain ⟨a,xs,e1,hq,hl,hw⟩:=hw
  subst e1
  cases r
  obtain ⟨its,rv,ht,hz⟩:=I.tuple hq
  refine assign_Tuple_tuple (I.ok.hd hc) ht (by simp [hn,<- hl,rv.length]) hst fun h' hx=>?_
  have I1:Inv X pins σ H { s with heap:=h' }:=I.kept (t':=s.toks) fun b o e=>hx b o (Nat.ne_of_lt (Heap.lt_size e)) e
  exact h pins _ σ H xs _ Q I1 (by simpa using rv) hw
noncomputable def tAsg (te:TE) (g:TG):TS:=fun D σ H=>te σ H fun x H1=>g x σ H1 D.nx
theorem ps_set {i:Nat} {x:Str} {e:Expr} {te:TE} {pos':Pos} (hN:X.N.Nodup) (hi:X.N[i]?=some x) (hx:Loc X.env.scope x) (he:PE X e te) (hs:swapsWith e (some (.Name x pos')) pos.line X.env=pure false:=by rfl) (hf:X.fn x=true \/ X.env.scope.names.lookup x=some .local:=by first | exact .inl rfl | exact .inr rfl | assumption) :
    PS X (.Assign [.Name x pos'] e pos) (tAsg te (gName i)):=by
  intro pins s σ H D I h
  refine wpAny_Assign_Name (thn (he pins s σ H _ I h) fun v s1 ⟨y,H1,I1,r1,q1⟩=>?_) hs
  exact store_ok I1 hN hi hx r1 (fun s2 I2=>⟨_,H1,I2,q1⟩) hf
end
section
variable {X:Cx} {pos:Pos}
end
structure It where
  go:Nat->Hp->Prop
  yld:Nat->Hp->V->Hp->Prop
  stop:Nat->Hp->Prop
noncomputable def FpOk (X:Cx) (pins:List (Addr × Obj)) (H:Hp) (b:Addr):Prop :=
  H b=none /\ b ≠ X.env.locals /\ b ∉ X.fs /\ (b ∈ X.ex \/ X.s₀.heap.objs.size<=b) /\ (∀ x c,X.env.cells.lookup x=some c->c ≠ b) /\ ∀ p ∈ X.pn ++ pins,p.1 ≠ b
theorem Inv.fpOk {X:Cx} {pins:List (Addr × Obj)} {σ:St} {H H':Hp} {s:Shared} {b:Addr} (I:Inv X pins σ H s) (hb:s.heap.objs.size<=b) (hn:H' b=none):FpOk X pins H' b:=by
  refine ⟨hn,Nat.ne_of_gt (Nat.lt_of_lt_of_le I.lt hb),I.nofs hb,.inr (Nat.le_trans I.sz hb),fun x c e z=>?_,fun p hp z=>?_⟩
  · obtain ⟨v,q⟩:=I.cell x c e
    exact absurd (Nat.lt_of_lt_of_le q.lt (by rw [z]; exact hb)) (Nat.lt_irrefl _)
  · exact absurd (Nat.lt_of_lt_of_le (Heap.lt_size (I.pin p hp).1) (by rw [z]; exact hb)) (Nat.lt_irrefl _)
structure Turn (P:Program) (w:World) (K:PySem.W.Frag) (tg:Expr) (J:It) (fp:List Addr) (it:Addr) (tn:Nat->Heap->Prop):Prop where
  mem:it ∈ fp
  obj:∀ i h,tn i h->∀ b ∈ fp,∃ o,h.get? b=some o /\ ∀ v,o.data ≠ .cell v
  keep:∀ i h h',tn i h->(∀ b ∈ fp,∀ o,h.get? b=some o->h'.get? b=some o)->tn i h'
  item:∀ (X:Cx),X.prog=P->X.w=w->X.K=K->X.calm=true->∀ (i:Nat) (pins:List (Addr × Obj)) (s:Shared) (σ:St) (H:Hp) (E:Value->Shared->Prop),Inv X pins σ H s->(∀ b ∈ fp,FpOk X pins H b)->tn i s.heap->J.go i H ->
    wpAny (model P w) X.A (pyNext (.ref it)) (fun r s1=>∃ u,r=some u /\
      wpAny (model P w) X.A (letOwnedTupleGo tg (.ref it) u) (fun _ s2=>∃ x H',Inv X pins σ H' s2 /\ RelV x u /\ J.yld i H x H' /\ tn (i + 1) s2.heap /\ ∀ b ∈ fp,H' b=none) E s1) E s
  done:∀ (X:Cx),X.prog=P->X.w=w->X.K=K->X.calm=true->∀ (i:Nat) (pins:List (Addr × Obj)) (s:Shared) (σ:St) (H:Hp) (E:Value->Shared->Prop),Inv X pins σ H s->(∀ b ∈ fp,FpOk X pins H b)->tn i s.heap->J.stop i H ->
    wpAny (model P w) X.A (pyNext (.ref it)) (fun r s1=>r=none /\ Inv X pins σ H s1) E s
  self:∀ (A:Around) (i:Nat) (s:Shared) (Q:Value->Shared->Prop) (E:Value->Shared->Prop),tn i s.heap->Q (.ref it) s->wpAny (model P w) A (pyIter (.ref it)) Q E s
noncomputable abbrev TI:=St->Hp->(It->Hp->Prop)->Prop
noncomputable def PIE (X:Cx) (pins:List (Addr × Obj)) (σ:St) (tg:Expr) (R:It->Hp->Prop) (itv:Value) (s2:Shared):Prop :=
  ∃ (it:Addr) (fp:List Addr) (tn:Nat->Heap->Prop) (J:It) (H':Hp),itv=.ref it /\ Inv X pins σ H' s2 /\ Turn X.prog X.w X.K tg J fp it tn /\ tn 0 s2.heap /\ (∀ b ∈ fp,FpOk X pins H' b) /\ R J H'
noncomputable def PI (X:Cx) (tg iter:Expr) (wi:TI):Prop :=
  ∀ (pins:List (Addr × Obj)) (s:Shared) (σ:St) (H:Hp) (R:It->Hp->Prop),Inv X pins σ H s->wi σ H R ->
    wpAny (model X.prog X.w) X.A (eval iter X.env) (fun v s1=>wpAny (model X.prog X.w) X.A (pyIter v) (PIE X pins σ tg R) X.xe s1) X.xe s
theorem go_of {M:Model} {A:Around} {E:Value->Shared->Prop} {s:Shared} {tg:Expr} {it:Addr} {u:Value} {o:Obj} {n:String} {vs:Array Value} {Q:Unit->Shared->Prop} (ho:s.heap.get? it=some o) (hc:o.cls=.type n) (hd:o.data=.fields vs)
    (hn:["enumerate","zip","dict_itemiterator","dict_reverseitemiterator","odict_iterator","itertools.zip_longest","itertools.pairwise"].contains n=false) (hQ:Q () s):wpAny M A (letOwnedTupleGo tg (.ref it) u) Q E s:=by
  unfold letOwnedTupleGo
  cases tg <;> first
    | exact wpAny_pure hQ
    | (cases u <;> first
        | exact wpAny_pure hQ
        | (refine wpAny_bind (wpAny_load ho ?_)
           rw [hc,hd]
           show wpAny M A (if (["enumerate","zip","dict_itemiterator","dict_reverseitemiterator","odict_iterator","itertools.zip_longest","itertools.pairwise"].contains n && vs[0]? == some (rawInt _))=true then _ else _) Q E s
           rw [if_neg (by intro h; rw [hn,Bool.false_and] at h; cases h)]
           exact wpAny_pure hQ))
noncomputable def Itl (K:PySem.W.Frag) (a:Addr):It :=
  ⟨fun i H=>∃ xs x,SqL K H a xs /\ xs[i]?=some x,fun i H x H'=>H'=H /\ ∀ xs,SqL K H a xs->xs[i]?=some x,fun i H=>∃ xs,SqL K H a xs /\ xs.length<=i⟩
noncomputable def Itt (K:PySem.W.Frag) (a:Addr):It :=
  ⟨fun i H=>∃ xs x,SqT K H a xs /\ xs[i]?=some x,fun i H x H'=>H'=H /\ ∀ xs,SqT K H a xs->xs[i]?=some x,fun i H=>∃ xs,SqT K H a xs /\ xs.length<=i⟩
noncomputable def Itr (lo:Int) (n:Nat):It:=⟨fun i _=>i < n,fun i H x H'=>H'=H /\ x=.int (lo + i),fun i _=>n<=i⟩
theorem turn_list {P:Program} {w:World} {K:PySem.W.Frag} {tg:Expr} (a it:Addr):Turn P w K tg (Itl K a) [it] it (fun i h=>h.IsListIter it a i) where
  mem:=by simp
  obj:=fun i h st b hb=>by
    have e:b=it:=by simpa using hb
    subst e
    obtain ⟨o,e,c,d⟩:=st
    exact ⟨o,e,fun v z=>by rw [d] at z; cases z⟩
  keep:=fun i h h' st k=>st.at fun o e=>k it (by simp) o e
  item:=by
    intro X hP hw hK hc i pins s σ H E I hf st hg
    subst hP hw hK
    obtain ⟨xs,x,hq,hx⟩:=hg
    obtain ⟨its,rv,p,hz⟩:=I.list hq
    obtain ⟨u,hu,ru⟩:=rv.get hx
    obtain ⟨f0,f1,f2,f3,f4,f5⟩:=hf it (by simp)
    refine wpAny_pyNext_list_item st p.isList (x:=u) (by simpa using hu) fun h' st' sb=>?_
    have I1:Inv X pins σ H { s with heap:=h' }:=I.turned (t':=s.toks) (fun b o hb e=>(sb.2 b hb).trans e) f0 f1 f3 f4 f5
    obtain ⟨o,e,c,d⟩:=id st'
    exact ⟨u,rfl,go_of (s:={ s with heap:=h' }) e c d (by decide) ⟨x,H,I1,ru,⟨rfl,fun ys hy=>by rw [I.list_inj hy hq]; exact hx⟩,st',fun b hb=>(hf b hb).1⟩⟩
  done:=by
    intro X hP hw hK hc i pins s σ H E I hf st hg
    subst hP hw hK
    obtain ⟨xs,hq,hx⟩:=hg
    obtain ⟨its,rv,p,hz⟩:=I.list hq
    obtain ⟨f0,f1,f2,f3,f4,f5⟩:=hf it (by simp)
    have hl:=rv.length
    exact wpAny_pyNext_list_end (I.ok.hd hc) st p.isList (by simp; omega) fun h' eb=>⟨rfl,I.turned (t':=s.toks) (fun b o hb e=>eb b o hb e) f0 f1 f3 f4 f5⟩
  self:=fun _ _ _ _ _ st h=>wpAny_pyIter_listiter st h
theorem turn_tuple {P:Program} {w:World} {K:PySem.W.Frag} {tg:Expr} (a it:Addr):Turn P w K tg (Itt K a) [it] it (fun i h=>h.IsTupleIter it a i) where
  mem:=by simp
  obj:=fun i h st b hb=>by
    have e:b=it:=by simpa using hb
    subst e
    obtain ⟨o,e,c,d⟩:=st
    exact ⟨o,e,fun v z=>by rw [d] at z; cases z⟩
  keep:=fun i h h' st k=>st.at fun o e=>k it (by simp) o e
  item:=by
    intro X hP hw hK hc i pins s σ H E I hf st hg
    subst hP hw hK
    obtain ⟨xs,x,hq,hx⟩:=hg
    obtain ⟨its,rv,p,hz⟩:=I.tuple hq
    obtain ⟨u,hu,ru⟩:=rv.get hx
    obtain ⟨f0,f1,f2,f3,f4,f5⟩:=hf it (by simp)
    refine wpAny_pyNext_tuple_item st (show s.heap.IsTuple a its.toArray from p) (x:=u) (by simpa using hu) fun h' st' sb=>?_
    have I1:Inv X pins σ H { s with heap:=h' }:=I.turned (t':=s.toks) (fun b o hb e=>(sb.2 b hb).trans e) f0 f1 f3 f4 f5
    obtain ⟨o,e,c,d⟩:=id st'
    exact ⟨u,rfl,go_of (s:={ s with heap:=h' }) e c d (by decide) ⟨x,H,I1,ru,⟨rfl,fun ys hy=>by rw [I.tuple_inj hy hq]; exact hx⟩,st',fun b hb=>(hf b hb).1⟩⟩
  done:=by
    intro X hP hw hK hc i pins s σ H E I hf st hg
    subst hP hw hK
    obtain ⟨xs,hq,hx⟩:=hg
    obtain ⟨its,rv,p,hz⟩:=I.tuple hq
    obtain ⟨f0,f1,f2,f3,f4,f5⟩:=hf it (by simp)
    have hl:=rv.length
    exact wpAny_pyNext_tuple_end (I.ok.hd hc) st (show s.heap.IsTuple a its.toArray from p) (by simp; omega) fun h' eb=>⟨rfl,I.turned (t':=s.toks) (fun b o hb e=>eb b o hb e) f0 f1 f3 f4 f5⟩
  self:=fun _ _ _ _ _ st h=>wpAny_pyIter_tupleiter st h
theorem turn_range {P:Program} {w:World} {K:PySem.W.Frag} {tg:Expr} (it:Addr) (lo:Int) (n:Nat):Turn P w K tg (Itr lo n) [it] it (fun i h=>IsRangeIter h it (lo + (i:Nat) * 1) ((n:Int) - (i:Nat)) 1) where
  mem:=by simp
  obj:=fun i h st b hb=>by
    have e:b=it:=by simpa using hb
    subst e
    exact ⟨_,st,fun v z=>by
      have z':Data.fields _=Data.cell v:=z
      cases z'⟩
  keep:=fun i h h' st k=>k it (by simp) _ st
  item:=by
    intro X hP hw hK hc i pins s σ H E I hf st hg
    subst hP hw hK
    obtain ⟨f0,f1,f2,f3,f4,f5⟩:=hf it (by simp)
    have W:=Walks.range (prog:=X.prog) (w:=X.w) (I.ok.hd hc) it lo 1 n
    refine W.item i s _ _ hg st fun v h' tk hv st' kk=>?_
    obtain ⟨t,rfl⟩:=hv
    have I1:Inv X pins σ H { s with heap:=h',toks:=tk }:=I.turned (fun b o hb e=>kk b o (by simpa using hb) e) f0 f1 f3 f4 f5
    refine ⟨_,rfl,go_of (s:={ s with heap:=h',toks:=tk }) (n:="range_iterator") st' rfl rfl (by decide) ⟨.int (lo + i),H,I1,⟨t,?_⟩,⟨rfl,rfl⟩,st',fun b hb=>(hf b hb).1⟩⟩
    rw [Int.mul_one]
  done:=by
    intro X hP hw hK hc i pins s σ H E I hf st hg
    subst hP hw hK
    obtain ⟨f0,f1,f2,f3,f4,f5⟩:=hf it (by simp)
    exact wpAny_pyNext_range_end (I.ok.hd hc) st (by have:n<=i:=hg; omega) fun h' eb=>⟨rfl,I.turned (t':=s.toks) (fun b o hb e=>eb b o hb e) f0 f1 f3 f4 f5⟩
  self:=fun _ _ _ _ _ st h=>wpAny_pyIter_rangeiter st h
end L2
namespace L2
open PySem PySem.Spec PyProof.Rows
section
variable {X:Cx} {tg:Expr}
noncomputable def iList (K:PySem.W.Frag) (tl:TE):TI:=fun σ H R=>tl σ H fun x H1=>∃ a,x=.ref a /\ (∃ xs,SqL K H1 a xs) /\ R (Itl K a) H1
theorem pi_list {l:Expr} {tl:TE} (hl:PE X l tl):PI X tg l (iList X.K tl):=by
  intro pins s σ H R I h
  refine thn (hl pins s σ H _ I h) fun v s1 ⟨x,H1,I1,r1,q1⟩=>?_
  obtain ⟨a,e,⟨xs,hq⟩,q⟩:=q1
  subst e
  cases r1
  obtain ⟨its,rv,p,hz⟩:=I1.list hq
  refine wpAny_pyIter_list p.isList ?_
  refine ⟨s1.heap.objs.size,[s1.heap.objs.size],_,_,H1,rfl,I1.kept (t':=s1.toks) fun b o e=>Heap.get?_push_of_some _ e,turn_list a _,⟨_,Heap.get?_push_size _ rfl,rfl,rfl⟩,fun b hb=>?_,q⟩
  have e:b=s1.heap.objs.size:=by simpa using hb
  subst e
  exact I1.fpOk (Nat.le_refl _) (I1.hok.fresh (Nat.le_refl _))
theorem range_it {pins:List (Addr × Obj)} {σ:St} {H:Hp} {s:Shared} {R:It->Hp->Prop} {E:Value->Shared->Prop} {lo hi:Int} {t u v:Tok} {tk:Nat} (I:Inv X pins σ H s) (h1:-(2 ^ 62)<=lo) (h2:lo < 2 ^ 62) (h3:-(2 ^ 62)<=hi) (h4:hi < 2 ^ 62)
    (q:R (Itr lo (hi - lo).toNat) H):wpAny (model X.prog X.w) X.A (pyIter (.ref s.heap.objs.size)) (PIE X pins σ tg R) E { s with heap:=s.heap.push { cls:=.type "range",data:=.fields #[.int lo t,.int hi u,.int 1 v] },toks:=tk }:=by
  refine wpAny_pyIter_range (IsRange.new ..) (small_one h1 h2 h3 h4) ?_
  have I1:Inv X pins σ H { s with heap:=s.heap.push { cls:=.type "range",data:=.fields #[.int lo t,.int hi u,.int 1 v] },toks:=tk }:=I.kept fun b o e=>Heap.get?_push_of_some _ e
  refine ⟨(s.heap.push { cls:=.type "range",data:=.fields #[.int lo t,.int hi u,.int 1 v] }).objs.size,[(s.heap.push { cls:=.type "range",data:=.fields #[.int lo t,.int hi u,.int 1 v] }).objs.size],_,_,H,rfl,
    I1.kept (t':=tk) fun b o e=>Heap.get?_push_of_some _ e,turn_range _ lo (hi - lo).toNat,?_,fun b hb=>?_,q⟩
  · have e1:lo + ((0:Nat):Int) * 1=lo:=by simp
    have e2:(((hi - lo).toNat:Nat):Int) - ((0:Nat):Int)=Builtin.Range.rangeSize lo hi 1:=by rw [rangeSize_one]; split <;> omega
    show IsRangeIter _ _ (lo + ((0:Nat):Int) * 1) ((((hi - lo).toNat:Nat):Int) - ((0:Nat):Int)) 1
    rw [e1,e2]
    exact Heap.get?_push_size _ rfl
  · have e:b=(s.heap.push { cls:=.type "range",data:=.fields #[.int lo t,.int hi u,.int 1 v] }).objs.size:=by simpa using hb
    subst e
    exact I1.fpOk (Nat.le_refl _) (I1.hok.fresh (Nat.le_refl _))
noncomputable def iRng1 (ta:TA):TI:=fun σ H R=>ta σ H fun vs H1=>∃ j:Int,vs=[.int j] /\ -(2 ^ 62)<=j /\ j < 2 ^ 62 /\ R (Itr 0 j.toNat) H1
theorem pi_range1 {a:Expr} {ta:TA} {p pos:Pos} (hg:Gl X "range") (hm:X.mg "range"=none) (ha:PA X [a] ta) (hs:starEach [a] X.env=[(false,eval a X.env)]:=by rfl):PI X tg (.Call (.Name "range" p) [a] [] pos) (iRng1 ta):=by
  intro pins s σ H R I h
  refine Call_ (ld_blt I hg hm boot_range (PyProof.Rows.callWith_type1 (thn (ha pos pins s σ H _ I h) fun us s1 ⟨vs,H1,I1,r1,q1⟩=>?_) hs rfl))
  obtain ⟨j,e,q1,q2,q⟩:=q1
  subst e
  cases r1 with
  | cons r rr =>
    cases rr
    obtain ⟨t,rfl⟩:=r
    exact call_range_1 (range_it I1 (by omega) (by omega) q1 q2 (by simpa using q))
noncomputable def tFor (wi:TI) (g:TG) (tb:TS):TS:=fun D σ H=>wi σ H fun J H1=>∃ W:Nat->Nat->St->Hp->Prop,(∃ m,W 0 m σ H1) /\ ∀ i m σ H,W i m σ H ->
  (J.stop i H /\ D.nx σ H) \/ (J.go i H /\ ∃ N:St->Hp->Prop,(∀ σ' H',N σ' H'->∃ m',m' < m /\ W (i + 1) m' σ' H') /\ ∀ x H',J.yld i H x H'->g x σ H' fun σ2 H2=>tb { D with nx:=N,ct:=N,bk:=D.nx } σ2 H2)
noncomputable def pinsAt (fp:List Addr) (h:Heap):List (Addr × Obj):=fp.filterMap fun b=>(h.get? b).map fun o=>(b,o)
theorem mem_pinsAt {fp:List Addr} {h:Heap} {b:Addr} {o:Obj} (hb:b ∈ fp) (e:h.get? b=some o):(b,o) ∈ pinsAt fp h:=List.mem_filterMap.mpr ⟨b,hb,by rw [e]; rfl⟩
theorem of_pinsAt {fp:List Addr} {h:Heap} {p:Addr × Obj} (hp:p ∈ pinsAt fp h):p.1 ∈ fp /\ h.get? p.1=some p.2:=by
  obtain ⟨b,hb,e⟩:=List.mem_filterMap.mp hp
  cases q:h.get? b with
  | none=>rw [q] at e; cases e
  | some o =>
    rw [q] at e
    have e':(b,o)=p:=Option.some.inj e
    subst e'
    exact ⟨hb,q⟩
theorem Inv.pinned {pins:List (Addr × Obj)} {σ:St} {H:Hp} {s:Shared} {fp:List Addr} (I:Inv X pins σ H s) (hf:∀ b ∈ fp,FpOk X pins H b) (ho:∀ b ∈ fp,∃ o,s.heap.get? b=some o /\ ∀ v,o.data ≠ .cell v):Inv X (pins ++ pinsAt fp s.heap) σ H s :=
  I.pins_of fun p hp=>(List.mem_append.mp hp).elim (fun z=>I.pin p (List.mem_append_right _ z)) fun z=>by
    obtain ⟨hb,e⟩:=of_pinsAt z
    obtain ⟨f0,f1,f2,_⟩:=hf p.1 hb
    obtain ⟨o,e',d⟩:=ho p.1 hb
    rw [e] at e'; cases e'
    exact ⟨e,f0,f1,f2,d⟩
theorem Inv.unpinned {pins pl:List (Addr × Obj)} {σ:St} {H:Hp} {s:Shared} (I:Inv X (pins ++ pl) σ H s):Inv X pins σ H s:=I.pins_of fun p hp=>I.pin p (List.mem_append_right _ (List.mem_append_left _ hp))
theorem ps_for {iter:Expr} {body:List Stmt} {wi:TI} {g:TG} {tb:TS} {pos:Pos} (hp:PassesOwn (model X.prog X.w) X.A X.env X.xe) (hc:X.calm=true) (hi:PI X tg iter wi) (hg:PG X tg g) (hb:PSs X body tb)
    (hs:∀ x,foldedSetIterable iter X.env x=pure x:=by intro _; rfl):PS X (.For tg iter body [] pos) (tFor wi g tb):=by
  intro pins s σ H D I h
  refine wpAny_For (thn (hi pins s σ H _ I h) fun v s1 h1=>thn h1 fun itv s2 h2=>?_) hs
  obtain ⟨it,fp,tn,J,H2,e,I2,T,st2,f2,W,⟨m0,w0⟩,turn⟩:=h2
  subst e
  have stat:∀ {H':Hp},(∀ b ∈ fp,H' b=none)->∀ b ∈ fp,FpOk X pins H' b:=fun hn b hb=>⟨hn b hb,(f2 b hb).2⟩
  refine codeAny_forLoop_any (fun n s'=>∃ i σ' H',Inv X pins σ' H' s' /\ tn i s'.heap /\ (∀ b ∈ fp,H' b=none) /\ W i n σ' H') ?_ m0 ⟨0,σ,H2,I2,st2,fun b hb=>(f2 b hb).1,w0⟩
  rintro n s3 ⟨i,σ3,H3,I3,st3,fr3,w3⟩
  rcases turn i n σ3 H3 w3 with ⟨stop,qn⟩ | ⟨go,N,hN,step⟩
  · refine wpAny_passesOwn hp (thn (T.done X rfl rfl rfl hc i pins s3 σ3 H3 X.xe I3 (stat fr3) st3 stop) fun r s4 ⟨hr,I4⟩=>?_)
    subst hr
    exact wpAny_execs_nil ⟨σ3,H3,I4,qn⟩
  · refine wpAny_passesOwn hp (thn (T.item X rfl rfl rfl hc i pins s3 σ3 H3 X.xe I3 (stat fr3) st3 go) fun r s4 ⟨u,hr,h4⟩=>?_)
    subst hr
    refine wpAny_passesOwn hp (thn h4 fun _ s5 ⟨x,H5,I5,r5,y5,st5,fr5⟩=>?_)
    have I5':=I5.pinned (stat fr5) (T.obj _ _ st5)
    refine wpAny_passesOwn hp (thn (hg _ s5 σ3 H5 x u _ I5' r5 (step x H5 y5)) fun _ s6 ⟨σ6,H6,I6,q6⟩=>?_)
    refine wpAny_passesOwn hp (thn (hb _ s6 σ6 H6 _ I6 q6) fun f s7 q7=>?_)
    have again:∀ {σ7:St} {H7:Hp},Inv X (pins ++ pinsAt fp s5.heap) σ7 H7 s7->N σ7 H7->∃ m,m < n /\ ∃ i σ' H',Inv X pins σ' H' s7 /\ tn i s7.heap /\ (∀ b ∈ fp,H' b=none) /\ W i m σ' H':=fun {σ7 H7} I7 n7=>by
      obtain ⟨m',hm,w7⟩:=hN σ7 H7 n7
      refine ⟨m',hm,i + 1,σ7,H7,I7.unpinned,T.keep _ _ _ st5 fun b hb o e=>(I7.pin (b,o) (List.mem_append_right _ (List.mem_append_right _ (mem_pinsAt hb e)))).1,fun b hb=>?_,w7⟩
      obtain ⟨o,e,d⟩:=T.obj _ _ st5 b hb
      exact (I7.pin (b,o) (List.mem_append_right _ (List.mem_append_right _ (mem_pinsAt hb e)))).2.1
    cases f with
    | next=>obtain ⟨σ7,H7,I7,n7⟩:=q7; exact again I7 n7
    | cont=>obtain ⟨σ7,H7,I7,n7⟩:=q7; exact again I7 n7
    | brk=>obtain ⟨σ7,H7,I7,q7⟩:=q7; exact ⟨σ7,H7,I7.unpinned,q7⟩
    | ret v=>obtain ⟨x7,σ7,H7,I7,r7,q7⟩:=q7; exact ⟨x7,σ7,H7,I7.unpinned,r7,q7⟩
end
end L2
namespace L2
open PySem PySem.Spec PyProof.Rows
noncomputable abbrev R2:=V->V->Hp->VK->Prop
noncomputable def OpR (X:Cx) (f:Value->Value->Sem Value) (r:R2):Prop :=
  ∀ (pins:List (Addr × Obj)) (s:Shared) (σ:St) (H:Hp) (x y:V) (v u:Value) (Q:VK),Inv X pins σ H s->RelV x v->RelV y u->r x y H Q ->
    wpAny (model X.prog X.w) X.A (f v u) (EP X pins σ Q) X.xe s
noncomputable def UnR (X:Cx) (f:Value->Sem Value) (r:V->Hp->VK->Prop):Prop :=
  ∀ (pins:List (Addr × Obj)) (s:Shared) (σ:St) (H:Hp) (x:V) (v:Value) (Q:VK),Inv X pins σ H s->RelV x v->r x H Q ->
    wpAny (model X.prog X.w) X.A (f v) (EP X pins σ Q) X.xe s
noncomputable def CallR (X:Cx) (f:Value) (r:List V->Hp->VK->Prop):Prop :=
  ∀ (pins:List (Addr × Obj)) (s:Shared) (σ:St) (H:Hp) (xs:List V) (us:List Value) (Q:VK),Inv X pins σ H s->Vals xs us->r xs H Q ->
    wpAny (model X.prog X.w) X.A (call f us) (EP X pins σ Q) X.xe s
noncomputable def tOp (r:R2) (ta tb:TE):TE:=fun σ H Q=>ta σ H fun x H1=>tb σ H1 fun y H2=>r x y H2 Q
noncomputable def tUn (r:V->Hp->VK->Prop) (ta:TE):TE:=fun σ H Q=>ta σ H fun x H1=>r x H1 Q
noncomputable def rI (C:Int->Int->Prop) (g:Int->Int->V):R2:=fun x y H Q=>∃ i j,x=.int i /\ y=.int j /\ C i j /\ Q (g i j) H
noncomputable def rI0 (g:Int->Int->V):R2:=fun x y H Q=>∃ i j,x=.int i /\ y=.int j /\ Q (g i j) H
noncomputable def rU (g:Int->V):V->Hp->VK->Prop:=fun x H Q=>∃ i,x=.int i /\ Q (g i) H
section
variable {X:Cx} {a b c:Expr} {ta tb tc:TE} {pos:Pos}
theorem binT (ha:PE X a ta) (hb:PE X b tb) {pins:List (Addr × Obj)} {s:Shared} {σ:St} {H:Hp} {R:V->V->Hp->Prop} (I:Inv X pins σ H s)
    (h:ta σ H fun x H1=>tb σ H1 fun y H2=>R x y H2) {Q:Value->Shared->Prop} {f:Value->Value->Sem Value}
    (hf:∀ v u s2 x y H2,Inv X pins σ H2 s2->RelV x v->RelV y u->R x y H2->wpAny (model X.prog X.w) X.A (f v u) Q X.xe s2) :
    wpAny (model X.prog X.w) X.A (eval a X.env) (fun v s₁=>wpAny (model X.prog X.w) X.A (eval b X.env) (fun u s₂=>wpAny (model X.prog X.w) X.A (f v u) Q X.xe s₂) X.xe s₁) X.xe s:=by
  refine thn (ha pins s σ H _ I h) fun v s1 ⟨x,H1,I1,r1,q1⟩=>?_
  refine thn (hb pins s1 σ H1 _ I1 q1) fun u s2 ⟨y,H2,I2,r2,q2⟩=>?_
  exact hf v u s2 x y H2 I2 r1 r2 q2
theorem pe_op {op:Operator} {r:R2} (ho:OpR X (binaryOp op) r) (ha:PE X a ta) (hb:PE X b tb):PE X (.BinOp a op b pos) (tOp r ta tb):=by
  intro pins s σ H Q I h
  exact wpAny_BinOp (binT ha hb I h fun v u s2 x y H2 I2 rx ry q=>ho pins s2 σ H2 x y v u Q I2 rx ry q)
theorem pe_un {op:UnaryOp} {r:V->Hp->VK->Prop} (ho:UnR X (unaryOp op) r) (ha:PE X a ta):PE X (.UnaryOp op a pos) (tUn r ta):=by
  intro pins s σ H Q I h
  exact UnaryOp_ (thn (ha pins s σ H _ I h) fun v s1 ⟨x,H1,I1,r1,q1⟩=>ho pins s1 σ H1 x v Q I1 r1 q1)
theorem opI {f:Value->Value->Sem Value} {C:Int->Int->Prop} {g:Int->Int->Int}
    (rule:∀ (i j:Int) (t u:Tok) (s:Shared) (Q:Value->Shared->Prop) (E:Value->Shared->Prop),C i j->Q (.int (g i j) s.toks) { s with toks:=s.toks + 1 }->wpAny (model X.prog X.w) X.A (f (.int i t) (.int j u)) Q E s) :
    OpR X f (rI C fun i j=>.int (g i j)):=by
  intro pins s σ H x y v u Q I rx ry h
  obtain ⟨i,j,rfl,rfl,hc,q⟩:=h
  obtain ⟨t,rfl⟩:=rx
  obtain ⟨t',rfl⟩:=ry
  exact rule i j t t' s _ _ hc ⟨.int (g i j),H,I.tok _,⟨_,rfl⟩,q⟩
theorem opI0 {f:Value->Value->Sem Value} {g:Int->Int->Int}
    (rule:∀ (i j:Int) (t u:Tok) (s:Shared) (Q:Value->Shared->Prop) (E:Value->Shared->Prop),Q (.int (g i j) s.toks) { s with toks:=s.toks + 1 }->wpAny (model X.prog X.w) X.A (f (.int i t) (.int j u)) Q E s) :
    OpR X f (rI0 fun i j=>.int (g i j)):=by
  intro pins s σ H x y v u Q I rx ry h
  obtain ⟨i,j,rfl,rfl,q⟩:=h
  obtain ⟨t,rfl⟩:=rx
  obtain ⟨t',rfl⟩:=ry
  exact rule i j t t' s _ _ ⟨.int (g i j),H,I.tok _,⟨_,rfl⟩,q⟩
theorem opB0 {f:Value->Value->Sem Value} {g:Int->Int->Bool}
    (rule:∀ (i j:Int) (t u:Tok) (s:Shared) (Q:Value->Shared->Prop) (E:Value->Shared->Prop),Q (.bool (g i j)) s->wpAny (model X.prog X.w) X.A (f (.int i t) (.int j u)) Q E s) :
    OpR X f (rI0 fun i j=>.bl (g i j)):=by
  intro pins s σ H x y v u Q I rx ry h
  obtain ⟨i,j,rfl,rfl,q⟩:=h
  obtain ⟨t,rfl⟩:=rx
  obtain ⟨t',rfl⟩:=ry
  exact rule i j t t' s _ _ ⟨.bl (g i j),H,I,rfl,q⟩
noncomputable def CDiv (i j:Int):Prop:=0 < j /\ j < 1073741824
noncomputable def CPow (i j:Int):Prop:=0<=j /\ j<=1000000 /\ i.natAbs < 2 ^ 64
noncomputable def CMul (i j:Int):Prop:=(-(2 ^ 64) < i /\ i < 2 ^ 64) \/ (-(2 ^ 64) < j /\ j < 2 ^ 64)
theorem two_pow_nn (k:Nat):(0:Int)<=2 ^ k:=by
  rw [two_pow_cast]
  exact Int.natCast_nonneg _
theorem op_add:OpR X (binaryOp .Add) (rI0 fun i j=>.int (i + j)):=opI0 fun _ _ _ _ _ _ _ q=>add_int q
theorem op_sub:OpR X (binaryOp .Sub) (rI0 fun i j=>.int (i - j)):=opI0 fun _ _ _ _ _ _ _ q=>sub_int q
theorem op_fdiv:OpR X (binaryOp .FloorDiv) (rI CDiv fun i j=>.int (i / j)):=opI fun i j _ _ _ _ _ hc q=>by
  have h1:(0:Int) < j:=hc.1
  have h2:j < 1073741824:=hc.2
  exact floordiv_int (by omega) (by rw [Int.fdiv_eq_ediv_of_nonneg i (by omega)]; exact q) (.inl (PyProof.noPylong_small (by omega)))
theorem op_mod:OpR X (binaryOp .Mod) (rI (fun _ j=>0 < j) fun i j=>.int (i % j)):=opI fun i j _ _ _ _ _ hc q=>by
  have h1:(0:Int) < j:=hc
  exact mod_int' (by omega) (by rw [Int.fmod_eq_emod_of_nonneg i (by omega)]; exact q)
theorem op_pow:OpR X (binaryOp .Pow) (rI CPow fun i j=>.int (i ^ j.toNat)):=opI fun _ _ _ _ _ _ _ hc q=>pow_int_small hc.1 hc.2.1 hc.2.2 q
theorem op_shr:OpR X (binaryOp .RShift) (rI (fun _ j=>0<=j) fun i j=>.int (i / 2 ^ j.toNat)):=opI fun i j _ _ _ _ _ hc q =>
  rshift_int hc (by rw [Int.fdiv_eq_ediv_of_nonneg i (two_pow_nn _)]; exact q)
theorem op_and:OpR X (binaryOp .BitAnd) (rI0 fun i j=>.int (Builtin.bitAnd i j)):=opI0 fun _ _ _ _ _ _ _ q=>and_int q
theorem op_or:OpR X (binaryOp .BitOr) (rI0 fun i j=>.int (Builtin.bitOr i j)):=opI0 fun _ _ _ _ _ _ _ q=>or_int q
theorem unI {f:Value->Sem Value} {g:Int->Int}
    (rule:∀ (i:Int) (t:Tok) (s:Shared) (Q:Value->Shared->Prop) (E:Value->Shared->Prop),Q (.int (g i) s.toks) { s with toks:=s.toks + 1 }->wpAny (model X.prog X.w) X.A (f (.int i t)) Q E s) :
    UnR X f (rU fun i=>.int (g i)):=by
  intro pins s σ H x v Q I rx h
  obtain ⟨i,rfl,q⟩:=h
  obtain ⟨t,rfl⟩:=rx
  exact rule i t s _ _ ⟨.int (g i),H,I.tok _,⟨_,rfl⟩,q⟩
theorem un_neg:UnR X (unaryOp .USub) (rU fun i=>.int (-i)):=unI fun _ _ _ _ _ q=>neg_int q
theorem un_inv:UnR X (unaryOp .Invert) (rU fun i=>.int (Builtin.bitNot i)):=unI fun _ _ _ _ _ q=>invert_int q
end
section
variable {X:Cx} {a b c:Expr} {ta tb tc:TE} {pos:Pos}
theorem fin_bl {pins:List (Addr × Obj)} {σ:St} {H:Hp} {s:Shared} {Q:VK} {k k':Bool} (I:Inv X pins σ H s) (q:Q (.bl k) H) (e:k=k'):EP X pins σ Q (.bool k') s:=by
  subst e
  exact ⟨.bl k,H,I,rfl,q⟩
theorem op_lt:OpR X (compareOp .Lt) (rI0 fun i j=>.bl (decide (i < j))):=opB0 fun _ _ _ _ _ _ _ q=>lt_int q
theorem op_le:OpR X (compareOp .LtE) (rI0 fun i j=>.bl (decide (i<=j))):=opB0 fun _ _ _ _ _ _ _ q=>le_int q
theorem op_gt:OpR X (compareOp .Gt) (rI0 fun i j=>.bl (decide (j < i))):=opB0 fun _ _ _ _ _ _ _ q=>gt_int q
theorem op_ge:OpR X (compareOp .GtE) (rI0 fun i j=>.bl (decide (j<=i))):=opB0 fun _ _ _ _ _ _ _ q=>ge_int q
theorem op_in_str:OpR X (compareOp .In) (fun x y H Q=>∃ i j,x=.str i /\ y=.str j /\ Q (.bl (!(Builtin.Str.occurrences j i 0 j.length 1).isEmpty)) H):=by
  intro pins s σ H x y v u Q I rx ry h
  obtain ⟨i,j,rfl,rfl,q⟩:=h
  obtain ⟨t,rfl⟩:=rx
  obtain ⟨t',rfl⟩:=ry
  exact in_str (fin_bl I q rfl)
theorem pe_cmpR {op:CmpOp} {r:R2} (ho:OpR X (compareOp op) r) (ha:PE X a ta) (hb:PE X b tb) (hm:behindInMarks op b=false):PE X (.Compare a [op] [b] pos) (tOp r ta tb):=by
  intro pins s σ H Q I h
  exact wpAny_Compare1 (binT ha hb I h fun v u s2 x y H2 I2 rx ry q=>ho pins s2 σ H2 x y v u Q I2 rx ry q) hm
noncomputable def tTest (t:TE):TT:=fun σ H Q=>t σ H fun x H'=>∃ k,x=.bl k /\ Q k H'
theorem pt_cmpR {op:CmpOp} {r:R2} (ho:OpR X (compareOp op) r) (ha:PE X a ta) (hb:PE X b tb) (hm:behindInMarks op b=false):PT X (.Compare a [op] [b] pos) (tTest (tOp r ta tb)):=by
  intro pins s σ H Q I h
  refine wpAny_isTrue_Compare1 (thn (ha pins s σ H _ I h) fun v s1 ⟨x,H1,I1,r1,q1⟩=>thn (hb pins s1 σ H1 _ I1 q1) fun u s2 ⟨y,H2,I2,r2,q2⟩ =>
    thn (ho pins s2 σ H2 x y v u _ I2 r1 r2 q2) fun c s3 ⟨z,H3,I3,r3,k,e,q3⟩=>?_) hm
  subst e
  cases r3
  exact wpAny_truthy_bool ⟨H3,I3,q3⟩
theorem line63:(sizeLine:Nat) < 2 ^ 63:=by rw [sizeLine_eq]; decide
theorem op_add_str:OpR X (binaryOp .Add) (fun x y H Q=>∃ i j,x=.str i /\ y=.str j /\ i.length + j.length<=sizeLine /\ Q (.str (i ++ j)) H):=by
  intro pins s σ H x y v u Q I rx ry h
  obtain ⟨i,j,rfl,rfl,hz,q⟩:=h
  obtain ⟨t,rfl⟩:=rx
  obtain ⟨t',rfl⟩:=ry
  exact add_str (fun t' tk=>⟨.str (i ++ j),H,I.tok _,⟨_,rfl⟩,q⟩) hz
theorem vals1 {x:V} {us:List Value} (r:Vals [x] us):∃ u,us=[u] /\ RelV x u:=by
  cases r with
  | cons r1 r2=>cases r2; exact ⟨_,rfl,r1⟩
theorem vals2 {x y:V} {us:List Value} (r:Vals [x,y] us):∃ u w',us=[u,w'] /\ RelV x u /\ RelV y w':=by
  cases r with
  | cons r1 r2 =>
    cases r2 with
    | cons r3 r4=>cases r4; exact ⟨_,_,rfl,r1,r3⟩
theorem call_abs:CallR X (.builtin "abs") (fun xs H Q=>∃ i,xs=[.int i] /\ Q (.int (if i < 0 then -i else i)) H):=by
  intro pins s σ H xs us Q I r h
  obtain ⟨i,rfl,q⟩:=h
  obtain ⟨u,rfl,t,rfl⟩:=vals1 r
  exact call_abs_int fun u tk=>⟨.int (if i < 0 then -i else i),H,I.tok _,⟨_,rfl⟩,q⟩
theorem call_int1:CallR X (.type "int") (fun xs H Q=>(∃ i,xs=[.int i] /\ Q (.int i) H) \/ ∃ k,xs=[.bl k] /\ Q (.int (if k then 1 else 0)) H):=by
  intro pins s σ H xs us Q I r h
  rcases h with ⟨i,rfl,q⟩ | ⟨k,rfl,q⟩
  · obtain ⟨u,rfl,t,rfl⟩:=vals1 r
    exact call_int_int ⟨.int i,H,I,⟨_,rfl⟩,q⟩
  · obtain ⟨u,rfl,r1⟩:=vals1 r
    cases r1
    exact call_int_bool ⟨.int (if k then 1 else 0),H,I.tok _,⟨_,rfl⟩,q⟩
theorem call_str_int:CallR X (.type "str") (fun xs H Q=>∃ i,xs=[.int i] /\ i.natAbs.log2 < 1920 /\ Q (.str (toString i)) H):=by
  intro pins s σ H xs us Q I r h
  obtain ⟨i,rfl,hz,q⟩:=h
  obtain ⟨u,rfl,t,rfl⟩:=vals1 r
  exact PySem.P.str_of_int hz ⟨.str _,H,I.tok _,⟨_,rfl⟩,q⟩
noncomputable def LenV (K:PySem.W.Frag) (x:V) (H:Hp) (n:Nat):Prop :=
  match x with
  | .str y=>y.length<=sizeLine /\ n=y.length
  | .byt y=>y.size<=sizeLine /\ n=y.size
  | .ref p=>(∃ xs,SqL K H p xs /\ n=xs.length) \/ ∃ xs,SqT K H p xs /\ n=xs.length
  | _=>False
theorem call_len:CallR X (.builtin "len") (fun xs H Q=>∃ x n,xs=[x] /\ LenV X.K x H n /\ Q (.int n) H):=by
  intro pins s σ H xs us Q I r h
  obtain ⟨x,n,rfl,e,q⟩:=h
  obtain ⟨u,rfl,rx⟩:=vals1 r
  have hl:=line63
  have hs:sizeLine=16777216:=sizeLine_eq
  cases x with
  | str y =>
    obtain ⟨t,rfl⟩:=rx
    obtain ⟨hy,e'⟩:y.length<=sizeLine /\ n=y.length:=e
    subst e'
    exact len_str (by omega) ⟨.int _,H,I.tok _,⟨_,rfl⟩,q⟩
  | byt y =>
    obtain ⟨t,rfl⟩:=rx
    obtain ⟨hy,e'⟩:y.size<=sizeLine /\ n=y.size:=e
    subst e'
    exact PySem.W.len_bytes (by omega) ⟨.int _,H,I.tok _,⟨_,rfl⟩,q⟩
  | ref p =>
    cases rx
    have e':(∃ xs,SqL X.K H p xs /\ n=xs.length) \/ ∃ xs,SqT X.K H p xs /\ n=xs.length:=e
    rcases e' with ⟨xs,hx,e'⟩ | ⟨xs,hx,e'⟩
    · subst e'
      obtain ⟨its,r',pl,hz⟩:=I.list hx
      have hlen:=r'.length
      exact Calls.call_len_list pl.isList (by simp only [List.size_toArray]; omega) ⟨.int xs.length,H,I.tok _,⟨_,by simp only [List.size_toArray]; rw [hlen]⟩,q⟩
    · subst e'
      obtain ⟨its,r',pl,hz⟩:=I.tuple hx
      have hlen:=r'.length
      exact len_tuple pl (by simp only [List.size_toArray]; omega) ⟨.int xs.length,H,I.tok _,⟨_,by simp only [List.size_toArray]; rw [hlen]⟩,q⟩
  | _=>exact (show False from e).elim
end
end L2
namespace L2
open PySem PySem.Spec PyProof.Rows
structure ObjM (h:Heap) (x dx C:Addr) (mA:Str->Option Value):Prop where
  obj:h.get? x=some (PySem.W.instObj C dx)
  ns:h.Ns1 dx mA
  ne:dx ≠ x
theorem lookIn_ns {h:Heap} {dx:Addr} {mA:Str->Option Value} (n:h.Ns1 dx mA):∃ od,h.get? dx=some od /\ ∀ name,PySem.W.lookIn name od=some (mA name):=by
  obtain ⟨o,es,ep,ho,hd,hk,_,hm⟩:=n
  refine ⟨o,ho,fun name=>?_⟩
  have e:=hm name
  unfold nsFind findBy at e
  rw [<- Array.find?_toList] at e
  unfold PySem.W.lookIn
  rw [hd]
  dsimp only
  split
  · rename_i y q
    rw [q] at e
    exact congrArg some e
  · rename_i q
    rw [q] at e
    have a:es.toList.any (·.refKey)=false:=by
      rw [List.any_eq_false]
      intro y hy
      obtain ⟨z,t,hkey⟩:=hk y (Array.mem_toList_iff.mp hy)
      simp [DictEntry.refKey,hkey]
    have a':¬ es.toList.any (·.refKey)=true:=by rw [a]; exact Bool.false_ne_true
    rw [if_neg a']
    exact congrArg some e
theorem ObjM.look {h:Heap} {x dx C:Addr} {mA:Str->Option Value} (I:ObjM h x dx C mA):∃ od,PySem.W.InstAt h x (PySem.W.instObj C dx) C (some od) /\ ∀ name,PySem.W.lookIn name od=some (mA name) :=
  let ⟨od,ho,hl⟩:=lookIn_ns I.ns
  ⟨od,⟨I.obj,rfl,rfl,ho⟩,hl⟩
section
variable {prog:Program} {w:World} {A:Around} {E:Value->Shared->Prop} {s:Shared} {K:PySem.W.Frag} {x dx C f:Addr} {mA:Str->Option Value} {name:Str} {v:Value}
end
theorem RelO.some_of {v:V} {o:Option Value} (r:RelO (some v) o):∃ u,o=some u /\ RelV v u:=by
  cases o with
  | none=>exact (show False from r).elim
  | some u=>exact ⟨u,rfl,r⟩
section
variable {P:Program} {w:World} {H H':Hp} {h h':Heap} {a C dx:Addr} {fs fs':List (Str × V)}
theorem ins_get (hok:HOk P w H h) (e:H a=some (.ins C dx fs)):∃ mA,ObjM h a dx C mA /\ (∀ f,RelO (fs.lookup f) (mA f)) /\ PySem.Within mA (fs.map (·.1)) /\ fs.length<=1000 /\ H dx=some (.own a):=by
  obtain ⟨d,z,ne,ob,mA,n,r,q⟩:=(show ObjOk P w H h a (.ins C dx fs) from hok a _ e)
  exact ⟨mA,⟨ob,n,ne⟩,r,q,z,d⟩
end
structure Cls (K:PySem.W.Frag) (C:Addr):Prop where
  pg:PySem.W.plainGet K C Str.empty=true
  hd:PySem.W.hasDictIn K C=true
  po:PySem.W.plainOver K C=true
  sa:PySem.W.findIn K (.ref C) "__setattr__"=some (some (.builtin "object.__setattr__"))
theorem Cls.get {K:PySem.W.Frag} {C:Addr} (c:Cls K C) (f:Str):PySem.W.plainGet K C f=true:=c.pg
structure Con (K:PySem.W.Frag) (C:Addr) (f:Str) (v:V) (u:Value):Prop where
  at_:PySem.W.findIn K (.ref C) f=some (some u)
  rel:RelV v u
  get:PySem.W.specialIn K u "__get__"=some none
  cp:PySem.W.copiedNames.contains f=false
structure Meth (K:PySem.W.Frag) (C:Addr) (m:Str) (f:Addr):Prop where
  at_:PySem.W.findIn K (.ref C) m=some (some (.ref f))
  fn:PySem.W.isFn K (.ref f)=true
  kp:PySem.W.keepIn K (.ref f)=true
section
variable {X:Cx} {pins:List (Addr × Obj)} {σ:St} {H:Hp} {s:Shared} {a C dx:Addr} {fs:List (Str × V)} {f:Str} {v:V} {A:Around} {E:Value->Shared->Prop}
end
section
variable {X:Cx} {o e value:Expr} {f:Str} {pos pos' tpos:Pos} {ta tv:TE}
end
section
variable {X:Cx} {pins:List (Addr × Obj)} {σ:St} {H:Hp} {s:Shared} {A:Around} {E:Value->Shared->Prop} {Q:Value->Shared->Prop} {c:Value} {b:Bool}
inductive TyOf (K:PySem.W.Frag) (H:Hp):V->Value->Prop where
  | non:TyOf K H .non (.type "NoneType")
  | bl (x:Bool):TyOf K H (.bl x) (.type "bool")
  | int (i:Int):TyOf K H (.int i) (.type "int")
  | str (x:Str):TyOf K H (.str x) (.type "str")
  | flt (x:UInt64):TyOf K H (.flt x) (.type "float")
  | lst {a:Addr} {xs:List V} (e:H a=some (.lst xs)):TyOf K H (.ref a) (.type "list")
  | frz {a:Addr} {o:Obj} {xs:List V} (e:H a=some (.frz o (.lst xs))):TyOf K H (.ref a) (.type "list")
  | tup {a:Addr} {xs:List V} (e:H a=some (.tup xs)):TyOf K H (.ref a) (.type "tuple")
  | dK {a:Addr} {kvs:List (Key × V)} (e:H a=some (.dK kvs)):TyOf K H (.ref a) (.type "dict")
  | dT {a:Addr} {kvs:List (List Key × V)} (e:H a=some (.dT kvs)):TyOf K H (.ref a) (.type "dict")
  | ins {a C dx:Addr} {fs:List (Str × V)} (e:H a=some (.ins C dx fs)) (cl:Cls K C) (ha:PySem.W.findIn K (.ref C) "__class__"=some (some (.builtin "object.__class__")))
      (hn:PySem.W.specialIn K (.builtin "object.__class__") "__get__"=some (some (.builtin "getset_descriptor.__get__"))) (htk:PySem.W.takesIn K (.builtin "object.__class__")=some true)
      (hm:PySem.W.mroIn K C (.type "object")=some true):TyOf K H (.ref a) (.ref C)
theorem isinst_ok {x:V} {u t:Value} (I:Inv X pins σ H s) (rx:RelV x u) (ty:TyOf X.K H x t) (e:PySem.W.kitOne X.K t c=some b) (h:∀ tk,Q (.bool b) { s with toks:=tk }) :
    wpAny (model X.prog X.w) A (call (.builtin "isinstance") [u,c]) Q E s:=by
  cases ty with
  | non=>cases (show u=Value.none from rx); exact PySem.W.kia_one PySem.W.kitx_none I.kIn True.intro e (fun z=>nomatch z) h
  | bl y=>cases (show u=Value.bool y from rx); exact PySem.W.kia_one PySem.W.kitx_bool I.kIn True.intro e (fun z=>nomatch z) h
  | int i=>obtain ⟨t,q⟩:=(show ∃ t,u=Value.int i t from rx); cases q; exact PySem.W.kia_one PySem.W.kitx_int I.kIn True.intro e (fun z=>nomatch z) h
  | str y=>obtain ⟨t,q⟩:=(show ∃ t,u=Value.str y t from rx); cases q; exact PySem.W.kia_one PySem.W.kitx_str I.kIn True.intro e (fun z=>nomatch z) h
  | flt y=>obtain ⟨t,q⟩:=(show ∃ t,u=Value.float y t from rx); cases q; exact PySem.W.kia_one PySem.W.kitx_float I.kIn True.intro e (fun z=>nomatch z) h
  | @lst a xs ea =>
    cases (show u=Value.ref a from rx)
    obtain ⟨_,_,n,_,h1⟩:=(show ObjOk X.prog X.w H s.heap a (.lst xs) from I.hok a _ ea)
    exact PySem.W.kia_one PySem.W.kitx_list I.kIn ⟨_,h1,rfl⟩ e (fun z=>nomatch z) h
  | @frz a ob xs ea =>
    cases (show u=Value.ref a from rx)
    obtain ⟨_,_,_,n,_,h1⟩:=(show ObjOk X.prog X.w H s.heap a (.frz ob (.lst xs)) from I.hok a _ ea)
    exact PySem.W.kia_one PySem.W.kitx_list I.kIn ⟨_,h1,rfl⟩ e (fun z=>nomatch z) h
  | @tup a xs ea =>
    cases (show u=Value.ref a from rx)
    obtain ⟨_,_,_,p⟩:=(show ObjOk X.prog X.w H s.heap a (.tup xs) from I.hok a _ ea)
    obtain ⟨o,h1,h2,_⟩:=p
    exact PySem.W.kia_one PySem.W.kitx_tuple I.kIn ⟨o,h1,h2⟩ e (fun z=>nomatch z) h
  | @dK a kvs ea =>
    cases (show u=Value.ref a from rx)
    obtain ⟨_,_,vs,_,p⟩:=(show ObjOk X.prog X.w H s.heap a (.dK kvs) from I.hok a _ ea)
    obtain ⟨o,es,ep,h1,h2,_⟩:=p
    exact PySem.W.kia_one PySem.W.kitx_dict I.kIn ⟨o,h1,h2.1⟩ e (fun z=>nomatch z) h
  | @dT a kvs ea =>
    cases (show u=Value.ref a from rx)
    obtain ⟨_,_,xs,_,o,es,ep,h1,h2,_⟩:=(show ObjOk X.prog X.w H s.heap a (.dT kvs) from I.hok a _ ea)
    exact PySem.W.kia_one PySem.W.kitx_dict I.kIn ⟨o,h1,h2.1⟩ e (fun z=>nomatch z) h
  | @ins a C dx fs ea cl ha hn htk hm =>
    cases (show u=Value.ref a from rx)
    obtain ⟨mA,O,_⟩:=ins_get I.hok ea
    obtain ⟨od,J,_⟩:=O.look
    exact PySem.W.kia_one (PySem.W.kitx_own (cl.get _) cl.hd ha hn htk hm) I.kIn J e (fun z=>nomatch z) h
end
end L2
namespace L2
open PySem PySem.Spec PyProof.Rows
structure Room (k:Nat) (A:Around):Prop where
  hd:A.handled=none
  dp:A.depth + 3 * k + 5 < recursionLimit
  un:A.units + 16 * k + 200 < cLine
theorem Room.deeper {k:Nat} {A:Around} (r:Room (k + 1) A) (env:Env):Room k (A.deeper env) :=
  ⟨r.hd,by have:=r.dp; show A.depth + 1 + 3 * k + 5 < _; omega,by have:=r.un; show A.units + 3 + 16 * k + 200 < _; omega⟩
theorem Room.depth {k:Nat} {A:Around} (r:Room k A):A.depth < recursionLimit:=by have:=r.dp; omega
theorem Room.units {k:Nat} {A:Around} (r:Room k A):A.units + 64 < cLine:=by have:=r.un; omega
noncomputable def tNil:TA:=fun _ H Q=>Q [] H
noncomputable def tCons (ta:TE) (tr:TA):TA:=fun σ H Q=>ta σ H fun x H1=>tr σ H1 fun xs H2=>Q (x :: xs) H2
section
variable {X:Cx} {e:Expr} {es:List Expr} {te:TE} {t:TA} {pos:Pos}
theorem pa_nil:PA X [] tNil:=fun _ _ _ _ H Q I h=>Calls.spliced_nil ⟨[],H,I,.nil,h⟩
theorem pa_cons (ha:PE X e te) (hr:PA X es t) (hs:starEach (e :: es) X.env=(false,eval e X.env) :: starEach es X.env:=by rfl):PA X (e :: es) (tCons te t):=by
  intro pos pins s σ H Q I h
  rw [hs]
  show wpAny _ _ (spliced ((false,eval e X.env) :: backTo pos (starEach es X.env))) _ _ s
  refine Calls.spliced_cons (thn (ha pins s σ H _ I h) fun u s1 ⟨x,H1,I1,r1,q1⟩=>?_)
  exact thn (hr pos pins s1 σ H1 _ I1 q1) fun us s2 ⟨xs,H2,I2,r2,q2⟩=>⟨x :: xs,H2,I2,.cons r1 r2,q2⟩
noncomputable def tTup (t:TA):TE:=fun σ H Q=>t σ H fun xs H1=>xs.length<=sizeLine /\ ∀ p,H1 p=none->Q (.ref p) (upd H1 p (.tup xs))
noncomputable def tLst (t:TA):TE:=fun σ H Q=>t σ H fun xs H1=>xs.length<=sizeLine /\ ∀ p,H1 p=none->Q (.ref p) (upd H1 p (.lst xs))
theorem pe_tup {x1} (h:PA X es t):PE X (.Tuple es x1 pos) (tTup t):=by
  intro pins s σ H Q I hq
  refine wpAny_Tuple_spliced (thn (h pos pins s σ H _ I hq) fun us s1 ⟨xs,H1,I1,r,z,q⟩=>⟨by rw [<- r.length]; exact z,?_⟩)
  have hf:H1 s1.heap.objs.size=none:=I1.hok.fresh (Nat.le_refl _)
  refine ⟨.ref s1.heap.objs.size,upd H1 s1.heap.objs.size (.tup xs),I1.laid (t':=s1.toks) (fun b u e=>Heap.get?_push_of_some _ e) (Nat.le_refl _) ?_,rfl,q _ hf⟩
  exact ⟨z,us,r,⟨_,Heap.get?_push_size _ rfl,rfl,_,rfl⟩⟩
theorem pe_lst (h:PA X es t):PE X (.List es pos) (tLst t):=by
  intro pins s σ H Q I hq
  refine wpAny_List_spliced (thn (h pos pins s σ H _ I hq) fun us s1 ⟨xs,H1,I1,r,z,q⟩=>⟨by rw [<- r.length]; exact z,?_⟩)
  have hf:H1 s1.heap.objs.size=none:=I1.hok.fresh (Nat.le_refl _)
  refine ⟨.ref s1.heap.objs.size,upd H1 s1.heap.objs.size (.lst xs),I1.laid (t':=s1.toks) (fun b u e=>Heap.get?_push_of_some _ e) (Nat.le_refl _) ?_,rfl,q _ hf⟩
  exact ⟨z,us,0,r,Heap.get?_push_size _ rfl⟩
end
noncomputable abbrev Sp:=List V->Hp->VK->XK->Prop
noncomputable abbrev CXT:=List Env->Hp->Shared->XK->Value->Shared->Prop
structure Env0 (P:Program) (w:World) (K:PySem.W.Frag) (mg:Str->Option Value) (base:Heap) (A:Around) (outer:List Env) (s:Shared) (H:Hp):Prop where
  frames:A.frames=some outer
  mod:Mod K mg base
  bs:∀ b o,base.get? b=some o->s.heap.get? b=some o /\ H b=none
  bsz:base.objs.size<=s.heap.objs.size
  funs:s.heap.FunFrames base outer
  frf:∀ b ∈ frs outer,H b=none
  hok:HOk P w H s.heap
  bare:AllBare s.gens
noncomputable def CE (outer:List Env) (P:Program) (w:World) (H:Hp) (s:Shared) (Q:VK) (u:Value) (s':Shared):Prop :=
  ∃ v H',s'.os=s.os /\ AllBare s'.gens /\ Un (frs outer) [] H H' s.heap s'.heap /\ HOk P w H' s'.heap /\ RelV v u /\ Q v H'
noncomputable def CR (CX:CXT) (outer:List Env) (P:Program) (w:World) (H:Hp) (s:Shared) (Q:VK) (E:XK) (r:Result) (s':Shared):Prop :=
  match r with
  | .ok (.ret u)=>CE outer P w H s Q u s'
  | .ok _=>False
  | .error e=>CX outer H s E e s'
structure FnOk (P:Program) (w:World) (K:PySem.W.Frag) (mg:Str->Option Value) (base:Heap) (CX:CXT) (k:Nat) (f:Addr) (fd:FuncData) (ps:List Str) (sp:Sp):Prop where
  len:∀ vs H Q E,sp vs H Q E->vs.length=ps.length
  run:∀ (A:Around) (outer:List Env) (s:Shared) (H:Hp) (args:Args) (us:List Value) (vs:List V) (Q:VK) (E:XK),Room k A->Env0 P w K mg base A outer s H->BindsTo s fd args (ps.zip us)->Vals vs us->sp vs H Q E ->
    codeAny (model P w) A (.call (.ref f) args) (CR CX outer P w H s Q E) s
section
variable {X:Cx} {pins:List (Addr × Obj)} {σ:St} {H:Hp} {s s':Shared}
theorem Inv.env0 (I:Inv X pins σ H s):Env0 X.prog X.w X.K X.mg X.base X.A X.stack s H :=
  ⟨I.ok.frames,I.ok.mod,I.bs,Nat.le_trans I.ok.bsz I.sz,I.stack,I.stkFree,I.hok,I.bare⟩
theorem Inv.after {Q:VK} {u:Value} (I:Inv X pins σ H s) (h:CE X.stack X.prog X.w H s Q u s'):EP X pins σ Q u s':=by
  obtain ⟨v,H',os,bare,un,hok,r,q⟩:=h
  obtain ⟨hh,g,d,t,os'⟩:=s'
  obtain rfl:os'=s.os:=os
  exact ⟨v,H',I.call (h':=hh) (g':=g) (d':=d) (t':=t) (ch:=[]) un hok bare (fun b z=>absurd z (by simp)),r,q⟩
end
noncomputable def Binds (K:PySem.W.Frag) (fd:FuncData) (ps:List Str) (ds:List Value):Prop :=
  ∀ (s:Shared) (us:List Value),K.In s.heap->(us ++ ds).length=ps.length->BindsTo s fd ⟨us,[]⟩ (ps.zip (us ++ ds))
theorem Binds.all {K:PySem.W.Frag} {fd:FuncData} {ps:List Str} (h:∀ us:List Value,us.length=ps.length->bindArgs fd ⟨us,[]⟩=pure (ps.zip us)):Binds K fd ps []:=fun s us _ hl=>by
  rw [List.append_nil] at hl ⊢
  exact .of_eq (h us hl)
section
variable {X:Cx} {CX:CXT} {k:Nat} {f C:Addr} {fd:FuncData} {ps:List Str} {sp:Sp} {dvs:List V} {ds:List Value} {E:XK} {x m:Str} {p pos apos:Pos} {e o:Expr} {es:List Expr} {ta:TE} {t:TA}
structure Mk (K:PySem.W.Frag) (C f:Addr):Prop where
  makes:PySem.W.makesIn K C=true
  init:PySem.W.findIn K (.ref C) "__init__"=some (some (.ref f))
  fn:PySem.W.isFn K (.ref f)=true
  kp:PySem.W.keepIn K (.ref C)=true
end
section
variable {X:Cx} {CX:CXT} {k:Nat} {f C:Addr} {fd:FuncData} {ps ks:List Str} {sp:Sp} {E:XK} {x m:Str} {p pos apos kpos:Pos} {e o:Expr} {es:List Expr} {kws:List Keyword} {te ta:TE} {t tk:TA} {nm:Option Str}
structure KBinds (K:PySem.W.Frag) (fd:FuncData) (ps ks:List Str) (g:List Value->List Value->List Value) (gV:List V->List V->List V):Prop where
  to:∀ (s:Shared) (us ws:List Value),K.In s.heap->(g us ws).length=ps.length->BindsTo s fd ⟨us,ks.zip ws⟩ (ps.zip (g us ws))
  rel:∀ {vs:List V} {us:List Value} {zs:List V} {ws:List Value},Vals vs us->Vals zs ws->Vals (gV vs zs) (g us ws)
variable {g:List Value->List Value->List Value} {gV:List V->List V->List V}
end
structure FnScope (N P:List Str) (sc:Scope):Prop where
  kind:sc.kind=.function
  co:sc.isCoroutine=false
  gen:sc.isGenerator=false
  nd:N.Nodup
  pre:N.take P.length=P
  par:∀ x ∈ P,sc.names.lookup x=some .local \/ sc.names.lookup x=some .cell
  nofree:∀ y ∈ sc.names,y.2 ≠ .free
theorem bindL_out {kindOf:Str->Option NameKind} {x:Str}:∀ {binds:List (Str × Value)} {m:Str->Option Value},(∀ v,(x,v) ∉ binds)->bindL kindOf binds m x=m x
  | [],_,_=>rfl
  | (n,v) :: r,m,h=>by
    unfold bindL
    rw [bindL_out fun w hw=>h w (List.mem_cons_of_mem _ hw)]
    split
    · have:x ≠ n:=by rintro rfl; exact h v List.mem_cons_self
      simp [this]
    · rfl
theorem bindC_out {kindOf:Str->Option NameKind} {x:Str}:∀ {binds:List (Str × Value)} {m:Str->Option Value},(∀ v,(x,v) ∉ binds)->bindC kindOf binds m x=m x
  | [],_,_=>rfl
  | (n,v) :: r,m,h=>by
    unfold bindC
    rw [bindC_out fun w hw=>h w (List.mem_cons_of_mem _ hw)]
    split
    · rfl
    · have:x ≠ n:=by rintro rfl; exact h v List.mem_cons_self
      simp [this]
theorem bindL_get {kindOf:Str->Option NameKind} {x:Str} {v:Value}:∀ {P:List Str} {vs:List Value} {i:Nat} {m:Str->Option Value},P.Nodup->P[i]?=some x->vs[i]?=some v->kindOf x=some .local ->
    bindL kindOf (P.zip vs) m x=some v
  | [],_,_,_,_,h,_,_=>by simp at h
  | _ :: _,[],_,_,_,_,h,_=>by simp at h
  | p :: P,w :: vs,0,m,nd,h1,h2,hk=>by
    simp at h1 h2; subst h1; subst h2
    show bindL kindOf ((p,w) :: P.zip vs) m p=_
    unfold bindL
    rw [bindL_out fun v hv=>(List.nodup_cons.mp nd).1 (List.of_mem_zip hv).1,if_pos hk]
    simp
  | p :: P,w :: vs,i + 1,m,nd,h1,h2,hk=>by
    show bindL kindOf ((p,w) :: P.zip vs) m x=_
    unfold bindL
    exact bindL_get (i:=i) (List.nodup_cons.mp nd).2 (by simpa using h1) (by simpa using h2) hk
theorem bindC_get {kindOf:Str->Option NameKind} {x:Str} {v:Value}:∀ {P:List Str} {vs:List Value} {i:Nat} {m:Str->Option Value},P.Nodup->P[i]?=some x->vs[i]?=some v->kindOf x ≠ some .local ->
    bindC kindOf (P.zip vs) m x=some v
  | [],_,_,_,_,h,_,_=>by simp at h
  | _ :: _,[],_,_,_,_,h,_=>by simp at h
  | p :: P,w :: vs,0,m,nd,h1,h2,hk=>by
    simp at h1 h2; subst h1; subst h2
    show bindC kindOf ((p,w) :: P.zip vs) m p=_
    unfold bindC
    rw [bindC_out fun v hv=>(List.nodup_cons.mp nd).1 (List.of_mem_zip hv).1,if_neg hk]
    simp
  | p :: P,w :: vs,i + 1,m,nd,h1,h2,hk=>by
    show bindC kindOf ((p,w) :: P.zip vs) m x=_
    unfold bindC
    exact bindC_get (i:=i) (List.nodup_cons.mp nd).2 (by simpa using h1) (by simpa using h2) hk
noncomputable def start (N:List Str) (vs:List V):St:=vs.map some ++ List.replicate (N.length - vs.length) none
noncomputable def cxOf (CX:CXT) (P:Program) (w:World) (K:PySem.W.Frag) (mg:Str->Option Value) (base:Heap) (N:List Str) (qual:Str) (scope:Scope) (f:Addr) (cd:Value) (A:Around) (outer:List Env) (s:Shared) (H:Hp) (E:XK):Cx where
  prog:=P
  w:=w
  K:=K
  mg:=mg
  base:=base
  A:=A.deeper (envOfC qual scope s.heap.objs.size f cd)
  N:=N
  s₀:=s
  H₀:=H
  env:=envOfC qual scope s.heap.objs.size f cd
  outer:=outer
  stack:=envOfC qual scope s.heap.objs.size f cd :: outer
  ex:=[]
  calm:=true
  fn:=fun _=>true
  pn:=[]
  xe:=fun e s'=>wpAny (model P w) (A.deeper (envOfC qual scope s.heap.objs.size f cd)) (leaving (envOfC qual scope s.heap.objs.size f cd) e) (fun _ s''=>CX outer H s E e s'') (fun e' s''=>CX outer H s E e' s'') s'
theorem cell_has {sc:Scope} {n:Nat} {x:Str} (h:sc.names.lookup x=some .cell):∃ c,(cellsFrom n sc.names []).lookup x=some c:=by
  have q:=PySem.W.cellsFrom_some sc.names n [] (.inl h)
  exact Option.isSome_iff_exists.mp q
theorem inv_start {CX:CXT} {P:Program} {w:World} {K:PySem.W.Frag} {mg:Str->Option Value} {base:Heap} {N ps:List Str} {qual:Str} {scope:Scope} {f:Addr} {cd:Value} {A:Around} {outer:List Env} {s s1:Shared} {H:Hp} {E:XK} {us:List Value} {vs:List V}
    (S:FnScope N ps scope) (hd:A.handled=none) (e0:Env0 P w K mg base A outer s H) (hl:vs.length=ps.length) (r:Vals vs us)
    (x:InCallC s s.heap.objs.size (bindL (envOfC qual scope s.heap.objs.size f cd).kindOf (ps.zip us) fun _=>none) (cellsFrom (s.heap.objs.size + 1) scope.names []) (bindC (envOfC qual scope s.heap.objs.size f cd).kindOf (ps.zip us) fun _=>none) s1) :
    Inv (cxOf CX P w K mg base N qual scope f cd A outer s H E) [] (start N vs) H s1:=by
  have hpl:ps.length<=N.length:=by have:=congrArg List.length S.pre; rw [List.length_take] at this; omega
  obtain ⟨h1,tk,rfl,hk⟩:=x.done
  have noA:∀ b:Addr,b ∉ (cxOf CX P w K mg base N qual scope f cd A outer s H E).ex:=fun b z=>absurd (show b ∈ ([]:List Addr) from z) (by simp)
  refine ⟨⟨e0.mod,S.kind,rfl,rfl,Nat.le_refl _,fun y z c h1 h2=>?_,fun y hy=>?_,fun y c _ h=>?_,fun _=>hd,Around.frames_deeper e0.frames,.inr ⟨rfl,rfl⟩,fun b z=>absurd z (noA b),e0.bs,e0.bsz,fun b _ _=>noA b,fun b z=>absurd z (noA b),e0.funs,e0.frf⟩,
    rfl,e0.bare,Un.kept hk,⟨_,x.toInCall.ns,fun i y v h1 h2 h3=>?_⟩,fun y c h=>⟨_,x.cell y c h⟩,e0.hok.fresh (Nat.le_refl _),fun y c h=>?_,fun p hp=>absurd (show p ∈ ([]:List (Addr × Obj)) from hp) (by simp),e0.hok.kept hk,?_⟩
  · exact name_of_addr x.apart (PySem.mem_of_lookup h1) (PySem.mem_of_lookup h2)
  · have hy:scope.names.lookup y=some .cell \/ scope.names.lookup y=some .free:=hy
    rcases hy with hy | hy
    · exact cell_has hy
    · exact absurd rfl (S.nofree _ (PySem.mem_of_lookup hy))
  · exact Nat.le_of_lt (x.above y c (PySem.mem_of_lookup h))
  · have hi:i < vs.length:=by
      unfold start at h2
      by_cases hi:i < vs.length
      · exact hi
      · rw [List.getElem?_append_right (by simpa using hi)] at h2
        rw [List.getElem?_replicate] at h2
        split at h2 <;> cases h2
    have ha:vs[i]?=some v:=by
      unfold start at h2
      rw [List.getElem?_append_left (by simpa using hi),List.getElem?_map] at h2
      cases e:vs[i]? with
      | none=>rw [e] at h2; cases h2
      | some a=>rw [e] at h2; cases h2; rfl
    obtain ⟨u,hu,rv⟩:=r.get ha
    have hp:ps[i]?=some y:=by
      rw [<- S.pre,List.getElem?_take_of_lt (by omega)]; exact h1
    have ndP:ps.Nodup:=by rw [<- S.pre]; exact S.nd.sublist (List.take_sublist _ _)
    refine ⟨u,rv,?_⟩
    rcases S.par y (List.mem_of_getElem? hp) with k | k
    · exact .inl ⟨k,bindL_get ndP hp hu k⟩
    · obtain ⟨c,e⟩:=cell_has (n:=s.heap.objs.size + 1) k
      refine .inr ⟨.inl k,c,e,?_⟩
      have q:=x.cell y c e
      rw [bindC_get ndP hp hu (by show scope.names.lookup y ≠ _; rw [k]; decide)] at q
      exact q
  · exact e0.hok.fresh (Nat.le_of_lt (x.above y c (PySem.mem_of_lookup h)))
  · unfold start
    show _=N.length
    rw [List.length_append,List.length_map,List.length_replicate]
    omega
theorem fn_of {CX:CXT} {P:Program} {w:World} {K:PySem.W.Frag} {mg:Str->Option Value} {base:Heap} {k:Nat} {f:Addr} {name qual:Str} {params:Arguments} {body:List Stmt} {scope:Scope} {dV kV doc pm cdv ct oc:Value} {an od:Option Addr}
    {osl:Array (Option Value)} {N ps:List Str} {sp:Sp} (lk:K.lookup f=some ⟨oc,od,.func (PySem.W.fnOf name qual params body scope dV kV doc pm an cdv ct),osl⟩) (hcd:PySem.W.codeIn K cdv qual=true) (S:FnScope N ps scope)
    (len:∀ vs H Q E,sp vs H Q E->vs.length=ps.length)
    (hbody:∀ (A:Around) (outer:List Env) (s:Shared) (H:Hp) (vs:List V) (Q:VK) (E:XK),Room k (A.deeper (envOfC qual scope s.heap.objs.size f cdv))->sp vs H Q E ->
      ∃ t,PSs (cxOf CX P w K mg base N qual scope f cdv A outer s H E) body t /\ t { nx:=fun _ H'=>Q .non H',rt:=Q } (start N vs) H) :
    FnOk P w K mg base CX (k + 1) f (PySem.W.fnOf name qual params body scope dV kV doc pm an cdv ct) ps sp:=by
  refine ⟨len,fun A outer s H args us vs Q E hr e0 hb r hsp=>?_⟩
  have hl:=len _ _ _ _ hsp
  have KX:K.In s.heap:=e0.mod.kin.keeps fun b o e=>(e0.bs b o e).1
  have lim:s.heap.NoLimit:=e0.mod.nolimit.keeps fun b o e=>(e0.bs b o e).1
  have hkind:∀ y ∈ ps.zip us,scope.names.lookup y.1=some .local \/ (scope.names.lookup y.1=some .cell /\ ((cellsFrom (s.heap.objs.size + 1) scope.names []).lookup y.1).isSome=true):=fun ⟨n,v⟩ hy=>by
    rcases S.par n (List.of_mem_zip hy).1 with q | q
    · exact .inl q
    · exact .inr ⟨q,PySem.W.cellsFrom_some _ _ _ (.inl q)⟩
  refine codeAny_call_function hr.depth (KX _ _ lk) rfl S.co S.gen rfl (PySem.W.codeRec_of KX hcd) (hb _ _ _ _ ?_)
  refine wpAny_newFunctionEnv_cells S.kind hkind fun env he s1 x=>?_
  subst he
  refine ⟨lim.keeps x.toInCall.keep,codeAny_func ?_⟩
  obtain ⟨t,ht,hq⟩:=hbody A outer s H vs Q E (hr.deeper _) hsp
  have I:Inv (cxOf CX P w K mg base N qual scope f cdv A outer s H E) [] (start N vs) H s1:=inv_start S hr.hd e0 hl r x
  refine wpAny_mono (ht [] s1 (start N vs) H _ I hq) (fun fl s' hs=>?_) fun e s' hs=>hs
  have fin:∀ {σ':St} {H':Hp} {v:V} {u:Value},Inv (cxOf CX P w K mg base N qual scope f cdv A outer s H E) [] σ' H' s'->RelV v u->Q v H'->CE outer P w H s Q u s' :=
    fun {σ' H' v u} J rv q=>⟨v,H',J.os,J.bare,J.base,J.hok,rv,q⟩
  cases fl with
  | ret u =>
    obtain ⟨v,σ',H',J,rv,q⟩:=hs
    exact fin J rv q
  | next =>
    obtain ⟨σ',H',J,q⟩:=hs
    exact fin (v:=V.non) (u:=Value.none) J rfl q
  | brk =>
    obtain ⟨_,_,_,q⟩:=hs
    exact False.elim q
  | cont =>
    obtain ⟨_,_,_,q⟩:=hs
    exact False.elim q
end L2
namespace L2
open PySem PySem.Spec PyProof.Rows
section
variable {X:Cx} {x:Str} {p pos:Pos} {e:Expr} {es:List Expr} {t:TA} {id T:String} {r:List V->Hp->VK->Prop}
noncomputable def tCB (r:List V->Hp->VK->Prop) (t:TA):TE:=fun σ H Q=>t σ H fun vs H1=>r vs H1 Q
theorem pe_callB (hc:CallR X (.builtin id) r) (hg:Gl X x) (hm:X.mg x=none) (hv:bootBuiltins x=some (.builtin id)) (ha:PA X (e :: es) t) (hn:x ≠ "__name__":=by decide) (hdb:(x == ("__debug__":Str))=false:=by decide)
    (he:starEach (e :: es) X.env=(false,eval e X.env) :: starEach es X.env:=by rfl) (hpl:(backTo pos (starEach es X.env)).any (·.1)=false:=by rfl):PE X (.Call (.Name x p) (e :: es) [] pos) (tCB r t):=by
  intro pins s σ H Q I h
  refine wpAny_Call_Name_kw (ld_blt I hg hm hv ?_ hn hdb)
  exact PyProof.Rows.callWith_builtin1 (thn (ha pos pins s σ H _ I h) fun us s1 ⟨vs,H1,I1,r1,q1⟩=>hc pins s1 σ H1 vs us Q I1 r1 q1) he hpl
theorem pe_callTy (hc:CallR X (.type T) r) (hg:Gl X x) (hm:X.mg x=none) (hv:bootBuiltins x=some (.type T)) (ha:PA X (e :: es) t) (hn:x ≠ "__name__":=by decide) (hdb:(x == ("__debug__":Str))=false:=by decide)
    (he:starEach (e :: es) X.env=(false,eval e X.env) :: starEach es X.env:=by rfl) (hpl:(backTo pos (starEach es X.env)).any (·.1)=false:=by rfl):PE X (.Call (.Name x p) (e :: es) [] pos) (tCB r t):=by
  intro pins s σ H Q I h
  refine wpAny_Call_Name_kw (ld_blt I hg hm hv ?_ hn hdb)
  exact PyProof.Rows.callWith_type1 (thn (ha pos pins s σ H _ I h) fun us s1 ⟨vs,H1,I1,r1,q1⟩=>hc pins s1 σ H1 vs us Q I1 r1 q1) he hpl
end
end L2
namespace HT
open PySem PyProof.Rows
section
open PySem.SeqAt
open PySem.AutoSeq1 (wpAny_loadPart')
open PySem.MeetsSeq PySem.MeetsSeq2 PySem.MeetsSeq3
end
section
variable {prog:Program} {w:World} {A:Around} {E:Value->Shared->Prop} {s:Shared}
theorem cat_tup {t b:Addr} {vs ws:List Value} {Q:Value->Shared->Prop} (ht:IsTup s.heap t vs.toArray) (hb:IsTup s.heap b ws.toArray) (hv:vs ≠ [])
    (h1:ws=[]->Q (.ref t) s) (h2:ws ≠ []->Q (.ref s.heap.objs.size) { s with heap:=s.heap.push { cls:=.type "tuple",data:=.seq (vs ++ ws).toArray } })
    (hsz:vs.length + ws.length<=sizeLine):wpAny (model prog w) A (binaryOp .Add (.ref t) (.ref b)) Q E s:=by
  obtain ⟨⟨cls,dd,data,sl⟩,ho,hc,n,hd⟩:=id ht
  obtain ⟨⟨cls2,dd2,data2,sl2⟩,ho2,hc2,n2,hd2⟩:=id hb
  simp only at hc hd hc2 hd2
  subst hc hd hc2 hd2
  have e:vs.toArray ++ ws.toArray=(vs ++ ws).toArray:=by simp
  by_cases hw:ws=[]
  · exact concat_meets ⟨_,ho,rfl⟩ ⟨_,ho2,rfl⟩ noFill_tuple_add seq_tuple_add PySem.F.slot_tuple_add PySem.F.entry_tuple_add (PySem.F.args_tuple_add_2 _ _)
      (tuple_addW1 t b vs.toArray ws.toArray n n2 dd dd2 sl sl2 (by simpa using hv) (by simp [hw])) ⟨ho,ho2,h1 hw⟩
  · refine concat_meets ⟨_,ho,rfl⟩ ⟨_,ho2,rfl⟩ noFill_tuple_add seq_tuple_add PySem.F.slot_tuple_add PySem.F.entry_tuple_add (PySem.F.args_tuple_add_2 _ _)
      (tuple_addW2 t b vs.toArray ws.toArray n n2 dd dd2 sl sl2 (by simpa using hv) (by simpa using hw) (by rw [List.size_toArray,List.size_toArray]; exact hsz)) ⟨ho,ho2,?_⟩
    rw [e]
    exact h2 hw
noncomputable def sIx (n d:Nat):Option Int->Nat
  | none=>d
  | some v=>if v < 0 then (v + (n:Int)).toNat else min v.toNat n
theorem sIx_none (n d:Nat):sIx n d none=d:=rfl
theorem sIx_le (n d:Nat) (hd:d<=n) (o:Option Int):sIx n d o<=n:=by
  cases o with
  | none=>exact hd
  | some v =>
    show (if v < 0 then (v + (n:Int)).toNat else min v.toNat n)<=n
    by_cases hv:v < 0
    · rw [if_pos hv]; omega
    · rw [if_neg hv]; exact Nat.min_le_right _ _
theorem clip_eq (v:Int) (n d:Nat):(if v < 0 then max (v + (n:Int)) 0 else min v (n:Int))=((sIx n d (some v):Nat):Int):=by
  show (if v < 0 then max (v + (n:Int)) 0 else min v (n:Int))=(((if v < 0 then (v + (n:Int)).toNat else min v.toNat n):Nat):Int)
  by_cases hv:v < 0
  · simp only [if_pos hv]; omega
  · simp only [if_neg hv]; omega
theorem adjust_gen (lo hi:Option Int) (n:Nat):Builtin.Slice.sliceAdjust lo hi 1 (n:Int)=(((sIx n 0 lo:Nat):Int),((sIx n n hi:Nat):Int)):=by
  have h1:¬ ((1:Int) < 0):=by omega
  unfold Builtin.Slice.sliceAdjust
  simp only [h1,if_false]
  refine Prod.ext ?_ ?_
  · cases lo with
    | none=>rfl
    | some v=>exact clip_eq v n 0
  · cases hi with
    | none=>rfl
    | some v=>exact clip_eq v n n
theorem places_gen (i j:Nat):Builtin.Slice.slicePlaces (i:Int) (j:Int) 1=j - i:=by
  unfold Builtin.Slice.slicePlaces
  have h1:(1:Int) > 0:=by omega
  simp only [h1,if_true,Int.ediv_one]
  split <;> omega
theorem slicePart_ {v:Value} {o:Option Int} {Q:Option Int->Shared->Prop} (p:IsPart v o) (h:Q o s):wpAny (model prog w) A (Builtin.Slice.slicePartIndex v) Q E s:=by
  cases p with
  | none=>exact slicePart_none h
  | int i t=>exact slicePart_int h
theorem sliceApplied_gen {sl:Addr} {vl vu:Value} {lo hi:Option Int} {n:Nat} {Q:Int × Int × Nat->Shared->Prop} (hs:s.heap.IsSliceOf sl vl vu .none) (pl:IsPart vl lo) (pu:IsPart vu hi)
    (h:Q (((sIx n 0 lo:Nat):Int),1,sIx n n hi - sIx n 0 lo) s):wpAny (model prog w) A (Builtin.Slice.sliceApplied (.ref sl) (pure (n:Int))) Q E s:=by
  obtain ⟨os,hos,hcs,hds⟩:=id hs
  unfold Builtin.Slice.sliceApplied Builtin.Slice.sliceFields
  refine wpAny_bind (wpAny_bind (wpAny_field hos hds (x:=vl) rfl (wpAny_bind (wpAny_field hos hds (x:=vu) rfl (wpAny_bind (wpAny_field hos hds (x:=.none) rfl (wpAny_pure ?_)))))))
  refine wpAny_bind (slicePart_none ?_)
  show wpAny _ _ (if ((1:Int) == 0)=true then _ else _) _ _ s
  rw [if_neg (by decide)]
  refine wpAny_bind (slicePart_ pl (wpAny_bind (slicePart_ pu (wpAny_bind (wpAny_pure ?_)))))
  show wpAny _ _ (match Builtin.Slice.sliceAdjust lo hi 1 (n:Int) with | (lo,hi)=>pure (lo,(1:Int),Builtin.Slice.slicePlaces lo hi 1)) _ _ s
  rw [adjust_gen lo hi n]
  show wpAny _ _ (pure (((sIx n 0 lo:Nat):Int),(1:Int),Builtin.Slice.slicePlaces ((sIx n 0 lo:Nat):Int) ((sIx n n hi:Nat):Int) 1)) _ _ s
  rw [places_gen]
  exact wpAny_pure h
theorem pick_gen (xs:Array Value) (i k:Nat):((List.range k).filterMap fun (m:Nat)=>xs[((i:Int) + (m:Int) * 1).toNat]?).toArray=((xs.toList.drop i).take k).toArray:=by
  have e:(fun (m:Nat)=>xs[((i:Int) + (m:Int) * 1).toNat]?)=fun m=>xs[i + m]?:=by
    funext m
    have:((i:Int) + (m:Int) * 1).toNat=i + m:=by omega
    rw [this]
  rw [e]
  have:=pick_run xs i k
  rw [List.filterMap_map] at this
  have e2:((fun x=>xs[x]?) ∘ fun x=>i + x)=fun m=>xs[i + m]?:=rfl
  rw [e2] at this
  rw [this]
theorem getItem_tuple_cut {t sl:Addr} {items:Array Value} {vl vu:Value} {lo hi:Option Int} {Q:Value->Shared->Prop} (ht:IsTup s.heap t items) (hs:s.heap.IsSliceOf sl vl vu .none) (pl:IsPart vl lo) (pu:IsPart vu hi)
    (hw:¬ (sIx items.size 0 lo=0 /\ sIx items.size items.size hi=items.size))
    (h:Q (.ref s.heap.objs.size) { s with heap:=s.heap.push { cls:=.type "tuple",data:=.seq ((items.toList.drop (sIx items.size 0 lo)).take (sIx items.size items.size hi - sIx items.size 0 lo)).toArray } })
    (hsz:items.size<=sizeLine):wpAny (model prog w) A (getItem (.ref t) (.ref sl)) Q E s:=by
  have htake:sizeOk (.seq ((items.toList.drop (sIx items.size 0 lo)).take (sIx items.size items.size hi - sIx items.size 0 lo)).toArray):=by
    show ((items.toList.drop (sIx items.size 0 lo)).take (sIx items.size items.size hi - sIx items.size 0 lo)).toArray.size<=sizeLine
    rw [List.size_toArray,List.length_take,List.length_drop,Array.length_toList]
    omega
  have hj:sIx items.size items.size hi<=items.size:=sIx_le _ _ (Nat.le_refl _) hi
  obtain ⟨os,hos,hcs,hds⟩:=id hs
  have hTs:s.TypeIs (.ref sl) "slice":=⟨os,hos,hcs⟩
  unfold getItem
  try with_reducible refine wpAny_holding ?_
  first | refine wpAny_bind (wpAny_pure ?_) | skip
  refine wpAny_bind (wpAny_sequenceKey ht.typeIs (by decide) ?_)
  refine wpAny_bind (wpAny_callSpecial?_slot (name:=Str.ofString "__getitem__") ht.typeIs PyProof.Rows.slot_tuple_getitem
    (wpAny_call_entry PyProof.Rows.slot_tuple_getitem ht.typeIs entry_tuple_getitem ?_ (args_tuple_getitem _ _)))
  show wpAny _ _ (Builtin.Tuple.tupleItemsOf (.ref t) >>= _) _ _ s
  refine wpAny_bind (tupleItemsOf_ ht ?_)
  refine wpAny_bind (wpAny_typeOf hTs ?_)
  rw [if_pos (by decide)]
  refine wpAny_bind (sliceApplied_gen hs pl pu ?_)
  have hno:¬ ((((sIx items.size 0 lo:Nat):Int) == 0 && (1:Int) == 1 && (sIx items.size items.size hi - sIx items.size 0 lo) == items.size)=true):=by
    intro q
    rw [Bool.and_eq_true,Bool.and_eq_true] at q
    have q1:((sIx items.size 0 lo:Nat):Int)=0:=eq_of_beq q.1.1
    have q2:sIx items.size items.size hi - sIx items.size 0 lo=items.size:=eq_of_beq q.2
    exact hw ⟨by omega,by omega⟩
  show wpAny _ _ (if (((sIx items.size 0 lo:Nat):Int) == 0 && (1:Int) == 1 && (sIx items.size items.size hi - sIx items.size 0 lo) == items.size)=true then _ else _) _ _ s
  rw [if_neg hno,pick_gen]
  first
    | exact wpAny_bind (m:=Builtin.Tuple.tupleExact _) (wpAny_newObj_type (wpAny_pure ⟨_,rfl,wpAny_pure h⟩) htake)
    | exact wpAny_bind (m:=Builtin.Tuple.tupleExact _) (wpAny_newObj_type (wpAny_bind (wpAny_pure (wpAny_pure ⟨_,rfl,wpAny_pure h⟩))) htake)
    | exact wpAny_bind (wpAny_bind (m:=Builtin.Tuple.tupleExact _) (wpAny_newObj_type (wpAny_pure (wpAny_pure ⟨_,rfl,wpAny_pure h⟩)) htake))
    | exact wpAny_bind (wpAny_bind (m:=Builtin.Tuple.tupleExact _) (wpAny_newObj_type (wpAny_pure ⟨_,rfl,wpAny_pure h⟩) htake))
end
end HT
namespace L2
open PySem PySem.Spec PyProof.Rows
noncomputable abbrev TO:=St->Hp->(Option Int->Hp->Prop)->Prop
noncomputable def PO (X:Cx) (e:Option Expr) (t:TO):Prop :=
  ∀ (pins:List (Addr × Obj)) (s:Shared) (σ:St) (H:Hp) (Q:Option Int->Hp->Prop),Inv X pins σ H s->t σ H Q ->
    wpAny (model X.prog X.w) X.A (evalPart e X.env) (fun u s'=>∃ o H',Inv X pins σ H' s' /\ IsPart u o /\ Q o H') X.xe s
noncomputable def tNoPart:TO:=fun _ H Q=>Q none H
noncomputable def tPart (t:TE):TO:=fun σ H Q=>t σ H fun x H1=>∃ i,x=.int i /\ Q (some i) H1
section
variable {X:Cx} {e:Expr} {te:TE} {lo hi:Option Expr} {tl th:TO} {pos p2:Pos}
theorem po_none:PO X none tNoPart:=by
  intro pins s σ H Q I h
  rw [evalPart_none]
  exact wpAny_pure ⟨none,H,I,.none,h⟩
theorem po_some (h:PE X e te):PO X (some e) (tPart te):=by
  intro pins s σ H Q I hw
  rw [evalPart_some]
  refine thn (h pins s σ H _ I hw) fun u s1 ⟨x,H1,I1,r1,q1⟩=>?_
  obtain ⟨i,rfl,q⟩:=q1
  obtain ⟨t,rfl⟩:=r1
  exact ⟨some i,H1,I1,.int i t,q⟩
noncomputable def SlR (X:Cx) (r:V->Option Int->Option Int->Hp->VK->Prop):Prop :=
  ∀ (pins:List (Addr × Obj)) (s:Shared) (σ:St) (H:Hp) (x:V) (v vl vu:Value) (lo hi:Option Int) (sl:Addr) (Q:VK),Inv X pins σ H s->RelV x v->s.heap.IsSliceOf sl vl vu .none->IsPart vl lo->IsPart vu hi->r x lo hi H Q ->
    ∃ T id,typeLookup (.type T) "__getitem__"=pure (some (.builtin id)) /\ s.TypeIs v T /\ wpAny (model X.prog X.w) X.A (getItem v (.ref sl)) (EP X pins σ Q) X.xe s
noncomputable def tSl (r:V->Option Int->Option Int->Hp->VK->Prop) (te:TE) (tl th:TO):TE:=fun σ H Q=>te σ H fun x H1=>tl σ H1 fun l H2=>th σ H2 fun u H3=>r x l u H3 Q
theorem pe_slice {r:V->Option Int->Option Int->Hp->VK->Prop} (hr:SlR X r) (he:PE X e te) (hl:PO X lo tl) (hu:PO X hi th):PE X (.Subscript e (.Slice lo hi none p2) pos) (tSl r te tl th):=by
  intro pins s σ H Q I h
  refine Subscript_ (thn (he pins s σ H _ I h) fun v s1 ⟨x,H1,I1,r1,q1⟩=>?_)
  refine wpAny_Slice (thn (hl pins s1 σ H1 _ I1 q1) fun vl s2 ⟨l,H2,I2,pl,q2⟩=>thn (hu pins s2 σ H2 _ I2 q2) fun vu s3 ⟨u,H3,I3,pu,q3⟩=>?_)
  rw [evalPart_none]
  refine wpAny_pure ?_
  have I4:Inv X pins σ H3 { s3 with heap:=s3.heap.push { cls:=.type "slice",data:=.fields #[vl,vu,.none] } }:=I3.kept (t':=s3.toks) fun b ob q=>Heap.get?_push_of_some _ q
  obtain ⟨T,id,hT,ht,hg⟩:=hr pins { s3 with heap:=s3.heap.push { cls:=.type "slice",data:=.fields #[vl,vu,.none] } } σ H3 x v vl vu l u s3.heap.objs.size Q I4 r1 (Heap.IsSliceOf.new ..) pl pu q3
  show wpAny (model X.prog X.w) X.A (subscriptTail e (.Slice lo hi none p2) v (.ref s3.heap.objs.size)) (EP X pins σ Q) X.xe { s3 with heap:=s3.heap.push { cls:=.type "slice",data:=.fields #[vl,vu,.none] } }
  exact tail_any (ops:=[.ref s3.heap.objs.size,v]) ht hT hg (by with_unfolding_all rfl)
noncomputable def cutV (xs:List V) (lo hi:Option Int):List V:=(xs.drop (HT.sIx xs.length 0 lo)).take (HT.sIx xs.length xs.length hi - HT.sIx xs.length 0 lo)
theorem cutV_length (xs:List V) (lo hi:Option Int):(cutV xs lo hi).length<=xs.length:=by
  unfold cutV
  rw [List.length_take,List.length_drop]
  omega
noncomputable def rSlT (K:PySem.W.Frag):V->Option Int->Option Int->Hp->VK->Prop:=fun x lo hi H Q=>∃ a xs,x=.ref a /\ SqT K H a xs /\
  ¬ (HT.sIx xs.length 0 lo=0 /\ HT.sIx xs.length xs.length hi=xs.length) /\ ∀ p,H p=none->Q (.ref p) (upd H p (.tup (cutV xs lo hi)))
theorem sl_tup:SlR X (rSlT X.K):=by
  intro pins s σ H x v vl vu lo hi sl Q I rx hs pl pu h
  obtain ⟨a,xs,rfl,hx,hw,q⟩:=h
  cases rx
  obtain ⟨its,r,ht,hz⟩:=I.tuple hx
  have hlen:its.toArray.size=xs.length:=by rw [List.size_toArray]; exact r.length.symm
  refine ⟨"tuple",_,PyProof.Rows.slot_tuple_getitem.lookup,ht.typeIs,?_⟩
  refine HT.getItem_tuple_cut ht hs pl pu (by rw [hlen]; exact hw) ?_ (by rw [hlen]; exact hz)
  rw [hlen]
  refine ⟨.ref s.heap.objs.size,_,I.laid (t':=s.toks) (o:=.tup (cutV xs lo hi)) (fun b ob q=>Heap.get?_push_of_some _ q) (Nat.le_refl _) ?_,rfl,q _ (I.hok.fresh (Nat.le_refl _))⟩
  exact ⟨Nat.le_trans (cutV_length xs lo hi) hz,_,(r.drop (HT.sIx xs.length 0 lo)).take (HT.sIx xs.length xs.length hi - HT.sIx xs.length 0 lo),IsTup.new _ _⟩
noncomputable def rCatT (K:PySem.W.Frag):R2:=fun x y H Q=>∃ a b xs ys,x=.ref a /\ y=.ref b /\ SqT K H a xs /\ SqT K H b ys /\ xs ≠ [] /\ xs.length + ys.length<=sizeLine /\
  (ys=[]->Q (.ref a) H) /\ (ys ≠ []->∀ p,H p=none->Q (.ref p) (upd H p (.tup (xs ++ ys))))
theorem Vals.nil_iff {xs:List V} {us:List Value} (r:Vals xs us):us=[] ↔ xs=[]:=by
  cases r with
  | nil=>simp
  | cons _ _=>simp
theorem op_catT:OpR X (binaryOp .Add) (rCatT X.K):=by
  intro pins s σ H x y v u Q I rx ry h
  obtain ⟨a,b,xs,ys,rfl,rfl,ha,hb,hx,hz,q1,q2⟩:=h
  cases rx
  cases ry
  obtain ⟨its,r1,p1,_⟩:=I.tuple ha
  obtain ⟨its2,r2,p2,_⟩:=I.tuple hb
  refine HT.cat_tup p1 p2 (fun z=>hx (r1.nil_iff.mp z)) (fun z=>⟨.ref a,H,I,rfl,q1 (r2.nil_iff.mp z)⟩) (fun z=>?_) (by rw [<- r1.length,<- r2.length]; exact hz)
  refine ⟨.ref s.heap.objs.size,_,I.laid (t':=s.toks) (o:=.tup (xs ++ ys)) (fun b ob q=>Heap.get?_push_of_some _ q) (Nat.le_refl _) ?_,rfl,q2 (fun w=>z (r2.nil_iff.mpr w)) _ (I.hok.fresh (Nat.le_refl _))⟩
  exact ⟨by rw [List.length_append]; exact hz,_,r1.append r2,IsTup.new _ _⟩
end
end L2
namespace L2
open PySem PySem.Spec PyProof.Rows
noncomputable def ixN (n:Nat) (i:Int):Option Nat:=if 0<=i then (if i < n then some i.toNat else none) else if -(n:Int)<=i then some (i + n).toNat else none
noncomputable def atI {α:Type} (xs:List α) (i:Int):Option α:=(ixN xs.length i).bind fun j=>xs[j]?
theorem ixN_seq {n:Nat} {i:Int} {j:Nat} (h:ixN n i=some j):seqIndex? i n=some j /\ j < n /\ -(n:Int)<=i /\ i < n:=by
  unfold ixN at h
  by_cases h0:0<=i
  · rw [if_pos h0] at h
    by_cases h1:i < n
    · rw [if_pos h1] at h
      have e:i.toNat=j:=Option.some.inj h
      exact ⟨by rw [seqIndex_of h0 h1,e],by omega,by omega,h1⟩
    · rw [if_neg h1] at h; cases h
  · rw [if_neg h0] at h
    by_cases h1:-(n:Int)<=i
    · rw [if_pos h1] at h
      have e:(i + n).toNat=j:=Option.some.inj h
      exact ⟨by rw [seqIndex_neg (by omega) h1,e],by omega,h1,by omega⟩
    · rw [if_neg h1] at h; cases h
theorem atI_get {α:Type} {xs:List α} {i:Int} {v:α} (h:atI xs i=some v):∃ j,seqIndex? i xs.length=some j /\ xs[j]?=some v /\ j < xs.length /\ -(xs.length:Int)<=i /\ i < xs.length:=by
  unfold atI at h
  cases e:ixN xs.length i with
  | none=>rw [e] at h; cases h
  | some j =>
    rw [e] at h
    obtain ⟨h1,h2,h3,h4⟩:=ixN_seq e
    exact ⟨j,h1,h,h2,h3,h4⟩
theorem atI_nat {α:Type} {xs:List α} {j:Nat} {v:α} (h:xs[j]?=some v):atI xs (j:Int)=some v:=by
  have hj:j < xs.length:=(List.getElem?_eq_some_iff.mp h).1
  have e:ixN xs.length (j:Int)=some j:=by
    unfold ixN
    rw [if_pos (by omega),if_pos (by omega)]; simp
  unfold atI; rw [e]; exact h
noncomputable def PlainIx (b:Expr):Prop:=∀ o i,subscripted b false o i=operate [o,i] (getItem o i)
noncomputable def IxR (X:Cx) (r:R2):Prop :=
  ∀ (value slice:Expr) (pins:List (Addr × Obj)) (s:Shared) (σ:St) (H:Hp) (x y:V) (v u:Value) (Q:VK),Inv X pins σ H s->RelV x v->RelV y u->r x y H Q ->
    subscripted slice false v u=operate [v,u] (getItem v u)->wpAny (model X.prog X.w) X.A (subscriptTail value slice v u) (EP X pins σ Q) X.xe s
noncomputable def MtR (X:Cx) (id:String) (r:V->List V->Hp->VK->Prop):Prop :=
  ∀ (pins:List (Addr × Obj)) (s:Shared) (σ:St) (H:Hp) (x:V) (xs:List V) (v:Value) (us:List Value) (Q:VK),Inv X pins σ H s->RelV x v->Vals xs us->r x xs H Q ->
    wpAny (model X.prog X.w) X.A (call (.builtin id) (v :: us)) (EP X pins σ Q) X.xe s
section
variable {X:Cx} {a b:Expr} {ta tb:TE} {pos:Pos}
theorem pe_ix {r:R2} (hr:IxR X r) (ha:PE X a ta) (hb:PE X b tb) (hs:PlainIx b):PE X (.Subscript a b pos) (tOp r ta tb):=by
  intro pins s σ H Q I h
  exact Subscript_ (binT ha hb I h fun v u s2 x y H2 I2 rx ry q=>hr a b pins s2 σ H2 x y v u Q I2 rx ry q (hs _ _))
noncomputable def rIxL (K:PySem.W.Frag):R2:=fun x y H Q=>∃ p xs i v,x=.ref p /\ y=.int i /\ SqL K H p xs /\ atI xs i=some v /\ Q v H
noncomputable def rIxT (K:PySem.W.Frag):R2:=fun x y H Q=>∃ p xs i v,x=.ref p /\ y=.int i /\ SqT K H p xs /\ atI xs i=some v /\ Q v H
noncomputable def rIxS:R2:=fun x y H Q=>∃ z i c,x=.str z /\ y=.int i /\ z.length<=sizeLine /\ atI z.cps.toList i=some c /\ Q (.str ⟨#[c]⟩) H
theorem ix_list:IxR X (rIxL X.K):=by
  intro value slice pins s σ H x y v u Q I rx ry h hs
  obtain ⟨p,xs,i,z,rfl,rfl,hq,he,q⟩:=h
  cases rx
  obtain ⟨t,rfl⟩:=ry
  obtain ⟨its,r,pl,hz⟩:=I.list hq
  obtain ⟨j,h1,h2,h3,h4,h5⟩:=atI_get he
  obtain ⟨w,ew,rw'⟩:=r.get h2
  have hl:=r.length
  have hn:=line63
  have fin:EP X pins σ Q w s:=⟨z,H,I,rw',q⟩
  by_cases h0:0<=i
  · have hj:i.toNat=j:=by
      rw [seqIndex_of h0 h5] at h1
      exact Option.some.inj h1
    exact item_listR pl.isList h0 (by omega) (by rw [hj]; simpa using ew) fin hs
  · have hj:(i + (its.toArray.size:Int)).toNat=j:=by
      rw [seqIndex_neg (by omega) h4] at h1
      rw [List.size_toArray,<- hl]
      exact Option.some.inj h1
    exact subscriptTail_builtinR (x:=w) pl.isList.typeIs slot_list_getitem.lookup
      (wpAny_getItem_list_neg (Q:=fun r s'=>r=w /\ EP X pins σ Q r s') pl.isList (by omega) (by rw [List.size_toArray] <;> omega) (by omega) (by rw [hj]; simpa using ew) ⟨rfl,fin⟩) hs
theorem ix_tup:IxR X (rIxT X.K):=by
  intro value slice pins s σ H x y v u Q I rx ry h hs
  obtain ⟨p,xs,i,z,rfl,rfl,hq,he,q⟩:=h
  cases rx
  obtain ⟨t,rfl⟩:=ry
  obtain ⟨its,r,pl,hz⟩:=I.tuple hq
  obtain ⟨j,h1,h2,h3,h4,h5⟩:=atI_get he
  obtain ⟨w,ew,rw'⟩:=r.get h2
  have hl:=r.length
  have hn:=line63
  have fin:EP X pins σ Q w s:=⟨z,H,I,rw',q⟩
  exact subscriptTail_builtinR (x:=w) pl.typeIs slot_tuple_getitem.lookup
    (getItem_tuple (j:=j) (Q:=fun r s'=>r=w /\ EP X pins σ Q r s') pl (by omega) (by omega) (by rw [List.size_toArray,<- hl]; exact h1) (by simpa using ew) ⟨rfl,fin⟩) hs
theorem ix_str:IxR X rIxS:=by
  intro value slice pins s σ H x y v u Q I rx ry h hs
  obtain ⟨z,i,c,rfl,rfl,hz,he,q⟩:=h
  obtain ⟨t,rfl⟩:=rx
  obtain ⟨t',rfl⟩:=ry
  obtain ⟨j,h1,h2,h3,h4,h5⟩:=atI_get he
  have hl:z.cps.toList.length=z.length:=by simp [Str.length]
  rw [hl] at h1 h4 h5
  have hn:=line63
  exact tail_any (typeIs_str s z t) slot_str_getitem.lookup (getItem_str (c:=c) (by
    have e1:decide (i < -(2 ^ 63:Int))=false:=decide_eq_false (by omega)
    have e2:decide (i >= 2 ^ 63)=false:=decide_eq_false (by omega)
    rw [e1,e2,Bool.or_false]) (by rw [h1]; simpa using h2) ⟨.str ⟨#[c]⟩,H,I.tok _,⟨_,rfl⟩,q⟩) hs
theorem slice_bounds (lo hi:Option Int) (n:Nat):(sliceBounds lo hi none n).1=((HT.sIx n 0 lo:Nat):Int) /\ (sliceBounds lo hi none n).2.1=((HT.sIx n n hi:Nat):Int) /\ (sliceBounds lo hi none n).2.2=1:=by
  refine ⟨?_,?_,rfl⟩
  · cases lo with
    | none=>simp [sliceBounds,HT.sIx]
    | some i =>
      simp only [sliceBounds,HT.sIx,Option.getD_none,show (1:Int) > 0 by decide,if_true]
      by_cases h:i < 0
      · simp only [h,if_true] <;> omega
      · simp only [h,if_false] <;> omega
  · cases hi with
    | none=>simp [sliceBounds,HT.sIx]
    | some i =>
      simp only [sliceBounds,HT.sIx,Option.getD_none,show (1:Int) > 0 by decide,if_true]
      by_cases h:i < 0
      · simp only [h,if_true] <;> omega
      · simp only [h,if_false] <;> omega
theorem slicePick_cut (its:List Value) (lo hi:Option Int):slicePick its.toArray lo hi none=((its.drop (HT.sIx its.length 0 lo)).take (HT.sIx its.length its.length hi - HT.sIx its.length 0 lo)).toArray:=by
  obtain ⟨h1,h2,h3⟩:=slice_bounds lo hi its.toArray.size
  unfold slicePick
  rw [h1,h2,h3]
  simp only [sliceRange_one,pick_run,List.size_toArray] <;> rfl
noncomputable def rSlL (K:PySem.W.Frag):V->Option Int->Option Int->Hp->VK->Prop:=fun x lo hi H Q=>∃ a xs,x=.ref a /\ SqL K H a xs /\ ∀ p,H p=none->Q (.ref p) (upd H p (.lst (cutV xs lo hi)))
theorem sl_list:SlR X (rSlL X.K):=by
  intro pins s σ H x v vl vu lo hi sl Q I rx hs pl pu h
  obtain ⟨a,xs,rfl,hx,q⟩:=h
  cases rx
  obtain ⟨its,r,ht,hz⟩:=I.list hx
  have hlen:=r.length
  refine ⟨"list",_,slot_list_getitem.lookup,ht.isList.typeIs,?_⟩
  refine wpAny_getItem_list_slice ht.isList hs pl pu .none (by simp) ?_ (by rw [List.size_toArray] <;> omega)
  rw [slicePick_cut,<- hlen]
  refine ⟨.ref s.heap.objs.size,_,I.laid (t':=s.toks) (o:=.lst (cutV xs lo hi)) (fun b ob q=>Heap.get?_push_of_some _ q) (Nat.le_refl _) ?_,rfl,q _ (I.hok.fresh (Nat.le_refl _))⟩
  exact ⟨Nat.le_trans (cutV_length xs lo hi) hz,_,0,(r.drop (HT.sIx xs.length 0 lo)).take (HT.sIx xs.length xs.length hi - HT.sIx xs.length 0 lo),Heap.get?_push_size _ rfl⟩
noncomputable def flatV:V->Bool
  | .non=>true
  | .bl _=>true
  | .int _=>true
  | .str _=>true
  | _=>false
noncomputable def eqV:V->V->Bool
  | .non,.non=>true
  | .bl a,.bl b=>a == b
  | .bl a,.int b=>(if a then 1 else 0) == b
  | .int a,.bl b=>a == (if b then 1 else 0)
  | .int a,.int b=>a == b
  | .str a,.str b=>a == b
  | _,_=>false
theorem eqAt_V {A:Around} {s:Shared} {y x:V} {u v:Value} (ry:RelV y u) (rx:RelV x v) (fy:flatV y=true) (fx:flatV x=true):SeqAt.EqAt A s u v (eqV y x):=by
  cases y with
  | non =>
    cases ry
    cases x with
    | non=>cases rx; exact SeqAt.EqAt.same _
    | bl b=>cases rx; exact SeqAt.EqAt.none_bool b
    | int b=>obtain ⟨t,rfl⟩:=rx; exact SeqAt.EqAt.none_int b t
    | str b=>obtain ⟨t,rfl⟩:=rx; exact SeqAt.EqAt.none_str b t
    | _=>exact absurd (show false=true from fx) Bool.false_ne_true
  | bl a =>
    cases ry
    cases x with
    | non=>cases rx; exact SeqAt.EqAt.bool_none a
    | bl b=>cases rx; exact SeqAt.EqAt.bool_bool a b
    | int b=>obtain ⟨t,rfl⟩:=rx; exact SeqAt.EqAt.bool_int a b t
    | str b=>obtain ⟨t,rfl⟩:=rx; exact SeqAt.EqAt.bool_str a b t
    | _=>exact absurd (show false=true from fx) Bool.false_ne_true
  | int a =>
    obtain ⟨t',rfl⟩:=ry
    cases x with
    | non=>cases rx; exact SeqAt.EqAt.int_none a t'
    | bl b=>cases rx; exact SeqAt.EqAt.int_bool a t' b
    | int b=>obtain ⟨t,rfl⟩:=rx; exact SeqAt.EqAt.int_int a t' b t
    | str b=>obtain ⟨t,rfl⟩:=rx; exact SeqAt.EqAt.int_str a t' b t
    | _=>exact absurd (show false=true from fx) Bool.false_ne_true
  | str a =>
    obtain ⟨t',rfl⟩:=ry
    cases x with
    | non=>cases rx; exact SeqAt.EqAt.str_none a t'
    | bl b=>cases rx; exact SeqAt.EqAt.str_bool a t' b
    | int b=>obtain ⟨t,rfl⟩:=rx; exact SeqAt.EqAt.str_int a t' b t
    | str b=>obtain ⟨t,rfl⟩:=rx; exact SeqAt.EqAt.str_str a t' b t
    | _=>exact absurd (show false=true from fx) Bool.false_ne_true
  | _=>exact absurd (show false=true from fy) Bool.false_ne_true
noncomputable def eqU (x:V) (u:Value):Bool:=match u with
  | .none=>eqV .non x
  | .bool b=>eqV (.bl b) x
  | .int i _=>eqV (.int i) x
  | .str z _=>eqV (.str z) x
  | _=>false
theorem eqU_of {x y:V} {u:Value} (r:RelV y u) (f:flatV y=true):eqU x u=eqV y x:=by
  cases y with
  | non=>cases r; rfl
  | bl b=>cases r; rfl
  | int i=>obtain ⟨t,rfl⟩:=r; rfl
  | str z=>obtain ⟨t,rfl⟩:=r; rfl
  | _=>exact absurd (show false=true from f) Bool.false_ne_true
theorem any_eqU {x:V}:∀ {xs:List V} {us:List Value},Vals xs us->xs.all flatV=true->us.any (eqU x)=xs.any fun y=>eqV y x
  | _,_,.nil,_=>rfl
  | y :: xs,u :: us,.cons r t,f=>by
    rw [List.all_cons,Bool.and_eq_true] at f
    rw [List.any_cons,List.any_cons,eqU_of r f.1,any_eqU t f.2]
theorem mem_eqAt {A:Around} {s:Shared} {x:V} {v:Value} (rx:RelV x v) (fx:flatV x=true):∀ {xs:List V} {us:List Value},Vals xs us->xs.all flatV=true->∀ u ∈ us,SeqAt.EqAt A s u v (eqU x u)
  | _,_,.nil,_=>fun u hu=>by cases hu
  | y :: xs,u :: us,.cons r t,f=>fun u' hu=>by
    rw [List.all_cons,Bool.and_eq_true] at f
    rcases List.mem_cons.mp hu with rfl | hu
    · rw [eqU_of r f.1]; exact eqAt_V r rx f.1 fx
    · exact mem_eqAt rx fx t f.2 u' hu
noncomputable def inV (x:V) (xs:List V):Bool:=xs.any fun y=>eqV y x
noncomputable def rIn (K:PySem.W.Frag) (neg:Bool):R2:=fun x y H Q=>∃ p xs,y=.ref p /\ (SqL K H p xs \/ SqT K H p xs) /\ flatV x=true /\ xs.all flatV=true /\ Q (.bl (if neg then !inV x xs else inV x xs)) H
theorem op_in_seq:OpR X (compareOp .In) (rIn X.K false):=by
  intro pins s σ H x y v u Q I rx ry h
  obtain ⟨p,xs,rfl,hq,fx,fs,q⟩:=h
  cases ry
  rcases hq with hq | hq
  · obtain ⟨its,r,pl,hz⟩:=I.list hq
    refine SeqAt.in_listAt (eqU x) pl.isList (fun w hw=>mem_eqAt rx fx r fs w (by simpa using hw)) ⟨.bl _,H,I,rfl,?_⟩
    rw [show its.toArray.any (eqU x)=its.any (eqU x) by simp,any_eqU r fs]
    exact q
  · obtain ⟨its,r,pl,hz⟩:=I.tuple hq
    refine SeqAt.in_tupleAt (eqU x) pl (fun w hw=>mem_eqAt rx fx r fs w (by simpa using hw)) ⟨.bl _,H,I,rfl,?_⟩
    rw [show its.toArray.any (eqU x)=its.any (eqU x) by simp,any_eqU r fs]
    exact q
theorem op_notIn_seq:OpR X (compareOp .NotIn) (rIn X.K true):=by
  intro pins s σ H x y v u Q I rx ry h
  obtain ⟨p,xs,rfl,hq,fx,fs,q⟩:=h
  cases ry
  rcases hq with hq | hq
  · obtain ⟨its,r,pl,hz⟩:=I.list hq
    refine SeqAt.notIn_listAt (eqU x) pl.isList (fun w hw=>mem_eqAt rx fx r fs w (by simpa using hw)) ⟨.bl _,H,I,rfl,?_⟩
    rw [show its.toArray.any (eqU x)=its.any (eqU x) by simp,any_eqU r fs]
    exact q
  · obtain ⟨its,r,pl,hz⟩:=I.tuple hq
    refine SeqAt.notIn_tupleAt (eqU x) pl (fun w hw=>mem_eqAt rx fx r fs w (by simpa using hw)) ⟨.bl _,H,I,rfl,?_⟩
    rw [show its.toArray.any (eqU x)=its.any (eqU x) by simp,any_eqU r fs]
    exact q
theorem op_notIn_str:OpR X (compareOp .NotIn) (fun x y H Q=>∃ i j,x=.str i /\ y=.str j /\ Q (.bl (!(!(Builtin.Str.occurrences j i 0 j.length 1).isEmpty))) H):=by
  intro pins s σ H x y v u Q I rx ry h
  obtain ⟨i,j,rfl,rfl,q⟩:=h
  obtain ⟨t,rfl⟩:=rx
  obtain ⟨t',rfl⟩:=ry
  exact notIn_str ⟨.bl _,H,I,rfl,q⟩
theorem call_list_of:CallR X (.type "list") (fun xs H Q=>∃ p ys,xs=[.ref p] /\ (SqL X.K H p ys \/ SqT X.K H p ys) /\ ∀ l,H l=none->Q (.ref l) (upd H l (.lst ys))):=by
  intro pins s σ H xs us Q I r h
  obtain ⟨p,ys,rfl,hq,q⟩:=h
  obtain ⟨u,rfl,rx⟩:=vals1 r
  cases rx
  have fin:∀ (its:List Value),Vals ys its->ys.length<=sizeLine->∀ (h':Heap) (c':Nat),(∀ b o',s.heap.get? b=some o'->h'.get? b=some o') ->
      h'.get? s.heap.objs.size=some { cls:=.type "list",dict:=none,data:=.seq its.toArray c',slots:=#[] }->EP X pins σ Q (.ref s.heap.objs.size) { s with heap:=h' }:=fun its r' hz h' c' kp e =>
    ⟨.ref s.heap.objs.size,_,I.laid (t':=s.toks) kp (Nat.le_refl _) (show ObjOk X.prog X.w _ h' _ (.lst ys) from ⟨hz,its,c',r',e⟩),rfl,q _ (I.hok.fresh (Nat.le_refl _))⟩
  rcases hq with hq | hq
  · obtain ⟨its,r',pl,hz⟩:=I.list hq
    have hlen:=r'.length
    obtain ⟨o,ho,hc,n,hd⟩:=pl.isList
    exact call_list_seq p (.inl rfl) ho hc hd (fun h' c' kp e=>fin its r' hz h' c' kp e) (by simp only [List.size_toArray] <;> omega)
  · obtain ⟨its,r',pl,hz⟩:=I.tuple hq
    have hlen:=r'.length
    obtain ⟨o,ho,hc,n,hd⟩:=pl
    exact call_list_seq p (.inr rfl) ho hc hd (fun h' c' kp e=>fin its r' hz h' c' kp e) (by simp only [List.size_toArray] <;> omega)
theorem call_tuple_of:CallR X (.type "tuple") (fun xs H Q=>∃ p ys,xs=[.ref p] /\ ((SqL X.K H p ys /\ ∀ l,H l=none->Q (.ref l) (upd H l (.tup ys))) \/ (SqT X.K H p ys /\ Q (.ref p) H))):=by
  intro pins s σ H xs us Q I r h
  obtain ⟨p,ys,rfl,h⟩:=h
  obtain ⟨u,rfl,rx⟩:=vals1 r
  cases rx
  rcases h with ⟨hq,q⟩ | ⟨hq,q⟩
  · obtain ⟨its,r',pl,hz⟩:=I.list hq
    have hlen:=r'.length
    refine call_tuple_list pl.isList (fun h' kp=>?_) (by simp only [List.size_toArray] <;> omega)
    have I1:Inv X pins σ H { s with heap:=h' }:=I.kept (t':=s.toks) kp
    have I2:Inv X pins σ (upd H h'.objs.size (.tup ys)) { s with heap:=h'.push { cls:=.type "tuple",data:=.seq its.toArray } } :=
      I1.laid (t':=s.toks) (fun b o e=>Heap.get?_push_of_some _ e) (Nat.le_refl _) (show ObjOk X.prog X.w _ _ _ (.tup ys) from ⟨hz,its,r',IsTup.new _ _⟩)
    exact ⟨.ref h'.objs.size,_,I2,rfl,q _ (I1.hok.fresh (Nat.le_refl _))⟩
  · obtain ⟨its,r',pl,hz⟩:=I.tuple hq
    exact call_tuple_same pl ⟨.ref p,H,I,rfl,q⟩
noncomputable def tyV (K:PySem.W.Frag) (T:String) (x:V) (H:Hp):Prop:=match x with
  | .str _=>T="str"
  | .int _=>T="int"
  | .ref p=>(T="list" /\ ∃ xs,SqL K H p xs) \/ (T="tuple" /\ ∃ o,K.lookup p=some o /\ o.cls=.type "tuple" /\ o.dict=none) \/
      (T="dict" /\ ((∃ kvs,H p=some (.dK kvs)) \/ ∃ kvs,H p=some (.dT kvs))) \/ (T="set" /\ ∃ S n,H p=some (.set S n))
  | _=>False
theorem tyV_is {pins:List (Addr × Obj)} {σ:St} {H:Hp} {s:Shared} {T:String} {x:V} {v:Value} (I:Inv X pins σ H s) (r:RelV x v) (ty:tyV X.K T x H) :
    s.TypeIs v T /\ ∀ a,v=.ref a->∃ ob,s.heap.get? a=some ob /\ ob.dict=none:=by
  cases x with
  | str z =>
    obtain ⟨t,rfl⟩:=r
    cases (show T="str" from ty)
    exact ⟨typeIs_str s z t,fun _ e=>nomatch e⟩
  | int i =>
    obtain ⟨t,rfl⟩:=r
    cases (show T="int" from ty)
    exact ⟨typeIs_int s i t,fun _ e=>nomatch e⟩
  | ref p =>
    cases r
    rcases ty with ⟨rfl,xs,hq⟩ | ⟨rfl,o,hk,hc,hd⟩ | ⟨rfl,hk⟩ | ⟨rfl,S,n,hk⟩
    · obtain ⟨its,_,pl,_⟩:=I.list hq
      refine ⟨pl.isList.typeIs,fun a e=>?_⟩
      cases e
      obtain ⟨o,n,e,c,hd,_⟩:=pl
      exact ⟨o,e,hd⟩
    · refine ⟨⟨o,I.kIn p o hk,hc⟩,fun a e=>?_⟩
      cases e
      exact ⟨o,I.kIn _ o hk,hd⟩
    · have z:∃ o,s.heap.get? p=some o /\ o.ExactDict:=by
        rcases hk with ⟨kvs,hk⟩ | ⟨kvs,hk⟩
        · obtain ⟨_,_,_,_,o,_,_,e,ex,_⟩:=I.hok p _ hk
          exact ⟨o,e,ex⟩
        · obtain ⟨_,_,_,_,o,_,_,e,ex,_⟩:=I.hok p _ hk
          exact ⟨o,e,ex⟩
      obtain ⟨o,e,ex⟩:=z
      refine ⟨⟨o,e,ex.1⟩,fun a e2=>?_⟩
      cases e2
      exact ⟨o,e,ex.2.1⟩
    · obtain ⟨o,_,_,_,e,ex,_⟩:=I.hok p _ hk
      refine ⟨⟨o,e,ex.1⟩,fun a e2=>?_⟩
      cases e2
      exact ⟨o,e,ex.2.1⟩
  | _=>exact False.elim ty
noncomputable def tBM0 (K:PySem.W.Frag) (T:String) (r:V->List V->Hp->VK->Prop) (to:TE):TE:=fun σ H Q=>to σ H fun x H1=>tyV K T x H1 /\ r x [] H1 Q
noncomputable def tBM (K:PySem.W.Frag) (T:String) (r:V->List V->Hp->VK->Prop) (to:TE) (t:TA):TE:=fun σ H Q=>to σ H fun x H1=>tyV K T x H1 /\ t σ H1 fun xs H2=>r x xs H2 Q
variable {o e:Expr} {es:List Expr} {to:TE} {t:TA} {name:Str} {apos cpos:Pos} {T id:String} {r:V->List V->Hp->VK->Prop}
theorem pe_bm0 (pa:PlainAttrs T) (slot:Slot T name id) (hty:typeOf (.builtin id)=pure (.type "method_descriptor")) (hm:MtR X id r) (ho:PE X o to)
    (hbase:attributeBase o name X.env (eval o X.env)=eval o X.env:=by rfl) (hline:(apos.endLine == cpos.line)=true:=by rfl):PE X (.Call (.Attribute o name apos) [] [] cpos) (tBM0 X.K T r to):=by
  intro pins s σ H Q I h
  refine wpAny_Call_method0_late hbase hline (thn (ho pins s σ H _ I h) fun v s1 ⟨x,H1,I1,r1,ty,q1⟩=>?_)
  obtain ⟨h1,h2⟩:=tyV_is I1 r1 ty
  exact ⟨T,id,pa,slot,hty,h1,h2,Calls.callWith_builtin rfl (PySem.evalArgs_none (hm pins s1 σ H1 x [] v [] Q I1 r1 .nil q1))⟩
theorem pe_bm (pa:PlainAttrs T) (slot:Slot T name id) (hty:typeOf (.builtin id)=pure (.type "method_descriptor")) (hm:MtR X id r) (ho:PE X o to) (ha:PA X (e :: es) t)
    (hbase:attributeBase o name X.env (eval o X.env)=eval o X.env:=by rfl)
    (hfew:((backTo cpos (starEach (e :: es) X.env)).all (fun x=>!x.1) && (backToKw cpos (keywordEach [] X.env)).all (fun x=>x.1.isSome)
      && decide ((e :: es).length + ([]:List Keyword).length + (if ([]:List Keyword).isEmpty then 0 else 1) < 30))=true:=by rfl)
    (hline:(apos.endLine == cpos.line)=true:=by rfl) (hs:starEach (e :: es) X.env=(false,eval e X.env) :: starEach es X.env:=by rfl) (hplain:(backTo cpos (starEach es X.env)).any (·.1)=false:=by rfl) :
    PE X (.Call (.Attribute o name apos) (e :: es) [] cpos) (tBM X.K T r to t):=by
  intro pins s σ H Q I h
  refine wpAny_Call_method_late hbase hfew hline rfl (thn (ho pins s σ H _ I h) fun v s1 ⟨x,H1,I1,r1,ty,q1⟩=>?_)
  obtain ⟨h1,h2⟩:=tyV_is I1 r1 ty
  refine ⟨T,id,pa,slot,hty,h1,h2,?_⟩
  have hA:=ha cpos pins s1 σ H1 _ I1 q1
  rw [hs] at hA ⊢
  refine Calls.callWith_builtin (by show (false || (backTo cpos (starEach es X.env)).any (·.1))=false; rw [hplain] <;> rfl) (Calls.evalArgs_plain ?_)
  exact thn hA fun us s2 ⟨vs,H2,I2,r2,q2⟩=>hm pins s2 σ H2 x vs v us Q I2 r1 r2 q2
end
end L2
namespace L2
open PySem PySem.Spec PyProof.Rows
noncomputable def MtM (X:Cx) (id:String) (r:V->List V->Hp->VK->Prop):Prop :=
  ∀ (pins:List (Addr × Obj)) (s:Shared) (σ:St) (H:Hp) (x:V) (xs:List V) (v:Value) (us:List Value) (Q:VK),Inv X pins σ H s->RelV x v->Vals xs us->r x xs H Q ->
    wpAny (model X.prog X.w) X.A (call (.builtin id) (v :: us)) (EP X pins σ Q) X.xe s
theorem Vals.one:∀ {x:V} {us:List Value},Vals [x] us->∃ u,us=[u] /\ RelV x u
  | _,_,h=>by cases h with | cons r t=>cases t; exact ⟨_,rfl,r⟩
theorem Vals.zero:∀ {us:List Value},Vals [] us->us=[]
  | _,.nil=>rfl
theorem Vals.dropLast {xs:List V} {us:List Value} (h:Vals xs us):Vals xs.dropLast us.dropLast:=by
  induction h with
  | nil=>exact .nil
  | cons r t ih =>
    cases t with
    | nil=>exact .nil
    | cons q t'=>exact .cons r ih
theorem Vals.rep {xs:List V} {us:List Value} (h:Vals xs us):∀ k:Nat,Vals (List.replicate k xs).flatten (List.replicate k us).flatten
  | 0=>.nil
  | k + 1=>by
    rw [List.replicate_succ,List.replicate_succ,List.flatten_cons,List.flatten_cons]
    exact Vals.append h (Vals.rep h k)
theorem erase_last {α:Type} (l:List α):l.eraseIdx (l.length - 1)=l.dropLast:=by
  induction l with
  | nil=>rfl
  | cons a r ih =>
    cases r with
    | nil=>rfl
    | cons b r =>
      have e:(a :: b :: r).length - 1=((b :: r).length - 1) + 1:=by
        have h1:(a :: b :: r).length=r.length + 2:=rfl
        have h2:(b :: r).length=r.length + 1:=rfl
        omega
      rw [e,List.eraseIdx_cons_succ,ih]
      all_goals rfl
theorem foldl_rep (its:List Value):∀ (k:Nat) (acc:List Value),
    List.foldl (fun x1 x2=>x1 ++ x2) acc.toArray (List.replicate k its.toArray)=(acc ++ (List.replicate k its).flatten).toArray
  | 0,acc=>by simp
  | k + 1,acc=>by
    have e:acc.toArray ++ its.toArray=(acc ++ its).toArray:=by simp
    have e2:(acc ++ its) ++ (List.replicate k its).flatten=acc ++ (List.replicate (k + 1) its).flatten:=by
      rw [List.replicate_succ,List.flatten_cons,List.append_assoc]
    rw [<- e2,<- foldl_rep its k (acc ++ its),<- e,List.replicate_succ,List.foldl_cons]
section
variable {X:Cx} {pins:List (Addr × Obj)} {σ:St} {H:Hp} {s:Shared} {l b:Addr} {xs ys zs:List V}
theorem Inv.lset {its its':List Value} {n:Nat} {f:Array Value->Array Value} {t':Nat} (I:Inv X pins σ H s) (hH:H l=some (.lst xs))
    (e:s.heap.get? l=some { cls:=.type "list",data:=.seq its.toArray n }) (hf:f its.toArray=its'.toArray) (hv:Vals ys its') (hz:ys.length<=sizeLine) :
    Inv X pins σ (upd H l (.lst ys)) { s with heap:=s.heap.update l (Obj.mapSeq f),toks:=t' }:=by
  have q:=PySem.IsL.update e f
  rw [hf] at q
  refine I.write (x:=l) (e:=l) (by rw [hH]; exact trivial) (.inl rfl) (fun b' u hb hu=>(Heap.get?_update_other s.heap (Obj.mapSeq f) (Ne.symm hb)).trans hu) ⟨_,q⟩ ?_
  exact ⟨hz,its',_,hv,q⟩
theorem Inv.lnew {its:List Value} {t':Nat} (I:Inv X pins σ H s) (hv:Vals ys its) (hz:ys.length<=sizeLine) :
    Inv X pins σ (upd H s.heap.objs.size (.lst ys)) { s with heap:=s.heap.push { cls:=.type "list",data:=.seq its.toArray },toks:=t' } :=
  I.laid (fun _ _ q=>Heap.get?_push_of_some _ q) (Nat.le_refl _) ⟨hz,its,0,hv,Heap.get?_push_size _ rfl⟩
theorem Inv.fresh (I:Inv X pins σ H s):H s.heap.objs.size=none:=I.hok.fresh (Nat.le_refl _)
theorem Inv.lstM (I:Inv X pins σ H s) (hH:H l=some (.lst xs)):xs.length<=sizeLine /\ ∃ (its:List Value) (n:Nat),Vals xs its /\ xs.length=its.length /\ s.heap.get? l=some { cls:=.type "list",data:=.seq its.toArray n }:=by
  obtain ⟨z,its,n,r,e⟩:=I.hok l _ hH
  exact ⟨z,its,n,r,r.length,e⟩
theorem notLongL {n:Nat} (h:n<=sizeLine):Builtin.List.listTooLong n=false:=by
  unfold Builtin.List.listTooLong
  exact decide_eq_false (by omega)
end
section
variable {X:Cx}
noncomputable def rAppend:V->List V->Hp->VK->Prop:=fun x vs H Q=>∃ l xs y,x=.ref l /\ vs=[y] /\ H l=some (.lst xs) /\ xs.length < sizeLine /\ Q .non (upd H l (.lst (xs ++ [y])))
theorem mt_append:MtM X "list.append" rAppend:=by
  intro pins s σ H x vs v us Q I rx rv h
  obtain ⟨l,xs,y,rfl,rfl,hH,hz,q⟩:=h
  cases rx
  obtain ⟨u,rfl,ru⟩:=rv.one
  obtain ⟨z,its,n,r,hl,e⟩:=I.lstM hH
  refine call_meets F.slot_list_append ⟨_,e,rfl⟩ F.entry_list_append (F.args_list_append_2 _ _) (PySem.list_append l its.toArray n u (by rw [List.size_toArray]; omega)) ⟨e,?_⟩
  refine ⟨.non,_,I.lset (its':=its ++ [u]) hH e (by simp) (r.append (.cons ru .nil)) ?_,rfl,q⟩
  rw [List.length_append,List.length_singleton]
  omega
noncomputable def rPop:V->List V->Hp->VK->Prop:=fun x vs H Q=>∃ l xs y,x=.ref l /\ vs=[] /\ H l=some (.lst xs) /\ xs[xs.length - 1]?=some y /\ Q y (upd H l (.lst xs.dropLast))
theorem mt_pop:MtM X "list.pop" rPop:=by
  intro pins s σ H x vs v us Q I rx rv h
  obtain ⟨l,xs,y,rfl,rfl,hH,hy,q⟩:=h
  cases rx
  have hus:=rv.zero
  subst hus
  obtain ⟨z,its,n,r,hl,e⟩:=I.lstM hH
  obtain ⟨u,hu,ru⟩:=r.get hy
  have hy':its.toArray[its.toArray.size - 1]?=some u:=by
    show its.toArray[its.length - 1]?=some u
    rw [<- Array.getElem?_toList,<- hl]
    exact hu
  refine call_meets F.slot_list_pop ⟨_,e,rfl⟩ F.entry_list_pop (F.args_list_pop_1 _) (MeetsSeq.list_pop_last l its.toArray n u hy' (by rw [List.size_toArray]; omega)) ⟨e,?_⟩
  refine ⟨y,_,I.lset (its':=its.dropLast) hH e ?_ r.dropLast ?_,ru,q⟩
  · show its.toArray.eraseIdxIfInBounds (its.toArray.size - 1)=its.dropLast.toArray
    rw [List.size_toArray,List.eraseIdxIfInBounds_toArray,erase_last]
  · rw [List.length_dropLast]
    omega
noncomputable def rCat:R2:=fun x y H Q=>∃ l b xs zs,x=.ref l /\ y=.ref b /\ H l=some (.lst xs) /\ H b=some (.lst zs) /\ xs.length + zs.length<=sizeLine /\ ∀ p,H p=none->Q (.ref p) (upd H p (.lst (xs ++ zs)))
theorem op_cat:OpR X (binaryOp .Add) rCat:=by
  intro pins s σ H x y v u Q I rx ry h
  obtain ⟨l,b,xs,zs,rfl,rfl,hH,hB,hz,q⟩:=h
  cases rx
  cases ry
  obtain ⟨z,its,n,r,hl,e⟩:=I.lstM hH
  obtain ⟨z2,its2,n2,r2,hl2,e2⟩:=I.lstM hB
  refine PySem.P.add_list e e2 ?_ (by rw [List.size_toArray,List.size_toArray]; omega)
  have ea:its.toArray ++ its2.toArray=(its ++ its2).toArray:=by simp
  rw [ea]
  exact ⟨.ref _,_,I.lnew (t':=s.toks) (r.append r2) (by rw [List.length_append]; omega),rfl,q _ I.fresh⟩
noncomputable def rRep:R2:=fun x y H Q=>∃ l k xs,x=.ref l /\ y=.int k /\ H l=some (.lst xs) /\ -(2 ^ 63)<=k /\ k < 2 ^ 63 /\ xs.length * k.toNat<=sizeLine /\
  ∀ p,H p=none->Q (.ref p) (upd H p (.lst (List.replicate k.toNat xs).flatten))
theorem len_rep {α:Type} (xs:List α) (k:Nat):(List.replicate k xs).flatten.length=k * xs.length:=by
  induction k with
  | zero=>simp
  | succ k ih=>rw [List.replicate_succ,List.flatten_cons,List.length_append,ih,Nat.succ_mul,Nat.add_comm]
theorem op_rep:OpR X (binaryOp .Mult) rRep:=by
  intro pins s σ H x y v u Q I rx ry h
  obtain ⟨l,k,xs,rfl,rfl,hH,h1,h2,hz,q⟩:=h
  cases rx
  obtain ⟨t,rfl⟩:=ry
  obtain ⟨z,its,n,r,hl,e⟩:=I.lstM hH
  have hlen:its.toArray.size * k.toNat<=sizeLine:=by rw [List.size_toArray,<- hl]; exact hz
  have hcap:¬ its.toArray.size * k.toNat > (2 ^ 63 - 1) / 8:=by
    have:(sizeLine:Nat)<=(2 ^ 63 - 1) / 8:=by decide
    omega
  have hfit:¬ (!Builtin.List.listFitsIndex k)=true:=by
    rw [fitsIndex_both h1 h2]
    exact Bool.false_ne_true
  have hlong:¬ Builtin.List.listTooLong (its.toArray.size * k.toNat)=true:=by
    rw [notLongL hlen]
    exact Bool.false_ne_true
  have hnew:List.foldl (fun x1 x2=>x1 ++ x2) #[] (List.replicate (if its.toArray.isEmpty=true then 0 else k.toNat) its.toArray)=(List.replicate k.toNat its).flatten.toArray:=by
    have f0:∀ m:Nat,List.foldl (fun x1 x2=>x1 ++ x2) #[] (List.replicate m its.toArray)=(List.replicate m its).flatten.toArray:=fun m=>by
      have:=foldl_rep its m []
      rw [List.nil_append] at this
      exact this
    rw [f0]
    cases its with
    | nil=>simp
    | cons a r'=>rw [if_neg (by simp)]
  refine wpAny_binaryOp_repeat_ref (T:="list") (U:="int") (by decide) ⟨_,e,rfl⟩ (fun s'=>typeIs_int s' k t) noFill_list_mul F.fills_int_mul F.slot_int_rmul repeat_list F.slot_int_index.lookup
    (call_meets F.slot_int_rmul (typeIs_int s k t) F.entry_int_rmul (F.args_int_rmul_2 _ _) (int___rmul___int_list k t l its.toArray n)
      ⟨e,rfl,⟨_,e,rfl⟩,call_meets F.slot_list_mul ⟨_,e,rfl⟩ F.entry_list_mul (F.args_list_mul_2 _ _) (AutoListH.list___mul___list_int_3 l its.toArray n k t hfit hcap hlong) ⟨e,?_⟩⟩)
  rw [hnew]
  exact ⟨.ref _,_,I.lnew (t':=s.toks) (r.rep k.toNat) (by rw [len_rep,Nat.mul_comm]; exact hz),rfl,q _ I.fresh⟩
end
section
variable {prog:Program} {w:World} {A:Around} {E:Value->Shared->Prop} {s:Shared}
end
section
variable {X:Cx}
end
end L2
namespace Att
open PySem PySem.W PySem.Calls PyProof.Rows
theorem ints_of_wellAll {P:Params} {h:Heap}:∀ (ns:List Int) (vs:List Value),WellAll P h vs (ns.map WData.int)->IntsAre vs ns:=by
  intro ns
  induction ns with
  | nil =>
    intro vs w
    rw [List.map_nil] at w
    cases w
    exact .nil
  | cons n ns ih =>
    intro vs w
    rw [List.map_cons] at w
    cases w with
    | cons a b =>
      cases a
      exact .cons _ _ (ih _ b)
theorem script_of {l:OpenLaw} {n:Nat} (hn:l.most=some n) {P:Params} {h:Heap} {args:List WData} {vals:List Value}
    (hpre:l.row.toRowW.claim.pre args=true) (hwl:WellAll P h vals args) :
    ∃ a vs ns,vals=[Value.ref a] /\ args=[WData.list (ns.map WData.int)] /\ h.get? a=some { cls:=.type "list",data:=.seq vs.toArray } /\ IntsAre vs ns /\ ns.length<=n:=by
  have hsh:WShape.hasAll [] args [.list .int]=true:=(pre_splitW hpre).1
  have hc:l.pre.holds [] { args:=args }=true:=(pre_splitW hpre).2
  obtain ⟨d,r,rfl,h1,h2⟩:=hasAllW_cons hsh
  obtain rfl:=hasAllW_nil h2
  obtain ⟨xs,rfl,h3⟩:=hasW_list h1
  obtain ⟨ns,rfl⟩:=items_int h3
  have hlen:ns.length<=n:=by
    unfold OpenLaw.pre at hc
    have h4:(WTm.not (.lt (.lit (.int (n:Int))) (.len (.arg 0)))).holds [] { args:=[.list (ns.map .int)] }=true:=by
      have h4:=(holds_andW hc).1
      rw [hn] at h4
      exact h4
    have h5:=condW_of h4 (w_not (w_lt w_lit (w_len_list (w_arg rfl))))
    rw [List.length_map] at h5
    refine Nat.le_of_not_lt fun q=>?_
    have q':(n:Int) < ((ns.length:Nat):Int):=by omega
    first
      | (rw [decide_eq_true q'] at h5; exact absurd h5 (by decide))
      | (simp at h5; omega)
  cases hwl with
  | cons w1 w2 =>
    cases w2
    cases w1 with
    | list ho hall=>exact ⟨_,_,ns,rfl,rfl,ho,ints_of_wellAll ns _ hall,hlen⟩
theorem post_true (l:OpenLaw) (args:List WData):l.row.toRowW.claim.post args (.bool true) args=true :=
  postW_of (r:=l.row.toRowW) (X:=(true == true))
    (show WShape.has [] (.bool true) .bool=true by first | rfl | decide | simp [WShape.has,WShape.arms,WShape.armsAll])
    (show (WTm.eq .res (.lit (.bool true))).value [] { args:=args,res:=some (.bool true),after:=args }=some (.bool (true == true)) from w_eq_bool (w_res rfl) w_lit) rfl
section
variable {prog:Program} {w:World} {A:Around} {E:Value->Shared->Prop} {s:Shared} {K:Frag}
noncomputable def ledger (h:Heap) (L d:Addr):List (Addr × Obj):=(List.range h.objs.size).filterMap fun a=>if a=L \/ a=d then none else (h.get? a).map fun o=>(a,o)
end
end Att
namespace L2
open PySem PySem.Spec PyProof.Rows
theorem vals_ints:∀ {vs:List Value} {ns:List Int},IntsAre vs ns->Vals (ns.map V.int) vs
  | _,_,.nil=>.nil
  | _,_,.cons n t h=>.cons ⟨t,rfl⟩ (vals_ints h)
noncomputable def Only (H:Hp):Prop:=∀ b,H b=none \/ ∃ o xs,H b=some (.frz o (.lst xs))
theorem law_call {P:Program} {w:World} {K:PySem.W.Frag} {mg mb:Str->Option Value} {CX:CXT} {k:Nat} {fa a:Addr} {fd:FuncData} {x:Str} {sp:Sp} {s₁:Shared} {vs:List Value} {ns:List Int}
    (KX:K.In s₁.heap) (hns:s₁.heap.Ns mainGlobals mg) (hb:s₁.heap.Ns builtinsNs mb) (hbb:∀ x:Str,x ≠ "__name__"->mb x=bootBuiltins x) (hlim:s₁.heap.NoLimit) (hg:s₁.gens=#[])
    (ha:s₁.heap.get? a=some { cls:=.type "list",data:=.seq vs.toArray }) (hi:IntsAre vs ns) (hl:ns.length<=sizeLine) (hr:Room k callerA)
    (F:∀ base:Heap,K.In base->base.Ns mainGlobals mg->FnOk P w K mg base CX k fa fd [x] sp) (hbind:∀ (s:Shared) (u:Value),BindsTo s fd ⟨[u],[]⟩ [(x,u)])
    (hsp:∀ H:Hp,Only H->SqL K H a (ns.map V.int)->sp [.ref a] H (fun v _=>v=.bl true) fun _ _ _=>False)
    (hCX:∀ H e s',CX [] H s₁ (fun _ _ _=>False) e s'->False) :
    codeAny (model P w) callerA (.call (.ref fa) ⟨[.ref a],[]⟩) (fun r s'=>r=.ok (.ret (.bool true)) /\ OldK s₁.heap s'.heap /\ s'.os=s₁.os /\ AllBare s'.gens) s₁:=by
  have rv:=vals_ints hi
  have lenV:=hi.length
  have core:∀ H:Hp,Only H->SqL K H a (ns.map V.int)->HOk P w H s₁.heap->(∀ b,H b ≠ none->b=a)->(H a ≠ none->K.lookup a=none) ->
      codeAny (model P w) callerA (.call (.ref fa) ⟨[.ref a],[]⟩) (fun r s'=>r=.ok (.ret (.bool true)) /\ OldK s₁.heap s'.heap /\ s'.os=s₁.os /\ AllBare s'.gens) s₁:=by
    intro H hO hS hok hA hK
    have base_of:∀ {b:Addr} {o:Obj},s₁.heap.get? b=some o->H b=none->(hidT s₁.heap H).get? b=some o:=fun e n=>hidT_get e n
    have noA:∀ {b:Addr} {o:Obj} {es:Array DictEntry} {ep:Nat},s₁.heap.get? b=some o->o.data=.dict es ep->H b=none:=fun {b o es ep} e d=>by
      cases q:H b with
      | none=>rfl
      | some u =>
        have e':b=a:=hA b (by rw [q]; simp)
        subst e'
        rw [ha] at e; cases e
        have d':Data.seq vs.toArray _=Data.dict es ep:=d
        cases d'
    have nsK:∀ {b:Addr} {m:Str->Option Value},s₁.heap.Ns b m->(hidT s₁.heap H).Ns b m:=fun {b m} ⟨o,es,ep,e,d,r⟩=>⟨o,es,ep,base_of e (noA e d),d,r⟩
    have hKb:K.In (hidT s₁.heap H):=fun b o e=>base_of (KX b o e) (by
      cases q:H b with
      | none=>rfl
      | some u =>
        have e':b=a:=hA b (by rw [q]; simp)
        subst e'
        rw [hK (by rw [q]; simp)] at e; cases e)
    have hM:Mod K mg (hidT s₁.heap H):=⟨hKb,nsK hns,⟨mb,nsK hb,hbb⟩,let ⟨mc,h1,h2⟩:=hlim; ⟨mc,nsK h1,h2⟩⟩
    have e0:Env0 P w K mg (hidT s₁.heap H) callerA [] s₁ H:=⟨rfl,hM,fun b o e=>of_hidT e,Nat.le_of_eq (hidT_size _ _),trivial,fun b hb=>absurd (show b ∈ ([]:List Addr) from hb) (by simp),hok,.of_eq hg⟩
    refine codeAny_mono ((F _ hKb (nsK hns)).run callerA [] s₁ H ⟨[.ref a],[]⟩ [.ref a] [.ref a] _ _ hr e0 (hbind s₁ (.ref a)) (.cons rfl .nil) (hsp H hO hS)) fun r s' h=>?_
    cases r with
    | error e=>exact (hCX H e s' h).elim
    | ok fl =>
      cases fl with
      | next=>exact False.elim h
      | brk=>exact False.elim h
      | cont=>exact False.elim h
      | ret u =>
        obtain ⟨v,H',os,bare,un,hok',r',q⟩:=h
        have q':v=.bl true:=q
        subst q'
        obtain rfl:u=Value.bool true:=r'
        refine ⟨rfl,OldK.of_keep fun b o e=>?_,os,bare⟩
        cases q:H b with
        | none=>exact un.keep b o e q (by intro z; exact absurd (show b ∈ ([]:List Addr) from z) (by simp)) (by simp)
        | some u =>
          rcases hO b with z | ⟨ob,xs,z⟩
          · rw [q] at z; cases z
          · have z2:=un.frzs b ob _ z
            obtain ⟨e1,_⟩:=hok b _ z
            obtain ⟨e2,_⟩:=hok' b _ z2
            rw [e] at e1; cases e1
            exact e2
  cases hk:K.lookup a with
  | some o =>
    have e:=KX a o hk
    rw [ha] at e
    cases e
    refine core (fun _=>none) (fun _=>.inl rfl) (.inr ⟨_,vs.toArray,_,hk,rfl,rfl,rfl,by rw [List.size_toArray,lenV]; exact hl,by simpa using rv⟩) (fun b u z=>by have z':(none:Option HO)=some u:=z; cases z') (fun b z=>absurd rfl z) fun z=>absurd rfl z
  | none =>
    refine core (fun b=>if b=a then some (.frz { cls:=.type "list",data:=.seq vs.toArray } (.lst (ns.map V.int))) else none) (fun b=>?_) (.inl (.inr ⟨{ cls:=.type "list",data:=.seq vs.toArray },if_pos rfl⟩)) (fun b u z=>?_) (fun b z=>?_) fun _=>hk
    · by_cases hb:b=a
      · exact .inr ⟨_,_,if_pos hb⟩
      · exact .inl (if_neg hb)
    · by_cases hb:b=a
      · have z':=(if_pos hb).symm.trans z
        cases z'
        subst hb
        exact ⟨ha,by rw [List.length_map]; exact hl,vs,_,rv,ha⟩
      · have z':=(if_neg hb).symm.trans z
        cases z'
    · by_cases hb:b=a
      · exact hb
      · exact absurd (if_neg hb) z
end L2
namespace L2
open PySem PySem.Spec PyProof.Rows
noncomputable abbrev KOf {K:PySem.W.Frag} {h:Heap} (_:K.In h):PySem.W.Frag:=K
end L2
namespace L2
open PySem PySem.Spec PyProof.Rows
noncomputable def defArgs (s:Stmt):Arguments:=match s with
  | .FunctionDef _ a _ _ _ _ _ _ _ _=>a
  | _=>{ posonlyargs:=[],args:=[],vararg:=none,kwonlyargs:=[],kw_defaults:=[],kwarg:=none,defaults:=[] }
noncomputable def defBody (s:Stmt):List Stmt:=match s with
  | .FunctionDef _ _ b _ _ _ _ _ _ _=>b
  | _=>[]
noncomputable def defScope (s:Stmt):Scope:=match s with
  | .FunctionDef _ _ _ _ _ _ sc _ _ _=>sc
  | _=>{ kind:=.function,names:=[],isGenerator:=false,isCoroutine:=false }
noncomputable abbrev CX0:CXT:=fun _ _ _ _ _ _=>False
structure Fun (K:PySem.W.Frag) (x qual:Str) (st:Stmt) (f:Addr) (fd:FuncData):Prop where
  ex:∃ (oc:Value) (od:Option Addr) (kV doc pm:Value) (an:Option Addr) (cdv ct:Value) (osl:Array (Option Value)),
    fd=PySem.W.fnOf x qual (defArgs st) (defBody st) (defScope st) .none kV doc pm an cdv ct /\ K.lookup f=some ⟨oc,od,.func fd,osl⟩ /\ PySem.W.codeIn K cdv qual=true
  kp:PySem.W.keepIn K (.ref f)=true
section
variable {P:Program} {w:World} {K:PySem.W.Frag} {mg:Str->Option Value} {base:Heap}
theorem Fun.binds {x qual:Str} {st:Stmt} {f:Addr} {fd:FuncData} {ps:List Str} (F:Fun K x qual st f fd)
    (h:∀ (kV doc pm:Value) (an:Option Addr) (cdv ct:Value) (us:List Value),us.length=ps.length->bindArgs (PySem.W.fnOf x qual (defArgs st) (defBody st) (defScope st) .none kV doc pm an cdv ct) ⟨us,[]⟩=pure (ps.zip us)):Binds K fd ps []:=by
  obtain ⟨oc,od,kV,doc,pm,an,cdv,ct,osl,rfl,lk,hcd⟩:=F.ex
  exact .all (h kV doc pm an cdv ct)
theorem fun_mk {x qual:Str} {st:Stmt} {f:Addr} {oc:Value} {od an:Option Addr} {osl:Array (Option Value)} {kV doc pm cdv ct:Value} (l:K.lookup f=some ⟨oc,od,.func (PySem.W.fnOf x qual (defArgs st) (defBody st) (defScope st) .none kV doc pm an cdv ct),osl⟩)
    (c:PySem.W.codeIn K cdv qual=true) (k:PySem.W.keepIn K (.ref f)=true):Fun K x qual st f (PySem.W.fnOf x qual (defArgs st) (defBody st) (defScope st) .none kV doc pm an cdv ct):=⟨⟨oc,od,kV,doc,pm,an,cdv,ct,osl,rfl,l,c⟩,k⟩
end
theorem hu_of {A:Around} {k:Nat} (hr:Room k A):A.units + 1 < cLine:=Nat.lt_of_le_of_lt (Nat.add_le_add_left (by decide:1<=64) _) hr.units
theorem small1000 {n:Nat} (h:n<=1000):n < sizeLine:=Nat.lt_of_le_of_lt h (by decide)
section
variable {X:Cx}
theorem pv (i:Nat) {x:Str} {pos:Pos} (hN:X.N[i]?=some x:=by rfl) (hv:Vis X.env.scope x:=by first | exact Or.inl rfl | exact Or.inr (Or.inl rfl) | exact Or.inr (Or.inr rfl)) (hd:(x == ("__debug__":Str))=false:=by decide)
    (hcd:(x == ("__classdict__":Str))=false:=by decide):PE X (.Name x pos) (tVar i):=pe_var hN hv hd hcd
end
theorem iteF {A B:Prop} (h:B):if false=true then A else B:=by
  rw [if_neg Bool.false_ne_true]
  exact h
theorem iteT {A B:Prop} (h:A):if true=true then A else B:=by
  rw [if_pos rfl]
  exact h
noncomputable def Same (H H':Hp):Prop:=∀ b o,H b=some o->H' b=some o
end L2
set_option Elab.async false
set_option linter.all false
set_option maxRecDepth 100000
namespace L2
open PySem PySem.Spec PyProof.Rows
section
variable {κ:Type} [DecidableEq κ]
noncomputable def valV (kvs:List (κ × V)) (k:κ):Option V:=(kvs.find? fun kv=>decide (kv.1=k)).map (·.2)
noncomputable def putK (kvs:List (κ × V)) (k:κ) (v:V):List (κ × V) :=
  if (kvs.any fun kv=>decide (kv.1=k))=true then kvs.map (fun kv=>if kv.1=k then (kv.1,v) else kv) else kvs ++ [(k,v)]
noncomputable def dropK (kvs:List (κ × V)) (k:κ):List (κ × V):=kvs.filter fun kv=>decide (kv.1 ≠ k)
theorem valV_pos {p:κ × V} {r:List (κ × V)} {k:κ} (e:p.1=k):valV (p :: r) k=some p.2:=by simp [valV,List.find?_cons,e]
theorem valV_neg {p:κ × V} {r:List (κ × V)} {k:κ} (e:¬ p.1=k):valV (p :: r) k=valV r k:=by simp [valV,List.find?_cons,e]
theorem RelO.isSome_eq {o:Option V} {u:Option Value} (r:RelO o u):o.isSome=u.isSome:=by
  cases o with
  | none=>cases u with
    | none=>rfl
    | some _=>exact (show False from r).elim
  | some _=>cases u with
    | none=>exact (show False from r).elim
    | some _=>rfl
theorem KV.val {kvs:List (κ × V)} {vs:List (κ × Value)} (r:KV kvs vs) (k:κ):RelO (valV kvs k) (valueAt vs k):=by
  unfold KV at r
  induction r with
  | nil=>exact True.intro
  | @cons p q ps qs h t ih =>
    obtain ⟨h1,h2⟩:=h
    by_cases e:p.1=k
    · have e':q.1=k:=h1.symm.trans e
      have b:valueAt (q :: qs) k=some q.2:=by simp [valueAt,List.find?_cons,e']
      rw [valV_pos e,b]; exact h2
    · have e':¬ q.1=k:=fun z=>e (h1.trans z)
      have b:valueAt (q :: qs) k=valueAt qs k:=by simp [valueAt,List.find?_cons,e']
      rw [valV_neg e,b]; exact ih
end
theorem kV_is {P:Program} {w:World} {k:Key} {u:Value} (r:RelV (kV k) u):(mixKind P w).is k u=true:=by
  cases k with
  | inl i=>obtain ⟨t,e⟩:=(show ∃ t,u=Value.int i t from r); subst e; exact mixKind_int P w i t
  | inr x=>obtain ⟨t,e⟩:=(show ∃ t,u=Value.str x t from r); subst e; exact mixKind_str P w x t
theorem items_are {P:Program} {w:World}:∀ {ks:List Key} {us:List Value},Vals (ks.map kV) us->ItemsAre (mixKind P w) ks us
  | [],_,r=>by rw [List.map_nil] at r; cases r; exact .nil
  | k :: ks,_,r=>by
    rw [List.map_cons] at r
    cases r with
    | cons h t=>exact .cons (kV_is h) (items_are t)
noncomputable abbrev KT (H:Hp):List (List Key × V)->List (List Key × Addr × Value)->Prop:=Paired fun p q=>p.1=q.1 /\ H q.2.1=some (.tup (p.1.map kV)) /\ RelV p.2 q.2.2
theorem KT.val {H:Hp} {kvs:List (List Key × V)} {xs:List (List Key × Addr × Value)} (r:KT H kvs xs) (k:List Key):RelO (valV kvs k) ((atKey xs k).map (·.2)):=by
  induction r with
  | nil=>exact True.intro
  | @cons p q ps qs h t ih =>
    obtain ⟨h1,_,h2⟩:=h
    by_cases e:p.1=k
    · have e':q.1=k:=h1.symm.trans e
      have b:atKey (q :: qs) k=some q.2:=by simp [atKey,List.find?_cons,e']
      rw [valV_pos e,b]; exact h2
    · have e':¬ q.1=k:=fun z=>e (h1.trans z)
      have b:atKey (q :: qs) k=atKey qs k:=by simp [atKey,List.find?_cons,e']
      rw [valV_neg e,b]; exact ih
section
variable {P:Program} {w:World} {H:Hp} {h:Heap} {a:Addr}
theorem rd_of {u:HO} (ok:HOk P w H h) (e:Rd H a u):ObjOk P w H h a u:=e.ok ok
theorem dk_rd {kvs:List (Key × V)} (ok:HOk P w H h) (e:Rd H a (.dK kvs)):kvs.length<=sizeLine /\ (a == sysModules)=false /\ ∃ vs,KV kvs vs /\ h.DictOf (mixKind P w) a vs :=
  show ObjOk P w H h a (.dK kvs) from rd_of ok e
theorem key_of {ks:List Key} (ok:HOk P w H h) (e:H a=some (.tup (ks.map kV))):(tupleKind (mixKind P w)).is h ks a:=by
  obtain ⟨_,its,r,o,h1,h2,n,h3⟩:=(show ObjOk P w H h a (.tup (ks.map kV)) from ok a _ e)
  exact ⟨o,its.toArray,n,h1,h2,h3,by simpa using items_are r⟩
theorem dt_rd {kvs:List (List Key × V)} (ok:HOk P w H h) (e:Rd H a (.dT kvs)):kvs.length<=sizeLine /\ (a == sysModules)=false /\
    ∃ xs,KT H kvs xs /\ h.DictOfH (tupleKind (mixKind P w)) a xs:=by
  obtain ⟨z,y,xs,r,o,es,ep,h1,h2,h3,h4,h5⟩:=(show ObjOk P w H h a (.dT kvs) from rd_of ok e)
  refine ⟨z,y,xs,r,o,es,ep,h1,h2,h3,h4,fun x hx=>?_,h5⟩
  have all:∀ {l:List (List Key × V)} {m:List (List Key × Addr × Value)},KT H l m->∀ x ∈ m,(tupleKind (mixKind P w)).is h x.1 x.2.1:=by
    intro l m q
    induction q with
    | nil=>intro x hx; exact nomatch hx
    | @cons p q ps qs hq t ih =>
      intro x hx
      rcases List.mem_cons.mp hx with e | hx
      · subst e
        exact key_of ok (by rw [<- hq.1]; exact hq.2.1)
      · exact ih x hx
  exact all r x hx
end
noncomputable def DGet (H:Hp) (a:Addr) (y:V) (r:Option V):Prop :=
  (∃ kvs k,Rd H a (.dK kvs) /\ y=kV k /\ r=valV kvs k) \/ ∃ kvs k b,Rd H a (.dT kvs) /\ y=.ref b /\ H b=some (.tup (k.map kV)) /\ r=valV kvs k
noncomputable def DPut (H:Hp) (a:Addr) (y v:V) (H':Hp):Prop :=
  (∃ kvs k,H a=some (.dK kvs) /\ y=kV k /\ kvs.length < sizeLine /\ H'=upd H a (.dK (putK kvs k v))) \/
  ∃ kvs k b,H a=some (.dT kvs) /\ y=.ref b /\ H b=some (.tup (k.map kV)) /\ kvs.length < sizeLine /\ H'=upd H a (.dT (putK kvs k v))
theorem DGet.k {H:Hp} {a:Addr} {kvs:List (Key × V)} {k:Key} (e:H a=some (.dK kvs)):DGet H a (kV k) (valV kvs k):=.inl ⟨kvs,k,.inl e,rfl,rfl⟩
section
variable {X:Cx} {pins:List (Addr × Obj)} {σ:St} {H:Hp} {s:Shared} {a:Addr} {y v:V} {u r:Value} {o:Option V} {A:Around} {E:Value->Shared->Prop}
theorem Inv.big (I:Inv X pins σ H s):sysModules < s.heap.objs.size:=by
  have h:mainGlobals < s.heap.objs.size:=(I.mod.glob.keeps I.bk).lt
  exact Nat.lt_trans (by decide) h
theorem d_getItem {Q:Value->Shared->Prop} (hu:A.units + 1 < cLine) (I:Inv X pins σ H s) (g:DGet H a y (some v)) (ry:RelV y u) (h:∀ w' s',Inv X pins σ H s'->RelV v w'->Q w' s') :
    wpAny (model X.prog X.w) A (getItem (.ref a) u) Q E s:=by
  rcases g with ⟨kvs,k,e,ey,l⟩ | ⟨kvs,k,b,e,ey,eb,l⟩
  · subst ey
    obtain ⟨z,hd,vs,rel,dd⟩:=dk_rd I.hok e
    obtain ⟨w',hw,rw'⟩:=RelO.some_of (v:=v) (o:=valueAt vs k) (by rw [l]; exact rel.val k)
    exact wpAny_getItem_of (kV_is ry) dd.mapOf hw (h w' _ (I.tok _) rw')
  · subst ey
    cases (show u=Value.ref b from ry)
    obtain ⟨z,hd,xs,rel,dd⟩:=dt_rd I.hok e
    obtain ⟨w',hw,rw'⟩:=RelO.some_of (v:=v) (o:=(atKey xs k).map (·.2)) (by rw [l]; exact rel.val k)
    obtain ⟨p,hp,hp2⟩:=Option.map_eq_some_iff.mp hw
    refine wpAny_getItem_heap (tupleKind_room_in1 hu) (key_of I.hok eb) dd hp ?_
    rw [hp2]
    exact h w' _ (I.tok _) rw'
theorem d_in {Q:Value->Shared->Prop} (hu:A.units + 1 < cLine) (I:Inv X pins σ H s) (g:DGet H a y o) (ry:RelV y u) (h:∀ s',Inv X pins σ H s'->Q (.bool o.isSome) s') :
    wpAny (model X.prog X.w) A (compareOp .In u (.ref a)) Q E s:=by
  rcases g with ⟨kvs,k,e,ey,l⟩ | ⟨kvs,k,b,e,ey,eb,l⟩
  · subst ey
    obtain ⟨z,hd,vs,rel,dd⟩:=dk_rd I.hok e
    refine wpAny_in_of (kV_is ry) hd dd.mapOf ?_
    rw [<- (rel.val k).isSome_eq,<- l]
    exact h _ (I.tok _)
  · subst ey
    cases (show u=Value.ref b from ry)
    obtain ⟨z,hd,xs,rel,dd⟩:=dt_rd I.hok e
    refine wpAny_in_heap (tupleKind_room_in1 hu) (key_of I.hok eb) hd dd ?_
    have q:=(rel.val k).isSome_eq
    rw [Option.isSome_map] at q
    rw [<- q,<- l]
    exact h _ (I.tok _)
theorem d_notIn {Q:Value->Shared->Prop} (hu:A.units + 1 < cLine) (I:Inv X pins σ H s) (g:DGet H a y o) (ry:RelV y u) (h:∀ s',Inv X pins σ H s'->Q (.bool (!o.isSome)) s') :
    wpAny (model X.prog X.w) A (compareOp .NotIn u (.ref a)) Q E s:=by
  rcases g with ⟨kvs,k,e,ey,l⟩ | ⟨kvs,k,b,e,ey,eb,l⟩
  · subst ey
    obtain ⟨z,hd,vs,rel,dd⟩:=dk_rd I.hok e
    refine wpAny_notIn_of (kV_is ry) hd dd.mapOf ?_
    rw [<- (rel.val k).isSome_eq,<- l]
    exact h _ (I.tok _)
  · subst ey
    cases (show u=Value.ref b from ry)
    obtain ⟨z,hd,xs,rel,dd⟩:=dt_rd I.hok e
    refine wpAny_notIn_heap (tupleKind_room_in1 hu) (key_of I.hok eb) hd dd ?_
    have q:=(rel.val k).isSome_eq
    rw [Option.isSome_map] at q
    rw [<- q,<- l]
    exact h _ (I.tok _)
end
section
variable {X:Cx} {pins:List (Addr × Obj)} {σ:St} {H:Hp} {s:Shared} {a:Addr} {kvs:List (Key × V)} {k:Key} {u:Value} {A:Around} {E:Value->Shared->Prop}
end
section
variable {X:Cx} {o i e value:Expr} {pos pos' tpos:Pos} {td ty tv:TE}
end
theorem dk_empty {P:Program} {w:World} {H:Hp} (h:Heap) (hb:sysModules < h.objs.size):ObjOk P w H (h.push { cls:=.type "dict",data:=.dict #[] }) h.objs.size (.dK []) :=
  ⟨Nat.zero_le _,beq_eq_false_iff_ne.mpr (Ne.symm (Nat.ne_of_lt hb)),[],.nil,Heap.DictOf.new h⟩
noncomputable def tDNewK:TE:=fun _ H Q=>∀ p,H p=none->Q (.ref p) (upd H p (.dK []))
section
variable {X:Cx} {pos:Pos}
theorem pe_dnewK:PE X (.Dict [] [] pos) tDNewK:=fun pins s σ H Q I h =>
  wpAny_Dict_empty ⟨.ref s.heap.objs.size,_,I.laid (a:=s.heap.objs.size) (o:=.dK []) (t':=s.toks) (fun _ _ q=>Heap.get?_push_of_some _ q) (Nat.le_refl _) (dk_empty s.heap I.big),rfl,h _ (I.hok.fresh (Nat.le_refl _))⟩
end
noncomputable def tPairs:List (TE × TE)->St->Hp->(List (V × V)->Hp->Prop)->Prop
  | [],_,H,Q=>Q [] H
  | (tk,tv) :: r,σ,H,Q=>tk σ H fun x H1=>tv σ H1 fun y H2=>tPairs r σ H2 fun ps H3=>Q ((x,y) :: ps) H3
noncomputable abbrev VV:List (V × V)->List (Value × Value)->Prop:=Paired fun p q=>RelV p.1 q.1 /\ RelV p.2 q.2
noncomputable def PPs (X:Cx) (pos:Pos) (keys:List (Option Expr)) (values:List Expr) (trs:List (TE × TE)):Prop :=
  ∀ (pins:List (Addr × Obj)) (s:Shared) (σ:St) (H:Hp) (Q:List (V × V)->Hp->Prop),Inv X pins σ H s->tPairs trs σ H Q ->
    wpAny (model X.prog X.w) X.A (evalPairs (pairTrees keys values X.env pos)) (fun vs s'=>∃ ps H',Inv X pins σ H' s' /\ VV ps vs /\ Q ps H') X.xe s
theorem pps_nil {X:Cx} {pos:Pos}:PPs X pos [] [] []:=fun pins s σ H Q I h=>pairTrees_nil_walk ⟨[],H,I,.nil,h⟩
theorem pps_cons {X:Cx} {pos:Pos} {k v:Expr} {ks:List (Option Expr)} {vs:List Expr} {tk tv:TE} {trs:List (TE × TE)} (hk:PE X k tk) (hv:PE X v tv) (hr:PPs X pos ks vs trs) :
    PPs X pos (some k :: ks) (v :: vs) ((tk,tv) :: trs):=fun pins s σ H Q I h =>
  pairTrees_cons_walk (thn (hk pins s σ H _ I h) fun u s1 ⟨x,H1,I1,rx,q1⟩=>thn (hv pins s1 σ H1 _ I1 q1) fun w2 s2 ⟨y,H2,I2,ry,q2⟩ =>
    thn (hr pins s2 σ H2 _ I2 q2) fun ws s3 ⟨ps,H3,I3,rel,q3⟩=>⟨(x,y) :: ps,H3,I3,.cons ⟨rx,ry⟩ rel,q3⟩)
structure M1 (X:Cx) (o:Expr) (m:Str) (apos:Pos) (e:Expr) (cpos:Pos):Prop where
  base:attributeBase o m X.env (eval o X.env)=eval o X.env
  few:((backTo cpos (starEach [e] X.env)).all (fun x=>!x.1) && (backToKw cpos (keywordEach [] X.env)).all (fun x=>x.1.isSome)
    && decide (([e]:List Expr).length + ([]:List Keyword).length + (if ([]:List Keyword).isEmpty then 0 else 1) < 30))=true
  line:(apos.endLine == cpos.line)=true
  trees:backTo cpos (starEach [e] X.env)=[(false,eval e X.env)]
structure M2 (X:Cx) (o:Expr) (m:Str) (apos:Pos) (e f:Expr) (cpos:Pos):Prop where
  base:attributeBase o m X.env (eval o X.env)=eval o X.env
  few:((backTo cpos (starEach [e,f] X.env)).all (fun x=>!x.1) && (backToKw cpos (keywordEach [] X.env)).all (fun x=>x.1.isSome)
    && decide (([e,f]:List Expr).length + ([]:List Keyword).length + (if ([]:List Keyword).isEmpty then 0 else 1) < 30))=true
  line:(apos.endLine == cpos.line)=true
  trees:backTo cpos (starEach [e,f] X.env)=[(false,eval e X.env),(false,eval f X.env)]
section
variable {X:Cx} {pins:List (Addr × Obj)} {σ:St} {H:Hp} {s:Shared} {a:Addr} {y d:V} {u r:Value} {o:Option V} {A:Around} {E:Value->Shared->Prop}
end
section
variable {X:Cx} {o e f:Expr} {apos cpos:Pos} {td ty tx:TE}
end
section
variable {X:Cx} {pins:List (Addr × Obj)} {σ:St} {H:Hp} {s:Shared} {a:Addr} {kvs:List (Key × V)} {A:Around} {E:Value->Shared->Prop}
end
section
variable {X:Cx} {pins:List (Addr × Obj)} {σ:St} {H:Hp} {s:Shared} {a:Addr} {y:V} {u:Value} {A:Around} {E:Value->Shared->Prop}
end
end L2
set_option Elab.async false
set_option linter.all false
set_option maxRecDepth 100000
namespace L2
open PySem PyProof.Rows
open Sem (wp)
theorem setGen_toks (s:Shared) (g:Nat) (x:GenState):(s.setGen g x).toks=s.toks:=rfl
theorem runs_toks {M:Model} {Γ:Ctx} {p:Pos} {t:Sem Fin} {fs:List Frame} {s s':Shared} {e:End} (h:Runs M Γ p t fs s e s'):s.toks<=s'.toks:=by
  induction h
  all_goals first
    | exact Nat.le_refl _
    | assumption
    | (simp only [setGen_toks] at *; omega)
    | omega
    | (dsimp only at *; omega)
    | trace_state
theorem wakes_toks {M:Model} {Γ:Ctx} {p:Pos} {g:Nat} {r:Resume} {s s':Shared} {res:GenResult} (h:Wakes M Γ p g r s res s'):s.toks<=s'.toks:=by
  unfold Wakes at h
  split at h
  · exact h.elim
  · split at h
    · obtain ⟨e₁,s₁,h1,_,_,rfl⟩:=h
      have:=runs_toks h1
      simpa only [setGen_toks] using this
    · obtain ⟨_,rfl⟩:=h; exact Nat.le_refl _
    · obtain ⟨_,rfl⟩:=h; exact Nat.le_refl _
  · obtain ⟨e₁,s₁,h1,_,_,rfl⟩:=h
    have:=runs_toks h1
    simpa only [setGen_toks] using this
  · obtain ⟨_,rfl⟩:=h; exact Nat.le_refl _
  · obtain ⟨_,rfl⟩:=h; exact Nat.le_refl _
theorem wp_toks {α:Type} (M:Model) (Γ:Ctx):∀ (t:Sem α) (Q:α->Pos->Shared->Prop) (E:Value->Pos->Shared->Prop) (p:Pos) (s:Shared),wp M Γ t Q E p s ->
    wp M Γ t (fun a p' s'=>Q a p' s' /\ s.toks<=s'.toks) (fun e p' s'=>E e p' s' /\ s.toks<=s'.toks) p s:=by
  have mono:∀ {t:Sem α} {Q:α->Pos->Shared->Prop} {E:Value->Pos->Shared->Prop} {p:Pos} {s s0:Shared},s0.toks<=s.toks->wp M Γ t (fun a p' s'=>Q a p' s' /\ s.toks<=s'.toks) (fun e p' s'=>E e p' s' /\ s.toks<=s'.toks) p s ->
      wp M Γ t (fun a p' s'=>Q a p' s' /\ s0.toks<=s'.toks) (fun e p' s'=>E e p' s' /\ s0.toks<=s'.toks) p s:=by
    intro t Q E p s s0 h0 h
    exact Sem.wp_mono M Γ t (fun _ _ _ q=>⟨q.1,Nat.le_trans h0 q.2⟩) (fun _ _ _ q=>⟨q.1,Nat.le_trans h0 q.2⟩) p s h
  intro t
  induction t with
  | pure a=>intro Q E p s h; rw [wp] at h ⊢; exact ⟨h,Nat.le_refl _⟩
  | raise e=>intro Q E p s h; rw [wp] at h ⊢; exact ⟨h,Nat.le_refl _⟩
  | unsupported w=>intro Q E p s h; rw [wp] at h; exact h.elim
  | finish w=>intro Q E p s h; rw [wp] at h; exact h.elim
  | rule _ k ih=>intro Q E p s h; rw [wp] at h ⊢; exact ih () Q E p s h
  | «at» p' k ih=>intro Q E p s h; rw [wp] at h ⊢; exact ih () Q E p' s h
  | load a _ k ih=>intro Q E p s h; rw [wp] at h ⊢; obtain ⟨o,e,h⟩:=h; exact ⟨o,e,ih o Q E p s h⟩
  | update a _ f k ih=>intro Q E p s h; rw [wp] at h ⊢; exact ⟨h.1,mono (Nat.le_refl _) (ih () Q E p _ h.2)⟩
  | loadIfAlive a k ih=>intro Q E p s h; rw [wp] at h ⊢; exact ih _ Q E p s h
  | point _ k ih=>intro Q E p s h; rw [wp] at h ⊢; exact ih () Q E p s h
  | register _ _=>intro Q E p s h; rw [wp] at h; exact h.elim
  | alloc o k ih=>intro Q E p s h; rw [wp] at h ⊢; exact mono (Nat.le_refl _) (ih _ Q E p _ h)
  | fresh k ih=>intro Q E p s h; rw [wp] at h ⊢; exact mono (Nat.le_succ _) (ih _ Q E p _ h)
  | ask k ih=>intro Q E p s h; rw [wp] at h ⊢; exact ih _ Q E p s h
  | choose src n k ih=>intro Q E p s h; rw [wp] at h ⊢; exact ⟨h.1,mono (Nat.le_refl _) (ih _ Q E p _ h.2)⟩
  | os q _ k ih=>intro Q E p s h; rw [wp] at h ⊢; exact mono (Nat.le_refl _) (ih _ Q E p _ h)
  | call c hd _ _ k ih =>
    intro Q E p s h
    rw [wp] at h ⊢
    obtain ⟨r,s',hr,h⟩:=h
    exact ⟨r,s',hr,mono (runs_toks hr) (ih r Q E p s' h)⟩
  | handled own k ih=>intro Q E p s h; rw [wp] at h ⊢; exact ih _ Q E p s h
  | genState g k ih=>intro Q E p s h; rw [wp] at h ⊢; obtain ⟨st,e,h⟩:=h; exact ⟨st,e,ih _ Q E p s h⟩
  | newGen c k ih=>intro Q E p s h; rw [wp] at h ⊢; exact mono (Nat.le_refl _) (ih _ Q E p _ h)
  | resume g r _ k ih =>
    intro Q E p s h
    rw [wp] at h ⊢
    obtain ⟨res,s',hr,h⟩:=h
    exact ⟨res,s',hr,mono (wakes_toks hr) (ih res Q E p s' h)⟩
  | yield=>intro Q E p s h; rw [wp] at h; exact h.elim
  | stack k ih=>intro Q E p s h; rw [wp] at h ⊢; exact ih _ Q E p s h
  | fork=>intro Q E p s h; rw [wp] at h; exact h.elim
  | thread k ih=>intro Q E p s h; rw [wp] at h ⊢; exact ih _ Q E p s h
  | await=>intro Q E p s h; rw [wp] at h; exact h.elim
theorem wpAny_toks {α:Type} {M:Model} {A:Around} {t:Sem α} {Q:α->Shared->Prop} {E:Value->Shared->Prop} {s:Shared} (h:wpAny M A t Q E s):wpAny M A t (fun a s'=>Q a s' /\ s.toks<=s'.toks) E s :=
  fun Γ p hΓ=>Sem.wp_mono M Γ t (fun _ _ _ q=>q) (fun _ _ _ q=>q.1) p s (wp_toks M Γ t _ _ p s (h Γ p hΓ))
end L2
set_option Elab.async false
set_option linter.all false
set_option maxRecDepth 100000
namespace L2
open PySem PyProof.Rows
open Sem (wp)
end L2
set_option Elab.async false
set_option linter.all false
set_option maxRecDepth 100000
namespace L2
open PySem PySem.Spec PyProof.Rows
noncomputable def Fl (h:Heap) (a:Addr) (C:Value) (T:Option Addr):Prop :=
  ∃ oe vs a0,h.get? a=some oe /\ oe.cls=C /\ oe.data=.fields vs /\ vs[0]?=some a0 /\ 1 < vs.size /\
    (match T with
    | none=>vs[1]?=some Value.none
    | some t=>vs[1]?=some (Value.ref t) /\ t ≠ a /\ ∃ oT ts,h.get? t=some oT /\ oT.data=.fields ts /\ 3 < ts.size)
theorem frameOf_congr {e1 e2:Env} (h:e1.frame=e2.frame):PySem.frameOf e1=PySem.frameOf e2:=by
  unfold PySem.frameOf; rw [h]
theorem noteFrame_congr {e:Value} {e1 e2:Env} (h:e1.frame=e2.frame):noteFrame e e1=noteFrame e e2:=by
  unfold noteFrame; rw [h,frameOf_congr h]
structure Wr (l fs:List Addr) (h h':Heap):Prop where
  keep:∀ b o,b ∉ l->b ∉ fs->h.get? b=some o->h'.get? b=some o
  slot:∀ b o,b ∉ l->b ∈ fs->h.get? b=some o->∃ sl,h'.get? b=some { o with slots:=sl }
theorem Wr.any {l fs:List Addr} {h h':Heap} (W:Wr l fs h h') {b:Addr} {o:Obj} (hb:b ∉ l) (e:h.get? b=some o):∃ sl,h'.get? b=some { o with slots:=sl }:=by
  by_cases hf:b ∈ fs
  · exact W.slot b o hb hf e
  · exact ⟨o.slots,W.keep b o hb hf e⟩
theorem ObjOk.there {P:Program} {w:World} {H:Hp} {h:Heap} {a:Addr} {o:HO} (x:ObjOk P w H h a o):∃ ob,h.get? a=some ob:=by
  cases o with
  | lst xs=>obtain ⟨_,_,_,_,e⟩:=x; exact ⟨_,e⟩
  | tup xs=>obtain ⟨_,_,_,ob,e,_⟩:=x; exact ⟨_,e⟩
  | dK kvs=>obtain ⟨_,_,_,_,o,_,_,e,_⟩:=x; exact ⟨_,e⟩
  | dT kvs=>obtain ⟨_,_,_,_,o,_,_,e,_⟩:=x; exact ⟨_,e⟩
  | set S n=>obtain ⟨o,_,_,_,e,_⟩:=x; exact ⟨_,e⟩
  | ins C dx fs=>obtain ⟨_,_,_,e,_⟩:=x; exact ⟨_,e⟩
  | own y=>obtain ⟨_,e⟩:=x; exact ⟨_,e⟩
  | xd fs=>obtain ⟨_,⟨_,_,_,e,_⟩,_⟩:=x; exact ⟨_,e⟩
  | rng lo hi=>obtain ⟨_,_,_,e⟩:=x; exact ⟨_,e⟩
  | frz ob u=>obtain ⟨e,_⟩:=x; exact ⟨_,e⟩
  | tbl ps=>exact ⟨_,(show h.get? a=some _ from x)⟩
  | met f y=>exact ⟨_,(show h.get? a=some _ from x)⟩
  | ext φ=>obtain ⟨_,⟨_,e⟩,_⟩:=x; exact ⟨_,e⟩
section
variable {M:Model} {A:Around} {E:Value->Shared->Prop} {s:Shared} {base:Heap} {env top:Env} {outer:List Env} {L a:Addr} {C:Value} {T:Option Addr}
theorem note_any {Q:Unit->Shared->Prop} (hfr:A.frames=some (top :: outer)) (ht:top.frame=some L) (hf:env.frame=some L) (hl:s.heap.FunFrames base (top :: outer)) (fl:Fl s.heap a C T)
    (h:∀ h' T',Wr (a :: T.toList) (frs (top :: outer)) s.heap h'->Fl h' a C (some T')->(T=some T' \/ s.heap.get? T'=none)->Q () { s with heap:=h' }) :
    wpAny M A (noteFrame (.ref a) env) Q E s:=by
  rw [noteFrame_congr (e1:=env) (e2:=top) (hf.trans ht.symm)]
  have fl0:=fl
  obtain ⟨oe,vs,a0,he,hc,hd,h0,hsz,hT⟩:=fl
  subst hc
  generalize hB:PySem.W.hideAll s.heap (a :: (T.toList ++ frs (top :: outer)))=B
  have hkb:B.StaysIn s.heap:=fun b o e=>by rw [<- hB] at e; exact PySem.W.of_hideAll _ e
  have hen:B.get? a=none:=by rw [<- hB]; exact PySem.W.hideAll_none _ (List.mem_cons_self ..)
  have hl':s.heap.FunFrames B (top :: outer):=by
    rw [<- hB]
    refine PySem.W.funFrames_hide hl fun env' he' b hb=>?_
    exact List.mem_cons_of_mem _ (List.mem_append_right _ (List.mem_filterMap.mpr ⟨env',he',hb⟩))
  have nf:∀ b,b ∈ frs (top :: outer)->∀ o,s.heap.get? b=some o->∀ vs,o.data ≠ .fields vs:=fun b hb o e=>by
    obtain ⟨_,o',ho',hnf⟩:=hl.mem hb
    rw [e] at ho'; cases ho'; exact hnf
  have unhid:∀ b o,b ∉ a :: T.toList->b ∉ frs (top :: outer)->s.heap.get? b=some o->B.get? b=some o:=fun b o hb hfb e=>by
    rw [<- hB]
    refine PySem.W.hideAll_get _ e fun z=>?_
    rcases List.mem_cons.mp z with z | z
    · exact hb (z ▸ List.mem_cons_self ..)
    · rcases List.mem_append.mp z with z | z
      · exact hb (List.mem_cons_of_mem _ z)
      · exact hfb z
  have fin:∀ h',Heap.NotedW B (top :: outer) a oe.cls a0 (rawInt L) s.heap h'->Q () { s with heap:=h' }:=fun h' hN=>by
    obtain ⟨n1,n2,⟨oe',vs',T',oT',ts',g1,⟨g2,g3⟩,g4,g5,g6,g7,g8,g9,g10⟩,n4⟩:=hN
    have slot:∀ b o,b ∈ frs (top :: outer)->s.heap.get? b=some o->∃ sl,h'.get? b=some { o with slots:=sl }:=fun b o hb e=>n4 b o e (nf b hb o e)
    refine h h' T' ⟨fun b o hb hfb e=>n1 b o (unhid b o hb hfb e),fun b o _ hb e=>slot b o hb e⟩ ⟨oe',vs',a0,g1,g2,g4,g3,(Array.getElem?_eq_some_iff.mp g5).1,g5,g7,oT',ts',g8,g9,(Array.getElem?_eq_some_iff.mp g10).1⟩ ?_
    by_cases q1:T' ∈ a :: T.toList
    · rcases List.mem_cons.mp q1 with z | z
      · exact absurd z g7
      · left
        cases T with
        | none=>simp at z
        | some t => have z' : T' = t := by simpa using z
                    rw [z']
    · right
      cases e:s.heap.get? T' with
      | none=>rfl
      | some o =>
        exfalso
        by_cases q2:T' ∈ frs (top :: outer)
        · obtain ⟨sl,q⟩:=slot T' o q2 e
          rw [g8] at q
          have q':oT'={ o with slots:=sl }:=Option.some.inj q
          rw [q'] at g9
          exact nf T' q2 o e _ g9
        · have:=unhid T' o q1 q2 e
          rw [g6] at this; cases this
  cases T with
  | none =>
    unfold noteFrame
    simp only [ht]
    refine wpAny_bind (wpAny_field he hd hT ?_)
    rw [if_neg (by decide)]
    exact wpAny_entryW hfr hl' ht he hkb hen hd hsz h0 fin
  | some t =>
    obtain ⟨h1,hta,oT,ts,hoT,hdT,hs3⟩:=hT
    obtain ⟨fl3,h3⟩:∃ v,ts[3]?=some v:=⟨ts[3],by simp [hs3]⟩
    have hnT:B.get? t=none:=by rw [<- hB]; exact PySem.W.hideAll_none _ (by simp)
    unfold noteFrame
    simp only [ht]
    refine wpAny_bind (wpAny_field he hd h1 ?_)
    rw [if_pos (show (Value.ref t != Value.none)=true from by simp)]
    refine wpAny_bind (wpAny_field hoT hdT h3 ?_)
    by_cases hfl:(fl3 == rawInt L)=true
    · rw [if_pos hfl]
      exact wpAny_pure (h s.heap t ⟨fun b o _ _ e=>e,fun b o _ _ e=>⟨o.slots,e⟩⟩ fl0 (.inl rfl))
    · rw [if_neg hfl]
      refine wpAny_bind (wpAny_setField hoT hdT hs3 ?_)
      have other:∀ b,b ≠ t->(s.heap.update t (Obj.mapFields (·.setIfInBounds 3 Value.none))).get? b=s.heap.get? b:=fun b hb=>Heap.get?_update_other _ _ (Ne.symm hb)
      have noRecord:∀ b o,s.heap.get? b=some o->(∀ vs,o.data ≠ .fields vs)->b ≠ t:=fun b o hb hnf q=>by
        rw [q,hoT] at hb; injection hb with hb; subst hb; exact hnf ts hdT
      refine wpAny_entryW hfr (hl'.of_keeps fun b o hb hnf=>⟨o,(other b (noRecord b o hb hnf)).trans hb,rfl⟩) ht ((other a (Ne.symm hta)).trans he)
        (fun b o hbo=>(other b fun q=>by rw [q,hnT] at hbo; cases hbo).trans (hkb b o hbo)) hen hd hsz h0 ?_
      rintro h' ⟨x1,x2,x3,x4⟩
      exact fin h' ⟨x1,x2,x3,fun b o hb hnf=>x4 b o ((other b (noRecord b o hb hnf)).trans hb) hnf⟩
theorem flight_any {t:Addr} {f:Option Addr} {Q:Unit->Shared->Prop} (fl:Fl s.heap a C (some t))
    (h:∀ h',Heap.SameBut t s.heap h'->Fl h' a C (some t)->Q () { s with heap:=h' }):wpAny M A (setFlight (.ref a) f) Q E s:=by
  obtain ⟨oe,vs,a0,he,hc,hd,h0,hsz,h1,hta,oT,ts,hoT,hdT,hs3⟩:=fl
  unfold setFlight
  refine wpAny_bind (wpAny_field he hd h1 ?_)
  rw [if_pos (show (Value.ref t != Value.none)=true from by simp)]
  refine wpAny_setField hoT hdT hs3 (h _ (Heap.SameBut.update ..) ?_)
  have hdT':=Obj.data_mapFields hdT (·.setIfInBounds 3 (f.elim Value.none fun f=>rawInt f))
  refine ⟨oe,vs,a0,(Heap.get?_update_other _ _ hta).trans he,hc,hd,h0,hsz,h1,hta,_,_,Heap.get?_update_self _ hoT (Obj.isFreed_of_fields hdT'),hdT',?_⟩
  simpa using hs3
theorem traced_any {t:Addr} {Q:Value->Shared->Prop} (fl:Fl s.heap a C (some t)) (h:Q (.ref t) s):wpAny M A (field (.ref a) 1) Q E s:=by
  obtain ⟨oe,vs,a0,he,hc,hd,h0,hsz,h1,_⟩:=fl
  exact wpAny_field he hd h1 h
end
theorem Fl.at {h h':Heap} {a:Addr} {C:Value} {T:Option Addr} (fl:Fl h a C T) (k:∀ b ∈ a :: T.toList,∀ o,h.get? b=some o->h'.get? b=some o):Fl h' a C T:=by
  obtain ⟨oe,vs,a0,he,hc,hd,h0,hsz,hT⟩:=fl
  refine ⟨oe,vs,a0,k a (by simp) _ he,hc,hd,h0,hsz,?_⟩
  cases T with
  | none=>exact hT
  | some t =>
    obtain ⟨h1,hta,oT,ts,hoT,r⟩:=hT
    exact ⟨h1,hta,oT,ts,k t (by simp) _ hoT,r⟩
theorem Fl.rec {h:Heap} {a:Addr} {C:Value} {T:Option Addr} (fl:Fl h a C T):∀ b ∈ a :: T.toList,∃ o vs,h.get? b=some o /\ o.data=.fields vs:=by
  obtain ⟨oe,vs,a0,he,hc,hd,h0,hsz,hT⟩:=fl
  intro b hb
  rcases List.mem_cons.mp hb with rfl | hb
  · exact ⟨oe,vs,he,hd⟩
  · cases T with
    | none=>simp at hb
    | some t =>
      have e:b=t:=by simpa using hb
      subst e
      obtain ⟨h1,hta,oT,ts,hoT,hdT,_⟩:=hT
      exact ⟨oT,ts,hoT,hdT⟩
noncomputable def Ow (X:Cx) (pins:List (Addr × Obj)) (H:Hp) (b:Addr):Prop:=H b=none /\ X.s₀.heap.get? b=none /\ b ∉ X.ex /\ ∀ p ∈ X.pn ++ pins,p.1 ≠ b
structure XOk (X:Cx):Prop where
  top:∃ top outer L,X.stack=top :: outer /\ top.frame=some L /\ X.env.frame=some L
  ex:∀ b ∈ X.ex,∃ o,(b,o) ∈ X.pn
structure Fly (X:Cx) (pins:List (Addr × Obj)) (H:Hp) (h:Heap) (a:Addr) (C:Value) (T:Option Addr):Prop where
  fl:Fl h a C T
  ow:∀ b ∈ a :: T.toList,Ow X pins H b
section
variable {X:Cx} {pins:List (Addr × Obj)} {σ:List (Option V)} {H H':Hp} {s:Shared} {h':Heap}
theorem Inv.ow (ok:XOk X) (I:Inv X pins σ H s) (hH:H'=H \/ True) {b:Addr} (n:s.heap.get? b=none) (hn:H' b=none):Ow X pins H' b:=by
  have nx:b ∉ X.ex:=fun z=>by
    obtain ⟨o,ho⟩:=ok.ex b z
    have:=(I.pin (b,o) (List.mem_append_left _ ho)).1
    rw [n] at this; cases this
  refine ⟨hn,?_,nx,fun p hp e=>?_⟩
  · cases q:X.s₀.heap.get? b with
    | none=>rfl
    | some o =>
      obtain ⟨o',e⟩:=I.base.there b o q nx
      rw [n] at e; cases e
  · have:=(I.pin p hp).1
    rw [e,n] at this; cases this
theorem Inv.untracked (I:Inv X pins σ H s) {b:Addr} (n:s.heap.get? b=none):H b=none:=by
  cases q:H b with
  | none=>rfl
  | some o =>
    obtain ⟨ob,e⟩:=(I.hok b o q).there
    rw [n] at e; cases e
theorem Inv.wrote {l:List Addr} (I:Inv X pins σ H s) (W:Wr l (frs X.stack) s.heap h') (ow:∀ b ∈ l,Ow X pins H b) (rec:∀ b ∈ l,∃ o vs,s.heap.get? b=some o /\ o.data=.fields vs) :
    Inv X pins σ H { s with heap:=h' }:=by
  have lL:X.env.locals ∉ l:=fun z=>by
    obtain ⟨o,vs,e,d⟩:=rec _ z
    obtain ⟨m,⟨o',es,ep,ho',hd',_⟩,_⟩:=I.loc
    rw [e] at ho'; cases ho'; rw [d] at hd'; cases hd'
  have cL:∀ x c,X.env.cells.lookup x=some c->c ∉ l:=fun x c e z=>by
    obtain ⟨o,vs,e1,d⟩:=rec _ z
    obtain ⟨v,o',ho',hd'⟩:=I.cell x c e
    rw [e1] at ho'; cases ho'; rw [d] at hd'; cases hd'
  have sL:∀ b o,X.s₀.heap.get? b=some o->b ∉ l:=fun b o e z=>by rw [(ow b z).2.1] at e; cases e
  have tL:∀ b o,H b=some o->b ∉ l:=fun b o e z=>by rw [(ow b z).1] at e; cases e
  have nL:∀ m,s.heap.Ns X.env.locals m->h'.Ns X.env.locals m:=fun m hm=>by
    obtain ⟨o,es,ep,ho,hd,r⟩:=hm
    obtain ⟨sl,q⟩:=W.any lL ho
    exact ⟨_,es,ep,q,hd,r⟩
  have cell:∀ x c,X.env.cells.lookup x=some c->∀ v,s.heap.IsCell c v->h'.IsCell c v:=fun x c e v ⟨o,ho,hd⟩=>by
    obtain ⟨sl,q⟩:=W.any (cL x c e) ho
    exact ⟨_,q,hd⟩
  have fs0:∀ b,b ≠ X.env.locals->b ∉ X.fs->b ∉ frs X.stack:=fun b h1 h2 z=>(List.mem_cons.mp (I.stkSub b z)).elim h1 h2
  have old:∀ b o,X.s₀.heap.get? b=some o->b ≠ X.env.locals:=fun b o e=>Nat.ne_of_lt (Nat.lt_of_lt_of_le (Heap.lt_size e) I.ok.above)
  refine ⟨I.ok,I.os,I.bare,⟨fun b o e n hb hx=>?_,fun b o e n hb hx=>?_,I.base.free,fun b o e hx=>?_,I.base.tups,I.base.frzs,I.base.tbls⟩,?_,fun x c e=>?_,I.free,I.freeC,fun p hp=>?_,fun b u e=>?_,I.len⟩
  · exact W.keep b o (sL b o e) (fs0 b (old b o e) hb) (I.base.keep b o e n hb hx)
  · obtain ⟨sl,e1⟩:=I.base.slot b o e n hb hx
    obtain ⟨sl',e2⟩:=W.any (sL b o e) e1
    exact ⟨sl',e2⟩
  · obtain ⟨o',e1⟩:=I.base.there b o e hx
    obtain ⟨sl,e2⟩:=W.any (sL b o e) e1
    exact ⟨_,e2⟩
  · obtain ⟨m,hn,hl⟩:=I.loc
    refine ⟨m,nL m hn,fun i x v e1 e2 e3=>?_⟩
    obtain ⟨u,r,q⟩:=hl i x v e1 e2 e3
    refine ⟨u,r,?_⟩
    rcases q with q | ⟨k,c,e,z⟩
    · exact .inl q
    · exact .inr ⟨k,c,e,cell x c e _ z⟩
  · obtain ⟨v,z⟩:=I.cell x c e
    exact ⟨v,cell x c e v z⟩
  · obtain ⟨e,n,ne,nf,d⟩:=I.pin p hp
    exact ⟨W.keep p.1 p.2 (fun z=>(ow p.1 z).2.2.2 p hp rfl) (fs0 p.1 ne nf) e,n,ne,nf,d⟩
  · refine (I.hok b u e).stay (fun c v hc q=>?_) (fun _ q=>q) fun _ _ q=>q
    have hc':∃ u,H c=some u:=hc.elim (fun z=>⟨u,z ▸ e⟩) fun z=>⟨_,z⟩
    obtain ⟨u',e'⟩:=hc'
    exact W.keep c v (tL c u' e') (fun z=>by rw [I.stkFree c z] at e'; cases e') q
variable {M:Model} {A:Around} {E:Value->Shared->Prop} {a:Addr} {C:Value} {T:Option Addr} {env:Env}
theorem Inv.note {Q:Unit->Shared->Prop} (ok:XOk X) (I:Inv X pins σ H s) (F:Fly X pins H s.heap a C T) (hfr:A.frames=some X.stack) (hen:env.frame=X.env.frame)
    (h:∀ h' T',Inv X pins σ H { s with heap:=h' }->Fly X pins H h' a C (some T')->Q () { s with heap:=h' }):wpAny M A (noteFrame (.ref a) env) Q E s:=by
  obtain ⟨top,outer,L,e1,e2,e3⟩:=ok.top
  have hst:=I.stack
  rw [e1] at hfr hst
  refine note_any hfr e2 (hen.trans e3) hst F.fl fun h' T' W fl' new=>?_
  rw [<- e1] at W
  refine h h' T' (I.wrote W F.ow F.fl.rec) ⟨fl',fun b hb=>?_⟩
  rcases List.mem_cons.mp hb with rfl | hb
  · exact F.ow _ (List.mem_cons_self ..)
  · have e:b=T':=by simpa using hb
    subst e
    rcases new with q | q
    · exact F.ow _ (by rw [q]; simp)
    · exact I.ow ok (.inr trivial) q (I.untracked q)
theorem Inv.flight {t:Addr} {f:Option Addr} {Q:Unit->Shared->Prop} (I:Inv X pins σ H s) (F:Fly X pins H s.heap a C (some t))
    (h:∀ h',Inv X pins σ H { s with heap:=h' }->Fly X pins H h' a C (some t)->Q () { s with heap:=h' }):wpAny M A (setFlight (.ref a) f) Q E s:=by
  refine flight_any F.fl fun h' sb fl'=>h h' (I.wrote (l:=[a,t]) ⟨fun b o hb _ e=>(sb.2 b fun z=>hb (by simp [z])).trans e,fun b o hb _ e=>⟨o.slots,(sb.2 b fun z=>hb (by simp [z])).trans e⟩⟩ (fun b hb=>F.ow b (by simpa using hb)) fun b hb=>F.fl.rec b (by simpa using hb)) ⟨fl',F.ow⟩
theorem Inv.passOn {α:Type} {t:Addr} {what:String} {Q:α->Shared->Prop} (I:Inv X pins σ H s) (F:Fly X pins H s.heap a C (some t))
    (h:∀ h',Inv X pins σ H { s with heap:=h' }->Fly X pins H h' a C (some t)->E (.ref a) { s with heap:=h' }):wpAny M A (passOn what (.ref a) env:Sem α) Q E s:=by
  unfold PySem.passOn
  refine wpAny_bind (traced_any F.fl ?_)
  rw [if_neg (show ¬ ((Value.ref t == Value.none)=true) from by simp)]
  exact wpAny_bind (I.flight F fun h' I' F'=>wpAny_throw (h h' I' F'))
theorem Inv.cameBack {t:Addr} (I:Inv X pins σ H s) (F:Fly X pins H s.heap a C (some t))
    (h:∀ h',Inv X pins σ H { s with heap:=h' }->Fly X pins H h' a C (some t)->E (.ref a) { s with heap:=h' }):cameBackBy M A env E (.ref a) s:=by
  unfold cameBackBy
  refine wpAny_bind (traced_any F.fl ?_)
  rw [if_neg (show ¬ ((Value.ref t == Value.none)=true) from by simp)]
  exact I.flight F fun h' I' F'=>h h' I' F'
end
noncomputable abbrev ZK:=St->Value->Hp->Prop
noncomputable def XE (X:Cx) (Z:ZK) (e:Value) (s':Shared):Prop:=∃ a C T σ' H',e=.ref a /\ Inv X [] σ' H' s' /\ Fly X [] H' s'.heap a C T /\ Z σ' C H'
structure Thr (X:Cx) (Z:ZK):Prop extends XOk X where
  thr:∀ e s',XE X Z e s'->X.xe e s'
noncomputable def CXs (P:Program) (w:World):CXT:=fun outer H s E e s'=>∃ a C t H',e=.ref a /\ s'.os=s.os /\ AllBare s'.gens /\ Un (frs outer) [] H H' s.heap s'.heap /\ HOk P w H' s'.heap /\
  Fl s'.heap a C (some t) /\ (∀ b ∈ [a,t],H' b=none /\ s.heap.get? b=none) /\ E C none H'
theorem thr_def {P:Program} {w:World} {K:PySem.W.Frag} {mg:Str->Option Value} {base:Heap} {N:List Str} {qual:Str} {scope:Scope} {f:Addr} {cd:Value} {A:Around} {outer:List Env} {s:Shared} {H:Hp} {E:XK} :
    Thr (cxOf (CXs P w) P w K mg base N qual scope f cd A outer s H E) (fun _ C H'=>E C none H') where
  top:=⟨_,_,_,rfl,rfl,rfl⟩
  ex:=fun b hb=>absurd (show b ∈ ([]:List Addr) from hb) (by simp)
  thr:=by
    rintro e s' ⟨a,C,T,σ',H',rfl,I,F,z⟩
    have ok:XOk (cxOf (CXs P w) P w K mg base N qual scope f cd A outer s H E):=⟨⟨_,_,_,rfl,rfl,rfl⟩,fun b hb=>absurd (show b ∈ ([]:List Addr) from hb) (by simp)⟩
    show wpAny (model P w) (A.deeper (envOfC qual scope s.heap.objs.size f cd)) (leaving (envOfC qual scope s.heap.objs.size f cd) (.ref a)) _ _ s'
    unfold leaving
    refine wpAny_bind (I.note ok F I.ok.frames rfl fun h1 t I1 F1=>?_)
    refine I1.flight F1 fun h2 I2 F2=>?_
    exact ⟨a,C,t,H',rfl,I2.os,I2.bare,I2.base,I2.hok,F2.fl,fun b hb=>⟨(F2.ow b (by simpa using hb)).1,(F2.ow b (by simpa using hb)).2.1⟩,z⟩
section
variable {X:Cx} {pins:List (Addr × Obj)} {σ:St} {H:Hp} {s s':Shared}
theorem Inv.thrown {E:XK} {e:Value} (ok:XOk X) (I:Inv X pins σ H s) (h:CXs X.prog X.w X.stack H s E e s'):∃ a C t H',e=.ref a /\ Inv X pins σ H' s' /\ Fly X pins H' s'.heap a C (some t) /\ E C none H':=by
  obtain ⟨a,C,t,H',rfl,ho,hg,u,hok,fl,ow,q⟩:=h
  have I':Inv X pins σ H' s':=I.call' (ch:=[]) ho u hok hg fun b hb=>absurd hb (by simp)
  refine ⟨a,C,t,H',rfl,I',⟨fl,fun b hb=>?_⟩,q⟩
  obtain ⟨o1,o2⟩:=ow b (by simpa using hb)
  exact I.ow ok (.inr trivial) o2 o1
theorem Inv.nopins (I:Inv X pins σ H s):Inv X [] σ H s:=I.pins_of fun p hp=>absurd hp (by simp)
theorem Fly.nopins {h:Heap} {a:Addr} {C:Value} {T:Option Addr} (F:Fly X pins H h a C T):Fly X [] H h a C T :=
  ⟨F.fl,fun b hb=>⟨(F.ow b hb).1,(F.ow b hb).2.1,(F.ow b hb).2.2.1,fun p hp=>(F.ow b hb).2.2.2 p (by simp at hp; exact List.mem_append_left _ hp)⟩⟩
theorem Thr.go {Z:ZK} (th:Thr X Z) {a:Addr} {C:Value} {T:Option Addr} (I:Inv X pins σ H s) (F:Fly X pins H s.heap a C T) (z:Z σ C H):X.xe (.ref a) s :=
  th.thr _ _ ⟨a,C,T,σ,H,rfl,I.nopins,F.nopins,z⟩
end
noncomputable def tCallX (sp:Sp) (dvs:List V) (Z:ZK) (t:TA):TE:=fun σ H Q=>t σ H fun vs H1=>sp (vs ++ dvs) H1 Q (fun C _ H'=>Z σ C H')
section
variable {X:Cx} {k:Nat} {f C:Addr} {fd:FuncData} {ps:List Str} {sp:Sp} {dvs:List V} {ds:List Value} {Z:ZK} {x m:Str} {p pos apos:Pos} {e o:Expr} {es:List Expr} {ta:TE} {t:TA}
theorem run_fnX {pins:List (Addr × Obj)} {σ:St} {H:Hp} {s:Shared} {Q:VK} {us:List Value} {vs:List V} (F:FnOk X.prog X.w X.K X.mg X.base (CXs X.prog X.w) k f fd ps sp) (hr:Room k X.A) (hb:Binds X.K fd ps ds) (hd:Vals dvs ds) (th:Thr X Z)
    (I:Inv X pins σ H s) (r:Vals vs us) (h:sp (vs ++ dvs) H Q (fun C _ H'=>Z σ C H')):wpAny (model X.prog X.w) X.A (call (.ref f) us) (EP X pins σ Q) X.xe s:=by
  have r2:Vals (vs ++ dvs) (us ++ ds):=r.append hd
  have hl:(us ++ ds).length=ps.length:=by rw [<- r2.length]; exact F.len _ _ _ _ h
  refine wpAny_call (codeAny_mono (F.run X.A X.stack s H ⟨us,[]⟩ (us ++ ds) (vs ++ dvs) Q _ hr I.env0 (hb s us I.kIn hl) r2 h) fun r s' hq=>?_)
  cases r with
  | error e =>
    have hq':CXs X.prog X.w X.stack H s (fun C _ H'=>Z σ C H') e s':=hq
    obtain ⟨a,C,t,H',rfl,I',F',z⟩:=I.thrown th.toXOk hq'
    exact th.go I' F' z
  | ok fl =>
    cases fl with
    | ret u=>exact I.after hq
    | next=>exact False.elim hq
    | brk=>exact False.elim hq
    | cont=>exact False.elim hq
theorem pe_callX (F:FnOk X.prog X.w X.K X.mg X.base (CXs X.prog X.w) k f fd ps sp) (hr:Room k X.A) (hg:Gl X x) (hm:X.mg x=some (.ref f)) (hk:PySem.W.keepIn X.K (.ref f)=true) (hb:Binds X.K fd ps ds) (hd:Vals dvs ds) (th:Thr X Z)
    (ha:PA X (e :: es) t) (hdb:(x == ("__debug__":Str))=false:=by decide) (he:starEach (e :: es) X.env=(false,eval e X.env) :: starEach es X.env:=by rfl) (hpl:(backTo pos (starEach es X.env)).any (·.1)=false:=by rfl) :
    PE X (.Call (.Name x p) (e :: es) [] pos) (tCallX sp dvs Z t):=by
  intro pins s σ H Q I h
  refine wpAny_Call_Name_kw (ld_glob I hg hm ?_ hdb)
  refine PySem.W.callWith_K (h₀:=X.base) I.ok.mod.kin hk (thn (ha pos pins s σ H _ I h) fun us s1 ⟨vs,H1,I1,r,q⟩=>⟨I1.kIn,?_⟩) he hpl
  exact run_fnX F hr hb hd th I1 r q
end
end L2
set_option Elab.async false
set_option linter.all false
set_option maxRecDepth 100000
namespace L2
open PySem PySem.Spec PyProof.Rows
noncomputable def clGo (env:Env):List (Str × NameKind)->List (Str × Addr)->List (Str × Addr)
  | [],cs=>cs
  | (n,k) :: r,cs=>clGo env r (if k == .free then (n,(env.cells.lookup n).getD 0) :: cs else cs)
noncomputable def clOf (scope:Scope) (env:Env):List (Str × Addr):=clGo env scope.names []
theorem closure_of {scope:Scope} {env:Env} (h:∀ y ∈ scope.names,y.2=.free->∃ c,env.cells.lookup y.1=some c):closureFor scope env=pure (clOf scope env):=by
  unfold closureFor clOf
  have go:∀ (l:List (Str × NameKind)) (cs:List (Str × Addr)),(∀ y ∈ l,y.2=.free->∃ c,env.cells.lookup y.1=some c) ->
      (forIn l cs fun (x:Str × NameKind) (r:List (Str × Addr))=>(match x with
        | (name,kind)=>if (kind == NameKind.free)=true then (do let a <- cellOf env name; pure (ForInStep.yield ((name,a) :: r))) else (pure (ForInStep.yield r)):Sem (ForInStep (List (Str × Addr)))))=(pure (clGo env l cs):Sem (List (Str × Addr))):=by
    intro l
    induction l with
    | nil=>intro cs _; rfl
    | cons y r ih =>
      intro cs hl
      obtain ⟨n,k⟩:=y
      rw [List.forIn_cons]
      by_cases hk:(k == NameKind.free)=true
      · obtain ⟨c,hc⟩:=hl (n,k) (List.mem_cons_self ..) (by simpa using hk)
        have e:cellOf env n=pure c:=by unfold cellOf; rw [hc]
        simp only [hk,if_true,e,pure_bind,clGo,hc,Option.getD_some]
        exact ih _ fun y hy=>hl y (List.mem_cons_of_mem _ hy)
      · simp only [hk,if_false,pure_bind,clGo,Bool.false_eq_true]
        exact ih _ fun y hy=>hl y (List.mem_cons_of_mem _ hy)
  have:=go scope.names [] h
  first
    | (rw [this]; rfl)
    | (simp only [bind_pure_comp] at this ⊢; rw [this]; rfl)
    | (simp only [bind_pure_comp] at this ⊢; rw [this]; simp)
theorem clGo_mem {env:Env}:∀ {l:List (Str × NameKind)} {cs:List (Str × Addr)} {x:Str} {c:Addr},(∀ y ∈ l,y.2=.free->∃ c,env.cells.lookup y.1=some c)->(x,c) ∈ clGo env l cs->(x,c) ∈ cs \/ env.cells.lookup x=some c
  | [],_,_,_,_,h=>.inl h
  | (n,k) :: r,cs,x,c,hl,h=>by
    rcases clGo_mem (l:=r) (fun y hy=>hl y (List.mem_cons_of_mem _ hy)) h with h | h
    · by_cases hk:(k == NameKind.free)=true
      · rw [if_pos hk] at h
        rcases List.mem_cons.mp h with e | h
        · obtain ⟨c',hc⟩:=hl (n,k) (List.mem_cons_self ..) (by simpa using hk)
          rw [hc] at e
          cases e
          exact .inr hc
        · exact .inl h
      · rw [if_neg hk] at h
        exact .inl h
    · exact .inr h
theorem clGo_keep {env:Env}:∀ {l:List (Str × NameKind)} {cs:List (Str × Addr)} {p:Str × Addr},p ∈ cs->p ∈ clGo env l cs
  | [],_,_,h=>h
  | (n,k) :: r,cs,p,h=>by
    unfold clGo
    refine clGo_keep ?_
    split
    · exact List.mem_cons_of_mem _ h
    · exact h
theorem clGo_has {env:Env}:∀ {l:List (Str × NameKind)} {cs:List (Str × Addr)} {x:Str},(x,NameKind.free) ∈ l->∃ c,(x,c) ∈ clGo env l cs
  | (n,k) :: r,cs,x,h=>by
    unfold clGo
    rcases List.mem_cons.mp h with e | h
    · cases e
      exact ⟨(env.cells.lookup n).getD 0,clGo_keep (by rw [if_pos (by decide)]; exact List.mem_cons_self ..)⟩
    · exact clGo_has h
theorem lookup_some_of_mem {α β:Type} [BEq α] [LawfulBEq α]:∀ {l:List (α × β)} {x:α} {c:β},(x,c) ∈ l->∃ c',l.lookup x=some c'
  | (n,k) :: r,x,c,h=>by
    rw [List.lookup_cons]
    cases e:x == n with
    | true=>exact ⟨k,rfl⟩
    | false =>
      rcases List.mem_cons.mp h with q | q
      · cases q; simp at e
      · exact lookup_some_of_mem q
noncomputable def ccells (scope:Scope) (C:Addr) (env:Env):List (Str × Addr):=cellsFrom (C + 1) scope.names (clOf scope env)
theorem cellsFrom_app:∀ (l:List (Str × NameKind)) (n:Nat) (acc:List (Str × Addr)),cellsFrom n l acc=cellsFrom n l [] ++ acc
  | [],_,_=>rfl
  | (x,k) :: r,n,acc=>by
    unfold cellsFrom
    by_cases hk:(k == NameKind.cell)=true
    · rw [if_pos hk,if_pos hk,cellsFrom_app r (n + 1) ((x,n) :: acc),cellsFrom_app r (n + 1) [(x,n)],List.append_assoc]; rfl
    · rw [if_neg hk,if_neg hk]; exact cellsFrom_app r n acc
theorem cellsFrom_mem:∀ {l:List (Str × NameKind)} {n:Nat} {x:Str} {c:Addr},(x,c) ∈ cellsFrom n l []->(x,NameKind.cell) ∈ l
  | (y,k) :: r,n,x,c,h=>by
    unfold cellsFrom at h
    by_cases hk:(k == NameKind.cell)=true
    · rw [if_pos hk,cellsFrom_app] at h
      rcases List.mem_append.mp h with h | h
      · exact List.mem_cons_of_mem _ (cellsFrom_mem h)
      · have e:x=y:=by simpa using (List.mem_singleton.mp h ▸ rfl:(x,c).1=(y,n).1)
        have e2:k=.cell:=by simpa using hk
        rw [e,e2]; exact List.mem_cons_self ..
    · rw [if_neg hk] at h
      exact List.mem_cons_of_mem _ (cellsFrom_mem h)
theorem cc_cases {scope:Scope} {C:Addr} {env:Env} {x:Str} {c:Addr} (h:(ccells scope C env).lookup x=some c):(cellsFrom (C + 1) scope.names []).lookup x=some c \/ ((cellsFrom (C + 1) scope.names []).lookup x=none /\ (clOf scope env).lookup x=some c):=by
  unfold ccells at h
  rw [cellsFrom_app,List.lookup_append] at h
  cases e:(cellsFrom (C + 1) scope.names []).lookup x with
  | none=>rw [e] at h; exact .inr ⟨rfl,h⟩
  | some c'=>rw [e] at h; exact .inl h
theorem cc_own {scope:Scope} {C:Addr} {env:Env} {x:Str} {c:Addr} (h:(cellsFrom (C + 1) scope.names []).lookup x=some c):(ccells scope C env).lookup x=some c:=by
  unfold ccells
  rw [cellsFrom_app,List.lookup_append,h]; rfl
theorem cc_clo {scope:Scope} {C:Addr} {env:Env} {x:Str} {c:Addr} (h:(clOf scope env).lookup x=some c) (h0:(cellsFrom (C + 1) scope.names []).lookup x=none):(ccells scope C env).lookup x=some c:=by
  unfold ccells
  rw [cellsFrom_app,List.lookup_append,h0]; exact h
theorem wpAny_newBlock {M:Model} {A:Around} {E:Value->Shared->Prop} {s:Shared} {scope:Scope} {globals:Addr} {closure:List (Str × Addr)} {qual:Str} {func:Option Addr} {code:Value} {e:Env} {builtins:Addr} {Q:Env->Shared->Prop}
    (hQ:Q (newEnv scope s.heap.objs.size globals (cellsFrom (s.heap.objs.size + 1) scope.names closure) qual func code (some e) builtins) { s with heap:=pushCells (s.heap.push { cls:=.type "dict",data:=.dict #[] }) scope.names }) :
    wpAny M A (newFunctionEnv scope globals closure [] qual func code (some e) builtins) Q E s:=by
  simp only [newFunctionEnv,Option.isSome_some,if_true]
  refine wpAny_bind (wpAny_alloc ?_)
  refine wpAny_bind (wpAny_layCells _ (fun name kind cells=>by cases hkc:kind == NameKind.cell <;> simp [hkc]) _ _ _ _ ?_)
  rw [show ({ s with heap:=s.heap.push { cls:=.type "dict",data:=.dict #[] } }:Shared).heap.objs.size=s.heap.objs.size + 1 from Heap.size_push ..]
  refine wpAny_bind ?_
  rw [List.forIn_nil]
  exact wpAny_pure (wpAny_pure hQ)
noncomputable abbrev compCx (X:Cx) (NC:List Str) (scope:Scope) (C:Addr) (s:Shared) (H:Hp) (ex:List Addr) (pn:List (Addr × Obj)) (xe:Value->Shared->Prop):Cx :=
  { X with N:=NC,s₀:=s,H₀:=H,env:=compEnvC scope (ccells scope C X.env) C X.env,outer:=X.stack,stack:=X.stack,ex:=ex,fn:=fun x=>scope.names.lookup x == some .cell,calm:=true,pn:=pn,xe:=xe }
noncomputable def compOk (osc scope:Scope) (N NC:List Str) (cap:List (Option Nat)):Bool :=
  scope.kind == .function && scope.names.all (fun y=>y.2 != .cell || scope.names.lookup y.1 == some .cell) &&
  scope.names.all (fun y=>y.2 != .local || scope.names.lookup y.1 == some .local) &&
  scope.names.all (fun y=>y.2 != .free || osc.names.lookup y.1 == some .cell) && cap.length == NC.length &&
  (List.range NC.length).all fun j=>match cap[j]?,NC[j]? with
    | some (some i),some x=>N[i]? == some x && scope.names.lookup x == some .free
    | some none,some x=>scope.names.lookup x == some .local || scope.names.lookup x == some .cell
    | _,_=>false
noncomputable def capσ (cap:List (Option Nat)) (σ:St):St:=cap.map fun o=>o.bind fun i=>(σ[i]?).bind id
theorem kindOf_rel {scope:Scope} {env:Env} {x:Str} (hk:env.scope.kind=.function):∀ {names:List (Str × NameKind)},(∀ y ∈ names,y.2=.free->env.kindOf y.1=some .cell) ->
    (names.map fun (n,k)=>if (k == NameKind.free && env.scope.kind == .function && env.kindOf n == some .cell) then (n,NameKind.cell) else (n,k)).lookup x=(names.lookup x).map fun k=>if k=.free then .cell else k
  | [],_=>rfl
  | (n,k) :: r,h=>by
    have ih:=kindOf_rel (scope:=scope) (x:=x) hk (names:=r) fun y hy=>h y (List.mem_cons_of_mem _ hy)
    show List.lookup x ((if (k == NameKind.free && env.scope.kind == .function && env.kindOf n == some .cell)=true then (n,NameKind.cell) else (n,k)) :: _)=_
    by_cases hkf:k=.free
    · subst hkf
      rw [if_pos (by rw [hk,h (n,.free) (List.mem_cons_self ..) rfl]; decide)]
      rw [List.lookup_cons,List.lookup_cons]
      cases e:x == n with
      | true=>rfl
      | false=>exact ih
    · rw [if_neg (by intro z; simp only [Bool.and_eq_true,beq_iff_eq] at z; exact hkf z.1.1)]
      rw [List.lookup_cons,List.lookup_cons]
      cases e:x == n with
      | true=>simp [hkf]
      | false=>exact ih
section
variable {X:Cx} {pins:List (Addr × Obj)} {σ:St} {H H':Hp} {s s':Shared}
theorem Inv.repn {pn pins':List (Addr × Obj)} {xe:Value->Shared->Prop} (I:Inv X pins σ H s) (h:∀ p ∈ pn ++ pins',p ∈ X.pn ++ pins):Inv { X with pn:=pn,xe:=xe } pins' σ H s :=
  ⟨⟨I.ok.mod,I.ok.kind,I.ok.glob,I.ok.blt,I.ok.above,I.ok.inj,I.ok.has,I.ok.cab,I.ok.hd,I.ok.frames,I.ok.stk,I.ok.exf,I.ok.bs,I.ok.bsz,I.ok.noex,I.ok.exfs,I.ok.funs,I.ok.frf⟩,
    I.os,I.bare,I.base,I.loc,I.cell,I.free,I.freeC,fun p hp=>I.pin p (h p hp),I.hok,I.len⟩
theorem Inv.track {D:Addr} {o:HO} (I:Inv X pins σ H s) (hD:H D=none) (h0:X.s₀.heap.get? D=none) (hL:D ≠ X.env.locals) (hC:∀ x c,X.env.cells.lookup x=some c->c ≠ D) (hp:∀ p ∈ X.pn ++ pins,p.1 ≠ D)
    (new:ObjOk X.prog X.w (upd H D o) s.heap D o):Inv X pins σ (upd H D o) s:=by
  have up:∀ b u,H b=some u->upd H D o b=some u:=fun b u e=>by rw [upd_ne (ne_of_none e hD)]; exact e
  refine ⟨I.ok,I.os,I.bare,⟨I.base.keep,I.base.slot,fun b u e n hx=>?_,I.base.there,fun b xs e=>up _ _ (I.base.tups b xs e),fun b u xs e=>up _ _ (I.base.frzs b u xs e),fun b ps e=>?_⟩,I.loc,I.cell,?_,fun x c e=>?_,fun p hq=>?_,fun b u e=>?_,I.len⟩
  · rw [upd_ne (fun z=>by rw [z,h0] at e; cases e)]
    exact I.base.free b u e n hx
  · obtain ⟨more,q⟩:=I.base.tbls b ps e
    exact ⟨more,up _ _ q⟩
  · rw [upd_ne (Ne.symm hL)]; exact I.free
  · rw [upd_ne (hC x c e)]; exact I.freeC x c e
  · obtain ⟨e,n,r⟩:=I.pin p hq
    exact ⟨e,by rw [upd_ne (hp p hq)]; exact n,r⟩
  · by_cases hb:b=D
    · subst hb
      rw [upd_same] at e
      cases e
      exact new
    · rw [upd_ne hb] at e
      exact (I.hok b u e).stay (fun _ _ _ q=>q) (fun c q=>up _ _ q) fun c xs q=>up _ _ q
end
noncomputable def PF (X:Cx) (ifs:List Expr) (t:TT):Prop :=
  ∀ (pins:List (Addr × Obj)) (s:Shared) (σ:St) (H:Hp) (Q:Bool->Hp->Prop),Inv X pins σ H s->t σ H Q ->
    wpAny (model X.prog X.w) X.A (forIn ifs true fun c r=>if r=true then do let ok <- isTrue c X.env (eval c X.env); pure (ForInStep.yield ok) else pure (ForInStep.yield r)) (TP X pins σ Q) X.xe s
noncomputable def tNoTest:TT:=fun _ H Q=>Q true H
theorem pf_nil {X:Cx}:PF X [] tNoTest:=fun pins s σ H Q I h=>wpAny_tests_nil ⟨H,I,h⟩
theorem pf_one {X:Cx} {c:Expr} {t:TT} (h:PT X c t):PF X [c] t:=fun pins s σ H Q I q=>wpAny_tests_one (h pins s σ H Q I q)
theorem compOk_parts {osc scope:Scope} {N NC:List Str} {cap:List (Option Nat)} (h:compOk osc scope N NC cap=true) :
    scope.kind=.function /\ (∀ y ∈ scope.names,y.2=.cell->scope.names.lookup y.1=some .cell) /\ (∀ y ∈ scope.names,y.2=.local->scope.names.lookup y.1=some .local) /\ (∀ y ∈ scope.names,y.2=.free->osc.names.lookup y.1=some .cell) /\ cap.length=NC.length /\
    (∀ (j i:Nat),cap[j]?=some (some i)->∃ x,NC[j]?=some x /\ N[i]?=some x /\ scope.names.lookup x=some .free) /\ ∀ (j:Nat) (x:Str),cap[j]?=some none->NC[j]?=some x->scope.names.lookup x=some .local \/ scope.names.lookup x=some .cell:=by
  unfold compOk at h
  simp only [Bool.and_eq_true,List.all_eq_true,bne_iff_ne,ne_eq,Bool.or_eq_true,beq_iff_eq,List.mem_range] at h
  obtain ⟨⟨⟨⟨⟨h1,h2⟩,h3⟩,h4⟩,h5⟩,h6⟩:=h
  refine ⟨h1,fun y hy e=>(h2 y hy).resolve_left fun z=>z e,fun y hy e=>(h3 y hy).resolve_left fun z=>z e,fun y hy e=>(h4 y hy).resolve_left fun z=>z e,h5,fun j i e=>?_,fun j x e ex=>?_⟩
  · have hj:j < NC.length:=by rw [<- h5]; exact (List.getElem?_eq_some_iff.mp e).1
    have q:=h6 j hj
    rw [e] at q
    cases ex:NC[j]? with
    | none=>rw [ex] at q; simp at q
    | some x =>
      rw [ex] at q
      simp only [Bool.and_eq_true,beq_iff_eq] at q
      exact ⟨x,rfl,q.1,q.2⟩
  · have hj:j < NC.length:=(List.getElem?_eq_some_iff.mp ex).1
    have q:=h6 j hj
    rw [e,ex] at q
    simpa using q
section
variable {X:Cx} {pins:List (Addr × Obj)} {σ:St} {H₂:Hp} {s₂:Shared} {scope:Scope} {NC:List Str} {cap:List (Option Nat)} {fp:List Addr}
theorem comp_start {C D:Addr} {h₁:Heap} {tk:Nat} {o:Obj} {xe:Value->Shared->Prop} (I:Inv X pins σ H₂ s₂) (hc:X.calm=true) (cok:compOk X.env.scope scope X.N NC cap=true) (f2:∀ b ∈ fp,FpOk X pins H₂ b) (hfp:∀ b ∈ fp,∃ o,s₂.heap.get? b=some o)
    (hD:D=s₂.heap.objs.size) (hC:C=s₂.heap.objs.size + 1) (old:∀ b o,s₂.heap.get? b=some o->h₁.get? b=some o) (hacc:h₁.get? D=some o) (ho:∀ v,o.data ≠ .cell v) {m:Str->Option Value} (ns:h₁.Ns C m) (own:CellsOk h₁ (C + 1) (cellsFrom (C + 1) scope.names [])) :
    Inv (compCx X NC scope C s₂ H₂ fp [] xe) [(D,o)] (capσ cap σ) H₂ { s₂ with heap:=h₁,toks:=tk }:=by
  obtain ⟨c1,c2,c3,c4,c5,c6,c7⟩:=compOk_parts cok
  have hfree:∀ y ∈ scope.names,y.2=.free->∃ c,X.env.cells.lookup y.1=some c:=fun y hy e=>I.ok.has y.1 (.inl (c4 y hy e))
  have clx:∀ x c,(clOf scope X.env).lookup x=some c->X.env.cells.lookup x=some c:=fun x c e=>by
    rcases clGo_mem hfree (PySem.mem_of_lookup e) with z | z
    · simp at z
    · exact z
  have ccx:∀ x c,(ccells scope C X.env).lookup x=some c->(cellsFrom (C + 1) scope.names []).lookup x=some c \/ X.env.cells.lookup x=some c:=fun x c e=>(cc_cases e).imp id fun z=>clx x c z.2
  have hrel:∀ x,(compEnvC scope (ccells scope C X.env) C X.env).kindOf x=(scope.names.lookup x).map fun k=>if k=.free then .cell else k:=fun x=>kindOf_rel (scope:=scope) I.ok.kind fun y hy e=>c4 y hy e
  have fresh:∀ b,s₂.heap.objs.size<=b->s₂.heap.get? b=none:=fun b hb=>Heap.get?_none_of_le hb
  have sz:s₂.heap.objs.size<=C:=by rw [hC]; exact Nat.le_succ _
  have szD:s₂.heap.objs.size<=D:=by rw [hD]; exact Nat.le_refl _
  have ownF:∀ x c,(cellsFrom (C + 1) scope.names []).lookup x=some c->s₂.heap.get? c=none /\ s₂.heap.objs.size<=c:=fun x c e=>by
    have q:=(own.empty x c (PySem.mem_of_lookup e)).2
    have q2:s₂.heap.objs.size<=c:=by rw [hC] at q; omega
    exact ⟨fresh c q2,q2⟩
  have cloF:∀ x c,X.env.cells.lookup x=some c->c < s₂.heap.objs.size:=fun x c e=>by
    obtain ⟨v,q⟩:=I.cell x c e
    exact q.lt
  have inj:∀ x y c,(ccells scope C X.env).lookup x=some c->(ccells scope C X.env).lookup y=some c->x=y:=fun x y c e1 e2=>by
    rcases ccx x c e1 with z1 | z1 <;> rcases ccx y c e2 with z2 | z2
    · exact name_of_addr own.apart (PySem.mem_of_lookup z1) (PySem.mem_of_lookup z2)
    · exact absurd (cloF y c z2) (Nat.not_lt.mpr (ownF x c z1).2)
    · exact absurd (cloF x c z1) (Nat.not_lt.mpr (ownF y c z2).2)
    · exact I.ok.inj x y c z1 z2
  have exC:∀ b ∈ fp,b ≠ C:=fun b hb z=>by
    obtain ⟨o,e⟩:=hfp b hb
    rw [z,fresh C sz] at e; cases e
  have exD:∀ b ∈ fp,b ≠ D:=fun b hb z=>by
    obtain ⟨o,e⟩:=hfp b hb
    rw [z,fresh D szD] at e; cases e
  refine ⟨⟨I.ok.mod,c1,I.ok.glob,I.ok.blt,sz,inj,fun x hx=>?_,fun x c z e=>?_,fun _=>I.ok.hd hc,I.ok.frames,.inl rfl,fun b hb=>⟨exC b hb,fun x c e=>?_⟩,
    I.bs,Nat.le_trans I.ok.bsz I.sz,fun b o e z=>?_,fun b hb z=>?_,I.stack,I.stkFree⟩,rfl,I.bare,Un.kept old,⟨m,ns,fun j x v e1 e2 e3=>?_⟩,fun x c e=>?_,I.hok.fresh sz,fun x c e=>?_,fun p hp=>?_,I.hok.kept old,?_⟩
  · rw [hrel] at hx
    have hxf:scope.names.lookup x=some .free \/ scope.names.lookup x=some .cell:=by
      cases e:scope.names.lookup x with
      | none=>rw [e] at hx; simp at hx
      | some k =>
        rw [e] at hx
        by_cases hk:k=.free
        · rw [hk]; exact .inl rfl
        · simp only [Option.map_some,if_neg hk,Option.some.injEq] at hx
          rcases hx with z | z
          · rw [z]; exact .inr rfl
          · exact absurd z hk
    rcases hxf with hxf | hxf
    · obtain ⟨c,hm⟩:=clGo_has (env:=X.env) (cs:=[]) (PySem.mem_of_lookup hxf)
      obtain ⟨c',hl⟩:=lookup_some_of_mem hm
      exact Option.isSome_iff_exists.mp (PySem.W.cellsFrom_some _ _ _ (.inr (by rw [show (clOf scope X.env).lookup x=some c' from hl]; rfl)))
    · exact Option.isSome_iff_exists.mp (PySem.W.cellsFrom_some _ _ _ (.inl hxf))
  · have hx:scope.names.lookup x=some .cell:=by simpa using z
    obtain ⟨c',hl⟩:=Option.isSome_iff_exists.mp (PySem.W.cellsFrom_some (x:=x) scope.names (C + 1) [] (.inl hx))
    have e':(ccells scope C X.env).lookup x=some c:=e
    rw [cc_own hl] at e'
    cases e'
    exact (ownF x _ hl).2
  · rcases ccx x c e with z | z
    · intro q
      obtain ⟨o,eb⟩:=hfp b hb
      rw [<- q,(ownF x c z).1] at eb
      cases eb
    · exact (f2 b hb).2.2.2.2.1 x c z
  · obtain ⟨e1,e2⟩:=I.bs b o e
    have:=(f2 b z).2.2.2.1
    rcases this with q | q
    · exact I.ok.noex b o e q
    · exact absurd (Nat.lt_of_lt_of_le (Heap.lt_size (I.ok.bs b o e).1) q) (Nat.lt_irrefl _)
  · rcases List.mem_cons.mp (I.stkSub b z) with q | q
    · exact (f2 b hb).2.1 q
    · exact (f2 b hb).2.2.1 q
  · have ej:cap[j]?=some ((some ((cap[j]?.bind id).getD 0):Option Nat)):=by
      unfold capσ at e2
      rw [List.getElem?_map] at e2
      cases q:cap[j]? with
      | none=>rw [q] at e2; simp at e2
      | some oo =>
        rw [q] at e2
        cases oo with
        | none=>simp at e2
        | some i=>simp
    generalize ((cap[j]?.bind id).getD 0)=i at ej
    obtain ⟨y,y1,y2,y3⟩:=c6 j i ej
    have:y=x:=Option.some.inj (y1.symm.trans e1)
    subst this
    have ev:σ[i]?=some (some v):=by
      unfold capσ at e2
      rw [List.getElem?_map,ej] at e2
      simp only [Option.map_some,Option.bind_some,Option.some.injEq] at e2
      cases q:σ[i]? with
      | none=>rw [q] at e2; simp at e2
      | some w=>rw [q] at e2; simp at e2; rw [e2]
    have kc:X.env.scope.names.lookup y=some .cell:=c4 (y,.free) (PySem.mem_of_lookup y3) rfl
    obtain ⟨m',hn',hl'⟩:=I.loc
    obtain ⟨u,r,q⟩:=hl' i y v y2 ev (.inr (.inl kc))
    refine ⟨u,r,.inr ⟨.inl (by rw [hrel,y3]; rfl),?_⟩⟩
    rcases q with ⟨k,_⟩ | ⟨k,c,e,z⟩
    · rw [show X.env.kindOf y=some .cell from kc] at k; cases k
    · obtain ⟨c',hm⟩:=clGo_has (env:=X.env) (cs:=[]) (PySem.mem_of_lookup y3)
      obtain ⟨c'',hl⟩:=lookup_some_of_mem hm
      have:=clx y c'' hl
      rw [e] at this
      cases this
      obtain ⟨oc,h1,h2⟩:=z
      refine ⟨c,cc_clo hl ?_,oc,old c oc h1,h2⟩
      cases eo:(cellsFrom (C + 1) scope.names []).lookup y with
      | none=>rfl
      | some c2' =>
        have q1:=c2 (y,.cell) (cellsFrom_mem (PySem.mem_of_lookup eo)) rfl
        rw [y3] at q1
        cases q1
  · rcases ccx x c e with z | z
    · exact ⟨none,(own.empty x c (PySem.mem_of_lookup z)).1⟩
    · obtain ⟨v,oc,h1,h2⟩:=I.cell x c z
      exact ⟨v,oc,old c oc h1,h2⟩
  · rcases ccx x c e with z | z
    · exact I.hok.fresh (ownF x c z).2
    · exact I.freeC x c z
  · have e:p=(D,o):=by simpa using hp
    subst e
    refine ⟨hacc,I.hok.fresh szD,fun z=>by rw [hC,hD] at z; exact absurd z (Nat.ne_of_lt (Nat.lt_succ_self _)),fun z=>?_,ho⟩
    obtain ⟨_,ob,e,_⟩:=I.stack.mem z
    rw [fresh D szD] at e; cases e
  · unfold capσ
    rw [List.length_map]
    exact c5
theorem comp_leave {C:Addr} {pn pc:List (Addr × Obj)} {σ':St} {H':Hp} {s':Shared} {h':Heap} {xe:Value->Shared->Prop} (I:Inv X pins σ H₂ s₂) (f2:∀ b ∈ fp,FpOk X pins H₂ b) (hC:C=s₂.heap.objs.size + 1)
    (J:Inv (compCx X NC scope C s₂ H₂ fp pn xe) pc σ' H' s') (sb:Heap.SameBut C s'.heap h'):Inv X pins σ H' { s' with heap:=h' }:=by
  have fC:s₂.heap.get? C=none:=Heap.get?_none_of_le (by rw [hC]; exact Nat.le_succ _)
  have nC:∀ b o,s₂.heap.get? b=some o->b ≠ C:=fun b o e z=>by rw [z,fC] at e; cases e
  have u:Un (frs X.stack) fp H₂ H' s₂.heap h':=by
    have v:Un (frs X.stack) fp H₂ H' s₂.heap s'.heap:=J.base
    refine ⟨fun b o e n hb hx=>(sb.2 b (nC b o e)).trans (v.keep b o e n hb hx),fun b o e n hb hx=>?_,v.free,fun b o e hx=>?_,v.tups,v.frzs,v.tbls⟩
    · obtain ⟨sl,q⟩:=v.slot b o e n hb hx
      exact ⟨sl,(sb.2 b (nC b o e)).trans q⟩
    · obtain ⟨o',q⟩:=v.there b o e hx
      exact ⟨o',(sb.2 b (nC b o e)).trans q⟩
  have hok:HOk X.prog X.w H' h':=fun b o e=>by
    refine (J.hok b o e).stay (fun c w hc q=>(sb.2 c fun z=>?_).trans q) (fun _ q=>q) fun _ _ q=>q
    have fr:H' C=none:=J.free
    subst z
    rcases hc with rfl | hc
    · rw [fr] at e; cases e
    · rw [fr] at hc; cases hc
  exact I.call' (s':={ s' with heap:=h' }) (ch:=fp) J.os u hok J.bare fun b hb=>⟨(f2 b hb).2.2.2.1,(f2 b hb).2.1,(f2 b hb).2.2.2.2.1,(f2 b hb).2.2.2.2.2⟩
end
end L2
set_option Elab.async false
set_option linter.all false
set_option maxRecDepth 100000
namespace L2
open PySem PySem.Spec PyProof.Rows
noncomputable def Weak (σ σ':St):Prop:=σ'.length=σ.length /\ ∀ (i:Nat) v,σ[i]?=some (some v)->σ'[i]?=some (some v)
section
variable {prog:Program} {w:World} {A:Around} {R:Result->Shared->Prop} {s:Shared}
theorem compLoop_any {elt target iter:Expr} {ifs:List Expr} {scope:Scope} {pos:Pos} {it acc:Value} {env:Env} (I:Nat->Shared->Prop)
    (turn:∀ n s,I n s->wpAny (model prog w) A (pyNext it) (fun r s₁=>match r with
      | none=>R (.ok .next) s₁
      | some v=>wpAny (model prog w) A (letOwnedTupleGo target it v) (fun _ s₁'=>wpAny (model prog w) A (assign target env v) (fun _ s₂ =>
          wpAny (model prog w) A (forIn ifs true fun c r=>if r=true then do let ok <- isTrue c env (eval c env); pure (ForInStep.yield ok) else pure (ForInStep.yield r)) (fun ok s₃ =>
            if ok=true then wpAny (model prog w) A (eval elt env) (fun x s₄ =>
              wpAny (model prog w) A (call (.builtin "list.append") [acc,x]) (fun _ s₅=>∃ m,m < n /\ I m s₅) (notedBy (model prog w) A env fun e s'=>R (.error e) s') s₄) (notedBy (model prog w) A env fun e s'=>R (.error e) s') s₃
            else ∃ m,m < n /\ I m s₃) (notedBy (model prog w) A env fun e s'=>R (.error e) s') s₂) (notedBy (model prog w) A env fun e s'=>R (.error e) s') s₁') (notedBy (model prog w) A env fun e s'=>R (.error e) s') s₁) (notedBy (model prog w) A env fun e s'=>R (.error e) s') s)
    (n:Nat) (h:I n s):codeAny (model prog w) A (.compLoop (.ListComp elt [⟨target,iter,ifs,0⟩] scope pos) 0 it acc env) R s:=by
  refine codeAny_loop rfl I (fun n s hI=>?_) n h
  show wpAny _ A ((compTurn (.ListComp elt [⟨target,iter,ifs,0⟩] scope pos) 0 it acc env).onRaise (fun x=>do noteFrame x env; theTreesLotGoes x)) _ _ s
  refine wpAny_noted ?_
  rw [compTurn_list]
  refine wpAny_bind (wpAny_standAt (wpAny_bind (wpAny_mono (turn n s hI) (fun r s₁ h₁=>?_) fun _ _ h'=>h')))
  cases r with
  | none=>exact wpAny_pure h₁
  | some v =>
    refine wpAny_bind (wpAny_mono h₁ (fun _ s₁' h₁'=>?_) fun _ _ h'=>h')
    refine wpAny_bind (wpAny_mono h₁' (fun _ s₂ h₂=>wpAny_bind (wpAny_mono h₂ (fun ok s₃ h₃=>?_) fun _ _ h'=>h')) fun _ _ h'=>h')
    cases ok with
    | false=>exact wpAny_pure ⟨rfl,h₃⟩
    | true =>
      exact wpAny_bind (wpAny_bind (wpAny_mono h₃ (fun x s₄ h₄=>wpAny_bind (wpAny_mono h₄ (fun _ s₅ h₅=>wpAny_pure (wpAny_pure ⟨rfl,h₅⟩)) fun _ _ h'=>h')) fun _ _ h'=>h'))
end
section
variable {X:Cx} {σ:St} {H:Hp} {s:Shared}
theorem Inv.repin {D:Addr} {o o':Obj} {h':Heap} (I:Inv X [(D,o)] σ H s) (hpn:∀ p ∈ X.pn,p.1 ≠ D) (h0:X.s₀.heap.objs.size<=D) (ho':∀ v,o'.data ≠ .cell v) (sb:Heap.SameBut D s.heap h') (e':h'.get? D=some o') :
    Inv X [(D,o')] σ H { s with heap:=h' }:=by
  obtain ⟨e,n,ne,nf,d⟩:=I.pin (D,o) (List.mem_append_right _ (by simp))
  have I0:Inv X [] σ H s:=I.pins_of fun p hp=>absurd hp (by simp)
  have I1:Inv X [] σ H { s with heap:=h' }:=I0.turned (t':=s.toks) (it:=D) (fun b u hb q=>(sb.2 b hb).trans q) n ne (.inr h0) (fun x c ec z=>by
    obtain ⟨v,oc,h1,h2⟩:=I.cell x c ec
    subst z
    rw [e] at h1; cases h1
    exact d v h2) fun p hp=>hpn p (by simpa using hp)
  refine I1.pins_of fun p hp=>?_
  have q:p=(D,o'):=by simpa using hp
  subst q
  exact ⟨e',n,ne,nf,ho'⟩
end
section
variable {X:Cx} {pins:List (Addr × Obj)} {σ:St} {H₂:Hp} {s₂:Shared} {scope:Scope} {NC:List Str} {cap:List (Option Nat)} {fp:List Addr} {elt tg iter:Expr} {ifs:List Expr} {pos:Pos} {Z:ZK} {J:It} {it:Addr} {tn:Nat->Heap->Prop}
  {g:TG} {tf:TT} {te:TE} {use:Option (Value->Sem Unit)} {Qv:Value->Shared->Prop}
theorem comp_core (hc:X.calm=true) (th:Thr X Z) (I:Inv X pins σ H₂ s₂) (T:Turn X.prog X.w X.K tg J fp it tn) (st2:tn 0 s₂.heap) (f2:∀ b ∈ fp,FpOk X pins H₂ b) (cok:compOk X.env.scope scope X.N NC cap=true)
    (hg:∀ C pn xe,PG (compCx X NC scope C s₂ H₂ fp pn xe) tg g)
    (hf:∀ C pn xe,Thr (compCx X NC scope C s₂ H₂ fp pn xe) (fun _ C' H'=>Z σ C' H')->PF (compCx X NC scope C s₂ H₂ fp pn xe) ifs tf)
    (hb:∀ C pn xe,Thr (compCx X NC scope C s₂ H₂ fp pn xe) (fun _ C' H'=>Z σ C' H')->PE (compCx X NC scope C s₂ H₂ fp pn xe) elt te)
    (W:Nat->Nat->List V->Hp->Prop) (m0:Nat) (w0:W 0 m0 [] H₂) {Fn:List V->Hp->Prop}
    (turn:∀ i m ys H2,W i m ys H2->(J.stop i H2 /\ Fn ys H2) \/ (J.go i H2 /\ ys.length < sizeLine /\ ∀ x H3,J.yld i H2 x H3->g x (capσ cap σ) H3 fun σ4 H4=>Weak (capσ cap σ) σ4 /\ tf σ4 H4 fun b H5 =>
      if b=true then te σ4 H5 fun y H6=>∃ m',m' < m /\ W (i + 1) m' (ys ++ [y]) H6 else ∃ m',m' < m /\ W (i + 1) m' ys H5))
    (fin:∀ (C D:Addr) (s':Shared) (H':Hp) (ys:List V) (us:List Value) (n:Nat),Fn ys H'->Vals ys us->s'.heap.get? D=some { cls:=.type "list",data:=.seq us.toArray n }->H' D=none->H' C=none->D=s₂.heap.objs.size->C=s₂.heap.objs.size + 1 ->
      (∃ m,s'.heap.Ns C m)->(∀ h',Heap.SameBut C s'.heap h'->Inv X pins σ H' { s' with heap:=h' })->compPost (model X.prog X.w) X.A X.xe use Qv (.ref D) C (.ok .next) s') :
    wpAny (model X.prog X.w) X.A (newList []) (fun acc s₃=>wpAny (model X.prog X.w) X.A (newFunctionEnv scope X.env.globals (clOf scope X.env) [] X.env.qual none .none (some X.env)) (fun cenv s₄ =>
      codeAny (model X.prog X.w) X.A (.compStart (.ListComp elt [⟨tg,iter,ifs,0⟩] scope pos) 0 (.ref it) acc { cenv with scope:=relabel scope X.env }) (compPost (model X.prog X.w) X.A X.xe use Qv acc cenv.locals) s₄) X.xe s₃) X.xe s₂:=by
  obtain ⟨c1,c2,c3,c4,c5,c6,c7⟩:=compOk_parts cok
  refine wpAny_newObj_type (wpAny_newBlock ?_)
  dsimp only
  generalize hH2:s₂.heap.push { cls:=.type "list",dict:=none,data:=.seq ([]:List Value).toArray }=H2
  generalize hh1:pushCells (H2.push { cls:=.type "dict",data:=.dict #[] }) scope.names=h₁
  have hns₁:h₁.Ns H2.objs.size (fun _=>none):=hh1 ▸ (Heap.Ns.new H2 (.type "dict")).keeps (pushCells_keeps _ _)
  have own₁:CellsOk h₁ (H2.objs.size + 1) (cellsFrom (H2.objs.size + 1) scope.names []):=by
    have ok:=cellsFrom_ok scope.names (H2.push { cls:=.type "dict",data:=.dict #[] }) (H2.objs.size + 1) [] ⟨fun _ _ hm=>(nomatch hm),List.Pairwise.nil⟩ (by rw [Heap.size_push]; exact Nat.le_refl _)
    rw [Heap.size_push,hh1] at ok
    exact ok
  have hC:H2.objs.size=s₂.heap.objs.size + 1:=by rw [<- hH2,Heap.size_push]
  have hDC:s₂.heap.objs.size ≠ H2.objs.size:=by rw [hC]; exact Nat.ne_of_lt (Nat.lt_succ_self _)
  have below:∀ b,b < s₂.heap.objs.size->b ≠ H2.objs.size:=fun b hb=>by rw [hC]; exact Nat.ne_of_lt (Nat.lt_succ_of_lt hb)
  have old:∀ b o,s₂.heap.get? b=some o->h₁.get? b=some o:=fun b o e=>hh1 ▸ pushCells_keeps _ _ _ _ (Heap.get?_push_of_some _ (hH2 ▸ Heap.get?_push_of_some _ e))
  have hacc:h₁.get? s₂.heap.objs.size=some { cls:=.type "list",data:=.seq ([]:List Value).toArray 0 }:=hh1 ▸ pushCells_keeps _ _ _ _ (Heap.get?_push_of_some _ (hH2 ▸ Heap.get?_push_size _ rfl))
  have hfp:∀ b ∈ fp,∃ o,s₂.heap.get? b=some o:=fun b hb=>let ⟨o,e,_⟩:=T.obj _ _ st2 b hb; ⟨o,e⟩
  have nodata:∀ (us:List Value) (n:Nat) v,({ cls:=.type "list",data:=.seq us.toArray n }:Obj).data ≠ .cell v:=fun us n v z=>by cases z
  have fpD:∀ b ∈ fp,b ≠ s₂.heap.objs.size:=fun b hb z=>by
    obtain ⟨o,e⟩:=hfp b hb
    exact absurd (Heap.lt_size e) (by rw [z]; exact Nat.lt_irrefl _)
  generalize hEn:(notedBy (model X.prog X.w) X.A (compEnvC scope (ccells scope H2.objs.size X.env) H2.objs.size X.env) fun e s'=>compPost (model X.prog X.w) X.A X.xe use Qv (.ref s₂.heap.objs.size) H2.objs.size (.error e) s')=En
  have loop:∀ s₃:Shared,s₃={ s₂ with heap:=h₁,toks:=s₂.toks } ->
      codeAny (model X.prog X.w) X.A (.compLoop (.ListComp elt [⟨tg,iter,ifs,0⟩] scope pos) 0 (.ref it) (.ref s₂.heap.objs.size) (compEnvC scope (ccells scope H2.objs.size X.env) H2.objs.size X.env))
        (compPost (model X.prog X.w) X.A X.xe use Qv (.ref s₂.heap.objs.size) H2.objs.size) s₃:=by
    rintro s₃ rfl
    refine compLoop_any (fun k s'=>∃ i ys us n H',Vals ys us /\ W i k ys H' /\ tn i s'.heap /\ (∀ b ∈ fp,H' b=none) /\
      Inv (compCx X NC scope H2.objs.size s₂ H₂ fp [] En) [(s₂.heap.objs.size,{ cls:=.type "list",data:=.seq us.toArray n })] (capσ cap σ) H' s') ?_ m0
      ⟨0,[],[],0,H₂,.nil,w0,T.keep _ _ _ st2 fun b _ o e=>old b o e,fun b hb=>(f2 b hb).1,comp_start I hc cok f2 hfp rfl hC old hacc (nodata _ _) hns₁ own₁⟩
    rw [hEn]
    rintro k s' ⟨i,ys,us,n,H',rv,w,st,fr,Ic⟩
    have Fp:∀ {H':Hp} {us:List Value} {n:Nat},(∀ b ∈ fp,H' b=none)->∀ b ∈ fp,FpOk (compCx X NC scope H2.objs.size s₂ H₂ fp [] En) [(s₂.heap.objs.size,({ cls:=.type "list",data:=.seq us.toArray n }:Obj))] H' b:=fun {H' us n} hn b hb=>by
      have q:=Ic.ok.exf b hb
      refine ⟨hn b hb,q.1,fun z=>Ic.ok.exfs b hb z,.inl hb,q.2,fun p hp=>?_⟩
      have e:p=(s₂.heap.objs.size,({ cls:=.type "list",data:=.seq us.toArray n }:Obj)):=by simpa using hp
      subst e
      exact (fpD b hb).symm
    rcases turn i k ys H' w with ⟨stop,q⟩ | ⟨go,hlen,step⟩
    · refine wpAny_mono (T.done (compCx X NC scope H2.objs.size s₂ H₂ fp [] En) rfl rfl rfl rfl i _ s' _ H' En Ic (Fp fr) st stop) (fun r s4 h4=>?_) fun _ _ x=>x
      obtain ⟨hr,I4⟩:=h4
      subst hr
      obtain ⟨m,ns,_⟩:=id I4.loc
      obtain ⟨p1,p2,_⟩:=I4.pin _ (List.mem_append_right _ (List.mem_singleton.mpr rfl))
      exact fin _ _ s4 H' ys us n q rv p1 p2 I4.free rfl hC ⟨m,ns⟩ fun h' sb=>comp_leave I f2 hC I4 sb
    · refine wpAny_mono (T.item (compCx X NC scope H2.objs.size s₂ H₂ fp [] En) rfl rfl rfl rfl i _ s' _ H' En Ic (Fp fr) st go) (fun r s4 h4=>?_) fun _ _ x=>x
      obtain ⟨u,hr,h4⟩:=h4
      subst hr
      refine wpAny_mono h4 (fun _ s5 h5=>?_) fun _ _ x=>x
      obtain ⟨x,H5,I5,r5,y5,st5,fr5⟩:=h5
      have I5':Inv (compCx X NC scope H2.objs.size s₂ H₂ fp (pinsAt fp s5.heap) En) [(s₂.heap.objs.size,{ cls:=.type "list",data:=.seq us.toArray n })] (capσ cap σ) H5 s5 :=
        (I5.pinned (Fp fr5) (T.obj _ _ st5)).repn fun p hp=>by
          rcases List.mem_append.mp hp with z | z
          · exact List.mem_append_right _ (List.mem_append_right _ z)
          · exact List.mem_append_right _ (List.mem_append_left _ z)
      have okx:XOk (compCx X NC scope H2.objs.size s₂ H₂ fp (pinsAt fp s5.heap) En):=by
        obtain ⟨top,outer,L,e1,e2,e3⟩:=th.top
        exact ⟨⟨top,outer,L,e1,e2,e3⟩,fun b hb=>let ⟨o,e,_⟩:=T.obj _ _ st5 b hb; ⟨o,mem_pinsAt hb e⟩⟩
      have thx:Thr (compCx X NC scope H2.objs.size s₂ H₂ fp (pinsAt fp s5.heap) En) (fun _ C' H'=>Z σ C' H'):=by
        refine ⟨okx,?_⟩
        rintro e s6 ⟨a,C',T',σ6,H6,rfl,I6,F6,z6⟩
        show En (.ref a) s6
        rw [<- hEn]
        unfold notedBy
        refine I6.note okx F6 I6.ok.frames rfl fun h7 t7 I7 F7=>?_
        obtain ⟨m,ns,_⟩:=id I7.loc
        have fin7:∃ m,h7.Ns H2.objs.size m /\ ∀ h',Heap.SameBut H2.objs.size h7 h'->∀ cenv:Env,cenv.locals=H2.objs.size->wpAny (model X.prog X.w) X.A (passOn "comprehension.variables-let-go" (.ref a) cenv:Sem Value) (fun _ _=>False) X.xe { s6 with heap:=h' }:=by
          refine ⟨m,ns,fun h' sb cenv _=>?_⟩
          have I8:Inv X pins σ H6 { s6 with heap:=h' }:=comp_leave (s':={ s6 with heap:=h7 }) I f2 hC I7 sb
          have F8:Fly X pins H6 h' a C' (some t7):=by
            refine ⟨F7.fl.at fun b hb o e=>(sb.2 b fun z=>?_).trans e,fun b hb=>?_⟩
            · obtain ⟨o',vs,e1,e2⟩:=F7.fl.rec b hb
              obtain ⟨oC,es,ep,e3,e4,_⟩:=ns
              subst z
              have q:o'=oC:=Option.some.inj (e1.symm.trans e3)
              rw [q] at e2
              have q2:=e2.symm.trans e4
              cases q2
            · obtain ⟨o1,o2,_⟩:=F7.ow b hb
              exact I.ow th.toXOk (.inr trivial) o2 o1
          exact I8.passOn F8 fun h9 I9 F9=>th.go I9 F9 z6
        show compPost _ _ _ _ _ _ _ (.error (.ref a)) _
        cases use <;> exact fin7
      refine wpAny_mono (hg _ _ En _ s5 _ H5 x u _ I5' r5 (step x H5 y5)) (fun _ s6 h6=>?_) fun _ _ x=>x
      obtain ⟨σ6,H6,I6,wk,q6⟩:=h6
      refine wpAny_mono (hf _ _ En thx _ s6 σ6 H6 _ I6 q6) (fun b s7 h7=>?_) fun _ _ x=>x
      obtain ⟨H7,I7,q7⟩:=h7
      have back:∀ {s8:Shared} {H8:Hp} {ys':List V} {us':List Value} {n' m':Nat},Inv (compCx X NC scope H2.objs.size s₂ H₂ fp (pinsAt fp s5.heap) En) [(s₂.heap.objs.size,{ cls:=.type "list",data:=.seq us'.toArray n' })] σ6 H8 s8->Vals ys' us'->m' < k->W (i + 1) m' ys' H8 ->
          ∃ m,m < k /\ ∃ i ys us n H',Vals ys us /\ W i m ys H' /\ tn i s8.heap /\ (∀ b ∈ fp,H' b=none) /\ Inv (compCx X NC scope H2.objs.size s₂ H₂ fp [] En) [(s₂.heap.objs.size,{ cls:=.type "list",data:=.seq us.toArray n })] (capσ cap σ) H' s8:=by
        intro s8 H8 ys' us' n' m' I8 rv8 hm w8
        refine ⟨m',hm,i + 1,ys',us',n',H8,rv8,w8,T.keep _ _ _ st5 fun b hb o e=>(I8.pin (b,o) (List.mem_append_left _ (mem_pinsAt hb e))).1,fun b hb=>?_,?_⟩
        · obtain ⟨o,e,d⟩:=T.obj _ _ st5 b hb
          exact (I8.pin (b,o) (List.mem_append_left _ (mem_pinsAt hb e))).2.1
        · have I9:=I8.weak (σ':=capσ cap σ) wk.1.symm wk.2
          exact I9.repn fun p hp=>List.mem_append_right _ (by simpa using hp)
      cases b with
      | false =>
        obtain ⟨m',hm,w8⟩:=q7
        exact back I7 rv hm w8
      | true =>
        refine wpAny_mono (hb _ _ En thx _ s7 σ6 H7 _ I7 q7) (fun y s8 h8=>?_) fun _ _ x=>x
        obtain ⟨v,H8,I8,rv8,m',hm,w8⟩:=h8
        obtain ⟨p1,p2,_⟩:=I8.pin _ (List.mem_append_right _ (List.mem_singleton.mpr rfl))
        have hlu:us.length=ys.length:=rv.length.symm
        refine append_at p1 (hsz:=by show us.toArray.size<=sizeLine; rw [List.size_toArray,hlu]; exact Nat.le_of_lt hlen) fun h9 sb9 e9=>?_
        rw [List.push_toArray] at e9
        have I9:=I8.repin (fun p hp=>by
          have q:=(of_pinsAt hp).1
          exact fpD _ q) (Nat.le_refl _) (nodata _ _) sb9 e9
        exact back I9 (rv.append (.cons rv8 .nil)) hm w8
  exact codeAny_compStart_list (loop _ rfl) (T.self _ 0 _ _ _ (T.keep _ _ _ st2 fun b _ o e=>old b o e) (loop _ rfl))
end
noncomputable def CompR (J:It) (H1:Hp) (cap:List (Option Nat)) (σ:St) (g:TG) (tf:TT) (te:TE) (Q:VK):Prop:=∃ W:Nat->Nat->List V->Hp->Prop,(∃ m,W 0 m [] H1) /\ ∀ i m ys H2,W i m ys H2 ->
  (J.stop i H2 /\ ys.length<=sizeLine /\ ∀ p,H2 p=none->Q (.ref p) (upd H2 p (.lst ys))) \/
  (J.go i H2 /\ ys.length < sizeLine /\ ∀ x H3,J.yld i H2 x H3->g x (capσ cap σ) H3 fun σ4 H4=>Weak (capσ cap σ) σ4 /\ tf σ4 H4 fun b H5 =>
    if b=true then te σ4 H5 fun y H6=>∃ m',m' < m /\ W (i + 1) m' (ys ++ [y]) H6 else ∃ m',m' < m /\ W (i + 1) m' ys H5)
noncomputable def tComp (Z:ZK) (cap:List (Option Nat)) (wi:TI) (g:TG) (tf:ZK->TT) (te:ZK->TE):TE:=fun σ H Q=>wi σ H fun J H1=>CompR J H1 cap σ g (tf (fun _ C H'=>Z σ C H')) (te (fun _ C H'=>Z σ C H')) Q
section
variable {X:Cx} {scope:Scope} {NC:List Str} {cap:List (Option Nat)} {elt tg iter:Expr} {ifs:List Expr} {pos:Pos} {Z:ZK} {wi:TI} {g:TG} {tf:ZK->TT} {te:ZK->TE}
theorem pe_comp (hc:X.calm=true) (th:Thr X Z) (hi:PI X tg iter wi) (cok:compOk X.env.scope scope X.N NC cap=true)
    (hg:∀ C s H fp pn xe,PG (compCx X NC scope C s H fp pn xe) tg g)
    (hf:∀ C s H fp pn xe Zc,Thr (compCx X NC scope C s H fp pn xe) Zc->PF (compCx X NC scope C s H fp pn xe) ifs (tf Zc))
    (hb:∀ C s H fp pn xe Zc,Thr (compCx X NC scope C s H fp pn xe) Zc->PE (compCx X NC scope C s H fp pn xe) elt (te Zc))
    (hs:∀ x,foldedSetIterable iter X.env x=pure x:=by intro _; rfl):PE X (.ListComp elt [⟨tg,iter,ifs,0⟩] scope pos) (tComp Z cap wi g tf te):=by
  intro pins s σ H Q I h
  obtain ⟨c1,c2,c3,c4,c5,c6,c7⟩:=compOk_parts cok
  rw [eval_ListComp]
  refine wpAny_comprehension_free (use:=none) rfl hs (closure_of fun y hy e=>I.ok.has y.1 (.inl (c4 y hy e))) c1 c3 (thn (hi pins s σ H _ I h) fun xv s₁ h₁=>thn h₁ fun itv s₂ h₂=>?_)
  obtain ⟨it,fp,tn,J,H2,rfl,I2,T,st2,f2,W,⟨m0,w0⟩,turn⟩:=h₂
  refine comp_core hc th I2 T st2 f2 cok (fun C pn xe=>hg C s₂ H2 fp pn xe) (fun C pn xe t=>hf C s₂ H2 fp pn xe _ t) (fun C pn xe t=>hb C s₂ H2 fp pn xe _ t) W m0 w0 turn ?_
  rintro C D s' H' ys us n ⟨hlen,q⟩ rv e hn _ rfl rfl ⟨m,ns⟩ lv
  refine ⟨m,ns,fun h' sb=>?_⟩
  have I':=lv h' sb
  have eD:h'.get? s₂.heap.objs.size=some { cls:=.type "list",data:=.seq us.toArray n }:=(sb.2 _ (Nat.ne_of_lt (Nat.lt_succ_self _))).trans e
  refine ⟨.ref s₂.heap.objs.size,_,I'.track (o:=.lst ys) hn (Heap.get?_none_of_le I2.sz) (Nat.ne_of_gt I2.lt) (fun x c ec z=>?_) (fun p hp z=>?_) ⟨hlen,us,n,rv,eD⟩,rfl,q _ hn⟩
  · obtain ⟨v,q⟩:=I2.cell x c ec
    exact absurd q.lt (by rw [z]; exact Nat.lt_irrefl _)
  · exact absurd (Heap.lt_size (I2.pin p hp).1) (by rw [z]; exact Nat.lt_irrefl _)
end
end L2
set_option Elab.async false
set_option linter.all false
set_option maxRecDepth 100000
namespace L2
open PySem PySem.Spec PyProof.Rows
section
variable {X:Cx} {Z:ZK} {x:Str} {C:Addr} {bmB:List Value} {B newId initId:String} {e₀:Expr} {rest:List Expr} {ta:TA} {np cpos pos:Pos}
end
section
variable {X:Cx} {pins:List (Addr × Obj)} {σ:St} {H:Hp} {s:Shared} {xe:Value->Shared->Prop} {a:Addr}
end
section
variable {X:Cx} {Z:ZK} {x n:Str} {D:Addr} {bmB:List Value} {newId:String} {body suite:List Stmt} {b₀:Stmt} {tb:ZK->TS} {ts:TS} {np hpos pos:Pos} {j:Nat}
end
end L2
set_option Elab.async false
set_option linter.all false
set_option maxRecDepth 100000
namespace L2
open PySem PySem.Spec PyProof.Rows
noncomputable def Its (x:Str):It:=⟨fun i _=>i < x.length,fun i H v H'=>H'=H /\ ∃ c,x.cps.toList[i]?=some c /\ v=.str ⟨#[c]⟩,fun i _=>x.length<=i⟩
theorem turn_ascii {P:Program} {w:World} {K:PySem.W.Frag} {tg:Expr} (it:Addr) (x:Str) (t:Tok):Turn P w K tg (Its x) [it] it (fun i h=>h.IsStrIter it "str_ascii_iterator" x t i) where
  mem:=by simp
  obj:=fun i h st b hb=>by
    have e:b=it:=by simpa using hb
    subst e
    obtain ⟨o,e,c,d⟩:=st
    exact ⟨o,e,fun v z=>by rw [d] at z; cases z⟩
  keep:=fun i h h' st k=>let ⟨o,e,r⟩:=st; ⟨o,k it (by simp) o e,r⟩
  item:=by
    intro X hP hw hK hc i pins s σ H E I hf st hg
    subst hP hw hK
    obtain ⟨f0,f1,f2,f3,f4,f5⟩:=hf it (by simp)
    have hg':i < x.cps.size:=hg
    refine wpAny_pyNext_ascii_item st (c:=x.cps[i]) (by simp [hg']) fun h' st' sb=>?_
    have I1:Inv X pins σ H { s with heap:=h',toks:=s.toks + 1 }:=I.turned (fun b o hb e=>(sb.2 b hb).trans e) f0 f1 f3 f4 f5
    obtain ⟨o,e,c,d⟩:=id st'
    exact ⟨_,rfl,go_of (s:={ s with heap:=h',toks:=s.toks + 1 }) e c d (by decide) ⟨.str ⟨#[x.cps[i]]⟩,H,I1,⟨_,rfl⟩,⟨rfl,x.cps[i],by simp [hg'],rfl⟩,st',fun b hb=>(hf b hb).1⟩⟩
  done:=by
    intro X hP hw hK hc i pins s σ H E I hf st hg
    subst hP hw hK
    obtain ⟨f0,f1,f2,f3,f4,f5⟩:=hf it (by simp)
    have hg':x.cps.size<=i:=hg
    exact wpAny_pyNext_ascii_end (I.ok.hd hc) st (by simp [hg']) fun h' eb=>⟨rfl,I.turned (t':=s.toks) (fun b o hb e=>eb b o hb e) f0 f1 f3 f4 f5⟩
  self:=fun _ _ _ _ _ st h=>wpAny_pyIter_striter_ascii st h
theorem turn_wide {P:Program} {w:World} {K:PySem.W.Frag} {tg:Expr} (it:Addr) (x:Str) (t:Tok):Turn P w K tg (Its x) [it] it (fun i h=>h.IsStrIter it "str_iterator" x t i) where
  mem:=by simp
  obj:=fun i h st b hb=>by
    have e:b=it:=by simpa using hb
    subst e
    obtain ⟨o,e,c,d⟩:=st
    exact ⟨o,e,fun v z=>by rw [d] at z; cases z⟩
  keep:=fun i h h' st k=>let ⟨o,e,r⟩:=st; ⟨o,k it (by simp) o e,r⟩
  item:=by
    intro X hP hw hK hc i pins s σ H E I hf st hg
    subst hP hw hK
    obtain ⟨f0,f1,f2,f3,f4,f5⟩:=hf it (by simp)
    have hg':i < x.cps.size:=hg
    refine wpAny_pyNext_wide_item st (c:=x.cps[i]) (by simp [hg']) fun h' st' sb=>?_
    have I1:Inv X pins σ H { s with heap:=h',toks:=s.toks + 1 }:=I.turned (fun b o hb e=>(sb.2 b hb).trans e) f0 f1 f3 f4 f5
    obtain ⟨o,e,c,d⟩:=id st'
    exact ⟨_,rfl,go_of (s:={ s with heap:=h',toks:=s.toks + 1 }) e c d (by decide) ⟨.str ⟨#[x.cps[i]]⟩,H,I1,⟨_,rfl⟩,⟨rfl,x.cps[i],by simp [hg'],rfl⟩,st',fun b hb=>(hf b hb).1⟩⟩
  done:=by
    intro X hP hw hK hc i pins s σ H E I hf st hg
    subst hP hw hK
    obtain ⟨f0,f1,f2,f3,f4,f5⟩:=hf it (by simp)
    have hg':x.cps.size<=i:=hg
    exact wpAny_pyNext_wide_end (I.ok.hd hc) st (by simp [hg']) fun h' eb=>⟨rfl,I.turned (t':=s.toks) (fun b o hb e=>eb b o hb e) f0 f1 f3 f4 f5⟩
  self:=fun _ _ _ _ _ st h=>wpAny_pyIter_striter_wide st h
section
variable {X:Cx} {tg:Expr}
theorem bools_of:∀ {bs:List Bool} {us:List Value},Vals (bs.map V.bl) us->PyProof.Rows.LSm.BoolsAre us bs
  | [],_,r=>by cases r; exact .nil
  | b :: bs,_,r=>by
    cases r with
    | cons r1 r2=>cases (show _=Value.bool b from r1); exact .cons b (bools_of r2)
theorem call_all (hc:X.calm=true):CallR X (.builtin "all") (fun xs H Q=>∃ (p:Addr) (bs:List Bool),xs=[.ref p] /\ SqL X.K H p (bs.map V.bl) /\ Q (.bl (bs.all id)) H):=by
  intro pins s σ H xs us Q I r h
  obtain ⟨p,bs,rfl,hq,q⟩:=h
  obtain ⟨u,rfl,ru⟩:=vals1 r
  cases ru
  obtain ⟨its,rv,pl,hz⟩:=I.list hq
  have hb:=bools_of rv
  have hl:s.heap.IsList p its.toArray:=pl.isList
  have hlt:p < s.heap.objs.size:=by obtain ⟨_,e,_⟩:=hl; exact Heap.lt_size e
  refine call_all_walk (wpAny_pyIter_list hl ?_)
  refine ⟨s.heap.objs.size,[s.heap.objs.size,p],[s.heap.objs.size],its.toArray.size,_,_,fun i=>(bs[i]?).getD true,rfl,Walks.list (A:=X.A.in1) (I.ok.hd hc) _ p (Nat.ne_of_lt hlt) its.toArray,
    ⟨⟨_,Heap.get?_push_size _ rfl,rfl,rfl⟩,hl.push _⟩,fun i v s' Q' E' hP hQ=>?_,fun h' tk hk=>?_⟩
  · obtain ⟨b,e,rfl⟩:=hb.get i v (by simpa using hP)
    simp only [e,Option.getD_some] at hQ
    exact wpAny_truthy_bool hQ
  · have e:((List.range its.toArray.size).all fun i=>(bs[i]?).getD true)=bs.all id:=by
      rw [List.size_toArray,hb.length]; exact PyProof.Rows.LSm.range_all bs
    rw [e]
    exact ⟨.bl (bs.all id),H,I.kept (PyProof.Rows.LSm.kept_iter hk),rfl,q⟩
theorem call_intS:CallR X (.type "int") (fun xs H Q=>∃ x n,xs=[.str x] /\ PySem.intText? x=some n /\ x.length<=640 /\ Q (.int n) H):=by
  intro pins s σ H xs us Q I r h
  obtain ⟨x,n,rfl,hn,hl,q⟩:=h
  obtain ⟨u,rfl,t,rfl⟩:=vals1 r
  exact PySem.W.KIN.call_text hn hl ⟨.int n,H,I.tok _,⟨_,rfl⟩,q⟩
open Builtin Builtin.Str in
theorem split_new {prog:Program} {w:World} {A:Around} {E:Value->Shared->Prop} {s:Shared} {x y:Str} {t u:Tok} {Q:Value->Shared->Prop} (hy:(y.length == 0)=false)
    (hq:∀ l k,l.map (·.1)=Txt.split x y->Q (.ref s.heap.objs.size) { s with heap:=s.heap.push { cls:=.type "list",data:=.seq (strValues l).toArray },toks:=k })
    (hsz:x.length<=sizeLine) (hsz2:(partsBetween x (occurrences x y 0 x.length (x.length + 1)) y.length).length<=sizeLine) :
    wpAny (model prog w) A (call (.builtin "str.split") [.str x t,.str y u]) Q E s:=by
  cases h1:(decide (x.length < y.length) || decide (strKind x < strKind y))
  · cases hf:(occurrences x y 0 x.length (x.length + 1)).isEmpty
    · refine call_meets F.slot_str_split (typeIs_str _ _ _) F.entry_str_split (F.args_str_split_2 _ _) (meets_str_split_sep x y t u h1 hy hf hsz hsz2) ?_
      show wants Q E _ { s with toks:=_,heap:=s.heap.push { cls:=.type "list",data:=.seq (strsFrom s.toks (partsBetween x (occurrences x y 0 x.length (x.length + 1)) y.length)).toArray } }
      rw [strsFrom_eq]
      exact hq (numbered s.toks _) _ ((numbered_texts _ _).trans ((if_neg (ne_true_of_eq_false h1)).trans (if_neg (ne_true_of_eq_false hf))).symm)
    · exact call_meets F.slot_str_split (typeIs_str _ _ _) F.entry_str_split (F.args_str_split_2 _ _) (meets_str_split_not_found x y t u h1 hy hf)
        (hq [(x,t)] s.toks ((if_neg (ne_true_of_eq_false h1)).trans (if_pos hf)).symm)
  · exact call_meets F.slot_str_split (typeIs_str _ _ _) F.entry_str_split (F.args_str_split_2 _ _) (meets_str_split_cannot_occur x y t u h1)
      (hq [(x,t)] s.toks (if_pos h1).symm)
theorem vals_strs:∀ (l:List (Str × Tok)),Vals ((l.map (·.1)).map V.str) (strValues l)
  | []=>.nil
  | (x,t) :: r=>.cons ⟨t,rfl⟩ (vals_strs r)
open Builtin Builtin.Str in
theorem mt_split:MtR X "str.split" (fun x vs H Q=>∃ z y,x=.str z /\ vs=[.str y] /\ (y.length == 0)=false /\ z.length<=sizeLine /\ (partsBetween z (occurrences z y 0 z.length (z.length + 1)) y.length).length<=sizeLine /\ (Txt.split z y).length<=sizeLine /\
    ∀ p,H p=none->Q (.ref p) (upd H p (.lst ((Txt.split z y).map V.str)))):=by
  intro pins s σ H x xs v us Q I rx rs h
  obtain ⟨z,y,rfl,rfl,hy,hz,hz2,hz3,q⟩:=h
  obtain ⟨t,rfl⟩:=rx
  obtain ⟨u,rfl,t',rfl⟩:=vals1 rs
  refine split_new hy (fun l k hl=>?_) hz hz2
  have hn:H s.heap.objs.size=none:=I.hok.fresh (Nat.le_refl _)
  refine ⟨.ref s.heap.objs.size,_,?_,rfl,q _ hn⟩
  refine I.laid (fun b o e=>Heap.get?_push_of_some _ e) (Nat.le_refl _) ⟨by rw [List.length_map]; exact hz3,strValues l,0,by rw [<- hl]; exact vals_strs l,Heap.get?_push_size _ rfl⟩
end
end L2
set_option Elab.async false
set_option linter.all false
set_option maxRecDepth 100000
namespace L2
open PySem PySem.Spec PyProof.Rows
noncomputable def PET (X:Cx) (e:Expr) (t:TE):Prop :=
  ∀ (pins:List (Addr × Obj)) (s:Shared) (σ:St) (H:Hp) (Q:VK),Inv X pins σ H s->0 < s.toks->t σ H Q->wpAny (model X.prog X.w) X.A (eval e X.env) (EP X pins σ Q) X.xe s
noncomputable def PST (X:Cx) (st:Stmt) (t:TS):Prop :=
  ∀ (pins:List (Addr × Obj)) (s:Shared) (σ:St) (H:Hp) (D:Ends),Inv X pins σ H s->0 < s.toks->t D σ H->wpAny (model X.prog X.w) X.A (exec st X.env) (SP X pins D) X.xe s
noncomputable def PSsT (X:Cx) (st:List Stmt) (t:TS):Prop :=
  ∀ (pins:List (Addr × Obj)) (s:Shared) (σ:St) (H:Hp) (D:Ends),Inv X pins σ H s->0 < s.toks->t D σ H->wpAny (model X.prog X.w) X.A (execs st X.env) (SP X pins D) X.xe s
noncomputable def tRepl (to:TE) (c d:Str):TE:=fun σ H Q=>to σ H fun x H1=>∃ z,x=.str z /\ z.length + (z.length + 1) * d.length<=16777216 /\ Q (.str (Txt.replace z c d)) H1
section
variable {X:Cx} {e o:Expr} {t to:TE} {st:Stmt} {rest:List Stmt} {tS u:TS} {apos cpos pos p1 p2:Pos} {c d:Str} {k1 k2:Nat}
theorem PE.pet (h:PE X e t):PET X e t:=fun pins s σ H Q I _ q=>h pins s σ H Q I q
theorem pet_replace (ho:PET X o to) (hcd:(c == d)=false) (hbase:attributeBase o "replace" X.env (eval o X.env)=eval o X.env:=by rfl)
    (hfew:((backTo cpos (starEach [.Constant (.str c) k1 p1,.Constant (.str d) k2 p2] X.env)).all (fun x=>!x.1) && (backToKw cpos (keywordEach [] X.env)).all (fun x=>x.1.isSome)
      && decide (([.Constant (.str c) k1 p1,.Constant (.str d) k2 p2]:List Expr).length + ([]:List Keyword).length + (if ([]:List Keyword).isEmpty then 0 else 1) < 30))=true:=by rfl)
    (hline:(apos.endLine == cpos.line)=true:=by rfl) :
    PET X (.Call (.Attribute o "replace" apos) [.Constant (.str c) k1 p1,.Constant (.str d) k2 p2] [] cpos) (tRepl to c d):=by
  intro pins s σ H Q I h0 h
  refine wpAny_Call_method_late hbase hfew hline rfl (wpAny_mono (wpAny_toks (ho pins s σ H _ I h0 h)) (fun v s1 h1=>?_) fun _ _ y=>y)
  obtain ⟨⟨x,H1,I1,r1,z,rfl,hz,q⟩,ht⟩:=h1
  obtain ⟨tk,rfl⟩:=r1
  have h1:0 < s1.toks:=Nat.lt_of_lt_of_le h0 ht
  refine ⟨"str","str.replace",PySem.F.plainAttrs_str,PySem.F.slot_str_replace,PySem.F.type_str_replace,typeIs_str _ _ _,(fun _ e=>nomatch e),?_⟩
  refine Calls.callWith_builtin rfl (Calls.evalArgs_plain ?_)
  refine spliced_more (Calls.Constant_str (spliced_more (Calls.Constant_str (spliced_none ?_))))
  refine SC.replace (by show s1.toks ≠ 0; omega) (by show s1.toks + 1 ≠ 0; omega) (by show s1.toks ≠ s1.toks + 1; omega) hcd hz fun t' k=>?_
  exact ⟨.str _,H1,I1.tok _,⟨_,rfl⟩,q⟩
theorem pst_set {i:Nat} {x:Str} {pos':Pos} (hN:X.N.Nodup) (hi:X.N[i]?=some x) (hx:Loc X.env.scope x) (he:PET X e t) (hs:swapsWith e (some (.Name x pos')) pos.line X.env=pure false:=by rfl) (hf:X.fn x=true \/ X.env.scope.names.lookup x=some .local:=by first | exact .inl rfl | exact .inr rfl | assumption) :
    PST X (.Assign [.Name x pos'] e pos) (tAsg t (gName i)):=by
  intro pins s σ H D I h0 h
  refine wpAny_Assign_Name (thn (he pins s σ H _ I h0 h) fun v s1 ⟨y,H1,I1,r1,q1⟩=>?_) hs
  exact store_ok I1 hN hi hx r1 (fun s2 I2=>⟨_,H1,I2,q1⟩) hf
theorem psst_cons (h1:PST X st tS) (h2:PSs X rest u):PSsT X (st :: rest) (tSeq tS u):=by
  intro pins s σ H D I h0 h
  refine wpAny_execs_cons (thn (h1 pins s σ H { D with nx:=u D } I h0 h) fun f s1 q=>?_)
  cases f with
  | next =>
    obtain ⟨σ',H',I',q⟩:=q
    exact h2 pins s1 σ' H' D I' q
  | ret v=>exact q
  | brk=>exact q
  | cont=>exact q
end
theorem cellsFrom_none:∀ {names:List (Str × NameKind)} {n:Nat},(∀ y ∈ names,y.2 ≠ .cell)->cellsFrom n names []=[]
  | [],_,_=>rfl
  | (x,k) :: r,n,h=>by
    have hk:k ≠ .cell:=h (x,k) (List.mem_cons_self ..)
    have ih:=cellsFrom_none (names:=r) (n:=n) fun y hy=>h y (List.mem_cons_of_mem _ hy)
    unfold cellsFrom
    simp only [beq_iff_eq,hk,if_false]
    exact ih
theorem bindL_rev {kindOf:Str->Option NameKind} {x:Str}:∀ {binds:List (Str × Value)} {m:Str->Option Value},(∀ y ∈ binds,kindOf y.1=some .local)->bindL kindOf binds m x=(binds.reverse.lookup x).or (m x)
  | [],_,_=>by simp [bindL]
  | (n,v) :: r,m,h=>by
    unfold bindL
    rw [bindL_rev fun y hy=>h y (List.mem_cons_of_mem _ hy),if_pos (h (n,v) (List.mem_cons_self ..)),List.reverse_cons,List.lookup_append,Option.or_assoc]
    congr 1
    by_cases e:x=n
    · subst e; simp [List.lookup]
    · have:(x == n)=false:=by simpa using e
      simp [List.lookup,this,e]
theorem fn_ofT {CX:CXT} {P:Program} {w:World} {K:PySem.W.Frag} {mg:Str->Option Value} {base:Heap} {k:Nat} {f:Addr} {name qual:Str} {params:Arguments} {body:List Stmt} {scope:Scope} {dV kV doc pm cdv ct oc:Value} {an od:Option Addr}
    {osl:Array (Option Value)} {N ps:List Str} {sp:Sp} (lk:K.lookup f=some ⟨oc,od,.func (PySem.W.fnOf name qual params body scope dV kV doc pm an cdv ct),osl⟩) (hcd:PySem.W.codeIn K cdv qual=true) (S:FnScope N ps scope)
    (nocell:∀ y ∈ scope.names,y.2 ≠ .cell) (hps:ps ≠ [])
    (len:∀ vs H Q E,sp vs H Q E->vs.length=ps.length)
    (hbody:∀ (A:Around) (outer:List Env) (s:Shared) (H:Hp) (vs:List V) (Q:VK) (E:XK),Room k (A.deeper (envOfC qual scope s.heap.objs.size f cdv))->sp vs H Q E ->
      ∃ t,PSsT (cxOf CX P w K mg base N qual scope f cdv A outer s H E) body t /\ t { nx:=fun _ H'=>Q .non H',rt:=Q } (start N vs) H) :
    FnOk P w K mg base CX (k + 1) f (PySem.W.fnOf name qual params body scope dV kV doc pm an cdv ct) ps sp:=by
  refine ⟨len,fun A outer s H args us vs Q E hr e0 hb r hsp=>?_⟩
  have hl:=len _ _ _ _ hsp
  have KX:K.In s.heap:=e0.mod.kin.keeps fun b o e=>(e0.bs b o e).1
  have lim:s.heap.NoLimit:=e0.mod.nolimit.keeps fun b o e=>(e0.bs b o e).1
  have hkind:∀ y ∈ ps.zip us,scope.names.lookup y.1=some .local:=fun ⟨n,v⟩ hy=>by
    rcases S.par n (List.of_mem_zip hy).1 with q | q
    · exact q
    · exact absurd rfl (nocell _ (PySem.mem_of_lookup q))
  have hkind':∀ y ∈ ps.zip us,scope.names.lookup y.1=some .local \/ (scope.names.lookup y.1=some .cell /\ ((cellsFrom (s.heap.objs.size + 1) scope.names []).lookup y.1).isSome=true):=fun y hy=>.inl (hkind y hy)
  refine codeAny_call_function hr.depth (KX _ _ lk) rfl S.co S.gen rfl (PySem.W.codeRec_of KX hcd) (hb _ _ _ _ ?_)
  refine wpAny_newFunctionEnv nocell hkind (fun h1 hns hsb=>?_) S.kind
  have zl:(ps.zip us).length=ps.length:=by
    rw [List.length_zip]
    have:=r.length
    omega
  have h0:0 < ({ s with heap:=h1,toks:=s.toks + (ps.zip us).length }:Shared).toks:=by
    have z2:0 < ps.length:=List.length_pos_iff.mpr hps
    show 0 < s.toks + (ps.zip us).length
    omega
  have hcs:cellsFrom (s.heap.objs.size + 1) scope.names []=[]:=cellsFrom_none nocell
  have ef:(bindL (envOfC qual scope s.heap.objs.size f cdv).kindOf (ps.zip us) fun _=>none)=fun x=>(ps.zip us).reverse.lookup x:=by
    funext x
    rw [bindL_rev (fun y hy=>hkind y hy)]
    cases (ps.zip us).reverse.lookup x <;> rfl
  have x:InCallC s s.heap.objs.size (bindL (envOfC qual scope s.heap.objs.size f cdv).kindOf (ps.zip us) fun _=>none) (cellsFrom (s.heap.objs.size + 1) scope.names []) (bindC (envOfC qual scope s.heap.objs.size f cdv).kindOf (ps.zip us) fun _=>none)
      { s with heap:=h1,toks:=s.toks + (ps.zip us).length }:=by
    rw [hcs,ef]
    refine ⟨⟨⟨h1,_,rfl⟩,hns,fun b o e=>?_,Nat.le_refl _⟩,fun n c q=>by simp at q,List.Pairwise.nil,fun n c q=>by simp at q⟩
    exact (hsb.2 b (Nat.ne_of_lt (Heap.lt_size e))).trans (Heap.get?_push_of_some _ e)
  have eE:newEnv scope s.heap.objs.size mainGlobals [] (qual ++ ".<locals>.") (some f) cdv none builtinsNs=envOfC qual scope s.heap.objs.size f cdv:=by
    unfold envOfC newEnv
    rw [hcs]
  generalize hfd:PySem.W.fnOf name qual params body scope dV kV doc pm an cdv ct=fd
  have eF:newEnv fd.scope s.heap.objs.size fd.globals fd.closure (fd.qualname ++ ".<locals>.") (some f) fd.code none fd.builtins=envOfC qual scope s.heap.objs.size f cdv:=by
    rw [<- hfd]
    exact eE
  rw [eF]
  generalize hs1:({ s with heap:=h1,toks:=s.toks + (ps.zip us).length }:Shared)=s1 at h0 x ⊢
  refine ⟨lim.keeps x.toInCall.keep,codeAny_func ?_⟩
  obtain ⟨t,ht,hq⟩:=hbody A outer s H vs Q E (hr.deeper _) hsp
  have I:Inv (cxOf CX P w K mg base N qual scope f cdv A outer s H E) [] (start N vs) H s1:=inv_start S hr.hd e0 hl r x
  refine wpAny_mono (ht [] s1 (start N vs) H _ I h0 hq) (fun fl s' hs=>?_) fun e s' hs=>hs
  have fin:∀ {σ':St} {H':Hp} {v:V} {u:Value},Inv (cxOf CX P w K mg base N qual scope f cdv A outer s H E) [] σ' H' s'->RelV v u->Q v H'->CE outer P w H s Q u s' :=
    fun {σ' H' v u} J rv q=>⟨v,H',J.os,J.bare,J.base,J.hok,rv,q⟩
  cases fl with
  | ret u =>
    obtain ⟨v,σ',H',J,rv,q⟩:=hs
    exact fin J rv q
  | next =>
    obtain ⟨σ',H',J,q⟩:=hs
    exact fin (v:=V.non) (u:=Value.none) J rfl q
  | brk =>
    obtain ⟨_,_,_,q⟩:=hs
    exact False.elim q
  | cont =>
    obtain ⟨_,_,_,q⟩:=hs
    exact False.elim q
end L2
set_option Elab.async false
set_option linter.all false
set_option maxRecDepth 100000
namespace L2
open PySem PySem.Spec PyProof.Rows
structure Walk (J:It) (xs:List V) (Pv:Hp->Prop):Prop where
  stop:∀ H,Pv H->J.stop xs.length H
  go:∀ i H,i < xs.length->Pv H->J.go i H
  yld:∀ i H x H',i < xs.length->Pv H->J.yld i H x H'->H'=H /\ xs[i]?=some x
section
variable {P:Program} {w:World} {K:PySem.W.Frag} {mg:Str->Option Value} {base:Heap}
theorem Fun.okX {x qual:Str} {st:Stmt} {f:Addr} {fd:FuncData} {N ps:List Str} {k:Nat} {sp:Sp} (F:Fun K x qual st f fd) (S:FnScope N ps (defScope st)) (len:∀ vs H Q E,sp vs H Q E->vs.length=ps.length)
    (hbody:∀ (cdv:Value) (A:Around) (outer:List Env) (s:Shared) (H:Hp) (vs:List V) (Q:VK) (E:XK),Room k (A.deeper (envOfC qual (defScope st) s.heap.objs.size f cdv))->sp vs H Q E ->
      ∃ t,PSs (cxOf (CXs P w) P w K mg base N qual (defScope st) f cdv A outer s H E) (defBody st) t /\ t { nx:=fun _ H'=>Q .non H',rt:=Q } (start N vs) H):FnOk P w K mg base (CXs P w) (k + 1) f fd ps sp:=by
  obtain ⟨oc,od,kV,doc,pm,an,cdv,ct,osl,rfl,lk,hcd⟩:=F.ex
  exact fn_of lk hcd S len fun A outer s H vs Q E hr hsp=>hbody cdv A outer s H vs Q E hr hsp
theorem Fun.okT {x qual:Str} {st:Stmt} {f:Addr} {fd:FuncData} {N ps:List Str} {k:Nat} {sp:Sp} (F:Fun K x qual st f fd) (S:FnScope N ps (defScope st)) (nocell:∀ y ∈ (defScope st).names,y.2 ≠ .cell) (hps:ps ≠ []) (len:∀ vs H Q E,sp vs H Q E->vs.length=ps.length)
    (hbody:∀ (cdv:Value) (A:Around) (outer:List Env) (s:Shared) (H:Hp) (vs:List V) (Q:VK) (E:XK),Room k (A.deeper (envOfC qual (defScope st) s.heap.objs.size f cdv))->sp vs H Q E ->
      ∃ t,PSsT (cxOf (CXs P w) P w K mg base N qual (defScope st) f cdv A outer s H E) (defBody st) t /\ t { nx:=fun _ H'=>Q .non H',rt:=Q } (start N vs) H):FnOk P w K mg base (CXs P w) (k + 1) f fd ps sp:=by
  obtain ⟨oc,od,kV,doc,pm,an,cdv,ct,osl,rfl,lk,hcd⟩:=F.ex
  exact fn_ofT lk hcd S nocell hps len fun A outer s H vs Q E hr hsp=>hbody cdv A outer s H vs Q E hr hsp
end
end L2
set_option Elab.async false
set_option linter.all false
set_option maxRecDepth 100000
namespace L2
open PySem PySem.Spec PyProof.Rows
noncomputable abbrev TJ:=St->Hp->Str->(Str->Hp->Prop)->Prop
section
variable {X:Cx} {e v₁ v₂:Expr} {es:List Expr} {te:TE} {t:TJ} {c:Str} {k:Nat} {pos p:Pos}
noncomputable def rNil (K:PySem.W.Frag) (neg:Bool):R2:=fun x y H Q=>∃ p q xs,x=.ref p /\ y=.ref q /\ SqL K H p xs /\ SqL K H q [] /\ Q (.bl (if neg then !xs.isEmpty else xs.isEmpty)) H
theorem op_eqNil (hu:X.A.units < cLine):OpR X (compareOp .Eq) (rNil X.K false):=by
  intro pins s σ H x y v u Q I rx ry h
  obtain ⟨p,q,xs,rfl,rfl,h1,h2,hq⟩:=h
  cases rx; cases ry
  obtain ⟨its,r,pl,hz⟩:=I.list h1
  obtain ⟨its2,r2,pl2,_⟩:=I.list h2
  cases r2
  cases xs with
  | nil =>
    cases r
    exact SeqAt.eq_listAt (e:=fun _=>true) pl.isList pl2.isList rfl hu (fun j h1 _=>absurd h1 (by simp)) ⟨.bl true,H,I,rfl,hq⟩
  | cons a t =>
    cases r with
    | cons r1 r2=>exact SeqAt.eq_list_lengthsAt pl.isList pl2.isList (by simp) hu ⟨.bl false,H,I,rfl,hq⟩
theorem op_neNil (hu:X.A.units < cLine):OpR X (compareOp .NotEq) (rNil X.K true):=by
  intro pins s σ H x y v u Q I rx ry h
  obtain ⟨p,q,xs,rfl,rfl,h1,h2,hq⟩:=h
  cases rx; cases ry
  obtain ⟨its,r,pl,hz⟩:=I.list h1
  obtain ⟨its2,r2,pl2,_⟩:=I.list h2
  cases r2
  cases xs with
  | nil =>
    cases r
    exact SeqAt.RcNeAt.lists (e:=fun _=>true) pl.isList pl2.isList rfl hu (fun j h1 _=>absurd h1 (by simp)) _ _ _ _ ⟨.bl false,H,I,rfl,hq⟩
  | cons a t =>
    cases r with
    | cons r1 r2=>exact SeqAt.RcNeAt.lists_lengths pl.isList pl2.isList (by simp) hu _ _ _ _ ⟨.bl true,H,I,rfl,hq⟩
end
end L2
set_option Elab.async false
set_option linter.all false
set_option maxRecDepth 100000
namespace L2
open PySem PySem.Spec PyProof.Rows
noncomputable def SIt (h:Heap) (i a:Addr) (k:Nat) (xs:Array Value):Prop:=(h.IsListIter i a k /\ h.IsList a xs) \/ (h.IsTupleIter i a k /\ h.IsTuple a xs)
theorem SIt.move {h h':Heap} {i a:Addr} {k:Nat} {xs:Array Value} (x:SIt h i a k xs) (hi:∀ o,h.get? i=some o->h'.get? i=some o) (ha:∀ o,h.get? a=some o->h'.get? a=some o):SIt h' i a k xs:=by
  rcases x with ⟨x,y⟩ | ⟨x,y⟩
  · exact .inl ⟨x.at hi,y.at ha⟩
  · exact .inr ⟨x.at hi,y.at ha⟩
theorem SIt.there {h:Heap} {i a:Addr} {k:Nat} {xs:Array Value} (x:SIt h i a k xs):∃ o,h.get? i=some o /\ ∀ v,o.data ≠ .cell v:=by
  rcases x with ⟨⟨o,e,_,d⟩,_⟩ | ⟨⟨o,e,_,d⟩,_⟩ <;> exact ⟨o,e,fun v z=>by rw [d] at z; cases z⟩
section
variable {prog:Program} {w:World} {A:Around} {E:Value->Shared->Prop} {s:Shared}
theorem nextOf_tuple_item {it t:Addr} {i:Nat} {items:Array Value} {x:Value} {Q:Value->Shared->Prop} (hit:s.heap.IsTupleIter it t i) (ht:s.heap.IsTuple t items) (hx:items[i]?=some x)
    (hQ:∀ h',h'.IsTupleIter it t (i + 1)->Heap.SameBut it s.heap h'->Q x { s with heap:=h' }):wpAny (model prog w) A (Builtin.SmallTypes.nextOf (.ref it)) Q E s:=by
  obtain ⟨o,ho,hc,hd⟩:=id hit
  obtain ⟨ol,hol,_,nl,hdl⟩:=ht
  unfold Builtin.SmallTypes.nextOf
  refine wpAny_bind (wpAny_callSpecial?_slot (name:=Str.ofString "__next__") hit.typeIs PySem.F.slot_tuple_iterator_next
    (wpAny_call_entry PySem.F.slot_tuple_iterator_next hit.typeIs PySem.F.entry_tuple_iterator_next ?_ (PySem.F.args_tuple_iterator_next_1 _)))
  show wpAny _ _ (field (.ref it) 0 >>= _) _ _ s
  refine wpAny_bind (wpAny_field ho hd (x:=.ref t) rfl ?_)
  show wpAny _ _ (if (Value.ref t == Value.none)=true then _ else _) _ _ s
  rw [if_neg (show ¬ ((Value.ref t == Value.none)=true) from Bool.false_ne_true)]
  show wpAny _ _ (field (.ref it) 1 >>= _) _ _ s
  refine wpAny_bind (wpAny_field ho hd (x:=.int i 0) rfl ?_)
  show wpAny _ _ (seqItems? (.ref t) >>= _) _ _ s
  refine wpAny_bind (wpAny_seqItems hol hdl ?_)
  simp only [Int.toNat_natCast,hx]
  refine wpAny_bind (wpAny_setField ho hd (by simp) (wpAny_pure ⟨x,rfl,wpAny_pure (hQ _ ?_ (Heap.SameBut.update ..))⟩))
  exact ⟨_,Heap.get?_update_self _ ho (Obj.isFreed_of_fields (Obj.data_mapFields hd _)),(Obj.cls_mapFields ..).trans hc,by
    rw [Obj.data_mapFields hd]; simp [rawInt]⟩
theorem nextOf_tuple_end {it t:Addr} {i:Nat} {items:Array Value} {Q:Value->Shared->Prop} (hh:A.handled=none) (hit:s.heap.IsTupleIter it t i) (ht:s.heap.IsTuple t items) (hx:items[i]?=none)
    (hE:∀ h' e,Heap.ExtBut it s.heap h'->(∃ o,h'.get? e=some o /\ o.cls=.type "StopIteration")->E (.ref e) { s with heap:=h' }):wpAny (model prog w) A (Builtin.SmallTypes.nextOf (.ref it)) Q E s:=by
  obtain ⟨o,ho,hc,hd⟩:=id hit
  obtain ⟨ol,hol,_,nl,hdl⟩:=ht
  unfold Builtin.SmallTypes.nextOf
  refine wpAny_bind (wpAny_callSpecial?_slot (name:=Str.ofString "__next__") hit.typeIs PySem.F.slot_tuple_iterator_next
    (wpAny_call_entry PySem.F.slot_tuple_iterator_next hit.typeIs PySem.F.entry_tuple_iterator_next ?_ (PySem.F.args_tuple_iterator_next_1 _)))
  show wpAny _ _ (field (.ref it) 0 >>= _) _ _ s
  refine wpAny_bind (wpAny_field ho hd (x:=.ref t) rfl ?_)
  show wpAny _ _ (if (Value.ref t == Value.none)=true then _ else _) _ _ s
  rw [if_neg (show ¬ ((Value.ref t == Value.none)=true) from Bool.false_ne_true)]
  show wpAny _ _ (field (.ref it) 1 >>= _) _ _ s
  refine wpAny_bind (wpAny_field ho hd (x:=.int i 0) rfl ?_)
  show wpAny _ _ (seqItems? (.ref t) >>= _) _ _ s
  refine wpAny_bind (wpAny_seqItems hol hdl ?_)
  simp only [Int.toNat_natCast,hx]
  refine wpAny_bind (wpAny_rule (wpAny_bind (wpAny_setField ho hd (by simp) ?_)))
  show wpAny _ _ (newExc (.type "StopIteration") [] >>= _) _ _ _
  refine wpAny_bind ?_
  simp only [newExc,newTuple]
  refine wpAny_bind (wpAny_newObj_type ?_ (by size_fits))
  refine wpAny_bind (m:=firstArgMember _ _) (wpAny_of_eq (a:=Value.none) (by first | rfl | (simp only [firstArgMember]; rfl)) ?_)
  refine wpAny_newObj_type ?_ (by size_fits)
  simp only [raiseNew]
  refine wpAny_bind (wpAny_handled ?_)
  first | rw [show A.in1.handled=none from hh] | rw [hh]
  refine wpAny_bind (wpAny_pure (wpAny_throw ?_))
  exact hE _ _ (((Heap.SameBut.update ..).extBut.push _).push _) ⟨_,Heap.get?_push_size _ rfl,rfl⟩
theorem nextOf_item {i a:Addr} {k:Nat} {xs:Array Value} {x:Value} {Q:Value->Shared->Prop} (hne:a ≠ i) (h:SIt s.heap i a k xs) (hx:xs[k]?=some x)
    (hQ:∀ h',SIt h' i a (k + 1) xs->Heap.SameBut i s.heap h'->Q x { s with heap:=h' }):wpAny (model prog w) A (Builtin.SmallTypes.nextOf (.ref i)) Q E s:=by
  rcases h with ⟨h1,h2⟩ | ⟨h1,h2⟩
  · exact wpAny_nextOf_list_item h1 h2 hx fun h' h3 sb=>hQ h' (.inl ⟨h3,h2.extBut sb.extBut hne⟩) sb
  · exact nextOf_tuple_item h1 h2 hx fun h' h3 sb=>hQ h' (.inr ⟨h3,h2.extBut sb.extBut hne⟩) sb
theorem nextOf_end {i a:Addr} {k:Nat} {xs:Array Value} {Q:Value->Shared->Prop} (hh:A.handled=none) (h:SIt s.heap i a k xs) (hx:xs[k]?=none)
    (hE:∀ h' e,Heap.ExtBut i s.heap h'->(∃ o,h'.get? e=some o /\ o.cls=.type "StopIteration")->E (.ref e) { s with heap:=h' }):wpAny (model prog w) A (Builtin.SmallTypes.nextOf (.ref i)) Q E s:=by
  rcases h with ⟨h1,h2⟩ | ⟨h1,h2⟩
  · exact wpAny_nextOf_list_end hh h1 h2 hx hE
  · exact nextOf_tuple_end hh h1 h2 hx hE
theorem SIt.ext {h h':Heap} {i a b:Addr} {k:Nat} {xs:Array Value} (x:SIt h i a k xs) (hs:Heap.ExtBut b h h') (h1:i ≠ b) (h2:a ≠ b):SIt h' i a k xs:=x.move (fun o e=>hs i o h1 e) (fun o e=>hs a o h2 e)
theorem zipS_next_item {z TI TO i1 i2 l1 l2:Addr} {k1 k2:Nat} {xs ys:Array Value} {x y a b:Value} {Q:Value->Shared->Prop} (D:ZipApart z TI TO i1 i2 l1 l2)
    (hz:IsZip s.heap z TI TO .none) (hTI:IsPair s.heap TI (.ref i1) (.ref i2)) (hTO:IsPair s.heap TO a b)
    (h1:SIt s.heap i1 l1 k1 xs) (h2:SIt s.heap i2 l2 k2 ys) (hx:xs[k1]?=some x) (hy:ys[k2]?=some y)
    (hQ:∀ h',IsZip h' z TI TO (rawInt s.heap.objs.size)->IsPair h' TO x y->SIt h' i1 l1 (k1 + 1) xs->SIt h' i2 l2 (k2 + 1) ys->IsPair h' s.heap.objs.size x y->h'.objs.size=s.heap.objs.size + 1 ->
      (∀ c o,c ≠ z->c ≠ TO->c ≠ i1->c ≠ i2->s.heap.get? c=some o->h'.get? c=some o)->Q (.ref s.heap.objs.size) { s with heap:=h' }) :
    wpAny (model prog w) A (Builtin.«zip.__next__» ⟨[.ref z],[]⟩) (fun fin s'=>∃ v,fin=.done (.ret v) /\ Q v s') E s:=by
  show wpAny _ _ (field (.ref z) 2 >>= _) _ _ _
  refine wpAny_bind (wpAny_field hz rfl (x:=.bool false) rfl ?_)
  show wpAny _ _ (field (.ref z) 3 >>= _) _ _ _
  refine wpAny_bind (wpAny_field hz rfl (x:=.ref TI) rfl ?_)
  refine wpAny_bind (wpAny_seqItems hTI rfl ?_)
  show wpAny _ _ (Builtin.SmallTypes.ownedTupleIsFree (.ref z) >>= _) _ _ _
  refine wpAny_bind ?_
  unfold Builtin.SmallTypes.ownedTupleIsFree
  refine wpAny_bind (wpAny_field hz rfl (x:=.none) rfl (wpAny_pure ?_))
  simp only [if_true]
  refine wpAny_bind (wpAny_rule ?_)
  refine wpAny_bind (wpAny_field hz rfl (x:=.ref TO) rfl ?_)
  refine wpAny_bind (wpAny_setField_rec hz (by simp) fun h₁ hz₁ hs₁=>?_)
  replace hz₁:IsZip h₁ z TI TO .ellipsis:=hz₁
  refine wpAny_bind ?_
  simp only [List.zipIdx_cons,List.zipIdx_nil,List.forIn_cons,List.forIn_nil]
  refine wpAny_bind (wpAny_bind (wpAny_onRaise ?_))
  show wpAny _ _ (Builtin.SmallTypes.nextOf (.ref i1) >>= _) _ _ _
  refine wpAny_bind (nextOf_item D.l1i1 (h1.ext hs₁.extBut D.i1z D.l1z) hx fun h₂ h1₂ hs₂=>wpAny_pure ?_)
  have hTO₂:IsPair h₂ TO a b:=hs₂.extBut _ _ D.TOi1 (hs₁.extBut _ _ D.TOz hTO)
  refine wpAny_bind (wpAny_seqItems hTO₂ rfl ?_)
  refine wpAny_bind (wpAny_updateSeq_pair hTO₂ fun h₃ hTO₃ hs₃=>?_)
  replace hTO₃:IsPair h₃ TO x b:=hTO₃
  refine wpAny_bind (wpAny_letGo (wpAny_pure ?_))
  refine wpAny_bind (wpAny_bind (wpAny_onRaise ?_))
  show wpAny _ _ (Builtin.SmallTypes.nextOf (.ref i2) >>= _) _ _ _
  refine wpAny_bind (nextOf_item D.l2i2 (((h2.ext hs₁.extBut D.i2z D.l2z).ext hs₂.extBut D.i12.symm D.l2i1).ext hs₃.extBut D.TOi2.symm D.l2TO) hy fun h₄ h2₄ hs₄=>wpAny_pure ?_)
  have hTO₄:IsPair h₄ TO x b:=hs₄.extBut _ _ D.TOi2 hTO₃
  refine wpAny_bind (wpAny_seqItems hTO₄ rfl ?_)
  refine wpAny_bind (wpAny_updateSeq_pair hTO₄ fun h₅ hTO₅ hs₅=>?_)
  replace hTO₅:IsPair h₅ TO x y:=hTO₅
  refine wpAny_bind (wpAny_letGo (wpAny_pure (wpAny_pure ?_)))
  refine wpAny_bind (wpAny_seqItems hTO₅ rfl ?_)
  refine wpAny_bind (wpAny_newTuple ?_)
  have hsz:h₅.objs.size=s.heap.objs.size:=by rw [hs₅.1,hs₄.1,hs₃.1,hs₂.1,hs₁.1]
  have hz₅:IsZip h₅ z TI TO .ellipsis:=hs₅.extBut _ _ D.TOz.symm (hs₄.extBut _ _ D.i2z.symm (hs₃.extBut _ _ D.TOz.symm (hs₂.extBut _ _ D.i1z.symm hz₁)))
  have hk₅:∀ c o,c ≠ z->c ≠ TO->c ≠ i1->c ≠ i2->s.heap.get? c=some o->h₅.get? c=some o:=fun c o c1 c2 c3 c4 e =>
    hs₅.extBut _ _ c2 (hs₄.extBut _ _ c4 (hs₃.extBut _ _ c2 (hs₂.extBut _ _ c3 (hs₁.extBut _ _ c1 e))))
  have h1₅:SIt h₅ i1 l1 (k1 + 1) xs:=((h1₂.ext hs₃.extBut D.TOi1.symm D.l1TO).ext hs₄.extBut D.i12 D.l1i2).ext hs₅.extBut D.TOi1.symm D.l1TO
  have h2₅:SIt h₅ i2 l2 (k2 + 1) ys:=h2₄.ext hs₅.extBut D.TOi2.symm D.l2TO
  have hzlt:z < h₅.objs.size:=Heap.lt_size hz₅
  have hTOlt:TO < h₅.objs.size:=Heap.lt_size hTO₅
  have hi1lt:i1 < h₅.objs.size:=by obtain ⟨_,e,_⟩:=h1₅.there; exact Heap.lt_size e
  have hi2lt:i2 < h₅.objs.size:=by obtain ⟨_,e,_⟩:=h2₅.there; exact Heap.lt_size e
  show wpAny _ _ (Builtin.SmallTypes.ownedTupleHandOut (.ref z) (.ref h₅.objs.size) >>= _) _ _ _
  refine wpAny_bind ?_
  unfold Builtin.SmallTypes.ownedTupleHandOut
  have hz₆:IsZip (h₅.push { cls:=.type "tuple",data:=.seq #[x,y] }) z TI TO .ellipsis:=Heap.get?_push_of_some _ hz₅
  refine wpAny_bind (wpAny_setField_rec hz₆ (by simp) fun h₇ hz₇ hs₇=>?_)
  replace hz₇:IsZip h₇ z TI TO (rawInt h₅.objs.size):=hz₇
  refine wpAny_setField_rec hz₇ (by simp) fun h₈ hz₈ hs₈=>?_
  replace hz₈:IsZip h₈ z TI TO (rawInt h₅.objs.size):=hz₈
  have up:∀ c o,c ≠ z->h₅.get? c=some o->h₈.get? c=some o:=fun c o c1 e=>hs₈.extBut _ _ c1 (hs₇.extBut _ _ c1 (Heap.get?_push_of_some _ e))
  have hT₈:IsPair h₈ h₅.objs.size x y:=hs₈.extBut _ _ (Nat.ne_of_gt hzlt) (hs₇.extBut _ _ (Nat.ne_of_gt hzlt) (Heap.get?_push_size _ rfl))
  have hz8:h₈.objs.size=h₅.objs.size + 1:=by rw [hs₈.1,hs₇.1,Heap.size_push]
  rw [hsz] at hz₈ hT₈ hz8
  refine wpAny_pure ⟨_,rfl,?_⟩
  show Q (.ref h₅.objs.size) _
  rw [hsz]
  exact hQ h₈ hz₈ (up _ _ D.TOz hTO₅) (h1₅.move (fun o e=>up _ o D.i1z e) (fun o e=>up _ o D.l1z e)) (h2₅.move (fun o e=>up _ o D.i2z e) (fun o e=>up _ o D.l2z e)) hT₈ hz8 fun c o c1 c2 c3 c4 e=>up c o c1 (hk₅ c o c1 c2 c3 c4 e)
theorem zipS_next_end {z TI TO i1 i2 l1 l2:Addr} {k1 k2:Nat} {xs ys:Array Value} {a b:Value} {Q:Fin->Shared->Prop} (hh:A.handled=none) (D:ZipApart z TI TO i1 i2 l1 l2)
    (hz:IsZip s.heap z TI TO .none) (hTI:IsPair s.heap TI (.ref i1) (.ref i2)) (hTO:IsPair s.heap TO a b)
    (h1:SIt s.heap i1 l1 k1 xs) (h2:SIt s.heap i2 l2 k2 ys) (hend:xs[k1]?=none \/ ys[k2]?=none)
    (hE:∀ h' e,(∀ c o,c ≠ z->c ≠ TO->c ≠ i1->c ≠ i2->s.heap.get? c=some o->h'.get? c=some o)->(∃ o,h'.get? e=some o /\ o.cls=.type "StopIteration")->E (.ref e) { s with heap:=h' }) :
    wpAny (model prog w) A (Builtin.«zip.__next__» ⟨[.ref z],[]⟩) Q E s:=by
  show wpAny _ _ (field (.ref z) 2 >>= _) _ _ _
  refine wpAny_bind (wpAny_field hz rfl (x:=.bool false) rfl ?_)
  show wpAny _ _ (field (.ref z) 3 >>= _) _ _ _
  refine wpAny_bind (wpAny_field hz rfl (x:=.ref TI) rfl ?_)
  refine wpAny_bind (wpAny_seqItems hTI rfl ?_)
  show wpAny _ _ (Builtin.SmallTypes.ownedTupleIsFree (.ref z) >>= _) _ _ _
  refine wpAny_bind ?_
  unfold Builtin.SmallTypes.ownedTupleIsFree
  refine wpAny_bind (wpAny_field hz rfl (x:=.none) rfl (wpAny_pure ?_))
  simp only [if_true]
  refine wpAny_bind (wpAny_rule ?_)
  refine wpAny_bind (wpAny_field hz rfl (x:=.ref TO) rfl ?_)
  refine wpAny_bind (wpAny_setField_rec hz (by simp) fun h₁ hz₁ hs₁=>?_)
  replace hz₁:IsZip h₁ z TI TO .ellipsis:=hz₁
  refine wpAny_bind ?_
  simp only [List.zipIdx_cons,List.zipIdx_nil,List.forIn_cons,List.forIn_nil]
  refine wpAny_bind (wpAny_bind (wpAny_onRaise ?_))
  show wpAny _ _ (Builtin.SmallTypes.nextOf (.ref i1) >>= _) _ _ _
  cases hx:xs[k1]? with
  | none =>
    refine wpAny_bind (nextOf_end hh (h1.ext hs₁.extBut D.i1z D.l1z) hx fun h₂ e hs₂ he=>?_)
    obtain ⟨oe,hoe,hce⟩:=he
    have hz₂:IsZip h₂ z TI TO .ellipsis:=hs₂ _ _ D.i1z.symm hz₁
    have hez:e ≠ z:=fun x=>by subst x; rw [hz₂] at hoe; cases hoe; simp at hce
    refine wpAny_setField_rec hz₂ (by simp) fun h₃ _ hs₃=>hE h₃ e (fun c o c1 _ c3 _ x=>hs₃.extBut _ _ c1 (hs₂ _ _ c3 (hs₁.extBut _ _ c1 x))) ⟨oe,hs₃.extBut _ _ hez hoe,hce⟩
  | some x =>
    have hy:ys[k2]?=none:=by rcases hend with h | h; rw [hx] at h; cases h; exact h
    refine wpAny_bind (nextOf_item D.l1i1 (h1.ext hs₁.extBut D.i1z D.l1z) hx fun h₂ h1₂ hs₂=>wpAny_pure ?_)
    have hTO₂:IsPair h₂ TO a b:=hs₂.extBut _ _ D.TOi1 (hs₁.extBut _ _ D.TOz hTO)
    refine wpAny_bind (wpAny_seqItems hTO₂ rfl ?_)
    refine wpAny_bind (wpAny_updateSeq_pair hTO₂ fun h₃ hTO₃ hs₃=>?_)
    refine wpAny_bind (wpAny_letGo (wpAny_pure ?_))
    refine wpAny_bind (wpAny_bind (wpAny_onRaise ?_))
    show wpAny _ _ (Builtin.SmallTypes.nextOf (.ref i2) >>= _) _ _ _
    refine wpAny_bind (nextOf_end hh (((h2.ext hs₁.extBut D.i2z D.l2z).ext hs₂.extBut D.i12.symm D.l2i1).ext hs₃.extBut D.TOi2.symm D.l2TO) hy fun h₄ e hs₄ he=>?_)
    obtain ⟨oe,hoe,hce⟩:=he
    have hz₄:IsZip h₄ z TI TO .ellipsis:=hs₄ _ _ D.i2z.symm (hs₃.extBut _ _ D.TOz.symm (hs₂.extBut _ _ D.i1z.symm hz₁))
    have hez:e ≠ z:=fun x=>by subst x; rw [hz₄] at hoe; cases hoe; simp at hce
    refine wpAny_setField_rec hz₄ (by simp) fun h₅ _ hs₅=>hE h₅ e (fun c o c1 c2 c3 c4 x=>hs₅.extBut _ _ c1 (hs₄ _ _ c4 (hs₃.extBut _ _ c2 (hs₂.extBut _ _ c3 (hs₁.extBut _ _ c1 x))))) ⟨oe,hs₅.extBut _ _ hez hoe,hce⟩
theorem pyNext_zipS_item {z TI TO i1 i2 l1 l2:Addr} {k1 k2:Nat} {xs ys:Array Value} {x y a b:Value} {Q:Option Value->Shared->Prop} (D:ZipApart z TI TO i1 i2 l1 l2)
    (hz:IsZip s.heap z TI TO .none) (hTI:IsPair s.heap TI (.ref i1) (.ref i2)) (hTO:IsPair s.heap TO a b)
    (h1:SIt s.heap i1 l1 k1 xs) (h2:SIt s.heap i2 l2 k2 ys) (hx:xs[k1]?=some x) (hy:ys[k2]?=some y)
    (hQ:∀ h',IsZip h' z TI TO (rawInt s.heap.objs.size)->IsPair h' TO x y->SIt h' i1 l1 (k1 + 1) xs->SIt h' i2 l2 (k2 + 1) ys->IsPair h' s.heap.objs.size x y->h'.objs.size=s.heap.objs.size + 1 ->
      (∀ c o,c ≠ z->c ≠ TO->c ≠ i1->c ≠ i2->s.heap.get? c=some o->h'.get? c=some o)->Q (some (.ref s.heap.objs.size)) { s with heap:=h' }) :
    wpAny (model prog w) A (pyNext (.ref z)) Q E s:=by
  have hT:s.TypeIs (.ref z) "zip":=⟨_,hz,rfl⟩
  unfold pyNext
  exact wpAny_bind (wpAny_attempt (wpAny_callSpecial?_slot (name:=Str.ofString "__next__") hT PySem.F.slot_zip_next
    (wpAny_call_entry PySem.F.slot_zip_next hT PySem.F.entry_zip_next
      (zipS_next_item D hz hTI hTO h1 h2 hx hy fun h' a1 a2 a3 a4 a5 a6 a7=>wpAny_pure (hQ h' a1 a2 a3 a4 a5 a6 a7)) (PySem.F.args_zip_next_1 _))))
theorem pyNext_zipS_end {z TI TO i1 i2 l1 l2:Addr} {k1 k2:Nat} {xs ys:Array Value} {a b:Value} {Q:Option Value->Shared->Prop} (hh:A.handled=none) (D:ZipApart z TI TO i1 i2 l1 l2)
    (hz:IsZip s.heap z TI TO .none) (hTI:IsPair s.heap TI (.ref i1) (.ref i2)) (hTO:IsPair s.heap TO a b)
    (h1:SIt s.heap i1 l1 k1 xs) (h2:SIt s.heap i2 l2 k2 ys) (hend:xs[k1]?=none \/ ys[k2]?=none)
    (hQ:∀ h',(∀ c o,c ≠ z->c ≠ TO->c ≠ i1->c ≠ i2->s.heap.get? c=some o->h'.get? c=some o)->Q none { s with heap:=h' }):wpAny (model prog w) A (pyNext (.ref z)) Q E s:=by
  have hT:s.TypeIs (.ref z) "zip":=⟨_,hz,rfl⟩
  unfold pyNext
  refine wpAny_bind (wpAny_attempt (wpAny_callSpecial?_slot (name:=Str.ofString "__next__") hT PySem.F.slot_zip_next
    (wpAny_call_entry PySem.F.slot_zip_next hT PySem.F.entry_zip_next (zipS_next_end hh D hz hTI hTO h1 h2 hend fun h' e hk he=>?_) (PySem.F.args_zip_next_1 _))))
  obtain ⟨o,ho,hc⟩:=he
  refine wpAny_bind (wpAny_isInstance (T:="StopIteration") (b:=true) ⟨o,ho,hc⟩ isSubtype_stop ?_)
  exact wpAny_pure (hQ _ hk)
end
end L2
set_option Elab.async false
set_option linter.all false
set_option maxRecDepth 100000
namespace L2
open PySem PySem.Spec PyProof.Rows
noncomputable def ItR (h:Heap) (i a:Addr) (k:Nat) (b:Bool):Prop:=if b=true then h.IsListIter i a k else h.IsTupleIter i a k
noncomputable def SqB (K:PySem.W.Frag) (H:Hp) (a:Addr) (b:Bool) (xs:List V):Prop:=if b=true then SqL K H a xs else SqT K H a xs
theorem ItR.at {h h':Heap} {i a:Addr} {k:Nat} {b:Bool} (x:ItR h i a k b) (hi:∀ o,h.get? i=some o->h'.get? i=some o):ItR h' i a k b:=by
  cases b with
  | true=>exact Heap.IsListIter.at (show h.IsListIter i a k from x) hi
  | false=>exact Heap.IsTupleIter.at (show h.IsTupleIter i a k from x) hi
theorem ItR.rec {h:Heap} {i a:Addr} {k:Nat} {b:Bool} (x:ItR h i a k b):∃ o vs,h.get? i=some o /\ o.data=.fields vs:=by
  cases b with
  | true=>obtain ⟨o,e,_,d⟩:=(show h.IsListIter i a k from x); exact ⟨o,_,e,d⟩
  | false=>obtain ⟨o,e,_,d⟩:=(show h.IsTupleIter i a k from x); exact ⟨o,_,e,d⟩
section
variable {X:Cx} {pins:List (Addr × Obj)} {σ:St} {H:Hp} {s:Shared}
theorem Inv.seqB {a:Addr} {b:Bool} {xs:List V} (I:Inv X pins σ H s) (h:SqB X.K H a b xs):∃ its:List Value,Vals xs its /\ (∀ (i:Addr) (k:Nat) (h':Heap),ItR h' i a k b->(∀ o,s.heap.get? a=some o->h'.get? a=some o)->SIt h' i a k its.toArray) /\ ∃ o n,s.heap.get? a=some o /\ o.data=.seq its.toArray n:=by
  cases b with
  | true =>
    obtain ⟨its,r,pl,_⟩:=I.list (show SqL X.K H a xs from h)
    have hl:s.heap.IsList a its.toArray:=pl.isList
    obtain ⟨o,e,c,n,d⟩:=id hl
    exact ⟨its,r,fun i k h' x ka=>.inl ⟨x,hl.at ka⟩,o,n,e,d⟩
  | false =>
    obtain ⟨its,r,pl,_⟩:=I.tuple (show SqT X.K H a xs from h)
    have hl:s.heap.IsTuple a its.toArray:=pl
    obtain ⟨o,e,c,n,d⟩:=id hl
    exact ⟨its,r,fun i k h' x ka=>.inr ⟨x,hl.at ka⟩,o,n,e,d⟩
theorem Inv.seqB_inj {a:Addr} {b:Bool} {xs ys:List V} (I:Inv X pins σ H s) (h:SqB X.K H a b xs) (h':SqB X.K H a b ys):xs=ys:=by
  cases b with
  | true=>exact I.list_inj (show SqL X.K H a xs from h) h'
  | false=>exact I.tuple_inj (show SqT X.K H a xs from h) h'
end
end L2
set_option Elab.async false
set_option linter.all false
set_option maxRecDepth 100000
namespace L2
open PySem PySem.Spec PyProof.Rows
section
variable {X:Cx} {pins:List (Addr × Obj)} {σ:St} {H:Hp} {s:Shared} {h':Heap}
theorem Inv.turnedL {t':Nat} {l:List Addr} (I:Inv X pins σ H s) (k:∀ b o,b ∉ l->s.heap.get? b=some o->h'.get? b=some o) (hf:∀ b ∈ l,FpOk X pins H b):Inv X pins σ H { s with heap:=h',toks:=t' }:=by
  have nit:∀ b u,H b=some u->b ∉ l:=fun b u e z=>by rw [(hf b z).1] at e; cases e
  have hL:X.env.locals ∉ l:=fun z=>(hf _ z).2.1 rfl
  refine I.step (g':=s.gens) (d':=s.drawn) (ch:=l) (fun b hb=>?_) (fun b o _ _ hc e _=>k b o hc e) (fun b o _ _ hc e _=>⟨o.slots,k b o hc e⟩) (fun _ _ _ _ n=>n)
    (fun b o hc e=>⟨o,k b o hc e⟩) (fun _ _ e=>e) (fun _ _ _ e=>e) (fun b ps e=>⟨#[],by rw [e]; simp⟩) (fun m hm=>?_) (fun b u e=>?_) I.bare
  · obtain ⟨_,f1,_,f3,f4,f5⟩:=hf b hb
    exact ⟨f3,f1,f4,f5⟩
  · obtain ⟨o,es,ep,ho,r⟩:=hm
    exact ⟨o,es,ep,k _ o hL ho,r⟩
  · refine (I.hok b u e).stay (fun c v hc q=>k c v ?_ q) (fun _ q=>q) fun _ _ q=>q
    rcases hc with z | z
    · rw [z]; exact nit b u e
    · exact nit c _ z
end
theorem ItR.ofS {h:Heap} {i a:Addr} {k m:Nat} {xs ys:Array Value} {b:Bool} {h0:Heap} (x:SIt h i a k xs) (q:ItR h0 i a m b) (y:SIt h0 i a m ys) (hc:∀ o,h0.get? a=some o->h.get? a=some o):ItR h i a k b:=by
  cases b with
  | true =>
    rcases x with ⟨x,_⟩ | ⟨_,⟨o,e,c,n,d⟩⟩
    · exact x
    · rcases y with ⟨_,⟨o',e',c',_⟩⟩ | ⟨⟨o',e',c',_⟩,_⟩
      · have:=hc _ e'; rw [e] at this; cases this; rw [c] at c'; exact absurd c' (by decide)
      · obtain ⟨o2,e2,c2,_⟩:=(show h0.IsListIter i a m from q)
        rw [e2] at e'; cases e'; rw [c2] at c'; exact absurd c' (by decide)
  | false =>
    rcases x with ⟨_,⟨o,e,c,n,d⟩⟩ | ⟨x,_⟩
    · rcases y with ⟨⟨o',e',c',_⟩,_⟩ | ⟨_,⟨o',e',c',_⟩⟩
      · obtain ⟨o2,e2,c2,_⟩:=(show h0.IsTupleIter i a m from q)
        rw [e2] at e'; cases e'; rw [c2] at c'; exact absurd c' (by decide)
      · have:=hc _ e'; rw [e] at this; cases this; rw [c] at c'; exact absurd c' (by decide)
    · exact x
noncomputable def Itz (K:PySem.W.Frag) (l1 l2:Addr) (b1 b2:Bool) (n m:Nat):It :=
  ⟨fun i H=>i < n /\ i < m /\ ∃ xs ys,SqB K H l1 b1 xs /\ SqB K H l2 b2 ys /\ xs.length=n /\ ys.length=m,
   fun i H v H'=>∃ T,v=.ref T /\ H T=none /\ ∀ xs ys,SqB K H l1 b1 xs->SqB K H l2 b2 ys->∃ x y,xs[i]?=some x /\ ys[i]?=some y /\ H'=upd H T (.tup [x,y]),
   fun i H=>(i=n \/ i=m) /\ ∃ xs ys,SqB K H l1 b1 xs /\ SqB K H l2 b2 ys /\ xs.length=n /\ ys.length=m⟩
noncomputable def ZTn (z TI TO i1 i2 l1 l2:Addr) (b1 b2:Bool) (i:Nat) (h:Heap):Prop :=
  IsZip h z TI TO .none /\ IsPair h TI (.ref i1) (.ref i2) /\ (∃ a b,IsPair h TO a b) /\ ItR h i1 l1 i b1 /\ ItR h i2 l2 i b2
theorem turn_zip {P:Program} {w:World} {K:PySem.W.Frag} {elts:List Expr} {x1} {pos:Pos} {z TI TO i1 i2 l1 l2:Addr} (D:ZipApart z TI TO i1 i2 l1 l2) (hT1:l1 ≠ TI) (hT2:l2 ≠ TI) (b1 b2:Bool) (n m:Nat) :
    Turn P w K (.Tuple elts x1 pos) (Itz K l1 l2 b1 b2 n m) [z,TI,TO,i1,i2] z (ZTn z TI TO i1 i2 l1 l2 b1 b2) where
  mem:=by simp
  obj:=fun i h st b hb=>by
    obtain ⟨z0,zI,⟨a,c,zO⟩,t1,t2⟩:=st
    have sq:∀ {i a k b},ItR h i a k b->∃ o,h.get? i=some o /\ ∀ v,o.data ≠ .cell v:=fun t=>by
      obtain ⟨o,vs,e,d⟩:=t.rec
      exact ⟨o,e,fun v q=>by rw [d] at q; cases q⟩
    simp only [List.mem_cons,List.not_mem_nil,or_false] at hb
    rcases hb with rfl | rfl | rfl | rfl | rfl
    · exact ⟨_,z0,fun v q=>by cases q⟩
    · exact ⟨_,zI,fun v q=>by cases q⟩
    · exact ⟨_,zO,fun v q=>by cases q⟩
    · exact sq t1
    · exact sq t2
  keep:=fun i h h' st k=>by
    obtain ⟨z0,zI,⟨a,c,zO⟩,t1,t2⟩:=st
    exact ⟨k z (by simp) _ z0,k TI (by simp) _ zI,⟨a,c,k TO (by simp) _ zO⟩,t1.at fun o e=>k i1 (by simp) o e,t2.at fun o e=>k i2 (by simp) o e⟩
  item:=by
    intro X hP hw hK hc i pins s σ H E I hf st hg
    subst hP hw hK
    obtain ⟨hi,hj,xs,ys,hx,hy,lx,ly⟩:=hg
    obtain ⟨z0,zI,⟨a,c,zO⟩,t1,t2⟩:=st
    obtain ⟨its1,v1,k1,o1,n1,e1,d1⟩:=I.seqB hx
    obtain ⟨its2,v2,k2,o2,n2,e2,d2⟩:=I.seqB hy
    have S1:=k1 i1 i s.heap t1 fun _ e=>e
    have S2:=k2 i2 i s.heap t2 fun _ e=>e
    have gx:xs[i]?=some (xs[i]'(by omega)):=List.getElem?_eq_getElem _
    have gy:ys[i]?=some (ys[i]'(by omega)):=List.getElem?_eq_getElem _
    generalize xs[i]'(by omega)=x at gx
    generalize ys[i]'(by omega)=y at gy
    obtain ⟨u,hu,ru⟩:=v1.get gx
    obtain ⟨v,hv,rv⟩:=v2.get gy
    refine pyNext_zipS_item D z0 zI zO S1 S2 (x:=u) (y:=v) (by simpa using hu) (by simpa using hv) fun h' a1 a2 a3 a4 a5 a6 a7=>?_
    refine ⟨_,rfl,wpAny_letOwnedTupleGo_zip (s:={ s with heap:=h' }) a1 fun h'' q1 q2=>?_⟩
    have up:∀ b o,b ∉ [z,TI,TO,i1,i2]->s.heap.get? b=some o->h''.get? b=some o:=fun b o hb e=>by
      simp only [List.mem_cons,List.not_mem_nil,or_false,not_or] at hb
      exact (q2.2 b hb.1).trans (a7 b o hb.1 hb.2.2.1 hb.2.2.2.1 hb.2.2.2.2 e)
    have I1:Inv X pins σ H { s with heap:=h'',toks:=s.toks }:=I.turnedL up hf
    have F:=I.fpOk (b:=s.heap.objs.size) (H':=H) (Nat.le_refl _) (I.hok.fresh (Nat.le_refl _))
    have h0:X.s₀.heap.get? s.heap.objs.size=none:=by
      cases q:X.s₀.heap.get? s.heap.objs.size with
      | none=>rfl
      | some o=>exact absurd (Nat.lt_of_lt_of_le (Heap.lt_size q) I.sz) (Nat.lt_irrefl _)
    have zs:s.heap.objs.size ≠ z:=Nat.ne_of_gt (Heap.lt_size z0)
    have T':IsPair h'' s.heap.objs.size u v:=(q2.2 _ zs).trans a5
    have I2:Inv X pins σ (upd H s.heap.objs.size (.tup [x,y])) { s with heap:=h'',toks:=s.toks }:=I1.track F.1 h0 F.2.1 F.2.2.2.2.1 F.2.2.2.2.2 ⟨by show 2<=sizeLine; rw [sizeLine_eq]; decide,[u,v],.cons ru (.cons rv .nil),⟨_,T',rfl,0,rfl⟩⟩
    have l1lt:l1 < s.heap.objs.size:=Heap.lt_size e1
    have l2lt:l2 < s.heap.objs.size:=Heap.lt_size e2
    have l1f:l1 ∉ [z,TI,TO,i1,i2]:=by simp [D.l1z,D.l1TO,D.l1i1,D.l1i2,hT1]
    have l2f:l2 ∉ [z,TI,TO,i1,i2]:=by simp [D.l2z,D.l2TO,D.l2i1,D.l2i2,hT2]
    have S1':SIt h'' i1 l1 (i + 1) its1.toArray:=a3.move (fun o e=>(q2.2 _ D.i1z).trans e) (fun o e=>(q2.2 _ D.l1z).trans e)
    have S2':SIt h'' i2 l2 (i + 1) its2.toArray:=a4.move (fun o e=>(q2.2 _ D.i2z).trans e) (fun o e=>(q2.2 _ D.l2z).trans e)
    refine ⟨.ref s.heap.objs.size,_,I2,rfl,⟨_,rfl,F.1,fun xs' ys' hx' hy'=>?_⟩,⟨q1,?_,⟨u,v,?_⟩,?_,?_⟩,fun b hb=>?_⟩
    · rw [I.seqB_inj hx' hx,I.seqB_inj hy' hy]
      exact ⟨x,y,gx,gy,rfl⟩
    · exact (q2.2 _ D.TIz).trans (a7 TI _ D.TIz D.TITO D.TIi1 D.TIi2 zI)
    · exact (q2.2 _ D.TOz).trans a2
    · exact ItR.ofS S1' t1 S1 fun o e=>up l1 o l1f e
    · exact ItR.ofS S2' t2 S2 fun o e=>up l2 o l2f e
    · have hb':=hf b hb
      have ne:b ≠ s.heap.objs.size:=by
        obtain ⟨o,e,_⟩:∃ o,s.heap.get? b=some o /\ True:=by
          simp only [List.mem_cons,List.not_mem_nil,or_false] at hb
          rcases hb with rfl | rfl | rfl | rfl | rfl
          · exact ⟨_,z0,trivial⟩
          · exact ⟨_,zI,trivial⟩
          · exact ⟨_,zO,trivial⟩
          · obtain ⟨o,vs,e,_⟩:=t1.rec; exact ⟨o,e,trivial⟩
          · obtain ⟨o,vs,e,_⟩:=t2.rec; exact ⟨o,e,trivial⟩
        exact Nat.ne_of_lt (Heap.lt_size e)
      rw [upd_ne ne]; exact hb'.1
  done:=by
    intro X hP hw hK hc i pins s σ H E I hf st hg
    subst hP hw hK
    obtain ⟨hi,xs,ys,hx,hy,lx,ly⟩:=hg
    obtain ⟨z0,zI,⟨a,c,zO⟩,t1,t2⟩:=st
    obtain ⟨its1,v1,k1,o1,n1,e1,d1⟩:=I.seqB hx
    obtain ⟨its2,v2,k2,o2,n2,e2,d2⟩:=I.seqB hy
    have S1:=k1 i1 i s.heap t1 fun _ e=>e
    have S2:=k2 i2 i s.heap t2 fun _ e=>e
    refine pyNext_zipS_end (I.ok.hd hc) D z0 zI zO S1 S2 ?_ fun h' a1=>⟨rfl,I.turnedL (t':=s.toks) (l:=[z,TI,TO,i1,i2]) (fun b o hb e=>?_) hf⟩
    · rcases hi with q | q
      · exact .inl (by simp; rw [<- v1.length,lx,q]; exact Nat.le_refl _)
      · exact .inr (by simp; rw [<- v2.length,ly,q]; exact Nat.le_refl _)
    · simp only [List.mem_cons,List.not_mem_nil,or_false,not_or] at hb
      exact a1 b o hb.1 hb.2.2.1 hb.2.2.2.1 hb.2.2.2.2 e
  self:=fun _ _ _ _ _ st h=>wpAny_pyIter_zip st.1 h
end L2
set_option Elab.async false
set_option linter.all false
set_option maxRecDepth 100000
set_option maxHeartbeats 4000000
namespace L2
open PySem PySem.Spec PyProof.Rows
noncomputable def itN (b:Bool):String:=if b=true then "list_iterator" else "tuple_iterator"
noncomputable def SqH (h:Heap) (a:Addr) (b:Bool) (xs:Array Value):Prop:=if b=true then h.IsList a xs else h.IsTuple a xs
noncomputable abbrev zbH1 (b1:Bool) (h:Heap) (l1:Addr):Heap:=h.push { cls:=.type (itN b1),data:=.fields #[.ref l1,.int 0 0] }
noncomputable abbrev zbH2 (b1 b2:Bool) (h:Heap) (l1 l2:Addr):Heap:=(zbH1 b1 h l1).push { cls:=.type (itN b2),data:=.fields #[.ref l2,.int 0 0] }
noncomputable abbrev zbH3 (b1 b2:Bool) (h:Heap) (l1 l2:Addr):Heap:=(zbH2 b1 b2 h l1 l2).push { cls:=.type "tuple",data:=.seq #[.ref h.objs.size,.ref (zbH1 b1 h l1).objs.size] }
noncomputable abbrev zbH4 (b1 b2:Bool) (h:Heap) (l1 l2:Addr):Heap:=(zbH3 b1 b2 h l1 l2).push { cls:=.type "tuple",data:=.seq #[.none,.none] }
noncomputable abbrev zbH5 (b1 b2:Bool) (h:Heap) (l1 l2:Addr):Heap:=(zbH4 b1 b2 h l1 l2).push { cls:=.type "zip",data:=.fields #[.none,.bool false,.bool false,.ref (zbH2 b1 b2 h l1 l2).objs.size,.ref (zbH3 b1 b2 h l1 l2).objs.size] }
theorem meets_zipB (b1 b2:Bool) (l1 l2:Addr) (xs ys:Array Value) :
    Meets (Builtin.«zip.__new__» ⟨[.type "zip",.ref l1,.ref l2],[]⟩) (fun _ R s=>SqH s.heap l1 b1 xs /\ SqH s.heap l2 b2 ys /\
      R (.ok (.ret (.ref (zbH4 b1 b2 s.heap l1 l2).objs.size))) { s with heap:=zbH5 b1 b2 s.heap l1 l2 }) :=
  .of_wp fun prog w A R s h=>by
    obtain ⟨hp,g,d,tk,os⟩:=s; obtain ⟨hl1,hl2,h⟩:=h
    have hsub:=PySem.sub_zip
    cases b1 <;> cases b2
    · have hL1:Heap.IsTuple (Shared.heap ⟨hp,g,d,tk,os⟩) l1 xs:=hl1
      have hL2:Heap.IsTuple (Shared.heap ⟨hp.push { cls:=.type "tuple_iterator",data:=.fields #[.ref l1,.int 0 0] },g,d,tk,os⟩) l2 ys:=Heap.IsTuple.at (show hp.IsTuple l2 ys from hl2) fun o e=>Heap.get?_push_of_some _ e
      wp_walk using wpAny_pyIter_tuple hL1,wpAny_pyIter_tuple hL2
      exact ⟨_,rfl,h⟩
    · have hL1:Heap.IsTuple (Shared.heap ⟨hp,g,d,tk,os⟩) l1 xs:=hl1
      have hL2:Heap.IsList (Shared.heap ⟨hp.push { cls:=.type "tuple_iterator",data:=.fields #[.ref l1,.int 0 0] },g,d,tk,os⟩) l2 ys:=Heap.IsList.push (show hp.IsList l2 ys from hl2) _
      wp_walk using wpAny_pyIter_tuple hL1,wpAny_pyIter_list hL2
      exact ⟨_,rfl,h⟩
    · have hL1:Heap.IsList (Shared.heap ⟨hp,g,d,tk,os⟩) l1 xs:=hl1
      have hL2:Heap.IsTuple (Shared.heap ⟨hp.push { cls:=.type "list_iterator",data:=.fields #[.ref l1,.int 0 0] },g,d,tk,os⟩) l2 ys:=Heap.IsTuple.at (show hp.IsTuple l2 ys from hl2) fun o e=>Heap.get?_push_of_some _ e
      wp_walk using wpAny_pyIter_list hL1,wpAny_pyIter_tuple hL2
      exact ⟨_,rfl,h⟩
    · have hL1:Heap.IsList (Shared.heap ⟨hp,g,d,tk,os⟩) l1 xs:=hl1
      have hL2:Heap.IsList (Shared.heap ⟨hp.push { cls:=.type "list_iterator",data:=.fields #[.ref l1,.int 0 0] },g,d,tk,os⟩) l2 ys:=Heap.IsList.push (show hp.IsList l2 ys from hl2) _
      wp_walk using wpAny_pyIter_list hL1,wpAny_pyIter_list hL2
      exact ⟨_,rfl,h⟩
theorem itR_new {h:Heap} {i a:Addr} (b:Bool) (e:h.get? i=some { cls:=.type (itN b),data:=.fields #[.ref a,.int 0 0] }):ItR h i a 0 b:=by
  cases b with
  | true=>exact (show h.IsListIter i a 0 from ⟨_,e,rfl,rfl⟩)
  | false=>exact (show h.IsTupleIter i a 0 from ⟨_,e,rfl,rfl⟩)
section
variable {prog:Program} {w:World} {A:Around} {E:Value->Shared->Prop} {s:Shared}
theorem call_zipB {l1 l2:Addr} {xs ys:Array Value} {Q:Value->Shared->Prop} (b1 b2:Bool) (hl1:SqH s.heap l1 b1 xs) (hl2:SqH s.heap l2 b2 ys)
    (h:∀ h',ZTn (s.heap.objs.size + 4) (s.heap.objs.size + 2) (s.heap.objs.size + 3) s.heap.objs.size (s.heap.objs.size + 1) l1 l2 b1 b2 0 h'->(∀ c o,s.heap.get? c=some o->h'.get? c=some o)->Q (.ref (s.heap.objs.size + 4)) { s with heap:=h' }) :
    wpAny (model prog w) A (call (.type "zip") [.ref l1,.ref l2]) Q E s:=by
  refine callType_new PySem.F.called_zip (by decide) (PySem.F.typeCall_zip_2 _ _) (PySem.F.newCall_zip_2 _ _) (fun obj=>PySem.F.args_object_init_3 obj _ _) PySem.F.entry_zip_new
    (meets_zipB b1 b2 l1 l2 xs ys) ⟨hl1,hl2,?_⟩
  have z1:(zbH1 b1 s.heap l1).objs.size=s.heap.objs.size + 1:=Heap.size_push ..
  have z2:(zbH2 b1 b2 s.heap l1 l2).objs.size=s.heap.objs.size + 2:=by rw [Heap.size_push,z1]
  have z3:(zbH3 b1 b2 s.heap l1 l2).objs.size=s.heap.objs.size + 3:=by rw [Heap.size_push,z2]
  have z4:(zbH4 b1 b2 s.heap l1 l2).objs.size=s.heap.objs.size + 4:=by rw [Heap.size_push,z3]
  have g5:(zbH5 b1 b2 s.heap l1 l2).get? (zbH4 b1 b2 s.heap l1 l2).objs.size=some _:=Heap.get?_push_size _ rfl
  have g4:(zbH5 b1 b2 s.heap l1 l2).get? (zbH3 b1 b2 s.heap l1 l2).objs.size=some _:=Heap.get?_push_of_some _ (Heap.get?_push_size _ rfl)
  have g3:(zbH5 b1 b2 s.heap l1 l2).get? (zbH2 b1 b2 s.heap l1 l2).objs.size=some _:=Heap.get?_push_of_some _ (Heap.get?_push_of_some _ (Heap.get?_push_size _ rfl))
  have g2:(zbH5 b1 b2 s.heap l1 l2).get? (zbH1 b1 s.heap l1).objs.size=some _:=Heap.get?_push_of_some _ (Heap.get?_push_of_some _ (Heap.get?_push_of_some _ (Heap.get?_push_size _ rfl)))
  have g1:(zbH5 b1 b2 s.heap l1 l2).get? s.heap.objs.size=some _:=Heap.get?_push_of_some _ (Heap.get?_push_of_some _ (Heap.get?_push_of_some _ (Heap.get?_push_of_some _ (Heap.get?_push_size _ rfl))))
  show _ /\ _
  rw [z2,z3,z4] at g5
  rw [z1,z2] at g3
  rw [z3] at g4
  rw [z1] at g2
  rw [z4]
  exact ⟨⟨_,g5,rfl⟩,h _ ⟨g5,g3,⟨_,_,g4⟩,itR_new b1 g1,itR_new b2 g2⟩ fun c o x =>
    Heap.get?_push_of_some _ (Heap.get?_push_of_some _ (Heap.get?_push_of_some _ (Heap.get?_push_of_some _ (Heap.get?_push_of_some _ x))))⟩
end
section
variable {X:Cx}
theorem boot_zip:bootBuiltins "zip"=some (.type "zip"):=by decide +kernel
noncomputable def iZip (K:PySem.W.Frag) (ta:TA):TI:=fun σ H R=>ta σ H fun vs H1=>∃ l1 l2 b1 b2 xs ys,vs=[.ref l1,.ref l2] /\ SqB K H1 l1 b1 xs /\ SqB K H1 l2 b2 ys /\ R (Itz K l1 l2 b1 b2 xs.length ys.length) H1
theorem Inv.seqH {pins:List (Addr × Obj)} {σ:St} {H:Hp} {s:Shared} {a:Addr} {b:Bool} {xs:List V} (I:Inv X pins σ H s) (h:SqB X.K H a b xs):∃ its:Array Value,SqH s.heap a b its /\ a < s.heap.objs.size:=by
  cases b with
  | true =>
    obtain ⟨its,r,pl,_⟩:=I.list (show SqL X.K H a xs from h)
    obtain ⟨o,e,_⟩:=id pl.isList
    exact ⟨_,pl.isList,Heap.lt_size e⟩
  | false =>
    obtain ⟨its,r,pl,_⟩:=I.tuple (show SqT X.K H a xs from h)
    obtain ⟨o,e,_⟩:=id pl
    exact ⟨_,pl,Heap.lt_size e⟩
theorem pi_zip {a b:Expr} {ta:TA} {p pos:Pos} {elts:List Expr} {x1} {pos':Pos} (hg:Gl X "zip") (hm:X.mg "zip"=none) (ha:PA X [a,b] ta) (hs:starEach [a,b] X.env=(false,eval a X.env) :: starEach [b] X.env) (hs2:(backTo pos (starEach [b] X.env)).any (·.1)=false):PI X (.Tuple elts x1 pos') (.Call (.Name "zip" p) [a,b] [] pos) (iZip X.K ta):=by
  intro pins s σ H R I h
  refine Call_ (ld_blt I hg hm boot_zip (PyProof.Rows.callWith_type1 (thn (ha pos pins s σ H _ I h) fun us s1 ⟨vs,H1,I1,r1,q1⟩=>?_) hs hs2))
  obtain ⟨l1,l2,b1,b2,xs,ys,e,hx,hy,q⟩:=q1
  subst e
  cases r1 with
  | cons r rr =>
    cases rr with
    | cons r' rr' =>
      cases rr'
      cases r
      cases r'
      obtain ⟨i1,s1',t1⟩:=I1.seqH hx
      obtain ⟨i2,s2',t2⟩:=I1.seqH hy
      refine call_zipB b1 b2 s1' s2' fun h' st k=>?_
      have D:ZipApart (s1.heap.objs.size + 4) (s1.heap.objs.size + 2) (s1.heap.objs.size + 3) s1.heap.objs.size (s1.heap.objs.size + 1) l1 l2:=by constructor <;> first | exact Nat.ne_of_lt (by omega) | exact Nat.ne_of_gt (by omega) | exact Nat.ne_of_lt (Nat.lt_of_lt_of_le t1 (by omega)) | exact Nat.ne_of_lt (Nat.lt_of_lt_of_le t2 (by omega))
      refine wpAny_pyIter_zip (s:={ s1 with heap:=h' }) st.1 ?_
      refine ⟨_,_,_,_,H1,rfl,I1.kept (t':=s1.toks) k,turn_zip D (Nat.ne_of_lt (Nat.lt_of_lt_of_le t1 (by omega))) (Nat.ne_of_lt (Nat.lt_of_lt_of_le t2 (by omega))) b1 b2 xs.length ys.length,st,fun b' hb=>?_,q⟩
      have hb':s1.heap.objs.size<=b':=by
        simp only [List.mem_cons,List.not_mem_nil,or_false] at hb
        rcases hb with rfl | rfl | rfl | rfl | rfl
        all_goals first | exact Nat.le_refl _ | exact Nat.le_add_right _ _
      exact I1.fpOk hb' (I1.hok.fresh hb')
end
end L2
set_option Elab.async false
set_option linter.all false
set_option maxRecDepth 100000
namespace L2
open PySem PySem.Spec PyProof.Rows
section
variable {X:Cx} {Z:ZK} {tg iter:Expr} {body:List Stmt} {wi:TI} {g:TG} {tb:TS} {pos:Pos}
theorem passes_XE (ok:XOk X):PassesOwn (model X.prog X.w) X.A X.env (XE X Z):=by
  rintro e s' ⟨a,C,T,σ',H',rfl,I,F,z⟩
  refine I.note ok F I.ok.frames rfl fun h1 t I1 F1=>?_
  exact I1.cameBack F1 fun h2 I2 F2=>⟨a,C,some t,σ',H',rfl,I2,F2,z⟩
theorem Thr.wished (th:Thr X Z):Thr (X.wish (XE X Z)) Z:=by
  refine ⟨⟨th.top,th.ex⟩,?_⟩
  rintro e s' ⟨a,C,T,σ',H',rfl,I,F,z⟩
  exact ⟨a,C,T,σ',H',rfl,I.unwish,⟨F.fl,F.ow⟩,z⟩
theorem ps_forX (th:Thr X Z) (hc:X.calm=true) (hi:PI (X.wish (XE X Z)) tg iter wi) (hg:PG (X.wish (XE X Z)) tg g) (hb:PSs (X.wish (XE X Z)) body tb)
    (hs:∀ x,foldedSetIterable iter X.env x=pure x:=by intro _; rfl):PS X (.For tg iter body [] pos) (tFor wi g tb):=by
  intro pins s σ H D I h
  refine wpAny_mono (ps_for (X:=X.wish (XE X Z)) (passes_XE th.toXOk) hc hi hg hb hs pins s σ H D (I.wish _) h) (fun f s' q=>q.unwish) fun e s' x=>th.thr e s' x
end
end L2
set_option Elab.async false
set_option linter.all false
set_option maxRecDepth 100000
namespace L2
open PySem PySem.Spec PyProof.Rows
section
variable {X:Cx} {scope:Scope} {NC:List Str} {cap:List (Option Nat)} {elt tg iter:Expr} {ifs:List Expr} {pos pos' spos:Pos} {Z:ZK} {wi:TI} {g:TG} {tf:ZK->TT} {te:ZK->TE} {i:Nat} {x:Str}
theorem ps_setC (hc:X.calm=true) (th:Thr X Z) (hi:PI X tg iter wi) (cok:compOk X.env.scope scope X.N NC cap=true)
    (hg:∀ C s H fp pn xe,PG (compCx X NC scope C s H fp pn xe) tg g)
    (hf:∀ C s H fp pn xe Zc,Thr (compCx X NC scope C s H fp pn xe) Zc->PF (compCx X NC scope C s H fp pn xe) ifs (tf Zc))
    (hb:∀ C s H fp pn xe Zc,Thr (compCx X NC scope C s H fp pn xe) Zc->PE (compCx X NC scope C s H fp pn xe) elt (te Zc))
    (hs:∀ x,foldedSetIterable iter X.env x=pure x) (hN:X.N.Nodup) (hx:X.N[i]?=some x) (hlo:X.env.scope.names.lookup x=some .local)
    (hsw:swapsWith (.ListComp elt [⟨tg,iter,ifs,0⟩] scope pos) (some (.Name x pos')) spos.line X.env=pure true) :
    PS X (.Assign [.Name x pos'] (.ListComp elt [⟨tg,iter,ifs,0⟩] scope pos) spos) (tAsg (tComp Z cap wi g tf te) (gName i)):=by
  intro pins s σ H D I h
  obtain ⟨c1,c2,c3,c4,c5,c6,c7⟩:=compOk_parts cok
  rw [exec_Assign_Name_used _ _ _ _ hsw]
  refine wpAny_bind (wpAny_standAt (wpAny_bind ?_))
  show wpAny _ X.A (do let _ <- comprehension (.ListComp elt [⟨tg,iter,ifs,0⟩] scope pos) scope X.env _ (newList []) false (eval iter X.env) (some (assign (.Name x pos') X.env))) _ _ s
  refine wpAny_bind (wpAny_mono (wpAny_comprehension_free (use:=some (assign (.Name x pos') X.env)) (Q:=fun _ s'=>SP X pins D .next s') rfl hs (closure_of fun y hy e=>I.ok.has y.1 (.inl (c4 y hy e))) c1 c3
    (thn (hi pins s σ H _ I h) fun xv s₁ h₁=>thn h₁ fun itv s₂ h₂=>?_)) (fun _ s' hq=>wpAny_pure (wpAny_pure hq)) fun _ _ e=>e)
  obtain ⟨it,fp,tn,J,H2,rfl,I2,T,st2,f2,W,⟨m0,w0⟩,turn⟩:=h₂
  refine comp_core hc th I2 T st2 f2 cok (fun C pn xe=>hg C s₂ H2 fp pn xe) (fun C pn xe t=>hf C s₂ H2 fp pn xe _ t) (fun C pn xe t=>hb C s₂ H2 fp pn xe _ t) W m0 w0 turn ?_
  rintro C D' s' H' ys us n ⟨hlen,q⟩ rv e hn hnC rfl rfl ⟨m,ns⟩ lv
  have I':Inv X pins σ H' s':=lv s'.heap (Heap.SameBut.refl _ _)
  have I3:Inv X pins σ (upd H' s₂.heap.objs.size (.lst ys)) s':=I'.track (o:=.lst ys) hn (Heap.get?_none_of_le I2.sz) (Nat.ne_of_gt I2.lt) (fun y c ec z=>by
    obtain ⟨v,q⟩:=I2.cell y c ec
    exact absurd q.lt (by rw [z]; exact Nat.lt_irrefl _)) (fun p hp z=>absurd (Heap.lt_size (I2.pin p hp).1) (by rw [z]; exact Nat.lt_irrefl _)) ⟨hlen,us,n,rv,e⟩
  have fC:FpOk X pins (upd H' s₂.heap.objs.size (.lst ys)) (s₂.heap.objs.size + 1):=I2.fpOk (Nat.le_succ _) (by rw [upd_ne (Nat.succ_ne_self _)]; exact hnC)
  show wpAny _ X.A (assign (.Name x pos') X.env (.ref s₂.heap.objs.size)) _ _ _
  refine wpAny_assign_Name (store_ok2 I3 hN hx (.inl hlo) (v:=.ref s₂.heap.objs.size) rfl (fun s'' I4 ⟨a,sb,ha⟩=>?_) (.inr hlo))
  have nC:s₂.heap.objs.size + 1 ≠ a:=by
    rcases ha with rfl | ha
    · exact fC.2.1
    · exact fun z=>fC.2.2.2.2.1 x a ha z.symm
  refine ⟨m,ns.sameBut sb nC,fun h' sb'=>⟨_,_,I4.turned (t':=s''.toks) (fun b o hb e=>(sb'.2 b hb).trans e) fC.1 fC.2.1 fC.2.2.2.1 fC.2.2.2.2.1 fC.2.2.2.2.2,q _ hn⟩⟩
end
end L2
set_option Elab.async false
set_option linter.all false
set_option maxRecDepth 100000
namespace L2
open PySem PySem.Spec PyProof.Rows
noncomputable def Itv (K:PySem.W.Frag) (a:Addr) (n:Nat):It :=
  ⟨fun i H=>i < n /\ ∃ xs,SqL K H a xs /\ xs.length=n,fun i H x H'=>H'=H /\ ∀ xs,SqL K H a xs->xs[n - 1 - i]?=some x,fun i _=>i=n⟩
theorem turn_rev {P:Program} {w:World} {K:PySem.W.Frag} {tg:Expr} (a it:Addr) (n:Nat):Turn P w K tg (Itv K a n) [it] it (fun i h=>h.IsRevIter it a ((n:Int) - 1 - (i:Int))) where
  mem:=by simp
  obj:=fun i h st b hb=>by
    have e:b=it:=by simpa using hb
    subst e
    obtain ⟨o,e,c,d⟩:=st
    exact ⟨o,e,fun v z=>by rw [d] at z; cases z⟩
  keep:=fun i h h' st k=>st.at fun o e=>k it (by simp) o e
  item:=by
    intro X hP hw hK hc i pins s σ H E I hf st hg
    subst hP hw hK
    obtain ⟨hi,xs,hq,hn⟩:=hg
    obtain ⟨its,rv,p,hz⟩:=I.list hq
    have hx:xs[n - 1 - i]?=some (xs[n - 1 - i]'(by omega)):=List.getElem?_eq_getElem _
    obtain ⟨u,hu,ru⟩:=rv.get hx
    obtain ⟨f0,f1,f2,f3,f4,f5⟩:=hf it (by simp)
    have e1:((n:Int) - 1 - (i:Int))=((n - 1 - i:Nat):Int):=by omega
    rw [e1] at st
    refine wpAny_pyNext_rev_item st p.isList (x:=u) (by simpa using hu) fun h' st' sb=>?_
    have I1:Inv X pins σ H { s with heap:=h' }:=I.turned (t':=s.toks) (fun b o hb e=>(sb.2 b hb).trans e) f0 f1 f3 f4 f5
    have e2:((n - 1 - i:Nat):Int) - 1=(n:Int) - 1 - ((i + 1:Nat):Int):=by omega
    rw [e2] at st'
    obtain ⟨o,e,c,d⟩:=id st'
    exact ⟨u,rfl,go_of (s:={ s with heap:=h' }) e c d (by decide) ⟨_,H,I1,ru,⟨rfl,fun ys hy=>by rw [I.list_inj hy hq]; exact hx⟩,st',fun b hb=>(hf b hb).1⟩⟩
  done:=by
    intro X hP hw hK hc i pins s σ H E I hf st hg
    subst hP hw hK
    have hg':i=n:=hg
    subst hg'
    obtain ⟨f0,f1,f2,f3,f4,f5⟩:=hf it (by simp)
    have e1:((i:Int) - 1 - (i:Int))=-1:=by omega
    rw [e1] at st
    exact wpAny_pyNext_rev_end (I.ok.hd hc) st fun h' eb=>⟨rfl,I.turned (t':=s.toks) (fun b o hb e=>eb b o hb e) f0 f1 f3 f4 f5⟩
  self:=fun _ _ _ _ _ st h=>wpAny_pyIter_revIter st h
section
variable {X:Cx} {tg:Expr}
noncomputable def iRev (K:PySem.W.Frag) (ta:TA):TI:=fun σ H R=>ta σ H fun vs H1=>∃ a xs,vs=[.ref a] /\ SqL K H1 a xs /\ R (Itv K a xs.length) H1
theorem pi_rev {a:Expr} {ta:TA} {p pos:Pos} (hg:Gl X "reversed") (hm:X.mg "reversed"=none) (ha:PA X [a] ta) (hs:starEach [a] X.env=[(false,eval a X.env)]):PI X tg (.Call (.Name "reversed" p) [a] [] pos) (iRev X.K ta):=by
  intro pins s σ H R I h
  refine Call_ (ld_blt I hg hm boot_reversed (PyProof.Rows.callWith_type1 (thn (ha pos pins s σ H _ I h) fun us s1 ⟨vs,H1,I1,r1,q1⟩=>?_) hs rfl))
  obtain ⟨b,xs,e,hq,q⟩:=q1
  subst e
  cases r1 with
  | cons r rr =>
    cases rr
    cases r
    obtain ⟨its,rv,pl,hz⟩:=I1.list hq
    refine call_reversed_list pl.isList ?_
    have hl:(its.toArray.size:Int)=(xs.length:Int):=by rw [List.size_toArray,rv.length]
    have it0:(s1.heap.push (revObj b ((its.toArray.size:Int) - 1))).IsRevIter s1.heap.objs.size b ((xs.length:Int) - 1 - ((0:Nat):Int)):=⟨_,Heap.get?_push_size _ rfl,rfl,by rw [hl]; simp [revObj]⟩
    refine wpAny_pyIter_revIter (s:={ s1 with heap:=s1.heap.push (revObj b ((its.toArray.size:Int) - 1)) }) it0 ?_
    refine ⟨s1.heap.objs.size,[s1.heap.objs.size],_,_,H1,rfl,I1.kept (t':=s1.toks) fun b' o e=>Heap.get?_push_of_some _ e,turn_rev b _ xs.length,it0,fun b' hb=>?_,q⟩
    have e:b'=s1.heap.objs.size:=by simpa using hb
    subst e
    exact I1.fpOk (Nat.le_refl _) (I1.hok.fresh (Nat.le_refl _))
end
end L2
set_option Elab.async false
set_option linter.all false
set_option maxRecDepth 100000
namespace L2
open PySem PySem.Spec PyProof.Rows
section
variable {prog:Program} {w:World} {A:Around} {s:Shared} {R:Result->Shared->Prop}
variable {I:Addr} {fp wr:List Addr} {G:Array GenState->Array GenState->Prop} {n:Nat} {P:Nat->Value->Prop} {St:Nat->Shared->Prop}
end
section
variable {prog:Program} {w:World} {A:Around} {E:Value->Shared->Prop} {s:Shared}
variable {X:Cx}
end
end L2
set_option Elab.async false
set_option linter.all false
set_option maxRecDepth 100000
namespace L2
open PySem PySem.Spec PyProof.Rows
end L2
set_option Elab.async false
set_option linter.all false
set_option maxRecDepth 100000
namespace L2
open PySem PySem.Spec PyProof.Rows
noncomputable def IsRvt (h:Heap) (a l:Addr) (i:Int):Prop:=∃ o,h.get? a=some o /\ o.cls=.type "reversed" /\ o.data=.fields #[.ref l,rawInt i]
section
variable {prog:Program} {w:World} {A:Around} {E:Value->Shared->Prop} {s:Shared}
end
section
variable {X:Cx} {tg:Expr}
end
end L2
set_option Elab.async false
set_option linter.all false
set_option maxRecDepth 100000
namespace L2
open PySem PySem.Spec PyProof.Rows
open HT in
theorem tup_all {prog:Program} {w:World} {A:Around} {E:Value->Shared->Prop} {s:Shared} {t sl:Addr} {items:Array Value} {vl vu:Value} {lo hi:Option Int} {Q:Value->Shared->Prop} (ht:IsTup s.heap t items) (hs:s.heap.IsSliceOf sl vl vu .none) (pl:IsPart vl lo) (pu:IsPart vu hi)
    (h1:sIx items.size 0 lo=0) (h2:sIx items.size items.size hi=items.size) (h:Q (.ref t) s):wpAny (model prog w) A (getItem (.ref t) (.ref sl)) Q E s:=by
  obtain ⟨os,hos,hcs,hds⟩:=id hs
  have hTs:s.TypeIs (.ref sl) "slice":=⟨os,hos,hcs⟩
  unfold getItem
  try with_reducible refine wpAny_holding ?_
  first | refine wpAny_bind (wpAny_pure ?_) | skip
  refine wpAny_bind (wpAny_sequenceKey ht.typeIs (by decide) ?_)
  refine wpAny_bind (wpAny_callSpecial?_slot (name:=Str.ofString "__getitem__") ht.typeIs PyProof.Rows.slot_tuple_getitem (wpAny_call_entry PyProof.Rows.slot_tuple_getitem ht.typeIs entry_tuple_getitem ?_ (args_tuple_getitem _ _)))
  show wpAny _ _ (Builtin.Tuple.tupleItemsOf (.ref t) >>= _) _ _ s
  refine wpAny_bind (tupleItemsOf_ ht ?_)
  refine wpAny_bind (wpAny_typeOf hTs ?_)
  rw [if_pos (by decide)]
  refine wpAny_bind (sliceApplied_gen hs pl pu ?_)
  have hy:(((sIx items.size 0 lo:Nat):Int) == 0 && (1:Int) == 1 && (sIx items.size items.size hi - sIx items.size 0 lo) == items.size)=true:=by rw [h1,h2]; simp
  show wpAny _ _ (if (((sIx items.size 0 lo:Nat):Int) == 0 && (1:Int) == 1 && (sIx items.size items.size hi - sIx items.size 0 lo) == items.size)=true then _ else _) _ _ s
  rw [if_pos hy]
  refine wpAny_bind ?_
  unfold Builtin.Tuple.tupleIsExact
  refine wpAny_bind (wpAny_typeOf ht.typeIs (wpAny_pure ?_))
  rw [if_pos (by decide)]
  refine wpAny_bind (wpAny_rule ?_)
  exact wpAny_pure ⟨_,rfl,wpAny_pure h⟩
noncomputable def rSlW (K:PySem.W.Frag):V->Option Int->Option Int->Hp->VK->Prop:=fun x lo hi H Q=>∃ a xs,x=.ref a /\ SqT K H a xs /\ HT.sIx xs.length 0 lo=0 /\ HT.sIx xs.length xs.length hi=xs.length /\ Q (.ref a) H
theorem sl_tupW {X:Cx}:SlR X (rSlW X.K):=by
  intro pins s σ H x v vl vu lo hi sl Q I rx hs pl pu h
  obtain ⟨a,xs,rfl,hx,w1,w2,q⟩:=h
  cases rx
  obtain ⟨its,r,ht,hz⟩:=I.tuple hx
  have hlen:its.toArray.size=xs.length:=by rw [List.size_toArray]; exact r.length.symm
  exact ⟨"tuple",_,PyProof.Rows.slot_tuple_getitem.lookup,ht.typeIs,tup_all ht hs pl pu (by rw [hlen]; exact w1) (by rw [hlen]; exact w2) ⟨.ref a,H,I,rfl,q⟩⟩
end L2
set_option Elab.async false
set_option linter.all false
set_option maxRecDepth 100000
namespace L2
open PySem PySem.Spec PyProof.Rows
section
variable {prog:Program} {w:World} {A:Around} {E:Value->Shared->Prop} {s:Shared}
end
section
variable {prog:Program} {w:World} {A:Around} {R:Result->Shared->Prop} {I:Addr} {fp wr:List Addr} {G:Array GenState->Array GenState->Prop} {n:Nat} {P:Nat->Value->Prop} {St:Nat->Shared->Prop} {K:Type} [DecidableEq K] {knd:KeyKind prog w K}
end
section
variable {prog:Program} {w:World} {A:Around} {E:Value->Shared->Prop} {s:Shared} {K:Type} [DecidableEq K] {knd:KeyKind prog w K}
end
section
variable {X:Cx}
end
section
variable {prog:Program} {w:World} {A:Around} {E:Value->Shared->Prop} {s:Shared}
end
section
variable {X:Cx} {pos:Pos}
end
end L2
set_option Elab.async false
set_option linter.all false
set_option maxRecDepth 100000
namespace L2
open PySem PySem.Spec PyProof.Rows
section
variable {X:Cx}
end
section
variable {prog:Program} {w:World} {A:Around} {E:Value->Shared->Prop} {s:Shared}
end
section
variable {X:Cx} {e st:Expr} {te ts:TE} {p2 pos:Pos}
end
section
variable {X:Cx}
noncomputable def rSlS:V->Option Int->Option Int->Hp->VK->Prop:=fun x lo hi H Q=>∃ z,x=.str z /\ z.length<=sizeLine /\ Q (.str (Txt.slice z lo hi)) H
theorem sl_str:SlR X rSlS:=by
  intro pins s σ H x v vl vu lo hi sl Q I rx hs pl pu h
  obtain ⟨z,rfl,hz,q⟩:=h
  obtain ⟨t,rfl⟩:=rx
  obtain ⟨os,hos,hcs,hds⟩:=hs
  refine ⟨"str",_,F.slot_str_getitem.lookup,typeIs_str _ _ _,?_⟩
  cases pl with
  | none =>
    cases pu with
    | none=>exact wpAny_getItem_str_slice (l:=none) (u:=none) (st:=none) ⟨os,hos,hcs,hds⟩ rfl (post_val_or_str ⟨Nat.le_trans (Txt.slice_le z _ _) hz,fun t' k=>⟨.str _,H,I.tok k,⟨t',rfl⟩,q⟩⟩)
    | int j uj=>exact wpAny_getItem_str_slice (l:=none) (u:=some (j,uj)) (st:=none) ⟨os,hos,hcs,hds⟩ rfl (post_val_or_str ⟨Nat.le_trans (Txt.slice_le z _ _) hz,fun t' k=>⟨.str _,H,I.tok k,⟨t',rfl⟩,q⟩⟩)
  | int i ui =>
    cases pu with
    | none=>exact wpAny_getItem_str_slice (l:=some (i,ui)) (u:=none) (st:=none) ⟨os,hos,hcs,hds⟩ rfl (post_val_or_str ⟨Nat.le_trans (Txt.slice_le z _ _) hz,fun t' k=>⟨.str _,H,I.tok k,⟨t',rfl⟩,q⟩⟩)
    | int j uj=>exact wpAny_getItem_str_slice (l:=some (i,ui)) (u:=some (j,uj)) (st:=none) ⟨os,hos,hcs,hds⟩ rfl (post_val_or_str ⟨Nat.le_trans (Txt.slice_le z _ _) hz,fun t' k=>⟨.str _,H,I.tok k,⟨t',rfl⟩,q⟩⟩)
end
end L2
set_option Elab.async false
set_option linter.all false
set_option maxRecDepth 100000
namespace L2
open PySem PySem.Spec PyProof.Rows
section
variable {X:Cx} {tg:Expr}
end
section
variable {X:Cx}
end
end L2
set_option Elab.async false
set_option linter.all false
set_option maxRecDepth 100000
namespace PI
open PySem L2
inductive D where
  | non | bl (b:Bool) | int (i:Int) | str (x:Str) | tup (xs:List D) | loc (n:Nat) | fl (xs:List D)
inductive O where
  | lst (xs:List D) | dK (kvs:List (Key × D))
noncomputable abbrev Hh:=List O
noncomputable abbrev En:=List (Option D)
inductive Res (α:Type) where
  | ok (a:α) (h:Hh) | exc (c:Nat) (h:Hh) | no
noncomputable def Res.bind {α β:Type} (r:Res α) (f:α->Hh->Res β):Res β:=match r with
  | .ok a h=>f a h
  | .exc c h=>.exc c h
  | .no=>.no
@[simp] theorem bind_ok {α β:Type} {a:α} {h:Hh} {f:α->Hh->Res β}:(Res.ok a h).bind f=f a h:=rfl
@[simp] theorem bind_exc {α β:Type} {c:Nat} {h:Hh} {f:α->Hh->Res β}:(Res.exc c h:Res α).bind f=.exc c h:=rfl
@[simp] theorem bind_no {α β:Type} {f:α->Hh->Res β}:(Res.no:Res α).bind f=.no:=rfl
inductive RS where
  | nx (ρ:En) (h:Hh) | rt (d:D) (h:Hh) | bk (ρ:En) (h:Hh) | ct (ρ:En) (h:Hh) | ex (c:Nat) (ρ:En) (h:Hh) | no
inductive Tg where
  | one (i:Nat) (p:Pos) | tup (is:List (Nat × Pos)) (p:Pos)
inductive M0 where
  | pop
inductive M1 where
  | append
inductive F1 where
  | str | int | all | abs | any
noncomputable def F1.name:F1->Str
  | .str=>"str" | .int=>"int" | .all=>"all" | .abs=>"abs" | .any=>"any"
inductive Cv where
  | tup (xs:List Str) | int (i:Int)
  deriving DecidableEq
inductive Cn where
  | int (i:Int) | str (x:Str) | tup (xs:List Str) | dic (kvs:List (Str × Cv))
  deriving DecidableEq
set_option genInjectivity false
set_option genSizeOf false
mutual
inductive E where
  | non (p:Pos) | bl (b:Bool) (p:Pos) | int (i:Int) (p:Pos) | str (x:Str) (p:Pos)
  | var (i:Nat) (p:Pos)
  | bin (op:Operator) (a b:E) (p:Pos)
  | un (op:UnaryOp) (a:E) (p:Pos)
  | cmp (op:CmpOp) (a b:E) (p:Pos)
  | and (a b:E) (r:Es) (p:Pos)
  | or (a b:E) (r:Es) (p:Pos)
  | ite (c a b:E) (p:Pos)
  | call (f:Nat) (a:E) (r:Es) (p0 p:Pos)
  | len (a:E) (p0 p:Pos)
  | isi (T:Nat) (a:E) (p0 p1 p:Pos)
  | sub (a i:E) (p:Pos)
  | tup (es:Es) (p:Pos)
  | ofL (l:L)
  | tupL (l:L) (p0 p:Pos)
  | tupE (e:E) (p0 p:Pos)
  | listE (e:E) (p0 p:Pos)
  | cut (a:E) (lo hi:Eo) (p2 p:Pos)
  | dic (p:Pos)
  | m0 (m:M0) (o:E) (p1 p:Pos)
  | m1 (m:M1) (o a:E) (p1 p:Pos)
  | c1 (f:F1) (a:E) (p0 p:Pos)
  | cmpN (neg:Bool) (a:E) (p1 p:Pos)
  | split (o a:E) (p1 p:Pos)
  | gcon (x:Str) (c:Cn) (p:Pos)
  | gsub (x:Str) (kvs:List (Str × Cv)) (i:E) (p0 p:Pos)
inductive Es where
  | nil | cons (e:E) (r:Es)
inductive Eo where
  | none | some (e:E)
inductive L where
  | disp (es:Es) (p:Pos)
  | comp (elt:E) (t:Tg) (it:I) (c:Es) (NC:List Str) (cap:List (Option Nat)) (sc:Scope) (p:Pos)
inductive I where
  | seq (e:E) | lst (l:L) | rng (a:E) (p0 p:Pos) | rev (e:E) (p0 p:Pos)
  | zip (a b:E) (p0 p:Pos)
end
structure Rp where
  c:Str
  d:Str
  pa:Pos
  pc:Pos
  pd:Pos
  p:Pos
noncomputable def Rp.py (e:Expr) (r:Rp):Expr:=.Call (.Attribute e "replace" r.pa) [.Constant (.str r.c) 0 r.pc,.Constant (.str r.d) 0 r.pd] [] r.p
noncomputable def repS:List Rp->Str->Option Str
  | [],z=>some z
  | r :: rs,z=>if z.length + (z.length + 1) * r.d.length<=16777216 then repS rs (Txt.replace z r.c r.d) else none
mutual
inductive S where
  | set (i:Nat) (e:E) (p1 p:Pos)
  | ret (e:E) (p:Pos)
  | iff (c:E) (a b:Ss) (p:Pos)
  | ex (e:E) (p:Pos)
  | forr (t:Tg) (it:I) (b:Ss) (p:Pos)
  | raw (st:Stmt)
  | rep (i j:Nat) (p0:Pos) (rs:List Rp) (p1 p:Pos)
inductive Ss where
  | nil | cons (s:S) (r:Ss)
end
set_option genInjectivity true
set_option genSizeOf true
structure Nm where
  N:List Str
  F:List Str
  G:List (Str × Cn):=[]
noncomputable def tyName:Nat->Str
  | 0=>"int" | 1=>"bool" | 2=>"str" | 3=>"tuple" | _=>"list"
noncomputable def tyStr:Nat->String
  | 0=>"int" | 1=>"bool" | 2=>"str" | 3=>"tuple" | _=>"list"
noncomputable def Tg.py (N:List Str):Tg->Expr
  | .one i p=>.Name (N.getD i "") p
  | .tup is p=>.Tuple (is.map fun q=>.Name (N.getD q.1 "") q.2) 0 p
mutual
noncomputable def E.py (n:Nm):E->Expr
  | .non p=>.Constant .none 0 p
  | .bl b p=>.Constant (.bool b) 0 p
  | .int i p=>.Constant (.int i) 0 p
  | .str x p=>.Constant (.str x) 0 p
  | .var i p=>.Name (n.N.getD i "") p
  | .bin op a b p=>.BinOp (a.py n) op (b.py n) p
  | .un op a p=>.UnaryOp op (a.py n) p
  | .cmp op a b p=>.Compare (a.py n) [op] [b.py n] p
  | .and a b r p=>.BoolOp .And (a.py n :: b.py n :: r.py n) p
  | .or a b r p=>.BoolOp .Or (a.py n :: b.py n :: r.py n) p
  | .ite c a b p=>.IfExp (c.py n) (a.py n) (b.py n) p
  | .call f a r p0 p=>.Call (.Name (n.F.getD f "") p0) (a.py n :: r.py n) [] p
  | .len a p0 p=>.Call (.Name "len" p0) [a.py n] [] p
  | .isi T a p0 p1 p=>.Call (.Name "isinstance" p0) [a.py n,.Name (tyName T) p1] [] p
  | .sub a i p=>.Subscript (a.py n) (i.py n) p
  | .tup es p=>.Tuple (es.py n) 0 p
  | .ofL l=>l.py n
  | .tupL l p0 p=>.Call (.Name "tuple" p0) [l.py n] [] p
  | .tupE e p0 p=>.Call (.Name "tuple" p0) [e.py n] [] p
  | .listE e p0 p=>.Call (.Name "list" p0) [e.py n] [] p
  | .cut a lo hi p2 p=>.Subscript (a.py n) (.Slice (lo.py n) (hi.py n) .none p2) p
  | .dic p=>.Dict [] [] p
  | .m0 m o p1 p=>.Call (.Attribute (o.py n) (match m with | .pop=>"pop") p1) [] [] p
  | .m1 m o a p1 p=>.Call (.Attribute (o.py n) (match m with | .append=>"append") p1) [a.py n] [] p
  | .c1 f a p0 p=>.Call (.Name f.name p0) [a.py n] [] p
  | .cmpN neg a p1 p=>.Compare (a.py n) [if neg then .NotEq else .Eq] [.List [] p1] p
  | .split o a p1 p=>.Call (.Attribute (o.py n) "split" p1) [a.py n] [] p
  | .gcon x _ p=>.Name x p
  | .gsub x _ i p0 p=>.Subscript (.Name x p0) (i.py n) p
noncomputable def Eo.py (n:Nm):Eo->Option Expr
  | .none=>.none
  | .some e=>.some (e.py n)
noncomputable def L.py (n:Nm):L->Expr
  | .disp es p=>.List (es.py n) p
  | .comp elt t it c NC cap sc p=>.ListComp (elt.py ⟨NC,n.F,n.G⟩) [⟨t.py NC,it.py n,c.py ⟨NC,n.F,n.G⟩,0⟩] sc p
noncomputable def I.py (n:Nm):I->Expr
  | .seq e=>e.py n
  | .lst l=>l.py n
  | .rng a p0 p=>.Call (.Name "range" p0) [a.py n] [] p
  | .rev e p0 p=>.Call (.Name "reversed" p0) [e.py n] [] p
  | .zip a b p0 p=>.Call (.Name "zip" p0) [a.py n,b.py n] [] p
noncomputable def Es.py (n:Nm):Es->List Expr
  | .nil=>[]
  | .cons e r=>e.py n :: r.py n
end
mutual
noncomputable def S.py (n:Nm):S->Stmt
  | .set i e p1 p=>.Assign [.Name (n.N.getD i "") p1] (e.py n) p
  | .ret e p=>.Return (some (e.py n)) p
  | .iff c a b p=>.If (c.py n) (a.py n) (b.py n) p
  | .ex e p=>.Expr (e.py n) p
  | .forr t it b p=>.For (t.py n.N) (it.py n) (b.py n) [] p
  | .raw st=>st
  | .rep i j p0 rs p1 p=>.Assign [.Name (n.N.getD i "") p1] (rs.foldl Rp.py (.Name (n.N.getD j "") p0)) p
noncomputable def Ss.py (n:Nm):Ss->List Stmt
  | .nil=>[]
  | .cons s r=>s.py n :: r.py n
end
mutual
noncomputable def D.pd (h:Hh):D->Option PyData
  | .non=>some .none
  | .bl b=>some (.bool b)
  | .int i=>some (.int i)
  | .str x=>some (.str x)
  | .tup xs=>(D.pds h xs).map .tuple
  | .loc _=>none
  | .fl xs=>(D.pds h xs).map .list
noncomputable def D.pds (h:Hh):List D->Option (List PyData)
  | []=>some []
  | x :: r=>match D.pd h x,D.pds h r with
    | some a,some b=>some (a :: b)
    | _,_=>none
end
noncomputable def keyD:D->Option Key
  | .int i=>some (.inl i)
  | .str x=>some (.inr x)
  | _=>none
noncomputable def valD (kvs:List (Key × D)) (k:Key):Option D:=(kvs.find? fun kv=>decide (kv.1=k)).map (·.2)
noncomputable def rd (h:Hh) (n:Nat):Option (List D):=match h[n]? with
  | some (.lst xs)=>some xs
  | _=>none
noncomputable def pdT (h:Hh):D->Option PyData
  | .loc n=>(rd h n).bind fun xs=>(D.pds h xs).map .list
  | d=>D.pd h d
noncomputable def isI (h:Hh):D->Nat->Option Bool
  | .non,_=>some false
  | .bl _,T=>some (T == 0 || T == 1)
  | .int _,T=>some (T == 0)
  | .str _,T=>some (T == 2)
  | .tup _,T=>some (T == 3)
  | .loc n,T=>(rd h n).map fun _=>T == 4
  | .fl _,T=>some (T == 4)
noncomputable def fits (i:Int):Bool:=decide (Builtin.Int.intBits i<=2 ^ 20)
noncomputable def eqR (neg:Bool) (u v:Option PyData) (h:Hh):Res D:=match u,v with
  | some u,some v=>if u.canLay0=true /\ v.canLay0=true /\ u.depth<=60 then .ok (.bl (if neg then !PyData.eqv u v else PyData.eqv u v)) h else .no
  | _,_=>.no
noncomputable def i2 (a b:D) (f:Int->Int->Res D):Res D:=match a,b with
  | .int i,.int j=>f i j
  | _,_=>.no
noncomputable def addD (a b:D) (h:Hh):Res D:=match a,b with
  | .int i,.int j=>.ok (.int (i + j)) h
  | .str x,.str y=>if x.length + y.length<=1000000 then .ok (.str (x ++ y)) h else .no
  | .loc n,.loc m=>match h[n]?,h[m]? with
    | some (.lst xs),some (.lst ys)=>if xs.length + ys.length<=1000000 then .ok (.loc h.length) (h ++ [.lst (xs ++ ys)]) else .no
    | _,_=>.no
  | .tup xs,.tup ys=>if xs.length + ys.length<=1000000 then .ok (.tup (xs ++ ys)) h else .no
  | _,_=>.no
noncomputable def mulD (a b:D) (h:Hh):Res D:=match b with
  | .int j=>match a with
    | .int i=>if fits i=true /\ fits j=true then .ok (.int (i * j)) h else .no
    | .str x=>if 0<=j /\ j<=1000 /\ x.length<=1000 then .ok (.str (Txt.mul x j)) h else .no
    | .loc n=>match h[n]? with
      | some (.lst xs)=>if 0<=j /\ j<=1000 /\ xs.length<=1000 then .ok (.loc h.length) (h ++ [.lst (List.replicate j.toNat xs).flatten]) else .no
      | _=>.no
    | _=>.no
  | _=>.no
noncomputable def binD (op:Operator) (a b:D) (h:Hh):Res D:=match op with
  | .Add=>addD a b h
  | .Mult=>mulD a b h
  | .Sub=>i2 a b fun i j=>.ok (.int (i - j)) h
  | .FloorDiv=>i2 a b fun i j=>if 0 < j /\ j < 1073741824 then .ok (.int (i / j)) h else .no
  | .Mod=>i2 a b fun i j=>if 0 < j then .ok (.int (i % j)) h else .no
  | .Pow=>i2 a b fun i j=>if 0<=j /\ j<=1000000 /\ i.natAbs < 2 ^ 64 then .ok (.int (i ^ j.toNat)) h else .no
  | .LShift=>i2 a b fun i j=>if fits i=true /\ 0<=j /\ j<=1000000 then .ok (.int (i * 2 ^ j.toNat)) h else .no
  | .RShift=>i2 a b fun i j=>if 0<=j then .ok (.int (i / 2 ^ j.toNat)) h else .no
  | .BitAnd=>i2 a b fun i j=>.ok (.int (Builtin.bitAnd i j)) h
  | .BitOr=>i2 a b fun i j=>.ok (.int (Builtin.bitOr i j)) h
  | _=>.no
noncomputable def vOf:D->V
  | .bl b=>.bl b
  | .int i=>.int i
  | .str x=>.str x
  | _=>.non
noncomputable def flatD:D->Bool
  | .non | .bl _ | .int _ | .str _=>true
  | _=>false
noncomputable def ngB (neg b:Bool):Bool:=if neg then !b else b
@[simp] theorem ngB_f {b:Bool}:ngB false b=b:=rfl
@[simp] theorem ngB_t {b:Bool}:ngB true b=!b:=rfl
noncomputable def inXs (neg:Bool) (x:D) (ds:List D) (h:Hh):Res D:=if flatD x=true /\ ds.all flatD=true then .ok (.bl (ngB neg (ds.any fun y=>eqV (vOf y) (vOf x)))) h else .no
noncomputable def inD (neg:Bool) (x y:D) (h:Hh):Res D:=match y with
  | .tup ds=>inXs neg x ds h
  | .fl ds=>inXs neg x ds h
  | .loc n=>match h[n]? with
    | some (.lst ds)=>inXs neg x ds h
    | some (.dK kvs)=>(match keyD x with | some k=>.ok (.bl (ngB neg (valD kvs k).isSome)) h | none=>.no)
    | none=>.no
  | .str z=>(match x with | .str u=>.ok (.bl (ngB neg (!(Builtin.Str.occurrences z u 0 z.length 1).isEmpty))) h | _=>.no)
  | _=>.no
noncomputable def isN:D->Bool
  | .non=>true
  | _=>false
noncomputable def isV (neg:Bool) (a b:D) (h:Hh):Res D:=match b with
  | .non=>.ok (.bl (ngB neg (isN a))) h
  | .bl y=>match a with
    | .bl x=>.ok (.bl (ngB neg (x == y))) h
    | _=>.no
  | _=>.no
noncomputable def cmpD (op:CmpOp) (a b:D) (h:Hh):Res D:=match op with
  | .Lt=>i2 a b fun i j=>.ok (.bl (decide (i < j))) h
  | .LtE=>i2 a b fun i j=>.ok (.bl (decide (i<=j))) h
  | .Gt=>i2 a b fun i j=>.ok (.bl (decide (j < i))) h
  | .GtE=>i2 a b fun i j=>.ok (.bl (decide (j<=i))) h
  | .Eq=>eqR false (pdT h a) (pdT h b) h
  | .NotEq=>eqR true (pdT h a) (pdT h b) h
  | .In=>inD false a b h
  | .NotIn=>inD true a b h
  | .Is=>isV false a b h
  | .IsNot=>isV true a b h
noncomputable def unD (op:UnaryOp) (a:D) (h:Hh):Res D:=match op,a with
  | .Not,.bl b=>.ok (.bl (!b)) h
  | .Invert,.int i=>.ok (.int (Builtin.bitNot i)) h
  | .USub,.int i=>.ok (.int (-i)) h
  | _,_=>.no
noncomputable def lenD (a:D) (h:Hh):Res D:=match a with
  | .tup xs=>.ok (.int xs.length) h
  | .loc n=>match rd h n with | some xs=>.ok (.int xs.length) h | none=>.no
  | .str x=>if x.length<=1000000 then .ok (.int x.length) h else .no
  | .fl xs=>.ok (.int xs.length) h
  | _=>.no
noncomputable def subD (a i:D) (h:Hh):Res D:=match a,i with
  | .tup xs,.int k=>match atI xs k with | some d=>.ok d h | none=>.no
  | .fl xs,.int k=>match atI xs k with | some d=>.ok d h | none=>.no
  | .str x,.int k=>if x.length<=1000000 then (match atI x.cps.toList k with | some c=>.ok (.str ⟨#[c]⟩) h | none=>.no) else .no
  | .loc n,y=>match h[n]? with
    | some (.dK kvs)=>match (keyD y).bind (fun k=>valD kvs k) with | some d=>.ok d h | none=>.no
    | some (.lst xs)=>match y with
      | .int k=>match atI xs k with | some d=>.ok d h | none=>.no
      | _=>.no
    | none=>.no
  | _,_=>.no
noncomputable def new (o:O) (h:Hh):Res D:=.ok (.loc h.length) (h ++ [o])
noncomputable def putD (kvs:List (Key × D)) (k:Key) (v:D):List (Key × D):=if (kvs.any fun kv=>decide (kv.1=k))=true then kvs.map (fun kv=>if kv.1=k then (kv.1,v) else kv) else kvs ++ [(k,v)]
noncomputable def onL (x:D) (h:Hh) (r:Res D):Res D:=match x with
  | .loc n=>match h[n]? with
    | some (.lst _)=>r
    | _=>.no
  | _=>.no
noncomputable def m0D (m:M0) (o:D) (h:Hh):Res D:=match o with
  | .loc n=>match h[n]? with
    | some (.lst xs)=>match m with
      | .pop=>match xs.getLast? with | some x=>.ok x (h.set n (.lst xs.dropLast)) | none=>.no
    | _=>.no
  | _=>.no
noncomputable def m1D (m:M1) (o a:D) (h:Hh):Res D:=match o with
  | .loc n=>match h[n]? with
    | some (.lst xs)=>match m with
      | .append=>if xs.length < 1000000 then .ok .non (h.set n (.lst (xs ++ [a]))) else .no
    | _=>.no
  | _=>.no
noncomputable def cutXs (xs:List D) (lo hi:Option Int):List D:=(xs.drop (HT.sIx xs.length 0 lo)).take (HT.sIx xs.length xs.length hi - HT.sIx xs.length 0 lo)
noncomputable def cutD (a:D) (lo hi:Option Int) (h:Hh):Res D:=match a with
  | .loc n=>match rd h n with
    | some xs=>new (.lst (cutXs xs lo hi)) h
    | none=>.no
  | .fl xs=>new (.lst (cutXs xs lo hi)) h
  | .str x=>if x.length<=1000000 then .ok (.str (Txt.slice x lo hi)) h else .no
  | .tup xs=>if HT.sIx xs.length 0 lo=0 /\ HT.sIx xs.length xs.length hi=xs.length then .ok (.tup xs) h else .ok (.tup (cutXs xs lo hi)) h
  | _=>.no
noncomputable def intO (d:D) (h:Hh):Res (Option Int):=match d with | .int i=>.ok (some i) h | _=>.no
noncomputable def seqOf (d:D) (h:Hh):Option (List D):=match d with
  | .tup xs=>some xs
  | .fl xs=>some xs
  | .loc n=>rd h n
  | _=>none
noncomputable abbrev Ck:=List (Nat × List D)
noncomputable def stay (c:Ck) (h:Hh):Prop:=∀ p ∈ c,rd h p.1=some p.2
noncomputable def bindT (t:Tg) (d:D) (ρ:En):Option En:=match t with
  | .one i _=>some (ρ.set i (some d))
  | .tup is _=>match d with
    | .tup xs=>if xs.length=is.length then some ((is.zip xs).foldl (fun ρ q=>ρ.set q.1.1 (some q.2)) ρ) else none
    | _=>none
noncomputable def capE (cap:List (Option Nat)) (ρ:En):En:=cap.map fun o=>o.bind fun i=>(ρ[i]?).bind id
noncomputable def compF (t:Tg) (ρ:En) (c:En->Hh->Res Bool) (e:En->Hh->Res D) (x:D) (h:Hh):Res (Option D):=match bindT t x ρ with
  | some ρ'=>(c ρ' h).bind fun b h1=>if b then (e ρ' h1).bind fun d h2=>.ok (some d) h2 else .ok none h1
  | none=>.no
noncomputable def stepF (t:Tg) (b:En->Hh->RS) (x:D) (ρ:En) (h:Hh):RS:=match bindT t x ρ with
  | some ρ'=>b ρ' h
  | none=>.no
noncomputable def addO (acc:List D):Option D->List D
  | some d=>acc ++ [d]
  | none=>acc
@[simp] theorem addO_some {acc:List D} {d:D}:addO acc (some d)=acc ++ [d]:=rfl
@[simp] theorem addO_none {acc:List D}:addO acc none=acc:=rfl
open Classical in
noncomputable def compL (c:Ck) (f:D->Hh->Res (Option D)):List D->List D->Hh->Res (List D)
  | [],acc,h=>if stay c h then .ok acc h else .no
  | x :: r,acc,h=>if stay c h then (f x h).bind fun o h'=>compL c f r (addO acc o) h' else .no
open Classical in
noncomputable def forL (c:Ck) (f:D->En->Hh->RS):List D->En->Hh->RS
  | [],ρ,h=>if stay c h then .nx ρ h else .no
  | x :: r,ρ,h=>if stay c h then (match f x ρ h with
      | .nx ρ' h'=>forL c f r ρ' h'
      | .ct ρ' h'=>forL c f r ρ' h'
      | .bk ρ' h'=>.nx ρ' h'
      | o=>o) else .no
noncomputable def tru (d:D) (h:Hh) (f:Bool->Hh->Res D):Res D:=match d with
  | .bl b=>f b h
  | _=>.no
noncomputable def blsOf:List D->Option (List Bool)
  | []=>some []
  | .bl b :: r=>(blsOf r).map (b :: ·)
  | _ :: _=>none
noncomputable def c1D (f:F1) (a:D) (h:Hh):Res D:=match f,a with
  | .str,.int i=>if i.natAbs.log2 < 1920 then .ok (.str (toString i)) h else .no
  | .str,.str x=>.ok (.str x) h
  | .int,.int i=>.ok (.int i) h
  | .int,.bl b=>.ok (.int (if b then 1 else 0)) h
  | .int,.str x=>(match PySem.intText? x with | some n=>if x.length<=640 then .ok (.int n) h else .no | none=>.no)
  | .all,.loc n=>(match (rd h n).bind blsOf with | some bs=>.ok (.bl (bs.all id)) h | none=>.no)
  | .abs,.int i=>.ok (.int (if i < 0 then -i else i)) h
  | .any,.loc n=>(match (rd h n).bind blsOf with | some bs=>.ok (.bl (bs.any id)) h | none=>.no)
  | _,_=>.no
noncomputable def onS (x:D) (r:Res D):Res D:=match x with | .str _=>r | _=>.no
noncomputable def splitD (x y:D) (h:Hh):Res D:=match x,y with
  | .str z,.str y=>if (y.length == 0)=false /\ z.length<=1000000 /\ (Builtin.Str.partsBetween z (Builtin.Str.occurrences z y 0 z.length (z.length + 1)) y.length).length<=1000000 /\ (Txt.split z y).length<=1000000 then new (.lst ((Txt.split z y).map .str)) h else .no
  | _,_=>.no
noncomputable def nilD (neg:Bool) (x:D) (h:Hh):Res D:=match x with
  | .fl xs=>.ok (.bl (ngB neg xs.isEmpty)) h
  | .loc n=>(match rd h n with | some xs=>.ok (.bl (ngB neg xs.isEmpty)) h | none=>.no)
  | _=>.no
noncomputable def revD (x:D) (h:Hh):Res (Ck × List D):=match x with
  | .fl xs=>.ok ([],xs.reverse) h
  | .loc n=>(match rd h n with | some xs=>.ok ([(n,xs)],xs.reverse) h | none=>.no)
  | _=>.no
noncomputable def Cv.d:Cv->D
  | .tup xs=>.tup (xs.map .str)
  | .int i=>.int i
noncomputable def cstD (kvs:List (Str × Cv)) (y:D) (h:Hh):Res D:=match y with
  | .str k=>(match kvs.lookup k with | some c=>.ok c.d h | none=>.no)
  | _=>.no
noncomputable def unpD (d:D) (h:Hh):D:=match d with
  | .loc n=>(match rd h n with | some xs=>.tup xs | none=>.non)
  | d=>d
@[simp] theorem unpD_tup {xs:List D} {h:Hh}:unpD (.tup xs) h=.tup xs:=rfl
noncomputable def seqC (x:D) (h:Hh):Option (Ck × List D):=match x with
  | .tup xs=>some ([],xs)
  | .fl xs=>some ([],xs)
  | .loc n=>(rd h n).map fun xs=>([(n,xs)],xs)
  | _=>none
noncomputable def pairT (q:D × D):D:=.tup [q.1,q.2]
noncomputable def zipD (x y:D) (h:Hh):Res (Ck × List D):=match seqC x h with
  | some p=>(match seqC y h with
    | some q=>.ok (p.1 ++ q.1,(p.2.zip q.2).map pairT) h
    | none=>.no)
  | none=>.no
noncomputable section
variable (cl:Nat->List D->Hh->Res D)
mutual
noncomputable def E.ev:E->En->Hh->Res D
  | .non _,_,h=>.ok .non h
  | .bl b _,_,h=>.ok (.bl b) h
  | .int i _,_,h=>.ok (.int i) h
  | .str x _,_,h=>.ok (.str x) h
  | .var i _,ρ,h=>match ρ[i]? with | some (some d)=>.ok d h | _=>.no
  | .bin op a b _,ρ,h=>(a.ev ρ h).bind fun x h1=>(b.ev ρ h1).bind fun y h2=>binD op x y h2
  | .un op a _,ρ,h=>(a.ev ρ h).bind fun x h1=>unD op x h1
  | .cmp op a b _,ρ,h=>(a.ev ρ h).bind fun x h1=>(b.ev ρ h1).bind fun y h2=>cmpD op x y h2
  | .and a b r _,ρ,h=>(a.ev ρ h).bind fun x h1=>tru x h1 fun c h1=>if c then (b.ev ρ h1).bind fun y h2=>r.evAnd ρ y h2 else .ok (.bl false) h1
  | .or a b r _,ρ,h=>(a.ev ρ h).bind fun x h1=>tru x h1 fun c h1=>if c then .ok (.bl true) h1 else (b.ev ρ h1).bind fun y h2=>r.evOr ρ y h2
  | .ite c a b _,ρ,h=>(c.ev ρ h).bind fun x h1=>tru x h1 fun t h1=>if t then a.ev ρ h1 else b.ev ρ h1
  | .call f a r _ _,ρ,h=>(a.ev ρ h).bind fun x h1=>(r.ev ρ h1).bind fun xs h2=>cl f (x :: xs) h2
  | .len a _ _,ρ,h=>(a.ev ρ h).bind fun x h1=>lenD x h1
  | .isi T a _ _ _,ρ,h=>(a.ev ρ h).bind fun x h1=>match isI h1 x T with | some b=>.ok (.bl b) h1 | none=>.no
  | .sub a i _,ρ,h=>(a.ev ρ h).bind fun x h1=>(i.ev ρ h1).bind fun y h2=>subD x y h2
  | .tup es _,ρ,h=>(es.ev ρ h).bind fun xs h1=>if xs.length<=1000 then .ok (.tup xs) h1 else .no
  | .ofL l,ρ,h=>(l.ev ρ h).bind fun xs h1=>new (.lst xs) h1
  | .tupL l _ _,ρ,h=>(l.ev ρ h).bind fun xs h1=>.ok (.tup xs) h1
  | .tupE e _ _,ρ,h=>(e.ev ρ h).bind fun x h1=>match seqOf x h1 with | some xs=>.ok (.tup xs) h1 | none=>.no
  | .listE e _ _,ρ,h=>(e.ev ρ h).bind fun x h1=>match seqOf x h1 with | some xs=>new (.lst xs) h1 | none=>.no
  | .cut a lo hi _ _,ρ,h=>(a.ev ρ h).bind fun x h1=>(lo.ev ρ h1).bind fun l h2=>(hi.ev ρ h2).bind fun u h3=>cutD x l u h3
  | .dic _,_,h=>new (.dK []) h
  | .m0 m o _ _,ρ,h=>(o.ev ρ h).bind fun x h1=>m0D m x h1
  | .m1 m o a _ _,ρ,h=>(o.ev ρ h).bind fun x h1=>onL x h1 ((a.ev ρ h1).bind fun y h2=>m1D m x y h2)
  | .c1 f a _ _,ρ,h=>(a.ev ρ h).bind fun x h1=>c1D f x h1
  | .cmpN neg a _ _,ρ,h=>(a.ev ρ h).bind fun x h1=>nilD neg x h1
  | .split o a _ _,ρ,h=>(o.ev ρ h).bind fun x h1=>onS x ((a.ev ρ h1).bind fun y h2=>splitD x y h2)
  | .gcon _ c _,_,h=>match c with | .int i=>.ok (.int i) h | .str x=>.ok (.str x) h | .tup xs=>.ok (.tup (xs.map .str)) h | .dic _=>.no
  | .gsub _ kvs i _ _,ρ,h=>(i.ev ρ h).bind fun y h1=>cstD kvs y h1
noncomputable def Eo.ev:Eo->En->Hh->Res (Option Int)
  | .none,_,h=>.ok none h
  | .some e,ρ,h=>(e.ev ρ h).bind fun d h1=>intO d h1
noncomputable def L.ev:L->En->Hh->Res (List D)
  | .disp es _,ρ,h=>(es.ev ρ h).bind fun xs h1=>if xs.length<=1000 then .ok xs h1 else .no
  | .comp elt t it c _ cap _ _,ρ,h=>(it.ev ρ h).bind fun q h1=>if q.2.length<=1000000 then compL q.1 (compF t (capE cap ρ) (fun ρ' h2=>c.evC ρ' h2) (fun ρ' h2=>elt.ev ρ' h2)) q.2 [] h1 else .no
noncomputable def I.ev:I->En->Hh->Res (Ck × List D)
  | .seq e,ρ,h=>(e.ev ρ h).bind fun x h1=>match x with
    | .tup xs=>.ok ([],xs) h1
    | .fl xs=>.ok ([],xs) h1
    | .loc n=>match rd h1 n with | some xs=>.ok ([(n,xs)],xs) h1 | none=>.no
    | .str x=>.ok ([],x.cps.toList.map fun c=>.str ⟨#[c]⟩) h1
    | _=>.no
  | .lst l,ρ,h=>(l.ev ρ h).bind fun xs h1=>.ok ([],xs) h1
  | .rng a _ _,ρ,h=>(a.ev ρ h).bind fun x h1=>match x with
    | .int j=>if -1000000<=j /\ j<=1000000 then .ok ([],(List.range j.toNat).map fun k=>.int (k:Nat)) h1 else .no
    | _=>.no
  | .rev e _ _,ρ,h=>(e.ev ρ h).bind fun x h1=>revD x h1
  | .zip a b _ _,ρ,h=>(a.ev ρ h).bind fun x h1=>(b.ev ρ h1).bind fun y h2=>zipD x y h2
noncomputable def Es.evC:Es->En->Hh->Res Bool
  | .nil,_,h=>.ok true h
  | .cons e _,ρ,h=>(e.ev ρ h).bind fun d h1=>match d with | .bl b=>.ok b h1 | _=>.no
noncomputable def Es.ev:Es->En->Hh->Res (List D)
  | .nil,_,h=>.ok [] h
  | .cons e r,ρ,h=>(e.ev ρ h).bind fun x h1=>(r.ev ρ h1).bind fun xs h2=>.ok (x :: xs) h2
noncomputable def Es.evAnd:Es->En->D->Hh->Res D
  | .nil,_,x,h=>.ok x h
  | .cons e r,ρ,x,h=>tru x h fun c h1=>if c then (e.ev ρ h1).bind fun y h2=>r.evAnd ρ y h2 else .ok (.bl false) h1
noncomputable def Es.evOr:Es->En->D->Hh->Res D
  | .nil,_,x,h=>.ok x h
  | .cons e r,ρ,x,h=>tru x h fun c h1=>if c then .ok (.bl true) h1 else (e.ev ρ h1).bind fun y h2=>r.evOr ρ y h2
end
noncomputable def E.evT (e:E) (ρ:En) (h:Hh):Res Bool:=(e.ev cl ρ h).bind fun d h1=>match d with | .bl b=>.ok b h1 | _=>.no
noncomputable def andS {α:Type} (ρ:En) (r:Res α) (f:α->Hh->RS):RS:=match r with
  | .ok a h=>f a h
  | .exc c h=>.ex c ρ h
  | .no=>.no
@[simp] theorem andS_ok {α:Type} {ρ:En} {a:α} {h:Hh} {f:α->Hh->RS}:andS ρ (.ok a h) f=f a h:=rfl
@[simp] theorem andS_exc {α:Type} {ρ:En} {c:Nat} {h:Hh} {f:α->Hh->RS}:andS ρ (.exc c h) f=.ex c ρ h:=rfl
noncomputable def seqS (o:RS) (f:En->Hh->RS):RS:=match o with
  | .nx ρ h=>f ρ h
  | o=>o
@[simp] theorem seqS_nx {ρ:En} {h:Hh} {f:En->Hh->RS}:seqS (.nx ρ h) f=f ρ h:=rfl
@[simp] theorem seqS_rt {d:D} {h:Hh} {f:En->Hh->RS}:seqS (.rt d h) f=.rt d h:=rfl
@[simp] theorem seqS_bk {ρ:En} {h:Hh} {f:En->Hh->RS}:seqS (.bk ρ h) f=.bk ρ h:=rfl
@[simp] theorem seqS_ct {ρ:En} {h:Hh} {f:En->Hh->RS}:seqS (.ct ρ h) f=.ct ρ h:=rfl
@[simp] theorem seqS_ex {c:Nat} {ρ:En} {h:Hh} {f:En->Hh->RS}:seqS (.ex c ρ h) f=.ex c ρ h:=rfl
mutual
noncomputable def S.run:S->En->Hh->RS
  | .set i e _ _,ρ,h=>andS ρ (e.ev cl ρ h) fun d h1=>.nx (ρ.set i (some d)) h1
  | .ret e _,ρ,h=>andS ρ (e.ev cl ρ h) fun d h1=>.rt d h1
  | .iff c a b _,ρ,h=>andS ρ (c.evT cl ρ h) fun t h1=>if t then a.run ρ h1 else b.run ρ h1
  | .ex e _,ρ,h=>andS ρ (e.ev cl ρ h) fun _ h1=>.nx ρ h1
  | .forr t it b _,ρ,h=>andS ρ (it.ev cl ρ h) fun q h1=>forL q.1 (stepF t fun ρ' h'=>b.run ρ' h') q.2 ρ h1
  | .raw _,_,_=>.no
  | .rep i j _ rs _ _,ρ,h=>(match ρ[j]? with | some (some (.str z))=>(match repS rs z with | some z'=>.nx (ρ.set i (some (.str z'))) h | none=>.no) | _=>.no)
noncomputable def Ss.run:Ss->En->Hh->RS
  | .nil,ρ,h=>.nx ρ h
  | .cons s r,ρ,h=>seqS (s.run ρ h) fun ρ' h'=>r.run ρ' h'
end
end
structure Df where
  name:Str
  ps:List Str
  N:List Str
  body:Ss
noncomputable def outR:RS->Res D
  | .rt v h'=>.ok v h'
  | .nx _ h'=>.ok .non h'
  | .ex c _ h'=>.exc c h'
  | _=>.no
noncomputable def Df.run (cl:Nat->List D->Hh->Res D) (d:Df) (as:List D) (h:Hh):Res D :=
  outR (d.body.run cl (as.map some ++ List.replicate (d.N.length - as.length) none) h)
noncomputable def callI (ds:List Df):Nat->Nat->List D->Hh->Res D
  | 0,_,_,_=>.no
  | k + 1,f,as,h=>match ds[f]? with
    | some d=>if as.length=d.ps.length then d.run (callI ds k) as h else .no
    | none=>.no
section
variable {i j:Int} {h:Hh} {x y:Str} {b c:Bool} {d e:D} {xs:List D}
@[simp] theorem bin_add:binD .Add (.int i) (.int j) h=.ok (.int (i + j)) h:=rfl
@[simp] theorem bin_sub:binD .Sub (.int i) (.int j) h=.ok (.int (i - j)) h:=rfl
@[simp] theorem bin_mul:binD .Mult (.int i) (.int j) h=if fits i=true /\ fits j=true then .ok (.int (i * j)) h else .no:=rfl
@[simp] theorem bin_fdiv:binD .FloorDiv (.int i) (.int j) h=if 0 < j /\ j < 1073741824 then .ok (.int (i / j)) h else .no:=rfl
@[simp] theorem bin_mod:binD .Mod (.int i) (.int j) h=if 0 < j then .ok (.int (i % j)) h else .no:=rfl
@[simp] theorem bin_pow:binD .Pow (.int i) (.int j) h=if 0<=j /\ j<=1000000 /\ i.natAbs < 2 ^ 64 then .ok (.int (i ^ j.toNat)) h else .no:=rfl
@[simp] theorem bin_shl:binD .LShift (.int i) (.int j) h=if fits i=true /\ 0<=j /\ j<=1000000 then .ok (.int (i * 2 ^ j.toNat)) h else .no:=rfl
@[simp] theorem bin_shr:binD .RShift (.int i) (.int j) h=if 0<=j then .ok (.int (i / 2 ^ j.toNat)) h else .no:=rfl
@[simp] theorem bin_and:binD .BitAnd (.int i) (.int j) h=.ok (.int (Builtin.bitAnd i j)) h:=rfl
@[simp] theorem bin_or:binD .BitOr (.int i) (.int j) h=.ok (.int (Builtin.bitOr i j)) h:=rfl
@[simp] theorem bin_adds:binD .Add (.str x) (.str y) h=if x.length + y.length<=1000000 then .ok (.str (x ++ y)) h else .no:=rfl
@[simp] theorem cmp_lt:cmpD .Lt (.int i) (.int j) h=.ok (.bl (decide (i < j))) h:=rfl
@[simp] theorem cmp_le:cmpD .LtE (.int i) (.int j) h=.ok (.bl (decide (i<=j))) h:=rfl
@[simp] theorem cmp_gt:cmpD .Gt (.int i) (.int j) h=.ok (.bl (decide (j < i))) h:=rfl
@[simp] theorem cmp_ge:cmpD .GtE (.int i) (.int j) h=.ok (.bl (decide (j<=i))) h:=rfl
@[simp] theorem cmp_eq:cmpD .Eq d e h=eqR false (pdT h d) (pdT h e) h:=rfl
@[simp] theorem cmp_ne:cmpD .NotEq d e h=eqR true (pdT h d) (pdT h e) h:=rfl
@[simp] theorem cmp_in:cmpD .In d e h=inD false d e h:=rfl
@[simp] theorem cmp_notin:cmpD .NotIn d e h=inD true d e h:=rfl
theorem in_strs {neg:Bool} {ys:List Str}:inXs neg (.str x) (ys.map .str) h=.ok (.bl (ngB neg (ys.any fun y=>y == x))) h:=by
  unfold inXs
  rw [if_pos ⟨rfl,by simp [flatD]⟩,List.any_map]
  rfl
@[simp] theorem cmp_isN:cmpD .Is d .non h=.ok (.bl (match d with | .non=>true | _=>false)) h:=by cases d <;> rfl
@[simp] theorem cmp_isnotN:cmpD .IsNot d .non h=.ok (.bl (match d with | .non=>false | _=>true)) h:=by cases d <;> rfl
@[simp] theorem cmp_is:cmpD .Is (.bl b) (.bl c) h=.ok (.bl (b == c)) h:=rfl
@[simp] theorem cmp_isnot:cmpD .IsNot (.bl b) (.bl c) h=.ok (.bl (!(b == c))) h:=rfl
@[simp] theorem eqR_some {neg:Bool} {u v:PyData}:eqR neg (some u) (some v) h=if u.canLay0=true /\ v.canLay0=true /\ u.depth<=60 then .ok (.bl (if neg then !PyData.eqv u v else PyData.eqv u v)) h else .no:=rfl
@[simp] theorem pdT_non:pdT h .non=some .none:=by unfold pdT D.pd; rfl
@[simp] theorem pdT_bl:pdT h (.bl b)=some (.bool b):=by unfold pdT D.pd; rfl
@[simp] theorem pdT_int:pdT h (.int i)=some (.int i):=by unfold pdT D.pd; rfl
@[simp] theorem pdT_str:pdT h (.str x)=some (.str x):=by unfold pdT D.pd; rfl
@[simp] theorem pdT_tup:pdT h (.tup xs)=(D.pds h xs).map .tuple:=by unfold pdT D.pd; rfl
@[simp] theorem pdT_loc {n:Nat}:pdT h (.loc n)=(rd h n).bind fun xs=>(D.pds h xs).map .list:=rfl
@[simp] theorem pds_nil:D.pds h []=some []:=by unfold D.pds; rfl
@[simp] theorem un_not:unD .Not (.bl b) h=.ok (.bl (!b)) h:=rfl
@[simp] theorem un_invert:unD .Invert (.int i) h=.ok (.int (Builtin.bitNot i)) h:=rfl
@[simp] theorem un_usub:unD .USub (.int i) h=.ok (.int (-i)) h:=rfl
@[simp] theorem pdT_fl:pdT h (.fl xs)=(D.pds h xs).map .list:=by unfold pdT D.pd; rfl
@[simp] theorem len_fl:lenD (.fl xs) h=.ok (.int xs.length) h:=rfl
@[simp] theorem sub_fl:subD (.fl xs) (.int i) h=match atI xs i with | some d=>.ok d h | none=>.no:=rfl
@[simp] theorem len_tup:lenD (.tup xs) h=.ok (.int xs.length) h:=rfl
@[simp] theorem len_loc {n:Nat}:lenD (.loc n) h=match rd h n with | some xs=>.ok (.int xs.length) h | none=>.no:=rfl
@[simp] theorem len_str:lenD (.str x) h=if x.length<=1000000 then .ok (.int x.length) h else .no:=rfl
@[simp] theorem sub_tup:subD (.tup xs) (.int i) h=match atI xs i with | some d=>.ok d h | none=>.no:=rfl
@[simp] theorem bin_muls:binD .Mult (.str x) (.int j) h=if 0<=j /\ j<=1000 /\ x.length<=1000 then .ok (.str (Txt.mul x j)) h else .no:=rfl
@[simp] theorem bin_addt {ys:List D}:binD .Add (.tup xs) (.tup ys) h=if xs.length + ys.length<=1000000 then .ok (.tup (xs ++ ys)) h else .no:=rfl
@[simp] theorem bin_addl {n m:Nat}:binD .Add (.loc n) (.loc m) h=(match h[n]?,h[m]? with
    | some (.lst xs),some (.lst ys)=>if xs.length + ys.length<=1000000 then .ok (.loc h.length) (h ++ [.lst (xs ++ ys)]) else .no
    | _,_=>.no):=rfl
theorem sub_str:subD (.str x) (.int i) h=if x.length<=1000000 then (match atI x.cps.toList i with | some c=>.ok (.str ⟨#[c]⟩) h | none=>.no) else .no:=rfl
theorem sub_loc {n:Nat} {y:D}:subD (.loc n) y h=(match h[n]? with
    | some (.dK kvs)=>match (keyD y).bind (fun k=>valD kvs k) with | some d=>.ok d h | none=>.no
    | some (.lst xs)=>match y with
      | .int k=>match atI xs k with | some d=>.ok d h | none=>.no
      | _=>.no
    | none=>.no):=rfl
@[simp] theorem tru_bl {f:Bool->Hh->Res D}:tru (.bl b) h f=f b h:=rfl
end
theorem callI_succ {ds:List Df} {k i:Nat} {d:Df} {as:List D} {h:Hh} (hd:ds[i]?=some d) (hl:as.length=d.ps.length):callI ds (k + 1) i as h=d.run (callI ds k) as h:=by
  unfold callI; rw [hd]; exact if_pos hl
theorem len0 {α:Type} {P:List α->Prop} (f:P []) (us:List α) (hl:us.length=0):P us:=by
  cases us with
  | nil=>exact f
  | cons=>cases hl
theorem lenS {α:Type} {n:Nat} {P:List α->Prop} (f:∀ a us,us.length=n->P (a :: us)) (us:List α) (hl:us.length=n + 1):P us:=by
  cases us with
  | nil=>cases hl
  | cons a r=>exact f a r (Nat.succ.inj hl)
theorem len1 {α:Type} {P:List α->Prop} (f:∀ a,P [a]):∀ us:List α,us.length=1->P us:=lenS fun a=>len0 (P:=fun us=>P (a :: us)) (f a)
theorem len2 {α:Type} {P:List α->Prop} (f:∀ a b,P [a,b]):∀ us:List α,us.length=2->P us:=lenS fun a=>len1 (P:=fun us=>P (a :: us)) (f a)
theorem len3 {α:Type} {P:List α->Prop} (f:∀ a b c,P [a,b,c]):∀ us:List α,us.length=3->P us:=lenS fun a=>len2 (P:=fun us=>P (a :: us)) (f a)
end PI
set_option Elab.async false
set_option linter.all false
set_option maxRecDepth 100000
namespace PI
open PySem L2
noncomputable def Fz (K:PySem.W.Frag) (H:Hp) (a:Addr) (vs:List V):Prop:=(∃ o,H a=some (.frz o (.lst vs))) \/ ∀ H',SqL K H' a vs
theorem Fz.sq {K:PySem.W.Frag} {H:Hp} {a:Addr} {vs:List V} (h:Fz K H a vs):SqL K H a vs:=h.elim (fun ⟨o,q⟩=>.inl (.inr ⟨o,q⟩)) fun q=>q H
mutual
inductive Rep (K:PySem.W.Frag) (μ:List Addr) (H:Hp):D->V->Prop
  | non:Rep K μ H .non .non
  | bl (b:Bool):Rep K μ H (.bl b) (.bl b)
  | int (i:Int):Rep K μ H (.int i) (.int i)
  | str (x:Str):Rep K μ H (.str x) (.str x)
  | tup {ds:List D} {vs:List V} {a:Addr}:SqT K H a vs->Reps K μ H ds vs->Rep K μ H (.tup ds) (.ref a)
  | loc {n:Nat} {a:Addr}:μ[n]?=some a->Rep K μ H (.loc n) (.ref a)
  | fl {ds:List D} {vs:List V} {a:Addr}:Fz K H a vs->Reps K μ H ds vs->Rep K μ H (.fl ds) (.ref a)
inductive Reps (K:PySem.W.Frag) (μ:List Addr) (H:Hp):List D->List V->Prop
  | nil:Reps K μ H [] []
  | cons {d:D} {v:V} {ds:List D} {vs:List V}:Rep K μ H d v->Reps K μ H ds vs->Reps K μ H (d :: ds) (v :: vs)
end
structure Ext (K:PySem.W.Frag) (μ:List Addr) (H:Hp) (μ':List Addr) (H':Hp):Prop where
  loc:∀ (n:Nat) a,μ[n]?=some a->μ'[n]?=some a
  tup:∀ a xs,SqT K H a xs->SqT K H' a xs
  fz:∀ a xs,Fz K H a xs->Fz K H' a xs
  oth:∀ a o,H a=some o->a ∉ μ->H' a=some o
  new:∀ a,a ∈ μ'->a ∈ μ \/ H a=none
theorem Ext.refl {K:PySem.W.Frag} {μ:List Addr} {H:Hp}:Ext K μ H μ H:=⟨fun _ _ h=>h,fun _ _ h=>h,fun _ _ h=>h,fun _ _ h _=>h,fun _ h=>.inl h⟩
theorem Ext.sub {K:PySem.W.Frag} {μ μ1:List Addr} {H H1:Hp} (a:Ext K μ H μ1 H1) {x:Addr} (h:x ∈ μ):x ∈ μ1:=by
  obtain ⟨n,hn⟩:=List.getElem?_of_mem h
  exact List.mem_of_getElem? (a.loc n x hn)
theorem Ext.apart {K:PySem.W.Frag} {μ μ1:List Addr} {H H1:Hp} (a:Ext K μ H μ1 H1) {x:Addr} {o:HO} (h:H x=some o) (n:x ∉ μ):x ∉ μ1:=fun z=>by
  rcases a.new x z with q | q
  · exact n q
  · rw [h] at q; cases q
theorem Ext.trans {K:PySem.W.Frag} {μ μ1 μ2:List Addr} {H H1 H2:Hp} (a:Ext K μ H μ1 H1) (b:Ext K μ1 H1 μ2 H2):Ext K μ H μ2 H2:=by
  refine ⟨fun n x h=>b.loc n x (a.loc n x h),fun x y h=>b.tup x y (a.tup x y h),fun x y h=>b.fz x y (a.fz x y h),fun x o h n=>b.oth x o (a.oth x o h n) (a.apart h n),fun x h=>?_⟩
  rcases b.new x h with z | z
  · exact a.new x z
  · by_cases hx:x ∈ μ
    · exact .inl hx
    · right
      cases e:H x with
      | none=>rfl
      | some o=>rw [a.oth x o e hx] at z; cases z
mutual
theorem Rep.mono {K:PySem.W.Frag} {μ μ':List Addr} {H H':Hp} (e:Ext K μ H μ' H'):∀ {d:D} {v:V},Rep K μ H d v->Rep K μ' H' d v
  | _,_,.non=>.non
  | _,_,.bl b=>.bl b
  | _,_,.int i=>.int i
  | _,_,.str x=>.str x
  | _,_,.tup h r=>.tup (e.tup _ _ h) (Reps.mono e r)
  | _,_,.loc h=>.loc (e.loc _ _ h)
  | _,_,.fl h r=>.fl (e.fz _ _ h) (Reps.mono e r)
theorem Reps.mono {K:PySem.W.Frag} {μ μ':List Addr} {H H':Hp} (e:Ext K μ H μ' H'):∀ {ds:List D} {vs:List V},Reps K μ H ds vs->Reps K μ' H' ds vs
  | _,_,.nil=>.nil
  | _,_,.cons h r=>.cons (Rep.mono e h) (Reps.mono e r)
end
mutual
theorem Rep.mono' {K:PySem.W.Frag} {μ μ':List Addr} {H:Hp} (e:∀ (n:Nat) a,μ[n]?=some a->μ'[n]?=some a):∀ {d:D} {v:V},Rep K μ H d v->Rep K μ' H d v
  | _,_,.non=>.non
  | _,_,.bl b=>.bl b
  | _,_,.int i=>.int i
  | _,_,.str x=>.str x
  | _,_,.tup h r=>.tup h (Reps.mono' e r)
  | _,_,.loc h=>.loc (e _ _ h)
  | _,_,.fl h r=>.fl h (Reps.mono' e r)
theorem Reps.mono' {K:PySem.W.Frag} {μ μ':List Addr} {H:Hp} (e:∀ (n:Nat) a,μ[n]?=some a->μ'[n]?=some a):∀ {ds:List D} {vs:List V},Reps K μ H ds vs->Reps K μ' H ds vs
  | _,_,.nil=>.nil
  | _,_,.cons h r=>.cons (Rep.mono' e h) (Reps.mono' e r)
end
theorem Reps.length {K:PySem.W.Frag} {μ:List Addr} {H:Hp}:∀ {ds:List D} {vs:List V},Reps K μ H ds vs->ds.length=vs.length
  | _,_,.nil=>rfl
  | _,_,.cons _ r=>by rw [List.length_cons,List.length_cons,r.length]
theorem Reps.get {K:PySem.W.Frag} {μ:List Addr} {H:Hp}:∀ {ds:List D} {vs:List V} {i:Nat} {d:D},Reps K μ H ds vs->ds[i]?=some d->∃ v,vs[i]?=some v /\ Rep K μ H d v
  | _,_,_,_,.nil,e=>by simp at e
  | _,_,0,_,.cons h _,e=>by simp at e; subst e; exact ⟨_,rfl,h⟩
  | _,_,i + 1,d,.cons _ r,e=>by
    obtain ⟨v,h1,h2⟩:=Reps.get (i:=i) (d:=d) r (by simpa using e)
    exact ⟨v,by simpa using h1,h2⟩
theorem Reps.append {K:PySem.W.Frag} {μ:List Addr} {H:Hp}:∀ {ds es:List D} {vs ws:List V},Reps K μ H ds vs->Reps K μ H es ws->Reps K μ H (ds ++ es) (vs ++ ws)
  | _,_,_,_,.nil,r=>r
  | _,_,_,_,.cons h t,r=>.cons h (t.append r)
theorem Reps.atI {K:PySem.W.Frag} {μ:List Addr} {H:Hp} {ds:List D} {vs:List V} {k:Int} {d:D} (r:Reps K μ H ds vs) (e:L2.atI ds k=some d):∃ v,L2.atI vs k=some v /\ Rep K μ H d v:=by
  unfold L2.atI at e ⊢
  rw [<- r.length]
  cases h:ixN ds.length k with
  | none=>rw [h] at e; cases e
  | some j =>
    rw [h] at e
    exact r.get e
inductive RepKs (K:PySem.W.Frag) (μ:List Addr) (H:Hp):List (Key × D)->List (Key × V)->Prop
  | nil:RepKs K μ H [] []
  | cons {k:Key} {d:D} {v:V} {ds:List (Key × D)} {vs:List (Key × V)}:Rep K μ H d v->RepKs K μ H ds vs->RepKs K μ H ((k,d) :: ds) ((k,v) :: vs)
theorem RepKs.mono {K:PySem.W.Frag} {μ μ':List Addr} {H H':Hp} (e:Ext K μ H μ' H'):∀ {ds:List (Key × D)} {vs:List (Key × V)},RepKs K μ H ds vs->RepKs K μ' H' ds vs
  | _,_,.nil=>.nil
  | _,_,.cons h r=>.cons (h.mono e) (r.mono e)
noncomputable def RepO (K:PySem.W.Frag) (μ:List Addr) (H:Hp) (a:Addr):O->Prop
  | .lst ds=>∃ vs,H a=some (.lst vs) /\ Reps K μ H ds vs
  | .dK kvs=>∃ vs,H a=some (.dK vs) /\ RepKs K μ H kvs vs
theorem RepKs.mono' {K:PySem.W.Frag} {μ μ':List Addr} {H:Hp} (e:∀ (n:Nat) a,μ[n]?=some a->μ'[n]?=some a):∀ {ds:List (Key × D)} {vs:List (Key × V)},RepKs K μ H ds vs->RepKs K μ' H ds vs
  | _,_,.nil=>.nil
  | _,_,.cons h r=>.cons (h.mono' e) (r.mono' e)
theorem RepO.mono' {K:PySem.W.Frag} {μ μ':List Addr} {H:Hp} {a:Addr} {o:O} (e:∀ (n:Nat) a,μ[n]?=some a->μ'[n]?=some a) (r:RepO K μ H a o):RepO K μ' H a o:=by
  cases o with
  | lst ds=>obtain ⟨vs,q,r⟩:=r; exact ⟨vs,q,r.mono' e⟩
  | dK ds=>obtain ⟨vs,q,r⟩:=r; exact ⟨vs,q,r.mono' e⟩
structure HR (K:PySem.W.Frag) (μ:List Addr) (h:Hh) (H:Hp):Prop where
  len:μ.length=h.length
  inj:∀ (n m:Nat) (a:Addr),μ[n]?=some a->μ[m]?=some a->n=m
  obj:∀ (n:Nat) (a:Addr) (o:O),μ[n]?=some a->h[n]?=some o->RepO K μ H a o
theorem HR.fresh {K:PySem.W.Frag} {μ:List Addr} {h:Hh} {H:Hp} (r:HR K μ h H) {p:Addr} (hp:H p=none):p ∉ μ:=fun z=>by
  obtain ⟨n,hn⟩:=List.getElem?_of_mem z
  have hl:n < h.length:=by rw [<- r.len]; exact (List.getElem?_eq_some_iff.mp hn).1
  have:=r.obj n p h[n] hn (List.getElem?_eq_getElem hl)
  cases e:h[n] with
  | lst ds=>rw [e] at this; obtain ⟨vs,q,_⟩:=this; rw [hp] at q; cases q
  | dK ds=>rw [e] at this; obtain ⟨vs,q,_⟩:=this; rw [hp] at q; cases q
theorem ext_new {K:PySem.W.Frag} {μ:List Addr} {H:Hp} {p:Addr} {u:HO} (hp:H p=none):Ext K μ H μ (upd H p u) :=
  ⟨fun _ _ h=>h,fun a xs h=>by
    rcases h with h | h
    · left
      rcases h with h | ⟨o,h⟩
      · exact .inl (by rw [upd_ne (fun z=>by rw [z,hp] at h; cases h)]; exact h)
      · exact .inr ⟨o,by rw [upd_ne (fun z=>by rw [z,hp] at h; cases h)]; exact h⟩
    · exact .inr h,fun a xs h=>by
    rcases h with ⟨o,h⟩ | h
    · exact .inl ⟨o,by rw [upd_ne (fun z=>by rw [z,hp] at h; cases h)]; exact h⟩
    · exact .inr h,fun a o h _=>by rw [upd_ne (fun z=>by rw [z,hp] at h; cases h)]; exact h,fun _ h=>.inl h⟩
theorem Ext.add {K:PySem.W.Frag} {μ μ':List Addr} {H H':Hp} {p:Addr} (e:Ext K μ H μ' H') (hp:H p=none):Ext K μ H (μ' ++ [p]) H' :=
  ⟨fun n a h=>by rw [List.getElem?_append_left (List.getElem?_eq_some_iff.mp (e.loc n a h)).1]; exact e.loc n a h,e.tup,e.fz,e.oth,
    fun a h=>by
      rcases List.mem_append.mp h with h | h
      · exact e.new a h
      · rw [List.mem_singleton.mp h]; exact .inr hp⟩
theorem RepO.keep {K:PySem.W.Frag} {μ μ':List Addr} {H H':Hp} {a:Addr} {o:O} (e:Ext K μ H μ' H') (k:∀ u,H a=some u->H' a=some u) (r:RepO K μ H a o):RepO K μ' H' a o:=by
  cases o with
  | lst ds=>obtain ⟨vs,q,r⟩:=r; exact ⟨vs,k _ q,r.mono e⟩
  | dK ds=>obtain ⟨vs,q,r⟩:=r; exact ⟨vs,k _ q,r.mono e⟩
theorem keep_new {H:Hp} {p a:Addr} {u w:HO} (hp:H p=none) (h:H a=some w):upd H p u a=some w:=by
  rw [upd_ne (fun z=>by rw [z,hp] at h; cases h)]; exact h
theorem HR.tup {K:PySem.W.Frag} {μ:List Addr} {h:Hh} {H:Hp} {p:Addr} {u:HO} (r:HR K μ h H) (hp:H p=none):HR K μ h (upd H p u) :=
  ⟨r.len,r.inj,fun n a o e1 e2=>(r.obj n a o e1 e2).keep (ext_new hp) fun _ q=>keep_new hp q⟩
theorem HR.add {K:PySem.W.Frag} {μ:List Addr} {h:Hh} {H:Hp} {p:Addr} {o:O} (r:HR K μ h H) (hp:p ∉ μ) (q:∀ μ',(∀ (n:Nat) a,μ[n]?=some a->μ'[n]?=some a)->RepO K μ' H p o):HR K (μ ++ [p]) (h ++ [o]) H:=by
  have gr:∀ (n:Nat) a,μ[n]?=some a->(μ ++ [p])[n]?=some a:=fun n a e=>by rw [List.getElem?_append_left (List.getElem?_eq_some_iff.mp e).1]; exact e
  refine ⟨by rw [List.length_append,List.length_append,r.len]; rfl,fun n m a e1 e2=>?_,fun n a o1 e1 e2=>?_⟩
  · have key:∀ (n:Nat) (a:Addr),(μ ++ [p])[n]?=some a->(n < μ.length /\ μ[n]?=some a) \/ (n=μ.length /\ a=p):=fun n a e=>by
      by_cases hn:n < μ.length
      · rw [List.getElem?_append_left hn] at e; exact .inl ⟨hn,e⟩
      · right
        rw [List.getElem?_append_right (by omega)] at e
        have:n - μ.length=0:=by
          cases q:n - μ.length with
          | zero=>rfl
          | succ z=>rw [q] at e; simp at e
        rw [this] at e
        simp at e
        exact ⟨by omega,e.symm⟩
    rcases key n a e1 with ⟨hn,q1⟩ | ⟨hn,q1⟩ <;> rcases key m a e2 with ⟨hm,q2⟩ | ⟨hm,q2⟩
    · exact r.inj n m a q1 q2
    · exact absurd (List.mem_of_getElem? q1) (q2 ▸ hp)
    · exact absurd (List.mem_of_getElem? q2) (q1 ▸ hp)
    · omega
  · by_cases hn:n < μ.length
    · rw [List.getElem?_append_left hn] at e1
      rw [List.getElem?_append_left (by rw [<- r.len]; exact hn)] at e2
      exact (r.obj n a o1 e1 e2).mono' gr
    · rw [List.getElem?_append_right (by omega)] at e1
      have hz:n - μ.length=0:=by
        cases z:n - μ.length with
        | zero=>rfl
        | succ y=>rw [z] at e1; simp at e1
      rw [hz] at e1
      simp at e1
      subst e1
      rw [List.getElem?_append_right (by rw [<- r.len]; omega),<- r.len,hz] at e2
      simp at e2
      subst e2
      exact q _ gr
theorem HR.alloc {K:PySem.W.Frag} {μ:List Addr} {h:Hh} {H:Hp} {p:Addr} {u:HO} {o:O} (r:HR K μ h H) (hp:H p=none) (hm:p ∉ μ) (q:∀ μ',(∀ (n:Nat) a,μ[n]?=some a->μ'[n]?=some a)->RepO K μ' (upd H p u) p o):HR K (μ ++ [p]) (h ++ [o]) (upd H p u) :=
  (r.tup hp).add hm q
theorem HR.chg {K:PySem.W.Frag} {μ:List Addr} {h:Hh} {H:Hp} {n:Nat} {a:Addr} {o o':O} {u:HO} (r:HR K μ h H) (hn:h[n]?=some o) (ha:μ[n]?=some a)
    (q:∀ H',Ext K μ H μ H'->H' a=some u->RepO K μ H' a o'):HR K μ (h.set n o') (upd H a u) /\ Ext K μ H μ (upd H a u):=by
  obtain ⟨w,hw,nt,nf⟩:∃ w,H a=some w /\ (∀ xs,w ≠ .tup xs) /\ ∀ o x,w ≠ .frz o x:=by
    have z:=r.obj n a o ha hn
    cases o with
    | lst ds=>obtain ⟨vs,e,_⟩:=z; exact ⟨_,e,fun _ y=>(nomatch y),fun _ _ y=>(nomatch y)⟩
    | dK ds=>obtain ⟨vs,e,_⟩:=z; exact ⟨_,e,fun _ y=>(nomatch y),fun _ _ y=>(nomatch y)⟩
  have ht:∀ b xs,SqT K H b xs->SqT K (upd H a u) b xs:=fun b xs z=>by
    rcases z with z | z
    · left
      rcases z with z | ⟨ob,z⟩
      · exact .inl (by rw [upd_ne (fun y=>by rw [y,hw] at z; exact nt _ (Option.some.inj z))]; exact z)
      · exact .inr ⟨ob,by rw [upd_ne (fun y=>by rw [y,hw] at z; exact nf _ _ (Option.some.inj z))]; exact z⟩
    · exact .inr z
  have hf:∀ b xs,Fz K H b xs->Fz K (upd H a u) b xs:=fun b xs z=>by
    rcases z with ⟨ob,z⟩ | z
    · exact .inl ⟨ob,by rw [upd_ne (fun y=>by rw [y,hw] at z; exact nf _ _ (Option.some.inj z))]; exact z⟩
    · exact .inr z
  have ex:Ext K μ H μ (upd H a u):=⟨fun _ _ z=>z,ht,hf,fun b v e z=>by rw [upd_ne (fun (y:b=a)=>z (by rw [y]; exact List.mem_of_getElem? ha))]; exact e,fun _ z=>.inl z⟩
  have hl:n < h.length:=(List.getElem?_eq_some_iff.mp hn).1
  refine ⟨⟨by rw [List.length_set]; exact r.len,r.inj,fun m b v e1 e2=>?_⟩,ex⟩
  by_cases hmn:m=n
  · subst hmn
    rw [List.getElem?_set_self hl] at e2
    cases e2
    rw [ha] at e1
    cases e1
    exact q _ ex upd_same
  · rw [List.getElem?_set_ne (Ne.symm hmn)] at e2
    have nb:b ≠ a:=fun y=>hmn (r.inj m n a (y ▸ e1) ha)
    exact (r.obj m b v e1 e2).keep ex fun _ g=>by rw [upd_ne nb]; exact g
structure ER (K:PySem.W.Frag) (μ:List Addr) (ρ:En) (σ:St) (H:Hp):Prop where
  len:ρ.length=σ.length
  val:∀ (i:Nat) d,ρ[i]?=some (some d)->∃ v,σ[i]?=some (some v) /\ Rep K μ H d v
theorem ER.mono {K:PySem.W.Frag} {μ μ':List Addr} {H H':Hp} {ρ:En} {σ:St} (r:ER K μ ρ σ H) (e:Ext K μ H μ' H'):ER K μ' ρ σ H' :=
  ⟨r.len,fun i d h=>let ⟨v,a,b⟩:=r.val i d h; ⟨v,a,b.mono e⟩⟩
theorem ER.set {K:PySem.W.Frag} {μ:List Addr} {H:Hp} {ρ:En} {σ:St} {d:D} {v:V} (r:ER K μ ρ σ H) (q:Rep K μ H d v) (i:Nat):ER K μ (ρ.set i (some d)) (σ.set i (some v)) H:=by
  refine ⟨by rw [List.length_set,List.length_set,r.len],fun j e hj=>?_⟩
  by_cases hij:i=j
  · subst hij
    rw [List.getElem?_set] at hj ⊢
    have hl:i < ρ.length:=by
      by_cases hl:i < ρ.length
      · exact hl
      · rw [if_pos rfl,if_neg hl] at hj; cases hj
    rw [if_pos rfl,if_pos hl] at hj
    rw [if_pos rfl,if_pos (by rw [<- r.len]; exact hl)]
    cases hj
    exact ⟨v,rfl,q⟩
  · rw [List.getElem?_set_ne hij] at hj ⊢
    exact r.val j e hj
noncomputable def PostE {α β:Type} (K:PySem.W.Frag) (cv:Nat->Value) (R:List Addr->Hp->α->β->Prop) (μ:List Addr) (H:Hp) (r:Res α) (Q:β->Hp->Prop) (Z:Value->Hp->Prop):Prop :=
  match r with
  | .ok d h'=>∀ μ' H' v,Ext K μ H μ' H'->HR K μ' h' H'->R μ' H' d v->Q v H'
  | .exc c h'=>∀ μ' H',Ext K μ H μ' H'->HR K μ' h' H'->Z (cv c) H'
  | .no=>False
noncomputable def lift {α β:Type} (K:PySem.W.Frag) (cv:Nat->Value) (R:List Addr->Hp->α->β->Prop) (Z:ZK) (m:En->Hh->Res α):St->Hp->(β->Hp->Prop)->Prop :=
  fun σ H Q=>∃ μ ρ h,HR K μ h H /\ ER K μ ρ σ H /\ PostE K cv R μ H (m ρ h) Q (Z σ)
theorem lift_elim {α β:Type} {K:PySem.W.Frag} {cv:Nat->Value} {R:List Addr->Hp->α->β->Prop} {Z:ZK} {m:En->Hh->Res α} {σ:St} {H:Hp} {Q:β->Hp->Prop} {G:Prop} (f:∀ μ ρ h,HR K μ h H->ER K μ ρ σ H->PostE K cv R μ H (m ρ h) Q (Z σ)->G) (x:lift K cv R Z m σ H Q):G:=by
  obtain ⟨μ,ρ,h,hr,er,q⟩:=x
  exact f μ ρ h hr er q
theorem lift_bind {α β γ δ:Type} {K:PySem.W.Frag} {cv:Nat->Value} {R:List Addr->Hp->α->β->Prop} {R':List Addr->Hp->γ->δ->Prop} {μ:List Addr} {ρ:En} {h:Hh} {σ:St} {H:Hp} {Z:ZK} {m:En->Hh->Res α} {f:α->Hh->Res γ} {Q:δ->Hp->Prop} {Q':β->Hp->Prop}
    (hr:HR K μ h H) (er:ER K μ ρ σ H) (p:PostE K cv R' μ H ((m ρ h).bind f) Q (Z σ))
    (go:∀ a h1 μ1 H1 x,m ρ h=.ok a h1->Ext K μ H μ1 H1->HR K μ1 h1 H1->ER K μ1 ρ σ H1->R μ1 H1 a x->PostE K cv R' μ1 H1 (f a h1) Q (Z σ)->Q' x H1) :
    lift K cv R Z m σ H Q':=by
  refine ⟨μ,ρ,h,hr,er,?_⟩
  cases e:m ρ h with
  | ok a h1 =>
    rw [e,bind_ok] at p
    intro μ1 H1 x e1 r1 q1
    refine go a h1 μ1 H1 x e e1 r1 (er.mono e1) q1 ?_
    unfold PostE at p ⊢
    cases e2:f a h1 with
    | ok b h2=>rw [e2] at p; exact fun μ2 H2 v e3 r3 q3=>p μ2 H2 v (e1.trans e3) r3 q3
    | exc c h2=>rw [e2] at p; exact fun μ2 H2 e3 r3=>p μ2 H2 (e1.trans e3) r3
    | no=>rw [e2] at p; exact p
  | exc c h1=>rw [e,bind_exc] at p; exact p
  | no=>rw [e,bind_no] at p; exact p
theorem PostE.here {α β:Type} {K:PySem.W.Frag} {cv:Nat->Value} {R:List Addr->Hp->α->β->Prop} {μ:List Addr} {H:Hp} {d:α} {h:Hh} {v:β} {Q:β->Hp->Prop} {Z:Value->Hp->Prop} (p:PostE K cv R μ H (.ok d h) Q Z) (hr:HR K μ h H) (r:R μ H d v):Q v H :=
  p μ H v Ext.refl hr r
end PI
set_option Elab.async false
set_option linter.all false
set_option maxRecDepth 100000
namespace PI
open PySem L2 PySem.Spec
open PyProof.Rows hiding St
section
variable {X:Cx} {pins:List (Addr × Obj)} {σ:St} {H:Hp} {s:Shared} {μ:List Addr} {h:Hh}
mutual
theorem reads_of (I:Inv X pins σ H s):∀ {d:D} {v:V} {u:Value} {p:PyData},Rep X.K μ H d v->RelV v u->D.pd h d=some p->∃ as,Reads s.heap u p as
  | .non,_,_,_,r,q,e=>by cases r; cases q; cases e; exact ⟨_,.none⟩
  | .bl b,_,_,_,r,q,e=>by cases r; cases q; cases e; exact ⟨_,.bool b⟩
  | .int i,_,_,_,r,q,e=>by cases r; obtain ⟨t,rfl⟩:=q; cases e; exact ⟨_,.int i t⟩
  | .str x,_,_,_,r,q,e=>by cases r; obtain ⟨t,rfl⟩:=q; cases e; exact ⟨_,.str x t⟩
  | .tup ds,_,_,_,r,q,e=>by
    cases r with
    | tup hs rs =>
      cases q
      unfold D.pd at e
      cases e1:D.pds h ds with
      | none=>rw [e1] at e; cases e
      | some ps =>
        rw [e1] at e; cases e
        obtain ⟨its,rv,⟨o,g1,g2,n,g3⟩,_⟩:=I.tuple hs
        obtain ⟨as,ra⟩:=readsAll_of I rs rv e1
        exact ⟨_,.tuple g1 g2 g3 (by simpa using ra)⟩
  | .loc n,_,_,_,r,q,e=>by cases e
  | .fl ds,_,_,_,r,q,e=>by
    cases r with
    | fl hs rs =>
      cases q
      unfold D.pd at e
      cases e1:D.pds h ds with
      | none=>rw [e1] at e; cases e
      | some ps =>
        rw [e1] at e; cases e
        obtain ⟨its,rv,⟨o,n,g1,g2,_,g3⟩,_⟩:=I.list hs.sq
        obtain ⟨as,ra⟩:=readsAll_of I rs rv e1
        exact ⟨_,.list g1 g2 g3 (by simpa using ra)⟩
theorem readsAll_of (I:Inv X pins σ H s):∀ {ds:List D} {vs:List V} {us:List Value} {ps:List PyData},Reps X.K μ H ds vs->Vals vs us->D.pds h ds=some ps->∃ as,ReadsAll s.heap us ps as
  | [],_,_,_,r,q,e=>by cases r; cases q; cases e; exact ⟨_,.nil⟩
  | d :: ds,_,_,_,r,q,e=>by
    cases r with
    | cons r1 r2 =>
      cases q with
      | cons q1 q2 =>
        unfold D.pds at e
        cases e1:D.pd h d with
        | none=>rw [e1] at e; cases e
        | some p =>
          cases e2:D.pds h ds with
          | none=>rw [e1,e2] at e; cases e
          | some ps =>
            rw [e1,e2] at e; cases e
            obtain ⟨as,ra⟩:=reads_of I r1 q1 e1
            obtain ⟨bs,rb⟩:=readsAll_of I r2 q2 e2
            exact ⟨_,.cons ra rb⟩
end
theorem HR.rd (hr:HR X.K μ h H) {n:Nat} {ds:List D} (e:rd h n=some ds) {a:Addr} (m:μ[n]?=some a):∃ vs,SqL X.K H a vs /\ Reps X.K μ H ds vs:=by
  unfold PI.rd at e
  cases e1:h[n]? with
  | none=>rw [e1] at e; cases e
  | some o =>
    rw [e1] at e
    have q:=hr.obj n a o m e1
    cases o with
    | lst xs=>cases e; obtain ⟨vs,q1,q2⟩:=q; exact ⟨vs,SqL.of q1,q2⟩
    | dK xs=>cases e
theorem readsT_of (I:Inv X pins σ H s) (hr:HR X.K μ h H) {d:D} {v:V} {u:Value} {p:PyData} (r:Rep X.K μ H d v) (q:RelV v u) (e:pdT h d=some p):∃ as,Reads s.heap u p as:=by
  cases d with
  | loc n =>
    cases r with
    | loc m =>
      cases q
      rw [pdT_loc] at e
      cases e1:rd h n with
      | none=>rw [e1] at e; cases e
      | some ds =>
        rw [e1] at e
        cases e2:D.pds h ds with
        | none=>rw [show (some ds).bind (fun xs=>(D.pds h xs).map PyData.list)=(D.pds h ds).map PyData.list from rfl,e2] at e; cases e
        | some ps =>
          rw [show (some ds).bind (fun xs=>(D.pds h xs).map PyData.list)=(D.pds h ds).map PyData.list from rfl,e2] at e; cases e
          obtain ⟨vs,hs,rs⟩:=hr.rd e1 m
          obtain ⟨its,rv,⟨o,n',g1,g2,_,g3⟩,_⟩:=I.list hs
          obtain ⟨as,ra⟩:=readsAll_of I rs rv e2
          exact ⟨_,.list g1 g2 g3 (by simpa using ra)⟩
  | non=>exact reads_of (h:=h) I r q e
  | bl b=>exact reads_of (h:=h) I r q e
  | int i=>exact reads_of (h:=h) I r q e
  | str x=>exact reads_of (h:=h) I r q e
  | tup ds=>exact reads_of (h:=h) I r q e
  | fl ds=>exact reads_of (h:=h) I r q e
end
theorem line_le {n:Nat} (h:n<=1000000):n<=sizeLine:=by rw [sizeLine_eq]; omega
theorem line_lt {n:Nat} (h:n < 1000000):n < sizeLine:=by rw [sizeLine_eq]; omega
section
variable {X:Cx} {cv:Nat->Value}
noncomputable def r2 (K:PySem.W.Frag) (cv:Nat->Value) (f:D->D->Hh->Res D):R2:=fun x y H Q=>∃ μ h a b Z,HR K μ h H /\ Rep K μ H a x /\ Rep K μ H b y /\ PostE K cv (Rep K) μ H (f a b h) Q Z
noncomputable def r1 (K:PySem.W.Frag) (cv:Nat->Value) (f:D->Hh->Res D):V->Hp->VK->Prop:=fun x H Q=>∃ μ h a Z,HR K μ h H /\ Rep K μ H a x /\ PostE K cv (Rep K) μ H (f a h) Q Z
theorem op_mulB:OpR X (binaryOp .Mult) (rI (fun i j=>Builtin.Int.intBits i<=2 ^ 20 /\ Builtin.Int.intBits j<=2 ^ 20) fun i j=>.int (i * j)):=opI fun _ _ _ _ _ _ _ hc q=>mul_int q (IntMulOk.of_bits hc.1 hc.2)
theorem op_shlB:OpR X (binaryOp .LShift) (rI (fun i j=>Builtin.Int.intBits i<=2 ^ 20 /\ 0<=j /\ j<=1000000) fun i j=>.int (i * 2 ^ j.toNat)):=opI fun _ _ _ _ _ _ _ hc q=>lshift_int hc.2.1 (by have:=hc.1; have:=hc.2.2; omega) q
theorem mul_ok {x:Str} {j:Int} (h:0<=j /\ j<=1000 /\ x.length<=1000):MulOk x j:=by
  obtain ⟨h0,h1,h2⟩:=h
  refine ⟨by simp; omega,fun a b c=>?_,fun a b=>?_⟩
  · have hj:1<=j:=by omega
    have:(2 ^ 63 - 1) / 1000<=(2 ^ 63 - 1:Int) / j:=Int.le_ediv_of_mul_le (by omega) (by
      have:((2 ^ 63 - 1) / 1000:Int) * j<=((2 ^ 63 - 1) / 1000) * 1000:=Int.mul_le_mul_of_nonneg_left h1 (by decide)
      have e:(((2 ^ 63 - 1) / 1000:Int) * 1000)<=2 ^ 63 - 1:=by decide
      omega)
    have e:(1000:Int) < (2 ^ 63 - 1) / 1000:=by decide
    omega
  · have hm:x.length * j.toNat<=1000 * 1000:=Nat.mul_le_mul h2 (by omega)
    unfold PySem.Builtin.Str.tooLong
    exact decide_eq_false (by rw [sizeLine_eq]; omega)
theorem op_mulS:OpR X (binaryOp .Mult) (fun x y H Q=>∃ z j,x=.str z /\ y=.int j /\ (0<=j /\ j<=1000 /\ z.length<=1000) /\ Q (.str (Txt.mul z j)) H):=by
  intro pins s σ H x y v u Q I rx ry h
  obtain ⟨z,j,rfl,rfl,hc,q⟩:=h
  obtain ⟨t,rfl⟩:=rx
  obtain ⟨t',rfl⟩:=ry
  exact SB.mul (mul_ok hc) fun t' k=>⟨.str _,H,I.tok _,⟨_,rfl⟩,q⟩
theorem meets_catT0 (t b:Addr) (xs ys:Array Value) (n m:Nat) (d1 d2:Option Addr) (s1 s2:Array (Option Value)) (h0:xs.isEmpty=true) :
    Meets (Builtin.«tuple.__add__» ⟨[.ref t,.ref b],[]⟩) (fun _ R s =>
      s.heap.get? t=some ⟨.type "tuple",d1,.seq xs n,s1⟩ /\
      s.heap.get? b=some ⟨.type "tuple",d2,.seq ys m,s2⟩ /\
      R (.ok (.ret (Value.ref b))) s) :=
  .of_wp fun prog w A R s h=>by
    obtain ⟨hp,g,d,tk,os⟩:=s
    obtain ⟨hl,hb,h⟩:=h
    have f1:=AutoSeq1.idx_int
    have f2:=AutoSeq1.sub_list_tuple
    have f3:=AutoSeq1.sub_tuple_list
    have f4:=AutoSeq1.sub_tuple_tuple
    have f5:=AutoSeq1.sub_list_list
    wp_walk using AutoSeq1.wpAny_loadPart' hl,AutoSeq1.wpAny_loadPart' hb
    exact ⟨_,rfl,h⟩
theorem cat_nil {A:Around} {E:Value->Shared->Prop} {prog:Program} {w:World} {s:Shared} {t b:Addr} {vs ws:List Value} {Q:Value->Shared->Prop} (ht:IsTup s.heap t vs.toArray) (hb:IsTup s.heap b ws.toArray) (hv:vs=[]) (h1:Q (.ref b) s) :
    wpAny (model prog w) A (binaryOp .Add (.ref t) (.ref b)) Q E s:=by
  obtain ⟨⟨cls,dd,data,sl⟩,ho,hc,n,hd⟩:=id ht
  obtain ⟨⟨cls2,dd2,data2,sl2⟩,ho2,hc2,n2,hd2⟩:=id hb
  simp only at hc hd hc2 hd2
  subst hc hd hc2 hd2
  exact concat_meets ⟨_,ho,rfl⟩ ⟨_,ho2,rfl⟩ noFill_tuple_add seq_tuple_add PySem.F.slot_tuple_add PySem.F.entry_tuple_add (PySem.F.args_tuple_add_2 _ _) (meets_catT0 t b vs.toArray ws.toArray n n2 dd dd2 sl sl2 (by simp [hv])) ⟨ho,ho2,h1⟩
theorem Reps.rep {K:PySem.W.Frag} {μ:List Addr} {H:Hp} {ds:List D} {vs:List V} (r:Reps K μ H ds vs):∀ k:Nat,Reps K μ H (List.replicate k ds).flatten (List.replicate k vs).flatten
  | 0=>.nil
  | k + 1=>by rw [List.replicate_succ,List.replicate_succ,List.flatten_cons,List.flatten_cons]; exact r.append (Reps.rep r k)
section
variable {K:PySem.W.Frag} {μ:List Addr} {H:Hp} {Q:VK} {Z:Value->Hp->Prop}
theorem post_if {c:Prop} [Decidable c] {r:Res D} {G:Prop} (p:PostE K cv (Rep K) μ H (if c then r else .no) Q Z) (f:c->PostE K cv (Rep K) μ H r Q Z->G):G:=by
  by_cases hc:c
  · rw [if_pos hc] at p; exact f hc p
  · rw [if_neg hc] at p; exact p.elim
theorem i2_elim {a b:D} {x y:V} {g:Int->Int->Res D} {G:Prop} (ra:Rep K μ H a x) (rb:Rep K μ H b y) (p:PostE K cv (Rep K) μ H (i2 a b g) Q Z) (f:∀ i j,x=.int i->y=.int j->PostE K cv (Rep K) μ H (g i j) Q Z->G):G:=by
  cases a with
  | int i =>
    cases b with
    | int j=>cases ra; cases rb; exact f i j rfl rfl p
    | _=>exact p.elim
  | _=>exact p.elim
theorem eqR_elim {neg:Bool} {u v:Option PyData} {h:Hh} {G:Prop} (p:PostE K cv (Rep K) μ H (eqR neg u v h) Q Z) (f:∀ pu pv,u=some pu->v=some pv->pu.canLay0=true->pv.canLay0=true->pu.depth<=60->PostE K cv (Rep K) μ H (.ok (.bl (if neg then !PyData.eqv pu pv else PyData.eqv pu pv)) h) Q Z->G):G:=by
  cases u with
  | none=>exact p.elim
  | some pu =>
    cases v with
    | none=>exact p.elim
    | some pv=>exact post_if p fun c q=>f pu pv rfl rfl c.1 c.2.1 c.2.2 q
end
theorem op_addD:OpR X (binaryOp .Add) (r2 X.K cv addD):=by
  intro pins s σ H x y v u Q I rx ry hh
  obtain ⟨μ,h,a,b,Z,hr,ra,rb,p⟩:=hh
  cases a with
  | int i =>
    cases b with
    | int j=>cases ra; cases rb; exact op_add pins s σ H _ _ v u Q I rx ry ⟨_,_,rfl,rfl,p.here hr (.int _)⟩
    | _=>exact p.elim
  | str i =>
    cases b with
    | str j=>cases ra; cases rb; exact post_if p fun c p=>op_add_str pins s σ H _ _ v u Q I rx ry ⟨_,_,rfl,rfl,line_le c,p.here hr (.str _)⟩
    | _=>exact p.elim
  | loc n =>
    cases b with
    | loc m =>
      cases ra with
      | loc ma =>
        cases rb with
        | loc mb =>
          have p:PostE X.K cv (Rep X.K) μ H (match h[n]?,h[m]? with
            | some (.lst xs),some (.lst ys)=>if xs.length + ys.length<=1000000 then .ok (.loc h.length) (h ++ [.lst (xs ++ ys)]) else .no
            | _,_=>.no) Q Z:=p
          cases e1:h[n]? with
          | none=>rw [e1] at p; exact p.elim
          | some o1 =>
            cases e2:h[m]? with
            | none=>rw [e1,e2] at p; cases o1 <;> exact p.elim
            | some o2 =>
              rw [e1,e2] at p
              cases o1 with
              | dK k=>exact p.elim
              | lst xs =>
                cases o2 with
                | dK k=>exact p.elim
                | lst ys =>
                  refine post_if p fun c p=>?_
                  obtain ⟨va,ha,qa⟩:=hr.obj n _ _ ma e1
                  obtain ⟨vb,hb,qb⟩:=hr.obj m _ _ mb e2
                  refine op_cat pins s σ H _ _ v u Q I rx ry ⟨_,_,_,_,rfl,rfl,ha,hb,by rw [<- qa.length,<- qb.length]; exact line_le c,fun b hb=>?_⟩
                  have nb:b ∉ μ:=hr.fresh hb
                  refine p _ _ _ ((ext_new hb).add hb) (hr.alloc hb nb fun μ' g=>⟨_,upd_same,((qa.append qb).mono (ext_new hb)).mono' g⟩) (.loc ?_)
                  rw [<- hr.len,List.getElem?_append_right (Nat.le_refl _),Nat.sub_self]
                  rfl
    | _=>exact p.elim
  | tup ds =>
    cases b with
    | tup es =>
      refine post_if p fun c p=>?_
      cases ra with
      | @tup _ vs a h1 r1 =>
        cases rb with
        | @tup _ ws b h2 r2 =>
          by_cases hv:vs=[]
          · subst hv
            cases r1
            cases rx
            cases ry
            obtain ⟨its,q1,p1,_⟩:=I.tuple h1
            obtain ⟨its2,q2,p2,_⟩:=I.tuple h2
            cases q1
            exact cat_nil p1 p2 rfl ⟨.ref b,H,I,rfl,p.here hr (.tup h2 r2)⟩
          · refine op_catT pins s σ H _ _ v u Q I rx ry ⟨a,b,vs,ws,rfl,rfl,h1,h2,hv,by rw [<- r1.length,<- r2.length]; exact line_le c,fun hz=>?_,fun _ l hl=>?_⟩
            · subst hz
              cases r2
              rw [List.append_nil] at p
              exact p.here hr (.tup h1 r1)
            · exact p μ _ _ (ext_new hl) (hr.tup hl) (.tup (SqT.of upd_same) ((r1.append r2).mono (ext_new hl)))
    | _=>exact p.elim
  | _=>exact p.elim
theorem op_mulD:OpR X (binaryOp .Mult) (r2 X.K cv mulD):=by
  intro pins s σ H x y v u Q I rx ry hh
  obtain ⟨μ,h,a,b,Z,hr,ra,rb,p⟩:=hh
  cases b with
  | int j =>
    cases rb
    cases a with
    | int i=>cases ra; exact post_if p fun c p=>op_mulB pins s σ H _ _ v u Q I rx ry ⟨_,_,rfl,rfl,⟨of_decide_eq_true c.1,of_decide_eq_true c.2⟩,p.here hr (.int _)⟩
    | str z=>cases ra; exact post_if p fun c p=>op_mulS pins s σ H _ _ v u Q I rx ry ⟨_,_,rfl,rfl,c,p.here hr (.str _)⟩
    | loc n =>
      cases ra with
      | loc ma =>
        have p:PostE X.K cv (Rep X.K) μ H (match h[n]? with
          | some (.lst xs)=>if 0<=j /\ j<=1000 /\ xs.length<=1000 then .ok (.loc h.length) (h ++ [.lst (List.replicate j.toNat xs).flatten]) else .no
          | _=>.no) Q Z:=p
        cases e1:h[n]? with
        | none=>rw [e1] at p; exact p.elim
        | some o1 =>
          rw [e1] at p
          cases o1 with
          | dK k=>exact p.elim
          | lst xs =>
            refine post_if p fun c p=>?_
            obtain ⟨va,ha,qa⟩:=hr.obj n _ _ ma e1
            refine op_rep pins s σ H _ _ v u Q I rx ry ⟨_,_,va,rfl,rfl,ha,by omega,by omega,?_,fun b hb=>?_⟩
            · have hm:va.length * j.toNat<=1000 * 1000:=Nat.mul_le_mul (by rw [<- qa.length]; exact c.2.2) (by omega)
              rw [sizeLine_eq]; omega
            · have nb:b ∉ μ:=hr.fresh hb
              refine p _ _ _ ((ext_new hb).add hb) (hr.alloc hb nb fun μ' g=>⟨_,upd_same,((qa.rep j.toNat).mono (ext_new hb)).mono' g⟩) (.loc ?_)
              rw [<- hr.len,List.getElem?_append_right (Nat.le_refl _),Nat.sub_self]
              rfl
    | _=>exact p.elim
  | _=>exact p.elim
theorem op_bin (op:Operator):OpR X (binaryOp op) (r2 X.K cv (binD op)):=by
  cases op with
  | Add=>exact op_addD
  | Mult=>exact op_mulD
  | Sub =>
    intro pins s σ H x y v u Q I rx ry q0
    obtain ⟨μ,h,a,b,Z,hr,ra,rb,p⟩:=q0
    exact i2_elim ra rb p fun i j ex ey p=>op_sub pins s σ H _ _ v u Q I rx ry ⟨i,j,ex,ey,p.here hr (.int _)⟩
  | FloorDiv =>
    intro pins s σ H x y v u Q I rx ry q0
    obtain ⟨μ,h,a,b,Z,hr,ra,rb,p⟩:=q0
    exact i2_elim ra rb p fun i j ex ey p=>post_if p fun c p=>op_fdiv pins s σ H _ _ v u Q I rx ry ⟨i,j,ex,ey,c,p.here hr (.int _)⟩
  | Mod =>
    intro pins s σ H x y v u Q I rx ry q0
    obtain ⟨μ,h,a,b,Z,hr,ra,rb,p⟩:=q0
    exact i2_elim ra rb p fun i j ex ey p=>post_if p fun c p=>op_mod pins s σ H _ _ v u Q I rx ry ⟨i,j,ex,ey,c,p.here hr (.int _)⟩
  | Pow =>
    intro pins s σ H x y v u Q I rx ry q0
    obtain ⟨μ,h,a,b,Z,hr,ra,rb,p⟩:=q0
    exact i2_elim ra rb p fun i j ex ey p=>post_if p fun c p=>op_pow pins s σ H _ _ v u Q I rx ry ⟨i,j,ex,ey,c,p.here hr (.int _)⟩
  | LShift =>
    intro pins s σ H x y v u Q I rx ry q0
    obtain ⟨μ,h,a,b,Z,hr,ra,rb,p⟩:=q0
    exact i2_elim ra rb p fun i j ex ey p=>post_if p fun c p=>op_shlB pins s σ H _ _ v u Q I rx ry ⟨i,j,ex,ey,⟨of_decide_eq_true c.1,c.2⟩,p.here hr (.int _)⟩
  | RShift =>
    intro pins s σ H x y v u Q I rx ry q0
    obtain ⟨μ,h,a,b,Z,hr,ra,rb,p⟩:=q0
    exact i2_elim ra rb p fun i j ex ey p=>post_if p fun c p=>op_shr pins s σ H _ _ v u Q I rx ry ⟨i,j,ex,ey,c,p.here hr (.int _)⟩
  | BitAnd =>
    intro pins s σ H x y v u Q I rx ry q0
    obtain ⟨μ,h,a,b,Z,hr,ra,rb,p⟩:=q0
    exact i2_elim ra rb p fun i j ex ey p=>op_and pins s σ H _ _ v u Q I rx ry ⟨i,j,ex,ey,p.here hr (.int _)⟩
  | BitOr =>
    intro pins s σ H x y v u Q I rx ry q0
    obtain ⟨μ,h,a,b,Z,hr,ra,rb,p⟩:=q0
    exact i2_elim ra rb p fun i j ex ey p=>op_or pins s σ H _ _ v u Q I rx ry ⟨i,j,ex,ey,p.here hr (.int _)⟩
  | _ =>
    intro pins s σ H x y v u Q I rx ry q0
    obtain ⟨μ,h,a,b,Z,hr,ra,rb,p⟩:=q0
    exact p.elim
theorem flat_rep {K:PySem.W.Frag} {μ:List Addr} {H:Hp} {d:D} {v:V} (r:Rep K μ H d v) (f:flatD d=true):v=vOf d /\ flatV v=true:=by
  cases r with
  | non=>exact ⟨rfl,rfl⟩
  | bl b=>exact ⟨rfl,rfl⟩
  | int i=>exact ⟨rfl,rfl⟩
  | str x=>exact ⟨rfl,rfl⟩
  | _=>cases f
theorem flat_reps {K:PySem.W.Frag} {μ:List Addr} {H:Hp}:∀ {ds:List D} {vs:List V},Reps K μ H ds vs->ds.all flatD=true->vs=ds.map vOf /\ vs.all flatV=true
  | _,_,.nil,_=>⟨rfl,rfl⟩
  | _,_,.cons r t,f=>by
    rw [List.all_cons,Bool.and_eq_true] at f
    obtain ⟨rfl,f1⟩:=flat_rep r f.1
    obtain ⟨rfl,f2⟩:=flat_reps t f.2
    exact ⟨rfl,by rw [List.all_cons,f1,f2]; rfl⟩
theorem in_V (x:D) (ds:List D):inV (vOf x) (ds.map vOf)=ds.any fun y=>eqV (vOf y) (vOf x):=by unfold inV; rw [List.any_map]; rfl
theorem op_inXs {neg:Bool} {pins:List (Addr × Obj)} {s:Shared} {σ:St} {H:Hp} {v u:Value} {Q:VK} {μ:List Addr} {h:Hh} {a:D} {x:V} {Z':Value->Hp->Prop} {ds:List D} {vs:List V} {p':Addr} (op:CmpOp) (hop:OpR X (compareOp op) (rIn X.K neg))
    (I:Inv X pins σ H s) (rx:RelV x v) (ry:RelV (.ref p') u) (hr:HR X.K μ h H) (ra:Rep X.K μ H a x) (sq:SqL X.K H p' vs \/ SqT X.K H p' vs) (rs:Reps X.K μ H ds vs) (p:PostE X.K cv (Rep X.K) μ H (inXs neg a ds h) Q Z') :
    wpAny (model X.prog X.w) X.A (compareOp op v u) (EP X pins σ Q) X.xe s:=by
  unfold inXs at p
  split at p
  · rename_i c
    obtain ⟨rfl,f1⟩:=flat_rep ra c.1
    obtain ⟨rfl,f2⟩:=flat_reps rs c.2
    refine hop pins s σ H _ _ v u Q I rx ry ⟨p',_,rfl,sq,f1,f2,?_⟩
    rw [in_V]
    exact p.here hr (.bl _)
  · exact p.elim
theorem keyD_rep' {K:PySem.W.Frag} {μ:List Addr} {H:Hp} {d:D} {v:V} {k:Key} (r:Rep K μ H d v) (e:keyD d=some k):v=kV k:=by
  unfold keyD at e
  cases r <;> first | (cases e; rfl) | cases e
theorem RepKs.none {K:PySem.W.Frag} {μ:List Addr} {H:Hp} {k:Key}:∀ {ds:List (Key × D)} {vs:List (Key × V)},RepKs K μ H ds vs->(valD ds k).isSome=(valV vs k).isSome
  | _,_,.nil=>rfl
  | _,_,.cons (k:=k') (d:=d') (v:=v') h r=>by
    have ih:=RepKs.none (k:=k) r
    by_cases hk:k'=k
    · rw [valV_pos (p:=(k',v')) hk]
      unfold valD
      rw [List.find?_cons_of_pos (by simpa using hk)]
      rfl
    · rw [valV_neg (p:=(k',v')) hk,<- ih]
      unfold valD
      rw [List.find?_cons_of_neg (by simpa using hk)]
theorem op_inI (hu:X.A.units + 1 < cLine) (neg:Bool):OpR X (compareOp (if neg then .NotIn else .In)) (r2 X.K cv (inD neg)):=by
  intro pins s σ H x y v u Q I rx ry hh
  obtain ⟨μ,h,a,b,Z',hr,ra,rb,p⟩:=hh
  have hop:OpR X (compareOp (if neg then .NotIn else .In)) (rIn X.K neg):=by cases neg with | true=>exact op_notIn_seq | false=>exact op_in_seq
  unfold inD at p
  cases rb with
  | tup h1 h2=>exact op_inXs _ hop I rx ry hr ra (.inr h1) h2 p
  | fl h1 h2=>exact op_inXs _ hop I rx ry hr ra (.inl h1.sq) h2 p
  | @loc nn b' m =>
    cases e1:h[nn]? with
    | none=>simp only [e1] at p; exact p.elim
    | some o =>
      have q:=hr.obj nn b' o m e1
      cases o with
      | lst ds =>
        simp only [e1] at p
        obtain ⟨vs,q1,q2⟩:=q
        exact op_inXs _ hop I rx ry hr ra (.inl (SqL.of q1)) q2 p
      | dK kvs =>
        simp only [e1] at p
        obtain ⟨vs,q1,q2⟩:=q
        cases e2:keyD a with
        | none=>simp only [e2] at p; exact p.elim
        | some k =>
          simp only [e2] at p
          have ey:=keyD_rep' ra e2
          subst ey
          cases ry
          have p':=p.here hr (.bl _)
          rw [q2.none] at p'
          cases neg with
          | true=>exact d_notIn hu I (DGet.k q1) rx fun s' I'=>⟨.bl _,H,I',rfl,p'⟩
          | false=>exact d_in hu I (DGet.k q1) rx fun s' I'=>⟨.bl _,H,I',rfl,p'⟩
  | str z =>
    cases ra with
    | str w =>
      cases neg with
      | true=>exact op_notIn_str pins s σ H _ _ v u Q I rx ry ⟨w,z,rfl,rfl,p.here hr (.bl _)⟩
      | false=>exact op_in_str pins s σ H _ _ v u Q I rx ry ⟨w,z,rfl,rfl,p.here hr (.bl _)⟩
    | _=>exact p.elim
  | _=>exact p.elim
theorem op_cmp (hu:X.A.units + 64 < cLine) (op:CmpOp):OpR X (compareOp op) (r2 X.K cv (cmpD op)):=by
  intro pins s σ H x y v u Q I rx ry hh
  obtain ⟨μ,h,a,b,Z,hr,ra,rb,p⟩:=hh
  cases op with
  | Lt=>exact i2_elim ra rb p fun i j ex ey p=>op_lt pins s σ H _ _ v u Q I rx ry ⟨i,j,ex,ey,p.here hr (.bl _)⟩
  | LtE=>exact i2_elim ra rb p fun i j ex ey p=>op_le pins s σ H _ _ v u Q I rx ry ⟨i,j,ex,ey,p.here hr (.bl _)⟩
  | Gt=>exact i2_elim ra rb p fun i j ex ey p=>op_gt pins s σ H _ _ v u Q I rx ry ⟨i,j,ex,ey,p.here hr (.bl _)⟩
  | GtE=>exact i2_elim ra rb p fun i j ex ey p=>op_ge pins s σ H _ _ v u Q I rx ry ⟨i,j,ex,ey,p.here hr (.bl _)⟩
  | Eq =>
    refine eqR_elim p fun pu pv e1 e2 c1 c2 c3 p=>?_
    obtain ⟨as,q1⟩:=readsT_of I hr ra rx e1
    obtain ⟨bs,q2⟩:=readsT_of I hr rb ry e2
    exact SeqAt.compareEq_reads q1 q2 c1 c2 (by have:=Nat.min_le_left pu.depth pv.depth; omega) ⟨.bl _,H,I,rfl,p.here hr (.bl _)⟩
  | NotEq =>
    refine eqR_elim p fun pu pv e1 e2 c1 c2 c3 p=>?_
    obtain ⟨as,q1⟩:=readsT_of I hr ra rx e1
    obtain ⟨bs,q2⟩:=readsT_of I hr rb ry e2
    exact SeqAt.compareNe_reads q1 q2 c1 c2 (by have:=Nat.min_le_left pu.depth pv.depth; omega) ⟨.bl _,H,I,rfl,p.here hr (.bl _)⟩
  | In=>exact op_inI (cv:=cv) (by omega) false pins s σ H _ _ v u Q I rx ry ⟨μ,h,_,_,Z,hr,ra,rb,p⟩
  | NotIn=>exact op_inI (cv:=cv) (by omega) true pins s σ H _ _ v u Q I rx ry ⟨μ,h,_,_,Z,hr,ra,rb,p⟩
  | Is =>
    cases b with
    | non =>
      cases rb
      cases ry
      refine wpAny_is_plain (by cases ra <;> first | (cases rx; rfl) | (obtain ⟨t,rfl⟩:=rx; rfl)) (fin_bl I (p.here hr (.bl _)) ?_)
      cases ra <;> first | (cases rx; rfl) | (obtain ⟨t,rfl⟩:=rx; rfl)
    | bl y =>
      cases a with
      | bl x =>
        cases ra; cases rb; cases rx; cases ry
        exact wpAny_is_plain rfl (fin_bl I (p.here hr (.bl _)) (by cases x <;> cases y <;> rfl))
      | _=>exact p.elim
    | _=>exact p.elim
  | IsNot =>
    cases b with
    | non =>
      cases rb
      cases ry
      refine wpAny_isNot_plain (by cases ra <;> first | (cases rx; rfl) | (obtain ⟨t,rfl⟩:=rx; rfl)) (fin_bl I (p.here hr (.bl _)) ?_)
      cases ra <;> first | (cases rx; rfl) | (obtain ⟨t,rfl⟩:=rx; rfl)
    | bl y =>
      cases a with
      | bl x =>
        cases ra; cases rb; cases rx; cases ry
        exact wpAny_isNot_plain rfl (fin_bl I (p.here hr (.bl _)) (by cases x <;> cases y <;> rfl))
      | _=>exact p.elim
    | _=>exact p.elim
end
end PI
set_option Elab.async false
set_option linter.all false
set_option maxRecDepth 100000
namespace PI
open PySem L2 PySem.Spec
open PyProof.Rows hiding St
noncomputable def RB:List Addr->Hp->Bool->Bool->Prop:=fun _ _ b c=>b=c
noncomputable def spI (K:PySem.W.Frag) (cv:Nat->Value) (np:Nat) (c:List D->Hh->Res D):Sp:=fun vs H Q E =>
  vs.length=np /\ ∃ μ h ds,HR K μ h H /\ Reps K μ H ds vs /\ PostE K cv (Rep K) μ H (c ds h) Q (fun C H'=>E C none H')
noncomputable def bnames:List Str:=["len","isinstance","int","bool","str","tuple","list","range","max","min","sum","all","any","zip","reversed","sorted","set","enumerate","dict","abs"]
noncomputable def gOf (sc:Scope) (x:Str):Bool:=decide (sc.names.lookup x=some .globalImplicit)
noncomputable def relab (scope osc:Scope):Scope :=
  { scope with names:=scope.names.map fun (n,k)=>if (k == .free && osc.kind == .function && osc.names.lookup n == some .cell) then (n,.cell) else (n,k) }
noncomputable def Tg.idx:Tg->List Nat
  | .one i _=>[i]
  | .tup is _=>is.map (·.1)
noncomputable def Tg.ok (sc:Scope) (N:List Str) (t:Tg):Bool:=t.idx.all fun i=>decide (i < N.length) && decide (sc.names.lookup (N.getD i "")=some .local \/ sc.names.lookup (N.getD i "")=some .cell)
noncomputable def Tg.okS (N:List Str) (t:Tg):Bool:=t.idx.all fun i=>decide (i < N.length)
noncomputable def goodN (x:Str):Bool:=!(x == ("__debug__":Str)) && !(x == ("__classdict__":Str))
noncomputable def Tg.forI (t:Tg):I->Bool
  | .zip _ _ _ _=>(match t with | .tup _ _=>true | _=>false)
  | _=>true
mutual
noncomputable def E.ok (sc:Scope) (n:Nm):E->Bool
  | .non _ | .bl _ _ | .int _ _ | .str _ _=>true
  | .var i _=>decide (i < n.N.length)
  | .bin _ a b _=>a.ok sc n && b.ok sc n
  | .un op a _=>a.ok sc n && (match op with | .Not=>a.okT | _=>true)
  | .cmp op a b _=>a.ok sc n && b.ok sc n && !behindInMarks op (b.py n)
  | .and a b r _=>a.ok sc n && b.ok sc n && r.ok sc n && a.okT && b.okT && r.okT
  | .or a b r _=>a.ok sc n && b.ok sc n && r.ok sc n && a.okT && b.okT && r.okT
  | .ite c a b _=>c.ok sc n && a.ok sc n && b.ok sc n && c.okT
  | .call f a r _ _=>decide (f < n.F.length) && gOf sc (n.F.getD f "") && a.ok sc n && r.ok sc n
  | .len a _ _=>gOf sc "len" && a.ok sc n
  | .isi T a _ _ _=>gOf sc "isinstance" && gOf sc (tyName T) && decide (T < 5) && a.ok sc n
  | .sub a i _=>a.ok sc n && i.ok sc n
  | .tup es _=>es.ok sc n
  | .ofL l=>l.ok sc n
  | .tupL l _ _=>gOf sc "tuple" && l.ok sc n
  | .tupE e _ _=>gOf sc "tuple" && e.ok sc n
  | .listE e _ _=>gOf sc "list" && e.ok sc n
  | .cut a lo hi _ _=>a.ok sc n && lo.ok sc n && hi.ok sc n
  | .dic _=>true
  | .m0 _ o p1 p=>o.ok sc n && decide (p1.endLine=p.line)
  | .m1 _ o a p1 p=>o.ok sc n && a.ok sc n && decide (p1.endLine=p.line)
  | .c1 f a _ _=>gOf sc f.name && a.ok sc n
  | .cmpN _ a _ _=>a.ok sc n
  | .split o a p1 p=>o.ok sc n && a.ok sc n && decide (p1.endLine=p.line)
  | .gcon x c _=>gOf sc x && decide ((x,c) ∈ n.G)
  | .gsub x kvs i _ _=>gOf sc x && decide ((x,Cn.dic kvs) ∈ n.G) && i.ok sc n
noncomputable def Eo.ok (sc:Scope) (n:Nm):Eo->Bool
  | .none=>true
  | .some e=>e.ok sc n
noncomputable def L.ok (sc:Scope) (n:Nm):L->Bool
  | .disp es _=>es.ok sc n
  | .comp elt t it c NC cap csc _=>(it.ok sc n && t.forI it) && compOk sc csc n.N NC cap && decide NC.Nodup && NC.all goodN && t.ok csc NC && elt.ok (relab csc sc) ⟨NC,n.F,n.G⟩ && c.ok (relab csc sc) ⟨NC,n.F,n.G⟩ && c.okT && c.short
noncomputable def I.ok (sc:Scope) (n:Nm):I->Bool
  | .seq e=>e.ok sc n
  | .lst l=>l.ok sc n
  | .rng a _ _=>gOf sc "range" && a.ok sc n
  | .rev e _ _=>gOf sc "reversed" && e.ok sc n
  | .zip a b _ _=>gOf sc "zip" && a.ok sc n && b.ok sc n
noncomputable def Es.ok (sc:Scope) (n:Nm):Es->Bool
  | .nil=>true
  | .cons e r=>e.ok sc n && r.ok sc n
noncomputable def E.okT:E->Bool
  | .non _ | .bl _ _ | .int _ _ | .str _ _=>false
  | .ite _ _ _ _=>false
  | .ofL _=>false
  | .dic _=>false
  | .gcon _ _ _=>false
  | .un op a _=>match op with | .Not=>a.okT | _=>true
  | _=>true
noncomputable def Es.okT:Es->Bool
  | .nil=>true
  | .cons e r=>e.okT && r.okT
noncomputable def Es.short:Es->Bool
  | .nil=>true
  | .cons _ .nil=>true
  | .cons _ (.cons _ _)=>false
end
noncomputable def TupK (K:PySem.W.Frag) (a:Addr) (xs:List Str):Prop:=∃ (o:Obj) (its:Array Value) (n:Nat),K.lookup a=some o /\ o.cls=.type "tuple" /\ o.data=.seq its n /\ its.size<=sizeLine /\ Vals (xs.map V.str) its.toList
noncomputable def CvOk (K:PySem.W.Frag) (v:Value):Cv->Prop
  | .tup xs=>∃ a,v=.ref a /\ TupK K a xs
  | .int i=>∃ t,v=.int i t
noncomputable def DicV (K:PySem.W.Frag):List (Str × Cv)->List (Key × Value)->Prop
  | [],[]=>True
  | kx :: r,qv :: s=>qv.1=.inr kx.1 /\ CvOk K qv.2 kx.2 /\ DicV K r s
  | _,_=>False
noncomputable def CnOk (P:Program) (w:World) (K:PySem.W.Frag) (v:Value):Cn->Prop
  | .int i=>∃ t,v=.int i t
  | .str x=>∃ t,v=.str x t
  | .tup xs=>∃ a,v=.ref a /\ TupK K a xs
  | .dic kvs=>∃ a o es ep vs,v=.ref a /\ K.lookup a=some o /\ o.ExactDict /\ o.data=.dict es ep /\ KeysOf (mixKind P w) es /\ Pairs (mixKind P w) es.toList vs /\ (vs.map (·.1)).Nodup /\ DicV K kvs vs
structure Kx (X:Cx) (Z:ZK) (k:Nat) (n:Nm) (cv:Nat->Value) (cl:Nat->List D->Hh->Res D):Prop where
  th:Thr X Z
  rm:Room k X.A
  nN:X.N=n.N
  nd:X.N.Nodup
  cm:X.calm=true
  kd:X.env.scope.kind=.function
  nm:∀ x ∈ n.N,Vis X.env.scope x /\ goodN x=true
  bm:∀ x,x ∈ bnames->X.mg x=none
  gc:∀ x c,(x,c) ∈ n.G->(x == ("__debug__":Str))=false /\ ∃ v,X.mg x=some v /\ CnOk X.prog X.w X.K v c
  fn:∀ i x,n.F[i]?=some x->(x == ("__debug__":Str))=false /\ ∃ f fd ps,X.mg x=some (.ref f) /\ PySem.W.keepIn X.K (.ref f)=true /\ Binds X.K fd ps [] /\ (∀ ds h,cl i ds h ≠ .no->ds.length=ps.length) /\
    FnOk X.prog X.w X.K X.mg X.base (CXs X.prog X.w) k f fd ps (spI X.K cv ps.length (cl i))
theorem Kx.gl {X:Cx} {Z:ZK} {k:Nat} {n:Nm} {cv:Nat->Value} {cl:Nat->List D->Hh->Res D} (C:Kx X Z k n cv cl) {x:Str} (h:gOf X.env.scope x=true):Gl X x:=show X.env.scope.names.lookup x=some .globalImplicit from of_decide_eq_true h
theorem goodN_of {x:Str} (h:goodN x=true):(x == ("__debug__":Str))=false /\ (x == ("__classdict__":Str))=false:=by unfold goodN at h; simpa using h
theorem bind_pure {α:Type} (r:Res α):(r.bind fun a h=>.ok a h)=r:=by cases r <;> rfl
theorem bind_assoc {α β γ:Type} (r:Res α) (f:α->Hh->Res β) (q:β->Hh->Res γ):(r.bind f).bind q=r.bind fun a h=>(f a h).bind q:=by cases r <;> rfl
theorem PE.mono {X:Cx} {e:Expr} {t t':TE} (p:PE X e t) (h:∀ σ H Q,t' σ H Q->t σ H Q):PE X e t':=fun pins s σ H Q I q=>p pins s σ H Q I (h σ H Q q)
theorem PT.mono {X:Cx} {e:Expr} {t t':TT} (p:PT X e t) (h:∀ σ H Q,t' σ H Q->t σ H Q):PT X e t':=fun pins s σ H Q I q=>p pins s σ H Q I (h σ H Q q)
theorem PW.mono {X:Cx} {e:Expr} {t t':TT} (p:PW X e t) (h:∀ σ H Q,t' σ H Q->t σ H Q):PW X e t':=fun wh pins s σ H Q I q=>p wh pins s σ H Q I (h σ H Q q)
theorem PA.mono {X:Cx} {e:List Expr} {t t':TA} (p:PA X e t) (h:∀ σ H Q,t' σ H Q->t σ H Q):PA X e t':=fun ps pins s σ H Q I q=>p ps pins s σ H Q I (h σ H Q q)
noncomputable def toB (d:D) (h:Hh):Res Bool:=match d with | .bl b=>.ok b h | _=>.no
theorem evT_eq (cl:Nat->List D->Hh->Res D) (e:E) (ρ:En) (h:Hh):e.evT cl ρ h=(e.ev cl ρ h).bind toB:=rfl
section
variable {X:Cx} {Z:ZK} {k:Nat} {n:Nm} {cv:Nat->Value} {cl:Nat->List D->Hh->Res D}
theorem L.py_star (l:L) (r:List Expr) (env:Env):starEach (l.py n :: r) env=(false,eval (l.py n) env) :: starEach r env:=by cases l <;> rfl
theorem star_cons (e:E) (r:List Expr) (env:Env):starEach (e.py n :: r) env=(false,eval (e.py n) env) :: starEach r env:=by
  cases e with
  | ofL l=>exact L.py_star l r env
  | _=>rfl
theorem star_plain:∀ (r:Es) (pos:Pos) (env:Env),(backTo pos (starEach (r.py n) env)).any (·.1)=false
  | .nil,_,_=>rfl
  | .cons e r,pos,env=>by
    show (backTo pos (starEach (e.py n :: r.py n) env)).any (·.1)=false
    rw [star_cons]
    exact star_plain r pos env
theorem plain_ix (e:E):PlainIx (e.py n):=by
  intro o i
  cases e with
  | ofL l=>cases l <;> rfl
  | _=>rfl
theorem pt_lift {e:Expr} {m:En->Hh->Res D} (p:PE X e (lift X.K cv (Rep X.K) Z m)) (he:∀ whole,isTrue e X.env whole=(do let v <- whole; standAt e.pos; holding [v] (truthy v))) :
    PT X e (lift X.K cv RB Z fun ρ h=>(m ρ h).bind toB):=by
  refine PT.mono (pt_val p he) fun σ H Q=>lift_elim fun μ ρ h hr er q=>?_
  refine lift_bind (m:=m) hr er q fun a h1 μ1 H1 x _ e1 r1 er1 qa p1=>?_
  unfold toB at p1
  cases qa with
  | bl b=>exact ⟨b,rfl,p1.here r1 rfl⟩
  | _=>exact p1.elim
noncomputable def Es.evAndT (cl:Nat->List D->Hh->Res D):Es->En->Bool->Hh->Res Bool
  | .nil,_,c,h=>.ok c h
  | .cons e r,ρ,c,h=>if c then (e.evT cl ρ h).bind fun c' h2=>r.evAndT cl ρ c' h2 else .ok false h
noncomputable def Es.evOrT (cl:Nat->List D->Hh->Res D):Es->En->Bool->Hh->Res Bool
  | .nil,_,c,h=>.ok c h
  | .cons e r,ρ,c,h=>if c then .ok true h else (e.evT cl ρ h).bind fun c' h2=>r.evOrT cl ρ c' h2
theorem and_toB:∀ (r:Es) (ρ:En) (d:D) (h:Hh),(r.evAnd cl ρ d h).bind toB=(toB d h).bind fun c h1=>r.evAndT cl ρ c h1
  | .nil,ρ,d,h=>(bind_pure (r:=toB d h)).symm
  | .cons e r,ρ,d,h=>by
    cases d with
    | bl b =>
      cases b with
      | false=>rfl
      | true =>
        show (((e.ev cl ρ h).bind fun y h2=>r.evAnd cl ρ y h2).bind toB)=((e.ev cl ρ h).bind toB).bind fun c' h2=>r.evAndT cl ρ c' h2
        rw [bind_assoc,bind_assoc]
        congr 1
        funext y h2
        exact and_toB r ρ y h2
    | _=>rfl
theorem or_toB:∀ (r:Es) (ρ:En) (d:D) (h:Hh),(r.evOr cl ρ d h).bind toB=(toB d h).bind fun c h1=>r.evOrT cl ρ c h1
  | .nil,ρ,d,h=>(bind_pure (r:=toB d h)).symm
  | .cons e r,ρ,d,h=>by
    cases d with
    | bl b =>
      cases b with
      | true=>rfl
      | false =>
        show (((e.ev cl ρ h).bind fun y h2=>r.evOr cl ρ y h2).bind toB)=((e.ev cl ρ h).bind toB).bind fun c' h2=>r.evOrT cl ρ c' h2
        rw [bind_assoc,bind_assoc]
        congr 1
        funext y h2
        exact or_toB r ρ y h2
    | _=>rfl
end
end PI
set_option Elab.async false
set_option linter.all false
set_option maxRecDepth 100000
set_option maxHeartbeats 4000000
namespace PI
open PySem L2 PySem.Spec
open PyProof.Rows hiding St
section
variable {X:Cx} {Z:ZK} {k:Nat} {n:Nm} {cv:Nat->Value} {cl:Nat->List D->Hh->Res D}
structure SE (X:Cx) (Z:ZK) (n:Nm) (cv:Nat->Value) (cl:Nat->List D->Hh->Res D) (e:E):Prop where
  pe:PE X (e.py n) (lift X.K cv (Rep X.K) Z (e.ev cl))
  pt:e.okT=true->PT X (e.py n) (lift X.K cv RB Z (e.evT cl))
noncomputable def PsOk (X:Cx) (Z:ZK) (n:Nm) (cv:Nat->Value) (cl:Nat->List D->Hh->Res D) (r:Es):Prop:=∀ (ks:List (Str × Pos)) (pos:Pos),ks.length=(r.py n).length ->
  ∃ trs,PPs X pos (ks.map fun q=>some (.Constant (.str q.1) 0 q.2)) (r.py n) trs /\ ∀ σ H (Q:List (V × V)->Hp->Prop),lift X.K cv (Reps X.K) Z (r.ev cl) σ H (fun us H'=>Q ((ks.map fun q=>V.str q.1).zip us) H')->tPairs trs σ H Q
structure SEs (X:Cx) (Z:ZK) (n:Nm) (cv:Nat->Value) (cl:Nat->List D->Hh->Res D) (r:Es):Prop where
  pa:PA X (r.py n) (lift X.K cv (Reps X.K) Z (r.ev cl))
  an:∀ (b:E) (p:Pos),SE X Z n cv cl b->PE X (.BoolOp .And (b.py n :: r.py n) p) (lift X.K cv (Rep X.K) Z fun ρ h=>(b.ev cl ρ h).bind fun y h2=>r.evAnd cl ρ y h2)
  anT:∀ (b:E) (p:Pos),SE X Z n cv cl b->b.okT=true->r.okT=true->PW X (.BoolOp .And (b.py n :: r.py n) p) (lift X.K cv RB Z fun ρ h=>(b.evT cl ρ h).bind fun c h2=>r.evAndT cl ρ c h2)
  orr:∀ (b:E) (p:Pos),SE X Z n cv cl b->PE X (.BoolOp .Or (b.py n :: r.py n) p) (lift X.K cv (Rep X.K) Z fun ρ h=>(b.ev cl ρ h).bind fun y h2=>r.evOr cl ρ y h2)
  orT:∀ (b:E) (p:Pos),SE X Z n cv cl b->b.okT=true->r.okT=true->PW X (.BoolOp .Or (b.py n :: r.py n) p) (lift X.K cv RB Z fun ρ h=>(b.evT cl ρ h).bind fun c h2=>r.evOrT cl ρ c h2)
  ps:PsOk X Z n cv cl r
theorem lift_C {v:V} {d:D} {Q:VK} {σ:St} {H:Hp} (hv:∀ K μ H,Rep K μ H d v) (p:lift X.K cv (Rep X.K) Z (fun _ h=>.ok d h) σ H Q):tC v σ H Q:=by
  obtain ⟨μ,ρ,h,hr,er,q⟩:=p
  exact q.here hr (hv _ _ _)
theorem lift2 {f:D->D->Hh->Res D} {a b:E} {σ:St} {H:Hp} {Q:VK} (p:lift X.K cv (Rep X.K) Z (fun ρ h=>(a.ev cl ρ h).bind fun x h1=>(b.ev cl ρ h1).bind fun y h2=>f x y h2) σ H Q) :
    tOp (r2 X.K cv f) (lift X.K cv (Rep X.K) Z (a.ev cl)) (lift X.K cv (Rep X.K) Z (b.ev cl)) σ H Q:=by
  obtain ⟨μ,ρ,h,hr,er,q⟩:=p
  refine lift_bind (m:=a.ev cl) hr er q fun da h1 μ1 H1 x _ e1 r1 er1 qa p1=>?_
  refine lift_bind (m:=b.ev cl) r1 er1 p1 fun db h2 μ2 H2 y _ e2 r2 er2 qb p2=>?_
  exact ⟨μ2,h2,da,db,_,r2,qa.mono e2,qb,p2⟩
theorem lift1 {f:D->Hh->Res D} {a:E} {σ:St} {H:Hp} {Q:VK} (p:lift X.K cv (Rep X.K) Z (fun ρ h=>(a.ev cl ρ h).bind fun x h1=>f x h1) σ H Q) :
    tUn (r1 X.K cv f) (lift X.K cv (Rep X.K) Z (a.ev cl)) σ H Q:=by
  obtain ⟨μ,ρ,h,hr,er,q⟩:=p
  refine lift_bind (m:=a.ev cl) hr er q fun da h1 μ1 H1 x _ e1 r1 er1 qa p1=>?_
  exact ⟨μ1,h1,da,_,r1,qa,p1⟩
theorem un_op (op:UnaryOp) (h:op=.Invert \/ op=.USub):UnR X (unaryOp op) (r1 X.K cv (unD op)):=by
  intro pins s σ H x v Q I rx hh
  obtain ⟨μ,h',a,Z',hr,ra,p⟩:=hh
  rcases h with rfl | rfl
  · unfold unD at p
    cases ra with
    | int i=>exact un_inv pins s σ H _ v Q I rx ⟨i,rfl,p.here hr (.int _)⟩
    | _=>exact p.elim
  · unfold unD at p
    cases ra with
    | int i=>exact un_neg pins s σ H _ v Q I rx ⟨i,rfl,p.here hr (.int _)⟩
    | _=>exact p.elim
theorem ix_dict (hu:X.A.units + 1 < cLine):IxR X (fun x y H Q=>∃ a v,x=.ref a /\ DGet H a y (some v) /\ Q v H):=by
  intro value slice pins s σ H x y v u Q I rx ry h hs
  obtain ⟨a,w,rfl,g,q⟩:=h
  cases rx
  have ty:s.TypeIs (.ref a) "dict":=by
    rcases g with ⟨kvs,k,e,ey,l⟩ | ⟨kvs,k,b,e,ey,eb,l⟩
    · obtain ⟨_,_,vs,_,o,es,ep,e1,ex,_⟩:=e.ok I.hok
      exact ⟨o,e1,ex.1⟩
    · obtain ⟨_,_,xs,_,o,es,ep,e1,ex,_⟩:=e.ok I.hok
      exact ⟨o,e1,ex.1⟩
  exact tail_any ty slot_dict_getitem.lookup (d_getItem hu I g ry fun w' s' I' r'=>⟨w,H,I',r',q⟩) hs
theorem RepKs.val {K:PySem.W.Frag} {μ:List Addr} {H:Hp} {k:Key} {d:D}:∀ {ds:List (Key × D)} {vs:List (Key × V)},RepKs K μ H ds vs->valD ds k=some d->∃ v,valV vs k=some v /\ Rep K μ H d v
  | _,_,.nil,e=>by unfold valD at e; simp at e
  | _,_,.cons (k:=k') (d:=d') (v:=v') h r,e=>by
    by_cases hk:k'=k
    · rw [valV_pos (p:=(k',v')) hk]
      unfold valD at e
      rw [List.find?_cons_of_pos (by simpa using hk)] at e
      cases e
      exact ⟨_,rfl,h⟩
    · rw [valV_neg (p:=(k',v')) hk]
      unfold valD at e
      rw [List.find?_cons_of_neg (by simpa using hk)] at e
      exact RepKs.val r e
theorem keyD_rep {K:PySem.W.Frag} {μ:List Addr} {H:Hp} {d:D} {v:V} {k:Key} (r:Rep K μ H d v) (e:keyD d=some k):v=kV k:=by
  unfold keyD at e
  cases r <;> first | (cases e; rfl) | cases e
theorem DicV.at {K:PySem.W.Frag} {k:Str} {c:Cv}:∀ {kvs:List (Str × Cv)} {vs:List (Key × Value)},DicV K kvs vs->kvs.lookup k=some c->∃ v,valueAt vs (Sum.inr k:Key)=some v /\ CvOk K v c
  | [],[],_,e=>by cases e
  | [],_ :: _,h,_=>h.elim
  | _ :: _,[],h,_=>h.elim
  | (k',ys) :: r,(q,v) :: s,⟨h1,h2,h4⟩,e=>by
    rw [List.lookup_cons] at e
    by_cases hk:k=k'
    · subst hk
      simp only [beq_self_eq_true] at e
      cases e
      refine ⟨v,?_,h2⟩
      unfold valueAt
      rw [List.find?_cons_of_pos (by simpa using h1)]
      rfl
    · have hb:(k == k')=false:=by simpa using hk
      rw [hb] at e
      obtain ⟨b,e1,e2⟩:=DicV.at h4 e
      refine ⟨b,?_,e2⟩
      unfold valueAt at e1 ⊢
      rw [List.find?_cons_of_neg (by
        have h1':q=Sum.inr k':=h1
        simp only [decide_eq_true_eq]
        intro z
        rw [h1'] at z
        exact hk (Sum.inr.inj z).symm)]
      exact e1
noncomputable def CvV (K:PySem.W.Frag) (u:V):Cv->Prop
  | .tup xs=>∃ a,u=.ref a /\ TupK K a xs
  | .int i=>u=.int i
theorem CvOk.v {K:PySem.W.Frag} {v:Value} {c:Cv} (h:CvOk K v c):∃ u,RelV u v /\ CvV K u c:=by
  cases c with
  | tup xs=>obtain ⟨a,rfl,t⟩:=h; exact ⟨.ref a,rfl,a,rfl,t⟩
  | int i=>obtain ⟨t,rfl⟩:=h; exact ⟨.int i,⟨t,rfl⟩,rfl⟩
theorem ix_cst {kvs:List (Str × Cv)}:IxR X (fun x y H Q=>∃ a k c,x=.ref a /\ y=.str k /\ CnOk X.prog X.w X.K (.ref a) (.dic kvs) /\ kvs.lookup k=some c /\ ∀ u,CvV X.K u c->Q u H):=by
  intro value slice pins s σ H x y v u Q I rx ry h hs
  obtain ⟨a,k,xs,rfl,rfl,ok,l,q⟩:=h
  cases rx
  obtain ⟨a',o,es,ep,vs,ea,e1,ex,ed,ks,ps,nd,dv⟩:=ok
  cases ea
  obtain ⟨b,e2,tk⟩:=dv.at l
  obtain ⟨bu,tr,tk⟩:=tk.v
  have eh:=I.kIn a o e1
  have dd:s.heap.DictOf (mixKind X.prog X.w) a vs:=⟨o,es,ep,eh,ex,ed,ks,ps,nd⟩
  exact tail_any ⟨o,eh,ex.1⟩ slot_dict_getitem.lookup (wpAny_getItem_of (kV_is (k:=.inr k) ry) dd.mapOf e2 ⟨bu,H,I.tok _,tr,q bu tk⟩) hs
theorem TupK.rep {K:PySem.W.Frag} {μ:List Addr} {H:Hp} {a:Addr} {xs:List Str} (h:TupK K a xs):Rep K μ H (.tup (xs.map .str)) (.ref a):=by
  have rs:∀ ys:List Str,Reps K μ H (ys.map D.str) (ys.map V.str):=fun ys=>by
    induction ys with
    | nil=>exact .nil
    | cons y r ih=>exact .cons (.str y) ih
  exact .tup (.inr h) (rs xs)
theorem CvV.rep {K:PySem.W.Frag} {μ:List Addr} {H:Hp} {u:V} {c:Cv} (h:CvV K u c):Rep K μ H c.d u:=by
  cases c with
  | tup xs=>obtain ⟨a,rfl,t⟩:=h; exact t.rep
  | int i=>cases h; exact .int i
theorem ix_ours (hu:X.A.units + 1 < cLine):IxR X (r2 X.K cv subD):=by
  intro value slice pins s σ H x y v u Q I rx ry hh hs
  obtain ⟨μ,h,a,b,Z',hr,ra,rb,p⟩:=hh
  cases ra with
  | tup h1 h2 =>
    cases rb with
    | int k =>
      rw [sub_tup] at p
      split at p
      · rename_i d e
        obtain ⟨w,e1,e2⟩:=h2.atI e
        exact ix_tup value slice pins s σ H _ _ v u Q I rx ry ⟨_,_,_,w,rfl,rfl,h1,e1,p.here hr e2⟩ hs
      · exact p.elim
    | _=>exact p.elim
  | fl h1 h2 =>
    cases rb with
    | int k =>
      rw [sub_fl] at p
      split at p
      · rename_i d e
        obtain ⟨w,e1,e2⟩:=h2.atI e
        exact ix_list value slice pins s σ H _ _ v u Q I rx ry ⟨_,_,_,w,rfl,rfl,h1.sq,e1,p.here hr e2⟩ hs
      · exact p.elim
    | _=>exact p.elim
  | str z =>
    cases rb with
    | int k =>
      rw [sub_str] at p
      split at p
      · rename_i c
        split at p
        · rename_i d e
          exact ix_str value slice pins s σ H _ _ v u Q I rx ry ⟨_,_,_,rfl,rfl,line_le c,e,p.here hr (.str _)⟩ hs
        · exact p.elim
      · exact p.elim
    | _=>exact p.elim
  | @loc nn a m =>
    rw [sub_loc] at p
    cases e1:h[nn]? with
    | none=>rw [e1] at p; exact p.elim
    | some o =>
      rw [e1] at p
      have q:=hr.obj nn a o m e1
      cases o with
      | lst xs =>
        obtain ⟨vs,q1,q2⟩:=q
        cases rb with
        | int k =>
          cases e2:atI xs k with
          | none=>simp only [e2] at p; exact p.elim
          | some d =>
            simp only [e2] at p
            obtain ⟨w,e3,e4⟩:=q2.atI e2
            exact ix_list value slice pins s σ H _ _ v u Q I rx ry ⟨_,_,_,w,rfl,rfl,SqL.of q1,e3,p.here hr e4⟩ hs
        | _=>exact p.elim
      | dK kvs =>
        obtain ⟨vs,q1,q2⟩:=q
        cases e2:keyD b with
        | none=>simp only [e2,Option.bind_none] at p; exact p.elim
        | some k =>
          simp only [e2,Option.bind_some] at p
          cases e3:valD kvs k with
          | none=>simp only [e3] at p; exact p.elim
          | some d =>
            simp only [e3] at p
            obtain ⟨w,e4,e5⟩:=q2.val e3
            have ey:=keyD_rep rb e2
            subst ey
            exact ix_dict hu value slice pins s σ H _ _ v u Q I rx ry ⟨_,w,rfl,e4 ▸ DGet.k q1,p.here hr e5⟩ hs
  | _=>exact p.elim
noncomputable def rLen (K:PySem.W.Frag) (cv:Nat->Value):List V->Hp->VK->Prop:=fun xs H Q=>∃ x,xs=[x] /\ r1 K cv lenD x H Q
theorem call_lenI:CallR X (.builtin "len") (rLen X.K cv):=by
  intro pins s σ H xs us Q I r hh
  obtain ⟨x,rfl,μ,h,a,Z',hr,ra,p⟩:=hh
  refine call_len pins s σ H _ us Q I r ⟨x,?_⟩
  cases ra with
  | tup h1 h2=>exact ⟨_,rfl,.inr ⟨_,h1,h2.length⟩,p.here hr (.int _)⟩
  | @loc nn b m =>
    rw [len_loc] at p
    cases e1:rd h nn with
    | none=>rw [e1] at p; exact p.elim
    | some ys =>
      rw [e1] at p
      obtain ⟨vs,hs1,rs⟩:=hr.rd e1 m
      exact ⟨_,rfl,.inl ⟨_,hs1,rs.length⟩,p.here hr (.int _)⟩
  | fl h1 h2=>exact ⟨_,rfl,.inl ⟨_,h1.sq,h2.length⟩,p.here hr (.int _)⟩
  | str y =>
    rw [len_str] at p
    split at p
    · rename_i c; exact ⟨_,rfl,⟨line_le c,rfl⟩,p.here hr (.int _)⟩
    · exact p.elim
  | _=>exact p.elim
noncomputable def isD (T:Nat) (d:D) (h:Hh):Res D:=match isI h d T with | some b=>.ok (.bl b) h | none=>.no
theorem five {P:Nat->Prop} {T:Nat} (hT:T < 5) (a:P 0) (b:P 1) (c:P 2) (d:P 3) (e:P 4):P T:=by
  match T,hT with | 0,_=>exact a | 1,_=>exact b | 2,_=>exact c | 3,_=>exact d | 4,_=>exact e
theorem call_isI (T:Nat) (hT:T < 5):CallR X (.builtin "isinstance") (fun xs H Q=>∃ x,xs=[x,.ty (tyStr T)] /\ r1 X.K cv (isD T) x H Q):=by
  intro pins s σ H xs us Q I r hh
  obtain ⟨x,rfl,μ,h,a,Z',hr,ra,p⟩:=hh
  obtain ⟨u,w',rfl,rx,rw'⟩:=vals2 r
  cases (show w'=Value.type (tyStr T) from rw')
  unfold isD at p
  have key:∀ (b:Bool),Q (.bl b) H->∀ tk,EP X pins σ Q (.bool b) { s with toks:=tk }:=fun b q tk=>⟨.bl b,H,I.tok _,rfl,q⟩
  cases ra with
  | non =>
    have p1:Q (.bl false) H:=p.here hr (.bl _)
    refine isinst_ok I rx .non (b:=false) ?_ (key _ p1)
    apply five hT <;> rfl
  | bl y =>
    have p1:Q (.bl (T == 0 || T == 1)) H:=p.here hr (.bl _)
    refine isinst_ok I rx (.bl y) (b:=(T == 0 || T == 1)) ?_ (key _ p1)
    apply five hT <;> rfl
  | int y =>
    have p1:Q (.bl (T == 0)) H:=p.here hr (.bl _)
    refine isinst_ok I rx (.int y) (b:=(T == 0)) ?_ (key _ p1)
    apply five hT <;> rfl
  | str y =>
    have p1:Q (.bl (T == 2)) H:=p.here hr (.bl _)
    refine isinst_ok I rx (.str y) (b:=(T == 2)) ?_ (key _ p1)
    apply five hT <;> rfl
  | tup h1 h2 =>
    have p1:Q (.bl (T == 3)) H:=p.here hr (.bl _)
    cases rx
    obtain ⟨its,rv,⟨o,g1,g2,_⟩,_⟩:=I.tuple h1
    refine PySem.W.kia_one PySem.W.kitx_tuple I.kIn ⟨_,g1,g2⟩ (b:=(T == 3)) ?_ (fun z=>nomatch z) (key _ p1)
    apply five hT <;> rfl
  | fl h1 h2 =>
    have p1:Q (.bl (T == 4)) H:=p.here hr (.bl _)
    cases rx
    obtain ⟨its,rv,⟨o,n',g1,g2,_⟩,_⟩:=I.list h1.sq
    refine PySem.W.kia_one PySem.W.kitx_list I.kIn ⟨_,g1,g2⟩ (b:=(T == 4)) ?_ (fun z=>nomatch z) (key _ p1)
    apply five hT <;> rfl
  | @loc nn b m =>
    cases e1:rd h nn with
    | none=>rw [show isI h (.loc nn) T=(rd h nn).map fun _=>T == 4 from rfl,e1] at p; exact p.elim
    | some ys =>
      rw [show isI h (.loc nn) T=(rd h nn).map fun _=>T == 4 from rfl,e1] at p
      have p1:Q (.bl (T == 4)) H:=p.here hr (.bl _)
      obtain ⟨vs,hs1,rs⟩:=hr.rd e1 m
      cases rx
      obtain ⟨its,rv,⟨o,n',g1,g2,_⟩,_⟩:=I.list hs1
      refine PySem.W.kia_one PySem.W.kitx_list I.kIn ⟨_,g1,g2⟩ (b:=(T == 4)) ?_ (fun z=>nomatch z) (key _ p1)
      apply five hT <;> rfl
end
end PI
set_option Elab.async false
set_option linter.all false
set_option maxRecDepth 100000
set_option maxHeartbeats 4000000
namespace PI
open PySem L2 PySem.Spec
open PyProof.Rows hiding St
section
variable {X:Cx} {Z:ZK} {k:Nat} {n:Nm} {cv:Nat->Value} {cl:Nat->List D->Hh->Res D}
noncomputable def rM0 (K:PySem.W.Frag) (cv:Nat->Value) (m:M0):V->List V->Hp->VK->Prop:=fun x vs H Q=>vs=[] /\ r1 K cv (m0D m) x H Q
noncomputable def rM1 (K:PySem.W.Frag) (cv:Nat->Value) (m:M1):V->List V->Hp->VK->Prop:=fun x vs H Q=>∃ y,vs=[y] /\ r2 K cv (m1D m) x y H Q
theorem lst_of {K:PySem.W.Frag} {μ:List Addr} {H:Hp} {h:Hh} (hr:HR K μ h H) {n:Nat} {a:Addr} {xs:List D} (m:μ[n]?=some a) (e:h[n]?=some (.lst xs)):∃ vs,H a=some (.lst vs) /\ Reps K μ H xs vs:=hr.obj n a _ m e
theorem Reps.dropLast {K:PySem.W.Frag} {μ:List Addr} {H:Hp}:∀ {ds:List D} {vs:List V},Reps K μ H ds vs->Reps K μ H ds.dropLast vs.dropLast
  | _,_,.nil=>.nil
  | _,_,.cons h .nil=>.nil
  | _,_,.cons h (.cons h' r)=>.cons h (Reps.dropLast (.cons h' r))
theorem Reps.take {K:PySem.W.Frag} {μ:List Addr} {H:Hp}:∀ {ds:List D} {vs:List V} (i:Nat),Reps K μ H ds vs->Reps K μ H (ds.take i) (vs.take i)
  | _,_,0,_=>.nil
  | _,_,_ + 1,.nil=>.nil
  | _,_,i + 1,.cons h r=>.cons h (Reps.take i r)
theorem Reps.drop {K:PySem.W.Frag} {μ:List Addr} {H:Hp}:∀ {ds:List D} {vs:List V} (i:Nat),Reps K μ H ds vs->Reps K μ H (ds.drop i) (vs.drop i)
  | _,_,0,r=>r
  | _,_,_ + 1,.nil=>.nil
  | _,_,i + 1,.cons _ r=>Reps.drop i r
theorem Reps.cut {K:PySem.W.Frag} {μ:List Addr} {H:Hp} {ds:List D} {vs:List V} (r:Reps K μ H ds vs) (lo hi:Option Int):Reps K μ H (cutXs ds lo hi) (cutV vs lo hi):=by
  unfold cutXs cutV
  rw [<- r.length]
  exact (r.drop _).take _
theorem mt_pop0:MtR X "list.pop" (rM0 X.K cv .pop):=by
  intro pins s σ H x xs v us Q I rx rs hh
  obtain ⟨rfl,μ,h,a,Z',hr,ra,p⟩:=hh
  unfold m0D at p
  cases ra with
  | @loc nn b m =>
    cases e1:h[nn]? with
    | none=>simp only [e1] at p; exact p.elim
    | some o =>
      cases o with
      | dK _=>simp only [e1] at p; exact p.elim
      | lst ds =>
        simp only [e1] at p
        obtain ⟨vs,q1,q2⟩:=lst_of hr m e1
        cases e2:ds.getLast? with
        | none=>simp only [e2] at p; exact p.elim
        | some d =>
          simp only [e2] at p
          rw [List.getLast?_eq_getElem?] at e2
          obtain ⟨w,e3,e4⟩:=q2.get e2
          rw [q2.length] at e3
          obtain ⟨hr',ex⟩:=hr.chg (u:=.lst vs.dropLast) (o':=.lst ds.dropLast) e1 m fun H' ex e=>⟨_,e,(q2.mono ex).dropLast⟩
          exact mt_pop pins s σ H _ _ v us Q I rx rs ⟨b,vs,w,rfl,rfl,q1,e3,p μ _ w ex hr' (e4.mono ex)⟩
  | _=>exact p.elim
theorem mt_append1:MtR X "list.append" (rM1 X.K cv .append):=by
  intro pins s σ H x xs v us Q I rx rs hh
  obtain ⟨y,rfl,μ,h,a,d,Z',hr,ra,rb,p⟩:=hh
  unfold m1D at p
  cases ra with
  | @loc nn b m =>
    cases e1:h[nn]? with
    | none=>simp only [e1] at p; exact p.elim
    | some o =>
      cases o with
      | dK _=>simp only [e1] at p; exact p.elim
      | lst ds =>
        simp only [e1] at p
        obtain ⟨vs,q1,q2⟩:=lst_of hr m e1
        split at p
        · rename_i c
          obtain ⟨hr',ex⟩:=hr.chg (u:=.lst (vs ++ [y])) (o':=.lst (ds ++ [d])) e1 m fun H' ex e=>⟨_,e,(q2.mono ex).append (.cons (rb.mono ex) .nil)⟩
          exact mt_append pins s σ H _ _ v us Q I rx rs ⟨b,vs,y,rfl,rfl,q1,by rw [<- q2.length]; exact line_lt c,p μ _ .non ex hr' .non⟩
        · exact p.elim
  | _=>exact p.elim
noncomputable def rCut (K:PySem.W.Frag) (cv:Nat->Value):V->Option Int->Option Int->Hp->VK->Prop:=fun x lo hi H Q=>∃ μ h a Z,HR K μ h H /\ Rep K μ H a x /\ PostE K cv (Rep K) μ H (cutD a lo hi h) Q Z
theorem new_loc {K:PySem.W.Frag} {cv:Nat->Value} {μ:List Addr} {H:Hp} {h:Hh} {ds:List D} {vs:List V} {Q:VK} {Z:Value->Hp->Prop} (hr:HR K μ h H) (r:Reps K μ H ds vs) (p:PostE K cv (Rep K) μ H (new (.lst ds) h) Q Z) :
    ∀ b,H b=none->Q (.ref b) (upd H b (.lst vs)):=fun b hb=>by
  refine p _ _ _ ((ext_new hb).add hb) (hr.alloc hb (hr.fresh hb) fun μ' g=>⟨_,upd_same,(r.mono (ext_new hb)).mono' g⟩) (.loc ?_)
  rw [<- hr.len,List.getElem?_append_right (Nat.le_refl _),Nat.sub_self]
  rfl
theorem cut_tup {xs:List D} {lo hi:Option Int} {h:Hh}:cutD (.tup xs) lo hi h=if HT.sIx xs.length 0 lo=0 /\ HT.sIx xs.length xs.length hi=xs.length then .ok (.tup xs) h else .ok (.tup (cutXs xs lo hi)) h:=rfl
theorem cut_loc {n:Nat} {lo hi:Option Int} {h:Hh}:cutD (.loc n) lo hi h=match rd h n with | some xs=>new (.lst (cutXs xs lo hi)) h | none=>.no:=rfl
theorem sl_ours:SlR X (rCut X.K cv):=by
  intro pins s σ H x v vl vu lo hi sl Q I rx hs pl pu hh
  obtain ⟨μ,h,a,Z',hr,ra,p⟩:=hh
  cases ra with
  | tup h1 h2 =>
    rw [cut_tup] at p
    split at p
    · rename_i c
      rw [h2.length] at c
      exact sl_tupW pins s σ H _ v vl vu lo hi sl Q I rx hs pl pu ⟨_,_,rfl,h1,c.1,c.2,p.here hr (.tup h1 h2)⟩
    · rename_i c
      rw [h2.length] at c
      exact sl_tup pins s σ H _ v vl vu lo hi sl Q I rx hs pl pu ⟨_,_,rfl,h1,c,fun b hb=>p μ _ _ (ext_new hb) (hr.tup hb) (.tup (SqT.of upd_same) ((h2.cut lo hi).mono (ext_new hb)))⟩
  | fl h1 h2=>exact sl_list pins s σ H _ v vl vu lo hi sl Q I rx hs pl pu ⟨_,_,rfl,h1.sq,new_loc hr (h2.cut lo hi) p⟩
  | str x =>
    simp only [cutD] at p
    split at p
    · rename_i c
      exact sl_str pins s σ H _ v vl vu lo hi sl Q I rx hs pl pu ⟨x,rfl,Nat.le_trans c (by decide),p.here hr (.str _)⟩
    · exact p.elim
  | @loc nn b m =>
    rw [cut_loc] at p
    cases e1:rd h nn with
    | none=>simp only [e1] at p; exact p.elim
    | some xs =>
      simp only [e1] at p
      obtain ⟨vs,hs1,rs⟩:=hr.rd e1 m
      exact sl_list pins s σ H _ v vl vu lo hi sl Q I rx hs pl pu ⟨_,_,rfl,hs1,new_loc hr (rs.cut lo hi) p⟩
  | _=>exact p.elim
theorem seqOf_rep {K:PySem.W.Frag} {μ:List Addr} {H:Hp} {h:Hh} {d:D} {v:V} {xs:List D} (hr:HR K μ h H) (r:Rep K μ H d v) (e:seqOf d h=some xs):∃ a vs,v=.ref a /\ ((SqL K H a vs /\ (∀ ys,d ≠ .tup ys)) \/ (SqT K H a vs /\ d=.tup xs)) /\ Reps K μ H xs vs:=by
  unfold seqOf at e
  cases r with
  | tup h1 h2=>cases e; exact ⟨_,_,rfl,.inr ⟨h1,rfl⟩,h2⟩
  | fl h1 h2=>cases e; exact ⟨_,_,rfl,.inl ⟨h1.sq,fun _ z=>nomatch z⟩,h2⟩
  | @loc nn b m =>
    unfold PI.rd at e
    cases e1:h[nn]? with
    | none=>simp only [e1] at e; cases e
    | some o =>
      cases o with
      | dK _=>simp only [e1] at e; cases e
      | lst ds =>
        simp only [e1] at e
        cases e
        obtain ⟨vs,q1,q2⟩:=lst_of hr m e1
        exact ⟨_,_,rfl,.inl ⟨SqL.of q1,fun _ z=>nomatch z⟩,q2⟩
  | _=>cases e
noncomputable def listD (d:D) (h:Hh):Res D:=match seqOf d h with | some xs=>new (.lst xs) h | none=>.no
noncomputable def tupD (d:D) (h:Hh):Res D:=match seqOf d h with | some xs=>.ok (.tup xs) h | none=>.no
theorem call_listI:CallR X (.type "list") (fun xs H Q=>∃ x,xs=[x] /\ r1 X.K cv listD x H Q):=by
  intro pins s σ H xs us Q I r hh
  obtain ⟨x,rfl,μ,h,a,Z',hr,ra,p⟩:=hh
  unfold listD at p
  cases e:seqOf a h with
  | none=>rw [e] at p; exact p.elim
  | some ds =>
    rw [e] at p
    obtain ⟨b,vs,rfl,q1,q2⟩:=seqOf_rep hr ra e
    exact call_list_of pins s σ H _ us Q I r ⟨b,vs,rfl,q1.elim (fun z=>.inl z.1) (fun z=>.inr z.1),new_loc hr q2 p⟩
theorem call_tupI:CallR X (.type "tuple") (fun xs H Q=>∃ x,xs=[x] /\ r1 X.K cv tupD x H Q):=by
  intro pins s σ H xs us Q I r hh
  obtain ⟨x,rfl,μ,h,a,Z',hr,ra,p⟩:=hh
  unfold tupD at p
  cases e:seqOf a h with
  | none=>rw [e] at p; exact p.elim
  | some ds =>
    rw [e] at p
    obtain ⟨b,vs,rfl,q1,q2⟩:=seqOf_rep hr ra e
    refine call_tuple_of pins s σ H _ us Q I r ⟨b,vs,rfl,?_⟩
    rcases q1 with ⟨q1,_⟩ | ⟨q1,rfl⟩
    · exact .inl ⟨q1,fun l hl=>p μ _ _ (ext_new hl) (hr.tup hl) (.tup (SqT.of upd_same) (q2.mono (ext_new hl)))⟩
    · exact .inr ⟨q1,p.here hr ra⟩
theorem bls_reps {K:PySem.W.Frag} {μ:List Addr} {H:Hp}:∀ {ds:List D} {vs:List V} {bs:List Bool},Reps K μ H ds vs->blsOf ds=some bs->vs=bs.map V.bl
  | _,_,_,.nil,e=>by cases e; rfl
  | _,_,_,.cons r t,e=>by
    cases r with
    | bl b =>
      unfold blsOf at e
      obtain ⟨bs',e1,rfl⟩:=Option.map_eq_some_iff.mp e
      rw [bls_reps t e1]
      rfl
    | _=>cases e
theorem rd_reps {K:PySem.W.Frag} {μ:List Addr} {H:Hp} {h:Hh} {n:Nat} {a:Addr} {ds:List D} (hr:HR K μ h H) (m:μ[n]?=some a) (e:PI.rd h n=some ds):∃ vs,H a=some (.lst vs) /\ Reps K μ H ds vs:=by
  unfold PI.rd at e
  cases e1:h[n]? with
  | none=>simp only [e1] at e; cases e
  | some o =>
    cases o with
    | dK _=>simp only [e1] at e; cases e
    | lst xs =>
      simp only [e1] at e
      cases e
      exact lst_of hr m e1
theorem call_strI:CallR X (.type "str") (fun xs H Q=>∃ x,xs=[x] /\ r1 X.K cv (c1D .str) x H Q):=by
  intro pins s σ H xs us Q I r hh
  obtain ⟨x,rfl,μ,h,a,Z',hr,ra,p⟩:=hh
  unfold c1D at p
  cases ra with
  | int i =>
    simp only at p
    split at p
    · rename_i c
      exact call_str_int pins s σ H _ us Q I r ⟨i,rfl,c,p.here hr (.str _)⟩
    · exact p.elim
  | str z =>
    obtain ⟨u,rfl,t,rfl⟩:=vals1 r
    exact PySem.P.str_of_str ⟨.str z,H,I,⟨_,rfl⟩,p.here hr (.str _)⟩
  | _=>exact p.elim
theorem call_intI:CallR X (.type "int") (fun xs H Q=>∃ x,xs=[x] /\ r1 X.K cv (c1D .int) x H Q):=by
  intro pins s σ H xs us Q I r hh
  obtain ⟨x,rfl,μ,h,a,Z',hr,ra,p⟩:=hh
  unfold c1D at p
  cases ra with
  | int i=>exact call_int1 pins s σ H _ us Q I r (.inl ⟨i,rfl,p.here hr (.int _)⟩)
  | bl b=>exact call_int1 pins s σ H _ us Q I r (.inr ⟨b,rfl,p.here hr (.int _)⟩)
  | str z =>
    simp only at p
    split at p
    · rename_i n e
      split at p
      · rename_i c
        exact call_intS pins s σ H _ us Q I r ⟨z,n,rfl,e,c,p.here hr (.int _)⟩
      · exact p.elim
    · exact p.elim
  | _=>exact p.elim
theorem call_absI:CallR X (.builtin "abs") (fun xs H Q=>∃ x,xs=[x] /\ r1 X.K cv (c1D .abs) x H Q):=by
  intro pins s σ H xs us Q I r hh
  obtain ⟨x,rfl,μ,h,a,Z',hr,ra,p⟩:=hh
  unfold c1D at p
  cases ra with
  | int i=>exact call_abs pins s σ H _ us Q I r ⟨i,rfl,p.here hr (.int _)⟩
  | _=>exact p.elim
theorem call_allI (hc:X.calm=true):CallR X (.builtin "all") (fun xs H Q=>∃ x,xs=[x] /\ r1 X.K cv (c1D .all) x H Q):=by
  intro pins s σ H xs us Q I r hh
  obtain ⟨x,rfl,μ,h,a,Z',hr,ra,p⟩:=hh
  unfold c1D at p
  cases ra with
  | @loc nn b m =>
    simp only at p
    split at p
    · rename_i bs e
      obtain ⟨ds,e1,e2⟩:=Option.bind_eq_some_iff.mp e
      obtain ⟨vs,q1,q2⟩:=rd_reps hr m e1
      have ev:=bls_reps q2 e2
      subst ev
      exact call_all hc pins s σ H _ us Q I r ⟨b,bs,rfl,SqL.of q1,p.here hr (.bl _)⟩
    · exact p.elim
  | _=>exact p.elim
theorem call_any (hc:X.calm=true):CallR X (.builtin "any") (fun xs H Q=>∃ (p:Addr) (bs:List Bool),xs=[.ref p] /\ SqL X.K H p (bs.map V.bl) /\ Q (.bl (bs.any id)) H):=by
  intro pins s σ H xs us Q I r h
  obtain ⟨p,bs,rfl,hq,q⟩:=h
  obtain ⟨u,rfl,ru⟩:=vals1 r
  cases ru
  obtain ⟨its,rv,pl,hz⟩:=I.list hq
  have hb:=bools_of rv
  have hl:s.heap.IsList p its.toArray:=pl.isList
  have hlt:p < s.heap.objs.size:=by obtain ⟨_,e,_⟩:=hl; exact Heap.lt_size e
  refine call_any_walk (wpAny_pyIter_list hl ?_)
  refine ⟨s.heap.objs.size,[s.heap.objs.size,p],[s.heap.objs.size],its.toArray.size,_,_,fun i=>(bs[i]?).getD false,rfl,Walks.list (A:=X.A.in1) (I.ok.hd hc) _ p (Nat.ne_of_lt hlt) its.toArray,
    ⟨⟨_,Heap.get?_push_size _ rfl,rfl,rfl⟩,hl.push _⟩,fun i v s' Q' E' hP hQ=>?_,fun h' tk hk=>?_⟩
  · obtain ⟨b,e,rfl⟩:=hb.get i v (by simpa using hP)
    simp only [e,Option.getD_some] at hQ
    exact wpAny_truthy_bool hQ
  · have e:((List.range its.toArray.size).any fun i=>(bs[i]?).getD false)=bs.any id:=by
      rw [List.size_toArray,hb.length]; exact PyProof.Rows.LSm.range_any bs
    rw [e]
    exact ⟨.bl (bs.any id),H,I.kept (PyProof.Rows.LSm.kept_iter hk),rfl,q⟩
theorem call_anyI (hc:X.calm=true):CallR X (.builtin "any") (fun xs H Q=>∃ x,xs=[x] /\ r1 X.K cv (c1D .any) x H Q):=by
  intro pins s σ H xs us Q I r hh
  obtain ⟨x,rfl,μ,h,a,Z',hr,ra,p⟩:=hh
  unfold c1D at p
  cases ra with
  | @loc nn b m =>
    simp only at p
    split at p
    · rename_i bs e
      obtain ⟨ds,e1,e2⟩:=Option.bind_eq_some_iff.mp e
      obtain ⟨vs,q1,q2⟩:=rd_reps hr m e1
      have ev:=bls_reps q2 e2
      subst ev
      exact call_any hc pins s σ H _ us Q I r ⟨b,bs,rfl,SqL.of q1,p.here hr (.bl _)⟩
    · exact p.elim
  | _=>exact p.elim
theorem strs_rep {K:PySem.W.Frag} {μ:List Addr} {H:Hp} (ys:List Str):Reps K μ H (ys.map D.str) (ys.map V.str):=by
  induction ys with
  | nil=>exact .nil
  | cons y r ih=>exact .cons (.str y) ih
theorem mt_splitI:MtR X "str.split" (fun x vs H Q=>∃ y,vs=[y] /\ r2 X.K cv splitD x y H Q):=by
  intro pins s σ H x xs v us Q I rx rs hh
  obtain ⟨y,rfl,μ,h,a,d,Z',hr,ra,rb,p⟩:=hh
  unfold splitD at p
  cases ra with
  | str z =>
    cases rb with
    | str w =>
      simp only at p
      split at p
      · rename_i c
        exact mt_split pins s σ H _ _ v us Q I rx rs ⟨z,w,rfl,rfl,c.1,line_le c.2.1,line_le c.2.2.1,line_le c.2.2.2,new_loc hr (strs_rep _) p⟩
      · exact p.elim
    | _=>exact p.elim
  | _=>exact p.elim
end
end PI
set_option Elab.async false
set_option linter.all false
set_option maxRecDepth 100000
set_option maxHeartbeats 4000000
namespace PI
open PySem L2 PySem.Spec
open PyProof.Rows hiding St
theorem lift_bind0 {α β γ δ:Type} {K:PySem.W.Frag} {cv:Nat->Value} {R:List Addr->Hp->α->β->Prop} {R':List Addr->Hp->γ->δ->Prop} {μ0 μ:List Addr} {ρ:En} {h:Hh} {σ:St} {H0 H:Hp} {Z:ZK} {Zz:Value->Hp->Prop} {m:En->Hh->Res α} {f:α->Hh->Res γ} {Q:δ->Hp->Prop} {Q':β->Hp->Prop}
    (e0:Ext K μ0 H0 μ H) (hr:HR K μ h H) (er:ER K μ ρ σ H) (p:PostE K cv R' μ0 H0 ((m ρ h).bind f) Q Zz) (hz:∀ C H',Zz C H'->Z σ C H')
    (go:∀ a h1 μ1 H1 x,m ρ h=.ok a h1->Ext K μ H μ1 H1->HR K μ1 h1 H1->ER K μ1 ρ σ H1->R μ1 H1 a x->PostE K cv R' μ0 H0 (f a h1) Q Zz->Q' x H1) :
    lift K cv R Z m σ H Q':=by
  refine ⟨μ,ρ,h,hr,er,?_⟩
  cases e:m ρ h with
  | ok a h1 =>
    rw [e,bind_ok] at p
    exact fun μ1 H1 x e1 r1 q1=>go a h1 μ1 H1 x e e1 r1 (er.mono e1) q1 p
  | exc c h1 =>
    rw [e,bind_exc] at p
    exact fun μ1 H1 e1 r1=>hz _ _ (p μ1 H1 (e0.trans e1) r1)
  | no=>rw [e,bind_no] at p; exact p
noncomputable def Src (K:PySem.W.Frag) (μ0:List Addr) (H0:Hp) (c:Ck) (ds:List D) (J:It):Prop:=∀ μ h H,Ext K μ0 H0 μ H->HR K μ h H->stay c h ->
  (∀ i d,ds[i]?=some d->J.go i H /\ ∀ x H',J.yld i H x H'->Ext K μ H μ H' /\ HR K μ h H' /\ Rep K μ H' d x) /\ J.stop ds.length H
noncomputable def RJ (K:PySem.W.Frag):List Addr->Hp->(Ck × List D)->It->Prop:=fun μ H q J=>Src K μ H q.1 q.2 J
noncomputable def RL (K:PySem.W.Frag) (H0:Hp):List Addr->Hp->List D->V->Prop:=fun μ H ds v=>∃ p vs,v=.ref p /\ H p=some (.lst vs) /\ Reps K μ H ds vs /\ p ∉ μ /\ H0 p=none
noncomputable abbrev liftL (K:PySem.W.Frag) (cv:Nat->Value) (Z:ZK) (m:En->Hh->Res (List D)):TE:=fun σ H Q=>lift K cv (RL K H) Z m σ H Q
section
variable {K:PySem.W.Frag} {μ:List Addr} {H:Hp} {h:Hh} {ds:List D} {vs:List V} {a:Addr}
theorem src_of {c:Ck} {J:It} (k:∀ μ1 h1 H1,Ext K μ H μ1 H1->HR K μ1 h1 H1->stay c h1->(∀ i d,ds[i]?=some d->J.go i H1 /\ ∀ x H',J.yld i H1 x H'->H'=H1 /\ Rep K μ1 H1 d x) /\ J.stop ds.length H1):Src K μ H c ds J:=fun μ1 h1 H1 ex hr st =>
  ⟨fun i d e=>⟨((k μ1 h1 H1 ex hr st).1 i d e).1,fun x H' y=>by obtain ⟨rfl,r⟩:=((k μ1 h1 H1 ex hr st).1 i d e).2 x H' y; exact ⟨Ext.refl,hr,r⟩⟩,(k μ1 h1 H1 ex hr st).2⟩
theorem src_sq {c:Ck} (k:∀ μ1 h1 H1,Ext K μ H μ1 H1->HR K μ1 h1 H1->stay c h1->∃ vs,SqL K H1 a vs /\ Reps K μ1 H1 ds vs):Src K μ H c ds (Itl K a):=src_of fun μ1 h1 H1 ex hr st=>by
  obtain ⟨vs,q1,q2⟩:=k μ1 h1 H1 ex hr st
  refine ⟨fun i d e=>?_,⟨vs,q1,by rw [<- q2.length]; exact Nat.le_refl _⟩⟩
  obtain ⟨w,e1,e2⟩:=q2.get e
  refine ⟨⟨vs,w,q1,e1⟩,fun x H' y=>⟨y.1,?_⟩⟩
  have:=y.2 vs q1
  rw [e1] at this
  cases this
  exact e2
theorem src_loc {n:Nat} (m:μ[n]?=some a):Src K μ H [(n,ds)] ds (Itl K a):=src_sq fun μ1 h1 H1 ex hr st=>by
  have e:rd h1 n=some ds:=st (n,ds) (List.mem_singleton.mpr rfl)
  have m1:=ex.loc n a m
  unfold PI.rd at e
  cases e1:h1[n]? with
  | none=>simp only [e1] at e; cases e
  | some o =>
    cases o with
    | dK _=>simp only [e1] at e; cases e
    | lst xs =>
      simp only [e1] at e
      cases e
      obtain ⟨vs,q1,q2⟩:=lst_of hr m1 e1
      exact ⟨vs,SqL.of q1,q2⟩
theorem src_fl (f:Fz K H a vs) (r:Reps K μ H ds vs):Src K μ H [] ds (Itl K a):=src_sq fun μ1 h1 H1 ex hr st=>⟨vs,(ex.fz _ _ f).sq,r.mono ex⟩
theorem src_new (e:H a=some (.lst vs)) (n:a ∉ μ) (r:Reps K μ H ds vs):Src K μ H [] ds (Itl K a):=src_sq fun μ1 h1 H1 ex hr st=>⟨vs,SqL.of (ex.oth _ _ e n),r.mono ex⟩
theorem src_tup (f:SqT K H a vs) (r:Reps K μ H ds vs):Src K μ H [] ds (Itt K a):=src_of fun μ1 h1 H1 ex hr st=>by
  have q1:=ex.tup _ _ f
  have q2:=r.mono ex
  refine ⟨fun i d e=>?_,⟨vs,q1,by rw [<- q2.length]; exact Nat.le_refl _⟩⟩
  obtain ⟨w,e1,e2⟩:=q2.get e
  refine ⟨⟨vs,w,q1,e1⟩,fun x H' y=>⟨y.1,?_⟩⟩
  have:=y.2 vs q1
  rw [e1] at this
  cases this
  exact e2
theorem src_str (z:Str):Src K μ H [] (z.cps.toList.map fun c=>.str ⟨#[c]⟩) (Its z):=src_of fun μ1 h1 H1 ex hr st=>by
  refine ⟨fun i d e=>?_,by show z.length<=_; rw [List.length_map]; exact Nat.le_of_eq rfl⟩
  rw [List.getElem?_map] at e
  cases e1:z.cps.toList[i]? with
  | none=>rw [e1] at e; cases e
  | some c =>
    rw [e1] at e
    cases e
    refine ⟨?_,fun x H' y=>⟨y.1,?_⟩⟩
    · have:=(List.getElem?_eq_some_iff.mp e1).1
      exact (by simpa using this:i < z.cps.size)
    · obtain ⟨c',e2,rfl⟩:=y.2
      rw [e1] at e2
      cases e2
      exact .str _
theorem src_rv {c:Ck} (k:∀ μ1 h1 H1,Ext K μ H μ1 H1->HR K μ1 h1 H1->stay c h1->∃ vs,SqL K H1 a vs /\ Reps K μ1 H1 ds vs):Src K μ H c ds.reverse (Itv K a ds.length):=src_of fun μ1 h1 H1 ex hr st=>by
  obtain ⟨vs,q1,q2⟩:=k μ1 h1 H1 ex hr st
  have hl:=q2.length
  refine ⟨fun i d e=>?_,by show _=_; rw [List.length_reverse]⟩
  have hi:i < ds.length:=by have:=(List.getElem?_eq_some_iff.mp e).1; rwa [List.length_reverse] at this
  rw [List.getElem?_reverse hi] at e
  obtain ⟨w,e1,e2⟩:=q2.get e
  refine ⟨⟨hi,vs,q1,hl.symm⟩,fun x H' y=>⟨y.1,?_⟩⟩
  have:=y.2 vs q1
  rw [e1] at this
  cases this
  exact e2
theorem src_rvl {n:Nat} (m:μ[n]?=some a):Src K μ H [(n,ds)] ds.reverse (Itv K a ds.length):=src_rv fun μ1 h1 H1 ex hr st=>by
  have e:rd h1 n=some ds:=st (n,ds) (List.mem_singleton.mpr rfl)
  obtain ⟨vs,q1,q2⟩:=rd_reps hr (ex.loc n a m) e
  exact ⟨vs,SqL.of q1,q2⟩
theorem src_rvf (f:Fz K H a vs) (r:Reps K μ H ds vs):Src K μ H [] ds.reverse (Itv K a ds.length):=src_rv fun μ1 h1 H1 ex hr st=>⟨vs,(ex.fz _ _ f).sq,r.mono ex⟩
theorem zip_src {c:Ck} {d:D} {x:V} (r:Rep K μ H d x) (hr:HR K μ h H) (e:seqC d h=some (c,ds)):∃ l b vs,x=.ref l /\ SqB K H l b vs /\ vs.length=ds.length /\ ∀ μ1 h1 H1,Ext K μ H μ1 H1->HR K μ1 h1 H1->stay c h1->∃ vs',SqB K H1 l b vs' /\ Reps K μ1 H1 ds vs':=by
  cases r with
  | @tup xs vs a f r =>
    cases e
    exact ⟨a,false,vs,rfl,f,r.length.symm,fun μ1 h1 H1 ex _ _=>⟨vs,ex.tup _ _ f,r.mono ex⟩⟩
  | @fl xs vs a f r =>
    cases e
    exact ⟨a,true,vs,rfl,f.sq,r.length.symm,fun μ1 h1 H1 ex _ _=>⟨vs,(ex.fz _ _ f).sq,r.mono ex⟩⟩
  | @loc n a m =>
    have e:(PI.rd h n).map (fun xs=>(([(n,xs)],xs):Ck × List D))=some (c,ds):=e
    cases e1:PI.rd h n with
    | none=>rw [e1] at e; cases e
    | some xs =>
      rw [e1] at e
      cases e
      obtain ⟨vs,q1,q2⟩:=rd_reps hr m e1
      refine ⟨a,true,vs,rfl,SqL.of q1,q2.length.symm,fun μ1 h1 H1 ex hr1 st=>?_⟩
      obtain ⟨vs',q3,q4⟩:=rd_reps hr1 (ex.loc n a m) (st (n,ds) (List.mem_singleton.mpr rfl))
      exact ⟨vs',SqL.of q3,q4⟩
  | _=>cases e
theorem src_zip {c1 c2:Ck} {ds es:List D} {l1 l2:Addr} {b1 b2:Bool} (k1:∀ μ1 h1 H1,Ext K μ H μ1 H1->HR K μ1 h1 H1->stay c1 h1->∃ vs',SqB K H1 l1 b1 vs' /\ Reps K μ1 H1 ds vs') (k2:∀ μ1 h1 H1,Ext K μ H μ1 H1->HR K μ1 h1 H1->stay c2 h1->∃ vs',SqB K H1 l2 b2 vs' /\ Reps K μ1 H1 es vs') :
    Src K μ H (c1 ++ c2) ((ds.zip es).map pairT) (Itz K l1 l2 b1 b2 ds.length es.length):=fun μ1 h1 H1 ex hr st=>by
  obtain ⟨vs,q1,r1⟩:=k1 μ1 h1 H1 ex hr fun p hp=>st p (List.mem_append_left _ hp)
  obtain ⟨ws,q2,r2⟩:=k2 μ1 h1 H1 ex hr fun p hp=>st p (List.mem_append_right _ hp)
  refine ⟨fun i d e=>?_,?_,vs,ws,q1,q2,r1.length.symm,r2.length.symm⟩
  · rw [List.getElem?_map] at e
    cases e1:(ds.zip es)[i]? with
    | none=>rw [e1] at e; cases e
    | some q =>
      rw [e1] at e
      cases e
      obtain ⟨z1,z2⟩:=List.getElem?_zip_eq_some.mp e1
      obtain ⟨w1,g1,p1⟩:=r1.get z1
      obtain ⟨w2,g2,p2⟩:=r2.get z2
      refine ⟨⟨(List.getElem?_eq_some_iff.mp z1).1,(List.getElem?_eq_some_iff.mp z2).1,vs,ws,q1,q2,r1.length.symm,r2.length.symm⟩,fun x H' y=>?_⟩
      obtain ⟨T,rfl,hT,f⟩:=y
      obtain ⟨u,v,f1,f2,rfl⟩:=f vs ws q1 q2
      rw [g1] at f1; cases f1
      rw [g2] at f2; cases f2
      exact ⟨ext_new hT,hr.tup hT,.tup (SqT.of upd_same) (.cons (p1.mono (ext_new hT)) (.cons (p2.mono (ext_new hT)) .nil))⟩
  · rw [List.length_map,List.length_zip]
    rcases Nat.le_total ds.length es.length with z | z
    · exact .inl (Nat.min_eq_left z)
    · exact .inr (Nat.min_eq_right z)
theorem src_rng (j:Nat):Src K μ H [] ((List.range j).map fun (k:Nat)=>.int (k:Nat)) (Itr 0 j):=src_of fun μ1 h1 H1 ex hr st=>by
  refine ⟨fun i d e=>?_,by show j<=_; rw [List.length_map,List.length_range]; exact Nat.le_refl _⟩
  rw [List.getElem?_map] at e
  cases e1:(List.range j)[i]? with
  | none=>rw [e1] at e; cases e
  | some c =>
    rw [e1] at e
    cases e
    obtain ⟨hi,e2⟩:=List.getElem?_eq_some_iff.mp e1
    rw [List.length_range] at hi
    rw [List.getElem_range] at e2
    subst e2
    refine ⟨hi,fun x H' y=>⟨y.1,?_⟩⟩
    rw [y.2,Int.zero_add]
    exact .int _
end
section
variable {X:Cx} {Z:ZK} {k:Nat} {n:Nm} {cv:Nat->Value} {cl:Nat->List D->Hh->Res D} {tg:Expr}
theorem pi_any {l:Expr} {tl:TE} (hl:PE X l tl):PI X tg l (fun σ H R=>tl σ H fun x H1=>(∃ a,x=.ref a /\ (∃ xs,SqL X.K H1 a xs) /\ R (Itl X.K a) H1) \/ (∃ a,x=.ref a /\ (∃ xs,SqT X.K H1 a xs) /\ R (Itt X.K a) H1) \/ ∃ z,x=.str z /\ R (Its z) H1):=by
  intro pins s σ H R I h
  refine thn (hl pins s σ H _ I h) fun v s1 ⟨x,H1,I1,r1,q1⟩=>?_
  rcases q1 with ⟨a,rfl,⟨xs,hq⟩,q⟩ | ⟨a,rfl,⟨xs,hq⟩,q⟩ | ⟨x,rfl,q⟩
  · cases r1
    obtain ⟨its,rv,p,hz⟩:=I1.list hq
    refine wpAny_pyIter_list p.isList ?_
    refine ⟨s1.heap.objs.size,[s1.heap.objs.size],_,_,H1,rfl,I1.kept (t':=s1.toks) fun b o e=>Heap.get?_push_of_some _ e,turn_list a _,⟨_,Heap.get?_push_size _ rfl,rfl,rfl⟩,fun b hb=>?_,q⟩
    have e:b=s1.heap.objs.size:=by simpa using hb
    subst e
    exact I1.fpOk (Nat.le_refl _) (I1.hok.fresh (Nat.le_refl _))
  · cases r1
    obtain ⟨its,rv,p,hz⟩:=I1.tuple hq
    refine wpAny_pyIter_tuple (show s1.heap.IsTuple a its.toArray from p) ?_
    refine ⟨s1.heap.objs.size,[s1.heap.objs.size],_,_,H1,rfl,I1.kept (t':=s1.toks) fun b o e=>Heap.get?_push_of_some _ e,turn_tuple a _,⟨_,Heap.get?_push_size _ rfl,rfl,rfl⟩,fun b hb=>?_,q⟩
    have e:b=s1.heap.objs.size:=by simpa using hb
    subst e
    exact I1.fpOk (Nat.le_refl _) (I1.hok.fresh (Nat.le_refl _))
  · obtain ⟨t,rfl⟩:=r1
    have fp:∀ b ∈ [s1.heap.objs.size],FpOk X pins H1 b:=fun b hb=>by
      have e:b=s1.heap.objs.size:=by simpa using hb
      subst e
      exact I1.fpOk (Nat.le_refl _) (I1.hok.fresh (Nat.le_refl _))
    cases ha:x.cps.all (· < 128) with
    | false =>
      refine wpAny_pyIter_wide ha ?_
      exact ⟨s1.heap.objs.size,[s1.heap.objs.size],_,_,H1,rfl,I1.kept (t':=s1.toks) fun b o e=>Heap.get?_push_of_some _ e,turn_wide _ x t,⟨_,Heap.get?_push_size _ rfl,rfl,rfl⟩,fp,q⟩
    | true =>
      refine wpAny_pyIter_ascii ha ?_
      exact ⟨s1.heap.objs.size,[s1.heap.objs.size],_,_,H1,rfl,I1.kept (t':=s1.toks) fun b o e=>Heap.get?_push_of_some _ e,turn_ascii _ x t,⟨_,Heap.get?_push_size _ rfl,rfl,rfl⟩,fp,q⟩
theorem PI.mono {iter:Expr} {t t':TI} (p:L2.PI X tg iter t) (h:∀ σ H R,t' σ H R->t σ H R):L2.PI X tg iter t':=fun pins s σ H R I q=>p pins s σ H R I (h σ H R q)
noncomputable def gB (K:PySem.W.Frag) (t:Tg):TG:=fun v σ H Q=>∃ μ ρ d ρ' h,HR K μ h H /\ ER K μ ρ σ H /\ Rep K μ H d v /\ bindT t d ρ=some ρ' /\
  ∀ σ',ER K μ ρ' σ' H->σ'.length=σ.length->(∀ i,i ∉ t.idx->σ'[i]?=σ[i]?)->Q σ' H
theorem PG.mono {t t':TG} (p:PG X tg t) (h:∀ v σ H Q,t' v σ H Q->t v σ H Q):PG X tg t':=fun pins s σ H v u Q I r q=>p pins s σ H v u Q I r (h v σ H Q q)
noncomputable def gNs:List (Nat × Pos)->TGs
  | []=>gNil
  | q :: r=>gCons (gName q.1) (gNs r)
theorem pgs_names (hN:X.N.Nodup):∀ (is:List (Nat × Pos)),(∀ q ∈ is,q.1 < X.N.length /\ Loc X.env.scope (X.N.getD q.1 "") /\ (X.fn (X.N.getD q.1 "")=true \/ X.env.scope.names.lookup (X.N.getD q.1 "")=some .local)) ->
    PGs X (is.map fun q=>.Name (X.N.getD q.1 "") q.2) (gNs is)
  | [],_=>pgs_nil
  | q :: r,h=>by
    have hq:=h q (List.mem_cons_self ..)
    exact pgs_cons (pg_name (i:=q.1) hN (by rw [List.getD_eq_getElem?_getD,List.getElem?_eq_getElem hq.1]; rfl) hq.2.1 hq.2.2) (pgs_names hN r fun z hz=>h z (List.mem_cons_of_mem _ hz))
theorem names_len (N:List Str) (env:Env):∀ is:List (Nat × Pos),(assignEach (is.map fun q=>.Name (N.getD q.1 "") q.2) env).length=is.length /\ (assignEach (is.map fun q=>.Name (N.getD q.1 "") q.2) env).findIdx? (·.1)=none
  | []=>⟨rfl,rfl⟩
  | q :: r=>by
    have ih:=names_len N env r
    rw [List.map_cons]
    refine ⟨?_,?_⟩
    · show ((false,_) :: assignEach (r.map fun q=>.Name (N.getD q.1 "") q.2) env).length=_
      rw [List.length_cons,ih.1,List.length_cons]
    · show ((false,_) :: assignEach (r.map fun q=>.Name (N.getD q.1 "") q.2) env).findIdx? (·.1)=none
      rw [List.findIdx?_cons,ih.2]
      rfl
theorem fold_er {K:PySem.W.Frag} {μ:List Addr} {H:Hp}:∀ (is:List (Nat × Pos)) {ds:List D} {vs:List V} {ρ:En} {σ:St} {Q:St->Hp->Prop},Reps K μ H ds vs->ds.length=is.length->ER K μ ρ σ H ->
    (∀ σ',ER K μ ((is.zip ds).foldl (fun ρ q=>ρ.set q.1.1 (some q.2)) ρ) σ' H->σ'.length=σ.length->(∀ i,i ∉ is.map (·.1)->σ'[i]?=σ[i]?)->Q σ' H)->gNs is vs σ H Q
  | [],_,_,ρ,σ,Q,r,hl,er,q=>by
    cases r with
    | nil=>exact ⟨rfl,q σ er rfl fun _ _=>rfl⟩
    | cons _ _=>cases hl
  | p :: is,_,_,ρ,σ,Q,r,hl,er,q=>by
    cases r with
    | nil=>cases hl
    | cons r1 r2 =>
      refine ⟨_,_,rfl,?_⟩
      refine fold_er is r2 (by simpa using hl) (er.set r1 p.1) fun σ' e1 e2 e3=>?_
      refine q σ' e1 (e2.trans List.length_set) fun i hi=>?_
      rw [List.map_cons] at hi
      rw [e3 i fun z=>hi (List.mem_cons_of_mem _ z),List.getElem?_set_ne fun z=>hi (by rw [<- z]; exact List.mem_cons_self ..)]
theorem pg_T (hc:X.calm=true) (hN:X.N.Nodup) (t:Tg) (h:∀ i ∈ t.idx,i < X.N.length /\ Loc X.env.scope (X.N.getD i "") /\ (X.fn (X.N.getD i "")=true \/ X.env.scope.names.lookup (X.N.getD i "")=some .local)):PG X (t.py X.N) (gB X.K t):=by
  cases t with
  | one i p =>
    have hq:=h i (List.mem_singleton.mpr rfl)
    refine PG.mono (pg_name (i:=i) hN (by rw [List.getD_eq_getElem?_getD,List.getElem?_eq_getElem hq.1]; rfl) hq.2.1 hq.2.2) fun v σ H Q ⟨μ,ρ,d,ρ',h,hr,er,r,e,q⟩=>?_
    cases e
    exact q _ (er.set r i) List.length_set fun j hj=>List.getElem?_set_ne fun z=>hj (by rw [<- z]; exact List.mem_singleton.mpr rfl)
  | tup is p =>
    refine PG.mono (pg_tup (k:=0) (pos:=p) hc (pgs_names hN is fun q hq=>h q.1 (List.mem_map.mpr ⟨q,hq,rfl⟩)) (names_len X.N X.env is).1 (names_len X.N X.env is).2) fun v σ H Q ⟨μ,ρ,d,ρ',h,hr,er,r,e,q⟩=>?_
    unfold bindT at e
    cases r with
    | tup h1 h2 =>
      simp only at e
      split at e
      · rename_i c
        cases e
        exact ⟨_,_,rfl,h1,by rw [<- h2.length]; exact c,fold_er is h2 c er q⟩
      · cases e
    | _=>cases e
end
end PI
set_option Elab.async false
set_option linter.all false
set_option maxRecDepth 100000
set_option maxHeartbeats 4000000
namespace PI
open PySem L2 PySem.Spec
open PyProof.Rows hiding St
theorem line_ge:(1000000:Nat) < sizeLine:=by rw [sizeLine_eq]; decide
section
variable {X:Cx} {Z:ZK} {k:Nat} {n:Nm} {cv:Nat->Value} {cl:Nat->List D->Hh->Res D}
theorem capER {K:PySem.W.Frag} {μ:List Addr} {H:Hp} {ρ:En} {σ:St} (cap:List (Option Nat)) (er:ER K μ ρ σ H):ER K μ (capE cap ρ) (capσ cap σ) H:=by
  refine ⟨by unfold capE capσ; rw [List.length_map,List.length_map],fun j d e=>?_⟩
  unfold capE at e
  unfold capσ
  rw [List.getElem?_map] at e ⊢
  cases e1:cap[j]? with
  | none=>rw [e1] at e; cases e
  | some o =>
    rw [e1] at e
    cases o with
    | none=>cases e
    | some i =>
      have e':(ρ[i]?).bind id=some d:=Option.some.inj e
      cases e2:ρ[i]? with
      | none=>rw [e2] at e'; cases e'
      | some o2 =>
        rw [e2] at e'
        have e3:o2=some d:=e'
        subst e3
        obtain ⟨v,q1,q2⟩:=er.val i d e2
        exact ⟨v,by show some ((σ[i]?).bind id)=_; rw [q1]; rfl,q2⟩
theorem cap_none {osc scope:Scope} {N NC:List Str} {cap:List (Option Nat)} {t:Tg} (cok:compOk osc scope N NC cap=true) (ht:t.ok scope NC=true) (σ:St):∀ i ∈ t.idx,(capσ cap σ)[i]?=some none:=by
  intro i hi
  unfold Tg.ok at ht
  have h1:=List.all_eq_true.mp ht i hi
  rw [Bool.and_eq_true] at h1
  have hl:i < NC.length:=of_decide_eq_true h1.1
  have hloc:scope.names.lookup (NC.getD i "")=some .local \/ scope.names.lookup (NC.getD i "")=some .cell:=of_decide_eq_true h1.2
  unfold compOk at cok
  simp only [Bool.and_eq_true] at cok
  obtain ⟨⟨⟨⟨⟨k1,k2⟩,k3⟩,k4⟩,k5⟩,k6⟩:=cok
  have hj:=List.all_eq_true.mp k6 i (List.mem_range.mpr hl)
  have hN:NC[i]?=some (NC.getD i ""):=by rw [List.getD_eq_getElem?_getD,List.getElem?_eq_getElem hl]; rfl
  have hc:i < cap.length:=by rw [beq_iff_eq.mp k5]; exact hl
  unfold capσ
  rw [List.getElem?_map]
  cases e:cap[i]? with
  | none=>rw [List.getElem?_eq_none_iff] at e; omega
  | some o =>
    cases o with
    | none=>rfl
    | some m =>
      exfalso
      rw [e,hN] at hj
      simp only [Bool.and_eq_true,beq_iff_eq] at hj
      have hfree:=hj.2
      rcases hloc with z | z <;> (rw [hfree] at z; cases z)
theorem read_comp {scope:Scope} {NC:List Str} {cap:List (Option Nat)} {t:Tg} {mi:En->Hh->Res (Ck × List D)} {mc:En->Hh->Res Bool} {me:En->Hh->Res D}
    (cok:compOk X.env.scope scope X.N NC cap=true) (ht:t.ok scope NC=true) {σ:St} {H:Hp} {Q:VK}
    (p:liftL X.K cv Z (fun ρ h=>(mi ρ h).bind fun q h1=>if q.2.length<=1000000 then compL q.1 (compF t (capE cap ρ) mc me) q.2 [] h1 else .no) σ H Q) :
    tComp Z cap (lift X.K cv (RJ X.K) Z mi) (gB X.K t) (fun Zc=>lift X.K cv RB Zc mc) (fun Zc=>lift X.K cv (Rep X.K) Zc me) σ H Q:=by
  obtain ⟨μ,ρ,h,hr,er,p⟩:=p
  refine lift_bind0 (m:=mi) Ext.refl hr er p (fun _ _ z=>z) fun q h1 μ1 H1 J _ e1 r1 er1 src p1=>?_
  split at p1
  rotate_left
  · exact p1.elim
  rename_i hlen
  obtain ⟨c,ds⟩:=q
  refine ⟨fun i m ys H2=>m=ds.length - i /\ i<=ds.length /\ ∃ μ2 h2 acc,Ext X.K μ1 H1 μ2 H2 /\ HR X.K μ2 h2 H2 /\ Reps X.K μ2 H2 acc ys /\ acc.length<=i /\ PostE X.K cv (RL X.K H) μ H (compL c (compF t (capE cap ρ) mc me) (ds.drop i) acc h2) Q (Z σ),
    ⟨ds.length,by simp,Nat.zero_le _,μ1,h1,[],Ext.refl,r1,.nil,Nat.le_refl _,p1⟩,?_⟩
  rintro i m ys H2 ⟨rfl,hi',μ2,h2,acc,e2,r2,ry,ha,p2⟩
  have hyl:ys.length<=i:=by rw [<- ry.length]; exact ha
  have hll:ds.length<=1000000:=hlen
  by_cases hlt:i < ds.length
  · right
    rw [List.drop_eq_getElem_cons hlt] at p2
    unfold compL at p2
    split at p2
    rotate_left
    · exact p2.elim
    rename_i st
    obtain ⟨s1,s2⟩:=src μ2 h2 H2 e2 r2 st
    obtain ⟨g1,g2⟩:=s1 i ds[i] (List.getElem?_eq_getElem hlt)
    refine ⟨g1,by have:=line_ge; omega,fun x H3 y=>?_⟩
    obtain ⟨e2',r2',rx⟩:=g2 x H3 y
    replace e2:=e2.trans e2'
    replace r2:=r2'
    replace ry:=ry.mono e2'
    have er2:ER X.K μ2 ρ σ H3:=er1.mono e2
    unfold compF at p2
    cases eb:bindT t ds[i] (capE cap ρ) with
    | none=>rw [eb] at p2; exact p2.elim
    | some ρ' =>
      rw [eb] at p2
      refine ⟨μ2,capE cap ρ,ds[i],ρ',h2,r2,capER cap er2,rx,eb,fun σ4 er4 hl4 hs4=>⟨⟨hl4,fun j v ej=>?_⟩,?_⟩⟩
      · have nj:j ∉ t.idx:=fun z=>by rw [cap_none cok ht σ j z] at ej; cases ej
        rw [hs4 j nj]; exact ej
      have p3:PostE X.K cv (RL X.K H) μ H ((mc ρ' h2).bind fun b h3=>(if b then (me ρ' h3).bind fun d h4=>Res.ok (some d) h4 else Res.ok none h3).bind fun o h'=>compL c (compF t (capE cap ρ) mc me) (ds.drop (i + 1)) (addO acc o) h') Q (Z σ):=by
        have p2':=p2
        rw [bind_assoc] at p2'
        exact p2'
      refine lift_bind0 (m:=mc) (R:=RB) (e1.trans e2) r2 er4 p3 (fun _ _ z=>z) fun b h3 μ3 H3' bb _ e3 r3 er5 qb p4=>?_
      have qb':b=bb:=qb
      subst qb'
      cases b with
      | false =>
        refine iteF ⟨ds.length - (i + 1),by omega,rfl,hlt,μ3,h3,acc,e2.trans e3,r3,ry.mono e3,Nat.le_succ_of_le ha,p4⟩
      | true =>
        refine iteT ?_
        have p5:PostE X.K cv (RL X.K H) μ H ((me ρ' h3).bind fun d h4=>compL c (compF t (capE cap ρ) mc me) (ds.drop (i + 1)) (acc ++ [d]) h4) Q (Z σ):=by
          have p4':=p4
          rw [if_pos rfl,bind_assoc] at p4'
          exact p4'
        refine lift_bind0 (m:=me) ((e1.trans e2).trans e3) r3 er5 p5 (fun _ _ z=>z) fun d h4 μ4 H4 v _ e4 r4 er6 qd p6=>?_
        exact ⟨ds.length - (i + 1),by omega,rfl,hlt,μ4,h4,acc ++ [d],(e2.trans e3).trans e4,r4,((ry.mono e3).mono e4).append (.cons qd .nil),by rw [List.length_append]; exact Nat.succ_le_succ ha,p6⟩
  · left
    have ei:i=ds.length:=by omega
    subst ei
    rw [List.drop_length] at p2
    unfold compL at p2
    split at p2
    rotate_left
    · exact p2.elim
    rename_i st
    refine ⟨(src μ2 h2 H2 e2 r2 st).2,by have:=line_ge; omega,fun a ha'=>?_⟩
    have ex:=(e1.trans e2)
    have na:=r2.fresh ha'
    have n0:H a=none:=by
      cases e:H a with
      | none=>rfl
      | some o=>rw [ex.oth a o e fun z=>na (ex.sub z)] at ha'; cases ha'
    exact p2 μ2 _ _ (ex.trans (ext_new ha')) (r2.tup ha') ⟨a,ys,rfl,upd_same,ry.mono (ext_new ha'),na,n0⟩
theorem pe_compI {elt iter:Expr} {ifs:List Expr} {scope:Scope} {NC:List Str} {cap:List (Option Nat)} {t:Tg} {pos:Pos} {mi:En->Hh->Res (Ck × List D)} {mc:En->Hh->Res Bool} {me:En->Hh->Res D}
    (hc:X.calm=true) (th:Thr X Z) (hi:L2.PI X (t.py NC) iter (lift X.K cv (RJ X.K) Z mi)) (cok:compOk X.env.scope scope X.N NC cap=true) (ht:t.ok scope NC=true)
    (hg:∀ C s H fp pn xe,PG (compCx X NC scope C s H fp pn xe) (t.py NC) (gB X.K t))
    (hf:∀ C s H fp pn xe Zc,Thr (compCx X NC scope C s H fp pn xe) Zc->PF (compCx X NC scope C s H fp pn xe) ifs (lift X.K cv RB Zc mc))
    (hb:∀ C s H fp pn xe Zc,Thr (compCx X NC scope C s H fp pn xe) Zc->PE (compCx X NC scope C s H fp pn xe) elt (lift X.K cv (Rep X.K) Zc me))
    (hs:∀ x,foldedSetIterable iter X.env x=pure x) :
    PE X (.ListComp elt [⟨t.py NC,iter,ifs,0⟩] scope pos) (liftL X.K cv Z fun ρ h=>(mi ρ h).bind fun q h1=>if q.2.length<=1000000 then compL q.1 (compF t (capE cap ρ) mc me) q.2 [] h1 else .no) :=
  PE.mono (pe_comp hc th hi cok hg (tf:=fun Zc=>lift X.K cv RB Zc mc) (te:=fun Zc=>lift X.K cv (Rep X.K) Zc me) hf hb hs) fun σ H Q p=>read_comp cok ht p
theorem Kx.comp {scope:Scope} {NC:List Str} {cap:List (Option Nat)} (C:Kx X Z k n cv cl) (cok:compOk X.env.scope scope X.N NC cap=true) (hnd:NC.Nodup) (hgood:NC.all goodN=true) {Cc:Addr} {s:Shared} {H:Hp} {fp:List Addr} {pn:List (Addr × Obj)} {xe:Value->Shared->Prop} {Zc:ZK}
    (th:Thr (compCx X NC scope Cc s H fp pn xe) Zc):Kx (compCx X NC scope Cc s H fp pn xe) Zc k ⟨NC,n.F,n.G⟩ cv cl:=by
  obtain ⟨c1,c2,c3,c4,c5,c6,c7⟩:=compOk_parts cok
  refine ⟨th,C.rm,rfl,hnd,rfl,c1,fun x hx=>⟨?_,List.all_eq_true.mp hgood x hx⟩,C.bm,C.gc,C.fn⟩
  obtain ⟨j,hj⟩:=List.getElem?_of_mem hx
  have cok':=cok
  unfold compOk at cok'
  simp only [Bool.and_eq_true] at cok'
  obtain ⟨⟨⟨⟨⟨k1,k2⟩,k3⟩,k4⟩,k5⟩,k6⟩:=cok'
  have hl:j < NC.length:=(List.getElem?_eq_some_iff.mp hj).1
  have hk:=List.all_eq_true.mp k6 j (List.mem_range.mpr hl)
  have rel:(relabel scope X.env).names.lookup x=(scope.names.lookup x).map fun k=>if k=.free then .cell else k:=kindOf_rel (scope:=scope) C.kd fun y hy e=>c4 y hy e
  rw [hj] at hk
  show Vis (relabel scope X.env) x
  unfold Vis
  rw [rel]
  cases e:cap[j]? with
  | none=>rw [e] at hk; cases hk
  | some o =>
    rw [e] at hk
    cases o with
    | none =>
      have hk':scope.names.lookup x=some .local \/ scope.names.lookup x=some .cell:=by simpa using hk
      rcases hk' with hk' | hk'
      · rw [hk']; exact .inl rfl
      · rw [hk']; exact .inr (.inl rfl)
    | some m =>
      simp only [Bool.and_eq_true,beq_iff_eq] at hk
      rw [hk.2]; exact .inr (.inl rfl)
end
end PI
set_option Elab.async false
set_option linter.all false
set_option maxRecDepth 100000
set_option maxHeartbeats 4000000
namespace PI
open PySem L2 PySem.Spec
open PyProof.Rows hiding St
theorem ps_nil {X:Cx} {Z:ZK} {n:Nm} {cv:Nat->Value} {cl:Nat->List D->Hh->Res D}:PsOk X Z n cv cl .nil:=by
  intro ks pos hl
  cases ks with
  | nil =>
    refine ⟨[],pps_nil,fun σ H Q=>lift_elim fun μ ρ h hr er q=>?_⟩
    exact q.here hr .nil
  | cons _ _=>cases hl
theorem ps_cons {X:Cx} {Z:ZK} {n:Nm} {cv:Nat->Value} {cl:Nat->List D->Hh->Res D} {e:E} {r:Es} (se:PE X (e.py n) (lift X.K cv (Rep X.K) Z (e.ev cl))) (sr:PsOk X Z n cv cl r):PsOk X Z n cv cl (.cons e r):=by
  intro ks pos hl
  have hl:ks.length=(e.py n :: r.py n).length:=hl
  cases ks with
  | nil=>cases hl
  | cons k ks =>
    obtain ⟨trs,p1,p2⟩:=sr ks pos (by simpa using hl)
    refine ⟨(tC (.str k.1),lift X.K cv (Rep X.K) Z (e.ev cl)) :: trs,pps_cons pe_str se p1,fun σ H Q=>lift_elim fun μ ρ h hr er q=>?_⟩
    show lift X.K cv (Rep X.K) Z (e.ev cl) σ H _
    refine lift_bind (m:=e.ev cl) hr er q fun da h1 μ1 H1 x _ e1 r1 er1 qa p3=>?_
    refine p2 σ H1 _ (lift_bind (m:=r.ev cl) r1 er1 p3 fun ds h2 μ2 H2 xs _ e2 r2 er2 qb p4=>?_)
    exact p4.here r2 (.cons (qa.mono e2) qb)
section
variable {X:Cx} {cv:Nat->Value}
end
end PI
set_option Elab.async false
set_option linter.all false
set_option maxRecDepth 100000
set_option maxHeartbeats 4000000
namespace PI
open PySem L2 PySem.Spec
open PyProof.Rows hiding St
section
variable {X:Cx} {Z:ZK} {k:Nat} {n:Nm} {cv:Nat->Value} {cl:Nat->List D->Hh->Res D}
theorem boot_T (T:Nat) (h:T < 5):bootBuiltins (tyName T)=some (.type (tyStr T)) /\ tyName T ≠ "__name__" /\ (tyName T == ("__debug__":Str))=false /\ tyName T ∈ bnames:=by
  match T,h with
  | 0,_=>exact ⟨rfl,by decide,by decide,by decide⟩
  | 1,_=>exact ⟨rfl,by decide,by decide,by decide⟩
  | 2,_=>exact ⟨rfl,by decide,by decide,by decide⟩
  | 3,_=>exact ⟨rfl,by decide,by decide,by decide⟩
  | 4,_=>exact ⟨rfl,by decide,by decide,by decide⟩
theorem getD_some {α:Type} {xs:List α} {i:Nat} {d:α} (h:i < xs.length):xs[i]?=some (xs.getD i d):=by
  rw [List.getD_eq_getElem?_getD,List.getElem?_eq_getElem h]; rfl
theorem getD_mem {α:Type} {xs:List α} {i:Nat} {d:α} (h:i < xs.length):xs.getD i d ∈ xs:=List.mem_of_getElem? (getD_some h)
theorem PO.mono {X:Cx} {e:Option Expr} {t t':TO} (p:PO X e t) (h:∀ σ H Q,t' σ H Q->t σ H Q):PO X e t':=fun pins s σ H Q I q=>p pins s σ H Q I (h σ H Q q)
theorem base_plain (o:E) (x:Str) (env:Env):attributeBase (o.py n) x env (eval (o.py n) env)=eval (o.py n) env:=by
  cases o with
  | ofL l=>cases l <;> (rfl)
  | _=>rfl
theorem few_one (a : E) (pos : Pos) (env : Env) : ((backTo pos (starEach [a.py n] env)).all (fun x => !x.1) && (backToKw pos (keywordEach [] env)).all (fun x => x.1.isSome)
      && decide (([a.py n]:List Expr).length + ([]:List Keyword).length + (if ([]:List Keyword).isEmpty then 0 else 1) < 30))=true:=by
  rw [star_cons]; rfl
theorem m0_ty {K:PySem.W.Frag} {μ:List Addr} {H:Hp} {h:Hh} {m:M0} {d:D} {v:V} (hr:HR K μ h H) (r:Rep K μ H d v) (e:m0D m d h ≠ .no):tyV K "list" v H:=by
  unfold m0D at e
  cases r with
  | @loc nn b mm =>
    cases e1:h[nn]? with
    | none=>simp only [e1] at e; exact absurd rfl e
    | some o =>
      cases o with
      | dK _=>simp only [e1] at e; exact absurd rfl e
      | lst ds=>obtain ⟨vs,q1,q2⟩:=lst_of hr mm e1; exact .inl ⟨rfl,vs,SqL.of q1⟩
  | _=>exact absurd rfl e
theorem Reps.isEmpty {K:PySem.W.Frag} {μ:List Addr} {H:Hp} {ds:List D} {vs:List V} (r:Reps K μ H ds vs):ds.isEmpty=vs.isEmpty:=by cases r <;> rfl
theorem onL_ty {K:PySem.W.Frag} {cv:Nat->Value} {R:List Addr->Hp->D->V->Prop} {μ:List Addr} {H:Hp} {h:Hh} {d:D} {v:V} {r:Res D} {Q:VK} {Z:Value->Hp->Prop} (hr:HR K μ h H) (q:Rep K μ H d v) (p:PostE K cv R μ H (onL d h r) Q Z):tyV K "list" v H /\ PostE K cv R μ H r Q Z:=by
  unfold onL at p
  cases q with
  | @loc nn b mm =>
    cases e1:h[nn]? with
    | none=>simp only [e1] at p; exact p.elim
    | some o =>
      cases o with
      | dK _=>simp only [e1] at p; exact p.elim
      | lst ds=>simp only [e1] at p; obtain ⟨vs,q1,q2⟩:=lst_of hr mm e1; exact ⟨.inl ⟨rfl,vs,SqL.of q1⟩,p⟩
  | _=>exact p.elim
theorem fold_plain (it:I) {env:Env}:∀ x,foldedSetIterable (it.py n) env x=pure x:=by
  intro x
  cases it with
  | seq e =>
    cases e with
    | ofL l=>cases l <;> (rfl)
    | _=>rfl
  | lst l=>cases l <;> (rfl)
  | rng a p0 p=>rfl
  | rev e p0 p=>rfl
  | zip a b p0 p=>rfl
theorem comp_ok {elt:E} {t:Tg} {it:I} {c:Es} {NC:List Str} {cap:List (Option Nat)} {csc:Scope} {p:Pos} (C:Kx X Z k n cv cl) (h:(L.comp elt t it c NC cap csc p).ok X.env.scope n=true) :
    (it.ok X.env.scope n=true /\ t.forI it=true) /\ compOk X.env.scope csc X.N NC cap=true /\ NC.Nodup /\ NC.all goodN=true /\ t.ok csc NC=true /\ elt.ok (relab csc X.env.scope) ⟨NC,n.F,n.G⟩=true /\ c.ok (relab csc X.env.scope) ⟨NC,n.F,n.G⟩=true /\ c.okT=true /\ c.short=true:=by
  have h:(_ && _)=true:=h
  simp only [Bool.and_eq_true,decide_eq_true_eq] at h
  obtain ⟨⟨⟨⟨⟨⟨⟨⟨k1,k2⟩,k3⟩,k4⟩,k5⟩,k6⟩,k7⟩,k8⟩,k9⟩:=h
  exact ⟨k1,by rw [C.nN]; exact k2,k3,k4,k5,k6,k7,k8,k9⟩
theorem pf_none {Zc:ZK} {m:Nm}:PF X (Es.nil.py m) (lift X.K cv RB Zc (Es.nil.evC cl)):=by
  refine fun pins s σ H Q I q=>pf_nil pins s σ H Q I ?_
  obtain ⟨μ,ρ,h,hr,er,q⟩:=q
  exact q.here hr rfl
theorem comp_pg {scope:Scope} {NC:List Str} {cap:List (Option Nat)} {t:Tg} (kd:X.env.scope.kind=.function) (cok:compOk X.env.scope scope X.N NC cap=true) (hnd:NC.Nodup) (ht:t.ok scope NC=true) {Cc:Addr} {s:Shared} {H:Hp} {fp:List Addr} {pn:List (Addr × Obj)} {xe:Value->Shared->Prop} :
    PG (compCx X NC scope Cc s H fp pn xe) (t.py NC) (gB X.K t):=by
  refine pg_T (X:=compCx X NC scope Cc s H fp pn xe) rfl hnd t fun i hi=>?_
  unfold Tg.ok at ht
  have h1:=List.all_eq_true.mp ht i hi
  rw [Bool.and_eq_true] at h1
  have h2:scope.names.lookup (NC.getD i "")=some .local \/ scope.names.lookup (NC.getD i "")=some .cell:=of_decide_eq_true h1.2
  obtain ⟨c1,c2,c3,c4,c5,c6,c7⟩:=compOk_parts cok
  have rel:∀ x,(relabel scope X.env).names.lookup x=(scope.names.lookup x).map fun k=>if k=.free then .cell else k:=fun x=>kindOf_rel (scope:=scope) kd fun y hy e=>c4 y hy e
  refine ⟨of_decide_eq_true h1.1,?_,?_⟩
  · show Loc (relabel scope X.env) _
    unfold L2.Loc
    rw [rel]
    rcases h2 with h2 | h2
    · rw [h2]; exact .inl rfl
    · rw [h2]; exact .inr rfl
  · rcases h2 with h2 | h2
    · refine .inr ?_
      show (relabel scope X.env).names.lookup _=_
      rw [rel,h2]; rfl
    · refine .inl ?_
      show (scope.names.lookup _ == some NameKind.cell)=true
      rw [h2]; rfl
mutual
theorem sE:∀ (e:E) (X:Cx) (Z:ZK) (k:Nat) (n:Nm) (cv:Nat->Value) (cl:Nat->List D->Hh->Res D),Kx X Z k n cv cl->e.ok X.env.scope n=true->SE X Z n cv cl e
  | .non p,X,Z,k,n,cv,cl,C,_=>⟨PE.mono pe_non fun σ H Q q=>lift_C (fun _ _ _=>.non) q,fun z=>nomatch z⟩
  | .bl b p,X,Z,k,n,cv,cl,C,_=>⟨PE.mono pe_bl fun σ H Q q=>lift_C (fun _ _ _=>.bl b) q,fun z=>nomatch z⟩
  | .int i p,X,Z,k,n,cv,cl,C,_=>⟨PE.mono pe_int fun σ H Q q=>lift_C (fun _ _ _=>.int i) q,fun z=>nomatch z⟩
  | .str x p,X,Z,k,n,cv,cl,C,_=>⟨PE.mono pe_str fun σ H Q q=>lift_C (fun _ _ _=>.str x) q,fun z=>nomatch z⟩
  | .var i p,X,Z,k,n,cv,cl,C,h=>by
    have hi:i < n.N.length:=of_decide_eq_true h
    have hm:=C.nm _ (getD_mem (d:=("":Str)) hi)
    have hv:=hm.1
    have hg:=goodN_of hm.2
    have pe:PE X ((E.var i p).py n) (lift X.K cv (Rep X.K) Z ((E.var i p).ev cl)):=by
      refine PE.mono (pe_var (i:=i) (by rw [C.nN]; exact getD_some hi) hv hg.1 hg.2) fun σ H Q=>lift_elim fun μ ρ h hr er q=>?_
      have q:PostE X.K cv (Rep X.K) μ H (match ρ[i]? with | some (some d)=>.ok d h | _=>.no) Q (Z σ):=q
      cases e:ρ[i]? with
      | none=>rw [e] at q; exact q.elim
      | some o =>
        cases o with
        | none=>rw [e] at q; exact q.elim
        | some d =>
          rw [e] at q
          obtain ⟨v,e1,r1⟩:=er.val i d e
          exact ⟨v,e1,q.here hr r1⟩
    exact ⟨pe,fun _=>by exact pt_lift pe fun _=>rfl⟩
  | .bin op a b p,X,Z,k,n,cv,cl,C,h=>by
    have h':a.ok X.env.scope n=true /\ b.ok X.env.scope n=true:=by have h:(_ && _)=true:=h; simpa using h
    have sa:=sE a X Z k n cv cl C h'.1
    have sb:=sE b X Z k n cv cl C h'.2
    have pe:PE X ((E.bin op a b p).py n) (lift X.K cv (Rep X.K) Z ((E.bin op a b p).ev cl)):=by
      refine PE.mono (pe_op (op_bin (cv:=cv) op) sa.pe sb.pe) fun σ H Q q=>?_
      exact lift2 q
    exact ⟨pe,fun _=>by exact pt_lift pe fun _=>rfl⟩
  | .un op a p,X,Z,k,n,cv,cl,C,h=>by
    have h':a.ok X.env.scope n=true:=by have h:(_ && _)=true:=h; simp at h; exact h.1
    have sa:=sE a X Z k n cv cl C h'
    cases op with
    | Not =>
      refine ⟨?_,fun z=>?_⟩
      · skip
        refine PE.mono (pe_not sa.pe) fun σ H Q=>lift_elim fun μ ρ h hr er q=>?_
        refine lift_bind (m:=a.ev cl) hr er q fun d h1 μ1 H1 x _ e1 r1 er1 qa p1=>?_
        unfold unD at p1
        cases qa with
        | bl b=>exact ⟨b,rfl,p1.here r1 (.bl _)⟩
        | _=>exact p1.elim
      · skip
        have z':a.okT=true:=by exact z
        refine PT.mono (pt_not (sa.pt z')) fun σ H Q=>lift_elim fun μ ρ h hr er q=>?_
        refine ⟨μ,ρ,h,hr,er,?_⟩
        have e1:(E.un .Not a p).evT cl ρ h=(a.evT cl ρ h).bind fun b h1=>.ok (!b) h1:=by
          rw [evT_eq,evT_eq,bind_assoc]
          show ((a.ev cl ρ h).bind fun x h1=>unD .Not x h1).bind toB=_
          rw [bind_assoc]
          congr 1
          funext d h1
          unfold unD toB
          cases d <;> rfl
        rw [e1] at q
        cases e2:a.evT cl ρ h with
        | ok b h1 =>
          rw [e2] at q
          intro μ1 H1 v x1 x2 x3
          have x3':b=v:=x3
          subst x3'
          exact q μ1 H1 (!b) x1 x2 rfl
        | exc c h1=>rw [e2] at q; exact q
        | no=>rw [e2] at q; exact q
    | Invert =>
      have pe:PE X ((E.un .Invert a p).py n) (lift X.K cv (Rep X.K) Z ((E.un .Invert a p).ev cl)):=by
        refine PE.mono (pe_un (un_op (cv:=cv) .Invert (.inl rfl)) sa.pe) fun σ H Q q=>?_
        exact lift1 q
      exact ⟨pe,fun _=>by exact pt_lift pe fun _=>rfl⟩
    | USub =>
      have pe:PE X ((E.un .USub a p).py n) (lift X.K cv (Rep X.K) Z ((E.un .USub a p).ev cl)):=by
        refine PE.mono (pe_un (un_op (cv:=cv) .USub (.inr rfl)) sa.pe) fun σ H Q q=>?_
        exact lift1 q
      exact ⟨pe,fun _=>by exact pt_lift pe fun _=>rfl⟩
    | UAdd =>
      have no:∀ {β:Type} {σ:St} {H:Hp} {R:List Addr->Hp->D->β->Prop} {Q:β->Hp->Prop},lift X.K cv R Z ((E.un .UAdd a p).ev cl) σ H Q->lift X.K cv (Rep X.K) Z (a.ev cl) σ H (fun _ _=>False):=by
        intro β σ H R Q ⟨μ,ρ,h,hr,er,q⟩
        refine lift_bind (m:=a.ev cl) hr er q fun d h1 μ1 H1 x _ e1 r1 er1 qa p1=>?_
        unfold unD at p1
        cases d <;> exact p1.elim
      have pe:PE X ((E.un .UAdd a p).py n) (lift X.K cv (Rep X.K) Z ((E.un .UAdd a p).ev cl)):=by
        refine PE.mono (pe_un (r:=fun _ _ _=>False) (fun _ _ _ _ _ _ _ _ _ z=>z.elim) sa.pe) fun σ H Q q=>no q
      exact ⟨pe,fun _=>by exact pt_lift pe fun _=>rfl⟩
  | .cmp op a b p,X,Z,k,n,cv,cl,C,h=>by
    have h':(a.ok X.env.scope n=true /\ b.ok X.env.scope n=true) /\ behindInMarks op (b.py n)=false:=by have h:(_ && _)=true:=h; simpa using h
    have sa:=sE a X Z k n cv cl C h'.1.1
    have sb:=sE b X Z k n cv cl C h'.1.2
    refine ⟨?_,fun _=>?_⟩
    · skip
      refine PE.mono (pe_cmpR (op_cmp (cv:=cv) C.rm.units op) sa.pe sb.pe h'.2) fun σ H Q q=>?_
      exact lift2 q
    · skip
      refine PT.mono (pt_cmpR (op_cmp (cv:=cv) C.rm.units op) sa.pe sb.pe h'.2) fun σ H Q=>lift_elim fun μ ρ h hr er q=>?_
      have q:PostE X.K cv RB μ H (((a.ev cl ρ h).bind fun x h1=>(b.ev cl ρ h1).bind fun y h2=>cmpD op x y h2).bind toB) Q (Z σ):=q
      rw [bind_assoc] at q
      unfold tTest
      refine lift_bind (m:=a.ev cl) hr er q fun da h1 μ1 H1 x _ e1 r1 er1 qa p1=>?_
      rw [bind_assoc] at p1
      refine lift_bind (m:=b.ev cl) r1 er1 p1 fun db h2 μ2 H2 y _ e2 r2 er2 qb p2=>?_
      refine ⟨μ2,h2,da,db,Z σ,r2,qa.mono e2,qb,?_⟩
      cases e3:cmpD op da db h2 with
      | ok d h3 =>
        rw [e3] at p2
        intro μ3 H3 v x1 x2 x3
        unfold Res.bind toB at p2
        cases x3 with
        | bl c=>exact ⟨c,rfl,p2 μ3 H3 c x1 x2 rfl⟩
        | _=>exact p2.elim
      | exc c h3=>rw [e3] at p2; exact p2
      | no=>rw [e3] at p2; exact p2
  | .and a b r p,X,Z,k,n,cv,cl,C,h=>by
    have h':((((a.ok X.env.scope n=true /\ b.ok X.env.scope n=true) /\ r.ok X.env.scope n=true) /\ a.okT=true) /\ b.okT=true) /\ r.okT=true:=by have h:(_ && _)=true:=h; simpa using h
    have sa:=sE a X Z k n cv cl C h'.1.1.1.1.1
    have sb:=sE b X Z k n cv cl C h'.1.1.1.1.2
    have sr:=sEs r X Z k n cv cl C h'.1.1.1.2
    refine ⟨?_,fun _=>?_⟩
    · skip
      refine PE.mono (pe_and sa.pe (sr.an b p sb)) fun σ H Q=>lift_elim fun μ ρ h hr er q=>?_
      refine lift_bind (m:=a.ev cl) hr er q fun d h1 μ1 H1 x _ e1 r1 er1 qa p1=>?_
      unfold tru at p1
      cases qa with
      | bl c =>
        refine ⟨c,rfl,?_⟩
        cases c with
        | true=>exact iteT ⟨μ1,ρ,h1,r1,er1,p1⟩
        | false=>exact iteF (p1.here r1 (.bl _))
      | _=>exact p1.elim
    · skip
      refine PT.mono (PW.pt (pw_and (sa.pt h'.1.1.2) (sr.anT b p sb h'.1.2 h'.2))) fun σ H Q=>lift_elim fun μ ρ h hr er q=>?_
      have e0:(E.and a b r p).evT cl ρ h=(a.evT cl ρ h).bind fun c h1=>if c then (b.evT cl ρ h1).bind fun c' h2=>r.evAndT cl ρ c' h2 else .ok false h1:=by
        rw [evT_eq,evT_eq,bind_assoc]
        show ((a.ev cl ρ h).bind fun x h1=>tru x h1 fun c h1=>if c then (b.ev cl ρ h1).bind fun y h2=>r.evAnd cl ρ y h2 else .ok (.bl false) h1).bind toB=_
        rw [bind_assoc]
        congr 1
        funext d h1
        unfold tru
        cases d with
        | bl c =>
          cases c with
          | false=>rfl
          | true =>
            show ((b.ev cl ρ h1).bind fun y h2=>r.evAnd cl ρ y h2).bind toB=(b.evT cl ρ h1).bind fun c' h2=>r.evAndT cl ρ c' h2
            rw [evT_eq,bind_assoc,bind_assoc]
            congr 1
            funext y h2
            exact and_toB r ρ y h2
        | _=>rfl
      rw [e0] at q
      refine lift_bind (m:=a.evT cl) (R:=RB) hr er q fun c h1 μ1 H1 x _ e1 r1 er1 qa p1=>?_
      have qa':c=x:=qa
      subst qa'
      cases c with
      | true=>exact iteT ⟨μ1,ρ,h1,r1,er1,p1⟩
      | false=>exact iteF (p1.here r1 rfl)
  | .or a b r p,X,Z,k,n,cv,cl,C,h=>by
    have h':((((a.ok X.env.scope n=true /\ b.ok X.env.scope n=true) /\ r.ok X.env.scope n=true) /\ a.okT=true) /\ b.okT=true) /\ r.okT=true:=by have h:(_ && _)=true:=h; simpa using h
    have sa:=sE a X Z k n cv cl C h'.1.1.1.1.1
    have sb:=sE b X Z k n cv cl C h'.1.1.1.1.2
    have sr:=sEs r X Z k n cv cl C h'.1.1.1.2
    refine ⟨?_,fun _=>?_⟩
    · skip
      refine PE.mono (pe_or sa.pe (sr.orr b p sb)) fun σ H Q=>lift_elim fun μ ρ h hr er q=>?_
      refine lift_bind (m:=a.ev cl) hr er q fun d h1 μ1 H1 x _ e1 r1 er1 qa p1=>?_
      unfold tru at p1
      cases qa with
      | bl c =>
        refine ⟨c,rfl,?_⟩
        cases c with
        | true=>exact iteT (p1.here r1 (.bl _))
        | false=>exact iteF ⟨μ1,ρ,h1,r1,er1,p1⟩
      | _=>exact p1.elim
    · skip
      refine PT.mono (PW.pt (pw_or (sa.pt h'.1.1.2) (sr.orT b p sb h'.1.2 h'.2))) fun σ H Q=>lift_elim fun μ ρ h hr er q=>?_
      have e0:(E.or a b r p).evT cl ρ h=(a.evT cl ρ h).bind fun c h1=>if c then .ok true h1 else (b.evT cl ρ h1).bind fun c' h2=>r.evOrT cl ρ c' h2:=by
        rw [evT_eq,evT_eq,bind_assoc]
        show ((a.ev cl ρ h).bind fun x h1=>tru x h1 fun c h1=>if c then .ok (.bl true) h1 else (b.ev cl ρ h1).bind fun y h2=>r.evOr cl ρ y h2).bind toB=_
        rw [bind_assoc]
        congr 1
        funext d h1
        unfold tru
        cases d with
        | bl c =>
          cases c with
          | true=>rfl
          | false =>
            show ((b.ev cl ρ h1).bind fun y h2=>r.evOr cl ρ y h2).bind toB=(b.evT cl ρ h1).bind fun c' h2=>r.evOrT cl ρ c' h2
            rw [evT_eq,bind_assoc,bind_assoc]
            congr 1
            funext y h2
            exact or_toB r ρ y h2
        | _=>rfl
      rw [e0] at q
      refine lift_bind (m:=a.evT cl) (R:=RB) hr er q fun c h1 μ1 H1 x _ e1 r1 er1 qa p1=>?_
      have qa':c=x:=qa
      subst qa'
      cases c with
      | true=>exact iteT (p1.here r1 rfl)
      | false=>exact iteF ⟨μ1,ρ,h1,r1,er1,p1⟩
  | .ite c a b p,X,Z,k,n,cv,cl,C,h=>by
    have h':((c.ok X.env.scope n=true /\ a.ok X.env.scope n=true) /\ b.ok X.env.scope n=true) /\ c.okT=true:=by have h:(_ && _)=true:=h; simpa using h
    have sc:=sE c X Z k n cv cl C h'.1.1.1
    have sa:=sE a X Z k n cv cl C h'.1.1.2
    have sb:=sE b X Z k n cv cl C h'.1.2
    refine ⟨?_,fun z=>nomatch z⟩
    refine PE.mono (pe_ifExp (sc.pt h'.2) sa.pe sb.pe) fun σ H Q=>lift_elim fun μ ρ h hr er q=>?_
    have e0:((c.ev cl ρ h).bind fun x h1=>tru x h1 fun t h1=>if t then a.ev cl ρ h1 else b.ev cl ρ h1)=(c.evT cl ρ h).bind fun t h1=>if t then a.ev cl ρ h1 else b.ev cl ρ h1:=by
      rw [evT_eq,bind_assoc]
      congr 1
      funext d h1
      unfold tru toB
      cases d <;> rfl
    have q:PostE X.K cv (Rep X.K) μ H ((c.ev cl ρ h).bind fun x h1=>tru x h1 fun t h1=>if t then a.ev cl ρ h1 else b.ev cl ρ h1) Q (Z σ):=q
    rw [e0] at q
    refine lift_bind (m:=c.evT cl) (R:=RB) hr er q fun t h1 μ1 H1 x _ e1 r1 er1 qa p1=>?_
    have qa':t=x:=qa
    subst qa'
    cases t with
    | true=>exact iteT ⟨μ1,ρ,h1,r1,er1,p1⟩
    | false=>exact iteF ⟨μ1,ρ,h1,r1,er1,p1⟩
  | .call f a r p0 p,X,Z,k,n,cv,cl,C,h=>by
    have h':((f < n.F.length /\ gOf X.env.scope (n.F.getD f "")=true) /\ a.ok X.env.scope n=true) /\ r.ok X.env.scope n=true:=by have h:(_ && _)=true:=h; simpa using h
    have sa:=sE a X Z k n cv cl C h'.1.2
    have sr:=sEs r X Z k n cv cl C h'.2
    obtain ⟨hdb,fa,fd,ps,hm,hk,hb,hl,F⟩:=C.fn f _ (getD_some (d:=("":Str)) h'.1.1.1)
    have pe:PE X ((E.call f a r p0 p).py n) (lift X.K cv (Rep X.K) Z ((E.call f a r p0 p).ev cl)):=by
      refine PE.mono (pe_callX F C.rm (C.gl h'.1.1.2) hm hk hb .nil C.th (pa_cons sa.pe sr.pa (star_cons a _ _)) hdb (star_cons a _ _) (star_plain r p X.env)) fun σ H Q=>lift_elim fun μ ρ h hr er q=>?_
      unfold tCallX tCons
      refine lift_bind (m:=a.ev cl) hr er q fun da h1 μ1 H1 x _ e1 r1 er1 qa p1=>?_
      refine lift_bind (m:=r.ev cl) r1 er1 p1 fun ds h2 μ2 H2 xs _ e2 r2 er2 qb p2=>?_
      show spI X.K cv ps.length (cl f) ((x :: xs) ++ []) H2 Q fun C _ H'=>Z σ C H'
      rw [List.append_nil]
      have z:=hl (da :: ds) h2 fun z=>by rw [z] at p2; exact p2
      exact ⟨by rw [List.length_cons,<- qb.length,<- List.length_cons (a:=da)]; exact z,μ2,h2,da :: ds,r2,.cons (qa.mono e2) qb,p2⟩
    exact ⟨pe,fun _=>by exact pt_lift pe fun _=>rfl⟩
  | .len a p0 p,X,Z,k,n,cv,cl,C,h=>by
    have h':gOf X.env.scope "len"=true /\ a.ok X.env.scope n=true:=by have h:(_ && _)=true:=h; simpa using h
    have sa:=sE a X Z k n cv cl C h'.2
    have pe:PE X ((E.len a p0 p).py n) (lift X.K cv (Rep X.K) Z ((E.len a p0 p).ev cl)):=by
      refine PE.mono (pe_callB (call_lenI (cv:=cv)) (C.gl h'.1) (C.bm _ (by decide)) PySem.boot_len (pa_cons sa.pe pa_nil (star_cons a _ _)) (by decide) (by decide) (star_cons a _ _) rfl) fun σ H Q=>lift_elim fun μ ρ h hr er q=>?_
      refine lift_bind (m:=a.ev cl) hr er q fun da h1 μ1 H1 x _ e1 r1 er1 qa p1=>?_
      exact ⟨x,rfl,μ1,h1,da,_,r1,qa,p1⟩
    exact ⟨pe,fun _=>by exact pt_lift pe fun _=>rfl⟩
  | .isi T a p0 p1 p,X,Z,k,n,cv,cl,C,h=>by
    have h':((gOf X.env.scope "isinstance"=true /\ gOf X.env.scope (tyName T)=true) /\ T < 5) /\ a.ok X.env.scope n=true:=by have h:(_ && _)=true:=h; simpa using h
    have sa:=sE a X Z k n cv cl C h'.2
    obtain ⟨b1,b2,b3,b4⟩:=boot_T T h'.1.2
    have pe:PE X ((E.isi T a p0 p1 p).py n) (lift X.K cv (Rep X.K) Z ((E.isi T a p0 p1 p).ev cl)):=by
      refine PE.mono (pe_callB (call_isI (cv:=cv) T h'.1.2) (C.gl h'.1.1.1) (C.bm _ (by decide)) PyProof.Rows.boot_isinstance (pa_cons sa.pe (pa_cons (pe_bltn (v:=.ty (tyStr T)) (C.gl h'.1.1.2) (C.bm _ b4) b1 rfl b2 b3) pa_nil) (star_cons a _ _)) (by decide) (by decide) (star_cons a _ _) rfl) fun σ H Q=>lift_elim fun μ ρ h hr er q=>?_
      refine lift_bind (m:=a.ev cl) hr er q fun da h1 μ1 H1 x _ e1 r1 er1 qa p1=>?_
      exact ⟨x,rfl,μ1,h1,da,_,r1,qa,p1⟩
    exact ⟨pe,fun _=>by exact pt_lift pe fun _=>rfl⟩
  | .sub a i p,X,Z,k,n,cv,cl,C,h=>by
    have h':a.ok X.env.scope n=true /\ i.ok X.env.scope n=true:=by have h:(_ && _)=true:=h; simpa using h
    have sa:=sE a X Z k n cv cl C h'.1
    have sb:=sE i X Z k n cv cl C h'.2
    have pe:PE X ((E.sub a i p).py n) (lift X.K cv (Rep X.K) Z ((E.sub a i p).ev cl)):=by
      refine PE.mono (pe_ix (ix_ours (cv:=cv) (hu_of C.rm)) sa.pe sb.pe (plain_ix i)) fun σ H Q q=>?_
      exact lift2 q
    exact ⟨pe,fun _=>by exact pt_lift pe fun _=>rfl⟩
  | .tup es p,X,Z,k,n,cv,cl,C,h=>by
    have h':es.ok X.env.scope n=true:=by exact h
    have sr:=sEs es X Z k n cv cl C h'
    have pe:PE X ((E.tup es p).py n) (lift X.K cv (Rep X.K) Z ((E.tup es p).ev cl)):=by
      refine PE.mono (pe_tup sr.pa) fun σ H Q=>lift_elim fun μ ρ h hr er q=>?_
      refine lift_bind (m:=es.ev cl) hr er q fun ds h1 μ1 H1 xs _ e1 r1 er1 qa p1=>?_
      split at p1
      · rename_i c
        refine ⟨by rw [<- qa.length]; exact Nat.le_of_lt (small1000 c),fun a ha=>?_⟩
        exact p1 μ1 _ (.ref a) (ext_new ha) (r1.tup ha) (.tup (SqT.of upd_same) (qa.mono (ext_new ha)))
      · exact p1.elim
    exact ⟨pe,fun _=>by exact pt_lift pe fun _=>rfl⟩
  | .ofL l,X,Z,k,n,cv,cl,C,h=>by
    have sl:=sL l X Z k n cv cl C (by exact h)
    refine ⟨?_,fun z=>nomatch z⟩
    refine PE.mono sl fun σ H Q=>lift_elim fun μ ρ h hr er q=>?_
    refine lift_bind0 (m:=l.ev cl) Ext.refl hr er q (fun _ _ z=>z) fun ds h1 μ1 H1 x _ e1 r1 er1 qa p1=>?_
    obtain ⟨p,vs,rfl,g1,g2,g3,g4⟩:=qa
    refine p1 (μ1 ++ [p]) H1 _ (e1.add g4) (r1.add g3 fun μ' gr=>⟨vs,g1,g2.mono' gr⟩) (.loc ?_)
    rw [<- r1.len,List.getElem?_append_right (Nat.le_refl _),Nat.sub_self]
    rfl
  | .tupL l p0 p,X,Z,k,n,cv,cl,C,h=>by
    have h':gOf X.env.scope "tuple"=true /\ l.ok X.env.scope n=true:=by have h:(_ && _)=true:=h; simpa using h
    have sl:=sL l X Z k n cv cl C h'.2
    have pe:PE X ((E.tupL l p0 p).py n) (lift X.K cv (Rep X.K) Z ((E.tupL l p0 p).ev cl)):=by
      refine PE.mono (pe_callTy call_tuple_of (C.gl h'.1) (C.bm _ (by decide)) PyProof.Rows.boot_tuple (pa_cons sl pa_nil (L.py_star l _ _)) (by decide) (by decide) (L.py_star l _ _) rfl) fun σ H Q=>lift_elim fun μ ρ h hr er q=>?_
      refine lift_bind0 (m:=l.ev cl) Ext.refl hr er q (fun _ _ z=>z) fun ds h1 μ1 H1 x _ e1 r1 er1 qa p1=>?_
      obtain ⟨b,vs,rfl,g1,g2,g3,g4⟩:=qa
      exact ⟨b,vs,rfl,.inl ⟨SqL.of g1,fun a ha=>p1 μ1 _ _ (e1.trans (ext_new ha)) (r1.tup ha) (.tup (SqT.of upd_same) (g2.mono (ext_new ha)))⟩⟩
    exact ⟨pe,fun _=>by exact pt_lift pe fun _=>rfl⟩
  | .tupE e p0 p,X,Z,k,n,cv,cl,C,h=>by
    have h':gOf X.env.scope "tuple"=true /\ e.ok X.env.scope n=true:=by have h:(_ && _)=true:=h; simpa using h
    have se:=sE e X Z k n cv cl C h'.2
    have pe:PE X ((E.tupE e p0 p).py n) (lift X.K cv (Rep X.K) Z ((E.tupE e p0 p).ev cl)):=by
      refine PE.mono (pe_callTy (call_tupI (cv:=cv)) (C.gl h'.1) (C.bm _ (by decide)) PyProof.Rows.boot_tuple (pa_cons se.pe pa_nil (star_cons e _ _)) (by decide) (by decide) (star_cons e _ _) rfl) fun σ H Q=>lift_elim fun μ ρ h hr er q=>?_
      refine lift_bind (m:=e.ev cl) hr er q fun da h1 μ1 H1 x _ e1 r1 er1 qa p1=>?_
      exact ⟨x,rfl,μ1,h1,da,_,r1,qa,p1⟩
    exact ⟨pe,fun _=>by exact pt_lift pe fun _=>rfl⟩
  | .listE e p0 p,X,Z,k,n,cv,cl,C,h=>by
    have h':gOf X.env.scope "list"=true /\ e.ok X.env.scope n=true:=by have h:(_ && _)=true:=h; simpa using h
    have se:=sE e X Z k n cv cl C h'.2
    have pe:PE X ((E.listE e p0 p).py n) (lift X.K cv (Rep X.K) Z ((E.listE e p0 p).ev cl)):=by
      refine PE.mono (pe_callTy (call_listI (cv:=cv)) (C.gl h'.1) (C.bm _ (by decide)) PyProof.Rows.boot_list (pa_cons se.pe pa_nil (star_cons e _ _)) (by decide) (by decide) (star_cons e _ _) rfl) fun σ H Q=>lift_elim fun μ ρ h hr er q=>?_
      refine lift_bind (m:=e.ev cl) hr er q fun da h1 μ1 H1 x _ e1 r1 er1 qa p1=>?_
      exact ⟨x,rfl,μ1,h1,da,_,r1,qa,p1⟩
    exact ⟨pe,fun _=>by exact pt_lift pe fun _=>rfl⟩
  | .cut a lo hi p2 p,X,Z,k,n,cv,cl,C,h=>by
    have h':(a.ok X.env.scope n=true /\ lo.ok X.env.scope n=true) /\ hi.ok X.env.scope n=true:=by have h:(_ && _)=true:=h; simpa using h
    have sa:=sE a X Z k n cv cl C h'.1.1
    have sl:=sEo lo X Z k n cv cl C h'.1.2
    have sh:=sEo hi X Z k n cv cl C h'.2
    have pe:PE X ((E.cut a lo hi p2 p).py n) (lift X.K cv (Rep X.K) Z ((E.cut a lo hi p2 p).ev cl)):=by
      refine PE.mono (pe_slice (sl_ours (cv:=cv)) sa.pe sl sh) fun σ H Q=>lift_elim fun μ ρ h hr er q=>?_
      refine lift_bind (m:=a.ev cl) hr er q fun da h1 μ1 H1 x _ e1 r1 er1 qa p1=>?_
      refine lift_bind (m:=lo.ev cl) (R:=fun _ _ a b=>a=b) r1 er1 p1 fun l h2 μ2 H2 l' _ e2 r2 er2 ql p2=>?_
      have ql':l=l':=ql
      subst ql'
      refine lift_bind (m:=hi.ev cl) (R:=fun _ _ a b=>a=b) r2 er2 p2 fun u h3 μ3 H3 u' _ e3 r3 er3 qu p3=>?_
      have qu':u=u':=qu
      subst qu'
      exact ⟨μ3,h3,da,_,r3,(qa.mono e2).mono e3,p3⟩
    exact ⟨pe,fun _=>by exact pt_lift pe fun _=>rfl⟩
  | .dic p,X,Z,k,n,cv,cl,C,h=>by
    refine ⟨?_,fun z=>nomatch z⟩
    refine PE.mono pe_dnewK fun σ H Q=>lift_elim fun μ ρ h hr er q=>?_
    intro b hb
    refine q _ _ _ ((ext_new hb).add hb) (hr.alloc hb (hr.fresh hb) fun μ' g=>⟨_,upd_same,.nil⟩) (.loc ?_)
    rw [<- hr.len,List.getElem?_append_right (Nat.le_refl _),Nat.sub_self]
    rfl
  | .m0 m o p1 p,X,Z,k,n,cv,cl,C,h=>by
    have h':o.ok X.env.scope n=true /\ p1.endLine=p.line:=by have h:(_ && _)=true:=h; simpa using h
    have so:=sE o X Z k n cv cl C h'.1
    have hl:(p1.endLine == p.line)=true:=beq_iff_eq.mpr h'.2
    have pe:PE X ((E.m0 m o p1 p).py n) (lift X.K cv (Rep X.K) Z ((E.m0 m o p1 p).ev cl)):=by
      cases m with
      | pop =>
        refine PE.mono (pe_bm0 PySem.F.plainAttrs_list PySem.F.slot_list_pop PySem.F.type_list_pop (mt_pop0 (cv:=cv)) so.pe (base_plain o _ _) hl) fun σ H Q=>lift_elim fun μ ρ h hr er q=>?_
        refine lift_bind (m:=o.ev cl) hr er q fun da h1 μ1 H1 x _ e1 r1 er1 qa p1=>?_
        exact ⟨m0_ty r1 qa fun z=>by rw [z] at p1; exact p1,rfl,μ1,h1,da,_,r1,qa,p1⟩
    exact ⟨pe,fun _=>by exact pt_lift pe fun _=>rfl⟩
  | .m1 m o a p1 p,X,Z,k,n,cv,cl,C,h=>by
    have h':(o.ok X.env.scope n=true /\ a.ok X.env.scope n=true) /\ p1.endLine=p.line:=by have h:(_ && _)=true:=h; simpa using h
    have so:=sE o X Z k n cv cl C h'.1.1
    have sa:=sE a X Z k n cv cl C h'.1.2
    have hl:(p1.endLine == p.line)=true:=beq_iff_eq.mpr h'.2
    have pe:PE X ((E.m1 m o a p1 p).py n) (lift X.K cv (Rep X.K) Z ((E.m1 m o a p1 p).ev cl)):=by
      cases m with
      | append =>
        refine PE.mono (pe_bm PySem.F.plainAttrs_list PySem.F.slot_list_append PySem.F.type_list_append (mt_append1 (cv:=cv)) so.pe (pa_cons sa.pe pa_nil (star_cons a _ _)) (base_plain o _ _) (few_one a _ _) hl (star_cons a _ _) rfl) fun σ H Q=>lift_elim fun μ ρ h hr er q=>?_
        refine lift_bind (m:=o.ev cl) hr er q fun da h1 μ1 H1 x _ e1 r1 er1 qa p1=>?_
        obtain ⟨ty,p1⟩:=onL_ty r1 qa p1
        refine ⟨ty,?_⟩
        refine lift_bind (m:=a.ev cl) r1 er1 p1 fun db h2 μ2 H2 y _ e2 r2 er2 qb p2=>?_
        exact ⟨y,rfl,μ2,h2,da,db,_,r2,qa.mono e2,qb,p2⟩
    exact ⟨pe,fun _=>by exact pt_lift pe fun _=>rfl⟩
  | .gcon x c p,X,Z,k,n,cv,cl,C,h=>by
    have h':gOf X.env.scope x=true /\ (x,c) ∈ n.G:=by have h:(_ && _)=true:=h; simpa using h
    obtain ⟨hd,v,hm,ok⟩:=C.gc x c h'.2
    have pe:PE X ((E.gcon x c p).py n) (lift X.K cv (Rep X.K) Z ((E.gcon x c p).ev cl)):=by
      cases c with
      | int i =>
        obtain ⟨t,rfl⟩:=ok
        refine PE.mono (pe_glob (v:=.int i) (C.gl h'.1) hm ⟨t,rfl⟩ hd) fun σ H Q=>lift_elim fun μ ρ h hr er q=>?_
        exact q.here hr (.int i)
      | str z =>
        obtain ⟨t,rfl⟩:=ok
        refine PE.mono (pe_glob (v:=.str z) (C.gl h'.1) hm ⟨t,rfl⟩ hd) fun σ H Q=>lift_elim fun μ ρ h hr er q=>?_
        exact q.here hr (.str z)
      | tup xs =>
        obtain ⟨a,rfl,tk⟩:=ok
        refine PE.mono (pe_glob (v:=.ref a) (C.gl h'.1) hm rfl hd) fun σ H Q=>lift_elim fun μ ρ h hr er q=>?_
        exact q.here hr tk.rep
      | dic kvs =>
        obtain ⟨a,o,es,ep,vs,rfl,_⟩:=ok
        refine PE.mono (pe_glob (v:=.ref a) (C.gl h'.1) hm rfl hd) fun σ H Q=>lift_elim fun μ ρ h hr er q=>?_
        exact q.elim
    exact ⟨pe,fun z=>by cases z⟩
  | .gsub x kvs i p0 p,X,Z,k,n,cv,cl,C,h=>by
    have h':(gOf X.env.scope x=true /\ (x,Cn.dic kvs) ∈ n.G) /\ i.ok X.env.scope n=true:=by have h:(_ && _)=true:=h; simpa using h
    obtain ⟨hd,v,hm,ok⟩:=C.gc x _ h'.1.2
    have si:=sE i X Z k n cv cl C h'.2
    have pe:PE X ((E.gsub x kvs i p0 p).py n) (lift X.K cv (Rep X.K) Z ((E.gsub x kvs i p0 p).ev cl)):=by
      have ok':=ok
      obtain ⟨a,o,es,ep,vs,rfl,_⟩:=ok'
      refine PE.mono (pe_ix (ix_cst (kvs:=kvs)) (pe_glob (v:=.ref a) (C.gl h'.1.1) hm rfl hd) si.pe (plain_ix i)) fun σ H Q=>lift_elim fun μ ρ h hr er q=>?_
      refine lift_bind (m:=i.ev cl) hr er q fun d h1 μ1 H1 y _ e1 r1 er1 qa p1=>?_
      unfold cstD at p1
      cases qa with
      | str kk =>
        simp only at p1
        split at p1
        · rename_i xs l
          exact ⟨a,kk,xs,rfl,rfl,ok,l,fun b tk=>p1.here r1 tk.rep⟩
        · exact p1.elim
      | _=>exact p1.elim
    exact ⟨pe,fun _=>by exact pt_lift pe fun _=>rfl⟩
  | .c1 f a p0 p,X,Z,k,n,cv,cl,C,h=>by
    have h':gOf X.env.scope f.name=true /\ a.ok X.env.scope n=true:=by have h:(_ && _)=true:=h; simpa using h
    have sa:=sE a X Z k n cv cl C h'.2
    have fin:∀ {σ H Q},lift X.K cv (Rep X.K) Z ((E.c1 f a p0 p).ev cl) σ H Q->lift X.K cv (Rep X.K) Z (a.ev cl) σ H fun x H1=>∃ y,[x]=[y] /\ r1 X.K cv (c1D f) y H1 Q:=fun {σ H Q} ⟨μ,ρ,h,hr,er,q⟩=>by
      refine lift_bind (m:=a.ev cl) hr er q fun da h1 μ1 H1 x _ e1 r1 er1 qa p1=>?_
      exact ⟨x,rfl,μ1,h1,da,_,r1,qa,p1⟩
    have pe:PE X ((E.c1 f a p0 p).py n) (lift X.K cv (Rep X.K) Z ((E.c1 f a p0 p).ev cl)):=by
      cases f with
      | str=>exact PE.mono (pe_callTy (call_strI (cv:=cv)) (C.gl h'.1) (C.bm _ (by decide)) PyProof.Rows.boot_str (pa_cons sa.pe pa_nil (star_cons a _ _)) (by decide) (by decide) (star_cons a _ _) rfl) fun σ H Q q=>fin q
      | int=>exact PE.mono (pe_callTy (call_intI (cv:=cv)) (C.gl h'.1) (C.bm _ (by decide)) PyProof.Rows.boot_int (pa_cons sa.pe pa_nil (star_cons a _ _)) (by decide) (by decide) (star_cons a _ _) rfl) fun σ H Q q=>fin q
      | all=>exact PE.mono (pe_callB (call_allI (cv:=cv) C.cm) (C.gl h'.1) (C.bm _ (by decide)) PyProof.Rows.boot_all (pa_cons sa.pe pa_nil (star_cons a _ _)) (by decide) (by decide) (star_cons a _ _) rfl) fun σ H Q q=>fin q
      | any=>exact PE.mono (pe_callB (call_anyI (cv:=cv) C.cm) (C.gl h'.1) (C.bm _ (by decide)) PyProof.Rows.boot_any (pa_cons sa.pe pa_nil (star_cons a _ _)) (by decide) (by decide) (star_cons a _ _) rfl) fun σ H Q q=>fin q
      | abs=>exact PE.mono (pe_callB (call_absI (cv:=cv)) (C.gl h'.1) (C.bm _ (by decide)) PyProof.Rows.boot_abs (pa_cons sa.pe pa_nil (star_cons a _ _)) (by decide) (by decide) (star_cons a _ _) rfl) fun σ H Q q=>fin q
    exact ⟨pe,fun _=>by exact pt_lift pe fun _=>rfl⟩
  | .split o a p1 p,X,Z,k,n,cv,cl,C,h=>by
    have h':(o.ok X.env.scope n=true /\ a.ok X.env.scope n=true) /\ p1.endLine=p.line:=by have h:(_ && _)=true:=h; simpa using h
    have so:=sE o X Z k n cv cl C h'.1.1
    have sa:=sE a X Z k n cv cl C h'.1.2
    have hl:(p1.endLine == p.line)=true:=beq_iff_eq.mpr h'.2
    have pe:PE X ((E.split o a p1 p).py n) (lift X.K cv (Rep X.K) Z ((E.split o a p1 p).ev cl)):=by
      refine PE.mono (pe_bm PySem.F.plainAttrs_str PySem.F.slot_str_split PySem.F.type_str_split (mt_splitI (cv:=cv)) so.pe (pa_cons sa.pe pa_nil (star_cons a _ _)) (base_plain o _ _) (few_one a _ _) hl (star_cons a _ _) rfl) fun σ H Q=>lift_elim fun μ ρ h hr er q=>?_
      refine lift_bind (m:=o.ev cl) hr er q fun da h1 μ1 H1 x _ e1 r1 er1 qa p1=>?_
      unfold onS at p1
      cases qa with
      | str z =>
        refine ⟨?ty,?_⟩
        case ty=>exact rfl
        refine lift_bind (m:=a.ev cl) r1 er1 p1 fun db h2 μ2 H2 y _ e2 r2 er2 qb p2=>?_
        exact ⟨y,rfl,μ2,h2,.str z,db,_,r2,.str z,qb,p2⟩
      | _=>exact p1.elim
    exact ⟨pe,fun _=>by exact pt_lift pe fun _=>rfl⟩
  | .cmpN neg a p1 p,X,Z,k,n,cv,cl,C,h=>by
    have h':a.ok X.env.scope n=true:=by exact h
    have sa:=sE a X Z k n cv cl C h'
    have hu:X.A.units < cLine:=by have:=C.rm.units; omega
    have hop:OpR X (compareOp (if neg then .NotEq else .Eq)) (rNil X.K neg):=by cases neg with | true=>exact op_neNil hu | false=>exact op_eqNil hu
    have hb:behindInMarks (if neg then .NotEq else .Eq) (.List [] p1)=false:=by cases neg <;> rfl
    have fin:∀ {μ1:List Addr} {h1:Hh} {H1:Hp} {x:V} {da:D} {Q:VK} {Z1:Value->Hp->Prop},HR X.K μ1 h1 H1->Rep X.K μ1 H1 da x->PostE X.K cv (Rep X.K) μ1 H1 (nilD neg da h1) Q Z1->∀ b,H1 b=none->rNil X.K neg x (.ref b) (upd H1 b (.lst [])) Q:=fun {μ1 h1 H1 x da Q Z1} r1 qa p1 b hb'=>by
      unfold nilD at p1
      have q2:=SqL.of (K:=X.K) (upd_same (H:=H1) (a:=b) (o:=.lst []))
      cases qa with
      | @fl ds vs a f r =>
        refine ⟨a,b,vs,rfl,rfl,((ext_new (μ:=μ1) hb').fz _ _ f).sq,q2,?_⟩
        have z:=p1 μ1 (upd H1 b (.lst [])) _ (ext_new hb') (r1.tup hb') (.bl _)
        rw [r.isEmpty] at z
        exact z
      | @loc nn a m =>
        cases e2:PI.rd h1 nn with
        | none=>simp only [e2] at p1; exact p1.elim
        | some ds =>
          simp only [e2] at p1
          obtain ⟨vs,q1,r⟩:=rd_reps r1 m e2
          refine ⟨a,b,vs,rfl,rfl,SqL.of (by rw [upd_ne (by intro z; rw [z,hb'] at q1; cases q1)]; exact q1),q2,?_⟩
          have z:=p1 μ1 (upd H1 b (.lst [])) _ (ext_new hb') (r1.tup hb') (.bl _)
          rw [r.isEmpty] at z
          exact z
      | _=>exact p1.elim
    have pe:PE X ((E.cmpN neg a p1 p).py n) (lift X.K cv (Rep X.K) Z ((E.cmpN neg a p1 p).ev cl)):=by
      refine PE.mono (pe_cmpR hop sa.pe (pe_lst pa_nil) hb) fun σ H Q=>lift_elim fun μ ρ h hr er q=>?_
      refine lift_bind (m:=a.ev cl) hr er q fun da h1 μ1 H1 x _ e1 r1 er1 qa p1=>?_
      exact ⟨Nat.zero_le _,fun b hb'=>fin r1 qa p1 b hb'⟩
    refine ⟨pe,fun _=>?_⟩
    refine PT.mono (pt_cmpR hop sa.pe (pe_lst pa_nil) hb) fun σ H Q=>lift_elim fun μ ρ h hr er q=>?_
    have q:PostE X.K cv RB μ H (((a.ev cl ρ h).bind fun x h1=>nilD neg x h1).bind toB) Q (Z σ):=q
    rw [bind_assoc] at q
    unfold tTest
    refine lift_bind (m:=a.ev cl) hr er q fun da h1 μ1 H1 x _ e1 r1 er1 qa p1=>?_
    refine ⟨Nat.zero_le _,fun b hb'=>fin (Z1:=Z σ) r1 qa ?_ b hb'⟩
    cases e3:nilD neg da h1 with
    | ok d h3 =>
      rw [e3] at p1
      intro μ3 H3 v x1 x2 x3
      unfold Res.bind toB at p1
      cases x3 with
      | bl c=>exact ⟨c,rfl,p1 μ3 H3 c x1 x2 rfl⟩
      | _=>exact p1.elim
    | exc c h3=>rw [e3] at p1; exact p1
    | no=>rw [e3] at p1; exact p1
theorem sEo:∀ (e:Eo) (X:Cx) (Z:ZK) (k:Nat) (n:Nm) (cv:Nat->Value) (cl:Nat->List D->Hh->Res D),Kx X Z k n cv cl->e.ok X.env.scope n=true->PO X (e.py n) (lift X.K cv (fun _ _ a b=>a=b) Z (e.ev cl))
  | .none,X,Z,k,n,cv,cl,C,h=>by
    refine PO.mono po_none fun σ H Q=>lift_elim fun μ ρ h hr er q=>?_
    exact q.here hr rfl
  | .some e,X,Z,k,n,cv,cl,C,h=>by
    have se:=sE e X Z k n cv cl C (by exact h)
    refine PO.mono (po_some se.pe) fun σ H Q=>lift_elim fun μ ρ h hr er q=>?_
    refine lift_bind (m:=e.ev cl) hr er q fun d h1 μ1 H1 x _ e1 r1 er1 qa p1=>?_
    unfold intO at p1
    cases qa with
    | int i=>exact ⟨i,rfl,p1.here r1 rfl⟩
    | _=>exact p1.elim
theorem sL:∀ (l:L) (X:Cx) (Z:ZK) (k:Nat) (n:Nm) (cv:Nat->Value) (cl:Nat->List D->Hh->Res D),Kx X Z k n cv cl->l.ok X.env.scope n=true->PE X (l.py n) (liftL X.K cv Z (l.ev cl))
  | .disp es p,X,Z,k,n,cv,cl,C,h=>by
    have sr:=sEs es X Z k n cv cl C (by exact h)
    refine PE.mono (pe_lst sr.pa) fun σ H Q=>lift_elim fun μ ρ h hr er q=>?_
    refine lift_bind0 (m:=es.ev cl) Ext.refl hr er q (fun _ _ z=>z) fun ds h1 μ1 H1 xs _ e1 r1 er1 qa p1=>?_
    split at p1
    · rename_i c
      refine ⟨by rw [<- qa.length]; exact Nat.le_of_lt (small1000 c),fun a ha=>?_⟩
      have na:=r1.fresh ha
      have n0:H a=none:=by
        cases e:H a with
        | none=>rfl
        | some o=>rw [e1.oth a o e fun z=>na (e1.sub z)] at ha; cases ha
      exact p1 μ1 _ _ (e1.trans (ext_new ha)) (r1.tup ha) ⟨a,xs,rfl,upd_same,qa.mono (ext_new ha),na,n0⟩
    · exact p1.elim
  | .comp elt t it c NC cap csc p,X,Z,k,n,cv,cl,C,h=>by
    obtain ⟨k1,k2',k3,k4,k5,k6,k7,k8,k9⟩:=comp_ok C h
    have hit:=sI it X Z k n cv cl C k1.1 t k1.2 NC
    exact pe_compI (X:=X) (Z:=Z) (cv:=cv) (mi:=it.ev cl) (mc:=c.evC cl) (me:=elt.ev cl) (pos:=p) (elt:=elt.py ⟨NC,n.F,n.G⟩) (iter:=it.py n) (ifs:=c.py ⟨NC,n.F,n.G⟩) C.cm C.th hit k2' k5
      (fun Cc s H fp pn xe=>comp_pg C.kd k2' k3 k5)
      (fun Cc s H fp pn xe Zc th=>by
        have Cc':=C.comp k2' k3 k4 th
        cases c with
        | nil=>exact pf_none
        | cons e r =>
          cases r with
          | cons _ _=>cases k9
          | nil =>
            have se:=sE e _ Zc k ⟨NC,n.F,n.G⟩ cv cl Cc' (by have k7:(_ && _)=true:=k7; simp at k7; exact k7.1)
            have ht:=se.pt (by have k8:(_ && _)=true:=k8; simp at k8; exact k8.1)
            exact pf_one ht)
      (fun Cc s H fp pn xe Zc th=>(sE elt _ Zc k ⟨NC,n.F,n.G⟩ cv cl (C.comp k2' k3 k4 th) k6).pe) (fold_plain it)
theorem sI:∀ (it:I) (X:Cx) (Z:ZK) (k:Nat) (n:Nm) (cv:Nat->Value) (cl:Nat->List D->Hh->Res D),Kx X Z k n cv cl->it.ok X.env.scope n=true->∀ t:Tg,t.forI it=true->∀ N,L2.PI X (t.py N) (it.py n) (lift X.K cv (RJ X.K) Z (it.ev cl))
  | .seq e,X,Z,k,n,cv,cl,C,h=>fun t ht N=>by
    have se:=sE e X Z k n cv cl C (by exact h)
    refine PI.mono (pi_any se.pe) fun σ H Q=>lift_elim fun μ ρ h hr er q=>?_
    refine lift_bind (m:=e.ev cl) hr er q fun d h1 μ1 H1 x _ e1 r1 er1 qa p1=>?_
    cases qa with
    | tup g1 g2=>exact .inr (.inl ⟨_,rfl,⟨_,g1⟩,p1.here r1 (src_tup g1 g2)⟩)
    | fl g1 g2=>exact .inl ⟨_,rfl,⟨_,g1.sq⟩,p1.here r1 (src_fl g1 g2)⟩
    | str z=>exact .inr (.inr ⟨_,rfl,p1.here r1 (src_str z)⟩)
    | @loc nn a m =>
      cases e2:rd h1 nn with
      | none=>simp only [e2] at p1; exact p1.elim
      | some xs =>
        simp only [e2] at p1
        obtain ⟨vs,hs1,rs⟩:=r1.rd e2 m
        exact .inl ⟨_,rfl,⟨_,hs1⟩,p1.here r1 (src_loc m)⟩
    | _=>exact p1.elim
  | .lst l,X,Z,k,n,cv,cl,C,h=>fun t ht N=>by
    have sl:=sL l X Z k n cv cl C (by exact h)
    refine PI.mono (pi_list sl) fun σ H Q=>lift_elim fun μ ρ h hr er q=>?_
    refine lift_bind0 (m:=l.ev cl) Ext.refl hr er q (fun _ _ z=>z) fun ds h1 μ1 H1 x _ e1 r1 er1 qa p1=>?_
    obtain ⟨p,vs,rfl,g1,g2,g3,g4⟩:=qa
    exact ⟨p,rfl,⟨vs,SqL.of g1⟩,p1 μ1 H1 _ e1 r1 (src_new g1 g3 g2)⟩
  | .rng a p0 p,X,Z,k,n,cv,cl,C,h=>fun t ht N=>by
    have h':gOf X.env.scope "range"=true /\ a.ok X.env.scope n=true:=by have h:(_ && _)=true:=h; simpa using h
    have sa:=sE a X Z k n cv cl C h'.2
    refine PI.mono (pi_range1 (C.gl h'.1) (C.bm _ (by decide)) (pa_cons sa.pe pa_nil (star_cons a _ _)) (star_cons a _ _)) fun σ H Q=>lift_elim fun μ ρ h hr er q=>?_
    refine lift_bind (m:=a.ev cl) hr er q fun d h1 μ1 H1 x _ e1 r1 er1 qa p1=>?_
    cases qa with
    | int j =>
      simp only at p1
      split at p1
      · rename_i c
        exact ⟨j,rfl,by have:=c.1; omega,by have:=c.2; omega,p1.here r1 (src_rng j.toNat)⟩
      · exact p1.elim
    | _=>exact p1.elim
  | .rev e p0 p,X,Z,k,n,cv,cl,C,h=>fun t ht N=>by
    have h':gOf X.env.scope "reversed"=true /\ e.ok X.env.scope n=true:=by have h:(_ && _)=true:=h; simpa using h
    have sa:=sE e X Z k n cv cl C h'.2
    refine PI.mono (pi_rev (C.gl h'.1) (C.bm _ (by decide)) (pa_cons sa.pe pa_nil (star_cons e _ _)) (star_cons e _ _)) fun σ H Q=>lift_elim fun μ ρ h hr er q=>?_
    refine lift_bind (m:=e.ev cl) hr er q fun d h1 μ1 H1 x _ e1 r1 er1 qa p1=>?_
    unfold revD at p1
    cases qa with
    | @fl ds vs a f r =>
      simp only at p1
      refine ⟨a,vs,rfl,f.sq,?_⟩
      rw [<- r.length]
      exact p1.here r1 (src_rvf f r)
    | @loc nn b m =>
      cases e2:PI.rd h1 nn with
      | none=>simp only [e2] at p1; exact p1.elim
      | some ds =>
        simp only [e2] at p1
        obtain ⟨vs,q1,q2⟩:=rd_reps r1 m e2
        refine ⟨b,vs,rfl,SqL.of q1,?_⟩
        rw [<- q2.length]
        exact p1.here r1 (src_rvl m)
    | _=>exact p1.elim
  | .zip a b p0 p,X,Z,k,n,cv,cl,C,h=>fun t ht N=>by
    cases t with
    | one i q=>cases ht
    | tup is q =>
      have h':(gOf X.env.scope "zip"=true /\ a.ok X.env.scope n=true) /\ b.ok X.env.scope n=true:=by have h:(_ && _)=true:=h; simpa using h
      have sa:=sE a X Z k n cv cl C h'.1.2
      have sb:=sE b X Z k n cv cl C h'.2
      refine PI.mono (pi_zip (C.gl h'.1.1) (C.bm _ (by decide)) (pa_cons sa.pe (pa_cons sb.pe pa_nil (star_cons b _ _)) (star_cons a _ _)) (star_cons a _ _) (by rw [star_cons]; rfl)) fun σ H Q=>lift_elim fun μ ρ h hr er q=>?_
      refine lift_bind (m:=a.ev cl) hr er q fun d h1 μ1 H1 x _ e1 r1 er1 qa p1=>?_
      refine lift_bind (m:=b.ev cl) r1 er1 p1 fun d2 h2 μ2 H2 y _ e2 r2 er2 qb p2=>?_
      unfold zipD at p2
      cases g1:seqC d h2 with
      | none=>rw [g1] at p2; exact p2.elim
      | some s1 =>
        cases g2:seqC d2 h2 with
        | none=>simp only [g1,g2] at p2; exact p2.elim
        | some s2 =>
          simp only [g1,g2] at p2
          obtain ⟨l1,b1,vs,rfl,u1,v1,w1⟩:=zip_src (qa.mono e2) r2 g1
          obtain ⟨l2,b2,ws,rfl,u2,v2,w2⟩:=zip_src qb r2 g2
          refine ⟨l1,l2,b1,b2,vs,ws,rfl,u1,u2,?_⟩
          rw [v1,v2]
          exact p2.here r2 (src_zip w1 w2)
theorem sEs:∀ (r:Es) (X:Cx) (Z:ZK) (k:Nat) (n:Nm) (cv:Nat->Value) (cl:Nat->List D->Hh->Res D),Kx X Z k n cv cl->r.ok X.env.scope n=true->SEs X Z n cv cl r
  | .nil,X,Z,k,n,cv,cl,C,_=>by
    refine ⟨?_,fun b p sb=>?_,fun b p sb hb _=>?_,fun b p sb=>?_,fun b p sb hb _=>?_,ps_nil⟩
    · skip
      refine PA.mono pa_nil fun σ H Q=>lift_elim fun μ ρ h hr er q=>?_
      exact q.here hr .nil
    · skip
      refine PE.mono (pe_one sb.pe) fun σ H Q=>lift_elim fun μ ρ h hr er q=>⟨μ,ρ,h,hr,er,?_⟩
      have q:PostE X.K cv (Rep X.K) μ H ((b.ev cl ρ h).bind fun a h1=>.ok a h1) Q (Z σ):=q
      rwa [bind_pure] at q
    · skip
      refine PW.mono (pw_and1 (sb.pt hb)) fun σ H Q=>lift_elim fun μ ρ h hr er q=>⟨μ,ρ,h,hr,er,?_⟩
      have q:PostE X.K cv RB μ H ((b.evT cl ρ h).bind fun a h1=>.ok a h1) Q (Z σ):=q
      rwa [bind_pure] at q
    · skip
      refine PE.mono (pe_one sb.pe) fun σ H Q=>lift_elim fun μ ρ h hr er q=>⟨μ,ρ,h,hr,er,?_⟩
      have q:PostE X.K cv (Rep X.K) μ H ((b.ev cl ρ h).bind fun a h1=>.ok a h1) Q (Z σ):=q
      rwa [bind_pure] at q
    · skip
      refine PW.mono (pw_or1 (sb.pt hb)) fun σ H Q=>lift_elim fun μ ρ h hr er q=>⟨μ,ρ,h,hr,er,?_⟩
      have q:PostE X.K cv RB μ H ((b.evT cl ρ h).bind fun a h1=>.ok a h1) Q (Z σ):=q
      rwa [bind_pure] at q
  | .cons e r,X,Z,k,n,cv,cl,C,h=>by
    have h':e.ok X.env.scope n=true /\ r.ok X.env.scope n=true:=by have h:(_ && _)=true:=h; simpa using h
    have se:=sE e X Z k n cv cl C h'.1
    have sr:=sEs r X Z k n cv cl C h'.2
    refine ⟨?_,fun b p sb=>?_,fun b p sb hb hr'=>?_,fun b p sb=>?_,fun b p sb hb hr'=>?_,ps_cons se.pe sr.ps⟩
    · skip
      refine PA.mono (pa_cons se.pe sr.pa (star_cons e _ _)) fun σ H Q=>lift_elim fun μ ρ h hr er q=>?_
      refine lift_bind (m:=e.ev cl) hr er q fun da h1 μ1 H1 x _ e1 r1 er1 qa p1=>?_
      refine lift_bind (m:=r.ev cl) r1 er1 p1 fun ds h2 μ2 H2 xs _ e2 r2 er2 qb p2=>?_
      exact p2.here r2 (.cons (qa.mono e2) qb)
    · skip
      refine PE.mono (pe_and sb.pe (sr.an e p se)) fun σ H Q=>lift_elim fun μ ρ h hr er q=>?_
      refine lift_bind (m:=b.ev cl) hr er q fun d h1 μ1 H1 x _ e1 r1 er1 qa p1=>?_
      cases qa with
      | bl c =>
        refine ⟨c,rfl,?_⟩
        cases c with
        | true=>exact iteT ⟨μ1,ρ,h1,r1,er1,p1⟩
        | false=>exact iteF (p1.here r1 (.bl _))
      | _=>exact p1.elim
    · skip
      have hr2:e.okT=true /\ r.okT=true:=by have hr':(_ && _)=true:=hr'; simpa using hr'
      refine PW.mono (pw_and (sb.pt hb) (sr.anT e p se hr2.1 hr2.2)) fun σ H Q=>lift_elim fun μ ρ h hr er q=>?_
      refine lift_bind (m:=b.evT cl) (R:=RB) hr er q fun c h1 μ1 H1 x _ e1 r1 er1 qa p1=>?_
      have qa':c=x:=qa
      subst qa'
      cases c with
      | true=>exact iteT ⟨μ1,ρ,h1,r1,er1,p1⟩
      | false=>exact iteF (p1.here r1 rfl)
    · skip
      refine PE.mono (pe_or sb.pe (sr.orr e p se)) fun σ H Q=>lift_elim fun μ ρ h hr er q=>?_
      refine lift_bind (m:=b.ev cl) hr er q fun d h1 μ1 H1 x _ e1 r1 er1 qa p1=>?_
      cases qa with
      | bl c =>
        refine ⟨c,rfl,?_⟩
        cases c with
        | true=>exact iteT (p1.here r1 (.bl _))
        | false=>exact iteF ⟨μ1,ρ,h1,r1,er1,p1⟩
      | _=>exact p1.elim
    · skip
      have hr2:e.okT=true /\ r.okT=true:=by have hr':(_ && _)=true:=hr'; simpa using hr'
      refine PW.mono (pw_or (sb.pt hb) (sr.orT e p se hr2.1 hr2.2)) fun σ H Q=>lift_elim fun μ ρ h hr er q=>?_
      refine lift_bind (m:=b.evT cl) (R:=RB) hr er q fun c h1 μ1 H1 x _ e1 r1 er1 qa p1=>?_
      have qa':c=x:=qa
      subst qa'
      cases c with
      | true=>exact iteT (p1.here r1 rfl)
      | false=>exact iteF ⟨μ1,ρ,h1,r1,er1,p1⟩
end
end
end PI
set_option Elab.async false
set_option linter.all false
set_option maxRecDepth 100000
set_option maxHeartbeats 4000000
namespace PI
open PySem L2 PySem.Spec
open PyProof.Rows hiding St
noncomputable def PostS (K:PySem.W.Frag) (cv:Nat->Value) (μ:List Addr) (H:Hp) (r:RS) (En:Ends) (Z:ZK):Prop :=
  match r with
  | .nx ρ h'=>∀ μ' H' σ',Ext K μ H μ' H'->HR K μ' h' H'->ER K μ' ρ σ' H'->En.nx σ' H'
  | .bk ρ h'=>∀ μ' H' σ',Ext K μ H μ' H'->HR K μ' h' H'->ER K μ' ρ σ' H'->En.bk σ' H'
  | .ct ρ h'=>∀ μ' H' σ',Ext K μ H μ' H'->HR K μ' h' H'->ER K μ' ρ σ' H'->En.ct σ' H'
  | .rt d h'=>∀ μ' H' v,Ext K μ H μ' H'->HR K μ' h' H'->Rep K μ' H' d v->En.rt v H'
  | .ex c ρ h'=>∀ μ' H' σ',Ext K μ H μ' H'->HR K μ' h' H'->ER K μ' ρ σ' H'->Z σ' (cv c) H'
  | .no=>False
noncomputable def liftS (K:PySem.W.Frag) (cv:Nat->Value) (Z:ZK) (m:En->Hh->RS):TS:=fun En σ H=>∃ μ ρ h,HR K μ h H /\ ER K μ ρ σ H /\ PostS K cv μ H (m ρ h) En Z
theorem liftS_elim {K:PySem.W.Frag} {cv:Nat->Value} {Z:ZK} {m:En->Hh->RS} {En:Ends} {σ:St} {H:Hp} {G:Prop} (f:∀ μ ρ h,HR K μ h H->ER K μ ρ σ H->PostS K cv μ H (m ρ h) En Z->G) (x:liftS K cv Z m En σ H):G:=by
  obtain ⟨μ,ρ,h,hr,er,q⟩:=x
  exact f μ ρ h hr er q
theorem PostS.ext {K:PySem.W.Frag} {cv:Nat->Value} {μ μ1:List Addr} {H H1:Hp} {r:RS} {En:Ends} {Z:ZK} (p:PostS K cv μ H r En Z) (e:Ext K μ H μ1 H1):PostS K cv μ1 H1 r En Z:=by
  unfold PostS at p ⊢
  cases r with
  | nx ρ h=>exact fun μ' H' σ' e1 r1 q1=>p μ' H' σ' (e.trans e1) r1 q1
  | bk ρ h=>exact fun μ' H' σ' e1 r1 q1=>p μ' H' σ' (e.trans e1) r1 q1
  | ct ρ h=>exact fun μ' H' σ' e1 r1 q1=>p μ' H' σ' (e.trans e1) r1 q1
  | rt d h=>exact fun μ' H' σ' e1 r1 q1=>p μ' H' σ' (e.trans e1) r1 q1
  | ex c ρ h=>exact fun μ' H' σ' e1 r1 q1=>p μ' H' σ' (e.trans e1) r1 q1
  | no=>exact p
theorem liftS_bind {α β:Type} {K:PySem.W.Frag} {cv:Nat->Value} {R:List Addr->Hp->α->β->Prop} {μ:List Addr} {ρ:En} {h:Hh} {σ:St} {H:Hp} {Z:ZK} {m:En->Hh->Res α} {f:α->Hh->RS} {En:Ends} {Q':β->Hp->Prop}
    (hr:HR K μ h H) (er:ER K μ ρ σ H) (p:PostS K cv μ H (andS ρ (m ρ h) f) En Z)
    (go:∀ a h1 μ1 H1 x,m ρ h=.ok a h1->Ext K μ H μ1 H1->HR K μ1 h1 H1->ER K μ1 ρ σ H1->R μ1 H1 a x->PostS K cv μ1 H1 (f a h1) En Z->Q' x H1) :
    lift K cv R Z m σ H Q':=by
  refine ⟨μ,ρ,h,hr,er,?_⟩
  unfold andS at p
  cases e:m ρ h with
  | ok a h1 =>
    rw [e] at p
    exact fun μ1 H1 x e1 r1 q1=>go a h1 μ1 H1 x e e1 r1 (er.mono e1) q1 (PostS.ext p e1)
  | exc c h1 =>
    rw [e] at p
    exact fun μ1 H1 e1 r1=>p μ1 H1 σ e1 r1 (er.mono e1)
  | no=>rw [e] at p; exact p
noncomputable def E.noC:E->Bool
  | .ofL (.comp _ _ _ _ _ _ _ _)=>false
  | _=>true
mutual
noncomputable def S.ok (sc:Scope) (n:Nm):S->Bool
  | .set i e _ _=>decide (i < n.N.length) && e.ok sc n
  | .ret e _=>e.ok sc n
  | .iff c a b _=>c.ok sc n && c.okT && a.ok sc n && b.ok sc n
  | .ex e _=>e.ok sc n && e.noC
  | .forr t it b _=>t.okS n.N && (it.ok sc n && t.forI it) && b.ok sc n
  | .raw _=>true
  | .rep _ _ _ _ _ _=>false
noncomputable def Ss.ok (sc:Scope) (n:Nm):Ss->Bool
  | .nil=>true
  | .cons s r=>s.ok sc n && r.ok sc n
end
theorem PS.mono {X:Cx} {e:Stmt} {t t':TS} (p:PS X e t) (h:∀ En σ H,t' En σ H->t En σ H):PS X e t':=fun pins s σ H En I q=>p pins s σ H En I (h En σ H q)
theorem PSs.mono {X:Cx} {e:List Stmt} {t t':TS} (p:PSs X e t) (h:∀ En σ H,t' En σ H->t En σ H):PSs X e t':=fun pins s σ H En I q=>p pins s σ H En I (h En σ H q)
structure KxS (X:Cx) (Z:ZK) (k:Nat) (n:Nm) (cv:Nat->Value) (cl:Nat->List D->Hh->Res D):Prop extends Kx X Z k n cv cl where
  lo:∀ x ∈ n.N,Loc X.env.scope x /\ (X.fn x=true \/ X.env.scope.names.lookup x=some .local)
theorem KxS.wish {X:Cx} {Z:ZK} {k:Nat} {n:Nm} {cv:Nat->Value} {cl:Nat->List D->Hh->Res D} (C:KxS X Z k n cv cl):KxS (X.wish (XE X Z)) Z k n cv cl :=
  ⟨⟨C.th.wished,C.rm,C.nN,C.nd,C.cm,C.kd,C.nm,C.bm,C.gc,C.fn⟩,C.lo⟩
section
variable {X:Cx} {Z:ZK} {k:Nat} {n:Nm} {cv:Nat->Value} {cl:Nat->List D->Hh->Res D}
theorem swaps_plain (e:E) (h:e.noC=true) (t:Option Expr) (l:Nat) (env:Env):swapsWith (e.py n) t l env=pure false:=by
  cases e with
  | ofL l =>
    cases l with
    | disp es p=>rfl
    | comp=>cases h
  | _=>rfl
theorem for_ours {t:Tg} {it:I} {b:Ss} {En:Ends} {σ:St} {H:Hp} {μ:List Addr} {ρ:PI.En} {h:Hh} (hr:HR X.K μ h H) (er:ER X.K μ ρ σ H) (q:PostS X.K cv μ H ((S.forr t it b p).run cl ρ h) En Z) :
    tFor (lift X.K cv (RJ X.K) Z (it.ev cl)) (gB X.K t) (liftS X.K cv Z (b.run cl)) En σ H:=by
  refine liftS_bind (m:=it.ev cl) hr er q fun qq h1 μ1 H1 J _ e1 r1 er1 src p1=>?_
  obtain ⟨c,ds⟩:=qq
  refine ⟨fun i m σ' H'=>m=ds.length - i /\ i<=ds.length /\ ∃ μ2 ρ2 h2,Ext X.K μ1 H1 μ2 H' /\ HR X.K μ2 h2 H' /\ ER X.K μ2 ρ2 σ' H' /\ PostS X.K cv μ2 H' (forL c (stepF t fun ρ' h'=>b.run cl ρ' h') (ds.drop i) ρ2 h2) En Z,
    ⟨ds.length,by simp,Nat.zero_le _,μ1,ρ,h1,Ext.refl,r1,er1,p1⟩,?_⟩
  rintro i m σ' H' ⟨rfl,hi,μ2,ρ2,h2,e2,r2,er2,p2⟩
  by_cases hlt:i < ds.length
  · right
    rw [List.drop_eq_getElem_cons hlt] at p2
    unfold forL at p2
    split at p2
    rotate_left
    · exact p2.elim
    rename_i st
    obtain ⟨s1,s2⟩:=src μ2 h2 H' e2 r2 st
    obtain ⟨g1,g2⟩:=s1 i ds[i] (List.getElem?_eq_getElem hlt)
    refine ⟨g1,fun σ3 H3=>ds.length - (i + 1)=ds.length - (i + 1) /\ i + 1<=ds.length /\ ∃ μ3 ρ3 h3,Ext X.K μ1 H1 μ3 H3 /\ HR X.K μ3 h3 H3 /\ ER X.K μ3 ρ3 σ3 H3 /\ PostS X.K cv μ3 H3 (forL c (stepF t fun ρ' h'=>b.run cl ρ' h') (ds.drop (i + 1)) ρ3 h3) En Z,
      fun σ3 H3 z=>⟨ds.length - (i + 1),by omega,z⟩,fun x H3 y=>?_⟩
    obtain ⟨e2',r2',rx⟩:=g2 x H3 y
    replace p2:=PostS.ext p2 e2'
    replace e2:=e2.trans e2'
    replace r2:=r2'
    replace er2:=er2.mono e2'
    unfold stepF at p2
    cases eb:bindT t ds[i] ρ2 with
    | none=>rw [eb] at p2; exact p2.elim
    | some ρ3 =>
      rw [eb] at p2
      refine ⟨μ2,ρ2,ds[i],ρ3,h2,r2,er2,rx,eb,fun σ3 er3 _ _=>⟨μ2,ρ3,h2,r2,er3,?_⟩⟩
      cases eo:b.run cl ρ3 h2 with
      | nx ρ4 h4 =>
        simp only [eo] at p2
        exact fun μ4 H4 σ4 e4 r4 er4=>⟨rfl,hlt,μ4,ρ4,h4,e2.trans e4,r4,er4,PostS.ext p2 e4⟩
      | ct ρ4 h4 =>
        simp only [eo] at p2
        exact fun μ4 H4 σ4 e4 r4 er4=>⟨rfl,hlt,μ4,ρ4,h4,e2.trans e4,r4,er4,PostS.ext p2 e4⟩
      | bk ρ4 h4=>simp only [eo] at p2; exact p2
      | rt d h4=>simp only [eo] at p2; exact p2
      | ex c' ρ4 h4=>simp only [eo] at p2; exact p2
      | no=>simp only [eo] at p2; exact p2
  · left
    have ei:i=ds.length:=by omega
    subst ei
    rw [List.drop_length] at p2
    unfold forL at p2
    split at p2
    rotate_left
    · exact p2.elim
    rename_i st
    exact ⟨(src μ2 h2 H' e2 r2 st).2,p2 μ2 H' σ' Ext.refl r2 er2⟩
mutual
theorem sS:∀ (s:S) (X:Cx) (Z:ZK) (k:Nat) (n:Nm) (cv:Nat->Value) (cl:Nat->List D->Hh->Res D),KxS X Z k n cv cl->s.ok X.env.scope n=true->PS X (s.py n) (liftS X.K cv Z (s.run cl))
  | .set i e p1 p,X,Z,k,n,cv,cl,C,h=>by
    have h':i < n.N.length /\ e.ok X.env.scope n=true:=by have h:(_ && _)=true:=h; simpa using h
    have hm:=C.lo _ (getD_mem (d:=("":Str)) h'.1)
    have hN:X.N[i]?=some (n.N.getD i ""):=by rw [C.nN]; exact getD_some h'.1
    have plain:swapsWith (e.py n) (some (.Name (n.N.getD i "") p1)) p.line X.env=pure false->PS X ((S.set i e p1 p).py n) (liftS X.K cv Z ((S.set i e p1 p).run cl)):=fun hs=>by
      have se:=sE e X Z k n cv cl C.toKx h'.2
      refine PS.mono (ps_set (i:=i) C.nd hN hm.1 se.pe hs hm.2) fun En σ H=>liftS_elim fun μ ρ h hr er q=>?_
      refine liftS_bind (m:=e.ev cl) hr er q fun d h1 μ1 H1 x _ e1 r1 er1 qa p1=>?_
      exact p1 μ1 H1 _ Ext.refl r1 (er1.set qa i)
    cases hn:e.noC with
    | true=>exact plain (swaps_plain e hn _ _ _)
    | false =>
      cases e with
      | ofL l =>
        cases l with
        | disp es pp=>cases hn
        | comp elt t it c NC cap csc pp =>
          have hL:(L.comp elt t it c NC cap csc pp).ok X.env.scope n=true:=by exact h'.2
          obtain ⟨b,eb,hb⟩:∃ b,swapsWith ((E.ofL (.comp elt t it c NC cap csc pp)).py n) (some (.Name (n.N.getD i "") p1)) p.line X.env=pure b /\ (b=true->X.env.scope.names.lookup (n.N.getD i "")=some .local):=by
            refine ⟨_,by rfl,fun z=>?_⟩
            simp only [Bool.and_eq_true,beq_iff_eq] at z
            exact z.1.1.2
          cases b with
          | false=>exact plain eb
          | true =>
            obtain ⟨k1,k2,k3,k4,k5,k6,k7,k8,k9⟩:=comp_ok C.toKx hL
            have hit:=sI it X Z k n cv cl C.toKx k1.1 t k1.2 NC
            have hff:∀ Cc s H fp pn xe Zc,Thr (compCx X NC csc Cc s H fp pn xe) Zc->PF (compCx X NC csc Cc s H fp pn xe) (c.py ⟨NC,n.F,n.G⟩) (lift X.K cv RB Zc (c.evC cl)):=fun Cc s H fp pn xe Zc th=>by
              have Cc':=C.toKx.comp k2 k3 k4 th
              cases c with
              | nil=>exact pf_none
              | cons e r =>
                cases r with
                | cons _ _=>cases k9
                | nil =>
                  have se:=sE e _ Zc k ⟨NC,n.F,n.G⟩ cv cl Cc' (by have k7:(_ && _)=true:=k7; simp at k7; exact k7.1)
                  have ht:=se.pt (by have k8:(_ && _)=true:=k8; simp at k8; exact k8.1)
                  exact pf_one ht
            have key:=ps_setC (X:=X) (i:=i) (cap:=cap) (pos:=pp) (pos':=p1) (spos:=p) (g:=gB X.K t) (tf:=fun Zc=>lift X.K cv RB Zc (c.evC cl)) (te:=fun Zc=>lift X.K cv (Rep X.K) Zc (elt.ev cl)) C.cm C.th hit k2 (fun Cc s H fp pn xe=>comp_pg C.kd k2 k3 k5) hff
              (fun Cc s H fp pn xe Zc th=>(sE elt _ Zc k ⟨NC,n.F,n.G⟩ cv cl (C.toKx.comp k2 k3 k4 th) k6).pe) (fold_plain it) C.nd hN (hb rfl) eb
            refine PS.mono key fun En σ H=>liftS_elim fun μ ρ h hr er q=>read_comp k2 k5 ⟨μ,ρ,h,hr,er,?_⟩
            have q:PostS X.K cv μ H (andS ρ (((L.comp elt t it c NC cap csc pp).ev cl ρ h).bind fun xs h1=>new (.lst xs) h1) fun d h1=>.nx (ρ.set i (some d)) h1) En Z:=q
            show PostE X.K cv (RL X.K H) μ H ((L.comp elt t it c NC cap csc pp).ev cl ρ h) _ (Z σ)
            cases el:(L.comp elt t it c NC cap csc pp).ev cl ρ h with
            | ok ds h1 =>
              rw [el] at q
              intro μ1 H1 x e1 r1 ⟨pa,vs,ex,g1,g2,g3,g4⟩
              subst ex
              have er1:ER X.K (μ1 ++ [pa]) ρ σ H1:=er.mono (e1.add g4)
              refine q (μ1 ++ [pa]) H1 _ (e1.add g4) (r1.add g3 fun μ' gr=>⟨vs,g1,g2.mono' gr⟩) (er1.set (.loc ?_) i)
              rw [<- r1.len,List.getElem?_append_right (Nat.le_refl _),Nat.sub_self]
              rfl
            | exc cc h1=>rw [el] at q; exact fun μ1 H1 e1 r1=>q μ1 H1 σ e1 r1 (er.mono e1)
            | no=>rw [el] at q; exact q
      | _=>cases hn
  | .ret e p,X,Z,k,n,cv,cl,C,h=>by
    have se:=sE e X Z k n cv cl C.toKx (by exact h)
    refine PS.mono (ps_ret se.pe) fun En σ H=>liftS_elim fun μ ρ h hr er q=>?_
    refine liftS_bind (m:=e.ev cl) hr er q fun d h1 μ1 H1 x _ e1 r1 er1 qa p1=>?_
    exact p1 μ1 H1 x Ext.refl r1 qa
  | .iff c a b p,X,Z,k,n,cv,cl,C,h=>by
    have h':((c.ok X.env.scope n=true /\ c.okT=true) /\ a.ok X.env.scope n=true) /\ b.ok X.env.scope n=true:=by have h:(_ && _)=true:=h; simpa using h
    have sc:=sE c X Z k n cv cl C.toKx h'.1.1.1
    have sa:=sSs a X Z k n cv cl C h'.1.2
    have sb:=sSs b X Z k n cv cl C h'.2
    refine PS.mono (ps_if (sc.pt h'.1.1.2) sa sb) fun En σ H=>liftS_elim fun μ ρ h hr er q=>?_
    refine liftS_bind (m:=c.evT cl) (R:=RB) hr er q fun t h1 μ1 H1 x _ e1 r1 er1 qa p1=>?_
    have qa':t=x:=qa
    subst qa'
    cases t with
    | true=>exact iteT ⟨μ1,ρ,h1,r1,er1,p1⟩
    | false=>exact iteF ⟨μ1,ρ,h1,r1,er1,p1⟩
  | .ex e p,X,Z,k,n,cv,cl,C,h=>by
    have h':e.ok X.env.scope n=true /\ e.noC=true:=by have h:(_ && _)=true:=h; simpa using h
    have se:=sE e X Z k n cv cl C.toKx h'.1
    refine PS.mono (ps_expr se.pe (swaps_plain e h'.2 _ _ _)) fun En σ H=>liftS_elim fun μ ρ h hr er q=>?_
    refine liftS_bind (m:=e.ev cl) hr er q fun d h1 μ1 H1 x _ e1 r1 er1 qa p1=>?_
    exact p1 μ1 H1 _ Ext.refl r1 er1
  | .forr t it b p,X,Z,k,n,cv,cl,C,h=>by
    have h':(t.okS n.N=true /\ it.ok X.env.scope n=true /\ t.forI it=true) /\ b.ok X.env.scope n=true:=by have h:(_ && _)=true:=h; simpa using h
    have hi:=sI it _ Z k n cv cl C.wish.toKx h'.1.2.1 t h'.1.2.2 n.N
    have hb:=sSs b _ Z k n cv cl C.wish h'.2
    have hg:PG (X.wish (XE X Z)) (t.py n.N) (gB X.K t):=by
      have z:=pg_T (X:=X.wish (XE X Z)) C.cm C.nd t fun i hi=>by
        have h1:=List.all_eq_true.mp h'.1.1 i hi
        have hl:i < n.N.length:=of_decide_eq_true h1
        have hm:=C.lo _ (getD_mem (d:=("":Str)) hl)
        have eN:(X.wish (XE X Z)).N=n.N:=C.nN
        rw [eN]
        exact ⟨hl,hm⟩
      rw [show (X.wish (XE X Z)).N=n.N from C.nN] at z
      exact z
    exact PS.mono (ps_forX C.th C.cm hi hg hb (fold_plain it)) fun En σ H=>liftS_elim fun μ ρ h hr er q=>for_ours (p:=p) hr er q
  | .raw st,X,Z,k,n,cv,cl,C,h=>by
    refine fun pins s σ H En I q=>?_
    obtain ⟨μ,ρ,h,hr,er,q⟩:=q
    exact q.elim
  | .rep _ _ _ _ _ _,X,Z,k,n,cv,cl,C,h=>by cases h
theorem sSs:∀ (s:Ss) (X:Cx) (Z:ZK) (k:Nat) (n:Nm) (cv:Nat->Value) (cl:Nat->List D->Hh->Res D),KxS X Z k n cv cl->s.ok X.env.scope n=true->PSs X (s.py n) (liftS X.K cv Z (s.run cl))
  | .nil,X,Z,k,n,cv,cl,C,_=>by
    refine PSs.mono pss_nil fun En σ H=>liftS_elim fun μ ρ h hr er q=>?_
    exact q μ H σ Ext.refl hr er
  | .cons s r,X,Z,k,n,cv,cl,C,h=>by
    have h':s.ok X.env.scope n=true /\ r.ok X.env.scope n=true:=by have h:(_ && _)=true:=h; simpa using h
    have ss:=sS s X Z k n cv cl C h'.1
    have sr:=sSs r X Z k n cv cl C h'.2
    refine PSs.mono (pss_cons ss sr) fun En σ H=>liftS_elim fun μ ρ h hr er q=>?_
    have q:PostS X.K cv μ H (seqS (s.run cl ρ h) fun ρ' h'=>r.run cl ρ' h') En Z:=q
    refine ⟨μ,ρ,h,hr,er,?_⟩
    cases e:s.run cl ρ h with
    | nx ρ' h1 =>
      rw [e] at q
      exact fun μ1 H1 σ1 e1 r1 er1=>⟨μ1,ρ',h1,r1,er1,PostS.ext q e1⟩
    | bk ρ' h1=>rw [e] at q; exact q
    | ct ρ' h1=>rw [e] at q; exact q
    | rt d h1=>rw [e] at q; exact q
    | ex c ρ' h1=>rw [e] at q; exact q
    | no=>rw [e] at q; exact q
end
end
end PI
set_option Elab.async false
set_option linter.all false
set_option maxRecDepth 100000
set_option maxHeartbeats 4000000
namespace PI
open PySem L2 PySem.Spec
open PyProof.Rows hiding St
section
variable {X:Cx} {Z:ZK} {k:Nat} {n:Nm} {cv:Nat->Value} {cl:Nat->List D->Hh->Res D}
noncomputable def okR (sc:Scope) (n:Nm):Ss->Bool
  | .cons (.rep i j _ rs _ _) r=>decide (i < n.N.length) && decide (j < n.N.length) && rs.all (fun r=>!(r.c == r.d) && (r.pa.endLine == r.p.line)) && r.ok sc n
  | _=>false
noncomputable def okD (b:Ss) (sc:Scope) (n:Nm) (ps:List Str):Bool:=b.ok sc n || (okR sc n b && !ps.isEmpty && sc.names.all fun y=>y.2 != .cell)
noncomputable def tReps (t:TE):List Rp->TE
  | []=>t
  | r :: rs=>tReps (tRepl t r.c r.d) rs
theorem pet_reps:∀ (rs:List Rp) {e:Expr} {t:TE},PET X e t->attributeBase e "replace" X.env (eval e X.env)=eval e X.env->(rs.all fun r=>!(r.c == r.d) && (r.pa.endLine == r.p.line))=true->PET X (rs.foldl Rp.py e) (tReps t rs)
  | [],_,_,he,_,_=>he
  | r :: rs,e,t,he,hb,h=>by
    rw [List.all_cons,Bool.and_eq_true,Bool.and_eq_true] at h
    refine pet_reps rs (e:=Rp.py e r) (t:=tRepl t r.c r.d) (pet_replace he (by have:=h.1.1; simpa using this) hb rfl h.1.2) rfl h.2
theorem reps_go {σ:St} {H:Hp} {μ:List Addr} {h:Hh}:∀ (rs:List Rp) {z z':Str} {t:TE},repS rs z=some z'->(∀ Q:VK,(∀ μ' H',Ext X.K μ H μ' H'->HR X.K μ' h H'->Q (.str z) H')->t σ H Q)->∀ Q:VK,(∀ μ' H',Ext X.K μ H μ' H'->HR X.K μ' h H'->Q (.str z') H')->tReps t rs σ H Q
  | [],z,z',t,e,ht,Q,q=>by cases e; exact ht Q q
  | r :: rs,z,z',t,e,ht,Q,q=>by
    unfold repS at e
    split at e
    · rename_i c
      exact reps_go rs (t:=tRepl t r.c r.d) e (fun Q' q'=>ht _ fun μ' H' ex hr=>⟨z,rfl,c,q' μ' H' ex hr⟩) Q q
    · cases e
theorem swaps_reps:∀ (rs:List Rp) (e:Expr) (o:Option Expr) (l:Nat) (env:Env),(∀ o l,swapsWith e o l env=pure false)->swapsWith (rs.foldl Rp.py e) o l env=pure false
  | [],e,o,l,env,h=>h o l
  | r :: rs,e,o,l,env,h=>swaps_reps rs (Rp.py e r) o l env fun _ _=>rfl
theorem PSsT.mono {st:List Stmt} {t u:TS} (h:PSsT X st t) (g:∀ D σ H,u D σ H->t D σ H):PSsT X st u:=fun pins s σ H D I h0 q=>h pins s σ H D I h0 (g D σ H q)
theorem sR (C:KxS X Z k n cv cl):∀ (b:Ss),okR X.env.scope n b=true->PSsT X (b.py n) (liftS X.K cv Z (b.run cl))
  | .cons (.rep i j p0 rs p1 p) r,h=>by
    have h:(_ && _)=true:=h
    simp only [Bool.and_eq_true,decide_eq_true_eq] at h
    obtain ⟨⟨⟨h1,h2⟩,h3⟩,h4⟩:=h
    have hm:=C.lo _ (getD_mem (d:=("":Str)) h1)
    have hN:X.N[i]?=some (n.N.getD i ""):=by rw [C.nN]; exact getD_some h1
    have se:=sE (.var j p0) X Z k n cv cl C.toKx (decide_eq_true h2)
    have sr:=sSs r X Z k n cv cl C h4
    have hp:=pet_reps rs (PE.pet se.pe) (base_plain (.var j p0) _ _) h3
    refine PSsT.mono (psst_cons (pst_set (i:=i) C.nd hN hm.1 hp (swaps_reps rs _ _ _ _ fun o l=>swaps_plain (.var j p0) rfl _ _ _) hm.2) sr) fun En σ H=>liftS_elim fun μ ρ h hr er q=>?_
    have q:PostS X.K cv μ H (seqS (match ρ[j]? with | some (some (.str z))=>(match repS rs z with | some z'=>.nx (ρ.set i (some (.str z'))) h | none=>.no) | _=>.no) fun ρ' h'=>r.run cl ρ' h') En Z:=q
    cases e1:ρ[j]? with
    | none=>rw [e1] at q; exact q.elim
    | some o =>
      cases o with
      | none=>rw [e1] at q; exact q.elim
      | some d =>
        cases d with
        | str z =>
          cases e2:repS rs z with
          | none=>simp only [e1,e2] at q; exact q.elim
          | some z' =>
            simp only [e1,e2] at q
            refine reps_go (X:=X) (μ:=μ) (h:=h) rs e2 (fun Q q'=>⟨μ,ρ,h,hr,er,?_⟩) _ fun μ' H' ex hr'=>⟨μ',ρ.set i (some (.str z')),h,hr',(er.mono ex).set (.str z') i,PostS.ext q ex⟩
            show PostE X.K cv (Rep X.K) μ H (match ρ[j]? with | some (some d)=>.ok d h | _=>.no) Q (Z σ)
            rw [e1]
            intro μ' H' v ex hr' rv
            cases rv
            exact q' μ' H' ex hr'
        | _=>rw [e1] at q; exact q.elim
  | .nil,h=>by cases h
  | .cons (.set _ _ _ _) _,h=>by cases h
  | .cons (.ret _ _) _,h=>by cases h
  | .cons (.iff _ _ _ _) _,h=>by cases h
  | .cons (.ex _ _) _,h=>by cases h
  | .cons (.forr _ _ _ _) _,h=>by cases h
  | .cons (.raw _) _,h=>by cases h
end
structure DefOk (st:Stmt) (d:Df) (F:List Str) (G:List (Str × Cn)):Prop where
  body:defBody st=d.body.py ⟨d.N,F,G⟩
  sc:FnScope d.N d.ps (defScope st)
  ok:okD d.body (defScope st) ⟨d.N,F,G⟩ d.ps=true
  nm:∀ x ∈ d.N,((defScope st).names.lookup x=some .local \/ (defScope st).names.lookup x=some .cell) /\ goodN x=true
  bd:∀ (kV doc pm:Value) (an:Option Addr) (cdv ct:Value) (us:List Value),us.length=d.ps.length ->
    bindArgs (PySem.W.fnOf d.name d.name (defArgs st) (defBody st) (defScope st) .none kV doc pm an cdv ct) ⟨us,[]⟩=pure (d.ps.zip us)
structure Tab (P:Program) (w:World) (K:PySem.W.Frag) (mg:Str->Option Value) (ds:List Df) (G:List (Str × Cn)):Prop where
  bm:∀ x,x ∈ bnames->mg x=none
  gc:∀ x c,(x,c) ∈ G->(x == ("__debug__":Str))=false /\ ∃ v,mg x=some v /\ CnOk P w K v c
  fn:∀ (i:Nat) d,ds[i]?=some d->(d.name == ("__debug__":Str))=false /\ ∃ st f fd,mg d.name=some (.ref f) /\ Fun K d.name d.name st f fd /\ DefOk st d (ds.map (·.name)) G
theorem er_start {K:PySem.W.Frag} {μ:List Addr} {H:Hp} {as:List D} {vs:List V} (N:List Str) (r:Reps K μ H as vs):ER K μ (as.map some ++ List.replicate (N.length - as.length) none) (L2.start N vs) H:=by
  unfold L2.start
  refine ⟨by simp [r.length],fun i d h=>?_⟩
  rw [List.getElem?_append] at h ⊢
  rw [List.length_map] at h ⊢
  rw [<- r.length]
  split at h
  · rename_i c
    rw [if_pos c]
    rw [List.getElem?_map] at h ⊢
    cases e:as[i]? with
    | none=>rw [e] at h; cases h
    | some a =>
      rw [e] at h
      cases h
      obtain ⟨v,e1,e2⟩:=r.get e
      rw [e1]
      exact ⟨v,rfl,e2⟩
  · exfalso
    rw [List.getElem?_replicate] at h
    split at h <;> cases h
theorem callI_len {ds:List Df} {k i:Nat} {d:Df} (hd:ds[i]?=some d):∀ as h,callI ds k i as h ≠ .no->as.length=d.ps.length:=by
  intro as h q
  cases k with
  | zero=>exact absurd rfl q
  | succ k =>
    unfold callI at q
    rw [hd] at q
    by_cases c:as.length=d.ps.length
    · exact c
    · exact absurd (if_neg c) q
section
variable {P:Program} {w:World} {K:PySem.W.Frag} {mg:Str->Option Value} {base:Heap} {ds:List Df} {G:List (Str × Cn)} {cv:Nat->Value}
theorem all_fn (T:Tab P w K mg ds G):∀ (k i:Nat) (d:Df) (st:Stmt) (f:Addr) (fd:FuncData),ds[i]?=some d->mg d.name=some (.ref f)->Fun K d.name d.name st f fd->DefOk st d (ds.map (·.name)) G ->
    FnOk P w K mg base (CXs P w) k f fd d.ps (spI K cv d.ps.length (callI ds k i))
  | 0,i,d,st,f,fd,hd,hm,F,o=>by
    have no:∀ vs H Q E,¬ spI K cv d.ps.length (callI ds 0 i) vs H Q E:=fun vs H Q E ⟨_,_,_,_,_,_,z⟩=>z
    exact ⟨fun vs H Q E h=>absurd h (no vs H Q E),fun A outer s H args us vs Q E _ _ _ _ h=>absurd h (no vs H Q E)⟩
  | k + 1,i,d,st,f,fd,hd,hm,F,o=>by
    have KC:∀ (cdv:Value) (A:Around) (outer:List Env) (s:Shared) (H:Hp) (E:XK),Room k (A.deeper (envOfC d.name (defScope st) s.heap.objs.size f cdv))->KxS (cxOf (CXs P w) P w K mg base d.N d.name (defScope st) f cdv A outer s H E) (fun _ C H'=>E C none H') k ⟨d.N,ds.map (·.name),G⟩ cv (callI ds k):=fun cdv A outer s H E hr=>by
      refine ⟨⟨thr_def,hr,rfl,o.sc.nd,rfl,o.sc.kind,fun x hx=>⟨(o.nm x hx).1.elim .inl fun z=>.inr (.inl z),(o.nm x hx).2⟩,T.bm,T.gc,fun j x hj=>?_⟩,fun x hx=>⟨(o.nm x hx).1,.inl rfl⟩⟩
      have hj':(ds.map (·.name))[j]?=some x:=hj
      rw [List.getElem?_map] at hj'
      cases e:ds[j]? with
      | none=>rw [e] at hj'; cases hj'
      | some d' =>
        rw [e] at hj'
        cases hj'
        obtain ⟨h1,st',f',fd',m',F',o'⟩:=T.fn j d' e
        exact ⟨h1,f',fd',d'.ps,m',F'.kp,F'.binds o'.bd,callI_len e,all_fn T k j d' st' f' fd' e m' F' o'⟩
    have fin:∀ {H:Hp} {vs:List V} {Q:VK} {E:XK},spI K cv d.ps.length (callI ds (k + 1) i) vs H Q E->liftS K cv (fun _ C H'=>E C none H') (d.body.run (callI ds k)) { nx:=fun _ H'=>Q .non H',rt:=Q } (L2.start d.N vs) H:=fun {H vs Q E} h=>by
      obtain ⟨hl,μ,h,as,hH,hv,p⟩:=h
      refine ⟨μ,_,h,hH,er_start d.N hv,?_⟩
      have c:as.length=d.ps.length:=by rw [hv.length]; exact hl
      rw [callI_succ hd c] at p
      have p1:=p
      unfold Df.run outR at p1
      cases e:d.body.run (callI ds k) (as.map some ++ List.replicate (d.N.length - as.length) none) h with
      | nx ρ h1=>rw [e] at p1; exact fun μ1 H1 σ1 e1 r1 er1=>p1 μ1 H1 .non e1 r1 .non
      | rt v h1=>rw [e] at p1; exact p1
      | ex c ρ h1=>rw [e] at p1; exact fun μ1 H1 σ1 e1 r1 er1=>p1 μ1 H1 e1 r1
      | bk ρ h1=>rw [e] at p1; exact p1.elim
      | ct ρ h1=>rw [e] at p1; exact p1.elim
      | no=>rw [e] at p1; exact p1.elim
    have ok:(_ || _)=true:=o.ok
    rcases Bool.or_eq_true_iff.mp ok with ok | ok
    · exact F.okX o.sc (fun vs H Q E h=>h.1) fun cdv A outer s H vs Q E hr h=>⟨_,by rw [o.body]; exact sSs d.body _ _ _ _ _ _ (KC cdv A outer s H E hr) ok,fin h⟩
    · simp only [Bool.and_eq_true,Bool.not_eq_true',List.isEmpty_eq_false_iff] at ok
      refine F.okT o.sc (fun y hy z=>?_) ok.1.2 (fun vs H Q E h=>h.1) fun cdv A outer s H vs Q E hr h=>⟨_,by rw [o.body]; exact sR (KC cdv A outer s H E hr) d.body ok.1.1,fin h⟩
      have:=List.all_eq_true.mp ok.2 y hy
      rw [z] at this
      exact absurd this (by decide)
end
noncomputable def EntsOk (w:World) (K:PySem.W.Frag):List DictEntry->List (Str × Cv)->Prop
  | [],[]=>True
  | e :: r,kx :: s=>(e.hash=hashStr w kx.1 /\ (∃ t,e.key=.str kx.1 t) /\ CvOk K e.val kx.2) /\ EntsOk w K r s
  | _,_=>False
theorem tupK_mk {K:PySem.W.Frag} {a:Addr} {d:Option Addr} {its:Array Value} {n:Nat} {sl:Array (Option Value)} {xs:List Str} (l:K.lookup a=some ⟨.type "tuple",d,.seq its n,sl⟩) (z:its.size<=sizeLine) (v:Vals (xs.map V.str) its.toList):TupK K a xs :=
  ⟨_,its,n,l,rfl,rfl,z,v⟩
theorem ents_pairs {P:Program} {w:World} {K:PySem.W.Frag}:∀ {es:List DictEntry} {kvs:List (Str × Cv)},EntsOk w K es kvs->∃ vs,Pairs (mixKind P w) es vs /\ DicV K kvs vs /\ vs.map (·.1)=kvs.map (fun kx=>(Sum.inr kx.1:Key)) /\ ∀ e ∈ es,∃ k,(mixKind P w).is k e.key=true /\ e.hash=(mixKind P w).hash k
  | [],[],_=>⟨[],.nil,trivial,rfl,fun e h=>absurd h (by simp)⟩
  | [],_ :: _,h=>h.elim
  | _ :: _,[],h=>h.elim
  | e :: r,(k,xs) :: s,⟨⟨h1,⟨t,h2⟩,h4⟩,h5⟩=>by
    obtain ⟨vs,p,d,n,ks⟩:=ents_pairs (P:=P) h5
    have ik:(mixKind P w).is (.inr k) e.key=true:=kV_is (k:=.inr k) ⟨t,h2⟩
    refine ⟨(.inr k,e.val) :: vs,.cons ik rfl p,⟨rfl,h4,d⟩,by simp [n],fun e' he=>?_⟩
    rcases List.mem_cons.mp he with rfl | he
    · exact ⟨_,ik,h1⟩
    · exact ks e' he
theorem cn_dic {P:Program} {w:World} {K:PySem.W.Frag} {a:Addr} {es:Array DictEntry} {ep:Nat} {kvs:List (Str × Cv)} (l:K.lookup a=some { cls:=.type "dict",data:=.dict es ep }) (h:EntsOk w K es.toList kvs) (nd:(kvs.map (·.1)).Nodup) :
    CnOk P w K (.ref a) (.dic kvs):=by
  obtain ⟨vs,p,d,n,ks⟩:=ents_pairs (P:=P) h
  refine ⟨a,_,es,ep,vs,rfl,l,⟨rfl,rfl,rfl⟩,rfl,fun e he=>ks e (by simpa using he),p,?_,d⟩
  rw [n]
  have e:kvs.map (fun kx=>(Sum.inr kx.1:Key))=(kvs.map (·.1)).map fun k=>(Sum.inr k:Key):=by simp
  rw [e]
  exact List.Pairwise.map _ (fun x y hxy z=>hxy (Sum.inr.inj z)) nd
theorem bits_of_W:∀ {ns:List Int},PySem.W.WData.weightAll (ns.map PySem.W.WData.int)<=2 ^ 20->∀ n ∈ ns,Builtin.Int.intBits n<=2 ^ 20
  | [],_,n,hn=>absurd hn (by simp)
  | m :: r,h,n,hn=>by
    rw [List.map_cons,PySem.W.WData.weightAll] at h
    rcases List.mem_cons.mp hn with rfl | hn
    · have e:PySem.W.WData.weight (.int n)=Builtin.Int.intBits n:=by rw [PySem.W.WData.weight]; rfl
      omega
    · exact bits_of_W (by omega) n hn
noncomputable def spLaw (K:PySem.W.Frag) (c:List D->Hh->Res D):Sp:=spI K (fun _=>.none) 1 c
theorem law_sp {K:PySem.W.Frag} {c:List D->Hh->Res D} {H:Hp} {a:Addr} {ns:List Int} {h':Hh} (hO:Only H) (hS:SqL K H a (ns.map V.int)) (e:c [.fl (ns.map D.int)] []=.ok (.bl true) h') :
    spLaw K c [.ref a] H (fun v _=>v=.bl true) (fun _ _ _=>False):=by
  have rp:∀ ms:List Int,Reps K [] H (ms.map D.int) (ms.map V.int):=fun ms=>by
    induction ms with
    | nil=>exact .nil
    | cons m r ih=>exact .cons (.int m) ih
  have fz:Fz K H a (ns.map V.int):=by
    rcases hS with h | h
    · left
      rcases h with h | h
      · rcases hO a with z | ⟨o,xs,z⟩
        · rw [h] at z; cases z
        · rw [h] at z; cases z
      · exact h
    · exact .inr fun H'=>.inr h
  refine ⟨rfl,[],[],[.fl (ns.map D.int)],⟨rfl,fun n m b e1=>by simp at e1,fun n b o e1=>by simp at e1⟩,.cons (.fl fz (rp ns)) .nil,?_⟩
  · rw [e]
    intro μ1 H1 v e1 r1 q1
    cases q1
    rfl
theorem walk_ofB {l:PySem.W.OpenLaw} {k:Nat} {q:Program} {loose:List Str} {XP:(Str->Option Value)->Heap->Prop} {YP:World->Heap->Prop} {d:DefRec} {K:Params->PySem.W.Frag} {c:List D->Hh->Res D} {x:Str}
    (hn:l.most=some 63) (hdf:d.params.defaults=[]) (hr:Room k callerA)
    (hY:∀ (w:World) (h:Heap),YP w h->(K w.params).In h)
    (F:∀ (w:World) (mg:Str->Option Value) (fa:Addr) (h:Heap),(K w.params).In h->h.Ns mainGlobals mg->mg d.name=some (.ref fa) ->
      ∃ fd:FuncData,(∀ (s:Shared) (u:Value),BindsTo s fd ⟨[u],[]⟩ [(x,u)]) /\
        ∀ base:Heap,(K w.params).In base->base.Ns mainGlobals mg->FnOk l.prog w (K w.params) mg base (CXs l.prog w) k fa fd [x] (spLaw (K w.params) c))
    (hc:∀ ns:List Int,ns.length<=63->(∀ n ∈ ns,Builtin.Int.intBits n<=2 ^ 20)->∃ h',c [.fl (ns.map D.int)] []=.ok (.bl true) h') :
    PySem.W.WalkO q loose XP YP l.row.toRowW d [] (fun f vs=>PySem.call f vs):=by
  intro w s₀ s₁ mg mb G Y fa o pm cd doc dV kV ho hd hcd hD hmg hg args vals as hpre hlay hrd hwl hlo
  obtain rfl:dV=.none:=PySem.W.Dflts.none hD hdf
  obtain rfl:kV=.none:=PySem.W.Dflts.noKw hD
  obtain ⟨a,vs,ns,rfl,rfl,hobj,hints,hlen⟩:=Att.script_of hn hpre hwl
  have hbits:∀ n ∈ ns,Builtin.Int.intBits n<=2 ^ 20:=by
    have h1:PySem.W.WData.layable (.list (ns.map .int))=true:=by
      have:=hlay
      unfold PySem.W.WData.layableAll at this
      simpa using this
    have h2:=(PySem.W.layableW_iff.mp h1).2.2
    exact bits_of_W (by simpa [PySem.W.WData.weight] using h2)
  have KX:=hY w _ Y
  obtain ⟨fd,hb,hF⟩:=F w mg fa _ KX G.T.g hmg
  obtain ⟨h',e⟩:=hc ns hlen hbits
  refine PySem.W.enter_call (codeAny_mono (law_call KX G.T.g G.T.b G.T.builtins G.T.nolimit hg hobj hints (Nat.le_trans hlen (by decide)) hr hF hb (fun H hO hS=>law_sp hO hS e) (fun H e' s' z=>by
    obtain ⟨_,_,_,_,_,_,_,_,_,_,_,z⟩:=z
    exact z)) fun r s' hq=>?_)
  obtain ⟨rfl,h2,h3,h4⟩:=hq
  exact ⟨.inl ⟨.bool true,.bool true,[],rfl,fun _=>rfl,.bool true,Att.post_true l _,fun _=>⟨List.Pairwise.nil,fun _ hm=>(nomatch hm)⟩⟩,h2,h3,h4⟩
end PI
set_option Elab.async false
set_option linter.all false
set_option maxRecDepth 100000
namespace PI
open PySem L2
section
variable {cl:Nat->List D->Hh->Res D}
theorem vvar {i z0 ρ h}:E.ev cl (.var i z0) ρ h=match ρ[i]? with | some (some d)=>.ok d h | _=>.no:=rfl
theorem vbin {op a b z0 ρ h}:E.ev cl (.bin op a b z0) ρ h=(a.ev cl ρ h).bind fun x h1=>(b.ev cl ρ h1).bind fun y h2=>binD op x y h2:=rfl
theorem vcall {f a r z0 z1 ρ h}:E.ev cl (.call f a r z0 z1) ρ h=(a.ev cl ρ h).bind fun x h1=>(r.ev cl ρ h1).bind fun xs h2=>cl f (x :: xs) h2:=rfl
theorem vofL {l ρ h}:E.ev cl (.ofL l) ρ h=(l.ev cl ρ h).bind fun xs h1=>new (.lst xs) h1:=rfl
theorem vlistE {e z0 z1 ρ h}:E.ev cl (.listE e z0 z1) ρ h=(e.ev cl ρ h).bind fun x h1=>match seqOf x h1 with | some xs=>new (.lst xs) h1 | none=>.no:=rfl
theorem vm1 {m o a z0 z1 ρ h}:E.ev cl (.m1 m o a z0 z1) ρ h=(o.ev cl ρ h).bind fun x h1=>onL x h1 ((a.ev cl ρ h1).bind fun y h2=>m1D m x y h2):=rfl
theorem ldisp {es z0 ρ h}:L.ev cl (.disp es z0) ρ h=(es.ev cl ρ h).bind fun xs h1=>if xs.length<=1000 then .ok xs h1 else .no:=rfl
theorem lcomp {elt t it c z0 cap z1 z2 ρ h}:L.ev cl (.comp elt t it c z0 cap z1 z2) ρ h=(it.ev cl ρ h).bind fun q h1=>if q.2.length<=1000000 then compL q.1 (compF t (capE cap ρ) (fun ρ' h2=>c.evC cl ρ' h2) (fun ρ' h2=>elt.ev cl ρ' h2)) q.2 [] h1 else .no:=rfl
theorem iseq {e ρ h}:I.ev cl (.seq e) ρ h=(e.ev cl ρ h).bind fun x h1=>match x with
    | .tup xs=>.ok ([],xs) h1
    | .fl xs=>.ok ([],xs) h1
    | .loc n=>match rd h1 n with | some xs=>.ok ([(n,xs)],xs) h1 | none=>.no
    | .str x=>.ok ([],x.cps.toList.map fun c=>.str ⟨#[c]⟩) h1
    | _=>.no:=rfl
theorem enil {z0 h}:Es.ev cl .nil z0 h=.ok [] h:=rfl
theorem yset {i e z0 z1 ρ h}:S.run cl (.set i e z0 z1) ρ h=andS ρ (e.ev cl ρ h) fun d h1=>.nx (ρ.set i (some d)) h1:=rfl
theorem yret {e z0 ρ h}:S.run cl (.ret e z0) ρ h=andS ρ (e.ev cl ρ h) fun d h1=>.rt d h1:=rfl
theorem yforr {t it b z0 ρ h}:S.run cl (.forr t it b z0) ρ h=andS ρ (it.ev cl ρ h) fun q h1=>forL q.1 (stepF t fun ρ' h'=>b.run cl ρ' h') q.2 ρ h1:=rfl
theorem yrep {i j z0 rs z1 z2 ρ h}:S.run cl (.rep i j z0 rs z1 z2) ρ h=(match ρ[j]? with | some (some (.str z))=>(match repS rs z with | some z'=>.nx (ρ.set i (some (.str z'))) h | none=>.no) | _=>.no):=rfl
theorem znil {ρ h}:Ss.run cl .nil ρ h=.nx ρ h:=rfl
theorem zcons {s r ρ h}:Ss.run cl (.cons s r) ρ h=seqS (s.run cl ρ h) fun ρ' h'=>r.run cl ρ' h':=rfl
end
end PI
set_option Elab.async false
set_option linter.all false
set_option maxRecDepth 100000
set_option maxHeartbeats 4000000
namespace PI
open PySem L2
section
variable {h l:Hh} {o u:O} {n k:Nat} {xs:List D}
theorem hx (h l:Hh) (k:Nat):(h ++ l)[h.length + k]?=l[k]?:=by
  rw [List.getElem?_append_right (by omega)]; congr 1; omega
theorem hx0 (h l:Hh):(h ++ l)[h.length]?=l[0]?:=hx h l 0
theorem hset (h l:Hh) (k:Nat) (o:O):(h ++ l).set (h.length + k) o=h ++ l.set k o:=by
  rw [List.set_append_right _ _ (by omega)]; congr 2; omega
theorem hset0 (h l:Hh) (o:O):(h ++ l).set h.length o=h ++ l.set 0 o:=hset h l 0 o
theorem rdx (h l:Hh) (k:Nat):rd (h ++ l) (h.length + k)=rd l k:=by unfold rd; rw [hx]
theorem rdx0 (h l:Hh):rd (h ++ l) h.length=rd l 0:=rdx h l 0
theorem rd_of (e:h[n]?=some (.lst xs)):rd h n=some xs:=by unfold rd; rw [e]
theorem get_old (e:h[n]?=some o):(h ++ l)[n]?=some o:=by rw [List.getElem?_append_left (List.getElem?_eq_some_iff.mp e).1]; exact e
theorem rd_old {xs:List D} (e:rd h n=some xs):rd (h ++ l) n=some xs:=by
  unfold rd at e ⊢
  cases e1:h[n]? with
  | none=>rw [e1] at e; cases e
  | some o=>rw [e1] at e; rw [get_old e1]; exact e
theorem stay_nil:stay [] h:=by unfold stay; simp
theorem stay_one {n:Nat} {ds:List D} {h:Hh}:stay [(n,ds)] h ↔ rd h n=some ds:=by unfold stay; simp
theorem set_same (e:h[n]?=some o):h.set n o=h:=by
  apply List.ext_getElem?
  intro i
  by_cases hi:n=i
  · subst hi
    have:=(List.getElem?_eq_some_iff.mp e).1
    rw [List.getElem?_set_self this,e]
  · rw [List.getElem?_set_ne hi]
end
theorem compL_pure {c:Ck} {f:D->Hh->Res (Option D)} {h:Hh} (st:stay c h) (g:D->Option D):∀ (xs acc:List D),(∀ x ∈ xs,f x h=.ok (g x) h)->compL c f xs acc h=.ok (acc ++ xs.filterMap g) h
  | [],acc,_=>by simp [compL,st]
  | x :: r,acc,e=>by
    have e1:=e x (List.mem_cons_self ..)
    have ih:=compL_pure st g r (addO acc (g x)) fun y hy=>e y (List.mem_cons_of_mem _ hy)
    unfold compL
    rw [if_pos st,e1,bind_ok,ih,List.filterMap_cons]
    cases g x <;> simp
theorem sIx_some (n d:Nat) (i:Int) (h:0<=i):HT.sIx n d (some i)=min i.toNat n:=by
  unfold HT.sIx
  exact if_neg (by omega)
theorem sIx_none (n d:Nat):HT.sIx n d none=d:=rfl
theorem atI_nat {α:Type} {xs:List α} {k:Nat}:atI xs (k:Int)=xs[k]?:=by
  unfold atI ixN
  rw [if_pos (by omega)]
  by_cases h:k < xs.length
  · rw [if_pos (by omega)]; simp
  · rw [if_neg (by omega),List.getElem?_eq_none (by omega)]; rfl
theorem atI_pos {α:Type} {xs:List α} {i:Int} (h:0<=i):atI xs i=xs[i.toNat]?:=by
  have:i=(i.toNat:Int):=by omega
  rw [this,atI_nat]; rfl
theorem eqS {a b:Str} {h:Hh} (ha:PyData.strOk a=true) (hb:PyData.strOk b=true):cmpD .Eq (.str a) (.str b) h=.ok (.bl (a == b)) h:=if_pos ⟨ha,hb,Nat.zero_le _⟩
theorem neS {a b:Str} {h:Hh} (ha:PyData.strOk a=true) (hb:PyData.strOk b=true):cmpD .NotEq (.str a) (.str b) h=.ok (.bl (!(a == b))) h:=if_pos ⟨ha,hb,Nat.zero_le _⟩
theorem eqI {a b:Int} {h:Hh}:cmpD .Eq (.int a) (.int b) h=.ok (.bl (a == b)) h:=rfl
theorem neI {a b:Int} {h:Hh}:cmpD .NotEq (.int a) (.int b) h=.ok (.bl (!(a == b))) h:=rfl
noncomputable def dropS:Nat->Ss->Ss
  | 0,b=>b
  | _ + 1,.nil=>.nil
  | n + 1,.cons _ r=>dropS n r
noncomputable def cellv (ns:List Int) (i:Int):Int:=ns.getD i.toNat 0
theorem at_map (ns:List Int) (i:Int) (hi:0<=i) (h:i < (ns.length:Int)):atI (ns.map D.int) i=some (.int (cellv ns i)):=by
  rw [atI_pos hi,cellv,List.getElem?_map,List.getD_eq_getElem?_getD,List.getElem?_eq_getElem (by omega)]
  rfl
theorem cell_fits {ns:List Int} (hb:∀ n ∈ ns,fits n=true) (i:Int):fits (cellv ns i)=true:=by
  unfold cellv
  rw [List.getD_eq_getElem?_getD]
  cases e:ns[i.toNat]? with
  | none=>decide
  | some v=>exact hb v (List.mem_of_getElem? e)
noncomputable abbrev scr (ns:List Int):D:=.fl (ns.map .int)
theorem bls_map:∀ (bs:List Bool),blsOf (bs.map D.bl)=some bs
  | []=>rfl
  | b :: r=>by simp [blsOf,bls_map r]
end PI
set_option Elab.async false
set_option linter.all false
set_option maxRecDepth 100000
set_option maxHeartbeats 4000000
namespace PI
open PySem L2
noncomputable def cs (x:Str):List Nat:=x.cps.toList
noncomputable def mkS (l:List Nat):Str:=⟨l.toArray⟩
theorem cs_mk (l:List Nat):cs (mkS l)=l:=by simp [cs,mkS]
theorem mk_cs (x:Str):mkS (cs x)=x:=by cases x; simp [cs,mkS]
theorem cs_inj {x y:Str} (h:cs x=cs y):x=y:=by rw [<- mk_cs x,<- mk_cs y,h]
theorem cs_append (x y:Str):cs (x ++ y)=cs x ++ cs y:=by
  show (x.cps ++ y.cps).toList=_
  simp [cs]
theorem mk_append (a b:List Nat):mkS a ++ mkS b=mkS (a ++ b):=cs_inj (by rw [cs_append,cs_mk,cs_mk,cs_mk])
theorem cs_len (x:Str):x.length=(cs x).length:=by simp [cs,Str.length]
theorem mk_len (l:List Nat):(mkS l).length=l.length:=by rw [cs_len,cs_mk]
theorem ok_mk {l:List Nat} (h:∀ c ∈ l,c < 1114112):PyData.strOk (mkS l)=true:=by
  unfold PyData.strOk mkS
  simpa using h
theorem ok_cs {x:Str} (h:∀ c ∈ cs x,c < 1114112):PyData.strOk x=true:=by rw [<- mk_cs x]; exact ok_mk h
theorem str_ne {x y:Str} (h:cs x ≠ cs y):(x == y)=false:=by
  rw [beq_eq_false_iff_ne]
  exact fun z=>h (by rw [z])
noncomputable def sepL (s:List Nat):List (List Nat)->List Nat
  | []=>[]
  | [x]=>x
  | x :: y :: r=>x ++ s ++ sepL s (y :: r)
theorem cs_join (sep:Str):∀ xs:List Str,cs (Txt.join sep xs)=sepL (cs sep) (xs.map cs):=by
  intro xs
  show cs (Builtin.Str.glued sep xs)=_
  rw [StrLaws.glued_eq_join]
  induction xs with
  | nil=>rfl
  | cons x r ih =>
    cases r with
    | nil=>rfl
    | cons y r =>
      show cs (x ++ sep ++ Str.join sep (y :: r))=_
      rw [cs_append,cs_append,ih]
      rfl
theorem fits_lt {i:Int} (h:i.natAbs < 18446744073709551616):fits i=true:=by
  unfold fits Builtin.Int.intBits
  refine decide_eq_true ?_
  split
  · decide
  · rename_i z
    have hz:i.natAbs ≠ 0:=by simpa using z
    have:i.natAbs.log2 < 64:=by
      rw [Nat.log2_lt hz]
      exact h
    omega
structure Wd (x:Str):Prop where
  ne:cs x ≠ []
  len:(cs x).length<=20
  ch:∀ c ∈ cs x,c ≠ 40 /\ c ≠ 41 /\ c ≠ 10 /\ c < 1114112
theorem Wd.ok {x:Str} (h:Wd x):PyData.strOk x=true:=ok_cs fun c hc=>(h.ch c hc).2.2.2
theorem wd_of {x:Str} (h:(decide (cs x ≠ []) && decide ((cs x).length<=20) && (cs x).all fun c=>decide (c ≠ 40 /\ c ≠ 41 /\ c ≠ 10 /\ c < 1114112))=true):Wd x:=by
  rw [Bool.and_eq_true,Bool.and_eq_true] at h
  exact ⟨of_decide_eq_true h.1.1,of_decide_eq_true h.1.2,fun c hc=>of_decide_eq_true (List.all_eq_true.mp h.2 c hc)⟩
theorem wd_num {n:Int} (h0:0<=n) (h1:n < 1000000000000000000):Wd (Str.ofString (toString n)) /\ n.natAbs.log2 < 1920:=by
  obtain ⟨m,rfl⟩:∃ m:Nat,n=m:=⟨n.toNat,by omega⟩
  have e:cs (Str.ofString (toString (m:Int)))=(Nat.toDigits 10 m).map Char.toNat:=PySem.W.KIN.signs_num m
  refine ⟨⟨?_,?_,?_⟩,?_⟩
  · rw [e]; intro z; exact Nat.toDigits_ne_nil (List.map_eq_nil_iff.mp z)
  · rw [e,List.length_map]
    exact (Nat.length_toDigits_le_iff (by decide) (by decide)).mpr (by omega)
  · rw [e]
    intro c hc
    obtain ⟨ch,h2,rfl⟩:=List.mem_map.mp hc
    have hd:=Nat.isDigit_of_mem_toDigits (by decide) (by decide) h2
    have:48<=ch.toNat /\ ch.toNat<=57:=by
      unfold Char.isDigit at hd
      simp only [Bool.and_eq_true,decide_eq_true_eq,ge_iff_le] at hd
      exact ⟨UInt32.le_iff_toNat_le.mp hd.1,UInt32.le_iff_toNat_le.mp hd.2⟩
    omega
  · by_cases hz:((m:Int)).natAbs=0
    · rw [hz]; decide
    · rw [Nat.log2_lt hz]
      exact Nat.lt_of_lt_of_le (show ((m:Int)).natAbs < 2 ^ 64 by omega) (Nat.pow_le_pow_right (by decide) (by decide))
end PI
set_option Elab.async false
set_option linter.all false
set_option maxRecDepth 100000
set_option maxHeartbeats 4000000
namespace PI
open PySem L2
inductive Kd where
  | num (n:Int) | var (x:Str) | op (s:Str) | lett (x:Str) | ite | call (f:Str) (g:Option Str) | doo (d:Str) | handle (h:Str) | go | guard
inductive G where
  | nd (k:Kd) (ps:List G)
noncomputable def Kd.tag:Kd->Str
  | .num _=>"num" | .var _=>"var" | .op _=>"op" | .lett _=>"let" | .ite=>"if" | .call _ _=>"call" | .doo _=>"do" | .handle _=>"handle" | .go=>"go" | .guard=>"guard"
noncomputable def optD:Option Str->D
  | none=>.non
  | some g=>.str g
noncomputable def Kd.enc:Kd->List D->D
  | .num n,ps=>.tup (.str "num" :: .int n :: ps)
  | .var x,ps=>.tup (.str "var" :: .str x :: ps)
  | .op s,ps=>.tup (.str "op" :: .str s :: ps)
  | .lett x,ps=>.tup (.str "let" :: .str x :: ps)
  | .ite,ps=>.tup (.str "if" :: ps)
  | .call f g,ps=>.tup [.str "call",.str f,optD g,.tup ps]
  | .doo d,ps=>.tup (.str "do" :: .str d :: ps)
  | .handle h,ps=>.tup (.str "handle" :: .str h :: ps)
  | .go,ps=>.tup (.str "go" :: ps)
  | .guard,ps=>.tup (.str "guard" :: ps)
mutual
noncomputable def G.d:G->D
  | .nd k ps=>k.enc (G.ds ps)
noncomputable def G.ds:List G->List D
  | []=>[]
  | g :: r=>g.d :: G.ds r
end
mutual
noncomputable def G.size:G->Nat
  | .nd _ ps=>1 + G.sizes ps
noncomputable def G.sizes:List G->Nat
  | []=>0
  | g :: r=>g.size + G.sizes r
end
noncomputable def Kd.ok (k:Kd) (n:Nat):Bool:=match k with
  | .num _ | .var _=>n == 0
  | .op _ | .lett _ | .handle _ | .go | .guard=>n == 2
  | .ite=>n == 3
  | .doo _=>n == 1
  | .call _ _=>true
mutual
noncomputable def G.ok:G->Bool
  | .nd k ps=>k.ok ps.length && G.oks ps
noncomputable def G.oks:List G->Bool
  | []=>true
  | g :: r=>g.ok && G.oks r
end
theorem ds_map:∀ gs:List G,G.ds gs=gs.map G.d
  | []=>by rw [G.ds]; rfl
  | g :: r=>by rw [G.ds,ds_map r]; rfl
theorem ds_len (a:List G):(G.ds a).length=a.length:=by simp [ds_map]
theorem oks_all:∀ gs:List G,G.oks gs=gs.all G.ok
  | []=>by rw [G.oks]; rfl
  | g :: r=>by rw [G.oks,oks_all r]; rfl
theorem so:∀ x ∈ (["num","var","op","let","if","call","do","handle","go","guard","never","jump","once","many"]:List Str),PyData.strOk x=true:=by decide +kernel
theorem so_call:PyData.strOk "call"=true:=so _ (by simp)
theorem cut_2 (a b:D) (ps:List D) (h:Hh):cutD (.tup (a :: b :: ps)) (some 2) none h=.ok (.tup ps) h:=by
  simp only [cutD,cutXs]
  rw [sIx_some _ _ _ (by decide),sIx_none]
  have e:min (2:Int).toNat (a :: b :: ps).length=2:=by simp
  rw [e,if_neg (by simp)]
  simp
theorem cut_1 (a:D) (ps:List D) (h:Hh):cutD (.tup (a :: ps)) (some 1) none h=.ok (.tup ps) h:=by
  simp only [cutD,cutXs]
  rw [sIx_some _ _ _ (by decide),sIx_none]
  have e:min (1:Int).toNat (a :: ps).length=1:=by simp
  rw [e,if_neg (by simp)]
  simp
end PI
set_option Elab.async false
set_option linter.all false
set_option maxRecDepth 100000
namespace PI
open PySem L2
section
variable {cl:Nat->List D->Hh->Res D} {ρ ρ':En} {h h' h2 h3:Hh} {c e:E} {a b r:Ss} {p p0 p1 p2 p3:Pos} {d x:D} {i:Nat}
theorem iff_f {o:RS} (hc:c.evT cl ρ h=.ok false h') (k:Ss.run cl r ρ h'=o):Ss.run cl (.cons (.iff c a .nil p) r) ρ h=o:=by
  rw [<- k]
  show seqS (andS ρ (c.evT cl ρ h) fun t h1=>if t then a.run cl ρ h1 else Ss.nil.run cl ρ h1) (fun ρ' h'=>r.run cl ρ' h')=_
  rw [hc]; rfl
theorem iff_t (hc:c.evT cl ρ h=.ok true h'):Ss.run cl (.cons (.iff c a b p) r) ρ h=seqS (a.run cl ρ h') fun ρ' h'=>r.run cl ρ' h':=by
  show seqS (andS ρ (c.evT cl ρ h) fun t h1=>if t then a.run cl ρ h1 else b.run cl ρ h1) (fun ρ' h'=>r.run cl ρ' h')=_
  rw [hc]; rfl
theorem iff_r (hc:c.evT cl ρ h=.ok true h') (ha:a.run cl ρ h'=.rt d h2):Ss.run cl (.cons (.iff c a b p) r) ρ h=.rt d h2:=by rw [iff_t hc,ha]; rfl
theorem iff_n {o:RS} (hc:c.evT cl ρ h=.ok true h') (ha:a.run cl ρ h'=.nx ρ' h2) (k:Ss.run cl r ρ' h2=o):Ss.run cl (.cons (.iff c a b p) r) ρ h=o:=by rw [<- k,iff_t hc,ha]; rfl
theorem ret_r (he:e.ev cl ρ h=.ok d h'):Ss.run cl (.cons (.ret e p) r) ρ h=.rt d h':=by
  show seqS (andS ρ (e.ev cl ρ h) fun d h1=>.rt d h1) (fun ρ' h'=>r.run cl ρ' h')=_
  rw [he]; rfl
theorem set_s {o:RS} (he:e.ev cl ρ h=.ok d h') (k:Ss.run cl r (ρ.set i (some d)) h'=o):Ss.run cl (.cons (.set i e p1 p) r) ρ h=o:=by
  rw [<- k]
  show seqS (andS ρ (e.ev cl ρ h) fun d h1=>.nx (ρ.set i (some d)) h1) (fun ρ' h'=>r.run cl ρ' h')=_
  rw [he]; rfl
theorem ex_s {o:RS} (he:e.ev cl ρ h=.ok d h') (k:Ss.run cl r ρ h'=o):Ss.run cl (.cons (.ex e p) r) ρ h=o:=by
  rw [<- k]
  show seqS (andS ρ (e.ev cl ρ h) fun d h1=>.nx ρ h1) (fun ρ' h'=>r.run cl ρ' h')=_
  rw [he]; rfl
theorem out_rt {o:RS} (q:o=.rt d h):outR o=.ok d h:=by rw [q]; rfl
theorem t_eqi {x k:Int} {b:Bool} (q:ρ[i]?=some (some (.int x))) (hb:(x == k)=b):E.evT cl (.cmp .Eq (.var i p1) (.int k p2) p3) ρ h=.ok b h:=by
  show ((match ρ[i]? with | some (some d)=>Res.ok d h | _=>.no).bind fun x h1=>cmpD .Eq x (.int k) h1).bind _=_
  rw [q,<- hb]
  show (cmpD .Eq (.int x) (.int k) h).bind _=_
  rw [eqI]; rfl
theorem t_lti {x k:Int} {b:Bool} (q:ρ[i]?=some (some (.int x))) (hb:decide (x < k)=b):E.evT cl (.cmp .Lt (.var i p1) (.int k p2) p3) ρ h=.ok b h:=by
  show ((match ρ[i]? with | some (some d)=>Res.ok d h | _=>.no).bind fun x h1=>cmpD .Lt x (.int k) h1).bind _=_
  rw [q,<- hb]; rfl
theorem bnd {α β:Type} {m:Res α} {f:α->Hh->Res β} {x:α} {y:Res β} (q:m=.ok x h) (g:f x h=y):m.bind f=y:=by rw [q]; exact g
theorem evT_bl {b:Bool} (q:e.evT cl ρ h=.ok b h'):e.ev cl ρ h=.ok (.bl b) h':=by
  have q:((e.ev cl ρ h).bind fun d h1=>match d with | .bl b=>.ok b h1 | _=>.no)=Res.ok b h':=q
  cases m:e.ev cl ρ h with
  | ok d h1 =>
    rw [m] at q
    cases d with
    | bl b'=>cases q; rfl
    | _=>cases q
  | exc c h1=>rw [m] at q; cases q
  | no=>rw [m] at q; cases q
theorem t_andF {e':E} {r:Es} (ha:e.evT cl ρ h=.ok false h'):(E.and e e' r p).evT cl ρ h=.ok false h':=bnd (bnd (evT_bl ha) rfl) rfl
theorem t_and {e':E} {t:Bool} (ha:e.evT cl ρ h=.ok true h') (hb:e'.evT cl ρ h'=.ok t h2):(E.and e e' .nil p).evT cl ρ h=.ok t h2:=bnd (bnd (evT_bl ha) (bnd (evT_bl hb) rfl)) rfl
theorem t_cmp {a' b':E} {x y:D} {op:CmpOp} {t:Bool} (ha:a'.ev cl ρ h=.ok x h') (hb:b'.ev cl ρ h'=.ok y h2) (hc:cmpD op x y h2=.ok (.bl t) h3):E.evT cl (.cmp op a' b' p) ρ h=.ok t h3:=bnd (bnd ha (bnd hb hc)) rfl
theorem t_and2 {e':E} {r:Es} (ha:e.evT cl ρ h=.ok true h') (hb:e'.evT cl ρ h'=.ok false h2):(E.and e e' (.cons c r) p).evT cl ρ h=.ok false h2:=bnd (bnd (evT_bl ha) (bnd (evT_bl hb) rfl)) rfl
theorem t_and3 {e':E} {t:Bool} (ha:e.evT cl ρ h=.ok true h') (hb:e'.evT cl ρ h'=.ok true h2) (hc:c.evT cl ρ h2=.ok t h3):(E.and e e' (.cons c .nil) p).evT cl ρ h=.ok t h3:=bnd (bnd (evT_bl ha) (bnd (evT_bl hb) (bnd (evT_bl hc) rfl))) rfl
theorem forr_s {o:RS} {tg:Tg} {it:I} {q:Ck × List D} (hi:it.ev cl ρ h=.ok q h') (hf:forL q.1 (stepF tg fun ρ' h'=>a.run cl ρ' h') q.2 ρ h'=.nx ρ' h2) (k:Ss.run cl r ρ' h2=o):Ss.run cl (.cons (.forr tg it a p) r) ρ h=o:=by
  rw [<- k]
  show seqS (andS ρ (it.ev cl ρ h) fun q h1=>forL q.1 (stepF tg fun ρ' h'=>a.run cl ρ' h') q.2 ρ h1) (fun ρ' h'=>r.run cl ρ' h')=_
  rw [hi,andS_ok,hf]; rfl
theorem for_n {o:RS} {ck:Ck} {f:D->En->Hh->RS} {l:List D} (hs:stay ck h) (hf:f x ρ h=.nx ρ' h') (k:forL ck f l ρ' h'=o):forL ck f (x :: l) ρ h=o:=by
  rw [forL,if_pos hs,hf]; exact k
theorem on_lst {n:Nat} {l:List D} (g:h[n]?=some (.lst l)) (m:Res D):onL (.loc n) h m=m:=by
  show (match h[n]? with | some (.lst _)=>m | _=>.no)=m
  rw [g]
theorem fdk {i k:Int} (hk:0 < k /\ k < 1073741824):binD .FloorDiv (.int i) (.int k) h=.ok (.int (i / k)) h:=if_pos hk
theorem mdk {i k:Int} (hk:0 < k):binD .Mod (.int i) (.int k) h=.ok (.int (i % k)) h:=if_pos hk
theorem rng_s {j:Int} (ha:e.ev cl ρ h=.ok (.int j) h') (hj:-1000000<=j /\ j<=1000000):I.ev cl (.rng e p1 p2) ρ h=.ok ([],(List.range j.toNat).map fun k=>.int (k:Nat)) h':=bnd ha (if_pos hj)
theorem t_or {e':E} {t:Bool} (ha:e.evT cl ρ h=.ok false h') (hb:e'.evT cl ρ h'=.ok t h2):(E.or e e' .nil p).evT cl ρ h=.ok t h2:=bnd (bnd (evT_bl ha) (bnd (evT_bl hb) rfl)) rfl
theorem t_orT {e':E} {r:Es} (ha:e.evT cl ρ h=.ok true h'):(E.or e e' r p).evT cl ρ h=.ok true h':=bnd (bnd (evT_bl ha) rfl) rfl
theorem t_or3 {e':E} {t:Bool} (ha:e.evT cl ρ h=.ok false h') (hb:e'.evT cl ρ h'=.ok false h2) (hc:c.evT cl ρ h2=.ok t h3):(E.or e e' (.cons c .nil) p).evT cl ρ h=.ok t h3:=bnd (bnd (evT_bl ha) (bnd (evT_bl hb) (bnd (evT_bl hc) rfl))) rfl
theorem tupE_s {xs:List D} (he:e.ev cl ρ h=.ok x h') (hs:seqOf x h'=some xs):E.ev cl (.tupE e p p1) ρ h=.ok (.tup xs) h':=bnd he (by
  show (match seqOf x h' with | some xs=>Res.ok (D.tup xs) h' | none=>.no)=_
  rw [hs])
theorem compF_t {tg:Tg} {ct:En->Hh->Res Bool} {ce:En->Hh->Res D} (hb:bindT tg x ρ=some ρ') (hc:ct ρ' h=.ok true h') (he:ce ρ' h'=.ok d h2):compF tg ρ ct ce x h=.ok (some d) h2:=by
  show (match bindT tg x ρ with | some ρ'=>(ct ρ' h).bind fun b h1=>if b then (ce ρ' h1).bind fun d h2=>.ok (some d) h2 else .ok none h1 | none=>.no)=_
  rw [hb]; exact bnd hc (bnd he rfl)
theorem seq_loc {n:Nat} {xs:List D} (he:e.ev cl ρ h=.ok (.loc n) h') (hr:rd h' n=some xs):I.ev cl (.seq e) ρ h=.ok ([(n,xs)],xs) h':=bnd he (by
  show (match rd h' n with | some xs=>Res.ok (([(n,xs)],xs):Ck × List D) h' | none=>.no)=_
  rw [hr])
theorem ofL_comp {elt:E} {tg:Tg} {it:I} {ct:Es} {ns:List Str} {cap:List (Option Nat)} {sc:Scope} {q:Ck × List D} {xs:List D} (hi:it.ev cl ρ h=.ok q h') (hl:q.2.length<=1000000) (hc:compL q.1 (compF tg (capE cap ρ) (fun ρ' h2=>ct.evC cl ρ' h2) (fun ρ' h2=>elt.ev cl ρ' h2)) q.2 [] h'=.ok xs h2):E.ev cl (.ofL (.comp elt tg it ct ns cap sc p)) ρ h=.ok (.loc h2.length) (h2 ++ [.lst xs]):=bnd (bnd hi ((if_pos hl).trans hc)) rfl
theorem t_or2 {e':E} {r:Es} (ha:e.evT cl ρ h=.ok false h') (hb:e'.evT cl ρ h'=.ok true h2):(E.or e e' (.cons c r) p).evT cl ρ h=.ok true h2:=bnd (bnd (evT_bl ha) (bnd (evT_bl hb) rfl)) rfl
theorem mlk {i j:Int} (hi:fits i=true) (hj:fits j=true):binD .Mult (.int i) (.int j) h=.ok (.int (i * j)) h:=if_pos ⟨hi,hj⟩
theorem iff_e {o:RS} (hc:c.evT cl ρ h=.ok false h') (hb:b.run cl ρ h'=.nx ρ' h2) (k:Ss.run cl r ρ' h2=o):Ss.run cl (.cons (.iff c a b p) r) ρ h=o:=by
  rw [<- k]
  show seqS (andS ρ (c.evT cl ρ h) fun t h1=>if t then a.run cl ρ h1 else b.run cl ρ h1) (fun ρ' h'=>r.run cl ρ' h')=_
  rw [hc]
  show seqS (b.run cl ρ h') _=_
  rw [hb]; rfl
end
end PI
set_option Elab.async false
set_option linter.all false
set_option maxRecDepth 100000
set_option maxHeartbeats 4000000
namespace K13
set_option genInjectivity false
open PySem L2 PI
noncomputable abbrev qQ (l a b:Nat):PySem.Pos:=⟨l,a,l,b⟩
noncomputable def g_WORDS:List Str:=["def","handler","on","end","let","if","call","hand","do","handle","go","guard"]
noncomputable def g_SIGNS:List Str:=["+","-","*","<"]
noncomputable def g_FORMS:List (Str × Cv):=[("num",.tup ["number"]),("var",.tup ["name"]),("op",.tup ["sign","part","part"]),("let",.tup ["name","part","part"]),("if",.tup ["part","part","part"]),("call",.tup ["name","block","parts"]),("do",.tup ["name","part"]),("handle",.tup ["name","part","part"]),("go",.tup ["part","part"]),("guard",.tup ["part","part"])]
noncomputable def g_CLAUSE_FORM:List Str:=["name","name","name","part"]
noncomputable def g_END_FORM:List Str:=["name","name","part"]
noncomputable def g_ALIKE:List Str:=["let","if","do","handle","go","guard"]
noncomputable def consts:List (Str × Cn):=[("WORDS",(.tup g_WORDS)),("SIGNS",(.tup g_SIGNS)),("LETTERS",(.str "abcdefghijklmnopqrstuvwxyz")),("LONGEST_NAME",(.int (8))),("FIGURES",(.str "0123456789")),("MOST_FIGURES",(.int (18))),("FORMS",(.dic g_FORMS)),("CLAUSE_FORM",(.tup g_CLAUSE_FORM)),("END_FORM",(.tup g_END_FORM)),("DEEPEST",(.int (24))),("ALIKE",(.tup g_ALIKE))]
noncomputable def e_is_name_1:E:=(.cmp .In (.var 0 (qQ 19 16 20)) (.gcon "LETTERS" (.str "abcdefghijklmnopqrstuvwxyz") (qQ 19 24 31)) (qQ 19 16 31))
noncomputable def c_is_name_1:Es:=.nil
noncomputable def t_is_name_1:Tg:=(.one 0 (qQ 19 36 40))
noncomputable def s_is_name_1:Scope:={ kind:=PySem.ScopeKind.function,names:=[ (PySem.Str.ofString ".0",PySem.NameKind.local),(PySem.Str.ofString "sign",PySem.NameKind.local),(PySem.Str.ofString "LETTERS",PySem.NameKind.globalImplicit)],isGenerator:=false,isCoroutine:=false,more:=[]:PySem.Scope }
noncomputable def d_is_name:Df:=⟨"is_name",["word"],["word"],(.cons (.iff (.or (.cmp .Eq (.var 0 (qQ 17 7 11)) (.str "" (qQ 17 15 17)) (qQ 17 7 17)) (.cmp .Gt (.len (.var 0 (qQ 17 25 29)) (qQ 17 21 24) (qQ 17 21 30)) (.gcon "LONGEST_NAME" (.int (8)) (qQ 17 33 45)) (qQ 17 21 45)) (.cons (.cmp .In (.var 0 (qQ 17 49 53)) (.gcon "WORDS" (.tup g_WORDS) (qQ 17 57 62)) (qQ 17 49 62)) .nil) (qQ 17 7 62)) (.cons (.ret (.bl false (qQ 18 15 20)) (qQ 18 8 20)) .nil) .nil ⟨17,4,18,20⟩) (.cons (.ret (.c1 .all (.ofL (.comp e_is_name_1 t_is_name_1 (.seq (.var 0 (qQ 19 44 48))) c_is_name_1 ["sign"] [none] s_is_name_1 (qQ 19 15 49))) (qQ 19 11 14) (qQ 19 11 50)) (qQ 19 4 50)) .nil))⟩
noncomputable def e_is_number_1:E:=(.cmp .In (.var 0 (qQ 23 16 20)) (.gcon "FIGURES" (.str "0123456789") (qQ 23 24 31)) (qQ 23 16 31))
noncomputable def c_is_number_1:Es:=.nil
noncomputable def t_is_number_1:Tg:=(.one 0 (qQ 23 36 40))
noncomputable def s_is_number_1:Scope:={ kind:=PySem.ScopeKind.function,names:=[ (PySem.Str.ofString ".0",PySem.NameKind.local),(PySem.Str.ofString "sign",PySem.NameKind.local),(PySem.Str.ofString "FIGURES",PySem.NameKind.globalImplicit)],isGenerator:=false,isCoroutine:=false,more:=[]:PySem.Scope }
noncomputable def d_is_number:Df:=⟨"is_number",["word"],["word"],(.cons (.iff (.or (.cmp .Eq (.var 0 (qQ 21 7 11)) (.str "" (qQ 21 15 17)) (qQ 21 7 17)) (.cmp .Gt (.len (.var 0 (qQ 21 25 29)) (qQ 21 21 24) (qQ 21 21 30)) (.gcon "MOST_FIGURES" (.int (18)) (qQ 21 33 45)) (qQ 21 21 45)) (.cons (.and (.cmp .Eq (.sub (.var 0 (qQ 21 50 54)) (.int 0 (qQ 21 55 56)) (qQ 21 50 57)) (.str "0" (qQ 21 61 64)) (qQ 21 50 64)) (.cmp .NotEq (.var 0 (qQ 21 69 73)) (.str "0" (qQ 21 77 80)) (qQ 21 69 80)) .nil (qQ 21 50 80)) .nil) (qQ 21 7 81)) (.cons (.ret (.bl false (qQ 22 15 20)) (qQ 22 8 20)) .nil) .nil ⟨21,4,22,20⟩) (.cons (.ret (.c1 .all (.ofL (.comp e_is_number_1 t_is_number_1 (.seq (.var 0 (qQ 23 44 48))) c_is_number_1 ["sign"] [none] s_is_number_1 (qQ 23 15 49))) (qQ 23 11 14) (qQ 23 11 50)) (qQ 23 4 50)) .nil))⟩
noncomputable def e_read_1:E:=(.call 5 (.var 0 (qQ 28 26 31)) .nil (qQ 28 18 25) (qQ 28 18 32))
noncomputable def c_read_1:Es:=.nil
noncomputable def t_read_1:Tg:=(.one 0 (qQ 28 37 42))
noncomputable def s_read_1:Scope:={ kind:=PySem.ScopeKind.function,names:=[ (PySem.Str.ofString ".0",PySem.NameKind.local),(PySem.Str.ofString "thing",PySem.NameKind.local),(PySem.Str.ofString "item_of",PySem.NameKind.globalImplicit)],isGenerator:=false,isCoroutine:=false,more:=[]:PySem.Scope }
noncomputable def d_read:Df:=⟨"read",["text"],["text"],(.cons (.ret (.tupL (.comp e_read_1 t_read_1 (.seq (.call 4 (.call 3 (.var 0 (qQ 28 62 66)) .nil (qQ 28 53 61) (qQ 28 53 67)) .nil (qQ 28 46 52) (qQ 28 46 68))) c_read_1 ["thing"] [none] s_read_1 (qQ 28 17 69)) (qQ 28 11 16) (qQ 28 11 70)) (qQ 28 4 70)) .nil)⟩
noncomputable def e_words_of_1:E:=(.var 0 (qQ 31 12 16))
noncomputable def c_words_of_1:Es:=(.cons (.cmp .NotEq (.var 0 (qQ 31 50 54)) (.str "" (qQ 31 58 60)) (qQ 31 50 60)) .nil)
noncomputable def t_words_of_1:Tg:=(.one 0 (qQ 31 21 25))
noncomputable def s_words_of_1:Scope:={ kind:=PySem.ScopeKind.function,names:=[(PySem.Str.ofString ".0",PySem.NameKind.local),(PySem.Str.ofString "word",PySem.NameKind.local)],isGenerator:=false,isCoroutine:=false,more:=[]:PySem.Scope }
noncomputable def d_words_of:Df:=⟨"words_of",["text"],["text","spaced"],(.cons (.rep 1 0 (qQ 30 13 17) [⟨"\n"," ",(qQ 30 13 25),(qQ 30 26 30),(qQ 30 32 35),(qQ 30 13 36)⟩,⟨"("," ( ",(qQ 30 13 44),(qQ 30 45 48),(qQ 30 50 55),(qQ 30 13 56)⟩,⟨")"," ) ",(qQ 30 13 64),(qQ 30 65 68),(qQ 30 70 75),(qQ 30 13 76)⟩] (qQ 30 4 10) (qQ 30 4 76)) (.cons (.ret (.ofL (.comp e_words_of_1 t_words_of_1 (.seq (.split (.var 1 (qQ 31 29 35)) (.str " " (qQ 31 42 45)) (qQ 31 29 41) (qQ 31 29 46))) c_words_of_1 ["word"] [none] s_words_of_1 (qQ 31 11 61))) (qQ 31 4 61)) .nil))⟩
noncomputable def t_nested_1:Tg:=(.one 3 (qQ 35 8 12))
noncomputable def b_nested_1:Ss:=(.cons (.iff (.cmp .Eq (.var 3 (qQ 36 11 15)) (.str "(" (qQ 36 19 22)) (qQ 36 11 22)) (.cons (.iff (.cmp .Eq (.len (.var 1 (qQ 37 19 25)) (qQ 37 15 18) (qQ 37 15 26)) (.gcon "DEEPEST" (.int (24)) (qQ 37 30 37)) (qQ 37 15 37)) (.cons (.raw (.Raise (some (.Call (.Name "NoText" (qQ 38 22 28)) [(.Constant (.str "brackets too deep within one another") 0 (qQ 38 29 67))] [] (qQ 38 22 68))) none (qQ 38 16 68))) .nil) .nil ⟨37,12,38,68⟩) (.cons (.ex (.m1 .append (.var 1 (qQ 39 12 18)) (.var 2 (qQ 39 26 31)) (qQ 39 12 25) (qQ 39 12 32)) (qQ 39 12 32)) (.cons (.set 2 (.ofL (.disp .nil (qQ 40 20 22))) (qQ 40 12 17) (qQ 40 12 22)) .nil))) (.cons (.iff (.cmp .Eq (.var 3 (qQ 41 13 17)) (.str ")" (qQ 41 21 24)) (qQ 41 13 24)) (.cons (.iff (.cmpN false (.var 1 (qQ 42 15 21)) (qQ 42 25 27) (qQ 42 15 27)) (.cons (.raw (.Raise (some (.Call (.Name "NoText" (qQ 43 22 28)) [(.Constant (.str "a bracket is closed that was not opened") 0 (qQ 43 29 70))] [] (qQ 43 22 71))) none (qQ 43 16 71))) .nil) .nil ⟨42,12,43,71⟩) (.cons (.set 4 (.var 2 (qQ 44 21 26)) (qQ 44 12 18) (qQ 44 12 26)) (.cons (.set 2 (.m0 .pop (.var 1 (qQ 45 20 26)) (qQ 45 20 30) (qQ 45 20 32)) (qQ 45 12 17) (qQ 45 12 32)) (.cons (.ex (.m1 .append (.var 2 (qQ 46 12 17)) (.var 4 (qQ 46 25 31)) (qQ 46 12 24) (qQ 46 12 32)) (qQ 46 12 32)) .nil)))) (.cons (.ex (.m1 .append (.var 2 (qQ 48 12 17)) (.var 3 (qQ 48 25 29)) (qQ 48 12 24) (qQ 48 12 30)) (qQ 48 12 30)) .nil) ⟨41,8,48,30⟩) .nil) ⟨36,8,48,30⟩) .nil)
noncomputable def d_nested:Df:=⟨"nested",["words"],["words","around","inner","word","closed"],(.cons (.set 1 (.ofL (.disp .nil (qQ 33 13 15))) (qQ 33 4 10) (qQ 33 4 15)) (.cons (.set 2 (.ofL (.disp .nil (qQ 34 12 14))) (qQ 34 4 9) (qQ 34 4 14)) (.cons (.forr t_nested_1 (.seq (.var 0 (qQ 35 16 21))) b_nested_1 ⟨35,4,48,30⟩) (.cons (.iff (.cmpN true (.var 1 (qQ 49 7 13)) (qQ 49 17 19) (qQ 49 7 19)) (.cons (.raw (.Raise (some (.Call (.Name "NoText" (qQ 50 14 20)) [(.Constant (.str "a bracket is not closed") 0 (qQ 50 21 46))] [] (qQ 50 14 47))) none (qQ 50 8 47))) .nil) .nil ⟨49,4,50,47⟩) (.cons (.ret (.var 2 (qQ 51 11 16)) (qQ 51 4 16)) .nil)))))⟩
noncomputable def d_item_of:Df:=⟨"item_of",["thing"],["thing","head"],(.cons (.set 1 (.call 15 (.var 0 (qQ 53 19 24)) .nil (qQ 53 11 18) (qQ 53 11 25)) (qQ 53 4 8) (qQ 53 4 25)) (.cons (.iff (.cmp .Eq (.var 1 (qQ 54 7 11)) (.str "def" (qQ 54 15 20)) (qQ 54 7 20)) (.cons (.ret (.call 6 (.cut (.var 0 (qQ 55 27 32)) (.some (.int 1 (qQ 55 33 34))) .none (qQ 55 33 35) (qQ 55 27 36)) .nil (qQ 55 15 26) (qQ 55 15 37)) (qQ 55 8 37)) .nil) .nil ⟨54,4,55,37⟩) (.cons (.iff (.cmp .Eq (.var 1 (qQ 56 7 11)) (.str "handler" (qQ 56 15 24)) (qQ 56 7 24)) (.cons (.ret (.call 7 (.cut (.var 0 (qQ 57 26 31)) (.some (.int 1 (qQ 57 32 33))) .none (qQ 57 32 34) (qQ 57 26 35)) .nil (qQ 57 15 25) (qQ 57 15 36)) (qQ 57 8 36)) .nil) .nil ⟨56,4,57,36⟩) (.cons (.raw (.Raise (some (.Call (.Name "NoText" (qQ 58 10 16)) [(.JoinedStr [(.Constant (.str "no item begins with ") 0 (qQ 58 19 39)),(.FormattedValue (.Name "head" (qQ 58 40 44)) (114) none (qQ 58 39 47))] (qQ 58 17 48))] [] (qQ 58 10 49))) none (qQ 58 4 49))) .nil))))⟩
noncomputable def d_function_of:Df:=⟨"function_of",["things"],["things","block"],(.cons (.iff (.cmp .NotIn (.len (.var 0 (qQ 60 11 17)) (qQ 60 7 10) (qQ 60 7 18)) (.tup (.cons (.int 3 (qQ 60 27 28)) (.cons (.int 4 (qQ 60 30 31)) .nil)) (qQ 60 26 32)) (qQ 60 7 32)) (.cons (.raw (.Raise (some (.Call (.Name "NoText" (qQ 61 14 20)) [(.Constant (.str "a def with too few or too many things") 0 (qQ 61 21 60))] [] (qQ 61 14 61))) none (qQ 61 8 61))) .nil) .nil ⟨60,4,61,61⟩) (.cons (.set 1 (.ite (.cmp .Eq (.len (.var 0 (qQ 62 38 44)) (qQ 62 34 37) (qQ 62 34 45)) (.int 4 (qQ 62 49 50)) (qQ 62 34 50)) (.call 17 (.sub (.var 0 (qQ 62 20 26)) (.int 2 (qQ 62 27 28)) (qQ 62 20 29)) .nil (qQ 62 12 19) (qQ 62 12 30)) (.non (qQ 62 56 60)) (qQ 62 12 60)) (qQ 62 4 9) (qQ 62 4 60)) (.cons (.ret (.tup (.cons (.str "def" (qQ 63 12 17)) (.cons (.call 17 (.sub (.var 0 (qQ 63 27 33)) (.int 0 (qQ 63 34 35)) (qQ 63 27 36)) .nil (qQ 63 19 26) (qQ 63 19 37)) (.cons (.call 16 (.sub (.var 0 (qQ 63 48 54)) (.int 1 (qQ 63 55 56)) (qQ 63 48 57)) .nil (qQ 63 39 47) (qQ 63 39 58)) (.cons (.var 1 (qQ 63 60 65)) (.cons (.call 11 (.sub (.var 0 (qQ 63 81 87)) (.un .USub (.int 1 (qQ 63 89 90)) (qQ 63 88 90)) (qQ 63 81 91)) .nil (qQ 63 67 80) (qQ 63 67 92)) .nil))))) (qQ 63 11 93)) (qQ 63 4 93)) .nil)))⟩
noncomputable def e_handler_of_1:E:=(.call 8 (.str "on" (qQ 67 22 26)) (.cons (.var 0 (qQ 67 28 33)) (.cons (.gcon "CLAUSE_FORM" (.tup g_CLAUSE_FORM) (qQ 67 35 46)) .nil)) (qQ 67 15 21) (qQ 67 15 47))
noncomputable def c_handler_of_1:Es:=.nil
noncomputable def t_handler_of_1:Tg:=(.one 0 (qQ 67 52 57))
noncomputable def s_handler_of_1:Scope:={ kind:=PySem.ScopeKind.function,names:=[ (PySem.Str.ofString ".0",PySem.NameKind.local),(PySem.Str.ofString "thing",PySem.NameKind.local),(PySem.Str.ofString "headed",PySem.NameKind.globalImplicit),(PySem.Str.ofString "CLAUSE_FORM",PySem.NameKind.globalImplicit)],isGenerator:=false,isCoroutine:=false,more:=[]:PySem.Scope }
noncomputable def d_handler_of:Df:=⟨"handler_of",["things"],["things","clauses"],(.cons (.iff (.cmp .Lt (.len (.var 0 (qQ 65 11 17)) (qQ 65 7 10) (qQ 65 7 18)) (.int 2 (qQ 65 21 22)) (qQ 65 7 22)) (.cons (.raw (.Raise (some (.Call (.Name "NoText" (qQ 66 14 20)) [(.Constant (.str "a handler with too few things") 0 (qQ 66 21 52))] [] (qQ 66 14 53))) none (qQ 66 8 53))) .nil) .nil ⟨65,4,66,53⟩) (.cons (.set 1 (.ofL (.comp e_handler_of_1 t_handler_of_1 (.seq (.cut (.var 0 (qQ 67 61 67)) (.some (.int 1 (qQ 67 68 69))) (.some (.un .USub (.int 1 (qQ 67 71 72)) (qQ 67 70 72))) (qQ 67 68 72) (qQ 67 61 73))) c_handler_of_1 ["thing"] [none] s_handler_of_1 (qQ 67 14 74))) (qQ 67 4 11) (qQ 67 4 74)) (.cons (.ret (.tup (.cons (.str "handler" (qQ 68 12 21)) (.cons (.call 17 (.sub (.var 0 (qQ 68 31 37)) (.int 0 (qQ 68 38 39)) (qQ 68 31 40)) .nil (qQ 68 23 30) (qQ 68 23 41)) (.cons (.tupE (.var 1 (qQ 68 49 56)) (qQ 68 43 48) (qQ 68 43 57)) (.cons (.call 8 (.str "end" (qQ 68 66 71)) (.cons (.sub (.var 0 (qQ 68 73 79)) (.un .USub (.int 1 (qQ 68 81 82)) (qQ 68 80 82)) (qQ 68 73 83)) (.cons (.gcon "END_FORM" (.tup g_END_FORM) (qQ 68 85 93)) .nil)) (qQ 68 59 65) (qQ 68 59 94)) .nil)))) (qQ 68 11 95)) (qQ 68 4 95)) .nil)))⟩
noncomputable def d_headed:Df:=⟨"headed",["word","thing","form"],["word","thing","form"],(.cons (.iff (.cmp .NotEq (.call 15 (.var 1 (qQ 70 15 20)) .nil (qQ 70 7 14) (qQ 70 7 21)) (.var 0 (qQ 70 25 29)) (qQ 70 7 29)) (.cons (.raw (.Raise (some (.Call (.Name "NoText" (qQ 71 14 20)) [(.JoinedStr [(.Constant (.str "brackets with ") 0 (qQ 71 23 37)),(.FormattedValue (.Name "word" (qQ 71 38 42)) (114) none (qQ 71 37 45)),(.Constant (.str " are lacking") 0 (qQ 71 45 57))] (qQ 71 21 58))] [] (qQ 71 14 59))) none (qQ 71 8 59))) .nil) .nil ⟨70,4,71,59⟩) (.cons (.ret (.call 9 (.cut (.var 1 (qQ 72 18 23)) (.some (.int 1 (qQ 72 24 25))) .none (qQ 72 24 26) (qQ 72 18 27)) (.cons (.var 2 (qQ 72 29 33)) .nil) (qQ 72 11 17) (qQ 72 11 34)) (qQ 72 4 34)) .nil))⟩
noncomputable def e_formed_1:E:=(.call 10 (.var 0 (qQ 76 26 30)) (.cons (.var 1 (qQ 76 32 37)) .nil) (qQ 76 18 25) (qQ 76 18 38))
noncomputable def c_formed_1:Es:=.nil
noncomputable def t_formed_1:Tg:=(.tup [(0,(qQ 76 43 47)),(1,(qQ 76 49 54))] (qQ 76 43 54))
noncomputable def s_formed_1:Scope:={ kind:=PySem.ScopeKind.function,names:=[ (PySem.Str.ofString ".0",PySem.NameKind.local),(PySem.Str.ofString "kind",PySem.NameKind.local),(PySem.Str.ofString "thing",PySem.NameKind.local),(PySem.Str.ofString "read_as",PySem.NameKind.globalImplicit)],isGenerator:=false,isCoroutine:=false,more:=[]:PySem.Scope }
noncomputable def d_formed:Df:=⟨"formed",["things","form"],["things","form"],(.cons (.iff (.cmp .NotEq (.len (.var 0 (qQ 74 11 17)) (qQ 74 7 10) (qQ 74 7 18)) (.len (.var 1 (qQ 74 26 30)) (qQ 74 22 25) (qQ 74 22 31)) (qQ 74 7 31)) (.cons (.raw (.Raise (some (.Call (.Name "NoText" (qQ 75 14 20)) [(.Constant (.str "too few or too many things in a pair of brackets") 0 (qQ 75 21 71))] [] (qQ 75 14 72))) none (qQ 75 8 72))) .nil) .nil ⟨74,4,75,72⟩) (.cons (.ret (.tupL (.comp e_formed_1 t_formed_1 (.zip (.var 1 (qQ 76 62 66)) (.var 0 (qQ 76 68 74)) (qQ 76 58 61) (qQ 76 58 75)) c_formed_1 ["kind","thing"] [none,none] s_formed_1 (qQ 76 17 76)) (qQ 76 11 16) (qQ 76 11 77)) (qQ 76 4 77)) .nil))⟩
noncomputable def d_read_as:Df:=⟨"read_as",["kind","thing"],["kind","thing"],(.cons (.ret (.ite (.cmp .Eq (.var 0 (qQ 78 29 33)) (.str "name" (qQ 78 37 43)) (qQ 78 29 43)) (.call 17 (.var 1 (qQ 78 19 24)) .nil (qQ 78 11 18) (qQ 78 11 25)) (.call 11 (.var 1 (qQ 78 63 68)) .nil (qQ 78 49 62) (qQ 78 49 69)) (qQ 78 11 69)) (qQ 78 4 69)) .nil)⟩
noncomputable def d_expression_of:Df:=⟨"expression_of",["thing"],["thing","head"],(.cons (.iff (.isi 2 (.var 0 (qQ 80 18 23)) (qQ 80 7 17) (qQ 80 25 28) (qQ 80 7 29)) (.cons (.ret (.ite (.call 1 (.var 0 (qQ 81 48 53)) .nil (qQ 81 38 47) (qQ 81 38 54)) (.tup (.cons (.str "num" (qQ 81 16 21)) (.cons (.c1 .int (.var 0 (qQ 81 27 32)) (qQ 81 23 26) (qQ 81 23 33)) .nil)) (qQ 81 15 34)) (.tup (.cons (.str "var" (qQ 81 61 66)) (.cons (.call 17 (.var 0 (qQ 81 76 81)) .nil (qQ 81 68 75) (qQ 81 68 82)) .nil)) (qQ 81 60 83)) (qQ 81 15 83)) (qQ 81 8 83)) .nil) .nil ⟨80,4,81,83⟩) (.cons (.set 1 (.call 15 (.var 0 (qQ 82 19 24)) .nil (qQ 82 11 18) (qQ 82 11 25)) (qQ 82 4 8) (qQ 82 4 25)) (.cons (.iff (.cmp .In (.var 1 (qQ 83 7 11)) (.gcon "SIGNS" (.tup g_SIGNS) (qQ 83 15 20)) (qQ 83 7 20)) (.cons (.ret (.bin .Add (.tup (.cons (.str "op" (qQ 84 16 20)) (.cons (.var 1 (qQ 84 22 26)) .nil)) (qQ 84 15 27)) (.call 9 (.cut (.var 0 (qQ 84 37 42)) (.some (.int 1 (qQ 84 43 44))) .none (qQ 84 43 45) (qQ 84 37 46)) (.cons (.cut (.gsub "FORMS" g_FORMS (.str "op" (qQ 84 54 58)) (qQ 84 48 53) (qQ 84 48 59)) (.some (.int 1 (qQ 84 60 61))) .none (qQ 84 60 62) (qQ 84 48 63)) .nil) (qQ 84 30 36) (qQ 84 30 64)) (qQ 84 15 64)) (qQ 84 8 64)) .nil) .nil ⟨83,4,84,64⟩) (.cons (.iff (.cmp .In (.var 1 (qQ 85 7 11)) (.gcon "ALIKE" (.tup g_ALIKE) (qQ 85 15 20)) (qQ 85 7 20)) (.cons (.ret (.bin .Add (.tup (.cons (.var 1 (qQ 86 16 20)) .nil) (qQ 86 15 22)) (.call 9 (.cut (.var 0 (qQ 86 32 37)) (.some (.int 1 (qQ 86 38 39))) .none (qQ 86 38 40) (qQ 86 32 41)) (.cons (.gsub "FORMS" g_FORMS (.var 1 (qQ 86 49 53)) (qQ 86 43 48) (qQ 86 43 54)) .nil) (qQ 86 25 31) (qQ 86 25 55)) (qQ 86 15 55)) (qQ 86 8 55)) .nil) .nil ⟨85,4,86,55⟩) (.cons (.iff (.cmp .Eq (.var 1 (qQ 87 7 11)) (.str "call" (qQ 87 15 21)) (qQ 87 7 21)) (.cons (.ret (.call 12 (.cut (.var 0 (qQ 88 23 28)) (.some (.int 1 (qQ 88 29 30))) .none (qQ 88 29 31) (qQ 88 23 32)) .nil (qQ 88 15 22) (qQ 88 15 33)) (qQ 88 8 33)) .nil) .nil ⟨87,4,88,33⟩) (.cons (.iff (.cmp .Eq (.var 1 (qQ 89 7 11)) (.str "hand" (qQ 89 15 21)) (qQ 89 7 21)) (.cons (.ret (.call 13 (.cut (.var 0 (qQ 90 23 28)) (.some (.int 1 (qQ 90 29 30))) .none (qQ 90 29 31) (qQ 90 23 32)) .nil (qQ 90 15 22) (qQ 90 15 33)) (qQ 90 8 33)) .nil) .nil ⟨89,4,90,33⟩) (.cons (.raw (.Raise (some (.Call (.Name "NoText" (qQ 91 10 16)) [(.JoinedStr [(.Constant (.str "no expression begins with ") 0 (qQ 91 19 45)),(.FormattedValue (.Name "head" (qQ 91 46 50)) (114) none (qQ 91 45 53))] (qQ 91 17 54))] [] (qQ 91 10 55))) none (qQ 91 4 55))) .nil)))))))⟩
noncomputable def d_call_of:Df:=⟨"call_of",["things"],["things"],(.cons (.iff (.cmpN false (.var 0 (qQ 93 7 13)) (qQ 93 17 19) (qQ 93 7 19)) (.cons (.raw (.Raise (some (.Call (.Name "NoText" (qQ 94 14 20)) [(.Constant (.str "a call with too few things") 0 (qQ 94 21 49))] [] (qQ 94 14 50))) none (qQ 94 8 50))) .nil) .nil ⟨93,4,94,50⟩) (.cons (.ret (.tup (.cons (.str "call" (qQ 95 12 18)) (.cons (.call 17 (.sub (.var 0 (qQ 95 28 34)) (.int 0 (qQ 95 35 36)) (qQ 95 28 37)) .nil (qQ 95 20 27) (qQ 95 20 38)) (.cons (.non (qQ 95 40 44)) (.cons (.call 14 (.cut (.var 0 (qQ 95 61 67)) (.some (.int 1 (qQ 95 68 69))) .none (qQ 95 68 70) (qQ 95 61 71)) .nil (qQ 95 46 60) (qQ 95 46 72)) .nil)))) (qQ 95 11 73)) (qQ 95 4 73)) .nil))⟩
noncomputable def d_hand_of:Df:=⟨"hand_of",["things"],["things"],(.cons (.iff (.cmp .Lt (.len (.var 0 (qQ 97 11 17)) (qQ 97 7 10) (qQ 97 7 18)) (.int 2 (qQ 97 21 22)) (qQ 97 7 22)) (.cons (.raw (.Raise (some (.Call (.Name "NoText" (qQ 98 14 20)) [(.Constant (.str "a hand with too few things") 0 (qQ 98 21 49))] [] (qQ 98 14 50))) none (qQ 98 8 50))) .nil) .nil ⟨97,4,98,50⟩) (.cons (.ret (.tup (.cons (.str "call" (qQ 99 12 18)) (.cons (.call 17 (.sub (.var 0 (qQ 99 28 34)) (.int 0 (qQ 99 35 36)) (qQ 99 28 37)) .nil (qQ 99 20 27) (qQ 99 20 38)) (.cons (.call 17 (.sub (.var 0 (qQ 99 48 54)) (.int 1 (qQ 99 55 56)) (qQ 99 48 57)) .nil (qQ 99 40 47) (qQ 99 40 58)) (.cons (.call 14 (.cut (.var 0 (qQ 99 75 81)) (.some (.int 2 (qQ 99 82 83))) .none (qQ 99 82 84) (qQ 99 75 85)) .nil (qQ 99 60 74) (qQ 99 60 86)) .nil)))) (qQ 99 11 87)) (qQ 99 4 87)) .nil))⟩
noncomputable def e_expressions_of_1:E:=(.call 11 (.var 0 (qQ 101 32 37)) .nil (qQ 101 18 31) (qQ 101 18 38))
noncomputable def c_expressions_of_1:Es:=.nil
noncomputable def t_expressions_of_1:Tg:=(.one 0 (qQ 101 43 48))
noncomputable def s_expressions_of_1:Scope:={ kind:=PySem.ScopeKind.function,names:=[ (PySem.Str.ofString ".0",PySem.NameKind.local),(PySem.Str.ofString "thing",PySem.NameKind.local),(PySem.Str.ofString "expression_of",PySem.NameKind.globalImplicit)],isGenerator:=false,isCoroutine:=false,more:=[]:PySem.Scope }
noncomputable def d_expressions_of:Df:=⟨"expressions_of",["things"],["things"],(.cons (.ret (.tupL (.comp e_expressions_of_1 t_expressions_of_1 (.seq (.var 0 (qQ 101 52 58))) c_expressions_of_1 ["thing"] [none] s_expressions_of_1 (qQ 101 17 59)) (qQ 101 11 16) (qQ 101 11 60)) (qQ 101 4 60)) .nil)⟩
noncomputable def d_head_of:Df:=⟨"head_of",["thing"],["thing"],(.cons (.iff (.isi 2 (.var 0 (qQ 103 18 23)) (qQ 103 7 17) (qQ 103 25 28) (qQ 103 7 29)) (.cons (.raw (.Raise (some (.Call (.Name "NoText" (qQ 104 14 20)) [(.JoinedStr [(.FormattedValue (.Name "thing" (qQ 104 24 29)) (114) none (qQ 104 23 32)),(.Constant (.str " stands where brackets are asked") 0 (qQ 104 32 64))] (qQ 104 21 65))] [] (qQ 104 14 66))) none (qQ 104 8 66))) .nil) .nil ⟨103,4,104,66⟩) (.cons (.iff (.or (.cmpN false (.var 0 (qQ 105 7 12)) (qQ 105 16 18) (qQ 105 7 18)) (.un .Not (.isi 2 (.sub (.var 0 (qQ 105 37 42)) (.int 0 (qQ 105 43 44)) (qQ 105 37 45)) (qQ 105 26 36) (qQ 105 47 50) (qQ 105 26 51)) (qQ 105 22 51)) .nil (qQ 105 7 51)) (.cons (.raw (.Raise (some (.Call (.Name "NoText" (qQ 106 14 20)) [(.Constant (.str "brackets that don't begin with a word") 0 (qQ 106 21 60))] [] (qQ 106 14 61))) none (qQ 106 8 61))) .nil) .nil ⟨105,4,106,61⟩) (.cons (.ret (.sub (.var 0 (qQ 107 11 16)) (.int 0 (qQ 107 17 18)) (qQ 107 11 19)) (qQ 107 4 19)) .nil)))⟩
noncomputable def e_names_of_1:E:=(.call 17 (.var 0 (qQ 111 26 30)) .nil (qQ 111 18 25) (qQ 111 18 31))
noncomputable def c_names_of_1:Es:=.nil
noncomputable def t_names_of_1:Tg:=(.one 0 (qQ 111 36 40))
noncomputable def s_names_of_1:Scope:={ kind:=PySem.ScopeKind.function,names:=[ (PySem.Str.ofString ".0",PySem.NameKind.local),(PySem.Str.ofString "part",PySem.NameKind.local),(PySem.Str.ofString "name_of",PySem.NameKind.globalImplicit)],isGenerator:=false,isCoroutine:=false,more:=[]:PySem.Scope }
noncomputable def d_names_of:Df:=⟨"names_of",["thing"],["thing"],(.cons (.iff (.isi 2 (.var 0 (qQ 109 18 23)) (qQ 109 7 17) (qQ 109 25 28) (qQ 109 7 29)) (.cons (.raw (.Raise (some (.Call (.Name "NoText" (qQ 110 14 20)) [(.JoinedStr [(.FormattedValue (.Name "thing" (qQ 110 24 29)) (114) none (qQ 110 23 32)),(.Constant (.str " stands where brackets are asked") 0 (qQ 110 32 64))] (qQ 110 21 65))] [] (qQ 110 14 66))) none (qQ 110 8 66))) .nil) .nil ⟨109,4,110,66⟩) (.cons (.ret (.tupL (.comp e_names_of_1 t_names_of_1 (.seq (.var 0 (qQ 111 44 49))) c_names_of_1 ["part"] [none] s_names_of_1 (qQ 111 17 50)) (qQ 111 11 16) (qQ 111 11 51)) (qQ 111 4 51)) .nil))⟩
noncomputable def d_name_of:Df:=⟨"name_of",["thing"],["thing"],(.cons (.iff (.un .Not (.isi 2 (.var 0 (qQ 113 22 27)) (qQ 113 11 21) (qQ 113 29 32) (qQ 113 11 33)) (qQ 113 7 33)) (.cons (.raw (.Raise (some (.Call (.Name "NoText" (qQ 114 14 20)) [(.Constant (.str "brackets stand where a name is asked") 0 (qQ 114 21 59))] [] (qQ 114 14 60))) none (qQ 114 8 60))) .nil) .nil ⟨113,4,114,60⟩) (.cons (.iff (.un .Not (.call 0 (.var 0 (qQ 115 19 24)) .nil (qQ 115 11 18) (qQ 115 11 25)) (qQ 115 7 25)) (.cons (.raw (.Raise (some (.Call (.Name "NoText" (qQ 116 14 20)) [(.JoinedStr [(.FormattedValue (.Name "thing" (qQ 116 24 29)) (114) none (qQ 116 23 32)),(.Constant (.str " is no name") 0 (qQ 116 32 43))] (qQ 116 21 44))] [] (qQ 116 14 45))) none (qQ 116 8 45))) .nil) .nil ⟨115,4,116,45⟩) (.cons (.ret (.var 0 (qQ 117 11 16)) (qQ 117 4 16)) .nil)))⟩
noncomputable def d_law_cell:Df:=⟨"_law_cell",["_law_script","_law_k"],["_law_script","_law_k","_law_number"],(.cons (.set 2 (.bin .Add (.bin .Mult (.int 7919 (qQ 120 18 22)) (.var 1 (qQ 120 25 31)) (qQ 120 18 31)) (.int 5 (qQ 120 34 35)) (qQ 120 18 35)) (qQ 120 4 15) (qQ 120 4 35)) (.cons (.iff (.cmp .Gt (.len (.var 0 (qQ 121 11 22)) (qQ 121 7 10) (qQ 121 7 23)) (.int 0 (qQ 121 26 27)) (qQ 121 7 27)) (.cons (.set 2 (.bin .Add (.bin .Mult (.sub (.var 0 (qQ 122 22 33)) (.bin .Mod (.var 1 (qQ 122 34 40)) (.len (.var 0 (qQ 122 47 58)) (qQ 122 43 46) (qQ 122 43 59)) (qQ 122 34 59)) (qQ 122 22 60)) (.int 48271 (qQ 122 63 68)) (qQ 122 22 68)) (.bin .Mult (.int 7919 (qQ 122 71 75)) (.var 1 (qQ 122 78 84)) (qQ 122 71 84)) (qQ 122 22 84)) (qQ 122 8 19) (qQ 122 8 84)) .nil) .nil ⟨121,4,122,84⟩) (.cons (.set 2 (.bin .Mod (.var 2 (qQ 123 18 29)) (.int 2147483647 (qQ 123 32 42)) (qQ 123 18 42)) (qQ 123 4 15) (qQ 123 4 42)) (.cons (.ret (.bin .Mod (.bin .Mult (.var 2 (qQ 124 11 22)) (.var 2 (qQ 124 25 36)) (qQ 124 11 36)) (.int 2147483629 (qQ 124 39 49)) (qQ 124 11 49)) (qQ 124 4 49)) .nil))))⟩
noncomputable def d_law_next:Df:=⟨"_law_next",["_law_feed"],["_law_feed"],(.cons (.iff (.cmp .Gt (.len (.var 0 (qQ 126 11 20)) (qQ 126 7 10) (qQ 126 7 21)) (.int 0 (qQ 126 24 25)) (qQ 126 7 25)) (.cons (.ret (.bin .Mod (.bin .Add (.bin .Mult (.m0 .pop (.var 0 (qQ 127 16 25)) (qQ 127 16 29) (qQ 127 16 31)) (.int 48271 (qQ 127 34 39)) (qQ 127 16 39)) (.bin .Mult (.int 7919 (qQ 127 42 46)) (.len (.var 0 (qQ 127 53 62)) (qQ 127 49 52) (qQ 127 49 63)) (qQ 127 42 63)) (qQ 127 16 63)) (.int 2147483647 (qQ 127 67 77)) (qQ 127 15 77)) (qQ 127 8 77)) .nil) .nil ⟨126,4,127,77⟩) (.cons (.ret (.int 0 (qQ 128 11 12)) (qQ 128 4 12)) .nil))⟩
noncomputable def t_law_name_1:Tg:=(.one 4 (qQ 133 8 14))
noncomputable def b_law_name_1:Ss:=(.cons (.set 5 (.bin .Mod (.bin .Add (.var 2 (qQ 134 19 28)) (.bin .Mult (.bin .Mult (.int 11 (qQ 134 31 33)) (.var 4 (qQ 134 36 42)) (qQ 134 31 42)) (.bin .Mod (.var 0 (qQ 134 46 60)) (.int 3 (qQ 134 63 64)) (qQ 134 46 64)) (qQ 134 31 65)) (qQ 134 19 65)) (.int 26 (qQ 134 69 71)) (qQ 134 18 71)) (qQ 134 8 15) (qQ 134 8 71)) (.cons (.set 3 (.bin .Add (.var 3 (qQ 135 25 39)) (.sub (.str "abcdefghijklmnopqrstuvwxyz" (qQ 135 42 70)) (.var 5 (qQ 135 71 78)) (qQ 135 42 79)) (qQ 135 25 79)) (qQ 135 8 22) (qQ 135 8 79)) (.cons (.set 2 (.bin .FloorDiv (.var 2 (qQ 136 20 29)) (.int 26 (qQ 136 33 35)) (qQ 136 20 35)) (qQ 136 8 17) (qQ 136 8 35)) .nil)))
noncomputable def d_law_name:Df:=⟨"_law_name",["_law_cell_here"],["_law_cell_here","_law_size","_law_rest","_law_name_here","_law_k","_law_at"],(.cons (.set 1 (.bin .Add (.int 1 (qQ 130 16 17)) (.bin .Mod (.var 0 (qQ 130 20 34)) (.int 8 (qQ 130 37 38)) (qQ 130 20 38)) (qQ 130 16 38)) (qQ 130 4 13) (qQ 130 4 38)) (.cons (.set 2 (.bin .FloorDiv (.var 0 (qQ 131 16 30)) (.int 8 (qQ 131 34 35)) (qQ 131 16 35)) (qQ 131 4 13) (qQ 131 4 35)) (.cons (.set 3 (.str "" (qQ 132 21 23)) (qQ 132 4 18) (qQ 132 4 23)) (.cons (.forr t_law_name_1 (.rng (.var 1 (qQ 133 24 33)) (qQ 133 18 23) (qQ 133 18 34)) b_law_name_1 ⟨133,4,136,35⟩) (.cons (.iff (.cmp .In (.var 3 (qQ 137 7 21)) (.ofL (.disp (.cons (.str "def" (qQ 137 26 31)) (.cons (.str "handler" (qQ 137 33 42)) (.cons (.str "on" (qQ 137 44 48)) (.cons (.str "end" (qQ 137 50 55)) (.cons (.str "let" (qQ 137 57 62)) (.cons (.str "if" (qQ 137 64 68)) (.cons (.str "call" (qQ 137 70 76)) .nil))))))) (qQ 137 25 77))) (qQ 137 7 77)) (.cons (.ret (.bin .Add (.var 3 (qQ 138 15 29)) (.str "z" (qQ 138 32 35)) (qQ 138 15 35)) (qQ 138 8 35)) .nil) .nil ⟨137,4,138,35⟩) (.cons (.iff (.cmp .In (.var 3 (qQ 139 7 21)) (.ofL (.disp (.cons (.str "hand" (qQ 139 26 32)) (.cons (.str "do" (qQ 139 34 38)) (.cons (.str "handle" (qQ 139 40 48)) (.cons (.str "go" (qQ 139 50 54)) (.cons (.str "guard" (qQ 139 56 63)) .nil))))) (qQ 139 25 64))) (qQ 139 7 64)) (.cons (.ret (.bin .Add (.var 3 (qQ 140 15 29)) (.str "y" (qQ 140 32 35)) (qQ 140 15 35)) (qQ 140 8 35)) .nil) .nil ⟨139,4,140,35⟩) (.cons (.ret (.var 3 (qQ 141 11 25)) (qQ 141 4 25)) .nil)))))))⟩
noncomputable def e_law_part_1:E:=(.call 21 (.var 2 (qQ 160 69 78)) (.cons (.bin .Sub (.var 1 (qQ 160 80 89)) (.int 1 (qQ 160 92 93)) (qQ 160 80 93)) .nil) (qQ 160 59 68) (qQ 160 59 94))
noncomputable def c_law_part_1:Es:=.nil
noncomputable def t_law_part_1:Tg:=(.one 0 (qQ 160 99 105))
noncomputable def s_law_part_1:Scope:={ kind:=PySem.ScopeKind.function,names:=[ (PySem.Str.ofString ".0",PySem.NameKind.local),(PySem.Str.ofString "_law_k",PySem.NameKind.local),(PySem.Str.ofString "_law_part",PySem.NameKind.globalImplicit),(PySem.Str.ofString "_law_deep",PySem.NameKind.free),(PySem.Str.ofString "_law_feed",PySem.NameKind.free)],isGenerator:=false,isCoroutine:=false,more:=[]:PySem.Scope }
noncomputable def e_law_part_2:E:=(.call 21 (.var 2 (qQ 155 41 50)) (.cons (.bin .Sub (.var 1 (qQ 155 52 61)) (.int 1 (qQ 155 64 65)) (qQ 155 52 65)) .nil) (qQ 155 31 40) (qQ 155 31 66))
noncomputable def c_law_part_2:Es:=.nil
noncomputable def t_law_part_2:Tg:=(.one 0 (qQ 155 71 77))
noncomputable def s_law_part_2:Scope:={ kind:=PySem.ScopeKind.function,names:=[ (PySem.Str.ofString ".0",PySem.NameKind.local),(PySem.Str.ofString "_law_k",PySem.NameKind.local),(PySem.Str.ofString "_law_part",PySem.NameKind.globalImplicit),(PySem.Str.ofString "_law_deep",PySem.NameKind.free),(PySem.Str.ofString "_law_feed",PySem.NameKind.free)],isGenerator:=false,isCoroutine:=false,more:=[]:PySem.Scope }
noncomputable def d_law_part:Df:=⟨"_law_part",["_law_feed","_law_deep"],["_law_feed","_law_deep","_law_cell_here","_law_pick","_law_name_here","_law_block"],(.cons (.set 2 (.call 19 (.var 0 (qQ 143 31 40)) .nil (qQ 143 21 30) (qQ 143 21 41)) (qQ 143 4 18) (qQ 143 4 41)) (.cons (.set 3 (.bin .Mod (.var 2 (qQ 144 16 30)) (.int 12 (qQ 144 33 35)) (qQ 144 16 35)) (qQ 144 4 13) (qQ 144 4 35)) (.cons (.iff (.or (.cmp .Eq (.var 1 (qQ 145 7 16)) (.int 0 (qQ 145 20 21)) (qQ 145 7 21)) (.cmp .Eq (.len (.var 0 (qQ 145 29 38)) (qQ 145 25 28) (qQ 145 25 39)) (.int 0 (qQ 145 43 44)) (qQ 145 25 44)) (.cons (.cmp .Lt (.var 3 (qQ 145 48 57)) (.int 2 (qQ 145 60 61)) (qQ 145 48 61)) .nil) (qQ 145 7 61)) (.cons (.iff (.cmp .Eq (.bin .Mod (.bin .FloorDiv (.var 2 (qQ 146 11 25)) (.int 12 (qQ 146 29 31)) (qQ 146 11 31)) (.int 3 (qQ 146 34 35)) (qQ 146 11 35)) (.int 0 (qQ 146 39 40)) (qQ 146 11 40)) (.cons (.ret (.tup (.cons (.str "num" (qQ 147 20 25)) (.cons (.bin .Mod (.bin .FloorDiv (.var 2 (qQ 147 27 41)) (.int 36 (qQ 147 45 47)) (qQ 147 27 47)) (.int 1000 (qQ 147 50 54)) (qQ 147 27 54)) .nil)) (qQ 147 19 55)) (qQ 147 12 55)) .nil) .nil ⟨146,8,147,55⟩) (.cons (.iff (.cmp .Eq (.bin .Mod (.bin .FloorDiv (.var 2 (qQ 148 11 25)) (.int 12 (qQ 148 29 31)) (qQ 148 11 31)) (.int 3 (qQ 148 34 35)) (qQ 148 11 35)) (.int 1 (qQ 148 39 40)) (qQ 148 11 40)) (.cons (.ret (.tup (.cons (.str "num" (qQ 149 20 25)) (.cons (.bin .Mod (.bin .Mult (.bin .FloorDiv (.var 2 (qQ 149 27 41)) (.int 36 (qQ 149 45 47)) (qQ 149 27 47)) (.int 1000000007000003 (qQ 149 50 66)) (qQ 149 27 66)) (.bin .Pow (.int 10 (qQ 149 69 71)) (.int 18 (qQ 149 75 77)) (qQ 149 69 77)) (qQ 149 27 77)) .nil)) (qQ 149 19 78)) (qQ 149 12 78)) .nil) .nil ⟨148,8,149,78⟩) (.cons (.ret (.tup (.cons (.str "var" (qQ 150 16 21)) (.cons (.call 20 (.bin .FloorDiv (.var 2 (qQ 150 33 47)) (.int 36 (qQ 150 51 53)) (qQ 150 33 53)) .nil (qQ 150 23 32) (qQ 150 23 54)) .nil)) (qQ 150 15 55)) (qQ 150 8 55)) .nil))) .nil ⟨145,4,150,55⟩) (.cons (.set 4 (.call 20 (.bin .FloorDiv (.var 2 (qQ 151 31 45)) (.int 48 (qQ 151 49 51)) (qQ 151 31 51)) .nil (qQ 151 21 30) (qQ 151 21 52)) (qQ 151 4 18) (qQ 151 4 52)) (.cons (.iff (.cmp .Lt (.var 3 (qQ 152 7 16)) (.int 4 (qQ 152 19 20)) (qQ 152 7 20)) (.cons (.ret (.tup (.cons (.str "op" (qQ 153 16 20)) (.cons (.sub (.str "+-*<" (qQ 153 22 28)) (.bin .Mod (.bin .FloorDiv (.var 2 (qQ 153 29 43)) (.int 12 (qQ 153 47 49)) (qQ 153 29 49)) (.int 4 (qQ 153 52 53)) (qQ 153 29 53)) (qQ 153 22 54)) (.cons (.call 21 (.var 0 (qQ 153 66 75)) (.cons (.bin .Sub (.var 1 (qQ 153 77 86)) (.int 1 (qQ 153 89 90)) (qQ 153 77 90)) .nil) (qQ 153 56 65) (qQ 153 56 91)) (.cons (.call 21 (.var 0 (qQ 153 103 112)) (.cons (.bin .Sub (.var 1 (qQ 153 114 123)) (.int 1 (qQ 153 126 127)) (qQ 153 114 127)) .nil) (qQ 153 93 102) (qQ 153 93 128)) .nil)))) (qQ 153 15 129)) (qQ 153 8 129)) .nil) .nil ⟨152,4,153,129⟩) (.cons (.iff (.cmp .Eq (.var 3 (qQ 154 7 16)) (.int 5 (qQ 154 20 21)) (qQ 154 7 21)) (.cons (.ret (.tupE (.bin .Add (.ofL (.disp (.cons (.str "if" (qQ 155 22 26)) .nil) (qQ 155 21 27))) (.ofL (.comp e_law_part_2 t_law_part_2 (.rng (.int 3 (qQ 155 87 88)) (qQ 155 81 86) (qQ 155 81 89)) c_law_part_2 ["_law_k","_law_deep","_law_feed"] [none,some 1,some 0] s_law_part_2 (qQ 155 30 90))) (qQ 155 21 90)) (qQ 155 15 20) (qQ 155 15 91)) (qQ 155 8 91)) .nil) .nil ⟨154,4,155,91⟩) (.cons (.iff (.or (.cmp .Eq (.var 3 (qQ 156 7 16)) (.int 6 (qQ 156 20 21)) (qQ 156 7 21)) (.cmp .Eq (.var 3 (qQ 156 25 34)) (.int 7 (qQ 156 38 39)) (qQ 156 25 39)) .nil (qQ 156 7 39)) (.cons (.set 5 (.non (qQ 157 21 25)) (qQ 157 8 18) (qQ 157 8 25)) (.cons (.iff (.cmp .Eq (.var 3 (qQ 158 11 20)) (.int 7 (qQ 158 24 25)) (qQ 158 11 25)) (.cons (.set 5 (.call 20 (.call 19 (.var 0 (qQ 159 45 54)) .nil (qQ 159 35 44) (qQ 159 35 55)) .nil (qQ 159 25 34) (qQ 159 25 56)) (qQ 159 12 22) (qQ 159 12 56)) .nil) .nil ⟨158,8,159,56⟩) (.cons (.ret (.tup (.cons (.str "call" (qQ 160 16 22)) (.cons (.var 4 (qQ 160 24 38)) (.cons (.var 5 (qQ 160 40 50)) (.cons (.tupL (.comp e_law_part_1 t_law_part_1 (.rng (.bin .Mod (.bin .FloorDiv (.var 2 (qQ 160 115 129)) (.int 12 (qQ 160 133 135)) (qQ 160 115 135)) (.int 4 (qQ 160 138 139)) (qQ 160 115 139)) (qQ 160 109 114) (qQ 160 109 140)) c_law_part_1 ["_law_k","_law_deep","_law_feed"] [none,some 1,some 0] s_law_part_1 (qQ 160 58 141)) (qQ 160 52 57) (qQ 160 52 142)) .nil)))) (qQ 160 15 143)) (qQ 160 8 143)) .nil))) .nil ⟨156,4,160,143⟩) (.cons (.iff (.cmp .Eq (.var 3 (qQ 161 7 16)) (.int 8 (qQ 161 20 21)) (qQ 161 7 21)) (.cons (.ret (.tup (.cons (.str "do" (qQ 162 16 20)) (.cons (.var 4 (qQ 162 22 36)) (.cons (.call 21 (.var 0 (qQ 162 48 57)) (.cons (.bin .Sub (.var 1 (qQ 162 59 68)) (.int 1 (qQ 162 71 72)) (qQ 162 59 72)) .nil) (qQ 162 38 47) (qQ 162 38 73)) .nil))) (qQ 162 15 74)) (qQ 162 8 74)) .nil) .nil ⟨161,4,162,74⟩) (.cons (.iff (.or (.cmp .Eq (.var 3 (qQ 163 7 16)) (.int 4 (qQ 163 20 21)) (qQ 163 7 21)) (.cmp .Eq (.var 3 (qQ 163 25 34)) (.int 9 (qQ 163 38 39)) (qQ 163 25 39)) .nil (qQ 163 7 39)) (.cons (.ret (.tup (.cons (.sub (.ofL (.disp (.cons (.str "let" (qQ 164 17 22)) (.cons (.str "handle" (qQ 164 24 32)) .nil)) (qQ 164 16 33))) (.c1 .int (.cmp .Eq (.var 3 (qQ 164 38 47)) (.int 9 (qQ 164 51 52)) (qQ 164 38 52)) (qQ 164 34 37) (qQ 164 34 53)) (qQ 164 16 54)) (.cons (.var 4 (qQ 164 56 70)) (.cons (.call 21 (.var 0 (qQ 164 82 91)) (.cons (.bin .Sub (.var 1 (qQ 164 93 102)) (.int 1 (qQ 164 105 106)) (qQ 164 93 106)) .nil) (qQ 164 72 81) (qQ 164 72 107)) (.cons (.call 21 (.var 0 (qQ 164 119 128)) (.cons (.bin .Sub (.var 1 (qQ 164 130 139)) (.int 1 (qQ 164 142 143)) (qQ 164 130 143)) .nil) (qQ 164 109 118) (qQ 164 109 144)) .nil)))) (qQ 164 15 145)) (qQ 164 8 145)) .nil) .nil ⟨163,4,164,145⟩) (.cons (.ret (.tup (.cons (.sub (.ofL (.disp (.cons (.str "go" (qQ 165 13 17)) (.cons (.str "guard" (qQ 165 19 26)) .nil)) (qQ 165 12 27))) (.bin .Sub (.var 3 (qQ 165 28 37)) (.int 10 (qQ 165 40 42)) (qQ 165 28 42)) (qQ 165 12 43)) (.cons (.call 21 (.var 0 (qQ 165 55 64)) (.cons (.bin .Sub (.var 1 (qQ 165 66 75)) (.int 1 (qQ 165 78 79)) (qQ 165 66 79)) .nil) (qQ 165 45 54) (qQ 165 45 80)) (.cons (.call 21 (.var 0 (qQ 165 92 101)) (.cons (.bin .Sub (.var 1 (qQ 165 103 112)) (.int 1 (qQ 165 115 116)) (qQ 165 103 116)) .nil) (qQ 165 82 91) (qQ 165 82 117)) .nil))) (qQ 165 11 118)) (qQ 165 4 118)) .nil))))))))))⟩
noncomputable def e_law_item_1:E:=(.call 20 (.call 19 (.var 1 (qQ 179 38 47)) .nil (qQ 179 28 37) (qQ 179 28 48)) .nil (qQ 179 18 27) (qQ 179 18 49))
noncomputable def c_law_item_1:Es:=.nil
noncomputable def t_law_item_1:Tg:=(.one 0 (qQ 179 54 60))
noncomputable def s_law_item_1:Scope:={ kind:=PySem.ScopeKind.function,names:=[ (PySem.Str.ofString ".0",PySem.NameKind.local),(PySem.Str.ofString "_law_j",PySem.NameKind.local),(PySem.Str.ofString "_law_name",PySem.NameKind.globalImplicit),(PySem.Str.ofString "_law_next",PySem.NameKind.globalImplicit),(PySem.Str.ofString "_law_feed",PySem.NameKind.free)],isGenerator:=false,isCoroutine:=false,more:=[]:PySem.Scope }
noncomputable def e_law_item_3:E:=(.call 20 (.call 19 (.var 1 (qQ 177 42 51)) .nil (qQ 177 32 41) (qQ 177 32 52)) .nil (qQ 177 22 31) (qQ 177 22 53))
noncomputable def c_law_item_3:Es:=.nil
noncomputable def t_law_item_3:Tg:=(.one 0 (qQ 177 58 64))
noncomputable def s_law_item_3:Scope:={ kind:=PySem.ScopeKind.function,names:=[ (PySem.Str.ofString ".0",PySem.NameKind.local),(PySem.Str.ofString "_law_j",PySem.NameKind.local),(PySem.Str.ofString "_law_name",PySem.NameKind.globalImplicit),(PySem.Str.ofString "_law_next",PySem.NameKind.globalImplicit),(PySem.Str.ofString "_law_feed",PySem.NameKind.free)],isGenerator:=false,isCoroutine:=false,more:=[]:PySem.Scope }
noncomputable def t_law_item_2:Tg:=(.one 6 (qQ 176 8 14))
noncomputable def b_law_item_2:Ss:=(.cons (.set 7 (.ofL (.comp e_law_item_3 t_law_item_3 (.rng (.int 3 (qQ 177 74 75)) (qQ 177 68 73) (qQ 177 68 76)) c_law_item_3 ["_law_j","_law_feed"] [none,some 0] s_law_item_3 (qQ 177 21 77))) (qQ 177 8 18) (qQ 177 8 77)) (.cons (.ex (.m1 .append (.var 5 (qQ 178 8 20)) (.tupE (.bin .Add (.var 7 (qQ 178 34 44)) (.ofL (.disp (.cons (.call 21 (.var 0 (qQ 178 58 67)) (.cons (.int 4 (qQ 178 69 70)) .nil) (qQ 178 48 57) (qQ 178 48 71)) .nil) (qQ 178 47 72))) (qQ 178 34 72)) (qQ 178 28 33) (qQ 178 28 73)) (qQ 178 8 27) (qQ 178 8 74)) (qQ 178 8 74)) .nil))
noncomputable def e_law_item_4:E:=(.call 20 (.call 19 (.var 1 (qQ 173 49 58)) .nil (qQ 173 39 48) (qQ 173 39 59)) .nil (qQ 173 29 38) (qQ 173 29 60))
noncomputable def c_law_item_4:Es:=.nil
noncomputable def t_law_item_4:Tg:=(.one 0 (qQ 173 65 71))
noncomputable def s_law_item_4:Scope:={ kind:=PySem.ScopeKind.function,names:=[ (PySem.Str.ofString ".0",PySem.NameKind.local),(PySem.Str.ofString "_law_k",PySem.NameKind.local),(PySem.Str.ofString "_law_name",PySem.NameKind.globalImplicit),(PySem.Str.ofString "_law_next",PySem.NameKind.globalImplicit),(PySem.Str.ofString "_law_feed",PySem.NameKind.free)],isGenerator:=false,isCoroutine:=false,more:=[]:PySem.Scope }
noncomputable def d_law_item:Df:=⟨"_law_item",["_law_feed"],["_law_feed","_law_cell_here","_law_name_here","_law_block","_law_params","_law_clauses","_law_k","_law_given"],(.cons (.set 1 (.call 19 (.var 0 (qQ 167 31 40)) .nil (qQ 167 21 30) (qQ 167 21 41)) (qQ 167 4 18) (qQ 167 4 41)) (.cons (.set 2 (.call 20 (.bin .FloorDiv (.var 1 (qQ 168 31 45)) (.int 24 (qQ 168 49 51)) (qQ 168 31 51)) .nil (qQ 168 21 30) (qQ 168 21 52)) (qQ 168 4 18) (qQ 168 4 52)) (.cons (.iff (.cmp .Eq (.bin .Mod (.var 1 (qQ 169 7 21)) (.int 2 (qQ 169 24 25)) (qQ 169 7 25)) (.int 0 (qQ 169 29 30)) (qQ 169 7 30)) (.cons (.set 3 (.non (qQ 170 21 25)) (qQ 170 8 18) (qQ 170 8 25)) (.cons (.iff (.cmp .Eq (.bin .Mod (.bin .FloorDiv (.var 1 (qQ 171 11 25)) (.int 2 (qQ 171 29 30)) (qQ 171 11 30)) (.int 2 (qQ 171 33 34)) (qQ 171 11 34)) (.int 1 (qQ 171 38 39)) (qQ 171 11 39)) (.cons (.set 3 (.call 20 (.call 19 (.var 0 (qQ 172 45 54)) .nil (qQ 172 35 44) (qQ 172 35 55)) .nil (qQ 172 25 34) (qQ 172 25 56)) (qQ 172 12 22) (qQ 172 12 56)) .nil) .nil ⟨171,8,172,56⟩) (.cons (.set 4 (.tupL (.comp e_law_item_4 t_law_item_4 (.rng (.bin .Mod (.bin .FloorDiv (.var 1 (qQ 173 81 95)) (.int 4 (qQ 173 99 100)) (qQ 173 81 100)) (.int 4 (qQ 173 103 104)) (qQ 173 81 104)) (qQ 173 75 80) (qQ 173 75 105)) c_law_item_4 ["_law_k","_law_feed"] [none,some 0] s_law_item_4 (qQ 173 28 106)) (qQ 173 22 27) (qQ 173 22 107)) (qQ 173 8 19) (qQ 173 8 107)) (.cons (.ret (.tup (.cons (.str "def" (qQ 174 16 21)) (.cons (.var 2 (qQ 174 23 37)) (.cons (.var 4 (qQ 174 39 50)) (.cons (.var 3 (qQ 174 52 62)) (.cons (.call 21 (.var 0 (qQ 174 74 83)) (.cons (.int 5 (qQ 174 85 86)) .nil) (qQ 174 64 73) (qQ 174 64 87)) .nil))))) (qQ 174 15 88)) (qQ 174 8 88)) .nil)))) .nil ⟨169,4,174,88⟩) (.cons (.set 5 (.ofL (.disp .nil (qQ 175 19 21))) (qQ 175 4 16) (qQ 175 4 21)) (.cons (.forr t_law_item_2 (.rng (.bin .Mod (.bin .FloorDiv (.var 1 (qQ 176 24 38)) (.int 2 (qQ 176 42 43)) (qQ 176 24 43)) (.int 3 (qQ 176 46 47)) (qQ 176 24 47)) (qQ 176 18 23) (qQ 176 18 48)) b_law_item_2 ⟨176,4,178,74⟩) (.cons (.set 7 (.ofL (.comp e_law_item_1 t_law_item_1 (.rng (.int 2 (qQ 179 70 71)) (qQ 179 64 69) (qQ 179 64 72)) c_law_item_1 ["_law_j","_law_feed"] [none,some 0] s_law_item_1 (qQ 179 17 73))) (qQ 179 4 14) (qQ 179 4 73)) (.cons (.ret (.tup (.cons (.str "handler" (qQ 180 12 21)) (.cons (.var 2 (qQ 180 23 37)) (.cons (.tupE (.var 5 (qQ 180 45 57)) (qQ 180 39 44) (qQ 180 39 58)) (.cons (.tupE (.bin .Add (.var 7 (qQ 180 66 76)) (.ofL (.disp (.cons (.call 21 (.var 0 (qQ 180 90 99)) (.cons (.int 4 (qQ 180 101 102)) .nil) (qQ 180 80 89) (qQ 180 80 103)) .nil) (qQ 180 79 104))) (qQ 180 66 104)) (qQ 180 60 65) (qQ 180 60 105)) .nil)))) (qQ 180 11 106)) (qQ 180 4 106)) .nil)))))))⟩
noncomputable def t_law_nest_1:Tg:=(.one 3 (qQ 183 8 14))
noncomputable def b_law_nest_1:Ss:=(.cons (.set 4 (.call 20 (.bin .FloorDiv (.var 0 (qQ 184 35 49)) (.bin .Add (.var 3 (qQ 184 54 60)) (.int 2 (qQ 184 63 64)) (qQ 184 54 64)) (qQ 184 35 65)) .nil (qQ 184 25 34) (qQ 184 25 66)) (qQ 184 8 22) (qQ 184 8 66)) (.cons (.set 5 (.bin .Mod (.bin .FloorDiv (.var 0 (qQ 185 20 34)) (.bin .Add (.bin .Mult (.int 3 (qQ 185 39 40)) (.var 3 (qQ 185 43 49)) (qQ 185 39 49)) (.int 1 (qQ 185 52 53)) (qQ 185 39 53)) (qQ 185 20 54)) (.int 4 (qQ 185 57 58)) (qQ 185 20 58)) (qQ 185 8 17) (qQ 185 8 58)) (.cons (.iff (.cmp .Eq (.var 5 (qQ 186 11 20)) (.int 0 (qQ 186 24 25)) (qQ 186 11 25)) (.cons (.set 2 (.tup (.cons (.str "guard" (qQ 187 25 32)) (.cons (.tup (.cons (.str "num" (qQ 187 35 40)) (.cons (.var 3 (qQ 187 42 48)) .nil)) (qQ 187 34 49)) (.cons (.var 2 (qQ 187 51 60)) .nil))) (qQ 187 24 61)) (qQ 187 12 21) (qQ 187 12 61)) .nil) .nil ⟨186,8,187,61⟩) (.cons (.iff (.cmp .Eq (.var 5 (qQ 188 11 20)) (.int 1 (qQ 188 24 25)) (qQ 188 11 25)) (.cons (.set 2 (.tup (.cons (.str "do" (qQ 189 25 29)) (.cons (.var 4 (qQ 189 31 45)) (.cons (.var 2 (qQ 189 47 56)) .nil))) (qQ 189 24 57)) (qQ 189 12 21) (qQ 189 12 57)) .nil) .nil ⟨188,8,189,57⟩) (.cons (.iff (.cmp .Eq (.var 5 (qQ 190 11 20)) (.int 2 (qQ 190 24 25)) (qQ 190 11 25)) (.cons (.set 2 (.tup (.cons (.str "call" (qQ 191 25 31)) (.cons (.var 4 (qQ 191 33 47)) (.cons (.non (qQ 191 49 53)) (.cons (.tup (.cons (.tup (.cons (.str "var" (qQ 191 57 62)) (.cons (.var 4 (qQ 191 64 78)) .nil)) (qQ 191 56 79)) (.cons (.var 2 (qQ 191 81 90)) .nil)) (qQ 191 55 91)) .nil)))) (qQ 191 24 92)) (qQ 191 12 21) (qQ 191 12 92)) .nil) .nil ⟨190,8,191,92⟩) (.cons (.iff (.cmp .Eq (.var 5 (qQ 192 11 20)) (.int 3 (qQ 192 24 25)) (qQ 192 11 25)) (.cons (.set 2 (.tup (.cons (.str "if" (qQ 193 25 29)) (.cons (.var 2 (qQ 193 31 40)) (.cons (.tup (.cons (.str "num" (qQ 193 43 48)) (.cons (.int 7 (qQ 193 50 51)) .nil)) (qQ 193 42 52)) (.cons (.tup (.cons (.str "num" (qQ 193 55 60)) (.cons (.var 3 (qQ 193 62 68)) .nil)) (qQ 193 54 69)) .nil)))) (qQ 193 24 70)) (qQ 193 12 21) (qQ 193 12 70)) .nil) .nil ⟨192,8,193,70⟩) .nil))))))
noncomputable def d_law_nest:Df:=⟨"_law_nest",["_law_cell_here","_law_deep"],["_law_cell_here","_law_deep","_law_tree","_law_k","_law_name_here","_law_pick"],(.cons (.set 2 (.tup (.cons (.str "num" (qQ 182 17 22)) (.cons (.bin .Mod (.var 0 (qQ 182 24 38)) (.bin .Pow (.int 10 (qQ 182 41 43)) (.int 18 (qQ 182 47 49)) (qQ 182 41 49)) (qQ 182 24 49)) .nil)) (qQ 182 16 50)) (qQ 182 4 13) (qQ 182 4 50)) (.cons (.forr t_law_nest_1 (.rng (.var 1 (qQ 183 24 33)) (qQ 183 18 23) (qQ 183 18 34)) b_law_nest_1 ⟨183,4,193,70⟩) (.cons (.ret (.var 2 (qQ 194 11 20)) (qQ 194 4 20)) .nil)))⟩
noncomputable def e_law_program_1:E:=(.call 22 (.var 1 (qQ 198 28 37)) .nil (qQ 198 18 27) (qQ 198 18 38))
noncomputable def c_law_program_1:Es:=.nil
noncomputable def t_law_program_1:Tg:=(.one 0 (qQ 198 43 49))
noncomputable def s_law_program_1:Scope:={ kind:=PySem.ScopeKind.function,names:=[ (PySem.Str.ofString ".0",PySem.NameKind.local),(PySem.Str.ofString "_law_k",PySem.NameKind.local),(PySem.Str.ofString "_law_item",PySem.NameKind.globalImplicit),(PySem.Str.ofString "_law_feed",PySem.NameKind.free)],isGenerator:=false,isCoroutine:=false,more:=[]:PySem.Scope }
noncomputable def e_law_program_2:E:=(.var 0 (qQ 197 17 25))
noncomputable def c_law_program_2:Es:=.nil
noncomputable def t_law_program_2:Tg:=(.one 0 (qQ 197 30 38))
noncomputable def s_law_program_2:Scope:={ kind:=PySem.ScopeKind.function,names:=[(PySem.Str.ofString ".0",PySem.NameKind.local),(PySem.Str.ofString "_law_one",PySem.NameKind.local)],isGenerator:=false,isCoroutine:=false,more:=[]:PySem.Scope }
noncomputable def d_law_program:Df:=⟨"_law_program",["_law_script"],["_law_script","_law_cell_here","_law_feed","_law_items","_law_nest_here"],(.cons (.set 1 (.call 18 (.var 0 (qQ 196 31 42)) (.cons (.int 0 (qQ 196 44 45)) .nil) (qQ 196 21 30) (qQ 196 21 46)) (qQ 196 4 18) (qQ 196 4 46)) (.cons (.set 2 (.ofL (.comp e_law_program_2 t_law_program_2 (.rev (.cut (.var 0 (qQ 197 51 62)) (.some (.int 2 (qQ 197 63 64))) (.some (.int 36 (qQ 197 65 67))) (qQ 197 63 67) (qQ 197 51 68)) (qQ 197 42 50) (qQ 197 42 69)) c_law_program_2 ["_law_one"] [none] s_law_program_2 (qQ 197 16 70))) (qQ 197 4 13) (qQ 197 4 70)) (.cons (.set 3 (.ofL (.comp e_law_program_1 t_law_program_1 (.rng (.bin .Mod (.var 1 (qQ 198 59 73)) (.int 4 (qQ 198 76 77)) (qQ 198 59 77)) (qQ 198 53 58) (qQ 198 53 78)) c_law_program_1 ["_law_k","_law_feed"] [none,some 2] s_law_program_1 (qQ 198 17 79))) (qQ 198 4 14) (qQ 198 4 79)) (.cons (.iff (.cmp .Eq (.bin .Mod (.bin .FloorDiv (.var 1 (qQ 199 7 21)) (.int 4 (qQ 199 25 26)) (qQ 199 7 26)) (.int 4 (qQ 199 29 30)) (qQ 199 7 30)) (.int 1 (qQ 199 34 35)) (qQ 199 7 35)) (.cons (.set 4 (.call 23 (.call 18 (.var 0 (qQ 200 45 56)) (.cons (.int 1 (qQ 200 58 59)) .nil) (qQ 200 35 44) (qQ 200 35 60)) (.cons (.bin .Mod (.bin .FloorDiv (.call 18 (.var 0 (qQ 200 72 83)) (.cons (.int 1 (qQ 200 85 86)) .nil) (qQ 200 62 71) (qQ 200 62 87)) (.int 7 (qQ 200 91 92)) (qQ 200 62 92)) (.int 24 (qQ 200 95 97)) (qQ 200 62 97)) .nil) (qQ 200 25 34) (qQ 200 25 98)) (qQ 200 8 22) (qQ 200 8 98)) (.cons (.ex (.m1 .append (.var 3 (qQ 201 8 18)) (.tup (.cons (.str "def" (qQ 201 27 32)) (.cons (.call 20 (.bin .FloorDiv (.var 1 (qQ 201 44 58)) (.int 16 (qQ 201 62 64)) (qQ 201 44 64)) .nil (qQ 201 34 43) (qQ 201 34 65)) (.cons (.tup .nil (qQ 201 67 69)) (.cons (.non (qQ 201 71 75)) (.cons (.var 4 (qQ 201 77 91)) .nil))))) (qQ 201 26 92)) (qQ 201 8 25) (qQ 201 8 93)) (qQ 201 8 93)) .nil)) .nil ⟨199,4,201,93⟩) (.cons (.ret (.tupE (.var 3 (qQ 202 17 27)) (qQ 202 11 16) (qQ 202 11 28)) (qQ 202 4 28)) .nil)))))⟩
noncomputable def e_law_words_1:E:=(.call 25 (.var 0 (qQ 218 51 65)) .nil (qQ 218 40 50) (qQ 218 40 66))
noncomputable def c_law_words_1:Es:=.nil
noncomputable def t_law_words_1:Tg:=(.one 0 (qQ 218 71 85))
noncomputable def s_law_words_1:Scope:={ kind:=PySem.ScopeKind.function,names:=[ (PySem.Str.ofString ".0",PySem.NameKind.local),(PySem.Str.ofString "_law_part_here",PySem.NameKind.local),(PySem.Str.ofString "_law_words",PySem.NameKind.globalImplicit)],isGenerator:=false,isCoroutine:=false,more:=[]:PySem.Scope }
noncomputable def e_law_words_2:E:=(.call 25 (.var 0 (qQ 217 69 83)) .nil (qQ 217 58 68) (qQ 217 58 84))
noncomputable def c_law_words_2:Es:=.nil
noncomputable def t_law_words_2:Tg:=(.one 0 (qQ 217 89 103))
noncomputable def s_law_words_2:Scope:={ kind:=PySem.ScopeKind.function,names:=[ (PySem.Str.ofString ".0",PySem.NameKind.local),(PySem.Str.ofString "_law_part_here",PySem.NameKind.local),(PySem.Str.ofString "_law_words",PySem.NameKind.globalImplicit)],isGenerator:=false,isCoroutine:=false,more:=[]:PySem.Scope }
noncomputable def e_law_words_3:E:=(.call 25 (.var 0 (qQ 213 54 68)) .nil (qQ 213 43 53) (qQ 213 43 69))
noncomputable def c_law_words_3:Es:=.nil
noncomputable def t_law_words_3:Tg:=(.one 0 (qQ 213 74 88))
noncomputable def s_law_words_3:Scope:={ kind:=PySem.ScopeKind.function,names:=[ (PySem.Str.ofString ".0",PySem.NameKind.local),(PySem.Str.ofString "_law_part_here",PySem.NameKind.local),(PySem.Str.ofString "_law_words",PySem.NameKind.globalImplicit)],isGenerator:=false,isCoroutine:=false,more:=[]:PySem.Scope }
noncomputable def d_law_words:Df:=⟨"_law_words",["_law_tree"],["_law_tree","_law_kind","_law_words_here"],(.cons (.set 1 (.sub (.var 0 (qQ 204 16 25)) (.int 0 (qQ 204 26 27)) (qQ 204 16 28)) (qQ 204 4 13) (qQ 204 4 28)) (.cons (.iff (.cmp .Eq (.var 1 (qQ 205 7 16)) (.str "num" (qQ 205 20 25)) (qQ 205 7 25)) (.cons (.ret (.ofL (.disp (.cons (.c1 .str (.sub (.var 0 (qQ 206 20 29)) (.int 1 (qQ 206 30 31)) (qQ 206 20 32)) (qQ 206 16 19) (qQ 206 16 33)) .nil) (qQ 206 15 34))) (qQ 206 8 34)) .nil) .nil ⟨205,4,206,34⟩) (.cons (.iff (.cmp .Eq (.var 1 (qQ 207 7 16)) (.str "var" (qQ 207 20 25)) (qQ 207 7 25)) (.cons (.ret (.ofL (.disp (.cons (.sub (.var 0 (qQ 208 16 25)) (.int 1 (qQ 208 26 27)) (qQ 208 16 28)) .nil) (qQ 208 15 29))) (qQ 208 8 29)) .nil) .nil ⟨207,4,208,29⟩) (.cons (.iff (.cmp .Eq (.var 1 (qQ 209 7 16)) (.str "call" (qQ 209 20 26)) (qQ 209 7 26)) (.cons (.set 2 (.ofL (.disp (.cons (.str "(" (qQ 210 27 30)) (.cons (.str "call" (qQ 210 32 38)) (.cons (.sub (.var 0 (qQ 210 40 49)) (.int 1 (qQ 210 50 51)) (qQ 210 40 52)) .nil))) (qQ 210 26 53))) (qQ 210 8 23) (qQ 210 8 53)) (.cons (.iff (.cmp .IsNot (.sub (.var 0 (qQ 211 11 20)) (.int 2 (qQ 211 21 22)) (qQ 211 11 23)) (.non (qQ 211 31 35)) (qQ 211 11 35)) (.cons (.set 2 (.ofL (.disp (.cons (.str "(" (qQ 212 31 34)) (.cons (.str "hand" (qQ 212 36 42)) (.cons (.sub (.var 0 (qQ 212 44 53)) (.int 1 (qQ 212 54 55)) (qQ 212 44 56)) (.cons (.sub (.var 0 (qQ 212 58 67)) (.int 2 (qQ 212 68 69)) (qQ 212 58 70)) .nil)))) (qQ 212 30 71))) (qQ 212 12 27) (qQ 212 12 71)) .nil) .nil ⟨211,8,212,71⟩) (.cons (.ret (.bin .Add (.bin .Add (.var 2 (qQ 213 15 30)) (.call 26 (.ofL (.comp e_law_words_3 t_law_words_3 (.seq (.sub (.var 0 (qQ 213 92 101)) (.int 3 (qQ 213 102 103)) (qQ 213 92 104))) c_law_words_3 ["_law_part_here"] [none] s_law_words_3 (qQ 213 42 105))) .nil (qQ 213 33 41) (qQ 213 33 106)) (qQ 213 15 106)) (.ofL (.disp (.cons (.str ")" (qQ 213 110 113)) .nil) (qQ 213 109 114))) (qQ 213 15 114)) (qQ 213 8 114)) .nil))) .nil ⟨209,4,213,114⟩) (.cons (.iff (.cmp .Eq (.var 1 (qQ 214 7 16)) (.str "op" (qQ 214 20 24)) (qQ 214 7 24)) (.cons (.ret (.bin .Add (.bin .Add (.bin .Add (.ofL (.disp (.cons (.str "(" (qQ 215 16 19)) (.cons (.sub (.var 0 (qQ 215 21 30)) (.int 1 (qQ 215 31 32)) (qQ 215 21 33)) .nil)) (qQ 215 15 34))) (.call 25 (.sub (.var 0 (qQ 215 48 57)) (.int 2 (qQ 215 58 59)) (qQ 215 48 60)) .nil (qQ 215 37 47) (qQ 215 37 61)) (qQ 215 15 61)) (.call 25 (.sub (.var 0 (qQ 215 75 84)) (.int 3 (qQ 215 85 86)) (qQ 215 75 87)) .nil (qQ 215 64 74) (qQ 215 64 88)) (qQ 215 15 88)) (.ofL (.disp (.cons (.str ")" (qQ 215 92 95)) .nil) (qQ 215 91 96))) (qQ 215 15 96)) (qQ 215 8 96)) .nil) .nil ⟨214,4,215,96⟩) (.cons (.iff (.cmp .In (.var 1 (qQ 216 7 16)) (.ofL (.disp (.cons (.str "let" (qQ 216 21 26)) (.cons (.str "handle" (qQ 216 28 36)) (.cons (.str "do" (qQ 216 38 42)) .nil))) (qQ 216 20 43))) (qQ 216 7 43)) (.cons (.ret (.bin .Add (.bin .Add (.ofL (.disp (.cons (.str "(" (qQ 217 16 19)) (.cons (.var 1 (qQ 217 21 30)) (.cons (.sub (.var 0 (qQ 217 32 41)) (.int 1 (qQ 217 42 43)) (qQ 217 32 44)) .nil))) (qQ 217 15 45))) (.call 26 (.ofL (.comp e_law_words_2 t_law_words_2 (.seq (.cut (.var 0 (qQ 217 107 116)) (.some (.int 2 (qQ 217 117 118))) .none (qQ 217 117 119) (qQ 217 107 120))) c_law_words_2 ["_law_part_here"] [none] s_law_words_2 (qQ 217 57 121))) .nil (qQ 217 48 56) (qQ 217 48 122)) (qQ 217 15 122)) (.ofL (.disp (.cons (.str ")" (qQ 217 126 129)) .nil) (qQ 217 125 130))) (qQ 217 15 130)) (qQ 217 8 130)) .nil) .nil ⟨216,4,217,130⟩) (.cons (.ret (.bin .Add (.bin .Add (.ofL (.disp (.cons (.str "(" (qQ 218 12 15)) (.cons (.var 1 (qQ 218 17 26)) .nil)) (qQ 218 11 27))) (.call 26 (.ofL (.comp e_law_words_1 t_law_words_1 (.seq (.cut (.var 0 (qQ 218 89 98)) (.some (.int 1 (qQ 218 99 100))) .none (qQ 218 99 101) (qQ 218 89 102))) c_law_words_1 ["_law_part_here"] [none] s_law_words_1 (qQ 218 39 103))) .nil (qQ 218 30 38) (qQ 218 30 104)) (qQ 218 11 104)) (.ofL (.disp (.cons (.str ")" (qQ 218 108 111)) .nil) (qQ 218 107 112))) (qQ 218 11 112)) (qQ 218 4 112)) .nil)))))))⟩
noncomputable def t_law_all_1:Tg:=(.one 2 (qQ 221 8 16))
noncomputable def b_law_all_1:Ss:=(.cons (.set 1 (.bin .Add (.var 1 (qQ 222 26 41)) (.var 2 (qQ 222 44 52)) (qQ 222 26 52)) (qQ 222 8 23) (qQ 222 8 52)) .nil)
noncomputable def d_law_all:Df:=⟨"_law_all",["_law_some"],["_law_some","_law_words_here","_law_row"],(.cons (.set 1 (.ofL (.disp .nil (qQ 220 22 24))) (qQ 220 4 19) (qQ 220 4 24)) (.cons (.forr t_law_all_1 (.seq (.var 0 (qQ 221 20 29))) b_law_all_1 ⟨221,4,222,52⟩) (.cons (.ret (.var 1 (qQ 223 11 26)) (qQ 223 4 26)) .nil)))⟩
noncomputable def t_law_item_words_1:Tg:=(.one 2 (qQ 231 8 19))
noncomputable def b_law_item_words_1:Ss:=(.cons (.set 1 (.bin .Add (.bin .Add (.bin .Add (.bin .Add (.var 1 (qQ 232 26 41)) (.ofL (.disp (.cons (.str "(" (qQ 232 45 48)) (.cons (.str "on" (qQ 232 50 54)) .nil)) (qQ 232 44 55))) (qQ 232 26 55)) (.listE (.cut (.var 2 (qQ 232 63 74)) .none (.some (.int 3 (qQ 232 76 77))) (qQ 232 75 77) (qQ 232 63 78)) (qQ 232 58 62) (qQ 232 58 79)) (qQ 232 26 79)) (.call 25 (.sub (.var 2 (qQ 232 93 104)) (.int 3 (qQ 232 105 106)) (qQ 232 93 107)) .nil (qQ 232 82 92) (qQ 232 82 108)) (qQ 232 26 108)) (.ofL (.disp (.cons (.str ")" (qQ 232 112 115)) .nil) (qQ 232 111 116))) (qQ 232 26 116)) (qQ 232 8 23) (qQ 232 8 116)) .nil)
noncomputable def d_law_item_words:Df:=⟨"_law_item_words",["_law_item_here"],["_law_item_here","_law_words_here","_law_clause"],(.cons (.set 1 (.ofL (.disp (.cons (.str "(" (qQ 225 23 26)) (.cons (.sub (.var 0 (qQ 225 28 42)) (.int 0 (qQ 225 43 44)) (qQ 225 28 45)) (.cons (.sub (.var 0 (qQ 225 47 61)) (.int 1 (qQ 225 62 63)) (qQ 225 47 64)) .nil))) (qQ 225 22 65))) (qQ 225 4 19) (qQ 225 4 65)) (.cons (.iff (.cmp .Eq (.sub (.var 0 (qQ 226 7 21)) (.int 0 (qQ 226 22 23)) (qQ 226 7 24)) (.str "def" (qQ 226 28 33)) (qQ 226 7 33)) (.cons (.set 1 (.bin .Add (.bin .Add (.bin .Add (.var 1 (qQ 227 26 41)) (.ofL (.disp (.cons (.str "(" (qQ 227 45 48)) .nil) (qQ 227 44 49))) (qQ 227 26 49)) (.listE (.sub (.var 0 (qQ 227 57 71)) (.int 2 (qQ 227 72 73)) (qQ 227 57 74)) (qQ 227 52 56) (qQ 227 52 75)) (qQ 227 26 75)) (.ofL (.disp (.cons (.str ")" (qQ 227 79 82)) .nil) (qQ 227 78 83))) (qQ 227 26 83)) (qQ 227 8 23) (qQ 227 8 83)) (.cons (.iff (.cmp .IsNot (.sub (.var 0 (qQ 228 11 25)) (.int 3 (qQ 228 26 27)) (qQ 228 11 28)) (.non (qQ 228 36 40)) (qQ 228 11 40)) (.cons (.ex (.m1 .append (.var 1 (qQ 229 12 27)) (.sub (.var 0 (qQ 229 35 49)) (.int 3 (qQ 229 50 51)) (qQ 229 35 52)) (qQ 229 12 34) (qQ 229 12 53)) (qQ 229 12 53)) .nil) .nil ⟨228,8,229,53⟩) (.cons (.ret (.bin .Add (.bin .Add (.var 1 (qQ 230 15 30)) (.call 25 (.sub (.var 0 (qQ 230 44 58)) (.int 4 (qQ 230 59 60)) (qQ 230 44 61)) .nil (qQ 230 33 43) (qQ 230 33 62)) (qQ 230 15 62)) (.ofL (.disp (.cons (.str ")" (qQ 230 66 69)) .nil) (qQ 230 65 70))) (qQ 230 15 70)) (qQ 230 8 70)) .nil))) .nil ⟨226,4,230,70⟩) (.cons (.forr t_law_item_words_1 (.seq (.sub (.var 0 (qQ 231 23 37)) (.int 2 (qQ 231 38 39)) (qQ 231 23 40))) b_law_item_words_1 ⟨231,4,232,116⟩) (.cons (.ret (.bin .Add (.bin .Add (.bin .Add (.bin .Add (.var 1 (qQ 233 11 26)) (.ofL (.disp (.cons (.str "(" (qQ 233 30 33)) (.cons (.str "end" (qQ 233 35 40)) .nil)) (qQ 233 29 41))) (qQ 233 11 41)) (.listE (.cut (.sub (.var 0 (qQ 233 49 63)) (.int 3 (qQ 233 64 65)) (qQ 233 49 66)) .none (.some (.int 2 (qQ 233 68 69))) (qQ 233 67 69) (qQ 233 49 70)) (qQ 233 44 48) (qQ 233 44 71)) (qQ 233 11 71)) (.call 25 (.sub (.sub (.var 0 (qQ 233 85 99)) (.int 3 (qQ 233 100 101)) (qQ 233 85 102)) (.int 2 (qQ 233 103 104)) (qQ 233 85 105)) .nil (qQ 233 74 84) (qQ 233 74 106)) (qQ 233 11 106)) (.ofL (.disp (.cons (.str ")" (qQ 233 110 113)) (.cons (.str ")" (qQ 233 115 118)) .nil)) (qQ 233 109 119))) (qQ 233 11 119)) (qQ 233 4 119)) .nil))))⟩
noncomputable def t_law_spaced_1:Tg:=(.one 3 (qQ 236 8 14))
noncomputable def b_law_spaced_1:Ss:=(.cons (.set 4 (.sub (.ofL (.disp (.cons (.str "" (qQ 237 22 24)) (.cons (.str " " (qQ 237 26 29)) (.cons (.str "\n" (qQ 237 31 35)) (.cons (.str "   " (qQ 237 37 42)) (.cons (.str " \n " (qQ 237 44 50)) .nil))))) (qQ 237 21 51))) (.bin .Mod (.bin .FloorDiv (.call 18 (.var 0 (qQ 237 62 73)) (.cons (.bin .Add (.int 2 (qQ 237 75 76)) (.bin .Mod (.var 3 (qQ 237 79 85)) (.int 60 (qQ 237 88 90)) (qQ 237 79 90)) (qQ 237 75 90)) .nil) (qQ 237 52 61) (qQ 237 52 91)) (.bin .Add (.int 1 (qQ 237 96 97)) (.bin .Mod (.var 3 (qQ 237 100 106)) (.int 7 (qQ 237 109 110)) (qQ 237 100 110)) (qQ 237 96 110)) (qQ 237 52 111)) (.int 5 (qQ 237 114 115)) (qQ 237 52 115)) (qQ 237 21 116)) (qQ 237 8 18) (qQ 237 8 116)) (.cons (.iff (.and (.cmp .Eq (.var 4 (qQ 238 11 21)) (.str "" (qQ 238 25 27)) (qQ 238 11 27)) (.cmp .Lt (.bin .Add (.var 3 (qQ 238 32 38)) (.int 1 (qQ 238 41 42)) (qQ 238 32 42)) (.len (.var 1 (qQ 238 49 64)) (qQ 238 45 48) (qQ 238 45 65)) (qQ 238 32 65)) (.cons (.cmp .NotIn (.sub (.var 1 (qQ 238 71 86)) (.var 3 (qQ 238 87 93)) (qQ 238 71 94)) (.ofL (.disp (.cons (.str "(" (qQ 238 103 106)) (.cons (.str ")" (qQ 238 108 111)) .nil)) (qQ 238 102 112))) (qQ 238 71 112)) (.cons (.cmp .NotIn (.sub (.var 1 (qQ 238 119 134)) (.bin .Add (.var 3 (qQ 238 135 141)) (.int 1 (qQ 238 144 145)) (qQ 238 135 145)) (qQ 238 119 146)) (.ofL (.disp (.cons (.str "(" (qQ 238 155 158)) (.cons (.str ")" (qQ 238 160 163)) .nil)) (qQ 238 154 164))) (qQ 238 119 164)) .nil)) (qQ 238 11 165)) (.cons (.set 4 (.str " " (qQ 239 25 28)) (qQ 239 12 22) (qQ 239 12 28)) .nil) .nil ⟨238,8,239,28⟩) (.cons (.set 2 (.bin .Add (.bin .Add (.var 2 (qQ 240 20 29)) (.sub (.var 1 (qQ 240 32 47)) (.var 3 (qQ 240 48 54)) (qQ 240 32 55)) (qQ 240 20 55)) (.var 4 (qQ 240 58 68)) (qQ 240 20 68)) (qQ 240 8 17) (qQ 240 8 68)) .nil)))
noncomputable def d_law_spaced:Df:=⟨"_law_spaced",["_law_script","_law_words_here"],["_law_script","_law_words_here","_law_text","_law_k","_law_space"],(.cons (.set 2 (.sub (.ofL (.disp (.cons (.str "" (qQ 235 17 19)) (.cons (.str " " (qQ 235 21 24)) (.cons (.str "\n" (qQ 235 26 30)) .nil))) (qQ 235 16 31))) (.bin .Mod (.call 18 (.var 0 (qQ 235 42 53)) (.cons (.int 1 (qQ 235 55 56)) .nil) (qQ 235 32 41) (qQ 235 32 57)) (.int 3 (qQ 235 60 61)) (qQ 235 32 61)) (qQ 235 16 62)) (qQ 235 4 13) (qQ 235 4 62)) (.cons (.forr t_law_spaced_1 (.rng (.len (.var 1 (qQ 236 28 43)) (qQ 236 24 27) (qQ 236 24 44)) (qQ 236 18 23) (qQ 236 18 45)) b_law_spaced_1 ⟨236,4,240,68⟩) (.cons (.ret (.var 2 (qQ 241 11 20)) (qQ 241 4 20)) .nil)))⟩
noncomputable def e_law_alike_1:E:=(.call 29 (.var 0 (qQ 246 31 37)) (.cons (.var 1 (qQ 246 39 45)) .nil) (qQ 246 20 30) (qQ 246 20 46))
noncomputable def c_law_alike_1:Es:=.nil
noncomputable def t_law_alike_1:Tg:=(.tup [(0,(qQ 246 51 57)),(1,(qQ 246 59 65))] (qQ 246 51 65))
noncomputable def s_law_alike_1:Scope:={ kind:=PySem.ScopeKind.function,names:=[ (PySem.Str.ofString ".0",PySem.NameKind.local),(PySem.Str.ofString "_law_a",PySem.NameKind.local),(PySem.Str.ofString "_law_b",PySem.NameKind.local),(PySem.Str.ofString "_law_alike",PySem.NameKind.globalImplicit)],isGenerator:=false,isCoroutine:=false,more:=[]:PySem.Scope }
noncomputable def d_law_alike:Df:=⟨"_law_alike",["_law_found","_law_due"],["_law_found","_law_due"],(.cons (.iff (.isi 3 (.var 1 (qQ 243 18 26)) (qQ 243 7 17) (qQ 243 28 33) (qQ 243 7 34)) (.cons (.iff (.or (.un .Not (.isi 3 (.var 0 (qQ 244 26 36)) (qQ 244 15 25) (qQ 244 38 43) (qQ 244 15 44)) (qQ 244 11 44)) (.cmp .NotEq (.len (.var 0 (qQ 244 52 62)) (qQ 244 48 51) (qQ 244 48 63)) (.len (.var 1 (qQ 244 71 79)) (qQ 244 67 70) (qQ 244 67 80)) (qQ 244 48 80)) .nil (qQ 244 11 80)) (.cons (.ret (.bl false (qQ 245 19 24)) (qQ 245 12 24)) .nil) .nil ⟨244,8,245,24⟩) (.cons (.ret (.c1 .all (.ofL (.comp e_law_alike_1 t_law_alike_1 (.zip (.var 0 (qQ 246 73 83)) (.var 1 (qQ 246 85 93)) (qQ 246 69 72) (qQ 246 69 94)) c_law_alike_1 ["_law_a","_law_b"] [none,none] s_law_alike_1 (qQ 246 19 95))) (qQ 246 15 18) (qQ 246 15 96)) (qQ 246 8 96)) .nil)) .nil ⟨243,4,246,96⟩) (.cons (.iff (.isi 2 (.var 1 (qQ 247 18 26)) (qQ 247 7 17) (qQ 247 28 31) (qQ 247 7 32)) (.cons (.ret (.and (.isi 2 (.var 0 (qQ 248 26 36)) (qQ 248 15 25) (qQ 248 38 41) (qQ 248 15 42)) (.cmp .Eq (.var 0 (qQ 248 47 57)) (.var 1 (qQ 248 61 69)) (qQ 248 47 69)) .nil (qQ 248 15 69)) (qQ 248 8 69)) .nil) .nil ⟨247,4,248,69⟩) (.cons (.iff (.cmp .Is (.var 1 (qQ 249 7 15)) (.non (qQ 249 19 23)) (qQ 249 7 23)) (.cons (.ret (.cmp .Is (.var 0 (qQ 250 15 25)) (.non (qQ 250 29 33)) (qQ 250 15 33)) (qQ 250 8 33)) .nil) .nil ⟨249,4,250,33⟩) (.cons (.ret (.and (.isi 0 (.var 0 (qQ 251 22 32)) (qQ 251 11 21) (qQ 251 34 37) (qQ 251 11 38)) (.un .Not (.isi 1 (.var 0 (qQ 251 59 69)) (qQ 251 48 58) (qQ 251 71 75) (qQ 251 48 76)) (qQ 251 44 76)) (.cons (.cmp .Eq (.var 0 (qQ 251 83 93)) (.var 1 (qQ 251 97 105)) (qQ 251 83 105)) .nil) (qQ 251 11 106)) (qQ 251 4 106)) .nil))))⟩
noncomputable def e_law_1:E:=(.call 27 (.var 0 (qQ 254 67 81)) .nil (qQ 254 51 66) (qQ 254 51 82))
noncomputable def c_law_1:Es:=.nil
noncomputable def t_law_1:Tg:=(.one 0 (qQ 254 87 101))
noncomputable def s_law_1:Scope:={ kind:=PySem.ScopeKind.function,names:=[ (PySem.Str.ofString ".0",PySem.NameKind.local),(PySem.Str.ofString "_law_item_here",PySem.NameKind.local),(PySem.Str.ofString "_law_item_words",PySem.NameKind.globalImplicit)],isGenerator:=false,isCoroutine:=false,more:=[]:PySem.Scope }
noncomputable def d_law:Df:=⟨"law",["_law_script"],["_law_script","_law_program_here","_law_text"],(.cons (.set 1 (.call 24 (.var 0 (qQ 253 37 48)) .nil (qQ 253 24 36) (qQ 253 24 49)) (qQ 253 4 21) (qQ 253 4 49)) (.cons (.set 2 (.call 28 (.var 0 (qQ 254 28 39)) (.cons (.call 26 (.ofL (.comp e_law_1 t_law_1 (.seq (.var 1 (qQ 254 105 122))) c_law_1 ["_law_item_here"] [none] s_law_1 (qQ 254 50 123))) .nil (qQ 254 41 49) (qQ 254 41 124)) .nil) (qQ 254 16 27) (qQ 254 16 125)) (qQ 254 4 13) (qQ 254 4 125)) (.cons (.ret (.call 29 (.call 2 (.var 2 (qQ 255 27 36)) .nil (qQ 255 22 26) (qQ 255 22 37)) (.cons (.var 1 (qQ 255 39 56)) .nil) (qQ 255 11 21) (qQ 255 11 57)) (qQ 255 4 57)) .nil)))⟩
noncomputable def defs:List Df:=[d_is_name,d_is_number,d_read,d_words_of,d_nested,d_item_of,d_function_of,d_handler_of,d_headed,d_formed,d_read_as,d_expression_of,d_call_of,d_hand_of,d_expressions_of,d_head_of,d_names_of,d_name_of,d_law_cell,d_law_next,d_law_name,d_law_part,d_law_item,d_law_nest,d_law_program,d_law_words,d_law_all,d_law_item_words,d_law_spaced,d_law_alike,d_law]
end K13
set_option Elab.async false
set_option linter.all false
set_option maxRecDepth 100000
set_option maxHeartbeats 4000000
namespace K13
set_option genInjectivity false
open PySem L2 PI
section
variable {cl:Nat->List D->Hh->Res D}
theorem t_not {e:E} {ρ:En} {h h':Hh} {p:Pos} {b:Bool} (q:e.evT cl ρ h=.ok b h'):E.evT cl (.un .Not e p) ρ h=.ok (!b) h':=bnd (x:=.bl (!b)) (bnd (evT_bl q) rfl) rfl
theorem ite_t {c a b:E} {p:Pos} {ρ:En} {h h':Hh} {o:Res D} (hc:c.evT cl ρ h=.ok true h') (k:a.ev cl ρ h'=o):E.ev cl (.ite c a b p) ρ h=o:=bnd (evT_bl hc) k
theorem ite_f {c a b:E} {p:Pos} {ρ:En} {h h':Hh} {o:Res D} (hc:c.evT cl ρ h=.ok false h') (k:b.ev cl ρ h'=o):E.ev cl (.ite c a b p) ρ h=o:=bnd (evT_bl hc) k
theorem es_c {e:E} {r:Es} {ρ:En} {h h' h2:Hh} {x:D} {xs:List D} (a:e.ev cl ρ h=.ok x h') (b:r.ev cl ρ h'=.ok xs h2):(Es.cons e r).ev cl ρ h=.ok (x :: xs) h2:=bnd a (bnd b rfl)
theorem tup_s {es:Es} {p:Pos} {ρ:En} {h h':Hh} {xs:List D} (a:es.ev cl ρ h=.ok xs h') (l:xs.length<=1000):E.ev cl (.tup es p) ρ h=.ok (.tup xs) h':=bnd a (if_pos l)
theorem call_1 {i:Nat} {a:E} {p p1:Pos} {ρ:En} {h h':Hh} {x:D} {o:Res D} (e:a.ev cl ρ h=.ok x h') (k:cl i [x] h'=o):E.ev cl (.call i a .nil p p1) ρ h=o:=bnd e k
theorem call_2 {i:Nat} {a b:E} {p p1:Pos} {ρ:En} {h h' h2:Hh} {x y:D} {o:Res D} (e:a.ev cl ρ h=.ok x h') (g:b.ev cl ρ h'=.ok y h2) (k:cl i [x,y] h2=o):E.ev cl (.call i a (.cons b .nil) p p1) ρ h=o:=bnd e (bnd (es_c g rfl) k)
theorem call_3 {i:Nat} {a b c:E} {p p1:Pos} {ρ:En} {h h' h2 h3:Hh} {x y z:D} {o:Res D} (e:a.ev cl ρ h=.ok x h') (g:b.ev cl ρ h'=.ok y h2) (g2:c.ev cl ρ h2=.ok z h3) (k:cl i [x,y,z] h3=o):E.ev cl (.call i a (.cons b (.cons c .nil)) p p1) ρ h=o:=bnd e (bnd (es_c g (es_c g2 rfl)) k)
theorem sub_l {n k:Nat} {xs:List D} {d:D} {h:Hh} (g:h[n]?=some (.lst xs)) (e:xs[k]?=some d):subD (.loc n) (.int (k:Nat)) h=.ok d h:=by
  unfold subD
  dsimp only
  rw [g]
  dsimp only
  rw [PI.atI_nat,e]
theorem len_l {n:Nat} {xs:List D} {h:Hh} (g:h[n]?=some (.lst xs)):lenD (.loc n) h=.ok (.int (xs.length:Nat)) h:=by
  unfold lenD; dsimp only; rw [rd_of g]
theorem fd_ev {i:Nat} {ρ:En} {h:Hh} {v k:Int} {p p1 p2:Pos} (q:ρ[i]?=some (some (.int v))) (hk:0 < k /\ k < 1073741824):E.ev cl (.bin .FloorDiv (.var i p) (.int k p1) p2) ρ h=.ok (.int (v / k)) h:=bnd (x:=.int v) (by rw [vvar,q]) (bnd rfl (fdk hk))
theorem md_ev {i:Nat} {ρ:En} {h:Hh} {v k m:Int} {p p1 p2 p3 p4:Pos} (q:ρ[i]?=some (some (.int v))) (hk:0 < k /\ k < 1073741824) (hm:0 < m):E.ev cl (.bin .Mod (.bin .FloorDiv (.var i p) (.int k p1) p2) (.int m p3) p4) ρ h=.ok (.int (v / k % m)) h:=bnd (fd_ev q hk) (bnd rfl (mdk hm))
theorem t_ei {e:E} {ρ:En} {h h':Hh} {x k:Int} {b:Bool} {p p1:Pos} (q:e.ev cl ρ h=.ok (.int x) h') (hb:(x == k)=b):E.evT cl (.cmp .Eq e (.int k p) p1) ρ h=.ok b h':=t_cmp q rfl (by rw [eqI,hb])
theorem beq_t {x k:Int} (h:x=k):(x == k)=true:=by rw [h]; exact beq_self_eq_true k
theorem beq_f {x k:Int} (h:x ≠ k):(x == k)=false:=beq_false_of_ne h
theorem tupL_s {l:L} {p p1:Pos} {ρ:En} {h h':Hh} {xs:List D} (a:l.ev cl ρ h=.ok xs h'):E.ev cl (.tupL l p p1) ρ h=.ok (.tup xs) h':=bnd a rfl
theorem comp_s {elt:E} {tg:Tg} {it:I} {ct:Es} {ns:List Str} {cap:List (Option Nat)} {sc:Scope} {p:Pos} {ρ:En} {h h' h2:Hh} {q:Ck × List D} {xs:List D} (hi:it.ev cl ρ h=.ok q h') (hl:q.2.length<=1000000) (hc:compL q.1 (compF tg (capE cap ρ) (fun ρ' h2=>ct.evC cl ρ' h2) (fun ρ' h2=>elt.ev cl ρ' h2)) q.2 [] h'=.ok xs h2):L.ev cl (.comp elt tg it ct ns cap sc p) ρ h=.ok xs h2:=bnd hi ((if_pos hl).trans hc)
theorem addL_s {a b:E} {ρ:En} {h h1 h2:Hh} {n m:Nat} {xs ys:List D} {p:Pos} (ea:a.ev cl ρ h=.ok (.loc n) h1) (eb:b.ev cl ρ h1=.ok (.loc m) h2) (gn:h2[n]?=some (.lst xs)) (gm:h2[m]?=some (.lst ys)) (hl:xs.length + ys.length<=1000000):E.ev cl (.bin .Add a b p) ρ h=.ok (.loc h2.length) (h2 ++ [.lst (xs ++ ys)]):=by
  refine bnd ea (bnd eb ?_)
  show addD (.loc n) (.loc m) h2=_
  unfold addD
  dsimp only
  rw [gn,gm]
  exact if_pos hl
theorem app_e {i n:Nat} {e:E} {ρ:En} {h h':Hh} {d:D} {ds0 ds:List D} {p p1 p2:Pos} (ei:ρ[i]?=some (some (.loc n))) (g:h[n]?=some (.lst ds0)) (ee:e.ev cl ρ h=.ok d h') (g':h'[n]?=some (.lst ds)) (hl:ds.length < 1000000):E.ev cl (.m1 .append (.var i p) e p1 p2) ρ h=.ok .non (h'.set n (.lst (ds ++ [d]))):=by
  rw [vm1,vvar,ei]
  show onL (.loc n) h _=_
  rw [on_lst g,ee]
  show m1D .append (.loc n) d h'=_
  unfold m1D
  dsimp only
  rw [g']
  exact if_pos hl
theorem seq_tup {e:E} {ρ:En} {h h':Hh} {xs:List D} (he:e.ev cl ρ h=.ok (.tup xs) h'):I.ev cl (.seq e) ρ h=.ok ([],xs) h':=bnd he rfl
end
theorem d_num (n:Int):(G.nd (.num n) []).d=.tup [.str "num",.int n]:=by rw [G.d,G.ds]; rfl
theorem d_var (x:Str):(G.nd (.var x) []).d=.tup [.str "var",.str x]:=by rw [G.d,G.ds]; rfl
theorem d_2 (k:Kd) (a b:G):(G.nd k [a,b]).d=k.enc [a.d,b.d]:=by rw [G.d,G.ds,G.ds,G.ds]
theorem d_1 (k:Kd) (a:G):(G.nd k [a]).d=k.enc [a.d]:=by rw [G.d,G.ds,G.ds]
end K13
set_option Elab.async false
set_option linter.all false
set_option maxRecDepth 100000
set_option maxHeartbeats 4000000
namespace K13
set_option genInjectivity false
open PySem L2 PI
noncomputable def Kd.heads:Kd->List Str
  | .num _ | .var _=>[]
  | .op s=>[s]
  | .lett x=>["let",x]
  | .ite=>["if"]
  | .call f none=>["call",f]
  | .call f (some g)=>["hand",f,g]
  | .doo d=>["do",d]
  | .handle h=>["handle",h]
  | .go=>["go"]
  | .guard=>["guard"]
noncomputable def Kd.leaf:Kd->Option Str
  | .num n=>some (Str.ofString (toString n))
  | .var x=>some x
  | _=>none
noncomputable def brk (ts:List (List Nat)):List Nat:=40 :: (sepL [32] ts ++ [41])
noncomputable def Kd.tx (k:Kd) (ts:List (List Nat)):List Nat:=match Kd.leaf k with
  | some x=>cs x
  | none=>brk ((Kd.heads k).map cs ++ ts)
mutual
noncomputable def tx:G->List Nat
  | .nd k ps=>Kd.tx k (txs ps)
noncomputable def txs:List G->List (List Nat)
  | []=>[]
  | g :: r=>tx g :: txs r
end
mutual
noncomputable def ms:G->Nat
  | .nd _ ps=>10 + mss ps
noncomputable def mss:List G->Nat
  | []=>0
  | g :: r=>ms g + 2 + mss r
end
noncomputable def low (l:List Nat):Prop:=∀ c ∈ l,97<=c /\ c<=122
noncomputable def resW:List Str:=["def","handler","on","end","let","if","call","hand","do","handle","go","guard"]
structure Nm (x:Str):Prop where
  lo:low (cs x)
  ne:cs x ≠ []
  le:(cs x).length<=8
  nr:resW.any (fun y=>y == x)=false
theorem Nm.wd {x:Str} (h:Nm x):Wd x:=⟨h.ne,Nat.le_trans h.le (by decide),fun c hc=>by have:=h.lo c hc; omega⟩
noncomputable def Sg (s:Str):Prop:=s="+" \/ s="-" \/ s="*" \/ s="<"
noncomputable def Kd.wd (k:Kd) (n:Nat):Prop:=match k with
  | .num m=>0<=m /\ m < 1000000000000000000 /\ n=0
  | .var x=>Nm x /\ n=0
  | .op s=>Sg s
  | .lett x=>Nm x
  | .ite=>True
  | .call f g=>Nm f /\ ∀ x,g=some x->Nm x
  | .doo d=>Nm d
  | .handle h=>Nm h
  | .go=>True
  | .guard=>True
mutual
noncomputable def wdG:G->Prop
  | .nd k ps=>Kd.wd k ps.length /\ wdGs ps
noncomputable def wdGs:List G->Prop
  | []=>True
  | g :: r=>wdG g /\ wdGs r
end
theorem wdGs_mem:∀ {gs:List G},wdGs gs ↔ ∀ g ∈ gs,wdG g
  | []=>by simp [wdGs]
  | g :: r=>by simp [wdGs,wdGs_mem (gs:=r)]
end K13
set_option Elab.async false
set_option linter.all false
set_option maxRecDepth 100000
set_option maxHeartbeats 4000000
namespace K13
set_option genInjectivity false
open PySem L2 PI
noncomputable def hdD (ws:List Str) (g:G):D:=.tup (ws.map .str ++ [g.d])
inductive Itm where
  | fn (f:Str) (ps:List Str) (b:Option Str) (g:G)
  | hd (n:Str) (cl:List (List Str × G)) (e:List Str × G)
noncomputable def Itm.d:Itm->D
  | .fn f ps b g=>.tup [.str "def",.str f,.tup (ps.map .str),optD b,g.d]
  | .hd n cl e=>.tup [.str "handler",.str n,.tup (cl.map fun q=>hdD q.1 q.2),hdD e.1 e.2]
noncomputable def okQ (q:List Str × G) (n:Nat):Prop:=(∀ x ∈ q.1,Nm x) /\ q.1.length=n /\ wdG q.2 /\ ms q.2<=9000
noncomputable def Itm.wd:Itm->Prop
  | .fn f ps b g=>Nm f /\ (∀ x ∈ ps,Nm x) /\ ps.length<=8 /\ (∀ x,b=some x->Nm x) /\ wdG g /\ ms g<=9000
  | .hd n cl e=>Nm n /\ (∀ q ∈ cl,okQ q 3) /\ cl.length<=2 /\ okQ e 2
theorem so_op:PyData.strOk "op"=true:=so _ (by simp)
theorem wd_def:Wd "def":=wd_of (by decide)
theorem wd_hd:Wd "handler":=wd_of (by decide)
theorem wd_on:Wd "on":=wd_of (by decide)
theorem wd_end:Wd "end":=wd_of (by decide)
theorem compL_ex {c:Ck} {f:D->Hh->Res (Option D)} (P:Hh->Prop) (R:Hh->Hh->Prop) (rr:∀ h,R h h) (rt:∀ a b d,R a b->R b d->R a d) (st:∀ h,P h->stay c h) (Q:D->Prop):∀ (xs acc:List D) (h:Hh),P h->(∀ x ∈ xs,∀ h,P h->∃ d h',f x h=.ok (some d) h' /\ P h' /\ R h h' /\ Q d) ->
    ∃ ds h',compL c f xs acc h=.ok (acc ++ ds) h' /\ P h' /\ R h h' /\ (∀ d ∈ ds,Q d) /\ ds.length=xs.length
  | [],acc,h,hp,_=>⟨[],h,by simp [compL,st h hp],hp,rr h,by simp,rfl⟩
  | x :: r,acc,h,hp,hf=>by
    obtain ⟨d,h1,e1,p1,r1,q1⟩:=hf x (List.mem_cons_self ..) h hp
    obtain ⟨ds,h2,e2,p2,r2,q2,q3⟩:=compL_ex P R rr rt st Q r (acc ++ [d]) h1 p1 fun y hy=>hf y (List.mem_cons_of_mem _ hy)
    refine ⟨d :: ds,h2,?_,p2,rt _ _ _ r1 r2,fun z hz=>by rcases List.mem_cons.mp hz with rfl | hz; exact q1; exact q2 z hz,by simp [q3]⟩
    unfold compL
    rw [if_pos (st h hp),e1,bind_ok,addO_some,e2]
    simp
theorem compL_fn {α:Type} {c:Ck} {f:D->Hh->Res (Option D)} (en out:α->D) (P:Hh->Prop) (R:Hh->Hh->Prop) (rr:∀ h,R h h) (rt:∀ a b d,R a b->R b d->R a d) (st:∀ h,P h->stay c h):∀ (xs:List α) (acc:List D) (h:Hh),P h->(∀ x ∈ xs,∀ h,P h->∃ h',f (en x) h=.ok (some (out x)) h' /\ P h' /\ R h h') ->
    ∃ h',compL c f (xs.map en) acc h=.ok (acc ++ xs.map out) h' /\ P h' /\ R h h'
  | [],acc,h,hp,_=>⟨h,by simp [compL,st h hp],hp,rr h⟩
  | x :: r,acc,h,hp,hf=>by
    obtain ⟨h1,e1,p1,r1⟩:=hf x (List.mem_cons_self ..) h hp
    obtain ⟨h2,e2,p2,r2⟩:=compL_fn en out P R rr rt st r (acc ++ [out x]) h1 p1 fun y hy=>hf y (List.mem_cons_of_mem _ hy)
    refine ⟨h2,?_,p2,rt _ _ _ r1 r2⟩
    rw [List.map_cons]
    unfold compL
    rw [if_pos (st h hp),e1,bind_ok,addO_some,e2]
    simp
noncomputable def Gr (h h':Hh):Prop:=∃ J,h'=h ++ J
theorem Gr.refl (h:Hh):Gr h h:=⟨[],by simp⟩
theorem Gr.trans (a b d:Hh) (x:Gr a b) (y:Gr b d):Gr a d:=by obtain ⟨J,rfl⟩:=x; obtain ⟨K,rfl⟩:=y; exact ⟨J ++ K,by simp⟩
theorem so_def:PyData.strOk "def"=true:=wd_def.ok
theorem so_hd:PyData.strOk "handler"=true:=wd_hd.ok
end K13
set_option Elab.async false
set_option linter.all false
set_option maxRecDepth 100000
set_option maxHeartbeats 4000000
namespace K13
set_option genInjectivity false
open PySem L2 PI
mutual
noncomputable def wr:G->List Str
  | .nd k ps=>match Kd.leaf k with
    | some x=>[x]
    | none=>"(" :: (Kd.heads k ++ ((wrs ps).flatten ++ [(")":Str)]))
noncomputable def wrs:List G->List (List Str)
  | []=>[]
  | g :: r=>wr g :: wrs r
end
mutual
noncomputable def dp:G->Nat
  | .nd _ ps=>1 + dps ps
noncomputable def dps:List G->Nat
  | []=>0
  | g :: r=>max (dp g) (dps r)
end
noncomputable def Kd.br (k:Kd):Nat:=match Kd.leaf k with
  | some _=>0
  | none=>1
mutual
noncomputable def bd:G->Nat
  | .nd k ps=>Kd.br k + bds ps
noncomputable def bds:List G->Nat
  | []=>0
  | g :: r=>max (bd g) (bds r)
end
mutual
theorem bd_dp:∀ g:G,bd g<=dp g
  | .nd k ps=>by
    rw [bd,dp]
    have:=bds_dps ps
    have:Kd.br k<=1:=by unfold Kd.br; split <;> decide
    omega
theorem bds_dps:∀ gs:List G,bds gs<=dps gs
  | []=>by rw [bds,dps]; exact Nat.le_refl 0
  | g :: r=>by
    rw [bds,dps]
    have:=bd_dp g
    have:=bds_dps r
    omega
end
mutual
theorem wr_len:∀ g:G,(wr g).length<=ms g
  | .nd k ps=>by
    rw [wr,ms]
    cases e:Kd.leaf k with
    | some x=>simp only [List.length_cons,List.length_nil]; omega
    | none =>
      have h1:=wrs_len ps
      have h4:(Kd.heads k).length<=3:=by
        cases k with
        | call f g=>cases g <;> simp [Kd.heads]
        | _=>simp [Kd.heads]
      simp only [List.length_cons,List.length_append,List.length_nil]
      omega
theorem wrs_len:∀ gs:List G,(wrs gs).flatten.length<=mss gs
  | []=>by simp [wrs,mss]
  | g :: r=>by
    have h1:=wr_len g
    have h2:=wrs_len r
    simp only [wrs,mss,List.flatten_cons,List.length_append]
    omega
end
section
variable (cl:Nat->List D->Hh->Res D)
noncomputable def EvW (e:E) (ρ:En) (h:Hh) (ws:List Str):Prop:=∃ n J,e.ev cl ρ h=.ok (.loc n) (h ++ J) /\ (h ++ J)[n]?=some (.lst (ws.map D.str))
variable {cl}
theorem evw_add {e1 e2:E} {p:Pos} {ρ:En} {h:Hh} {w1 w2:List Str} (h1:EvW cl e1 ρ h w1) (h2:∀ J,EvW cl e2 ρ (h ++ J) w2) (hl:w1.length + w2.length<=1000000):EvW cl (.bin .Add e1 e2 p) ρ h (w1 ++ w2):=by
  obtain ⟨n1,J1,a1,g1⟩:=h1
  obtain ⟨n2,J2,a2,g2⟩:=h2 J1
  refine ⟨(h ++ J1 ++ J2).length,J1 ++ J2 ++ [.lst ((w1 ++ w2).map D.str)],?_,?_⟩
  · rw [vbin,a1,bind_ok,a2,bind_ok,bin_addl,g2,get_old g1]
    simp only [List.length_map]
    rw [if_pos hl]
    simp
  · rw [<- List.append_assoc,<- List.append_assoc,hx0]; rfl
theorem evw_disp {es:Es} {p:Pos} {ρ:En} {h:Hh} {ws:List Str} (he:es.ev cl ρ h=.ok (ws.map D.str) h) (hl:ws.length<=1000):EvW cl (.ofL (.disp es p)) ρ h ws:=by
  refine ⟨h.length,[.lst (ws.map D.str)],?_,by rw [hx0]; rfl⟩
  rw [vofL,ldisp,he,bind_ok]
  simp only [List.length_map]
  rw [if_pos hl]
  rfl
theorem evw_listE {a:E} {p0 p:Pos} {ρ:En} {h:Hh} {ws:List Str} (ha:a.ev cl ρ h=.ok (.tup (ws.map D.str)) h):EvW cl (.listE a p0 p) ρ h ws:=by
  refine ⟨h.length,[.lst (ws.map D.str)],?_,by rw [hx0]; rfl⟩
  rw [vlistE,ha,bind_ok]
  rfl
theorem evw_call {i:Nat} {a:E} {p0 p:Pos} {ρ:En} {h:Hh} {d:D} {ws:List Str} (ha:a.ev cl ρ h=.ok d h) (C:∃ n J,cl i [d] h=.ok (.loc n) (h ++ J) /\ (h ++ J)[n]?=some (.lst (ws.map D.str))):EvW cl (.call i a .nil p0 p) ρ h ws:=by
  obtain ⟨n,J,c,g⟩:=C
  exact ⟨n,J,by rw [vcall,ha,bind_ok,enil,bind_ok]; exact c,g⟩
theorem evw_var {i:Nat} {p:Pos} {ρ:En} {h:Hh} {n:Nat} {ws:List Str} (e:ρ[i]?=some (some (.loc n))) (g:h[n]?=some (.lst (ws.map D.str))):EvW cl (.var i p) ρ h ws:=by
  refine ⟨n,[],?_,by simpa using g⟩
  rw [vvar,e]
  simp
noncomputable def Lcs (h:Hh):List Nat->List (List Str)->Prop
  | [],[]=>True
  | n :: r,w :: s=>h[n]?=some (.lst (w.map D.str)) /\ Lcs h r s
  | _,_=>False
theorem Lcs.mono {h J:Hh}:∀ {ns:List Nat} {ws:List (List Str)},Lcs h ns ws->Lcs (h ++ J) ns ws
  | [],[],_=>trivial
  | n :: r,w :: s,⟨h1,h2⟩=>⟨get_old h1,h2.mono⟩
  | [],_ :: _,z=>z.elim
  | _ :: _,[],z=>z.elim
theorem Lcs.append {h:Hh}:∀ {ns ms:List Nat} {ws vs:List (List Str)},Lcs h ns ws->Lcs h ms vs->Lcs h (ns ++ ms) (ws ++ vs)
  | [],_,[],_,_,b=>b
  | n :: r,_,w :: s,_,⟨h1,h2⟩,b=>⟨h1,h2.append b⟩
  | [],_,_ :: _,_,z,_=>z.elim
  | _ :: _,_,[],_,z,_=>z.elim
theorem comp_words {f:D->Hh->Res (Option D)} (hf:∀ (g:G) h,f g.d h=(cl 25 [g.d] h).bind fun d h2=>.ok (some d) h2):∀ (ps:List G) (acc:List Nat) (pre:List (List Str)) (h:Hh),(∀ g ∈ ps,∀ h,∃ n J,cl 25 [g.d] h=.ok (.loc n) (h ++ J) /\ (h ++ J)[n]?=some (.lst ((wr g).map D.str)))->Lcs h acc pre ->
    ∃ ns J,compL [] f (G.ds ps) (acc.map D.loc) h=.ok (ns.map D.loc) (h ++ J) /\ Lcs (h ++ J) ns (pre ++ wrs ps)
  | [],acc,pre,h,_,hp=>⟨acc,[],by simp [compL,G.ds,stay_nil],by simpa [wrs] using hp⟩
  | g :: r,acc,pre,h,hc,hp=>by
    obtain ⟨n,J,c,gt⟩:=hc g (List.mem_cons_self ..) h
    obtain ⟨ns,J2,e,l⟩:=comp_words hf r (acc ++ [n]) (pre ++ [wr g]) (h ++ J) (fun q hq=>hc q (List.mem_cons_of_mem _ hq)) (hp.mono.append ⟨gt,trivial⟩)
    refine ⟨ns,J ++ J2,?_,by rw [<- List.append_assoc]; simpa [wrs] using l⟩
    rw [G.ds,compL,if_pos stay_nil,hf,c,bind_ok,bind_ok,addO_some]
    simp only [List.map_append,List.map_cons,List.map_nil] at e
    rw [e,List.append_assoc]
theorem all_loop (na:Nat) (all:List D):∀ (ns:List Nat) (ws:List (List Str)) (acc:List Str) (n:Nat) (x:Option D) (h:Hh),rd h na=some all->Lcs h ns ws->h[n]?=some (.lst (acc.map D.str))->acc.length + ws.flatten.length<=1000000 ->
    ∃ n' x' J,forL [(na,all)] (stepF t_law_all_1 fun ρ' h'=>b_law_all_1.run cl ρ' h') (ns.map D.loc) [some (.loc na),some (.loc n),x] h=.nx [some (.loc na),some (.loc n'),x'] (h ++ J) /\ (h ++ J)[n']?=some (.lst ((acc ++ ws.flatten).map D.str))
  | [],[],acc,n,x,h,hr,_,hg,_=>⟨n,x,[],by simp [forL,stay_one.mpr hr],by simpa using hg⟩
  | [],_ :: _,_,_,_,_,_,z,_,_=>z.elim
  | _ :: _,[],_,_,_,_,_,z,_,_=>z.elim
  | m :: r,w :: s,acc,n,x,h,hr,⟨l1,l2⟩,hg,hl=>by
    simp only [List.flatten_cons,List.length_append] at hl
    obtain ⟨n',x',J,e,g⟩:=all_loop na all r s (acc ++ w) h.length (some (.loc m)) (h ++ [.lst ((acc ++ w).map D.str)]) (rd_old hr) l2.mono (by rw [hx0]; rfl) (by rw [List.length_append]; omega)
    refine ⟨n',x',[.lst ((acc ++ w).map D.str)] ++ J,?_,by rw [<- List.append_assoc]; simpa using g⟩
    have k1:acc.length + w.length<=1000000:=by omega
    rw [List.map_cons,forL,if_pos (stay_one.mpr hr)]
    have st:stepF t_law_all_1 (fun ρ' h'=>b_law_all_1.run cl ρ' h') (.loc m) [some (.loc na),some (.loc n),x] h=.nx [some (.loc na),some (.loc h.length),some (.loc m)] (h ++ [.lst ((acc ++ w).map D.str)]):=by
      simp [stepF,t_law_all_1,bindT,b_law_all_1,znil,zcons,yset,vvar,vbin,hg,l1,k1]
    rw [st]
    simp only []
    rw [e,List.append_assoc]
theorem r_all (n:Nat) (ns:List Nat) (ws:List (List Str)) (h:Hh) (hr:rd h n=some (ns.map D.loc)) (hl:Lcs h ns ws) (hs:ws.flatten.length<=1000000):∃ m J,d_law_all.run cl [.loc n] h=.ok (.loc m) (h ++ J) /\ (h ++ J)[m]?=some (.lst (ws.flatten.map D.str)):=by
  obtain ⟨m,x,J,e,g⟩:=all_loop (cl:=cl) n (ns.map D.loc) ns ws [] h.length none (h ++ [.lst []]) (rd_old hr) hl.mono (by rw [hx0]; rfl) (by simpa using hs)
  refine ⟨m,[.lst []] ++ J,?_,by rw [<- List.append_assoc]; simpa using g⟩
  have r1:=rd_old (l:=[.lst []]) hr
  simp [d_law_all,Df.run,znil,zcons,yset,yret,yforr,vvar,vofL,ldisp,enil,iseq,new,r1,e,outR]
noncomputable def AllOk (cl:Nat->List D->Hh->Res D):Prop:=∀ n ns ws h,rd h n=some (ns.map D.loc)->Lcs h ns ws->ws.flatten.length<=1000000->∃ m J,cl 26 [.loc n] h=.ok (.loc m) (h ++ J) /\ (h ++ J)[m]?=some (.lst (ws.flatten.map D.str))
theorem evw_all (CA:AllOk cl) {elt:E} {t:Tg} {it:I} {c:Es} {NC:List Str} {cap:List (Option Nat)} {sc:Scope} {p p0 p1:Pos} {ρ:En} {h:Hh} {ps:List G} (hi:it.ev cl ρ h=.ok ([],G.ds ps) h)
    (hf:∀ (g:G) h,compF t (capE cap ρ) (fun ρ' h2=>c.evC cl ρ' h2) (fun ρ' h2=>elt.ev cl ρ' h2) g.d h=(cl 25 [g.d] h).bind fun d h2=>.ok (some d) h2) (hc:∀ g ∈ ps,∀ h,∃ n J,cl 25 [g.d] h=.ok (.loc n) (h ++ J) /\ (h ++ J)[n]?=some (.lst ((wr g).map D.str))) (hl:mss ps<=100000) :
    EvW cl (.call 26 (.ofL (.comp elt t it c NC cap sc p)) .nil p0 p1) ρ h (wrs ps).flatten:=by
  obtain ⟨ns,J,e,l⟩:=comp_words (cl:=cl) hf ps [] [] h hc trivial
  simp only [List.map_nil,List.nil_append] at e l
  have wl:=wrs_len ps
  obtain ⟨m,J2,e2,g2⟩:=CA (h ++ J).length ns (wrs ps) (h ++ J ++ [.lst (ns.map D.loc)]) (by rw [rdx0]; rfl) l.mono (by omega)
  have pl:(G.ds ps).length<=1000000:=by
    rw [ds_len]
    have:ps.length<=mss ps:=by
      clear hi hf hc hl e l wl e2 g2
      induction ps with
      | nil=>simp
      | cons x r ih=>simp only [mss,List.length_cons]; omega
    omega
  refine ⟨m,J ++ ([.lst (ns.map D.loc)] ++ J2),?_,by rw [<- List.append_assoc,<- List.append_assoc]; exact g2⟩
  rw [vcall,vofL,lcomp,hi,bind_ok,if_pos pl]
  simp only []
  rw [e,bind_ok]
  simp only [new,bind_ok,enil]
  rw [e2]
  simp
end
end K13
set_option Elab.async false
set_option linter.all false
set_option maxRecDepth 100000
set_option maxHeartbeats 4000000
namespace K13
set_option genInjectivity false
open PySem L2 PI
noncomputable def WordsAt (cl:Nat->List D->Hh->Res D) (g:G):Prop:=∀ h,∃ n J,cl 25 [g.d] h=.ok (.loc n) (h ++ J) /\ (h ++ J)[n]?=some (.lst ((wr g).map D.str))
theorem so_num:PyData.strOk "num"=true:=so _ (by simp)
theorem so_var:PyData.strOk "var"=true:=so _ (by simp)
noncomputable def bodyOf:S->Ss
  | .iff _ a _ _=>a
  | _=>.nil
noncomputable def headS:Ss->S
  | .cons s _=>s
  | .nil=>.ret (.non ⟨0,0,0,0⟩) ⟨0,0,0,0⟩
noncomputable def retE:S->E
  | .ret e _=>e
  | _=>.non ⟨0,0,0,0⟩
noncomputable def setE':S->E
  | .set _ e _ _=>e
  | _=>.non ⟨0,0,0,0⟩
section
variable {cl:Nat->List D->Hh->Res D}
noncomputable def let3:O:=.lst [.str "let",.str "handle",.str "do"]
theorem in3_ev {ρ:En} {h:Hh} {w:Str} {b:Bool} {i:Nat} {p p1 p2 p3 p4 p5:Pos} (e:ρ[i]?=some (some (.str w))) (q:(["let","handle","do"]:List Str).any (fun y=>y == w)=b):E.evT cl (.cmp .In (.var i p) (.ofL (.disp (.cons (.str "let" p1) (.cons (.str "handle" p2) (.cons (.str "do" p3) .nil))) p4)) p5) ρ h=.ok b (h ++ [let3]):=by
  refine t_cmp (x:=.str w) (by rw [vvar,e]) (y:=.loc h.length) (h2:=h ++ [let3]) rfl ?_
  show inD false (.str w) (.loc h.length) (h ++ [let3])=_
  unfold inD
  dsimp only
  rw [hx0]
  show inXs false (.str w) ((["let","handle","do"]:List Str).map D.str) _=_
  unfold inXs
  have:(((["let","handle","do"]:List Str).map D.str).any fun y=>eqV (vOf y) (vOf (.str w)))=(["let","handle","do"]:List Str).any (fun y=>y == w):=by rw [List.any_map]; rfl
  rw [this,q,if_pos ⟨rfl,rfl⟩]
  rfl
structure No4 (w:Str):Prop where
  ok:PyData.strOk w=true
  n:(w == ("num":Str))=false
  v:(w == ("var":Str))=false
  c:(w == ("call":Str))=false
  o:(w == ("op":Str))=false
theorem skip4 {w:Str} {d:D} {h:Hh} {o:RS} (q:No4 w) (k:Ss.run cl (dropS 5 d_law_words.body) [some d,some (.str w),none] h=o):Ss.run cl (dropS 1 d_law_words.body) [some d,some (.str w),none] h=o :=
  iff_f (t_cmp rfl rfl (by rw [eqS q.ok so_num,q.n])) (iff_f (t_cmp rfl rfl (by rw [eqS q.ok so_var,q.v])) (iff_f (t_cmp rfl rfl (by rw [eqS q.ok so_call,q.c])) (iff_f (t_cmp rfl rfl (by rw [eqS q.ok so_op,q.o])) k)))
theorem sub_t {k:Nat} {xs:List D} {d:D} {h:Hh} (e:xs[k]?=some d):subD (.tup xs) (.int (k:Nat)) h=.ok d h:=by
  unfold subD
  dsimp only
  rw [PI.atI_nat,e]
theorem seq_cut {i:Nat} {k:Int} {d:D} {xs:List D} {ρ:En} {h:Hh} {p p1 p2 p3:Pos} (ei:ρ[i]?=some (some d)) (e:cutD d (some k) none h=.ok (.tup xs) h):I.ev cl (.seq (.cut (.var i p) (.some (.int k p1)) .none p2 p3)) ρ h=.ok ([],xs) h:=bnd (x:=.tup xs) (h:=h) (bnd (x:=d) (h:=h) (by rw [vvar,ei]) (bnd rfl (bnd rfl e))) rfl
theorem all_ev (CA:AllOk cl) {it:I} {NC:List Str} {sc:Scope} {p p0 p1 p2 p3 p4 p5:Pos} {ρ:En} {h:Hh} {ps:List G} (hi:it.ev cl ρ h=.ok ([],G.ds ps) h) (hc:∀ g ∈ ps,WordsAt cl g) (hl:mss ps<=90000):EvW cl (.call 26 (.ofL (.comp (.call 25 (.var 0 p) .nil p0 p1) (.one 0 p2) it .nil NC [none] sc p3)) .nil p4 p5) ρ h (wrs ps).flatten :=
  evw_all CA hi (fun g h=>rfl) (fun g hg h=>hc g hg h) (by omega)
theorem cl_ev {ρ:En} {h:Hh} {p p1:Pos}:EvW cl (.ofL (.disp (.cons (.str ")" p) .nil) p1)) ρ h [(")":Str)]:=evw_disp (ws:=[")"]) rfl (by decide)
theorem words_3 (CA:AllOk cl) {w x:Str} {ps:List G} (q:No4 w) (q5:(["let","handle","do"]:List Str).any (fun y=>y == w)=true) (hc:∀ g ∈ ps,WordsAt cl g) (hl:mss ps<=90000) (h:Hh) :
    ∃ n J,d_law_words.run cl [.tup (.str w :: .str x :: G.ds ps)] h=.ok (.loc n) (h ++ J) /\ (h ++ J)[n]?=some (.lst ((([("(":Str),w,x] ++ (wrs ps).flatten) ++ [(")":Str)]).map D.str)):=by
  have wl:=wrs_len ps
  have e:EvW cl (retE (headS (bodyOf (headS (dropS 5 d_law_words.body))))) [some (.tup (.str w :: .str x :: G.ds ps)),some (.str w),none] (h ++ [let3]) (([("(":Str),w,x] ++ (wrs ps).flatten) ++ [(")":Str)]) :=
    evw_add (evw_add (evw_disp (ws:=["(",w,x]) (es_c rfl (es_c rfl (es_c (bnd rfl (bnd rfl (sub_t (k:=1) rfl))) rfl))) (Nat.le_of_ble_eq_true rfl)) (fun J=>all_ev CA (seq_cut rfl (cut_2 _ _ _ _)) hc hl) (by show 3 + _<=_; omega)) (fun J=>cl_ev) (by rw [List.length_append]; show 3 + _ + 1<=_; omega)
  obtain ⟨n,J,e1,g⟩:=e
  refine ⟨n,[let3] ++ J,?_,by rw [<- List.append_assoc]; exact g⟩
  rw [<- List.append_assoc]
  exact out_rt (set_s (bnd rfl (bnd rfl (sub_t (k:=0) rfl))) (skip4 q (iff_r (in3_ev rfl q5) (ret_r e1))))
theorem words_r (CA:AllOk cl) {w:Str} {ps:List G} (q:No4 w) (q5:(["let","handle","do"]:List Str).any (fun y=>y == w)=false) (hc:∀ g ∈ ps,WordsAt cl g) (hl:mss ps<=90000) (h:Hh) :
    ∃ n J,d_law_words.run cl [.tup (.str w :: G.ds ps)] h=.ok (.loc n) (h ++ J) /\ (h ++ J)[n]?=some (.lst ((([("(":Str),w] ++ (wrs ps).flatten) ++ [(")":Str)]).map D.str)):=by
  have wl:=wrs_len ps
  have e:EvW cl (retE (headS (dropS 6 d_law_words.body))) [some (.tup (.str w :: G.ds ps)),some (.str w),none] (h ++ [let3]) (([("(":Str),w] ++ (wrs ps).flatten) ++ [(")":Str)]) :=
    evw_add (evw_add (evw_disp (ws:=["(",w]) rfl (Nat.le_of_ble_eq_true rfl)) (fun J=>all_ev CA (seq_cut rfl (cut_1 _ _ _)) hc hl) (by show 2 + _<=_; omega)) (fun J=>cl_ev) (by rw [List.length_append]; show 2 + _ + 1<=_; omega)
  obtain ⟨n,J,e1,g⟩:=e
  refine ⟨n,[let3] ++ J,?_,by rw [<- List.append_assoc]; exact g⟩
  rw [<- List.append_assoc]
  exact out_rt (set_s (bnd rfl (bnd rfl (sub_t (k:=0) rfl))) (skip4 q (iff_f (in3_ev rfl q5) (ret_r e1))))
theorem words_c (CA:AllOk cl) {f:Str} {g:Option Str} {ps:List G} (hc:∀ g ∈ ps,WordsAt cl g) (hl:mss ps<=90000) (h:Hh) :
    ∃ n J,d_law_words.run cl [.tup [.str "call",.str f,optD g,.tup (G.ds ps)]] h=.ok (.loc n) (h ++ J) /\ (h ++ J)[n]?=some (.lst (((("(":Str) :: Kd.heads (.call f g) ++ (wrs ps).flatten) ++ [(")":Str)]).map D.str)):=by
  have e:∀ (n:Nat) (J:Hh),(h ++ J)[n]?=some (.lst ((("(":Str) :: Kd.heads (.call f g)).map D.str))->∃ m J2,E.ev cl (retE (headS (dropS 2 (bodyOf (headS (dropS 3 d_law_words.body)))))) [some (.tup [.str "call",.str f,optD g,.tup (G.ds ps)]),some (.str "call"),some (.loc n)] (h ++ J)=.ok (.loc m) (h ++ (J ++ J2)) /\ (h ++ (J ++ J2))[m]?=some (.lst (((("(":Str) :: Kd.heads (.call f g) ++ (wrs ps).flatten) ++ [(")":Str)]).map D.str)):=by
    intro n J gn
    have wl:=wrs_len ps
    have hl3:(("(":Str) :: Kd.heads (.call f g)).length<=4:=by cases g <;> exact Nat.le_of_ble_eq_true rfl
    obtain ⟨m,J2,e1,g1⟩:EvW cl (retE (headS (dropS 2 (bodyOf (headS (dropS 3 d_law_words.body)))))) [some (.tup [.str "call",.str f,optD g,.tup (G.ds ps)]),some (.str "call"),some (.loc n)] (h ++ J) ((("(":Str) :: Kd.heads (.call f g) ++ (wrs ps).flatten) ++ [(")":Str)]) :=
      evw_add (evw_add (evw_var rfl gn) (fun J=>all_ev CA rfl hc hl) (by omega)) (fun J=>cl_ev) (by rw [List.length_append]; show _ + 1<=_; omega)
    rw [List.append_assoc] at e1 g1
    exact ⟨m,J2,e1,g1⟩
  cases g with
  | none =>
    obtain ⟨m,J2,e1,g1⟩:=e h.length [.lst [.str "(",.str "call",.str f]] (by rw [hx0]; rfl)
    exact ⟨m,_,out_rt (set_s rfl (iff_f (t_cmp rfl rfl (eqS so_call so_num)) (iff_f (t_cmp rfl rfl (eqS so_call so_var)) (iff_r (t_cmp rfl rfl (eqS so_call so_call)) (set_s rfl (iff_f (t_cmp (bnd rfl (bnd rfl rfl)) rfl rfl) (ret_r e1))))))),g1⟩
  | some g =>
    have z:(h ++ [O.lst [.str "(",.str "call",.str f],.lst [.str "(",.str "hand",.str f,.str g]])[h.length + 1]?=some (.lst ((("(":Str) :: Kd.heads (.call f (some g))).map D.str)):=by rw [hx]; rfl
    obtain ⟨m,J2,e1,g1⟩:=e (h.length + 1) [.lst [.str "(",.str "call",.str f],.lst [.str "(",.str "hand",.str f,.str g]] z
    have dd:E.ev cl (setE' (headS (bodyOf (headS (dropS 1 (bodyOf (headS (dropS 3 d_law_words.body)))))))) [some (.tup [.str "call",.str f,.str g,.tup (G.ds ps)]),some (.str "call"),some (.loc h.length)] (h ++ [.lst [.str "(",.str "call",.str f]])=.ok (.loc (h.length + 1)) (h ++ [.lst [.str "(",.str "call",.str f],.lst [.str "(",.str "hand",.str f,.str g]]):=by
      show Res.ok (D.loc (h ++ [O.lst [.str "(",.str "call",.str f]]).length) (h ++ [O.lst [.str "(",.str "call",.str f]] ++ [.lst [.str "(",.str "hand",.str f,.str g]])=_
      rw [List.length_append,List.append_assoc]; rfl
    exact ⟨m,_,out_rt (set_s rfl (iff_f (t_cmp rfl rfl (eqS so_call so_num)) (iff_f (t_cmp rfl rfl (eqS so_call so_var)) (iff_r (t_cmp rfl rfl (eqS so_call so_call)) (set_s rfl (iff_n (t_cmp (bnd rfl (bnd rfl rfl)) rfl rfl) (set_s dd rfl) (ret_r e1))))))),g1⟩
theorem words_o {s:Str} {a b:G} (ha:WordsAt cl a) (hb:WordsAt cl b) (la:(wr a).length<=90000) (lb:(wr b).length<=90000) (h:Hh) :
    ∃ n J,d_law_words.run cl [.tup [.str "op",.str s,a.d,b.d]] h=.ok (.loc n) (h ++ J) /\ (h ++ J)[n]?=some (.lst (((([("(":Str),s] ++ wr a) ++ wr b) ++ [(")":Str)]).map D.str)):=by
  have e:EvW cl (retE (headS (bodyOf (headS (dropS 4 d_law_words.body))))) [some (.tup [.str "op",.str s,a.d,b.d]),some (.str "op"),none] h ((([("(":Str),s] ++ wr a) ++ wr b) ++ [(")":Str)]) :=
    evw_add (evw_add (evw_add (evw_disp (ws:=["(",s]) rfl (Nat.le_of_ble_eq_true rfl)) (fun J=>evw_call (d:=a.d) rfl (ha _)) (by show 2 + _<=_; omega)) (fun J=>evw_call (d:=b.d) rfl (hb _)) (by rw [List.length_append]; show 2 + _ + _<=_; omega)) (fun J=>cl_ev) (by rw [List.length_append,List.length_append]; show 2 + _ + _ + 1<=_; omega)
  obtain ⟨n,J,e1,g⟩:=e
  exact ⟨n,J,out_rt (set_s rfl (iff_f (t_cmp rfl rfl (eqS so_op so_num)) (iff_f (t_cmp rfl rfl (eqS so_op so_var)) (iff_f (t_cmp rfl rfl (eqS so_op so_call)) (iff_r (t_cmp rfl rfl (eqS so_op so_op)) (ret_r e1)))))),g⟩
theorem no4:∀ w ∈ (["let","if","do","handle","go","guard"]:List Str),No4 w:=by
  intro w hw
  have:(["let","if","do","handle","go","guard"]:List Str).all (fun w=>PyData.strOk w && !(w == ("num":Str)) && !(w == ("var":Str)) && !(w == ("call":Str)) && !(w == ("op":Str)))=true:=by decide +kernel
  have:=List.all_eq_true.mp this w hw
  simp only [Bool.and_eq_true,Bool.not_eq_true'] at this
  exact ⟨this.1.1.1.1,this.1.1.1.2,this.1.1.2,this.1.2,this.2⟩
end
theorem r_words (cl:Nat->List D->Hh->Res D) (CA:AllOk cl) (k:Kd) (ps:List G) (hw:wdG (.nd k ps)) (hm:ms (.nd k ps)<=90000) (hk:k.ok ps.length=true) (hc:∀ g ∈ ps,WordsAt cl g) (h:Hh) :
    ∃ n J,d_law_words.run cl [(G.nd k ps).d] h=.ok (.loc n) (h ++ J) /\ (h ++ J)[n]?=some (.lst ((wr (.nd k ps)).map D.str)):=by
  rw [wdG] at hw
  rw [ms] at hm
  have wl:=wrs_len ps
  have hl:mss ps<=90000:=by omega
  rw [G.d,wr]
  cases k with
  | num m =>
    obtain ⟨_,hlog⟩:=wd_num hw.1.1 hw.1.2.1
    obtain rfl:ps=[]:=List.eq_nil_of_length_eq_zero hw.1.2.2
    refine ⟨h.length,[.lst [.str (Str.ofString (toString m))]],?_,by rw [hx0]; rfl⟩
    rw [G.ds]
    have c:c1D .str (.int m) h=.ok (.str (Str.ofString (toString m))) h:=if_pos hlog
    exact out_rt (set_s rfl (iff_r (t_cmp rfl rfl (eqS so_num so_num)) (ret_r (bnd (bnd (es_c (bnd (bnd rfl (bnd rfl rfl)) c) rfl) rfl) rfl))))
  | var x =>
    obtain rfl:ps=[]:=List.eq_nil_of_length_eq_zero hw.1.2
    refine ⟨h.length,[.lst [.str x]],?_,by rw [hx0]; rfl⟩
    rw [G.ds]
    exact out_rt (set_s rfl (iff_f (t_cmp rfl rfl (eqS so_var so_num)) (iff_r (t_cmp rfl rfl (eqS so_var so_var)) (ret_r rfl))))
  | call f g =>
    have:=words_c (cl:=cl) CA (f:=f) (g:=g) hc hl h
    simpa only [Kd.leaf,List.append_assoc,List.cons_append,List.nil_append,Kd.enc] using this
  | op s =>
    obtain ⟨a,b,rfl⟩:∃ a b,ps=[a,b]:=by
      have h3:ps.length=2:=by simpa [Kd.ok] using hk
      match ps,h3 with
      | [a,b],_=>exact ⟨a,b,rfl⟩
    have la:=wr_len a
    have lb:=wr_len b
    simp only [mss] at hm
    have:=words_o (cl:=cl) (s:=s) (hc a (by simp)) (hc b (by simp)) (by omega) (by omega) h
    simpa only [Kd.leaf,Kd.heads,wrs,G.ds,List.flatten_cons,List.flatten_nil,List.append_nil,List.append_assoc,List.cons_append,List.nil_append,Kd.enc] using this
  | lett x=>exact (words_3 (x:=x) CA (no4 "let" (by simp)) (by decide +kernel) hc hl h)
  | handle x=>exact (words_3 (x:=x) CA (no4 "handle" (by simp)) (by decide +kernel) hc hl h)
  | doo x=>exact (words_3 (x:=x) CA (no4 "do" (by simp)) (by decide +kernel) hc hl h)
  | ite=>exact (words_r CA (no4 "if" (by simp)) (by decide +kernel) hc hl h)
  | go=>exact (words_r CA (no4 "go" (by simp)) (by decide +kernel) hc hl h)
  | guard=>exact (words_r CA (no4 "guard" (by simp)) (by decide +kernel) hc hl h)
end K13
set_option Elab.async false
set_option linter.all false
set_option maxRecDepth 100000
set_option maxHeartbeats 4000000
namespace K13
set_option genInjectivity false
open PySem L2 PI
theorem evn_add {cl:Nat->List D->Hh->Res D} {e1 e2:E} {p:Pos} {ρ:En} {h:Hh} {w1 w2:List Str} (h1:EvW cl e1 ρ h w1) (h2:∀ J,EvW cl e2 ρ (h ++ J) w2) (hl:w1.length + w2.length<=1000000) :
    ∃ m J,(E.bin .Add e1 e2 p).ev cl ρ h=.ok (.loc (h.length + m)) (h ++ J) /\ J[m]?=some (.lst ((w1 ++ w2).map D.str)):=by
  obtain ⟨n1,J1,a1,g1⟩:=h1
  obtain ⟨n2,J2,a2,g2⟩:=h2 J1
  refine ⟨J1.length + J2.length,J1 ++ J2 ++ [.lst ((w1 ++ w2).map D.str)],?_,?_⟩
  · rw [vbin,a1,bind_ok,a2,bind_ok,bin_addl,g2,get_old g1]
    simp only [List.length_map]
    rw [if_pos hl]
    simp [Nat.add_assoc]
  · rw [show J1.length + J2.length=(J1 ++ J2).length by simp,hx0]; rfl
noncomputable def qw (q:List Str × G) (w:Str):List Str:=((([("(":Str),w] ++ q.1) ++ wr q.2) ++ [(")":Str)])
noncomputable def iw:Itm->List Str
  | .fn f ps b g=>((((([("(":Str),"def",f] ++ [("(":Str)]) ++ ps) ++ [(")":Str)]) ++ b.toList) ++ wr g) ++ [(")":Str)]
  | .hd n qs e=>(((([("(":Str),"handler",n] ++ (qs.map fun q=>qw q "on").flatten) ++ [("(":Str),"end"]) ++ e.1) ++ wr e.2) ++ [(")":Str),")"]
noncomputable def setE:S->E
  | .set _ e _ _=>e
  | _=>.non ⟨0,0,0,0⟩
noncomputable def fnBody:Ss:=bodyOf (headS (dropS 1 d_law_item_words.body))
noncomputable def defAdd:E:=setE (headS fnBody)
noncomputable def defEnd:E:=retE (headS (dropS 2 fnBody))
section
variable (cl:Nat->List D->Hh->Res D)
theorem r_iw_fn (f:Str) (ps:List Str) (b:Option Str) (g:G) (h:Hh) (hw:(Itm.fn f ps b g).wd) (C:WordsAt cl g):∃ n J,d_law_item_words.run cl [(Itm.fn f ps b g).d] h=.ok (.loc n) (h ++ J) /\ (h ++ J)[n]?=some (.lst ((iw (.fn f ps b g)).map D.str)):=by
  obtain ⟨w1,w2,w3,w4,w5,w6⟩:=hw
  have wl:=wr_len g
  obtain ⟨H,hH⟩:∃ H,H=h ++ [O.lst ([("(":Str),"def",f].map D.str)]:=⟨_,rfl⟩
  have h0:H[h.length]?=some (.lst ([("(":Str),"def",f].map D.str)):=by rw [hH,hx0]; rfl
  obtain ⟨m,J,ev,gt⟩:∃ m J,defAdd.ev cl [some (Itm.fn f ps b g).d,some (.loc h.length),none] H=.ok (.loc (H.length + m)) (H ++ J) /\ J[m]?=some (.lst (((([("(":Str),"def",f] ++ [("(":Str)]) ++ ps) ++ [(")":Str)]).map D.str)) :=
    evn_add (evw_add (evw_add (evw_var rfl h0) (fun J=>evw_disp (ws:=["("]) rfl (by decide)) (Nat.le_of_ble_eq_true rfl)) (fun J=>evw_listE (ws:=ps) rfl) (by show 4 + _<=_; omega)) (fun J=>cl_ev) (by rw [List.length_append]; show 4 + _ + 1<=_; omega)
  obtain ⟨L,hL⟩:∃ L,L=(((([("(":Str),"def",f] ++ [("(":Str)]) ++ ps) ++ [(")":Str)])):=⟨_,rfl⟩
  rw [<- hL] at gt
  have Ll:L.length<=100:=by rw [hL,List.length_append,List.length_append]; show 4 + _ + 1<=_; omega
  have mlt:m < J.length:=(List.getElem?_eq_some_iff.mp gt).1
  obtain ⟨J2,gt2,bl⟩:∃ J2,J2[m]?=some (.lst ((L ++ b.toList).map D.str)) /\ ∀ {r d' h'},Ss.run cl r [some (Itm.fn f ps b g).d,some (.loc (H.length + m)),none] (H ++ J2)=.rt d' h'->Ss.run cl (.cons (headS (dropS 1 fnBody)) r) [some (Itm.fn f ps b g).d,some (.loc (H.length + m)),none] (H ++ J)=.rt d' h':=by
    cases b with
    | none=>exact ⟨J,by rw [Option.toList_none,List.append_nil]; exact gt,fun k=>iff_f (t_cmp (bnd rfl (bnd rfl rfl)) rfl rfl) k⟩
    | some b =>
      have q:=hx H J m
      rw [gt] at q
      refine ⟨J.set m (.lst (L.map D.str ++ [.str b])),by rw [List.getElem?_set_self mlt,List.map_append]; rfl,fun k=>iff_n (t_cmp (bnd rfl (bnd rfl rfl)) rfl rfl) (ex_s (app_e (i:=1) rfl q (bnd rfl (bnd rfl rfl)) q (by rw [List.length_map]; omega)) rfl) ?_⟩
      rw [hset]; exact k
  have gt3:(H ++ J2)[H.length + m]?=some (.lst ((L ++ b.toList).map D.str)):=by rw [hx]; exact gt2
  have bl2:b.toList.length<=1:=by cases b <;> exact Nat.le_of_ble_eq_true rfl
  obtain ⟨n,J3,ev3,g3⟩:EvW cl defEnd [some (Itm.fn f ps b g).d,some (.loc (H.length + m)),none] (H ++ J2) (((L ++ b.toList) ++ wr g) ++ [(")":Str)]) :=
    evw_add (evw_add (evw_var rfl gt3) (fun J=>evw_call (d:=g.d) rfl (C _)) (by rw [List.length_append]; omega)) (fun J=>cl_ev) (by rw [List.length_append,List.length_append]; show _ + 1<=_; omega)
  rw [hL] at g3
  have ap:H ++ J2 ++ J3=h ++ ([O.lst ([("(":Str),"def",f].map D.str)] ++ J2 ++ J3):=by rw [hH,List.append_assoc,List.append_assoc,List.append_assoc]
  refine ⟨n,[O.lst ([("(":Str),"def",f].map D.str)] ++ J2 ++ J3,?_,by rw [<- ap]; exact g3⟩
  rw [<- ap]
  exact out_rt (set_s (d:=.loc h.length) (h':=H) (by rw [hH]; rfl) (iff_r (t_cmp (bnd rfl (bnd rfl rfl)) rfl (eqS so_def so_def)) (set_s ev (bl (ret_r ev3)))))
end
end K13
set_option Elab.async false
set_option linter.all false
set_option maxRecDepth 100000
set_option maxHeartbeats 4000000
namespace K13
set_option genInjectivity false
open PySem L2 PI
theorem cut_hd (q:List Str × G) (n:Nat) (hn:q.1.length=n) (h:Hh):cutD (hdD q.1 q.2) none (some (n:Int)) h=.ok (.tup (q.1.map D.str)) h:=by
  unfold hdD
  simp only [cutD,cutXs]
  rw [sIx_some _ _ _ (by omega),sIx_none]
  have e:min ((n:Int)).toNat (q.1.map D.str ++ [q.2.d]).length=n:=by simp; omega
  rw [e,if_neg (by simp; omega),List.drop_zero,Nat.sub_zero]
  congr 2
  rw [List.take_append_of_le_length (by simp; omega),List.take_of_length_le (by simp; omega)]
theorem sub_hd (q:List Str × G) (n:Nat) (hn:q.1.length=n) (h:Hh):subD (hdD q.1 q.2) (.int (n:Int)) h=.ok q.2.d h:=by
  unfold hdD
  rw [sub_tup,PI.atI_nat,List.getElem?_append_right (by simp; omega)]
  simp [hn]
noncomputable def loopAdd:E:=setE (headS b_law_item_words_1)
theorem iw_loop (cl:Nat->List D->Hh->Res D) (dd:D) (h:Hh):∀ (qs:List (List Str × G)) (acc:List Str) (n:Nat) (x:Option D) (J:Hh),(∀ q ∈ qs,okQ q 3 /\ WordsAt cl q.2)->(h ++ J)[n]?=some (.lst (acc.map D.str))->acc.length + 10000 * qs.length<=100000 ->
    ∃ n' x' J',forL [] (stepF t_law_item_words_1 fun ρ' h'=>b_law_item_words_1.run cl ρ' h') (qs.map fun q=>hdD q.1 q.2) [some dd,some (.loc n),x] (h ++ J)=.nx [some dd,some (.loc n'),x'] (h ++ J') /\ (h ++ J')[n']?=some (.lst ((acc ++ (qs.map fun q=>qw q "on").flatten).map D.str))
  | [],acc,n,x,J,_,hg,_=>⟨n,x,J,by simp [forL,stay_nil],by simpa using hg⟩
  | q :: qs,acc,n,x,J,hq,hg,hl=>by
    obtain ⟨⟨o1,o2,o3,o4⟩,cw⟩:=hq q (List.mem_cons_self ..)
    have wl:=wr_len q.2
    simp only [List.length_cons] at hl
    obtain ⟨n1,J1,ev,g1⟩:EvW cl loopAdd [some dd,some (.loc n),some (hdD q.1 q.2)] (h ++ J) ((((acc ++ [("(":Str),"on"]) ++ q.1) ++ wr q.2) ++ [(")":Str)]):=by
      have c3:∀ h,cutD (hdD q.1 q.2) none (some 3) h=.ok (.tup (q.1.map D.str)) h:=fun h=>cut_hd q 3 o2 h
      have s3:∀ h,subD (hdD q.1 q.2) (.int 3) h=.ok q.2.d h:=fun h=>sub_hd q 3 o2 h
      exact evw_add (evw_add (evw_add (evw_add (evw_var rfl hg) (fun J=>evw_disp (ws:=["(","on"]) rfl (by decide)) (by simp; omega)) (fun J=>evw_listE (ws:=q.1) (bnd rfl (bnd rfl (bnd rfl (c3 _))))) (by simp; omega)) (fun J=>evw_call (d:=q.2.d) (bnd rfl (bnd rfl (s3 _))) (cw _)) (by simp only [List.length_append,List.length_cons,List.length_nil]; omega)) (fun J=>cl_ev) (by simp only [List.length_append,List.length_cons,List.length_nil]; omega)
    obtain ⟨n',x',J',e,g⟩:=iw_loop cl dd h qs ((((acc ++ [("(":Str),"on"]) ++ q.1) ++ wr q.2) ++ [(")":Str)]) n1 (some (hdD q.1 q.2)) (J ++ J1) (fun z hz=>hq z (List.mem_cons_of_mem _ hz)) (by rw [<- List.append_assoc]; exact g1) (by simp only [List.length_append,List.length_cons,List.length_nil]; omega)
    refine ⟨n',x',J',?_,by rw [g]; simp [qw]⟩
    rw [List.map_cons]
    refine for_n stay_nil (ρ':=[some dd,some (.loc n1),some (hdD q.1 q.2)]) (h':=h ++ (J ++ J1)) ?_ e
    rw [<- List.append_assoc]
    exact set_s ev rfl
noncomputable def hdEnd:E:=retE (headS (dropS 3 d_law_item_words.body))
theorem r_iw_hd (cl:Nat->List D->Hh->Res D) (nm:Str) (qs:List (List Str × G)) (e:List Str × G) (h:Hh) (hw:(Itm.hd nm qs e).wd) (C:∀ q ∈ qs,WordsAt cl q.2) (Ce:WordsAt cl e.2):∃ n J,d_law_item_words.run cl [(Itm.hd nm qs e).d] h=.ok (.loc n) (h ++ J) /\ (h ++ J)[n]?=some (.lst ((iw (.hd nm qs e)).map D.str)):=by
  obtain ⟨w1,w2,w3,w4⟩:=hw
  obtain ⟨o1,o2,o3,o4⟩:=w4
  have wl:=wr_len e.2
  have ed:(Itm.hd nm qs e).d=.tup [.str "handler",.str nm,.tup (qs.map fun q=>hdD q.1 q.2),hdD e.1 e.2]:=rfl
  rw [ed]
  obtain ⟨dd,hdd⟩:∃ dd,dd=D.tup [.str "handler",.str nm,.tup (qs.map fun q=>hdD q.1 q.2),hdD e.1 e.2]:=⟨_,rfl⟩
  have s0:∀ h,subD dd (.int 0) h=.ok (.str "handler") h:=fun h=>by rw [hdd]; rfl
  have s1:∀ h,subD dd (.int 1) h=.ok (.str nm) h:=fun h=>by rw [hdd]; rfl
  have s2:∀ h,subD dd (.int 2) h=.ok (.tup (qs.map fun q=>hdD q.1 q.2)) h:=fun h=>by rw [hdd]; rfl
  have s3:∀ h,subD dd (.int 3) h=.ok (hdD e.1 e.2) h:=fun h=>by rw [hdd]; rfl
  rw [<- hdd]
  have e1:=fun h=>eqS (h:=h) so_hd so_def
  simp only [show (("handler":Str) == ("def":Str))=false by decide] at e1
  obtain ⟨n1,x1,J1,lp,g1⟩:=iw_loop cl dd h qs [("(":Str),"handler",nm] h.length none [O.lst ([("(":Str),"handler",nm].map D.str)] (fun q hq=>⟨w2 q hq,C q hq⟩) (by rw [hx0]; rfl) (by simp; omega)
  have fl:(qs.map fun q=>qw q "on").flatten.length<=9100 * qs.length:=by
    have:∀ rs:List (List Str × G),(∀ q ∈ rs,okQ q 3)->(rs.map fun q=>qw q "on").flatten.length<=9100 * rs.length:=by
      intro rs
      induction rs with
      | nil=>intro _; simp
      | cons q r ih =>
        intro hr
        have a:=hr q (List.mem_cons_self ..)
        have b:=ih fun z hz=>hr z (List.mem_cons_of_mem _ hz)
        have c:=wr_len q.2
        have a2:=a.2.1
        have a4:=a.2.2.2
        simp only [List.map_cons,List.flatten_cons,List.length_append,List.length_cons,qw,List.length_nil] at *
        omega
    exact this qs w2
  obtain ⟨n,J3,ev3,g3⟩:EvW cl hdEnd [some dd,some (.loc n1),x1] (h ++ J1) (iw (.hd nm qs e)):=by
    have c2:∀ h,cutD (hdD e.1 e.2) none (some 2) h=.ok (.tup (e.1.map D.str)) h:=fun h=>cut_hd e 2 o2 h
    have t2:∀ h,subD (hdD e.1 e.2) (.int 2) h=.ok e.2.d h:=fun h=>sub_hd e 2 o2 h
    exact evw_add (evw_add (evw_add (evw_add (evw_var rfl g1) (fun J=>evw_disp (ws:=["(","end"]) rfl (by decide)) (by simp only [List.length_append,List.length_cons,List.length_nil]; omega)) (fun J=>evw_listE (ws:=e.1) (bnd (bnd rfl (bnd rfl (s3 _))) (bnd rfl (bnd rfl (c2 _))))) (by simp only [List.length_append,List.length_cons,List.length_nil]; omega)) (fun J=>evw_call (d:=e.2.d) (bnd (bnd rfl (bnd rfl (s3 _))) (bnd rfl (t2 _))) (Ce _)) (by simp only [List.length_append,List.length_cons,List.length_nil]; omega)) (fun J=>evw_disp (ws:=[")",")"]) rfl (by decide)) (by simp only [List.length_append,List.length_cons,List.length_nil]; omega)
  refine ⟨n,J1 ++ J3,?_,by rw [<- List.append_assoc]; exact g3⟩
  rw [<- List.append_assoc]
  exact out_rt (set_s (bnd (bnd (es_c rfl (es_c (bnd rfl (bnd rfl (s0 _))) (es_c (bnd rfl (bnd rfl (s1 _))) rfl))) rfl) rfl) (iff_f (t_cmp (bnd rfl (bnd rfl (s0 _))) rfl (e1 _)) (forr_s (seq_tup (bnd rfl (bnd rfl (s2 _)))) lp (ret_r ev3))))
end K13
set_option Elab.async false
set_option linter.all false
set_option maxRecDepth 100000
set_option maxHeartbeats 4000000
namespace K13
set_option genInjectivity false
open PySem L2 PI
noncomputable def azS:Str:="abcdefghijklmnopqrstuvwxyz"
theorem az_cs:cs azS=(List.range 26).map (· + 97):=by decide
theorem az_at (i:Int) (h0:0<=i) (h1:i < 26):subD (.str azS) (.int i)=fun h=>.ok (.str (mkS [97 + i.toNat])) h:=by
  funext h
  rw [sub_str,if_pos (by decide)]
  have:atI azS.cps.toList i=some (97 + i.toNat):=by
    rw [atI_pos h0]
    show (cs azS)[i.toNat]?=_
    rw [az_cs,List.getElem?_map,List.getElem?_range (by omega)]
    simp; omega
  rw [this]
  rfl
theorem name_loop (cl:Nat->List D->Hh->Res D) (c:Int) (sz:D) (h:Hh):∀ (m k:Nat) (rest:Int) (T:List Nat) (x y:Option D),k + m<=8->low T->T.length=k ->
    ∃ rest' T' x' y',forL [] (stepF t_law_name_1 fun ρ' h'=>b_law_name_1.run cl ρ' h') ((List.range' k m).map fun (j:Nat)=>D.int (j:Nat)) [some (.int c),some sz,some (.int rest),some (.str (mkS T)),x,y] h=.nx [some (.int c),some sz,some (.int rest'),some (.str (mkS T')),x',y'] h /\ low T' /\ T'.length=k + m
  | 0,k,rest,T,x,y,_,hT,hl=>⟨rest,T,x,y,by simp [forL,stay_nil],hT,by omega⟩
  | m + 1,k,rest,T,x,y,hk,hT,hl=>by
    obtain ⟨a,ha⟩:∃ a,a=(rest + 11 * (k:Int) * (c % 3)) % 26:=⟨_,rfl⟩
    have a0:0<=a:=by omega
    have a1:a < 26:=by omega
    have f1:fits (11:Int)=true:=by decide
    have f2:fits (k:Int)=true:=fits_lt (by omega)
    have f3:fits (11 * (k:Int))=true:=fits_lt (by omega)
    have f4:fits (c % 3)=true:=fits_lt (by omega)
    have sa:=az_at a a0 a1
    have st:stepF t_law_name_1 (fun ρ' h'=>b_law_name_1.run cl ρ' h') (.int (k:Nat)) [some (.int c),some sz,some (.int rest),some (.str (mkS T)),x,y] h=.nx [some (.int c),some sz,some (.int (rest / 26)),some (.str (mkS (T ++ [97 + a.toNat]))),some (.int (k:Nat)),some (.int a)] h:=by
      have e1:(mkS T).length + (mkS [97 + a.toNat]).length<=1000000:=by rw [mk_len,mk_len]; simp; omega
      have e2:mkS T ++ mkS [97 + a.toNat]=mkS (T ++ [97 + a.toNat]):=mk_append _ _
      have sa':∀ h,subD (.str (Str.ofString "abcdefghijklmnopqrstuvwxyz")) (.int a) h=.ok (.str (mkS [97 + a.toNat])) h:=fun h=>congrFun sa h
      rw [<- e2]
      subst ha
      exact set_s (bnd (bnd rfl (bnd (bnd (bnd rfl (bnd rfl (mlk f1 f2))) (bnd (bnd rfl (bnd rfl (mdk (by decide)))) (mlk f3 f4))) rfl)) (bnd rfl (mdk (by decide)))) (set_s (bnd rfl (bnd (bnd rfl (bnd rfl (sa' h))) (if_pos e1:binD .Add (.str (mkS T)) (.str (mkS _)) h=_))) (set_s (fd_ev rfl (by decide)) rfl))
    obtain ⟨r',T',x',y',e,h1,h2⟩:=name_loop cl c sz h m (k + 1) (rest / 26) (T ++ [97 + a.toNat]) (some (.int (k:Nat))) (some (.int a)) (by omega) (by
      intro z hz
      rcases List.mem_append.mp hz with q | q
      · exact hT z q
      · rw [List.mem_singleton.mp q]; omega) (by simp [hl])
    refine ⟨r',T',x',y',?_,h1,by omega⟩
    rw [List.range'_succ,List.map_cons]
    exact for_n stay_nil st e
theorem low_nm {T:List Nat} (h:low T) (h1:T ≠ []) (h2:T.length<=8) (h3:resW.any (fun y=>y == mkS T)=false):Nm (mkS T):=⟨by rw [cs_mk]; exact h,by rw [cs_mk]; exact h1,by rw [cs_mk]; exact h2,h3⟩
theorem more_nm {ys:List Str} {z:Str} {T:List Nat} (h:ys.any (fun y=>y == mkS T)=true) (hz:ys.all (fun y=>!(resW.any fun x=>x == y ++ z) && decide ((y ++ z).length<=8))=true):resW.any (fun y=>y == mkS T ++ z)=false /\ (mkS T ++ z).length<=8:=by
  obtain ⟨y,hy,e⟩:=List.any_eq_true.mp h
  have e:=eq_of_beq e
  subst e
  have:=List.all_eq_true.mp hz _ hy
  rw [Bool.and_eq_true,Bool.not_eq_true'] at this
  exact ⟨this.1,of_decide_eq_true this.2⟩
theorem inL (x:Str) (ys:List Str) (h:Hh) (n:Nat) (e:h[n]?=some (.lst (ys.map D.str))):inD false (.str x) (.loc n) h=.ok (.bl (ys.any fun y=>y == x)) h:=by
  unfold inD
  simp only [e]
  rw [in_strs]
  rfl
noncomputable def w7:List Str:=["def","handler","on","end","let","if","call"]
noncomputable def w5:List Str:=["hand","do","handle","go","guard"]
noncomputable def condN:S->E
  | .iff c _ _ _=>c
  | _=>.non ⟨0,0,0,0⟩
theorem r_name (cl:Nat->List D->Hh->Res D) (c:Int) (h:Hh):∃ w J,d_law_name.run cl [.int c] h=.ok (.str w) (h ++ J) /\ Nm w:=by
  obtain ⟨m,hm⟩:∃ m:Nat,(m:Int)=1 + c % 8:=⟨(1 + c % 8).toNat,by omega⟩
  obtain ⟨r',T,x',y',lp,hT,hl⟩:=name_loop cl c (.int (1 + c % 8)) h m 0 (c / 8) [] none none (by omega) (by intro z hz; cases hz) rfl
  have e1:mkS []=Str.ofString "":=by decide
  rw [e1] at lp
  rw [<- List.range_eq_range'] at lp
  have k1:(-1000000:Int)<=1 + c % 8:=by omega
  have k2:(1 + c % 8:Int)<=1000000:=by omega
  have k3:(1 + c % 8).toNat=m:=by omega
  have Tn:T ≠ []:=by intro z; rw [z] at hl; simp at hl; omega
  have hd:∀ {d' h'},Ss.run cl (dropS 4 d_law_name.body) [some (.int c),some (.int (1 + c % 8)),some (.int r'),some (.str (mkS T)),x',y'] h=.rt d' h'->d_law_name.run cl [.int c] h=.ok d' h':=fun k=>by
    refine out_rt (set_s (bnd rfl (bnd (bnd rfl (bnd rfl (mdk (by decide)))) rfl)) (set_s (fd_ev rfl (by decide)) (set_s rfl (forr_s (rng_s rfl (by omega)) ?_ k))))
    rw [k3]; exact lp
  have lz:(Str.ofString "z").length=1:=by decide
  have ly:(Str.ofString "y").length=1:=by decide
  have az:mkS T ++ Str.ofString "z"=mkS (T ++ [122]):=cs_inj (by rw [cs_append,cs_mk,cs_mk,show cs (Str.ofString "z")=[122] by decide])
  have ay:mkS T ++ Str.ofString "y"=mkS (T ++ [121]):=cs_inj (by rw [cs_append,cs_mk,cs_mk,show cs (Str.ofString "y")=[121] by decide])
  have kz:(mkS T).length + (Str.ofString "z").length<=1000000:=by rw [mk_len,lz]; omega
  have ky:(mkS T).length + (Str.ofString "y").length<=1000000:=by rw [mk_len,ly]; omega
  have lowz:∀ c,97<=c /\ c<=122->low (T ++ [c]):=by
    intro c hc z hz
    rcases List.mem_append.mp hz with q | q
    · exact hT z q
    · rw [List.mem_singleton.mp q]; exact hc
  obtain ⟨b1,hb1⟩:∃ b,w7.any (fun y=>y == mkS T)=b:=⟨_,rfl⟩
  obtain ⟨b2,hb2⟩:∃ b,w5.any (fun y=>y == mkS T)=b:=⟨_,rfl⟩
  have q7:cmpD .In (.str (mkS T)) (.loc h.length) (h ++ [O.lst (w7.map D.str)])=.ok (.bl b1) (h ++ [O.lst (w7.map D.str)]):=by rw [<- hb1]; exact inL (mkS T) w7 (h ++ [O.lst (w7.map D.str)]) h.length (by rw [hx0]; rfl)
  have q5:∀ H:Hh,cmpD .In (.str (mkS T)) (.loc H.length) (H ++ [O.lst (w5.map D.str)])=.ok (.bl b2) (H ++ [O.lst (w5.map D.str)]):=fun H=>by rw [<- hb2]; exact inL (mkS T) w5 (H ++ [O.lst (w5.map D.str)]) H.length (by rw [hx0]; rfl)
  have i1:∀ {ρ:En},ρ[3]?=some (some (.str (mkS T)))->E.evT cl (condN (headS (dropS 4 d_law_name.body))) ρ h=.ok b1 (h ++ [O.lst (w7.map D.str)]):=fun {ρ} q=>t_cmp (x:=.str (mkS T)) (h':=h) (by rw [vvar,q]) rfl q7
  have i2:∀ {ρ:En} {H:Hh},ρ[3]?=some (some (.str (mkS T)))->E.evT cl (condN (headS (dropS 5 d_law_name.body))) ρ H=.ok b2 (H ++ [O.lst (w5.map D.str)]):=fun {ρ H} q=>t_cmp (x:=.str (mkS T)) (h':=H) (by rw [vvar,q]) rfl (q5 H)
  cases b1 with
  | true =>
    refine ⟨mkS (T ++ [122]),[.lst (w7.map D.str)],?_,(by obtain ⟨q1,q2⟩:=more_nm (z:="z") hb1 (by decide); rw [az] at q1 q2; rw [mk_len] at q2; exact low_nm (lowz 122 (by decide)) (by simp) q2 q1)⟩
    rw [<- az]
    exact hd (iff_r (i1 rfl) (ret_r (bnd rfl (bnd rfl (if_pos kz:binD .Add (.str (mkS T)) (.str (Str.ofString "z")) _=_)))))
  | false =>
    cases b2 with
    | true =>
      refine ⟨mkS (T ++ [121]),[.lst (w7.map D.str)] ++ [.lst (w5.map D.str)],?_,(by obtain ⟨q1,q2⟩:=more_nm (z:="y") hb2 (by decide); rw [ay] at q1 q2; rw [mk_len] at q2; exact low_nm (lowz 121 (by decide)) (by simp) q2 q1)⟩
      rw [<- ay,<- List.append_assoc]
      exact hd (iff_f (i1 rfl) (iff_r (i2 rfl) (ret_r (bnd rfl (bnd rfl (if_pos ky:binD .Add (.str (mkS T)) (.str (Str.ofString "y")) _=_))))))
    | false =>
      refine ⟨mkS T,[.lst (w7.map D.str)] ++ [.lst (w5.map D.str)],?_,low_nm hT Tn (by omega) (by show (w7 ++ w5).any (fun y=>y == mkS T)=false; rw [List.any_append,hb1,hb2]; rfl)⟩
      rw [<- List.append_assoc]
      exact hd (iff_f (i1 rfl) (iff_f (i2 rfl) (ret_r rfl)))
theorem r_cell (cl:Nat->List D->Hh->Res D) (h:Hh) (ns:List Int) (k:Int) (hk:0<=k /\ k < 1000) (hb:∀ n ∈ ns,fits n=true):∃ v,d_law_cell.run cl [scr ns,.int k] h=.ok (.int v) h /\ 0<=v /\ v < 2147483629:=by
  have fk:fits k=true:=fits_lt (by omega)
  have f1:fits (7919:Int)=true:=by decide
  have f2:fits (48271:Int)=true:=by decide
  have sq:∀ n:Int,fits (n % 2147483647)=true:=fun n=>fits_lt (by omega)
  by_cases hl:0 < (ns.length:Int)
  · have hm0:0<=k % (ns.length:Int):=Int.emod_nonneg _ (by omega)
    have hm1:k % (ns.length:Int) < (ns.length:Int):=Int.emod_lt_of_pos _ hl
    have am:=at_map ns (k % (ns.length:Int)) hm0 hm1
    have fc:=cell_fits hb (k % (ns.length:Int))
    have hl':0 < ns.length:=by omega
    have hne:ns ≠ []:=by intro z; rw [z] at hl'; cases hl'
    obtain ⟨w,hw⟩:∃ w,w=(cellv ns (k % (ns.length:Int)) * 48271 + 7919 * k) % 2147483647:=⟨_,rfl⟩
    have fw:fits w=true:=by rw [hw]; exact sq _
    refine ⟨w * w % 2147483629,?_,by omega,by omega⟩
    have su:subD (scr ns) (.int (k % (ns.length:Int))) h=.ok (.int (cellv ns (k % (ns.length:Int)))) h:=by
      show (match atI (ns.map D.int) (k % (ns.length:Int)) with | some d=>Res.ok d h | none=>.no)=_
      rw [am]
    have le:lenD (scr ns) h=.ok (.int (ns.length:Nat)) h:=by show Res.ok (D.int ((ns.map D.int).length:Nat)) h=_; rw [List.length_map]
    have c0:cmpD .Gt (.int (ns.length:Nat)) (.int 0) h=.ok (.bl true) h:=by rw [cmp_gt]; congr 2; exact decide_eq_true hl
    subst hw
    exact out_rt (set_s (bnd (bnd rfl (bnd rfl (mlk f1 fk))) (bnd rfl rfl)) (iff_n (t_cmp (bnd rfl le) rfl c0) (set_s (bnd (bnd (bnd rfl (bnd (bnd rfl (bnd (bnd rfl le) (mdk hl))) su)) (bnd rfl (mlk fc f2))) (bnd (bnd rfl (bnd rfl (mlk f1 fk))) rfl)) rfl) (set_s (bnd rfl (bnd rfl (mdk (by decide)))) (ret_r (bnd (bnd rfl (bnd rfl (mlk fw fw))) (bnd rfl (mdk (by decide))))))))
  · have h0:ns=[]:=by cases ns with | nil=>rfl | cons x r=>exact absurd (by rw [List.length_cons]; omega) hl
    subst h0
    obtain ⟨w,hw⟩:∃ w,w=(7919 * k + 5) % 2147483647:=⟨_,rfl⟩
    have fw:fits w=true:=by rw [hw]; exact sq _
    refine ⟨w * w % 2147483629,?_,by omega,by omega⟩
    subst hw
    exact out_rt (set_s (bnd (bnd rfl (bnd rfl (mlk f1 fk))) (bnd rfl rfl)) (iff_f (h':=h) (t_cmp (bnd rfl rfl) rfl rfl) (set_s (bnd rfl (bnd rfl (mdk (by decide)))) (ret_r (bnd (bnd rfl (bnd rfl (mlk fw fw))) (bnd rfl (mdk (by decide))))))))
noncomputable def Feed (nf:Nat) (h:Hh):Prop:=∃ xs:List Int,h[nf]?=some (.lst (xs.map D.int)) /\ (∀ x ∈ xs,fits x=true) /\ xs.length<=40
noncomputable def Mv (nf:Nat) (h h':Hh):Prop:=h.length<=h'.length /\ ∀ n o,n ≠ nf->h[n]?=some o->h'[n]?=some o
theorem Mv.refl (nf:Nat) (h:Hh):Mv nf h h:=⟨Nat.le_refl _,fun _ _ _ e=>e⟩
theorem Mv.trans (nf:Nat) (a b d:Hh) (x:Mv nf a b) (y:Mv nf b d):Mv nf a d:=⟨Nat.le_trans x.1 y.1,fun n o hn e=>y.2 n o hn (x.2 n o hn e)⟩
theorem Mv.gr (nf:Nat) (h J:Hh):Mv nf h (h ++ J):=⟨by simp,fun n o _ e=>get_old e⟩
theorem Feed.gr {nf:Nat} {h:Hh} (f:Feed nf h) (J:Hh):Feed nf (h ++ J):=by obtain ⟨xs,e,r⟩:=f; exact ⟨xs,get_old e,r⟩
theorem r_next (cl:Nat->List D->Hh->Res D) (nf:Nat) (h:Hh) (f:Feed nf h):∃ v h',d_law_next.run cl [.loc nf] h=.ok (.int v) h' /\ Feed nf h' /\ Mv nf h h' /\ 0<=v /\ v < 2147483647:=by
  obtain ⟨xs,e,hf,hl⟩:=f
  have hn:nf < h.length:=(List.getElem?_eq_some_iff.mp e).1
  have r1:=rd_of e
  rcases List.eq_nil_or_concat xs with rfl | ⟨ys,y,rfl⟩
  · refine ⟨0,h,?_,⟨[],e,by simp,by simp⟩,Mv.refl _ _,by omega,by omega⟩
    exact out_rt (iff_f (h':=h) (t_cmp (bnd rfl (len_l e)) rfl rfl) (ret_r rfl))
  · rw [List.concat_eq_append] at *
    have fy:fits y=true:=hf y (by simp)
    have f2:fits (48271:Int)=true:=by decide
    have f1:fits (7919:Int)=true:=by decide
    have hl2:ys.length<=40:=by simp at hl; omega
    have f3:fits (ys.length:Int)=true:=fits_lt (by omega)
    refine ⟨(y * 48271 + 7919 * (ys.length:Int)) % 2147483647,h.set nf (.lst (ys.map D.int)),?_,⟨ys,List.getElem?_set_self hn,fun x hx=>hf x (by simp [hx]),hl2⟩,⟨by simp,fun n o hne eo=>by rw [List.getElem?_set_ne (Ne.symm hne)]; exact eo⟩,by omega,by omega⟩
    have r2:rd (h.set nf (.lst (ys.map D.int))) nf=some (ys.map D.int):=rd_of (List.getElem?_set_self hn)
    have e':h[nf]?=some (.lst (ys.map D.int ++ [.int y])):=by rw [e]; simp
    have r1':=rd_of e'
    have pos:(0:Int) < (ys.length:Int) + 1:=by omega
    have po:m0D .pop (.loc nf) h=.ok (.int y) (h.set nf (.lst (ys.map D.int))):=by
      unfold m0D
      dsimp only
      rw [e']
      simp
    have l2:lenD (.loc nf) (h.set nf (.lst (ys.map D.int)))=.ok (.int (ys.length:Nat)) (h.set nf (.lst (ys.map D.int))):=(len_l (List.getElem?_set_self hn)).trans (by rw [List.length_map])
    have c0:cmpD .Gt (.int ((ys.map D.int ++ [D.int y]).length:Nat)) (.int 0) h=.ok (.bl true) h:=by rw [cmp_gt]; congr 2; exact decide_eq_true (by rw [List.length_append]; simp)
    exact out_rt (iff_r (t_cmp (bnd rfl (len_l e')) rfl c0) (ret_r (bnd (bnd (bnd (bnd rfl po) (bnd rfl (mlk fy f2))) (bnd (bnd rfl (bnd (bnd rfl l2) (mlk f1 f3))) rfl)) (bnd rfl (mdk (by decide))))))
end K13
set_option Elab.async false
set_option linter.all false
set_option maxRecDepth 100000
set_option maxHeartbeats 4000000
namespace K13
set_option genInjectivity false
open PySem L2 PI
noncomputable def Bd:Nat->Nat
  | 0=>10
  | d + 1=>10 + 3 * (Bd d + 2)
structure Good (d:Nat) (g:G):Prop where
  wd:wdG g
  ok:g.ok=true
  ms:ms g<=Bd d
  dp:dp g<=d + 1
theorem Bd_ge (d:Nat):10<=Bd d:=by cases d with | zero=>simp [Bd] | succ d=>rw [Bd]; omega
theorem leaf_good (d:Nat) (k:Kd) (hk:Kd.wd k 0) (ho:k.ok 0=true):Good d (.nd k []):=⟨by rw [wdG]; exact ⟨hk,by rw [wdGs]; trivial⟩,by simp [G.ok,G.oks,ho],by rw [ms,mss]; exact Bd_ge d,by rw [dp,dps]; omega⟩
theorem node_good (d:Nat) (k:Kd) (ps:List G) (hk:Kd.wd k ps.length) (ho:k.ok ps.length=true) (hl:ps.length<=3) (hp:∀ g ∈ ps,Good d g):Good (d + 1) (.nd k ps):=by
  have h1:mss ps<=ps.length * (Bd d + 2):=by
    clear hk ho hl
    induction ps with
    | nil=>simp [mss]
    | cons g r ih =>
      have a:=(hp g (List.mem_cons_self ..)).ms
      have b:=ih fun z hz=>hp z (List.mem_cons_of_mem _ hz)
      rw [mss,List.length_cons,Nat.add_mul]
      omega
  have h2:ps.length * (Bd d + 2)<=3 * (Bd d + 2):=Nat.mul_le_mul_right _ hl
  have h3:dps ps<=d + 1:=by
    clear hk ho hl h1 h2
    induction ps with
    | nil=>simp [dps]
    | cons g r ih =>
      have a:=(hp g (List.mem_cons_self ..)).dp
      have b:=ih fun z hz=>hp z (List.mem_cons_of_mem _ hz)
      rw [dps]
      omega
  refine ⟨by rw [wdG]; exact ⟨hk,wdGs_mem.mpr fun g hg=>(hp g hg).wd⟩,?_,by rw [ms,Bd]; omega,by rw [dp]; omega⟩
  rw [G.ok,ho,oks_all]
  simpa using fun g hg=>(hp g hg).ok
noncomputable def PartAt (cl:Nat->List D->Hh->Res D) (nf d:Nat):Prop:=∀ h,Feed nf h->∃ g h',cl 21 [.loc nf,.int (d:Int)] h=.ok g.d h' /\ Feed nf h' /\ Mv nf h h' /\ Good d g
theorem gs_of:∀ {ds:List D} {d:Nat},(∀ x ∈ ds,∃ g:G,x=g.d /\ Good d g)->∃ gs:List G,ds=G.ds gs /\ ∀ g ∈ gs,Good d g
  | [],d,_=>⟨[],by rw [G.ds],by simp⟩
  | x :: r,d,h=>by
    obtain ⟨g,rfl,hg⟩:=h x (List.mem_cons_self ..)
    obtain ⟨gs,rfl,hgs⟩:=gs_of fun y hy=>h y (List.mem_cons_of_mem _ hy)
    exact ⟨g :: gs,by rw [G.ds],fun z hz=>by rcases List.mem_cons.mp hz with rfl | hz; exact hg; exact hgs z hz⟩
theorem part_comp {cl:Nat->List D->Hh->Res D} {nf d:Nat} (C:PartAt cl nf d) {f:D->Hh->Res (Option D)} (hf:∀ x h,f x h=(cl 21 [.loc nf,.int (d:Int)] h).bind fun y h2=>.ok (some y) h2) (m:Nat) (h:Hh) (hF:Feed nf h) :
    ∃ gs h',compL [] f ((List.range m).map fun (k:Nat)=>D.int (k:Nat)) [] h=.ok (G.ds gs) h' /\ Feed nf h' /\ Mv nf h h' /\ (∀ g ∈ gs,Good d g) /\ gs.length=m:=by
  obtain ⟨ds,h',e,f1,m1,q,l⟩:=compL_ex (c:=[]) (f:=f) (Feed nf) (Mv nf) (Mv.refl nf) (Mv.trans nf) (fun _ _=>stay_nil) (fun x=>∃ g:G,x=g.d /\ Good d g) ((List.range m).map fun (k:Nat)=>D.int (k:Nat)) [] h hF (by
    intro x _ h hF
    obtain ⟨g,h',c,f',m',gd⟩:=C h hF
    exact ⟨g.d,h',by rw [hf,c,bind_ok],f',m',g,rfl,gd⟩)
  obtain ⟨gs,rfl,hg⟩:=gs_of q
  exact ⟨gs,h',by simpa using e,f1,m1,hg,by simpa [ds_len] using l⟩
theorem sgn_at (i:Int) (h0:0<=i) (h1:i < 4):∃ w,Sg w /\ ∀ h,subD (.str (Str.ofString "+-*<")) (.int i) h=.ok (.str w) h:=by
  have hi:i=0 \/ i=1 \/ i=2 \/ i=3:=by omega
  have e:∀ h,subD (.str (Str.ofString "+-*<")) (.int i) h=match atI (cs (Str.ofString "+-*<")) i with | some c=>.ok (.str ⟨#[c]⟩) h | none=>.no:=fun h=>by rw [sub_str,if_pos (by decide)]; rfl
  have e4:cs (Str.ofString "+-*<")=[43,45,42,60]:=by decide
  rw [e4] at e
  rcases hi with rfl | rfl | rfl | rfl
  · exact ⟨⟨#[43]⟩,.inl (by decide),e⟩
  · exact ⟨⟨#[45]⟩,.inr (.inl (by decide)),e⟩
  · exact ⟨⟨#[42]⟩,.inr (.inr (.inl (by decide))),e⟩
  · exact ⟨⟨#[60]⟩,.inr (.inr (.inr (by decide))),e⟩
noncomputable def condOf:S->E
  | .iff c _ _ _=>c
  | _=>.non ⟨0,0,0,0⟩
noncomputable def partLeafB:Ss:=bodyOf (headS (dropS 2 d_law_part.body))
theorem pt_ev {cl:Nat->List D->Hh->Res D} {ρ:En} {nf e:Nat} {h h3:Hh} {a:D} {p p1 p2 p3 p4 p5:Pos} (e0:ρ[0]?=some (some (.loc nf))) (e1:ρ[1]?=some (some (.int ((e + 1:Nat):Int)))) (c:cl 21 [.loc nf,.int (e:Int)] h=.ok a h3):E.ev cl (.call 21 (.var 0 p) (.cons (.bin .Sub (.var 1 p1) (.int 1 p2) p3) .nil) p4 p5) ρ h=.ok a h3:=by
  refine call_2 (x:=.loc nf) (y:=.int (e:Int)) (h':=h) (h2:=h) (by rw [vvar,e0]) (bnd (x:=.int ((e + 1:Nat):Int)) (by rw [vvar,e1]) (bnd rfl ?_)) c
  show Res.ok (D.int (((e + 1:Nat):Int) - 1)) h=_
  rw [show ((e + 1:Nat):Int) - 1=(e:Int) by omega]
theorem pt_f {cl:Nat->List D->Hh->Res D} {nf e:Nat} (x:D) (h:Hh) {p p1 p2 p3 p4 p5 p6:Pos} {ρ:En} (e0:ρ[0]?=some (some (.loc nf))) (e1:ρ[1]?=some (some (.int ((e + 1:Nat):Int)))):compF (.one 0 p) (capE [none,some 1,some 0] ρ) (fun ρ' h2=>Es.nil.evC cl ρ' h2) (fun ρ' h2=>(E.call 21 (.var 2 p1) (.cons (.bin .Sub (.var 1 p2) (.int 1 p3) p4) .nil) p5 p6).ev cl ρ' h2) x h=(cl 21 [.loc nf,.int (e:Int)] h).bind fun y h2=>.ok (some y) h2:=by
  have ec:capE [none,some 1,some 0] ρ=[none,some (.int ((e + 1:Nat):Int)),some (.loc nf)]:=by unfold capE; simp only [List.map_cons,List.map_nil,Option.bind_some,Option.bind_none,e0,e1]; rfl
  rw [ec]
  show (((cl 21 [.loc nf,.int (((e + 1:Nat):Int) - 1)] h)).bind fun y h2=>Res.ok (some y) h2)=_
  rw [show ((e + 1:Nat):Int) - 1=(e:Int) by omega]
theorem r_part (cl:Nat->List D->Hh->Res D) (nf d:Nat) (hd:d<=5) (C11:∀ h,Feed nf h->∃ v h',cl 19 [.loc nf] h=.ok (.int v) h' /\ Feed nf h' /\ Mv nf h h' /\ 0<=v /\ v < 2147483647)
    (C12:∀ c h,∃ w J,cl 20 [.int c] h=.ok (.str w) (h ++ J) /\ Nm w) (C13:∀ d',d=d' + 1->PartAt cl nf d') (h:Hh) (hF:Feed nf h) :
    ∃ g h',d_law_part.run cl [.loc nf,.int (d:Int)] h=.ok g.d h' /\ Feed nf h' /\ Mv nf h h' /\ Good d g:=by
  obtain ⟨v,h1,c11,F1,M1,v0,v1⟩:=C11 h hF
  obtain ⟨xs,x1,x2,x3⟩:=id F1
  have hs:∀ {d' h'},Ss.run cl (dropS 2 d_law_part.body) [some (.loc nf),some (.int (d:Int)),some (.int v),some (.int (v % 12)),none,none] h1=.rt d' h'->d_law_part.run cl [.loc nf,.int (d:Int)] h=.ok d' h':=fun k=>out_rt (set_s (call_1 rfl c11) (set_s (bnd rfl (bnd rfl (mdk (by decide)))) k))
  have le:lenD (.loc nf) h1=.ok (.int (xs.length:Nat)) h1:=(len_l x1).trans (by rw [List.length_map])
  by_cases hleaf:(d:Int)=0 \/ (xs.length:Int)=0 \/ v % 12 < 2
  ·
    have lf:∀ {d' h'},Ss.run cl partLeafB [some (.loc nf),some (.int (d:Int)),some (.int v),some (.int (v % 12)),none,none] h1=.rt d' h'->Ss.run cl (dropS 2 d_law_part.body) [some (.loc nf),some (.int (d:Int)),some (.int v),some (.int (v % 12)),none,none] h1=.rt d' h':=by
      intro d' h' k
      by_cases d0:(d:Int)=0
      · exact iff_r (t_orT (t_eqi rfl (beq_t d0))) k
      · by_cases l0:(xs.length:Int)=0
        · exact iff_r (t_or2 (t_eqi rfl (beq_f d0)) (t_ei (bnd rfl le) (beq_t l0))) k
        · exact iff_r (t_or3 (t_eqi rfl (beq_f d0)) (t_ei (bnd rfl le) (beq_f l0)) (t_lti rfl (decide_eq_true (by rcases hleaf with z | z | z; exact absurd z d0; exact absurd z l0; exact z)))) k
    have hr:v / 12 % 3=0 \/ v / 12 % 3=1 \/ v / 12 % 3=2:=by omega
    rcases hr with hr | hr | hr
    · refine ⟨.nd (.num (v / 36 % 1000)) [],h1,?_,F1,M1,leaf_good d _ ⟨by omega,by omega,rfl⟩ rfl⟩
      rw [d_num]
      exact hs (lf (iff_r (t_ei (md_ev rfl (by decide) (by decide)) (beq_t hr)) (ret_r (tup_s (es_c rfl (es_c (md_ev rfl (by decide) (by decide)) rfl)) (Nat.le_of_ble_eq_true rfl)))))
    · have f1:fits (v / 36)=true:=fits_lt (by omega)
      refine ⟨.nd (.num (v / 36 * 1000000007000003 % 1000000000000000000)) [],h1,?_,F1,M1,leaf_good d _ ⟨by omega,by omega,rfl⟩ rfl⟩
      rw [d_num]
      exact hs (lf (iff_f (t_ei (md_ev rfl (by decide) (by decide)) (beq_f (by omega))) (iff_r (t_ei (md_ev rfl (by decide) (by decide)) (beq_t hr)) (ret_r (tup_s (es_c rfl (es_c (bnd (bnd (fd_ev rfl (by decide)) (bnd rfl (mlk f1 (by decide)))) (bnd (x:=.int 1000000000000000000) (bnd rfl (bnd rfl rfl)) (mdk (by decide)))) rfl)) (Nat.le_of_ble_eq_true rfl))))))
    · obtain ⟨w,J,c12,ww⟩:=C12 (v / 36) h1
      refine ⟨.nd (.var w) [],h1 ++ J,?_,F1.gr J,Mv.trans nf _ _ _ M1 (Mv.gr nf h1 J),leaf_good d _ ⟨ww,rfl⟩ rfl⟩
      rw [d_var]
      exact hs (lf (iff_f (t_ei (md_ev rfl (by decide) (by decide)) (beq_f (by omega))) (iff_f (t_ei (md_ev rfl (by decide) (by decide)) (beq_f (by omega))) (ret_r (tup_s (es_c rfl (es_c (call_1 (fd_ev rfl (by decide)) c12) rfl)) (Nat.le_of_ble_eq_true rfl))))))
  ·
    have d0:¬ (d:Int)=0:=fun z=>hleaf (.inl z)
    have l0:¬ (xs.length:Int)=0:=fun z=>hleaf (.inr (.inl z))
    have p2:¬ v % 12 < 2:=fun z=>hleaf (.inr (.inr z))
    obtain ⟨e,he⟩:∃ e,d=e + 1:=⟨d - 1,by omega⟩
    have CP:=C13 e he
    subst he
    obtain ⟨w,J,c12,ww⟩:=C12 (v / 48) h1
    have F2:Feed nf (h1 ++ J):=F1.gr J
    have M2:Mv nf h (h1 ++ J):=Mv.trans nf _ _ _ M1 (Mv.gr nf h1 J)
    have nd:∀ {d' h'},Ss.run cl (dropS 4 d_law_part.body) [some (.loc nf),some (.int ((e + 1:Nat):Int)),some (.int v),some (.int (v % 12)),some (.str w),none] (h1 ++ J)=.rt d' h'->d_law_part.run cl [.loc nf,.int ((e + 1:Nat):Int)] h=.ok d' h':=fun k=>hs (iff_f (t_or3 (t_eqi rfl (beq_f d0)) (t_ei (bnd rfl le) (beq_f l0)) (t_lti rfl (decide_eq_false p2))) (set_s (call_1 (fd_ev rfl (by decide)) c12) k))
    have H0:nf < (h1 ++ J).length:=by obtain ⟨ys,y1,_⟩:=F2; exact (List.getElem?_eq_some_iff.mp y1).1
    generalize h1 ++ J=H at *
    have two:∀ h2,Feed nf h2->∃ a b h3 h4,cl 21 [.loc nf,.int (e:Int)] h2=.ok (G.d a) h3 /\ cl 21 [.loc nf,.int (e:Int)] h3=.ok (G.d b) h4 /\ Feed nf h4 /\ Mv nf h2 h4 /\ Good e a /\ Good e b:=by
      intro h2 f2
      obtain ⟨a,h3,ca,Fa,Ma,ga⟩:=CP h2 f2
      obtain ⟨b,h4,cb,Fb,Mb,gb⟩:=CP h3 Fa
      exact ⟨a,b,h3,h4,ca,cb,Fb,Mv.trans nf _ _ _ Ma Mb,ga,gb⟩
    have good2:∀ (k:Kd) (a b:G),Kd.wd k 2->k.ok 2=true->Good e a->Good e b->Good (e + 1) (.nd k [a,b]):=fun k a b hk ho ga gb=>node_good e k [a,b] hk ho (by simp) (by intro g hg; simp at hg; rcases hg with rfl | rfl; exact ga; exact gb)
    have g4:¬ v % 12 < 4->∀ {r d' h'},Ss.run cl (dropS 5 d_law_part.body) r H=.rt d' h'->r[3]?=some (some (.int (v % 12)))->Ss.run cl (dropS 4 d_law_part.body) r H=.rt d' h':=fun z {r d' h'} k q=>iff_f (t_lti q (decide_eq_false z)) k
    have g5:v % 12 ≠ 5->∀ {r d' h'},Ss.run cl (dropS 6 d_law_part.body) r H=.rt d' h'->r[3]?=some (some (.int (v % 12)))->Ss.run cl (dropS 5 d_law_part.body) r H=.rt d' h':=fun z {r d' h'} k q=>iff_f (t_eqi q (beq_f z)) k
    have g6:v % 12 ≠ 6->v % 12 ≠ 7->∀ {r d' h'},Ss.run cl (dropS 7 d_law_part.body) r H=.rt d' h'->r[3]?=some (some (.int (v % 12)))->Ss.run cl (dropS 6 d_law_part.body) r H=.rt d' h':=fun z z2 {r d' h'} k q=>iff_f (t_or (t_eqi q (beq_f z)) (t_eqi q (beq_f z2))) k
    have g8:v % 12 ≠ 8->∀ {r d' h'},Ss.run cl (dropS 8 d_law_part.body) r H=.rt d' h'->r[3]?=some (some (.int (v % 12)))->Ss.run cl (dropS 7 d_law_part.body) r H=.rt d' h':=fun z {r d' h'} k q=>iff_f (t_eqi q (beq_f z)) k
    have g9:v % 12 ≠ 4->v % 12 ≠ 9->∀ {r d' h'},Ss.run cl (dropS 9 d_law_part.body) r H=.rt d' h'->r[3]?=some (some (.int (v % 12)))->Ss.run cl (dropS 8 d_law_part.body) r H=.rt d' h':=fun z z2 {r d' h'} k q=>iff_f (t_or (t_eqi q (beq_f z)) (t_eqi q (beq_f z2))) k
    by_cases q4:v % 12 < 4
    · obtain ⟨sg,wsg,ssg⟩:=sgn_at (v / 12 % 4) (by omega) (by omega)
      obtain ⟨a,b,h3,h4,ca,cb,F4,M4,ga,gb⟩:=two H F2
      refine ⟨.nd (.op sg) [a,b],h4,?_,F4,Mv.trans nf _ _ _ M2 M4,good2 _ a b wsg rfl ga gb⟩
      rw [d_2]
      exact nd (iff_r (t_lti rfl (decide_eq_true q4)) (ret_r (tup_s (es_c rfl (es_c (bnd rfl (bnd (md_ev rfl (by decide) (by decide)) (ssg _))) (es_c (pt_ev rfl rfl ca) (es_c (pt_ev rfl rfl cb) rfl)))) (Nat.le_of_ble_eq_true rfl))))
    by_cases q5:v % 12=5
    · obtain ⟨gs,h3,ec,F3,M3,gg,gl⟩:=part_comp CP (f:=compF t_law_part_2 (capE [none,some 1,some 0] [some (.loc nf),some (.int ((e + 1:Nat):Int)),some (.int v),some (.int (v % 12)),some (.str w),none]) (fun ρ' h2=>c_law_part_2.evC cl ρ' h2) (fun ρ' h2=>e_law_part_2.ev cl ρ' h2)) (fun x h=>pt_f x h rfl rfl) 3 (H ++ [.lst [.str "if"]]) (F2.gr _)
      have g1:(h3)[H.length]?=some (.lst [.str "if"]):=M3.2 _ _ (by omega) (by rw [hx0]; rfl)
      refine ⟨.nd .ite gs,h3 ++ [.lst (G.ds gs)] ++ [.lst ([.str "if"] ++ G.ds gs)],?_,(F3.gr _).gr _,Mv.trans nf _ _ _ M2 (Mv.trans nf _ _ _ (Mv.gr nf H _) (Mv.trans nf _ _ _ M3 (Mv.trans nf _ _ _ (Mv.gr nf h3 _) (Mv.gr nf _ _)))),node_good e .ite gs trivial (by simp [Kd.ok,gl]) (by omega) gg⟩
      have dl:=ds_len gs
      rw [G.d]
      exact nd (g4 q4 (iff_r (t_eqi rfl (beq_t q5)) (ret_r (tupE_s (addL_s (n:=H.length) (h1:=H ++ [O.lst [D.str "if"]]) rfl (ofL_comp (rng_s rfl (by decide)) (Nat.le_of_ble_eq_true rfl) ec) (get_old g1) (by rw [hx0]; rfl) (by show 1 + _<=1000000; omega)) (show rd _ _=_ by rw [rdx0]; rfl)))) rfl)
    by_cases q6:v % 12=6 \/ v % 12=7
    · obtain ⟨m,hm⟩:∃ m:Nat,(m:Int)=v / 12 % 4:=⟨(v / 12 % 4).toNat,by omega⟩
      have mt:(v / 12 % 4).toNat=m:=by omega
      have c6:∀ {r:En} {h':Hh},r[3]?=some (some (.int (v % 12)))->E.evT cl (.or (.cmp .Eq (.var 3 ⟨156,7,156,16⟩) (.int 6 ⟨156,20,156,21⟩) ⟨156,7,156,21⟩) (.cmp .Eq (.var 3 ⟨156,25,156,34⟩) (.int 7 ⟨156,38,156,39⟩) ⟨156,25,156,39⟩) .nil ⟨156,7,156,39⟩) r h'=.ok true h':=fun q=>by
        by_cases z:v % 12=6
        · exact t_orT (t_eqi q (beq_t z))
        · exact t_or (t_eqi q (beq_f z)) (t_eqi q (beq_t (by omega)))
      obtain ⟨b,h5,F5,M5,wb,sb⟩:∃ (b:Option Str) (h5:Hh),Feed nf h5 /\ Mv nf H h5 /\ (∀ x,b=some x->Nm x) /\ ∀ {r d' h'},Ss.run cl r [some (.loc nf),some (.int ((e + 1:Nat):Int)),some (.int v),some (.int (v % 12)),some (.str w),some (optD b)] h5=.rt d' h'->Ss.run cl (.cons (headS (dropS 1 (bodyOf (headS (dropS 6 d_law_part.body))))) r) [some (.loc nf),some (.int ((e + 1:Nat):Int)),some (.int v),some (.int (v % 12)),some (.str w),some .non] H=.rt d' h':=by
        by_cases z:v % 12=7
        · obtain ⟨v2,h5,c11b,F5,M5,_,_⟩:=C11 H F2
          obtain ⟨w2,J2,c12b,ww2⟩:=C12 v2 h5
          exact ⟨some w2,h5 ++ J2,F5.gr _,Mv.trans nf _ _ _ M5 (Mv.gr nf h5 J2),fun x hx=>by cases hx; exact ww2,fun k=>iff_n (t_eqi rfl (beq_t z)) (set_s (call_1 (call_1 rfl c11b) c12b) rfl) k⟩
        · exact ⟨none,H,F2,Mv.refl nf H,fun x hx=>(nomatch hx),fun k=>iff_f (t_eqi rfl (beq_f z)) k⟩
      obtain ⟨gs,h3,ec,F3,M3,gg,gl⟩:=part_comp CP (f:=compF t_law_part_1 (capE [none,some 1,some 0] [some (.loc nf),some (.int ((e + 1:Nat):Int)),some (.int v),some (.int (v % 12)),some (.str w),some (optD b)]) (fun ρ' h2=>c_law_part_1.evC cl ρ' h2) (fun ρ' h2=>e_law_part_1.ev cl ρ' h2)) (fun x h=>pt_f x h rfl rfl) m h5 F5
      refine ⟨.nd (.call w b) gs,h3,?_,F3,Mv.trans nf _ _ _ M2 (Mv.trans nf _ _ _ M5 M3),node_good e (.call w b) gs ⟨ww,wb⟩ rfl (by omega) gg⟩
      rw [G.d]
      refine nd (g4 q4 (g5 q5 (iff_r (c6 rfl) (set_s rfl (sb (ret_r (tup_s (es_c rfl (es_c rfl (es_c rfl (es_c (tupL_s (comp_s (rng_s (md_ev rfl (by decide) (by decide)) (by omega)) ?_ ?_)) rfl)))) (Nat.le_of_ble_eq_true rfl)))))) rfl) rfl)
      · rw [List.length_map,List.length_range,mt]; omega
      · rw [mt]; exact ec
    have n6:v % 12 ≠ 6:=fun z=>q6 (.inl z)
    have n7:v % 12 ≠ 7:=fun z=>q6 (.inr z)
    by_cases q8:v % 12=8
    · obtain ⟨a,h3,ca,F3,M3,ga⟩:=CP H F2
      refine ⟨.nd (.doo w) [a],h3,?_,F3,Mv.trans nf _ _ _ M2 M3,node_good e (.doo w) [a] ww rfl (by simp) (by intro g hg; rw [List.mem_singleton.mp hg]; exact ga)⟩
      rw [d_1]
      exact nd (g4 q4 (g5 q5 (g6 n6 n7 (iff_r (t_eqi rfl (beq_t q8)) (ret_r (tup_s (es_c rfl (es_c rfl (es_c (pt_ev rfl rfl ca) rfl))) (Nat.le_of_ble_eq_true rfl)))) rfl) rfl) rfl)
    by_cases q9:v % 12=4 \/ v % 12=9
    · obtain ⟨a,b,h3,h4,ca,cb,F4,M4,ga,gb⟩:=two (H ++ [.lst [.str "let",.str "handle"]]) (F2.gr _)
      obtain ⟨k,hk,hk2,t,ht,hk3⟩:∃ k:Kd,Kd.wd k 2 /\ k.ok 2=true /\ ∃ t:Bool,(v % 12 == 9)=t /\ ([D.str "let",.str "handle"][(if t then 1 else 0)]?=some (.str k.tag) /\ ∀ l,k.enc l=.tup (.str k.tag :: .str w :: l)):=by
        by_cases z:v % 12=9
        · exact ⟨.handle w,ww,rfl,true,beq_t z,rfl,fun l=>rfl⟩
        · exact ⟨.lett w,ww,rfl,false,beq_f z,rfl,fun l=>rfl⟩
      refine ⟨.nd k [a,b],h4,?_,F4,Mv.trans nf _ _ _ M2 (Mv.trans nf _ _ _ (Mv.gr nf H _) M4),good2 _ a b hk hk2 ga gb⟩
      rw [d_2,hk3.2]
      have c9:∀ {r:En} {h':Hh},r[3]?=some (some (.int (v % 12)))->E.evT cl (condOf (headS (dropS 8 d_law_part.body))) r h'=.ok true h':=fun q=>by
        by_cases z:v % 12=4
        · exact t_orT (t_eqi q (beq_t z))
        · exact t_or (t_eqi q (beq_f z)) (t_eqi q (beq_t (by omega)))
      refine nd (g4 q4 (g5 q5 (g6 n6 n7 (g8 q8 (iff_r (c9 rfl) (ret_r (tup_s (es_c (bnd (x:=.loc H.length) (h:=H ++ [.lst [.str "let",.str "handle"]]) rfl (bnd (x:=.int (if t then 1 else 0)) (h:=H ++ [O.lst [D.str "let",D.str "handle"]]) (bnd (evT_bl (t_eqi rfl ht)) ?_) ?_)) (es_c rfl (es_c (pt_ev rfl rfl ca) (es_c (pt_ev rfl rfl cb) rfl)))) (Nat.le_of_ble_eq_true rfl)))) rfl) rfl) rfl) rfl)
      · rfl
      · cases t
        · exact sub_l (k:=0) (by rw [hx0]; rfl) hk3.1
        · exact sub_l (k:=1) (by rw [hx0]; rfl) hk3.1
    · obtain ⟨a,b,h3,h4,ca,cb,F4,M4,ga,gb⟩:=two (H ++ [.lst [.str "go",.str "guard"]]) (F2.gr _)
      obtain ⟨k,hk,hk2,m,hm,hk3⟩:∃ k:Kd,Kd.wd k 2 /\ k.ok 2=true /\ ∃ m:Nat,v % 12 - 10=(m:Int) /\ ([D.str "go",.str "guard"][m]?=some (.str k.tag) /\ ∀ l,k.enc l=.tup (.str k.tag :: l)):=by
        by_cases z:v % 12=10
        · exact ⟨.go,trivial,rfl,0,by rw [z]; rfl,rfl,fun l=>rfl⟩
        · have a4:4<=v % 12:=Int.not_lt.mp q4
          have a5:5<=v % 12:=Int.lt_iff_le_and_ne.mpr ⟨a4,fun e=>q9 (.inl e.symm)⟩
          have a6:6<=v % 12:=Int.lt_iff_le_and_ne.mpr ⟨a5,fun e=>q5 e.symm⟩
          have a7:7<=v % 12:=Int.lt_iff_le_and_ne.mpr ⟨a6,fun e=>n6 e.symm⟩
          have a8:8<=v % 12:=Int.lt_iff_le_and_ne.mpr ⟨a7,fun e=>n7 e.symm⟩
          have a9:9<=v % 12:=Int.lt_iff_le_and_ne.mpr ⟨a8,fun e=>q8 e.symm⟩
          have a10:10<=v % 12:=Int.lt_iff_le_and_ne.mpr ⟨a9,fun e=>q9 (.inr e.symm)⟩
          have a11:11<=v % 12:=Int.lt_iff_le_and_ne.mpr ⟨a10,fun e=>z e.symm⟩
          have e11:v % 12=11:=Int.le_antisymm (Int.le_of_lt_add_one (Int.emod_lt_of_pos v (by decide))) a11
          exact ⟨.guard,trivial,rfl,1,by rw [e11]; rfl,rfl,fun l=>rfl⟩
      refine ⟨.nd k [a,b],h4,?_,F4,Mv.trans nf _ _ _ M2 (Mv.trans nf _ _ _ (Mv.gr nf H _) M4),good2 _ a b hk hk2 ga gb⟩
      rw [d_2,hk3.2]
      refine nd (g4 q4 (g5 q5 (g6 n6 n7 (g8 q8 (g9 (fun z=>q9 (.inl z)) (fun z=>q9 (.inr z)) (ret_r (tup_s (es_c (bnd (x:=.loc H.length) (h:=H ++ [.lst [.str "go",.str "guard"]]) rfl (bnd (x:=.int (m:Int)) (h:=H ++ [O.lst [D.str "go",D.str "guard"]]) (bnd rfl (bnd rfl ?_)) (sub_l (by rw [hx0]; rfl) hk3.1))) (es_c (pt_ev rfl rfl ca) (es_c (pt_ev rfl rfl cb) rfl))) (Nat.le_of_ble_eq_true rfl))) rfl) rfl) rfl) rfl) rfl)
      show Res.ok (D.int (v % 12 - 10)) _=_
      rw [hm]
end K13
set_option Elab.async false
set_option linter.all false
set_option maxRecDepth 100000
set_option maxHeartbeats 4000000
namespace K13
set_option genInjectivity false
open PySem L2 PI
structure Gn (k:Nat) (g:G):Prop where
  wd:wdG g
  ok:g.ok=true
  ms:ms g<=10 + 40 * k
  dp:dp g<=k + 1
  bd:bd g<=k
theorem gn_leaf (kd:Kd) (h:Kd.wd kd 0) (ho:kd.ok 0=true) (hb:Kd.br kd=0):wdG (.nd kd []) /\ (G.nd kd []).ok=true /\ ms (.nd kd [])=10 /\ dp (.nd kd [])=1 /\ bd (.nd kd [])=0:=⟨by rw [wdG]; exact ⟨h,by rw [wdGs]; trivial⟩,by simp [G.ok,G.oks,ho],by rw [ms,mss],by rw [dp,dps],by rw [bd,bds,hb]⟩
theorem gn_node (k:Nat) (kd:Kd) (t:G) (pre suf:List G) (hk:Kd.wd kd (pre.length + 1 + suf.length)) (ho:kd.ok (pre.length + 1 + suf.length)=true) (ht:Gn k t) (hp:∀ g ∈ pre ++ suf,wdG g /\ g.ok=true /\ ms g=10 /\ dp g=1 /\ bd g=0) (hl:pre.length + suf.length<=2):Gn (k + 1) (.nd kd (pre ++ t :: suf)):=by
  have hall:∀ g ∈ pre ++ t :: suf,wdG g /\ g.ok=true:=by
    intro g hg
    rcases List.mem_append.mp hg with q | q
    · exact ⟨(hp g (List.mem_append.mpr (.inl q))).1,(hp g (List.mem_append.mpr (.inl q))).2.1⟩
    · rcases List.mem_cons.mp q with rfl | q
      · exact ⟨ht.wd,ht.ok⟩
      · exact ⟨(hp g (List.mem_append.mpr (.inr q))).1,(hp g (List.mem_append.mpr (.inr q))).2.1⟩
  have hm:∀ l:List G,(∀ g ∈ l,ms g=10 /\ dp g=1 /\ bd g=0)->mss l=12 * l.length /\ dps l<=1 /\ bds l=0:=by
    intro l
    induction l with
    | nil=>intro _; simp [mss,dps,bds]
    | cons g r ih =>
      intro hr
      obtain ⟨a,b,b2⟩:=ih fun z hz=>hr z (List.mem_cons_of_mem _ hz)
      have c:=hr g (List.mem_cons_self ..)
      exact ⟨by simp only [mss,List.length_cons,a,c.1]; omega,by simp only [dps,c.2.1]; exact Nat.max_le.mpr ⟨Nat.le_refl 1,b⟩,by simp only [bds,c.2.2,b2]; rfl⟩
  have ma:∀ a b:List G,mss (a ++ b)=mss a + mss b /\ dps (a ++ b)=max (dps a) (dps b) /\ bds (a ++ b)=max (bds a) (bds b):=by
    intro a b
    induction a with
    | nil=>simp [mss,dps,bds]
    | cons g r ih=>exact ⟨by simp only [List.cons_append,mss,ih.1,Nat.add_assoc],by simp only [List.cons_append,dps,ih.2.1,Nat.max_assoc],by simp only [List.cons_append,bds,ih.2.2,Nat.max_assoc]⟩
  obtain ⟨m1,d1,b1⟩:=hm pre fun g hg=>(hp g (List.mem_append.mpr (.inl hg))).2.2
  obtain ⟨m2,d2,b2⟩:=hm suf fun g hg=>(hp g (List.mem_append.mpr (.inr hg))).2.2
  obtain ⟨m3,d3,b3⟩:=ma pre (t :: suf)
  have e:(pre ++ t :: suf).length=pre.length + 1 + suf.length:=by simp; omega
  have tm:=ht.ms
  have td:=ht.dp
  have tb:=ht.bd
  refine ⟨by rw [wdG,e]; exact ⟨hk,wdGs_mem.mpr fun g hg=>(hall g hg).1⟩,?_,?_,?_,?_⟩
  · rw [G.ok,e,ho,oks_all,Bool.true_and]
    exact List.all_eq_true.mpr fun g hg=>(hall g hg).2
  · rw [ms,m3,mss,m1,m2]; clear d1 d2 d3 b1 b2 b3 td ma hm m1 m2 m3 tb; omega
  · rw [dp,d3,dps]
    exact Nat.le_trans (Nat.add_le_add_left (Nat.max_le.mpr ⟨Nat.le_trans d1 (by omega),Nat.max_le.mpr ⟨td,Nat.le_trans d2 (by omega)⟩⟩) 1) (Nat.le_of_eq (Nat.add_comm 1 (k + 1)))
  · have hb:Kd.br kd<=1:=by unfold Kd.br; split <;> decide
    rw [bd,b3,bds,b1,b2,Nat.zero_max,Nat.max_zero]
    exact Nat.le_trans (Nat.add_le_add hb tb) (Nat.le_of_eq (Nat.add_comm 1 k))
theorem nest_loop (cl:Nat->List D->Hh->Res D) (C12:∀ c h,∃ w J,cl 20 [.int c] h=.ok (.str w) (h ++ J) /\ Nm w) (c:Int) (hc0:0<=c) (dd:D):∀ (m k:Nat) (t:G) (h:Hh) (x y z:Option D),k + m<=30->Gn k t ->
    ∃ t' J x' y' z',forL [] (stepF t_law_nest_1 fun ρ' h'=>b_law_nest_1.run cl ρ' h') ((List.range' k m).map fun (j:Nat)=>D.int (j:Nat)) [some (.int c),some dd,some t.d,x,y,z] h=.nx [some (.int c),some dd,some (G.d t'),x',y',z'] (h ++ J) /\ Gn (k + m) t'
  | 0,k,t,h,x,y,z,_,ht=>⟨t,[],x,y,z,by simp [forL,stay_nil],by simpa using ht⟩
  | m + 1,k,t,h,x,y,z,hk,ht=>by
    obtain ⟨w,J,c12,ww⟩:=C12 (c / ((k:Int) + 2)) h
    obtain ⟨p,hp⟩:∃ p,p=c / (3 * (k:Int) + 1) % 4:=⟨_,rfl⟩
    have p0:p=0 \/ p=1 \/ p=2 \/ p=3:=by omega
    have f1:fits (3:Int)=true:=by decide
    have f2:fits (k:Int)=true:=fits_lt (by omega)
    have k1:(0:Int) < (k:Int) + 2:=by omega
    have k2:(k:Int) + 2 < 1073741824:=by omega
    have k3:(0:Int) < 3 * (k:Int) + 1:=by omega
    have k4:3 * (k:Int) + 1 < 1073741824:=by omega
    have nk:=gn_leaf (.num (k:Int)) ⟨by omega,by omega,rfl⟩ rfl rfl
    have n7:=gn_leaf (.num 7) ⟨by decide,by decide,rfl⟩ rfl rfl
    have nv:=gn_leaf (.var w) ⟨ww,rfl⟩ rfl rfl
    have hd:∀ {ρ' h'},Ss.run cl (dropS 2 b_law_nest_1) [some (.int c),some dd,some t.d,some (.int (k:Nat)),some (.str w),some (.int p)] (h ++ J)=.nx ρ' h'->stepF t_law_nest_1 (fun ρ' h'=>b_law_nest_1.run cl ρ' h') (.int (k:Nat)) [some (.int c),some dd,some t.d,x,y,z] h=.nx ρ' h':=fun q=>by
      subst hp
      exact set_s (call_1 (bnd rfl (bnd (bnd rfl (bnd rfl rfl)) (fdk ⟨k1,k2⟩))) c12) (set_s (bnd (bnd rfl (bnd (bnd (bnd rfl (bnd rfl (mlk f1 f2))) (bnd rfl rfl)) (fdk ⟨k3,k4⟩))) (bnd rfl (mdk (by decide)))) q)
    have no:∀ {q:Int} {a r:Ss} {ρ:En} {o:RS} {p1 p2 p3 p4:Pos},p ≠ q->ρ[5]?=some (some (.int p))->Ss.run cl r ρ (h ++ J)=o->Ss.run cl (.cons (.iff (.cmp .Eq (.var 5 p1) (.int q p2) p3) a .nil p4) r) ρ (h ++ J)=o:=fun hq e5 k=>iff_f (t_eqi e5 (beq_f hq)) k
    obtain ⟨t2,g2,st⟩:∃ t2,Gn (k + 1) t2 /\ stepF t_law_nest_1 (fun ρ' h'=>b_law_nest_1.run cl ρ' h') (.int (k:Nat)) [some (.int c),some dd,some t.d,x,y,z] h=.nx [some (.int c),some dd,some (G.d t2),some (.int (k:Nat)),some (.str w),some (.int p)] (h ++ J):=by
      rcases p0 with q | q | q | q
      · refine ⟨.nd .guard [.nd (.num (k:Int)) [],t],gn_node k .guard t [.nd (.num (k:Int)) []] [] trivial rfl ht (by intro g hg; simp at hg; rw [hg]; exact nk) (by simp),?_⟩
        rw [d_2,d_num]
        exact hd (iff_n (t_eqi rfl (beq_t q)) (set_s rfl rfl) (no (by rw [q]; decide) rfl (no (by rw [q]; decide) rfl (no (by rw [q]; decide) rfl rfl))))
      · refine ⟨.nd (.doo w) [t],gn_node k (.doo w) t [] [] ww rfl ht (by intro g hg; cases hg) (by simp),?_⟩
        rw [d_1]
        exact hd (no (by rw [q]; decide) rfl (iff_n (t_eqi rfl (beq_t q)) (set_s rfl rfl) (no (by rw [q]; decide) rfl (no (by rw [q]; decide) rfl rfl))))
      · refine ⟨.nd (.call w none) [.nd (.var w) [],t],gn_node k (.call w none) t [.nd (.var w) []] [] ⟨ww,fun x hx=>by cases hx⟩ rfl ht (by intro g hg; simp at hg; rw [hg]; exact nv) (by simp),?_⟩
        rw [d_2,d_var]
        exact hd (no (by rw [q]; decide) rfl (no (by rw [q]; decide) rfl (iff_n (t_eqi rfl (beq_t q)) (set_s rfl rfl) (no (by rw [q]; decide) rfl rfl))))
      · refine ⟨.nd .ite [t,.nd (.num 7) [],.nd (.num (k:Int)) []],gn_node k .ite t [] [.nd (.num 7) [],.nd (.num (k:Int)) []] trivial rfl ht (by intro g hg; simp at hg; rcases hg with rfl | rfl; exact n7; exact nk) (by simp),?_⟩
        rw [show (G.nd .ite [t,.nd (.num 7) [],.nd (.num (k:Int)) []]).d=.tup [.str "if",t.d,(G.nd (.num 7) []).d,(G.nd (.num (k:Int)) []).d] by rw [G.d,G.ds,G.ds,G.ds,G.ds]; rfl,d_num,d_num]
        exact hd (no (by rw [q]; decide) rfl (no (by rw [q]; decide) rfl (no (by rw [q]; decide) rfl (iff_n (t_eqi rfl (beq_t q)) (set_s rfl rfl) rfl))))
    obtain ⟨t',J',x',y',z',e,g'⟩:=nest_loop cl C12 c hc0 dd m (k + 1) t2 (h ++ J) (some (.int (k:Nat))) (some (.str w)) (some (.int p)) (by omega) g2
    refine ⟨t',J ++ J',x',y',z',?_,by rw [show k + (m + 1)=k + 1 + m by omega]; exact g'⟩
    rw [List.range'_succ,List.map_cons,forL,if_pos stay_nil,st]
    simp only []
    rw [e,List.append_assoc]
theorem r_nest (cl:Nat->List D->Hh->Res D) (C12:∀ c h,∃ w J,cl 20 [.int c] h=.ok (.str w) (h ++ J) /\ Nm w) (c d:Int) (hc0:0<=c) (d0:0<=d) (d1:d < 24) (h:Hh):∃ t J,d_law_nest.run cl [.int c,.int d] h=.ok (G.d t) (h ++ J) /\ Gn 23 t:=by
  obtain ⟨m,rfl⟩:∃ m:Nat,d=m:=⟨d.toNat,by omega⟩
  have g0:Gn 0 (.nd (.num (c % 1000000000000000000)) []):=by
    obtain ⟨a,b,e,f,f2⟩:=gn_leaf (.num (c % 1000000000000000000)) ⟨by omega,by omega,rfl⟩ rfl rfl
    exact ⟨a,b,by omega,by omega,by omega⟩
  obtain ⟨t,J,x',y',z',e,g⟩:=nest_loop cl C12 c hc0 (.int m) m 0 (.nd (.num (c % 1000000000000000000)) []) h none none none (by omega) g0
  refine ⟨t,J,?_,⟨g.wd,g.ok,by have:=g.ms; omega,by have:=g.dp; omega,by have:=g.bd; omega⟩⟩
  rw [<- List.range_eq_range'] at e
  rw [d_num] at e
  exact out_rt (set_s (tup_s (es_c rfl (es_c (bnd rfl (bnd (x:=.int 1000000000000000000) (bnd rfl (bnd rfl rfl)) (mdk (by decide)))) rfl)) (Nat.le_of_ble_eq_true rfl)) (forr_s (rng_s (j:=(m:Int)) rfl (by omega)) e (ret_r rfl)))
noncomputable def trs:Itm->List G
  | .fn _ _ _ g=>[g]
  | .hd _ qs e=>qs.map (·.2) ++ [e.2]
noncomputable def Itm.cap:Itm->Nat
  | .fn ..=>23
  | .hd ..=>22
structure ItG (i:Itm):Prop where
  wd:i.wd
  tr:∀ g ∈ trs i,g.ok=true /\ dp g<=24 /\ bd g<=i.cap
  sz:((trs i).map K13.ms).sum<=4400
noncomputable def NameAt (cl:Nat->List D->Hh->Res D):Prop:=∀ c h,∃ w J,cl 20 [.int c] h=.ok (.str w) (h ++ J) /\ Nm w
noncomputable def NextAt (cl:Nat->List D->Hh->Res D) (nf:Nat):Prop:=∀ h,Feed nf h->∃ v h',cl 19 [.loc nf] h=.ok (.int v) h' /\ Feed nf h' /\ Mv nf h h' /\ 0<=v /\ v < 2147483647
theorem ws_of:∀ {ds:List D},(∀ x ∈ ds,∃ w:Str,x=.str w /\ Nm w)->∃ ws:List Str,ds=ws.map D.str /\ ∀ w ∈ ws,Nm w
  | [],_=>⟨[],rfl,by simp⟩
  | x :: r,h=>by
    obtain ⟨w,rfl,hw⟩:=h x (List.mem_cons_self ..)
    obtain ⟨ws,rfl,hws⟩:=ws_of fun y hy=>h y (List.mem_cons_of_mem _ hy)
    exact ⟨w :: ws,rfl,fun z hz=>by rcases List.mem_cons.mp hz with rfl | hz; exact hw; exact hws z hz⟩
theorem names_comp {cl:Nat->List D->Hh->Res D} {nf:Nat} (C11:NextAt cl nf) (C12:NameAt cl) {f:D->Hh->Res (Option D)} (hf:∀ x h,f x h=(cl 19 [.loc nf] h).bind fun v h1=>(cl 20 [v] h1).bind fun y h2=>.ok (some y) h2) (m:Nat) (h:Hh) (hF:Feed nf h) :
    ∃ (ws:List Str) (h':Hh),compL [] f ((List.range m).map fun (k:Nat)=>D.int (k:Nat)) [] h=.ok (ws.map D.str) h' /\ Feed nf h' /\ Mv nf h h' /\ (∀ w ∈ ws,Nm w) /\ ws.length=m:=by
  obtain ⟨ds,h',e,f1,m1,q,l⟩:=compL_ex (c:=[]) (f:=f) (Feed nf) (Mv nf) (Mv.refl nf) (Mv.trans nf) (fun _ _=>stay_nil) (fun x=>∃ w:Str,x=.str w /\ Nm w) ((List.range m).map fun (k:Nat)=>D.int (k:Nat)) [] h hF (by
    intro x _ h hF
    obtain ⟨v,h1,c1,F1,M1,_,_⟩:=C11 h hF
    obtain ⟨w,J,c2,ww⟩:=C12 v h1
    exact ⟨.str w,h1 ++ J,by rw [hf,c1,bind_ok,c2,bind_ok],F1.gr J,Mv.trans nf _ _ _ M1 (Mv.gr nf h1 J),w,rfl,ww⟩)
  obtain ⟨ws,rfl,hg⟩:=ws_of q
  exact ⟨ws,h',by simpa using e,f1,m1,hg,by simpa using l⟩
end K13
set_option Elab.async false
set_option linter.all false
set_option maxRecDepth 100000
set_option maxHeartbeats 4000000
namespace K13
set_option genInjectivity false
open PySem L2 PI
theorem Bd5:Bd 5<=9000:=by decide
theorem Bd4:Bd 4<=9000:=by decide
theorem nm_f {cl:Nat->List D->Hh->Res D} {nf:Nat} {ρ:En} {p p1 p2 p3 p4 p5:Pos} (e0:ρ[0]?=some (some (.loc nf))) (x:D) (h:Hh):compF (.one 0 p) (capE [none,some 0] ρ) (fun ρ' h2=>Es.nil.evC cl ρ' h2) (fun ρ' h2=>(E.call 20 (.call 19 (.var 1 p1) .nil p2 p3) .nil p4 p5).ev cl ρ' h2) x h=(cl 19 [.loc nf] h).bind fun v h1=>(cl 20 [v] h1).bind fun y h2=>.ok (some y) h2:=by
  have ec:capE [none,some 0] ρ=[none,some (.loc nf)]:=by unfold capE; simp only [List.map_cons,List.map_nil,Option.bind_some,Option.bind_none,e0]; rfl
  rw [ec]
  show (((cl 19 [.loc nf] h).bind fun v h1=>cl 20 [v] h1).bind fun y h2=>Res.ok (some y) h2)=_
  cases cl 19 [.loc nf] h <;> rfl
theorem clau {cl:Nat->List D->Hh->Res D} {i n nf:Nat} {ρ:En} {h h7:Hh} {g:D} {xs:List D} (ei:ρ[i]?=some (some (.loc n))) (e0:ρ[0]?=some (some (.loc nf))) (e7:cl 21 [.loc nf,.int (4:Nat)] h=.ok g h7) (a7:h7[n]?=some (.lst xs)) (l:xs.length<=999999) {p p1 p2 p3 p4 p5 p6 p7 p8:Pos} :
    E.ev cl (.tupE (.bin .Add (.var i p) (.ofL (.disp (.cons (.call 21 (.var 0 p1) (.cons (.int 4 p2) .nil) p3 p4) .nil) p5)) p6) p7 p8) ρ h=.ok (.tup (xs ++ [g])) (h7 ++ [.lst [g]] ++ [.lst (xs ++ [g])]):=by
  have c:E.ev cl (.call 21 (.var 0 p1) (.cons (.int 4 p2) .nil) p3 p4) ρ h=.ok g h7:=call_2 (x:=.loc nf) (h':=h) (by rw [vvar,e0]) rfl e7
  have d:E.ev cl (.ofL (.disp (.cons (.call 21 (.var 0 p1) (.cons (.int 4 p2) .nil) p3 p4) .nil) p5)) ρ h=.ok (.loc h7.length) (h7 ++ [.lst [g]]):=by
    rw [vofL,ldisp,es_c c rfl]; rfl
  exact tupE_s (addL_s (n:=n) (xs:=xs) (ys:=[g]) (by rw [vvar,ei]) d (get_old a7) (by rw [hx0]; rfl) (by show _ + 1<=_; omega)) (show rd _ _=_ by rw [rdx0]; rfl)
theorem clause_step (cl:Nat->List D->Hh->Res D) (nf nc:Nat) (hne:nc ≠ nf) (C11:NextAt cl nf) (C12:NameAt cl) (C4:PartAt cl nf 4) (v:Int) (nm:D) (bk pr x y:Option D) (qs:List (List Str × G)) (h:Hh) (hF:Feed nf h) (hg:h[nc]?=some (.lst (qs.map fun q=>hdD q.1 q.2))) (hl:qs.length<=10) (k:D) :
    ∃ (q:List Str × G) (y':Option D) (h':Hh),stepF t_law_item_2 (fun ρ' h'=>b_law_item_2.run cl ρ' h') k [some (.loc nf),some (.int v),some nm,bk,pr,some (.loc nc),x,y] h=.nx [some (.loc nf),some (.int v),some nm,bk,pr,some (.loc nc),some k,y'] h' /\ Feed nf h' /\ h'[nc]?=some (.lst ((qs ++ [q]).map fun q=>hdD q.1 q.2)) /\ (∀ n o,n ≠ nf->n ≠ nc->h[n]?=some o->h'[n]?=some o) /\ h.length<=h'.length /\ okQ q 3 /\ q.2.ok=true /\ dp q.2<=22 /\ ms q.2<=1450:=by
  obtain ⟨ws,h1,e1,F1,M1,w1,l1⟩:=names_comp C11 C12 (f:=compF t_law_item_3 (capE [none,some 0] [some (.loc nf),some (.int v),some nm,bk,pr,some (.loc nc),some k,y]) (fun ρ' h2=>c_law_item_3.evC cl ρ' h2) (fun ρ' h2=>e_law_item_3.ev cl ρ' h2)) (nm_f rfl) 3 h hF
  obtain ⟨g,h2,e2,F2,M2,gg⟩:=C4 (h1 ++ [.lst (ws.map D.str)]) (F1.gr _)
  have n1:nf < h1.length:=by obtain ⟨ys,y1,_⟩:=F1; exact (List.getElem?_eq_some_iff.mp y1).1
  have a1:h2[h1.length]?=some (.lst (ws.map D.str)):=M2.2 _ _ (by omega) (by rw [hx0]; rfl)
  have c1:h1[nc]?=some (.lst (qs.map fun q=>hdD q.1 q.2)):=M1.2 _ _ hne hg
  have c2:h2[nc]?=some (.lst (qs.map fun q=>hdD q.1 q.2)):=M2.2 _ _ hne (get_old c1)
  have lc:nc < h2.length:=(List.getElem?_eq_some_iff.mp c2).1
  refine ⟨(ws,g),some (.loc h1.length),(h2 ++ [O.lst [g.d]] ++ [O.lst (ws.map D.str ++ [g.d])]).set nc (O.lst ((qs ++ [(ws,g)]).map fun q:List Str × G=>hdD q.1 q.2)),?_,?_,?_,?_,?_,⟨w1,l1,gg.wd,Nat.le_trans gg.ms Bd4⟩,gg.ok,Nat.le_trans gg.dp (by decide),gg.ms⟩
  · have l4:(ws.map D.str).length<=999999:=by rw [List.length_map]; omega
    have ce:((qs ++ [(ws,g)]).map fun q:List Str × G=>hdD q.1 q.2)=(qs.map fun q=>hdD q.1 q.2) ++ [.tup (ws.map D.str ++ [g.d])]:=by rw [List.map_append]; rfl
    rw [ce]
    exact set_s (ofL_comp (rng_s rfl (by decide)) (Nat.le_of_ble_eq_true rfl) e1) (ex_s (app_e (i:=5) rfl (get_old c1) (clau (i:=7) rfl rfl e2 a1 l4) (get_old (get_old c2)) (by rw [List.length_map]; omega)) rfl)
  · obtain ⟨ys,y1,y2⟩:=F2
    exact ⟨ys,by rw [List.getElem?_set_ne hne]; exact get_old (get_old y1),y2⟩
  · exact List.getElem?_set_self (by rw [List.length_append,List.length_append]; omega)
  · intro n o hn1 hn2 e
    rw [List.getElem?_set_ne (Ne.symm hn2)]
    exact get_old (get_old (M2.2 _ _ hn1 (get_old (M1.2 _ _ hn1 e))))
  · rw [List.length_set,List.length_append,List.length_append]
    have m1:=M1.1
    have m2:=M2.1
    rw [List.length_append] at m2
    omega
theorem clause_loop (cl:Nat->List D->Hh->Res D) (nf nc:Nat) (hne:nc ≠ nf) (C11:NextAt cl nf) (C12:NameAt cl) (C4:PartAt cl nf 4) (v:Int) (nm:D) (bk pr:Option D):∀ (ks:List D) (qs:List (List Str × G)) (x y:Option D) (h:Hh),Feed nf h->h[nc]?=some (.lst (qs.map fun q=>hdD q.1 q.2))->qs.length + ks.length<=2->(∀ q ∈ qs,okQ q 3 /\ q.2.ok=true /\ dp q.2<=22 /\ ms q.2<=1450) ->
    ∃ (qs':List (List Str × G)) (x' y':Option D) (h':Hh),forL [] (stepF t_law_item_2 fun ρ' h'=>b_law_item_2.run cl ρ' h') ks [some (.loc nf),some (.int v),some nm,bk,pr,some (.loc nc),x,y] h=.nx [some (.loc nf),some (.int v),some nm,bk,pr,some (.loc nc),x',y'] h' /\ Feed nf h' /\ h'[nc]?=some (.lst (qs'.map fun q=>hdD q.1 q.2)) /\ (∀ n o,n ≠ nf->n ≠ nc->h[n]?=some o->h'[n]?=some o) /\ h.length<=h'.length /\ qs'.length<=2 /\ (∀ q ∈ qs',okQ q 3 /\ q.2.ok=true /\ dp q.2<=22 /\ ms q.2<=1450)
  | [],qs,x,y,h,hF,hg,hl,hq=>⟨qs,x,y,h,by simp [forL,stay_nil],hF,hg,fun _ _ _ _ e=>e,Nat.le_refl _,by simpa using hl,hq⟩
  | k :: ks,qs,x,y,h,hF,hg,hl,hq=>by
    simp only [List.length_cons] at hl
    obtain ⟨q,y1,h1,e1,F1,g1,k1,l1,o1,o2,o3⟩:=clause_step cl nf nc hne C11 C12 C4 v nm bk pr x y qs h hF hg (by omega) k
    obtain ⟨qs',x',y',h',e2,F2,g2,k2,l2,o4,o5⟩:=clause_loop cl nf nc hne C11 C12 C4 v nm bk pr ks (qs ++ [q]) (some k) y1 h1 F1 g1 (by simp; omega) (fun z hz=>by
      rcases List.mem_append.mp hz with w | w
      · exact hq z w
      · rw [List.mem_singleton.mp w]; exact ⟨o1,o2,o3⟩)
    refine ⟨qs',x',y',h',?_,F2,g2,fun n o a b e=>k2 n o a b (k1 n o a b e),by omega,o4,o5⟩
    rw [forL,if_pos stay_nil,e1]
    exact e2
noncomputable def itemFn:Ss:=bodyOf (headS (dropS 2 d_law_item.body))
theorem r_litem (cl:Nat->List D->Hh->Res D) (nf:Nat) (C11:NextAt cl nf) (C12:NameAt cl) (C4:PartAt cl nf 4) (C5:PartAt cl nf 5) (h:Hh) (hF:Feed nf h) :
    ∃ i h',d_law_item.run cl [.loc nf] h=.ok (Itm.d i) h' /\ Feed nf h' /\ Mv nf h h' /\ ItG i:=by
  obtain ⟨v,h1,c11,F1,M1,v0,v1⟩:=C11 h hF
  obtain ⟨w,J,c12,ww⟩:=C12 (v / 24) h1
  have F2:Feed nf (h1 ++ J):=F1.gr J
  have M2:Mv nf h (h1 ++ J):=Mv.trans nf _ _ _ M1 (Mv.gr nf h1 J)
  have hs:∀ {d' h'},Ss.run cl (dropS 2 d_law_item.body) [some (.loc nf),some (.int v),some (.str w),none,none,none,none,none] (h1 ++ J)=.rt d' h'->d_law_item.run cl [.loc nf] h=.ok d' h':=fun k=>out_rt (set_s (call_1 rfl c11) (set_s (call_1 (fd_ev rfl (by decide)) c12) k))
  generalize h1 ++ J=H at *
  have n1:nf < H.length:=by obtain ⟨ys,y1,_⟩:=F2; exact (List.getElem?_eq_some_iff.mp y1).1
  by_cases hv:v % 2=0
  ·
    obtain ⟨b,H1,F3,M3,wb,sb⟩:∃ (b:Option Str) (H1:Hh),Feed nf H1 /\ Mv nf H H1 /\ (∀ x,b=some x->Nm x) /\ ∀ {r d' h'},Ss.run cl r [some (.loc nf),some (.int v),some (.str w),some (optD b),none,none,none,none] H1=.rt d' h'->Ss.run cl (.cons (headS (dropS 1 itemFn)) r) [some (.loc nf),some (.int v),some (.str w),some .non,none,none,none,none] H=.rt d' h':=by
      by_cases hb:v / 2 % 2=1
      · obtain ⟨v2,h5,c11b,F5,M5,_,_⟩:=C11 H F2
        obtain ⟨w2,J2,c12b,ww2⟩:=C12 v2 h5
        exact ⟨some w2,h5 ++ J2,F5.gr _,Mv.trans nf _ _ _ M5 (Mv.gr nf h5 J2),(fun x hx=>by cases hx; exact ww2),fun k=>iff_n (t_ei (md_ev rfl (by decide) (by decide)) (beq_t hb)) (set_s (call_1 (call_1 rfl c11b) c12b) rfl) k⟩
      · exact ⟨none,H,F2,Mv.refl _ _,(fun x hx=>by cases hx),fun k=>iff_f (t_ei (md_ev rfl (by decide) (by decide)) (beq_f hb)) k⟩
    obtain ⟨m,hm⟩:∃ m:Nat,(m:Int)=v / 4 % 4:=⟨(v / 4 % 4).toNat,by omega⟩
    have mt:(v / 4 % 4).toNat=m:=by omega
    obtain ⟨ws,h6,e6,F6,M6,w6,l6⟩:=names_comp C11 C12 (f:=compF t_law_item_4 (capE [none,some 0] [some (.loc nf),some (.int v),some (.str w),some (optD b),none,none,none,none]) (fun ρ' h2=>c_law_item_4.evC cl ρ' h2) (fun ρ' h2=>e_law_item_4.ev cl ρ' h2)) (nm_f rfl) m H1 F3
    obtain ⟨g,h7,e7,F7,M7,gg⟩:=C5 h6 F6
    refine ⟨.fn w ws b g,h7,?_,F7,Mv.trans nf _ _ _ M2 (Mv.trans nf _ _ _ M3 (Mv.trans nf _ _ _ M6 M7)),⟨⟨ww,w6,by omega,wb,gg.wd,Nat.le_trans gg.ms Bd5⟩,?_,(Nat.le_trans (Nat.le_of_eq (by simp [trs])) (Nat.le_trans gg.ms (by decide)))⟩⟩
    · refine hs (iff_r (t_ei (bnd rfl (bnd rfl (mdk (by decide)))) (beq_t hv)) (set_s rfl (sb (set_s (tupL_s (comp_s (rng_s (md_ev rfl (by decide) (by decide)) (by omega)) ?_ ?_)) (ret_r (tup_s (es_c rfl (es_c rfl (es_c rfl (es_c rfl (es_c (call_2 rfl rfl e7) rfl))))) (Nat.le_of_ble_eq_true rfl)))))))
      · rw [List.length_map,List.length_range,mt]; omega
      · rw [mt]; exact e6
    · intro z hz
      rw [List.mem_singleton.mp hz]
      exact ⟨gg.ok,Nat.le_trans gg.dp (by decide),Nat.le_trans (bd_dp g) (Nat.le_trans gg.dp (Nat.le_of_ble_eq_true rfl))⟩
  ·
    obtain ⟨m,hm⟩:∃ m:Nat,(m:Int)=v / 2 % 3:=⟨(v / 2 % 3).toNat,by omega⟩
    have mt:(v / 2 % 3).toNat=m:=by omega
    obtain ⟨qs,x',y',h3,e3,F3,g3,k3,l3,o3,o4⟩:=clause_loop cl nf H.length (by omega) C11 C12 C4 v (.str w) none none ((List.range m).map fun (k:Nat)=>D.int (k:Nat)) [] none none (H ++ [.lst []]) (F2.gr _) (by rw [hx0]; rfl) (by simp; omega) (fun q hq=>by cases hq)
    have n3:nf < h3.length:=by obtain ⟨ys,y1,_⟩:=F3; exact (List.getElem?_eq_some_iff.mp y1).1
    have n4:H.length < h3.length:=(List.getElem?_eq_some_iff.mp g3).1
    obtain ⟨ws,h6,e6,F6,M6,w6,l6⟩:=names_comp C11 C12 (f:=compF t_law_item_1 (capE [none,some 0] [some (.loc nf),some (.int v),some (.str w),none,none,some (.loc H.length),x',y']) (fun ρ' h2=>c_law_item_1.evC cl ρ' h2) (fun ρ' h2=>e_law_item_1.ev cl ρ' h2)) (nm_f rfl) 2 h3 F3
    have n6:nf < h6.length:=by obtain ⟨ys,y1,_⟩:=F6; exact (List.getElem?_eq_some_iff.mp y1).1
    obtain ⟨g,h7,e7,F7,M7,gg⟩:=C4 (h6 ++ [.lst (ws.map D.str)]) (F6.gr _)
    have a7:h7[h6.length]?=some (.lst (ws.map D.str)):=M7.2 _ _ (by omega) (by rw [hx0]; rfl)
    have g6:h6[H.length]?=some (.lst (qs.map fun q=>hdD q.1 q.2)):=M6.2 _ _ (by omega) g3
    refine ⟨.hd w qs (ws,g),h7 ++ [.lst [g.d]] ++ [.lst (ws.map D.str ++ [g.d])],?_,(F7.gr _).gr _,?_,⟨⟨ww,fun q hq=>(o4 q hq).1,o3,w6,l6,gg.wd,Nat.le_trans gg.ms Bd4⟩,?_,?_⟩⟩
    · have l7:(ws.map D.str).length<=999999:=by rw [List.length_map]; omega
      refine hs (iff_f (t_ei (bnd rfl (bnd rfl (mdk (by decide)))) (beq_f hv)) (set_s (d:=.loc H.length) (h':=H ++ [.lst []]) rfl (forr_s (rng_s (md_ev rfl (by decide) (by decide)) (by omega)) (ρ':=[some (.loc nf),some (.int v),some (.str w),none,none,some (.loc H.length),x',y']) (h2:=h3) ?_ (set_s (ofL_comp (rng_s rfl (by decide)) (Nat.le_of_ble_eq_true rfl) e6) (ret_r (tup_s (es_c rfl (es_c rfl (es_c (tupE_s rfl (show rd _ _=_ from rd_of (get_old g6))) (es_c (clau (i:=7) rfl rfl e7 a7 l7) rfl)))) (Nat.le_of_ble_eq_true rfl)))))))
      rw [mt]; exact e3
    · refine Mv.trans nf _ _ _ M2 (Mv.trans nf H h6 _ (Mv.trans nf H h3 _ ⟨by omega,fun n o hn e=>?_⟩ M6) (Mv.trans nf _ _ _ (Mv.gr nf h6 _) (Mv.trans nf _ _ _ M7 (Mv.trans nf _ _ _ (Mv.gr nf h7 _) (Mv.gr nf _ _)))))
      have hlt:n < H.length:=(List.getElem?_eq_some_iff.mp e).1
      exact k3 n o hn (by omega) (get_old e)
    · intro z hz
      rcases List.mem_append.mp hz with q | q
      · obtain ⟨q2,hq,rfl⟩:=List.mem_map.mp q
        exact ⟨(o4 q2 hq).2.1,Nat.le_trans (o4 q2 hq).2.2.1 (by decide),Nat.le_trans (bd_dp q2.2) (o4 q2 hq).2.2.1⟩
      · rw [List.mem_singleton.mp q]
        exact ⟨gg.ok,Nat.le_trans gg.dp (by decide),Nat.le_trans (bd_dp g) (Nat.le_trans gg.dp (Nat.le_of_ble_eq_true rfl))⟩
    · have b4:Bd 4=1450:=by decide
      have gm:=gg.ms
      have:∀ rs:List (List Str × G),(∀ q ∈ rs,ms q.2<=1450)->(rs.map fun q=>ms q.2).sum<=1450 * rs.length:=by
        intro rs
        induction rs with
        | nil=>intro _; simp
        | cons q r ih =>
          intro hr
          have a:=hr q (List.mem_cons_self ..)
          have b:=ih fun z hz=>hr z (List.mem_cons_of_mem _ hz)
          simp only [List.map_cons,List.sum_cons,List.length_cons]
          omega
      have q1:=this qs fun q hq=>(o4 q hq).2.2.2
      simp only [trs,List.map_append,List.map_map,List.map_cons,List.map_nil,List.sum_append,List.sum_cons,List.sum_nil,Function.comp_def]
      omega
end K13
set_option Elab.async false
set_option linter.all false
set_option maxRecDepth 100000
set_option maxHeartbeats 4000000
namespace K13
set_option genInjectivity false
open PySem L2 PI
theorem is_of:∀ {ds:List D},(∀ x ∈ ds,∃ i:Itm,x=i.d /\ ItG i)->∃ is:List Itm,ds=is.map Itm.d /\ ∀ i ∈ is,ItG i
  | [],_=>⟨[],rfl,by simp⟩
  | x :: r,h=>by
    obtain ⟨w,rfl,hw⟩:=h x (List.mem_cons_self ..)
    obtain ⟨ws,rfl,hws⟩:=is_of fun y hy=>h y (List.mem_cons_of_mem _ hy)
    exact ⟨w :: ws,rfl,fun z hz=>by rcases List.mem_cons.mp hz with rfl | hz; exact hw; exact hws z hz⟩
theorem rev_s {cl:Nat->List D->Hh->Res D} {e:E} {ρ:En} {h h':Hh} {n:Nat} {xs:List D} {p p1:Pos} (he:e.ev cl ρ h=.ok (.loc n) h') (g:rd h' n=some xs):I.ev cl (.rev e p p1) ρ h=.ok ([(n,xs)],xs.reverse) h':=by
  refine bnd he ?_
  show revD (.loc n) h'=_
  unfold revD
  dsimp only
  rw [g]
theorem cut_fl {cl:Nat->List D->Hh->Res D} {i:Nat} {a b:Int} {xs ys:List D} {ρ:En} {h:Hh} {p p1 p2 p3 p4:Pos} (ei:ρ[i]?=some (some (.fl xs))) (e:cutXs xs (some a) (some b)=ys):E.ev cl (.cut (.var i p) (.some (.int a p1)) (.some (.int b p2)) p3 p4) ρ h=.ok (.loc h.length) (h ++ [.lst ys]):=by
  refine bnd (x:=.fl xs) (by rw [vvar,ei]) (bnd rfl (bnd rfl ?_))
  rw [<- e]; rfl
theorem r_program (cl:Nat->List D->Hh->Res D) (ns:List Int) (hb:∀ n ∈ ns,fits n=true) (C10:∀ k h,0<=k /\ k < 1000->∃ v,cl 18 [scr ns,.int k] h=.ok (.int v) h /\ 0<=v /\ v < 2147483629) (C12:NameAt cl)
    (C14:∀ nf h,Feed nf h->∃ i h',cl 22 [.loc nf] h=.ok (Itm.d i) h' /\ Feed nf h' /\ Mv nf h h' /\ ItG i) (C15:∀ c d h,0<=c->0<=d->d < 24->∃ t J,cl 23 [.int c,.int d] h=.ok (G.d t) (h ++ J) /\ Gn 23 t) :
    ∃ (is:List Itm) (h':Hh),d_law_program.run cl [scr ns] []=.ok (.tup (is.map Itm.d)) h' /\ (∀ i ∈ is,ItG i) /\ is.length<=4:=by
  obtain ⟨c,c10,c0,c1⟩:=C10 0 [] (by decide)
  obtain ⟨xs,hxs,hxf,hxl⟩:∃ xs:List Int,cutXs (ns.map D.int) (some 2) (some 36)=xs.map D.int /\ (∀ x ∈ xs,fits x=true) /\ xs.length<=40:=by
    refine ⟨(ns.drop (min 2 ns.length)).take (min 36 ns.length - min 2 ns.length),?_,fun x hx=>hb x (List.mem_of_mem_drop (List.mem_of_mem_take hx)),by rw [List.length_take]; omega⟩
    unfold cutXs
    rw [sIx_some _ _ _ (by decide),sIx_some _ _ _ (by decide),List.length_map,List.map_take,List.map_drop]
    rfl
  have fe:=compL_pure (c:=[(0,xs.map D.int)]) (f:=compF t_law_program_2 (capE [none] [some (scr ns),some (.int c),none,none,none]) (fun ρ' h2=>c_law_program_2.evC cl ρ' h2) (fun ρ' h2=>e_law_program_2.ev cl ρ' h2)) (h:=[.lst (xs.map D.int)]) (stay_one.mpr rfl) (fun x=>some x) (xs.map D.int).reverse [] (fun x _=>rfl)
  have fe2:((xs.map D.int).reverse).filterMap (fun x=>some x)=xs.reverse.map D.int:=by rw [List.filterMap_some,List.map_reverse]
  rw [fe2,List.nil_append] at fe
  have F0:Feed 1 [O.lst (xs.map D.int),O.lst (xs.reverse.map D.int)]:=⟨xs.reverse,rfl,fun x hx=>hxf x (List.mem_reverse.mp hx),by simpa using hxl⟩
  obtain ⟨m,hm⟩:∃ m:Nat,(m:Int)=c % 4:=⟨(c % 4).toNat,by omega⟩
  have mt:(c % 4).toNat=m:=by omega
  obtain ⟨ds,h1,e1,F1,M1,q1,l1⟩:=compL_ex (c:=[]) (f:=compF t_law_program_1 (capE [none,some 2] [some (scr ns),some (.int c),some (.loc 1),none,none]) (fun ρ' h2=>c_law_program_1.evC cl ρ' h2) (fun ρ' h2=>e_law_program_1.ev cl ρ' h2)) (Feed 1) (Mv 1) (Mv.refl 1) (Mv.trans 1) (fun _ _=>stay_nil) (fun x=>∃ i:Itm,x=i.d /\ ItG i) ((List.range m).map fun (k:Nat)=>D.int (k:Nat)) [] [O.lst (xs.map D.int),O.lst (xs.reverse.map D.int)] F0 (by
    intro x _ h hF
    obtain ⟨i,h',c14,f',m',g'⟩:=C14 1 h hF
    exact ⟨i.d,h',compF_t rfl rfl (call_1 rfl c14),f',m',i,rfl,g'⟩)
  obtain ⟨is,rfl,hi⟩:=is_of q1
  simp only [List.nil_append,List.length_map,List.length_range] at e1 l1
  have st:∀ {d' h'},Ss.run cl (dropS 3 d_law_program.body) [some (scr ns),some (.int c),some (.loc 1),some (.loc h1.length),none] (h1 ++ [.lst (is.map Itm.d)])=.rt d' h'->d_law_program.run cl [scr ns] []=.ok d' h':=fun k=>by
    refine out_rt (set_s (call_2 rfl rfl c10) (set_s (d:=.loc 1) (h':=[.lst (xs.map D.int),.lst (xs.reverse.map D.int)]) (ofL_comp (q:=([(0,xs.map D.int)],(xs.map D.int).reverse)) (rev_s (cut_fl rfl hxs) rfl) ?_ fe) (set_s (ofL_comp (rng_s (bnd rfl (bnd rfl (mdk (by decide)))) (by omega)) ?_ ?_) k)))
    · rw [List.length_reverse,List.length_map]; omega
    · rw [List.length_map,List.length_range]; omega
    · rw [mt]; exact e1
  have rl:rd (h1 ++ [.lst (is.map Itm.d)]) h1.length=some (is.map Itm.d):=by rw [rdx0]; rfl
  by_cases hc:c / 4 % 4=1
  · obtain ⟨c2,c10b,c20,c21⟩:=C10 1 (h1 ++ [.lst (is.map Itm.d)]) (by decide)
    obtain ⟨t,J,c15,gt⟩:=C15 c2 (c2 / 7 % 24) (h1 ++ [.lst (is.map Itm.d)]) c20 (by omega) (by omega)
    obtain ⟨w,J2,c12,ww⟩:=C12 (c / 16) (h1 ++ [.lst (is.map Itm.d)] ++ J)
    have ga:(h1 ++ [O.lst (is.map Itm.d)] ++ J)[h1.length]?=some (.lst (is.map Itm.d)):=get_old (by rw [hx0]; rfl)
    have ll:h1.length < (h1 ++ [O.lst (is.map Itm.d)] ++ J ++ J2).length:=(List.getElem?_eq_some_iff.mp (get_old (l:=J2) ga)).1
    refine ⟨is ++ [Itm.fn w [] none t],(h1 ++ [O.lst (is.map Itm.d)] ++ J ++ J2).set h1.length (.lst (is.map Itm.d ++ [(Itm.fn w [] none t).d])),?_,?_,by simp; omega⟩
    · rw [List.map_append]
      exact st (iff_n (t_ei (md_ev rfl (by decide) (by decide)) (beq_t hc)) (set_s (call_2 (call_2 rfl rfl c10b) (bnd (bnd (call_2 rfl rfl c10b) (bnd rfl (fdk (by decide)))) (bnd rfl (mdk (by decide)))) c15) (ex_s (app_e (i:=3) rfl ga (tup_s (es_c rfl (es_c (call_1 (fd_ev rfl (by decide)) c12) rfl)) (Nat.le_of_ble_eq_true rfl)) (get_old ga) (by rw [List.length_map]; omega)) rfl)) (ret_r (tupE_s rfl (rd_of (List.getElem?_set_self ll)))))
    · intro i hmem
      rcases List.mem_append.mp hmem with q | q
      · exact hi i q
      · rw [List.mem_singleton.mp q]
        have gm:=gt.ms
        exact ⟨⟨ww,by simp,by simp,(fun x hx=>by cases hx),gt.wd,by omega⟩,(fun g hg=>by rw [List.mem_singleton.mp hg]; exact ⟨gt.ok,by have:=gt.dp; omega,gt.bd⟩),by simp [trs]; omega⟩
  · refine ⟨is,h1 ++ [.lst (is.map Itm.d)],?_,hi,by omega⟩
    exact st (iff_f (t_ei (md_ev rfl (by decide) (by decide)) (beq_f hc)) (ret_r (tupE_s rfl rl)))
end K13
set_option Elab.async false
set_option linter.all false
set_option maxRecDepth 100000
set_option maxHeartbeats 4000000
namespace K13
set_option genInjectivity false
open PySem L2 PI
inductive Th where
  | w (x:Str)
  | l (ts:List Th)
mutual
noncomputable def Th.ws:Th->List Str
  | .w x=>[x]
  | .l ts=>"(" :: (Th.wss ts ++ [(")":Str)])
noncomputable def Th.wss:List Th->List Str
  | []=>[]
  | t :: r=>t.ws ++ Th.wss r
end
mutual
noncomputable def Th.dp:Th->Nat
  | .w _=>0
  | .l ts=>1 + Th.dps ts
noncomputable def Th.dps:List Th->Nat
  | []=>0
  | t :: r=>max t.dp (Th.dps r)
end
mutual
noncomputable def Th.sz:Th->Nat
  | .w _=>0
  | .l ts=>1 + Th.szs ts
noncomputable def Th.szs:List Th->Nat
  | []=>0
  | t :: r=>t.sz + Th.szs r
end
noncomputable def Th.v:Th->Nat->D
  | .w x,_=>.str x
  | .l _,b=>.loc b
noncomputable def Th.vs:List Th->Nat->List D
  | [],_=>[]
  | t :: r,b=>t.v b :: Th.vs r (b + t.sz)
mutual
noncomputable def Th.ap:Th->Nat->Hh
  | .w _,_=>[]
  | .l ts,b=>.lst (Th.vs ts (b + 1)) :: Th.aps ts (b + 1)
noncomputable def Th.aps:List Th->Nat->Hh
  | [],_=>[]
  | t :: r,b=>t.ap b ++ Th.aps r (b + t.sz)
end
mutual
theorem ap_len:∀ (t:Th) (b:Nat),(t.ap b).length=t.sz
  | .w _,b=>by rw [Th.ap,Th.sz]; rfl
  | .l ts,b=>by rw [Th.ap,Th.sz,List.length_cons,aps_len ts]; omega
theorem aps_len:∀ (ts:List Th) (b:Nat),(Th.aps ts b).length=Th.szs ts
  | [],b=>by rw [Th.aps,Th.szs]; rfl
  | t :: r,b=>by rw [Th.aps,Th.szs,List.length_append,ap_len t,aps_len r]
end
mutual
noncomputable def At (h:Hh):Th->D->Prop
  | .w x,d=>d=.str x
  | .l ts,d=>∃ n ds,d=.loc n /\ h[n]?=some (.lst ds) /\ Ats h ts ds
noncomputable def Ats (h:Hh):List Th->List D->Prop
  | [],ds=>ds=[]
  | t :: r,ds=>∃ e es,ds=e :: es /\ At h t e /\ Ats h r es
end
noncomputable def Has (h:Hh) (b:Nat) (L:Hh):Prop:=∀ k o,L[k]?=some o->h[b + k]?=some o
theorem has_left {h:Hh} {b:Nat} {L M:Hh} (q:Has h b (L ++ M)):Has h b L:=fun k o e=>q k o (get_old e)
theorem has_right {h:Hh} {b n:Nat} {L M:Hh} (q:Has h b (L ++ M)) (e:L.length=n):Has h (b + n) M:=fun k o g=>by
  have:=q (L.length + k) o (by rw [hx]; exact g)
  rw [<- e,Nat.add_assoc]; exact this
mutual
theorem at_of {h:Hh}:∀ (t:Th) (b:Nat),Has h b (t.ap b)->At h t (t.v b)
  | .w x,b,_=>by rw [At]; rfl
  | .l ts,b,q=>by
    rw [Th.ap] at q
    rw [At]
    refine ⟨b,Th.vs ts (b + 1),rfl,q 0 _ rfl,ats_of ts (b + 1) ?_⟩
    exact has_right (L:=[O.lst (Th.vs ts (b + 1))]) q rfl
theorem ats_of {h:Hh}:∀ (ts:List Th) (b:Nat),Has h b (Th.aps ts b)->Ats h ts (Th.vs ts b)
  | [],b,_=>by rw [Ats]; rfl
  | t :: r,b,q=>by
    rw [Th.aps] at q
    rw [Ats]
    exact ⟨t.v b,Th.vs r (b + t.sz),rfl,at_of t b (has_left q),ats_of r (b + t.sz) (has_right q (ap_len t b))⟩
end
mutual
theorem At.gr {h J:Hh}:∀ {t:Th} {d:D},At h t d->At (h ++ J) t d
  | .w x,d,q=>by rw [At] at q ⊢; exact q
  | .l ts,d,q=>by
    rw [At] at q ⊢
    obtain ⟨n,ds,e,g,a⟩:=q
    exact ⟨n,ds,e,get_old g,Ats.gr a⟩
theorem Ats.gr {h J:Hh}:∀ {ts:List Th} {ds:List D},Ats h ts ds->Ats (h ++ J) ts ds
  | [],d,q=>by rw [Ats] at q ⊢; exact q
  | t :: r,d,q=>by
    rw [Ats] at q ⊢
    obtain ⟨e,es,g,a,b⟩:=q
    exact ⟨e,es,g,At.gr a,Ats.gr b⟩
end
structure Pw (x:Str):Prop where
  ok:PyData.strOk x=true
  o:(x == ("(":Str))=false
  c:(x == (")":Str))=false
mutual
noncomputable def Th.ok:Th->Prop
  | .w x=>Pw x
  | .l ts=>Th.oks ts
noncomputable def Th.oks:List Th->Prop
  | []=>True
  | t :: r=>t.ok /\ Th.oks r
end
section
variable (cl:Nat->List D->Hh->Res D)
noncomputable abbrev env (nw na ni:Nat) (x y:Option D):En:=[some (.loc nw),some (.loc na),some (D.loc ni),x,y]
noncomputable abbrev nsF:D->En->Hh->RS:=stepF t_nested_1 fun ρ' h'=>b_nested_1.run cl ρ' h'
theorem so_o:PyData.strOk "("=true:=by decide +kernel
theorem so_c:PyData.strOk ")"=true:=by decide +kernel
variable {cl}
theorem app_at {i j:Nat} {p0 p1 p2 p3:Pos} {ρ:En} {h:Hh} {n:Nat} {d:D} {ds:List D} (ei:ρ[i]?=some (some (.loc n))) (ej:ρ[j]?=some (some d)) (g:h[n]?=some (.lst ds)) (hl:ds.length < 1000000) :
    E.ev cl (.m1 .append (.var i p0) (.var j p1) p2 p3) ρ h=.ok .non (h.set n (.lst (ds ++ [d]))):=by
  rw [vm1,vvar,ei]
  show onL (.loc n) h _=_
  rw [on_lst g,vvar,ej]
  show m1D .append (.loc n) d h=_
  unfold m1D
  dsimp only
  rw [g]
  exact if_pos hl
theorem st_w {nw na ni:Nat} {x y:Option D} {h:Hh} {w:Str} {ds:List D} (p:Pw w) (g:h[ni]?=some (.lst ds)) (hl:ds.length < 1000000) :
    nsF cl (.str w) (env nw na ni x y) h=.nx (env nw na ni (some (.str w)) y) (h.set ni (.lst (ds ++ [.str w]))) :=
  iff_e (t_cmp rfl rfl (by rw [eqS p.ok so_o,p.o])) (iff_e (t_cmp rfl rfl (by rw [eqS p.ok so_c,p.c])) (ex_s (app_at rfl rfl g hl) rfl) rfl) rfl
theorem st_o {nw na ni:Nat} {x y:Option D} {h:Hh} {st:List D} (g:h[na]?=some (.lst st)) (hl:st.length < 24) :
    nsF cl (.str "(") (env nw na ni x y) h=.nx (env nw na h.length (some (.str "(")) y) (h.set na (.lst (st ++ [.loc ni])) ++ [.lst []]):=by
  have e:(h.set na (O.lst (st ++ [.loc ni]))).length=h.length:=List.length_set ..
  have q:nsF cl (.str "(") (env nw na ni x y) h=.nx (env nw na (h.set na (O.lst (st ++ [.loc ni]))).length (some (.str "(")) y) (h.set na (.lst (st ++ [.loc ni])) ++ [.lst []]) :=
    iff_n (t_cmp rfl rfl (eqS so_o so_o)) (iff_f (t_cmp (bnd rfl (by show lenD (.loc na) h=.ok (.int st.length) h; unfold lenD; dsimp only; rw [rd_of g])) rfl (by rw [eqI]; congr 2; exact decide_eq_false (by omega))) (ex_s (app_at rfl rfl g (by omega)) (set_s rfl rfl))) rfl
  rw [q,e]
theorem st_c {nw na ni nj:Nat} {x y:Option D} {h:Hh} {st ds:List D} (g:h[na]?=some (.lst (st ++ [.loc nj]))) (gj:h[nj]?=some (.lst ds)) (hn:nj ≠ na) (hl:ds.length < 1000000) :
    nsF cl (.str ")") (env nw na ni x y) h=.nx (env nw na nj (some (.str ")")) (some (D.loc ni))) ((h.set na (.lst st)).set nj (.lst (ds ++ [.loc ni]))) :=
  iff_e (t_cmp rfl rfl (eqS so_c so_o)) (iff_n (t_cmp rfl rfl (eqS so_c so_c)) (iff_f (h':=h) (bnd (bnd rfl (by show nilD false (.loc na) h=.ok (.bl false) h; unfold nilD; dsimp only; rw [rd_of g]; simp)) rfl) (set_s rfl (set_s (d:=.loc nj) (h':=h.set na (.lst st)) (bnd rfl (by
    show m0D .pop (.loc na) h=_
    unfold m0D
    dsimp only
    rw [g]
    simp)) (ex_s (app_at rfl rfl (by rw [List.getElem?_set_ne (Ne.symm hn)]; exact gj) hl) rfl)))) rfl) rfl
theorem stay_at {nw:Nat} {all:List D} {h:Hh} (g:h[nw]?=some (.lst all)):stay [(nw,all)] h:=stay_one.mpr (rd_of g)
mutual
theorem nest_t {nw:Nat} {all:List D}:∀ (t:Th) (na ni:Nat) (st ds:List D) (x y:Option D) (h:Hh) (rest:List D),t.ok->h[nw]?=some (.lst all)->h[na]?=some (.lst st)->h[ni]?=some (.lst ds)->nw ≠ na->nw ≠ ni->na ≠ ni->st.length + t.dp<=24->ds.length + t.ws.length<=1000000 ->
    ∃ x' y',forL [(nw,all)] (nsF cl) (t.ws.map D.str ++ rest) (env nw na ni x y) h=forL [(nw,all)] (nsF cl) rest (env nw na ni x' y') (h.set ni (.lst (ds ++ [t.v h.length])) ++ t.ap h.length)
  | .w w,na,ni,st,ds,x,y,h,rest,ok,gw,ga,gi,n1,n2,n3,hd,hl=>by
    rw [Th.ok] at ok
    rw [Th.ws] at hl ⊢
    rw [Th.ap,List.append_nil]
    exact ⟨_,_,for_n (stay_at gw) (st_w ok gi (by simp at hl; omega)) rfl⟩
  | .l ts,na,ni,st,ds,x,y,h,rest,ok,gw,ga,gi,n1,n2,n3,hd,hl=>by
    rw [Th.ok] at ok
    rw [Th.ws] at hl ⊢
    rw [Th.dp] at hd
    simp only [List.length_cons,List.length_append,List.length_nil] at hl
    have la:na < h.length:=(List.getElem?_eq_some_iff.mp ga).1
    have li:ni < h.length:=(List.getElem?_eq_some_iff.mp gi).1
    have lw:nw < h.length:=(List.getElem?_eq_some_iff.mp gw).1
    have lh:(h.set na (O.lst (st ++ [D.loc ni]))).length=h.length:=List.length_set ..
    obtain ⟨x',y',e⟩:=nest_ts ts na h.length (st ++ [D.loc ni]) [] (some (.str "(")) y (h.set na (.lst (st ++ [D.loc ni])) ++ [O.lst []]) (.str ")" :: rest) ok
      (get_old (by rw [List.getElem?_set_ne (Ne.symm n1)]; exact gw)) (get_old (List.getElem?_set_self la)) (by rw [<- lh,hx0]; rfl) n1 (by omega) (by omega) (by rw [List.length_append]; simp only [List.length_cons,List.length_nil]; omega) (by simp only [List.length_nil]; omega)
    have l1:(h.set na (O.lst (st ++ [D.loc ni])) ++ [O.lst []]).length=h.length + 1:=by rw [List.length_append,lh]; rfl
    have s1:(h.set na (O.lst (st ++ [D.loc ni])) ++ [O.lst []]).set h.length (O.lst ([] ++ Th.vs ts (h.length + 1)))=h.set na (O.lst (st ++ [D.loc ni])) ++ [O.lst (Th.vs ts (h.length + 1))]:=by
      have:=hset0 (h.set na (O.lst (st ++ [D.loc ni]))) [O.lst []] (O.lst ([] ++ Th.vs ts (h.length + 1)))
      rw [lh] at this
      rw [this]; rfl
    rw [l1,s1,List.append_assoc] at e
    refine ⟨some (.str ")"),some (.loc h.length),?_⟩
    rw [List.map_cons,List.map_append,List.cons_append,List.append_assoc]
    refine for_n (stay_at gw) (st_o ga (by omega)) (e.trans ?_)
    have gw2:(h.set na (O.lst (st ++ [D.loc ni])) ++ ([O.lst (Th.vs ts (h.length + 1))] ++ Th.aps ts (h.length + 1)))[nw]?=some (.lst all):=get_old (by rw [List.getElem?_set_ne (Ne.symm n1)]; exact gw)
    refine for_n (stay_at gw2) (st_c (get_old (List.getElem?_set_self la)) (get_old (by rw [List.getElem?_set_ne n3]; exact gi)) (Ne.symm n3) (by omega)) ?_
    rw [List.set_append_left _ _ (by rw [lh]; exact la),List.set_set,set_same ga,List.set_append_left _ _ li,Th.ap]
    rfl
theorem nest_ts {nw:Nat} {all:List D}:∀ (ts:List Th) (na ni:Nat) (st ds:List D) (x y:Option D) (h:Hh) (rest:List D),Th.oks ts->h[nw]?=some (.lst all)->h[na]?=some (.lst st)->h[ni]?=some (.lst ds)->nw ≠ na->nw ≠ ni->na ≠ ni->st.length + Th.dps ts<=24->ds.length + (Th.wss ts).length<=1000000 ->
    ∃ x' y',forL [(nw,all)] (nsF cl) ((Th.wss ts).map D.str ++ rest) (env nw na ni x y) h=forL [(nw,all)] (nsF cl) rest (env nw na ni x' y') (h.set ni (.lst (ds ++ Th.vs ts h.length)) ++ Th.aps ts h.length)
  | [],na,ni,st,ds,x,y,h,rest,ok,gw,ga,gi,n1,n2,n3,hd,hl=>by
    refine ⟨x,y,?_⟩
    rw [Th.wss,Th.vs,Th.aps,List.append_nil,List.append_nil,set_same gi]
    rfl
  | t :: r,na,ni,st,ds,x,y,h,rest,ok,gw,ga,gi,n1,n2,n3,hd,hl=>by
    rw [Th.oks] at ok
    rw [Th.wss] at hl ⊢
    rw [Th.dps] at hd
    rw [List.length_append] at hl
    have li:ni < h.length:=(List.getElem?_eq_some_iff.mp gi).1
    have lh:(h.set ni (O.lst (ds ++ [t.v h.length]))).length=h.length:=List.length_set ..
    have lt:1<=t.ws.length:=by cases t <;> simp [Th.ws]
    obtain ⟨x1,y1,e1⟩:=nest_t t na ni st ds x y h ((Th.wss r).map D.str ++ rest) ok.1 gw ga gi n1 n2 n3 (by omega) (by omega)
    obtain ⟨x2,y2,e2⟩:=nest_ts r na ni st (ds ++ [t.v h.length]) x1 y1 (h.set ni (.lst (ds ++ [t.v h.length])) ++ t.ap h.length) rest ok.2
      (get_old (by rw [List.getElem?_set_ne (Ne.symm n2)]; exact gw)) (get_old (by rw [List.getElem?_set_ne (Ne.symm n3)]; exact ga)) (get_old (List.getElem?_set_self li)) n1 n2 n3 (by omega) (by rw [List.length_append]; simp only [List.length_cons,List.length_nil]; omega)
    refine ⟨x2,y2,?_⟩
    rw [List.map_append,List.append_assoc,e1,e2,List.length_append,lh,ap_len,List.set_append_left _ _ (by rw [lh]; exact li),List.set_set,Th.vs,Th.aps,List.append_assoc,List.append_assoc]
    rfl
end
theorem r_nested (nw:Nat) (ts:List Th) (h:Hh) (g:h[nw]?=some (.lst ((Th.wss ts).map D.str))) (ok:Th.oks ts) (hd:Th.dps ts<=24) (hl:(Th.wss ts).length<=1000000) :
    ∃ m ds J,d_nested.run cl [.loc nw] h=.ok (.loc m) (h ++ J) /\ (h ++ J)[m]?=some (.lst ds) /\ Ats (h ++ J) ts ds:=by
  have lw:nw < h.length:=(List.getElem?_eq_some_iff.mp g).1
  have g2:(h ++ [O.lst [],O.lst []])[nw]?=some (O.lst ((Th.wss ts).map D.str)):=get_old g
  have ga:(h ++ [O.lst [],O.lst []])[h.length]?=some (O.lst []):=by rw [hx0]; rfl
  have gi:(h ++ [O.lst [],O.lst []])[h.length + 1]?=some (O.lst []):=by rw [hx]; rfl
  obtain ⟨x',y',e⟩:=nest_ts (cl:=cl) ts h.length (h.length + 1) [] [] none none (h ++ [O.lst [],O.lst []]) [] ok g2 ga gi (by omega) (by omega) (by omega) (by simpa using hd) (by simpa using hl)
  have s1:(h ++ [O.lst [],O.lst []]).set (h.length + 1) (O.lst ([] ++ Th.vs ts (h ++ [O.lst [],O.lst []]).length))=h ++ [O.lst [],O.lst (Th.vs ts (h.length + 2))]:=by rw [hset,List.length_append]; rfl
  rw [List.append_nil,s1,List.append_assoc,List.length_append] at e
  have e':forL [(nw,(Th.wss ts).map D.str)] (nsF cl) ((Th.wss ts).map D.str) (env nw h.length (h.length + 1) none none) (h ++ [O.lst [],O.lst []])=.nx (env nw h.length (h.length + 1) x' y') (h ++ ([O.lst [],O.lst (Th.vs ts (h.length + 2))] ++ Th.aps ts (h.length + 2))):=by
    rw [e]
    exact if_pos (stay_at (get_old g))
  refine ⟨h.length + 1,Th.vs ts (h.length + 2),[O.lst [],O.lst (Th.vs ts (h.length + 2))] ++ Th.aps ts (h.length + 2),?_,?_,?_⟩
  · have e1:(h ++ [O.lst []]).length=h.length + 1:=List.length_append ..
    have s:Ss.run cl d_nested.body [some (.loc nw),none,none,none,none] h=.rt (.loc (h.length + 1)) (h ++ ([O.lst [],O.lst (Th.vs ts (h.length + 2))] ++ Th.aps ts (h.length + 2))):=by
      refine set_s (d:=.loc h.length) (h':=h ++ [O.lst []]) rfl (set_s (d:=.loc (h.length + 1)) (h':=h ++ [O.lst [],O.lst []]) ?_ (forr_s (seq_loc rfl (rd_of g2)) e' (iff_f (h':=h ++ ([O.lst [],O.lst (Th.vs ts (h.length + 2))] ++ Th.aps ts (h.length + 2))) ?_ (ret_r rfl))))
      · show Res.ok (D.loc (h ++ [O.lst []]).length) (h ++ [O.lst []] ++ [O.lst []])=_
        rw [e1,List.append_assoc]; rfl
      · refine bnd (x:=.bl false) (bnd rfl ?_) rfl
        show nilD true (.loc h.length) _=_
        unfold nilD
        dsimp only
        rw [rd_of (show (h ++ ([O.lst [],O.lst (Th.vs ts (h.length + 2))] ++ Th.aps ts (h.length + 2)))[h.length]?=some (O.lst []) by rw [hx0]; rfl)]
        rfl
    exact out_rt s
  · rw [hx]; rfl
  · refine ats_of ts (h.length + 2) fun k o q=>?_
    rw [Nat.add_assoc,hx,Nat.add_comm 2 k]
    exact q
end
end K13
set_option Elab.async false
set_option linter.all false
namespace K13
set_option genInjectivity false
open PySem L2 PI
structure NumW (n:Int) (x:Str):Prop where
  dg:∀ c ∈ cs x,48<=c /\ c<=57
  ne:cs x ≠ []
  le:(cs x).length<=18
  z:(cs x)[0]?=some 48->x="0"
  rd:PySem.intText? x=some n
theorem digit0:∀ (m:Nat),0 < m->(Nat.toDigits 10 m)[0]? ≠ some '0':=by
  intro m
  induction m using Nat.strongRecOn with
  | _ m ih =>
    intro hm
    by_cases h:m < 10
    · have:∀ k < 10,0 < k->(Nat.toDigits 10 k)[0]? ≠ some '0':=by decide
      exact this m h hm
    · have t:Nat.toDigits 10 (m / 10) ++ Nat.toDigits 10 (m % 10)=Nat.toDigits 10 (10 * (m / 10) + m % 10):=Nat.toDigits_append_toDigits (by decide) (by omega) (by omega)
      rw [Nat.div_add_mod] at t
      rw [<- t,List.getElem?_append_left (by have:=Nat.toDigits_ne_nil (b:=10) (n:=m / 10); exact List.length_pos_iff.mpr this)]
      exact ih (m / 10) (by omega) (by omega)
theorem num_w {n:Int} (h0:0<=n) (h1:n < 1000000000000000000):NumW n (Str.ofString (toString n)):=by
  obtain ⟨m,rfl⟩:∃ m:Nat,n=m:=⟨n.toNat,by omega⟩
  have e:cs (Str.ofString (toString (m:Int)))=(Nat.toDigits 10 m).map Char.toNat:=PySem.W.KIN.signs_num m
  have dg:∀ c ∈ cs (Str.ofString (toString (m:Int))),48<=c /\ c<=57:=by
    rw [e]
    intro c hc
    obtain ⟨ch,h2,rfl⟩:=List.mem_map.mp hc
    have hd:=Nat.isDigit_of_mem_toDigits (by decide) (by decide) h2
    unfold Char.isDigit at hd
    simp only [Bool.and_eq_true,decide_eq_true_eq,ge_iff_le] at hd
    exact ⟨UInt32.le_iff_toNat_le.mp hd.1,UInt32.le_iff_toNat_le.mp hd.2⟩
  have ne:cs (Str.ofString (toString (m:Int))) ≠ []:=by rw [e]; intro z; exact Nat.toDigits_ne_nil (List.map_eq_nil_iff.mp z)
  have le:(cs (Str.ofString (toString (m:Int)))).length<=18:=by
    rw [e,List.length_map]
    exact (Nat.length_toDigits_le_iff (by decide) (by decide)).mpr (by omega)
  refine ⟨dg,ne,le,?_,?_⟩
  · intro z
    by_cases hm:m=0
    · subst hm; rfl
    · exfalso
      rw [e,List.getElem?_map] at z
      cases q:(Nat.toDigits 10 m)[0]? with
      | none=>rw [q] at z; cases z
      | some ch =>
        rw [q] at z
        have:ch.toNat=48:=by simpa using z
        have:ch='0':=Char.ext (UInt32.toNat_inj.mp this)
        exact digit0 m (by omega) (by rw [q,this])
  · have r:=PySem.intText_digits (x:=Str.ofString (toString (m:Int))) dg ne (by rw [show (Str.ofString (toString (m:Int))).length=(cs (Str.ofString (toString (m:Int)))).length from cs_len _]; omega)
    rw [show (Str.ofString (toString (m:Int))).cps.toList=(Nat.toDigits 10 m).map Char.toNat from e,PySem.W.KIN.val_back] at r
    exact r
end K13
set_option Elab.async false
set_option linter.all false
set_option maxRecDepth 100000
set_option maxHeartbeats 4000000
namespace K13
set_option genInjectivity false
open PySem L2 PI
section
variable {cl:Nat->List D->Hh->Res D}
noncomputable def sgIn (z:Str) (c:Nat):Bool:=!(Builtin.Str.occurrences z ⟨#[c]⟩ 0 z.length 1).isEmpty
theorem comp_sg {f:D->Hh->Res (Option D)} {b:Nat->Bool} {h:Hh}:∀ (L:List Nat) (acc:List D),(∀ c,f (.str ⟨#[c]⟩) h=.ok (some (.bl (b c))) h)->compL [] f (L.map fun c=>.str ⟨#[c]⟩) acc h=.ok (acc ++ (L.map b).map D.bl) h
  | [],acc,_=>by rw [List.map_nil,compL,if_pos stay_nil]; simp
  | c :: r,acc,hf=>by
    rw [List.map_cons,compL,if_pos stay_nil,hf c,bind_ok,addO_some,comp_sg r _ hf]
    simp
theorem all_in {x z nm:Str} {ns:List Str} {sc:Scope} {p0 p1 p2 p3 p4 p5 p6 p7:Pos} {h:Hh} (hl:(cs x).length<=1000000) :
    E.ev cl (.c1 .all (.ofL (.comp (.cmp .In (.var 0 p0) (.gcon nm (.str z) p1) p2) (.one 0 p3) (.seq (.var 0 p4)) .nil ns [none] sc p5)) p6 p7) [some (.str x)] h=.ok (.bl ((cs x).all (sgIn z))) (h ++ [.lst (((cs x).map (sgIn z)).map D.bl)]):=by
  have e:=comp_sg (f:=compF (.one 0 p3) (capE [none] [some (.str x)]) (fun ρ' h2=>Es.nil.evC cl ρ' h2) (fun ρ' h2=>(E.cmp .In (.var 0 p0) (.gcon nm (.str z) p1) p2).ev cl ρ' h2)) (b:=sgIn z) (h:=h) (cs x) [] (fun c=>rfl)
  refine bnd (ofL_comp (q:=([],(cs x).map fun c=>.str ⟨#[c]⟩)) rfl (by simpa using hl) e) ?_
  show c1D .all (.loc h.length) _=_
  unfold c1D
  dsimp only
  rw [rdx0,List.nil_append]
  show (match (some (((cs x).map (sgIn z)).map D.bl)).bind blsOf with | some bs=>Res.ok (D.bl (bs.all id)) _ | none=>.no)=_
  rw [Option.bind_some,bls_map]
  simp only [List.all_map]
  rfl
noncomputable def letS:Str:="abcdefghijklmnopqrstuvwxyz"
noncomputable def figS:Str:="0123456789"
theorem in_let {c:Nat} (h:97<=c /\ c<=122):sgIn letS c=true:=by
  have:∀ k < 26,sgIn letS (97 + k)=true:=by decide +kernel
  have:=this (c - 97) (by omega)
  rwa [show 97 + (c - 97)=c by omega] at this
theorem in_fig {c:Nat} (h:48<=c /\ c<=57):sgIn figS c=true:=by
  have:∀ k < 10,sgIn figS (48 + k)=true:=by decide +kernel
  have:=this (c - 48) (by omega)
  rwa [show 48 + (c - 48)=c by omega] at this
theorem out_fig {c:Nat} (h:97<=c /\ c<=122):sgIn figS c=false:=by
  have:∀ k < 26,sgIn figS (97 + k)=false:=by decide +kernel
  have:=this (c - 97) (by omega)
  rwa [show 97 + (c - 97)=c by omega] at this
theorem so_e:PyData.strOk ""=true:=by decide +kernel
theorem so_z:PyData.strOk "0"=true:=by decide +kernel
theorem ne_e {x:Str} (h:cs x ≠ []):(x == ("":Str))=false:=str_ne h
theorem len_s {x:Str} {h:Hh} (hl:(cs x).length<=18):lenD (.str x) h=.ok (.int ((cs x).length:Nat)) h:=by
  unfold lenD
  dsimp only
  rw [if_pos (by rw [cs_len]; omega),cs_len]
theorem in_words {x:Str} {h:Hh} (q:resW.any (fun y=>y == x)=false):inD false (.str x) (.tup (g_WORDS.map .str)) h=.ok (.bl false) h:=by
  show inXs false (.str x) (g_WORDS.map .str) h=_
  unfold inXs
  have:((g_WORDS.map D.str).any fun y=>eqV (vOf y) (vOf (.str x)))=resW.any (fun y=>y == x):=by rw [List.any_map]; rfl
  rw [this,q,if_pos ⟨rfl,by rw [List.all_map]; rfl⟩]
  rfl
theorem r_is_name {x:Str} (m:Nm x) (h:Hh):∃ J,d_is_name.run cl [.str x] h=.ok (.bl true) (h ++ J):=by
  have l8:=m.le
  refine ⟨[.lst (((cs x).map (sgIn letS)).map D.bl)],out_rt (iff_f (h':=h) (t_or3 (t_cmp rfl rfl (by rw [eqS m.wd.ok so_e,ne_e m.ne])) (t_cmp (bnd rfl (len_s (by omega))) rfl (by rw [cmp_gt]; congr 2; exact decide_eq_false (by omega))) (t_cmp rfl rfl (in_words m.nr))) (ret_r ((all_in (z:=letS) (by omega)).trans ?_)))⟩
  rw [List.all_eq_true.mpr fun c hc=>in_let (m.lo c hc)]
theorem sub0 {x:Str} {c:Nat} {h:Hh} (e:(cs x)[0]?=some c) (hl:(cs x).length<=18):subD (.str x) (.int 0) h=.ok (.str ⟨#[c]⟩) h:=by
  show (if x.length<=1000000 then (match atI x.cps.toList 0 with | some c=>Res.ok (D.str ⟨#[c]⟩) h | none=>.no) else .no)=_
  rw [if_pos (by rw [cs_len]; omega),show atI x.cps.toList 0=(cs x)[0]? from PI.atI_nat (k:=0),e]
theorem so_1 {c:Nat} (h:c < 1114112):PyData.strOk ⟨#[c]⟩=true:=ok_mk (l:=[c]) (by simpa using h)
theorem r_is_number_t {n:Int} {x:Str} (m:NumW n x) (h:Hh):∃ J,d_is_number.run cl [.str x] h=.ok (.bl true) (h ++ J):=by
  have l8:=m.le
  have ok:PyData.strOk x=true:=ok_cs fun c hc=>by have:=m.dg c hc; omega
  obtain ⟨c,r,e⟩:∃ c r,cs x=c :: r:=by cases e:cs x with | nil=>exact absurd e m.ne | cons c r=>exact ⟨c,r,rfl⟩
  have e0:(cs x)[0]?=some c:=by rw [e]; rfl
  have hc:=m.dg c (by rw [e]; exact List.mem_cons_self ..)
  have hz:E.evT cl (.and (.cmp .Eq (.sub (.var 0 ⟨21,50,21,54⟩) (.int 0 ⟨21,55,21,56⟩) ⟨21,50,21,57⟩) (.str "0" ⟨21,61,21,64⟩) ⟨21,50,21,64⟩) (.cmp .NotEq (.var 0 ⟨21,69,21,73⟩) (.str "0" ⟨21,77,21,80⟩) ⟨21,69,21,80⟩) .nil ⟨21,50,21,80⟩) [some (.str x)] h=.ok false h:=by
    by_cases z:c=48
    · subst z
      have hx:=m.z e0
      exact t_and (t_cmp (bnd rfl (bnd rfl (sub0 e0 l8))) rfl (eqS (so_1 (by decide)) so_z)) (t_cmp rfl rfl (by rw [neS ok so_z,hx]; rfl))
    · exact t_andF (t_cmp (bnd rfl (bnd rfl (sub0 e0 l8))) rfl (by rw [eqS (so_1 (by omega)) so_z]; congr 2; exact str_ne (fun q=>z (List.cons.inj (show [c]=[48] from q)).1)))
  refine ⟨[.lst (((cs x).map (sgIn figS)).map D.bl)],out_rt (iff_f (h':=h) (t_or3 (t_cmp rfl rfl (by rw [eqS ok so_e,ne_e m.ne])) (t_cmp (bnd rfl (len_s (by omega))) rfl (by rw [cmp_gt]; congr 2; exact decide_eq_false (by omega))) hz) (ret_r ((all_in (z:=figS) (by omega)).trans ?_)))⟩
  rw [List.all_eq_true.mpr fun c hc=>in_fig (m.dg c hc)]
theorem r_is_number_f {x:Str} (m:Nm x) (h:Hh):∃ J,d_is_number.run cl [.str x] h=.ok (.bl false) (h ++ J):=by
  have l8:=m.le
  obtain ⟨c,r,e⟩:∃ c r,cs x=c :: r:=by cases e:cs x with | nil=>exact absurd e m.ne | cons c r=>exact ⟨c,r,rfl⟩
  have e0:(cs x)[0]?=some c:=by rw [e]; rfl
  have hc:=m.lo c (by rw [e]; exact List.mem_cons_self ..)
  refine ⟨[.lst (((cs x).map (sgIn figS)).map D.bl)],out_rt (iff_f (h':=h) (t_or3 (t_cmp rfl rfl (by rw [eqS m.wd.ok so_e,ne_e m.ne])) (t_cmp (bnd rfl (len_s (by omega))) rfl (by rw [cmp_gt]; congr 2; exact decide_eq_false (by omega))) (t_andF (t_cmp (bnd rfl (bnd rfl (sub0 e0 (by omega)))) rfl (by rw [eqS (so_1 (by omega)) so_z]; congr 2; exact str_ne (fun q=>by have:=(List.cons.inj (show [c]=[48] from q)).1; omega))))) (ret_r ((all_in (z:=figS) (by omega)).trans ?_)))⟩
  rw [e,List.all_cons,out_fig hc,Bool.false_and]
noncomputable def IsName (cl:Nat->List D->Hh->Res D):Prop:=∀ x h,Nm x->∃ J,cl 0 [.str x] h=.ok (.bl true) (h ++ J)
noncomputable def IsNumber (cl:Nat->List D->Hh->Res D):Prop:=(∀ n x h,NumW n x->∃ J,cl 1 [.str x] h=.ok (.bl true) (h ++ J)) /\ (∀ x h,Nm x->∃ J,cl 1 [.str x] h=.ok (.bl false) (h ++ J))
noncomputable def NameOf (cl:Nat->List D->Hh->Res D):Prop:=∀ x h,Nm x->∃ J,cl 17 [.str x] h=.ok (.str x) (h ++ J)
theorem r_name_of (C:IsName cl) {x:Str} (m:Nm x) (h:Hh):∃ J,d_name_of.run cl [.str x] h=.ok (.str x) (h ++ J):=by
  obtain ⟨J,e⟩:=C x h m
  exact ⟨J,out_rt (iff_f (h':=h) (t_not (b:=true) (bnd (x:=.bl true) (bnd rfl rfl) rfl)) (iff_f (h':=h ++ J) (t_not (b:=true) (bnd (x:=.bl true) (bnd rfl (bnd rfl e)) rfl)) (ret_r rfl)))⟩
theorem r_head_of {n:Nat} {w:Str} {r:List D} {h:Hh} (g:h[n]?=some (.lst (.str w :: r))):d_head_of.run cl [.loc n] h=.ok (.str w) h:=by
  have s0:subD (.loc n) (.int 0) h=.ok (.str w) h:=by
    unfold subD
    dsimp only
    rw [g]
    dsimp only
    rw [show atI (D.str w :: r) 0=some (.str w) from PI.atI_nat (k:=0)]
  refine out_rt (iff_f (h':=h) (bnd (x:=.bl false) (bnd rfl ?_) rfl) (iff_f (h':=h) (t_or (bnd (x:=.bl false) (bnd rfl ?_) rfl) (t_not (b:=true) (bnd (x:=.bl true) (bnd (bnd rfl (bnd rfl s0)) rfl) rfl))) (ret_r (bnd rfl (bnd rfl s0)))))
  · show (match isI h (.loc n) 2 with | some b=>Res.ok (D.bl b) h | none=>.no)=_
    unfold isI
    dsimp only
    rw [rd_of g]
    rfl
  · show nilD false (.loc n) h=_
    unfold nilD
    dsimp only
    rw [rd_of g]
    rfl
theorem r_names_of (C:NameOf cl) {n:Nat} {ps:List Str} {h:Hh} (g:h[n]?=some (.lst (ps.map D.str))) (m:∀ x ∈ ps,Nm x) (hl:ps.length<=1000):∃ J,d_names_of.run cl [.loc n] h=.ok (.tup (ps.map D.str)) (h ++ J):=by
  obtain ⟨h',e,_,J,rfl⟩:=compL_fn (c:=[(n,ps.map D.str)]) (f:=compF t_names_of_1 (capE [none] [some (.loc n)]) (fun ρ' h2=>c_names_of_1.evC cl ρ' h2) (fun ρ' h2=>e_names_of_1.ev cl ρ' h2)) D.str D.str (fun h=>rd h n=some (ps.map D.str)) Gr Gr.refl Gr.trans (fun h q=>stay_one.mpr q) ps [] h (rd_of g) (by
    intro x hx h q
    obtain ⟨J,e⟩:=C x h (m x hx)
    exact ⟨h ++ J,compF_t rfl rfl (bnd rfl (bnd rfl e)),rd_old q,J,rfl⟩)
  refine ⟨J,out_rt (iff_f (h':=h) (bnd (x:=.bl false) (bnd rfl ?_) rfl) (ret_r (bnd (bnd (seq_loc rfl (rd_of g)) ((if_pos (show (ps.map D.str).length<=1000000 by simp; omega)).trans e)) rfl)))⟩
  show (match isI h (.loc n) 2 with | some b=>Res.ok (D.bl b) h | none=>.no)=_
  unfold isI
  dsimp only
  rw [rd_of g]
  rfl
end
end K13
set_option Elab.async false
set_option linter.all false
set_option maxRecDepth 100000
set_option maxHeartbeats 4000000
namespace K13
set_option genInjectivity false
open PySem L2 PI
mutual
noncomputable def th:G->Th
  | .nd k ps=>match Kd.leaf k with
    | some x=>.w x
    | none=>.l ((Kd.heads k).map .w ++ ths ps)
noncomputable def ths:List G->List Th
  | []=>[]
  | g :: r=>th g :: ths r
end
theorem ths_map:∀ gs:List G,ths gs=gs.map th
  | []=>by rw [ths]; rfl
  | g :: r=>by rw [ths,ths_map r]; rfl
inductive Sl where
  | nm (x:Str)
  | pt (g:G)
noncomputable def Sl.th:Sl->Th
  | .nm x=>.w x
  | .pt g=>K13.th g
noncomputable def Sl.d:Sl->D
  | .nm x=>.str x
  | .pt g=>g.d
noncomputable def Sl.kd:Sl->Str
  | .nm _=>"name"
  | .pt _=>"part"
theorem ats_len {h:Hh}:∀ {ts:List Th} {ds:List D},Ats h ts ds->ds.length=ts.length
  | [],ds,q=>by rw [Ats] at q; rw [q]; rfl
  | t :: r,ds,q=>by
    rw [Ats] at q
    obtain ⟨e,es,rfl,_,b⟩:=q
    rw [List.length_cons,List.length_cons,ats_len b]
section
variable {cl:Nat->List D->Hh->Res D}
theorem comp_ats {α:Type} (T:α->Th) (out:α->D) (en:α->D->D) {f:D->Hh->Res (Option D)} {n:Nat} {all:List D}:∀ (xs:List α) (ds acc:List D) (h:Hh),rd h n=some all->Ats h (xs.map T) ds->(∀ x ∈ xs,∀ h d,At h (T x) d->∃ J,f (en x d) h=.ok (some (out x)) (h ++ J)) ->
    ∃ J,compL [(n,all)] f (List.zipWith en xs ds) acc h=.ok (acc ++ xs.map out) (h ++ J)
  | [],ds,acc,h,q,a,hf=>⟨[],by rw [List.zipWith_nil_left,compL,if_pos (stay_one.mpr q)]; simp⟩
  | x :: r,ds,acc,h,q,a,hf=>by
    rw [List.map_cons,Ats] at a
    obtain ⟨e,es,rfl,a1,a2⟩:=a
    obtain ⟨J1,e1⟩:=hf x (List.mem_cons_self ..) h e a1
    obtain ⟨J2,e2⟩:=comp_ats T out en r es (acc ++ [out x]) (h ++ J1) (rd_old q) (Ats.gr a2) fun y hy=>hf y (List.mem_cons_of_mem _ hy)
    refine ⟨J1 ++ J2,?_⟩
    rw [List.zipWith_cons_cons,compL,if_pos (stay_one.mpr q),e1,bind_ok,addO_some,e2,List.append_assoc,List.append_assoc]
    rfl
theorem zip_snd {α:Type}:∀ (xs:List α) (ds:List D),ds.length=xs.length->List.zipWith (fun _ d=>d) xs ds=ds
  | [],[],_=>rfl
  | x :: r,d :: s,e=>by rw [List.zipWith_cons_cons,zip_snd r s (by simpa using e)]
theorem zip_kd:∀ (sl:List Sl) (ds:List D),((sl.map fun s=>D.str s.kd).zip ds).map pairT=List.zipWith (fun s d=>pairT (.str s.kd,d)) sl ds
  | [],ds=>by simp
  | s :: r,[]=>by simp
  | s :: r,d :: ds=>by rw [List.map_cons,List.zip_cons_cons,List.map_cons,zip_kd r ds,List.zipWith_cons_cons]
theorem cut_l {n k:Nat} {xs:List D} {h:Hh} (g:h[n]?=some (.lst xs)):cutD (.loc n) (some (k:Nat)) none h=.ok (.loc h.length) (h ++ [.lst (xs.drop k)]):=by
  have e:cutXs xs (some (k:Nat)) none=xs.drop k:=by
    unfold cutXs
    rw [sIx_some _ _ _ (by omega),sIx_none,Int.toNat_natCast]
    by_cases q:k<=xs.length
    · rw [Nat.min_eq_left q,List.take_of_length_le (by rw [List.length_drop]; omega)]
    · rw [Nat.min_eq_right (by omega),Nat.sub_self,List.take_zero,List.drop_eq_nil_of_le (by omega)]
  unfold cutD
  dsimp only
  rw [rd_of g]
  dsimp only
  rw [e]
  rfl
theorem isi_l {i n:Nat} {xs:List D} {ρ:En} {h:Hh} {p p1 p2 p3:Pos} (ei:ρ[i]?=some (some (.loc n))) (g:h[n]?=some (.lst xs)):E.evT cl (.isi 2 (.var i p) p1 p2 p3) ρ h=.ok false h:=by
  refine bnd (x:=.bl false) (bnd (x:=.loc n) (by rw [vvar,ei]) ?_) rfl
  show (match isI h (.loc n) 2 with | some b=>Res.ok (D.bl b) h | none=>.no)=_
  unfold isI
  dsimp only
  rw [rd_of g]
  rfl
theorem in_t {x:Str} {ys:List Str} {b:Bool} {h:Hh} (q:ys.any (fun y=>y == x)=b):inD false (.str x) (.tup (ys.map .str)) h=.ok (.bl b) h:=by
  show inXs false (.str x) (ys.map .str) h=_
  unfold inXs
  have:((ys.map D.str).any fun y=>eqV (vOf y) (vOf (.str x)))=ys.any (fun y=>y == x):=by rw [List.any_map]; rfl
  rw [this,q,if_pos ⟨rfl,by rw [List.all_map]; simp [flatD]⟩]
  rfl
noncomputable def ExprAt (cl:Nat->List D->Hh->Res D) (g:G):Prop:=∀ h d,At h (th g) d->∃ J,cl 11 [d] h=.ok g.d (h ++ J)
noncomputable def ReadAt (cl:Nat->List D->Hh->Res D) (s:Sl):Prop:=∀ h d,At h s.th d->∃ J,cl 10 [.str s.kd,d] h=.ok s.d (h ++ J)
noncomputable def FormAt (cl:Nat->List D->Hh->Res D) (sl:List Sl):Prop:=∀ h n ds,h[n]?=some (.lst ds)->Ats h (sl.map Sl.th) ds->∃ J,cl 9 [.loc n,.tup (sl.map fun s=>.str s.kd)] h=.ok (.tup (sl.map Sl.d)) (h ++ J)
noncomputable def ExprsAt (cl:Nat->List D->Hh->Res D) (gs:List G):Prop:=∀ h n ds,h[n]?=some (.lst ds)->Ats h (ths gs) ds->∃ J,cl 14 [.loc n] h=.ok (.tup (G.ds gs)) (h ++ J)
theorem so_name:PyData.strOk "name"=true:=by decide +kernel
theorem so_part:PyData.strOk "part"=true:=by decide +kernel
theorem r_read_as (C:NameOf cl) (s:Sl) (hs:match s with | .nm x=>Nm x | .pt g=>ExprAt cl g) (h:Hh) (d:D) (a:At h s.th d):∃ J,d_read_as.run cl [.str s.kd,d] h=.ok s.d (h ++ J):=by
  cases s with
  | nm x =>
    rw [Sl.th,At] at a
    subst a
    obtain ⟨J,e⟩:=C x h hs
    exact ⟨J,out_rt (ret_r (ite_t (t_cmp rfl rfl (eqS so_name so_name)) (call_1 rfl e)))⟩
  | pt g =>
    obtain ⟨J,e⟩:=hs h d a
    exact ⟨J,out_rt (ret_r (ite_f (t_cmp rfl rfl (eqS so_part so_name)) (call_1 rfl e)))⟩
theorem r_formed (sl:List Sl) (C:∀ s ∈ sl,ReadAt cl s) (hl:sl.length<=1000) (h:Hh) (n:Nat) (ds:List D) (g:h[n]?=some (.lst ds)) (a:Ats h (sl.map Sl.th) ds) :
    ∃ J,d_formed.run cl [.loc n,.tup (sl.map fun s=>.str s.kd)] h=.ok (.tup (sl.map Sl.d)) (h ++ J):=by
  have le:ds.length=sl.length:=by rw [ats_len a,List.length_map]
  obtain ⟨J,e⟩:=comp_ats Sl.th Sl.d (fun s d=>pairT (.str s.kd,d)) (f:=compF t_formed_1 (capE [none,none] [some (.loc n),some (.tup (sl.map fun s=>.str s.kd))]) (fun ρ' h2=>c_formed_1.evC cl ρ' h2) (fun ρ' h2=>e_formed_1.ev cl ρ' h2)) (n:=n) (all:=ds) sl ds [] h (rd_of g) a (by
    intro s hs h d a
    obtain ⟨J,e⟩:=C s hs h d a
    exact ⟨J,compF_t rfl rfl (call_2 rfl rfl e)⟩)
  rw [<- zip_kd] at e
  have z:zipD (.tup (sl.map fun s=>.str s.kd)) (.loc n) h=.ok ([(n,ds)],((sl.map fun s=>D.str s.kd).zip ds).map pairT) h:=by
    unfold zipD seqC
    dsimp only
    rw [rd_of g]
    rfl
  refine ⟨J,out_rt (iff_f (h':=h) (t_cmp (bnd rfl (show lenD (.loc n) h=.ok (.int sl.length) h by unfold lenD; dsimp only; rw [rd_of g,<- le])) (bnd rfl (show lenD (.tup (sl.map fun s=>.str s.kd)) h=.ok (.int sl.length) h by unfold lenD; dsimp only; rw [List.length_map])) (by rw [neI]; simp)) (ret_r (bnd (bnd (bnd rfl (bnd rfl z)) ((if_pos ?_).trans e)) rfl)))⟩
  simp
  omega
theorem r_exprs (gs:List G) (C:∀ g ∈ gs,ExprAt cl g) (hl:gs.length<=1000000) (h:Hh) (n:Nat) (ds:List D) (g:h[n]?=some (.lst ds)) (a:Ats h (ths gs) ds) :
    ∃ J,d_expressions_of.run cl [.loc n] h=.ok (.tup (G.ds gs)) (h ++ J):=by
  rw [ths_map] at a
  have le:ds.length=gs.length:=by rw [ats_len a,List.length_map]
  obtain ⟨J,e⟩:=comp_ats th G.d (fun _ d=>d) (f:=compF t_expressions_of_1 (capE [none] [some (.loc n)]) (fun ρ' h2=>c_expressions_of_1.evC cl ρ' h2) (fun ρ' h2=>e_expressions_of_1.ev cl ρ' h2)) (n:=n) (all:=ds) gs ds [] h (rd_of g) a (by
    intro s hs h d a
    obtain ⟨J,e⟩:=C s hs h d a
    exact ⟨J,compF_t rfl rfl (call_1 rfl e)⟩)
  rw [zip_snd gs ds le,List.nil_append,<- ds_map] at e
  exact ⟨J,out_rt (ret_r (bnd (bnd (seq_loc rfl (rd_of g)) ((if_pos (show ds.length<=1000000 by omega)).trans e)) rfl))⟩
theorem r_call_of (C:NameOf cl) (f:Str) (gs:List G) (hf:Nm f) (C14:ExprsAt cl gs) (h:Hh) (n:Nat) (ds:List D) (g:h[n]?=some (.lst (.str f :: ds))) (a:Ats h (ths gs) ds) :
    ∃ J,d_call_of.run cl [.loc n] h=.ok (G.nd (.call f none) gs).d (h ++ J):=by
  obtain ⟨J1,e1⟩:=C f h hf
  have g1:(h ++ J1)[n]?=some (O.lst (.str f :: ds)):=get_old g
  obtain ⟨J2,e2⟩:=C14 (h ++ J1 ++ [.lst ds]) (h ++ J1).length ds (by rw [hx0]; rfl) (Ats.gr (Ats.gr a))
  refine ⟨J1 ++ ([.lst ds] ++ J2),out_rt (iff_f (h':=h) (bnd (x:=.bl false) (bnd rfl ?_) rfl) (ret_r (tup_s (xs:=[.str "call",.str f,.non,.tup (G.ds gs)]) (es_c rfl (es_c (call_1 (bnd rfl (bnd rfl (sub_l (k:=0) g rfl))) e1) (es_c rfl (es_c (call_1 (bnd rfl (bnd rfl (bnd rfl (cut_l (k:=1) g1)))) e2) ?_)))) (Nat.le_of_ble_eq_true rfl))))⟩
  · show nilD false (.loc n) h=_
    unfold nilD
    dsimp only
    rw [rd_of g]
    rfl
  · rw [enil]; simp only [List.append_assoc]
theorem r_hand_of (C:NameOf cl) (f f2:Str) (gs:List G) (hf:Nm f) (hf2:Nm f2) (C14:ExprsAt cl gs) (h:Hh) (n:Nat) (ds:List D) (g:h[n]?=some (.lst (.str f :: .str f2 :: ds))) (a:Ats h (ths gs) ds) :
    ∃ J,d_hand_of.run cl [.loc n] h=.ok (G.nd (.call f (some f2)) gs).d (h ++ J):=by
  obtain ⟨J1,e1⟩:=C f h hf
  have g1:(h ++ J1)[n]?=some (O.lst (.str f :: .str f2 :: ds)):=get_old g
  obtain ⟨J2,e2⟩:=C f2 (h ++ J1) hf2
  have g2:(h ++ J1 ++ J2)[n]?=some (O.lst (.str f :: .str f2 :: ds)):=get_old g1
  obtain ⟨J3,e3⟩:=C14 (h ++ J1 ++ J2 ++ [.lst ds]) (h ++ J1 ++ J2).length ds (by rw [hx0]; rfl) (Ats.gr (Ats.gr (Ats.gr a)))
  refine ⟨J1 ++ (J2 ++ ([.lst ds] ++ J3)),out_rt (iff_f (h':=h) (t_cmp (bnd rfl (show lenD (.loc n) h=.ok (.int ((ds.length + 2:Nat):Int)) h by unfold lenD; dsimp only; rw [rd_of g]; try rfl)) rfl (by rw [cmp_lt]; congr 2)) (ret_r (tup_s (xs:=[.str "call",.str f,.str f2,.tup (G.ds gs)]) (es_c rfl (es_c (call_1 (bnd rfl (bnd rfl (sub_l (k:=0) g rfl))) e1) (es_c (call_1 (bnd rfl (bnd rfl (sub_l (k:=1) g1 rfl))) e2) (es_c (call_1 (bnd rfl (bnd rfl (bnd rfl (cut_l (k:=2) g2)))) e3) ?_)))) (Nat.le_of_ble_eq_true rfl))))⟩
  rw [enil]; simp only [List.append_assoc]
end
end K13
set_option Elab.async false
set_option linter.all false
set_option maxRecDepth 100000
set_option maxHeartbeats 4000000
namespace K13
set_option genInjectivity false
open PySem L2 PI
section
variable {cl:Nat->List D->Hh->Res D}
noncomputable def HeadOf (cl:Nat->List D->Hh->Res D):Prop:=∀ n w r h,h[n]?=some (.lst (.str w :: r))->cl 15 [.loc n] h=.ok (.str w) h
theorem add_t {a b:E} {ρ:En} {h h' h2:Hh} {p:Pos} {xs ys:List D} (ea:a.ev cl ρ h=.ok (.tup xs) h') (eb:b.ev cl ρ h'=.ok (.tup ys) h2) (hl:xs.length + ys.length<=1000000):E.ev cl (.bin .Add a b p) ρ h=.ok (.tup (xs ++ ys)) h2:=bnd ea (bnd eb (if_pos hl))
theorem ex_head (C:HeadOf cl) {n:Nat} {w:Str} {r:List D} {h:Hh} {d:D} {h2:Hh} (g:h[n]?=some (.lst (.str w :: r))) (k:Ss.run cl (dropS 2 d_expression_of.body) [some (.loc n),some (.str w)] h=.rt d h2):d_expression_of.run cl [.loc n] h=.ok d h2 :=
  out_rt (iff_f (h':=h) (isi_l rfl g) (set_s (call_1 rfl (C n w r h g)) k))
theorem so_sg {s:Str} (q:Sg s):PyData.strOk s=true:=by rcases q with rfl | rfl | rfl | rfl <;> decide +kernel
theorem sg_any {s:Str} (q:Sg s):g_SIGNS.any (fun y=>y == s)=true:=by rcases q with rfl | rfl | rfl | rfl <;> decide +kernel
theorem ex_op (C:HeadOf cl) {s:Str} (hs:Sg s) (a b:G) (C9:FormAt cl [.pt a,.pt b]) (h:Hh) (d:D) (q:At h (th (.nd (.op s) [a,b])) d):∃ J,d_expression_of.run cl [d] h=.ok (G.nd (.op s) [a,b]).d (h ++ J):=by
  rw [show th (.nd (.op s) [a,b])=.l (.w s :: ([Sl.pt a,Sl.pt b].map Sl.th)) by simp [th,ths,Kd.leaf,Kd.heads,Sl.th],At] at q
  obtain ⟨n,ds,rfl,g,q⟩:=q
  rw [Ats] at q
  obtain ⟨e,ds,rfl,q1,q2⟩:=q
  rw [At] at q1
  subst q1
  obtain ⟨J,e⟩:=C9 (h ++ [.lst ds]) h.length ds (by rw [hx0]; rfl) (Ats.gr q2)
  refine ⟨[.lst ds] ++ J,?_⟩
  rw [show (G.nd (.op s) [a,b]).d=.tup ([.str "op",.str s] ++ [a.d,b.d]) by simp [G.d,Kd.enc,G.ds],<- List.append_assoc]
  refine ex_head C g (iff_r (t_cmp rfl rfl (in_t (sg_any hs))) (ret_r (add_t (xs:=[.str "op",.str s]) (ys:=[a.d,b.d]) rfl (call_2 (bnd rfl (bnd rfl (bnd rfl (cut_l (k:=1) g)))) (y:=.tup [.str "part",.str "part"]) ?_ e) (Nat.le_of_ble_eq_true rfl))))
  exact bnd rfl (bnd rfl (bnd rfl rfl))
theorem ex_alike (C:HeadOf cl) (w:Str) (sl:List Sl) (k:Kd) (ps:List G) (hw:g_SIGNS.any (fun y=>y == w)=false) (hw2:g_ALIKE.any (fun y=>y == w)=true) (hl:g_FORMS.lookup w=some (.tup (sl.map Sl.kd))) (ht:th (.nd k ps)=.l (.w w :: sl.map Sl.th)) (hd:(G.nd k ps).d=.tup (.str w :: sl.map Sl.d)) (hn:sl.length<=3)
    (C9:FormAt cl sl) (h:Hh) (d:D) (q:At h (th (.nd k ps)) d):∃ J,d_expression_of.run cl [d] h=.ok (G.nd k ps).d (h ++ J):=by
  rw [ht,At] at q
  obtain ⟨n,ds,rfl,g,q⟩:=q
  rw [Ats] at q
  obtain ⟨e,ds,rfl,q1,q2⟩:=q
  rw [At] at q1
  subst q1
  obtain ⟨J,e⟩:=C9 (h ++ [.lst ds]) h.length ds (by rw [hx0]; rfl) (Ats.gr q2)
  refine ⟨[.lst ds] ++ J,?_⟩
  rw [hd,<- List.append_assoc]
  refine ex_head C g (iff_f (t_cmp rfl rfl (in_t hw)) (iff_r (t_cmp rfl rfl (in_t hw2)) (ret_r (add_t (xs:=[.str w]) (ys:=sl.map Sl.d) rfl (call_2 (bnd rfl (bnd rfl (bnd rfl (cut_l (k:=1) g)))) (y:=.tup (sl.map fun s=>.str s.kd)) ?_ e) (by simp; omega)))))
  · refine bnd rfl ?_
    show cstD g_FORMS (.str w) _=_
    unfold cstD
    dsimp only
    rw [hl]
    show Res.ok (D.tup ((sl.map Sl.kd).map .str)) _=_
    rw [List.map_map]
    rfl
theorem ex_call (C:HeadOf cl) (f:Str) (ps:List G) (C12:∀ h n ds,h[n]?=some (.lst (.str f :: ds))->Ats h (ths ps) ds->∃ J,cl 12 [.loc n] h=.ok (G.nd (.call f none) ps).d (h ++ J)) (h:Hh) (d:D) (q:At h (th (.nd (.call f none) ps)) d):∃ J,d_expression_of.run cl [d] h=.ok (G.nd (.call f none) ps).d (h ++ J):=by
  rw [show th (.nd (.call f none) ps)=.l (.w "call" :: .w f :: ths ps) by simp [th,Kd.leaf,Kd.heads],At] at q
  obtain ⟨n,ds,rfl,g,q⟩:=q
  rw [Ats] at q
  obtain ⟨e,ds,rfl,q1,q⟩:=q
  rw [At] at q1
  rw [Ats] at q
  obtain ⟨e2,ds,rfl,q2,q⟩:=q
  rw [At] at q2
  subst q1 q2
  obtain ⟨J,e⟩:=C12 (h ++ [.lst (.str f :: ds)]) h.length ds (by rw [hx0]; rfl) (Ats.gr q)
  refine ⟨[.lst (.str f :: ds)] ++ J,?_⟩
  rw [<- List.append_assoc]
  exact ex_head C g (iff_f (t_cmp rfl rfl (in_t (by decide +kernel))) (iff_f (t_cmp rfl rfl (in_t (by decide +kernel))) (iff_r (t_cmp rfl rfl (eqS so_call so_call)) (ret_r (call_1 (bnd rfl (bnd rfl (bnd rfl (cut_l (k:=1) g)))) e)))))
theorem so_hand:PyData.strOk "hand"=true:=by decide +kernel
theorem ex_hand (C:HeadOf cl) (f f2:Str) (ps:List G) (C13:∀ h n ds,h[n]?=some (.lst (.str f :: .str f2 :: ds))->Ats h (ths ps) ds->∃ J,cl 13 [.loc n] h=.ok (G.nd (.call f (some f2)) ps).d (h ++ J)) (h:Hh) (d:D) (q:At h (th (.nd (.call f (some f2)) ps)) d):∃ J,d_expression_of.run cl [d] h=.ok (G.nd (.call f (some f2)) ps).d (h ++ J):=by
  rw [show th (.nd (.call f (some f2)) ps)=.l (.w "hand" :: .w f :: .w f2 :: ths ps) by simp [th,Kd.leaf,Kd.heads],At] at q
  obtain ⟨n,ds,rfl,g,q⟩:=q
  rw [Ats] at q
  obtain ⟨e,ds,rfl,q1,q⟩:=q
  rw [At] at q1
  rw [Ats] at q
  obtain ⟨e2,ds,rfl,q2,q⟩:=q
  rw [At] at q2
  rw [Ats] at q
  obtain ⟨e3,ds,rfl,q3,q⟩:=q
  rw [At] at q3
  subst q1 q2 q3
  obtain ⟨J,e⟩:=C13 (h ++ [.lst (.str f :: .str f2 :: ds)]) h.length ds (by rw [hx0]; rfl) (Ats.gr q)
  refine ⟨[.lst (.str f :: .str f2 :: ds)] ++ J,?_⟩
  rw [<- List.append_assoc]
  exact ex_head C g (iff_f (t_cmp rfl rfl (in_t (by decide +kernel))) (iff_f (t_cmp rfl rfl (in_t (by decide +kernel))) (iff_f (t_cmp rfl rfl (eqS so_hand so_call)) (iff_r (t_cmp rfl rfl (eqS so_hand so_hand)) (ret_r (call_1 (bnd rfl (bnd rfl (bnd rfl (cut_l (k:=1) g)))) e))))))
theorem int_of {n:Int} {x:Str} {h:Hh} (m:NumW n x):c1D .int (.str x) h=.ok (.int n) h:=by
  unfold c1D
  dsimp only
  rw [m.rd]
  exact if_pos (by have:=m.le; rw [cs_len]; omega)
theorem ex_num (C1:IsNumber cl) {n:Int} (m:NumW n (Str.ofString (toString n))) (h:Hh) (d:D) (q:At h (th (.nd (.num n) [])) d):∃ J,d_expression_of.run cl [d] h=.ok (G.nd (.num n) []).d (h ++ J):=by
  rw [show th (.nd (.num n) [])=.w (Str.ofString (toString n)) by simp [th,Kd.leaf],At] at q
  subst q
  obtain ⟨J,e⟩:=C1.1 n _ h m
  exact ⟨J,out_rt (iff_r (h':=h) (bnd (x:=.bl true) (bnd rfl rfl) rfl) (ret_r (ite_t (bnd (x:=.bl true) (call_1 rfl e) rfl) (tup_s (xs:=[.str "num",.int n]) (es_c rfl (es_c (bnd rfl (int_of m)) rfl)) (Nat.le_of_ble_eq_true rfl)))))⟩
theorem ex_var (C1:IsNumber cl) (C17:NameOf cl) {x:Str} (m:Nm x) (h:Hh) (d:D) (q:At h (th (.nd (.var x) [])) d):∃ J,d_expression_of.run cl [d] h=.ok (G.nd (.var x) []).d (h ++ J):=by
  rw [show th (.nd (.var x) [])=.w x by simp [th,Kd.leaf],At] at q
  subst q
  obtain ⟨J,e⟩:=C1.2 x h m
  obtain ⟨J2,e2⟩:=C17 x (h ++ J) m
  refine ⟨J ++ J2,out_rt (iff_r (h':=h) (bnd (x:=.bl true) (bnd rfl rfl) rfl) (ret_r (ite_f (bnd (x:=.bl false) (call_1 rfl e) rfl) (tup_s (xs:=[.str "var",.str x]) (es_c rfl (es_c (call_1 rfl e2) ?_)) (Nat.le_of_ble_eq_true rfl)))))⟩
  rw [enil,List.append_assoc]
structure ExC (cl:Nat->List D->Hh->Res D) (ps:List G):Prop where
  hd:HeadOf cl
  nb:IsNumber cl
  nm:NameOf cl
  fo:∀ sl:List Sl,(∀ s ∈ sl,match s with | .nm x=>Nm x | .pt g=>g ∈ ps)->sl.length<=3->FormAt cl sl
  ca:∀ f,Nm f->∀ h n ds,h[n]?=some (.lst (.str f :: ds))->Ats h (ths ps) ds->∃ J,cl 12 [.loc n] h=.ok (G.nd (.call f none) ps).d (h ++ J)
  ha:∀ f f2,Nm f->Nm f2->∀ h n ds,h[n]?=some (.lst (.str f :: .str f2 :: ds))->Ats h (ths ps) ds->∃ J,cl 13 [.loc n] h=.ok (G.nd (.call f (some f2)) ps).d (h ++ J)
theorem r_expr (k:Kd) (ps:List G) (hw:Kd.wd k ps.length) (hk:k.ok ps.length=true) (C:ExC cl ps) (h:Hh) (d:D) (q:At h (th (.nd k ps)) d):∃ J,d_expression_of.run cl [d] h=.ok (G.nd k ps).d (h ++ J):=by
  have l1:∀ {l:List G},l.length=1->∃ a,l=[a]:=fun {l} e=>by match l,e with | [a],_=>exact ⟨a,rfl⟩
  have l2:∀ {l:List G},l.length=2->∃ a b,l=[a,b]:=fun {l} e=>by match l,e with | [a,b],_=>exact ⟨a,b,rfl⟩
  have l3:∀ {l:List G},l.length=3->∃ a b c,l=[a,b,c]:=fun {l} e=>by match l,e with | [a,b,c],_=>exact ⟨a,b,c,rfl⟩
  cases k with
  | num n =>
    obtain rfl:ps=[]:=List.eq_nil_of_length_eq_zero hw.2.2
    exact ex_num C.nb (num_w hw.1 hw.2.1) h d q
  | var x =>
    obtain rfl:ps=[]:=List.eq_nil_of_length_eq_zero hw.2
    exact ex_var C.nb C.nm hw.1 h d q
  | op s =>
    obtain ⟨a,b,rfl⟩:=l2 (by simpa [Kd.ok] using hk)
    exact ex_op C.hd hw a b (C.fo _ (by simp) (by simp)) h d q
  | lett x =>
    obtain ⟨a,b,rfl⟩:=l2 (by simpa [Kd.ok] using hk)
    exact ex_alike C.hd "let" [.nm x,.pt a,.pt b] (.lett x) [a,b] (by decide +kernel) (by decide +kernel) (by rfl) (by simp [th,ths,Kd.leaf,Kd.heads,Sl.th]) (by simp [G.d,Kd.enc,G.ds,Sl.d]) (by simp) (C.fo _ (by simp; exact hw) (by simp)) h d q
  | ite =>
    obtain ⟨a,b,c,rfl⟩:=l3 (by simpa [Kd.ok] using hk)
    exact ex_alike C.hd "if" [.pt a,.pt b,.pt c] .ite [a,b,c] (by decide +kernel) (by decide +kernel) (by rfl) (by simp [th,ths,Kd.leaf,Kd.heads,Sl.th]) (by simp [G.d,Kd.enc,G.ds,Sl.d]) (by simp) (C.fo _ (by simp) (by simp)) h d q
  | call f g =>
    cases g with
    | none=>exact ex_call C.hd f ps (C.ca f hw.1) h d q
    | some f2=>exact ex_hand C.hd f f2 ps (C.ha f f2 hw.1 (hw.2 f2 rfl)) h d q
  | doo x =>
    obtain ⟨a,rfl⟩:=l1 (by simpa [Kd.ok] using hk)
    exact ex_alike C.hd "do" [.nm x,.pt a] (.doo x) [a] (by decide +kernel) (by decide +kernel) (by rfl) (by simp [th,ths,Kd.leaf,Kd.heads,Sl.th]) (by simp [G.d,Kd.enc,G.ds,Sl.d]) (by simp) (C.fo _ (by simp; exact hw) (by simp)) h d q
  | handle x =>
    obtain ⟨a,b,rfl⟩:=l2 (by simpa [Kd.ok] using hk)
    exact ex_alike C.hd "handle" [.nm x,.pt a,.pt b] (.handle x) [a,b] (by decide +kernel) (by decide +kernel) (by rfl) (by simp [th,ths,Kd.leaf,Kd.heads,Sl.th]) (by simp [G.d,Kd.enc,G.ds,Sl.d]) (by simp) (C.fo _ (by simp; exact hw) (by simp)) h d q
  | go =>
    obtain ⟨a,b,rfl⟩:=l2 (by simpa [Kd.ok] using hk)
    exact ex_alike C.hd "go" [.pt a,.pt b] .go [a,b] (by decide +kernel) (by decide +kernel) (by rfl) (by simp [th,ths,Kd.leaf,Kd.heads,Sl.th]) (by simp [G.d,Kd.enc,G.ds,Sl.d]) (by simp) (C.fo _ (by simp) (by simp)) h d q
  | guard =>
    obtain ⟨a,b,rfl⟩:=l2 (by simpa [Kd.ok] using hk)
    exact ex_alike C.hd "guard" [.pt a,.pt b] .guard [a,b] (by decide +kernel) (by decide +kernel) (by rfl) (by simp [th,ths,Kd.leaf,Kd.heads,Sl.th]) (by simp [G.d,Kd.enc,G.ds,Sl.d]) (by simp) (C.fo _ (by simp) (by simp)) h d q
end
end K13
set_option Elab.async false
set_option linter.all false
set_option maxRecDepth 100000
set_option maxHeartbeats 4000000
namespace K13
set_option genInjectivity false
open PySem L2 PI
noncomputable def thQ (w:Str) (q:List Str × G):Th:=.l (.w w :: (q.1.map .w ++ [th q.2]))
noncomputable def thI:Itm->Th
  | .fn f ps b g=>.l (.w "def" :: .w f :: .l (ps.map .w) :: (b.toList.map .w ++ [th g]))
  | .hd n qs e=>.l (.w "handler" :: .w n :: (qs.map (thQ "on") ++ [thQ "end" e]))
theorem ats_app {h:Hh}:∀ {ts us:List Th} {ds:List D},Ats h (ts ++ us) ds->∃ a b,ds=a ++ b /\ Ats h ts a /\ Ats h us b
  | [],us,ds,q=>⟨[],ds,rfl,by rw [Ats],q⟩
  | t :: r,us,ds,q=>by
    rw [List.cons_append,Ats] at q
    obtain ⟨e,es,rfl,q1,q2⟩:=q
    obtain ⟨a,b,rfl,q3,q4⟩:=ats_app q2
    exact ⟨e :: a,b,rfl,by rw [Ats]; exact ⟨e,a,rfl,q1,q3⟩,q4⟩
theorem ats_w {h:Hh}:∀ {ws:List Str} {ds:List D},Ats h (ws.map .w) ds->ds=ws.map D.str
  | [],ds,q=>by rw [List.map_nil,Ats] at q; exact q
  | w :: r,ds,q=>by
    rw [List.map_cons,Ats] at q
    obtain ⟨e,es,rfl,q1,q2⟩:=q
    rw [At] at q1
    rw [q1,ats_w q2]; rfl
theorem ats_1 {h:Hh} {t:Th} {ds:List D} (q:Ats h [t] ds):∃ d,ds=[d] /\ At h t d:=by
  rw [Ats] at q
  obtain ⟨e,es,rfl,q1,q2⟩:=q
  rw [Ats] at q2
  exact ⟨e,by rw [q2],q1⟩
section
variable {cl:Nat->List D->Hh->Res D}
noncomputable def NamesAt (cl:Nat->List D->Hh->Res D):Prop:=∀ (n:Nat) (ps:List Str) (h:Hh),h[n]?=some (.lst (ps.map D.str))->(∀ x ∈ ps,Nm x)->ps.length<=1000->∃ J,cl 16 [.loc n] h=.ok (.tup (ps.map D.str)) (h ++ J)
theorem sub_m {n:Nat} {xs:List D} {d:D} {h:Hh} (g:h[n]?=some (.lst (xs ++ [d]))):subD (.loc n) (.int (-1)) h=.ok d h:=by
  unfold subD
  dsimp only
  rw [g]
  dsimp only
  have:atI (xs ++ [d]) (-1)=some d:=by
    unfold atI ixN
    rw [if_neg (by decide),if_pos (by simp; omega),Option.bind_some]
    have:((-1:Int) + ((xs ++ [d]).length:Nat)).toNat=xs.length:=by simp; omega
    rw [this]; simp
  rw [this]
theorem r_fn0 (C17:NameOf cl) (C16:NamesAt cl) (f:Str) (ps:List Str) (g:G) (hf:Nm f) (hp:∀ x ∈ ps,Nm x) (hl:ps.length<=1000) (C11:ExprAt cl g) (h:Hh) (n m:Nat) (dg:D) (gn:h[n]?=some (.lst [.str f,.loc m,dg])) (gm:h[m]?=some (.lst (ps.map D.str))) (a:At h (th g) dg) :
    ∃ J,d_function_of.run cl [.loc n] h=.ok (Itm.fn f ps none g).d (h ++ J):=by
  obtain ⟨J1,e1⟩:=C17 f h hf
  obtain ⟨J2,e2⟩:=C16 m ps (h ++ J1) (get_old gm) hp hl
  obtain ⟨J3,e3⟩:=C11 (h ++ J1 ++ J2) dg (At.gr (At.gr a))
  refine ⟨J1 ++ (J2 ++ J3),?_⟩
  rw [<- List.append_assoc,<- List.append_assoc]
  exact out_rt (iff_f (h':=h) (t_cmp (bnd rfl (len_l gn)) rfl rfl) (set_s (d:=.non) (ite_f (t_cmp (bnd rfl (len_l gn)) rfl rfl) rfl) (ret_r (tup_s (xs:=[.str "def",.str f,.tup (ps.map D.str),.non,g.d]) (es_c rfl (es_c (call_1 (bnd rfl (bnd rfl (sub_l (k:=0) gn rfl))) e1) (es_c (call_1 (bnd rfl (bnd rfl (sub_l (k:=1) (get_old gn) rfl))) e2) (es_c rfl (es_c (call_1 (bnd rfl (bnd rfl (sub_m (xs:=[.str f,.loc m]) (get_old (get_old gn))))) e3) rfl))))) (Nat.le_of_ble_eq_true rfl)))))
theorem r_fn1 (C17:NameOf cl) (C16:NamesAt cl) (f b:Str) (ps:List Str) (g:G) (hf:Nm f) (hb:Nm b) (hp:∀ x ∈ ps,Nm x) (hl:ps.length<=1000) (C11:ExprAt cl g) (h:Hh) (n m:Nat) (dg:D) (gn:h[n]?=some (.lst [.str f,.loc m,.str b,dg])) (gm:h[m]?=some (.lst (ps.map D.str))) (a:At h (th g) dg) :
    ∃ J,d_function_of.run cl [.loc n] h=.ok (Itm.fn f ps (some b) g).d (h ++ J):=by
  obtain ⟨J0,e0⟩:=C17 b h hb
  obtain ⟨J1,e1⟩:=C17 f (h ++ J0) hf
  obtain ⟨J2,e2⟩:=C16 m ps (h ++ J0 ++ J1) (get_old (get_old gm)) hp hl
  obtain ⟨J3,e3⟩:=C11 (h ++ J0 ++ J1 ++ J2) dg (At.gr (At.gr (At.gr a)))
  refine ⟨J0 ++ (J1 ++ (J2 ++ J3)),?_⟩
  rw [<- List.append_assoc,<- List.append_assoc,<- List.append_assoc]
  exact out_rt (iff_f (h':=h) (t_cmp (bnd rfl (len_l gn)) rfl rfl) (set_s (d:=.str b) (ite_t (t_cmp (bnd rfl (len_l gn)) rfl rfl) (call_1 (bnd rfl (bnd rfl (sub_l (k:=2) gn rfl))) e0)) (ret_r (tup_s (xs:=[.str "def",.str f,.tup (ps.map D.str),.str b,g.d]) (es_c rfl (es_c (call_1 (bnd rfl (bnd rfl (sub_l (k:=0) (get_old gn) rfl))) e1) (es_c (call_1 (bnd rfl (bnd rfl (sub_l (k:=1) (get_old (get_old gn)) rfl))) e2) (es_c rfl (es_c (call_1 (bnd rfl (bnd rfl (sub_m (xs:=[.str f,.loc m,.str b]) (get_old (get_old (get_old gn)))))) e3) rfl))))) (Nat.le_of_ble_eq_true rfl)))))
noncomputable def HeadedAt (cl:Nat->List D->Hh->Res D) (w:Str) (form:List Str) (q:List Str × G):Prop:=∀ h d,At h (thQ w q) d->∃ J,cl 8 [.str w,d,.tup (form.map .str)] h=.ok (hdD q.1 q.2) (h ++ J)
theorem r_headed (C15:HeadOf cl) (w:Str) (hw:PyData.strOk w=true) (form:List Str) (q:List Str × G) (hf:form=q.1.map (fun _=>("name":Str)) ++ [("part":Str)]) (C9:FormAt cl (q.1.map .nm ++ [.pt q.2])) (h:Hh) (d:D) (a:At h (thQ w q) d):∃ J,d_headed.run cl [.str w,d,.tup (form.map .str)] h=.ok (hdD q.1 q.2) (h ++ J):=by
  rw [thQ,show q.1.map Th.w ++ [th q.2]=(q.1.map Sl.nm ++ [Sl.pt q.2]).map Sl.th by simp [Sl.th,Function.comp_def],At] at a
  obtain ⟨n,ds,rfl,g,a⟩:=a
  rw [Ats] at a
  obtain ⟨e,ds,rfl,q1,q2⟩:=a
  rw [At] at q1
  subst q1
  obtain ⟨J,e⟩:=C9 (h ++ [.lst ds]) h.length ds (by rw [hx0]; rfl) (Ats.gr q2)
  rw [show ((q.1.map Sl.nm ++ [Sl.pt q.2]).map fun s=>D.str s.kd)=form.map .str by rw [hf]; simp [Sl.kd,Function.comp_def],show (q.1.map Sl.nm ++ [Sl.pt q.2]).map Sl.d=q.1.map .str ++ [q.2.d] by simp [Sl.d,Function.comp_def]] at e
  refine ⟨[.lst ds] ++ J,?_⟩
  rw [<- List.append_assoc]
  exact out_rt (iff_f (h':=h) (t_cmp (call_1 rfl (C15 n w ds h g)) rfl (by rw [neS hw hw]; simp)) (ret_r (call_2 (bnd rfl (bnd rfl (bnd rfl (cut_l (k:=1) g)))) rfl e)))
theorem cut_in {xs:List D} {a b:D}:cutXs (a :: (xs ++ [b])) (some 1) (some (-1))=xs:=by
  unfold cutXs HT.sIx
  simp
  rw [show ((-1 + ((xs.length:Int) + 1 + 1)).toNat - 1)=xs.length by omega,List.take_left' rfl]
theorem cut_io {i n:Nat} {xs:List D} {a b:D} {ρ:En} {h:Hh} {p p1 p2 p3 p4 p5:Pos} (ei:ρ[i]?=some (some (.loc n))) (g:h[n]?=some (.lst (a :: (xs ++ [b])))):E.ev cl (.cut (.var i p) (.some (.int 1 p1)) (.some (.un .USub (.int 1 p2) p3)) p4 p5) ρ h=.ok (.loc h.length) (h ++ [O.lst xs]):=by
  refine bnd (x:=.loc n) (by rw [vvar,ei]) (bnd rfl (bnd rfl ?_))
  show cutD (.loc n) (some 1) (some (-1)) h=_
  unfold cutD
  dsimp only
  rw [rd_of g]
  dsimp only
  rw [cut_in]
  rfl
theorem r_handler_of (C17:NameOf cl) (nm:Str) (qs:List (List Str × G)) (e:List Str × G) (hn:Nm nm) (hl:qs.length<=1000) (Con:∀ q ∈ qs,HeadedAt cl "on" g_CLAUSE_FORM q) (Cend:HeadedAt cl "end" g_END_FORM e) (h:Hh) (n:Nat) (ds:List D) (g:h[n]?=some (.lst (.str nm :: ds))) (a:Ats h (qs.map (thQ "on") ++ [thQ "end" e]) ds) :
    ∃ J,d_handler_of.run cl [.loc n] h=.ok (Itm.hd nm qs e).d (h ++ J):=by
  obtain ⟨xs,b,rfl,a1,a2⟩:=ats_app a
  obtain ⟨ed,rfl,a3⟩:=ats_1 a2
  have lx:xs.length=qs.length:=by rw [ats_len a1,List.length_map]
  have g0:(h ++ [O.lst xs])[n]?=some (.lst (.str nm :: (xs ++ [ed]))):=get_old g
  have r0:rd (h ++ [O.lst xs]) h.length=some xs:=by rw [rdx0]; rfl
  obtain ⟨J1,e1⟩:=comp_ats (thQ "on") (fun q=>hdD q.1 q.2) (fun _ d=>d) (f:=compF t_handler_of_1 (capE [none] [some (.loc n),none]) (fun ρ' h2=>c_handler_of_1.evC cl ρ' h2) (fun ρ' h2=>e_handler_of_1.ev cl ρ' h2)) (n:=h.length) (all:=xs) qs xs [] (h ++ [O.lst xs]) r0 (Ats.gr a1) (by
    intro q hq h d a
    obtain ⟨J,e⟩:=Con q hq h d a
    exact ⟨J,compF_t rfl rfl (call_3 rfl rfl rfl e)⟩)
  rw [zip_snd qs xs lx,List.nil_append] at e1
  obtain ⟨J2,e2⟩:=C17 nm (h ++ [O.lst xs] ++ J1 ++ [.lst (qs.map fun q=>hdD q.1 q.2)]) hn
  obtain ⟨J3,e3⟩:=Cend (h ++ [O.lst xs] ++ J1 ++ [.lst (qs.map fun q=>hdD q.1 q.2)] ++ J2) ed (At.gr (At.gr (At.gr (At.gr a3))))
  have rt:seqOf (.loc (h ++ [O.lst xs] ++ J1).length) (h ++ [O.lst xs] ++ J1 ++ [O.lst (qs.map fun q=>hdD q.1 q.2)] ++ J2)=some (qs.map fun q=>hdD q.1 q.2):=rd_old (by rw [rdx0]; rfl)
  have s0:subD (.loc n) (.int 0) (h ++ [O.lst xs] ++ J1 ++ [O.lst (qs.map fun q=>hdD q.1 q.2)])=.ok (.str nm) (h ++ [O.lst xs] ++ J1 ++ [O.lst (qs.map fun q=>hdD q.1 q.2)]):=sub_l (k:=0) (get_old (get_old g0)) rfl
  have s1:subD (.loc n) (.int (-1)) (h ++ [O.lst xs] ++ J1 ++ [O.lst (qs.map fun q=>hdD q.1 q.2)] ++ J2)=.ok ed (h ++ [O.lst xs] ++ J1 ++ [O.lst (qs.map fun q=>hdD q.1 q.2)] ++ J2):=sub_m (xs:=.str nm :: xs) (get_old (get_old (get_old g0)))
  refine ⟨[O.lst xs] ++ (J1 ++ ([O.lst (qs.map fun q=>hdD q.1 q.2)] ++ (J2 ++ J3))),?_⟩
  rw [<- List.append_assoc,<- List.append_assoc,<- List.append_assoc,<- List.append_assoc]
  refine out_rt (iff_f (h':=h) (t_cmp (bnd rfl (len_l g)) rfl (by rw [cmp_lt]; congr 2; simp; omega)) (set_s (ofL_comp (seq_loc (cut_io rfl g) r0) (show xs.length<=1000000 by omega) e1) (ret_r (tup_s (xs:=[.str "handler",.str nm,.tup (qs.map fun q=>hdD q.1 q.2),hdD e.1 e.2]) ?_ (Nat.le_of_ble_eq_true rfl)))))
  exact es_c rfl (es_c (call_1 (bnd rfl (bnd rfl s0)) e2) (es_c (tupE_s rfl rt) (es_c (call_3 rfl (bnd rfl (bnd rfl s1)) rfl e3) rfl)))
end
end K13
set_option Elab.async false
set_option linter.all false
set_option maxRecDepth 100000
set_option maxHeartbeats 4000000
namespace K13
set_option genInjectivity false
open PySem L2 PI
noncomputable def Itm.hw:Itm->Str
  | .fn ..=>"def"
  | .hd ..=>"handler"
noncomputable def Itm.tl:Itm->List Th
  | .fn f ps b g=>.w f :: .l (ps.map .w) :: (b.toList.map .w ++ [th g])
  | .hd n qs e=>.w n :: (qs.map (thQ "on") ++ [thQ "end" e])
noncomputable def Itm.fx:Itm->Nat
  | .fn ..=>6
  | .hd ..=>7
theorem thI_tl (i:Itm):thI i=.l (.w i.hw :: i.tl):=by cases i <;> rfl
section
variable {cl:Nat->List D->Hh->Res D}
noncomputable def TailAt (cl:Nat->List D->Hh->Res D) (i:Itm):Prop:=∀ h n ds,h[n]?=some (.lst ds)->Ats h i.tl ds->∃ J,cl i.fx [.loc n] h=.ok i.d (h ++ J)
noncomputable def ItemAt (cl:Nat->List D->Hh->Res D) (i:Itm):Prop:=∀ h d,At h (thI i) d->∃ J,cl 5 [d] h=.ok i.d (h ++ J)
theorem r_function_of (C17:NameOf cl) (C16:NamesAt cl) (f:Str) (ps:List Str) (b:Option Str) (g:G) (hf:Nm f) (hp:∀ x ∈ ps,Nm x) (hb:∀ x,b=some x->Nm x) (hl:ps.length<=1000) (C11:ExprAt cl g) (h:Hh) (n:Nat) (ds:List D) (gn:h[n]?=some (.lst ds)) (a:Ats h (Itm.fn f ps b g).tl ds) :
    ∃ J,d_function_of.run cl [.loc n] h=.ok (Itm.fn f ps b g).d (h ++ J):=by
  rw [Itm.tl,Ats] at a
  obtain ⟨e,ds,rfl,a1,a⟩:=a
  rw [At] at a1
  rw [Ats] at a
  obtain ⟨e2,ds,rfl,a2,a⟩:=a
  rw [At] at a2
  obtain ⟨m,es,rfl,gm,a2⟩:=a2
  have:=ats_w a2
  subst a1 this
  obtain ⟨x,y,rfl,a3,a4⟩:=ats_app a
  obtain ⟨dg,rfl,a5⟩:=ats_1 a4
  have:=ats_w a3
  subst this
  cases b with
  | none=>exact r_fn0 C17 C16 f ps g hf hp hl C11 h n m dg gn gm a5
  | some b=>exact r_fn1 C17 C16 f b ps g hf (hb b rfl) hp hl C11 h n m dg gn gm a5
theorem r_item_of (C15:HeadOf cl) (i:Itm) (C:TailAt cl i) (h:Hh) (d:D) (a:At h (thI i) d):∃ J,d_item_of.run cl [d] h=.ok i.d (h ++ J):=by
  rw [thI_tl,At] at a
  obtain ⟨n,ds,rfl,g,a⟩:=a
  rw [Ats] at a
  obtain ⟨e,ds,rfl,a1,a⟩:=a
  rw [At] at a1
  subst a1
  obtain ⟨J,e⟩:=C (h ++ [.lst ds]) h.length ds (by rw [hx0]; rfl) (Ats.gr a)
  refine ⟨[.lst ds] ++ J,?_⟩
  rw [<- List.append_assoc]
  cases i with
  | fn f ps b g=>exact out_rt (set_s (call_1 rfl (C15 n _ ds h g)) (iff_r (t_cmp rfl rfl (eqS so_def so_def)) (ret_r (call_1 (bnd rfl (bnd rfl (bnd rfl (cut_l (k:=1) g)))) e))))
  | hd nm qs e=>exact out_rt (set_s (call_1 rfl (C15 n _ ds h g)) (iff_f (t_cmp rfl rfl (eqS so_hd so_def)) (iff_r (t_cmp rfl rfl (eqS so_hd so_hd)) (ret_r (call_1 (bnd rfl (bnd rfl (bnd rfl (cut_l (k:=1) g)))) e)))))
noncomputable def NestedAt (cl:Nat->List D->Hh->Res D) (ts:List Th):Prop:=∀ nw h,h[nw]?=some (.lst ((Th.wss ts).map D.str))->∃ m ds J,cl 4 [.loc nw] h=.ok (.loc m) (h ++ J) /\ (h ++ J)[m]?=some (.lst ds) /\ Ats (h ++ J) ts ds
theorem r_read (x:Str) (is:List Itm) (hl:is.length<=1000) (h:Hh) (C3:∃ n J,cl 3 [.str x] h=.ok (.loc n) (h ++ J) /\ (h ++ J)[n]?=some (.lst ((Th.wss (is.map thI)).map D.str))) (C4:NestedAt cl (is.map thI)) (C5:∀ i ∈ is,ItemAt cl i) :
    ∃ J,d_read.run cl [.str x] h=.ok (.tup (is.map Itm.d)) (h ++ J):=by
  obtain ⟨n,J1,e1,g1⟩:=C3
  obtain ⟨m,ds,J2,e2,g2,a⟩:=C4 n (h ++ J1) g1
  have le:ds.length=is.length:=by rw [ats_len a,List.length_map]
  obtain ⟨J3,e3⟩:=comp_ats thI Itm.d (fun _ d=>d) (f:=compF t_read_1 (capE [none] [some (.str x)]) (fun ρ' h2=>c_read_1.evC cl ρ' h2) (fun ρ' h2=>e_read_1.ev cl ρ' h2)) (n:=m) (all:=ds) is ds [] (h ++ J1 ++ J2) (rd_of g2) a (by
    intro s hs h d a
    obtain ⟨J,e⟩:=C5 s hs h d a
    exact ⟨J,compF_t rfl rfl (call_1 rfl e)⟩)
  rw [zip_snd is ds le,List.nil_append] at e3
  refine ⟨J1 ++ (J2 ++ J3),?_⟩
  rw [<- List.append_assoc,<- List.append_assoc]
  exact out_rt (ret_r (bnd (bnd (seq_loc (call_1 (call_1 rfl e1) e2) (rd_of g2)) ((if_pos (show ds.length<=1000000 by omega)).trans e3)) rfl))
end
theorem wss_app:∀ (a b:List Th),Th.wss (a ++ b)=Th.wss a ++ Th.wss b
  | [],b=>by rw [Th.wss]; rfl
  | t :: r,b=>by rw [List.cons_append,Th.wss,Th.wss,wss_app r b,List.append_assoc]
theorem wss_w:∀ ws:List Str,Th.wss (ws.map .w)=ws
  | []=>by rw [List.map_nil,Th.wss]
  | w :: r=>by rw [List.map_cons,Th.wss,wss_w r,Th.ws]; rfl
theorem wss_1 (t:Th):Th.wss [t]=t.ws:=by rw [Th.wss,Th.wss,List.append_nil]
mutual
theorem wr_th:∀ g:G,(th g).ws=wr g
  | .nd k ps=>by
    rw [th,wr]
    cases Kd.leaf k with
    | some x=>simp only; rw [Th.ws]
    | none=>simp only; rw [Th.ws,wss_app,wss_w,wrs_ths ps,List.append_assoc]
theorem wrs_ths:∀ gs:List G,Th.wss (ths gs)=(wrs gs).flatten
  | []=>by rw [ths,wrs,Th.wss]; rfl
  | g :: r=>by rw [ths,wrs,Th.wss,wr_th g,wrs_ths r,List.flatten_cons]
end
theorem qw_th (w:Str) (q:List Str × G):(thQ w q).ws=qw q w:=by
  rw [thQ,Th.ws,Th.wss,Th.ws,wss_app,wss_w,wss_1,wr_th,qw]
  simp
theorem iw_th (i:Itm):(thI i).ws=iw i:=by
  cases i with
  | fn f ps b g =>
    rw [thI,iw,Th.ws,Th.wss,Th.wss,Th.wss,Th.ws,Th.ws,Th.ws,wss_w,wss_app,wss_w,wss_1,wr_th]
    simp
  | hd n qs e =>
    have:∀ qs:List (List Str × G),Th.wss (qs.map (thQ "on"))=(qs.map fun q=>qw q "on").flatten:=by
      intro qs
      induction qs with
      | nil=>rw [List.map_nil,Th.wss]; rfl
      | cons q r ih=>rw [List.map_cons,Th.wss,qw_th,ih]; rfl
    rw [thI,iw,Th.ws,Th.wss,Th.wss,Th.ws,Th.ws,wss_app,wss_1,this,qw_th,qw]
    simp
theorem wss_is (is:List Itm):Th.wss (is.map thI)=(is.map iw).flatten:=by
  induction is with
  | nil=>rw [List.map_nil,Th.wss]; rfl
  | cons i r ih=>rw [List.map_cons,Th.wss,iw_th,ih]; rfl
theorem dps_app:∀ (a b:List Th),Th.dps (a ++ b)=max (Th.dps a) (Th.dps b)
  | [],b=>by rw [Th.dps,List.nil_append,Nat.zero_max]
  | t :: r,b=>by rw [List.cons_append,Th.dps,Th.dps,dps_app r b,Nat.max_assoc]
theorem dps_w:∀ ws:List Str,Th.dps (ws.map .w)=0
  | []=>by rw [List.map_nil,Th.dps]
  | w :: r=>by rw [List.map_cons,Th.dps,dps_w r,Th.dp]; rfl
mutual
theorem bd_th:∀ g:G,(th g).dp<=bd g
  | .nd k ps=>by
    rw [th,bd]
    unfold Kd.br
    cases e:Kd.leaf k with
    | some x=>simp only; rw [Th.dp]; omega
    | none =>
      simp only
      rw [Th.dp,dps_app,dps_w]
      have:=bds_ths ps
      omega
theorem bds_ths:∀ gs:List G,Th.dps (ths gs)<=bds gs
  | []=>by rw [ths,Th.dps]; omega
  | g :: r=>by
    rw [ths,Th.dps,bds]
    have a:=bd_th g
    have b:=bds_ths r
    omega
end
theorem dps_of {α:Type} (T:α->Th) (n:Nat):∀ xs:List α,(∀ x ∈ xs,(T x).dp<=n)->Th.dps (xs.map T)<=n
  | [],_=>by rw [List.map_nil,Th.dps]; omega
  | x :: r,h=>by
    rw [List.map_cons,Th.dps]
    have:=h x (List.mem_cons_self ..)
    have:=dps_of T n r fun y hy=>h y (List.mem_cons_of_mem _ hy)
    omega
theorem dp_thQ (w:Str) (q:List Str × G):(thQ w q).dp<=1 + bd q.2:=by
  rw [thQ,Th.dp,Th.dps,dps_app,dps_w,Th.dps,Th.dps,Th.dp]
  have:=bd_th q.2
  omega
theorem dp_thI (i:Itm) (g:ItG i):(thI i).dp<=24:=by
  cases i with
  | fn f ps b t =>
    have h1:=(g.tr t (by simp [trs])).2.2
    have h2:=bd_th t
    rw [Itm.cap] at h1
    rw [thI,Th.dp,Th.dps,Th.dps,Th.dps,Th.dp,Th.dp,Th.dp,dps_w,dps_app,dps_w,Th.dps,Th.dps]
    omega
  | hd n qs e =>
    have h1:∀ t ∈ trs (.hd n qs e),bd t<=22:=fun t ht=>(g.tr t ht).2.2
    have h2:=dps_of (thQ "on") 23 qs (fun q hq=>by have:=dp_thQ "on" q; have:=h1 q.2 (by simp only [trs]; exact List.mem_append.mpr (.inl (List.mem_map.mpr ⟨q,hq,rfl⟩))); omega)
    have h3:=dp_thQ "end" e
    have h4:=h1 e.2 (by simp [trs])
    rw [thI,Th.dp,Th.dps,Th.dps,Th.dp,Th.dp,dps_app,Th.dps,Th.dps]
    omega
end K13
set_option Elab.async false
set_option linter.all false
set_option maxRecDepth 100000
set_option maxHeartbeats 4000000
namespace K13
set_option genInjectivity false
open PySem L2 PI
noncomputable def fl (cur:List Nat):List (List Nat):=if cur=[] then [] else [cur]
noncomputable def w1:List Nat->List Nat->List (List Nat)
  | cur,[]=>fl cur
  | cur,c :: r=>if c=32 then fl cur ++ w1 [] r else w1 (cur ++ [c]) r
theorem w1_part:∀ (p cur L:List Nat),32 ∉ p->w1 cur (p ++ L)=w1 (cur ++ p) L
  | [],cur,L,_=>by simp
  | c :: r,cur,L,h=>by
    rw [List.mem_cons,not_or] at h
    rw [List.cons_append,w1,if_neg (fun e=>h.1 e.symm),w1_part r _ L h.2,List.append_assoc]; rfl
theorem w1_sep:∀ (ps:List (List Nat)) (cur:List Nat),(∀ p ∈ ps,32 ∉ p)->w1 cur (sepL [32] ps)=match ps with | []=>fl cur | p :: r=>fl (cur ++ p) ++ r.filter (fun q=>decide (q ≠ []))
  | [],cur,_=>by rw [sepL,w1]
  | [p],cur,h=>by
    rw [sepL]
    have:=w1_part p cur [] (h p (List.mem_singleton.mpr rfl))
    rw [List.append_nil] at this
    rw [this,w1]; simp
  | p :: q :: r,cur,h=>by
    rw [sepL,List.append_assoc,w1_part p cur _ (h p (List.mem_cons_self ..)),List.singleton_append,w1,if_pos rfl,w1_sep (q :: r) [] fun x hx=>h x (List.mem_cons_of_mem _ hx)]
    simp only [List.nil_append,List.filter_cons]
    unfold fl
    by_cases e:q=[] <;> simp [e]
noncomputable def sg (c:Nat):List Nat:=if c=10 then [32] else if c=40 then [32,40,32] else if c=41 then [32,41,32] else [c]
noncomputable def Sn (T:List Nat):List Nat:=T.flatMap sg
theorem Sn_app (a b:List Nat):Sn (a ++ b)=Sn a ++ Sn b:=List.flatMap_append ..
theorem Sn_plain:∀ w:List Nat,(∀ c ∈ w,c ≠ 10 /\ c ≠ 40 /\ c ≠ 41)->Sn w=w
  | [],_=>rfl
  | c :: r,h=>by
    have hc:=h c (List.mem_cons_self ..)
    show sg c ++ Sn r=_
    rw [Sn_plain r fun x hx=>h x (List.mem_cons_of_mem _ hx),sg,if_neg hc.1,if_neg hc.2.1,if_neg hc.2.2]; rfl
noncomputable def Sp (s:List Nat):Prop:=∀ c ∈ s,c=32 \/ c=10
theorem w1_sp:∀ (s cur L:List Nat),Sp s->w1 cur (Sn s ++ L)=if s=[] then w1 cur L else fl cur ++ w1 [] L
  | [],cur,L,_=>rfl
  | c :: r,cur,L,h=>by
    have e:sg c=[32]:=by rcases h c (List.mem_cons_self ..) with rfl | rfl <;> rfl
    have ih:=w1_sp r [] L fun x hx=>h x (List.mem_cons_of_mem _ hx)
    show w1 cur (sg c ++ Sn r ++ L)=_
    have z:(if r=[] then w1 [] L else fl [] ++ w1 [] L)=w1 [] L:=by split <;> simp [fl]
    rw [e,List.append_assoc,List.singleton_append,w1,if_pos rfl,ih,z,if_neg (List.cons_ne_nil c r)]
structure Wq (w:List Nat):Prop where
  ne:w ≠ []
  le:w.length<=20
  ch:∀ c ∈ w,c ≠ 10 /\ c ≠ 32 /\ c ≠ 40 /\ c ≠ 41 /\ c < 1114112
noncomputable def Br (w:List Nat):Prop:=w=[40] \/ w=[41]
structure Inv (T:List Nat) (ws:List (List Nat)) (cur:List Nat):Prop where
  ex:∃ acc,ws=acc ++ fl cur /\ ∀ L,w1 [] (Sn T ++ L)=acc ++ w1 cur L
theorem inv_start {s:List Nat} (h:Sp s):Inv s [] []:=⟨[],rfl,fun L=>by rw [w1_sp s [] L h]; split <;> simp [fl]⟩
theorem inv_end {T:List Nat} {ws:List (List Nat)} {cur:List Nat} (h:Inv T ws cur):w1 [] (Sn T)=ws:=by
  obtain ⟨acc,e,q⟩:=h.ex
  have:=q []
  rw [List.append_nil,w1] at this
  rw [this,e]
theorem inv_br {T:List Nat} {ws:List (List Nat)} {cur w s:List Nat} (h:Inv T ws cur) (b:Br w) (hs:Sp s):Inv (T ++ w ++ s) (ws ++ [w]) []:=by
  obtain ⟨acc,e,q⟩:=h.ex
  refine ⟨ws ++ [w],by simp [fl],fun L=>?_⟩
  have hw:∀ L,w1 cur (Sn w ++ L)=fl cur ++ [w] ++ w1 [] L:=by
    intro L
    rcases b with rfl | rfl
    · show w1 cur (32 :: 40 :: 32 :: L)=_
      simp [w1,fl]
    · show w1 cur (32 :: 41 :: 32 :: L)=_
      simp [w1,fl]
  rw [Sn_app,Sn_app,List.append_assoc,List.append_assoc,q,hw,w1_sp s [] L hs,e]
  split <;> simp [fl]
theorem inv_w {T:List Nat} {ws:List (List Nat)} {w s:List Nat} (h:Inv T ws []) (b:Wq w) (hs:Sp s):Inv (T ++ w ++ s) (ws ++ [w]) (if s=[] then w else []):=by
  obtain ⟨acc,e,q⟩:=h.ex
  have e0:ws=acc:=by rw [e]; simp [fl]
  have hw:∀ L,w1 [] (Sn w ++ L)=w1 w L:=by
    intro L
    rw [Sn_plain w fun c hc=>⟨(b.ch c hc).1,(b.ch c hc).2.2.1,(b.ch c hc).2.2.2.1⟩,w1_part w [] L fun hm=>(b.ch 32 hm).2.1 rfl,List.nil_append]
  have fw:fl w=[w]:=if_neg b.ne
  by_cases z:s=[]
  · subst z
    rw [if_pos rfl]
    refine ⟨acc,by rw [e0,fw],fun L=>?_⟩
    rw [List.append_nil,Sn_app,List.append_assoc,q,hw]
  · rw [if_neg z]
    refine ⟨acc ++ [w],by rw [e0]; simp [fl],fun L=>?_⟩
    rw [Sn_app,Sn_app,List.append_assoc,List.append_assoc,q,hw,w1_sp s w L hs,if_neg z,fw,List.append_assoc]
theorem Sn_len_sp:∀ {s:List Nat},Sp s->(Sn s).length=s.length
  | [],_=>rfl
  | c :: r,h=>by
    have e:sg c=[32]:=by rcases h c (List.mem_cons_self ..) with rfl | rfl <;> rfl
    show (sg c ++ Sn r).length=_
    rw [List.length_append,Sn_len_sp fun x hx=>h x (List.mem_cons_of_mem _ hx),e]
    simp; omega
theorem Sn_le (T:List Nat):T.length<=(Sn T).length:=by
  induction T with
  | nil=>exact Nat.le_refl 0
  | cons c r ih =>
    show r.length + 1<=(sg c ++ Sn r).length
    have:1<=(sg c).length:=by unfold sg; split <;> (try split) <;> (try split) <;> simp
    rw [List.length_append]; omega
end K13
set_option Elab.async false
set_option linter.all false
set_option maxHeartbeats 4000000
namespace K13
set_option genInjectivity false
open PySem L2 PI Builtin Builtin.Str
theorem flat_free (c:Nat) (d:List Nat):∀ p:List Nat,c ∉ p->(p.flatMap fun a=>if a=c then d else [a])=p
  | [],_=>rfl
  | a :: r,h=>by
    rw [List.mem_cons,not_or] at h
    rw [List.flatMap_cons,flat_free c d r h.2,if_neg (fun e=>h.1 e.symm)]; rfl
theorem sep_flat (c:Nat) (d:List Nat):∀ ps:List (List Nat),(∀ p ∈ ps,c ∉ p)->((sepL [c] ps).flatMap fun a=>if a=c then d else [a])=sepL d ps
  | [],_=>rfl
  | [p],h=>flat_free c d p (h p (List.mem_singleton.mpr rfl))
  | p :: q :: r,h=>by
    rw [sepL,sepL,List.flatMap_append,List.flatMap_append,flat_free c d p (h p (List.mem_cons_self ..)),sep_flat c d (q :: r) fun x hx=>h x (List.mem_cons_of_mem _ hx)]
    simp
theorem parts_cs (x:Str) (c:Nat):∀ p ∈ partsBetween x (occurrences x ⟨#[c]⟩ 0 x.length (x.length + 1)) (⟨#[c]⟩:Str).length,c ∉ cs p:=by
  obtain ⟨f,ch,hn⟩:=StrLaws.occ_tight x ⟨#[c]⟩ (Nat.le_refl 1)
  rw [StrLaws.partsBetween_eq]
  exact StrLaws.parts_free x c _ 0 f ch hn
theorem parts_sep (x:Str) (c:Nat):cs x=sepL [c] ((partsBetween x (occurrences x ⟨#[c]⟩ 0 x.length (x.length + 1)) (⟨#[c]⟩:Str).length).map cs):=by
  have h1:=StrLaws.glued_between_self x ⟨#[c]⟩ (x.length + 1)
  have h2:=cs_join ⟨#[c]⟩ (partsBetween x (occurrences x ⟨#[c]⟩ 0 x.length (x.length + 1)) (⟨#[c]⟩:Str).length)
  rw [show Txt.join ⟨#[c]⟩ (partsBetween x (occurrences x ⟨#[c]⟩ 0 x.length (x.length + 1)) (⟨#[c]⟩:Str).length)=x from h1] at h2
  exact h2
theorem rep_cs (x:Str) (c:Nat) (d:Str):cs (Txt.replace x ⟨#[c]⟩ d)=(cs x).flatMap fun a=>if a=c then cs d else [a]:=by
  have h1:=parts_sep x c
  have h2:=parts_cs x c
  have h3:=length_partsBetween x (occurrences x ⟨#[c]⟩ 0 x.length (x.length + 1)) (⟨#[c]⟩:Str).length
  have hf:∀ p ∈ (partsBetween x (occurrences x ⟨#[c]⟩ 0 x.length (x.length + 1)) (⟨#[c]⟩:Str).length).map cs,c ∉ p:=by
    intro p hp
    obtain ⟨q,hq,rfl⟩:=List.mem_map.mp hp
    exact h2 q hq
  unfold Txt.replace
  split
  · rename_i q
    have q2:(occurrences x ⟨#[c]⟩ 0 x.length (x.length + 1)).isEmpty=true:=by simpa [Str.length] using q
    have q3:occurrences x ⟨#[c]⟩ 0 x.length (x.length + 1)=[]:=List.isEmpty_iff.mp q2
    rw [q3] at h3 h1 hf
    match hp:partsBetween x [] (⟨#[c]⟩:Str).length,h3 with
    | [p],_ =>
      rw [hp] at h1 hf
      have e:cs x=cs p:=h1
      rw [e,flat_free c (cs d) (cs p) (hf (cs p) (List.mem_singleton.mpr rfl))]
  · rw [h1,sep_flat c (cs d) _ hf]
    exact cs_join d _
theorem spl_cs (x:Str) (c:Nat):sepL [c] ((Txt.split x ⟨#[c]⟩).map cs)=cs x /\ (∀ p ∈ Txt.split x ⟨#[c]⟩,c ∉ cs p) /\ Txt.split x ⟨#[c]⟩ ≠ []:=by
  refine ⟨?_,fun p hp=>StrLaws.split_free x c p hp,?_⟩
  · have h1:=congrArg cs (StrLaws.join_split x ⟨#[c]⟩)
    rw [<- StrLaws.glued_eq_join] at h1
    exact (cs_join ⟨#[c]⟩ (Txt.split x ⟨#[c]⟩)).symm.trans h1
  · unfold Txt.split
    split
    · simp
    · split
      · simp
      · intro z
        have:=congrArg List.length z
        rw [length_partsBetween] at this
        simp at this
theorem spl_d (x:Str) (c:Nat) (h:Hh) (hl:x.length<=900000):splitD (.str x) (.str ⟨#[c]⟩) h=new (.lst ((Txt.split x ⟨#[c]⟩).map .str)) h /\ (Txt.split x ⟨#[c]⟩).length<=1000000:=by
  have h1:=congrArg Str.length (StrLaws.glued_between_self x ⟨#[c]⟩ (x.length + 1))
  rw [size_glued] at h1
  have h2:(⟨#[c]⟩:Str).length=1:=rfl
  rw [h2] at h1
  have h3:(Txt.split x ⟨#[c]⟩).length<=1000000:=by
    unfold Txt.split
    split
    · simp
    · split
      · simp
      · rw [h2]; omega
  refine ⟨?_,h3⟩
  unfold splitD
  dsimp only
  exact if_pos ⟨rfl,by omega,by rw [h2]; omega,h3⟩
end K13
set_option Elab.async false
set_option linter.all false
set_option maxRecDepth 100000
set_option maxHeartbeats 4000000
namespace K13
set_option genInjectivity false
open PySem L2 PI
theorem sepL_mem (s:List Nat):∀ (ps:List (List Nat)) (p:List Nat),p ∈ ps->∀ c ∈ p,c ∈ sepL s ps
  | [p],q,hq,c,hc=>by rw [List.mem_singleton.mp hq] at hc; exact hc
  | p :: r :: t,q,hq,c,hc=>by
    rw [sepL,List.append_assoc]
    rcases List.mem_cons.mp hq with rfl | hq
    · exact List.mem_append.mpr (.inl hc)
    · exact List.mem_append.mpr (.inr (List.mem_append.mpr (.inr (sepL_mem s (r :: t) q hq c hc))))
theorem sg_three (a:Nat):((if a=10 then [32] else [a]).flatMap fun b=>(if b=40 then [32,40,32] else [b]).flatMap fun c=>if c=41 then [32,41,32] else [c])=sg a:=by
  unfold sg
  by_cases h1:a=10
  · subst h1; decide
  · by_cases h2:a=40
    · subst h2; decide
    · by_cases h3:a=41
      · subst h3; decide
      · simp [h1,h2,h3]
theorem rep_three (x:Str):cs (Txt.replace (Txt.replace (Txt.replace x "\n" " ") "(" " ( ") ")" " ) ")=Sn (cs x):=by
  show cs (Txt.replace (Txt.replace (Txt.replace x ⟨#[10]⟩ " ") ⟨#[40]⟩ " ( ") ⟨#[41]⟩ " ) ")=_
  rw [rep_cs,rep_cs,rep_cs]
  show (((cs x).flatMap fun a=>if a=10 then [32] else [a]).flatMap fun a=>if a=40 then [32,40,32] else [a]).flatMap (fun a=>if a=41 then [32,41,32] else [a])=_
  rw [List.flatMap_assoc,List.flatMap_assoc]
  unfold Sn
  congr 1
  funext a
  rw [<- sg_three a]
theorem flat_le (f:Nat->List Nat) (k:Nat) (hf:∀ a,1<=(f a).length) (L:List Nat):L.length<=(L.flatMap f).length:=by
  induction L with
  | nil=>simp
  | cons a r ih=>rw [List.flatMap_cons,List.length_append,List.length_cons]; have:=hf a; omega
theorem w1_filter (ps:List Str) (hn:ps ≠ []) (hf:∀ p ∈ ps,32 ∉ cs p):w1 [] (sepL [32] (ps.map cs))=(ps.filter fun p=>!(p == ("":Str))).map cs:=by
  have e:∀ p:Str,(!(p == ("":Str)))=decide (cs p ≠ []):=by
    intro p
    by_cases z:cs p=[]
    · have:p="":=cs_inj z
      subst this; decide
    · rw [ne_e z]; simp [z]
  rw [w1_sep _ _ (by intro p hp; obtain ⟨q,hq,rfl⟩:=List.mem_map.mp hp; exact hf q hq)]
  cases ps with
  | nil=>exact absurd rfl hn
  | cons p r =>
    simp only [List.map_cons,List.nil_append,List.filter_cons,e]
    rw [List.filter_map]
    unfold fl
    by_cases z:cs p=[] <;> simp [z,Function.comp_def]
noncomputable def wdF:D->Option D
  | .str p=>if (p == ("":Str)) then none else some (.str p)
  | _=>none
theorem wd_filter:∀ ps:List Str,(ps.map D.str).filterMap wdF=(ps.filter fun p=>!(p == ("":Str))).map D.str
  | []=>rfl
  | p :: r=>by
    rw [List.map_cons,List.filterMap_cons,List.filter_cons,wd_filter r,wdF]
    cases p == ("":Str) <;> simp
section
variable {cl:Nat->List D->Hh->Res D}
theorem r_words_of (T:List Nat) (hT:∀ c ∈ T,c < 1114112) (hl:(Sn T).length<=900000) (h:Hh):∃ n J,d_words_of.run cl [.str (mkS T)] h=.ok (.loc n) (h ++ J) /\ (h ++ J)[n]?=some (.lst ((w1 [] (Sn T)).map fun w=>.str (mkS w))):=by
  obtain ⟨z,ez⟩:∃ z,z=Txt.replace (Txt.replace (Txt.replace (mkS T) "\n" " ") "(" " ( ") ")" " ) ":=⟨_,rfl⟩
  have cz:cs z=Sn T:=by rw [ez,rep_three,cs_mk]
  have lz:z.length<=900000:=by rw [cs_len,cz]; exact hl
  have l0:=Sn_le T
  have c1:cs (Txt.replace (mkS T) "\n" " ")=T.flatMap fun a=>if a=10 then [32] else [a]:=by
    have:=rep_cs (mkS T) 10 " "
    rw [cs_mk] at this
    exact this
  have c2:cs (Txt.replace (Txt.replace (mkS T) "\n" " ") "(" " ( ")=(T.flatMap fun a=>if a=10 then [32] else [a]).flatMap fun a=>if a=40 then [32,40,32] else [a]:=by
    have:=rep_cs (Txt.replace (mkS T) "\n" " ") 40 " ( "
    rw [c1] at this
    exact this
  have c3:cs z=((T.flatMap fun a=>if a=10 then [32] else [a]).flatMap fun a=>if a=40 then [32,40,32] else [a]).flatMap fun a=>if a=41 then [32,41,32] else [a]:=by
    have:=rep_cs (Txt.replace (Txt.replace (mkS T) "\n" " ") "(" " ( ") 41 " ) "
    rw [c2] at this
    rw [ez]; exact this
  have m3:=flat_le (fun a=>if a=41 then [32,41,32] else [a]) 0 (by intro a; split <;> simp) ((T.flatMap fun a=>if a=10 then [32] else [a]).flatMap fun a=>if a=40 then [32,40,32] else [a])
  have m2:=flat_le (fun a=>if a=40 then [32,40,32] else [a]) 0 (by intro a; split <;> simp) (T.flatMap fun a=>if a=10 then [32] else [a])
  rw [<- c3,cz] at m3
  have rs:S.run cl (headS d_words_of.body) [some (.str (mkS T)),none] h=.nx [some (.str (mkS T)),some (.str z)] h:=by
    have k1:(mkS T).length + ((mkS T).length + 1) * (Str.ofString " ").length<=16777216:=by
      rw [mk_len,show (Str.ofString " ").length=1 by decide]; omega
    have k2:(Txt.replace (mkS T) "\n" " ").length + ((Txt.replace (mkS T) "\n" " ").length + 1) * (Str.ofString " ( ").length<=16777216:=by
      rw [cs_len (Txt.replace (mkS T) "\n" " "),c1,show (Str.ofString " ( ").length=3 by decide]; omega
    have k3:(Txt.replace (Txt.replace (mkS T) "\n" " ") "(" " ( ").length + ((Txt.replace (Txt.replace (mkS T) "\n" " ") "(" " ( ").length + 1) * (Str.ofString " ) ").length<=16777216:=by
      rw [cs_len (Txt.replace (Txt.replace (mkS T) "\n" " ") "(" " ( "),c2,show (Str.ofString " ) ").length=3 by decide]; omega
    unfold d_words_of headS
    dsimp only
    rw [yrep]
    simp only [List.getElem?_cons_zero]
    unfold repS
    rw [if_pos k1]
    unfold repS
    rw [if_pos k2]
    unfold repS
    rw [if_pos k3]
    unfold repS
    rw [ez]
    rfl
  obtain ⟨s1,s2,s3⟩:=spl_cs z 32
  obtain ⟨d1,d2⟩:=spl_d z 32 h lz
  have sok:∀ p ∈ Txt.split z ⟨#[32]⟩,PyData.strOk p=true:=by
    intro p hp
    refine ok_cs fun c hc=>?_
    have:=sepL_mem [32] _ (cs p) (List.mem_map.mpr ⟨p,hp,rfl⟩) c hc
    rw [s1,cz] at this
    obtain ⟨a,ha,hca⟩:=List.mem_flatMap.mp this
    have:=hT a ha
    unfold sg at hca
    split at hca
    · simp at hca; omega
    · split at hca
      · simp at hca; omega
      · split at hca
        · simp at hca; omega
        · simp at hca; omega
  have st:stay [(h.length,(Txt.split z ⟨#[32]⟩).map D.str)] (h ++ [.lst ((Txt.split z ⟨#[32]⟩).map D.str)]):=stay_one.mpr (by rw [rdx0]; rfl)
  have e:=compL_pure (f:=compF t_words_of_1 (capE [none] [some (.str (mkS T)),some (.str z)]) (fun ρ' h2=>c_words_of_1.evC cl ρ' h2) (fun ρ' h2=>e_words_of_1.ev cl ρ' h2)) st wdF ((Txt.split z ⟨#[32]⟩).map D.str) [] (by
    intro d hd
    obtain ⟨p,hp,rfl⟩:=List.mem_map.mp hd
    have q:cmpD .NotEq (.str p) (.str "") (h ++ [O.lst ((Txt.split z ⟨#[32]⟩).map D.str)])=.ok (.bl (!(p == ("":Str)))) (h ++ [O.lst ((Txt.split z ⟨#[32]⟩).map D.str)]):=neS (sok p hp) so_e
    have q2:c_words_of_1.evC cl [some (.str p)] (h ++ [O.lst ((Txt.split z ⟨#[32]⟩).map D.str)])=.ok (!(p == ("":Str))) (h ++ [O.lst ((Txt.split z ⟨#[32]⟩).map D.str)]):=bnd (x:=.bl (!(p == ("":Str)))) (bnd rfl (bnd rfl q)) rfl
    show (c_words_of_1.evC cl [some (.str p)] (h ++ [O.lst ((Txt.split z ⟨#[32]⟩).map D.str)])).bind _=_
    rw [q2,bind_ok]
    unfold wdF
    cases q3:(p == ("":Str)) <;> simp only [q3] <;> rfl)
  have lt:((Txt.split z ⟨#[32]⟩).map D.str).length<=1000000:=by rw [List.length_map]; exact d2
  have r0:rd (h ++ [O.lst ((Txt.split z ⟨#[32]⟩).map D.str)]) h.length=some ((Txt.split z ⟨#[32]⟩).map D.str):=by rw [rdx0]; rfl
  rw [List.nil_append,wd_filter] at e
  have ww:(w1 [] (Sn T)).map (fun w=>D.str (mkS w))=((Txt.split z ⟨#[32]⟩).filter fun p=>!(p == ("":Str))).map D.str:=by
    rw [<- cz,<- s1,w1_filter _ s3 s2,List.map_map]
    exact List.map_congr_left fun p _=>by show D.str (mkS (cs p))=_; rw [mk_cs]
  refine ⟨(h ++ [O.lst ((Txt.split z ⟨#[32]⟩).map D.str)]).length,[O.lst ((Txt.split z ⟨#[32]⟩).map D.str)] ++ [.lst ((w1 [] (Sn T)).map fun w=>.str (mkS w))],?_,?_⟩
  · rw [<- List.append_assoc,ww]
    have:Ss.run cl d_words_of.body [some (.str (mkS T)),none] h=.rt (.loc (h ++ [O.lst ((Txt.split z ⟨#[32]⟩).map D.str)]).length) (h ++ [O.lst ((Txt.split z ⟨#[32]⟩).map D.str)] ++ [.lst (((Txt.split z ⟨#[32]⟩).filter fun p=>!(p == ("":Str))).map D.str)]):=by
      show seqS (S.run cl (headS d_words_of.body) [some (.str (mkS T)),none] h) (fun ρ' h'=>Ss.run cl (dropS 1 d_words_of.body) ρ' h')=_
      rw [rs]
      exact ret_r (ofL_comp (seq_loc (bnd rfl (bnd rfl d1)) r0) lt e)
    exact out_rt this
  · rw [<- List.append_assoc,hx0]; rfl
end
end K13
set_option Elab.async false
set_option linter.all false
set_option maxRecDepth 100000
set_option maxHeartbeats 4000000
namespace K13
set_option genInjectivity false
open PySem L2 PI
noncomputable def spcs:List Str:=[""," ","\n","   "," \n "]
theorem spcs_ok:∀ s ∈ spcs,Sp (cs s) /\ (cs s).length<=3 /\ PyData.strOk s=true /\ (s == ("":Str))=decide (cs s=[]):=by
  intro s hs
  have:spcs.all (fun s=>(cs s).all (fun c=>decide (c=32 \/ c=10)) && decide ((cs s).length<=3) && PyData.strOk s && ((s == ("":Str)) == decide (cs s=[])))=true:=by decide +kernel
  have:=List.all_eq_true.mp this s hs
  simp only [Bool.and_eq_true,decide_eq_true_eq,List.all_eq_true,beq_iff_eq] at this
  exact ⟨this.1.1.1,this.1.1.2,this.1.2,this.2⟩
noncomputable def Lw (w:Str):Prop:=Br (cs w) \/ Wq (cs w)
noncomputable def isBr (w:Str):Bool:=[("(":Str),")"].any fun y=>y == w
theorem br_t {w:Str} (h:isBr w=true):Br (cs w):=by
  unfold isBr at h
  simp only [List.any_cons,List.any_nil,Bool.or_false,Bool.or_eq_true,beq_iff_eq] at h
  rcases h with rfl | rfl
  · exact .inl rfl
  · exact .inr rfl
theorem br_f {w:Str} (h:isBr w=false) (l:Lw w):Wq (cs w):=by
  rcases l with b | b
  · rcases b with e | e
    · have:w="(":=cs_inj e
      subst this; exact absurd h (by decide)
    · have:w=")":=cs_inj e
      subst this; exact absurd h (by decide)
  · exact b
theorem Lw.le {w:Str} (h:Lw w):(Sn (cs w)).length<=20 /\ ∀ c ∈ cs w,c < 1114112:=by
  rcases h with b | b
  · rcases b with e | e <;> rw [e] <;> exact ⟨by decide,by decide⟩
  · rw [Sn_plain _ fun c hc=>⟨(b.ch c hc).1,(b.ch c hc).2.2.1,(b.ch c hc).2.2.2.1⟩]
    exact ⟨b.le,fun c hc=>(b.ch c hc).2.2.2.2⟩
structure Sta (ws:List Str) (k:Nat) (T:List Nat):Prop where
  inv:∃ cur,Inv T ((ws.take k).map cs) cur /\ (cur ≠ []->∀ w,ws[k]?=some w->isBr w=true)
  le:(Sn T).length<=3 + 23 * k
  ch:∀ c ∈ T,c < 1114112
theorem sta_step {ws:List Str} {k:Nat} {T:List Nat} {w s:Str} (q:Sta ws k T) (e:ws[k]?=some w) (l:Lw w) (hs:Sp (cs s)) (h3:(cs s).length<=3) (hn:isBr w=false->cs s=[]->∀ w',ws[k + 1]?=some w'->isBr w'=true):Sta ws (k + 1) (T ++ cs w ++ cs s):=by
  have tk:(ws.take (k + 1)).map cs=(ws.take k).map cs ++ [cs w]:=by
    rw [List.take_succ,e,List.map_append]; rfl
  refine ⟨?_,?_,?_⟩
  · obtain ⟨cur,i,hc⟩:=q.inv
    rw [tk]
    cases b:isBr w with
    | true=>exact ⟨[],inv_br i (br_t b) hs,fun z=>absurd rfl z⟩
    | false =>
      have c0:cur=[]:=by
        by_cases z:cur=[]
        · exact z
        · have:=hc z w e
          rw [b] at this; cases this
      subst c0
      refine ⟨_,inv_w i (br_f b l) hs,fun z=>?_⟩
      by_cases z2:cs s=[]
      · exact hn b z2
      · rw [if_neg z2] at z; exact absurd rfl z
  · have h1:=q.le
    have h2:=l.le.1
    rw [Sn_app,Sn_app,List.length_append,List.length_append,Sn_len_sp hs]; omega
  · intro c hc
    rcases List.mem_append.mp hc with hc | hc
    · rcases List.mem_append.mp hc with hc | hc
      · exact q.ch c hc
      · exact l.le.2 c hc
    · rcases hs c hc with rfl | rfl <;> decide
section
variable {cl:Nat->List D->Hh->Res D}
theorem t_and3F {a b c e:E} {r:Es} {p:Pos} {ρ:En} {h h1 h2 h3:Hh} (ha:a.evT cl ρ h=.ok true h1) (hb:b.evT cl ρ h1=.ok true h2) (hc:c.evT cl ρ h2=.ok false h3):(E.and a b (.cons c (.cons e r)) p).evT cl ρ h=.ok false h3:=bnd (bnd (evT_bl ha) (bnd (evT_bl hb) (bnd (evT_bl hc) rfl))) rfl
theorem t_and4 {a b c e:E} {p:Pos} {ρ:En} {h h1 h2 h3 h4:Hh} {t:Bool} (ha:a.evT cl ρ h=.ok true h1) (hb:b.evT cl ρ h1=.ok true h2) (hc:c.evT cl ρ h2=.ok true h3) (he:e.evT cl ρ h3=.ok t h4):(E.and a b (.cons c (.cons e .nil)) p).evT cl ρ h=.ok t h4:=bnd (bnd (evT_bl ha) (bnd (evT_bl hb) (bnd (evT_bl hc) (bnd (evT_bl he) rfl)))) rfl
noncomputable def brO:O:=.lst [.str "(",.str ")"]
theorem nin {a:E} {ρ:En} {h:Hh} {w:Str} {t:Bool} {p p1 p2 p3:Pos} (e:a.ev cl ρ h=.ok (.str w) h) (b:isBr w=t):E.evT cl (.cmp .NotIn a (.ofL (.disp (.cons (.str "(" p) (.cons (.str ")" p1) .nil)) p2)) p3) ρ h=.ok (!t) (h ++ [brO]):=by
  refine t_cmp e (y:=.loc h.length) (h2:=h ++ [brO]) rfl ?_
  show inD true (.str w) (.loc h.length) (h ++ [brO])=_
  unfold inD
  dsimp only
  rw [hx0]
  show inXs true (.str w) [.str "(",.str ")"] _=_
  unfold inXs
  rw [if_pos ⟨rfl,rfl⟩,<- b]
  rfl
theorem sub_v {i j n:Nat} {d r:D} {ρ:En} {h:Hh} {p p1 p2:Pos} (ei:ρ[i]?=some (some (.loc n))) (ej:ρ[j]?=some (some d)) (e:subD (.loc n) d h=.ok r h):E.ev cl (.sub (.var i p) (.var j p1) p2) ρ h=.ok r h:=bnd (x:=.loc n) (by rw [vvar,ei]) (bnd (x:=d) (by rw [vvar,ej]) e)
theorem sub_v1 {i j n:Nat} {k:Int} {r:D} {ρ:En} {h:Hh} {p p1 p2 p3 p4:Pos} (ei:ρ[i]?=some (some (.loc n))) (ej:ρ[j]?=some (some (.int k))) (e:subD (.loc n) (.int (k + 1)) h=.ok r h):E.ev cl (.sub (.var i p) (.bin .Add (.var j p1) (.int 1 p2) p3) p4) ρ h=.ok r h:=bnd (x:=.loc n) (by rw [vvar,ei]) (bnd (bnd (x:=.int k) (by rw [vvar,ej]) rfl) e)
noncomputable def CellAt (cl:Nat->List D->Hh->Res D) (ns:List Int):Prop:=∀ k h,0<=k /\ k < 1000->∃ v,cl 18 [scr ns,.int k] h=.ok (.int v) h /\ 0<=v /\ v < 2147483629
noncomputable abbrev lenv (ns:List Int) (nw:Nat) (T:List Nat) (x y:Option D):En:=[some (scr ns),some (.loc nw),some (.str (mkS T)),x,y]
theorem spc_at {xs:List Str} {j:Int} (h0:0<=j) (h1:j < xs.length) (h:Hh):∃ s ∈ xs,subD (.loc h.length) (.int j) (h ++ [.lst (xs.map D.str)])=.ok (.str s) (h ++ [.lst (xs.map D.str)]):=by
  obtain ⟨m,rfl⟩:∃ m:Nat,j=m:=⟨j.toNat,by omega⟩
  have hm:m < xs.length:=by omega
  exact ⟨xs[m],List.getElem_mem hm,sub_l (xs:=xs.map D.str) (by rw [hx0]; rfl) (by rw [List.getElem?_map,List.getElem?_eq_getElem hm]; rfl)⟩
theorem add_s {x y:Str} {h:Hh} (l:x.length + y.length<=1000000):binD .Add (.str x) (.str y) h=.ok (.str (x ++ y)) h:=if_pos l
theorem sp_step {ns:List Int} (C:CellAt cl ns) (nw:Nat) (ws:List Str) (hw:∀ w ∈ ws,Lw w) (hl:ws.length<=40000) (k:Nat) (hk:k < ws.length) (T:List Nat) (q:Sta ws k T) (x y:Option D) (h:Hh) (g:h[nw]?=some (.lst (ws.map D.str))) :
    ∃ T' y' J,stepF t_law_spaced_1 (fun ρ' h'=>b_law_spaced_1.run cl ρ' h') (.int (k:Nat)) (lenv ns nw T x y) h=.nx (lenv ns nw T' (some (.int (k:Nat))) y') (h ++ J) /\ Sta ws (k + 1) T':=by
  have ek:ws[k]?=some ws[k]:=List.getElem?_eq_getElem hk
  have lk:=hw _ (List.getElem_mem hk)
  obtain ⟨w,ew⟩:∃ w,w=ws[k]:=⟨_,rfl⟩
  rw [<- ew] at ek lk
  have sk:∀ J,subD (.loc nw) (.int (k:Nat)) (h ++ J)=.ok (.str w) (h ++ J):=fun J=>sub_l (get_old g) (by rw [List.getElem?_map,ek]; rfl)
  obtain ⟨v,ev,v0,v1⟩:=C (2 + (k:Int) % 60) (h ++ [.lst (spcs.map D.str)]) (by omega)
  obtain ⟨sp,hsp,es⟩:=spc_at (xs:=spcs) (j:=v / (1 + (k:Int) % 7) % 5) (by omega) (show _ < (5:Int) by omega) h
  obtain ⟨p1,p2,p3,p4⟩:=spcs_ok sp hsp
  have e1:∀ (r:Ss),Ss.run cl (.cons (headS b_law_spaced_1) r) (lenv ns nw T (some (.int (k:Nat))) y) h=Ss.run cl r (lenv ns nw T (some (.int (k:Nat))) (some (.str sp))) (h ++ [.lst (spcs.map D.str)]):=fun r =>
    set_s (d:=.str sp) (bnd (x:=.loc h.length) (h:=h ++ [.lst (spcs.map D.str)]) rfl (bnd (x:=.int (v / (1 + (k:Int) % 7) % 5)) (bnd (x:=.int (v / (1 + (k:Int) % 7))) (bnd (call_2 rfl (bnd rfl (bnd (bnd rfl (bnd rfl (mdk (by decide)))) rfl)) ev) (bnd (bnd rfl (bnd (bnd rfl (bnd rfl (mdk (by decide)))) rfl)) (fdk (by omega)))) (bnd rfl (mdk (by decide)))) es)) rfl
  obtain ⟨s2,J2,e2,q1,q2,q3⟩:∃ (s2:Str) (J2:Hh),(∀ (r:Ss),Ss.run cl (.cons (headS (dropS 1 b_law_spaced_1)) r) (lenv ns nw T (some (.int (k:Nat))) (some (.str sp))) (h ++ [.lst (spcs.map D.str)])=Ss.run cl r (lenv ns nw T (some (.int (k:Nat))) (some (.str s2))) (h ++ J2)) /\ Sp (cs s2) /\ (cs s2).length<=3 /\ (isBr w=false->cs s2=[]->∀ w',ws[k + 1]?=some w'->isBr w'=true):=by
    have ln:lenD (.loc nw) (h ++ [O.lst (spcs.map D.str)])=.ok (.int (ws.length:Nat)) (h ++ [O.lst (spcs.map D.str)]):=(len_l (get_old g)).trans (by rw [List.length_map])
    by_cases z:cs sp=[]
    · have z0:sp="":=cs_inj z
      subst z0
      by_cases z2:k + 1 < ws.length
      · obtain ⟨w2,ew2⟩:∃ w2,ws[k + 1]?=some w2:=⟨_,List.getElem?_eq_getElem z2⟩
        have sk2:∀ J,subD (.loc nw) (.int ((k:Int) + 1)) (h ++ J)=.ok (.str w2) (h ++ J):=fun J=>sub_l (k:=k + 1) (get_old g) (by rw [List.getElem?_map,ew2]; rfl)
        have lt:cmpD .Lt (.int ((k:Int) + 1)) (.int (ws.length:Nat)) (h ++ [O.lst (spcs.map D.str)])=.ok (.bl true) (h ++ [O.lst (spcs.map D.str)]):=by rw [cmp_lt]; congr 2; exact decide_eq_true (by omega)
        cases b:isBr w with
        | true =>
          refine ⟨"",[O.lst (spcs.map D.str)] ++ [brO],fun r=>?_,p1,p2,fun z=>by cases z⟩
          rw [<- List.append_assoc]
          exact iff_f (t_and3F (t_cmp rfl rfl (eqS so_e so_e)) (t_cmp (bnd rfl (bnd rfl rfl)) (bnd rfl ln) lt) (nin (sub_v rfl rfl (sk [O.lst (spcs.map D.str)])) b)) rfl
        | false =>
          have skb:subD (.loc nw) (.int ((k:Int) + 1)) (h ++ [O.lst (spcs.map D.str)] ++ [brO])=.ok (.str w2) (h ++ [O.lst (spcs.map D.str)] ++ [brO]):=by rw [List.append_assoc]; exact sk2 _
          cases b2:isBr w2 with
          | true =>
            refine ⟨"",[O.lst (spcs.map D.str)] ++ ([brO] ++ [brO]),fun r=>?_,p1,p2,fun _ _ w' e'=>by rw [ew2] at e'; cases e'; exact b2⟩
            rw [<- List.append_assoc,<- List.append_assoc]
            exact iff_f (t_and4 (t_cmp rfl rfl (eqS so_e so_e)) (t_cmp (bnd rfl (bnd rfl rfl)) (bnd rfl ln) lt) (nin (sub_v rfl rfl (sk [O.lst (spcs.map D.str)])) b) (nin (sub_v1 rfl rfl skb) b2)) rfl
          | false =>
            refine ⟨" ",[O.lst (spcs.map D.str)] ++ ([brO] ++ [brO]),fun r=>?_,(spcs_ok " " (by simp [spcs])).1,by decide,fun _ z=>absurd z (by decide)⟩
            rw [<- List.append_assoc,<- List.append_assoc]
            exact iff_n (t_and4 (t_cmp rfl rfl (eqS so_e so_e)) (t_cmp (bnd rfl (bnd rfl rfl)) (bnd rfl ln) lt) (nin (sub_v rfl rfl (sk [O.lst (spcs.map D.str)])) b) (nin (sub_v1 rfl rfl skb) b2)) (set_s rfl rfl) rfl
      · have lt:cmpD .Lt (.int ((k:Int) + 1)) (.int (ws.length:Nat)) (h ++ [O.lst (spcs.map D.str)])=.ok (.bl false) (h ++ [O.lst (spcs.map D.str)]):=by rw [cmp_lt]; congr 2; exact decide_eq_false (by omega)
        exact ⟨"",[O.lst (spcs.map D.str)],fun r=>iff_f (t_and2 (t_cmp rfl rfl (eqS so_e so_e)) (t_cmp (bnd rfl (bnd rfl rfl)) (bnd rfl ln) lt)) rfl,p1,p2,fun _ _ w' e'=>by rw [List.getElem?_eq_none (by omega)] at e'; cases e'⟩
    · exact ⟨sp,[O.lst (spcs.map D.str)],fun r=>iff_f (t_andF (t_cmp rfl rfl (by rw [eqS p3 so_e,ne_e z]))) rfl,p1,p2,fun _ z2=>absurd z2 z⟩
  refine ⟨T ++ cs w ++ cs s2,some (.str s2),J2,?_,sta_step q ek lk q1 q2 q3⟩
  have lt:=Sn_le T
  have lq:=q.le
  have lw:=Nat.le_trans (Sn_le (cs w)) lk.le.1
  have a1:(mkS T).length + w.length<=1000000:=by rw [mk_len,cs_len]; omega
  have a2:(mkS T ++ w).length + s2.length<=1000000:=by rw [cs_len,cs_append,cs_mk,List.length_append,cs_len]; omega
  have ea:mkS T ++ w ++ s2=mkS (T ++ cs w ++ cs s2):=cs_inj (by rw [cs_append,cs_append,cs_mk,cs_mk])
  show _=RS.nx [some (scr ns),some (.loc nw),some (.str (mkS (T ++ cs w ++ cs s2))),some (.int (k:Nat)),some (.str s2)] (h ++ J2)
  rw [<- ea]
  exact (e1 _).trans ((e2 _).trans (set_s (bnd (bnd rfl (bnd (bnd rfl (bnd rfl (sk J2))) (add_s a1))) (bnd rfl (add_s a2))) rfl))
theorem sp_loop {ns:List Int} (C:CellAt cl ns) (nw:Nat) (ws:List Str) (hw:∀ w ∈ ws,Lw w) (hl:ws.length<=40000):∀ (m k:Nat) (T:List Nat) (x y:Option D) (h:Hh),k + m=ws.length->Sta ws k T->h[nw]?=some (.lst (ws.map D.str)) ->
    ∃ T' x' y' J,forL [] (stepF t_law_spaced_1 fun ρ' h'=>b_law_spaced_1.run cl ρ' h') ((List.range' k m).map fun (j:Nat)=>D.int (j:Nat)) (lenv ns nw T x y) h=.nx (lenv ns nw T' x' y') (h ++ J) /\ Sta ws ws.length T'
  | 0,k,T,x,y,h,e,q,g=>⟨T,x,y,[],by rw [List.range'_zero,List.map_nil,forL,if_pos stay_nil,List.append_nil],by rw [<- e]; exact q⟩
  | m + 1,k,T,x,y,h,e,q,g=>by
    obtain ⟨T1,y1,J1,e1,q1⟩:=sp_step C nw ws hw hl k (by omega) T q x y h g
    obtain ⟨T2,x2,y2,J2,e2,q2⟩:=sp_loop C nw ws hw hl m (k + 1) T1 (some (.int (k:Nat))) y1 (h ++ J1) (by omega) q1 (get_old g)
    refine ⟨T2,x2,y2,J1 ++ J2,?_,q2⟩
    rw [List.range'_succ,List.map_cons,<- List.append_assoc]
    exact for_n stay_nil e1 e2
noncomputable def spc3:List Str:=[""," ","\n"]
theorem r_spaced {ns:List Int} (C:CellAt cl ns) (nw:Nat) (ws:List Str) (hw:∀ w ∈ ws,Lw w) (hl:ws.length<=38000) (h:Hh) (g:h[nw]?=some (.lst (ws.map D.str))) :
    ∃ T J,d_law_spaced.run cl [scr ns,.loc nw] h=.ok (.str (mkS T)) (h ++ J) /\ w1 [] (Sn T)=ws.map cs /\ (Sn T).length<=900000 /\ ∀ c ∈ T,c < 1114112:=by
  obtain ⟨v,ev,v0,v1⟩:=C 1 (h ++ [.lst (spc3.map D.str)]) (by decide)
  obtain ⟨sp,hsp,es⟩:=spc_at (xs:=spc3) (j:=v % 3) (by omega) (show _ < (3:Int) by omega) h
  obtain ⟨p1,p2,p3,p4⟩:=spcs_ok sp (by simp only [spc3,spcs,List.mem_cons,List.not_mem_nil,or_false] at hsp ⊢; rcases hsp with h | h | h <;> simp [h])
  have s0:Sta ws 0 (cs sp):=⟨⟨[],inv_start p1,fun z=>absurd rfl z⟩,by rw [Sn_len_sp p1]; omega,fun c hc=>by rcases p1 c hc with rfl | rfl <;> decide⟩
  obtain ⟨T,x',y',J,e,q⟩:=sp_loop C nw ws hw (by omega) ws.length 0 (cs sp) none none (h ++ [.lst (spc3.map D.str)]) (by omega) s0 (get_old g)
  rw [<- List.range_eq_range'] at e
  have ln:lenD (.loc nw) (h ++ [O.lst (spc3.map D.str)])=.ok (.int (ws.length:Nat)) (h ++ [O.lst (spc3.map D.str)]):=(len_l (get_old g)).trans (by rw [List.length_map])
  obtain ⟨cur,i,_⟩:=q.inv
  rw [List.take_length] at i
  have le:=q.le
  refine ⟨T,[.lst (spc3.map D.str)] ++ J,?_,inv_end i,by omega,q.ch⟩
  rw [<- List.append_assoc]
  have st:sp=mkS (cs sp):=(mk_cs sp).symm
  refine out_rt (set_s (d:=.str (mkS (cs sp))) (bnd (x:=.loc h.length) (h:=h ++ [.lst (spc3.map D.str)]) rfl (bnd (bnd (call_2 rfl rfl ev) (bnd rfl (mdk (by decide)))) (by rw [<- st]; exact es))) (forr_s (rng_s (j:=(ws.length:Nat)) (bnd rfl ln) (by omega)) (ρ':=lenv ns nw T x' y') (h2:=h ++ [.lst (spc3.map D.str)] ++ J) ?_ (ret_r rfl)))
  exact e
end
end K13
set_option Elab.async false
set_option linter.all false
set_option maxRecDepth 100000
set_option maxHeartbeats 4000000
namespace K13
set_option genInjectivity false
open PySem L2 PI
inductive Pl:Nat->D->Prop
  | non (n:Nat):Pl n .non
  | int (n:Nat) (i:Int):Pl n (.int i)
  | str (n:Nat) (x:Str) (h:PyData.strOk x=true):Pl n (.str x)
  | tup (n:Nat) (xs:List D) (h:∀ x ∈ xs,Pl n x) (l:xs.length<=1000000):Pl (n + 1) (.tup xs)
theorem Pl.up {n:Nat} {d:D} (h:Pl n d):∀ m,n<=m->Pl m d:=by
  induction h with
  | non n=>exact fun m _=>.non m
  | int n i=>exact fun m _=>.int m i
  | str n x h=>exact fun m _=>.str m x h
  | tup n xs h l ih =>
    intro m hm
    cases m with
    | zero=>omega
    | succ m=>exact .tup m xs (fun x hx=>ih x hx m (by omega)) l
section
variable {cl:Nat->List D->Hh->Res D}
noncomputable def AlikeAt (cl:Nat->List D->Hh->Res D) (d:D):Prop:=∀ h,∃ J,cl 29 [d,d] h=.ok (.bl true) (h ++ J)
theorem al_comp {f:D->Hh->Res (Option D)}:∀ (xs acc:List D) (h:Hh),(∀ x ∈ xs,∀ h,∃ J,f (pairT (x,x)) h=.ok (some (.bl true)) (h ++ J))->∃ J,compL [] f ((xs.zip xs).map pairT) acc h=.ok (acc ++ (List.replicate xs.length true).map D.bl) (h ++ J)
  | [],acc,h,_=>⟨[],by rw [List.zip_nil_left,List.map_nil,compL,if_pos stay_nil]; simp⟩
  | x :: r,acc,h,hf=>by
    obtain ⟨J1,e1⟩:=hf x (List.mem_cons_self ..) h
    obtain ⟨J2,e2⟩:=al_comp r (acc ++ [.bl true]) (h ++ J1) fun y hy=>hf y (List.mem_cons_of_mem _ hy)
    refine ⟨J1 ++ J2,?_⟩
    rw [List.zip_cons_cons,List.map_cons,compL,if_pos stay_nil,e1,bind_ok,addO_some,e2,List.append_assoc,List.append_assoc]
    rfl
theorem isi_v {i T:Nat} {d:D} {b:Bool} {ρ:En} {h:Hh} {p p1 p2 p3:Pos} (ei:ρ[i]?=some (some d)) (e:isI h d T=some b):E.evT cl (.isi T (.var i p) p1 p2 p3) ρ h=.ok b h :=
  bnd (x:=.bl b) (bnd (x:=d) (by rw [vvar,ei]) (by rw [e])) rfl
theorem r_alike {n:Nat} {d:D} (q:Pl n d) (C:∀ m,n=m + 1->∀ x,Pl m x->AlikeAt cl x) (h:Hh):∃ J,d_law_alike.run cl [d,d] h=.ok (.bl true) (h ++ J):=by
  cases q with
  | non=>exact ⟨[],by rw [List.append_nil]; exact out_rt (iff_f (isi_v rfl rfl) (iff_f (isi_v rfl rfl) (iff_r (t_cmp rfl rfl rfl) (ret_r rfl))))⟩
  | int _ i =>
    refine ⟨[],?_⟩
    rw [List.append_nil]
    refine out_rt (iff_f (isi_v rfl rfl) (iff_f (isi_v rfl rfl) (iff_f (t_cmp rfl rfl rfl) (ret_r (evT_bl (t_and3 (isi_v rfl rfl) (t_not (b:=false) (isi_v rfl rfl)) (t_cmp rfl rfl ?_)))))))
    rw [eqI]; simp
  | str _ x ok =>
    refine ⟨[],?_⟩
    rw [List.append_nil]
    refine out_rt (iff_f (isi_v rfl rfl) (iff_r (isi_v rfl rfl) (ret_r (evT_bl (t_and (isi_v rfl rfl) (t_cmp rfl rfl ?_))))))
    rw [eqS ok ok]; simp
  | tup m xs hx l =>
    obtain ⟨J,e⟩:=al_comp (f:=compF t_law_alike_1 (capE [none,none] [some (.tup xs),some (.tup xs)]) (fun ρ' h2=>c_law_alike_1.evC cl ρ' h2) (fun ρ' h2=>e_law_alike_1.ev cl ρ' h2)) xs [] h (by
      intro x hm h
      obtain ⟨J,e⟩:=C m rfl x (hx x hm) h
      exact ⟨J,compF_t rfl rfl (call_2 rfl rfl e)⟩)
    rw [List.nil_append] at e
    have lz:((xs.zip xs).map pairT).length<=1000000:=by simp; omega
    refine ⟨J ++ [.lst ((List.replicate xs.length true).map D.bl)],?_⟩
    rw [<- List.append_assoc]
    refine out_rt (iff_r (isi_v rfl rfl) (iff_f (h':=h) (t_or (t_not (b:=true) (isi_v rfl rfl)) (t_cmp (bnd rfl rfl) (bnd rfl rfl) (by rw [neI]; simp))) (ret_r (bnd (ofL_comp (q:=([],(xs.zip xs).map pairT)) (bnd rfl (bnd rfl rfl)) lz e) ?_))))
    show c1D .all (.loc (h ++ J).length) _=_
    unfold c1D
    dsimp only
    rw [rdx0]
    show (match (some ((List.replicate xs.length true).map D.bl)).bind blsOf with | some bs=>Res.ok (D.bl (bs.all id)) _ | none=>.no)=_
    rw [Option.bind_some,bls_map]
    simp
end
theorem pl_o {n:Nat} {b:Option Str} (h:∀ x,b=some x->Nm x):Pl n (optD b):=by
  cases b with
  | none=>exact .non n
  | some x=>exact .str n x (h x rfl).wd.ok
theorem pl_nm {n:Nat} {x:Str} (h:Nm x):Pl n (.str x):=.str n x h.wd.ok
theorem pl_cons {n:Nat} {d:D} {ds:List D} (h:Pl n d) (r:∀ x ∈ ds,Pl n x):∀ x ∈ d :: ds,Pl n x:=fun x hx=>by
  rcases List.mem_cons.mp hx with rfl | hx
  · exact h
  · exact r x hx
mutual
theorem pl_g:∀ (g:G),wdG g->g.ok=true->ms g<=9000->Pl (2 * dp g) g.d
  | .nd k ps,hw,ho,hm=>by
    rw [wdG] at hw
    rw [G.ok,Bool.and_eq_true] at ho
    rw [ms] at hm
    have P:=pl_gs ps hw.2 ho.2 (by omega)
    have hl:(G.ds ps).length<=9000:=by
      rw [ds_len]
      have:∀ l:List G,l.length<=mss l:=by
        intro l
        induction l with
        | nil=>simp
        | cons a r ih=>rw [mss,List.length_cons]; omega
      have:=this ps
      omega
    rw [dp,show 2 * (1 + dps ps)=(2 * dps ps + 1) + 1 by omega,G.d]
    have P':∀ x ∈ G.ds ps,Pl (2 * dps ps + 1) x:=fun x hx=>(P x hx).up _ (by omega)
    have tg:=fun s (h:s ∈ (["num","var","op","let","if","call","do","handle","go","guard","never","jump","once","many"]:List Str))=>Pl.str (2 * dps ps + 1) s (so s h)
    cases k with
    | num n=>exact .tup _ _ (pl_cons (tg _ (by simp)) (pl_cons (.int _ _) P')) (by simp; omega)
    | var x=>exact .tup _ _ (pl_cons (tg _ (by simp)) (pl_cons (pl_nm hw.1.1) P')) (by simp; omega)
    | op s=>exact .tup _ _ (pl_cons (tg _ (by simp)) (pl_cons (.str _ s (so_sg hw.1)) P')) (by simp; omega)
    | lett x=>exact .tup _ _ (pl_cons (tg _ (by simp)) (pl_cons (pl_nm hw.1) P')) (by simp; omega)
    | ite=>exact .tup _ _ (pl_cons (tg _ (by simp)) P') (by simp; omega)
    | call f g=>exact .tup _ _ (pl_cons (tg _ (by simp)) (pl_cons (pl_nm hw.1.1) (pl_cons (pl_o hw.1.2) (pl_cons (.tup _ _ P (by omega)) (fun x hx=>by cases hx))))) (by simp)
    | doo x=>exact .tup _ _ (pl_cons (tg _ (by simp)) (pl_cons (pl_nm hw.1) P')) (by simp; omega)
    | handle x=>exact .tup _ _ (pl_cons (tg _ (by simp)) (pl_cons (pl_nm hw.1) P')) (by simp; omega)
    | go=>exact .tup _ _ (pl_cons (tg _ (by simp)) P') (by simp; omega)
    | guard=>exact .tup _ _ (pl_cons (tg _ (by simp)) P') (by simp; omega)
theorem pl_gs:∀ (gs:List G),wdGs gs->G.oks gs=true->mss gs<=9000->∀ x ∈ G.ds gs,Pl (2 * dps gs) x
  | [],_,_,_=>by rw [G.ds]; intro x hx; cases hx
  | g :: r,hw,ho,hm=>by
    rw [wdGs] at hw
    rw [G.oks,Bool.and_eq_true] at ho
    rw [mss] at hm
    rw [G.ds,dps]
    exact pl_cons ((pl_g g hw.1 ho.1 (by omega)).up _ (by omega)) fun x hx=>(pl_gs r hw.2 ho.2 (by omega) x hx).up _ (by omega)
end
theorem pl_hd {q:List Str × G} {n:Nat} (h:okQ q n) (ho:q.2.ok=true) (hd:dp q.2<=24) (hn:n<=100):Pl 49 (hdD q.1 q.2):=by
  refine .tup 48 _ (fun x hx=>?_) (by have:=h.2.1; simp; omega)
  rcases List.mem_append.mp hx with hx | hx
  · obtain ⟨w,hw,rfl⟩:=List.mem_map.mp hx
    exact pl_nm (h.1 w hw)
  · rw [List.mem_singleton.mp hx]
    exact (pl_g q.2 h.2.2.1 ho h.2.2.2).up _ (by omega)
theorem pl_i (i:Itm) (g:ItG i):Pl 51 i.d:=by
  cases i with
  | fn f ps b t =>
    obtain ⟨h1,h2,h3,h4,h5,h6⟩:=g.wd
    obtain ⟨o,d,_⟩:=g.tr t (by simp [trs])
    refine .tup 50 _ (pl_cons (.str _ _ so_def) (pl_cons (pl_nm h1) (pl_cons (.tup 49 _ (fun x hx=>by obtain ⟨w,hw,rfl⟩:=List.mem_map.mp hx; exact pl_nm (h2 w hw)) (by simp; omega)) (pl_cons (pl_o h4) (pl_cons ((pl_g t h5 o h6).up _ (by omega)) (fun x hx=>by cases hx)))))) (by simp)
  | hd n qs e =>
    obtain ⟨h1,h2,h3,h4⟩:=g.wd
    have te:=g.tr e.2 (by simp [trs])
    refine .tup 50 _ (pl_cons (.str _ _ so_hd) (pl_cons (pl_nm h1) (pl_cons (.tup 49 _ (fun x hx=>?_) (by simp; omega)) (pl_cons ((pl_hd h4 te.1 te.2.1 (by decide)).up _ (by omega)) (fun x hx=>by cases hx))))) (by simp)
    obtain ⟨q,hq,rfl⟩:=List.mem_map.mp hx
    have tq:=g.tr q.2 (by simp only [trs]; exact List.mem_append.mpr (.inl (List.mem_map.mpr ⟨q,hq,rfl⟩)))
    exact pl_hd (h2 q hq) tq.1 tq.2.1 (by decide)
theorem pl_p {is:List Itm} (h:∀ i ∈ is,ItG i) (hl:is.length<=4):Pl 52 (.tup (is.map Itm.d)):=.tup 51 _ (fun x hx=>by obtain ⟨i,hi,rfl⟩:=List.mem_map.mp hx; exact pl_i i (h i hi)) (by simp; omega)
end K13
set_option Elab.async false
set_option linter.all false
set_option maxRecDepth 100000
set_option maxHeartbeats 4000000
namespace K13
set_option genInjectivity false
open PySem L2 PI
mutual
noncomputable def Th.wq:Th->Prop
  | .w x=>Wq (cs x)
  | .l ts=>Th.wqs ts
noncomputable def Th.wqs:List Th->Prop
  | []=>True
  | t :: r=>t.wq /\ Th.wqs r
end
theorem wq_pw {x:Str} (h:Wq (cs x)):Pw x :=
  ⟨ok_cs fun c hc=>(h.ch c hc).2.2.2.2,str_ne fun e=>(h.ch 40 (by rw [e]; decide)).2.2.1 rfl,str_ne fun e=>(h.ch 41 (by rw [e]; decide)).2.2.2.1 rfl⟩
mutual
theorem wq_ok:∀ t:Th,t.wq->t.ok
  | .w x,h=>by rw [Th.wq] at h; rw [Th.ok]; exact wq_pw h
  | .l ts,h=>by rw [Th.wq] at h; rw [Th.ok]; exact wqs_oks ts h
theorem wqs_oks:∀ ts:List Th,Th.wqs ts->Th.oks ts
  | [],_=>by rw [Th.oks]; trivial
  | t :: r,h=>by rw [Th.wqs] at h; rw [Th.oks]; exact ⟨wq_ok t h.1,wqs_oks r h.2⟩
end
mutual
theorem wq_lw:∀ t:Th,t.wq->∀ w ∈ t.ws,Lw w
  | .w x,h,w,hw=>by rw [Th.wq] at h; rw [Th.ws] at hw; rw [List.mem_singleton.mp hw]; exact .inr h
  | .l ts,h,w,hw=>by
    rw [Th.wq] at h
    rw [Th.ws] at hw
    rcases List.mem_cons.mp hw with rfl | hw
    · exact .inl (.inl rfl)
    · rcases List.mem_append.mp hw with hw | hw
      · exact wqs_lw ts h w hw
      · rw [List.mem_singleton.mp hw]; exact .inl (.inr rfl)
theorem wqs_lw:∀ ts:List Th,Th.wqs ts->∀ w ∈ Th.wss ts,Lw w
  | [],_,w,hw=>by rw [Th.wss] at hw; cases hw
  | t :: r,h,w,hw=>by
    rw [Th.wqs] at h
    rw [Th.wss] at hw
    rcases List.mem_append.mp hw with hw | hw
    · exact wq_lw t h.1 w hw
    · exact wqs_lw r h.2 w hw
end
theorem wqs_mem:∀ {ts:List Th},Th.wqs ts ↔ ∀ t ∈ ts,t.wq
  | []=>by simp [Th.wqs]
  | t :: r=>by simp [Th.wqs,wqs_mem (ts:=r)]
theorem wq_w {x:Str} (h:Wq (cs x)):(Th.w x).wq:=by rw [Th.wq]; exact h
theorem nm_wq {x:Str} (h:Nm x):Wq (cs x):=⟨h.ne,Nat.le_trans h.le (by decide),fun c hc=>by have:=h.lo c hc; omega⟩
theorem num_wq {n:Int} {x:Str} (h:NumW n x):Wq (cs x):=⟨h.ne,Nat.le_trans h.le (by decide),fun c hc=>by have:=h.dg c hc; omega⟩
theorem con_wq:∀ x ∈ (["let","if","call","hand","do","handle","go","guard","+","-","*","<","def","handler","on","end"]:List Str),Wq (cs x):=by
  intro x hx
  have:(["let","if","call","hand","do","handle","go","guard","+","-","*","<","def","handler","on","end"]:List Str).all (fun x=>decide (cs x ≠ []) && decide ((cs x).length<=20) && (cs x).all fun c=>decide (c ≠ 10 /\ c ≠ 32 /\ c ≠ 40 /\ c ≠ 41 /\ c < 1114112))=true:=by decide +kernel
  have:=List.all_eq_true.mp this x hx
  rw [Bool.and_eq_true,Bool.and_eq_true] at this
  exact ⟨of_decide_eq_true this.1.1,of_decide_eq_true this.1.2,fun c hc=>of_decide_eq_true (List.all_eq_true.mp this.2 c hc)⟩
theorem heads_wq (k:Kd) (n:Nat) (h:Kd.wd k n):∀ w ∈ Kd.heads k,Wq (cs w):=by
  cases k with
  | num m=>intro w hw; cases hw
  | var x=>intro w hw; cases hw
  | op s =>
    intro w hw
    rw [List.mem_singleton.mp hw]
    rcases h with rfl | rfl | rfl | rfl <;> exact con_wq _ (by simp)
  | lett x=>intro w hw; simp only [Kd.heads,List.mem_cons,List.not_mem_nil,or_false] at hw; rcases hw with rfl | rfl; exact con_wq _ (by simp); exact nm_wq h
  | ite=>intro w hw; rw [List.mem_singleton.mp hw]; exact con_wq _ (by simp)
  | call f g =>
    cases g with
    | none=>intro w hw; simp only [Kd.heads,List.mem_cons,List.not_mem_nil,or_false] at hw; rcases hw with rfl | rfl; exact con_wq _ (by simp); exact nm_wq h.1
    | some g=>intro w hw; simp only [Kd.heads,List.mem_cons,List.not_mem_nil,or_false] at hw; rcases hw with rfl | rfl | rfl; exact con_wq _ (by simp); exact nm_wq h.1; exact nm_wq (h.2 _ rfl)
  | doo x=>intro w hw; simp only [Kd.heads,List.mem_cons,List.not_mem_nil,or_false] at hw; rcases hw with rfl | rfl; exact con_wq _ (by simp); exact nm_wq h
  | handle x=>intro w hw; simp only [Kd.heads,List.mem_cons,List.not_mem_nil,or_false] at hw; rcases hw with rfl | rfl; exact con_wq _ (by simp); exact nm_wq h
  | go=>intro w hw; rw [List.mem_singleton.mp hw]; exact con_wq _ (by simp)
  | guard=>intro w hw; rw [List.mem_singleton.mp hw]; exact con_wq _ (by simp)
theorem ws_wq {ws:List Str} (h:∀ w ∈ ws,Wq (cs w)):∀ t ∈ ws.map Th.w,t.wq:=fun t ht=>by
  obtain ⟨w,hw,rfl⟩:=List.mem_map.mp ht
  exact wq_w (h w hw)
mutual
theorem th_wq:∀ g:G,wdG g->(th g).wq
  | .nd k ps,h=>by
    rw [wdG] at h
    rw [th]
    cases e:Kd.leaf k with
    | some x =>
      simp only
      rw [Th.wq]
      cases k with
      | num n=>cases e; exact num_wq (num_w h.1.1 h.1.2.1)
      | var y=>cases e; exact nm_wq h.1.1
      | _=>cases e
    | none =>
      simp only
      rw [Th.wq]
      refine wqs_mem.mpr fun t ht=>?_
      rcases List.mem_append.mp ht with ht | ht
      · exact ws_wq (heads_wq k _ h.1) t ht
      · exact wqs_mem.mp (ths_wq ps h.2) t ht
theorem ths_wq:∀ gs:List G,wdGs gs->Th.wqs (ths gs)
  | [],_=>by rw [ths,Th.wqs]; trivial
  | g :: r,h=>by rw [wdGs] at h; rw [ths,Th.wqs]; exact ⟨th_wq g h.1,ths_wq r h.2⟩
end
theorem thQ_wq (w:Str) (hw:Wq (cs w)) (q:List Str × G) (n:Nat) (h:okQ q n):(thQ w q).wq:=by
  rw [thQ,Th.wq]
  refine wqs_mem.mpr fun t ht=>?_
  rcases List.mem_cons.mp ht with rfl | ht
  · exact wq_w hw
  · rcases List.mem_append.mp ht with ht | ht
    · exact ws_wq (fun w hw=>nm_wq (h.1 w hw)) t ht
    · rw [List.mem_singleton.mp ht]; exact th_wq _ h.2.2.1
theorem thI_wq (i:Itm) (h:i.wd):(thI i).wq:=by
  cases i with
  | fn f ps b g =>
    obtain ⟨h1,h2,h3,h4,h5,h6⟩:=h
    rw [thI,Th.wq]
    refine wqs_mem.mpr fun t ht=>?_
    rcases List.mem_cons.mp ht with rfl | ht
    · exact wq_w (con_wq _ (by simp))
    rcases List.mem_cons.mp ht with rfl | ht
    · exact wq_w (nm_wq h1)
    rcases List.mem_cons.mp ht with rfl | ht
    · rw [Th.wq]; exact wqs_mem.mpr (ws_wq fun w hw=>nm_wq (h2 w hw))
    rcases List.mem_append.mp ht with ht | ht
    · exact ws_wq (fun w hw=>nm_wq (h4 w (by cases b with | none=>cases hw | some y=>rw [List.mem_singleton.mp hw]))) t ht
    · rw [List.mem_singleton.mp ht]; exact th_wq g h5
  | hd n qs e =>
    obtain ⟨h1,h2,h3,h4⟩:=h
    rw [thI,Th.wq]
    refine wqs_mem.mpr fun t ht=>?_
    rcases List.mem_cons.mp ht with rfl | ht
    · exact wq_w (con_wq _ (by simp))
    rcases List.mem_cons.mp ht with rfl | ht
    · exact wq_w (nm_wq h1)
    rcases List.mem_append.mp ht with ht | ht
    · obtain ⟨q,hq,rfl⟩:=List.mem_map.mp ht
      exact thQ_wq _ (con_wq _ (by simp)) q 3 (h2 q hq)
    · rw [List.mem_singleton.mp ht]; exact thQ_wq _ (con_wq _ (by simp)) e 2 h4
theorem is_wqs {is:List Itm} (h:∀ i ∈ is,ItG i):Th.wqs (is.map thI):=wqs_mem.mpr fun t ht=>by
  obtain ⟨i,hi,rfl⟩:=List.mem_map.mp ht
  exact thI_wq i (h i hi).wd
theorem iw_len (i:Itm) (g:ItG i):(iw i).length<=4440:=by
  have s:=g.sz
  cases i with
  | fn f ps b t =>
    obtain ⟨h1,h2,h3,h4,h5,h6⟩:=g.wd
    have:=wr_len t
    have hb:b.toList.length<=1:=by cases b <;> simp
    simp only [trs,List.map_cons,List.map_nil,List.sum_cons,List.sum_nil] at s
    simp only [iw,List.length_append,List.length_cons,List.length_nil]
    omega
  | hd n qs e =>
    obtain ⟨h1,h2,h3,h4⟩:=g.wd
    have we:=wr_len e.2
    have h4l:=h4.2.1
    have Q:∀ rs:List (List Str × G),(∀ q ∈ rs,okQ q 3)->((rs.map fun q=>qw q "on").flatten).length<=6 * rs.length + (rs.map fun q=>ms q.2).sum:=by
      intro rs
      induction rs with
      | nil=>intro _; simp
      | cons q r ih =>
        intro hr
        have a:=ih fun x hx=>hr x (List.mem_cons_of_mem _ hx)
        have b:=(hr q (List.mem_cons_self ..)).2.1
        have c:=wr_len q.2
        simp only [List.map_cons,List.flatten_cons,List.length_append,List.length_cons,List.sum_cons,qw,List.length_nil]
        simp only [qw] at a
        omega
    have Q2:=Q qs h2
    simp only [trs,List.map_append,List.map_cons,List.map_nil,List.sum_append,List.sum_cons,List.sum_nil,List.map_map] at s
    have s2:(qs.map fun q=>ms q.2).sum + ms e.2<=4400:=by simpa [Function.comp_def] using s
    simp only [iw,List.length_append,List.length_cons,List.length_nil]
    omega
theorem is_len {is:List Itm} (h:∀ i ∈ is,ItG i):((is.map iw).flatten).length<=4440 * is.length:=by
  induction is with
  | nil=>simp
  | cons i r ih =>
    have a:=ih fun x hx=>h x (List.mem_cons_of_mem _ hx)
    have b:=iw_len i (h i (List.mem_cons_self ..))
    simp only [List.map_cons,List.flatten_cons,List.length_append,List.length_cons]
    omega
theorem is_dps {is:List Itm} (h:∀ i ∈ is,ItG i):Th.dps (is.map thI)<=24:=dps_of thI 24 is fun i hi=>dp_thI i (h i hi)
section
variable {cl:Nat->List D->Hh->Res D}
theorem comp_lcs {α:Type} {f:D->Hh->Res (Option D)} (en:α->D) (out:α->List Str):∀ (xs:List α) (acc:List Nat) (pre:List (List Str)) (h:Hh),(∀ x ∈ xs,∀ h,∃ n J,f (en x) h=.ok (some (.loc n)) (h ++ J) /\ (h ++ J)[n]?=some (.lst ((out x).map D.str)))->Lcs h acc pre ->
    ∃ ns J,compL [] f (xs.map en) (acc.map D.loc) h=.ok (ns.map D.loc) (h ++ J) /\ Lcs (h ++ J) ns (pre ++ xs.map out)
  | [],acc,pre,h,_,hp=>⟨acc,[],by simp [compL,stay_nil],by simpa using hp⟩
  | x :: r,acc,pre,h,hc,hp=>by
    obtain ⟨n,J,c,gt⟩:=hc x (List.mem_cons_self ..) h
    obtain ⟨ns,J2,e,l⟩:=comp_lcs en out r (acc ++ [n]) (pre ++ [out x]) (h ++ J) (fun q hq=>hc q (List.mem_cons_of_mem _ hq)) (hp.mono.append ⟨gt,trivial⟩)
    refine ⟨ns,J ++ J2,?_,by rw [<- List.append_assoc,List.map_cons]; simpa using l⟩
    rw [List.map_cons,compL,if_pos stay_nil,c,bind_ok,addO_some]
    simp only [List.map_append,List.map_cons,List.map_nil] at e
    rw [e,List.append_assoc]
structure LawC (cl:Nat->List D->Hh->Res D) (ns:List Int):Prop where
  pr:∃ (is:List Itm) (h':Hh),cl 24 [scr ns] []=.ok (.tup (is.map Itm.d)) h' /\ (∀ i ∈ is,ItG i) /\ is.length<=4
  iw:∀ (i:Itm) h,ItG i->∃ n J,cl 27 [i.d] h=.ok (.loc n) (h ++ J) /\ (h ++ J)[n]?=some (.lst ((iw i).map D.str))
  al:AllOk cl
  sp:∀ (nw:Nat) (ws:List Str) (h:Hh),(∀ w ∈ ws,Lw w)->ws.length<=38000->h[nw]?=some (.lst (ws.map D.str))->∃ T J,cl 28 [scr ns,.loc nw] h=.ok (.str (mkS T)) (h ++ J) /\ w1 [] (Sn T)=ws.map cs /\ (Sn T).length<=900000 /\ ∀ c ∈ T,c < 1114112
  re:∀ (T:List Nat) (is:List Itm) (h:Hh),(∀ i ∈ is,ItG i)->is.length<=4->w1 [] (Sn T)=(is.map K13.iw).flatten.map cs->(Sn T).length<=900000->(∀ c ∈ T,c < 1114112)->∃ J,cl 2 [.str (mkS T)] h=.ok (.tup (is.map Itm.d)) (h ++ J)
  ak:∀ d,Pl 52 d->AlikeAt cl d
theorem r_law {ns:List Int} (C:LawC cl ns):∃ h',d_law.run cl [scr ns] []=.ok (.bl true) h':=by
  obtain ⟨is,h1,c24,hi,il⟩:=C.pr
  obtain ⟨ls,J1,e1,l1⟩:=comp_lcs (f:=compF t_law_1 (capE [none] [some (scr ns),some (.tup (is.map Itm.d)),none]) (fun ρ' h2=>c_law_1.evC cl ρ' h2) (fun ρ' h2=>e_law_1.ev cl ρ' h2)) Itm.d K13.iw is [] [] h1 (by
    intro i hm h
    obtain ⟨n,J,e,g⟩:=C.iw i h (hi i hm)
    exact ⟨n,J,compF_t rfl rfl (call_1 rfl e),g⟩) trivial
  rw [List.map_nil] at e1
  rw [List.nil_append] at l1
  have ln:=is_len hi
  obtain ⟨m,J2,e2,g2⟩:=C.al (h1 ++ J1).length ls (is.map K13.iw) (h1 ++ J1 ++ [.lst (ls.map D.loc)]) (by rw [rdx0]; rfl) l1.mono (by omega)
  obtain ⟨T,J3,e3,w3,t3,c3⟩:=C.sp m _ (h1 ++ J1 ++ [.lst (ls.map D.loc)] ++ J2) (by rw [<- wss_is]; exact wqs_lw _ (is_wqs hi)) (by omega) g2
  obtain ⟨J4,e4⟩:=C.re T is (h1 ++ J1 ++ [.lst (ls.map D.loc)] ++ J2 ++ J3) hi il w3 t3 c3
  obtain ⟨J5,e5⟩:=C.ak _ (pl_p hi il) (h1 ++ J1 ++ [.lst (ls.map D.loc)] ++ J2 ++ J3 ++ J4)
  exact ⟨_,out_rt (set_s (call_1 rfl c24) (set_s (call_2 rfl (call_1 (ofL_comp (q:=([],is.map Itm.d)) rfl (by simp; omega) e1) e2) e3) (ret_r (call_2 (call_1 rfl e4) rfl e5))))⟩
end
end K13
set_option Elab.async false
set_option linter.all false
set_option maxRecDepth 100000
set_option maxHeartbeats 4000000
namespace K13
set_option genInjectivity false
open PySem L2 PI
theorem i_name (k:Nat):NameAt (callI defs (k + 1)):=fun c h=>by
  obtain ⟨w,J,e,ww⟩:=r_name (callI defs k) c h
  exact ⟨w,J,(callI_succ (d:=d_law_name) rfl rfl).trans e,ww⟩
theorem i_next (k nf:Nat):NextAt (callI defs (k + 1)) nf:=fun h hF=>by
  obtain ⟨v,h',e,r⟩:=r_next (callI defs k) nf h hF
  exact ⟨v,h',(callI_succ (d:=d_law_next) rfl rfl).trans e,r⟩
theorem i_part (nf:Nat):∀ (d k:Nat),d<=5->PartAt (callI defs (k + d + 2)) nf d
  | 0,k,hd=>fun h hF=>by
    obtain ⟨g,h',e,r⟩:=r_part (callI defs (k + 0 + 1)) nf 0 hd (i_next (k + 0) nf) (i_name (k + 0)) (fun d' hd'=>by cases hd') h hF
    exact ⟨g,h',(callI_succ (d:=d_law_part) rfl rfl).trans e,r⟩
  | d + 1,k,hd=>fun h hF=>by
    obtain ⟨g,h',e,r⟩:=r_part (callI defs (k + (d + 1) + 1)) nf (d + 1) hd (i_next (k + (d + 1)) nf) (i_name (k + (d + 1))) (fun d' hd'=>by
      have:d=d':=by omega
      subst this
      have:=i_part nf d k (by omega)
      rw [show k + d + 2=k + (d + 1) + 1 by omega] at this
      exact this) h hF
    exact ⟨g,h',(callI_succ (d:=d_law_part) rfl rfl).trans e,r⟩
theorem i_item (k nf:Nat) (h:Hh) (hF:Feed nf h):∃ i h',callI defs (k + 8) 22 [.loc nf] h=.ok (Itm.d i) h' /\ Feed nf h' /\ Mv nf h h' /\ ItG i:=by
  obtain ⟨i,h',e,r⟩:=r_litem (callI defs (k + 7)) nf (i_next (k + 6) nf) (i_name (k + 6)) (i_part nf 4 (k + 1) (by decide)) (i_part nf 5 k (by decide)) h hF
  exact ⟨i,h',(callI_succ (d:=d_law_item) rfl rfl).trans e,r⟩
theorem i_nest (k:Nat) (c d:Int) (h:Hh) (h0:0<=c) (h1:0<=d) (h2:d < 24):∃ t J,callI defs (k + 2) 23 [.int c,.int d] h=.ok (G.d t) (h ++ J) /\ Gn 23 t:=by
  obtain ⟨t,J,e,r⟩:=r_nest (callI defs (k + 1)) (i_name k) c d h0 h1 h2 h
  exact ⟨t,J,(callI_succ (d:=d_law_nest) rfl rfl).trans e,r⟩
theorem i_program (k:Nat) (ns:List Int) (hb:∀ n ∈ ns,fits n=true):∃ (is:List Itm) (h':Hh),callI defs (k + 9) 24 [scr ns] []=.ok (.tup (is.map Itm.d)) h' /\ (∀ i ∈ is,ItG i) /\ is.length<=4:=by
  obtain ⟨is,h',e,r⟩:=r_program (callI defs (k + 8)) ns hb (fun c h hc=>by
    obtain ⟨v,e,r⟩:=r_cell (callI defs (k + 7)) h ns c hc hb
    exact ⟨v,(callI_succ (d:=d_law_cell) rfl rfl).trans e,r⟩) (i_name (k + 7)) (fun nf h hF=>i_item k nf h hF) (fun c d h h0 h1 h2=>i_nest (k + 6) c d h h0 h1 h2)
  exact ⟨is,h',(callI_succ (d:=d_law_program) rfl rfl).trans e,r⟩
theorem i_all (k:Nat):AllOk (callI defs (k + 1)):=fun n ns ws h hr hl hs=>by
  obtain ⟨m,J,e,g⟩:=r_all (cl:=callI defs k) n ns ws h hr hl hs
  exact ⟨m,J,(callI_succ (d:=d_law_all) rfl rfl).trans e,g⟩
theorem mss_mem:∀ {ps:List G} {g:G},g ∈ ps->ms g<=mss ps /\ dp g<=dps ps
  | p :: r,g,h=>by
    rw [mss,dps]
    rcases List.mem_cons.mp h with rfl | h
    · exact ⟨by omega,by omega⟩
    · have:=mss_mem h; exact ⟨by omega,by omega⟩
theorem i_words (k:Nat):∀ (n:Nat) (g:G),dp g<=n->wdG g->ms g<=90000->g.ok=true->WordsAt (callI defs (k + n + 1)) g
  | 0,.nd kd ps,hd,_,_,_=>by rw [dp] at hd; omega
  | n + 1,.nd kd ps,hd,hw,hm,ho=>fun h=>by
    rw [dp] at hd
    have hw':=hw
    have ho':=ho
    have hm':=hm
    rw [wdG] at hw'
    rw [ms] at hm'
    rw [G.ok,Bool.and_eq_true,oks_all] at ho'
    obtain ⟨m,J,e,g⟩:=r_words (callI defs (k + (n + 1))) (i_all (k + n)) kd ps hw hm ho'.1 (fun g hg=>by
      have a:=mss_mem hg
      exact i_words k n g (by omega) (wdGs_mem.mp hw'.2 g hg) (by omega) (List.all_eq_true.mp ho'.2 g hg)) h
    exact ⟨m,J,(callI_succ (d:=d_law_words) rfl rfl).trans e,g⟩
theorem i_iw (k:Nat) (i:Itm) (h:Hh) (hi:ItG i):∃ n J,callI defs (k + 26) 27 [i.d] h=.ok (.loc n) (h ++ J) /\ (h ++ J)[n]?=some (.lst ((iw i).map D.str)):=by
  cases i with
  | fn f ps b g =>
    have hw:=hi.wd
    have tr:=hi.tr g (by simp [trs])
    obtain ⟨_,_,_,_,w5,w6⟩:=hi.wd
    obtain ⟨n,J,e,r⟩:=r_iw_fn (callI defs (k + 25)) f ps b g h hw (i_words k 24 g tr.2.1 w5 (by omega) tr.1)
    exact ⟨n,J,(callI_succ (d:=d_law_item_words) rfl rfl).trans e,r⟩
  | hd nm qs e =>
    have hw:=hi.wd
    obtain ⟨w1,w2,w3,w4⟩:=hi.wd
    have te:=hi.tr e.2 (by simp [trs])
    obtain ⟨n,J,e',r⟩:=r_iw_hd (callI defs (k + 25)) nm qs e h hw (fun q hq=>by
      have tq:=hi.tr q.2 (by simp only [trs]; exact List.mem_append.mpr (.inl (List.mem_map.mpr ⟨q,hq,rfl⟩)))
      have a:=w2 q hq
      exact i_words k 24 q.2 tq.2.1 a.2.2.1 (by have:=a.2.2.2; omega) tq.1) (i_words k 24 e.2 te.2.1 w4.2.2.1 (by have:=w4.2.2.2; omega) te.1)
    exact ⟨n,J,(callI_succ (d:=d_law_item_words) rfl rfl).trans e',r⟩
theorem i_cell (k:Nat) (ns:List Int) (hb:∀ n ∈ ns,fits n=true):CellAt (callI defs (k + 1)) ns:=fun c h hc=>by
  obtain ⟨v,e,r⟩:=r_cell (callI defs k) h ns c hc hb
  exact ⟨v,(callI_succ (d:=d_law_cell) rfl rfl).trans e,r⟩
theorem i_alike (k:Nat):∀ (n:Nat) (d:D),Pl n d->AlikeAt (callI defs (k + n + 1)) d
  | 0,d,q=>fun h=>by
    obtain ⟨J,e⟩:=r_alike (cl:=callI defs (k + 0)) q (fun m hm=>by cases hm) h
    exact ⟨J,(callI_succ (d:=d_law_alike) rfl rfl).trans e⟩
  | n + 1,d,q=>fun h=>by
    obtain ⟨J,e⟩:=r_alike (cl:=callI defs (k + (n + 1))) q (fun m hm x hx=>by
      have:n=m:=by omega
      subst this
      exact i_alike k n x hx) h
    exact ⟨J,(callI_succ (d:=d_law_alike) rfl rfl).trans e⟩
theorem i_isname (k:Nat):IsName (callI defs (k + 1)):=fun x h m=>by
  obtain ⟨J,e⟩:=r_is_name (cl:=callI defs k) m h
  exact ⟨J,(callI_succ (d:=d_is_name) rfl rfl).trans e⟩
theorem i_isnum (k:Nat):IsNumber (callI defs (k + 1)):=⟨fun n x h m=>by
    obtain ⟨J,e⟩:=r_is_number_t (cl:=callI defs k) m h
    exact ⟨J,(callI_succ (d:=d_is_number) rfl rfl).trans e⟩,fun x h m=>by
    obtain ⟨J,e⟩:=r_is_number_f (cl:=callI defs k) m h
    exact ⟨J,(callI_succ (d:=d_is_number) rfl rfl).trans e⟩⟩
theorem i_nameof (k:Nat):NameOf (callI defs (k + 2)):=fun x h m=>by
  obtain ⟨J,e⟩:=r_name_of (cl:=callI defs (k + 1)) (i_isname k) m h
  exact ⟨J,(callI_succ (d:=d_name_of) rfl rfl).trans e⟩
theorem i_headof (k:Nat):HeadOf (callI defs (k + 1)):=fun n w r h g=>(callI_succ (d:=d_head_of) rfl rfl).trans (r_head_of (cl:=callI defs k) g)
theorem i_names (k:Nat):NamesAt (callI defs (k + 3)):=fun n ps h g m l=>by
  obtain ⟨J,e⟩:=r_names_of (cl:=callI defs (k + 2)) (i_nameof k) g m l
  exact ⟨J,(callI_succ (d:=d_names_of) rfl rfl).trans e⟩
theorem i_form (k:Nat) (sl:List Sl) (hl:sl.length<=1000) (hs:∀ s ∈ sl,match s with | .nm x=>Nm x | .pt g=>ExprAt (callI defs (k + 2)) g):FormAt (callI defs (k + 4)) sl:=fun h n ds g a=>by
  obtain ⟨J,e⟩:=r_formed (cl:=callI defs (k + 3)) sl (fun s hm h d a=>by
    obtain ⟨J,e⟩:=r_read_as (cl:=callI defs (k + 2)) (i_nameof k) s (hs s hm) h d a
    exact ⟨J,(callI_succ (d:=d_read_as) rfl rfl).trans e⟩) hl h n ds g a
  exact ⟨J,(callI_succ (d:=d_formed) rfl rfl).trans e⟩
theorem i_exprs (k:Nat) (gs:List G) (hl:gs.length<=1000000) (hs:∀ g ∈ gs,ExprAt (callI defs (k + 2)) g):ExprsAt (callI defs (k + 3)) gs:=fun h n ds g a=>by
  obtain ⟨J,e⟩:=r_exprs (cl:=callI defs (k + 2)) gs hs hl h n ds g a
  exact ⟨J,(callI_succ (d:=d_expressions_of) rfl rfl).trans e⟩
theorem i_exc (k:Nat) (ps:List G) (hl:ps.length<=1000000) (hs:∀ g ∈ ps,ExprAt (callI defs (k + 2)) g):ExC (callI defs (k + 4)) ps where
  hd:=i_headof (k + 3)
  nb:=i_isnum (k + 3)
  nm:=i_nameof (k + 2)
  fo sl h l:=i_form k sl (by omega) (fun s hm=>by
    have:=h s hm
    cases s with
    | nm x=>exact this
    | pt g=>exact hs g this)
  ca f hf h n ds g a:=by
    obtain ⟨J,e⟩:=r_call_of (cl:=callI defs (k + 3)) (i_nameof (k + 1)) f ps hf (i_exprs k ps hl hs) h n ds g a
    exact ⟨J,(callI_succ (d:=d_call_of) rfl rfl).trans e⟩
  ha f f2 hf hf2 h n ds g a:=by
    obtain ⟨J,e⟩:=r_hand_of (cl:=callI defs (k + 3)) (i_nameof (k + 1)) f f2 ps hf hf2 (i_exprs k ps hl hs) h n ds g a
    exact ⟨J,(callI_succ (d:=d_hand_of) rfl rfl).trans e⟩
theorem i_expr (k:Nat):∀ (n:Nat) (g:G),dp g<=n->wdG g->ms g<=90000->g.ok=true->ExprAt (callI defs (k + 3 * n + 2)) g
  | 0,.nd kd ps,hd,_,_,_=>by rw [dp] at hd; omega
  | n + 1,.nd kd ps,hd,hw,hm,ho=>fun h d a=>by
    rw [dp] at hd
    rw [wdG] at hw
    rw [ms] at hm
    rw [G.ok,Bool.and_eq_true,oks_all] at ho
    have hl:ps.length<=1000000:=by
      have:∀ l:List G,l.length<=mss l:=by
        intro l
        induction l with
        | nil=>simp
        | cons a r ih=>rw [mss,List.length_cons]; omega
      have:=this ps
      omega
    obtain ⟨J,e⟩:=r_expr (cl:=callI defs (k + 3 * n + 4)) kd ps hw.1 ho.1 (i_exc (k + 3 * n) ps hl (fun g hg=>by
      have a:=mss_mem hg
      exact i_expr k n g (by omega) (wdGs_mem.mp hw.2 g hg) (by omega) (List.all_eq_true.mp ho.2 g hg))) h d a
    exact ⟨J,(callI_succ (d:=d_expression_of) rfl rfl).trans e⟩
theorem i_headed (k:Nat) (w:Str) (hw:PyData.strOk w=true) (form:List Str) (q:List Str × G) (n:Nat) (hn:n<=100) (hf:form=List.replicate n ("name":Str) ++ [("part":Str)]) (h:okQ q n) (ho:q.2.ok=true) (hd:dp q.2<=24):HeadedAt (callI defs (k + 77)) w form q:=fun h' d a=>by
  obtain ⟨J,e⟩:=r_headed (cl:=callI defs (k + 76)) (i_headof (k + 75)) w hw form q (by rw [hf,<- h.2.1,List.map_const']) (i_form (k + 72) _ (by have:=h.2.1; simp; omega) (fun s hs=>by
    rcases List.mem_append.mp hs with hs | hs
    · obtain ⟨x,hx,rfl⟩:=List.mem_map.mp hs
      exact h.1 x hx
    · rw [List.mem_singleton.mp hs]
      exact i_expr k 24 q.2 hd h.2.2.1 (by have:=h.2.2.2; omega) ho)) h' d a
  exact ⟨J,(callI_succ (d:=d_headed) rfl rfl).trans e⟩
theorem i_tail (k:Nat) (i:Itm) (g:ItG i):TailAt (callI defs (k + 78)) i:=fun h n ds gn a=>by
  cases i with
  | fn f ps b t =>
    obtain ⟨h1,h2,h3,h4,h5,h6⟩:=g.wd
    have tr:=g.tr t (by simp [trs])
    obtain ⟨J,e⟩:=r_function_of (cl:=callI defs (k + 77)) (i_nameof (k + 75)) (i_names (k + 74)) f ps b t h1 h2 h4 (by omega) (i_expr (k + 3) 24 t tr.2.1 h5 (by omega) tr.1) h n ds gn a
    exact ⟨J,(callI_succ (d:=d_function_of) rfl rfl).trans e⟩
  | hd nm qs e =>
    obtain ⟨h1,h2,h3,h4⟩:=g.wd
    have te:=g.tr e.2 (by simp [trs])
    rw [Itm.tl,Ats] at a
    obtain ⟨x,xs,rfl,a1,a2⟩:=a
    rw [At] at a1
    subst a1
    obtain ⟨J,e'⟩:=r_handler_of (cl:=callI defs (k + 77)) (i_nameof (k + 75)) nm qs e h1 (by omega) (fun q hq=>by
      have tq:=g.tr q.2 (by simp only [trs]; exact List.mem_append.mpr (.inl (List.mem_map.mpr ⟨q,hq,rfl⟩)))
      exact i_headed k _ wd_on.ok g_CLAUSE_FORM q 3 (by decide) rfl (h2 q hq) tq.1 tq.2.1) (i_headed k _ wd_end.ok g_END_FORM e 2 (by decide) rfl h4 te.1 te.2.1) h n xs gn a2
    exact ⟨J,(callI_succ (d:=d_handler_of) rfl rfl).trans e'⟩
theorem i_itemof (k:Nat) (i:Itm) (g:ItG i):ItemAt (callI defs (k + 79)) i:=fun h d a=>by
  obtain ⟨J,e⟩:=r_item_of (cl:=callI defs (k + 78)) (i_headof (k + 77)) i (i_tail k i g) h d a
  exact ⟨J,(callI_succ (d:=d_item_of) rfl rfl).trans e⟩
theorem i_read (k:Nat) (T:List Nat) (is:List Itm) (h:Hh) (hi:∀ i ∈ is,ItG i) (hl:is.length<=4) (hw:w1 [] (Sn T)=(is.map iw).flatten.map cs) (ht:(Sn T).length<=900000) (hc:∀ c ∈ T,c < 1114112):∃ J,callI defs (k + 80) 2 [.str (mkS T)] h=.ok (.tup (is.map Itm.d)) (h ++ J):=by
  have ln:=is_len hi
  obtain ⟨J,e⟩:=r_read (cl:=callI defs (k + 79)) (mkS T) is (by omega) h (by
    obtain ⟨n,J,e,g⟩:=r_words_of (cl:=callI defs (k + 78)) T hc ht h
    refine ⟨n,J,(callI_succ (d:=d_words_of) rfl rfl).trans e,?_⟩
    rw [g,hw,wss_is,List.map_map]
    rw [show ((fun w=>D.str (mkS w)) ∘ cs)=D.str from funext fun p=>by show D.str (mkS (cs p))=_; rw [mk_cs]]) (fun nw h g=>by
    obtain ⟨m,ds,J,e,r⟩:=r_nested (cl:=callI defs (k + 78)) nw (is.map thI) h g (wqs_oks _ (is_wqs hi)) (is_dps hi) (by rw [wss_is]; omega)
    exact ⟨m,ds,J,(callI_succ (d:=d_nested) rfl rfl).trans e,r⟩) (fun i hm=>i_itemof k i (hi i hm))
  exact ⟨J,(callI_succ (d:=d_read) rfl rfl).trans e⟩
theorem calls (ns:List Int) (hb:∀ n ∈ ns,fits n=true):LawC (callI defs 80) ns where
  pr:=i_program 71 ns hb
  iw i h hi:=i_iw 54 i h hi
  al:=i_all 79
  sp nw ws h hw hl g:=by
    obtain ⟨T,J,e,r⟩:=r_spaced (cl:=callI defs 79) (i_cell 78 ns hb) nw ws hw hl h g
    exact ⟨T,J,(callI_succ (d:=d_law_spaced) rfl rfl).trans e,r⟩
  re T is h hi hl hw ht hc:=i_read 0 T is h hi hl hw ht hc
  ak d q:=i_alike 27 52 d q
theorem law_true (ns:List Int) (hb:∀ n ∈ ns,fits n=true):∃ h',callI defs 81 30 [.fl (ns.map .int)] []=.ok (.bl true) h':=by
  obtain ⟨h',e⟩:=r_law (calls ns hb)
  exact ⟨h',(callI_succ (d:=d_law) rfl rfl).trans e⟩
end K13
set_option Elab.async false
set_option linter.all false
set_option maxRecDepth 100000
set_option maxHeartbeats 4000000
namespace K13
set_option genInjectivity false
open PySem L2 PI
noncomputable def top (i:Nat):Stmt:=PySem.Challenge.pw_deedwright_k13_programs_read.main.body.getD i (.Pass ⟨0,0,0,0⟩)
theorem o_is_name:DefOk (top 13) d_is_name (defs.map (·.name)) consts:=⟨rfl,⟨rfl,rfl,rfl,by decide +kernel,rfl,by decide +kernel,by decide +kernel⟩,by decide +kernel,by decide +kernel,fun _ _ _ _ _ _=>len1 fun _=>rfl⟩
theorem o_is_number:DefOk (top 14) d_is_number (defs.map (·.name)) consts:=⟨rfl,⟨rfl,rfl,rfl,by decide +kernel,rfl,by decide +kernel,by decide +kernel⟩,by decide +kernel,by decide +kernel,fun _ _ _ _ _ _=>len1 fun _=>rfl⟩
theorem o_read:DefOk (top 18) d_read (defs.map (·.name)) consts:=⟨rfl,⟨rfl,rfl,rfl,by decide +kernel,rfl,by decide +kernel,by decide +kernel⟩,by decide +kernel,by decide +kernel,fun _ _ _ _ _ _=>len1 fun _=>rfl⟩
theorem o_words_of:DefOk (top 19) d_words_of (defs.map (·.name)) consts:=⟨rfl,⟨rfl,rfl,rfl,by decide +kernel,rfl,by decide +kernel,by decide +kernel⟩,by decide +kernel,by decide +kernel,fun _ _ _ _ _ _=>len1 fun _=>rfl⟩
theorem o_nested:DefOk (top 20) d_nested (defs.map (·.name)) consts:=⟨rfl,⟨rfl,rfl,rfl,by decide +kernel,rfl,by decide +kernel,by decide +kernel⟩,by decide +kernel,by decide +kernel,fun _ _ _ _ _ _=>len1 fun _=>rfl⟩
theorem o_item_of:DefOk (top 21) d_item_of (defs.map (·.name)) consts:=⟨rfl,⟨rfl,rfl,rfl,by decide +kernel,rfl,by decide +kernel,by decide +kernel⟩,by decide +kernel,by decide +kernel,fun _ _ _ _ _ _=>len1 fun _=>rfl⟩
theorem o_function_of:DefOk (top 22) d_function_of (defs.map (·.name)) consts:=⟨rfl,⟨rfl,rfl,rfl,by decide +kernel,rfl,by decide +kernel,by decide +kernel⟩,by decide +kernel,by decide +kernel,fun _ _ _ _ _ _=>len1 fun _=>rfl⟩
theorem o_handler_of:DefOk (top 23) d_handler_of (defs.map (·.name)) consts:=⟨rfl,⟨rfl,rfl,rfl,by decide +kernel,rfl,by decide +kernel,by decide +kernel⟩,by decide +kernel,by decide +kernel,fun _ _ _ _ _ _=>len1 fun _=>rfl⟩
theorem o_headed:DefOk (top 24) d_headed (defs.map (·.name)) consts:=⟨rfl,⟨rfl,rfl,rfl,by decide +kernel,rfl,by decide +kernel,by decide +kernel⟩,by decide +kernel,by decide +kernel,fun _ _ _ _ _ _=>len3 fun _ _ _=>rfl⟩
theorem o_formed:DefOk (top 25) d_formed (defs.map (·.name)) consts:=⟨rfl,⟨rfl,rfl,rfl,by decide +kernel,rfl,by decide +kernel,by decide +kernel⟩,by decide +kernel,by decide +kernel,fun _ _ _ _ _ _=>len2 fun _ _=>rfl⟩
theorem o_read_as:DefOk (top 26) d_read_as (defs.map (·.name)) consts:=⟨rfl,⟨rfl,rfl,rfl,by decide +kernel,rfl,by decide +kernel,by decide +kernel⟩,by decide +kernel,by decide +kernel,fun _ _ _ _ _ _=>len2 fun _ _=>rfl⟩
theorem o_expression_of:DefOk (top 27) d_expression_of (defs.map (·.name)) consts:=⟨rfl,⟨rfl,rfl,rfl,by decide +kernel,rfl,by decide +kernel,by decide +kernel⟩,by decide +kernel,by decide +kernel,fun _ _ _ _ _ _=>len1 fun _=>rfl⟩
theorem o_call_of:DefOk (top 28) d_call_of (defs.map (·.name)) consts:=⟨rfl,⟨rfl,rfl,rfl,by decide +kernel,rfl,by decide +kernel,by decide +kernel⟩,by decide +kernel,by decide +kernel,fun _ _ _ _ _ _=>len1 fun _=>rfl⟩
theorem o_hand_of:DefOk (top 29) d_hand_of (defs.map (·.name)) consts:=⟨rfl,⟨rfl,rfl,rfl,by decide +kernel,rfl,by decide +kernel,by decide +kernel⟩,by decide +kernel,by decide +kernel,fun _ _ _ _ _ _=>len1 fun _=>rfl⟩
theorem o_expressions_of:DefOk (top 30) d_expressions_of (defs.map (·.name)) consts:=⟨rfl,⟨rfl,rfl,rfl,by decide +kernel,rfl,by decide +kernel,by decide +kernel⟩,by decide +kernel,by decide +kernel,fun _ _ _ _ _ _=>len1 fun _=>rfl⟩
theorem o_head_of:DefOk (top 31) d_head_of (defs.map (·.name)) consts:=⟨rfl,⟨rfl,rfl,rfl,by decide +kernel,rfl,by decide +kernel,by decide +kernel⟩,by decide +kernel,by decide +kernel,fun _ _ _ _ _ _=>len1 fun _=>rfl⟩
theorem o_names_of:DefOk (top 32) d_names_of (defs.map (·.name)) consts:=⟨rfl,⟨rfl,rfl,rfl,by decide +kernel,rfl,by decide +kernel,by decide +kernel⟩,by decide +kernel,by decide +kernel,fun _ _ _ _ _ _=>len1 fun _=>rfl⟩
theorem o_name_of:DefOk (top 33) d_name_of (defs.map (·.name)) consts:=⟨rfl,⟨rfl,rfl,rfl,by decide +kernel,rfl,by decide +kernel,by decide +kernel⟩,by decide +kernel,by decide +kernel,fun _ _ _ _ _ _=>len1 fun _=>rfl⟩
theorem o_law_cell:DefOk (top 35) d_law_cell (defs.map (·.name)) consts:=⟨rfl,⟨rfl,rfl,rfl,by decide +kernel,rfl,by decide +kernel,by decide +kernel⟩,by decide +kernel,by decide +kernel,fun _ _ _ _ _ _=>len2 fun _ _=>rfl⟩
theorem o_law_next:DefOk (top 36) d_law_next (defs.map (·.name)) consts:=⟨rfl,⟨rfl,rfl,rfl,by decide +kernel,rfl,by decide +kernel,by decide +kernel⟩,by decide +kernel,by decide +kernel,fun _ _ _ _ _ _=>len1 fun _=>rfl⟩
theorem o_law_name:DefOk (top 37) d_law_name (defs.map (·.name)) consts:=⟨rfl,⟨rfl,rfl,rfl,by decide +kernel,rfl,by decide +kernel,by decide +kernel⟩,by decide +kernel,by decide +kernel,fun _ _ _ _ _ _=>len1 fun _=>rfl⟩
theorem o_law_part:DefOk (top 38) d_law_part (defs.map (·.name)) consts:=⟨rfl,⟨rfl,rfl,rfl,by decide +kernel,rfl,by decide +kernel,by decide +kernel⟩,by decide +kernel,by decide +kernel,fun _ _ _ _ _ _=>len2 fun _ _=>rfl⟩
theorem o_law_item:DefOk (top 39) d_law_item (defs.map (·.name)) consts:=⟨rfl,⟨rfl,rfl,rfl,by decide +kernel,rfl,by decide +kernel,by decide +kernel⟩,by decide +kernel,by decide +kernel,fun _ _ _ _ _ _=>len1 fun _=>rfl⟩
theorem o_law_nest:DefOk (top 40) d_law_nest (defs.map (·.name)) consts:=⟨rfl,⟨rfl,rfl,rfl,by decide +kernel,rfl,by decide +kernel,by decide +kernel⟩,by decide +kernel,by decide +kernel,fun _ _ _ _ _ _=>len2 fun _ _=>rfl⟩
theorem o_law_program:DefOk (top 41) d_law_program (defs.map (·.name)) consts:=⟨rfl,⟨rfl,rfl,rfl,by decide +kernel,rfl,by decide +kernel,by decide +kernel⟩,by decide +kernel,by decide +kernel,fun _ _ _ _ _ _=>len1 fun _=>rfl⟩
theorem o_law_words:DefOk (top 42) d_law_words (defs.map (·.name)) consts:=⟨rfl,⟨rfl,rfl,rfl,by decide +kernel,rfl,by decide +kernel,by decide +kernel⟩,by decide +kernel,by decide +kernel,fun _ _ _ _ _ _=>len1 fun _=>rfl⟩
theorem o_law_all:DefOk (top 43) d_law_all (defs.map (·.name)) consts:=⟨rfl,⟨rfl,rfl,rfl,by decide +kernel,rfl,by decide +kernel,by decide +kernel⟩,by decide +kernel,by decide +kernel,fun _ _ _ _ _ _=>len1 fun _=>rfl⟩
theorem o_law_item_words:DefOk (top 44) d_law_item_words (defs.map (·.name)) consts:=⟨rfl,⟨rfl,rfl,rfl,by decide +kernel,rfl,by decide +kernel,by decide +kernel⟩,by decide +kernel,by decide +kernel,fun _ _ _ _ _ _=>len1 fun _=>rfl⟩
theorem o_law_spaced:DefOk (top 45) d_law_spaced (defs.map (·.name)) consts:=⟨rfl,⟨rfl,rfl,rfl,by decide +kernel,rfl,by decide +kernel,by decide +kernel⟩,by decide +kernel,by decide +kernel,fun _ _ _ _ _ _=>len2 fun _ _=>rfl⟩
theorem o_law_alike:DefOk (top 46) d_law_alike (defs.map (·.name)) consts:=⟨rfl,⟨rfl,rfl,rfl,by decide +kernel,rfl,by decide +kernel,by decide +kernel⟩,by decide +kernel,by decide +kernel,fun _ _ _ _ _ _=>len2 fun _ _=>rfl⟩
theorem o_law:DefOk (top 47) d_law (defs.map (·.name)) consts:=⟨rfl,⟨rfl,rfl,rfl,by decide +kernel,rfl,by decide +kernel,by decide +kernel⟩,by decide +kernel,by decide +kernel,fun _ _ _ _ _ _=>len1 fun _=>rfl⟩
theorem all_mk {l:PySem.W.OpenLaw} {w:World} {K:PySem.W.Frag} {h:Heap} {mg:Str->Option Value} {fa f0 f1 f2 f3 f4 f5 f6 f7 f8 f9 f10 f11 f12 f13 f14 f15 f16 f17 f18 f19 f20 f21 f22 f23 f24 f25 f26 f27 f28 f29 f30:Addr} (X:K.In h) (G:h.Ns mainGlobals mg) (hfa:mg "law"=some (.ref fa))
    {od0 an0:Option Addr} {sl0:Array (Option Value)} {oc0 kV0 dc0 pm0 cd0 ct0:Value}
    {od1 an1:Option Addr} {sl1:Array (Option Value)} {oc1 kV1 dc1 pm1 cd1 ct1:Value}
    {od2 an2:Option Addr} {sl2:Array (Option Value)} {oc2 kV2 dc2 pm2 cd2 ct2:Value}
    {od3 an3:Option Addr} {sl3:Array (Option Value)} {oc3 kV3 dc3 pm3 cd3 ct3:Value}
    {od4 an4:Option Addr} {sl4:Array (Option Value)} {oc4 kV4 dc4 pm4 cd4 ct4:Value}
    {od5 an5:Option Addr} {sl5:Array (Option Value)} {oc5 kV5 dc5 pm5 cd5 ct5:Value}
    {od6 an6:Option Addr} {sl6:Array (Option Value)} {oc6 kV6 dc6 pm6 cd6 ct6:Value}
    {od7 an7:Option Addr} {sl7:Array (Option Value)} {oc7 kV7 dc7 pm7 cd7 ct7:Value}
    {od8 an8:Option Addr} {sl8:Array (Option Value)} {oc8 kV8 dc8 pm8 cd8 ct8:Value}
    {od9 an9:Option Addr} {sl9:Array (Option Value)} {oc9 kV9 dc9 pm9 cd9 ct9:Value}
    {od10 an10:Option Addr} {sl10:Array (Option Value)} {oc10 kV10 dc10 pm10 cd10 ct10:Value}
    {od11 an11:Option Addr} {sl11:Array (Option Value)} {oc11 kV11 dc11 pm11 cd11 ct11:Value}
    {od12 an12:Option Addr} {sl12:Array (Option Value)} {oc12 kV12 dc12 pm12 cd12 ct12:Value}
    {od13 an13:Option Addr} {sl13:Array (Option Value)} {oc13 kV13 dc13 pm13 cd13 ct13:Value}
    {od14 an14:Option Addr} {sl14:Array (Option Value)} {oc14 kV14 dc14 pm14 cd14 ct14:Value}
    {od15 an15:Option Addr} {sl15:Array (Option Value)} {oc15 kV15 dc15 pm15 cd15 ct15:Value}
    {od16 an16:Option Addr} {sl16:Array (Option Value)} {oc16 kV16 dc16 pm16 cd16 ct16:Value}
    {od17 an17:Option Addr} {sl17:Array (Option Value)} {oc17 kV17 dc17 pm17 cd17 ct17:Value}
    {od18 an18:Option Addr} {sl18:Array (Option Value)} {oc18 kV18 dc18 pm18 cd18 ct18:Value}
    {od19 an19:Option Addr} {sl19:Array (Option Value)} {oc19 kV19 dc19 pm19 cd19 ct19:Value}
    {od20 an20:Option Addr} {sl20:Array (Option Value)} {oc20 kV20 dc20 pm20 cd20 ct20:Value}
    {od21 an21:Option Addr} {sl21:Array (Option Value)} {oc21 kV21 dc21 pm21 cd21 ct21:Value}
    {od22 an22:Option Addr} {sl22:Array (Option Value)} {oc22 kV22 dc22 pm22 cd22 ct22:Value}
    {od23 an23:Option Addr} {sl23:Array (Option Value)} {oc23 kV23 dc23 pm23 cd23 ct23:Value}
    {od24 an24:Option Addr} {sl24:Array (Option Value)} {oc24 kV24 dc24 pm24 cd24 ct24:Value}
    {od25 an25:Option Addr} {sl25:Array (Option Value)} {oc25 kV25 dc25 pm25 cd25 ct25:Value}
    {od26 an26:Option Addr} {sl26:Array (Option Value)} {oc26 kV26 dc26 pm26 cd26 ct26:Value}
    {od27 an27:Option Addr} {sl27:Array (Option Value)} {oc27 kV27 dc27 pm27 cd27 ct27:Value}
    {od28 an28:Option Addr} {sl28:Array (Option Value)} {oc28 kV28 dc28 pm28 cd28 ct28:Value}
    {od29 an29:Option Addr} {sl29:Array (Option Value)} {oc29 kV29 dc29 pm29 cd29 ct29:Value}
    {od30 an30:Option Addr} {sl30:Array (Option Value)} {oc30 kV30 dc30 pm30 cd30 ct30:Value}
    (a0:PySem.W.nsIn K mainGlobals "is_name"=some (some (.ref f0))) (l0:K.lookup f0=some ⟨oc0,od0,.func (PySem.W.fnOf "is_name" "is_name" (defArgs (top 13)) (defBody (top 13)) (defScope (top 13)) .none kV0 dc0 pm0 an0 cd0 ct0),sl0⟩) (c0:PySem.W.codeIn K cd0 "is_name"=true) (k0:PySem.W.keepIn K (.ref f0)=true)
    (a1:PySem.W.nsIn K mainGlobals "is_number"=some (some (.ref f1))) (l1:K.lookup f1=some ⟨oc1,od1,.func (PySem.W.fnOf "is_number" "is_number" (defArgs (top 14)) (defBody (top 14)) (defScope (top 14)) .none kV1 dc1 pm1 an1 cd1 ct1),sl1⟩) (c1:PySem.W.codeIn K cd1 "is_number"=true) (k1:PySem.W.keepIn K (.ref f1)=true)
    (a2:PySem.W.nsIn K mainGlobals "read"=some (some (.ref f2))) (l2:K.lookup f2=some ⟨oc2,od2,.func (PySem.W.fnOf "read" "read" (defArgs (top 18)) (defBody (top 18)) (defScope (top 18)) .none kV2 dc2 pm2 an2 cd2 ct2),sl2⟩) (c2:PySem.W.codeIn K cd2 "read"=true) (k2:PySem.W.keepIn K (.ref f2)=true)
    (a3:PySem.W.nsIn K mainGlobals "words_of"=some (some (.ref f3))) (l3:K.lookup f3=some ⟨oc3,od3,.func (PySem.W.fnOf "words_of" "words_of" (defArgs (top 19)) (defBody (top 19)) (defScope (top 19)) .none kV3 dc3 pm3 an3 cd3 ct3),sl3⟩) (c3:PySem.W.codeIn K cd3 "words_of"=true) (k3:PySem.W.keepIn K (.ref f3)=true)
    (a4:PySem.W.nsIn K mainGlobals "nested"=some (some (.ref f4))) (l4:K.lookup f4=some ⟨oc4,od4,.func (PySem.W.fnOf "nested" "nested" (defArgs (top 20)) (defBody (top 20)) (defScope (top 20)) .none kV4 dc4 pm4 an4 cd4 ct4),sl4⟩) (c4:PySem.W.codeIn K cd4 "nested"=true) (k4:PySem.W.keepIn K (.ref f4)=true)
    (a5:PySem.W.nsIn K mainGlobals "item_of"=some (some (.ref f5))) (l5:K.lookup f5=some ⟨oc5,od5,.func (PySem.W.fnOf "item_of" "item_of" (defArgs (top 21)) (defBody (top 21)) (defScope (top 21)) .none kV5 dc5 pm5 an5 cd5 ct5),sl5⟩) (c5:PySem.W.codeIn K cd5 "item_of"=true) (k5:PySem.W.keepIn K (.ref f5)=true)
    (a6:PySem.W.nsIn K mainGlobals "function_of"=some (some (.ref f6))) (l6:K.lookup f6=some ⟨oc6,od6,.func (PySem.W.fnOf "function_of" "function_of" (defArgs (top 22)) (defBody (top 22)) (defScope (top 22)) .none kV6 dc6 pm6 an6 cd6 ct6),sl6⟩) (c6:PySem.W.codeIn K cd6 "function_of"=true) (k6:PySem.W.keepIn K (.ref f6)=true)
    (a7:PySem.W.nsIn K mainGlobals "handler_of"=some (some (.ref f7))) (l7:K.lookup f7=some ⟨oc7,od7,.func (PySem.W.fnOf "handler_of" "handler_of" (defArgs (top 23)) (defBody (top 23)) (defScope (top 23)) .none kV7 dc7 pm7 an7 cd7 ct7),sl7⟩) (c7:PySem.W.codeIn K cd7 "handler_of"=true) (k7:PySem.W.keepIn K (.ref f7)=true)
    (a8:PySem.W.nsIn K mainGlobals "headed"=some (some (.ref f8))) (l8:K.lookup f8=some ⟨oc8,od8,.func (PySem.W.fnOf "headed" "headed" (defArgs (top 24)) (defBody (top 24)) (defScope (top 24)) .none kV8 dc8 pm8 an8 cd8 ct8),sl8⟩) (c8:PySem.W.codeIn K cd8 "headed"=true) (k8:PySem.W.keepIn K (.ref f8)=true)
    (a9:PySem.W.nsIn K mainGlobals "formed"=some (some (.ref f9))) (l9:K.lookup f9=some ⟨oc9,od9,.func (PySem.W.fnOf "formed" "formed" (defArgs (top 25)) (defBody (top 25)) (defScope (top 25)) .none kV9 dc9 pm9 an9 cd9 ct9),sl9⟩) (c9:PySem.W.codeIn K cd9 "formed"=true) (k9:PySem.W.keepIn K (.ref f9)=true)
    (a10:PySem.W.nsIn K mainGlobals "read_as"=some (some (.ref f10))) (l10:K.lookup f10=some ⟨oc10,od10,.func (PySem.W.fnOf "read_as" "read_as" (defArgs (top 26)) (defBody (top 26)) (defScope (top 26)) .none kV10 dc10 pm10 an10 cd10 ct10),sl10⟩) (c10:PySem.W.codeIn K cd10 "read_as"=true) (k10:PySem.W.keepIn K (.ref f10)=true)
    (a11:PySem.W.nsIn K mainGlobals "expression_of"=some (some (.ref f11))) (l11:K.lookup f11=some ⟨oc11,od11,.func (PySem.W.fnOf "expression_of" "expression_of" (defArgs (top 27)) (defBody (top 27)) (defScope (top 27)) .none kV11 dc11 pm11 an11 cd11 ct11),sl11⟩) (c11:PySem.W.codeIn K cd11 "expression_of"=true) (k11:PySem.W.keepIn K (.ref f11)=true)
    (a12:PySem.W.nsIn K mainGlobals "call_of"=some (some (.ref f12))) (l12:K.lookup f12=some ⟨oc12,od12,.func (PySem.W.fnOf "call_of" "call_of" (defArgs (top 28)) (defBody (top 28)) (defScope (top 28)) .none kV12 dc12 pm12 an12 cd12 ct12),sl12⟩) (c12:PySem.W.codeIn K cd12 "call_of"=true) (k12:PySem.W.keepIn K (.ref f12)=true)
    (a13:PySem.W.nsIn K mainGlobals "hand_of"=some (some (.ref f13))) (l13:K.lookup f13=some ⟨oc13,od13,.func (PySem.W.fnOf "hand_of" "hand_of" (defArgs (top 29)) (defBody (top 29)) (defScope (top 29)) .none kV13 dc13 pm13 an13 cd13 ct13),sl13⟩) (c13:PySem.W.codeIn K cd13 "hand_of"=true) (k13:PySem.W.keepIn K (.ref f13)=true)
    (a14:PySem.W.nsIn K mainGlobals "expressions_of"=some (some (.ref f14))) (l14:K.lookup f14=some ⟨oc14,od14,.func (PySem.W.fnOf "expressions_of" "expressions_of" (defArgs (top 30)) (defBody (top 30)) (defScope (top 30)) .none kV14 dc14 pm14 an14 cd14 ct14),sl14⟩) (c14:PySem.W.codeIn K cd14 "expressions_of"=true) (k14:PySem.W.keepIn K (.ref f14)=true)
    (a15:PySem.W.nsIn K mainGlobals "head_of"=some (some (.ref f15))) (l15:K.lookup f15=some ⟨oc15,od15,.func (PySem.W.fnOf "head_of" "head_of" (defArgs (top 31)) (defBody (top 31)) (defScope (top 31)) .none kV15 dc15 pm15 an15 cd15 ct15),sl15⟩) (c15:PySem.W.codeIn K cd15 "head_of"=true) (k15:PySem.W.keepIn K (.ref f15)=true)
    (a16:PySem.W.nsIn K mainGlobals "names_of"=some (some (.ref f16))) (l16:K.lookup f16=some ⟨oc16,od16,.func (PySem.W.fnOf "names_of" "names_of" (defArgs (top 32)) (defBody (top 32)) (defScope (top 32)) .none kV16 dc16 pm16 an16 cd16 ct16),sl16⟩) (c16:PySem.W.codeIn K cd16 "names_of"=true) (k16:PySem.W.keepIn K (.ref f16)=true)
    (a17:PySem.W.nsIn K mainGlobals "name_of"=some (some (.ref f17))) (l17:K.lookup f17=some ⟨oc17,od17,.func (PySem.W.fnOf "name_of" "name_of" (defArgs (top 33)) (defBody (top 33)) (defScope (top 33)) .none kV17 dc17 pm17 an17 cd17 ct17),sl17⟩) (c17:PySem.W.codeIn K cd17 "name_of"=true) (k17:PySem.W.keepIn K (.ref f17)=true)
    (a18:PySem.W.nsIn K mainGlobals "_law_cell"=some (some (.ref f18))) (l18:K.lookup f18=some ⟨oc18,od18,.func (PySem.W.fnOf "_law_cell" "_law_cell" (defArgs (top 35)) (defBody (top 35)) (defScope (top 35)) .none kV18 dc18 pm18 an18 cd18 ct18),sl18⟩) (c18:PySem.W.codeIn K cd18 "_law_cell"=true) (k18:PySem.W.keepIn K (.ref f18)=true)
    (a19:PySem.W.nsIn K mainGlobals "_law_next"=some (some (.ref f19))) (l19:K.lookup f19=some ⟨oc19,od19,.func (PySem.W.fnOf "_law_next" "_law_next" (defArgs (top 36)) (defBody (top 36)) (defScope (top 36)) .none kV19 dc19 pm19 an19 cd19 ct19),sl19⟩) (c19:PySem.W.codeIn K cd19 "_law_next"=true) (k19:PySem.W.keepIn K (.ref f19)=true)
    (a20:PySem.W.nsIn K mainGlobals "_law_name"=some (some (.ref f20))) (l20:K.lookup f20=some ⟨oc20,od20,.func (PySem.W.fnOf "_law_name" "_law_name" (defArgs (top 37)) (defBody (top 37)) (defScope (top 37)) .none kV20 dc20 pm20 an20 cd20 ct20),sl20⟩) (c20:PySem.W.codeIn K cd20 "_law_name"=true) (k20:PySem.W.keepIn K (.ref f20)=true)
    (a21:PySem.W.nsIn K mainGlobals "_law_part"=some (some (.ref f21))) (l21:K.lookup f21=some ⟨oc21,od21,.func (PySem.W.fnOf "_law_part" "_law_part" (defArgs (top 38)) (defBody (top 38)) (defScope (top 38)) .none kV21 dc21 pm21 an21 cd21 ct21),sl21⟩) (c21:PySem.W.codeIn K cd21 "_law_part"=true) (k21:PySem.W.keepIn K (.ref f21)=true)
    (a22:PySem.W.nsIn K mainGlobals "_law_item"=some (some (.ref f22))) (l22:K.lookup f22=some ⟨oc22,od22,.func (PySem.W.fnOf "_law_item" "_law_item" (defArgs (top 39)) (defBody (top 39)) (defScope (top 39)) .none kV22 dc22 pm22 an22 cd22 ct22),sl22⟩) (c22:PySem.W.codeIn K cd22 "_law_item"=true) (k22:PySem.W.keepIn K (.ref f22)=true)
    (a23:PySem.W.nsIn K mainGlobals "_law_nest"=some (some (.ref f23))) (l23:K.lookup f23=some ⟨oc23,od23,.func (PySem.W.fnOf "_law_nest" "_law_nest" (defArgs (top 40)) (defBody (top 40)) (defScope (top 40)) .none kV23 dc23 pm23 an23 cd23 ct23),sl23⟩) (c23:PySem.W.codeIn K cd23 "_law_nest"=true) (k23:PySem.W.keepIn K (.ref f23)=true)
    (a24:PySem.W.nsIn K mainGlobals "_law_program"=some (some (.ref f24))) (l24:K.lookup f24=some ⟨oc24,od24,.func (PySem.W.fnOf "_law_program" "_law_program" (defArgs (top 41)) (defBody (top 41)) (defScope (top 41)) .none kV24 dc24 pm24 an24 cd24 ct24),sl24⟩) (c24:PySem.W.codeIn K cd24 "_law_program"=true) (k24:PySem.W.keepIn K (.ref f24)=true)
    (a25:PySem.W.nsIn K mainGlobals "_law_words"=some (some (.ref f25))) (l25:K.lookup f25=some ⟨oc25,od25,.func (PySem.W.fnOf "_law_words" "_law_words" (defArgs (top 42)) (defBody (top 42)) (defScope (top 42)) .none kV25 dc25 pm25 an25 cd25 ct25),sl25⟩) (c25:PySem.W.codeIn K cd25 "_law_words"=true) (k25:PySem.W.keepIn K (.ref f25)=true)
    (a26:PySem.W.nsIn K mainGlobals "_law_all"=some (some (.ref f26))) (l26:K.lookup f26=some ⟨oc26,od26,.func (PySem.W.fnOf "_law_all" "_law_all" (defArgs (top 43)) (defBody (top 43)) (defScope (top 43)) .none kV26 dc26 pm26 an26 cd26 ct26),sl26⟩) (c26:PySem.W.codeIn K cd26 "_law_all"=true) (k26:PySem.W.keepIn K (.ref f26)=true)
    (a27:PySem.W.nsIn K mainGlobals "_law_item_words"=some (some (.ref f27))) (l27:K.lookup f27=some ⟨oc27,od27,.func (PySem.W.fnOf "_law_item_words" "_law_item_words" (defArgs (top 44)) (defBody (top 44)) (defScope (top 44)) .none kV27 dc27 pm27 an27 cd27 ct27),sl27⟩) (c27:PySem.W.codeIn K cd27 "_law_item_words"=true) (k27:PySem.W.keepIn K (.ref f27)=true)
    (a28:PySem.W.nsIn K mainGlobals "_law_spaced"=some (some (.ref f28))) (l28:K.lookup f28=some ⟨oc28,od28,.func (PySem.W.fnOf "_law_spaced" "_law_spaced" (defArgs (top 45)) (defBody (top 45)) (defScope (top 45)) .none kV28 dc28 pm28 an28 cd28 ct28),sl28⟩) (c28:PySem.W.codeIn K cd28 "_law_spaced"=true) (k28:PySem.W.keepIn K (.ref f28)=true)
    (a29:PySem.W.nsIn K mainGlobals "_law_alike"=some (some (.ref f29))) (l29:K.lookup f29=some ⟨oc29,od29,.func (PySem.W.fnOf "_law_alike" "_law_alike" (defArgs (top 46)) (defBody (top 46)) (defScope (top 46)) .none kV29 dc29 pm29 an29 cd29 ct29),sl29⟩) (c29:PySem.W.codeIn K cd29 "_law_alike"=true) (k29:PySem.W.keepIn K (.ref f29)=true)
    (a30:PySem.W.nsIn K mainGlobals "law"=some (some (.ref f30))) (l30:K.lookup f30=some ⟨oc30,od30,.func (PySem.W.fnOf "law" "law" (defArgs (top 47)) (defBody (top 47)) (defScope (top 47)) .none kV30 dc30 pm30 an30 cd30 ct30),sl30⟩) (c30:PySem.W.codeIn K cd30 "law"=true) (k30:PySem.W.keepIn K (.ref f30)=true)
    (z0:PySem.W.nsIn K mainGlobals "len"=some none)
    (z1:PySem.W.nsIn K mainGlobals "isinstance"=some none)
    (z2:PySem.W.nsIn K mainGlobals "int"=some none)
    (z3:PySem.W.nsIn K mainGlobals "bool"=some none)
    (z4:PySem.W.nsIn K mainGlobals "str"=some none)
    (z5:PySem.W.nsIn K mainGlobals "tuple"=some none)
    (z6:PySem.W.nsIn K mainGlobals "list"=some none)
    (z7:PySem.W.nsIn K mainGlobals "range"=some none)
    (z8:PySem.W.nsIn K mainGlobals "max"=some none)
    (z9:PySem.W.nsIn K mainGlobals "min"=some none)
    (z10:PySem.W.nsIn K mainGlobals "sum"=some none)
    (z11:PySem.W.nsIn K mainGlobals "all"=some none)
    (z12:PySem.W.nsIn K mainGlobals "any"=some none)
    (z13:PySem.W.nsIn K mainGlobals "zip"=some none)
    (z14:PySem.W.nsIn K mainGlobals "reversed"=some none)
    (z15:PySem.W.nsIn K mainGlobals "sorted"=some none)
    (z16:PySem.W.nsIn K mainGlobals "set"=some none)
    (z17:PySem.W.nsIn K mainGlobals "enumerate"=some none)
    (z18:PySem.W.nsIn K mainGlobals "dict"=some none)
    (z19:PySem.W.nsIn K mainGlobals "abs"=some none)
    {gc0:Addr} (ga0:PySem.W.nsIn K mainGlobals "WORDS"=some (some (.ref gc0))) (ge0:TupK K gc0 g_WORDS)
    {gc1:Addr} (ga1:PySem.W.nsIn K mainGlobals "SIGNS"=some (some (.ref gc1))) (ge1:TupK K gc1 g_SIGNS)
    {gt2:Tok} (ga2:PySem.W.nsIn K mainGlobals "LETTERS"=some (some (.str "abcdefghijklmnopqrstuvwxyz" gt2)))
    {gt3:Tok} (ga3:PySem.W.nsIn K mainGlobals "LONGEST_NAME"=some (some (.int (8) gt3)))
    {gt4:Tok} (ga4:PySem.W.nsIn K mainGlobals "FIGURES"=some (some (.str "0123456789" gt4)))
    {gt5:Tok} (ga5:PySem.W.nsIn K mainGlobals "MOST_FIGURES"=some (some (.int (18) gt5)))
    {gc6:Addr} {es6:Array DictEntry} {ep6:Nat} (ga6:PySem.W.nsIn K mainGlobals "FORMS"=some (some (.ref gc6))) (gl6:K.lookup gc6=some { cls:=.type "dict",data:=.dict es6 ep6 }) (ge6:EntsOk w K es6.toList g_FORMS)
    {gc7:Addr} (ga7:PySem.W.nsIn K mainGlobals "CLAUSE_FORM"=some (some (.ref gc7))) (ge7:TupK K gc7 g_CLAUSE_FORM)
    {gc8:Addr} (ga8:PySem.W.nsIn K mainGlobals "END_FORM"=some (some (.ref gc8))) (ge8:TupK K gc8 g_END_FORM)
    {gt9:Tok} (ga9:PySem.W.nsIn K mainGlobals "DEEPEST"=some (some (.int (24) gt9)))
    {gc10:Addr} (ga10:PySem.W.nsIn K mainGlobals "ALIKE"=some (some (.ref gc10))) (ge10:TupK K gc10 g_ALIKE)
   :∃ fd:FuncData,(∀ (s:Shared) (v:Value),BindsTo s fd ⟨[v],[]⟩ [("_law_script",v)]) /\ ∀ base:Heap,K.In base->base.Ns mainGlobals mg->FnOk l.prog w K mg base (CXs l.prog w) 81 fa fd ["_law_script"] (spLaw K (callI defs 81 30)):=by
  have e:=hfa.symm.trans (PySem.W.mg_of X G a30)
  cases e
  have T:Tab l.prog w K mg defs consts:=by
    refine ⟨fun x hx=>?_,fun x c hx=>?_,fun i d hd=>?_⟩
    · simp only [bnames,List.mem_cons,List.not_mem_nil,or_false] at hx
      rcases hx with rfl | rfl | rfl | rfl | rfl | rfl | rfl | rfl | rfl | rfl | rfl | rfl | rfl | rfl | rfl | rfl | rfl | rfl | rfl | rfl
      · exact PySem.W.mg_none_of X G z0
      · exact PySem.W.mg_none_of X G z1
      · exact PySem.W.mg_none_of X G z2
      · exact PySem.W.mg_none_of X G z3
      · exact PySem.W.mg_none_of X G z4
      · exact PySem.W.mg_none_of X G z5
      · exact PySem.W.mg_none_of X G z6
      · exact PySem.W.mg_none_of X G z7
      · exact PySem.W.mg_none_of X G z8
      · exact PySem.W.mg_none_of X G z9
      · exact PySem.W.mg_none_of X G z10
      · exact PySem.W.mg_none_of X G z11
      · exact PySem.W.mg_none_of X G z12
      · exact PySem.W.mg_none_of X G z13
      · exact PySem.W.mg_none_of X G z14
      · exact PySem.W.mg_none_of X G z15
      · exact PySem.W.mg_none_of X G z16
      · exact PySem.W.mg_none_of X G z17
      · exact PySem.W.mg_none_of X G z18
      · exact PySem.W.mg_none_of X G z19
    · simp only [consts,List.mem_cons,List.not_mem_nil,or_false] at hx
      rcases hx with hq | hq | hq | hq | hq | hq | hq | hq | hq | hq | hq
      · cases hq; exact ⟨by decide,_,PySem.W.mg_of X G ga0,⟨_,rfl,ge0⟩⟩
      · cases hq; exact ⟨by decide,_,PySem.W.mg_of X G ga1,⟨_,rfl,ge1⟩⟩
      · cases hq; exact ⟨by decide,_,PySem.W.mg_of X G ga2,⟨_,rfl⟩⟩
      · cases hq; exact ⟨by decide,_,PySem.W.mg_of X G ga3,⟨_,rfl⟩⟩
      · cases hq; exact ⟨by decide,_,PySem.W.mg_of X G ga4,⟨_,rfl⟩⟩
      · cases hq; exact ⟨by decide,_,PySem.W.mg_of X G ga5,⟨_,rfl⟩⟩
      · cases hq; exact ⟨by decide,_,PySem.W.mg_of X G ga6,cn_dic gl6 ge6 (by decide)⟩
      · cases hq; exact ⟨by decide,_,PySem.W.mg_of X G ga7,⟨_,rfl,ge7⟩⟩
      · cases hq; exact ⟨by decide,_,PySem.W.mg_of X G ga8,⟨_,rfl,ge8⟩⟩
      · cases hq; exact ⟨by decide,_,PySem.W.mg_of X G ga9,⟨_,rfl⟩⟩
      · cases hq; exact ⟨by decide,_,PySem.W.mg_of X G ga10,⟨_,rfl,ge10⟩⟩
    · match i,hd with
      | 0,hd=>cases hd; exact ⟨by decide,_,_,_,PySem.W.mg_of X G a0,fun_mk (st:=top 13) l0 c0 k0,o_is_name⟩
      | 1,hd=>cases hd; exact ⟨by decide,_,_,_,PySem.W.mg_of X G a1,fun_mk (st:=top 14) l1 c1 k1,o_is_number⟩
      | 2,hd=>cases hd; exact ⟨by decide,_,_,_,PySem.W.mg_of X G a2,fun_mk (st:=top 18) l2 c2 k2,o_read⟩
      | 3,hd=>cases hd; exact ⟨by decide,_,_,_,PySem.W.mg_of X G a3,fun_mk (st:=top 19) l3 c3 k3,o_words_of⟩
      | 4,hd=>cases hd; exact ⟨by decide,_,_,_,PySem.W.mg_of X G a4,fun_mk (st:=top 20) l4 c4 k4,o_nested⟩
      | 5,hd=>cases hd; exact ⟨by decide,_,_,_,PySem.W.mg_of X G a5,fun_mk (st:=top 21) l5 c5 k5,o_item_of⟩
      | 6,hd=>cases hd; exact ⟨by decide,_,_,_,PySem.W.mg_of X G a6,fun_mk (st:=top 22) l6 c6 k6,o_function_of⟩
      | 7,hd=>cases hd; exact ⟨by decide,_,_,_,PySem.W.mg_of X G a7,fun_mk (st:=top 23) l7 c7 k7,o_handler_of⟩
      | 8,hd=>cases hd; exact ⟨by decide,_,_,_,PySem.W.mg_of X G a8,fun_mk (st:=top 24) l8 c8 k8,o_headed⟩
      | 9,hd=>cases hd; exact ⟨by decide,_,_,_,PySem.W.mg_of X G a9,fun_mk (st:=top 25) l9 c9 k9,o_formed⟩
      | 10,hd=>cases hd; exact ⟨by decide,_,_,_,PySem.W.mg_of X G a10,fun_mk (st:=top 26) l10 c10 k10,o_read_as⟩
      | 11,hd=>cases hd; exact ⟨by decide,_,_,_,PySem.W.mg_of X G a11,fun_mk (st:=top 27) l11 c11 k11,o_expression_of⟩
      | 12,hd=>cases hd; exact ⟨by decide,_,_,_,PySem.W.mg_of X G a12,fun_mk (st:=top 28) l12 c12 k12,o_call_of⟩
      | 13,hd=>cases hd; exact ⟨by decide,_,_,_,PySem.W.mg_of X G a13,fun_mk (st:=top 29) l13 c13 k13,o_hand_of⟩
      | 14,hd=>cases hd; exact ⟨by decide,_,_,_,PySem.W.mg_of X G a14,fun_mk (st:=top 30) l14 c14 k14,o_expressions_of⟩
      | 15,hd=>cases hd; exact ⟨by decide,_,_,_,PySem.W.mg_of X G a15,fun_mk (st:=top 31) l15 c15 k15,o_head_of⟩
      | 16,hd=>cases hd; exact ⟨by decide,_,_,_,PySem.W.mg_of X G a16,fun_mk (st:=top 32) l16 c16 k16,o_names_of⟩
      | 17,hd=>cases hd; exact ⟨by decide,_,_,_,PySem.W.mg_of X G a17,fun_mk (st:=top 33) l17 c17 k17,o_name_of⟩
      | 18,hd=>cases hd; exact ⟨by decide,_,_,_,PySem.W.mg_of X G a18,fun_mk (st:=top 35) l18 c18 k18,o_law_cell⟩
      | 19,hd=>cases hd; exact ⟨by decide,_,_,_,PySem.W.mg_of X G a19,fun_mk (st:=top 36) l19 c19 k19,o_law_next⟩
      | 20,hd=>cases hd; exact ⟨by decide,_,_,_,PySem.W.mg_of X G a20,fun_mk (st:=top 37) l20 c20 k20,o_law_name⟩
      | 21,hd=>cases hd; exact ⟨by decide,_,_,_,PySem.W.mg_of X G a21,fun_mk (st:=top 38) l21 c21 k21,o_law_part⟩
      | 22,hd=>cases hd; exact ⟨by decide,_,_,_,PySem.W.mg_of X G a22,fun_mk (st:=top 39) l22 c22 k22,o_law_item⟩
      | 23,hd=>cases hd; exact ⟨by decide,_,_,_,PySem.W.mg_of X G a23,fun_mk (st:=top 40) l23 c23 k23,o_law_nest⟩
      | 24,hd=>cases hd; exact ⟨by decide,_,_,_,PySem.W.mg_of X G a24,fun_mk (st:=top 41) l24 c24 k24,o_law_program⟩
      | 25,hd=>cases hd; exact ⟨by decide,_,_,_,PySem.W.mg_of X G a25,fun_mk (st:=top 42) l25 c25 k25,o_law_words⟩
      | 26,hd=>cases hd; exact ⟨by decide,_,_,_,PySem.W.mg_of X G a26,fun_mk (st:=top 43) l26 c26 k26,o_law_all⟩
      | 27,hd=>cases hd; exact ⟨by decide,_,_,_,PySem.W.mg_of X G a27,fun_mk (st:=top 44) l27 c27 k27,o_law_item_words⟩
      | 28,hd=>cases hd; exact ⟨by decide,_,_,_,PySem.W.mg_of X G a28,fun_mk (st:=top 45) l28 c28 k28,o_law_spaced⟩
      | 29,hd=>cases hd; exact ⟨by decide,_,_,_,PySem.W.mg_of X G a29,fun_mk (st:=top 46) l29 c29 k29,o_law_alike⟩
      | 30,hd=>cases hd; exact ⟨by decide,_,_,_,PySem.W.mg_of X G a30,fun_mk (st:=top 47) l30 c30 k30,o_law⟩
      | n + 31,hd=>exact absurd hd (by simp [defs])
  refine ⟨PySem.W.fnOf "law" "law" (defArgs (top 47)) (defBody (top 47)) (defScope (top 47)) .none kV30 dc30 pm30 an30 cd30 ct30,fun s v=>.of_eq rfl,fun base _ _=>?_⟩
  exact all_fn T 81 30 d_law (top 47) _ _ rfl (PySem.W.mg_of X G a30) (fun_mk (st:=top 47) l30 c30 k30) o_law
end K13
open PySem PySem.W
set_option maxRecDepth 100000 in
set_option maxHeartbeats 0 in
theorem PySem.Challenge.cw_deedwright_k13_programs_read_holds : PySem.Challenge.rw_deedwright_k13_programs_read.Holds := by
  w_on; o_law; k_head; (case hw=>w_witness2)
  k_fill
  refine PI.walk_ofB (l:=PySem.Challenge.rw_deedwright_k13_programs_read) (k:=81) (c:=PI.callI K13.defs 81 30) (x:="_law_script") rfl rfl ⟨rfl,by decide,by decide⟩ (fun w h Y=>PySem.W.kIn_of Y) ?F ?S
  case F =>
    intro w mg fa h KX G hmg
    refine' K13.all_mk (l:=PySem.Challenge.rw_deedwright_k13_programs_read) (w:=w) KX G hmg ?a0 ?l0 ?c0 ?k0 ?a1 ?l1 ?c1 ?k1 ?a2 ?l2 ?c2 ?k2 ?a3 ?l3 ?c3 ?k3 ?a4 ?l4 ?c4 ?k4 ?a5 ?l5 ?c5 ?k5 ?a6 ?l6 ?c6 ?k6 ?a7 ?l7 ?c7 ?k7 ?a8 ?l8 ?c8 ?k8 ?a9 ?l9 ?c9 ?k9 ?a10 ?l10 ?c10 ?k10 ?a11 ?l11 ?c11 ?k11 ?a12 ?l12 ?c12 ?k12 ?a13 ?l13 ?c13 ?k13 ?a14 ?l14 ?c14 ?k14 ?a15 ?l15 ?c15 ?k15 ?a16 ?l16 ?c16 ?k16 ?a17 ?l17 ?c17 ?k17 ?a18 ?l18 ?c18 ?k18 ?a19 ?l19 ?c19 ?k19 ?a20 ?l20 ?c20 ?k20 ?a21 ?l21 ?c21 ?k21 ?a22 ?l22 ?c22 ?k22 ?a23 ?l23 ?c23 ?k23 ?a24 ?l24 ?c24 ?k24 ?a25 ?l25 ?c25 ?k25 ?a26 ?l26 ?c26 ?k26 ?a27 ?l27 ?c27 ?k27 ?a28 ?l28 ?c28 ?k28 ?a29 ?l29 ?c29 ?k29 ?a30 ?l30 ?c30 ?k30 ?z0 ?z1 ?z2 ?z3 ?z4 ?z5 ?z6 ?z7 ?z8 ?z9 ?z10 ?z11 ?z12 ?z13 ?z14 ?z15 ?z16 ?z17 ?z18 ?z19 ?ga0 ?ge0 ?ga1 ?ge1 ?ga2 ?ga3 ?ga4 ?ga5 ?ga6 ?gl6 ?ge6 ?ga7 ?ge7 ?ga8 ?ge8 ?ga9 ?ga10 ?ge10
    (case a0=>k_is)
    (case l0=>k_is)
    (case c0=>k_is)
    (case k0=>k_is)
    (case a1=>k_is)
    (case l1=>k_is)
    (case c1=>k_is)
    (case k1=>k_is)
    (case a2=>k_is)
    (case l2=>k_is)
    (case c2=>k_is)
    (case k2=>k_is)
    (case a3=>k_is)
    (case l3=>k_is)
    (case c3=>k_is)
    (case k3=>k_is)
    (case a4=>k_is)
    (case l4=>k_is)
    (case c4=>k_is)
    (case k4=>k_is)
    (case a5=>k_is)
    (case l5=>k_is)
    (case c5=>k_is)
    (case k5=>k_is)
    (case a6=>k_is)
    (case l6=>k_is)
    (case c6=>k_is)
    (case k6=>k_is)
    (case a7=>k_is)
    (case l7=>k_is)
    (case c7=>k_is)
    (case k7=>k_is)
    (case a8=>k_is)
    (case l8=>k_is)
    (case c8=>k_is)
    (case k8=>k_is)
    (case a9=>k_is)
    (case l9=>k_is)
    (case c9=>k_is)
    (case k9=>k_is)
    (case a10=>k_is)
    (case l10=>k_is)
    (case c10=>k_is)
    (case k10=>k_is)
    (case a11=>k_is)
    (case l11=>k_is)
    (case c11=>k_is)
    (case k11=>k_is)
    (case a12=>k_is)
    (case l12=>k_is)
    (case c12=>k_is)
    (case k12=>k_is)
    (case a13=>k_is)
    (case l13=>k_is)
    (case c13=>k_is)
    (case k13=>k_is)
    (case a14=>k_is)
    (case l14=>k_is)
    (case c14=>k_is)
    (case k14=>k_is)
    (case a15=>k_is)
    (case l15=>k_is)
    (case c15=>k_is)
    (case k15=>k_is)
    (case a16=>k_is)
    (case l16=>k_is)
    (case c16=>k_is)
    (case k16=>k_is)
    (case a17=>k_is)
    (case l17=>k_is)
    (case c17=>k_is)
    (case k17=>k_is)
    (case a18=>k_is)
    (case l18=>k_is)
    (case c18=>k_is)
    (case k18=>k_is)
    (case a19=>k_is)
    (case l19=>k_is)
    (case c19=>k_is)
    (case k19=>k_is)
    (case a20=>k_is)
    (case l20=>k_is)
    (case c20=>k_is)
    (case k20=>k_is)
    (case a21=>k_is)
    (case l21=>k_is)
    (case c21=>k_is)
    (case k21=>k_is)
    (case a22=>k_is)
    (case l22=>k_is)
    (case c22=>k_is)
    (case k22=>k_is)
    (case a23=>k_is)
    (case l23=>k_is)
    (case c23=>k_is)
    (case k23=>k_is)
    (case a24=>k_is)
    (case l24=>k_is)
    (case c24=>k_is)
    (case k24=>k_is)
    (case a25=>k_is)
    (case l25=>k_is)
    (case c25=>k_is)
    (case k25=>k_is)
    (case a26=>k_is)
    (case l26=>k_is)
    (case c26=>k_is)
    (case k26=>k_is)
    (case a27=>k_is)
    (case l27=>k_is)
    (case c27=>k_is)
    (case k27=>k_is)
    (case a28=>k_is)
    (case l28=>k_is)
    (case c28=>k_is)
    (case k28=>k_is)
    (case a29=>k_is)
    (case l29=>k_is)
    (case c29=>k_is)
    (case k29=>k_is)
    (case a30=>k_is)
    (case l30=>k_is)
    (case c30=>k_is)
    (case k30=>k_is)
    (case z0=>k_is)
    (case z1=>k_is)
    (case z2=>k_is)
    (case z3=>k_is)
    (case z4=>k_is)
    (case z5=>k_is)
    (case z6=>k_is)
    (case z7=>k_is)
    (case z8=>k_is)
    (case z9=>k_is)
    (case z10=>k_is)
    (case z11=>k_is)
    (case z12=>k_is)
    (case z13=>k_is)
    (case z14=>k_is)
    (case z15=>k_is)
    (case z16=>k_is)
    (case z17=>k_is)
    (case z18=>k_is)
    (case z19=>k_is)
    (case ga0=>k_is)
    (case ge0=>(refine' PI.tupK_mk ?hk ?h4 ?h5; (case hk=>k_is); (case h4=>decide); (case h5=>(show L2.Vals _ (List.toArray _).toList; exact .cons ⟨_,rfl⟩ (.cons ⟨_,rfl⟩ (.cons ⟨_,rfl⟩ (.cons ⟨_,rfl⟩ (.cons ⟨_,rfl⟩ (.cons ⟨_,rfl⟩ (.cons ⟨_,rfl⟩ (.cons ⟨_,rfl⟩ (.cons ⟨_,rfl⟩ (.cons ⟨_,rfl⟩ (.cons ⟨_,rfl⟩ (.cons ⟨_,rfl⟩ (.nil))))))))))))))))
    (case ga1=>k_is)
    (case ge1=>(refine' PI.tupK_mk ?hk ?h4 ?h5; (case hk=>k_is); (case h4=>decide); (case h5=>(show L2.Vals _ (List.toArray _).toList; exact .cons ⟨_,rfl⟩ (.cons ⟨_,rfl⟩ (.cons ⟨_,rfl⟩ (.cons ⟨_,rfl⟩ (.nil))))))))
    (case ga2=>k_is)
    (case ga3=>k_is)
    (case ga4=>k_is)
    (case ga5=>k_is)
    (case ga6=>k_is)
    (case gl6=>k_is)
    (case ge6=>(refine ⟨⟨rfl,⟨_,rfl⟩,?hx⟩,?hr⟩; (case hx=>(refine ⟨_,rfl,?ht⟩; (case ht=>(refine' PI.tupK_mk ?hk ?h4 ?h5; (case hk=>k_is); (case h4=>decide); (case h5=>(show L2.Vals _ (List.toArray _).toList; exact .cons ⟨_,rfl⟩ (.nil))))))); (case hr=>(refine ⟨⟨rfl,⟨_,rfl⟩,?hx⟩,?hr⟩; (case hx=>(refine ⟨_,rfl,?ht⟩; (case ht=>(refine' PI.tupK_mk ?hk ?h4 ?h5; (case hk=>k_is); (case h4=>decide); (case h5=>(show L2.Vals _ (List.toArray _).toList; exact .cons ⟨_,rfl⟩ (.nil))))))); (case hr=>(refine ⟨⟨rfl,⟨_,rfl⟩,?hx⟩,?hr⟩; (case hx=>(refine ⟨_,rfl,?ht⟩; (case ht=>(refine' PI.tupK_mk ?hk ?h4 ?h5; (case hk=>k_is); (case h4=>decide); (case h5=>(show L2.Vals _ (List.toArray _).toList; exact .cons ⟨_,rfl⟩ (.cons ⟨_,rfl⟩ (.cons ⟨_,rfl⟩ (.nil))))))))); (case hr=>(refine ⟨⟨rfl,⟨_,rfl⟩,?hx⟩,?hr⟩; (case hx=>(refine ⟨_,rfl,?ht⟩; (case ht=>(refine' PI.tupK_mk ?hk ?h4 ?h5; (case hk=>k_is); (case h4=>decide); (case h5=>(show L2.Vals _ (List.toArray _).toList; exact .cons ⟨_,rfl⟩ (.cons ⟨_,rfl⟩ (.cons ⟨_,rfl⟩ (.nil))))))))); (case hr=>(refine ⟨⟨rfl,⟨_,rfl⟩,?hx⟩,?hr⟩; (case hx=>(refine ⟨_,rfl,?ht⟩; (case ht=>(refine' PI.tupK_mk ?hk ?h4 ?h5; (case hk=>k_is); (case h4=>decide); (case h5=>(show L2.Vals _ (List.toArray _).toList; exact .cons ⟨_,rfl⟩ (.cons ⟨_,rfl⟩ (.cons ⟨_,rfl⟩ (.nil))))))))); (case hr=>(refine ⟨⟨rfl,⟨_,rfl⟩,?hx⟩,?hr⟩; (case hx=>(refine ⟨_,rfl,?ht⟩; (case ht=>(refine' PI.tupK_mk ?hk ?h4 ?h5; (case hk=>k_is); (case h4=>decide); (case h5=>(show L2.Vals _ (List.toArray _).toList; exact .cons ⟨_,rfl⟩ (.cons ⟨_,rfl⟩ (.cons ⟨_,rfl⟩ (.nil))))))))); (case hr=>(refine ⟨⟨rfl,⟨_,rfl⟩,?hx⟩,?hr⟩; (case hx=>(refine ⟨_,rfl,?ht⟩; (case ht=>(refine' PI.tupK_mk ?hk ?h4 ?h5; (case hk=>k_is); (case h4=>decide); (case h5=>(show L2.Vals _ (List.toArray _).toList; exact .cons ⟨_,rfl⟩ (.cons ⟨_,rfl⟩ (.nil)))))))); (case hr=>(refine ⟨⟨rfl,⟨_,rfl⟩,?hx⟩,?hr⟩; (case hx=>(refine ⟨_,rfl,?ht⟩; (case ht=>(refine' PI.tupK_mk ?hk ?h4 ?h5; (case hk=>k_is); (case h4=>decide); (case h5=>(show L2.Vals _ (List.toArray _).toList; exact .cons ⟨_,rfl⟩ (.cons ⟨_,rfl⟩ (.cons ⟨_,rfl⟩ (.nil))))))))); (case hr=>(refine ⟨⟨rfl,⟨_,rfl⟩,?hx⟩,?hr⟩; (case hx=>(refine ⟨_,rfl,?ht⟩; (case ht=>(refine' PI.tupK_mk ?hk ?h4 ?h5; (case hk=>k_is); (case h4=>decide); (case h5=>(show L2.Vals _ (List.toArray _).toList; exact .cons ⟨_,rfl⟩ (.cons ⟨_,rfl⟩ (.nil)))))))); (case hr=>(refine ⟨⟨rfl,⟨_,rfl⟩,?hx⟩,?hr⟩; (case hx=>(refine ⟨_,rfl,?ht⟩; (case ht=>(refine' PI.tupK_mk ?hk ?h4 ?h5; (case hk=>k_is); (case h4=>decide); (case h5=>(show L2.Vals _ (List.toArray _).toList; exact .cons ⟨_,rfl⟩ (.cons ⟨_,rfl⟩ (.nil)))))))); (case hr=>exact trivial)))))))))))))))))))))
    (case ga7=>k_is)
    (case ge7=>(refine' PI.tupK_mk ?hk ?h4 ?h5; (case hk=>k_is); (case h4=>decide); (case h5=>(show L2.Vals _ (List.toArray _).toList; exact .cons ⟨_,rfl⟩ (.cons ⟨_,rfl⟩ (.cons ⟨_,rfl⟩ (.cons ⟨_,rfl⟩ (.nil))))))))
    (case ga8=>k_is)
    (case ge8=>(refine' PI.tupK_mk ?hk ?h4 ?h5; (case hk=>k_is); (case h4=>decide); (case h5=>(show L2.Vals _ (List.toArray _).toList; exact .cons ⟨_,rfl⟩ (.cons ⟨_,rfl⟩ (.cons ⟨_,rfl⟩ (.nil)))))))
    (case ga9=>k_is)
    (case ga10=>k_is)
    (case ge10=>(refine' PI.tupK_mk ?hk ?h4 ?h5; (case hk=>k_is); (case h4=>decide); (case h5=>(show L2.Vals _ (List.toArray _).toList; exact .cons ⟨_,rfl⟩ (.cons ⟨_,rfl⟩ (.cons ⟨_,rfl⟩ (.cons ⟨_,rfl⟩ (.cons ⟨_,rfl⟩ (.cons ⟨_,rfl⟩ (.nil))))))))))
  case S =>
    exact fun ns _ hb=>K13.law_true ns fun n hn=>decide_eq_true (hb n hn)
#print axioms PySem.Challenge.cw_deedwright_k13_programs_read_holds
