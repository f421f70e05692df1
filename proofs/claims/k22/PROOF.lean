import PyProof.Rows.All
import Wide.All
import OpenK.AllK
import Wide.FinOn
import Lean
import PyProof.EqAt
import PyProof.EqKinds
import PyProof.TupleCall
import KE.KIntText
import PyProof.NeKinds
import PyProof.FString4
import PyProof.StrLawsRepr
import PyProof.ZipIter
import PyProof.TupleIter
import KE.KRevIter
import KE.KDictOf
import PyProof.AttrMissHeap
import KE.KItemsList
import PyProof.EnumIter
import PyProof.EnumMake
import PyProof.EnumFor
import PyProof.Rows.SortStr
import PyProof.Rows.SetFrom
import PyProof.DictKinds
import PyProof.StrLawsTight
import PySem.Challenge.RW_deedwright_k22_deeds_of_a_program
set_option Elab.async false
set_option linter.all false
set_option maxRecDepth 100000
namespace L2
open PySem PySem.Spec PyProof.Rows
noncomputable abbrev Key:=Sum Int Str
noncomputable def keyIs:Key->Value->Bool
  | .inl k,v=>Value.isInt k v
  | .inr x,v=>Value.isStrOf x v
noncomputable def keyH (w:World):Key->Int
  | .inl k=>hashInt k
  | .inr x=>hashStr w x
theorem keyIs_shape:∀ {k:Key} {v:Value},keyIs k v=true->(∃ i t,k=Sum.inl i /\ v=Value.int i t) \/ (∃ x t,k=Sum.inr x /\ v=Value.str x t)
  | .inl i,v,h=>by
    obtain ⟨t,e⟩:=Value.isInt_shape (k:=i) (v:=v) h
    exact .inl ⟨i,t,rfl,e⟩
  | .inr x,v,h=>by
    obtain ⟨t,e⟩:=Value.isStrOf_shape (x:=x) (v:=v) h
    exact .inr ⟨x,t,rfl,e⟩
theorem keyIs_int (i:Int) (t:Tok):keyIs (.inl i) (.int i t)=true:=by simp [keyIs,Value.isInt]
theorem keyIs_str (x:Str) (t:Tok):keyIs (.inr x) (.str x t)=true:=by simp [keyIs,Value.isStrOf]
theorem key_ll (a b:Int):decide ((Sum.inl a:Key)=Sum.inl b)=(a == b):=by
  by_cases e:a=b
  · subst e; simp
  · have h:¬ (Sum.inl a:Key)=Sum.inl b:=fun q=>e (Sum.inl.inj q)
    rw [decide_eq_false h]
    exact (beq_eq_false_iff_ne.mpr e).symm
theorem key_rr (a b:Str):decide ((Sum.inr a:Key)=Sum.inr b)=decide (a=b):=by
  by_cases e:a=b
  · subst e; simp
  · have h:¬ (Sum.inr a:Key)=Sum.inr b:=fun q=>e (Sum.inr.inj q)
    rw [decide_eq_false h,decide_eq_false e]
theorem key_lr (a:Int) (b:Str):decide ((Sum.inl a:Key)=Sum.inr b)=false:=decide_eq_false (fun q=>nomatch q)
theorem key_rl (a:Str) (b:Int):decide ((Sum.inr a:Key)=Sum.inl b)=false:=decide_eq_false (fun q=>nomatch q)
noncomputable def mixKind (prog:Program) (w:World):PySem.KeyKind prog w Key where
  is:=keyIs
  hash:=keyH w
  inj:=fun v a b ha hb=>by
    rcases keyIs_shape ha with ⟨i,t,rfl,rfl⟩ | ⟨x,t,rfl,rfl⟩
    · rcases keyIs_shape hb with ⟨j,u,rfl,e⟩ | ⟨y,u,rfl,e⟩
      · injection e with e1 _; rw [e1]
      · exact nomatch e
    · rcases keyIs_shape hb with ⟨j,u,rfl,e⟩ | ⟨y,u,rfl,e⟩
      · exact nomatch e
      · injection e with e1 _; rw [e1]
  byValue:=fun k v h=>by
    rcases keyIs_shape h with ⟨i,t,rfl,rfl⟩ | ⟨x,t,rfl,rfl⟩ <;> rfl
  pyHash:=fun hv h=>by
    rcases keyIs_shape hv with ⟨i,t,rfl,rfl⟩ | ⟨x,t,rfl,rfl⟩
    · exact wpAny_pyHash_int h
    · exact wpAny_pyHash_str h
  eqBool:=fun hu hv h=>by
    rcases keyIs_shape hu with ⟨i,t,rfl,rfl⟩ | ⟨x,t,rfl,rfl⟩
    · rcases keyIs_shape hv with ⟨j,u,rfl,rfl⟩ | ⟨y,u,rfl,rfl⟩
      · rw [key_ll] at h; exact wpAny_eqBool_int h
      · rw [key_lr] at h; exact SeqAt.EqAt.int_str i t y u _ _ _ _ h
    · rcases keyIs_shape hv with ⟨j,u,rfl,rfl⟩ | ⟨y,u,rfl,rfl⟩
      · rw [key_rl] at h; exact SeqAt.EqAt.str_int x t j u _ _ _ _ h
      · rw [key_rr] at h; exact wpAny_eqBool_str h
  «strs»:=fun k x t v h=>by
    rcases keyIs_shape h with ⟨i,u,rfl,e⟩ | ⟨y,u,rfl,e⟩
    · exact nomatch e
    · injection e with e1 _
      subst e1
      cases v <;> rfl
theorem mixKind_int (prog:Program) (w:World) (i:Int) (t:Tok):(mixKind prog w).is (.inl i) (.int i t)=true:=keyIs_int i t
theorem mixKind_str (prog:Program) (w:World) (x:Str) (t:Tok):(mixKind prog w).is (.inr x) (.str x t)=true:=keyIs_str x t
end L2
namespace L2
open PySem PySem.Spec PyProof.Rows
inductive V where
  | non | bl (b:Bool) | int (i:Int) | str (x:Str) | byt (b:Array UInt8) | flt (b:UInt64) | ref (a:Addr) | ty (n:String)
  deriving DecidableEq
noncomputable def RelV:V->Value->Prop
  | .non,u=>u=Value.none
  | .bl b,u=>u=Value.bool b
  | .int i,u=>∃ t,u=Value.int i t
  | .str x,u=>∃ t,u=Value.str x t
  | .byt b,u=>∃ t,u=Value.bytes b t
  | .flt b,u=>∃ t,u=Value.float b t
  | .ref a,u=>u=Value.ref a
  | .ty n,u=>u=Value.type n
noncomputable abbrev Vals:List V->List Value->Prop:=Paired RelV
theorem Vals.length {xs:List V} {us:List Value} (r:Vals xs us):xs.length=us.length:=Paired.length r
theorem Vals.get:∀ {xs:List V} {us:List Value} {i:Nat} {x:V},Vals xs us->xs[i]?=some x->∃ u,us[i]?=some u /\ RelV x u
  | _,_,_,_,.nil,e=>by simp at e
  | _,_,0,_,.cons r _,e=>by simp at e; subst e; exact ⟨_,rfl,r⟩
  | _,_,i + 1,x,.cons _ t,e=>by
    obtain ⟨u,h1,h2⟩:=Vals.get (i:=i) (x:=x) t (by simpa using e)
    exact ⟨u,by simpa using h1,h2⟩
theorem Vals.set {x:V} {u:Value} (r:RelV x u):∀ {xs:List V} {us:List Value} (i:Nat),Vals xs us->Vals (xs.set i x) (us.set i u)
  | _,_,_,.nil=>.nil
  | _,_,0,.cons _ t=>.cons r t
  | _,_,i + 1,.cons q t=>.cons q (Vals.set r i t)
theorem Vals.append:∀ {xs ys:List V} {us ws:List Value},Vals xs us->Vals ys ws->Vals (xs ++ ys) (us ++ ws)
  | _,_,_,_,.nil,s=>s
  | _,_,_,_,.cons r t,s=>.cons r (Vals.append t s)
theorem Vals.take:∀ {xs:List V} {us:List Value} (n:Nat),Vals xs us->Vals (xs.take n) (us.take n)
  | _,_,0,_=>.nil
  | _,_,_ + 1,.nil=>.nil
  | _,_,n + 1,.cons r t=>.cons r (Vals.take n t)
theorem Vals.drop:∀ {xs:List V} {us:List Value} (n:Nat),Vals xs us->Vals (xs.drop n) (us.drop n)
  | _,_,0,r=>r
  | _,_,_ + 1,.nil=>.nil
  | _,_,n + 1,.cons _ t=>Vals.drop n t
noncomputable def RelO:Option V->Option Value->Prop
  | some v,some u=>RelV v u
  | none,none=>True
  | _,_=>False
noncomputable def KV {κ:Type}:List (κ × V)->List (κ × Value)->Prop:=Paired fun (p:κ × V) (q:κ × Value)=>p.1=q.1 /\ RelV p.2 q.2
noncomputable def kV:Key->V
  | .inl i=>.int i
  | .inr x=>.str x
inductive HO where
  | lst (xs:List V)
  | tup (xs:List V)
  | dK (kvs:List (Key × V)) | dT (kvs:List (List Key × V))
  | set (S:Int->Bool) (n:Nat)
  | ins (C dx:Addr) (fs:List (Str × V))
  | own (x:Addr)
  | xd (fs:List (Str × V))
  | met (f x:Addr)
  | rng (lo hi:Int)
  | frz (o:Obj) (u:HO)
  | tbl (ps:Array Value)
  | ext (φ:Heap->Prop)
noncomputable abbrev Hp:=Addr->Option HO
noncomputable def upd (H:Hp) (a:Addr) (o:HO):Hp:=fun b=>if b=a then some o else H b
theorem upd_same {H:Hp} {a:Addr} {o:HO}:upd H a o a=some o:=by unfold upd; rw [if_pos rfl]
theorem upd_ne {H:Hp} {a b:Addr} {o:HO} (h:b ≠ a):upd H a o b=H b:=by unfold upd; rw [if_neg h]
theorem ne_of {H:Hp} {a b:Addr} {o u:HO} (h:H a=some o) (h':H b=some u) (d:o ≠ u):a ≠ b:=by
  intro e; subst e; rw [h] at h'; exact d (Option.some.inj h')
theorem ne_of_none {H:Hp} {a b:Addr} {o:HO} (h:H a=some o) (h':H b=none):a ≠ b:=by
  intro e; subst e; rw [h] at h'; cases h'
section
variable (P:Program) (w:World)
noncomputable def ObjOk (H:Hp) (h:Heap) (a:Addr):HO->Prop
  | .lst xs=>xs.length<=sizeLine /\ ∃ (its:List Value) (n:Nat),Vals xs its /\ h.get? a=some { cls:=.type "list",data:=.seq its.toArray n }
  | .tup xs=>xs.length<=sizeLine /\ ∃ its:List Value,Vals xs its /\ IsTup h a its.toArray
  | .dK kvs=>kvs.length<=sizeLine /\ (a == sysModules)=false /\ ∃ vs,KV kvs vs /\ h.DictOf (mixKind P w) a vs
  | .dT kvs=>kvs.length<=sizeLine /\ (a == sysModules)=false /\ ∃ xs:List (List Key × Addr × Value),
      Paired (fun (p:List Key × V) (q:List Key × Addr × Value)=>p.1=q.1 /\ H q.2.1=some (.tup (p.1.map kV)) /\ RelV p.2 q.2.2) kvs xs /\
      ∃ o es ep,h.get? a=some o /\ o.ExactDict /\ o.data=.dict es ep /\ es.toList=xs.map (entryOfKey (tupleKind (mixKind P w))) /\ (xs.map (·.1)).Nodup
  | .set S n=>h.SetOf (intKind P w) a S n
  | .ins C dx fs=>H dx=some (.own a) /\ fs.length<=1000 /\ dx ≠ a /\ h.get? a=some (PySem.W.instObj C dx) /\
      ∃ mA,h.Ns1 dx mA /\ (∀ f,RelO (fs.lookup f) (mA f)) /\ PySem.Within mA (fs.map (·.1))
  | .own _=>∃ o,h.get? a=some o
  | .xd fs=>∃ mA,h.Ns1 a mA /\ ∀ f,RelO (fs.lookup f) (mA f)
  | .rng lo hi=>∃ t u v,h.get? a=some { cls:=.type "range",data:=.fields #[.int lo t,.int hi u,.int 1 v] }
  | .frz o u=>h.get? a=some o /\ ObjOk H h a u
  | .tbl ps=>h.get? a=some { cls:=.none,data:=.fields ps }
  | .met f x=>h.get? a=some (PySem.W.methodObj (.ref f) (.ref x))
  | .ext φ=>φ h /\ (∃ o,h.get? a=some o) /\ ∀ h1 h2:Heap,φ h1->(∀ o,h1.get? a=some o->h2.get? a=some o)->φ h2
noncomputable def HOk (H:Hp) (h:Heap):Prop:=∀ a o,H a=some o->ObjOk P w H h a o
end
section
variable {P:Program} {w:World} {H H':Hp} {h h':Heap} {a:Addr} {o:HO}
theorem ObjOk.lt (x:ObjOk P w H h a o):a < h.objs.size:=by
  cases o with
  | lst xs=>obtain ⟨_,_,_,_,e⟩:=x; exact Heap.lt_size e
  | tup xs=>obtain ⟨_,_,_,p⟩:=x; exact p.lt
  | dK kvs=>obtain ⟨_,_,_,_,o,_,_,e,_⟩:=x; exact Heap.lt_size e
  | dT kvs=>obtain ⟨_,_,_,_,o,_,_,e,_⟩:=x; exact Heap.lt_size e
  | set S n=>obtain ⟨o,_,_,_,e,_⟩:=x; exact Heap.lt_size e
  | ins C dx fs=>obtain ⟨_,_,_,e,_⟩:=x; exact Heap.lt_size e
  | own y=>obtain ⟨_,e⟩:=x; exact Heap.lt_size e
  | xd fs=>obtain ⟨_,⟨_,_,_,e,_⟩,_⟩:=x; exact Heap.lt_size e
  | rng lo hi=>obtain ⟨_,_,_,e⟩:=x; exact Heap.lt_size e
  | frz ob u=>obtain ⟨e,_⟩:=x; exact Heap.lt_size e
  | tbl ps=>exact Heap.lt_size (show h.get? a=some _ from x)
  | met f y=>exact Heap.lt_size (show h.get? a=some _ from x)
  | ext φ=>obtain ⟨_,⟨_,e⟩,_⟩:=x; exact Heap.lt_size e
theorem Paired.mapP {α β:Type} {F G:α->β->Prop}:∀ {l₁:List α} {l₂:List β},Paired F l₁ l₂->(∀ a b,F a b->G a b)->Paired G l₁ l₂
  | _,_,.nil,_=>.nil
  | _,_,.cons r t,f=>.cons (f _ _ r) (Paired.mapP t f)
theorem ObjOk.stay (x:ObjOk P w H h a o) (k:∀ b u,(b=a \/ H b=some (.own a))->h.get? b=some u->h'.get? b=some u)
    (ho:∀ b,H b=some (.own a)->H' b=some (.own a)) (ht:∀ b xs,H b=some (.tup xs)->H' b=some (.tup xs)):ObjOk P w H' h' a o:=by
  induction o with
  | lst xs=>obtain ⟨z,its,n,r,e⟩:=x; exact ⟨z,its,n,r,k _ _ (.inl rfl) e⟩
  | tup xs=>obtain ⟨z,its,r,ob,e,c⟩:=x; exact ⟨z,its,r,ob,k _ _ (.inl rfl) e,c⟩
  | dK kvs=>obtain ⟨z,y,vs,r,ob,es,ep,e,c⟩:=x; exact ⟨z,y,vs,r,ob,es,ep,k _ _ (.inl rfl) e,c⟩
  | dT kvs =>
    obtain ⟨z,y,xs,r,ob,es,ep,e,c⟩:=x
    exact ⟨z,y,xs,Paired.mapP r fun p q z=>⟨z.1,ht _ _ z.2.1,z.2.2⟩,ob,es,ep,k _ _ (.inl rfl) e,c⟩
  | set S n=>obtain ⟨ob,es,ep,t,e,c⟩:=x; exact ⟨ob,es,ep,t,k _ _ (.inl rfl) e,c⟩
  | ins C dx fs =>
    obtain ⟨d,z,ne,e,mA,⟨od,es,ep,e2,c⟩,r⟩:=x
    exact ⟨ho _ d,z,ne,k _ _ (.inl rfl) e,mA,⟨od,es,ep,k _ _ (.inr d) e2,c⟩,r⟩
  | own y=>obtain ⟨ob,e⟩:=x; exact ⟨ob,k _ _ (.inl rfl) e⟩
  | xd fs=>obtain ⟨mA,⟨od,es,ep,e,c⟩,r⟩:=x; exact ⟨mA,⟨od,es,ep,k _ _ (.inl rfl) e,c⟩,r⟩
  | rng lo hi=>obtain ⟨t,u,v,e⟩:=x; exact ⟨t,u,v,k _ _ (.inl rfl) e⟩
  | frz ob u ih=>obtain ⟨e,q⟩:=x; exact ⟨k _ _ (.inl rfl) e,ih q⟩
  | tbl ps =>
    have e:h.get? a=some { cls:=.none,data:=.fields ps }:=x
    show h'.get? a=some { cls:=.none,data:=.fields ps }
    exact k a _ (.inl rfl) e
  | met f y =>
    have e:h.get? a=some (PySem.W.methodObj (.ref f) (.ref y)):=x
    show h'.get? a=some (PySem.W.methodObj (.ref f) (.ref y))
    exact k a _ (.inl rfl) e
  | ext φ=>obtain ⟨p,⟨o,e⟩,st⟩:=x; exact ⟨st _ _ p fun o q=>k _ _ (.inl rfl) q,⟨o,k _ _ (.inl rfl) e⟩,st⟩
theorem HOk.lt (x:HOk P w H h) (e:H a=some o):a < h.objs.size:=(x a o e).lt
theorem HOk.fresh (x:HOk P w H h) (e:h.objs.size<=a):H a=none:=by
  cases q:H a with
  | none=>rfl
  | some u=>exact absurd (Nat.lt_of_lt_of_le (x.lt q) e) (Nat.lt_irrefl _)
theorem HOk.kept (x:HOk P w H h) (k:∀ b u,h.get? b=some u->h'.get? b=some u):HOk P w H h':=fun a o e =>
  (x a o e).stay (fun b u _ q=>k b u q) (fun _ q=>q) fun _ _ q=>q
theorem HOk.laid (x:HOk P w H h) (k:∀ b u,h.get? b=some u->h'.get? b=some u) (hp:h.objs.size<=a) (new:ObjOk P w (upd H a o) h' a o):HOk P w (upd H a o) h':=fun b u e=>by
  have hn:=x.fresh hp
  by_cases hb:b=a
  · subst hb; rw [upd_same] at e; cases e; exact new
  · rw [upd_ne hb] at e
    exact (x b u e).stay (fun c v _ q=>k c v q) (fun c q=>by rw [upd_ne (ne_of_none q hn)]; exact q) fun c xs q=>by rw [upd_ne (ne_of_none q hn)]; exact q
end
noncomputable def Rd (H:Hp) (a:Addr) (u:HO):Prop:=H a=some u \/ ∃ o,H a=some (.frz o u)
theorem Rd.of {H:Hp} {a:Addr} {u:HO} (h:H a=some u):Rd H a u:=.inl h
theorem Rd.ok {P:Program} {w:World} {H:Hp} {h:Heap} {a:Addr} {u:HO} (r:Rd H a u) (x:HOk P w H h):ObjOk P w H h a u:=by
  rcases r with r | ⟨o,r⟩
  · exact x a u r
  · obtain ⟨_,q⟩:=x a _ r
    exact q
noncomputable def Mut:Option HO->Prop
  | some (.lst _)=>True
  | some (.dK _)=>True
  | some (.dT _)=>True
  | some (.set _ _)=>True
  | some (.ins _ _ _)=>True
  | some (.ext _)=>True
  | _=>False
section
variable {P:Program} {w:World} {H:Hp} {h h':Heap} {x e:Addr} {o':HO}
theorem HOk.write (ok:HOk P w H h) (mu:Mut (H x)) (he:e=x \/ H e=some (.own x)) (k:∀ b u,b ≠ e->h.get? b=some u->h'.get? b=some u) (heo:∃ u,h'.get? e=some u)
    (new:ObjOk P w (upd H x o') h' x o'):HOk P w (upd H x o') h':=fun b u q=>by
  have nown:∀ c y,H c=some (.own y)->c ≠ x:=fun c y r z=>by subst z; rw [r] at mu; exact mu
  have ntup:∀ c xs,H c=some (.tup xs)->c ≠ x:=fun c xs r z=>by subst z; rw [r] at mu; exact mu
  by_cases hb:b=x
  · subst hb; rw [upd_same] at q; cases q; exact new
  · rw [upd_ne hb] at q
    by_cases hbe:b=e
    · have q':H b=some (.own x):=by
        rcases he with z | z
        · exact absurd (hbe.trans z) hb
        · rw [hbe]; exact z
      rw [q] at q'; cases q'
      obtain ⟨v,hv⟩:=heo
      exact ⟨v,by rw [hbe]; exact hv⟩
    · refine (ok b u q).stay (fun c v hc r=>k c v ?_ r) (fun c r=>by rw [upd_ne (nown c b r)]; exact r) fun c xs r=>by rw [upd_ne (ntup c xs r)]; exact r
      rcases hc with rfl | hc
      · exact hbe
      · rintro rfl
        rcases he with z | z
        · exact nown c b hc z
        · rw [hc] at z; cases z; exact hb rfl
end
structure Un (fs ex:List Addr) (H H':Hp) (h h':Heap):Prop where
  keep:∀ b o,h.get? b=some o->H b=none->b ∉ fs->b ∉ ex->h'.get? b=some o
  slot:∀ b o,h.get? b=some o->H b=none->b ∈ fs->b ∉ ex->∃ sl,h'.get? b=some { o with slots:=sl }
  free:∀ b o,h.get? b=some o->H b=none->b ∉ ex->H' b=none
  there:∀ b o,h.get? b=some o->b ∉ ex->∃ o',h'.get? b=some o'
  tups:∀ b xs,H b=some (.tup xs)->H' b=some (.tup xs)
  frzs:∀ b o u,H b=some (.frz o u)->H' b=some (.frz o u)
  tbls:∀ b ps,H b=some (.tbl ps)->∃ more,H' b=some (.tbl (ps ++ more))
section
variable {fs fs' ex ex':List Addr} {H H1 H2:Hp} {h h1 h2 h':Heap} {a x e:Addr} {o:HO}
theorem Un.any (u:Un fs ex H H1 h h1) {b:Addr} {ob:Obj} (q:h.get? b=some ob) (n:H b=none) (hx:b ∉ ex):∃ sl,h1.get? b=some { ob with slots:=sl }:=by
  by_cases hb:b ∈ fs
  · exact u.slot b ob q n hb hx
  · exact ⟨ob.slots,u.keep b ob q n hb hx⟩
theorem Un.trans (a:Un fs ex H H1 h h1) (b:Un fs ex H1 H2 h1 h2):Un fs ex H H2 h h2 where
  keep:=fun c ob q n hc hx=>b.keep c ob (a.keep c ob q n hc hx) (a.free c ob q n hx) hc hx
  slot:=fun c ob q n hc hx=>by
    obtain ⟨sl,e1⟩:=a.slot c ob q n hc hx
    obtain ⟨sl',e2⟩:=b.slot c _ e1 (a.free c ob q n hx) hc hx
    exact ⟨sl',e2⟩
  free:=fun c ob q n hx=>by
    obtain ⟨o',e1⟩:=a.there c ob q hx
    exact b.free c o' e1 (a.free c ob q n hx) hx
  there:=fun c ob q hx=>by
    obtain ⟨o',e1⟩:=a.there c ob q hx
    exact b.there c o' e1 hx
  tups:=fun c xs q=>b.tups c xs (a.tups c xs q)
  frzs:=fun c ob xs q=>b.frzs c ob xs (a.frzs c ob xs q)
  tbls:=fun c ps q=>by
    obtain ⟨m1,e1⟩:=a.tbls c ps q
    obtain ⟨m2,e2⟩:=b.tbls c _ e1
    exact ⟨m1 ++ m2,by rw [e2,Array.append_assoc]⟩
theorem Un.kept (k:∀ b u,h.get? b=some u->h'.get? b=some u):Un fs ex H H h h' :=
  ⟨fun b ob q _ _ _=>k b ob q,fun b ob q _ _ _=>⟨ob.slots,k b ob q⟩,fun _ _ _ n _=>n,fun b ob q _=>⟨ob,k b ob q⟩,fun _ _ q=>q,fun _ _ _ q=>q,fun _ ps q=>⟨#[],by rw [q]; simp⟩⟩
theorem Un.refl:Un fs ex H H h h:=Un.kept fun _ _ q=>q
theorem Un.laid (k:∀ b u,h.get? b=some u->h'.get? b=some u) (hp:h.objs.size<=a) (hn:H a=none):Un fs ex H (upd H a o) h h' where
  keep:=fun b u q _ _ _=>k b u q
  slot:=fun b u q _ _ _=>⟨u.slots,k b u q⟩
  free:=fun b u q n _=>by rw [upd_ne (Nat.ne_of_lt (Nat.lt_of_lt_of_le (Heap.lt_size q) hp))]; exact n
  there:=fun b u q _=>⟨u,k b u q⟩
  tups:=fun b xs q=>by rw [upd_ne (ne_of_none q hn)]; exact q
  frzs:=fun b u xs q=>by rw [upd_ne (ne_of_none q hn)]; exact q
  tbls:=fun b ps q=>⟨#[],by rw [upd_ne (ne_of_none q hn),q]; simp⟩
theorem Un.write (mu:Mut (H x)) (he:e=x \/ H e=some (.own x)) (k:∀ b u,b ≠ e->h.get? b=some u->h'.get? b=some u) (heo:∃ u,h'.get? e=some u):Un fs ex H (upd H x o) h h':=by
  have hx:∀ b,H b=none->b ≠ x:=fun b n z=>by subst z; rw [n] at mu; exact mu
  have hb:∀ b,H b=none->b ≠ e:=fun b n z=>by
    subst z
    rcases he with r | r
    · exact hx b n r
    · rw [n] at r; cases r
  have hm:∀ b u,H b=some u->¬ Mut (some u)->b ≠ x:=fun b u q nm z=>by subst z; rw [q] at mu; exact nm mu
  refine ⟨fun b u q n _ _=>k b u (hb b n) q,fun b u q n _ _=>⟨u.slots,k b u (hb b n) q⟩,fun b u q n _=>by rw [upd_ne (hx b n)]; exact n,fun b u q _=>?_,
    fun b xs q=>by rw [upd_ne (hm b _ q fun z=>z)]; exact q,fun b u xs q=>by rw [upd_ne (hm b _ q fun z=>z)]; exact q,fun b ps q=>⟨#[],by rw [upd_ne (hm b _ q fun z=>z),q]; simp⟩⟩
  by_cases hbe:b=e
  · subst hbe; exact heo
  · exact ⟨u,k b u hbe q⟩
theorem Un.mono (u:Un fs ex H H1 h h1) (hs:∀ b ∈ fs,b ∈ fs') (hx:∀ b ∈ ex,b ∈ ex'):Un fs' ex' H H1 h h1 :=
  ⟨fun b ob q n hb he=>u.keep b ob q n (fun z=>hb (hs b z)) fun z=>he (hx b z),fun _ _ q n _ he=>u.any q n fun z=>he (hx _ z),fun b ob q n he=>u.free b ob q n fun z=>he (hx b z),fun b ob q he=>u.there b ob q fun z=>he (hx b z),u.tups,u.frzs,u.tbls⟩
end
noncomputable def trk (h:Heap) (H:Hp):List Addr:=(List.range h.objs.size).filter fun a=>(H a).isSome
noncomputable def hidT (h:Heap) (H:Hp):Heap:=PySem.W.hideAll h (trk h H)
theorem hidT_size (h:Heap) (H:Hp):(hidT h H).objs.size=h.objs.size:=PySem.W.hideAll_size _ _
theorem hidT_get {h:Heap} {H:Hp} {b:Addr} {o:Obj} (e:h.get? b=some o) (n:H b=none):(hidT h H).get? b=some o :=
  PySem.W.hideAll_get _ e fun hm=>by
    have q:(H b).isSome=true:=(List.mem_filter.mp hm).2
    rw [n] at q; simp at q
theorem of_hidT {h:Heap} {H:Hp} {b:Addr} {o:Obj} (e:(hidT h H).get? b=some o):h.get? b=some o /\ H b=none:=by
  have e':h.get? b=some o:=PySem.W.of_hideAll (trk h H) e
  refine ⟨e',?_⟩
  cases q:H b with
  | none=>rfl
  | some x =>
    have hm:b ∈ trk h H:=List.mem_filter.mpr ⟨List.mem_range.mpr (Heap.lt_size e'),by simp [q]⟩
    have z:(hidT h H).get? b=none:=PySem.W.hideAll_none (trk h H) hm
    rw [z] at e; cases e
noncomputable def allNews (g h:Heap) (L:Addr):List (Addr × Obj):=(List.range h.objs.size).filterMap fun a=>if a=L \/ (g.get? a).isSome=true then none else (h.get? a).map fun o=>(a,o)
noncomputable def rest (g h:Heap) (L d:Addr):List (Addr × Obj):=(allNews g h L).filter fun p=>decide (p.1 ≠ d)
end L2
namespace L2
open PySem PySem.Spec PyProof.Rows
structure Mod (K:PySem.W.Frag) (mg:Str->Option Value) (base:Heap):Prop where
  kin:K.In base
  glob:base.Ns mainGlobals mg
  blt:∃ mb,base.Ns builtinsNs mb /\ ∀ x:Str,x ≠ "__name__"->mb x=bootBuiltins x
  nolimit:base.NoLimit
structure Cx where
  prog:Program
  w:World
  K:PySem.W.Frag
  mg:Str->Option Value
  base:Heap
  A:Around
  N:List Str
  s₀:Shared
  H₀:Hp
  env:Env
  outer:List Env
  stack:List Env
  ex:List Addr
  fn:Str->Bool
  calm:Bool
  pn:List (Addr × Obj)
  xe:Value->Shared->Prop
noncomputable def frs (l:List Env):List Addr:=l.filterMap (·.frame)
noncomputable abbrev Cx.fs (X:Cx):List Addr:=frs X.outer
noncomputable def Vis (sc:Scope) (x:Str):Prop:=sc.names.lookup x=some .local \/ sc.names.lookup x=some .cell \/ sc.names.lookup x=some .free
noncomputable def Loc (sc:Scope) (x:Str):Prop:=sc.names.lookup x=some .local \/ sc.names.lookup x=some .cell
noncomputable def Look (env:Env) (h:Heap) (m:Str->Option Value) (x:Str) (u:Value):Prop :=
  (env.kindOf x=some .local /\ m x=some u) \/ ((env.kindOf x=some .cell \/ env.kindOf x=some .free) /\ ∃ c,env.cells.lookup x=some c /\ h.IsCell c (some u))
structure Cx.Ok (X:Cx):Prop where
  mod:Mod X.K X.mg X.base
  kind:X.env.scope.kind=.function
  glob:X.env.globals=mainGlobals
  blt:X.env.builtins=builtinsNs
  above:X.s₀.heap.objs.size<=X.env.locals
  inj:∀ x y c,X.env.cells.lookup x=some c->X.env.cells.lookup y=some c->x=y
  has:∀ x,(X.env.kindOf x=some .cell \/ X.env.kindOf x=some .free)->∃ c,X.env.cells.lookup x=some c
  cab:∀ x c,X.fn x=true->X.env.cells.lookup x=some c->X.s₀.heap.objs.size<=c
  hd:X.calm=true->X.A.handled=none
  frames:X.A.frames=some X.stack
  stk:X.stack=X.outer \/ (X.stack=X.env :: X.outer /\ X.env.frame=some X.env.locals)
  exf:∀ b ∈ X.ex,b ≠ X.env.locals /\ ∀ x c,X.env.cells.lookup x=some c->c ≠ b
  bs:∀ b o,X.base.get? b=some o->X.s₀.heap.get? b=some o /\ X.H₀ b=none
  bsz:X.base.objs.size<=X.s₀.heap.objs.size
  noex:∀ b o,X.base.get? b=some o->b ∉ X.ex
  exfs:∀ b ∈ X.ex,b ∉ X.fs
  funs:X.s₀.heap.FunFrames X.base X.outer
  frf:∀ b ∈ X.fs,X.H₀ b=none
structure Inv (X:Cx) (pins:List (Addr × Obj)) (σ:List (Option V)) (H:Hp) (s:Shared):Prop where
  ok:X.Ok
  os:s.os=X.s₀.os
  bare:AllBare s.gens
  base:Un X.fs X.ex X.H₀ H X.s₀.heap s.heap
  loc:∃ m,s.heap.Ns X.env.locals m /\ ∀ (i:Nat) (x:Str) (v:V),X.N[i]?=some x->σ[i]?=some (some v)->Vis X.env.scope x->∃ u,RelV v u /\ Look X.env s.heap m x u
  cell:∀ x c,X.env.cells.lookup x=some c->∃ v,s.heap.IsCell c v
  free:H X.env.locals=none
  freeC:∀ x c,X.env.cells.lookup x=some c->H c=none
  pin:∀ p ∈ X.pn ++ pins,s.heap.get? p.1=some p.2 /\ H p.1=none /\ p.1 ≠ X.env.locals /\ p.1 ∉ X.fs /\ ∀ v,p.2.data ≠ .cell v
  hok:HOk X.prog X.w H s.heap
  len:σ.length=X.N.length
section
variable {X:Cx} {pins:List (Addr × Obj)} {σ:List (Option V)} {H H':Hp} {s:Shared} {h':Heap}
theorem Cx.Ok.nofr (ok:X.Ok) {b:Addr} {o:Obj} (e:X.base.get? b=some o):b ∉ X.fs:=fun hb=>by
  have:=(ok.funs.mem hb).1
  rw [e] at this; cases this
theorem Inv.bs (I:Inv X pins σ H s):∀ b o,X.base.get? b=some o->s.heap.get? b=some o /\ H b=none:=fun b o e =>
  ⟨I.base.keep b o (I.ok.bs b o e).1 (I.ok.bs b o e).2 (I.ok.nofr e) (I.ok.noex b o e),I.base.free b o (I.ok.bs b o e).1 (I.ok.bs b o e).2 (I.ok.noex b o e)⟩
theorem Inv.bk (I:Inv X pins σ H s):∀ b o,X.base.get? b=some o->s.heap.get? b=some o:=fun b o e=>(I.bs b o e).1
theorem Inv.mod (I:Inv X pins σ H s):Mod X.K X.mg X.base:=I.ok.mod
theorem Inv.kIn (I:Inv X pins σ H s):X.K.In s.heap:=I.ok.mod.kin.keeps I.bk
theorem Inv.nolimit (I:Inv X pins σ H s):s.heap.NoLimit:=I.ok.mod.nolimit.keeps I.bk
theorem Inv.fr (I:Inv X pins σ H s):∃ m,Fr X.base X.env.locals s.heap m :=
  let ⟨m,hn,_⟩:=I.loc
  ⟨m,hn,I.bk,Nat.le_trans I.ok.bsz I.ok.above⟩
theorem Inv.lt (I:Inv X pins σ H s):X.env.locals < s.heap.objs.size:=let ⟨_,hn,_⟩:=I.loc; hn.lt
theorem Inv.sz (I:Inv X pins σ H s):X.s₀.heap.objs.size<=s.heap.objs.size:=Nat.le_trans I.ok.above (Nat.le_of_lt I.lt)
theorem Inv.nofs (I:Inv X pins σ H s) {a:Addr} (h:s.heap.objs.size<=a):a ∉ X.fs:=fun hb=>by
  obtain ⟨_,o,ho,_⟩:=I.ok.funs.mem hb
  exact absurd (Nat.lt_of_lt_of_le (Heap.lt_size ho) (Nat.le_trans I.sz h)) (Nat.lt_irrefl _)
theorem Inv.cne (I:Inv X pins σ H s):∀ x c,X.env.cells.lookup x=some c->c ≠ X.env.locals:=fun x c e z=>by
  obtain ⟨v,o,ho,hd⟩:=I.cell x c e
  obtain ⟨m,⟨o',es,ep,ho',hd',_⟩,_⟩:=I.loc
  rw [z,ho'] at ho; cases ho; rw [hd'] at hd; cases hd
theorem Inv.funs (I:Inv X pins σ H s):s.heap.FunFrames X.base X.outer:=by
  have all:∀ (l:List Env),(∀ b ∈ frs l,b ∈ X.fs)->X.s₀.heap.FunFrames X.base l->s.heap.FunFrames X.base l:=by
    intro l
    induction l with
    | nil=>intro _ _; trivial
    | cons env r ih =>
      intro hs hl
      obtain ⟨hk,⟨L,o,hf,hn,ho,hd⟩,hr⟩:=hl
      have hL:L ∈ X.fs:=hs L (by unfold frs; rw [List.filterMap_cons,hf]; exact List.mem_cons_self)
      obtain ⟨sl,e⟩:=I.base.slot L o ho (I.ok.frf L hL) hL fun z=>I.ok.exfs L z hL
      exact ⟨hk,⟨L,_,hf,hn,e,hd⟩,ih (fun b hb=>hs b (by unfold frs; rw [List.filterMap_cons,hf]; exact List.mem_cons_of_mem _ hb)) hr⟩
  exact all X.outer (fun _ hb=>hb) I.ok.funs
theorem Inv.stack (I:Inv X pins σ H s):s.heap.FunFrames X.base X.stack:=by
  rcases I.ok.stk with e | ⟨e,hf⟩
  · rw [e]; exact I.funs
  · rw [e]
    obtain ⟨m,hn,_⟩:=I.loc
    refine .cons (by rw [I.ok.kind]; decide) hf hn ?_ I.funs
    exact Heap.get?_none_of_le (Nat.le_trans I.ok.bsz I.ok.above)
theorem Inv.stkSub (I:Inv X pins σ H s):∀ b ∈ frs X.stack,b ∈ X.env.locals :: X.fs:=fun b hb=>by
  rcases I.ok.stk with e | ⟨e,hf⟩
  · rw [e] at hb; exact List.mem_cons_of_mem _ hb
  · rw [e] at hb
    unfold frs at hb
    rw [List.filterMap_cons,hf] at hb
    exact hb
theorem Inv.stkFree (I:Inv X pins σ H s):∀ b ∈ frs X.stack,H b=none:=fun b hb=>by
  rcases List.mem_cons.mp (I.stkSub b hb) with e | hb
  · rw [e]; exact I.free
  · obtain ⟨_,o,ho,_⟩:=I.ok.funs.mem hb
    exact I.base.free b o ho (I.ok.frf b hb) fun z=>I.ok.exfs b z hb
theorem Inv.step {g':Array GenState} {t':Nat} {d':Drawn} {ch:List Addr} (I:Inv X pins σ H s)
    (hch:∀ b ∈ ch,(b ∈ X.ex \/ X.s₀.heap.objs.size<=b) /\ b ≠ X.env.locals /\ (∀ x c,X.env.cells.lookup x=some c->c ≠ b) /\ ∀ p ∈ X.pn ++ pins,p.1 ≠ b)
    (keep:∀ b o,b ≠ X.env.locals->b ∉ X.fs->b ∉ ch->s.heap.get? b=some o->H b=none->h'.get? b=some o)
    (slot:∀ b o,b ≠ X.env.locals->b ∈ X.fs->b ∉ ch->s.heap.get? b=some o->H b=none->∃ sl,h'.get? b=some { o with slots:=sl }) (free:∀ b o,b ∉ ch->s.heap.get? b=some o->H b=none->H' b=none)
    (there:∀ b o,b ∉ ch->s.heap.get? b=some o->∃ o',h'.get? b=some o')
    (tups:∀ b xs,H b=some (.tup xs)->H' b=some (.tup xs)) (frzs:∀ b o u,H b=some (.frz o u)->H' b=some (.frz o u)) (tbls:∀ b ps,H b=some (.tbl ps)->∃ more,H' b=some (.tbl (ps ++ more)))
    (ns:∀ m,s.heap.Ns X.env.locals m->h'.Ns X.env.locals m) (hok:HOk X.prog X.w H' h') (hg:AllBare g') :
    Inv X pins σ H' { s with heap:=h',gens:=g',drawn:=d',toks:=t' }:=by
  have neL:∀ b o,X.s₀.heap.get? b=some o->b ≠ X.env.locals:=fun b o e=>Nat.ne_of_lt (Nat.lt_of_lt_of_le (Heap.lt_size e) I.ok.above)
  have neC:∀ b o,X.s₀.heap.get? b=some o->b ∉ X.ex->b ∉ ch:=fun b o e hx hb=>by
    rcases (hch b hb).1 with z | z
    · exact hx z
    · exact absurd (Nat.lt_of_lt_of_le (Heap.lt_size e) z) (Nat.lt_irrefl _)
  have cellK:∀ x c,X.env.cells.lookup x=some c->∀ v,s.heap.IsCell c v->h'.IsCell c v:=fun x c e v ⟨o,ho,hd⟩=>by
    have nch:c ∉ ch:=fun z=>(hch c z).2.2.1 x c e rfl
    by_cases hc:c ∈ X.fs
    · obtain ⟨sl,q⟩:=slot c o (I.cne x c e) hc nch ho (I.freeC x c e)
      exact ⟨_,q,hd⟩
    · exact ⟨o,keep c o (I.cne x c e) hc nch ho (I.freeC x c e),hd⟩
  refine ⟨I.ok,I.os,hg,⟨fun b o e n hb hx=>?_,fun b o e n hb hx=>?_,fun b o e n hx=>?_,fun b o e hx=>?_,fun b xs e=>tups b xs (I.base.tups b xs e),fun b o xs e=>frzs b o xs (I.base.frzs b o xs e),fun b ps e=>?_⟩,?_,fun x c e=>?_,?_,fun x c e=>?_,fun p hp=>?_,hok,I.len⟩
  · exact keep b o (neL b o e) hb (neC b o e hx) (I.base.keep b o e n hb hx) (I.base.free b o e n hx)
  · obtain ⟨sl,e1⟩:=I.base.slot b o e n hb hx
    obtain ⟨sl',e2⟩:=slot b _ (neL b o e) hb (neC b o e hx) e1 (I.base.free b o e n hx)
    exact ⟨sl',e2⟩
  · obtain ⟨o',e1⟩:=I.base.there b o e hx
    exact free b o' (neC b o e hx) e1 (I.base.free b o e n hx)
  · obtain ⟨o',e1⟩:=I.base.there b o e hx
    exact there b o' (neC b o e hx) e1
  · obtain ⟨m1,e1⟩:=I.base.tbls b ps e
    obtain ⟨m2,e2⟩:=tbls b _ e1
    exact ⟨m1 ++ m2,by rw [e2,Array.append_assoc]⟩
  · obtain ⟨m,hn,hl⟩:=I.loc
    refine ⟨m,ns m hn,fun i x v e1 e2 e3=>?_⟩
    obtain ⟨u,r,l⟩:=hl i x v e1 e2 e3
    refine ⟨u,r,?_⟩
    rcases l with l | ⟨k,c,e,z⟩
    · exact .inl l
    · exact .inr ⟨k,c,e,cellK x c e _ z⟩
  · obtain ⟨v,z⟩:=I.cell x c e
    exact ⟨v,cellK x c e v z⟩
  · obtain ⟨m,⟨o,_,_,ho,_⟩,_⟩:=I.loc
    exact free _ o (fun z=>(hch _ z).2.1 rfl) ho I.free
  · obtain ⟨v,o,ho,hd⟩:=I.cell x c e
    exact free c o (fun z=>(hch c z).2.2.1 x c e rfl) ho (I.freeC x c e)
  · obtain ⟨e,n,ne,nf,d⟩:=I.pin p hp
    have nch:p.1 ∉ ch:=fun z=>(hch p.1 z).2.2.2 p hp rfl
    exact ⟨keep p.1 p.2 ne nf nch e n,free p.1 p.2 nch e n,ne,nf,d⟩
theorem Inv.un {t':Nat} (I:Inv X pins σ H s) (u:Un X.fs [] H H' s.heap h') (hok:HOk X.prog X.w H' h'):Inv X pins σ H' { s with heap:=h',toks:=t' }:=by
  obtain ⟨m,⟨o,es,ep,ho,r⟩,_⟩:=id I.loc
  obtain ⟨sl,hL⟩:=u.any ho I.free (by simp)
  exact I.step (g':=s.gens) (d':=s.drawn) (ch:=[]) (fun _ z=>nomatch z) (fun b o _ hb _ e n=>u.keep b o e n hb (by simp)) (fun b o _ hb _ e n=>u.slot b o e n hb (by simp)) (fun b o _ e n=>u.free b o e n (by simp)) (fun b o _ e=>u.there b o e (by simp)) u.tups u.frzs u.tbls (fun m' hm=>by
    obtain ⟨o',es',ep',ho',r'⟩:=hm
    rw [ho] at ho'; cases ho'
    exact ⟨_,es',ep',hL,r'⟩) hok I.bare
theorem Inv.call {g':Array GenState} {t':Nat} {d':Drawn} {ch:List Addr} (I:Inv X pins σ H s) (u:Un (frs X.stack) ch H H' s.heap h') (hok:HOk X.prog X.w H' h') (hg:AllBare g')
    (hch:∀ b ∈ ch,(b ∈ X.ex \/ X.s₀.heap.objs.size<=b) /\ b ≠ X.env.locals /\ (∀ x c,X.env.cells.lookup x=some c->c ≠ b) /\ ∀ p ∈ X.pn ++ pins,p.1 ≠ b) :
    Inv X pins σ H' { s with heap:=h',gens:=g',drawn:=d',toks:=t' }:=by
  obtain ⟨m,⟨o,es,ep,ho,r⟩,_⟩:=id I.loc
  obtain ⟨sl,hL⟩:=u.any ho I.free fun z=>(hch _ z).2.1 rfl
  exact I.step (ch:=ch) hch (fun b o hL hb hc e n=>u.keep b o e n (fun z=>(List.mem_cons.mp (I.stkSub b z)).elim hL hb) hc) (fun b o _ _ hc e n=>u.any e n hc) (fun b o hc e n=>u.free b o e n hc) (fun b o hc e=>u.there b o e hc) u.tups u.frzs u.tbls (fun m' hm=>by
    obtain ⟨o',es',ep',ho',r'⟩:=hm
    rw [ho] at ho'; cases ho'
    exact ⟨_,es',ep',hL,r'⟩) hok hg
theorem Inv.turned {t':Nat} {it:Addr} (I:Inv X pins σ H s) (k:∀ b o,b ≠ it->s.heap.get? b=some o->h'.get? b=some o) (hn:H it=none) (hL:it ≠ X.env.locals)
    (h1:it ∈ X.ex \/ X.s₀.heap.objs.size<=it) (h2:∀ x c,X.env.cells.lookup x=some c->c ≠ it) (h3:∀ p ∈ X.pn ++ pins,p.1 ≠ it):Inv X pins σ H { s with heap:=h',toks:=t' }:=by
  have nit:∀ b u,H b=some u->b ≠ it:=fun b u e z=>by rw [z,hn] at e; cases e
  refine I.step (g':=s.gens) (d':=s.drawn) (ch:=[it]) (fun b hb=>?_) (fun b o _ _ hc e _=>k b o (fun z=>hc (by simp [z])) e) (fun b o _ _ hc e _=>⟨o.slots,k b o (fun z=>hc (by simp [z])) e⟩) (fun _ _ _ _ n=>n)
    (fun b o hc e=>⟨o,k b o (fun z=>hc (by simp [z])) e⟩) (fun _ _ e=>e) (fun _ _ _ e=>e) (fun b ps e=>⟨#[],by rw [e]; simp⟩) (fun m hm=>?_) (fun b u e=>?_) I.bare
  · have e:b=it:=by simpa using hb
    subst e
    exact ⟨h1,hL,h2,h3⟩
  · obtain ⟨o,es,ep,ho,r⟩:=hm
    exact ⟨o,es,ep,k _ o (Ne.symm hL) ho,r⟩
  · refine (I.hok b u e).stay (fun c v hc q=>k c v ?_ q) (fun _ q=>q) fun _ _ q=>q
    rcases hc with z | z
    · rw [z]; exact nit b u e
    · exact nit c _ z
theorem Inv.tok (I:Inv X pins σ H s) (t:Nat):Inv X pins σ H { s with toks:=t }:=I.un (h':=s.heap) (t':=t) Un.refl I.hok
theorem Inv.kept {t':Nat} (I:Inv X pins σ H s) (k:∀ b u,s.heap.get? b=some u->h'.get? b=some u):Inv X pins σ H { s with heap:=h',toks:=t' }:=I.un (Un.kept k) (I.hok.kept k)
theorem Inv.laid {a:Addr} {o:HO} {t':Nat} (I:Inv X pins σ H s) (k:∀ b u,s.heap.get? b=some u->h'.get? b=some u) (hp:s.heap.objs.size<=a) (new:ObjOk X.prog X.w (upd H a o) h' a o) :
    Inv X pins σ (upd H a o) { s with heap:=h',toks:=t' }:=I.un (Un.laid k hp (I.hok.fresh hp)) (I.hok.laid k hp new)
theorem Inv.write {x e:Addr} {o:HO} {t':Nat} (I:Inv X pins σ H s) (mu:Mut (H x)) (he:e=x \/ H e=some (.own x)) (k:∀ b u,b ≠ e->s.heap.get? b=some u->h'.get? b=some u) (heo:∃ u,h'.get? e=some u)
    (new:ObjOk X.prog X.w (upd H x o) h' x o):Inv X pins σ (upd H x o) { s with heap:=h',toks:=t' }:=I.un (Un.write mu he k heo) (I.hok.write mu he k heo new)
theorem Inv.weak {σ':List (Option V)} (I:Inv X pins σ H s) (hl:σ'.length=σ.length) (w:∀ (i:Nat) v,σ'[i]?=some (some v)->σ[i]?=some (some v)):Inv X pins σ' H s :=
  ⟨I.ok,I.os,I.bare,I.base,let ⟨m,hn,hl'⟩:=I.loc; ⟨m,hn,fun i x v e1 e2 e3=>hl' i x v e1 (w i v e2) e3⟩,I.cell,I.free,I.freeC,I.pin,I.hok,hl.trans I.len⟩
theorem Inv.pins_of {pins':List (Addr × Obj)} (I:Inv X pins σ H s) (h:∀ p ∈ pins',s.heap.get? p.1=some p.2 /\ H p.1=none /\ p.1 ≠ X.env.locals /\ p.1 ∉ X.fs /\ ∀ v,p.2.data ≠ .cell v):Inv X pins' σ H s :=
  ⟨I.ok,I.os,I.bare,I.base,I.loc,I.cell,I.free,I.freeC,fun p hp=>(List.mem_append.mp hp).elim (fun z=>I.pin p (List.mem_append_left _ z)) (h p),I.hok,I.len⟩
theorem nodup_ix {N:List Str} (hN:N.Nodup) {i j:Nat} {x:Str} (a:N[i]?=some x) (b:N[j]?=some x):i=j:=by
  obtain ⟨h1,e1⟩:=List.getElem?_eq_some_iff.mp a
  obtain ⟨h2,e2⟩:=List.getElem?_eq_some_iff.mp b
  exact (List.getElem_inj hN).mp (e1.trans e2.symm)
theorem store_ok2 {M:Model} {A:Around} {E:Value->Shared->Prop} {i:Nat} {x:Str} {v:V} {u:Value} {Q:Unit->Shared->Prop} (I:Inv X pins σ H s) (hN:X.N.Nodup) (hi:X.N[i]?=some x) (hx:Loc X.env.scope x) (r:RelV v u)
    (h:∀ s',Inv X pins (σ.set i (some v)) H s'->(∃ a,Heap.SameBut a s.heap s'.heap /\ (a=X.env.locals \/ X.env.cells.lookup x=some a))->Q () s') (hf:X.fn x=true \/ X.env.scope.names.lookup x=some .local:=by first | exact .inl rfl | exact .inr rfl | assumption):wpAny M A (storeName X.env x u) Q E s:=by
  obtain ⟨m,hn,hl⟩:=id I.loc
  have hcls:(X.env.scope.kind == .class || (X.env.scope.kind == .module && X.env.locals != X.env.globals))=false:=by rw [I.ok.kind]; rfl
  have hiσ:i < σ.length:=by rw [I.len]; exact (List.getElem?_eq_some_iff.mp hi).1
  have cne:=I.cne
  have tracked:∀ {a:Addr} {h':Heap},(∃ o,s.heap.get? a=some o /\ H a=none)->Heap.SameBut a s.heap h'->HOk X.prog X.w H h':=fun {a h'} ha hs b ob e=>by
    obtain ⟨_,_,hfree⟩:=ha
    refine (I.hok b ob e).stay (fun c w' hc q=>(hs.2 c ?_).trans q) (fun _ q=>q) fun _ _ q=>q
    rintro rfl
    rcases hc with rfl | hc
    · rw [hfree] at e; cases e
    · rw [hfree] at hc; cases hc
  rcases hx with hk | hk
  · refine wpAny_storeName_local hk hn (fun h' hn' hs=>?_) hcls
    obtain ⟨oL,_,_,hoL,_⟩:=id hn
    refine h _ ⟨I.ok,I.os,I.bare,⟨fun b o e n hb hx=>?_,fun b o e n hb hx=>?_,I.base.free,fun b o e hx=>?_,I.base.tups,I.base.frzs,I.base.tbls⟩,⟨_,hn',fun j y v' e1 e2 e3=>?_⟩,fun y c e=>?_,I.free,I.freeC,fun p hp=>?_,tracked ⟨oL,hoL,I.free⟩ hs,by simpa using I.len⟩ ⟨_,hs,.inl rfl⟩
    · exact (hs.2 b (Nat.ne_of_lt (Nat.lt_of_lt_of_le (Heap.lt_size e) I.ok.above))).trans (I.base.keep b o e n hb hx)
    · obtain ⟨sl,e1⟩:=I.base.slot b o e n hb hx
      exact ⟨sl,(hs.2 b (Nat.ne_of_lt (Nat.lt_of_lt_of_le (Heap.lt_size e) I.ok.above))).trans e1⟩
    · obtain ⟨o',e1⟩:=I.base.there b o e hx
      exact ⟨o',(hs.2 b (Nat.ne_of_lt (Nat.lt_of_lt_of_le (Heap.lt_size e) I.ok.above))).trans e1⟩
    · by_cases hj:j=i
      · subst hj
        rw [hi] at e1; cases e1
        rw [List.getElem?_set_self hiσ] at e2
        cases e2
        exact ⟨u,r,.inl ⟨hk,by simp⟩⟩
      · rw [List.getElem?_set_ne (Ne.symm hj)] at e2
        obtain ⟨u',r',q⟩:=hl j y v' e1 e2 e3
        refine ⟨u',r',?_⟩
        rcases q with ⟨k,e⟩ | ⟨k,c,e,z⟩
        · refine .inl ⟨k,?_⟩
          have:y ≠ x:=fun e=>hj (nodup_ix hN e1 (e ▸ hi))
          simp [this,e]
        · exact .inr ⟨k,c,e,z.sameBut hs (cne y c e)⟩
    · obtain ⟨w',z⟩:=I.cell y c e
      exact ⟨w',z.sameBut hs (cne y c e)⟩
    · obtain ⟨e,n,ne,nf,d⟩:=I.pin p hp
      exact ⟨(hs.2 p.1 ne).trans e,n,ne,nf,d⟩
  · have hfn:X.fn x=true:=by
      rcases hf with z | z
      · exact z
      · rw [z] at hk; cases hk
    obtain ⟨c,hc⟩:=I.ok.has x (.inl hk)
    obtain ⟨w',z⟩:=I.cell x c hc
    refine wpAny_storeName_cell I.ok.kind hk hc z (fun h' hc' hs=>?_)
    obtain ⟨oc,hoc,hocd⟩:=id z
    refine h { s with heap:=h' } ⟨I.ok,I.os,I.bare,⟨fun b o e n hb hx=>?_,fun b o e n hb hx=>?_,I.base.free,fun b o e hx=>?_,I.base.tups,I.base.frzs,I.base.tbls⟩,⟨m,hn.sameBut hs (Ne.symm (cne x c hc)),fun j y v' e1 e2 e3=>?_⟩,fun y c' e=>?_,I.free,I.freeC,fun p hp=>?_,tracked ⟨oc,hoc,I.freeC x c hc⟩ hs,by simpa using I.len⟩ ⟨c,hs,.inr hc⟩
    · exact (hs.2 b (Nat.ne_of_lt (Nat.lt_of_lt_of_le (Heap.lt_size e) (I.ok.cab x c hfn hc)))).trans (I.base.keep b o e n hb hx)
    · obtain ⟨sl,e1⟩:=I.base.slot b o e n hb hx
      exact ⟨sl,(hs.2 b (Nat.ne_of_lt (Nat.lt_of_lt_of_le (Heap.lt_size e) (I.ok.cab x c hfn hc)))).trans e1⟩
    · obtain ⟨o',e1⟩:=I.base.there b o e hx
      exact ⟨o',(hs.2 b (Nat.ne_of_lt (Nat.lt_of_lt_of_le (Heap.lt_size e) (I.ok.cab x c hfn hc)))).trans e1⟩
    · by_cases hj:j=i
      · subst hj
        rw [hi] at e1; cases e1
        rw [List.getElem?_set_self hiσ] at e2
        cases e2
        exact ⟨u,r,.inr ⟨.inl hk,c,hc,hc'⟩⟩
      · rw [List.getElem?_set_ne (Ne.symm hj)] at e2
        obtain ⟨u',r',q⟩:=hl j y v' e1 e2 e3
        refine ⟨u',r',?_⟩
        rcases q with q | ⟨k,c',e,z'⟩
        · exact .inl q
        · refine .inr ⟨k,c',e,z'.sameBut hs ?_⟩
          rintro rfl
          exact hj (nodup_ix hN e1 (I.ok.inj _ _ _ e hc ▸ hi))
    · by_cases hcc:c'=c
      · subst hcc; exact ⟨_,hc'⟩
      · obtain ⟨w2,z2⟩:=I.cell y c' e
        exact ⟨w2,z2.sameBut hs hcc⟩
    · obtain ⟨e,n,ne,nf,d⟩:=I.pin p hp
      refine ⟨(hs.2 p.1 ?_).trans e,n,ne,nf,d⟩
      intro q
      rw [q,hoc] at e
      have q':oc=p.2:=Option.some.inj e
      exact d w' (by rw [<- q']; exact hocd)
theorem store_ok {M:Model} {A:Around} {E:Value->Shared->Prop} {i:Nat} {x:Str} {v:V} {u:Value} {Q:Unit->Shared->Prop} (I:Inv X pins σ H s) (hN:X.N.Nodup) (hi:X.N[i]?=some x) (hx:Loc X.env.scope x) (r:RelV v u)
    (h:∀ s',Inv X pins (σ.set i (some v)) H s'->Q () s') (hf:X.fn x=true \/ X.env.scope.names.lookup x=some .local:=by first | exact .inl rfl | exact .inr rfl | assumption):wpAny M A (storeName X.env x u) Q E s :=
  store_ok2 I hN hi hx r (fun s' I' _=>h s' I') hf
theorem Inv.call' {s':Shared} {ch:List Addr} (I:Inv X pins σ H s) (ho:s'.os=s.os) (u:Un (frs X.stack) ch H H' s.heap s'.heap) (hok:HOk X.prog X.w H' s'.heap) (hg:AllBare s'.gens)
    (hch:∀ b ∈ ch,(b ∈ X.ex \/ X.s₀.heap.objs.size<=b) /\ b ≠ X.env.locals /\ (∀ x c,X.env.cells.lookup x=some c->c ≠ b) /\ ∀ p ∈ X.pn ++ pins,p.1 ≠ b):Inv X pins σ H' s':=by
  obtain ⟨h',g',d',t',o'⟩:=s'
  have e:o'=s.os:=ho
  subst e
  exact I.call (g':=g') (t':=t') (d':=d') u hok hg hch
end
noncomputable abbrev XK:=Value->Option Addr->Hp->Prop
noncomputable abbrev St:=List (Option V)
noncomputable abbrev VK:=V->Hp->Prop
noncomputable abbrev TE:=St->Hp->VK->Prop
noncomputable abbrev TT:=St->Hp->(Bool->Hp->Prop)->Prop
noncomputable abbrev TA:=St->Hp->(List V->Hp->Prop)->Prop
structure Ends where
  nx:St->Hp->Prop
  rt:VK
  bk:St->Hp->Prop:=fun _ _=>False
  ct:St->Hp->Prop:=fun _ _=>False
noncomputable abbrev TS:=Ends->St->Hp->Prop
noncomputable def EP (X:Cx) (pins:List (Addr × Obj)) (σ:St) (Q:VK) (u:Value) (s':Shared):Prop:=∃ v H',Inv X pins σ H' s' /\ RelV v u /\ Q v H'
noncomputable def TP (X:Cx) (pins:List (Addr × Obj)) (σ:St) (Q:Bool->Hp->Prop) (b:Bool) (s':Shared):Prop:=∃ H',Inv X pins σ H' s' /\ Q b H'
noncomputable def AP (X:Cx) (pins:List (Addr × Obj)) (σ:St) (Q:List V->Hp->Prop) (us:List Value) (s':Shared):Prop:=∃ vs H',Inv X pins σ H' s' /\ Vals vs us /\ Q vs H'
noncomputable def SP (X:Cx) (pins:List (Addr × Obj)) (D:Ends) (f:Flow) (s':Shared):Prop :=
  match f with
  | .next=>∃ σ' H',Inv X pins σ' H' s' /\ D.nx σ' H'
  | .brk=>∃ σ' H',Inv X pins σ' H' s' /\ D.bk σ' H'
  | .cont=>∃ σ' H',Inv X pins σ' H' s' /\ D.ct σ' H'
  | .ret u=>∃ v σ' H',Inv X pins σ' H' s' /\ RelV v u /\ D.rt v H'
noncomputable def PE (X:Cx) (e:Expr) (t:TE):Prop :=
  ∀ (pins:List (Addr × Obj)) (s:Shared) (σ:St) (H:Hp) (Q:VK),Inv X pins σ H s->t σ H Q->wpAny (model X.prog X.w) X.A (eval e X.env) (EP X pins σ Q) X.xe s
noncomputable def PT (X:Cx) (e:Expr) (t:TT):Prop :=
  ∀ (pins:List (Addr × Obj)) (s:Shared) (σ:St) (H:Hp) (Q:Bool->Hp->Prop),Inv X pins σ H s->t σ H Q->wpAny (model X.prog X.w) X.A (isTrue e X.env (eval e X.env)) (TP X pins σ Q) X.xe s
noncomputable def PW (X:Cx) (e:Expr) (t:TT):Prop :=
  ∀ (whole:Sem Value) (pins:List (Addr × Obj)) (s:Shared) (σ:St) (H:Hp) (Q:Bool->Hp->Prop),Inv X pins σ H s->t σ H Q->wpAny (model X.prog X.w) X.A (isTrue e X.env whole) (TP X pins σ Q) X.xe s
theorem PW.pt {X:Cx} {e:Expr} {t:TT} (h:PW X e t):PT X e t:=h _
noncomputable def PA (X:Cx) (es:List Expr) (t:TA):Prop :=
  ∀ (pos:Pos) (pins:List (Addr × Obj)) (s:Shared) (σ:St) (H:Hp) (Q:List V->Hp->Prop),Inv X pins σ H s->t σ H Q->wpAny (model X.prog X.w) X.A (spliced (backTo pos (starEach es X.env))) (AP X pins σ Q) X.xe s
noncomputable def PS (X:Cx) (st:Stmt) (t:TS):Prop :=
  ∀ (pins:List (Addr × Obj)) (s:Shared) (σ:St) (H:Hp) (D:Ends),Inv X pins σ H s->t D σ H->wpAny (model X.prog X.w) X.A (exec st X.env) (SP X pins D) X.xe s
noncomputable def PSs (X:Cx) (st:List Stmt) (t:TS):Prop :=
  ∀ (pins:List (Addr × Obj)) (s:Shared) (σ:St) (H:Hp) (D:Ends),Inv X pins σ H s->t D σ H->wpAny (model X.prog X.w) X.A (execs st X.env) (SP X pins D) X.xe s
theorem thn {α:Type} {t:Sem α} {Q Q':α->Shared->Prop} {M:Model} {A:Around} {E:Value->Shared->Prop} {s:Shared} (h:wpAny M A t Q E s) (hQ:∀ a s,Q a s->Q' a s):wpAny M A t Q' E s:=wpAny_mono h hQ fun _ _ x=>x
end L2
namespace L2
open PySem PySem.Spec PyProof.Rows
section
variable {X:Cx}
theorem bin {a b:Expr} {ta tb:TE} (ha:PE X a ta) (hb:PE X b tb) {pins:List (Addr × Obj)} {s:Shared} {σ:St} {H:Hp} {R:V->V->Hp->Prop} (I:Inv X pins σ H s) (h:ta σ H fun x H1=>tb σ H1 fun y H2=>R x y H2)
    {α:Type} {Q:α->Shared->Prop} {f:Value->Value->Sem α}
    (hf:∀ v u s2 x y H2,Inv X pins σ H2 s2->RelV x v->RelV y u->R x y H2->wpAny (model X.prog X.w) X.A (f v u) Q X.xe s2) :
    wpAny (model X.prog X.w) X.A (eval a X.env) (fun v s₁=>wpAny (model X.prog X.w) X.A (eval b X.env) (fun u s₂=>wpAny (model X.prog X.w) X.A (f v u) Q X.xe s₂) X.xe s₁) X.xe s:=by
  refine thn (ha pins s σ H _ I h) fun v s1 ⟨x,H1,I1,r1,q1⟩=>?_
  refine thn (hb pins s1 σ H1 _ I1 q1) fun u s2 ⟨y,H2,I2,r2,q2⟩=>?_
  exact hf v u s2 x y H2 I2 r1 r2 q2
noncomputable def tVar (i:Nat):TE:=fun σ H Q=>∃ v,σ[i]?=some (some v) /\ Q v H
noncomputable def tC (v:V):TE:=fun _ H Q=>Q v H
theorem pe_var {i:Nat} {x:Str} {pos:Pos} (hN:X.N[i]?=some x) (hv:Vis X.env.scope x) (hd:(x == ("__debug__":Str))=false:=by decide) (hcd:(x == ("__classdict__":Str))=false:=by decide):PE X (.Name x pos) (tVar i):=by
  intro pins s σ H Q I h
  obtain ⟨v,e,h⟩:=h
  obtain ⟨m,hn,hl⟩:=I.loc
  obtain ⟨u,r,l⟩:=hl i x v hN e hv
  have fin:EP X pins σ Q u s:=⟨v,H,I,r,h⟩
  rcases l with ⟨hk,hm⟩ | ⟨hk,c,hc,hcell⟩
  · exact wpAny_Name (wpAny_loadName_local I.ok.kind hk hn hm fin) hd
  · rcases hk with hk | hk
    · exact wpAny_Name (wpAny_loadName_cell I.ok.kind hk hc hcell fin) hd
    · exact wpAny_Name (wpAny_loadName_free I.ok.kind hk hc hcell fin hcd) hd
theorem pe_int {i j pos}:PE X (.Constant (.int i) j pos) (tC (.int i)):=fun _ _ _ H _ I h=>wpAny_Constant_int ⟨.int i,H,I.tok _,⟨_,rfl⟩,h⟩
theorem pe_bl {b j pos}:PE X (.Constant (.bool b) j pos) (tC (.bl b)):=fun _ _ _ H _ I h=>Constant_bool ⟨.bl b,H,I,rfl,h⟩
theorem pe_non {j pos}:PE X (.Constant .none j pos) (tC .non):=fun _ _ _ H _ I h=>Constant_none ⟨.non,H,I,rfl,h⟩
theorem pe_str {x j pos}:PE X (.Constant (.str x) j pos) (tC (.str x)):=fun _ _ _ H _ I h=>Calls.Constant_str ⟨.str x,H,I.tok _,⟨_,rfl⟩,h⟩
noncomputable def Gl (X:Cx) (x:Str):Prop:=X.env.kindOf x=some .globalImplicit
theorem ld_glob {E:Value->Shared->Prop} {pins:List (Addr × Obj)} {s:Shared} {σ:St} {H:Hp} {x:Str} {u:Value} {pos:Pos} {Q:Value->Shared->Prop} (I:Inv X pins σ H s) (hg:Gl X x) (hm:X.mg x=some u) (h:Q u s)
    (hd:(x == ("__debug__":Str))=false:=by decide):wpAny (model X.prog X.w) X.A (eval (.Name x pos) X.env) Q E s :=
  Calls.Name_function_global I.ok.kind hg (Calls.loadGlobal_global (by rw [I.ok.glob]; exact I.mod.glob.keeps I.bk) hm h) hd
theorem ld_blt {E:Value->Shared->Prop} {pins:List (Addr × Obj)} {s:Shared} {σ:St} {H:Hp} {x:Str} {u:Value} {pos:Pos} {Q:Value->Shared->Prop} (I:Inv X pins σ H s) (hg:Gl X x) (hm:X.mg x=none) (hv:bootBuiltins x=some u) (h:Q u s)
    (hn:x ≠ "__name__":=by decide) (hd:(x == ("__debug__":Str))=false:=by decide):wpAny (model X.prog X.w) X.A (eval (.Name x pos) X.env) Q E s:=by
  obtain ⟨mb,h1,h2⟩:=I.mod.blt
  exact Calls.Name_function_global I.ok.kind hg (Calls.loadGlobal_builtin (by rw [I.ok.glob]; exact I.mod.glob.keeps I.bk) hm (by rw [I.ok.blt]; exact h1.keeps I.bk) ((h2 x hn).trans hv) h) hd
theorem pe_glob {x:Str} {v:V} {u:Value} {pos:Pos} (hg:Gl X x) (hm:X.mg x=some u) (r:RelV v u) (hd:(x == ("__debug__":Str))=false:=by decide):PE X (.Name x pos) (tC v) :=
  fun _ _ _ H _ I h=>ld_glob I hg hm ⟨v,H,I,r,h⟩ hd
theorem pe_bltn {x:Str} {v:V} {u:Value} {pos:Pos} (hg:Gl X x) (hm:X.mg x=none) (hv:bootBuiltins x=some u) (r:RelV v u) (hn:x ≠ "__name__":=by decide) (hd:(x == ("__debug__":Str))=false:=by decide):PE X (.Name x pos) (tC v) :=
  fun _ _ _ H _ I h=>ld_blt I hg hm hv ⟨v,H,I,r,h⟩ hn hd
variable {a b:Expr} {ta tb:TE} {pos:Pos}
noncomputable def tB (t:TE):TT:=fun σ H Q=>t σ H fun x H1=>∃ c,x=.bl c /\ Q c H1
theorem pt_val {e:Expr} {t:TE} (h:PE X e t) (he:∀ whole,isTrue e X.env whole=(do let v <- whole; standAt e.pos; holding [v] (truthy v)):=by intro _; rfl):PT X e (tB t):=by
  intro pins s σ H Q I hw
  refine isTrue_plain (thn (h pins s σ H _ I hw) fun v s1 ⟨x,H1,I1,r1,q1⟩=>?_) (he _)
  obtain ⟨d,rfl,q⟩:=q1
  cases r1
  exact wpAny_truthy_bool ⟨H1,I1,q⟩
variable {tA tB':TT} {rest:List Expr}
noncomputable def tAnd (t u:TT):TT:=fun σ H Q=>t σ H fun c H1=>if c=true then u σ H1 Q else Q false H1
noncomputable def tOr (t u:TT):TT:=fun σ H Q=>t σ H fun c H1=>if c=true then Q true H1 else u σ H1 Q
noncomputable def tNot (t:TT):TT:=fun σ H Q=>t σ H fun c H1=>Q (!c) H1
theorem pw_and1 (ha:PT X a tA):PW X (.BoolOp .And [a] pos) tA:=by
  intro wh pins s σ H Q I h
  refine isTrue_and (thn (ha pins s σ H Q I h) fun c s1 e=>?_)
  cases c with
  | true=>exact isTrue_and_nil e
  | false=>exact e
theorem pw_or1 (ha:PT X a tA):PW X (.BoolOp .Or [a] pos) tA:=by
  intro wh pins s σ H Q I h
  refine isTrue_or (thn (ha pins s σ H Q I h) fun c s1 e=>?_)
  cases c with
  | false=>exact isTrue_or_nil e
  | true=>exact e
theorem pw_and (ha:PT X a tA) (hb:PW X (.BoolOp .And (b :: rest) pos) tB'):PW X (.BoolOp .And (a :: b :: rest) pos) (tAnd tA tB'):=by
  intro wh pins s σ H Q I h
  refine isTrue_and (thn (ha pins s σ H _ I h) fun c s1 ⟨H1,I1,q1⟩=>?_)
  cases c with
  | true=>exact hb wh pins s1 σ H1 Q I1 q1
  | false=>exact ⟨H1,I1,q1⟩
theorem pw_or (ha:PT X a tA) (hb:PW X (.BoolOp .Or (b :: rest) pos) tB'):PW X (.BoolOp .Or (a :: b :: rest) pos) (tOr tA tB'):=by
  intro wh pins s σ H Q I h
  refine isTrue_or (thn (ha pins s σ H _ I h) fun c s1 ⟨H1,I1,q1⟩=>?_)
  cases c with
  | true=>exact ⟨H1,I1,q1⟩
  | false=>exact hb wh pins s1 σ H1 Q I1 q1
theorem pt_not (ha:PT X a tA):PT X (.UnaryOp .Not a pos) (tNot tA):=by
  intro pins s σ H Q I h
  exact isTrue_not (ha pins s σ H (fun c H1=>Q (!c) H1) I h)
noncomputable def tAndV (ta tb:TE):TE:=fun σ H Q=>ta σ H fun x H1=>∃ c,x=.bl c /\ if c=true then tb σ H1 Q else Q (.bl false) H1
noncomputable def tOrV (ta tb:TE):TE:=fun σ H Q=>ta σ H fun x H1=>∃ c,x=.bl c /\ if c=true then Q (.bl true) H1 else tb σ H1 Q
noncomputable def tNotV (ta:TE):TE:=fun σ H Q=>ta σ H fun x H1=>∃ c,x=.bl c /\ Q (.bl (!c)) H1
theorem pe_one {op} {t:TE} (h:PE X a t):PE X (.BoolOp op [a] pos) t:=fun pins s σ H Q I hw=>BoolOp_one (h pins s σ H Q I hw)
theorem pe_and (ha:PE X a ta) (hb:PE X (.BoolOp .And (b :: rest) pos) tb):PE X (.BoolOp .And (a :: b :: rest) pos) (tAndV ta tb):=by
  intro pins s σ H Q I h
  refine BoolOp_and (thn (ha pins s σ H _ I h) fun v s1 ⟨x,H1,I1,r1,q1⟩=>?_)
  obtain ⟨c,rfl,q1⟩:=q1
  cases r1
  refine wpAny_truthy_bool ?_
  cases c with
  | true=>exact hb pins s1 σ H1 Q I1 q1
  | false=>exact ⟨.bl false,H1,I1,rfl,q1⟩
theorem pe_or (ha:PE X a ta) (hb:PE X (.BoolOp .Or (b :: rest) pos) tb):PE X (.BoolOp .Or (a :: b :: rest) pos) (tOrV ta tb):=by
  intro pins s σ H Q I h
  refine BoolOp_or (thn (ha pins s σ H _ I h) fun v s1 ⟨x,H1,I1,r1,q1⟩=>?_)
  obtain ⟨c,rfl,q1⟩:=q1
  cases r1
  refine wpAny_truthy_bool ?_
  cases c with
  | false=>exact hb pins s1 σ H1 Q I1 q1
  | true=>exact ⟨.bl true,H1,I1,rfl,q1⟩
theorem pe_not (ha:PE X a ta):PE X (.UnaryOp .Not a pos) (tNotV ta):=by
  intro pins s σ H Q I h
  refine UnaryOp_ (thn (ha pins s σ H _ I h) fun v s1 ⟨x,H1,I1,r1,q1⟩=>?_)
  obtain ⟨c,rfl,q1⟩:=q1
  cases r1
  exact not_of (wpAny_truthy_bool ⟨.bl (!c),H1,I1,rfl,q1⟩)
end
end L2
namespace L2
open PySem PySem.Spec PyProof.Rows
noncomputable def SqL (K:PySem.W.Frag) (H:Hp) (a:Addr) (xs:List V):Prop :=
  Rd H a (.lst xs) \/
    ∃ (o:Obj) (its:Array Value) (n:Nat),K.lookup a=some o /\ o.cls=.type "list" /\ o.dict=none /\ o.data=.seq its n /\ its.size<=sizeLine /\ Vals xs its.toList
noncomputable def SqT (K:PySem.W.Frag) (H:Hp) (a:Addr) (xs:List V):Prop :=
  Rd H a (.tup xs) \/
    ∃ (o:Obj) (its:Array Value) (n:Nat),K.lookup a=some o /\ o.cls=.type "tuple" /\ o.data=.seq its n /\ its.size<=sizeLine /\ Vals xs its.toList
noncomputable def absV:Value->Option V
  | .none=>some .non
  | .bool b=>some (.bl b)
  | .int i _=>some (.int i)
  | .str x _=>some (.str x)
  | .bytes b _=>some (.byt b)
  | .float b _=>some (.flt b)
  | .ref a=>some (.ref a)
  | .type n=>some (.ty n)
  | _=>none
theorem RelV.abs {x:V} {u:Value} (r:RelV x u):absV u=some x:=by
  cases x with
  | non=>cases r; rfl
  | bl _=>cases r; rfl
  | int _=>obtain ⟨t,rfl⟩:=r; rfl
  | str _=>obtain ⟨t,rfl⟩:=r; rfl
  | byt _=>obtain ⟨t,rfl⟩:=r; rfl
  | flt _=>obtain ⟨t,rfl⟩:=r; rfl
  | ref _=>cases r; rfl
  | ty _=>cases r; rfl
theorem RelV.inj {x y:V} {u:Value} (r:RelV x u) (q:RelV y u):x=y:=Option.some.inj (r.abs.symm.trans q.abs)
theorem Vals.inj:∀ {xs ys:List V} {us:List Value},Vals xs us->Vals ys us->xs=ys
  | _,_,_,.nil,.nil=>rfl
  | _,_,_,.cons r t,.cons r' t'=>by rw [r.inj r',Vals.inj t t']
section
variable {X:Cx} {pins:List (Addr × Obj)} {σ:St} {H:Hp} {s:Shared} {a:Addr} {xs ys:List V}
theorem SqL.of {K:PySem.W.Frag} (h:H a=some (.lst xs)):SqL K H a xs:=.inl (.inl h)
theorem SqT.of {K:PySem.W.Frag} (h:H a=some (.tup xs)):SqT K H a xs:=.inl (.inl h)
theorem Inv.list (I:Inv X pins σ H s) (h:SqL X.K H a xs):∃ its:List Value,Vals xs its /\ PlainL s.heap a its.toArray /\ xs.length<=sizeLine:=by
  rcases h with h | ⟨o,its,n,hk,hc,hd,hs,hz,r⟩
  · obtain ⟨z,its,n,r,e⟩:=h.ok I.hok
    exact ⟨its,r,⟨_,n,e,rfl,rfl,rfl⟩,z⟩
  · refine ⟨its.toList,r,⟨o,n,I.kIn a o hk,hc,hd,by simpa using hs⟩,?_⟩
    have e:=r.length
    simp only [Array.length_toList] at e
    omega
theorem Inv.tuple (I:Inv X pins σ H s) (h:SqT X.K H a xs):∃ its:List Value,Vals xs its /\ IsTup s.heap a its.toArray /\ xs.length<=sizeLine:=by
  rcases h with h | ⟨o,its,n,hk,hc,hs,hz,r⟩
  · obtain ⟨z,its,r,p⟩:=h.ok I.hok
    exact ⟨its,r,p,z⟩
  · refine ⟨its.toList,r,⟨o,I.kIn a o hk,hc,n,by simpa using hs⟩,?_⟩
    have e:=r.length
    simp only [Array.length_toList] at e
    omega
theorem Inv.list_inj (I:Inv X pins σ H s) (h:SqL X.K H a xs) (h':SqL X.K H a ys):xs=ys:=by
  obtain ⟨its,r,⟨o,n,e,_,_,d⟩,_⟩:=I.list h
  obtain ⟨its',r',⟨o',n',e',_,_,d'⟩,_⟩:=I.list h'
  rw [e] at e'; cases e'
  rw [d] at d'
  injection d' with d1 _
  have:its=its':=by simpa using congrArg Array.toList d1
  subst this
  exact r.inj r'
theorem Inv.tuple_inj (I:Inv X pins σ H s) (h:SqT X.K H a xs) (h':SqT X.K H a ys):xs=ys:=by
  obtain ⟨its,r,⟨o,e,_,n,d⟩,_⟩:=I.tuple h
  obtain ⟨its',r',⟨o',e',_,n',d'⟩,_⟩:=I.tuple h'
  rw [e] at e'; cases e'
  rw [d] at d'
  injection d' with d1 _
  have:its=its':=by simpa using congrArg Array.toList d1
  subst this
  exact r.inj r'
end
noncomputable abbrev Cx.wish (X:Cx) (E:Value->Shared->Prop):Cx:={ X with xe:=E }
noncomputable abbrev Cx.nox (X:Cx):Cx:=X.wish fun _ _=>False
theorem Cx.Ok.wish {X:Cx} (ok:X.Ok) (E:Value->Shared->Prop):(X.wish E).Ok :=
  ⟨ok.mod,ok.kind,ok.glob,ok.blt,ok.above,ok.inj,ok.has,ok.cab,ok.hd,ok.frames,ok.stk,ok.exf,ok.bs,ok.bsz,ok.noex,ok.exfs,ok.funs,ok.frf⟩
theorem Cx.Ok.unwish {X:Cx} {E:Value->Shared->Prop} (ok:(X.wish E).Ok):X.Ok :=
  ⟨ok.mod,ok.kind,ok.glob,ok.blt,ok.above,ok.inj,ok.has,ok.cab,ok.hd,ok.frames,ok.stk,ok.exf,ok.bs,ok.bsz,ok.noex,ok.exfs,ok.funs,ok.frf⟩
section
variable {X:Cx} {pins:List (Addr × Obj)} {σ:St} {H:Hp} {s:Shared} {E:Value->Shared->Prop}
theorem Inv.wish (I:Inv X pins σ H s) (E:Value->Shared->Prop):Inv (X.wish E) pins σ H s:=⟨I.ok.wish E,I.os,I.bare,I.base,I.loc,I.cell,I.free,I.freeC,I.pin,I.hok,I.len⟩
theorem Inv.unwish (I:Inv (X.wish E) pins σ H s):Inv X pins σ H s:=⟨I.ok.unwish,I.os,I.bare,I.base,I.loc,I.cell,I.free,I.freeC,I.pin,I.hok,I.len⟩
theorem SP.unwish {D:Ends} {f:Flow} {s':Shared} (h:SP (X.wish E) pins D f s'):SP X pins D f s':=by
  cases f with
  | next=>obtain ⟨σ',H',I,q⟩:=h; exact ⟨σ',H',I.unwish,q⟩
  | brk=>obtain ⟨σ',H',I,q⟩:=h; exact ⟨σ',H',I.unwish,q⟩
  | cont=>obtain ⟨σ',H',I,q⟩:=h; exact ⟨σ',H',I.unwish,q⟩
  | ret u=>obtain ⟨v,σ',H',I,r,q⟩:=h; exact ⟨v,σ',H',I.unwish,r,q⟩
theorem PE.nox {e:Expr} {t:TE} (h:PE X.nox e t):PE X e t:=fun pins s σ H Q I hw =>
  wpAny_mono (h pins s σ H Q (I.wish _) hw) (fun _ _ ⟨v,H',I',r,q⟩=>⟨v,H',I'.unwish,r,q⟩) fun _ _ z=>False.elim z
theorem PT.nox {e:Expr} {t:TT} (h:PT X.nox e t):PT X e t:=fun pins s σ H Q I hw =>
  wpAny_mono (h pins s σ H Q (I.wish _) hw) (fun _ _ ⟨H',I',q⟩=>⟨H',I'.unwish,q⟩) fun _ _ z=>False.elim z
theorem PSs.nox {st:List Stmt} {t:TS} (h:PSs X.nox st t):PSs X st t:=fun pins s σ H D I hw =>
  wpAny_mono (h pins s σ H D (I.wish _) hw) (fun _ _ q=>q.unwish) fun _ _ z=>False.elim z
end
section
variable {X:Cx} {st:Stmt} {rest:List Stmt} {t u:TS} {e:Expr} {te:TE} {pos:Pos}
noncomputable def tNext:TS:=fun D σ H=>D.nx σ H
noncomputable def tSeq (t u:TS):TS:=fun D σ H=>t { D with nx:=u D } σ H
theorem pss_nil:PSs X [] tNext:=fun _ _ σ H _ I h=>wpAny_execs_nil ⟨σ,H,I,h⟩
theorem pss_cons (h1:PS X st t) (h2:PSs X rest u):PSs X (st :: rest) (tSeq t u):=by
  intro pins s σ H D I h
  refine wpAny_execs_cons (thn (h1 pins s σ H { D with nx:=u D } I h) fun f s1 q=>?_)
  cases f with
  | next =>
    obtain ⟨σ',H',I',q⟩:=q
    exact h2 pins s1 σ' H' D I' q
  | ret v=>exact q
  | brk=>exact q
  | cont=>exact q
theorem Inv.quiet {pins:List (Addr × Obj)} {σ:St} {H:Hp} {s:Shared} (I:Inv X pins σ H s):interactive X.env=false:=by simp [interactive,I.ok.kind]
noncomputable def tDrop (te:TE):TS:=fun D σ H=>te σ H fun _ H1=>D.nx σ H1
theorem ps_expr (he:PE X e te) (hs:swapsWith e none pos.line X.env=pure false:=by rfl):PS X (.Expr e pos) (tDrop te):=by
  intro pins s σ H D I h
  exact wpAny_Expr_any (thn (he pins s σ H _ I h) fun v s1 ⟨x,H1,I1,r1,q1⟩=>⟨σ,H1,I1,q1⟩) I.quiet hs
noncomputable def tRet (te:TE):TS:=fun D σ H=>te σ H D.rt
theorem ps_ret (he:PE X e te):PS X (.Return (some e) pos) (tRet te):=by
  intro pins s σ H D I h
  exact wpAny_Return_some (thn (he pins s σ H _ I h) fun v s1 ⟨x,H1,I1,r1,q1⟩=>⟨x,σ,H1,I1,r1,q1⟩)
noncomputable def tIfS (c:TT) (t u:TS):TS:=fun D σ H=>c σ H fun b H1=>if b=true then t D σ H1 else u D σ H1
theorem ps_if {c:Expr} {a b:List Stmt} {tc:TT} (hc:PT X c tc) (ha:PSs X a t) (hb:PSs X b u):PS X (.If c a b pos) (tIfS tc t u):=by
  intro pins s σ H D I h
  refine wpAny_If (thn (hc pins s σ H _ I h) fun d s1 ⟨H1,I1,q1⟩=>?_)
  cases d with
  | true=>exact ha pins s1 σ H1 D I1 q1
  | false=>exact hb pins s1 σ H1 D I1 q1
end
noncomputable abbrev TG:=V->St->Hp->(St->Hp->Prop)->Prop
noncomputable abbrev TGs:=List V->St->Hp->(St->Hp->Prop)->Prop
noncomputable def PG (X:Cx) (target:Expr) (t:TG):Prop :=
  ∀ (pins:List (Addr × Obj)) (s:Shared) (σ:St) (H:Hp) (v:V) (u:Value) (Q:St->Hp->Prop),Inv X pins σ H s->RelV v u->t v σ H Q ->
    wpAny (model X.prog X.w) X.A (assign target X.env u) (fun _ s'=>∃ σ' H',Inv X pins σ' H' s' /\ Q σ' H') X.xe s
noncomputable def PGs (X:Cx) (ts:List Expr) (t:TGs):Prop :=
  ∀ (pins:List (Addr × Obj)) (s:Shared) (σ:St) (H:Hp) (vs:List V) (us:List Value) (Q:St->Hp->Prop),Inv X pins σ H s->Vals vs us->t vs σ H Q ->
    wpAny (model X.prog X.w) X.A (assignInOrder ((assignEach ts X.env).map (·.2)) us) (fun _ s'=>∃ σ' H',Inv X pins σ' H' s' /\ Q σ' H') X.xe s
noncomputable abbrev TSet:=V->V->V->Hp->(Hp->Prop)->Prop
noncomputable def PSet (X:Cx) (t:TSet):Prop :=
  ∀ (pins:List (Addr × Obj)) (s:Shared) (σ:St) (H:Hp) (o i v:V) (ov iv u:Value) (Q:Hp->Prop),Inv X pins σ H s->RelV o ov->RelV i iv->RelV v u->t o i v H Q ->
    wpAny (model X.prog X.w) X.A (setItem ov iv u) (fun _ s'=>∃ H',Inv X pins σ H' s' /\ Q H') X.xe s
section
variable {X:Cx} {pos:Pos}
noncomputable def gName (i:Nat):TG:=fun v σ H Q=>Q (σ.set i (some v)) H
theorem pg_name {i:Nat} {x:Str} (hN:X.N.Nodup) (hi:X.N[i]?=some x) (hx:Loc X.env.scope x) (hf:X.fn x=true \/ X.env.scope.names.lookup x=some .local:=by first | exact .inl rfl | exact .inr rfl | assumption):PG X (.Name x pos) (gName i):=by
  intro pins s σ H v u Q I r h
  exact wpAny_assign_Name (store_ok I hN hi hx r (fun s' I'=>⟨_,H,I',h⟩) hf)
noncomputable def gNil:TGs:=fun vs σ H Q=>vs=[] /\ Q σ H
noncomputable def gCons (t:TG) (u:TGs):TGs:=fun vs σ H Q=>∃ v r,vs=v :: r /\ t v σ H fun σ' H'=>u r σ' H' Q
theorem pgs_nil:PGs X [] gNil:=by
  intro pins s σ H vs us Q I r h
  obtain ⟨e,h⟩:=h
  subst e
  cases r
  exact assignInOrder_nil ⟨σ,H,I,h⟩
theorem pgs_cons {e:Expr} {es:List Expr} {t:TG} {u:TGs} (h1:PG X e t) (h2:PGs X es u)
    (hs:(assignEach (e :: es) X.env).map (·.2)=assign e X.env :: (assignEach es X.env).map (·.2):=by rfl):PGs X (e :: es) (gCons t u):=by
  intro pins s σ H vs us Q I r h
  obtain ⟨v,vr,e1,h⟩:=h
  subst e1
  cases r with
  | cons r rr =>
    rw [hs]
    refine assignInOrder_cons (thn (h1 pins s σ H _ _ _ I r h) fun _ s1 ⟨σ1,H1,I1,q1⟩=>?_)
    exact h2 pins s1 σ1 H1 _ _ Q I1 rr q1
noncomputable def gTup (K:PySem.W.Frag) (n:Nat) (t:TGs):TG:=fun v σ H Q=>∃ a xs,v=.ref a /\ SqT K H a xs /\ xs.length=n /\ t xs σ H Q
theorem pg_tup {es:List Expr} {k:Nat} {t:TGs} {n:Nat} (hc:X.calm=true) (h:PGs X es t)
    (hn:(assignEach es X.env).length=n:=by rfl) (hst:(assignEach es X.env).findIdx? (·.1)=none:=by rfl):PG X (.Tuple es k pos) (gTup X.K n t):=by
  intro pins s σ H v u Q I r hw
  obtain ⟨a,xs,e1,hq,hl,hw⟩:=hw
  subst e1
  cases r
  obtain ⟨its,rv,ht,hz⟩:=I.tuple hq
  refine assign_Tuple_tuple (I.ok.hd hc) ht (by simp [hn,<- hl,rv.length]) hst fun h' hx=>?_
  have I1:Inv X pins σ H { s with heap:=h' }:=I.kept (t':=s.toks) fun b o e=>hx b o (Nat.ne_of_lt (Heap.lt_size e)) e
  exact h pins _ σ H xs _ Q I1 (by simpa using rv) hw
noncomputable def gSub (to ti:TE) (t:TSet):TG:=fun v σ H Q=>to σ H fun o H1=>ti σ H1 fun i H2=>t o i v H2 fun H3=>Q σ H3
theorem pg_sub {o i:Expr} {to ti:TE} {t:TSet} (ho:PE X o to) (hi:PE X i ti) (hs:PSet X t)
    (ha:∀ v,assign (.Subscript o i pos) X.env v=(do
      let ov <- holding [v] (eval o X.env)
      let iv <- holding [v,ov] (eval i X.env)
      standAt pos
      holding [v,ov,iv] (setItem ov iv v)
      release [v,ov,iv] []):=by intro _; rfl):PG X (.Subscript o i pos) (gSub to ti t):=by
  intro pins s σ H v u Q I r h
  rw [ha]
  refine wpAny_bind (wpAny_holding (thn (ho pins s σ H _ I h) fun ov s1 ⟨x,H1,I1,r1,q1⟩=>?_))
  refine wpAny_bind (wpAny_holding (thn (hi pins s1 σ H1 _ I1 q1) fun iv s2 ⟨y,H2,I2,r2,q2⟩=>?_))
  refine wpAny_bind (wpAny_standAt (wpAny_bind (wpAny_holding (thn (hs pins s2 σ H2 x y v ov iv u _ I2 r1 r2 r q2) fun _ s3 ⟨H3,I3,q3⟩=>?_))))
  exact wpAny_release ⟨σ,H3,I3,q3⟩
noncomputable def tAsg (te:TE) (g:TG):TS:=fun D σ H=>te σ H fun x H1=>g x σ H1 D.nx
theorem ps_asg {tg e:Expr} {te:TE} {g:TG} (he:PE X e te) (hg:PG X tg g) (hs:swapsWithSole [tg] e pos.line X.env=pure false:=by rfl) (hw:swappedStores [tg] e X.env=pure none:=by rfl)
    (h1:(assignEach [tg] X.env).map (·.2)=[assign tg X.env]:=by rfl):PS X (.Assign [tg] e pos) (tAsg te g):=by
  intro pins s σ H D I h
  refine wpAny_Assign_stores (thn (he pins s σ H _ I h) fun v s1 ⟨x,H1,I1,r1,q1⟩=>?_) hs hw
  rw [h1]
  exact thn (hg pins s1 σ H1 x v _ I1 r1 q1) fun _ s2 q=>q
theorem ps_set {i:Nat} {x:Str} {e:Expr} {te:TE} {pos':Pos} (hN:X.N.Nodup) (hi:X.N[i]?=some x) (hx:Loc X.env.scope x) (he:PE X e te) (hs:swapsWith e (some (.Name x pos')) pos.line X.env=pure false:=by rfl) (hf:X.fn x=true \/ X.env.scope.names.lookup x=some .local:=by first | exact .inl rfl | exact .inr rfl | assumption) :
    PS X (.Assign [.Name x pos'] e pos) (tAsg te (gName i)):=by
  intro pins s σ H D I h
  refine wpAny_Assign_Name (thn (he pins s σ H _ I h) fun v s1 ⟨y,H1,I1,r1,q1⟩=>?_) hs
  exact store_ok I1 hN hi hx r1 (fun s2 I2=>⟨_,H1,I2,q1⟩) hf
end
section
variable {X:Cx} {pos:Pos}
noncomputable def tWhile (c:TT) (tb:TS):TS:=fun D σ H=>∃ W:Nat->St->Hp->Prop,(∃ m,W m σ H) /\ ∀ m σ H,W m σ H ->
  c σ H fun b H1=>if b=true then ∃ N:St->Hp->Prop,(∀ σ' H',N σ' H'->∃ m',m' < m /\ W m' σ' H') /\ tb { D with nx:=N,ct:=N,bk:=D.nx } σ H1 else D.nx σ H1
theorem ps_while {c:Expr} {body:List Stmt} {tc:TT} {tb:TS} (hp:PassesOwn (model X.prog X.w) X.A X.env X.xe) (hc:PT X c tc) (hb:PSs X body tb):PS X (.While c body [] pos) (tWhile tc tb):=by
  intro pins s σ H D I h
  obtain ⟨W,⟨m0,w0⟩,turn⟩:=h
  refine wpAny_While (codeAny_whileLoop (fun n s'=>∃ σ' H',Inv X pins σ' H' s' /\ W n σ' H') ?_ m0 ⟨σ,H,I,w0⟩)
  rintro n s1 ⟨σ1,H1,I1,w1⟩
  refine wpAny_passesOwn hp (thn (hc pins s1 σ1 H1 _ I1 (turn n σ1 H1 w1)) fun b s2 ⟨H2,I2,q2⟩=>?_)
  cases b with
  | true =>
    obtain ⟨N,hN,q2⟩:=q2
    rw [if_pos rfl]
    refine wpAny_passesOwn hp (thn (hb pins s2 σ1 H2 _ I2 q2) fun f s3 q3=>?_)
    cases f with
    | next =>
      obtain ⟨σ3,H3,I3,n3⟩:=q3
      obtain ⟨m',hm,w3⟩:=hN σ3 H3 n3
      exact ⟨m',hm,σ3,H3,I3,w3⟩
    | cont =>
      obtain ⟨σ3,H3,I3,n3⟩:=q3
      obtain ⟨m',hm,w3⟩:=hN σ3 H3 n3
      exact ⟨m',hm,σ3,H3,I3,w3⟩
    | brk=>exact q3
    | ret v=>exact q3
  | false =>
    rw [if_neg Bool.false_ne_true]
    exact wpAny_execs_nil ⟨σ1,H2,I2,q2⟩
end
structure It where
  go:Nat->Hp->Prop
  yld:Nat->Hp->V->Hp->Prop
  stop:Nat->Hp->Prop
noncomputable def FpOk (X:Cx) (pins:List (Addr × Obj)) (H:Hp) (b:Addr):Prop :=
  H b=none /\ b ≠ X.env.locals /\ b ∉ X.fs /\ (b ∈ X.ex \/ X.s₀.heap.objs.size<=b) /\ (∀ x c,X.env.cells.lookup x=some c->c ≠ b) /\ ∀ p ∈ X.pn ++ pins,p.1 ≠ b
theorem Inv.fpOk {X:Cx} {pins:List (Addr × Obj)} {σ:St} {H H':Hp} {s:Shared} {b:Addr} (I:Inv X pins σ H s) (hb:s.heap.objs.size<=b) (hn:H' b=none):FpOk X pins H' b:=by
  refine ⟨hn,Nat.ne_of_gt (Nat.lt_of_lt_of_le I.lt hb),I.nofs hb,.inr (Nat.le_trans I.sz hb),fun x c e z=>?_,fun p hp z=>?_⟩
  · obtain ⟨v,q⟩:=I.cell x c e
    exact absurd (Nat.lt_of_lt_of_le q.lt (by rw [z]; exact hb)) (Nat.lt_irrefl _)
  · exact absurd (Nat.lt_of_lt_of_le (Heap.lt_size (I.pin p hp).1) (by rw [z]; exact hb)) (Nat.lt_irrefl _)
structure Turn (P:Program) (w:World) (K:PySem.W.Frag) (tg:Expr) (J:It) (fp:List Addr) (it:Addr) (tn:Nat->Heap->Prop):Prop where
  mem:it ∈ fp
  obj:∀ i h,tn i h->∀ b ∈ fp,∃ o,h.get? b=some o /\ ∀ v,o.data ≠ .cell v
  keep:∀ i h h',tn i h->(∀ b ∈ fp,∀ o,h.get? b=some o->h'.get? b=some o)->tn i h'
  item:∀ (X:Cx),X.prog=P->X.w=w->X.K=K->X.calm=true->∀ (i:Nat) (pins:List (Addr × Obj)) (s:Shared) (σ:St) (H:Hp) (E:Value->Shared->Prop),Inv X pins σ H s->(∀ b ∈ fp,FpOk X pins H b)->tn i s.heap->J.go i H ->
    wpAny (model P w) X.A (pyNext (.ref it)) (fun r s1=>∃ u,r=some u /\
      wpAny (model P w) X.A (letOwnedTupleGo tg (.ref it) u) (fun _ s2=>∃ x H',Inv X pins σ H' s2 /\ RelV x u /\ J.yld i H x H' /\ tn (i + 1) s2.heap /\ ∀ b ∈ fp,H' b=none) E s1) E s
  done:∀ (X:Cx),X.prog=P->X.w=w->X.K=K->X.calm=true->∀ (i:Nat) (pins:List (Addr × Obj)) (s:Shared) (σ:St) (H:Hp) (E:Value->Shared->Prop),Inv X pins σ H s->(∀ b ∈ fp,FpOk X pins H b)->tn i s.heap->J.stop i H ->
    wpAny (model P w) X.A (pyNext (.ref it)) (fun r s1=>r=none /\ Inv X pins σ H s1) E s
  self:∀ (A:Around) (i:Nat) (s:Shared) (Q:Value->Shared->Prop) (E:Value->Shared->Prop),tn i s.heap->Q (.ref it) s->wpAny (model P w) A (pyIter (.ref it)) Q E s
noncomputable abbrev TI:=St->Hp->(It->Hp->Prop)->Prop
noncomputable def PIE (X:Cx) (pins:List (Addr × Obj)) (σ:St) (tg:Expr) (R:It->Hp->Prop) (itv:Value) (s2:Shared):Prop :=
  ∃ (it:Addr) (fp:List Addr) (tn:Nat->Heap->Prop) (J:It) (H':Hp),itv=.ref it /\ Inv X pins σ H' s2 /\ Turn X.prog X.w X.K tg J fp it tn /\ tn 0 s2.heap /\ (∀ b ∈ fp,FpOk X pins H' b) /\ R J H'
noncomputable def PI (X:Cx) (tg iter:Expr) (wi:TI):Prop :=
  ∀ (pins:List (Addr × Obj)) (s:Shared) (σ:St) (H:Hp) (R:It->Hp->Prop),Inv X pins σ H s->wi σ H R ->
    wpAny (model X.prog X.w) X.A (eval iter X.env) (fun v s1=>wpAny (model X.prog X.w) X.A (pyIter v) (PIE X pins σ tg R) X.xe s1) X.xe s
theorem go_of {M:Model} {A:Around} {E:Value->Shared->Prop} {s:Shared} {tg:Expr} {it:Addr} {u:Value} {o:Obj} {n:String} {vs:Array Value} {Q:Unit->Shared->Prop} (ho:s.heap.get? it=some o) (hc:o.cls=.type n) (hd:o.data=.fields vs)
    (hn:["enumerate","zip","dict_itemiterator","dict_reverseitemiterator","odict_iterator","itertools.zip_longest","itertools.pairwise"].contains n=false) (hQ:Q () s):wpAny M A (letOwnedTupleGo tg (.ref it) u) Q E s:=by
  unfold letOwnedTupleGo
  cases tg <;> first
    | exact wpAny_pure hQ
    | (cases u <;> first
        | exact wpAny_pure hQ
        | (refine wpAny_bind (wpAny_load ho ?_)
           rw [hc,hd]
           show wpAny M A (if (["enumerate","zip","dict_itemiterator","dict_reverseitemiterator","odict_iterator","itertools.zip_longest","itertools.pairwise"].contains n && vs[0]? == some (rawInt _))=true then _ else _) Q E s
           rw [if_neg (by intro h; rw [hn,Bool.false_and] at h; cases h)]
           exact wpAny_pure hQ))
noncomputable def Itl (K:PySem.W.Frag) (a:Addr):It :=
  ⟨fun i H=>∃ xs x,SqL K H a xs /\ xs[i]?=some x,fun i H x H'=>H'=H /\ ∀ xs,SqL K H a xs->xs[i]?=some x,fun i H=>∃ xs,SqL K H a xs /\ xs.length<=i⟩
noncomputable def Itt (K:PySem.W.Frag) (a:Addr):It :=
  ⟨fun i H=>∃ xs x,SqT K H a xs /\ xs[i]?=some x,fun i H x H'=>H'=H /\ ∀ xs,SqT K H a xs->xs[i]?=some x,fun i H=>∃ xs,SqT K H a xs /\ xs.length<=i⟩
noncomputable def Itr (lo:Int) (n:Nat):It:=⟨fun i _=>i < n,fun i H x H'=>H'=H /\ x=.int (lo + i),fun i _=>n<=i⟩
theorem turn_list {P:Program} {w:World} {K:PySem.W.Frag} {tg:Expr} (a it:Addr):Turn P w K tg (Itl K a) [it] it (fun i h=>h.IsListIter it a i) where
  mem:=by simp
  obj:=fun i h st b hb=>by
    have e:b=it:=by simpa using hb
    subst e
    obtain ⟨o,e,c,d⟩:=st
    exact ⟨o,e,fun v z=>by rw [d] at z; cases z⟩
  keep:=fun i h h' st k=>st.at fun o e=>k it (by simp) o e
  item:=by
    intro X hP hw hK hc i pins s σ H E I hf st hg
    subst hP hw hK
    obtain ⟨xs,x,hq,hx⟩:=hg
    obtain ⟨its,rv,p,hz⟩:=I.list hq
    obtain ⟨u,hu,ru⟩:=rv.get hx
    obtain ⟨f0,f1,f2,f3,f4,f5⟩:=hf it (by simp)
    refine wpAny_pyNext_list_item st p.isList (x:=u) (by simpa using hu) fun h' st' sb=>?_
    have I1:Inv X pins σ H { s with heap:=h' }:=I.turned (t':=s.toks) (fun b o hb e=>(sb.2 b hb).trans e) f0 f1 f3 f4 f5
    obtain ⟨o,e,c,d⟩:=id st'
    exact ⟨u,rfl,go_of (s:={ s with heap:=h' }) e c d (by decide) ⟨x,H,I1,ru,⟨rfl,fun ys hy=>by rw [I.list_inj hy hq]; exact hx⟩,st',fun b hb=>(hf b hb).1⟩⟩
  done:=by
    intro X hP hw hK hc i pins s σ H E I hf st hg
    subst hP hw hK
    obtain ⟨xs,hq,hx⟩:=hg
    obtain ⟨its,rv,p,hz⟩:=I.list hq
    obtain ⟨f0,f1,f2,f3,f4,f5⟩:=hf it (by simp)
    have hl:=rv.length
    exact wpAny_pyNext_list_end (I.ok.hd hc) st p.isList (by simp; omega) fun h' eb=>⟨rfl,I.turned (t':=s.toks) (fun b o hb e=>eb b o hb e) f0 f1 f3 f4 f5⟩
  self:=fun _ _ _ _ _ st h=>wpAny_pyIter_listiter st h
theorem turn_tuple {P:Program} {w:World} {K:PySem.W.Frag} {tg:Expr} (a it:Addr):Turn P w K tg (Itt K a) [it] it (fun i h=>h.IsTupleIter it a i) where
  mem:=by simp
  obj:=fun i h st b hb=>by
    have e:b=it:=by simpa using hb
    subst e
    obtain ⟨o,e,c,d⟩:=st
    exact ⟨o,e,fun v z=>by rw [d] at z; cases z⟩
  keep:=fun i h h' st k=>st.at fun o e=>k it (by simp) o e
  item:=by
    intro X hP hw hK hc i pins s σ H E I hf st hg
    subst hP hw hK
    obtain ⟨xs,x,hq,hx⟩:=hg
    obtain ⟨its,rv,p,hz⟩:=I.tuple hq
    obtain ⟨u,hu,ru⟩:=rv.get hx
    obtain ⟨f0,f1,f2,f3,f4,f5⟩:=hf it (by simp)
    refine wpAny_pyNext_tuple_item st (show s.heap.IsTuple a its.toArray from p) (x:=u) (by simpa using hu) fun h' st' sb=>?_
    have I1:Inv X pins σ H { s with heap:=h' }:=I.turned (t':=s.toks) (fun b o hb e=>(sb.2 b hb).trans e) f0 f1 f3 f4 f5
    obtain ⟨o,e,c,d⟩:=id st'
    exact ⟨u,rfl,go_of (s:={ s with heap:=h' }) e c d (by decide) ⟨x,H,I1,ru,⟨rfl,fun ys hy=>by rw [I.tuple_inj hy hq]; exact hx⟩,st',fun b hb=>(hf b hb).1⟩⟩
  done:=by
    intro X hP hw hK hc i pins s σ H E I hf st hg
    subst hP hw hK
    obtain ⟨xs,hq,hx⟩:=hg
    obtain ⟨its,rv,p,hz⟩:=I.tuple hq
    obtain ⟨f0,f1,f2,f3,f4,f5⟩:=hf it (by simp)
    have hl:=rv.length
    exact wpAny_pyNext_tuple_end (I.ok.hd hc) st (show s.heap.IsTuple a its.toArray from p) (by simp; omega) fun h' eb=>⟨rfl,I.turned (t':=s.toks) (fun b o hb e=>eb b o hb e) f0 f1 f3 f4 f5⟩
  self:=fun _ _ _ _ _ st h=>wpAny_pyIter_tupleiter st h
theorem turn_range {P:Program} {w:World} {K:PySem.W.Frag} {tg:Expr} (it:Addr) (lo:Int) (n:Nat):Turn P w K tg (Itr lo n) [it] it (fun i h=>IsRangeIter h it (lo + (i:Nat) * 1) ((n:Int) - (i:Nat)) 1) where
  mem:=by simp
  obj:=fun i h st b hb=>by
    have e:b=it:=by simpa using hb
    subst e
    exact ⟨_,st,fun v z=>by
      have z':Data.fields _=Data.cell v:=z
      cases z'⟩
  keep:=fun i h h' st k=>k it (by simp) _ st
  item:=by
    intro X hP hw hK hc i pins s σ H E I hf st hg
    subst hP hw hK
    obtain ⟨f0,f1,f2,f3,f4,f5⟩:=hf it (by simp)
    have W:=Walks.range (prog:=X.prog) (w:=X.w) (I.ok.hd hc) it lo 1 n
    refine W.item i s _ _ hg st fun v h' tk hv st' kk=>?_
    obtain ⟨t,rfl⟩:=hv
    have I1:Inv X pins σ H { s with heap:=h',toks:=tk }:=I.turned (fun b o hb e=>kk b o (by simpa using hb) e) f0 f1 f3 f4 f5
    refine ⟨_,rfl,go_of (s:={ s with heap:=h',toks:=tk }) (n:="range_iterator") st' rfl rfl (by decide) ⟨.int (lo + i),H,I1,⟨t,?_⟩,⟨rfl,rfl⟩,st',fun b hb=>(hf b hb).1⟩⟩
    rw [Int.mul_one]
  done:=by
    intro X hP hw hK hc i pins s σ H E I hf st hg
    subst hP hw hK
    obtain ⟨f0,f1,f2,f3,f4,f5⟩:=hf it (by simp)
    exact wpAny_pyNext_range_end (I.ok.hd hc) st (by have:n<=i:=hg; omega) fun h' eb=>⟨rfl,I.turned (t':=s.toks) (fun b o hb e=>eb b o hb e) f0 f1 f3 f4 f5⟩
  self:=fun _ _ _ _ _ st h=>wpAny_pyIter_rangeiter st h
end L2
namespace L2
open PySem PySem.Spec PyProof.Rows
section
variable {X:Cx} {tg:Expr}
noncomputable def iList (K:PySem.W.Frag) (tl:TE):TI:=fun σ H R=>tl σ H fun x H1=>∃ a,x=.ref a /\ (∃ xs,SqL K H1 a xs) /\ R (Itl K a) H1
theorem pi_list {l:Expr} {tl:TE} (hl:PE X l tl):PI X tg l (iList X.K tl):=by
  intro pins s σ H R I h
  refine thn (hl pins s σ H _ I h) fun v s1 ⟨x,H1,I1,r1,q1⟩=>?_
  obtain ⟨a,e,⟨xs,hq⟩,q⟩:=q1
  subst e
  cases r1
  obtain ⟨its,rv,p,hz⟩:=I1.list hq
  refine wpAny_pyIter_list p.isList ?_
  refine ⟨s1.heap.objs.size,[s1.heap.objs.size],_,_,H1,rfl,I1.kept (t':=s1.toks) fun b o e=>Heap.get?_push_of_some _ e,turn_list a _,⟨_,Heap.get?_push_size _ rfl,rfl,rfl⟩,fun b hb=>?_,q⟩
  have e:b=s1.heap.objs.size:=by simpa using hb
  subst e
  exact I1.fpOk (Nat.le_refl _) (I1.hok.fresh (Nat.le_refl _))
theorem range_it {pins:List (Addr × Obj)} {σ:St} {H:Hp} {s:Shared} {R:It->Hp->Prop} {E:Value->Shared->Prop} {lo hi:Int} {t u v:Tok} {tk:Nat} (I:Inv X pins σ H s) (h1:-(2 ^ 62)<=lo) (h2:lo < 2 ^ 62) (h3:-(2 ^ 62)<=hi) (h4:hi < 2 ^ 62)
    (q:R (Itr lo (hi - lo).toNat) H):wpAny (model X.prog X.w) X.A (pyIter (.ref s.heap.objs.size)) (PIE X pins σ tg R) E { s with heap:=s.heap.push { cls:=.type "range",data:=.fields #[.int lo t,.int hi u,.int 1 v] },toks:=tk }:=by
  refine wpAny_pyIter_range (IsRange.new ..) (small_one h1 h2 h3 h4) ?_
  have I1:Inv X pins σ H { s with heap:=s.heap.push { cls:=.type "range",data:=.fields #[.int lo t,.int hi u,.int 1 v] },toks:=tk }:=I.kept fun b o e=>Heap.get?_push_of_some _ e
  refine ⟨(s.heap.push { cls:=.type "range",data:=.fields #[.int lo t,.int hi u,.int 1 v] }).objs.size,[(s.heap.push { cls:=.type "range",data:=.fields #[.int lo t,.int hi u,.int 1 v] }).objs.size],_,_,H,rfl,
    I1.kept (t':=tk) fun b o e=>Heap.get?_push_of_some _ e,turn_range _ lo (hi - lo).toNat,?_,fun b hb=>?_,q⟩
  · have e1:lo + ((0:Nat):Int) * 1=lo:=by simp
    have e2:(((hi - lo).toNat:Nat):Int) - ((0:Nat):Int)=Builtin.Range.rangeSize lo hi 1:=by rw [rangeSize_one]; split <;> omega
    show IsRangeIter _ _ (lo + ((0:Nat):Int) * 1) ((((hi - lo).toNat:Nat):Int) - ((0:Nat):Int)) 1
    rw [e1,e2]
    exact Heap.get?_push_size _ rfl
  · have e:b=(s.heap.push { cls:=.type "range",data:=.fields #[.int lo t,.int hi u,.int 1 v] }).objs.size:=by simpa using hb
    subst e
    exact I1.fpOk (Nat.le_refl _) (I1.hok.fresh (Nat.le_refl _))
noncomputable def iRng1 (ta:TA):TI:=fun σ H R=>ta σ H fun vs H1=>∃ j:Int,vs=[.int j] /\ -(2 ^ 62)<=j /\ j < 2 ^ 62 /\ R (Itr 0 j.toNat) H1
theorem pi_range1 {a:Expr} {ta:TA} {p pos:Pos} (hg:Gl X "range") (hm:X.mg "range"=none) (ha:PA X [a] ta) (hs:starEach [a] X.env=[(false,eval a X.env)]:=by rfl):PI X tg (.Call (.Name "range" p) [a] [] pos) (iRng1 ta):=by
  intro pins s σ H R I h
  refine Call_ (ld_blt I hg hm boot_range (PyProof.Rows.callWith_type1 (thn (ha pos pins s σ H _ I h) fun us s1 ⟨vs,H1,I1,r1,q1⟩=>?_) hs rfl))
  obtain ⟨j,e,q1,q2,q⟩:=q1
  subst e
  cases r1 with
  | cons r rr =>
    cases rr
    obtain ⟨t,rfl⟩:=r
    exact call_range_1 (range_it I1 (by omega) (by omega) q1 q2 (by simpa using q))
noncomputable def tFor (wi:TI) (g:TG) (tb:TS):TS:=fun D σ H=>wi σ H fun J H1=>∃ W:Nat->Nat->St->Hp->Prop,(∃ m,W 0 m σ H1) /\ ∀ i m σ H,W i m σ H ->
  (J.stop i H /\ D.nx σ H) \/ (J.go i H /\ ∃ N:St->Hp->Prop,(∀ σ' H',N σ' H'->∃ m',m' < m /\ W (i + 1) m' σ' H') /\ ∀ x H',J.yld i H x H'->g x σ H' fun σ2 H2=>tb { D with nx:=N,ct:=N,bk:=D.nx } σ2 H2)
noncomputable def pinsAt (fp:List Addr) (h:Heap):List (Addr × Obj):=fp.filterMap fun b=>(h.get? b).map fun o=>(b,o)
theorem mem_pinsAt {fp:List Addr} {h:Heap} {b:Addr} {o:Obj} (hb:b ∈ fp) (e:h.get? b=some o):(b,o) ∈ pinsAt fp h:=List.mem_filterMap.mpr ⟨b,hb,by rw [e]; rfl⟩
theorem of_pinsAt {fp:List Addr} {h:Heap} {p:Addr × Obj} (hp:p ∈ pinsAt fp h):p.1 ∈ fp /\ h.get? p.1=some p.2:=by
  obtain ⟨b,hb,e⟩:=List.mem_filterMap.mp hp
  cases q:h.get? b with
  | none=>rw [q] at e; cases e
  | some o =>
    rw [q] at e
    have e':(b,o)=p:=Option.some.inj e
    subst e'
    exact ⟨hb,q⟩
theorem Inv.pinned {pins:List (Addr × Obj)} {σ:St} {H:Hp} {s:Shared} {fp:List Addr} (I:Inv X pins σ H s) (hf:∀ b ∈ fp,FpOk X pins H b) (ho:∀ b ∈ fp,∃ o,s.heap.get? b=some o /\ ∀ v,o.data ≠ .cell v):Inv X (pins ++ pinsAt fp s.heap) σ H s :=
  I.pins_of fun p hp=>(List.mem_append.mp hp).elim (fun z=>I.pin p (List.mem_append_right _ z)) fun z=>by
    obtain ⟨hb,e⟩:=of_pinsAt z
    obtain ⟨f0,f1,f2,_⟩:=hf p.1 hb
    obtain ⟨o,e',d⟩:=ho p.1 hb
    rw [e] at e'; cases e'
    exact ⟨e,f0,f1,f2,d⟩
theorem Inv.unpinned {pins pl:List (Addr × Obj)} {σ:St} {H:Hp} {s:Shared} (I:Inv X (pins ++ pl) σ H s):Inv X pins σ H s:=I.pins_of fun p hp=>I.pin p (List.mem_append_right _ (List.mem_append_left _ hp))
theorem ps_for {iter:Expr} {body:List Stmt} {wi:TI} {g:TG} {tb:TS} {pos:Pos} (hp:PassesOwn (model X.prog X.w) X.A X.env X.xe) (hc:X.calm=true) (hi:PI X tg iter wi) (hg:PG X tg g) (hb:PSs X body tb)
    (hs:∀ x,foldedSetIterable iter X.env x=pure x:=by intro _; rfl):PS X (.For tg iter body [] pos) (tFor wi g tb):=by
  intro pins s σ H D I h
  refine wpAny_For (thn (hi pins s σ H _ I h) fun v s1 h1=>thn h1 fun itv s2 h2=>?_) hs
  obtain ⟨it,fp,tn,J,H2,e,I2,T,st2,f2,W,⟨m0,w0⟩,turn⟩:=h2
  subst e
  have stat:∀ {H':Hp},(∀ b ∈ fp,H' b=none)->∀ b ∈ fp,FpOk X pins H' b:=fun hn b hb=>⟨hn b hb,(f2 b hb).2⟩
  refine codeAny_forLoop_any (fun n s'=>∃ i σ' H',Inv X pins σ' H' s' /\ tn i s'.heap /\ (∀ b ∈ fp,H' b=none) /\ W i n σ' H') ?_ m0 ⟨0,σ,H2,I2,st2,fun b hb=>(f2 b hb).1,w0⟩
  rintro n s3 ⟨i,σ3,H3,I3,st3,fr3,w3⟩
  rcases turn i n σ3 H3 w3 with ⟨stop,qn⟩ | ⟨go,N,hN,step⟩
  · refine wpAny_passesOwn hp (thn (T.done X rfl rfl rfl hc i pins s3 σ3 H3 X.xe I3 (stat fr3) st3 stop) fun r s4 ⟨hr,I4⟩=>?_)
    subst hr
    exact wpAny_execs_nil ⟨σ3,H3,I4,qn⟩
  · refine wpAny_passesOwn hp (thn (T.item X rfl rfl rfl hc i pins s3 σ3 H3 X.xe I3 (stat fr3) st3 go) fun r s4 ⟨u,hr,h4⟩=>?_)
    subst hr
    refine wpAny_passesOwn hp (thn h4 fun _ s5 ⟨x,H5,I5,r5,y5,st5,fr5⟩=>?_)
    have I5':=I5.pinned (stat fr5) (T.obj _ _ st5)
    refine wpAny_passesOwn hp (thn (hg _ s5 σ3 H5 x u _ I5' r5 (step x H5 y5)) fun _ s6 ⟨σ6,H6,I6,q6⟩=>?_)
    refine wpAny_passesOwn hp (thn (hb _ s6 σ6 H6 _ I6 q6) fun f s7 q7=>?_)
    have again:∀ {σ7:St} {H7:Hp},Inv X (pins ++ pinsAt fp s5.heap) σ7 H7 s7->N σ7 H7->∃ m,m < n /\ ∃ i σ' H',Inv X pins σ' H' s7 /\ tn i s7.heap /\ (∀ b ∈ fp,H' b=none) /\ W i m σ' H':=fun {σ7 H7} I7 n7=>by
      obtain ⟨m',hm,w7⟩:=hN σ7 H7 n7
      refine ⟨m',hm,i + 1,σ7,H7,I7.unpinned,T.keep _ _ _ st5 fun b hb o e=>(I7.pin (b,o) (List.mem_append_right _ (List.mem_append_right _ (mem_pinsAt hb e)))).1,fun b hb=>?_,w7⟩
      obtain ⟨o,e,d⟩:=T.obj _ _ st5 b hb
      exact (I7.pin (b,o) (List.mem_append_right _ (List.mem_append_right _ (mem_pinsAt hb e)))).2.1
    cases f with
    | next=>obtain ⟨σ7,H7,I7,n7⟩:=q7; exact again I7 n7
    | cont=>obtain ⟨σ7,H7,I7,n7⟩:=q7; exact again I7 n7
    | brk=>obtain ⟨σ7,H7,I7,q7⟩:=q7; exact ⟨σ7,H7,I7.unpinned,q7⟩
    | ret v=>obtain ⟨x7,σ7,H7,I7,r7,q7⟩:=q7; exact ⟨x7,σ7,H7,I7.unpinned,r7,q7⟩
end
end L2
namespace L2
open PySem PySem.Spec PyProof.Rows
noncomputable abbrev R2:=V->V->Hp->VK->Prop
noncomputable def OpR (X:Cx) (f:Value->Value->Sem Value) (r:R2):Prop :=
  ∀ (pins:List (Addr × Obj)) (s:Shared) (σ:St) (H:Hp) (x y:V) (v u:Value) (Q:VK),Inv X pins σ H s->RelV x v->RelV y u->r x y H Q ->
    wpAny (model X.prog X.w) X.A (f v u) (EP X pins σ Q) X.xe s
noncomputable def UnR (X:Cx) (f:Value->Sem Value) (r:V->Hp->VK->Prop):Prop :=
  ∀ (pins:List (Addr × Obj)) (s:Shared) (σ:St) (H:Hp) (x:V) (v:Value) (Q:VK),Inv X pins σ H s->RelV x v->r x H Q ->
    wpAny (model X.prog X.w) X.A (f v) (EP X pins σ Q) X.xe s
noncomputable def CallR (X:Cx) (f:Value) (r:List V->Hp->VK->Prop):Prop :=
  ∀ (pins:List (Addr × Obj)) (s:Shared) (σ:St) (H:Hp) (xs:List V) (us:List Value) (Q:VK),Inv X pins σ H s->Vals xs us->r xs H Q ->
    wpAny (model X.prog X.w) X.A (call f us) (EP X pins σ Q) X.xe s
noncomputable def tOp (r:R2) (ta tb:TE):TE:=fun σ H Q=>ta σ H fun x H1=>tb σ H1 fun y H2=>r x y H2 Q
noncomputable def tUn (r:V->Hp->VK->Prop) (ta:TE):TE:=fun σ H Q=>ta σ H fun x H1=>r x H1 Q
noncomputable def rI (C:Int->Int->Prop) (g:Int->Int->V):R2:=fun x y H Q=>∃ i j,x=.int i /\ y=.int j /\ C i j /\ Q (g i j) H
noncomputable def rI0 (g:Int->Int->V):R2:=fun x y H Q=>∃ i j,x=.int i /\ y=.int j /\ Q (g i j) H
noncomputable def rU (g:Int->V):V->Hp->VK->Prop:=fun x H Q=>∃ i,x=.int i /\ Q (g i) H
section
variable {X:Cx} {a b c:Expr} {ta tb tc:TE} {pos:Pos}
theorem binT (ha:PE X a ta) (hb:PE X b tb) {pins:List (Addr × Obj)} {s:Shared} {σ:St} {H:Hp} {R:V->V->Hp->Prop} (I:Inv X pins σ H s)
    (h:ta σ H fun x H1=>tb σ H1 fun y H2=>R x y H2) {Q:Value->Shared->Prop} {f:Value->Value->Sem Value}
    (hf:∀ v u s2 x y H2,Inv X pins σ H2 s2->RelV x v->RelV y u->R x y H2->wpAny (model X.prog X.w) X.A (f v u) Q X.xe s2) :
    wpAny (model X.prog X.w) X.A (eval a X.env) (fun v s₁=>wpAny (model X.prog X.w) X.A (eval b X.env) (fun u s₂=>wpAny (model X.prog X.w) X.A (f v u) Q X.xe s₂) X.xe s₁) X.xe s:=by
  refine thn (ha pins s σ H _ I h) fun v s1 ⟨x,H1,I1,r1,q1⟩=>?_
  refine thn (hb pins s1 σ H1 _ I1 q1) fun u s2 ⟨y,H2,I2,r2,q2⟩=>?_
  exact hf v u s2 x y H2 I2 r1 r2 q2
theorem pe_op {op:Operator} {r:R2} (ho:OpR X (binaryOp op) r) (ha:PE X a ta) (hb:PE X b tb):PE X (.BinOp a op b pos) (tOp r ta tb):=by
  intro pins s σ H Q I h
  exact wpAny_BinOp (binT ha hb I h fun v u s2 x y H2 I2 rx ry q=>ho pins s2 σ H2 x y v u Q I2 rx ry q)
theorem pe_un {op:UnaryOp} {r:V->Hp->VK->Prop} (ho:UnR X (unaryOp op) r) (ha:PE X a ta):PE X (.UnaryOp op a pos) (tUn r ta):=by
  intro pins s σ H Q I h
  exact UnaryOp_ (thn (ha pins s σ H _ I h) fun v s1 ⟨x,H1,I1,r1,q1⟩=>ho pins s1 σ H1 x v Q I1 r1 q1)
theorem opI {f:Value->Value->Sem Value} {C:Int->Int->Prop} {g:Int->Int->Int}
    (rule:∀ (i j:Int) (t u:Tok) (s:Shared) (Q:Value->Shared->Prop) (E:Value->Shared->Prop),C i j->Q (.int (g i j) s.toks) { s with toks:=s.toks + 1 }->wpAny (model X.prog X.w) X.A (f (.int i t) (.int j u)) Q E s) :
    OpR X f (rI C fun i j=>.int (g i j)):=by
  intro pins s σ H x y v u Q I rx ry h
  obtain ⟨i,j,rfl,rfl,hc,q⟩:=h
  obtain ⟨t,rfl⟩:=rx
  obtain ⟨t',rfl⟩:=ry
  exact rule i j t t' s _ _ hc ⟨.int (g i j),H,I.tok _,⟨_,rfl⟩,q⟩
theorem opI0 {f:Value->Value->Sem Value} {g:Int->Int->Int}
    (rule:∀ (i j:Int) (t u:Tok) (s:Shared) (Q:Value->Shared->Prop) (E:Value->Shared->Prop),Q (.int (g i j) s.toks) { s with toks:=s.toks + 1 }->wpAny (model X.prog X.w) X.A (f (.int i t) (.int j u)) Q E s) :
    OpR X f (rI0 fun i j=>.int (g i j)):=by
  intro pins s σ H x y v u Q I rx ry h
  obtain ⟨i,j,rfl,rfl,q⟩:=h
  obtain ⟨t,rfl⟩:=rx
  obtain ⟨t',rfl⟩:=ry
  exact rule i j t t' s _ _ ⟨.int (g i j),H,I.tok _,⟨_,rfl⟩,q⟩
theorem opB0 {f:Value->Value->Sem Value} {g:Int->Int->Bool}
    (rule:∀ (i j:Int) (t u:Tok) (s:Shared) (Q:Value->Shared->Prop) (E:Value->Shared->Prop),Q (.bool (g i j)) s->wpAny (model X.prog X.w) X.A (f (.int i t) (.int j u)) Q E s) :
    OpR X f (rI0 fun i j=>.bl (g i j)):=by
  intro pins s σ H x y v u Q I rx ry h
  obtain ⟨i,j,rfl,rfl,q⟩:=h
  obtain ⟨t,rfl⟩:=rx
  obtain ⟨t',rfl⟩:=ry
  exact rule i j t t' s _ _ ⟨.bl (g i j),H,I,rfl,q⟩
noncomputable def CDiv (i j:Int):Prop:=0 < j /\ j < 1073741824
noncomputable def CPow (i j:Int):Prop:=0<=j /\ j<=1000000 /\ i.natAbs < 2 ^ 64
noncomputable def CMul (i j:Int):Prop:=(-(2 ^ 64) < i /\ i < 2 ^ 64) \/ (-(2 ^ 64) < j /\ j < 2 ^ 64)
theorem CMul.ok {i j:Int} (h:CMul i j):IntMulOk i j:=by
  rcases h with ⟨h1,h2⟩ | ⟨h1,h2⟩
  · exact .of_left (intBits_le_64 h1 h2)
  · exact .of_right (intBits_le_64 h1 h2)
theorem two_pow_nn (k:Nat):(0:Int)<=2 ^ k:=by
  rw [two_pow_cast]
  exact Int.natCast_nonneg _
theorem op_add:OpR X (binaryOp .Add) (rI0 fun i j=>.int (i + j)):=opI0 fun _ _ _ _ _ _ _ q=>add_int q
theorem op_sub:OpR X (binaryOp .Sub) (rI0 fun i j=>.int (i - j)):=opI0 fun _ _ _ _ _ _ _ q=>sub_int q
theorem op_fdiv:OpR X (binaryOp .FloorDiv) (rI CDiv fun i j=>.int (i / j)):=opI fun i j _ _ _ _ _ hc q=>by
  have h1:(0:Int) < j:=hc.1
  have h2:j < 1073741824:=hc.2
  exact floordiv_int (by omega) (by rw [Int.fdiv_eq_ediv_of_nonneg i (by omega)]; exact q) (.inl (PyProof.noPylong_small (by omega)))
theorem op_mod:OpR X (binaryOp .Mod) (rI (fun _ j=>0 < j) fun i j=>.int (i % j)):=opI fun i j _ _ _ _ _ hc q=>by
  have h1:(0:Int) < j:=hc
  exact mod_int' (by omega) (by rw [Int.fmod_eq_emod_of_nonneg i (by omega)]; exact q)
theorem op_pow:OpR X (binaryOp .Pow) (rI CPow fun i j=>.int (i ^ j.toNat)):=opI fun _ _ _ _ _ _ _ hc q=>pow_int_small hc.1 hc.2.1 hc.2.2 q
theorem op_shr:OpR X (binaryOp .RShift) (rI (fun _ j=>0<=j) fun i j=>.int (i / 2 ^ j.toNat)):=opI fun i j _ _ _ _ _ hc q =>
  rshift_int hc (by rw [Int.fdiv_eq_ediv_of_nonneg i (two_pow_nn _)]; exact q)
theorem op_and:OpR X (binaryOp .BitAnd) (rI0 fun i j=>.int (Builtin.bitAnd i j)):=opI0 fun _ _ _ _ _ _ _ q=>and_int q
theorem op_or:OpR X (binaryOp .BitOr) (rI0 fun i j=>.int (Builtin.bitOr i j)):=opI0 fun _ _ _ _ _ _ _ q=>or_int q
theorem unI {f:Value->Sem Value} {g:Int->Int}
    (rule:∀ (i:Int) (t:Tok) (s:Shared) (Q:Value->Shared->Prop) (E:Value->Shared->Prop),Q (.int (g i) s.toks) { s with toks:=s.toks + 1 }->wpAny (model X.prog X.w) X.A (f (.int i t)) Q E s) :
    UnR X f (rU fun i=>.int (g i)):=by
  intro pins s σ H x v Q I rx h
  obtain ⟨i,rfl,q⟩:=h
  obtain ⟨t,rfl⟩:=rx
  exact rule i t s _ _ ⟨.int (g i),H,I.tok _,⟨_,rfl⟩,q⟩
theorem un_neg:UnR X (unaryOp .USub) (rU fun i=>.int (-i)):=unI fun _ _ _ _ _ q=>neg_int q
theorem un_inv:UnR X (unaryOp .Invert) (rU fun i=>.int (Builtin.bitNot i)):=unI fun _ _ _ _ _ q=>invert_int q
end
section
variable {X:Cx} {a b c:Expr} {ta tb tc:TE} {pos:Pos}
theorem fin_bl {pins:List (Addr × Obj)} {σ:St} {H:Hp} {s:Shared} {Q:VK} {k k':Bool} (I:Inv X pins σ H s) (q:Q (.bl k) H) (e:k=k'):EP X pins σ Q (.bool k') s:=by
  subst e
  exact ⟨.bl k,H,I,rfl,q⟩
theorem op_lt:OpR X (compareOp .Lt) (rI0 fun i j=>.bl (decide (i < j))):=opB0 fun _ _ _ _ _ _ _ q=>lt_int q
theorem op_le:OpR X (compareOp .LtE) (rI0 fun i j=>.bl (decide (i<=j))):=opB0 fun _ _ _ _ _ _ _ q=>le_int q
theorem op_gt:OpR X (compareOp .Gt) (rI0 fun i j=>.bl (decide (j < i))):=opB0 fun _ _ _ _ _ _ _ q=>gt_int q
theorem op_ge:OpR X (compareOp .GtE) (rI0 fun i j=>.bl (decide (j<=i))):=opB0 fun _ _ _ _ _ _ _ q=>ge_int q
theorem op_in_str:OpR X (compareOp .In) (fun x y H Q=>∃ i j,x=.str i /\ y=.str j /\ Q (.bl (!(Builtin.Str.occurrences j i 0 j.length 1).isEmpty)) H):=by
  intro pins s σ H x y v u Q I rx ry h
  obtain ⟨i,j,rfl,rfl,q⟩:=h
  obtain ⟨t,rfl⟩:=rx
  obtain ⟨t',rfl⟩:=ry
  exact in_str (fin_bl I q rfl)
theorem OpR.or {f:Value->Value->Sem Value} {r r':R2} (h:OpR X f r) (h':OpR X f r'):OpR X f (fun x y H Q=>r x y H Q \/ r' x y H Q):=by
  intro pins s σ H x y v u Q I rx ry q
  rcases q with q | q
  · exact h pins s σ H x y v u Q I rx ry q
  · exact h' pins s σ H x y v u Q I rx ry q
theorem nomark (b:Expr) {op:CmpOp} (h:op ≠ .In:=by decide) (h2:op ≠ .NotIn:=by decide):behindInMarks op b=false:=by
  have e1:(op == CmpOp.In)=false:=by cases op <;> first | rfl | exact absurd rfl h
  have e2:(op == CmpOp.NotIn)=false:=by cases op <;> first | rfl | exact absurd rfl h2
  cases b <;> simp [behindInMarks,e1,e2]
theorem pe_cmpR {op:CmpOp} {r:R2} (ho:OpR X (compareOp op) r) (ha:PE X a ta) (hb:PE X b tb) (hm:behindInMarks op b=false):PE X (.Compare a [op] [b] pos) (tOp r ta tb):=by
  intro pins s σ H Q I h
  exact wpAny_Compare1 (binT ha hb I h fun v u s2 x y H2 I2 rx ry q=>ho pins s2 σ H2 x y v u Q I2 rx ry q) hm
noncomputable def tTest (t:TE):TT:=fun σ H Q=>t σ H fun x H'=>∃ k,x=.bl k /\ Q k H'
theorem pt_cmpR {op:CmpOp} {r:R2} (ho:OpR X (compareOp op) r) (ha:PE X a ta) (hb:PE X b tb) (hm:behindInMarks op b=false):PT X (.Compare a [op] [b] pos) (tTest (tOp r ta tb)):=by
  intro pins s σ H Q I h
  refine wpAny_isTrue_Compare1 (thn (ha pins s σ H _ I h) fun v s1 ⟨x,H1,I1,r1,q1⟩=>thn (hb pins s1 σ H1 _ I1 q1) fun u s2 ⟨y,H2,I2,r2,q2⟩ =>
    thn (ho pins s2 σ H2 x y v u _ I2 r1 r2 q2) fun c s3 ⟨z,H3,I3,r3,k,e,q3⟩=>?_) hm
  subst e
  cases r3
  exact wpAny_truthy_bool ⟨H3,I3,q3⟩
theorem line63:(sizeLine:Nat) < 2 ^ 63:=by rw [sizeLine_eq]; decide
theorem op_add_str:OpR X (binaryOp .Add) (fun x y H Q=>∃ i j,x=.str i /\ y=.str j /\ i.length + j.length<=sizeLine /\ Q (.str (i ++ j)) H):=by
  intro pins s σ H x y v u Q I rx ry h
  obtain ⟨i,j,rfl,rfl,hz,q⟩:=h
  obtain ⟨t,rfl⟩:=rx
  obtain ⟨t',rfl⟩:=ry
  exact add_str (fun t' tk=>⟨.str (i ++ j),H,I.tok _,⟨_,rfl⟩,q⟩) hz
theorem vals1 {x:V} {us:List Value} (r:Vals [x] us):∃ u,us=[u] /\ RelV x u:=by
  cases r with
  | cons r1 r2=>cases r2; exact ⟨_,rfl,r1⟩
theorem vals2 {x y:V} {us:List Value} (r:Vals [x,y] us):∃ u w',us=[u,w'] /\ RelV x u /\ RelV y w':=by
  cases r with
  | cons r1 r2 =>
    cases r2 with
    | cons r3 r4=>cases r4; exact ⟨_,_,rfl,r1,r3⟩
theorem call_min2 (hc:X.calm=true):CallR X (.builtin "min") (fun xs H Q=>∃ i j,xs=[.int i,.int j] /\ Q (.int (if j < i then j else i)) H):=by
  intro pins s σ H xs us Q I r h
  obtain ⟨i,j,rfl,q⟩:=h
  obtain ⟨u,w',rfl,⟨t,rfl⟩,⟨t',rfl⟩⟩:=vals2 r
  refine min_two_ints (I.ok.hd hc) fun h' tk k=>⟨_,H,I.kept k,?_,q⟩
  by_cases hj:j < i
  · rw [if_pos hj,if_pos hj]; exact ⟨_,rfl⟩
  · rw [if_neg hj,if_neg hj]; exact ⟨_,rfl⟩
noncomputable def LenV (K:PySem.W.Frag) (x:V) (H:Hp) (n:Nat):Prop :=
  match x with
  | .str y=>y.length<=sizeLine /\ n=y.length
  | .byt y=>y.size<=sizeLine /\ n=y.size
  | .ref p=>(∃ xs,SqL K H p xs /\ n=xs.length) \/ ∃ xs,SqT K H p xs /\ n=xs.length
  | _=>False
theorem call_len:CallR X (.builtin "len") (fun xs H Q=>∃ x n,xs=[x] /\ LenV X.K x H n /\ Q (.int n) H):=by
  intro pins s σ H xs us Q I r h
  obtain ⟨x,n,rfl,e,q⟩:=h
  obtain ⟨u,rfl,rx⟩:=vals1 r
  have hl:=line63
  have hs:sizeLine=16777216:=sizeLine_eq
  cases x with
  | str y =>
    obtain ⟨t,rfl⟩:=rx
    obtain ⟨hy,e'⟩:y.length<=sizeLine /\ n=y.length:=e
    subst e'
    exact len_str (by omega) ⟨.int _,H,I.tok _,⟨_,rfl⟩,q⟩
  | byt y =>
    obtain ⟨t,rfl⟩:=rx
    obtain ⟨hy,e'⟩:y.size<=sizeLine /\ n=y.size:=e
    subst e'
    exact PySem.W.len_bytes (by omega) ⟨.int _,H,I.tok _,⟨_,rfl⟩,q⟩
  | ref p =>
    cases rx
    have e':(∃ xs,SqL X.K H p xs /\ n=xs.length) \/ ∃ xs,SqT X.K H p xs /\ n=xs.length:=e
    rcases e' with ⟨xs,hx,e'⟩ | ⟨xs,hx,e'⟩
    · subst e'
      obtain ⟨its,r',pl,hz⟩:=I.list hx
      have hlen:=r'.length
      exact Calls.call_len_list pl.isList (by simp only [List.size_toArray]; omega) ⟨.int xs.length,H,I.tok _,⟨_,by simp only [List.size_toArray]; rw [hlen]⟩,q⟩
    · subst e'
      obtain ⟨its,r',pl,hz⟩:=I.tuple hx
      have hlen:=r'.length
      exact len_tuple pl (by simp only [List.size_toArray]; omega) ⟨.int xs.length,H,I.tok _,⟨_,by simp only [List.size_toArray]; rw [hlen]⟩,q⟩
  | _=>exact (show False from e).elim
end
end L2
namespace L2
open PySem PySem.Spec PyProof.Rows
structure ObjM (h:Heap) (x dx C:Addr) (mA:Str->Option Value):Prop where
  obj:h.get? x=some (PySem.W.instObj C dx)
  ns:h.Ns1 dx mA
  ne:dx ≠ x
theorem lookIn_ns {h:Heap} {dx:Addr} {mA:Str->Option Value} (n:h.Ns1 dx mA):∃ od,h.get? dx=some od /\ ∀ name,PySem.W.lookIn name od=some (mA name):=by
  obtain ⟨o,es,ep,ho,hd,hk,_,hm⟩:=n
  refine ⟨o,ho,fun name=>?_⟩
  have e:=hm name
  unfold nsFind findBy at e
  rw [<- Array.find?_toList] at e
  unfold PySem.W.lookIn
  rw [hd]
  dsimp only
  split
  · rename_i y q
    rw [q] at e
    exact congrArg some e
  · rename_i q
    rw [q] at e
    have a:es.toList.any (·.refKey)=false:=by
      rw [List.any_eq_false]
      intro y hy
      obtain ⟨z,t,hkey⟩:=hk y (Array.mem_toList_iff.mp hy)
      simp [DictEntry.refKey,hkey]
    have a':¬ es.toList.any (·.refKey)=true:=by rw [a]; exact Bool.false_ne_true
    rw [if_neg a']
    exact congrArg some e
theorem ObjM.look {h:Heap} {x dx C:Addr} {mA:Str->Option Value} (I:ObjM h x dx C mA):∃ od,PySem.W.InstAt h x (PySem.W.instObj C dx) C (some od) /\ ∀ name,PySem.W.lookIn name od=some (mA name) :=
  let ⟨od,ho,hl⟩:=lookIn_ns I.ns
  ⟨od,⟨I.obj,rfl,rfl,ho⟩,hl⟩
section
variable {prog:Program} {w:World} {A:Around} {E:Value->Shared->Prop} {s:Shared} {K:PySem.W.Frag} {x dx C f:Addr} {mA:Str->Option Value} {name:Str} {v:Value}
end
noncomputable def putF (f:Str) (v:V):List (Str × V)->List (Str × V)
  | []=>[(f,v)]
  | (g,x) :: r=>if g=f then (g,v) :: r else (g,x) :: putF f v r
theorem RelO.some_of {v:V} {o:Option Value} (r:RelO (some v) o):∃ u,o=some u /\ RelV v u:=by
  cases o with
  | none=>exact (show False from r).elim
  | some u=>exact ⟨u,rfl,r⟩
section
variable {P:Program} {w:World} {H H':Hp} {h h':Heap} {a C dx:Addr} {fs fs':List (Str × V)}
theorem ins_get (hok:HOk P w H h) (e:H a=some (.ins C dx fs)):∃ mA,ObjM h a dx C mA /\ (∀ f,RelO (fs.lookup f) (mA f)) /\ PySem.Within mA (fs.map (·.1)) /\ fs.length<=1000 /\ H dx=some (.own a):=by
  obtain ⟨d,z,ne,ob,mA,n,r,q⟩:=(show ObjOk P w H h a (.ins C dx fs) from hok a _ e)
  exact ⟨mA,⟨ob,n,ne⟩,r,q,z,d⟩
end
structure Cls (K:PySem.W.Frag) (C:Addr):Prop where
  pg:PySem.W.plainGet K C Str.empty=true
  hd:PySem.W.hasDictIn K C=true
  po:PySem.W.plainOver K C=true
  sa:PySem.W.findIn K (.ref C) "__setattr__"=some (some (.builtin "object.__setattr__"))
theorem Cls.get {K:PySem.W.Frag} {C:Addr} (c:Cls K C) (f:Str):PySem.W.plainGet K C f=true:=c.pg
noncomputable def NoAttr (K:PySem.W.Frag) (C:Addr) (f:Str):Prop:=PySem.W.findIn K (.ref C) f=some none
structure Con (K:PySem.W.Frag) (C:Addr) (f:Str) (v:V) (u:Value):Prop where
  at_:PySem.W.findIn K (.ref C) f=some (some u)
  rel:RelV v u
  get:PySem.W.specialIn K u "__get__"=some none
  cp:PySem.W.copiedNames.contains f=false
structure Meth (K:PySem.W.Frag) (C:Addr) (m:Str) (f:Addr):Prop where
  at_:PySem.W.findIn K (.ref C) m=some (some (.ref f))
  fn:PySem.W.isFn K (.ref f)=true
  kp:PySem.W.keepIn K (.ref f)=true
section
variable {X:Cx} {pins:List (Addr × Obj)} {σ:St} {H:Hp} {s:Shared} {a C dx:Addr} {fs:List (Str × V)} {f:Str} {v:V} {A:Around} {E:Value->Shared->Prop}
theorem Inv.made (I:Inv X pins σ H s):Inv X pins σ (upd (upd H s.heap.objs.size (.own (s.heap.objs.size + 1))) (s.heap.objs.size + 1) (.ins C s.heap.objs.size []))
    { s with heap:=(s.heap.push PySem.W.emptyDict).push (PySem.W.instObj C s.heap.objs.size) }:=by
  have e1:(s.heap.push PySem.W.emptyDict).get? s.heap.objs.size=some PySem.W.emptyDict:=Heap.get?_push_size s.heap rfl
  have e2:((s.heap.push PySem.W.emptyDict).push (PySem.W.instObj C s.heap.objs.size)).get? (s.heap.objs.size + 1)=some (PySem.W.instObj C s.heap.objs.size):=by
    have:=Heap.get?_push_size (s.heap.push PySem.W.emptyDict) (o:=PySem.W.instObj C s.heap.objs.size) rfl
    rwa [Heap.size_push] at this
  have e3:(s.heap.push PySem.W.emptyDict).Ns s.heap.objs.size (fun _=>none):=⟨PySem.W.emptyDict,#[],_,e1,rfl,(fun e he=>absurd he (by simp)),fun _=>rfl⟩
  have I1:=I.laid (a:=s.heap.objs.size) (o:=.own (s.heap.objs.size + 1)) (h':=s.heap.push PySem.W.emptyDict) (t':=s.toks) (fun b u q=>Heap.get?_push_of_some _ q) (Nat.le_refl _) ⟨_,e1⟩
  refine I1.laid (a:=s.heap.objs.size + 1) (o:=.ins C s.heap.objs.size []) (t':=s.toks) (fun b u q=>Heap.get?_push_of_some _ q) (Nat.le_of_eq (Heap.size_push _ _)) ?_
  have ne:s.heap.objs.size ≠ s.heap.objs.size + 1:=Nat.ne_of_lt (Nat.lt_succ_self _)
  refine ⟨by rw [upd_ne ne,upd_same],Nat.zero_le _,ne,e2,fun _=>none,(Heap.Ns1.of_empty e3).at fun o q=>Heap.get?_push_of_some _ q,fun _=>True.intro,fun y hy=>absurd rfl hy⟩
end
section
variable {X:Cx} {o e value:Expr} {f:Str} {pos pos' tpos:Pos} {ta tv:TE}
end
section
variable {X:Cx} {pins:List (Addr × Obj)} {σ:St} {H:Hp} {s:Shared} {A:Around} {E:Value->Shared->Prop} {Q:Value->Shared->Prop} {c:Value} {b:Bool}
inductive TyOf (K:PySem.W.Frag) (H:Hp):V->Value->Prop where
  | non:TyOf K H .non (.type "NoneType")
  | bl (x:Bool):TyOf K H (.bl x) (.type "bool")
  | int (i:Int):TyOf K H (.int i) (.type "int")
  | str (x:Str):TyOf K H (.str x) (.type "str")
  | flt (x:UInt64):TyOf K H (.flt x) (.type "float")
  | lst {a:Addr} {xs:List V} (e:H a=some (.lst xs)):TyOf K H (.ref a) (.type "list")
  | frz {a:Addr} {o:Obj} {xs:List V} (e:H a=some (.frz o (.lst xs))):TyOf K H (.ref a) (.type "list")
  | tup {a:Addr} {xs:List V} (e:H a=some (.tup xs)):TyOf K H (.ref a) (.type "tuple")
  | dK {a:Addr} {kvs:List (Key × V)} (e:H a=some (.dK kvs)):TyOf K H (.ref a) (.type "dict")
  | dT {a:Addr} {kvs:List (List Key × V)} (e:H a=some (.dT kvs)):TyOf K H (.ref a) (.type "dict")
  | ins {a C dx:Addr} {fs:List (Str × V)} (e:H a=some (.ins C dx fs)) (cl:Cls K C) (ha:PySem.W.findIn K (.ref C) "__class__"=some (some (.builtin "object.__class__")))
      (hn:PySem.W.specialIn K (.builtin "object.__class__") "__get__"=some (some (.builtin "getset_descriptor.__get__"))) (htk:PySem.W.takesIn K (.builtin "object.__class__")=some true)
      (hm:PySem.W.mroIn K C (.type "object")=some true):TyOf K H (.ref a) (.ref C)
theorem isinst_ok {x:V} {u t:Value} (I:Inv X pins σ H s) (rx:RelV x u) (ty:TyOf X.K H x t) (e:PySem.W.kitOne X.K t c=some b) (h:∀ tk,Q (.bool b) { s with toks:=tk }) :
    wpAny (model X.prog X.w) A (call (.builtin "isinstance") [u,c]) Q E s:=by
  cases ty with
  | non=>cases (show u=Value.none from rx); exact PySem.W.kia_one PySem.W.kitx_none I.kIn True.intro e (fun z=>nomatch z) h
  | bl y=>cases (show u=Value.bool y from rx); exact PySem.W.kia_one PySem.W.kitx_bool I.kIn True.intro e (fun z=>nomatch z) h
  | int i=>obtain ⟨t,q⟩:=(show ∃ t,u=Value.int i t from rx); cases q; exact PySem.W.kia_one PySem.W.kitx_int I.kIn True.intro e (fun z=>nomatch z) h
  | str y=>obtain ⟨t,q⟩:=(show ∃ t,u=Value.str y t from rx); cases q; exact PySem.W.kia_one PySem.W.kitx_str I.kIn True.intro e (fun z=>nomatch z) h
  | flt y=>obtain ⟨t,q⟩:=(show ∃ t,u=Value.float y t from rx); cases q; exact PySem.W.kia_one PySem.W.kitx_float I.kIn True.intro e (fun z=>nomatch z) h
  | @lst a xs ea =>
    cases (show u=Value.ref a from rx)
    obtain ⟨_,_,n,_,h1⟩:=(show ObjOk X.prog X.w H s.heap a (.lst xs) from I.hok a _ ea)
    exact PySem.W.kia_one PySem.W.kitx_list I.kIn ⟨_,h1,rfl⟩ e (fun z=>nomatch z) h
  | @frz a ob xs ea =>
    cases (show u=Value.ref a from rx)
    obtain ⟨_,_,_,n,_,h1⟩:=(show ObjOk X.prog X.w H s.heap a (.frz ob (.lst xs)) from I.hok a _ ea)
    exact PySem.W.kia_one PySem.W.kitx_list I.kIn ⟨_,h1,rfl⟩ e (fun z=>nomatch z) h
  | @tup a xs ea =>
    cases (show u=Value.ref a from rx)
    obtain ⟨_,_,_,p⟩:=(show ObjOk X.prog X.w H s.heap a (.tup xs) from I.hok a _ ea)
    obtain ⟨o,h1,h2,_⟩:=p
    exact PySem.W.kia_one PySem.W.kitx_tuple I.kIn ⟨o,h1,h2⟩ e (fun z=>nomatch z) h
  | @dK a kvs ea =>
    cases (show u=Value.ref a from rx)
    obtain ⟨_,_,vs,_,p⟩:=(show ObjOk X.prog X.w H s.heap a (.dK kvs) from I.hok a _ ea)
    obtain ⟨o,es,ep,h1,h2,_⟩:=p
    exact PySem.W.kia_one PySem.W.kitx_dict I.kIn ⟨o,h1,h2.1⟩ e (fun z=>nomatch z) h
  | @dT a kvs ea =>
    cases (show u=Value.ref a from rx)
    obtain ⟨_,_,xs,_,o,es,ep,h1,h2,_⟩:=(show ObjOk X.prog X.w H s.heap a (.dT kvs) from I.hok a _ ea)
    exact PySem.W.kia_one PySem.W.kitx_dict I.kIn ⟨o,h1,h2.1⟩ e (fun z=>nomatch z) h
  | @ins a C dx fs ea cl ha hn htk hm =>
    cases (show u=Value.ref a from rx)
    obtain ⟨mA,O,_⟩:=ins_get I.hok ea
    obtain ⟨od,J,_⟩:=O.look
    exact PySem.W.kia_one (PySem.W.kitx_own (cl.get _) cl.hd ha hn htk hm) I.kIn J e (fun z=>nomatch z) h
end
end L2
namespace L2
open PySem PySem.Spec PyProof.Rows
structure Room (k:Nat) (A:Around):Prop where
  hd:A.handled=none
  dp:A.depth + 3 * k + 5 < recursionLimit
  un:A.units + 16 * k + 200 < cLine
theorem Room.mono {j k:Nat} {A:Around} (r:Room k A) (h:j<=k):Room j A:=⟨r.hd,by have:=r.dp; omega,by have:=r.un; omega⟩
theorem Room.deeper {k:Nat} {A:Around} (r:Room (k + 1) A) (env:Env):Room k (A.deeper env) :=
  ⟨r.hd,by have:=r.dp; show A.depth + 1 + 3 * k + 5 < _; omega,by have:=r.un; show A.units + 3 + 16 * k + 200 < _; omega⟩
theorem Room.in1 {k:Nat} {A:Around} (r:Room (k + 1) A):Room k A.in1 :=
  ⟨r.hd,by have:=r.dp; show A.depth + 3 * k + 5 < _; omega,by have:=r.un; show A.units + 1 + 16 * k + 200 < _; omega⟩
theorem Room.depth {k:Nat} {A:Around} (r:Room k A):A.depth < recursionLimit:=by have:=r.dp; omega
theorem Room.units {k:Nat} {A:Around} (r:Room k A):A.units + 64 < cLine:=by have:=r.un; omega
noncomputable def tNil:TA:=fun _ H Q=>Q [] H
noncomputable def tCons (ta:TE) (tr:TA):TA:=fun σ H Q=>ta σ H fun x H1=>tr σ H1 fun xs H2=>Q (x :: xs) H2
section
variable {X:Cx} {e:Expr} {es:List Expr} {te:TE} {t:TA} {pos:Pos}
theorem pa_nil:PA X [] tNil:=fun _ _ _ _ H Q I h=>Calls.spliced_nil ⟨[],H,I,.nil,h⟩
theorem pa_cons (ha:PE X e te) (hr:PA X es t) (hs:starEach (e :: es) X.env=(false,eval e X.env) :: starEach es X.env:=by rfl):PA X (e :: es) (tCons te t):=by
  intro pos pins s σ H Q I h
  rw [hs]
  show wpAny _ _ (spliced ((false,eval e X.env) :: backTo pos (starEach es X.env))) _ _ s
  refine Calls.spliced_cons (thn (ha pins s σ H _ I h) fun u s1 ⟨x,H1,I1,r1,q1⟩=>?_)
  exact thn (hr pos pins s1 σ H1 _ I1 q1) fun us s2 ⟨xs,H2,I2,r2,q2⟩=>⟨x :: xs,H2,I2,.cons r1 r2,q2⟩
noncomputable def tTup (t:TA):TE:=fun σ H Q=>t σ H fun xs H1=>xs.length<=sizeLine /\ ∀ p,H1 p=none->Q (.ref p) (upd H1 p (.tup xs))
noncomputable def tLst (t:TA):TE:=fun σ H Q=>t σ H fun xs H1=>xs.length<=sizeLine /\ ∀ p,H1 p=none->Q (.ref p) (upd H1 p (.lst xs))
theorem pe_tup {x1} (h:PA X es t):PE X (.Tuple es x1 pos) (tTup t):=by
  intro pins s σ H Q I hq
  refine wpAny_Tuple_spliced (thn (h pos pins s σ H _ I hq) fun us s1 ⟨xs,H1,I1,r,z,q⟩=>⟨by rw [<- r.length]; exact z,?_⟩)
  have hf:H1 s1.heap.objs.size=none:=I1.hok.fresh (Nat.le_refl _)
  refine ⟨.ref s1.heap.objs.size,upd H1 s1.heap.objs.size (.tup xs),I1.laid (t':=s1.toks) (fun b u e=>Heap.get?_push_of_some _ e) (Nat.le_refl _) ?_,rfl,q _ hf⟩
  exact ⟨z,us,r,⟨_,Heap.get?_push_size _ rfl,rfl,_,rfl⟩⟩
theorem pe_lst (h:PA X es t):PE X (.List es pos) (tLst t):=by
  intro pins s σ H Q I hq
  refine wpAny_List_spliced (thn (h pos pins s σ H _ I hq) fun us s1 ⟨xs,H1,I1,r,z,q⟩=>⟨by rw [<- r.length]; exact z,?_⟩)
  have hf:H1 s1.heap.objs.size=none:=I1.hok.fresh (Nat.le_refl _)
  refine ⟨.ref s1.heap.objs.size,upd H1 s1.heap.objs.size (.lst xs),I1.laid (t':=s1.toks) (fun b u e=>Heap.get?_push_of_some _ e) (Nat.le_refl _) ?_,rfl,q _ hf⟩
  exact ⟨z,us,0,r,Heap.get?_push_size _ rfl⟩
end
noncomputable abbrev Sp:=List V->Hp->VK->XK->Prop
noncomputable abbrev CXT:=List Env->Hp->Shared->XK->Value->Shared->Prop
structure Env0 (P:Program) (w:World) (K:PySem.W.Frag) (mg:Str->Option Value) (base:Heap) (A:Around) (outer:List Env) (s:Shared) (H:Hp):Prop where
  frames:A.frames=some outer
  mod:Mod K mg base
  bs:∀ b o,base.get? b=some o->s.heap.get? b=some o /\ H b=none
  bsz:base.objs.size<=s.heap.objs.size
  funs:s.heap.FunFrames base outer
  frf:∀ b ∈ frs outer,H b=none
  hok:HOk P w H s.heap
  bare:AllBare s.gens
noncomputable def CE (outer:List Env) (P:Program) (w:World) (H:Hp) (s:Shared) (Q:VK) (u:Value) (s':Shared):Prop :=
  ∃ v H',s'.os=s.os /\ AllBare s'.gens /\ Un (frs outer) [] H H' s.heap s'.heap /\ HOk P w H' s'.heap /\ RelV v u /\ Q v H'
noncomputable def CR (CX:CXT) (outer:List Env) (P:Program) (w:World) (H:Hp) (s:Shared) (Q:VK) (E:XK) (r:Result) (s':Shared):Prop :=
  match r with
  | .ok (.ret u)=>CE outer P w H s Q u s'
  | .ok _=>False
  | .error e=>CX outer H s E e s'
structure FnOk (P:Program) (w:World) (K:PySem.W.Frag) (mg:Str->Option Value) (base:Heap) (CX:CXT) (k:Nat) (f:Addr) (fd:FuncData) (ps:List Str) (sp:Sp):Prop where
  len:∀ vs H Q E,sp vs H Q E->vs.length=ps.length
  run:∀ (A:Around) (outer:List Env) (s:Shared) (H:Hp) (args:Args) (us:List Value) (vs:List V) (Q:VK) (E:XK),Room k A->Env0 P w K mg base A outer s H->BindsTo s fd args (ps.zip us)->Vals vs us->sp vs H Q E ->
    codeAny (model P w) A (.call (.ref f) args) (CR CX outer P w H s Q E) s
theorem FnOk.mono {P:Program} {w:World} {K:PySem.W.Frag} {mg:Str->Option Value} {base:Heap} {CX:CXT} {j k:Nat} {f:Addr} {fd:FuncData} {ps:List Str} {sp:Sp} (F:FnOk P w K mg base CX j f fd ps sp) (h:j<=k) :
    FnOk P w K mg base CX k f fd ps sp:=⟨F.len,fun A outer s H args us vs Q E hr=>F.run A outer s H args us vs Q E (hr.mono h)⟩
theorem FnOk.imp {P:Program} {w:World} {K:PySem.W.Frag} {mg:Str->Option Value} {base:Heap} {CX:CXT} {k:Nat} {f:Addr} {fd:FuncData} {ps:List Str} {sp sp':Sp} (F:FnOk P w K mg base CX k f fd ps sp)
    (h:∀ vs H Q E,sp' vs H Q E->sp vs H Q E):FnOk P w K mg base CX k f fd ps sp' :=
  ⟨fun vs H Q E q=>F.len vs H Q E (h _ _ _ _ q),fun A outer s H args us vs Q E hr he hb hv hs=>F.run A outer s H args us vs Q E hr he hb hv (h _ _ _ _ hs)⟩
theorem Env0.in1 {P:Program} {w:World} {K:PySem.W.Frag} {mg:Str->Option Value} {base:Heap} {A:Around} {outer:List Env} {s:Shared} {H:Hp} (e:Env0 P w K mg base A outer s H) :
    Env0 P w K mg base A.in1 outer s H:=⟨e.frames,e.mod,e.bs,e.bsz,e.funs,e.frf,e.hok,e.bare⟩
section
variable {X:Cx} {pins:List (Addr × Obj)} {σ:St} {H:Hp} {s s':Shared}
theorem Inv.env0 (I:Inv X pins σ H s):Env0 X.prog X.w X.K X.mg X.base X.A X.stack s H :=
  ⟨I.ok.frames,I.ok.mod,I.bs,Nat.le_trans I.ok.bsz I.sz,I.stack,I.stkFree,I.hok,I.bare⟩
theorem Inv.after {Q:VK} {u:Value} (I:Inv X pins σ H s) (h:CE X.stack X.prog X.w H s Q u s'):EP X pins σ Q u s':=by
  obtain ⟨v,H',os,bare,un,hok,r,q⟩:=h
  obtain ⟨hh,g,d,t,os'⟩:=s'
  obtain rfl:os'=s.os:=os
  exact ⟨v,H',I.call (h':=hh) (g':=g) (d':=d) (t':=t) (ch:=[]) un hok bare (fun b z=>absurd z (by simp)),r,q⟩
end
noncomputable def Binds (K:PySem.W.Frag) (fd:FuncData) (ps:List Str) (ds:List Value):Prop :=
  ∀ (s:Shared) (us:List Value),K.In s.heap->(us ++ ds).length=ps.length->BindsTo s fd ⟨us,[]⟩ (ps.zip (us ++ ds))
theorem Binds.all {K:PySem.W.Frag} {fd:FuncData} {ps:List Str} (h:∀ us:List Value,us.length=ps.length->bindArgs fd ⟨us,[]⟩=pure (ps.zip us)):Binds K fd ps []:=fun s us _ hl=>by
  rw [List.append_nil] at hl ⊢
  exact .of_eq (h us hl)
section
variable {X:Cx} {CX:CXT} {k:Nat} {f C:Addr} {fd:FuncData} {ps:List Str} {sp:Sp} {dvs:List V} {ds:List Value} {E:XK} {x m:Str} {p pos apos:Pos} {e o:Expr} {es:List Expr} {ta:TE} {t:TA}
structure Mk (K:PySem.W.Frag) (C f:Addr):Prop where
  makes:PySem.W.makesIn K C=true
  init:PySem.W.findIn K (.ref C) "__init__"=some (some (.ref f))
  fn:PySem.W.isFn K (.ref f)=true
  kp:PySem.W.keepIn K (.ref C)=true
end
section
variable {X:Cx} {CX:CXT} {k:Nat} {f C:Addr} {fd:FuncData} {ps ks:List Str} {sp:Sp} {E:XK} {x m:Str} {p pos apos kpos:Pos} {e o:Expr} {es:List Expr} {kws:List Keyword} {te ta:TE} {t tk:TA} {nm:Option Str}
structure KBinds (K:PySem.W.Frag) (fd:FuncData) (ps ks:List Str) (g:List Value->List Value->List Value) (gV:List V->List V->List V):Prop where
  to:∀ (s:Shared) (us ws:List Value),K.In s.heap->(g us ws).length=ps.length->BindsTo s fd ⟨us,ks.zip ws⟩ (ps.zip (g us ws))
  rel:∀ {vs:List V} {us:List Value} {zs:List V} {ws:List Value},Vals vs us->Vals zs ws->Vals (gV vs zs) (g us ws)
variable {g:List Value->List Value->List Value} {gV:List V->List V->List V}
end
structure FnScope (N P:List Str) (sc:Scope):Prop where
  kind:sc.kind=.function
  co:sc.isCoroutine=false
  gen:sc.isGenerator=false
  nd:N.Nodup
  pre:N.take P.length=P
  par:∀ x ∈ P,sc.names.lookup x=some .local \/ sc.names.lookup x=some .cell
  nofree:∀ y ∈ sc.names,y.2 ≠ .free
theorem bindL_out {kindOf:Str->Option NameKind} {x:Str}:∀ {binds:List (Str × Value)} {m:Str->Option Value},(∀ v,(x,v) ∉ binds)->bindL kindOf binds m x=m x
  | [],_,_=>rfl
  | (n,v) :: r,m,h=>by
    unfold bindL
    rw [bindL_out fun w hw=>h w (List.mem_cons_of_mem _ hw)]
    split
    · have:x ≠ n:=by rintro rfl; exact h v List.mem_cons_self
      simp [this]
    · rfl
theorem bindC_out {kindOf:Str->Option NameKind} {x:Str}:∀ {binds:List (Str × Value)} {m:Str->Option Value},(∀ v,(x,v) ∉ binds)->bindC kindOf binds m x=m x
  | [],_,_=>rfl
  | (n,v) :: r,m,h=>by
    unfold bindC
    rw [bindC_out fun w hw=>h w (List.mem_cons_of_mem _ hw)]
    split
    · rfl
    · have:x ≠ n:=by rintro rfl; exact h v List.mem_cons_self
      simp [this]
theorem bindL_get {kindOf:Str->Option NameKind} {x:Str} {v:Value}:∀ {P:List Str} {vs:List Value} {i:Nat} {m:Str->Option Value},P.Nodup->P[i]?=some x->vs[i]?=some v->kindOf x=some .local ->
    bindL kindOf (P.zip vs) m x=some v
  | [],_,_,_,_,h,_,_=>by simp at h
  | _ :: _,[],_,_,_,_,h,_=>by simp at h
  | p :: P,w :: vs,0,m,nd,h1,h2,hk=>by
    simp at h1 h2; subst h1; subst h2
    show bindL kindOf ((p,w) :: P.zip vs) m p=_
    unfold bindL
    rw [bindL_out fun v hv=>(List.nodup_cons.mp nd).1 (List.of_mem_zip hv).1,if_pos hk]
    simp
  | p :: P,w :: vs,i + 1,m,nd,h1,h2,hk=>by
    show bindL kindOf ((p,w) :: P.zip vs) m x=_
    unfold bindL
    exact bindL_get (i:=i) (List.nodup_cons.mp nd).2 (by simpa using h1) (by simpa using h2) hk
theorem bindC_get {kindOf:Str->Option NameKind} {x:Str} {v:Value}:∀ {P:List Str} {vs:List Value} {i:Nat} {m:Str->Option Value},P.Nodup->P[i]?=some x->vs[i]?=some v->kindOf x ≠ some .local ->
    bindC kindOf (P.zip vs) m x=some v
  | [],_,_,_,_,h,_,_=>by simp at h
  | _ :: _,[],_,_,_,_,h,_=>by simp at h
  | p :: P,w :: vs,0,m,nd,h1,h2,hk=>by
    simp at h1 h2; subst h1; subst h2
    show bindC kindOf ((p,w) :: P.zip vs) m p=_
    unfold bindC
    rw [bindC_out fun v hv=>(List.nodup_cons.mp nd).1 (List.of_mem_zip hv).1,if_neg hk]
    simp
  | p :: P,w :: vs,i + 1,m,nd,h1,h2,hk=>by
    show bindC kindOf ((p,w) :: P.zip vs) m x=_
    unfold bindC
    exact bindC_get (i:=i) (List.nodup_cons.mp nd).2 (by simpa using h1) (by simpa using h2) hk
noncomputable def start (N:List Str) (vs:List V):St:=vs.map some ++ List.replicate (N.length - vs.length) none
noncomputable def cxOf (CX:CXT) (P:Program) (w:World) (K:PySem.W.Frag) (mg:Str->Option Value) (base:Heap) (N:List Str) (qual:Str) (scope:Scope) (f:Addr) (cd:Value) (A:Around) (outer:List Env) (s:Shared) (H:Hp) (E:XK):Cx where
  prog:=P
  w:=w
  K:=K
  mg:=mg
  base:=base
  A:=A.deeper (envOfC qual scope s.heap.objs.size f cd)
  N:=N
  s₀:=s
  H₀:=H
  env:=envOfC qual scope s.heap.objs.size f cd
  outer:=outer
  stack:=envOfC qual scope s.heap.objs.size f cd :: outer
  ex:=[]
  calm:=true
  fn:=fun _=>true
  pn:=[]
  xe:=fun e s'=>wpAny (model P w) (A.deeper (envOfC qual scope s.heap.objs.size f cd)) (leaving (envOfC qual scope s.heap.objs.size f cd) e) (fun _ s''=>CX outer H s E e s'') (fun e' s''=>CX outer H s E e' s'') s'
theorem cell_has {sc:Scope} {n:Nat} {x:Str} (h:sc.names.lookup x=some .cell):∃ c,(cellsFrom n sc.names []).lookup x=some c:=by
  have q:=PySem.W.cellsFrom_some sc.names n [] (.inl h)
  exact Option.isSome_iff_exists.mp q
theorem inv_start {CX:CXT} {P:Program} {w:World} {K:PySem.W.Frag} {mg:Str->Option Value} {base:Heap} {N ps:List Str} {qual:Str} {scope:Scope} {f:Addr} {cd:Value} {A:Around} {outer:List Env} {s s1:Shared} {H:Hp} {E:XK} {us:List Value} {vs:List V}
    (S:FnScope N ps scope) (hd:A.handled=none) (e0:Env0 P w K mg base A outer s H) (hl:vs.length=ps.length) (r:Vals vs us)
    (x:InCallC s s.heap.objs.size (bindL (envOfC qual scope s.heap.objs.size f cd).kindOf (ps.zip us) fun _=>none) (cellsFrom (s.heap.objs.size + 1) scope.names []) (bindC (envOfC qual scope s.heap.objs.size f cd).kindOf (ps.zip us) fun _=>none) s1) :
    Inv (cxOf CX P w K mg base N qual scope f cd A outer s H E) [] (start N vs) H s1:=by
  have hpl:ps.length<=N.length:=by have:=congrArg List.length S.pre; rw [List.length_take] at this; omega
  obtain ⟨h1,tk,rfl,hk⟩:=x.done
  have noA:∀ b:Addr,b ∉ (cxOf CX P w K mg base N qual scope f cd A outer s H E).ex:=fun b z=>absurd (show b ∈ ([]:List Addr) from z) (by simp)
  refine ⟨⟨e0.mod,S.kind,rfl,rfl,Nat.le_refl _,fun y z c h1 h2=>?_,fun y hy=>?_,fun y c _ h=>?_,fun _=>hd,Around.frames_deeper e0.frames,.inr ⟨rfl,rfl⟩,fun b z=>absurd z (noA b),e0.bs,e0.bsz,fun b _ _=>noA b,fun b z=>absurd z (noA b),e0.funs,e0.frf⟩,
    rfl,e0.bare,Un.kept hk,⟨_,x.toInCall.ns,fun i y v h1 h2 h3=>?_⟩,fun y c h=>⟨_,x.cell y c h⟩,e0.hok.fresh (Nat.le_refl _),fun y c h=>?_,fun p hp=>absurd (show p ∈ ([]:List (Addr × Obj)) from hp) (by simp),e0.hok.kept hk,?_⟩
  · exact name_of_addr x.apart (PySem.mem_of_lookup h1) (PySem.mem_of_lookup h2)
  · have hy:scope.names.lookup y=some .cell \/ scope.names.lookup y=some .free:=hy
    rcases hy with hy | hy
    · exact cell_has hy
    · exact absurd rfl (S.nofree _ (PySem.mem_of_lookup hy))
  · exact Nat.le_of_lt (x.above y c (PySem.mem_of_lookup h))
  · have hi:i < vs.length:=by
      unfold start at h2
      by_cases hi:i < vs.length
      · exact hi
      · rw [List.getElem?_append_right (by simpa using hi)] at h2
        rw [List.getElem?_replicate] at h2
        split at h2 <;> cases h2
    have ha:vs[i]?=some v:=by
      unfold start at h2
      rw [List.getElem?_append_left (by simpa using hi),List.getElem?_map] at h2
      cases e:vs[i]? with
      | none=>rw [e] at h2; cases h2
      | some a=>rw [e] at h2; cases h2; rfl
    obtain ⟨u,hu,rv⟩:=r.get ha
    have hp:ps[i]?=some y:=by
      rw [<- S.pre,List.getElem?_take_of_lt (by omega)]; exact h1
    have ndP:ps.Nodup:=by rw [<- S.pre]; exact S.nd.sublist (List.take_sublist _ _)
    refine ⟨u,rv,?_⟩
    rcases S.par y (List.mem_of_getElem? hp) with k | k
    · exact .inl ⟨k,bindL_get ndP hp hu k⟩
    · obtain ⟨c,e⟩:=cell_has (n:=s.heap.objs.size + 1) k
      refine .inr ⟨.inl k,c,e,?_⟩
      have q:=x.cell y c e
      rw [bindC_get ndP hp hu (by show scope.names.lookup y ≠ _; rw [k]; decide)] at q
      exact q
  · exact e0.hok.fresh (Nat.le_of_lt (x.above y c (PySem.mem_of_lookup h)))
  · unfold start
    show _=N.length
    rw [List.length_append,List.length_map,List.length_replicate]
    omega
theorem fn_of {CX:CXT} {P:Program} {w:World} {K:PySem.W.Frag} {mg:Str->Option Value} {base:Heap} {k:Nat} {f:Addr} {name qual:Str} {params:Arguments} {body:List Stmt} {scope:Scope} {dV kV doc pm cdv ct oc:Value} {an od:Option Addr}
    {osl:Array (Option Value)} {N ps:List Str} {sp:Sp} (lk:K.lookup f=some ⟨oc,od,.func (PySem.W.fnOf name qual params body scope dV kV doc pm an cdv ct),osl⟩) (hcd:PySem.W.codeIn K cdv qual=true) (S:FnScope N ps scope)
    (len:∀ vs H Q E,sp vs H Q E->vs.length=ps.length)
    (hbody:∀ (A:Around) (outer:List Env) (s:Shared) (H:Hp) (vs:List V) (Q:VK) (E:XK),Room k (A.deeper (envOfC qual scope s.heap.objs.size f cdv))->sp vs H Q E ->
      ∃ t,PSs (cxOf CX P w K mg base N qual scope f cdv A outer s H E) body t /\ t { nx:=fun _ H'=>Q .non H',rt:=Q } (start N vs) H) :
    FnOk P w K mg base CX (k + 1) f (PySem.W.fnOf name qual params body scope dV kV doc pm an cdv ct) ps sp:=by
  refine ⟨len,fun A outer s H args us vs Q E hr e0 hb r hsp=>?_⟩
  have hl:=len _ _ _ _ hsp
  have KX:K.In s.heap:=e0.mod.kin.keeps fun b o e=>(e0.bs b o e).1
  have lim:s.heap.NoLimit:=e0.mod.nolimit.keeps fun b o e=>(e0.bs b o e).1
  have hkind:∀ y ∈ ps.zip us,scope.names.lookup y.1=some .local \/ (scope.names.lookup y.1=some .cell /\ ((cellsFrom (s.heap.objs.size + 1) scope.names []).lookup y.1).isSome=true):=fun ⟨n,v⟩ hy=>by
    rcases S.par n (List.of_mem_zip hy).1 with q | q
    · exact .inl q
    · exact .inr ⟨q,PySem.W.cellsFrom_some _ _ _ (.inl q)⟩
  refine codeAny_call_function hr.depth (KX _ _ lk) rfl S.co S.gen rfl (PySem.W.codeRec_of KX hcd) (hb _ _ _ _ ?_)
  refine wpAny_newFunctionEnv_cells S.kind hkind fun env he s1 x=>?_
  subst he
  refine ⟨lim.keeps x.toInCall.keep,codeAny_func ?_⟩
  obtain ⟨t,ht,hq⟩:=hbody A outer s H vs Q E (hr.deeper _) hsp
  have I:Inv (cxOf CX P w K mg base N qual scope f cdv A outer s H E) [] (start N vs) H s1:=inv_start S hr.hd e0 hl r x
  refine wpAny_mono (ht [] s1 (start N vs) H _ I hq) (fun fl s' hs=>?_) fun e s' hs=>hs
  have fin:∀ {σ':St} {H':Hp} {v:V} {u:Value},Inv (cxOf CX P w K mg base N qual scope f cdv A outer s H E) [] σ' H' s'->RelV v u->Q v H'->CE outer P w H s Q u s' :=
    fun {σ' H' v u} J rv q=>⟨v,H',J.os,J.bare,J.base,J.hok,rv,q⟩
  cases fl with
  | ret u =>
    obtain ⟨v,σ',H',J,rv,q⟩:=hs
    exact fin J rv q
  | next =>
    obtain ⟨σ',H',J,q⟩:=hs
    exact fin (v:=V.non) (u:=Value.none) J rfl q
  | brk =>
    obtain ⟨_,_,_,q⟩:=hs
    exact False.elim q
  | cont =>
    obtain ⟨_,_,_,q⟩:=hs
    exact False.elim q
end L2
namespace L2
open PySem PySem.Spec PyProof.Rows
section
variable {X:Cx} {x:Str} {p pos:Pos} {e:Expr} {es:List Expr} {t:TA} {id T:String} {r:List V->Hp->VK->Prop}
noncomputable def tCB (r:List V->Hp->VK->Prop) (t:TA):TE:=fun σ H Q=>t σ H fun vs H1=>r vs H1 Q
theorem pe_callB (hc:CallR X (.builtin id) r) (hg:Gl X x) (hm:X.mg x=none) (hv:bootBuiltins x=some (.builtin id)) (ha:PA X (e :: es) t) (hn:x ≠ "__name__":=by decide) (hdb:(x == ("__debug__":Str))=false:=by decide)
    (he:starEach (e :: es) X.env=(false,eval e X.env) :: starEach es X.env:=by rfl) (hpl:(backTo pos (starEach es X.env)).any (·.1)=false:=by rfl):PE X (.Call (.Name x p) (e :: es) [] pos) (tCB r t):=by
  intro pins s σ H Q I h
  refine wpAny_Call_Name_kw (ld_blt I hg hm hv ?_ hn hdb)
  exact PyProof.Rows.callWith_builtin1 (thn (ha pos pins s σ H _ I h) fun us s1 ⟨vs,H1,I1,r1,q1⟩=>hc pins s1 σ H1 vs us Q I1 r1 q1) he hpl
theorem pe_callTy (hc:CallR X (.type T) r) (hg:Gl X x) (hm:X.mg x=none) (hv:bootBuiltins x=some (.type T)) (ha:PA X (e :: es) t) (hn:x ≠ "__name__":=by decide) (hdb:(x == ("__debug__":Str))=false:=by decide)
    (he:starEach (e :: es) X.env=(false,eval e X.env) :: starEach es X.env:=by rfl) (hpl:(backTo pos (starEach es X.env)).any (·.1)=false:=by rfl):PE X (.Call (.Name x p) (e :: es) [] pos) (tCB r t):=by
  intro pins s σ H Q I h
  refine wpAny_Call_Name_kw (ld_blt I hg hm hv ?_ hn hdb)
  exact PyProof.Rows.callWith_type1 (thn (ha pos pins s σ H _ I h) fun us s1 ⟨vs,H1,I1,r1,q1⟩=>hc pins s1 σ H1 vs us Q I1 r1 q1) he hpl
end
end L2
namespace HT
open PySem PyProof.Rows
section
open PySem.SeqAt
open PySem.AutoSeq1 (wpAny_loadPart')
open PySem.MeetsSeq PySem.MeetsSeq2 PySem.MeetsSeq3
end
section
variable {prog:Program} {w:World} {A:Around} {E:Value->Shared->Prop} {s:Shared}
theorem cat_tup {t b:Addr} {vs ws:List Value} {Q:Value->Shared->Prop} (ht:IsTup s.heap t vs.toArray) (hb:IsTup s.heap b ws.toArray) (hv:vs ≠ [])
    (h1:ws=[]->Q (.ref t) s) (h2:ws ≠ []->Q (.ref s.heap.objs.size) { s with heap:=s.heap.push { cls:=.type "tuple",data:=.seq (vs ++ ws).toArray } })
    (hsz:vs.length + ws.length<=sizeLine):wpAny (model prog w) A (binaryOp .Add (.ref t) (.ref b)) Q E s:=by
  obtain ⟨⟨cls,dd,data,sl⟩,ho,hc,n,hd⟩:=id ht
  obtain ⟨⟨cls2,dd2,data2,sl2⟩,ho2,hc2,n2,hd2⟩:=id hb
  simp only at hc hd hc2 hd2
  subst hc hd hc2 hd2
  have e:vs.toArray ++ ws.toArray=(vs ++ ws).toArray:=by simp
  by_cases hw:ws=[]
  · exact concat_meets ⟨_,ho,rfl⟩ ⟨_,ho2,rfl⟩ noFill_tuple_add seq_tuple_add PySem.F.slot_tuple_add PySem.F.entry_tuple_add (PySem.F.args_tuple_add_2 _ _)
      (tuple_addW1 t b vs.toArray ws.toArray n n2 dd dd2 sl sl2 (by simpa using hv) (by simp [hw])) ⟨ho,ho2,h1 hw⟩
  · refine concat_meets ⟨_,ho,rfl⟩ ⟨_,ho2,rfl⟩ noFill_tuple_add seq_tuple_add PySem.F.slot_tuple_add PySem.F.entry_tuple_add (PySem.F.args_tuple_add_2 _ _)
      (tuple_addW2 t b vs.toArray ws.toArray n n2 dd dd2 sl sl2 (by simpa using hv) (by simpa using hw) (by rw [List.size_toArray,List.size_toArray]; exact hsz)) ⟨ho,ho2,?_⟩
    rw [e]
    exact h2 hw
noncomputable def sIx (n d:Nat):Option Int->Nat
  | none=>d
  | some v=>if v < 0 then (v + (n:Int)).toNat else min v.toNat n
theorem sIx_none (n d:Nat):sIx n d none=d:=rfl
theorem sIx_le (n d:Nat) (hd:d<=n) (o:Option Int):sIx n d o<=n:=by
  cases o with
  | none=>exact hd
  | some v =>
    show (if v < 0 then (v + (n:Int)).toNat else min v.toNat n)<=n
    by_cases hv:v < 0
    · rw [if_pos hv]; omega
    · rw [if_neg hv]; exact Nat.min_le_right _ _
theorem clip_eq (v:Int) (n d:Nat):(if v < 0 then max (v + (n:Int)) 0 else min v (n:Int))=((sIx n d (some v):Nat):Int):=by
  show (if v < 0 then max (v + (n:Int)) 0 else min v (n:Int))=(((if v < 0 then (v + (n:Int)).toNat else min v.toNat n):Nat):Int)
  by_cases hv:v < 0
  · simp only [if_pos hv]; omega
  · simp only [if_neg hv]; omega
theorem adjust_gen (lo hi:Option Int) (n:Nat):Builtin.Slice.sliceAdjust lo hi 1 (n:Int)=(((sIx n 0 lo:Nat):Int),((sIx n n hi:Nat):Int)):=by
  have h1:¬ ((1:Int) < 0):=by omega
  unfold Builtin.Slice.sliceAdjust
  simp only [h1,if_false]
  refine Prod.ext ?_ ?_
  · cases lo with
    | none=>rfl
    | some v=>exact clip_eq v n 0
  · cases hi with
    | none=>rfl
    | some v=>exact clip_eq v n n
theorem places_gen (i j:Nat):Builtin.Slice.slicePlaces (i:Int) (j:Int) 1=j - i:=by
  unfold Builtin.Slice.slicePlaces
  have h1:(1:Int) > 0:=by omega
  simp only [h1,if_true,Int.ediv_one]
  split <;> omega
theorem slicePart_ {v:Value} {o:Option Int} {Q:Option Int->Shared->Prop} (p:IsPart v o) (h:Q o s):wpAny (model prog w) A (Builtin.Slice.slicePartIndex v) Q E s:=by
  cases p with
  | none=>exact slicePart_none h
  | int i t=>exact slicePart_int h
theorem sliceApplied_gen {sl:Addr} {vl vu:Value} {lo hi:Option Int} {n:Nat} {Q:Int × Int × Nat->Shared->Prop} (hs:s.heap.IsSliceOf sl vl vu .none) (pl:IsPart vl lo) (pu:IsPart vu hi)
    (h:Q (((sIx n 0 lo:Nat):Int),1,sIx n n hi - sIx n 0 lo) s):wpAny (model prog w) A (Builtin.Slice.sliceApplied (.ref sl) (pure (n:Int))) Q E s:=by
  obtain ⟨os,hos,hcs,hds⟩:=id hs
  unfold Builtin.Slice.sliceApplied Builtin.Slice.sliceFields
  refine wpAny_bind (wpAny_bind (wpAny_field hos hds (x:=vl) rfl (wpAny_bind (wpAny_field hos hds (x:=vu) rfl (wpAny_bind (wpAny_field hos hds (x:=.none) rfl (wpAny_pure ?_)))))))
  refine wpAny_bind (slicePart_none ?_)
  show wpAny _ _ (if ((1:Int) == 0)=true then _ else _) _ _ s
  rw [if_neg (by decide)]
  refine wpAny_bind (slicePart_ pl (wpAny_bind (slicePart_ pu (wpAny_bind (wpAny_pure ?_)))))
  show wpAny _ _ (match Builtin.Slice.sliceAdjust lo hi 1 (n:Int) with | (lo,hi)=>pure (lo,(1:Int),Builtin.Slice.slicePlaces lo hi 1)) _ _ s
  rw [adjust_gen lo hi n]
  show wpAny _ _ (pure (((sIx n 0 lo:Nat):Int),(1:Int),Builtin.Slice.slicePlaces ((sIx n 0 lo:Nat):Int) ((sIx n n hi:Nat):Int) 1)) _ _ s
  rw [places_gen]
  exact wpAny_pure h
theorem pick_gen (xs:Array Value) (i k:Nat):((List.range k).filterMap fun (m:Nat)=>xs[((i:Int) + (m:Int) * 1).toNat]?).toArray=((xs.toList.drop i).take k).toArray:=by
  have e:(fun (m:Nat)=>xs[((i:Int) + (m:Int) * 1).toNat]?)=fun m=>xs[i + m]?:=by
    funext m
    have:((i:Int) + (m:Int) * 1).toNat=i + m:=by omega
    rw [this]
  rw [e]
  have:=pick_run xs i k
  rw [List.filterMap_map] at this
  have e2:((fun x=>xs[x]?) ∘ fun x=>i + x)=fun m=>xs[i + m]?:=rfl
  rw [e2] at this
  rw [this]
theorem getItem_tuple_cut {t sl:Addr} {items:Array Value} {vl vu:Value} {lo hi:Option Int} {Q:Value->Shared->Prop} (ht:IsTup s.heap t items) (hs:s.heap.IsSliceOf sl vl vu .none) (pl:IsPart vl lo) (pu:IsPart vu hi)
    (hw:¬ (sIx items.size 0 lo=0 /\ sIx items.size items.size hi=items.size))
    (h:Q (.ref s.heap.objs.size) { s with heap:=s.heap.push { cls:=.type "tuple",data:=.seq ((items.toList.drop (sIx items.size 0 lo)).take (sIx items.size items.size hi - sIx items.size 0 lo)).toArray } })
    (hsz:items.size<=sizeLine):wpAny (model prog w) A (getItem (.ref t) (.ref sl)) Q E s:=by
  have htake:sizeOk (.seq ((items.toList.drop (sIx items.size 0 lo)).take (sIx items.size items.size hi - sIx items.size 0 lo)).toArray):=by
    show ((items.toList.drop (sIx items.size 0 lo)).take (sIx items.size items.size hi - sIx items.size 0 lo)).toArray.size<=sizeLine
    rw [List.size_toArray,List.length_take,List.length_drop,Array.length_toList]
    omega
  have hj:sIx items.size items.size hi<=items.size:=sIx_le _ _ (Nat.le_refl _) hi
  obtain ⟨os,hos,hcs,hds⟩:=id hs
  have hTs:s.TypeIs (.ref sl) "slice":=⟨os,hos,hcs⟩
  unfold getItem
  try with_reducible refine wpAny_holding ?_
  first | refine wpAny_bind (wpAny_pure ?_) | skip
  refine wpAny_bind (wpAny_sequenceKey ht.typeIs (by decide) ?_)
  refine wpAny_bind (wpAny_callSpecial?_slot (name:=Str.ofString "__getitem__") ht.typeIs PyProof.Rows.slot_tuple_getitem
    (wpAny_call_entry PyProof.Rows.slot_tuple_getitem ht.typeIs entry_tuple_getitem ?_ (args_tuple_getitem _ _)))
  show wpAny _ _ (Builtin.Tuple.tupleItemsOf (.ref t) >>= _) _ _ s
  refine wpAny_bind (tupleItemsOf_ ht ?_)
  refine wpAny_bind (wpAny_typeOf hTs ?_)
  rw [if_pos (by decide)]
  refine wpAny_bind (sliceApplied_gen hs pl pu ?_)
  have hno:¬ ((((sIx items.size 0 lo:Nat):Int) == 0 && (1:Int) == 1 && (sIx items.size items.size hi - sIx items.size 0 lo) == items.size)=true):=by
    intro q
    rw [Bool.and_eq_true,Bool.and_eq_true] at q
    have q1:((sIx items.size 0 lo:Nat):Int)=0:=eq_of_beq q.1.1
    have q2:sIx items.size items.size hi - sIx items.size 0 lo=items.size:=eq_of_beq q.2
    exact hw ⟨by omega,by omega⟩
  show wpAny _ _ (if (((sIx items.size 0 lo:Nat):Int) == 0 && (1:Int) == 1 && (sIx items.size items.size hi - sIx items.size 0 lo) == items.size)=true then _ else _) _ _ s
  rw [if_neg hno,pick_gen]
  first
    | exact wpAny_bind (m:=Builtin.Tuple.tupleExact _) (wpAny_newObj_type (wpAny_pure ⟨_,rfl,wpAny_pure h⟩) htake)
    | exact wpAny_bind (m:=Builtin.Tuple.tupleExact _) (wpAny_newObj_type (wpAny_bind (wpAny_pure (wpAny_pure ⟨_,rfl,wpAny_pure h⟩))) htake)
    | exact wpAny_bind (wpAny_bind (m:=Builtin.Tuple.tupleExact _) (wpAny_newObj_type (wpAny_pure (wpAny_pure ⟨_,rfl,wpAny_pure h⟩)) htake))
    | exact wpAny_bind (wpAny_bind (m:=Builtin.Tuple.tupleExact _) (wpAny_newObj_type (wpAny_pure ⟨_,rfl,wpAny_pure h⟩) htake))
end
end HT
namespace L2
open PySem PySem.Spec PyProof.Rows
noncomputable abbrev TO:=St->Hp->(Option Int->Hp->Prop)->Prop
noncomputable def PO (X:Cx) (e:Option Expr) (t:TO):Prop :=
  ∀ (pins:List (Addr × Obj)) (s:Shared) (σ:St) (H:Hp) (Q:Option Int->Hp->Prop),Inv X pins σ H s->t σ H Q ->
    wpAny (model X.prog X.w) X.A (evalPart e X.env) (fun u s'=>∃ o H',Inv X pins σ H' s' /\ IsPart u o /\ Q o H') X.xe s
noncomputable def tNoPart:TO:=fun _ H Q=>Q none H
noncomputable def tPart (t:TE):TO:=fun σ H Q=>t σ H fun x H1=>∃ i,x=.int i /\ Q (some i) H1
section
variable {X:Cx} {e:Expr} {te:TE} {lo hi:Option Expr} {tl th:TO} {pos p2:Pos}
theorem po_none:PO X none tNoPart:=by
  intro pins s σ H Q I h
  rw [evalPart_none]
  exact wpAny_pure ⟨none,H,I,.none,h⟩
theorem po_some (h:PE X e te):PO X (some e) (tPart te):=by
  intro pins s σ H Q I hw
  rw [evalPart_some]
  refine thn (h pins s σ H _ I hw) fun u s1 ⟨x,H1,I1,r1,q1⟩=>?_
  obtain ⟨i,rfl,q⟩:=q1
  obtain ⟨t,rfl⟩:=r1
  exact ⟨some i,H1,I1,.int i t,q⟩
noncomputable def SlR (X:Cx) (r:V->Option Int->Option Int->Hp->VK->Prop):Prop :=
  ∀ (pins:List (Addr × Obj)) (s:Shared) (σ:St) (H:Hp) (x:V) (v vl vu:Value) (lo hi:Option Int) (sl:Addr) (Q:VK),Inv X pins σ H s->RelV x v->s.heap.IsSliceOf sl vl vu .none->IsPart vl lo->IsPart vu hi->r x lo hi H Q ->
    ∃ T id,typeLookup (.type T) "__getitem__"=pure (some (.builtin id)) /\ s.TypeIs v T /\ wpAny (model X.prog X.w) X.A (getItem v (.ref sl)) (EP X pins σ Q) X.xe s
theorem SlR.or {r r':V->Option Int->Option Int->Hp->VK->Prop} (h:SlR X r) (h':SlR X r'):SlR X (fun x lo hi H Q=>r x lo hi H Q \/ r' x lo hi H Q):=by
  intro pins s σ H x v vl vu lo hi sl Q I rx hs pl pu q
  rcases q with q | q
  · exact h pins s σ H x v vl vu lo hi sl Q I rx hs pl pu q
  · exact h' pins s σ H x v vl vu lo hi sl Q I rx hs pl pu q
noncomputable def tSl (r:V->Option Int->Option Int->Hp->VK->Prop) (te:TE) (tl th:TO):TE:=fun σ H Q=>te σ H fun x H1=>tl σ H1 fun l H2=>th σ H2 fun u H3=>r x l u H3 Q
theorem pe_slice {r:V->Option Int->Option Int->Hp->VK->Prop} (hr:SlR X r) (he:PE X e te) (hl:PO X lo tl) (hu:PO X hi th):PE X (.Subscript e (.Slice lo hi none p2) pos) (tSl r te tl th):=by
  intro pins s σ H Q I h
  refine Subscript_ (thn (he pins s σ H _ I h) fun v s1 ⟨x,H1,I1,r1,q1⟩=>?_)
  refine wpAny_Slice (thn (hl pins s1 σ H1 _ I1 q1) fun vl s2 ⟨l,H2,I2,pl,q2⟩=>thn (hu pins s2 σ H2 _ I2 q2) fun vu s3 ⟨u,H3,I3,pu,q3⟩=>?_)
  rw [evalPart_none]
  refine wpAny_pure ?_
  have I4:Inv X pins σ H3 { s3 with heap:=s3.heap.push { cls:=.type "slice",data:=.fields #[vl,vu,.none] } }:=I3.kept (t':=s3.toks) fun b ob q=>Heap.get?_push_of_some _ q
  obtain ⟨T,id,hT,ht,hg⟩:=hr pins { s3 with heap:=s3.heap.push { cls:=.type "slice",data:=.fields #[vl,vu,.none] } } σ H3 x v vl vu l u s3.heap.objs.size Q I4 r1 (Heap.IsSliceOf.new ..) pl pu q3
  show wpAny (model X.prog X.w) X.A (subscriptTail e (.Slice lo hi none p2) v (.ref s3.heap.objs.size)) (EP X pins σ Q) X.xe { s3 with heap:=s3.heap.push { cls:=.type "slice",data:=.fields #[vl,vu,.none] } }
  exact tail_any (ops:=[.ref s3.heap.objs.size,v]) ht hT hg (by with_unfolding_all rfl)
noncomputable def cutV (xs:List V) (lo hi:Option Int):List V:=(xs.drop (HT.sIx xs.length 0 lo)).take (HT.sIx xs.length xs.length hi - HT.sIx xs.length 0 lo)
theorem cutV_length (xs:List V) (lo hi:Option Int):(cutV xs lo hi).length<=xs.length:=by
  unfold cutV
  rw [List.length_take,List.length_drop]
  omega
noncomputable def rSlT (K:PySem.W.Frag):V->Option Int->Option Int->Hp->VK->Prop:=fun x lo hi H Q=>∃ a xs,x=.ref a /\ SqT K H a xs /\
  ¬ (HT.sIx xs.length 0 lo=0 /\ HT.sIx xs.length xs.length hi=xs.length) /\ ∀ p,H p=none->Q (.ref p) (upd H p (.tup (cutV xs lo hi)))
theorem sl_tup:SlR X (rSlT X.K):=by
  intro pins s σ H x v vl vu lo hi sl Q I rx hs pl pu h
  obtain ⟨a,xs,rfl,hx,hw,q⟩:=h
  cases rx
  obtain ⟨its,r,ht,hz⟩:=I.tuple hx
  have hlen:its.toArray.size=xs.length:=by rw [List.size_toArray]; exact r.length.symm
  refine ⟨"tuple",_,PyProof.Rows.slot_tuple_getitem.lookup,ht.typeIs,?_⟩
  refine HT.getItem_tuple_cut ht hs pl pu (by rw [hlen]; exact hw) ?_ (by rw [hlen]; exact hz)
  rw [hlen]
  refine ⟨.ref s.heap.objs.size,_,I.laid (t':=s.toks) (o:=.tup (cutV xs lo hi)) (fun b ob q=>Heap.get?_push_of_some _ q) (Nat.le_refl _) ?_,rfl,q _ (I.hok.fresh (Nat.le_refl _))⟩
  exact ⟨Nat.le_trans (cutV_length xs lo hi) hz,_,(r.drop (HT.sIx xs.length 0 lo)).take (HT.sIx xs.length xs.length hi - HT.sIx xs.length 0 lo),IsTup.new _ _⟩
noncomputable def rCatT (K:PySem.W.Frag):R2:=fun x y H Q=>∃ a b xs ys,x=.ref a /\ y=.ref b /\ SqT K H a xs /\ SqT K H b ys /\ xs ≠ [] /\ xs.length + ys.length<=sizeLine /\
  (ys=[]->Q (.ref a) H) /\ (ys ≠ []->∀ p,H p=none->Q (.ref p) (upd H p (.tup (xs ++ ys))))
theorem Vals.nil_iff {xs:List V} {us:List Value} (r:Vals xs us):us=[] ↔ xs=[]:=by
  cases r with
  | nil=>simp
  | cons _ _=>simp
theorem op_catT:OpR X (binaryOp .Add) (rCatT X.K):=by
  intro pins s σ H x y v u Q I rx ry h
  obtain ⟨a,b,xs,ys,rfl,rfl,ha,hb,hx,hz,q1,q2⟩:=h
  cases rx
  cases ry
  obtain ⟨its,r1,p1,_⟩:=I.tuple ha
  obtain ⟨its2,r2,p2,_⟩:=I.tuple hb
  refine HT.cat_tup p1 p2 (fun z=>hx (r1.nil_iff.mp z)) (fun z=>⟨.ref a,H,I,rfl,q1 (r2.nil_iff.mp z)⟩) (fun z=>?_) (by rw [<- r1.length,<- r2.length]; exact hz)
  refine ⟨.ref s.heap.objs.size,_,I.laid (t':=s.toks) (o:=.tup (xs ++ ys)) (fun b ob q=>Heap.get?_push_of_some _ q) (Nat.le_refl _) ?_,rfl,q2 (fun w=>z (r2.nil_iff.mpr w)) _ (I.hok.fresh (Nat.le_refl _))⟩
  exact ⟨by rw [List.length_append]; exact hz,_,r1.append r2,IsTup.new _ _⟩
end
end L2
namespace L2
open PySem PySem.Spec PyProof.Rows
noncomputable def ixN (n:Nat) (i:Int):Option Nat:=if 0<=i then (if i < n then some i.toNat else none) else if -(n:Int)<=i then some (i + n).toNat else none
noncomputable def atI {α:Type} (xs:List α) (i:Int):Option α:=(ixN xs.length i).bind fun j=>xs[j]?
theorem ixN_seq {n:Nat} {i:Int} {j:Nat} (h:ixN n i=some j):seqIndex? i n=some j /\ j < n /\ -(n:Int)<=i /\ i < n:=by
  unfold ixN at h
  by_cases h0:0<=i
  · rw [if_pos h0] at h
    by_cases h1:i < n
    · rw [if_pos h1] at h
      have e:i.toNat=j:=Option.some.inj h
      exact ⟨by rw [seqIndex_of h0 h1,e],by omega,by omega,h1⟩
    · rw [if_neg h1] at h; cases h
  · rw [if_neg h0] at h
    by_cases h1:-(n:Int)<=i
    · rw [if_pos h1] at h
      have e:(i + n).toNat=j:=Option.some.inj h
      exact ⟨by rw [seqIndex_neg (by omega) h1,e],by omega,h1,by omega⟩
    · rw [if_neg h1] at h; cases h
theorem atI_get {α:Type} {xs:List α} {i:Int} {v:α} (h:atI xs i=some v):∃ j,seqIndex? i xs.length=some j /\ xs[j]?=some v /\ j < xs.length /\ -(xs.length:Int)<=i /\ i < xs.length:=by
  unfold atI at h
  cases e:ixN xs.length i with
  | none=>rw [e] at h; cases h
  | some j =>
    rw [e] at h
    obtain ⟨h1,h2,h3,h4⟩:=ixN_seq e
    exact ⟨j,h1,h,h2,h3,h4⟩
theorem atI_nat {α:Type} {xs:List α} {j:Nat} {v:α} (h:xs[j]?=some v):atI xs (j:Int)=some v:=by
  have hj:j < xs.length:=(List.getElem?_eq_some_iff.mp h).1
  have e:ixN xs.length (j:Int)=some j:=by
    unfold ixN
    rw [if_pos (by omega),if_pos (by omega)]; simp
  unfold atI; rw [e]; exact h
noncomputable def PlainIx (b:Expr):Prop:=∀ o i,subscripted b false o i=operate [o,i] (getItem o i)
noncomputable def IxR (X:Cx) (r:R2):Prop :=
  ∀ (value slice:Expr) (pins:List (Addr × Obj)) (s:Shared) (σ:St) (H:Hp) (x y:V) (v u:Value) (Q:VK),Inv X pins σ H s->RelV x v->RelV y u->r x y H Q ->
    subscripted slice false v u=operate [v,u] (getItem v u)->wpAny (model X.prog X.w) X.A (subscriptTail value slice v u) (EP X pins σ Q) X.xe s
noncomputable def MtR (X:Cx) (id:String) (r:V->List V->Hp->VK->Prop):Prop :=
  ∀ (pins:List (Addr × Obj)) (s:Shared) (σ:St) (H:Hp) (x:V) (xs:List V) (v:Value) (us:List Value) (Q:VK),Inv X pins σ H s->RelV x v->Vals xs us->r x xs H Q ->
    wpAny (model X.prog X.w) X.A (call (.builtin id) (v :: us)) (EP X pins σ Q) X.xe s
section
variable {X:Cx} {a b:Expr} {ta tb:TE} {pos:Pos}
theorem IxR.or {r r':R2} (h:IxR X r) (h':IxR X r'):IxR X (fun x y H Q=>r x y H Q \/ r' x y H Q):=by
  intro value slice pins s σ H x y v u Q I rx ry q hs
  rcases q with q | q
  · exact h value slice pins s σ H x y v u Q I rx ry q hs
  · exact h' value slice pins s σ H x y v u Q I rx ry q hs
theorem MtR.or {id:String} {r r':V->List V->Hp->VK->Prop} (h:MtR X id r) (h':MtR X id r'):MtR X id (fun x xs H Q=>r x xs H Q \/ r' x xs H Q):=by
  intro pins s σ H x xs v us Q I rx rs q
  rcases q with q | q
  · exact h pins s σ H x xs v us Q I rx rs q
  · exact h' pins s σ H x xs v us Q I rx rs q
theorem pe_ix {r:R2} (hr:IxR X r) (ha:PE X a ta) (hb:PE X b tb) (hs:PlainIx b):PE X (.Subscript a b pos) (tOp r ta tb):=by
  intro pins s σ H Q I h
  exact Subscript_ (binT ha hb I h fun v u s2 x y H2 I2 rx ry q=>hr a b pins s2 σ H2 x y v u Q I2 rx ry q (hs _ _))
noncomputable def rIxL (K:PySem.W.Frag):R2:=fun x y H Q=>∃ p xs i v,x=.ref p /\ y=.int i /\ SqL K H p xs /\ atI xs i=some v /\ Q v H
noncomputable def rIxT (K:PySem.W.Frag):R2:=fun x y H Q=>∃ p xs i v,x=.ref p /\ y=.int i /\ SqT K H p xs /\ atI xs i=some v /\ Q v H
noncomputable def rIxS:R2:=fun x y H Q=>∃ z i c,x=.str z /\ y=.int i /\ z.length<=sizeLine /\ atI z.cps.toList i=some c /\ Q (.str ⟨#[c]⟩) H
theorem ix_list:IxR X (rIxL X.K):=by
  intro value slice pins s σ H x y v u Q I rx ry h hs
  obtain ⟨p,xs,i,z,rfl,rfl,hq,he,q⟩:=h
  cases rx
  obtain ⟨t,rfl⟩:=ry
  obtain ⟨its,r,pl,hz⟩:=I.list hq
  obtain ⟨j,h1,h2,h3,h4,h5⟩:=atI_get he
  obtain ⟨w,ew,rw'⟩:=r.get h2
  have hl:=r.length
  have hn:=line63
  have fin:EP X pins σ Q w s:=⟨z,H,I,rw',q⟩
  by_cases h0:0<=i
  · have hj:i.toNat=j:=by
      rw [seqIndex_of h0 h5] at h1
      exact Option.some.inj h1
    exact item_listR pl.isList h0 (by omega) (by rw [hj]; simpa using ew) fin hs
  · have hj:(i + (its.toArray.size:Int)).toNat=j:=by
      rw [seqIndex_neg (by omega) h4] at h1
      rw [List.size_toArray,<- hl]
      exact Option.some.inj h1
    exact subscriptTail_builtinR (x:=w) pl.isList.typeIs slot_list_getitem.lookup
      (wpAny_getItem_list_neg (Q:=fun r s'=>r=w /\ EP X pins σ Q r s') pl.isList (by omega) (by rw [List.size_toArray] <;> omega) (by omega) (by rw [hj]; simpa using ew) ⟨rfl,fin⟩) hs
theorem ix_tup:IxR X (rIxT X.K):=by
  intro value slice pins s σ H x y v u Q I rx ry h hs
  obtain ⟨p,xs,i,z,rfl,rfl,hq,he,q⟩:=h
  cases rx
  obtain ⟨t,rfl⟩:=ry
  obtain ⟨its,r,pl,hz⟩:=I.tuple hq
  obtain ⟨j,h1,h2,h3,h4,h5⟩:=atI_get he
  obtain ⟨w,ew,rw'⟩:=r.get h2
  have hl:=r.length
  have hn:=line63
  have fin:EP X pins σ Q w s:=⟨z,H,I,rw',q⟩
  exact subscriptTail_builtinR (x:=w) pl.typeIs slot_tuple_getitem.lookup
    (getItem_tuple (j:=j) (Q:=fun r s'=>r=w /\ EP X pins σ Q r s') pl (by omega) (by omega) (by rw [List.size_toArray,<- hl]; exact h1) (by simpa using ew) ⟨rfl,fin⟩) hs
theorem ix_str:IxR X rIxS:=by
  intro value slice pins s σ H x y v u Q I rx ry h hs
  obtain ⟨z,i,c,rfl,rfl,hz,he,q⟩:=h
  obtain ⟨t,rfl⟩:=rx
  obtain ⟨t',rfl⟩:=ry
  obtain ⟨j,h1,h2,h3,h4,h5⟩:=atI_get he
  have hl:z.cps.toList.length=z.length:=by simp [Str.length]
  rw [hl] at h1 h4 h5
  have hn:=line63
  exact tail_any (typeIs_str s z t) slot_str_getitem.lookup (getItem_str (c:=c) (by
    have e1:decide (i < -(2 ^ 63:Int))=false:=decide_eq_false (by omega)
    have e2:decide (i >= 2 ^ 63)=false:=decide_eq_false (by omega)
    rw [e1,e2,Bool.or_false]) (by rw [h1]; simpa using h2) ⟨.str ⟨#[c]⟩,H,I.tok _,⟨_,rfl⟩,q⟩) hs
theorem mapSeq_set (its:List Value) (n j:Nat) (u:Value):Obj.mapSeq (·.setIfInBounds j u) { cls:=.type "list",data:=.seq its.toArray n }={ cls:=.type "list",data:=.seq (its.set j u).toArray n }:=by
  simp [Obj.mapSeq]
theorem Inv.lst {pins:List (Addr × Obj)} {σ:St} {H:Hp} {s:Shared} {p:Addr} {xs:List V} (I:Inv X pins σ H s) (h:H p=some (.lst xs)) :
    ∃ (its:List Value) (n:Nat),Vals xs its /\ s.heap.get? p=some { cls:=.type "list",data:=.seq its.toArray n } /\ xs.length<=sizeLine:=by
  obtain ⟨z,its,n,r,e⟩:=I.hok p _ h
  exact ⟨its,n,r,e,z⟩
theorem Inv.lstUpd {pins:List (Addr × Obj)} {σ:St} {H:Hp} {s:Shared} {p:Addr} {xs ys:List V} {its its':List Value} {n n':Nat} {f:Obj->Obj} (I:Inv X pins σ H s) (h:H p=some (.lst xs))
    (ho:s.heap.get? p=some { cls:=.type "list",data:=.seq its.toArray n }) (hf:f { cls:=.type "list",data:=.seq its.toArray n }={ cls:=.type "list",data:=.seq its'.toArray n' }) (r:Vals ys its') (hz:ys.length<=sizeLine) (t:Nat) :
    Inv X pins σ (upd H p (.lst ys)) { s with heap:=s.heap.update p f,toks:=t }:=by
  have e:(s.heap.update p f).get? p=some { cls:=.type "list",data:=.seq its'.toArray n' }:=by
    rw [Heap.get?_update_self f ho (by rw [hf] <;> rfl),hf]
  refine I.write (x:=p) (e:=p) (by rw [h]; trivial) (.inl rfl) (fun b u hb q=>(Heap.get?_update_other _ _ (Ne.symm hb)).trans q) ⟨_,e⟩ ?_
  exact ⟨hz,its',n',r,e⟩
noncomputable def rSetL:V->V->V->Hp->(Hp->Prop)->Prop:=fun o i v H Q=>∃ p xs k j,o=.ref p /\ i=.int k /\ H p=some (.lst xs) /\ ixN xs.length k=some j /\ Q (upd H p (.lst (xs.set j v)))
theorem set_list:PSet X rSetL:=by
  intro pins s σ H o i v ov iv u Q I ro ri rv h
  obtain ⟨p,xs,k,j,rfl,rfl,hp,hj,q⟩:=h
  cases ro
  obtain ⟨t,rfl⟩:=ri
  obtain ⟨its,n,r,ho,hz⟩:=I.lst hp
  obtain ⟨h1,h2,h3,h4⟩:=ixN_seq hj
  have hl:=r.length
  have hn:=line63
  have I':Inv X pins σ (upd H p (.lst (xs.set j v))) { s with heap:=s.heap.update p (Obj.mapSeq (·.setIfInBounds j u)) } :=
    I.lstUpd hp ho (mapSeq_set its n j u) (r.set rv j) (by rw [List.length_set]; exact hz) s.toks
  by_cases h0:0<=k
  · have hk:k.toNat=j:=by
      rw [seqIndex_of h0 h4] at h1
      exact Option.some.inj h1
    exact PySem.W.ki_setAt ho h0 (by omega) (by rw [List.size_toArray,<- hl]; exact h4) (by rw [hk]; exact ⟨_,I',q⟩)
  · have hk:(k + (its.toArray.size:Int)).toNat=j:=by
      rw [seqIndex_neg (by omega) h3] at h1
      rw [List.size_toArray,<- hl]
      exact Option.some.inj h1
    exact PySem.W.ki_setBack ho (by omega) (by rw [List.size_toArray,<- hl]; exact h3) (by omega) (by rw [hk]; exact ⟨_,I',q⟩)
theorem slice_bounds (lo hi:Option Int) (n:Nat):(sliceBounds lo hi none n).1=((HT.sIx n 0 lo:Nat):Int) /\ (sliceBounds lo hi none n).2.1=((HT.sIx n n hi:Nat):Int) /\ (sliceBounds lo hi none n).2.2=1:=by
  refine ⟨?_,?_,rfl⟩
  · cases lo with
    | none=>simp [sliceBounds,HT.sIx]
    | some i =>
      simp only [sliceBounds,HT.sIx,Option.getD_none,show (1:Int) > 0 by decide,if_true]
      by_cases h:i < 0
      · simp only [h,if_true] <;> omega
      · simp only [h,if_false] <;> omega
  · cases hi with
    | none=>simp [sliceBounds,HT.sIx]
    | some i =>
      simp only [sliceBounds,HT.sIx,Option.getD_none,show (1:Int) > 0 by decide,if_true]
      by_cases h:i < 0
      · simp only [h,if_true] <;> omega
      · simp only [h,if_false] <;> omega
theorem slicePick_cut (its:List Value) (lo hi:Option Int):slicePick its.toArray lo hi none=((its.drop (HT.sIx its.length 0 lo)).take (HT.sIx its.length its.length hi - HT.sIx its.length 0 lo)).toArray:=by
  obtain ⟨h1,h2,h3⟩:=slice_bounds lo hi its.toArray.size
  unfold slicePick
  rw [h1,h2,h3]
  simp only [sliceRange_one,pick_run,List.size_toArray] <;> rfl
noncomputable def rSlL (K:PySem.W.Frag):V->Option Int->Option Int->Hp->VK->Prop:=fun x lo hi H Q=>∃ a xs,x=.ref a /\ SqL K H a xs /\ ∀ p,H p=none->Q (.ref p) (upd H p (.lst (cutV xs lo hi)))
theorem sl_list:SlR X (rSlL X.K):=by
  intro pins s σ H x v vl vu lo hi sl Q I rx hs pl pu h
  obtain ⟨a,xs,rfl,hx,q⟩:=h
  cases rx
  obtain ⟨its,r,ht,hz⟩:=I.list hx
  have hlen:=r.length
  refine ⟨"list",_,slot_list_getitem.lookup,ht.isList.typeIs,?_⟩
  refine wpAny_getItem_list_slice ht.isList hs pl pu .none (by simp) ?_ (by rw [List.size_toArray] <;> omega)
  rw [slicePick_cut,<- hlen]
  refine ⟨.ref s.heap.objs.size,_,I.laid (t':=s.toks) (o:=.lst (cutV xs lo hi)) (fun b ob q=>Heap.get?_push_of_some _ q) (Nat.le_refl _) ?_,rfl,q _ (I.hok.fresh (Nat.le_refl _))⟩
  exact ⟨Nat.le_trans (cutV_length xs lo hi) hz,_,0,(r.drop (HT.sIx xs.length 0 lo)).take (HT.sIx xs.length xs.length hi - HT.sIx xs.length 0 lo),Heap.get?_push_size _ rfl⟩
noncomputable def flatV:V->Bool
  | .non=>true
  | .bl _=>true
  | .int _=>true
  | .str _=>true
  | _=>false
noncomputable def eqV:V->V->Bool
  | .non,.non=>true
  | .bl a,.bl b=>a == b
  | .bl a,.int b=>(if a then 1 else 0) == b
  | .int a,.bl b=>a == (if b then 1 else 0)
  | .int a,.int b=>a == b
  | .str a,.str b=>a == b
  | _,_=>false
theorem eqAt_V {A:Around} {s:Shared} {y x:V} {u v:Value} (ry:RelV y u) (rx:RelV x v) (fy:flatV y=true) (fx:flatV x=true):SeqAt.EqAt A s u v (eqV y x):=by
  cases y with
  | non =>
    cases ry
    cases x with
    | non=>cases rx; exact SeqAt.EqAt.same _
    | bl b=>cases rx; exact SeqAt.EqAt.none_bool b
    | int b=>obtain ⟨t,rfl⟩:=rx; exact SeqAt.EqAt.none_int b t
    | str b=>obtain ⟨t,rfl⟩:=rx; exact SeqAt.EqAt.none_str b t
    | _=>exact absurd (show false=true from fx) Bool.false_ne_true
  | bl a =>
    cases ry
    cases x with
    | non=>cases rx; exact SeqAt.EqAt.bool_none a
    | bl b=>cases rx; exact SeqAt.EqAt.bool_bool a b
    | int b=>obtain ⟨t,rfl⟩:=rx; exact SeqAt.EqAt.bool_int a b t
    | str b=>obtain ⟨t,rfl⟩:=rx; exact SeqAt.EqAt.bool_str a b t
    | _=>exact absurd (show false=true from fx) Bool.false_ne_true
  | int a =>
    obtain ⟨t',rfl⟩:=ry
    cases x with
    | non=>cases rx; exact SeqAt.EqAt.int_none a t'
    | bl b=>cases rx; exact SeqAt.EqAt.int_bool a t' b
    | int b=>obtain ⟨t,rfl⟩:=rx; exact SeqAt.EqAt.int_int a t' b t
    | str b=>obtain ⟨t,rfl⟩:=rx; exact SeqAt.EqAt.int_str a t' b t
    | _=>exact absurd (show false=true from fx) Bool.false_ne_true
  | str a =>
    obtain ⟨t',rfl⟩:=ry
    cases x with
    | non=>cases rx; exact SeqAt.EqAt.str_none a t'
    | bl b=>cases rx; exact SeqAt.EqAt.str_bool a t' b
    | int b=>obtain ⟨t,rfl⟩:=rx; exact SeqAt.EqAt.str_int a t' b t
    | str b=>obtain ⟨t,rfl⟩:=rx; exact SeqAt.EqAt.str_str a t' b t
    | _=>exact absurd (show false=true from fx) Bool.false_ne_true
  | _=>exact absurd (show false=true from fy) Bool.false_ne_true
noncomputable def eqU (x:V) (u:Value):Bool:=match u with
  | .none=>eqV .non x
  | .bool b=>eqV (.bl b) x
  | .int i _=>eqV (.int i) x
  | .str z _=>eqV (.str z) x
  | _=>false
theorem eqU_of {x y:V} {u:Value} (r:RelV y u) (f:flatV y=true):eqU x u=eqV y x:=by
  cases y with
  | non=>cases r; rfl
  | bl b=>cases r; rfl
  | int i=>obtain ⟨t,rfl⟩:=r; rfl
  | str z=>obtain ⟨t,rfl⟩:=r; rfl
  | _=>exact absurd (show false=true from f) Bool.false_ne_true
theorem any_eqU {x:V}:∀ {xs:List V} {us:List Value},Vals xs us->xs.all flatV=true->us.any (eqU x)=xs.any fun y=>eqV y x
  | _,_,.nil,_=>rfl
  | y :: xs,u :: us,.cons r t,f=>by
    rw [List.all_cons,Bool.and_eq_true] at f
    rw [List.any_cons,List.any_cons,eqU_of r f.1,any_eqU t f.2]
theorem mem_eqAt {A:Around} {s:Shared} {x:V} {v:Value} (rx:RelV x v) (fx:flatV x=true):∀ {xs:List V} {us:List Value},Vals xs us->xs.all flatV=true->∀ u ∈ us,SeqAt.EqAt A s u v (eqU x u)
  | _,_,.nil,_=>fun u hu=>by cases hu
  | y :: xs,u :: us,.cons r t,f=>fun u' hu=>by
    rw [List.all_cons,Bool.and_eq_true] at f
    rcases List.mem_cons.mp hu with rfl | hu
    · rw [eqU_of r f.1]; exact eqAt_V r rx f.1 fx
    · exact mem_eqAt rx fx t f.2 u' hu
noncomputable def inV (x:V) (xs:List V):Bool:=xs.any fun y=>eqV y x
noncomputable def rIn (K:PySem.W.Frag) (neg:Bool):R2:=fun x y H Q=>∃ p xs,y=.ref p /\ (SqL K H p xs \/ SqT K H p xs) /\ flatV x=true /\ xs.all flatV=true /\ Q (.bl (if neg then !inV x xs else inV x xs)) H
theorem op_in_seq:OpR X (compareOp .In) (rIn X.K false):=by
  intro pins s σ H x y v u Q I rx ry h
  obtain ⟨p,xs,rfl,hq,fx,fs,q⟩:=h
  cases ry
  rcases hq with hq | hq
  · obtain ⟨its,r,pl,hz⟩:=I.list hq
    refine SeqAt.in_listAt (eqU x) pl.isList (fun w hw=>mem_eqAt rx fx r fs w (by simpa using hw)) ⟨.bl _,H,I,rfl,?_⟩
    rw [show its.toArray.any (eqU x)=its.any (eqU x) by simp,any_eqU r fs]
    exact q
  · obtain ⟨its,r,pl,hz⟩:=I.tuple hq
    refine SeqAt.in_tupleAt (eqU x) pl (fun w hw=>mem_eqAt rx fx r fs w (by simpa using hw)) ⟨.bl _,H,I,rfl,?_⟩
    rw [show its.toArray.any (eqU x)=its.any (eqU x) by simp,any_eqU r fs]
    exact q
theorem op_notIn_seq:OpR X (compareOp .NotIn) (rIn X.K true):=by
  intro pins s σ H x y v u Q I rx ry h
  obtain ⟨p,xs,rfl,hq,fx,fs,q⟩:=h
  cases ry
  rcases hq with hq | hq
  · obtain ⟨its,r,pl,hz⟩:=I.list hq
    refine SeqAt.notIn_listAt (eqU x) pl.isList (fun w hw=>mem_eqAt rx fx r fs w (by simpa using hw)) ⟨.bl _,H,I,rfl,?_⟩
    rw [show its.toArray.any (eqU x)=its.any (eqU x) by simp,any_eqU r fs]
    exact q
  · obtain ⟨its,r,pl,hz⟩:=I.tuple hq
    refine SeqAt.notIn_tupleAt (eqU x) pl (fun w hw=>mem_eqAt rx fx r fs w (by simpa using hw)) ⟨.bl _,H,I,rfl,?_⟩
    rw [show its.toArray.any (eqU x)=its.any (eqU x) by simp,any_eqU r fs]
    exact q
theorem op_notIn_str:OpR X (compareOp .NotIn) (fun x y H Q=>∃ i j,x=.str i /\ y=.str j /\ Q (.bl (!(!(Builtin.Str.occurrences j i 0 j.length 1).isEmpty))) H):=by
  intro pins s σ H x y v u Q I rx ry h
  obtain ⟨i,j,rfl,rfl,q⟩:=h
  obtain ⟨t,rfl⟩:=rx
  obtain ⟨t',rfl⟩:=ry
  exact notIn_str ⟨.bl _,H,I,rfl,q⟩
theorem CallR.or {f:Value} {r r':List V->Hp->VK->Prop} (h:CallR X f r) (h':CallR X f r'):CallR X f (fun xs H Q=>r xs H Q \/ r' xs H Q):=by
  intro pins s σ H xs us Q I rs q
  rcases q with q | q
  · exact h pins s σ H xs us Q I rs q
  · exact h' pins s σ H xs us Q I rs q
theorem call_tuple_of:CallR X (.type "tuple") (fun xs H Q=>∃ p ys,xs=[.ref p] /\ ((SqL X.K H p ys /\ ∀ l,H l=none->Q (.ref l) (upd H l (.tup ys))) \/ (SqT X.K H p ys /\ Q (.ref p) H))):=by
  intro pins s σ H xs us Q I r h
  obtain ⟨p,ys,rfl,h⟩:=h
  obtain ⟨u,rfl,rx⟩:=vals1 r
  cases rx
  rcases h with ⟨hq,q⟩ | ⟨hq,q⟩
  · obtain ⟨its,r',pl,hz⟩:=I.list hq
    have hlen:=r'.length
    refine call_tuple_list pl.isList (fun h' kp=>?_) (by simp only [List.size_toArray] <;> omega)
    have I1:Inv X pins σ H { s with heap:=h' }:=I.kept (t':=s.toks) kp
    have I2:Inv X pins σ (upd H h'.objs.size (.tup ys)) { s with heap:=h'.push { cls:=.type "tuple",data:=.seq its.toArray } } :=
      I1.laid (t':=s.toks) (fun b o e=>Heap.get?_push_of_some _ e) (Nat.le_refl _) (show ObjOk X.prog X.w _ _ _ (.tup ys) from ⟨hz,its,r',IsTup.new _ _⟩)
    exact ⟨.ref h'.objs.size,_,I2,rfl,q _ (I1.hok.fresh (Nat.le_refl _))⟩
  · obtain ⟨its,r',pl,hz⟩:=I.tuple hq
    exact call_tuple_same pl ⟨.ref p,H,I,rfl,q⟩
noncomputable def tyV (K:PySem.W.Frag) (T:String) (x:V) (H:Hp):Prop:=match x with
  | .str _=>T="str"
  | .int _=>T="int"
  | .ref p=>(T="list" /\ ∃ xs,SqL K H p xs) \/ (T="tuple" /\ ∃ o,K.lookup p=some o /\ o.cls=.type "tuple" /\ o.dict=none) \/
      (T="dict" /\ ((∃ kvs,H p=some (.dK kvs)) \/ ∃ kvs,H p=some (.dT kvs))) \/ (T="set" /\ ∃ S n,H p=some (.set S n))
  | _=>False
theorem tyV_is {pins:List (Addr × Obj)} {σ:St} {H:Hp} {s:Shared} {T:String} {x:V} {v:Value} (I:Inv X pins σ H s) (r:RelV x v) (ty:tyV X.K T x H) :
    s.TypeIs v T /\ ∀ a,v=.ref a->∃ ob,s.heap.get? a=some ob /\ ob.dict=none:=by
  cases x with
  | str z =>
    obtain ⟨t,rfl⟩:=r
    cases (show T="str" from ty)
    exact ⟨typeIs_str s z t,fun _ e=>nomatch e⟩
  | int i =>
    obtain ⟨t,rfl⟩:=r
    cases (show T="int" from ty)
    exact ⟨typeIs_int s i t,fun _ e=>nomatch e⟩
  | ref p =>
    cases r
    rcases ty with ⟨rfl,xs,hq⟩ | ⟨rfl,o,hk,hc,hd⟩ | ⟨rfl,hk⟩ | ⟨rfl,S,n,hk⟩
    · obtain ⟨its,_,pl,_⟩:=I.list hq
      refine ⟨pl.isList.typeIs,fun a e=>?_⟩
      cases e
      obtain ⟨o,n,e,c,hd,_⟩:=pl
      exact ⟨o,e,hd⟩
    · refine ⟨⟨o,I.kIn p o hk,hc⟩,fun a e=>?_⟩
      cases e
      exact ⟨o,I.kIn _ o hk,hd⟩
    · have z:∃ o,s.heap.get? p=some o /\ o.ExactDict:=by
        rcases hk with ⟨kvs,hk⟩ | ⟨kvs,hk⟩
        · obtain ⟨_,_,_,_,o,_,_,e,ex,_⟩:=I.hok p _ hk
          exact ⟨o,e,ex⟩
        · obtain ⟨_,_,_,_,o,_,_,e,ex,_⟩:=I.hok p _ hk
          exact ⟨o,e,ex⟩
      obtain ⟨o,e,ex⟩:=z
      refine ⟨⟨o,e,ex.1⟩,fun a e2=>?_⟩
      cases e2
      exact ⟨o,e,ex.2.1⟩
    · obtain ⟨o,_,_,_,e,ex,_⟩:=I.hok p _ hk
      refine ⟨⟨o,e,ex.1⟩,fun a e2=>?_⟩
      cases e2
      exact ⟨o,e,ex.2.1⟩
  | _=>exact False.elim ty
noncomputable def tBM0 (K:PySem.W.Frag) (T:String) (r:V->List V->Hp->VK->Prop) (to:TE):TE:=fun σ H Q=>to σ H fun x H1=>tyV K T x H1 /\ r x [] H1 Q
noncomputable def tBM (K:PySem.W.Frag) (T:String) (r:V->List V->Hp->VK->Prop) (to:TE) (t:TA):TE:=fun σ H Q=>to σ H fun x H1=>tyV K T x H1 /\ t σ H1 fun xs H2=>r x xs H2 Q
variable {o e:Expr} {es:List Expr} {to:TE} {t:TA} {name:Str} {apos cpos:Pos} {T id:String} {r:V->List V->Hp->VK->Prop}
theorem pe_bm0 (pa:PlainAttrs T) (slot:Slot T name id) (hty:typeOf (.builtin id)=pure (.type "method_descriptor")) (hm:MtR X id r) (ho:PE X o to)
    (hbase:attributeBase o name X.env (eval o X.env)=eval o X.env:=by rfl) (hline:(apos.endLine == cpos.line)=true:=by rfl):PE X (.Call (.Attribute o name apos) [] [] cpos) (tBM0 X.K T r to):=by
  intro pins s σ H Q I h
  refine wpAny_Call_method0_late hbase hline (thn (ho pins s σ H _ I h) fun v s1 ⟨x,H1,I1,r1,ty,q1⟩=>?_)
  obtain ⟨h1,h2⟩:=tyV_is I1 r1 ty
  exact ⟨T,id,pa,slot,hty,h1,h2,Calls.callWith_builtin rfl (PySem.evalArgs_none (hm pins s1 σ H1 x [] v [] Q I1 r1 .nil q1))⟩
theorem pe_bm (pa:PlainAttrs T) (slot:Slot T name id) (hty:typeOf (.builtin id)=pure (.type "method_descriptor")) (hm:MtR X id r) (ho:PE X o to) (ha:PA X (e :: es) t)
    (hbase:attributeBase o name X.env (eval o X.env)=eval o X.env:=by rfl)
    (hfew:((backTo cpos (starEach (e :: es) X.env)).all (fun x=>!x.1) && (backToKw cpos (keywordEach [] X.env)).all (fun x=>x.1.isSome)
      && decide ((e :: es).length + ([]:List Keyword).length + (if ([]:List Keyword).isEmpty then 0 else 1) < 30))=true:=by rfl)
    (hline:(apos.endLine == cpos.line)=true:=by rfl) (hs:starEach (e :: es) X.env=(false,eval e X.env) :: starEach es X.env:=by rfl) (hplain:(backTo cpos (starEach es X.env)).any (·.1)=false:=by rfl) :
    PE X (.Call (.Attribute o name apos) (e :: es) [] cpos) (tBM X.K T r to t):=by
  intro pins s σ H Q I h
  refine wpAny_Call_method_late hbase hfew hline rfl (thn (ho pins s σ H _ I h) fun v s1 ⟨x,H1,I1,r1,ty,q1⟩=>?_)
  obtain ⟨h1,h2⟩:=tyV_is I1 r1 ty
  refine ⟨T,id,pa,slot,hty,h1,h2,?_⟩
  have hA:=ha cpos pins s1 σ H1 _ I1 q1
  rw [hs] at hA ⊢
  refine Calls.callWith_builtin (by show (false || (backTo cpos (starEach es X.env)).any (·.1))=false; rw [hplain] <;> rfl) (Calls.evalArgs_plain ?_)
  exact thn hA fun us s2 ⟨vs,H2,I2,r2,q2⟩=>hm pins s2 σ H2 x vs v us Q I2 r1 r2 q2
end
end L2
namespace L2
open PySem PySem.Spec PyProof.Rows
noncomputable def MtM (X:Cx) (id:String) (r:V->List V->Hp->VK->Prop):Prop :=
  ∀ (pins:List (Addr × Obj)) (s:Shared) (σ:St) (H:Hp) (x:V) (xs:List V) (v:Value) (us:List Value) (Q:VK),Inv X pins σ H s->RelV x v->Vals xs us->r x xs H Q ->
    wpAny (model X.prog X.w) X.A (call (.builtin id) (v :: us)) (EP X pins σ Q) X.xe s
theorem Vals.one:∀ {x:V} {us:List Value},Vals [x] us->∃ u,us=[u] /\ RelV x u
  | _,_,.cons r .nil=>⟨_,rfl,r⟩
theorem Vals.two:∀ {x y:V} {us:List Value},Vals [x,y] us->∃ u v,us=[u,v] /\ RelV x u /\ RelV y v
  | _,_,_,.cons r (.cons q .nil)=>⟨_,_,rfl,r,q⟩
theorem Vals.zero:∀ {us:List Value},Vals [] us->us=[]
  | _,.nil=>rfl
theorem Vals.dropLast {xs:List V} {us:List Value} (h:Vals xs us):Vals xs.dropLast us.dropLast:=by
  induction h with
  | nil=>exact .nil
  | cons r t ih =>
    cases t with
    | nil=>exact .nil
    | cons q t'=>exact .cons r ih
theorem Vals.eraseIdx:∀ {xs:List V} {us:List Value} (i:Nat),Vals xs us->Vals (xs.eraseIdx i) (us.eraseIdx i)
  | _,_,_,.nil=>.nil
  | _,_,0,.cons _ t=>t
  | _,_,i + 1,.cons r t=>.cons r (Vals.eraseIdx i t)
theorem Vals.reverse {xs:List V} {us:List Value} (h:Vals xs us):Vals xs.reverse us.reverse:=by
  induction h with
  | nil=>exact .nil
  | cons r t ih=>rw [List.reverse_cons,List.reverse_cons]; exact Vals.append ih (.cons r .nil)
theorem Vals.rep {xs:List V} {us:List Value} (h:Vals xs us):∀ k:Nat,Vals (List.replicate k xs).flatten (List.replicate k us).flatten
  | 0=>.nil
  | k + 1=>by
    rw [List.replicate_succ,List.replicate_succ,List.flatten_cons,List.flatten_cons]
    exact Vals.append h (Vals.rep h k)
theorem erase_last {α:Type} (l:List α):l.eraseIdx (l.length - 1)=l.dropLast:=by
  induction l with
  | nil=>rfl
  | cons a r ih =>
    cases r with
    | nil=>rfl
    | cons b r =>
      have e:(a :: b :: r).length - 1=((b :: r).length - 1) + 1:=by
        have h1:(a :: b :: r).length=r.length + 2:=rfl
        have h2:(b :: r).length=r.length + 1:=rfl
        omega
      rw [e,List.eraseIdx_cons_succ,ih]
      all_goals rfl
theorem foldl_rep (its:List Value):∀ (k:Nat) (acc:List Value),
    List.foldl (fun x1 x2=>x1 ++ x2) acc.toArray (List.replicate k its.toArray)=(acc ++ (List.replicate k its).flatten).toArray
  | 0,acc=>by simp
  | k + 1,acc=>by
    have e:acc.toArray ++ its.toArray=(acc ++ its).toArray:=by simp
    have e2:(acc ++ its) ++ (List.replicate k its).flatten=acc ++ (List.replicate (k + 1) its).flatten:=by
      rw [List.replicate_succ,List.flatten_cons,List.append_assoc]
    rw [<- e2,<- foldl_rep its k (acc ++ its),<- e,List.replicate_succ,List.foldl_cons]
section
variable {X:Cx} {pins:List (Addr × Obj)} {σ:St} {H:Hp} {s:Shared} {l b:Addr} {xs ys zs:List V}
theorem Inv.lset {its its':List Value} {n:Nat} {f:Array Value->Array Value} {t':Nat} (I:Inv X pins σ H s) (hH:H l=some (.lst xs))
    (e:s.heap.get? l=some { cls:=.type "list",data:=.seq its.toArray n }) (hf:f its.toArray=its'.toArray) (hv:Vals ys its') (hz:ys.length<=sizeLine) :
    Inv X pins σ (upd H l (.lst ys)) { s with heap:=s.heap.update l (Obj.mapSeq f),toks:=t' }:=by
  have q:=PySem.IsL.update e f
  rw [hf] at q
  refine I.write (x:=l) (e:=l) (by rw [hH]; exact trivial) (.inl rfl) (fun b' u hb hu=>(Heap.get?_update_other s.heap (Obj.mapSeq f) (Ne.symm hb)).trans hu) ⟨_,q⟩ ?_
  exact ⟨hz,its',_,hv,q⟩
theorem Inv.lnew {its:List Value} {t':Nat} (I:Inv X pins σ H s) (hv:Vals ys its) (hz:ys.length<=sizeLine) :
    Inv X pins σ (upd H s.heap.objs.size (.lst ys)) { s with heap:=s.heap.push { cls:=.type "list",data:=.seq its.toArray },toks:=t' } :=
  I.laid (fun _ _ q=>Heap.get?_push_of_some _ q) (Nat.le_refl _) ⟨hz,its,0,hv,Heap.get?_push_size _ rfl⟩
theorem Inv.fresh (I:Inv X pins σ H s):H s.heap.objs.size=none:=I.hok.fresh (Nat.le_refl _)
theorem Inv.lstM (I:Inv X pins σ H s) (hH:H l=some (.lst xs)):xs.length<=sizeLine /\ ∃ (its:List Value) (n:Nat),Vals xs its /\ xs.length=its.length /\ s.heap.get? l=some { cls:=.type "list",data:=.seq its.toArray n }:=by
  obtain ⟨z,its,n,r,e⟩:=I.hok l _ hH
  exact ⟨z,its,n,r,r.length,e⟩
theorem notLongL {n:Nat} (h:n<=sizeLine):Builtin.List.listTooLong n=false:=by
  unfold Builtin.List.listTooLong
  exact decide_eq_false (by omega)
end
section
variable {X:Cx}
noncomputable def rAppend:V->List V->Hp->VK->Prop:=fun x vs H Q=>∃ l xs y,x=.ref l /\ vs=[y] /\ H l=some (.lst xs) /\ xs.length < sizeLine /\ Q .non (upd H l (.lst (xs ++ [y])))
theorem mt_append:MtM X "list.append" rAppend:=by
  intro pins s σ H x vs v us Q I rx rv h
  obtain ⟨l,xs,y,rfl,rfl,hH,hz,q⟩:=h
  cases rx
  obtain ⟨u,rfl,ru⟩:=rv.one
  obtain ⟨z,its,n,r,hl,e⟩:=I.lstM hH
  refine call_meets F.slot_list_append ⟨_,e,rfl⟩ F.entry_list_append (F.args_list_append_2 _ _) (PySem.list_append l its.toArray n u (by rw [List.size_toArray]; omega)) ⟨e,?_⟩
  refine ⟨.non,_,I.lset (its':=its ++ [u]) hH e (by simp) (r.append (.cons ru .nil)) ?_,rfl,q⟩
  rw [List.length_append,List.length_singleton]
  omega
noncomputable def rExtend:V->List V->Hp->VK->Prop:=fun x vs H Q=>∃ l b xs zs,x=.ref l /\ vs=[.ref b] /\ H l=some (.lst xs) /\ H b=some (.lst zs) /\ xs.length + zs.length<=sizeLine /\ Q .non (upd H l (.lst (xs ++ zs)))
theorem mt_extend:MtM X "list.extend" rExtend:=by
  intro pins s σ H x vs v us Q I rx rv h
  obtain ⟨l,b,xs,zs,rfl,rfl,hH,hB,hz,q⟩:=h
  cases rx
  obtain ⟨u,rfl,ru⟩:=rv.one
  cases ru
  obtain ⟨z,its,n,r,hl,e⟩:=I.lstM hH
  obtain ⟨z2,its2,n2,r2,hl2,e2⟩:=I.lstM hB
  have hsz:its.toArray.size + its2.toArray.size<=sizeLine:=by rw [List.size_toArray,List.size_toArray]; omega
  have hlong:¬ (!its.toArray.isEmpty && Builtin.List.listTooLong (its.toArray.size + its2.toArray.size))=true:=by
    rw [notLongL hsz,Bool.and_false]
    exact Bool.false_ne_true
  refine call_meets F.slot_list_extend ⟨_,e,rfl⟩ F.entry_list_extend (F.args_list_extend_2 _ _)
    (AutoSeq1.list_extend_list_list_0 l its.toArray n b its2.toArray n2 hlong (by rw [List.size_toArray]; omega) (by omega)) ⟨e,e2,?_⟩
  refine ⟨.non,_,I.lset (its':=its ++ its2) hH e (by simp) (r.append r2) ?_,rfl,q⟩
  rw [List.length_append]
  omega
noncomputable def rPop:V->List V->Hp->VK->Prop:=fun x vs H Q=>∃ l xs y,x=.ref l /\ vs=[] /\ H l=some (.lst xs) /\ xs[xs.length - 1]?=some y /\ Q y (upd H l (.lst xs.dropLast))
theorem mt_pop:MtM X "list.pop" rPop:=by
  intro pins s σ H x vs v us Q I rx rv h
  obtain ⟨l,xs,y,rfl,rfl,hH,hy,q⟩:=h
  cases rx
  have hus:=rv.zero
  subst hus
  obtain ⟨z,its,n,r,hl,e⟩:=I.lstM hH
  obtain ⟨u,hu,ru⟩:=r.get hy
  have hy':its.toArray[its.toArray.size - 1]?=some u:=by
    show its.toArray[its.length - 1]?=some u
    rw [<- Array.getElem?_toList,<- hl]
    exact hu
  refine call_meets F.slot_list_pop ⟨_,e,rfl⟩ F.entry_list_pop (F.args_list_pop_1 _) (MeetsSeq.list_pop_last l its.toArray n u hy' (by rw [List.size_toArray]; omega)) ⟨e,?_⟩
  refine ⟨y,_,I.lset (its':=its.dropLast) hH e ?_ r.dropLast ?_,ru,q⟩
  · show its.toArray.eraseIdxIfInBounds (its.toArray.size - 1)=its.dropLast.toArray
    rw [List.size_toArray,List.eraseIdxIfInBounds_toArray,erase_last]
  · rw [List.length_dropLast]
    omega
noncomputable def rReverse:V->List V->Hp->VK->Prop:=fun x vs H Q=>∃ l xs,x=.ref l /\ vs=[] /\ H l=some (.lst xs) /\ Q .non (upd H l (.lst xs.reverse))
theorem mt_reverse:MtM X "list.reverse" rReverse:=by
  intro pins s σ H x vs v us Q I rx rv h
  obtain ⟨l,xs,rfl,rfl,hH,q⟩:=h
  cases rx
  have hus:=rv.zero
  subst hus
  obtain ⟨z,its,n,r,hl,e⟩:=I.lstM hH
  refine call_meets F.slot_list_reverse ⟨_,e,rfl⟩ F.entry_list_reverse (F.args_list_reverse_1 _) (AutoSeq1.list_reverse_list_0 l its.toArray n (by rw [List.size_toArray]; omega)) ⟨e,?_⟩
  refine ⟨.non,_,I.lset (its':=its.reverse) hH e (by simp) r.reverse ?_,rfl,q⟩
  rw [List.length_reverse]
  omega
noncomputable def rCat:R2:=fun x y H Q=>∃ l b xs zs,x=.ref l /\ y=.ref b /\ H l=some (.lst xs) /\ H b=some (.lst zs) /\ xs.length + zs.length<=sizeLine /\ ∀ p,H p=none->Q (.ref p) (upd H p (.lst (xs ++ zs)))
theorem op_cat:OpR X (binaryOp .Add) rCat:=by
  intro pins s σ H x y v u Q I rx ry h
  obtain ⟨l,b,xs,zs,rfl,rfl,hH,hB,hz,q⟩:=h
  cases rx
  cases ry
  obtain ⟨z,its,n,r,hl,e⟩:=I.lstM hH
  obtain ⟨z2,its2,n2,r2,hl2,e2⟩:=I.lstM hB
  refine PySem.P.add_list e e2 ?_ (by rw [List.size_toArray,List.size_toArray]; omega)
  have ea:its.toArray ++ its2.toArray=(its ++ its2).toArray:=by simp
  rw [ea]
  exact ⟨.ref _,_,I.lnew (t':=s.toks) (r.append r2) (by rw [List.length_append]; omega),rfl,q _ I.fresh⟩
noncomputable def rRep:R2:=fun x y H Q=>∃ l k xs,x=.ref l /\ y=.int k /\ H l=some (.lst xs) /\ -(2 ^ 63)<=k /\ k < 2 ^ 63 /\ xs.length * k.toNat<=sizeLine /\
  ∀ p,H p=none->Q (.ref p) (upd H p (.lst (List.replicate k.toNat xs).flatten))
theorem len_rep {α:Type} (xs:List α) (k:Nat):(List.replicate k xs).flatten.length=k * xs.length:=by
  induction k with
  | zero=>simp
  | succ k ih=>rw [List.replicate_succ,List.flatten_cons,List.length_append,ih,Nat.succ_mul,Nat.add_comm]
theorem op_rep:OpR X (binaryOp .Mult) rRep:=by
  intro pins s σ H x y v u Q I rx ry h
  obtain ⟨l,k,xs,rfl,rfl,hH,h1,h2,hz,q⟩:=h
  cases rx
  obtain ⟨t,rfl⟩:=ry
  obtain ⟨z,its,n,r,hl,e⟩:=I.lstM hH
  have hlen:its.toArray.size * k.toNat<=sizeLine:=by rw [List.size_toArray,<- hl]; exact hz
  have hcap:¬ its.toArray.size * k.toNat > (2 ^ 63 - 1) / 8:=by
    have:(sizeLine:Nat)<=(2 ^ 63 - 1) / 8:=by decide
    omega
  have hfit:¬ (!Builtin.List.listFitsIndex k)=true:=by
    rw [fitsIndex_both h1 h2]
    exact Bool.false_ne_true
  have hlong:¬ Builtin.List.listTooLong (its.toArray.size * k.toNat)=true:=by
    rw [notLongL hlen]
    exact Bool.false_ne_true
  have hnew:List.foldl (fun x1 x2=>x1 ++ x2) #[] (List.replicate (if its.toArray.isEmpty=true then 0 else k.toNat) its.toArray)=(List.replicate k.toNat its).flatten.toArray:=by
    have f0:∀ m:Nat,List.foldl (fun x1 x2=>x1 ++ x2) #[] (List.replicate m its.toArray)=(List.replicate m its).flatten.toArray:=fun m=>by
      have:=foldl_rep its m []
      rw [List.nil_append] at this
      exact this
    rw [f0]
    cases its with
    | nil=>simp
    | cons a r'=>rw [if_neg (by simp)]
  refine wpAny_binaryOp_repeat_ref (T:="list") (U:="int") (by decide) ⟨_,e,rfl⟩ (fun s'=>typeIs_int s' k t) noFill_list_mul F.fills_int_mul F.slot_int_rmul repeat_list F.slot_int_index.lookup
    (call_meets F.slot_int_rmul (typeIs_int s k t) F.entry_int_rmul (F.args_int_rmul_2 _ _) (int___rmul___int_list k t l its.toArray n)
      ⟨e,rfl,⟨_,e,rfl⟩,call_meets F.slot_list_mul ⟨_,e,rfl⟩ F.entry_list_mul (F.args_list_mul_2 _ _) (AutoListH.list___mul___list_int_3 l its.toArray n k t hfit hcap hlong) ⟨e,?_⟩⟩)
  rw [hnew]
  exact ⟨.ref _,_,I.lnew (t':=s.toks) (r.rep k.toNat) (by rw [len_rep,Nat.mul_comm]; exact hz),rfl,q _ I.fresh⟩
end
section
variable {prog:Program} {w:World} {A:Around} {E:Value->Shared->Prop} {s:Shared}
end
section
variable {X:Cx}
end
end L2
namespace Att
open PySem PySem.W PySem.Calls PyProof.Rows
theorem ints_of_wellAll {P:Params} {h:Heap}:∀ (ns:List Int) (vs:List Value),WellAll P h vs (ns.map WData.int)->IntsAre vs ns:=by
  intro ns
  induction ns with
  | nil =>
    intro vs w
    rw [List.map_nil] at w
    cases w
    exact .nil
  | cons n ns ih =>
    intro vs w
    rw [List.map_cons] at w
    cases w with
    | cons a b =>
      cases a
      exact .cons _ _ (ih _ b)
theorem script_of {l:OpenLaw} {n:Nat} (hn:l.most=some n) {P:Params} {h:Heap} {args:List WData} {vals:List Value}
    (hpre:l.row.toRowW.claim.pre args=true) (hwl:WellAll P h vals args) :
    ∃ a vs ns,vals=[Value.ref a] /\ args=[WData.list (ns.map WData.int)] /\ h.get? a=some { cls:=.type "list",data:=.seq vs.toArray } /\ IntsAre vs ns /\ ns.length<=n:=by
  have hsh:WShape.hasAll [] args [.list .int]=true:=(pre_splitW hpre).1
  have hc:l.pre.holds [] { args:=args }=true:=(pre_splitW hpre).2
  obtain ⟨d,r,rfl,h1,h2⟩:=hasAllW_cons hsh
  obtain rfl:=hasAllW_nil h2
  obtain ⟨xs,rfl,h3⟩:=hasW_list h1
  obtain ⟨ns,rfl⟩:=items_int h3
  have hlen:ns.length<=n:=by
    unfold OpenLaw.pre at hc
    have h4:(WTm.not (.lt (.lit (.int (n:Int))) (.len (.arg 0)))).holds [] { args:=[.list (ns.map .int)] }=true:=by
      have h4:=(holds_andW hc).1
      rw [hn] at h4
      exact h4
    have h5:=condW_of h4 (w_not (w_lt w_lit (w_len_list (w_arg rfl))))
    rw [List.length_map] at h5
    refine Nat.le_of_not_lt fun q=>?_
    have q':(n:Int) < ((ns.length:Nat):Int):=by omega
    first
      | (rw [decide_eq_true q'] at h5; exact absurd h5 (by decide))
      | (simp at h5; omega)
  cases hwl with
  | cons w1 w2 =>
    cases w2
    cases w1 with
    | list ho hall=>exact ⟨_,_,ns,rfl,rfl,ho,ints_of_wellAll ns _ hall,hlen⟩
theorem post_true (l:OpenLaw) (args:List WData):l.row.toRowW.claim.post args (.bool true) args=true :=
  postW_of (r:=l.row.toRowW) (X:=(true == true))
    (show WShape.has [] (.bool true) .bool=true by first | rfl | decide | simp [WShape.has,WShape.arms,WShape.armsAll])
    (show (WTm.eq .res (.lit (.bool true))).value [] { args:=args,res:=some (.bool true),after:=args }=some (.bool (true == true)) from w_eq_bool (w_res rfl) w_lit) rfl
theorem attach_call {l:OpenLaw} {n:Nat} {q:Program} {loose:List Str} {XP:(Str->Option Value)->Heap->Prop} {YP:World->Heap->Prop} {d:DefRec}
    (hn:l.most=some n) (hdf:d.params.defaults=[])
    (call:∀ (w:World) (s₀ s₁:Shared) (mg mb:Str->Option Value) (fa:Addr) (o:Obj) (pm cd doc:Value) (a:Addr) (vs:List Value) (ns:List Int),
      Ground q loose [] XP w s₀ mg mb s₁.heap->YP w s₁.heap ->
      s₁.heap.get? fa=some o->o.data=.func (docDef d.name d.params d.body d.scope pm cd doc)->s₁.heap.CodeRec cd d.name->mg d.name=some (.ref fa) ->
      s₁.heap.get? a=some { cls:=.type "list",data:=.seq vs.toArray }->IntsAre vs ns->ns.length<=n->s₁.gens=#[] ->
      codeAny (model l.prog w) callerA (.call (.ref fa) ⟨[.ref a],[]⟩) (fun r s'=>r=.ok (.ret (.bool true)) /\ OldK s₁.heap s'.heap /\ s'.os=s₁.os /\ AllBare s'.gens) s₁) :
    WalkO q loose XP YP l.row.toRowW d [] (fun f vs=>PySem.call f vs):=by
  intro w s₀ s₁ mg mb G Y fa o pm cd doc dV kV ho hd hcd hD hmg hg args vals as hpre hlay hrd hwl hlo
  obtain rfl:dV=.none:=Dflts.none hD hdf
  obtain rfl:kV=.none:=Dflts.noKw hD
  obtain ⟨a,vs,ns,rfl,rfl,hobj,hints,hlen⟩:=script_of hn hpre hwl
  refine enter_call (codeAny_mono (call w s₀ s₁ mg mb fa o pm cd doc a vs ns G Y ho (fd_plain hd) hcd hmg hobj hints hlen hg) fun r s' hq=>?_)
  obtain ⟨rfl,h2,h3,h4⟩:=hq
  exact ⟨.inl ⟨.bool true,.bool true,[],rfl,fun _=>rfl,.bool true,post_true l _,fun _=>⟨List.Pairwise.nil,fun _ hm=>(nomatch hm)⟩⟩,h2,h3,h4⟩
section
variable {prog:Program} {w:World} {A:Around} {E:Value->Shared->Prop} {s:Shared} {K:Frag}
noncomputable def ledger (h:Heap) (L d:Addr):List (Addr × Obj):=(List.range h.objs.size).filterMap fun a=>if a=L \/ a=d then none else (h.get? a).map fun o=>(a,o)
end
end Att
namespace L2
open PySem PySem.Spec PyProof.Rows
theorem vals_ints:∀ {vs:List Value} {ns:List Int},IntsAre vs ns->Vals (ns.map V.int) vs
  | _,_,.nil=>.nil
  | _,_,.cons n t h=>.cons ⟨t,rfl⟩ (vals_ints h)
noncomputable def Only (H:Hp):Prop:=∀ b,H b=none \/ ∃ o xs,H b=some (.frz o (.lst xs))
theorem law_call {P:Program} {w:World} {K:PySem.W.Frag} {mg mb:Str->Option Value} {CX:CXT} {k:Nat} {fa a:Addr} {fd:FuncData} {x:Str} {sp:Sp} {s₁:Shared} {vs:List Value} {ns:List Int}
    (KX:K.In s₁.heap) (hns:s₁.heap.Ns mainGlobals mg) (hb:s₁.heap.Ns builtinsNs mb) (hbb:∀ x:Str,x ≠ "__name__"->mb x=bootBuiltins x) (hlim:s₁.heap.NoLimit) (hg:s₁.gens=#[])
    (ha:s₁.heap.get? a=some { cls:=.type "list",data:=.seq vs.toArray }) (hi:IntsAre vs ns) (hl:ns.length<=sizeLine) (hr:Room k callerA)
    (F:∀ base:Heap,K.In base->base.Ns mainGlobals mg->FnOk P w K mg base CX k fa fd [x] sp) (hbind:∀ (s:Shared) (u:Value),BindsTo s fd ⟨[u],[]⟩ [(x,u)])
    (hsp:∀ H:Hp,Only H->SqL K H a (ns.map V.int)->sp [.ref a] H (fun v _=>v=.bl true) fun _ _ _=>False)
    (hCX:∀ H e s',CX [] H s₁ (fun _ _ _=>False) e s'->False) :
    codeAny (model P w) callerA (.call (.ref fa) ⟨[.ref a],[]⟩) (fun r s'=>r=.ok (.ret (.bool true)) /\ OldK s₁.heap s'.heap /\ s'.os=s₁.os /\ AllBare s'.gens) s₁:=by
  have rv:=vals_ints hi
  have lenV:=hi.length
  have core:∀ H:Hp,Only H->SqL K H a (ns.map V.int)->HOk P w H s₁.heap->(∀ b,H b ≠ none->b=a)->(H a ≠ none->K.lookup a=none) ->
      codeAny (model P w) callerA (.call (.ref fa) ⟨[.ref a],[]⟩) (fun r s'=>r=.ok (.ret (.bool true)) /\ OldK s₁.heap s'.heap /\ s'.os=s₁.os /\ AllBare s'.gens) s₁:=by
    intro H hO hS hok hA hK
    have base_of:∀ {b:Addr} {o:Obj},s₁.heap.get? b=some o->H b=none->(hidT s₁.heap H).get? b=some o:=fun e n=>hidT_get e n
    have noA:∀ {b:Addr} {o:Obj} {es:Array DictEntry} {ep:Nat},s₁.heap.get? b=some o->o.data=.dict es ep->H b=none:=fun {b o es ep} e d=>by
      cases q:H b with
      | none=>rfl
      | some u =>
        have e':b=a:=hA b (by rw [q]; simp)
        subst e'
        rw [ha] at e; cases e
        have d':Data.seq vs.toArray _=Data.dict es ep:=d
        cases d'
    have nsK:∀ {b:Addr} {m:Str->Option Value},s₁.heap.Ns b m->(hidT s₁.heap H).Ns b m:=fun {b m} ⟨o,es,ep,e,d,r⟩=>⟨o,es,ep,base_of e (noA e d),d,r⟩
    have hKb:K.In (hidT s₁.heap H):=fun b o e=>base_of (KX b o e) (by
      cases q:H b with
      | none=>rfl
      | some u =>
        have e':b=a:=hA b (by rw [q]; simp)
        subst e'
        rw [hK (by rw [q]; simp)] at e; cases e)
    have hM:Mod K mg (hidT s₁.heap H):=⟨hKb,nsK hns,⟨mb,nsK hb,hbb⟩,let ⟨mc,h1,h2⟩:=hlim; ⟨mc,nsK h1,h2⟩⟩
    have e0:Env0 P w K mg (hidT s₁.heap H) callerA [] s₁ H:=⟨rfl,hM,fun b o e=>of_hidT e,Nat.le_of_eq (hidT_size _ _),trivial,fun b hb=>absurd (show b ∈ ([]:List Addr) from hb) (by simp),hok,.of_eq hg⟩
    refine codeAny_mono ((F _ hKb (nsK hns)).run callerA [] s₁ H ⟨[.ref a],[]⟩ [.ref a] [.ref a] _ _ hr e0 (hbind s₁ (.ref a)) (.cons rfl .nil) (hsp H hO hS)) fun r s' h=>?_
    cases r with
    | error e=>exact (hCX H e s' h).elim
    | ok fl =>
      cases fl with
      | next=>exact False.elim h
      | brk=>exact False.elim h
      | cont=>exact False.elim h
      | ret u =>
        obtain ⟨v,H',os,bare,un,hok',r',q⟩:=h
        have q':v=.bl true:=q
        subst q'
        obtain rfl:u=Value.bool true:=r'
        refine ⟨rfl,OldK.of_keep fun b o e=>?_,os,bare⟩
        cases q:H b with
        | none=>exact un.keep b o e q (by intro z; exact absurd (show b ∈ ([]:List Addr) from z) (by simp)) (by simp)
        | some u =>
          rcases hO b with z | ⟨ob,xs,z⟩
          · rw [q] at z; cases z
          · have z2:=un.frzs b ob _ z
            obtain ⟨e1,_⟩:=hok b _ z
            obtain ⟨e2,_⟩:=hok' b _ z2
            rw [e] at e1; cases e1
            exact e2
  cases hk:K.lookup a with
  | some o =>
    have e:=KX a o hk
    rw [ha] at e
    cases e
    refine core (fun _=>none) (fun _=>.inl rfl) (.inr ⟨_,vs.toArray,_,hk,rfl,rfl,rfl,by rw [List.size_toArray,lenV]; exact hl,by simpa using rv⟩) (fun b u z=>by have z':(none:Option HO)=some u:=z; cases z') (fun b z=>absurd rfl z) fun z=>absurd rfl z
  | none =>
    refine core (fun b=>if b=a then some (.frz { cls:=.type "list",data:=.seq vs.toArray } (.lst (ns.map V.int))) else none) (fun b=>?_) (.inl (.inr ⟨{ cls:=.type "list",data:=.seq vs.toArray },if_pos rfl⟩)) (fun b u z=>?_) (fun b z=>?_) fun _=>hk
    · by_cases hb:b=a
      · exact .inr ⟨_,_,if_pos hb⟩
      · exact .inl (if_neg hb)
    · by_cases hb:b=a
      · have z':=(if_pos hb).symm.trans z
        cases z'
        subst hb
        exact ⟨ha,by rw [List.length_map]; exact hl,vs,_,rv,ha⟩
      · have z':=(if_neg hb).symm.trans z
        cases z'
    · by_cases hb:b=a
      · exact hb
      · exact absurd (if_neg hb) z
end L2
namespace L2
open PySem PySem.Spec PyProof.Rows
noncomputable abbrev KOf {K:PySem.W.Frag} {h:Heap} (_:K.In h):PySem.W.Frag:=K
theorem walk_of {l:PySem.W.OpenLaw} {n k:Nat} {q:Program} {loose:List Str} {XP:(Str->Option Value)->Heap->Prop} {YP:World->Heap->Prop} {d:DefRec} {K:Params->PySem.W.Frag} {CX:World->CXT} {sp:World->Sp} {x:Str}
    (hn:l.most=some n) (hn2:n<=sizeLine) (hdf:d.params.defaults=[]) (hr:Room k callerA)
    (hY:∀ (w:World) (h:Heap),YP w h->(K w.params).In h)
    (F:∀ (w:World) (mg:Str->Option Value) (fa:Addr) (h:Heap),(K w.params).In h->h.Ns mainGlobals mg->mg d.name=some (.ref fa) ->
      ∃ fd:FuncData,(∀ (s:Shared) (u:Value),BindsTo s fd ⟨[u],[]⟩ [(x,u)]) /\
        ∀ base:Heap,(K w.params).In base->base.Ns mainGlobals mg->FnOk l.prog w (K w.params) mg base (CX w) k fa fd [x] (sp w))
    (hsp:∀ (w:World) (H:Hp) (a:Addr) (ns:List Int),ns.length<=n->Only H->SqL (K w.params) H a (ns.map V.int)->sp w [.ref a] H (fun v _=>v=.bl true) fun _ _ _=>False)
    (hCX:∀ (w:World) (H:Hp) (s:Shared) (e:Value) (s':Shared),CX w [] H s (fun _ _ _=>False) e s'->False) :
    PySem.W.WalkO q loose XP YP l.row.toRowW d [] (fun f vs=>PySem.call f vs):=by
  refine Att.attach_call hn hdf fun w s₀ s₁ mg mb fa o pm cd doc a vs ns G Y ho hd hcd hmg hobj hints hlen hg=>?_
  have KX:=hY w _ Y
  obtain ⟨fd,hb,hF⟩:=F w mg fa _ KX G.T.g hmg
  exact law_call KX G.T.g G.T.b G.T.builtins G.T.nolimit hg hobj hints (Nat.le_trans hlen hn2) hr hF hb (fun H hO hS=>hsp w H a ns hlen hO hS) fun H e s'=>hCX w H s₁ e s'
end L2
namespace L2
open PySem PySem.Spec PyProof.Rows
noncomputable def defArgs (s:Stmt):Arguments:=match s with
  | .FunctionDef _ a _ _ _ _ _ _ _ _=>a
  | _=>{ posonlyargs:=[],args:=[],vararg:=none,kwonlyargs:=[],kw_defaults:=[],kwarg:=none,defaults:=[] }
noncomputable def defBody (s:Stmt):List Stmt:=match s with
  | .FunctionDef _ _ b _ _ _ _ _ _ _=>b
  | _=>[]
noncomputable def defScope (s:Stmt):Scope:=match s with
  | .FunctionDef _ _ _ _ _ _ sc _ _ _=>sc
  | _=>{ kind:=.function,names:=[],isGenerator:=false,isCoroutine:=false }
noncomputable abbrev CX0:CXT:=fun _ _ _ _ _ _=>False
structure Fun (K:PySem.W.Frag) (x qual:Str) (st:Stmt) (f:Addr) (fd:FuncData):Prop where
  ex:∃ (oc:Value) (od:Option Addr) (kV doc pm:Value) (an:Option Addr) (cdv ct:Value) (osl:Array (Option Value)),
    fd=PySem.W.fnOf x qual (defArgs st) (defBody st) (defScope st) .none kV doc pm an cdv ct /\ K.lookup f=some ⟨oc,od,.func fd,osl⟩ /\ PySem.W.codeIn K cdv qual=true
  kp:PySem.W.keepIn K (.ref f)=true
section
variable {P:Program} {w:World} {K:PySem.W.Frag} {mg:Str->Option Value} {base:Heap}
theorem Fun.ok {x qual:Str} {st:Stmt} {f:Addr} {fd:FuncData} {N ps:List Str} {k:Nat} {sp:Sp} (F:Fun K x qual st f fd) (S:FnScope N ps (defScope st)) (len:∀ vs H Q E,sp vs H Q E->vs.length=ps.length)
    (hbody:∀ (cdv:Value) (A:Around) (outer:List Env) (s:Shared) (H:Hp) (vs:List V) (Q:VK) (E:XK),Room k (A.deeper (envOfC qual (defScope st) s.heap.objs.size f cdv))->sp vs H Q E ->
      ∃ t,PSs (cxOf CX0 P w K mg base N qual (defScope st) f cdv A outer s H E).nox (defBody st) t /\ t { nx:=fun _ H'=>Q .non H',rt:=Q } (start N vs) H):FnOk P w K mg base CX0 (k + 1) f fd ps sp:=by
  obtain ⟨oc,od,kV,doc,pm,an,cdv,ct,osl,rfl,lk,hcd⟩:=F.ex
  refine fn_of lk hcd S len fun A outer s H vs Q E hr hsp=>?_
  obtain ⟨t,h,q⟩:=hbody cdv A outer s H vs Q E hr hsp
  exact ⟨t,h.nox,q⟩
theorem Fun.binds {x qual:Str} {st:Stmt} {f:Addr} {fd:FuncData} {ps:List Str} (F:Fun K x qual st f fd)
    (h:∀ (kV doc pm:Value) (an:Option Addr) (cdv ct:Value) (us:List Value),us.length=ps.length->bindArgs (PySem.W.fnOf x qual (defArgs st) (defBody st) (defScope st) .none kV doc pm an cdv ct) ⟨us,[]⟩=pure (ps.zip us)):Binds K fd ps []:=by
  obtain ⟨oc,od,kV,doc,pm,an,cdv,ct,osl,rfl,lk,hcd⟩:=F.ex
  exact .all (h kV doc pm an cdv ct)
theorem fun_mk {x qual:Str} {st:Stmt} {f:Addr} {oc:Value} {od an:Option Addr} {osl:Array (Option Value)} {kV doc pm cdv ct:Value} (l:K.lookup f=some ⟨oc,od,.func (PySem.W.fnOf x qual (defArgs st) (defBody st) (defScope st) .none kV doc pm an cdv ct),osl⟩)
    (c:PySem.W.codeIn K cdv qual=true) (k:PySem.W.keepIn K (.ref f)=true):Fun K x qual st f (PySem.W.fnOf x qual (defArgs st) (defBody st) (defScope st) .none kV doc pm an cdv ct):=⟨⟨oc,od,kV,doc,pm,an,cdv,ct,osl,rfl,l,c⟩,k⟩
end
theorem hu_of {A:Around} {k:Nat} (hr:Room k A):A.units + 1 < cLine:=Nat.lt_of_le_of_lt (Nat.add_le_add_left (by decide:1<=64) _) hr.units
theorem small1000 {n:Nat} (h:n<=1000):n < sizeLine:=Nat.lt_of_le_of_lt h (by decide)
section
variable {X:Cx}
theorem pv (i:Nat) {x:Str} {pos:Pos} (hN:X.N[i]?=some x:=by rfl) (hv:Vis X.env.scope x:=by first | exact Or.inl rfl | exact Or.inr (Or.inl rfl) | exact Or.inr (Or.inr rfl)) (hd:(x == ("__debug__":Str))=false:=by decide)
    (hcd:(x == ("__classdict__":Str))=false:=by decide):PE X (.Name x pos) (tVar i):=pe_var hN hv hd hcd
end
theorem iteF {A B:Prop} (h:B):if false=true then A else B:=by
  rw [if_neg Bool.false_ne_true]
  exact h
theorem iteT {A B:Prop} (h:A):if true=true then A else B:=by
  rw [if_pos rfl]
  exact h
noncomputable def Same (H H':Hp):Prop:=∀ b o,H b=some o->H' b=some o
theorem Same.refl (H:Hp):Same H H:=fun _ _ h=>h
theorem Same.trans {H H1 H2:Hp} (a:Same H H1) (b:Same H1 H2):Same H H2:=fun c o h=>b c o (a c o h)
theorem Same.free {H H':Hp} (e:Same H H') {l:Addr} (h:H' l=Option.none):H l=Option.none:=by
  cases q:H l with
  | none=>rfl
  | some o =>
    rw [e l o q] at h
    cases h
theorem Same.seq {K:PySem.W.Frag} {H H':Hp} {a:Addr} {xs:List V} (e:Same H H') (h:SqL K H a xs):SqL K H' a xs:=by
  rcases h with (h | ⟨o,h⟩) | h
  · exact .inl (.inl (e _ _ h))
  · exact .inl (.inr ⟨o,e _ _ h⟩)
  · exact .inr h
end L2
set_option Elab.async false
set_option linter.all false
set_option maxRecDepth 100000
namespace L2
open PySem PySem.Spec PyProof.Rows
section
variable {κ:Type} [DecidableEq κ]
noncomputable def valV (kvs:List (κ × V)) (k:κ):Option V:=(kvs.find? fun kv=>decide (kv.1=k)).map (·.2)
noncomputable def putK (kvs:List (κ × V)) (k:κ) (v:V):List (κ × V) :=
  if (kvs.any fun kv=>decide (kv.1=k))=true then kvs.map (fun kv=>if kv.1=k then (kv.1,v) else kv) else kvs ++ [(k,v)]
noncomputable def dropK (kvs:List (κ × V)) (k:κ):List (κ × V):=kvs.filter fun kv=>decide (kv.1 ≠ k)
theorem valV_pos {p:κ × V} {r:List (κ × V)} {k:κ} (e:p.1=k):valV (p :: r) k=some p.2:=by simp [valV,List.find?_cons,e]
theorem valV_neg {p:κ × V} {r:List (κ × V)} {k:κ} (e:¬ p.1=k):valV (p :: r) k=valV r k:=by simp [valV,List.find?_cons,e]
theorem valV_any (k:κ):∀ kvs:List (κ × V),(kvs.any fun kv=>decide (kv.1=k))=(valV kvs k).isSome
  | []=>rfl
  | p :: r=>by
    rw [List.any_cons]
    by_cases e:p.1=k
    · simp only [valV_pos e,decide_eq_true e,Bool.true_or,Option.isSome_some]
    · rw [valV_neg e,decide_eq_false e,Bool.false_or]; exact valV_any k r
theorem length_putK (kvs:List (κ × V)) (k:κ) (v:V):(putK kvs k v).length<=kvs.length + 1:=by
  unfold putK
  split
  · rw [List.length_map]; omega
  · rw [List.length_append,List.length_cons,List.length_nil]; omega
theorem RelO.isSome_eq {o:Option V} {u:Option Value} (r:RelO o u):o.isSome=u.isSome:=by
  cases o with
  | none=>cases u with
    | none=>rfl
    | some _=>exact (show False from r).elim
  | some _=>cases u with
    | none=>exact (show False from r).elim
    | some _=>rfl
theorem RelO.getD {o:Option V} {u:Option Value} {d:V} {d':Value} (r:RelO o u) (rd:RelV d d'):RelV (o.getD d) (u.getD d'):=by
  cases o with
  | none=>cases u with
    | none=>exact rd
    | some _=>exact (show False from r).elim
  | some _=>cases u with
    | none=>exact (show False from r).elim
    | some _=>exact r
theorem KV.val {kvs:List (κ × V)} {vs:List (κ × Value)} (r:KV kvs vs) (k:κ):RelO (valV kvs k) (valueAt vs k):=by
  unfold KV at r
  induction r with
  | nil=>exact True.intro
  | @cons p q ps qs h t ih =>
    obtain ⟨h1,h2⟩:=h
    by_cases e:p.1=k
    · have e':q.1=k:=h1.symm.trans e
      have b:valueAt (q :: qs) k=some q.2:=by simp [valueAt,List.find?_cons,e']
      rw [valV_pos e,b]; exact h2
    · have e':¬ q.1=k:=fun z=>e (h1.trans z)
      have b:valueAt (q :: qs) k=valueAt qs k:=by simp [valueAt,List.find?_cons,e']
      rw [valV_neg e,b]; exact ih
theorem KV.any {kvs:List (κ × V)} {vs:List (κ × Value)} (r:KV kvs vs) (k:κ):(kvs.any fun kv=>decide (kv.1=k))=vs.any fun kv=>decide (kv.1=k):=by
  unfold KV at r
  induction r with
  | nil=>rfl
  | cons h t ih=>rw [List.any_cons,List.any_cons,ih,h.1]
theorem KV.repl {kvs:List (κ × V)} {vs:List (κ × Value)} (r:KV kvs vs) (k:κ) {y:V} {u:Value} (ry:RelV y u) :
    KV (kvs.map fun kv=>if kv.1=k then (kv.1,y) else kv) (vs.map fun kv=>if kv.1=k then (kv.1,u) else kv):=by
  unfold KV at r ⊢
  induction r with
  | nil=>exact .nil
  | @cons p q ps qs h t ih =>
    rw [List.map_cons,List.map_cons]
    refine .cons ?_ ih
    obtain ⟨h1,h2⟩:=h
    by_cases e:p.1=k
    · rw [if_pos e,if_pos (h1.symm.trans e)]; exact ⟨h1,ry⟩
    · rw [if_neg e,if_neg (fun z=>e (h1.trans z))]; exact ⟨h1,h2⟩
theorem KV.put {kvs:List (κ × V)} {vs:List (κ × Value)} (r:KV kvs vs) (k:κ) {y:V} {u:Value} (ry:RelV y u):KV (putK kvs k y) (stored vs k u):=by
  unfold putK stored
  rw [r.any k]
  by_cases e:(vs.any fun kv=>decide (kv.1=k))=true
  · rw [if_pos e,if_pos e]; exact r.repl k ry
  · rw [if_neg e,if_neg e]; exact Paired.snoc r ⟨rfl,ry⟩
theorem KV.drop {kvs:List (κ × V)} {vs:List (κ × Value)} (r:KV kvs vs) (k:κ):KV (dropK kvs k) (without vs k):=by
  unfold KV at r ⊢
  unfold dropK without
  induction r with
  | nil=>exact .nil
  | @cons p q ps qs h t ih =>
    obtain ⟨h1,h2⟩:=h
    rw [List.filter_cons,List.filter_cons]
    by_cases e:p.1=k
    · have a:¬ decide (p.1 ≠ k)=true:=by simp [e]
      have b:¬ decide (q.1 ≠ k)=true:=by simp [h1.symm.trans e]
      rw [if_neg a,if_neg b]; exact ih
    · have e':¬ q.1=k:=fun z=>e (h1.trans z)
      have a:decide (p.1 ≠ k)=true:=by simp [e]
      have b:decide (q.1 ≠ k)=true:=by simp [e']
      rw [if_pos a,if_pos b]; exact .cons ⟨h1,h2⟩ ih
theorem KV.keys {kvs:List (κ × V)} {vs:List (κ × Value)} (r:KV kvs vs):kvs.map (·.1)=vs.map (·.1):=by
  unfold KV at r
  induction r with
  | nil=>rfl
  | cons h t ih=>rw [List.map_cons,List.map_cons,ih,h.1]
theorem KV.length {kvs:List (κ × V)} {vs:List (κ × Value)} (r:KV kvs vs):kvs.length=vs.length:=Paired.length r
end
theorem kV_is {P:Program} {w:World} {k:Key} {u:Value} (r:RelV (kV k) u):(mixKind P w).is k u=true:=by
  cases k with
  | inl i=>obtain ⟨t,e⟩:=(show ∃ t,u=Value.int i t from r); subst e; exact mixKind_int P w i t
  | inr x=>obtain ⟨t,e⟩:=(show ∃ t,u=Value.str x t from r); subst e; exact mixKind_str P w x t
theorem items_are {P:Program} {w:World}:∀ {ks:List Key} {us:List Value},Vals (ks.map kV) us->ItemsAre (mixKind P w) ks us
  | [],_,r=>by rw [List.map_nil] at r; cases r; exact .nil
  | k :: ks,_,r=>by
    rw [List.map_cons] at r
    cases r with
    | cons h t=>exact .cons (kV_is h) (items_are t)
noncomputable abbrev KT (H:Hp):List (List Key × V)->List (List Key × Addr × Value)->Prop:=Paired fun p q=>p.1=q.1 /\ H q.2.1=some (.tup (p.1.map kV)) /\ RelV p.2 q.2.2
theorem KT.val {H:Hp} {kvs:List (List Key × V)} {xs:List (List Key × Addr × Value)} (r:KT H kvs xs) (k:List Key):RelO (valV kvs k) ((atKey xs k).map (·.2)):=by
  induction r with
  | nil=>exact True.intro
  | @cons p q ps qs h t ih =>
    obtain ⟨h1,_,h2⟩:=h
    by_cases e:p.1=k
    · have e':q.1=k:=h1.symm.trans e
      have b:atKey (q :: qs) k=some q.2:=by simp [atKey,List.find?_cons,e']
      rw [valV_pos e,b]; exact h2
    · have e':¬ q.1=k:=fun z=>e (h1.trans z)
      have b:atKey (q :: qs) k=atKey qs k:=by simp [atKey,List.find?_cons,e']
      rw [valV_neg e,b]; exact ih
theorem KT.repl {H:Hp} {kvs:List (List Key × V)} {xs:List (List Key × Addr × Value)} (r:KT H kvs xs) (k:List Key) {y:V} {u:Value} (ry:RelV y u) :
    KT H (kvs.map fun kv=>if kv.1=k then (kv.1,y) else kv) (xs.map (putAt k u)):=by
  induction r with
  | nil=>exact .nil
  | @cons p q ps qs h t ih =>
    rw [List.map_cons,List.map_cons]
    refine .cons ?_ ih
    obtain ⟨h1,h2,h3⟩:=h
    unfold putAt
    by_cases e:p.1=k
    · rw [if_pos e,if_pos (h1.symm.trans e)]; exact ⟨h1,h2,ry⟩
    · rw [if_neg e,if_neg (fun z=>e (h1.trans z))]; exact ⟨h1,h2,h3⟩
theorem KT.put {H:Hp} {kvs:List (List Key × V)} {xs:List (List Key × Addr × Value)} (r:KT H kvs xs) (k:List Key) {b:Addr} {y:V} {u:Value} (hb:H b=some (.tup (k.map kV))) (ry:RelV y u) :
    KT H (putK kvs k y) (storedH xs k b u):=by
  have e:(kvs.any fun kv=>decide (kv.1=k))=(atKey xs k).isSome:=by
    rw [valV_any,(r.val k).isSome_eq,Option.isSome_map]
  unfold putK storedH
  rw [e]
  by_cases q:(atKey xs k).isSome=true
  · rw [if_pos q,if_pos q]; exact r.repl k ry
  · rw [if_neg q,if_neg q]; exact Paired.snoc r ⟨rfl,hb,ry⟩
theorem KT.keeps {H H':Hp} {kvs:List (List Key × V)} {xs:List (List Key × Addr × Value)} (r:KT H kvs xs) (ht:∀ b ys,H b=some (.tup ys)->H' b=some (.tup ys)):KT H' kvs xs :=
  Paired.mapP r fun _ _ z=>⟨z.1,ht _ _ z.2.1,z.2.2⟩
section
variable {P:Program} {w:World} {H:Hp} {h:Heap} {a:Addr}
theorem rd_of {u:HO} (ok:HOk P w H h) (e:Rd H a u):ObjOk P w H h a u:=e.ok ok
theorem dk_rd {kvs:List (Key × V)} (ok:HOk P w H h) (e:Rd H a (.dK kvs)):kvs.length<=sizeLine /\ (a == sysModules)=false /\ ∃ vs,KV kvs vs /\ h.DictOf (mixKind P w) a vs :=
  show ObjOk P w H h a (.dK kvs) from rd_of ok e
theorem dk_of {kvs:List (Key × V)} (ok:HOk P w H h) (e:H a=some (.dK kvs)):kvs.length<=sizeLine /\ (a == sysModules)=false /\ ∃ vs,KV kvs vs /\ h.DictOf (mixKind P w) a vs:=dk_rd ok (.inl e)
theorem key_of {ks:List Key} (ok:HOk P w H h) (e:H a=some (.tup (ks.map kV))):(tupleKind (mixKind P w)).is h ks a:=by
  obtain ⟨_,its,r,o,h1,h2,n,h3⟩:=(show ObjOk P w H h a (.tup (ks.map kV)) from ok a _ e)
  exact ⟨o,its.toArray,n,h1,h2,h3,by simpa using items_are r⟩
theorem dt_rd {kvs:List (List Key × V)} (ok:HOk P w H h) (e:Rd H a (.dT kvs)):kvs.length<=sizeLine /\ (a == sysModules)=false /\
    ∃ xs,KT H kvs xs /\ h.DictOfH (tupleKind (mixKind P w)) a xs:=by
  obtain ⟨z,y,xs,r,o,es,ep,h1,h2,h3,h4,h5⟩:=(show ObjOk P w H h a (.dT kvs) from rd_of ok e)
  refine ⟨z,y,xs,r,o,es,ep,h1,h2,h3,h4,fun x hx=>?_,h5⟩
  have all:∀ {l:List (List Key × V)} {m:List (List Key × Addr × Value)},KT H l m->∀ x ∈ m,(tupleKind (mixKind P w)).is h x.1 x.2.1:=by
    intro l m q
    induction q with
    | nil=>intro x hx; exact nomatch hx
    | @cons p q ps qs hq t ih =>
      intro x hx
      rcases List.mem_cons.mp hx with e | hx
      · subst e
        exact key_of ok (by rw [<- hq.1]; exact hq.2.1)
      · exact ih x hx
  exact all r x hx
theorem dt_of {kvs:List (List Key × V)} (ok:HOk P w H h) (e:H a=some (.dT kvs)):kvs.length<=sizeLine /\ (a == sysModules)=false /\
    ∃ xs,KT H kvs xs /\ h.DictOfH (tupleKind (mixKind P w)) a xs:=dt_rd ok (.inl e)
end
noncomputable def DGet (H:Hp) (a:Addr) (y:V) (r:Option V):Prop :=
  (∃ kvs k,Rd H a (.dK kvs) /\ y=kV k /\ r=valV kvs k) \/ ∃ kvs k b,Rd H a (.dT kvs) /\ y=.ref b /\ H b=some (.tup (k.map kV)) /\ r=valV kvs k
noncomputable def DPut (H:Hp) (a:Addr) (y v:V) (H':Hp):Prop :=
  (∃ kvs k,H a=some (.dK kvs) /\ y=kV k /\ kvs.length < sizeLine /\ H'=upd H a (.dK (putK kvs k v))) \/
  ∃ kvs k b,H a=some (.dT kvs) /\ y=.ref b /\ H b=some (.tup (k.map kV)) /\ kvs.length < sizeLine /\ H'=upd H a (.dT (putK kvs k v))
theorem DGet.k {H:Hp} {a:Addr} {kvs:List (Key × V)} {k:Key} (e:H a=some (.dK kvs)):DGet H a (kV k) (valV kvs k):=.inl ⟨kvs,k,.inl e,rfl,rfl⟩
theorem DGet.t {H:Hp} {a b:Addr} {kvs:List (List Key × V)} {k:List Key} (e:H a=some (.dT kvs)) (eb:H b=some (.tup (k.map kV))):DGet H a (.ref b) (valV kvs k):=.inr ⟨kvs,k,b,.inl e,rfl,eb,rfl⟩
theorem DPut.k {H:Hp} {a:Addr} {kvs:List (Key × V)} {k:Key} {v:V} (e:H a=some (.dK kvs)) (hl:kvs.length < sizeLine):DPut H a (kV k) v (upd H a (.dK (putK kvs k v))):=.inl ⟨kvs,k,e,rfl,hl,rfl⟩
theorem DPut.t {H:Hp} {a b:Addr} {kvs:List (List Key × V)} {k:List Key} {v:V} (e:H a=some (.dT kvs)) (eb:H b=some (.tup (k.map kV))) (hl:kvs.length < sizeLine) :
    DPut H a (.ref b) v (upd H a (.dT (putK kvs k v))):=.inr ⟨kvs,k,b,e,rfl,eb,hl,rfl⟩
section
variable {X:Cx} {pins:List (Addr × Obj)} {σ:St} {H:Hp} {s:Shared} {a:Addr} {y v:V} {u r:Value} {o:Option V} {A:Around} {E:Value->Shared->Prop}
theorem Inv.big (I:Inv X pins σ H s):sysModules < s.heap.objs.size:=by
  have h:mainGlobals < s.heap.objs.size:=(I.mod.glob.keeps I.bk).lt
  exact Nat.lt_trans (by decide) h
theorem d_getItem {Q:Value->Shared->Prop} (hu:A.units + 1 < cLine) (I:Inv X pins σ H s) (g:DGet H a y (some v)) (ry:RelV y u) (h:∀ w' s',Inv X pins σ H s'->RelV v w'->Q w' s') :
    wpAny (model X.prog X.w) A (getItem (.ref a) u) Q E s:=by
  rcases g with ⟨kvs,k,e,ey,l⟩ | ⟨kvs,k,b,e,ey,eb,l⟩
  · subst ey
    obtain ⟨z,hd,vs,rel,dd⟩:=dk_rd I.hok e
    obtain ⟨w',hw,rw'⟩:=RelO.some_of (v:=v) (o:=valueAt vs k) (by rw [l]; exact rel.val k)
    exact wpAny_getItem_of (kV_is ry) dd.mapOf hw (h w' _ (I.tok _) rw')
  · subst ey
    cases (show u=Value.ref b from ry)
    obtain ⟨z,hd,xs,rel,dd⟩:=dt_rd I.hok e
    obtain ⟨w',hw,rw'⟩:=RelO.some_of (v:=v) (o:=(atKey xs k).map (·.2)) (by rw [l]; exact rel.val k)
    obtain ⟨p,hp,hp2⟩:=Option.map_eq_some_iff.mp hw
    refine wpAny_getItem_heap (tupleKind_room_in1 hu) (key_of I.hok eb) dd hp ?_
    rw [hp2]
    exact h w' _ (I.tok _) rw'
theorem d_in {Q:Value->Shared->Prop} (hu:A.units + 1 < cLine) (I:Inv X pins σ H s) (g:DGet H a y o) (ry:RelV y u) (h:∀ s',Inv X pins σ H s'->Q (.bool o.isSome) s') :
    wpAny (model X.prog X.w) A (compareOp .In u (.ref a)) Q E s:=by
  rcases g with ⟨kvs,k,e,ey,l⟩ | ⟨kvs,k,b,e,ey,eb,l⟩
  · subst ey
    obtain ⟨z,hd,vs,rel,dd⟩:=dk_rd I.hok e
    refine wpAny_in_of (kV_is ry) hd dd.mapOf ?_
    rw [<- (rel.val k).isSome_eq,<- l]
    exact h _ (I.tok _)
  · subst ey
    cases (show u=Value.ref b from ry)
    obtain ⟨z,hd,xs,rel,dd⟩:=dt_rd I.hok e
    refine wpAny_in_heap (tupleKind_room_in1 hu) (key_of I.hok eb) hd dd ?_
    have q:=(rel.val k).isSome_eq
    rw [Option.isSome_map] at q
    rw [<- q,<- l]
    exact h _ (I.tok _)
theorem d_notIn {Q:Value->Shared->Prop} (hu:A.units + 1 < cLine) (I:Inv X pins σ H s) (g:DGet H a y o) (ry:RelV y u) (h:∀ s',Inv X pins σ H s'->Q (.bool (!o.isSome)) s') :
    wpAny (model X.prog X.w) A (compareOp .NotIn u (.ref a)) Q E s:=by
  rcases g with ⟨kvs,k,e,ey,l⟩ | ⟨kvs,k,b,e,ey,eb,l⟩
  · subst ey
    obtain ⟨z,hd,vs,rel,dd⟩:=dk_rd I.hok e
    refine wpAny_notIn_of (kV_is ry) hd dd.mapOf ?_
    rw [<- (rel.val k).isSome_eq,<- l]
    exact h _ (I.tok _)
  · subst ey
    cases (show u=Value.ref b from ry)
    obtain ⟨z,hd,xs,rel,dd⟩:=dt_rd I.hok e
    refine wpAny_notIn_heap (tupleKind_room_in1 hu) (key_of I.hok eb) hd dd ?_
    have q:=(rel.val k).isSome_eq
    rw [Option.isSome_map] at q
    rw [<- q,<- l]
    exact h _ (I.tok _)
theorem d_write {h':Heap} {t':Nat} {ob:HO} (I:Inv X pins σ H s) (mu:Mut (H a)) (hs:Heap.SameBut a s.heap h') (he:∃ q,h'.get? a=some q) (new:ObjOk X.prog X.w (upd H a ob) h' a ob) :
    Inv X pins σ (upd H a ob) { s with heap:=h',toks:=t' } :=
  I.write (x:=a) (e:=a) mu (.inl rfl) (fun b q hb z=>(hs.2 b hb).trans z) he new
theorem dk_new {P:Program} {w:World} {H':Hp} {h':Heap} {kvs:List (Key × V)} {vs:List (Key × Value)} (z:kvs.length<=sizeLine) (hd:(a == sysModules)=false) (rel:KV kvs vs) (dd:h'.DictOf (mixKind P w) a vs) :
    ObjOk P w H' h' a (.dK kvs):=⟨z,hd,vs,rel,dd⟩
theorem d_setItem {H':Hp} {Q:Unit->Shared->Prop} (hu:A.units + 1 < cLine) (I:Inv X pins σ H s) (g:DPut H a y v H') (ry:RelV y u) (rv:RelV v r) (h:∀ s',Inv X pins σ H' s'->Q () s') :
    wpAny (model X.prog X.w) A (setItem (.ref a) u r) Q E s:=by
  rcases g with ⟨kvs,k,e,ey,l,eH⟩ | ⟨kvs,k,b,e,ey,eb,l,eH⟩
  · subst ey eH
    obtain ⟨z,hd,vs,rel,dd⟩:=dk_of I.hok e
    have hz:vs.length<=sizeLine:=by rw [<- rel.length]; exact z
    have hl:(putK kvs k v).length<=sizeLine:=by have:=length_putK kvs k v; omega
    refine wpAny_setItem_pairs (hsz:=hz) (kV_is ry) dd fun h' dd' hs=>h _ ?_
    have he:∃ q,h'.get? a=some q:=let ⟨q,_,_,hq,_⟩:=dd'; ⟨q,hq⟩
    exact d_write I (by rw [e]; exact True.intro) hs he (dk_new hl hd (rel.put k rv) dd')
  · subst ey eH
    cases (show u=Value.ref b from ry)
    obtain ⟨z,hd,xs,rel,dd⟩:=dt_of I.hok e
    have hz:xs.length<=sizeLine:=by rw [<- Paired.length rel]; exact z
    have hl:(putK kvs k v).length<=sizeLine:=by have:=length_putK kvs k v; omega
    refine wpAny_setItem_heap (hsz:=hz) (tupleKind_room_in1 hu) (key_of I.hok eb) dd fun h' dd' hs=>h _ ?_
    obtain ⟨q,es,ep,hq,h2,h3,h4,_,h5⟩:=dd'
    refine d_write I (by rw [e]; exact True.intro) hs ⟨q,hq⟩ ⟨hl,hd,_,(rel.put k eb rv).keeps fun c ys ec=>?_,q,es,ep,hq,h2,h3,h4,h5⟩
    rw [upd_ne (ne_of ec e (fun z=>nomatch z))]
    exact ec
end
section
variable {X:Cx} {pins:List (Addr × Obj)} {σ:St} {H:Hp} {s:Shared} {a:Addr} {kvs:List (Key × V)} {k:Key} {u:Value} {A:Around} {E:Value->Shared->Prop}
end
section
variable {X:Cx} {o i e value:Expr} {pos pos' tpos:Pos} {td ty tv:TE}
end
theorem dk_empty {P:Program} {w:World} {H:Hp} (h:Heap) (hb:sysModules < h.objs.size):ObjOk P w H (h.push { cls:=.type "dict",data:=.dict #[] }) h.objs.size (.dK []) :=
  ⟨Nat.zero_le _,beq_eq_false_iff_ne.mpr (Ne.symm (Nat.ne_of_lt hb)),[],.nil,Heap.DictOf.new h⟩
noncomputable def tDNewK:TE:=fun _ H Q=>∀ p,H p=none->Q (.ref p) (upd H p (.dK []))
section
variable {X:Cx} {pos:Pos}
theorem pe_dnewK:PE X (.Dict [] [] pos) tDNewK:=fun pins s σ H Q I h =>
  wpAny_Dict_empty ⟨.ref s.heap.objs.size,_,I.laid (a:=s.heap.objs.size) (o:=.dK []) (t':=s.toks) (fun _ _ q=>Heap.get?_push_of_some _ q) (Nat.le_refl _) (dk_empty s.heap I.big),rfl,h _ (I.hok.fresh (Nat.le_refl _))⟩
end
noncomputable def tPairs:List (TE × TE)->St->Hp->(List (V × V)->Hp->Prop)->Prop
  | [],_,H,Q=>Q [] H
  | (tk,tv) :: r,σ,H,Q=>tk σ H fun x H1=>tv σ H1 fun y H2=>tPairs r σ H2 fun ps H3=>Q ((x,y) :: ps) H3
noncomputable abbrev VV:List (V × V)->List (Value × Value)->Prop:=Paired fun p q=>RelV p.1 q.1 /\ RelV p.2 q.2
noncomputable def PPs (X:Cx) (pos:Pos) (keys:List (Option Expr)) (values:List Expr) (trs:List (TE × TE)):Prop :=
  ∀ (pins:List (Addr × Obj)) (s:Shared) (σ:St) (H:Hp) (Q:List (V × V)->Hp->Prop),Inv X pins σ H s->tPairs trs σ H Q ->
    wpAny (model X.prog X.w) X.A (evalPairs (pairTrees keys values X.env pos)) (fun vs s'=>∃ ps H',Inv X pins σ H' s' /\ VV ps vs /\ Q ps H') X.xe s
theorem pps_nil {X:Cx} {pos:Pos}:PPs X pos [] [] []:=fun pins s σ H Q I h=>pairTrees_nil_walk ⟨[],H,I,.nil,h⟩
theorem pps_cons {X:Cx} {pos:Pos} {k v:Expr} {ks:List (Option Expr)} {vs:List Expr} {tk tv:TE} {trs:List (TE × TE)} (hk:PE X k tk) (hv:PE X v tv) (hr:PPs X pos ks vs trs) :
    PPs X pos (some k :: ks) (v :: vs) ((tk,tv) :: trs):=fun pins s σ H Q I h =>
  pairTrees_cons_walk (thn (hk pins s σ H _ I h) fun u s1 ⟨x,H1,I1,rx,q1⟩=>thn (hv pins s1 σ H1 _ I1 q1) fun w2 s2 ⟨y,H2,I2,ry,q2⟩ =>
    thn (hr pins s2 σ H2 _ I2 q2) fun ws s3 ⟨ps,H3,I3,rel,q3⟩=>⟨(x,y) :: ps,H3,I3,.cons ⟨rx,ry⟩ rel,q3⟩)
structure M1 (X:Cx) (o:Expr) (m:Str) (apos:Pos) (e:Expr) (cpos:Pos):Prop where
  base:attributeBase o m X.env (eval o X.env)=eval o X.env
  few:((backTo cpos (starEach [e] X.env)).all (fun x=>!x.1) && (backToKw cpos (keywordEach [] X.env)).all (fun x=>x.1.isSome)
    && decide (([e]:List Expr).length + ([]:List Keyword).length + (if ([]:List Keyword).isEmpty then 0 else 1) < 30))=true
  line:(apos.endLine == cpos.line)=true
  trees:backTo cpos (starEach [e] X.env)=[(false,eval e X.env)]
structure M2 (X:Cx) (o:Expr) (m:Str) (apos:Pos) (e f:Expr) (cpos:Pos):Prop where
  base:attributeBase o m X.env (eval o X.env)=eval o X.env
  few:((backTo cpos (starEach [e,f] X.env)).all (fun x=>!x.1) && (backToKw cpos (keywordEach [] X.env)).all (fun x=>x.1.isSome)
    && decide (([e,f]:List Expr).length + ([]:List Keyword).length + (if ([]:List Keyword).isEmpty then 0 else 1) < 30))=true
  line:(apos.endLine == cpos.line)=true
  trees:backTo cpos (starEach [e,f] X.env)=[(false,eval e X.env),(false,eval f X.env)]
section
variable {X:Cx} {pins:List (Addr × Obj)} {σ:St} {H:Hp} {s:Shared} {a:Addr} {y d:V} {u r:Value} {o:Option V} {A:Around} {E:Value->Shared->Prop}
end
section
variable {X:Cx} {o e f:Expr} {apos cpos:Pos} {td ty tx:TE}
end
section
variable {X:Cx} {pins:List (Addr × Obj)} {σ:St} {H:Hp} {s:Shared} {a:Addr} {kvs:List (Key × V)} {A:Around} {E:Value->Shared->Prop}
end
section
variable {X:Cx} {pins:List (Addr × Obj)} {σ:St} {H:Hp} {s:Shared} {a:Addr} {y:V} {u:Value} {A:Around} {E:Value->Shared->Prop}
end
end L2
set_option Elab.async false
set_option linter.all false
set_option maxRecDepth 100000
namespace L2
open PySem PyProof.Rows
open Sem (wp)
end L2
set_option Elab.async false
set_option linter.all false
set_option maxRecDepth 100000
namespace L2
open PySem PyProof.Rows
open Sem (wp)
theorem excMatches_own {M:Model} {A:Around} {E:Value->Shared->Prop} {nm q nm' q':Str} {C N D N':Addr} {bs bm bs' bm':List Value} {hdct hdct':Bool} {sn sn':List Str} {sub sub':List Value} {ab ab':Bool} {col col':Option Bool} {dd dd':Option Addr}
    {k0 k1 k2 k3 k5 k0' k1' k2' k3' k5':Option Value} {newId newId':String} {h:Heap} {g:Array GenState} {d:Drawn} {t:Nat} {os:OsState} {e:Addr} {oe:Obj} {b:Bool} {Q:Bool->Shared->Prop}
    (hC:h.get? C=some (excClassObj nm q C N bs bm hdct sn sub ab col dd k0 k1 k2 k3 k5 newId)) (hD:h.get? D=some (excClassObj nm' q' D N' bs' bm' hdct' sn' sub' ab' col' dd' k0' k1' k2' k3' k5' newId'))
    (he:h.get? e=some oe) (hcls:oe.cls=.ref C) (hbase:bm'.contains (.type "BaseException")=true) (hb:(Value.ref C :: bm).contains (.ref D)=b)
    (hq:Q b ⟨h,g,d,t,os⟩):wpAny M A (excMatches (.ref e) (.ref D)) Q E ⟨h,g,d,t,os⟩:=by
  have hcB:(Value.ref D :: bm').contains (.type "BaseException")=true:=by rw [List.contains_cons,hbase,Bool.or_true]
  have f:=tc_notTuple
  unfold excMatches
  repeat (first | (with_reducible refine wpAny_loadPart_at he ?_; rw [hcls]) | with_reducible refine wpAny_loadPart_at hD ?_ | (with_reducible refine wpAny_isSubtype_exc hD ?_; rw [hcB]) | (with_reducible refine wpAny_isSubtype_exc hC ?_; rw [hb]) | wp_step)
  all_goals (cases b <;> (try wp_walk) <;> exact hq)
end L2
set_option Elab.async false
set_option linter.all false
set_option maxRecDepth 100000
namespace L2
open PySem PySem.Spec PyProof.Rows
noncomputable def Fl (h:Heap) (a:Addr) (C:Value) (T:Option Addr):Prop :=
  ∃ oe vs a0,h.get? a=some oe /\ oe.cls=C /\ oe.data=.fields vs /\ vs[0]?=some a0 /\ 1 < vs.size /\
    (match T with
    | none=>vs[1]?=some Value.none
    | some t=>vs[1]?=some (Value.ref t) /\ t ≠ a /\ ∃ oT ts,h.get? t=some oT /\ oT.data=.fields ts /\ 3 < ts.size)
theorem frameOf_congr {e1 e2:Env} (h:e1.frame=e2.frame):PySem.frameOf e1=PySem.frameOf e2:=by
  unfold PySem.frameOf; rw [h]
theorem noteFrame_congr {e:Value} {e1 e2:Env} (h:e1.frame=e2.frame):noteFrame e e1=noteFrame e e2:=by
  unfold noteFrame; rw [h,frameOf_congr h]
structure Wr (l fs:List Addr) (h h':Heap):Prop where
  keep:∀ b o,b ∉ l->b ∉ fs->h.get? b=some o->h'.get? b=some o
  slot:∀ b o,b ∉ l->b ∈ fs->h.get? b=some o->∃ sl,h'.get? b=some { o with slots:=sl }
theorem Wr.any {l fs:List Addr} {h h':Heap} (W:Wr l fs h h') {b:Addr} {o:Obj} (hb:b ∉ l) (e:h.get? b=some o):∃ sl,h'.get? b=some { o with slots:=sl }:=by
  by_cases hf:b ∈ fs
  · exact W.slot b o hb hf e
  · exact ⟨o.slots,W.keep b o hb hf e⟩
theorem ObjOk.there {P:Program} {w:World} {H:Hp} {h:Heap} {a:Addr} {o:HO} (x:ObjOk P w H h a o):∃ ob,h.get? a=some ob:=by
  cases o with
  | lst xs=>obtain ⟨_,_,_,_,e⟩:=x; exact ⟨_,e⟩
  | tup xs=>obtain ⟨_,_,_,ob,e,_⟩:=x; exact ⟨_,e⟩
  | dK kvs=>obtain ⟨_,_,_,_,o,_,_,e,_⟩:=x; exact ⟨_,e⟩
  | dT kvs=>obtain ⟨_,_,_,_,o,_,_,e,_⟩:=x; exact ⟨_,e⟩
  | set S n=>obtain ⟨o,_,_,_,e,_⟩:=x; exact ⟨_,e⟩
  | ins C dx fs=>obtain ⟨_,_,_,e,_⟩:=x; exact ⟨_,e⟩
  | own y=>obtain ⟨_,e⟩:=x; exact ⟨_,e⟩
  | xd fs=>obtain ⟨_,⟨_,_,_,e,_⟩,_⟩:=x; exact ⟨_,e⟩
  | rng lo hi=>obtain ⟨_,_,_,e⟩:=x; exact ⟨_,e⟩
  | frz ob u=>obtain ⟨e,_⟩:=x; exact ⟨_,e⟩
  | tbl ps=>exact ⟨_,(show h.get? a=some _ from x)⟩
  | met f y=>exact ⟨_,(show h.get? a=some _ from x)⟩
  | ext φ=>obtain ⟨_,⟨_,e⟩,_⟩:=x; exact ⟨_,e⟩
section
variable {M:Model} {A:Around} {E:Value->Shared->Prop} {s:Shared} {base:Heap} {env top:Env} {outer:List Env} {L a:Addr} {C:Value} {T:Option Addr}
theorem note_any {Q:Unit->Shared->Prop} (hfr:A.frames=some (top :: outer)) (ht:top.frame=some L) (hf:env.frame=some L) (hl:s.heap.FunFrames base (top :: outer)) (fl:Fl s.heap a C T)
    (h:∀ h' T',Wr (a :: T.toList) (frs (top :: outer)) s.heap h'->Fl h' a C (some T')->(T=some T' \/ s.heap.get? T'=none)->Q () { s with heap:=h' }) :
    wpAny M A (noteFrame (.ref a) env) Q E s:=by
  rw [noteFrame_congr (e1:=env) (e2:=top) (hf.trans ht.symm)]
  have fl0:=fl
  obtain ⟨oe,vs,a0,he,hc,hd,h0,hsz,hT⟩:=fl
  subst hc
  generalize hB:PySem.W.hideAll s.heap (a :: (T.toList ++ frs (top :: outer)))=B
  have hkb:B.StaysIn s.heap:=fun b o e=>by rw [<- hB] at e; exact PySem.W.of_hideAll _ e
  have hen:B.get? a=none:=by rw [<- hB]; exact PySem.W.hideAll_none _ (List.mem_cons_self ..)
  have hl':s.heap.FunFrames B (top :: outer):=by
    rw [<- hB]
    refine PySem.W.funFrames_hide hl fun env' he' b hb=>?_
    exact List.mem_cons_of_mem _ (List.mem_append_right _ (List.mem_filterMap.mpr ⟨env',he',hb⟩))
  have nf:∀ b,b ∈ frs (top :: outer)->∀ o,s.heap.get? b=some o->∀ vs,o.data ≠ .fields vs:=fun b hb o e=>by
    obtain ⟨_,o',ho',hnf⟩:=hl.mem hb
    rw [e] at ho'; cases ho'; exact hnf
  have unhid:∀ b o,b ∉ a :: T.toList->b ∉ frs (top :: outer)->s.heap.get? b=some o->B.get? b=some o:=fun b o hb hfb e=>by
    rw [<- hB]
    refine PySem.W.hideAll_get _ e fun z=>?_
    rcases List.mem_cons.mp z with z | z
    · exact hb (z ▸ List.mem_cons_self ..)
    · rcases List.mem_append.mp z with z | z
      · exact hb (List.mem_cons_of_mem _ z)
      · exact hfb z
  have fin:∀ h',Heap.NotedW B (top :: outer) a oe.cls a0 (rawInt L) s.heap h'->Q () { s with heap:=h' }:=fun h' hN=>by
    obtain ⟨n1,n2,⟨oe',vs',T',oT',ts',g1,⟨g2,g3⟩,g4,g5,g6,g7,g8,g9,g10⟩,n4⟩:=hN
    have slot:∀ b o,b ∈ frs (top :: outer)->s.heap.get? b=some o->∃ sl,h'.get? b=some { o with slots:=sl }:=fun b o hb e=>n4 b o e (nf b hb o e)
    refine h h' T' ⟨fun b o hb hfb e=>n1 b o (unhid b o hb hfb e),fun b o _ hb e=>slot b o hb e⟩ ⟨oe',vs',a0,g1,g2,g4,g3,(Array.getElem?_eq_some_iff.mp g5).1,g5,g7,oT',ts',g8,g9,(Array.getElem?_eq_some_iff.mp g10).1⟩ ?_
    by_cases q1:T' ∈ a :: T.toList
    · rcases List.mem_cons.mp q1 with z | z
      · exact absurd z g7
      · left
        cases T with
        | none=>simp at z
        | some t => have z' : T' = t := by simpa using z
                    rw [z']
    · right
      cases e:s.heap.get? T' with
      | none=>rfl
      | some o =>
        exfalso
        by_cases q2:T' ∈ frs (top :: outer)
        · obtain ⟨sl,q⟩:=slot T' o q2 e
          rw [g8] at q
          have q':oT'={ o with slots:=sl }:=Option.some.inj q
          rw [q'] at g9
          exact nf T' q2 o e _ g9
        · have:=unhid T' o q1 q2 e
          rw [g6] at this; cases this
  cases T with
  | none =>
    unfold noteFrame
    simp only [ht]
    refine wpAny_bind (wpAny_field he hd hT ?_)
    rw [if_neg (by decide)]
    exact wpAny_entryW hfr hl' ht he hkb hen hd hsz h0 fin
  | some t =>
    obtain ⟨h1,hta,oT,ts,hoT,hdT,hs3⟩:=hT
    obtain ⟨fl3,h3⟩:∃ v,ts[3]?=some v:=⟨ts[3],by simp [hs3]⟩
    have hnT:B.get? t=none:=by rw [<- hB]; exact PySem.W.hideAll_none _ (by simp)
    unfold noteFrame
    simp only [ht]
    refine wpAny_bind (wpAny_field he hd h1 ?_)
    rw [if_pos (show (Value.ref t != Value.none)=true from by simp)]
    refine wpAny_bind (wpAny_field hoT hdT h3 ?_)
    by_cases hfl:(fl3 == rawInt L)=true
    · rw [if_pos hfl]
      exact wpAny_pure (h s.heap t ⟨fun b o _ _ e=>e,fun b o _ _ e=>⟨o.slots,e⟩⟩ fl0 (.inl rfl))
    · rw [if_neg hfl]
      refine wpAny_bind (wpAny_setField hoT hdT hs3 ?_)
      have other:∀ b,b ≠ t->(s.heap.update t (Obj.mapFields (·.setIfInBounds 3 Value.none))).get? b=s.heap.get? b:=fun b hb=>Heap.get?_update_other _ _ (Ne.symm hb)
      have noRecord:∀ b o,s.heap.get? b=some o->(∀ vs,o.data ≠ .fields vs)->b ≠ t:=fun b o hb hnf q=>by
        rw [q,hoT] at hb; injection hb with hb; subst hb; exact hnf ts hdT
      refine wpAny_entryW hfr (hl'.of_keeps fun b o hb hnf=>⟨o,(other b (noRecord b o hb hnf)).trans hb,rfl⟩) ht ((other a (Ne.symm hta)).trans he)
        (fun b o hbo=>(other b fun q=>by rw [q,hnT] at hbo; cases hbo).trans (hkb b o hbo)) hen hd hsz h0 ?_
      rintro h' ⟨x1,x2,x3,x4⟩
      exact fin h' ⟨x1,x2,x3,fun b o hb hnf=>x4 b o ((other b (noRecord b o hb hnf)).trans hb) hnf⟩
theorem flight_any {t:Addr} {f:Option Addr} {Q:Unit->Shared->Prop} (fl:Fl s.heap a C (some t))
    (h:∀ h',Heap.SameBut t s.heap h'->Fl h' a C (some t)->Q () { s with heap:=h' }):wpAny M A (setFlight (.ref a) f) Q E s:=by
  obtain ⟨oe,vs,a0,he,hc,hd,h0,hsz,h1,hta,oT,ts,hoT,hdT,hs3⟩:=fl
  unfold setFlight
  refine wpAny_bind (wpAny_field he hd h1 ?_)
  rw [if_pos (show (Value.ref t != Value.none)=true from by simp)]
  refine wpAny_setField hoT hdT hs3 (h _ (Heap.SameBut.update ..) ?_)
  have hdT':=Obj.data_mapFields hdT (·.setIfInBounds 3 (f.elim Value.none fun f=>rawInt f))
  refine ⟨oe,vs,a0,(Heap.get?_update_other _ _ hta).trans he,hc,hd,h0,hsz,h1,hta,_,_,Heap.get?_update_self _ hoT (Obj.isFreed_of_fields hdT'),hdT',?_⟩
  simpa using hs3
theorem traced_any {t:Addr} {Q:Value->Shared->Prop} (fl:Fl s.heap a C (some t)) (h:Q (.ref t) s):wpAny M A (field (.ref a) 1) Q E s:=by
  obtain ⟨oe,vs,a0,he,hc,hd,h0,hsz,h1,_⟩:=fl
  exact wpAny_field he hd h1 h
end
theorem Fl.at {h h':Heap} {a:Addr} {C:Value} {T:Option Addr} (fl:Fl h a C T) (k:∀ b ∈ a :: T.toList,∀ o,h.get? b=some o->h'.get? b=some o):Fl h' a C T:=by
  obtain ⟨oe,vs,a0,he,hc,hd,h0,hsz,hT⟩:=fl
  refine ⟨oe,vs,a0,k a (by simp) _ he,hc,hd,h0,hsz,?_⟩
  cases T with
  | none=>exact hT
  | some t =>
    obtain ⟨h1,hta,oT,ts,hoT,r⟩:=hT
    exact ⟨h1,hta,oT,ts,k t (by simp) _ hoT,r⟩
theorem Fl.rec {h:Heap} {a:Addr} {C:Value} {T:Option Addr} (fl:Fl h a C T):∀ b ∈ a :: T.toList,∃ o vs,h.get? b=some o /\ o.data=.fields vs:=by
  obtain ⟨oe,vs,a0,he,hc,hd,h0,hsz,hT⟩:=fl
  intro b hb
  rcases List.mem_cons.mp hb with rfl | hb
  · exact ⟨oe,vs,he,hd⟩
  · cases T with
    | none=>simp at hb
    | some t =>
      have e:b=t:=by simpa using hb
      subst e
      obtain ⟨h1,hta,oT,ts,hoT,hdT,_⟩:=hT
      exact ⟨oT,ts,hoT,hdT⟩
noncomputable def Ow (X:Cx) (pins:List (Addr × Obj)) (H:Hp) (b:Addr):Prop:=H b=none /\ X.s₀.heap.get? b=none /\ b ∉ X.ex /\ ∀ p ∈ X.pn ++ pins,p.1 ≠ b
structure XOk (X:Cx):Prop where
  top:∃ top outer L,X.stack=top :: outer /\ top.frame=some L /\ X.env.frame=some L
  ex:∀ b ∈ X.ex,∃ o,(b,o) ∈ X.pn
structure Fly (X:Cx) (pins:List (Addr × Obj)) (H:Hp) (h:Heap) (a:Addr) (C:Value) (T:Option Addr):Prop where
  fl:Fl h a C T
  ow:∀ b ∈ a :: T.toList,Ow X pins H b
section
variable {X:Cx} {pins:List (Addr × Obj)} {σ:List (Option V)} {H H':Hp} {s:Shared} {h':Heap}
theorem Inv.ow (ok:XOk X) (I:Inv X pins σ H s) (hH:H'=H \/ True) {b:Addr} (n:s.heap.get? b=none) (hn:H' b=none):Ow X pins H' b:=by
  have nx:b ∉ X.ex:=fun z=>by
    obtain ⟨o,ho⟩:=ok.ex b z
    have:=(I.pin (b,o) (List.mem_append_left _ ho)).1
    rw [n] at this; cases this
  refine ⟨hn,?_,nx,fun p hp e=>?_⟩
  · cases q:X.s₀.heap.get? b with
    | none=>rfl
    | some o =>
      obtain ⟨o',e⟩:=I.base.there b o q nx
      rw [n] at e; cases e
  · have:=(I.pin p hp).1
    rw [e,n] at this; cases this
theorem Inv.untracked (I:Inv X pins σ H s) {b:Addr} (n:s.heap.get? b=none):H b=none:=by
  cases q:H b with
  | none=>rfl
  | some o =>
    obtain ⟨ob,e⟩:=(I.hok b o q).there
    rw [n] at e; cases e
theorem Inv.wrote {l:List Addr} (I:Inv X pins σ H s) (W:Wr l (frs X.stack) s.heap h') (ow:∀ b ∈ l,Ow X pins H b) (rec:∀ b ∈ l,∃ o vs,s.heap.get? b=some o /\ o.data=.fields vs) :
    Inv X pins σ H { s with heap:=h' }:=by
  have lL:X.env.locals ∉ l:=fun z=>by
    obtain ⟨o,vs,e,d⟩:=rec _ z
    obtain ⟨m,⟨o',es,ep,ho',hd',_⟩,_⟩:=I.loc
    rw [e] at ho'; cases ho'; rw [d] at hd'; cases hd'
  have cL:∀ x c,X.env.cells.lookup x=some c->c ∉ l:=fun x c e z=>by
    obtain ⟨o,vs,e1,d⟩:=rec _ z
    obtain ⟨v,o',ho',hd'⟩:=I.cell x c e
    rw [e1] at ho'; cases ho'; rw [d] at hd'; cases hd'
  have sL:∀ b o,X.s₀.heap.get? b=some o->b ∉ l:=fun b o e z=>by rw [(ow b z).2.1] at e; cases e
  have tL:∀ b o,H b=some o->b ∉ l:=fun b o e z=>by rw [(ow b z).1] at e; cases e
  have nL:∀ m,s.heap.Ns X.env.locals m->h'.Ns X.env.locals m:=fun m hm=>by
    obtain ⟨o,es,ep,ho,hd,r⟩:=hm
    obtain ⟨sl,q⟩:=W.any lL ho
    exact ⟨_,es,ep,q,hd,r⟩
  have cell:∀ x c,X.env.cells.lookup x=some c->∀ v,s.heap.IsCell c v->h'.IsCell c v:=fun x c e v ⟨o,ho,hd⟩=>by
    obtain ⟨sl,q⟩:=W.any (cL x c e) ho
    exact ⟨_,q,hd⟩
  have fs0:∀ b,b ≠ X.env.locals->b ∉ X.fs->b ∉ frs X.stack:=fun b h1 h2 z=>(List.mem_cons.mp (I.stkSub b z)).elim h1 h2
  have old:∀ b o,X.s₀.heap.get? b=some o->b ≠ X.env.locals:=fun b o e=>Nat.ne_of_lt (Nat.lt_of_lt_of_le (Heap.lt_size e) I.ok.above)
  refine ⟨I.ok,I.os,I.bare,⟨fun b o e n hb hx=>?_,fun b o e n hb hx=>?_,I.base.free,fun b o e hx=>?_,I.base.tups,I.base.frzs,I.base.tbls⟩,?_,fun x c e=>?_,I.free,I.freeC,fun p hp=>?_,fun b u e=>?_,I.len⟩
  · exact W.keep b o (sL b o e) (fs0 b (old b o e) hb) (I.base.keep b o e n hb hx)
  · obtain ⟨sl,e1⟩:=I.base.slot b o e n hb hx
    obtain ⟨sl',e2⟩:=W.any (sL b o e) e1
    exact ⟨sl',e2⟩
  · obtain ⟨o',e1⟩:=I.base.there b o e hx
    obtain ⟨sl,e2⟩:=W.any (sL b o e) e1
    exact ⟨_,e2⟩
  · obtain ⟨m,hn,hl⟩:=I.loc
    refine ⟨m,nL m hn,fun i x v e1 e2 e3=>?_⟩
    obtain ⟨u,r,q⟩:=hl i x v e1 e2 e3
    refine ⟨u,r,?_⟩
    rcases q with q | ⟨k,c,e,z⟩
    · exact .inl q
    · exact .inr ⟨k,c,e,cell x c e _ z⟩
  · obtain ⟨v,z⟩:=I.cell x c e
    exact ⟨v,cell x c e v z⟩
  · obtain ⟨e,n,ne,nf,d⟩:=I.pin p hp
    exact ⟨W.keep p.1 p.2 (fun z=>(ow p.1 z).2.2.2 p hp rfl) (fs0 p.1 ne nf) e,n,ne,nf,d⟩
  · refine (I.hok b u e).stay (fun c v hc q=>?_) (fun _ q=>q) fun _ _ q=>q
    have hc':∃ u,H c=some u:=hc.elim (fun z=>⟨u,z ▸ e⟩) fun z=>⟨_,z⟩
    obtain ⟨u',e'⟩:=hc'
    exact W.keep c v (tL c u' e') (fun z=>by rw [I.stkFree c z] at e'; cases e') q
variable {M:Model} {A:Around} {E:Value->Shared->Prop} {a:Addr} {C:Value} {T:Option Addr} {env:Env}
theorem Inv.note {Q:Unit->Shared->Prop} (ok:XOk X) (I:Inv X pins σ H s) (F:Fly X pins H s.heap a C T) (hfr:A.frames=some X.stack) (hen:env.frame=X.env.frame)
    (h:∀ h' T',Inv X pins σ H { s with heap:=h' }->Fly X pins H h' a C (some T')->Q () { s with heap:=h' }):wpAny M A (noteFrame (.ref a) env) Q E s:=by
  obtain ⟨top,outer,L,e1,e2,e3⟩:=ok.top
  have hst:=I.stack
  rw [e1] at hfr hst
  refine note_any hfr e2 (hen.trans e3) hst F.fl fun h' T' W fl' new=>?_
  rw [<- e1] at W
  refine h h' T' (I.wrote W F.ow F.fl.rec) ⟨fl',fun b hb=>?_⟩
  rcases List.mem_cons.mp hb with rfl | hb
  · exact F.ow _ (List.mem_cons_self ..)
  · have e:b=T':=by simpa using hb
    subst e
    rcases new with q | q
    · exact F.ow _ (by rw [q]; simp)
    · exact I.ow ok (.inr trivial) q (I.untracked q)
theorem Inv.flight {t:Addr} {f:Option Addr} {Q:Unit->Shared->Prop} (I:Inv X pins σ H s) (F:Fly X pins H s.heap a C (some t))
    (h:∀ h',Inv X pins σ H { s with heap:=h' }->Fly X pins H h' a C (some t)->Q () { s with heap:=h' }):wpAny M A (setFlight (.ref a) f) Q E s:=by
  refine flight_any F.fl fun h' sb fl'=>h h' (I.wrote (l:=[a,t]) ⟨fun b o hb _ e=>(sb.2 b fun z=>hb (by simp [z])).trans e,fun b o hb _ e=>⟨o.slots,(sb.2 b fun z=>hb (by simp [z])).trans e⟩⟩ (fun b hb=>F.ow b (by simpa using hb)) fun b hb=>F.fl.rec b (by simpa using hb)) ⟨fl',F.ow⟩
theorem Inv.passOn {α:Type} {t:Addr} {what:String} {Q:α->Shared->Prop} (I:Inv X pins σ H s) (F:Fly X pins H s.heap a C (some t))
    (h:∀ h',Inv X pins σ H { s with heap:=h' }->Fly X pins H h' a C (some t)->E (.ref a) { s with heap:=h' }):wpAny M A (passOn what (.ref a) env:Sem α) Q E s:=by
  unfold PySem.passOn
  refine wpAny_bind (traced_any F.fl ?_)
  rw [if_neg (show ¬ ((Value.ref t == Value.none)=true) from by simp)]
  exact wpAny_bind (I.flight F fun h' I' F'=>wpAny_throw (h h' I' F'))
theorem Inv.cameBack {t:Addr} (I:Inv X pins σ H s) (F:Fly X pins H s.heap a C (some t))
    (h:∀ h',Inv X pins σ H { s with heap:=h' }->Fly X pins H h' a C (some t)->E (.ref a) { s with heap:=h' }):cameBackBy M A env E (.ref a) s:=by
  unfold cameBackBy
  refine wpAny_bind (traced_any F.fl ?_)
  rw [if_neg (show ¬ ((Value.ref t == Value.none)=true) from by simp)]
  exact I.flight F fun h' I' F'=>h h' I' F'
end
noncomputable abbrev ZK:=St->Value->Hp->Prop
noncomputable def XE (X:Cx) (Z:ZK) (e:Value) (s':Shared):Prop:=∃ a C T σ' H',e=.ref a /\ Inv X [] σ' H' s' /\ Fly X [] H' s'.heap a C T /\ Z σ' C H'
structure Thr (X:Cx) (Z:ZK):Prop extends XOk X where
  thr:∀ e s',XE X Z e s'->X.xe e s'
noncomputable def CXs (P:Program) (w:World):CXT:=fun outer H s E e s'=>∃ a C t H',e=.ref a /\ s'.os=s.os /\ AllBare s'.gens /\ Un (frs outer) [] H H' s.heap s'.heap /\ HOk P w H' s'.heap /\
  Fl s'.heap a C (some t) /\ (∀ b ∈ [a,t],H' b=none /\ s.heap.get? b=none) /\ E C none H'
theorem thr_def {P:Program} {w:World} {K:PySem.W.Frag} {mg:Str->Option Value} {base:Heap} {N:List Str} {qual:Str} {scope:Scope} {f:Addr} {cd:Value} {A:Around} {outer:List Env} {s:Shared} {H:Hp} {E:XK} :
    Thr (cxOf (CXs P w) P w K mg base N qual scope f cd A outer s H E) (fun _ C H'=>E C none H') where
  top:=⟨_,_,_,rfl,rfl,rfl⟩
  ex:=fun b hb=>absurd (show b ∈ ([]:List Addr) from hb) (by simp)
  thr:=by
    rintro e s' ⟨a,C,T,σ',H',rfl,I,F,z⟩
    have ok:XOk (cxOf (CXs P w) P w K mg base N qual scope f cd A outer s H E):=⟨⟨_,_,_,rfl,rfl,rfl⟩,fun b hb=>absurd (show b ∈ ([]:List Addr) from hb) (by simp)⟩
    show wpAny (model P w) (A.deeper (envOfC qual scope s.heap.objs.size f cd)) (leaving (envOfC qual scope s.heap.objs.size f cd) (.ref a)) _ _ s'
    unfold leaving
    refine wpAny_bind (I.note ok F I.ok.frames rfl fun h1 t I1 F1=>?_)
    refine I1.flight F1 fun h2 I2 F2=>?_
    exact ⟨a,C,t,H',rfl,I2.os,I2.bare,I2.base,I2.hok,F2.fl,fun b hb=>⟨(F2.ow b (by simpa using hb)).1,(F2.ow b (by simpa using hb)).2.1⟩,z⟩
section
variable {X:Cx} {pins:List (Addr × Obj)} {σ:St} {H:Hp} {s s':Shared}
theorem Inv.thrown {E:XK} {e:Value} (ok:XOk X) (I:Inv X pins σ H s) (h:CXs X.prog X.w X.stack H s E e s'):∃ a C t H',e=.ref a /\ Inv X pins σ H' s' /\ Fly X pins H' s'.heap a C (some t) /\ E C none H':=by
  obtain ⟨a,C,t,H',rfl,ho,hg,u,hok,fl,ow,q⟩:=h
  have I':Inv X pins σ H' s':=I.call' (ch:=[]) ho u hok hg fun b hb=>absurd hb (by simp)
  refine ⟨a,C,t,H',rfl,I',⟨fl,fun b hb=>?_⟩,q⟩
  obtain ⟨o1,o2⟩:=ow b (by simpa using hb)
  exact I.ow ok (.inr trivial) o2 o1
theorem Inv.nopins (I:Inv X pins σ H s):Inv X [] σ H s:=I.pins_of fun p hp=>absurd hp (by simp)
theorem Fly.nopins {h:Heap} {a:Addr} {C:Value} {T:Option Addr} (F:Fly X pins H h a C T):Fly X [] H h a C T :=
  ⟨F.fl,fun b hb=>⟨(F.ow b hb).1,(F.ow b hb).2.1,(F.ow b hb).2.2.1,fun p hp=>(F.ow b hb).2.2.2 p (by simp at hp; exact List.mem_append_left _ hp)⟩⟩
theorem Thr.go {Z:ZK} (th:Thr X Z) {a:Addr} {C:Value} {T:Option Addr} (I:Inv X pins σ H s) (F:Fly X pins H s.heap a C T) (z:Z σ C H):X.xe (.ref a) s :=
  th.thr _ _ ⟨a,C,T,σ,H,rfl,I.nopins,F.nopins,z⟩
end
noncomputable def tCallX (sp:Sp) (dvs:List V) (Z:ZK) (t:TA):TE:=fun σ H Q=>t σ H fun vs H1=>sp (vs ++ dvs) H1 Q (fun C _ H'=>Z σ C H')
section
variable {X:Cx} {k:Nat} {f C:Addr} {fd:FuncData} {ps:List Str} {sp:Sp} {dvs:List V} {ds:List Value} {Z:ZK} {x m:Str} {p pos apos:Pos} {e o:Expr} {es:List Expr} {ta:TE} {t:TA}
theorem run_fnX {pins:List (Addr × Obj)} {σ:St} {H:Hp} {s:Shared} {Q:VK} {us:List Value} {vs:List V} (F:FnOk X.prog X.w X.K X.mg X.base (CXs X.prog X.w) k f fd ps sp) (hr:Room k X.A) (hb:Binds X.K fd ps ds) (hd:Vals dvs ds) (th:Thr X Z)
    (I:Inv X pins σ H s) (r:Vals vs us) (h:sp (vs ++ dvs) H Q (fun C _ H'=>Z σ C H')):wpAny (model X.prog X.w) X.A (call (.ref f) us) (EP X pins σ Q) X.xe s:=by
  have r2:Vals (vs ++ dvs) (us ++ ds):=r.append hd
  have hl:(us ++ ds).length=ps.length:=by rw [<- r2.length]; exact F.len _ _ _ _ h
  refine wpAny_call (codeAny_mono (F.run X.A X.stack s H ⟨us,[]⟩ (us ++ ds) (vs ++ dvs) Q _ hr I.env0 (hb s us I.kIn hl) r2 h) fun r s' hq=>?_)
  cases r with
  | error e =>
    have hq':CXs X.prog X.w X.stack H s (fun C _ H'=>Z σ C H') e s':=hq
    obtain ⟨a,C,t,H',rfl,I',F',z⟩:=I.thrown th.toXOk hq'
    exact th.go I' F' z
  | ok fl =>
    cases fl with
    | ret u=>exact I.after hq
    | next=>exact False.elim hq
    | brk=>exact False.elim hq
    | cont=>exact False.elim hq
theorem pe_callX (F:FnOk X.prog X.w X.K X.mg X.base (CXs X.prog X.w) k f fd ps sp) (hr:Room k X.A) (hg:Gl X x) (hm:X.mg x=some (.ref f)) (hk:PySem.W.keepIn X.K (.ref f)=true) (hb:Binds X.K fd ps ds) (hd:Vals dvs ds) (th:Thr X Z)
    (ha:PA X (e :: es) t) (hdb:(x == ("__debug__":Str))=false:=by decide) (he:starEach (e :: es) X.env=(false,eval e X.env) :: starEach es X.env:=by rfl) (hpl:(backTo pos (starEach es X.env)).any (·.1)=false:=by rfl) :
    PE X (.Call (.Name x p) (e :: es) [] pos) (tCallX sp dvs Z t):=by
  intro pins s σ H Q I h
  refine wpAny_Call_Name_kw (ld_glob I hg hm ?_ hdb)
  refine PySem.W.callWith_K (h₀:=X.base) I.ok.mod.kin hk (thn (ha pos pins s σ H _ I h) fun us s1 ⟨vs,H1,I1,r,q⟩=>⟨I1.kIn,?_⟩) he hpl
  exact run_fnX F hr hb hd th I1 r q
end
end L2
set_option Elab.async false
set_option linter.all false
set_option maxRecDepth 100000
namespace L2
open PySem PySem.Spec PyProof.Rows
noncomputable def clGo (env:Env):List (Str × NameKind)->List (Str × Addr)->List (Str × Addr)
  | [],cs=>cs
  | (n,k) :: r,cs=>clGo env r (if k == .free then (n,(env.cells.lookup n).getD 0) :: cs else cs)
noncomputable def clOf (scope:Scope) (env:Env):List (Str × Addr):=clGo env scope.names []
theorem closure_of {scope:Scope} {env:Env} (h:∀ y ∈ scope.names,y.2=.free->∃ c,env.cells.lookup y.1=some c):closureFor scope env=pure (clOf scope env):=by
  unfold closureFor clOf
  have go:∀ (l:List (Str × NameKind)) (cs:List (Str × Addr)),(∀ y ∈ l,y.2=.free->∃ c,env.cells.lookup y.1=some c) ->
      (forIn l cs fun (x:Str × NameKind) (r:List (Str × Addr))=>(match x with
        | (name,kind)=>if (kind == NameKind.free)=true then (do let a <- cellOf env name; pure (ForInStep.yield ((name,a) :: r))) else (pure (ForInStep.yield r)):Sem (ForInStep (List (Str × Addr)))))=(pure (clGo env l cs):Sem (List (Str × Addr))):=by
    intro l
    induction l with
    | nil=>intro cs _; rfl
    | cons y r ih =>
      intro cs hl
      obtain ⟨n,k⟩:=y
      rw [List.forIn_cons]
      by_cases hk:(k == NameKind.free)=true
      · obtain ⟨c,hc⟩:=hl (n,k) (List.mem_cons_self ..) (by simpa using hk)
        have e:cellOf env n=pure c:=by unfold cellOf; rw [hc]
        simp only [hk,if_true,e,pure_bind,clGo,hc,Option.getD_some]
        exact ih _ fun y hy=>hl y (List.mem_cons_of_mem _ hy)
      · simp only [hk,if_false,pure_bind,clGo,Bool.false_eq_true]
        exact ih _ fun y hy=>hl y (List.mem_cons_of_mem _ hy)
  have:=go scope.names [] h
  first
    | (rw [this]; rfl)
    | (simp only [bind_pure_comp] at this ⊢; rw [this]; rfl)
    | (simp only [bind_pure_comp] at this ⊢; rw [this]; simp)
theorem clGo_mem {env:Env}:∀ {l:List (Str × NameKind)} {cs:List (Str × Addr)} {x:Str} {c:Addr},(∀ y ∈ l,y.2=.free->∃ c,env.cells.lookup y.1=some c)->(x,c) ∈ clGo env l cs->(x,c) ∈ cs \/ env.cells.lookup x=some c
  | [],_,_,_,_,h=>.inl h
  | (n,k) :: r,cs,x,c,hl,h=>by
    rcases clGo_mem (l:=r) (fun y hy=>hl y (List.mem_cons_of_mem _ hy)) h with h | h
    · by_cases hk:(k == NameKind.free)=true
      · rw [if_pos hk] at h
        rcases List.mem_cons.mp h with e | h
        · obtain ⟨c',hc⟩:=hl (n,k) (List.mem_cons_self ..) (by simpa using hk)
          rw [hc] at e
          cases e
          exact .inr hc
        · exact .inl h
      · rw [if_neg hk] at h
        exact .inl h
    · exact .inr h
theorem clGo_keep {env:Env}:∀ {l:List (Str × NameKind)} {cs:List (Str × Addr)} {p:Str × Addr},p ∈ cs->p ∈ clGo env l cs
  | [],_,_,h=>h
  | (n,k) :: r,cs,p,h=>by
    unfold clGo
    refine clGo_keep ?_
    split
    · exact List.mem_cons_of_mem _ h
    · exact h
theorem clGo_has {env:Env}:∀ {l:List (Str × NameKind)} {cs:List (Str × Addr)} {x:Str},(x,NameKind.free) ∈ l->∃ c,(x,c) ∈ clGo env l cs
  | (n,k) :: r,cs,x,h=>by
    unfold clGo
    rcases List.mem_cons.mp h with e | h
    · cases e
      exact ⟨(env.cells.lookup n).getD 0,clGo_keep (by rw [if_pos (by decide)]; exact List.mem_cons_self ..)⟩
    · exact clGo_has h
theorem lookup_some_of_mem {α β:Type} [BEq α] [LawfulBEq α]:∀ {l:List (α × β)} {x:α} {c:β},(x,c) ∈ l->∃ c',l.lookup x=some c'
  | (n,k) :: r,x,c,h=>by
    rw [List.lookup_cons]
    cases e:x == n with
    | true=>exact ⟨k,rfl⟩
    | false =>
      rcases List.mem_cons.mp h with q | q
      · cases q; simp at e
      · exact lookup_some_of_mem q
noncomputable def ccells (scope:Scope) (C:Addr) (env:Env):List (Str × Addr):=cellsFrom (C + 1) scope.names (clOf scope env)
theorem cellsFrom_app:∀ (l:List (Str × NameKind)) (n:Nat) (acc:List (Str × Addr)),cellsFrom n l acc=cellsFrom n l [] ++ acc
  | [],_,_=>rfl
  | (x,k) :: r,n,acc=>by
    unfold cellsFrom
    by_cases hk:(k == NameKind.cell)=true
    · rw [if_pos hk,if_pos hk,cellsFrom_app r (n + 1) ((x,n) :: acc),cellsFrom_app r (n + 1) [(x,n)],List.append_assoc]; rfl
    · rw [if_neg hk,if_neg hk]; exact cellsFrom_app r n acc
theorem cellsFrom_mem:∀ {l:List (Str × NameKind)} {n:Nat} {x:Str} {c:Addr},(x,c) ∈ cellsFrom n l []->(x,NameKind.cell) ∈ l
  | (y,k) :: r,n,x,c,h=>by
    unfold cellsFrom at h
    by_cases hk:(k == NameKind.cell)=true
    · rw [if_pos hk,cellsFrom_app] at h
      rcases List.mem_append.mp h with h | h
      · exact List.mem_cons_of_mem _ (cellsFrom_mem h)
      · have e:x=y:=by simpa using (List.mem_singleton.mp h ▸ rfl:(x,c).1=(y,n).1)
        have e2:k=.cell:=by simpa using hk
        rw [e,e2]; exact List.mem_cons_self ..
    · rw [if_neg hk] at h
      exact List.mem_cons_of_mem _ (cellsFrom_mem h)
theorem cc_cases {scope:Scope} {C:Addr} {env:Env} {x:Str} {c:Addr} (h:(ccells scope C env).lookup x=some c):(cellsFrom (C + 1) scope.names []).lookup x=some c \/ ((cellsFrom (C + 1) scope.names []).lookup x=none /\ (clOf scope env).lookup x=some c):=by
  unfold ccells at h
  rw [cellsFrom_app,List.lookup_append] at h
  cases e:(cellsFrom (C + 1) scope.names []).lookup x with
  | none=>rw [e] at h; exact .inr ⟨rfl,h⟩
  | some c'=>rw [e] at h; exact .inl h
theorem cc_own {scope:Scope} {C:Addr} {env:Env} {x:Str} {c:Addr} (h:(cellsFrom (C + 1) scope.names []).lookup x=some c):(ccells scope C env).lookup x=some c:=by
  unfold ccells
  rw [cellsFrom_app,List.lookup_append,h]; rfl
theorem cc_clo {scope:Scope} {C:Addr} {env:Env} {x:Str} {c:Addr} (h:(clOf scope env).lookup x=some c) (h0:(cellsFrom (C + 1) scope.names []).lookup x=none):(ccells scope C env).lookup x=some c:=by
  unfold ccells
  rw [cellsFrom_app,List.lookup_append,h0]; exact h
theorem wpAny_newBlock {M:Model} {A:Around} {E:Value->Shared->Prop} {s:Shared} {scope:Scope} {globals:Addr} {closure:List (Str × Addr)} {qual:Str} {func:Option Addr} {code:Value} {e:Env} {builtins:Addr} {Q:Env->Shared->Prop}
    (hQ:Q (newEnv scope s.heap.objs.size globals (cellsFrom (s.heap.objs.size + 1) scope.names closure) qual func code (some e) builtins) { s with heap:=pushCells (s.heap.push { cls:=.type "dict",data:=.dict #[] }) scope.names }) :
    wpAny M A (newFunctionEnv scope globals closure [] qual func code (some e) builtins) Q E s:=by
  simp only [newFunctionEnv,Option.isSome_some,if_true]
  refine wpAny_bind (wpAny_alloc ?_)
  refine wpAny_bind (wpAny_layCells _ (fun name kind cells=>by cases hkc:kind == NameKind.cell <;> simp [hkc]) _ _ _ _ ?_)
  rw [show ({ s with heap:=s.heap.push { cls:=.type "dict",data:=.dict #[] } }:Shared).heap.objs.size=s.heap.objs.size + 1 from Heap.size_push ..]
  refine wpAny_bind ?_
  rw [List.forIn_nil]
  exact wpAny_pure (wpAny_pure hQ)
noncomputable abbrev compCx (X:Cx) (NC:List Str) (scope:Scope) (C:Addr) (s:Shared) (H:Hp) (ex:List Addr) (pn:List (Addr × Obj)) (xe:Value->Shared->Prop):Cx :=
  { X with N:=NC,s₀:=s,H₀:=H,env:=compEnvC scope (ccells scope C X.env) C X.env,outer:=X.stack,stack:=X.stack,ex:=ex,fn:=fun x=>scope.names.lookup x == some .cell,calm:=true,pn:=pn,xe:=xe }
noncomputable def compOk (osc scope:Scope) (N NC:List Str) (cap:List (Option Nat)):Bool :=
  scope.kind == .function && scope.names.all (fun y=>y.2 != .cell || scope.names.lookup y.1 == some .cell) &&
  scope.names.all (fun y=>y.2 != .local || scope.names.lookup y.1 == some .local) &&
  scope.names.all (fun y=>y.2 != .free || osc.names.lookup y.1 == some .cell) && cap.length == NC.length &&
  (List.range NC.length).all fun j=>match cap[j]?,NC[j]? with
    | some (some i),some x=>N[i]? == some x && scope.names.lookup x == some .free
    | some none,some x=>scope.names.lookup x == some .local || scope.names.lookup x == some .cell
    | _,_=>false
noncomputable def capσ (cap:List (Option Nat)) (σ:St):St:=cap.map fun o=>o.bind fun i=>(σ[i]?).bind id
theorem kindOf_rel {scope:Scope} {env:Env} {x:Str} (hk:env.scope.kind=.function):∀ {names:List (Str × NameKind)},(∀ y ∈ names,y.2=.free->env.kindOf y.1=some .cell) ->
    (names.map fun (n,k)=>if (k == NameKind.free && env.scope.kind == .function && env.kindOf n == some .cell) then (n,NameKind.cell) else (n,k)).lookup x=(names.lookup x).map fun k=>if k=.free then .cell else k
  | [],_=>rfl
  | (n,k) :: r,h=>by
    have ih:=kindOf_rel (scope:=scope) (x:=x) hk (names:=r) fun y hy=>h y (List.mem_cons_of_mem _ hy)
    show List.lookup x ((if (k == NameKind.free && env.scope.kind == .function && env.kindOf n == some .cell)=true then (n,NameKind.cell) else (n,k)) :: _)=_
    by_cases hkf:k=.free
    · subst hkf
      rw [if_pos (by rw [hk,h (n,.free) (List.mem_cons_self ..) rfl]; decide)]
      rw [List.lookup_cons,List.lookup_cons]
      cases e:x == n with
      | true=>rfl
      | false=>exact ih
    · rw [if_neg (by intro z; simp only [Bool.and_eq_true,beq_iff_eq] at z; exact hkf z.1.1)]
      rw [List.lookup_cons,List.lookup_cons]
      cases e:x == n with
      | true=>simp [hkf]
      | false=>exact ih
section
variable {X:Cx} {pins:List (Addr × Obj)} {σ:St} {H H':Hp} {s s':Shared}
theorem Inv.repn {pn pins':List (Addr × Obj)} {xe:Value->Shared->Prop} (I:Inv X pins σ H s) (h:∀ p ∈ pn ++ pins',p ∈ X.pn ++ pins):Inv { X with pn:=pn,xe:=xe } pins' σ H s :=
  ⟨⟨I.ok.mod,I.ok.kind,I.ok.glob,I.ok.blt,I.ok.above,I.ok.inj,I.ok.has,I.ok.cab,I.ok.hd,I.ok.frames,I.ok.stk,I.ok.exf,I.ok.bs,I.ok.bsz,I.ok.noex,I.ok.exfs,I.ok.funs,I.ok.frf⟩,
    I.os,I.bare,I.base,I.loc,I.cell,I.free,I.freeC,fun p hp=>I.pin p (h p hp),I.hok,I.len⟩
theorem Inv.track {D:Addr} {o:HO} (I:Inv X pins σ H s) (hD:H D=none) (h0:X.s₀.heap.get? D=none) (hL:D ≠ X.env.locals) (hC:∀ x c,X.env.cells.lookup x=some c->c ≠ D) (hp:∀ p ∈ X.pn ++ pins,p.1 ≠ D)
    (new:ObjOk X.prog X.w (upd H D o) s.heap D o):Inv X pins σ (upd H D o) s:=by
  have up:∀ b u,H b=some u->upd H D o b=some u:=fun b u e=>by rw [upd_ne (ne_of_none e hD)]; exact e
  refine ⟨I.ok,I.os,I.bare,⟨I.base.keep,I.base.slot,fun b u e n hx=>?_,I.base.there,fun b xs e=>up _ _ (I.base.tups b xs e),fun b u xs e=>up _ _ (I.base.frzs b u xs e),fun b ps e=>?_⟩,I.loc,I.cell,?_,fun x c e=>?_,fun p hq=>?_,fun b u e=>?_,I.len⟩
  · rw [upd_ne (fun z=>by rw [z,h0] at e; cases e)]
    exact I.base.free b u e n hx
  · obtain ⟨more,q⟩:=I.base.tbls b ps e
    exact ⟨more,up _ _ q⟩
  · rw [upd_ne (Ne.symm hL)]; exact I.free
  · rw [upd_ne (hC x c e)]; exact I.freeC x c e
  · obtain ⟨e,n,r⟩:=I.pin p hq
    exact ⟨e,by rw [upd_ne (hp p hq)]; exact n,r⟩
  · by_cases hb:b=D
    · subst hb
      rw [upd_same] at e
      cases e
      exact new
    · rw [upd_ne hb] at e
      exact (I.hok b u e).stay (fun _ _ _ q=>q) (fun c q=>up _ _ q) fun c xs q=>up _ _ q
end
noncomputable def PF (X:Cx) (ifs:List Expr) (t:TT):Prop :=
  ∀ (pins:List (Addr × Obj)) (s:Shared) (σ:St) (H:Hp) (Q:Bool->Hp->Prop),Inv X pins σ H s->t σ H Q ->
    wpAny (model X.prog X.w) X.A (forIn ifs true fun c r=>if r=true then do let ok <- isTrue c X.env (eval c X.env); pure (ForInStep.yield ok) else pure (ForInStep.yield r)) (TP X pins σ Q) X.xe s
noncomputable def tNoTest:TT:=fun _ H Q=>Q true H
theorem pf_nil {X:Cx}:PF X [] tNoTest:=fun pins s σ H Q I h=>wpAny_tests_nil ⟨H,I,h⟩
theorem pf_one {X:Cx} {c:Expr} {t:TT} (h:PT X c t):PF X [c] t:=fun pins s σ H Q I q=>wpAny_tests_one (h pins s σ H Q I q)
theorem compOk_parts {osc scope:Scope} {N NC:List Str} {cap:List (Option Nat)} (h:compOk osc scope N NC cap=true) :
    scope.kind=.function /\ (∀ y ∈ scope.names,y.2=.cell->scope.names.lookup y.1=some .cell) /\ (∀ y ∈ scope.names,y.2=.local->scope.names.lookup y.1=some .local) /\ (∀ y ∈ scope.names,y.2=.free->osc.names.lookup y.1=some .cell) /\ cap.length=NC.length /\
    (∀ (j i:Nat),cap[j]?=some (some i)->∃ x,NC[j]?=some x /\ N[i]?=some x /\ scope.names.lookup x=some .free) /\ ∀ (j:Nat) (x:Str),cap[j]?=some none->NC[j]?=some x->scope.names.lookup x=some .local \/ scope.names.lookup x=some .cell:=by
  unfold compOk at h
  simp only [Bool.and_eq_true,List.all_eq_true,bne_iff_ne,ne_eq,Bool.or_eq_true,beq_iff_eq,List.mem_range] at h
  obtain ⟨⟨⟨⟨⟨h1,h2⟩,h3⟩,h4⟩,h5⟩,h6⟩:=h
  refine ⟨h1,fun y hy e=>(h2 y hy).resolve_left fun z=>z e,fun y hy e=>(h3 y hy).resolve_left fun z=>z e,fun y hy e=>(h4 y hy).resolve_left fun z=>z e,h5,fun j i e=>?_,fun j x e ex=>?_⟩
  · have hj:j < NC.length:=by rw [<- h5]; exact (List.getElem?_eq_some_iff.mp e).1
    have q:=h6 j hj
    rw [e] at q
    cases ex:NC[j]? with
    | none=>rw [ex] at q; simp at q
    | some x =>
      rw [ex] at q
      simp only [Bool.and_eq_true,beq_iff_eq] at q
      exact ⟨x,rfl,q.1,q.2⟩
  · have hj:j < NC.length:=(List.getElem?_eq_some_iff.mp ex).1
    have q:=h6 j hj
    rw [e,ex] at q
    simpa using q
section
variable {X:Cx} {pins:List (Addr × Obj)} {σ:St} {H₂:Hp} {s₂:Shared} {scope:Scope} {NC:List Str} {cap:List (Option Nat)} {fp:List Addr}
theorem comp_start {C D:Addr} {h₁:Heap} {tk:Nat} {o:Obj} {xe:Value->Shared->Prop} (I:Inv X pins σ H₂ s₂) (hc:X.calm=true) (cok:compOk X.env.scope scope X.N NC cap=true) (f2:∀ b ∈ fp,FpOk X pins H₂ b) (hfp:∀ b ∈ fp,∃ o,s₂.heap.get? b=some o)
    (hD:D=s₂.heap.objs.size) (hC:C=s₂.heap.objs.size + 1) (old:∀ b o,s₂.heap.get? b=some o->h₁.get? b=some o) (hacc:h₁.get? D=some o) (ho:∀ v,o.data ≠ .cell v) {m:Str->Option Value} (ns:h₁.Ns C m) (own:CellsOk h₁ (C + 1) (cellsFrom (C + 1) scope.names [])) :
    Inv (compCx X NC scope C s₂ H₂ fp [] xe) [(D,o)] (capσ cap σ) H₂ { s₂ with heap:=h₁,toks:=tk }:=by
  obtain ⟨c1,c2,c3,c4,c5,c6,c7⟩:=compOk_parts cok
  have hfree:∀ y ∈ scope.names,y.2=.free->∃ c,X.env.cells.lookup y.1=some c:=fun y hy e=>I.ok.has y.1 (.inl (c4 y hy e))
  have clx:∀ x c,(clOf scope X.env).lookup x=some c->X.env.cells.lookup x=some c:=fun x c e=>by
    rcases clGo_mem hfree (PySem.mem_of_lookup e) with z | z
    · simp at z
    · exact z
  have ccx:∀ x c,(ccells scope C X.env).lookup x=some c->(cellsFrom (C + 1) scope.names []).lookup x=some c \/ X.env.cells.lookup x=some c:=fun x c e=>(cc_cases e).imp id fun z=>clx x c z.2
  have hrel:∀ x,(compEnvC scope (ccells scope C X.env) C X.env).kindOf x=(scope.names.lookup x).map fun k=>if k=.free then .cell else k:=fun x=>kindOf_rel (scope:=scope) I.ok.kind fun y hy e=>c4 y hy e
  have fresh:∀ b,s₂.heap.objs.size<=b->s₂.heap.get? b=none:=fun b hb=>Heap.get?_none_of_le hb
  have sz:s₂.heap.objs.size<=C:=by rw [hC]; exact Nat.le_succ _
  have szD:s₂.heap.objs.size<=D:=by rw [hD]; exact Nat.le_refl _
  have ownF:∀ x c,(cellsFrom (C + 1) scope.names []).lookup x=some c->s₂.heap.get? c=none /\ s₂.heap.objs.size<=c:=fun x c e=>by
    have q:=(own.empty x c (PySem.mem_of_lookup e)).2
    have q2:s₂.heap.objs.size<=c:=by rw [hC] at q; omega
    exact ⟨fresh c q2,q2⟩
  have cloF:∀ x c,X.env.cells.lookup x=some c->c < s₂.heap.objs.size:=fun x c e=>by
    obtain ⟨v,q⟩:=I.cell x c e
    exact q.lt
  have inj:∀ x y c,(ccells scope C X.env).lookup x=some c->(ccells scope C X.env).lookup y=some c->x=y:=fun x y c e1 e2=>by
    rcases ccx x c e1 with z1 | z1 <;> rcases ccx y c e2 with z2 | z2
    · exact name_of_addr own.apart (PySem.mem_of_lookup z1) (PySem.mem_of_lookup z2)
    · exact absurd (cloF y c z2) (Nat.not_lt.mpr (ownF x c z1).2)
    · exact absurd (cloF x c z1) (Nat.not_lt.mpr (ownF y c z2).2)
    · exact I.ok.inj x y c z1 z2
  have exC:∀ b ∈ fp,b ≠ C:=fun b hb z=>by
    obtain ⟨o,e⟩:=hfp b hb
    rw [z,fresh C sz] at e; cases e
  have exD:∀ b ∈ fp,b ≠ D:=fun b hb z=>by
    obtain ⟨o,e⟩:=hfp b hb
    rw [z,fresh D szD] at e; cases e
  refine ⟨⟨I.ok.mod,c1,I.ok.glob,I.ok.blt,sz,inj,fun x hx=>?_,fun x c z e=>?_,fun _=>I.ok.hd hc,I.ok.frames,.inl rfl,fun b hb=>⟨exC b hb,fun x c e=>?_⟩,
    I.bs,Nat.le_trans I.ok.bsz I.sz,fun b o e z=>?_,fun b hb z=>?_,I.stack,I.stkFree⟩,rfl,I.bare,Un.kept old,⟨m,ns,fun j x v e1 e2 e3=>?_⟩,fun x c e=>?_,I.hok.fresh sz,fun x c e=>?_,fun p hp=>?_,I.hok.kept old,?_⟩
  · rw [hrel] at hx
    have hxf:scope.names.lookup x=some .free \/ scope.names.lookup x=some .cell:=by
      cases e:scope.names.lookup x with
      | none=>rw [e] at hx; simp at hx
      | some k =>
        rw [e] at hx
        by_cases hk:k=.free
        · rw [hk]; exact .inl rfl
        · simp only [Option.map_some,if_neg hk,Option.some.injEq] at hx
          rcases hx with z | z
          · rw [z]; exact .inr rfl
          · exact absurd z hk
    rcases hxf with hxf | hxf
    · obtain ⟨c,hm⟩:=clGo_has (env:=X.env) (cs:=[]) (PySem.mem_of_lookup hxf)
      obtain ⟨c',hl⟩:=lookup_some_of_mem hm
      exact Option.isSome_iff_exists.mp (PySem.W.cellsFrom_some _ _ _ (.inr (by rw [show (clOf scope X.env).lookup x=some c' from hl]; rfl)))
    · exact Option.isSome_iff_exists.mp (PySem.W.cellsFrom_some _ _ _ (.inl hxf))
  · have hx:scope.names.lookup x=some .cell:=by simpa using z
    obtain ⟨c',hl⟩:=Option.isSome_iff_exists.mp (PySem.W.cellsFrom_some (x:=x) scope.names (C + 1) [] (.inl hx))
    have e':(ccells scope C X.env).lookup x=some c:=e
    rw [cc_own hl] at e'
    cases e'
    exact (ownF x _ hl).2
  · rcases ccx x c e with z | z
    · intro q
      obtain ⟨o,eb⟩:=hfp b hb
      rw [<- q,(ownF x c z).1] at eb
      cases eb
    · exact (f2 b hb).2.2.2.2.1 x c z
  · obtain ⟨e1,e2⟩:=I.bs b o e
    have:=(f2 b z).2.2.2.1
    rcases this with q | q
    · exact I.ok.noex b o e q
    · exact absurd (Nat.lt_of_lt_of_le (Heap.lt_size (I.ok.bs b o e).1) q) (Nat.lt_irrefl _)
  · rcases List.mem_cons.mp (I.stkSub b z) with q | q
    · exact (f2 b hb).2.1 q
    · exact (f2 b hb).2.2.1 q
  · have ej:cap[j]?=some ((some ((cap[j]?.bind id).getD 0):Option Nat)):=by
      unfold capσ at e2
      rw [List.getElem?_map] at e2
      cases q:cap[j]? with
      | none=>rw [q] at e2; simp at e2
      | some oo =>
        rw [q] at e2
        cases oo with
        | none=>simp at e2
        | some i=>simp
    generalize ((cap[j]?.bind id).getD 0)=i at ej
    obtain ⟨y,y1,y2,y3⟩:=c6 j i ej
    have:y=x:=Option.some.inj (y1.symm.trans e1)
    subst this
    have ev:σ[i]?=some (some v):=by
      unfold capσ at e2
      rw [List.getElem?_map,ej] at e2
      simp only [Option.map_some,Option.bind_some,Option.some.injEq] at e2
      cases q:σ[i]? with
      | none=>rw [q] at e2; simp at e2
      | some w=>rw [q] at e2; simp at e2; rw [e2]
    have kc:X.env.scope.names.lookup y=some .cell:=c4 (y,.free) (PySem.mem_of_lookup y3) rfl
    obtain ⟨m',hn',hl'⟩:=I.loc
    obtain ⟨u,r,q⟩:=hl' i y v y2 ev (.inr (.inl kc))
    refine ⟨u,r,.inr ⟨.inl (by rw [hrel,y3]; rfl),?_⟩⟩
    rcases q with ⟨k,_⟩ | ⟨k,c,e,z⟩
    · rw [show X.env.kindOf y=some .cell from kc] at k; cases k
    · obtain ⟨c',hm⟩:=clGo_has (env:=X.env) (cs:=[]) (PySem.mem_of_lookup y3)
      obtain ⟨c'',hl⟩:=lookup_some_of_mem hm
      have:=clx y c'' hl
      rw [e] at this
      cases this
      obtain ⟨oc,h1,h2⟩:=z
      refine ⟨c,cc_clo hl ?_,oc,old c oc h1,h2⟩
      cases eo:(cellsFrom (C + 1) scope.names []).lookup y with
      | none=>rfl
      | some c2' =>
        have q1:=c2 (y,.cell) (cellsFrom_mem (PySem.mem_of_lookup eo)) rfl
        rw [y3] at q1
        cases q1
  · rcases ccx x c e with z | z
    · exact ⟨none,(own.empty x c (PySem.mem_of_lookup z)).1⟩
    · obtain ⟨v,oc,h1,h2⟩:=I.cell x c z
      exact ⟨v,oc,old c oc h1,h2⟩
  · rcases ccx x c e with z | z
    · exact I.hok.fresh (ownF x c z).2
    · exact I.freeC x c z
  · have e:p=(D,o):=by simpa using hp
    subst e
    refine ⟨hacc,I.hok.fresh szD,fun z=>by rw [hC,hD] at z; exact absurd z (Nat.ne_of_lt (Nat.lt_succ_self _)),fun z=>?_,ho⟩
    obtain ⟨_,ob,e,_⟩:=I.stack.mem z
    rw [fresh D szD] at e; cases e
  · unfold capσ
    rw [List.length_map]
    exact c5
theorem comp_leave {C:Addr} {pn pc:List (Addr × Obj)} {σ':St} {H':Hp} {s':Shared} {h':Heap} {xe:Value->Shared->Prop} (I:Inv X pins σ H₂ s₂) (f2:∀ b ∈ fp,FpOk X pins H₂ b) (hC:C=s₂.heap.objs.size + 1)
    (J:Inv (compCx X NC scope C s₂ H₂ fp pn xe) pc σ' H' s') (sb:Heap.SameBut C s'.heap h'):Inv X pins σ H' { s' with heap:=h' }:=by
  have fC:s₂.heap.get? C=none:=Heap.get?_none_of_le (by rw [hC]; exact Nat.le_succ _)
  have nC:∀ b o,s₂.heap.get? b=some o->b ≠ C:=fun b o e z=>by rw [z,fC] at e; cases e
  have u:Un (frs X.stack) fp H₂ H' s₂.heap h':=by
    have v:Un (frs X.stack) fp H₂ H' s₂.heap s'.heap:=J.base
    refine ⟨fun b o e n hb hx=>(sb.2 b (nC b o e)).trans (v.keep b o e n hb hx),fun b o e n hb hx=>?_,v.free,fun b o e hx=>?_,v.tups,v.frzs,v.tbls⟩
    · obtain ⟨sl,q⟩:=v.slot b o e n hb hx
      exact ⟨sl,(sb.2 b (nC b o e)).trans q⟩
    · obtain ⟨o',q⟩:=v.there b o e hx
      exact ⟨o',(sb.2 b (nC b o e)).trans q⟩
  have hok:HOk X.prog X.w H' h':=fun b o e=>by
    refine (J.hok b o e).stay (fun c w hc q=>(sb.2 c fun z=>?_).trans q) (fun _ q=>q) fun _ _ q=>q
    have fr:H' C=none:=J.free
    subst z
    rcases hc with rfl | hc
    · rw [fr] at e; cases e
    · rw [fr] at hc; cases hc
  exact I.call' (s':={ s' with heap:=h' }) (ch:=fp) J.os u hok J.bare fun b hb=>⟨(f2 b hb).2.2.2.1,(f2 b hb).2.1,(f2 b hb).2.2.2.2.1,(f2 b hb).2.2.2.2.2⟩
end
end L2
set_option Elab.async false
set_option linter.all false
set_option maxRecDepth 100000
namespace L2
open PySem PySem.Spec PyProof.Rows
noncomputable def Weak (σ σ':St):Prop:=σ'.length=σ.length /\ ∀ (i:Nat) v,σ[i]?=some (some v)->σ'[i]?=some (some v)
theorem Weak.refl (σ:St):Weak σ σ:=⟨rfl,fun _ _ h=>h⟩
theorem Weak.set {σ:St} {j:Nat} {v:Option V} (h:σ[j]?=some none):Weak σ (σ.set j v):=by
  refine ⟨List.length_set ..,fun i w e=>?_⟩
  by_cases q:j=i
  · subst q; rw [h] at e; cases e
  · rw [List.getElem?_set_ne q]; exact e
theorem Weak.set2 {σ:St} {j k:Nat} {v w:Option V} (h:σ[j]?=some none) (h':σ[k]?=some none):Weak σ ((σ.set j v).set k w):=by
  refine ⟨by rw [List.length_set,List.length_set],fun i u e=>?_⟩
  have q1:j ≠ i:=fun q=>by subst q; rw [h] at e; cases e
  have q2:k ≠ i:=fun q=>by subst q; rw [h'] at e; cases e
  rw [List.getElem?_set_ne q2,List.getElem?_set_ne q1]; exact e
section
variable {prog:Program} {w:World} {A:Around} {R:Result->Shared->Prop} {s:Shared}
theorem compLoop_any {elt target iter:Expr} {ifs:List Expr} {scope:Scope} {pos:Pos} {it acc:Value} {env:Env} (I:Nat->Shared->Prop)
    (turn:∀ n s,I n s->wpAny (model prog w) A (pyNext it) (fun r s₁=>match r with
      | none=>R (.ok .next) s₁
      | some v=>wpAny (model prog w) A (letOwnedTupleGo target it v) (fun _ s₁'=>wpAny (model prog w) A (assign target env v) (fun _ s₂ =>
          wpAny (model prog w) A (forIn ifs true fun c r=>if r=true then do let ok <- isTrue c env (eval c env); pure (ForInStep.yield ok) else pure (ForInStep.yield r)) (fun ok s₃ =>
            if ok=true then wpAny (model prog w) A (eval elt env) (fun x s₄ =>
              wpAny (model prog w) A (call (.builtin "list.append") [acc,x]) (fun _ s₅=>∃ m,m < n /\ I m s₅) (notedBy (model prog w) A env fun e s'=>R (.error e) s') s₄) (notedBy (model prog w) A env fun e s'=>R (.error e) s') s₃
            else ∃ m,m < n /\ I m s₃) (notedBy (model prog w) A env fun e s'=>R (.error e) s') s₂) (notedBy (model prog w) A env fun e s'=>R (.error e) s') s₁') (notedBy (model prog w) A env fun e s'=>R (.error e) s') s₁) (notedBy (model prog w) A env fun e s'=>R (.error e) s') s)
    (n:Nat) (h:I n s):codeAny (model prog w) A (.compLoop (.ListComp elt [⟨target,iter,ifs,0⟩] scope pos) 0 it acc env) R s:=by
  refine codeAny_loop rfl I (fun n s hI=>?_) n h
  show wpAny _ A ((compTurn (.ListComp elt [⟨target,iter,ifs,0⟩] scope pos) 0 it acc env).onRaise (fun x=>do noteFrame x env; theTreesLotGoes x)) _ _ s
  refine wpAny_noted ?_
  rw [compTurn_list]
  refine wpAny_bind (wpAny_standAt (wpAny_bind (wpAny_mono (turn n s hI) (fun r s₁ h₁=>?_) fun _ _ h'=>h')))
  cases r with
  | none=>exact wpAny_pure h₁
  | some v =>
    refine wpAny_bind (wpAny_mono h₁ (fun _ s₁' h₁'=>?_) fun _ _ h'=>h')
    refine wpAny_bind (wpAny_mono h₁' (fun _ s₂ h₂=>wpAny_bind (wpAny_mono h₂ (fun ok s₃ h₃=>?_) fun _ _ h'=>h')) fun _ _ h'=>h')
    cases ok with
    | false=>exact wpAny_pure ⟨rfl,h₃⟩
    | true =>
      exact wpAny_bind (wpAny_bind (wpAny_mono h₃ (fun x s₄ h₄=>wpAny_bind (wpAny_mono h₄ (fun _ s₅ h₅=>wpAny_pure (wpAny_pure ⟨rfl,h₅⟩)) fun _ _ h'=>h')) fun _ _ h'=>h'))
end
section
variable {X:Cx} {σ:St} {H:Hp} {s:Shared}
theorem Inv.repin {D:Addr} {o o':Obj} {h':Heap} (I:Inv X [(D,o)] σ H s) (hpn:∀ p ∈ X.pn,p.1 ≠ D) (h0:X.s₀.heap.objs.size<=D) (ho':∀ v,o'.data ≠ .cell v) (sb:Heap.SameBut D s.heap h') (e':h'.get? D=some o') :
    Inv X [(D,o')] σ H { s with heap:=h' }:=by
  obtain ⟨e,n,ne,nf,d⟩:=I.pin (D,o) (List.mem_append_right _ (by simp))
  have I0:Inv X [] σ H s:=I.pins_of fun p hp=>absurd hp (by simp)
  have I1:Inv X [] σ H { s with heap:=h' }:=I0.turned (t':=s.toks) (it:=D) (fun b u hb q=>(sb.2 b hb).trans q) n ne (.inr h0) (fun x c ec z=>by
    obtain ⟨v,oc,h1,h2⟩:=I.cell x c ec
    subst z
    rw [e] at h1; cases h1
    exact d v h2) fun p hp=>hpn p (by simpa using hp)
  refine I1.pins_of fun p hp=>?_
  have q:p=(D,o'):=by simpa using hp
  subst q
  exact ⟨e',n,ne,nf,ho'⟩
end
section
variable {X:Cx} {pins:List (Addr × Obj)} {σ:St} {H₂:Hp} {s₂:Shared} {scope:Scope} {NC:List Str} {cap:List (Option Nat)} {fp:List Addr} {elt tg iter:Expr} {ifs:List Expr} {pos:Pos} {Z:ZK} {J:It} {it:Addr} {tn:Nat->Heap->Prop}
  {g:TG} {tf:TT} {te:TE} {use:Option (Value->Sem Unit)} {Qv:Value->Shared->Prop}
theorem comp_core (hc:X.calm=true) (th:Thr X Z) (I:Inv X pins σ H₂ s₂) (T:Turn X.prog X.w X.K tg J fp it tn) (st2:tn 0 s₂.heap) (f2:∀ b ∈ fp,FpOk X pins H₂ b) (cok:compOk X.env.scope scope X.N NC cap=true)
    (hg:∀ C pn xe,PG (compCx X NC scope C s₂ H₂ fp pn xe) tg g)
    (hf:∀ C pn xe,Thr (compCx X NC scope C s₂ H₂ fp pn xe) (fun _ C' H'=>Z σ C' H')->PF (compCx X NC scope C s₂ H₂ fp pn xe) ifs tf)
    (hb:∀ C pn xe,Thr (compCx X NC scope C s₂ H₂ fp pn xe) (fun _ C' H'=>Z σ C' H')->PE (compCx X NC scope C s₂ H₂ fp pn xe) elt te)
    (W:Nat->Nat->List V->Hp->Prop) (m0:Nat) (w0:W 0 m0 [] H₂) {Fn:List V->Hp->Prop}
    (turn:∀ i m ys H2,W i m ys H2->(J.stop i H2 /\ Fn ys H2) \/ (J.go i H2 /\ ys.length < sizeLine /\ ∀ x H3,J.yld i H2 x H3->g x (capσ cap σ) H3 fun σ4 H4=>Weak (capσ cap σ) σ4 /\ tf σ4 H4 fun b H5 =>
      if b=true then te σ4 H5 fun y H6=>∃ m',m' < m /\ W (i + 1) m' (ys ++ [y]) H6 else ∃ m',m' < m /\ W (i + 1) m' ys H5))
    (fin:∀ (C D:Addr) (s':Shared) (H':Hp) (ys:List V) (us:List Value) (n:Nat),Fn ys H'->Vals ys us->s'.heap.get? D=some { cls:=.type "list",data:=.seq us.toArray n }->H' D=none->H' C=none->D=s₂.heap.objs.size->C=s₂.heap.objs.size + 1 ->
      (∃ m,s'.heap.Ns C m)->(∀ h',Heap.SameBut C s'.heap h'->Inv X pins σ H' { s' with heap:=h' })->compPost (model X.prog X.w) X.A X.xe use Qv (.ref D) C (.ok .next) s') :
    wpAny (model X.prog X.w) X.A (newList []) (fun acc s₃=>wpAny (model X.prog X.w) X.A (newFunctionEnv scope X.env.globals (clOf scope X.env) [] X.env.qual none .none (some X.env)) (fun cenv s₄ =>
      codeAny (model X.prog X.w) X.A (.compStart (.ListComp elt [⟨tg,iter,ifs,0⟩] scope pos) 0 (.ref it) acc { cenv with scope:=relabel scope X.env }) (compPost (model X.prog X.w) X.A X.xe use Qv acc cenv.locals) s₄) X.xe s₃) X.xe s₂:=by
  obtain ⟨c1,c2,c3,c4,c5,c6,c7⟩:=compOk_parts cok
  refine wpAny_newObj_type (wpAny_newBlock ?_)
  dsimp only
  generalize hH2:s₂.heap.push { cls:=.type "list",dict:=none,data:=.seq ([]:List Value).toArray }=H2
  generalize hh1:pushCells (H2.push { cls:=.type "dict",data:=.dict #[] }) scope.names=h₁
  have hns₁:h₁.Ns H2.objs.size (fun _=>none):=hh1 ▸ (Heap.Ns.new H2 (.type "dict")).keeps (pushCells_keeps _ _)
  have own₁:CellsOk h₁ (H2.objs.size + 1) (cellsFrom (H2.objs.size + 1) scope.names []):=by
    have ok:=cellsFrom_ok scope.names (H2.push { cls:=.type "dict",data:=.dict #[] }) (H2.objs.size + 1) [] ⟨fun _ _ hm=>(nomatch hm),List.Pairwise.nil⟩ (by rw [Heap.size_push]; exact Nat.le_refl _)
    rw [Heap.size_push,hh1] at ok
    exact ok
  have hC:H2.objs.size=s₂.heap.objs.size + 1:=by rw [<- hH2,Heap.size_push]
  have hDC:s₂.heap.objs.size ≠ H2.objs.size:=by rw [hC]; exact Nat.ne_of_lt (Nat.lt_succ_self _)
  have below:∀ b,b < s₂.heap.objs.size->b ≠ H2.objs.size:=fun b hb=>by rw [hC]; exact Nat.ne_of_lt (Nat.lt_succ_of_lt hb)
  have old:∀ b o,s₂.heap.get? b=some o->h₁.get? b=some o:=fun b o e=>hh1 ▸ pushCells_keeps _ _ _ _ (Heap.get?_push_of_some _ (hH2 ▸ Heap.get?_push_of_some _ e))
  have hacc:h₁.get? s₂.heap.objs.size=some { cls:=.type "list",data:=.seq ([]:List Value).toArray 0 }:=hh1 ▸ pushCells_keeps _ _ _ _ (Heap.get?_push_of_some _ (hH2 ▸ Heap.get?_push_size _ rfl))
  have hfp:∀ b ∈ fp,∃ o,s₂.heap.get? b=some o:=fun b hb=>let ⟨o,e,_⟩:=T.obj _ _ st2 b hb; ⟨o,e⟩
  have nodata:∀ (us:List Value) (n:Nat) v,({ cls:=.type "list",data:=.seq us.toArray n }:Obj).data ≠ .cell v:=fun us n v z=>by cases z
  have fpD:∀ b ∈ fp,b ≠ s₂.heap.objs.size:=fun b hb z=>by
    obtain ⟨o,e⟩:=hfp b hb
    exact absurd (Heap.lt_size e) (by rw [z]; exact Nat.lt_irrefl _)
  generalize hEn:(notedBy (model X.prog X.w) X.A (compEnvC scope (ccells scope H2.objs.size X.env) H2.objs.size X.env) fun e s'=>compPost (model X.prog X.w) X.A X.xe use Qv (.ref s₂.heap.objs.size) H2.objs.size (.error e) s')=En
  have loop:∀ s₃:Shared,s₃={ s₂ with heap:=h₁,toks:=s₂.toks } ->
      codeAny (model X.prog X.w) X.A (.compLoop (.ListComp elt [⟨tg,iter,ifs,0⟩] scope pos) 0 (.ref it) (.ref s₂.heap.objs.size) (compEnvC scope (ccells scope H2.objs.size X.env) H2.objs.size X.env))
        (compPost (model X.prog X.w) X.A X.xe use Qv (.ref s₂.heap.objs.size) H2.objs.size) s₃:=by
    rintro s₃ rfl
    refine compLoop_any (fun k s'=>∃ i ys us n H',Vals ys us /\ W i k ys H' /\ tn i s'.heap /\ (∀ b ∈ fp,H' b=none) /\
      Inv (compCx X NC scope H2.objs.size s₂ H₂ fp [] En) [(s₂.heap.objs.size,{ cls:=.type "list",data:=.seq us.toArray n })] (capσ cap σ) H' s') ?_ m0
      ⟨0,[],[],0,H₂,.nil,w0,T.keep _ _ _ st2 fun b _ o e=>old b o e,fun b hb=>(f2 b hb).1,comp_start I hc cok f2 hfp rfl hC old hacc (nodata _ _) hns₁ own₁⟩
    rw [hEn]
    rintro k s' ⟨i,ys,us,n,H',rv,w,st,fr,Ic⟩
    have Fp:∀ {H':Hp} {us:List Value} {n:Nat},(∀ b ∈ fp,H' b=none)->∀ b ∈ fp,FpOk (compCx X NC scope H2.objs.size s₂ H₂ fp [] En) [(s₂.heap.objs.size,({ cls:=.type "list",data:=.seq us.toArray n }:Obj))] H' b:=fun {H' us n} hn b hb=>by
      have q:=Ic.ok.exf b hb
      refine ⟨hn b hb,q.1,fun z=>Ic.ok.exfs b hb z,.inl hb,q.2,fun p hp=>?_⟩
      have e:p=(s₂.heap.objs.size,({ cls:=.type "list",data:=.seq us.toArray n }:Obj)):=by simpa using hp
      subst e
      exact (fpD b hb).symm
    rcases turn i k ys H' w with ⟨stop,q⟩ | ⟨go,hlen,step⟩
    · refine wpAny_mono (T.done (compCx X NC scope H2.objs.size s₂ H₂ fp [] En) rfl rfl rfl rfl i _ s' _ H' En Ic (Fp fr) st stop) (fun r s4 h4=>?_) fun _ _ x=>x
      obtain ⟨hr,I4⟩:=h4
      subst hr
      obtain ⟨m,ns,_⟩:=id I4.loc
      obtain ⟨p1,p2,_⟩:=I4.pin _ (List.mem_append_right _ (List.mem_singleton.mpr rfl))
      exact fin _ _ s4 H' ys us n q rv p1 p2 I4.free rfl hC ⟨m,ns⟩ fun h' sb=>comp_leave I f2 hC I4 sb
    · refine wpAny_mono (T.item (compCx X NC scope H2.objs.size s₂ H₂ fp [] En) rfl rfl rfl rfl i _ s' _ H' En Ic (Fp fr) st go) (fun r s4 h4=>?_) fun _ _ x=>x
      obtain ⟨u,hr,h4⟩:=h4
      subst hr
      refine wpAny_mono h4 (fun _ s5 h5=>?_) fun _ _ x=>x
      obtain ⟨x,H5,I5,r5,y5,st5,fr5⟩:=h5
      have I5':Inv (compCx X NC scope H2.objs.size s₂ H₂ fp (pinsAt fp s5.heap) En) [(s₂.heap.objs.size,{ cls:=.type "list",data:=.seq us.toArray n })] (capσ cap σ) H5 s5 :=
        (I5.pinned (Fp fr5) (T.obj _ _ st5)).repn fun p hp=>by
          rcases List.mem_append.mp hp with z | z
          · exact List.mem_append_right _ (List.mem_append_right _ z)
          · exact List.mem_append_right _ (List.mem_append_left _ z)
      have okx:XOk (compCx X NC scope H2.objs.size s₂ H₂ fp (pinsAt fp s5.heap) En):=by
        obtain ⟨top,outer,L,e1,e2,e3⟩:=th.top
        exact ⟨⟨top,outer,L,e1,e2,e3⟩,fun b hb=>let ⟨o,e,_⟩:=T.obj _ _ st5 b hb; ⟨o,mem_pinsAt hb e⟩⟩
      have thx:Thr (compCx X NC scope H2.objs.size s₂ H₂ fp (pinsAt fp s5.heap) En) (fun _ C' H'=>Z σ C' H'):=by
        refine ⟨okx,?_⟩
        rintro e s6 ⟨a,C',T',σ6,H6,rfl,I6,F6,z6⟩
        show En (.ref a) s6
        rw [<- hEn]
        unfold notedBy
        refine I6.note okx F6 I6.ok.frames rfl fun h7 t7 I7 F7=>?_
        obtain ⟨m,ns,_⟩:=id I7.loc
        have fin7:∃ m,h7.Ns H2.objs.size m /\ ∀ h',Heap.SameBut H2.objs.size h7 h'->∀ cenv:Env,cenv.locals=H2.objs.size->wpAny (model X.prog X.w) X.A (passOn "comprehension.variables-let-go" (.ref a) cenv:Sem Value) (fun _ _=>False) X.xe { s6 with heap:=h' }:=by
          refine ⟨m,ns,fun h' sb cenv _=>?_⟩
          have I8:Inv X pins σ H6 { s6 with heap:=h' }:=comp_leave (s':={ s6 with heap:=h7 }) I f2 hC I7 sb
          have F8:Fly X pins H6 h' a C' (some t7):=by
            refine ⟨F7.fl.at fun b hb o e=>(sb.2 b fun z=>?_).trans e,fun b hb=>?_⟩
            · obtain ⟨o',vs,e1,e2⟩:=F7.fl.rec b hb
              obtain ⟨oC,es,ep,e3,e4,_⟩:=ns
              subst z
              have q:o'=oC:=Option.some.inj (e1.symm.trans e3)
              rw [q] at e2
              have q2:=e2.symm.trans e4
              cases q2
            · obtain ⟨o1,o2,_⟩:=F7.ow b hb
              exact I.ow th.toXOk (.inr trivial) o2 o1
          exact I8.passOn F8 fun h9 I9 F9=>th.go I9 F9 z6
        show compPost _ _ _ _ _ _ _ (.error (.ref a)) _
        cases use <;> exact fin7
      refine wpAny_mono (hg _ _ En _ s5 _ H5 x u _ I5' r5 (step x H5 y5)) (fun _ s6 h6=>?_) fun _ _ x=>x
      obtain ⟨σ6,H6,I6,wk,q6⟩:=h6
      refine wpAny_mono (hf _ _ En thx _ s6 σ6 H6 _ I6 q6) (fun b s7 h7=>?_) fun _ _ x=>x
      obtain ⟨H7,I7,q7⟩:=h7
      have back:∀ {s8:Shared} {H8:Hp} {ys':List V} {us':List Value} {n' m':Nat},Inv (compCx X NC scope H2.objs.size s₂ H₂ fp (pinsAt fp s5.heap) En) [(s₂.heap.objs.size,{ cls:=.type "list",data:=.seq us'.toArray n' })] σ6 H8 s8->Vals ys' us'->m' < k->W (i + 1) m' ys' H8 ->
          ∃ m,m < k /\ ∃ i ys us n H',Vals ys us /\ W i m ys H' /\ tn i s8.heap /\ (∀ b ∈ fp,H' b=none) /\ Inv (compCx X NC scope H2.objs.size s₂ H₂ fp [] En) [(s₂.heap.objs.size,{ cls:=.type "list",data:=.seq us.toArray n })] (capσ cap σ) H' s8:=by
        intro s8 H8 ys' us' n' m' I8 rv8 hm w8
        refine ⟨m',hm,i + 1,ys',us',n',H8,rv8,w8,T.keep _ _ _ st5 fun b hb o e=>(I8.pin (b,o) (List.mem_append_left _ (mem_pinsAt hb e))).1,fun b hb=>?_,?_⟩
        · obtain ⟨o,e,d⟩:=T.obj _ _ st5 b hb
          exact (I8.pin (b,o) (List.mem_append_left _ (mem_pinsAt hb e))).2.1
        · have I9:=I8.weak (σ':=capσ cap σ) wk.1.symm wk.2
          exact I9.repn fun p hp=>List.mem_append_right _ (by simpa using hp)
      cases b with
      | false =>
        obtain ⟨m',hm,w8⟩:=q7
        exact back I7 rv hm w8
      | true =>
        refine wpAny_mono (hb _ _ En thx _ s7 σ6 H7 _ I7 q7) (fun y s8 h8=>?_) fun _ _ x=>x
        obtain ⟨v,H8,I8,rv8,m',hm,w8⟩:=h8
        obtain ⟨p1,p2,_⟩:=I8.pin _ (List.mem_append_right _ (List.mem_singleton.mpr rfl))
        have hlu:us.length=ys.length:=rv.length.symm
        refine append_at p1 (hsz:=by show us.toArray.size<=sizeLine; rw [List.size_toArray,hlu]; exact Nat.le_of_lt hlen) fun h9 sb9 e9=>?_
        rw [List.push_toArray] at e9
        have I9:=I8.repin (fun p hp=>by
          have q:=(of_pinsAt hp).1
          exact fpD _ q) (Nat.le_refl _) (nodata _ _) sb9 e9
        exact back I9 (rv.append (.cons rv8 .nil)) hm w8
  exact codeAny_compStart_list (loop _ rfl) (T.self _ 0 _ _ _ (T.keep _ _ _ st2 fun b _ o e=>old b o e) (loop _ rfl))
end
noncomputable def CompR (J:It) (H1:Hp) (cap:List (Option Nat)) (σ:St) (g:TG) (tf:TT) (te:TE) (Q:VK):Prop:=∃ W:Nat->Nat->List V->Hp->Prop,(∃ m,W 0 m [] H1) /\ ∀ i m ys H2,W i m ys H2 ->
  (J.stop i H2 /\ ys.length<=sizeLine /\ ∀ p,H2 p=none->Q (.ref p) (upd H2 p (.lst ys))) \/
  (J.go i H2 /\ ys.length < sizeLine /\ ∀ x H3,J.yld i H2 x H3->g x (capσ cap σ) H3 fun σ4 H4=>Weak (capσ cap σ) σ4 /\ tf σ4 H4 fun b H5 =>
    if b=true then te σ4 H5 fun y H6=>∃ m',m' < m /\ W (i + 1) m' (ys ++ [y]) H6 else ∃ m',m' < m /\ W (i + 1) m' ys H5)
noncomputable def tComp (Z:ZK) (cap:List (Option Nat)) (wi:TI) (g:TG) (tf:ZK->TT) (te:ZK->TE):TE:=fun σ H Q=>wi σ H fun J H1=>CompR J H1 cap σ g (tf (fun _ C H'=>Z σ C H')) (te (fun _ C H'=>Z σ C H')) Q
section
variable {X:Cx} {scope:Scope} {NC:List Str} {cap:List (Option Nat)} {elt tg iter:Expr} {ifs:List Expr} {pos:Pos} {Z:ZK} {wi:TI} {g:TG} {tf:ZK->TT} {te:ZK->TE}
theorem pe_comp (hc:X.calm=true) (th:Thr X Z) (hi:PI X tg iter wi) (cok:compOk X.env.scope scope X.N NC cap=true)
    (hg:∀ C s H fp pn xe,PG (compCx X NC scope C s H fp pn xe) tg g)
    (hf:∀ C s H fp pn xe Zc,Thr (compCx X NC scope C s H fp pn xe) Zc->PF (compCx X NC scope C s H fp pn xe) ifs (tf Zc))
    (hb:∀ C s H fp pn xe Zc,Thr (compCx X NC scope C s H fp pn xe) Zc->PE (compCx X NC scope C s H fp pn xe) elt (te Zc))
    (hs:∀ x,foldedSetIterable iter X.env x=pure x:=by intro _; rfl):PE X (.ListComp elt [⟨tg,iter,ifs,0⟩] scope pos) (tComp Z cap wi g tf te):=by
  intro pins s σ H Q I h
  obtain ⟨c1,c2,c3,c4,c5,c6,c7⟩:=compOk_parts cok
  rw [eval_ListComp]
  refine wpAny_comprehension_free (use:=none) rfl hs (closure_of fun y hy e=>I.ok.has y.1 (.inl (c4 y hy e))) c1 c3 (thn (hi pins s σ H _ I h) fun xv s₁ h₁=>thn h₁ fun itv s₂ h₂=>?_)
  obtain ⟨it,fp,tn,J,H2,rfl,I2,T,st2,f2,W,⟨m0,w0⟩,turn⟩:=h₂
  refine comp_core hc th I2 T st2 f2 cok (fun C pn xe=>hg C s₂ H2 fp pn xe) (fun C pn xe t=>hf C s₂ H2 fp pn xe _ t) (fun C pn xe t=>hb C s₂ H2 fp pn xe _ t) W m0 w0 turn ?_
  rintro C D s' H' ys us n ⟨hlen,q⟩ rv e hn _ rfl rfl ⟨m,ns⟩ lv
  refine ⟨m,ns,fun h' sb=>?_⟩
  have I':=lv h' sb
  have eD:h'.get? s₂.heap.objs.size=some { cls:=.type "list",data:=.seq us.toArray n }:=(sb.2 _ (Nat.ne_of_lt (Nat.lt_succ_self _))).trans e
  refine ⟨.ref s₂.heap.objs.size,_,I'.track (o:=.lst ys) hn (Heap.get?_none_of_le I2.sz) (Nat.ne_of_gt I2.lt) (fun x c ec z=>?_) (fun p hp z=>?_) ⟨hlen,us,n,rv,eD⟩,rfl,q _ hn⟩
  · obtain ⟨v,q⟩:=I2.cell x c ec
    exact absurd q.lt (by rw [z]; exact Nat.lt_irrefl _)
  · exact absurd (Heap.lt_size (I2.pin p hp).1) (by rw [z]; exact Nat.lt_irrefl _)
end
end L2
set_option Elab.async false
set_option linter.all false
set_option maxRecDepth 100000
namespace L2
open PySem PySem.Spec PyProof.Rows
theorem exc_obj {K:PySem.W.Frag} {h:Heap} {C:Addr} {bmB:List Value} {newId:String} (X:K.In h) (q:PySem.W.excIn K C bmB newId=true) :
    ∃ oc dd cd sl bm N nm qn bs hdct sn sub ab col k0 k1 k2 k3 k5 mN,K.lookup C=some ⟨oc,dd,.cls cd,sl⟩ /\ cd.mro=.ref C :: bm /\ h.get? C=some (excClassObj nm qn C N bs bm hdct sn sub ab col dd k0 k1 k2 k3 k5 newId) /\ h.Ns N mN /\ mN "__init__"=none /\ OwnTail h bmB bm:=by
  unfold PySem.W.excIn at q
  split at q
  · rename_i dd cd sl ho
    split at q
    · rename_i C' bm k0 k1 k2 k3 n k5 hm hs
      simp only [Bool.and_eq_true,beq_iff_eq,Bool.not_eq_true'] at q
      obtain ⟨⟨⟨⟨⟨rfl,rfl⟩,hdel⟩,ht⟩,hok⟩,hni⟩:=q
      obtain ⟨nm,bs,mro,ns,qn,hd,sn,sub,ab,col,del⟩:=cd
      dsimp only at hm hdel hok hni
      subst hm hdel
      have hsl:sl=#[k0,k1,k2,k3,some (.builtin n),k5]:=by
        obtain ⟨l⟩:=sl
        simp only at hs
        rw [hs]
      subst hsl
      exact ⟨_,dd,_,_,bm,ns,nm,qn,bs,hd,sn,sub,ab,col,k0,k1,k2,k3,k5,_,ho,rfl,X _ _ ho,.of_isNs (PySem.W.isNs_of_in X hok),PySem.W.nsMap_none_of_in X hok hni,PySem.W.tail_of_in X ht⟩
    · cases q
  · cases q
section
variable {X:Cx} {Z:ZK} {x:Str} {C:Addr} {bmB:List Value} {B newId initId:String} {e₀:Expr} {rest:List Expr} {ta:TA} {np cpos pos:Pos}
end
noncomputable def Under (K:PySem.W.Frag) (c D:Addr):Prop:=(∃ bmB newId,PySem.W.excIn K c bmB newId=true) /\ ∃ oc dd cd sl,K.lookup c=some ⟨oc,dd,.cls cd,sl⟩ /\ cd.mro.contains (.ref D)=true
noncomputable abbrev tryCx (X:Cx) (pins:List (Addr × Obj)) (xe:Value->Shared->Prop):Cx:={ X with pn:=X.pn ++ pins,xe:=xe }
noncomputable abbrev sutCx (X:Cx) (pins:List (Addr × Obj)) (a:Addr):Cx:={ X with A:=X.A.mark (some (.ref a)),calm:=false,pn:=X.pn ++ pins,xe:=fun _ _=>False }
section
variable {X:Cx} {pins:List (Addr × Obj)} {σ:St} {H:Hp} {s:Shared} {xe:Value->Shared->Prop} {a:Addr}
theorem Inv.toSuite (I:Inv (tryCx X pins xe) [] σ H s):Inv (sutCx X pins a) [] σ H s :=
  ⟨⟨I.ok.mod,I.ok.kind,I.ok.glob,I.ok.blt,I.ok.above,I.ok.inj,I.ok.has,I.ok.cab,fun z=>absurd z (by simp),I.ok.frames,I.ok.stk,I.ok.exf,I.ok.bs,I.ok.bsz,I.ok.noex,I.ok.exfs,I.ok.funs,I.ok.frf⟩,
    I.os,I.bare,I.base,I.loc,I.cell,I.free,I.freeC,I.pin,I.hok,I.len⟩
end
section
variable {X:Cx} {Z:ZK} {x n:Str} {D:Addr} {bmB:List Value} {newId:String} {body suite:List Stmt} {b₀:Stmt} {tb:ZK->TS} {ts:TS} {np hpos pos:Pos} {j:Nat}
theorem Fly.toSuite {pins:List (Addr × Obj)} {H:Hp} {h:Heap} {a:Addr} {C:Value} {T:Option Addr} {xe:Value->Shared->Prop} (F:Fly (tryCx X pins xe) [] H h a C T):Fly (sutCx X pins a) [] H h a C T:=⟨F.fl,F.ow⟩
theorem caught {pins:List (Addr × Obj)} {σ:St} {H:Hp} {s:Shared} {a c:Addr} {t:Addr} {xe E:Value->Shared->Prop} {nm:Option Str} {Q:Flow->Shared->Prop} (I:Inv (tryCx X pins xe) [] σ H s) (F:Fly (tryCx X pins xe) [] H s.heap a (.ref c) (some t))
    (hg:Gl X x) (hm:X.mg x=some (.ref D)) (hx:PySem.W.excIn X.K D bmB newId=true) (hbB:bmB.contains (.type "BaseException")=true) (hu:Under X.K c D)
    (hd:(x == ("__debug__":Str))=false)
    (h : codeAny (model X.prog X.w) (X.A.mark (some (.ref a))) (.handlers (.ref a) [.ExceptHandler none nm (b₀ :: suite) hpos] X.env) (fun r s₂ => match r with
          | .ok f=>(match nm with
            | none=>Q f s₂
            | some n=>wpAny (model X.prog X.w) X.A (do bindName X.env n .none; unbindBehindTheSuite X.env n hpos) (fun _ s₃=>Q f s₃) E s₂)
          | .error x=>cameBackBy (model X.prog X.w) X.A X.env E x s₂) s) :
    wpAny (model X.prog X.w) X.A (handleBy (.ref a) X.env [.ExceptHandler (some (.Name x np)) nm (b₀ :: suite) hpos]) Q E s:=by
  refine wpAny_handleBy_cons (codeAny_handlers_test (ld_glob (X:=sutCx X pins a) I.toSuite hg hm ?_ hd)) (by intro q; cases q)
  obtain ⟨oc,dd,cd,sl,bm,N,nm',q,bs,hdct,sn,sub,ab,col,k0,k1,k2,k3,k5,mN,hl1,hm1,hC,_,_,T1⟩:=exc_obj I.kIn hx
  obtain ⟨⟨bmB',newId',hx'⟩,oc2,dd2,cd2,sl2,hl2,hmro⟩:=hu
  obtain ⟨oc',dd',cd',sl',bm',N',nm2,q',bs',hdct',sn',sub',ab',col',k0',k1',k2',k3',k5',mN',hl3,hm3,hC',_,_,_⟩:=exc_obj I.kIn hx'
  rw [hl2] at hl3
  cases hl3
  rw [hm3] at hmro
  obtain ⟨oe,vs,a0,he,hc,_⟩:=F.fl
  obtain ⟨hh,gg,dr,tk,os⟩:=s
  exact excMatches_own hC' hC he hc (T1.hasType hbB) hmro h
end
end L2
set_option Elab.async false
set_option linter.all false
set_option maxRecDepth 100000
namespace L2
open PySem PySem.Spec PyProof.Rows
noncomputable def Its (x:Str):It:=⟨fun i _=>i < x.length,fun i H v H'=>H'=H /\ ∃ c,x.cps.toList[i]?=some c /\ v=.str ⟨#[c]⟩,fun i _=>x.length<=i⟩
theorem turn_ascii {P:Program} {w:World} {K:PySem.W.Frag} {tg:Expr} (it:Addr) (x:Str) (t:Tok):Turn P w K tg (Its x) [it] it (fun i h=>h.IsStrIter it "str_ascii_iterator" x t i) where
  mem:=by simp
  obj:=fun i h st b hb=>by
    have e:b=it:=by simpa using hb
    subst e
    obtain ⟨o,e,c,d⟩:=st
    exact ⟨o,e,fun v z=>by rw [d] at z; cases z⟩
  keep:=fun i h h' st k=>let ⟨o,e,r⟩:=st; ⟨o,k it (by simp) o e,r⟩
  item:=by
    intro X hP hw hK hc i pins s σ H E I hf st hg
    subst hP hw hK
    obtain ⟨f0,f1,f2,f3,f4,f5⟩:=hf it (by simp)
    have hg':i < x.cps.size:=hg
    refine wpAny_pyNext_ascii_item st (c:=x.cps[i]) (by simp [hg']) fun h' st' sb=>?_
    have I1:Inv X pins σ H { s with heap:=h',toks:=s.toks + 1 }:=I.turned (fun b o hb e=>(sb.2 b hb).trans e) f0 f1 f3 f4 f5
    obtain ⟨o,e,c,d⟩:=id st'
    exact ⟨_,rfl,go_of (s:={ s with heap:=h',toks:=s.toks + 1 }) e c d (by decide) ⟨.str ⟨#[x.cps[i]]⟩,H,I1,⟨_,rfl⟩,⟨rfl,x.cps[i],by simp [hg'],rfl⟩,st',fun b hb=>(hf b hb).1⟩⟩
  done:=by
    intro X hP hw hK hc i pins s σ H E I hf st hg
    subst hP hw hK
    obtain ⟨f0,f1,f2,f3,f4,f5⟩:=hf it (by simp)
    have hg':x.cps.size<=i:=hg
    exact wpAny_pyNext_ascii_end (I.ok.hd hc) st (by simp [hg']) fun h' eb=>⟨rfl,I.turned (t':=s.toks) (fun b o hb e=>eb b o hb e) f0 f1 f3 f4 f5⟩
  self:=fun _ _ _ _ _ st h=>wpAny_pyIter_striter_ascii st h
theorem turn_wide {P:Program} {w:World} {K:PySem.W.Frag} {tg:Expr} (it:Addr) (x:Str) (t:Tok):Turn P w K tg (Its x) [it] it (fun i h=>h.IsStrIter it "str_iterator" x t i) where
  mem:=by simp
  obj:=fun i h st b hb=>by
    have e:b=it:=by simpa using hb
    subst e
    obtain ⟨o,e,c,d⟩:=st
    exact ⟨o,e,fun v z=>by rw [d] at z; cases z⟩
  keep:=fun i h h' st k=>let ⟨o,e,r⟩:=st; ⟨o,k it (by simp) o e,r⟩
  item:=by
    intro X hP hw hK hc i pins s σ H E I hf st hg
    subst hP hw hK
    obtain ⟨f0,f1,f2,f3,f4,f5⟩:=hf it (by simp)
    have hg':i < x.cps.size:=hg
    refine wpAny_pyNext_wide_item st (c:=x.cps[i]) (by simp [hg']) fun h' st' sb=>?_
    have I1:Inv X pins σ H { s with heap:=h',toks:=s.toks + 1 }:=I.turned (fun b o hb e=>(sb.2 b hb).trans e) f0 f1 f3 f4 f5
    obtain ⟨o,e,c,d⟩:=id st'
    exact ⟨_,rfl,go_of (s:={ s with heap:=h',toks:=s.toks + 1 }) e c d (by decide) ⟨.str ⟨#[x.cps[i]]⟩,H,I1,⟨_,rfl⟩,⟨rfl,x.cps[i],by simp [hg'],rfl⟩,st',fun b hb=>(hf b hb).1⟩⟩
  done:=by
    intro X hP hw hK hc i pins s σ H E I hf st hg
    subst hP hw hK
    obtain ⟨f0,f1,f2,f3,f4,f5⟩:=hf it (by simp)
    have hg':x.cps.size<=i:=hg
    exact wpAny_pyNext_wide_end (I.ok.hd hc) st (by simp [hg']) fun h' eb=>⟨rfl,I.turned (t':=s.toks) (fun b o hb e=>eb b o hb e) f0 f1 f3 f4 f5⟩
  self:=fun _ _ _ _ _ st h=>wpAny_pyIter_striter_wide st h
section
variable {X:Cx} {tg:Expr}
end
end L2
set_option Elab.async false
set_option linter.all false
set_option maxRecDepth 100000
namespace L2
open PySem PySem.Spec PyProof.Rows
noncomputable def PSsT (X:Cx) (st:List Stmt) (t:TS):Prop :=
  ∀ (pins:List (Addr × Obj)) (s:Shared) (σ:St) (H:Hp) (D:Ends),Inv X pins σ H s->0 < s.toks->t D σ H->wpAny (model X.prog X.w) X.A (execs st X.env) (SP X pins D) X.xe s
section
variable {X:Cx} {e o:Expr} {t to:TE} {st:Stmt} {rest:List Stmt} {tS u:TS} {apos cpos pos p1 p2:Pos} {c d:Str} {k1 k2:Nat}
end
theorem cellsFrom_none:∀ {names:List (Str × NameKind)} {n:Nat},(∀ y ∈ names,y.2 ≠ .cell)->cellsFrom n names []=[]
  | [],_,_=>rfl
  | (x,k) :: r,n,h=>by
    have hk:k ≠ .cell:=h (x,k) (List.mem_cons_self ..)
    have ih:=cellsFrom_none (names:=r) (n:=n) fun y hy=>h y (List.mem_cons_of_mem _ hy)
    unfold cellsFrom
    simp only [beq_iff_eq,hk,if_false]
    exact ih
theorem bindL_rev {kindOf:Str->Option NameKind} {x:Str}:∀ {binds:List (Str × Value)} {m:Str->Option Value},(∀ y ∈ binds,kindOf y.1=some .local)->bindL kindOf binds m x=(binds.reverse.lookup x).or (m x)
  | [],_,_=>by simp [bindL]
  | (n,v) :: r,m,h=>by
    unfold bindL
    rw [bindL_rev fun y hy=>h y (List.mem_cons_of_mem _ hy),if_pos (h (n,v) (List.mem_cons_self ..)),List.reverse_cons,List.lookup_append,Option.or_assoc]
    congr 1
    by_cases e:x=n
    · subst e; simp [List.lookup]
    · have:(x == n)=false:=by simpa using e
      simp [List.lookup,this,e]
theorem fn_ofT {CX:CXT} {P:Program} {w:World} {K:PySem.W.Frag} {mg:Str->Option Value} {base:Heap} {k:Nat} {f:Addr} {name qual:Str} {params:Arguments} {body:List Stmt} {scope:Scope} {dV kV doc pm cdv ct oc:Value} {an od:Option Addr}
    {osl:Array (Option Value)} {N ps:List Str} {sp:Sp} (lk:K.lookup f=some ⟨oc,od,.func (PySem.W.fnOf name qual params body scope dV kV doc pm an cdv ct),osl⟩) (hcd:PySem.W.codeIn K cdv qual=true) (S:FnScope N ps scope)
    (nocell:∀ y ∈ scope.names,y.2 ≠ .cell) (hps:ps ≠ [])
    (len:∀ vs H Q E,sp vs H Q E->vs.length=ps.length)
    (hbody:∀ (A:Around) (outer:List Env) (s:Shared) (H:Hp) (vs:List V) (Q:VK) (E:XK),Room k (A.deeper (envOfC qual scope s.heap.objs.size f cdv))->sp vs H Q E ->
      ∃ t,PSsT (cxOf CX P w K mg base N qual scope f cdv A outer s H E) body t /\ t { nx:=fun _ H'=>Q .non H',rt:=Q } (start N vs) H) :
    FnOk P w K mg base CX (k + 1) f (PySem.W.fnOf name qual params body scope dV kV doc pm an cdv ct) ps sp:=by
  refine ⟨len,fun A outer s H args us vs Q E hr e0 hb r hsp=>?_⟩
  have hl:=len _ _ _ _ hsp
  have KX:K.In s.heap:=e0.mod.kin.keeps fun b o e=>(e0.bs b o e).1
  have lim:s.heap.NoLimit:=e0.mod.nolimit.keeps fun b o e=>(e0.bs b o e).1
  have hkind:∀ y ∈ ps.zip us,scope.names.lookup y.1=some .local:=fun ⟨n,v⟩ hy=>by
    rcases S.par n (List.of_mem_zip hy).1 with q | q
    · exact q
    · exact absurd rfl (nocell _ (PySem.mem_of_lookup q))
  have hkind':∀ y ∈ ps.zip us,scope.names.lookup y.1=some .local \/ (scope.names.lookup y.1=some .cell /\ ((cellsFrom (s.heap.objs.size + 1) scope.names []).lookup y.1).isSome=true):=fun y hy=>.inl (hkind y hy)
  refine codeAny_call_function hr.depth (KX _ _ lk) rfl S.co S.gen rfl (PySem.W.codeRec_of KX hcd) (hb _ _ _ _ ?_)
  refine wpAny_newFunctionEnv nocell hkind (fun h1 hns hsb=>?_) S.kind
  have zl:(ps.zip us).length=ps.length:=by
    rw [List.length_zip]
    have:=r.length
    omega
  have h0:0 < ({ s with heap:=h1,toks:=s.toks + (ps.zip us).length }:Shared).toks:=by
    have z2:0 < ps.length:=List.length_pos_iff.mpr hps
    show 0 < s.toks + (ps.zip us).length
    omega
  have hcs:cellsFrom (s.heap.objs.size + 1) scope.names []=[]:=cellsFrom_none nocell
  have ef:(bindL (envOfC qual scope s.heap.objs.size f cdv).kindOf (ps.zip us) fun _=>none)=fun x=>(ps.zip us).reverse.lookup x:=by
    funext x
    rw [bindL_rev (fun y hy=>hkind y hy)]
    cases (ps.zip us).reverse.lookup x <;> rfl
  have x:InCallC s s.heap.objs.size (bindL (envOfC qual scope s.heap.objs.size f cdv).kindOf (ps.zip us) fun _=>none) (cellsFrom (s.heap.objs.size + 1) scope.names []) (bindC (envOfC qual scope s.heap.objs.size f cdv).kindOf (ps.zip us) fun _=>none)
      { s with heap:=h1,toks:=s.toks + (ps.zip us).length }:=by
    rw [hcs,ef]
    refine ⟨⟨⟨h1,_,rfl⟩,hns,fun b o e=>?_,Nat.le_refl _⟩,fun n c q=>by simp at q,List.Pairwise.nil,fun n c q=>by simp at q⟩
    exact (hsb.2 b (Nat.ne_of_lt (Heap.lt_size e))).trans (Heap.get?_push_of_some _ e)
  have eE:newEnv scope s.heap.objs.size mainGlobals [] (qual ++ ".<locals>.") (some f) cdv none builtinsNs=envOfC qual scope s.heap.objs.size f cdv:=by
    unfold envOfC newEnv
    rw [hcs]
  generalize hfd:PySem.W.fnOf name qual params body scope dV kV doc pm an cdv ct=fd
  have eF:newEnv fd.scope s.heap.objs.size fd.globals fd.closure (fd.qualname ++ ".<locals>.") (some f) fd.code none fd.builtins=envOfC qual scope s.heap.objs.size f cdv:=by
    rw [<- hfd]
    exact eE
  rw [eF]
  generalize hs1:({ s with heap:=h1,toks:=s.toks + (ps.zip us).length }:Shared)=s1 at h0 x ⊢
  refine ⟨lim.keeps x.toInCall.keep,codeAny_func ?_⟩
  obtain ⟨t,ht,hq⟩:=hbody A outer s H vs Q E (hr.deeper _) hsp
  have I:Inv (cxOf CX P w K mg base N qual scope f cdv A outer s H E) [] (start N vs) H s1:=inv_start S hr.hd e0 hl r x
  refine wpAny_mono (ht [] s1 (start N vs) H _ I h0 hq) (fun fl s' hs=>?_) fun e s' hs=>hs
  have fin:∀ {σ':St} {H':Hp} {v:V} {u:Value},Inv (cxOf CX P w K mg base N qual scope f cdv A outer s H E) [] σ' H' s'->RelV v u->Q v H'->CE outer P w H s Q u s' :=
    fun {σ' H' v u} J rv q=>⟨v,H',J.os,J.bare,J.base,J.hok,rv,q⟩
  cases fl with
  | ret u =>
    obtain ⟨v,σ',H',J,rv,q⟩:=hs
    exact fin J rv q
  | next =>
    obtain ⟨σ',H',J,q⟩:=hs
    exact fin (v:=V.non) (u:=Value.none) J rfl q
  | brk =>
    obtain ⟨_,_,_,q⟩:=hs
    exact False.elim q
  | cont =>
    obtain ⟨_,_,_,q⟩:=hs
    exact False.elim q
end L2
set_option Elab.async false
set_option linter.all false
set_option maxRecDepth 100000
namespace L2
open PySem PySem.Spec PyProof.Rows
structure Walk (J:It) (xs:List V) (Pv:Hp->Prop):Prop where
  stop:∀ H,Pv H->J.stop xs.length H
  go:∀ i H,i < xs.length->Pv H->J.go i H
  yld:∀ i H x H',i < xs.length->Pv H->J.yld i H x H'->H'=H /\ xs[i]?=some x
section
variable {P:Program} {w:World} {K:PySem.W.Frag} {mg:Str->Option Value} {base:Heap}
theorem Fun.okX {x qual:Str} {st:Stmt} {f:Addr} {fd:FuncData} {N ps:List Str} {k:Nat} {sp:Sp} (F:Fun K x qual st f fd) (S:FnScope N ps (defScope st)) (len:∀ vs H Q E,sp vs H Q E->vs.length=ps.length)
    (hbody:∀ (cdv:Value) (A:Around) (outer:List Env) (s:Shared) (H:Hp) (vs:List V) (Q:VK) (E:XK),Room k (A.deeper (envOfC qual (defScope st) s.heap.objs.size f cdv))->sp vs H Q E ->
      ∃ t,PSs (cxOf (CXs P w) P w K mg base N qual (defScope st) f cdv A outer s H E) (defBody st) t /\ t { nx:=fun _ H'=>Q .non H',rt:=Q } (start N vs) H):FnOk P w K mg base (CXs P w) (k + 1) f fd ps sp:=by
  obtain ⟨oc,od,kV,doc,pm,an,cdv,ct,osl,rfl,lk,hcd⟩:=F.ex
  exact fn_of lk hcd S len fun A outer s H vs Q E hr hsp=>hbody cdv A outer s H vs Q E hr hsp
theorem Fun.okT {x qual:Str} {st:Stmt} {f:Addr} {fd:FuncData} {N ps:List Str} {k:Nat} {sp:Sp} (F:Fun K x qual st f fd) (S:FnScope N ps (defScope st)) (nocell:∀ y ∈ (defScope st).names,y.2 ≠ .cell) (hps:ps ≠ []) (len:∀ vs H Q E,sp vs H Q E->vs.length=ps.length)
    (hbody:∀ (cdv:Value) (A:Around) (outer:List Env) (s:Shared) (H:Hp) (vs:List V) (Q:VK) (E:XK),Room k (A.deeper (envOfC qual (defScope st) s.heap.objs.size f cdv))->sp vs H Q E ->
      ∃ t,PSsT (cxOf (CXs P w) P w K mg base N qual (defScope st) f cdv A outer s H E) (defBody st) t /\ t { nx:=fun _ H'=>Q .non H',rt:=Q } (start N vs) H):FnOk P w K mg base (CXs P w) (k + 1) f fd ps sp:=by
  obtain ⟨oc,od,kV,doc,pm,an,cdv,ct,osl,rfl,lk,hcd⟩:=F.ex
  exact fn_ofT lk hcd S nocell hps len fun A outer s H vs Q E hr hsp=>hbody cdv A outer s H vs Q E hr hsp
end
end L2
set_option Elab.async false
set_option linter.all false
set_option maxRecDepth 100000
namespace L2
open PySem PySem.Spec PyProof.Rows
noncomputable abbrev TJ:=St->Hp->Str->(Str->Hp->Prop)->Prop
section
variable {X:Cx} {e v₁ v₂:Expr} {es:List Expr} {te:TE} {t:TJ} {c:Str} {k:Nat} {pos p:Pos}
noncomputable def rNil (K:PySem.W.Frag) (neg:Bool):R2:=fun x y H Q=>∃ p q xs,x=.ref p /\ y=.ref q /\ SqL K H p xs /\ SqL K H q [] /\ Q (.bl (if neg then !xs.isEmpty else xs.isEmpty)) H
theorem op_eqNil (hu:X.A.units < cLine):OpR X (compareOp .Eq) (rNil X.K false):=by
  intro pins s σ H x y v u Q I rx ry h
  obtain ⟨p,q,xs,rfl,rfl,h1,h2,hq⟩:=h
  cases rx; cases ry
  obtain ⟨its,r,pl,hz⟩:=I.list h1
  obtain ⟨its2,r2,pl2,_⟩:=I.list h2
  cases r2
  cases xs with
  | nil =>
    cases r
    exact SeqAt.eq_listAt (e:=fun _=>true) pl.isList pl2.isList rfl hu (fun j h1 _=>absurd h1 (by simp)) ⟨.bl true,H,I,rfl,hq⟩
  | cons a t =>
    cases r with
    | cons r1 r2=>exact SeqAt.eq_list_lengthsAt pl.isList pl2.isList (by simp) hu ⟨.bl false,H,I,rfl,hq⟩
theorem op_neNil (hu:X.A.units < cLine):OpR X (compareOp .NotEq) (rNil X.K true):=by
  intro pins s σ H x y v u Q I rx ry h
  obtain ⟨p,q,xs,rfl,rfl,h1,h2,hq⟩:=h
  cases rx; cases ry
  obtain ⟨its,r,pl,hz⟩:=I.list h1
  obtain ⟨its2,r2,pl2,_⟩:=I.list h2
  cases r2
  cases xs with
  | nil =>
    cases r
    exact SeqAt.RcNeAt.lists (e:=fun _=>true) pl.isList pl2.isList rfl hu (fun j h1 _=>absurd h1 (by simp)) _ _ _ _ ⟨.bl false,H,I,rfl,hq⟩
  | cons a t =>
    cases r with
    | cons r1 r2=>exact SeqAt.RcNeAt.lists_lengths pl.isList pl2.isList (by simp) hu _ _ _ _ ⟨.bl true,H,I,rfl,hq⟩
end
end L2
set_option Elab.async false
set_option linter.all false
set_option maxRecDepth 100000
namespace L2
open PySem PySem.Spec PyProof.Rows
noncomputable def SIt (h:Heap) (i a:Addr) (k:Nat) (xs:Array Value):Prop:=(h.IsListIter i a k /\ h.IsList a xs) \/ (h.IsTupleIter i a k /\ h.IsTuple a xs)
theorem SIt.move {h h':Heap} {i a:Addr} {k:Nat} {xs:Array Value} (x:SIt h i a k xs) (hi:∀ o,h.get? i=some o->h'.get? i=some o) (ha:∀ o,h.get? a=some o->h'.get? a=some o):SIt h' i a k xs:=by
  rcases x with ⟨x,y⟩ | ⟨x,y⟩
  · exact .inl ⟨x.at hi,y.at ha⟩
  · exact .inr ⟨x.at hi,y.at ha⟩
theorem SIt.there {h:Heap} {i a:Addr} {k:Nat} {xs:Array Value} (x:SIt h i a k xs):∃ o,h.get? i=some o /\ ∀ v,o.data ≠ .cell v:=by
  rcases x with ⟨⟨o,e,_,d⟩,_⟩ | ⟨⟨o,e,_,d⟩,_⟩ <;> exact ⟨o,e,fun v z=>by rw [d] at z; cases z⟩
theorem SIt.src {h:Heap} {i a:Addr} {k:Nat} {xs:Array Value} (x:SIt h i a k xs):∃ o n,h.get? a=some o /\ o.data=.seq xs n:=by
  rcases x with ⟨_,o,e,_,n,d⟩ | ⟨_,o,e,_,n,d⟩ <;> exact ⟨o,n,e,d⟩
section
variable {prog:Program} {w:World} {A:Around} {E:Value->Shared->Prop} {s:Shared}
theorem SIt.ext {h h':Heap} {i a b:Addr} {k:Nat} {xs:Array Value} (x:SIt h i a k xs) (hs:Heap.ExtBut b h h') (h1:i ≠ b) (h2:a ≠ b):SIt h' i a k xs:=x.move (fun o e=>hs i o h1 e) (fun o e=>hs a o h2 e)
end
end L2
set_option Elab.async false
set_option linter.all false
set_option maxRecDepth 100000
namespace L2
open PySem PySem.Spec PyProof.Rows
noncomputable def ItR (h:Heap) (i a:Addr) (k:Nat) (b:Bool):Prop:=if b=true then h.IsListIter i a k else h.IsTupleIter i a k
theorem ItR.at {h h':Heap} {i a:Addr} {k:Nat} {b:Bool} (x:ItR h i a k b) (hi:∀ o,h.get? i=some o->h'.get? i=some o):ItR h' i a k b:=by
  cases b with
  | true=>exact Heap.IsListIter.at (show h.IsListIter i a k from x) hi
  | false=>exact Heap.IsTupleIter.at (show h.IsTupleIter i a k from x) hi
theorem ItR.rec {h:Heap} {i a:Addr} {k:Nat} {b:Bool} (x:ItR h i a k b):∃ o vs,h.get? i=some o /\ o.data=.fields vs:=by
  cases b with
  | true=>obtain ⟨o,e,_,d⟩:=(show h.IsListIter i a k from x); exact ⟨o,_,e,d⟩
  | false=>obtain ⟨o,e,_,d⟩:=(show h.IsTupleIter i a k from x); exact ⟨o,_,e,d⟩
section
variable {X:Cx} {pins:List (Addr × Obj)} {σ:St} {H:Hp} {s:Shared}
end
end L2
set_option Elab.async false
set_option linter.all false
set_option maxRecDepth 100000
namespace L2
open PySem PySem.Spec PyProof.Rows
section
variable {X:Cx} {pins:List (Addr × Obj)} {σ:St} {H:Hp} {s:Shared} {h':Heap}
end
end L2
set_option Elab.async false
set_option linter.all false
set_option maxRecDepth 100000
set_option maxHeartbeats 4000000
namespace L2
open PySem PySem.Spec PyProof.Rows
section
variable {prog:Program} {w:World} {A:Around} {E:Value->Shared->Prop} {s:Shared}
end
section
variable {X:Cx}
end
end L2
set_option Elab.async false
set_option linter.all false
set_option maxRecDepth 100000
namespace L2
open PySem PySem.Spec PyProof.Rows
section
variable {X:Cx} {Z:ZK} {tg iter:Expr} {body:List Stmt} {wi:TI} {g:TG} {tb:TS} {pos:Pos}
theorem passes_XE (ok:XOk X):PassesOwn (model X.prog X.w) X.A X.env (XE X Z):=by
  rintro e s' ⟨a,C,T,σ',H',rfl,I,F,z⟩
  refine I.note ok F I.ok.frames rfl fun h1 t I1 F1=>?_
  exact I1.cameBack F1 fun h2 I2 F2=>⟨a,C,some t,σ',H',rfl,I2,F2,z⟩
theorem Thr.wished (th:Thr X Z):Thr (X.wish (XE X Z)) Z:=by
  refine ⟨⟨th.top,th.ex⟩,?_⟩
  rintro e s' ⟨a,C,T,σ',H',rfl,I,F,z⟩
  exact ⟨a,C,T,σ',H',rfl,I.unwish,⟨F.fl,F.ow⟩,z⟩
theorem ps_forX (th:Thr X Z) (hc:X.calm=true) (hi:PI (X.wish (XE X Z)) tg iter wi) (hg:PG (X.wish (XE X Z)) tg g) (hb:PSs (X.wish (XE X Z)) body tb)
    (hs:∀ x,foldedSetIterable iter X.env x=pure x:=by intro _; rfl):PS X (.For tg iter body [] pos) (tFor wi g tb):=by
  intro pins s σ H D I h
  refine wpAny_mono (ps_for (X:=X.wish (XE X Z)) (passes_XE th.toXOk) hc hi hg hb hs pins s σ H D (I.wish _) h) (fun f s' q=>q.unwish) fun e s' x=>th.thr e s' x
end
end L2
set_option Elab.async false
set_option linter.all false
set_option maxRecDepth 100000
namespace L2
open PySem PySem.Spec PyProof.Rows
section
variable {X:Cx} {scope:Scope} {NC:List Str} {cap:List (Option Nat)} {elt tg iter:Expr} {ifs:List Expr} {pos pos' spos:Pos} {Z:ZK} {wi:TI} {g:TG} {tf:ZK->TT} {te:ZK->TE} {i:Nat} {x:Str}
theorem ps_setC (hc:X.calm=true) (th:Thr X Z) (hi:PI X tg iter wi) (cok:compOk X.env.scope scope X.N NC cap=true)
    (hg:∀ C s H fp pn xe,PG (compCx X NC scope C s H fp pn xe) tg g)
    (hf:∀ C s H fp pn xe Zc,Thr (compCx X NC scope C s H fp pn xe) Zc->PF (compCx X NC scope C s H fp pn xe) ifs (tf Zc))
    (hb:∀ C s H fp pn xe Zc,Thr (compCx X NC scope C s H fp pn xe) Zc->PE (compCx X NC scope C s H fp pn xe) elt (te Zc))
    (hs:∀ x,foldedSetIterable iter X.env x=pure x) (hN:X.N.Nodup) (hx:X.N[i]?=some x) (hlo:X.env.scope.names.lookup x=some .local)
    (hsw:swapsWith (.ListComp elt [⟨tg,iter,ifs,0⟩] scope pos) (some (.Name x pos')) spos.line X.env=pure true) :
    PS X (.Assign [.Name x pos'] (.ListComp elt [⟨tg,iter,ifs,0⟩] scope pos) spos) (tAsg (tComp Z cap wi g tf te) (gName i)):=by
  intro pins s σ H D I h
  obtain ⟨c1,c2,c3,c4,c5,c6,c7⟩:=compOk_parts cok
  rw [exec_Assign_Name_used _ _ _ _ hsw]
  refine wpAny_bind (wpAny_standAt (wpAny_bind ?_))
  show wpAny _ X.A (do let _ <- comprehension (.ListComp elt [⟨tg,iter,ifs,0⟩] scope pos) scope X.env _ (newList []) false (eval iter X.env) (some (assign (.Name x pos') X.env))) _ _ s
  refine wpAny_bind (wpAny_mono (wpAny_comprehension_free (use:=some (assign (.Name x pos') X.env)) (Q:=fun _ s'=>SP X pins D .next s') rfl hs (closure_of fun y hy e=>I.ok.has y.1 (.inl (c4 y hy e))) c1 c3
    (thn (hi pins s σ H _ I h) fun xv s₁ h₁=>thn h₁ fun itv s₂ h₂=>?_)) (fun _ s' hq=>wpAny_pure (wpAny_pure hq)) fun _ _ e=>e)
  obtain ⟨it,fp,tn,J,H2,rfl,I2,T,st2,f2,W,⟨m0,w0⟩,turn⟩:=h₂
  refine comp_core hc th I2 T st2 f2 cok (fun C pn xe=>hg C s₂ H2 fp pn xe) (fun C pn xe t=>hf C s₂ H2 fp pn xe _ t) (fun C pn xe t=>hb C s₂ H2 fp pn xe _ t) W m0 w0 turn ?_
  rintro C D' s' H' ys us n ⟨hlen,q⟩ rv e hn hnC rfl rfl ⟨m,ns⟩ lv
  have I':Inv X pins σ H' s':=lv s'.heap (Heap.SameBut.refl _ _)
  have I3:Inv X pins σ (upd H' s₂.heap.objs.size (.lst ys)) s':=I'.track (o:=.lst ys) hn (Heap.get?_none_of_le I2.sz) (Nat.ne_of_gt I2.lt) (fun y c ec z=>by
    obtain ⟨v,q⟩:=I2.cell y c ec
    exact absurd q.lt (by rw [z]; exact Nat.lt_irrefl _)) (fun p hp z=>absurd (Heap.lt_size (I2.pin p hp).1) (by rw [z]; exact Nat.lt_irrefl _)) ⟨hlen,us,n,rv,e⟩
  have fC:FpOk X pins (upd H' s₂.heap.objs.size (.lst ys)) (s₂.heap.objs.size + 1):=I2.fpOk (Nat.le_succ _) (by rw [upd_ne (Nat.succ_ne_self _)]; exact hnC)
  show wpAny _ X.A (assign (.Name x pos') X.env (.ref s₂.heap.objs.size)) _ _ _
  refine wpAny_assign_Name (store_ok2 I3 hN hx (.inl hlo) (v:=.ref s₂.heap.objs.size) rfl (fun s'' I4 ⟨a,sb,ha⟩=>?_) (.inr hlo))
  have nC:s₂.heap.objs.size + 1 ≠ a:=by
    rcases ha with rfl | ha
    · exact fC.2.1
    · exact fun z=>fC.2.2.2.2.1 x a ha z.symm
  refine ⟨m,ns.sameBut sb nC,fun h' sb'=>⟨_,_,I4.turned (t':=s''.toks) (fun b o hb e=>(sb'.2 b hb).trans e) fC.1 fC.2.1 fC.2.2.2.1 fC.2.2.2.2.1 fC.2.2.2.2.2,q _ hn⟩⟩
end
end L2
set_option Elab.async false
set_option linter.all false
set_option maxRecDepth 100000
namespace L2
open PySem PySem.Spec PyProof.Rows
section
variable {X:Cx} {tg:Expr}
end
end L2
set_option Elab.async false
set_option linter.all false
set_option maxRecDepth 100000
namespace L2
open PySem PySem.Spec PyProof.Rows
section
variable {prog:Program} {w:World} {A:Around} {s:Shared} {R:Result->Shared->Prop}
variable {I:Addr} {fp wr:List Addr} {G:Array GenState->Array GenState->Prop} {n:Nat} {P:Nat->Value->Prop} {St:Nat->Shared->Prop}
end
section
variable {prog:Program} {w:World} {A:Around} {E:Value->Shared->Prop} {s:Shared}
variable {X:Cx}
end
end L2
set_option Elab.async false
set_option linter.all false
set_option maxRecDepth 100000
namespace L2
open PySem PySem.Spec PyProof.Rows
end L2
set_option Elab.async false
set_option linter.all false
set_option maxRecDepth 100000
namespace L2
open PySem PySem.Spec PyProof.Rows
noncomputable def IsRvt (h:Heap) (a l:Addr) (i:Int):Prop:=∃ o,h.get? a=some o /\ o.cls=.type "reversed" /\ o.data=.fields #[.ref l,rawInt i]
theorem IsRvt.typeIs {s:Shared} {a l:Addr} {i:Int} (x:IsRvt s.heap a l i):s.TypeIs (.ref a) "reversed":=let ⟨o,ho,hc,_⟩:=x; ⟨o,ho,hc⟩
theorem IsRvt.at {h h':Heap} {a l:Addr} {i:Int} (x:IsRvt h a l i) (e:∀ o,h.get? a=some o->h'.get? a=some o):IsRvt h' a l i:=let ⟨o,ho,r⟩:=x; ⟨o,e _ ho,r⟩
section
variable {prog:Program} {w:World} {A:Around} {E:Value->Shared->Prop} {s:Shared}
end
section
variable {X:Cx} {tg:Expr}
end
end L2
set_option Elab.async false
set_option linter.all false
set_option maxRecDepth 100000
namespace L2
open PySem PySem.Spec PyProof.Rows
open HT in
theorem tup_all {prog:Program} {w:World} {A:Around} {E:Value->Shared->Prop} {s:Shared} {t sl:Addr} {items:Array Value} {vl vu:Value} {lo hi:Option Int} {Q:Value->Shared->Prop} (ht:IsTup s.heap t items) (hs:s.heap.IsSliceOf sl vl vu .none) (pl:IsPart vl lo) (pu:IsPart vu hi)
    (h1:sIx items.size 0 lo=0) (h2:sIx items.size items.size hi=items.size) (h:Q (.ref t) s):wpAny (model prog w) A (getItem (.ref t) (.ref sl)) Q E s:=by
  obtain ⟨os,hos,hcs,hds⟩:=id hs
  have hTs:s.TypeIs (.ref sl) "slice":=⟨os,hos,hcs⟩
  unfold getItem
  try with_reducible refine wpAny_holding ?_
  first | refine wpAny_bind (wpAny_pure ?_) | skip
  refine wpAny_bind (wpAny_sequenceKey ht.typeIs (by decide) ?_)
  refine wpAny_bind (wpAny_callSpecial?_slot (name:=Str.ofString "__getitem__") ht.typeIs PyProof.Rows.slot_tuple_getitem (wpAny_call_entry PyProof.Rows.slot_tuple_getitem ht.typeIs entry_tuple_getitem ?_ (args_tuple_getitem _ _)))
  show wpAny _ _ (Builtin.Tuple.tupleItemsOf (.ref t) >>= _) _ _ s
  refine wpAny_bind (tupleItemsOf_ ht ?_)
  refine wpAny_bind (wpAny_typeOf hTs ?_)
  rw [if_pos (by decide)]
  refine wpAny_bind (sliceApplied_gen hs pl pu ?_)
  have hy:(((sIx items.size 0 lo:Nat):Int) == 0 && (1:Int) == 1 && (sIx items.size items.size hi - sIx items.size 0 lo) == items.size)=true:=by rw [h1,h2]; simp
  show wpAny _ _ (if (((sIx items.size 0 lo:Nat):Int) == 0 && (1:Int) == 1 && (sIx items.size items.size hi - sIx items.size 0 lo) == items.size)=true then _ else _) _ _ s
  rw [if_pos hy]
  refine wpAny_bind ?_
  unfold Builtin.Tuple.tupleIsExact
  refine wpAny_bind (wpAny_typeOf ht.typeIs (wpAny_pure ?_))
  rw [if_pos (by decide)]
  refine wpAny_bind (wpAny_rule ?_)
  exact wpAny_pure ⟨_,rfl,wpAny_pure h⟩
noncomputable def rSlW (K:PySem.W.Frag):V->Option Int->Option Int->Hp->VK->Prop:=fun x lo hi H Q=>∃ a xs,x=.ref a /\ SqT K H a xs /\ HT.sIx xs.length 0 lo=0 /\ HT.sIx xs.length xs.length hi=xs.length /\ Q (.ref a) H
theorem sl_tupW {X:Cx}:SlR X (rSlW X.K):=by
  intro pins s σ H x v vl vu lo hi sl Q I rx hs pl pu h
  obtain ⟨a,xs,rfl,hx,w1,w2,q⟩:=h
  cases rx
  obtain ⟨its,r,ht,hz⟩:=I.tuple hx
  have hlen:its.toArray.size=xs.length:=by rw [List.size_toArray]; exact r.length.symm
  exact ⟨"tuple",_,PyProof.Rows.slot_tuple_getitem.lookup,ht.typeIs,tup_all ht hs pl pu (by rw [hlen]; exact w1) (by rw [hlen]; exact w2) ⟨.ref a,H,I,rfl,q⟩⟩
end L2
set_option Elab.async false
set_option linter.all false
set_option maxRecDepth 100000
namespace L2
open PySem PySem.Spec PyProof.Rows
section
variable {prog:Program} {w:World} {A:Around} {E:Value->Shared->Prop} {s:Shared}
end
section
variable {prog:Program} {w:World} {A:Around} {R:Result->Shared->Prop} {I:Addr} {fp wr:List Addr} {G:Array GenState->Array GenState->Prop} {n:Nat} {P:Nat->Value->Prop} {St:Nat->Shared->Prop} {K:Type} [DecidableEq K] {knd:KeyKind prog w K}
end
section
variable {prog:Program} {w:World} {A:Around} {E:Value->Shared->Prop} {s:Shared} {K:Type} [DecidableEq K] {knd:KeyKind prog w K}
end
section
variable {X:Cx}
end
section
variable {prog:Program} {w:World} {A:Around} {E:Value->Shared->Prop} {s:Shared}
theorem draw_list {it t:Addr} {items:Array Value} (hne:t ≠ it):∀ (n i:Nat) (s:Shared) (Q:List Value->Shared->Prop),s.heap.IsListIter it t i->s.heap.IsList t items->i + n<=items.size ->
    (∀ h',h'.IsListIter it t (i + n)->Heap.SameBut it s.heap h'->Q ((items.toList.drop i).take n) { s with heap:=h' })->wpAny (model prog w) A (draw (.ref it) n) Q E s
  | 0,i,s,Q,hit,_,_,hQ=>by
    show wpAny _ _ (pure []) Q E s
    exact wpAny_pure (by simpa using hQ s.heap hit (Heap.SameBut.refl ..))
  | n + 1,i,s,Q,hit,ht,hle,hQ=>by
    have hlt:i < items.size:=by omega
    show wpAny _ _ (pyNext (.ref it) >>= _) Q E s
    refine wpAny_bind (wpAny_pyNext_list_item hit ht (x:=items[i]) (by simp [hlt]) fun h₁ hit₁ hs₁=>?_)
    refine wpAny_bind (wpAny_holding (draw_list hne n (i + 1) _ _ hit₁ (ht.extBut hs₁.extBut hne) (by omega) fun h₂ hit₂ hs₂=>wpAny_pure ?_))
    have hd:items.toList.drop i=items[i] :: items.toList.drop (i + 1):=by simp [List.drop_eq_getElem_cons,hlt]
    have:=hQ h₂ (by rw [show i + (n + 1)=i + 1 + n by omega]; exact hit₂) (hs₁.trans hs₂)
    rw [hd,List.take_succ_cons] at this
    exact this
theorem unpackItems_list {t:Addr} {items:Array Value} {Q:List Value->Shared->Prop} (hh:A.handled=none) (ht:s.heap.IsList t items)
    (hQ:∀ h',Heap.ExtBut s.heap.objs.size s.heap h'->Q items.toList { s with heap:=h' }):wpAny (model prog w) A (unpackItems (.ref t) items.size none) Q E s:=by
  have hlt:t ≠ s.heap.objs.size:=by obtain ⟨o,ho,_⟩:=ht; exact Nat.ne_of_lt (Heap.lt_size ho)
  unfold unpackItems
  refine wpAny_bind ?_
  unfold notIterableAtAll
  refine wpAny_bind (wpAny_specialOf ht.typeIs slot_list_iter.lookup ?_)
  refine wpAny_pure ?_
  simp only [Bool.false_eq_true,if_false]
  refine wpAny_bind (wpAny_holding (wpAny_pyIter_list ht ?_))
  refine wpAny_bind (wpAny_holding (draw_list hlt items.size 0 _ _ ⟨_,Heap.get?_push_size _ rfl,rfl,rfl⟩ (ht.push _) (by omega) fun h₁ hit₁ hs₁=>?_))
  have hall:List.take items.size (List.drop 0 items.toList)=items.toList:=by
    rw [List.drop_zero]; exact List.take_of_length_le (by simp)
  rw [hall]
  rw [if_neg (by simp)]
  have ht₁:h₁.IsList t items:=(ht.push _).extBut hs₁.extBut hlt
  refine wpAny_bind (wpAny_holding (wpAny_pyNext_list_end hh hit₁ ht₁ (by simp) fun h₂ he₂=>?_))
  simp only [Option.isSome_none,Bool.false_eq_true,if_false]
  exact wpAny_pure (hQ h₂ fun b o hb e=>he₂ b o hb (hs₁.extBut b o hb (Heap.get?_push_of_some _ e)))
theorem assign_Tuple_list {env:Env} {elts:List Expr} {x1} {pos:Pos} {t:Addr} {items:Array Value} {Q:Unit->Shared->Prop} (hh:A.handled=none) (ht:s.heap.IsList t items)
    (hn:(assignEach elts env).length=items.size) (hstar:(assignEach elts env).findIdx? (·.1)=none)
    (h:∀ h',Heap.ExtBut s.heap.objs.size s.heap h'->wpAny (model prog w) A (assignInOrder ((assignEach elts env).map (·.2)) items.toList) Q E { s with heap:=h' }) :
    wpAny (model prog w) A (assign (.Tuple elts x1 pos) env (.ref t)) Q E s:=by
  rw [arm_assign_Tuple]
  refine wpAny_bind (wpAny_standAt ?_)
  unfold unpack
  rw [hn,hstar]
  exact wpAny_bind (wpAny_holding (unpackItems_list hh ht h))
end
section
variable {X:Cx} {pos:Pos}
noncomputable def gTL (K:PySem.W.Frag) (n:Nat) (t:TGs):TG:=fun v σ H Q=>∃ a xs,v=.ref a /\ (SqT K H a xs \/ SqL K H a xs) /\ xs.length=n /\ t xs σ H Q
theorem pg_tupL {es:List Expr} {k:Nat} {t:TGs} {n:Nat} (hc:X.calm=true) (h:PGs X es t)
    (hn:(assignEach es X.env).length=n:=by rfl) (hst:(assignEach es X.env).findIdx? (·.1)=none:=by rfl):PG X (.Tuple es k pos) (gTL X.K n t):=by
  intro pins s σ H v u Q I r hw
  obtain ⟨a,xs,e1,hq,hl,hw⟩:=hw
  subst e1
  rcases hq with hq | hq
  · exact pg_tup hc h hn hst pins s σ H _ u Q I r ⟨a,xs,rfl,hq,hl,hw⟩
  cases r
  obtain ⟨its,rv,⟨o,c,e1,e2,e3,e4⟩,hz⟩:=I.list hq
  refine assign_Tuple_list (I.ok.hd hc) (items:=its.toArray) ⟨o,e1,e2,c,e4⟩ (by simp [hn,<- hl,rv.length]) hst fun h' hx=>?_
  have I1:Inv X pins σ H { s with heap:=h' }:=I.kept (t':=s.toks) fun b o e=>hx b o (Nat.ne_of_lt (Heap.lt_size e)) e
  exact h pins _ σ H xs _ Q I1 (by simpa using rv) hw
end
end L2
set_option Elab.async false
set_option linter.all false
set_option maxRecDepth 100000
namespace L2
open PySem PySem.Spec PyProof.Rows
section
variable {X:Cx}
end
section
variable {prog:Program} {w:World} {A:Around} {E:Value->Shared->Prop} {s:Shared}
end
section
variable {X:Cx} {e st:Expr} {te ts:TE} {p2 pos:Pos}
end
section
variable {X:Cx}
noncomputable def rSlS:V->Option Int->Option Int->Hp->VK->Prop:=fun x lo hi H Q=>∃ z,x=.str z /\ z.length<=sizeLine /\ Q (.str (Txt.slice z lo hi)) H
theorem sl_str:SlR X rSlS:=by
  intro pins s σ H x v vl vu lo hi sl Q I rx hs pl pu h
  obtain ⟨z,rfl,hz,q⟩:=h
  obtain ⟨t,rfl⟩:=rx
  obtain ⟨os,hos,hcs,hds⟩:=hs
  refine ⟨"str",_,F.slot_str_getitem.lookup,typeIs_str _ _ _,?_⟩
  cases pl with
  | none =>
    cases pu with
    | none=>exact wpAny_getItem_str_slice (l:=none) (u:=none) (st:=none) ⟨os,hos,hcs,hds⟩ rfl (post_val_or_str ⟨Nat.le_trans (Txt.slice_le z _ _) hz,fun t' k=>⟨.str _,H,I.tok k,⟨t',rfl⟩,q⟩⟩)
    | int j uj=>exact wpAny_getItem_str_slice (l:=none) (u:=some (j,uj)) (st:=none) ⟨os,hos,hcs,hds⟩ rfl (post_val_or_str ⟨Nat.le_trans (Txt.slice_le z _ _) hz,fun t' k=>⟨.str _,H,I.tok k,⟨t',rfl⟩,q⟩⟩)
  | int i ui =>
    cases pu with
    | none=>exact wpAny_getItem_str_slice (l:=some (i,ui)) (u:=none) (st:=none) ⟨os,hos,hcs,hds⟩ rfl (post_val_or_str ⟨Nat.le_trans (Txt.slice_le z _ _) hz,fun t' k=>⟨.str _,H,I.tok k,⟨t',rfl⟩,q⟩⟩)
    | int j uj=>exact wpAny_getItem_str_slice (l:=some (i,ui)) (u:=some (j,uj)) (st:=none) ⟨os,hos,hcs,hds⟩ rfl (post_val_or_str ⟨Nat.le_trans (Txt.slice_le z _ _) hz,fun t' k=>⟨.str _,H,I.tok k,⟨t',rfl⟩,q⟩⟩)
end
end L2
set_option Elab.async false
set_option linter.all false
set_option maxRecDepth 100000
namespace L2
open PySem PySem.Spec PyProof.Rows
section
variable {X:Cx} {tg:Expr}
end
section
variable {X:Cx}
end
end L2
set_option Elab.async false
set_option linter.all false
set_option maxRecDepth 100000
namespace L2
open PySem PySem.Spec PyProof.Rows
noncomputable def isNonV:V->Bool
  | .non=>true
  | _=>false
noncomputable def rInN (K:PySem.W.Frag):R2:=fun x y H Q=>∃ p xs,x=.non /\ y=.ref p /\ (SqL K H p xs \/ SqT K H p xs) /\ (∀ v ∈ xs,flatV v=true \/ ∃ a ts,v=.ref a /\ SqT K H a ts) /\ Q (.bl (xs.any isNonV)) H
section
variable {X:Cx}
theorem eqN_of {v:V} {u:Value} {H:Hp} {K:PySem.W.Frag} (r:RelV v u) (f:flatV v=true \/ ∃ a ts,v=.ref a /\ SqT K H a ts):eqU .non u=isNonV v:=by
  rcases f with f | ⟨a,ts,rfl,_⟩
  · rw [eqU_of r f]
    cases v <;> first | rfl | exact absurd (show false=true from f) Bool.false_ne_true
  · cases r; rfl
theorem any_eqN {H:Hp} {K:PySem.W.Frag}:∀ {xs:List V} {us:List Value},Vals xs us->(∀ v ∈ xs,flatV v=true \/ ∃ a ts,v=.ref a /\ SqT K H a ts)->us.any (eqU .non)=xs.any isNonV
  | _,_,.nil,_=>rfl
  | y :: xs,u :: us,.cons r t,f=>by
    rw [List.any_cons,List.any_cons,eqN_of r (f y (List.mem_cons_self ..)),any_eqN t fun v hv=>f v (List.mem_cons_of_mem _ hv)]
theorem mem_eqN {pins:List (Addr × Obj)} {σ:St} {H:Hp} {s:Shared} {A:Around} (I:Inv X pins σ H s) (hu:A.units < cLine):∀ {xs:List V} {us:List Value},Vals xs us->(∀ v ∈ xs,flatV v=true \/ ∃ a ts,v=.ref a /\ SqT X.K H a ts)->∀ u ∈ us,SeqAt.EqAt A s u .none (eqU .non u)
  | _,_,.nil,_=>fun u hu=>by cases hu
  | y :: xs,u :: us,.cons r t,f=>fun u' hu'=>by
    rcases List.mem_cons.mp hu' with rfl | hu'
    · rcases f y (List.mem_cons_self ..) with fy | ⟨a,ts,rfl,sq⟩
      · rw [eqU_of r fy]; exact eqAt_V r (show RelV .non .none from rfl) fy rfl
      · cases r
        obtain ⟨its,_,pl,_⟩:=I.tuple sq
        exact SeqAt.EqAt.tuple_none pl hu
    · exact mem_eqN I hu t (fun v hv=>f v (List.mem_cons_of_mem _ hv)) u' hu'
theorem op_in_none (hu:X.A.in1.units < cLine):OpR X (compareOp .In) (rInN X.K):=by
  intro pins s σ H x y v u Q I rx ry h
  obtain ⟨p,xs,rfl,rfl,hq,fs,q⟩:=h
  cases rx
  cases ry
  rcases hq with hq | hq
  · obtain ⟨its,r,pl,hz⟩:=I.list hq
    refine SeqAt.in_listAt (eqU .non) pl.isList (fun w hw=>mem_eqN I hu r fs w (by simpa using hw)) ⟨.bl _,H,I,rfl,?_⟩
    rw [show its.toArray.any (eqU .non)=its.any (eqU .non) by simp,any_eqN r fs]
    exact q
  · obtain ⟨its,r,pl,hz⟩:=I.tuple hq
    refine SeqAt.in_tupleAt (eqU .non) pl (fun w hw=>mem_eqN I hu r fs w (by simpa using hw)) ⟨.bl _,H,I,rfl,?_⟩
    rw [show its.toArray.any (eqU .non)=its.any (eqU .non) by simp,any_eqN r fs]
    exact q
end
end L2
set_option Elab.async false
set_option linter.all false
set_option maxRecDepth 100000
namespace L2
open PySem PySem.W PySem.Spec PyProof.Rows PySem.Calls PySem.Builtin PySem.Builtin.ObjectAttr PySem.Builtin.Getset_descriptor
structure ExC (K:PySem.W.Frag) (C:Addr):Prop where
  ga:findIn K (.ref C) "__getattribute__"=some (some (.builtin "BaseException.__getattribute__"))
  ng:findIn K (.ref C) "__getattr__"=some none
  cl:findIn K (.ref C) "__class__"=some (some (.builtin "object.__class__"))
  bx:mroIn K C (.type "BaseException")=some true
  ob:mroIn K C (.type "object")=some true
  is:(clsIn K C).isSome=true
section
variable {prog:Program} {w:World} {A:Around} {E:Value->Shared->Prop} {h:Heap} {g:Array GenState} {d:Drawn} {t:Nat} {os:OsState} {a C:Addr} {o:Obj} {K:PySem.W.Frag}
end
section
variable {X:Cx} {C:Addr}
end
end L2
set_option Elab.async false
set_option linter.all false
set_option maxRecDepth 100000
namespace L2
open PySem PySem.Spec PyProof.Rows
section
variable {X:Cx} {k:Nat} {f C:Addr} {fd:FuncData} {ps:List Str} {sp:Sp} {Z:ZK} {x:Str} {p pos:Pos} {e:Expr} {es:List Expr} {t:TA}
end
end L2
namespace L2
open PySem PySem.Spec PyProof.Rows
section
variable {X:Cx} {Z:ZK} {o i e:Expr} {p pos:Pos} {es:List Expr} {tf:TE} {t:TA}
end
end L2
set_option Elab.async false
set_option linter.all false
set_option maxRecDepth 100000
namespace L2
open PySem PySem.Spec PyProof.Rows
noncomputable abbrev ZipB (h:Heap) (z TI TO:Addr) (f0:Value) (f1:Bool):Prop :=
  h.get? z=some { cls:=.type "zip",dict:=none,data:=.fields #[f0,.bool f1,.bool false,.ref TI,.ref TO],slots:=#[] }
noncomputable def okF (f0:Value):Prop:=f0=.none \/ ∃ a t,f0=.int a t
section
variable {prog:Program} {w:World} {A:Around} {E:Value->Shared->Prop} {s:Shared}
end
end L2
set_option Elab.async false
set_option linter.all false
set_option maxRecDepth 100000
namespace L2
open PySem PySem.Spec PyProof.Rows
section
variable {X:Cx}
end
end L2
set_option Elab.async false
set_option linter.all false
set_option maxRecDepth 100000
namespace L2
open PySem PySem.Spec PyProof.Rows
structure ZL (h:Heap) (z TI TO i1 i2 l1 l2 S B:Addr) (xs ys:Array Value) (c i:Nat) (Ts:List Addr):Prop where
  zs:∃ f0 f1,ZipB h z TI TO f0 f1 /\ okF f0
  ti:IsPair h TI (.ref i1) (.ref i2)
  to:∃ a b,IsPair h TO a b
  s1:SIt h i1 l1 i xs
  s2:SIt h i2 l2 i ys
  ls:h.get? S=some { cls:=.type "list",dict:=none,data:=.seq (Ts.map Value.ref).toArray c,slots:=#[] }
  sz:Ts.length=i
  it:∀ (j:Nat) (T:Addr),Ts[j]?=some T->B<=T /\ ∃ x y,xs[j]?=some x /\ ys[j]?=some y /\ IsPair h T x y
  nd:Ts.Nodup
section
variable {prog:Program} {w:World} {A:Around} {R:Result->Shared->Prop} {z TI TO i1 i2 l1 l2 S B:Addr} {xs ys:Array Value} {res:Value}
end
end L2
set_option Elab.async false
set_option linter.all false
set_option maxRecDepth 100000
namespace L2
open PySem PySem.Spec PyProof.Rows
section
variable {prog:Program} {w:World} {A:Around} {E:Value->Shared->Prop} {s:Shared} {z TI TO i1 i2 l1 l2:Addr} {xs ys:Array Value}
end
end L2
set_option Elab.async false
set_option linter.all false
set_option maxRecDepth 100000
namespace L2
open PySem PySem.Spec PyProof.Rows
section
variable {X:Cx} {pins:List (Addr × Obj)} {σ:St}
end
end L2
set_option Elab.async false
set_option linter.all false
set_option maxRecDepth 100000
namespace L2
open PySem PySem.Spec PyProof.Rows
section
variable {X:Cx} {pins:List (Addr × Obj)} {σ:St} {H:Hp} {s:Shared} {a b:Addr} {v:V} {r:Value} {o:Option V} {A:Around} {E:Value->Shared->Prop} {kvs:List (List Key × V)} {k:List Key}
noncomputable def DT (H:Hp) (a:Addr) (kvs:List (List Key × V)):Prop:=H a=some (.dT kvs) \/ (H a=some (.dK []) /\ kvs=[])
theorem key_sq (I:Inv X pins σ H s) (e:SqT X.K H b (k.map kV)):(tupleKind (mixKind X.prog X.w)).is s.heap k b:=by
  obtain ⟨its,r,⟨o,h1,h2,n,h3⟩,_⟩:=I.tuple e
  exact ⟨o,its.toArray,n,h1,h2,h3,by simpa using items_are r⟩
theorem dt_any {P:Program} {w:World} {h:Heap} (ok:HOk P w H h) (e:DT H a kvs):kvs.length<=sizeLine /\ (a == sysModules)=false /\
    ∃ xs,KT H kvs xs /\ h.DictOfH (tupleKind (mixKind P w)) a xs:=by
  rcases e with e | ⟨e,rfl⟩
  · exact dt_of ok e
  · obtain ⟨z,hd,vs,rel,o,es,ep,h1,h2,h3,_,h4,_⟩:=dk_of ok e
    cases rel
    have h5:es.toList=[]:=by
      cases q:es.toList with
      | nil=>rfl
      | cons x r=>rw [q] at h4; cases h4
    exact ⟨Nat.zero_le _,hd,[],.nil,o,es,ep,h1,h2,h3,h5,fun x hx=>(nomatch hx),.nil⟩
theorem t_getItem {Q:Value->Shared->Prop} (hu:A.units + 1 < cLine) (I:Inv X pins σ H s) (g:DT H a kvs) (eb:SqT X.K H b (k.map kV)) (l:valV kvs k=some v) (h:∀ w' s',Inv X pins σ H s'->RelV v w'->Q w' s') :
    wpAny (model X.prog X.w) A (getItem (.ref a) (.ref b)) Q E s:=by
  obtain ⟨z,hd,xs,rel,dd⟩:=dt_any I.hok g
  obtain ⟨w',hw,rw'⟩:=RelO.some_of (v:=v) (o:=(atKey xs k).map (·.2)) (by rw [<- l]; exact rel.val k)
  obtain ⟨p,hp,hp2⟩:=Option.map_eq_some_iff.mp hw
  refine wpAny_getItem_heap (tupleKind_room_in1 hu) (key_sq I eb) dd hp ?_
  rw [hp2]
  exact h w' _ (I.tok _) rw'
theorem t_in {Q:Value->Shared->Prop} (hu:A.units + 1 < cLine) (I:Inv X pins σ H s) (g:DT H a kvs) (eb:SqT X.K H b (k.map kV)) (h:∀ s',Inv X pins σ H s'->Q (.bool (valV kvs k).isSome) s') :
    wpAny (model X.prog X.w) A (compareOp .In (.ref b) (.ref a)) Q E s:=by
  obtain ⟨z,hd,xs,rel,dd⟩:=dt_any I.hok g
  refine wpAny_in_heap (tupleKind_room_in1 hu) (key_sq I eb) hd dd ?_
  have q:=(rel.val k).isSome_eq
  rw [Option.isSome_map] at q
  rw [<- q]
  exact h _ (I.tok _)
theorem t_notIn {Q:Value->Shared->Prop} (hu:A.units + 1 < cLine) (I:Inv X pins σ H s) (g:DT H a kvs) (eb:SqT X.K H b (k.map kV)) (h:∀ s',Inv X pins σ H s'->Q (.bool (!(valV kvs k).isSome)) s') :
    wpAny (model X.prog X.w) A (compareOp .NotIn (.ref b) (.ref a)) Q E s:=by
  obtain ⟨z,hd,xs,rel,dd⟩:=dt_any I.hok g
  refine wpAny_notIn_heap (tupleKind_room_in1 hu) (key_sq I eb) hd dd ?_
  have q:=(rel.val k).isSome_eq
  rw [Option.isSome_map] at q
  rw [<- q]
  exact h _ (I.tok _)
end
end L2
set_option Elab.async false
set_option linter.all false
set_option maxRecDepth 100000
set_option maxHeartbeats 4000000
namespace L2
open PySem PySem.Spec PyProof.Rows
section
variable {X:Cx}
end
end L2
namespace SO
set_option autoImplicit false
open PySem PyProof.Rows
noncomputable def gallop':Bool->Keyed->Array Keyed->Nat->Nat->Nat->StateT SortSt Sem (Option Nat):=sortPriv% PySem.Builtin.gallop
local macro_rules | `(tactic| exact 8101)=>do let i:=Lean.mkCIdent (Lean.mkPrivateNameCore `PySem.Builtin.List.W1All `PySem.Builtin.gallop); `(tactic| delta $i:ident)
noncomputable def kk (κ:KeyKind) (p:Keyed):κ.α:=(κ.keyOf p.1).getD κ.dflt
noncomputable def Has (κ:KeyKind) (p:Keyed):Prop:=∃ a,κ.keyOf p.1=some a
theorem Has.eq {κ:KeyKind} {p:Keyed} (h:Has κ p):κ.keyOf p.1=some (kk κ p):=by
  obtain ⟨a,e⟩:=h; unfold kk; rw [e]; rfl
section
variable {prog:Program} {w:World} {A:Around} {E:Value->Shared->Prop} {s:Shared} {κ:KeyKind}
theorem w_elem {arr:Array Keyed} {i:Nat} {p:Keyed} {st:SortSt} {Q:Keyed->SortSt->Prop} (h:arr[i]?=some p) (hQ:Q p st) :
    wpS (model prog w) A E s (elem' arr i) Q st:=by rw [elem'_eq,h]; exact wpS_pure hQ
theorem w_lt (hO:κ.OneLt) {x y:Keyed} {st:SortSt} {Q:Option Bool->SortSt->Prop} (hk:kindOf st=oneType') (hx:Has κ x) (hy:Has κ y)
    (h:Q (some (κ.blt (kk κ x) (kk κ y))) st):wpS (model prog w) A E s (lt' x y) Q st:=by
  rw [lt'_eq]
  refine wpS_bind (wpS_get ?_)
  rw [hk,keyLt'_oneType]
  refine wpS_bind (wpS_lift (wpAny_attempt (hO prog w A _ s x.1 y.1 _ _ hx.eq hy.eq ⟨rfl,?_⟩)))
  exact wpS_pure h
noncomputable def bey (κ:KeyKind) (left:Bool) (key x:Keyed):Bool:=if left then κ.blt (kk κ x) (kk κ key) else !κ.blt (kk κ key) (kk κ x)
set_option hygiene false in
local macro_rules | `(tactic| exact 8105)=>`(tactic| (
    refine wpS_bind (wpS_mono (wpS_forRange (I:=fun x c st'=>st=st' /\ ∃ l r,c=(none,l,r) /\ l<=r /\ r<=n /\ r - l<=n - x /\ (∀ i,i < l->g i=true) /\ (∀ i,r<=i->i < n->g i=false))
      (Q:=fun c st'=>st=st' /\ ∃ l,c=(none,l,l) /\ l<=n /\ (∀ i,i < l->g i=true) /\ (∀ i,l<=i->i < n->g i=false)) ?step ?fin ⟨rfl,_,_,rfl,hlh,hhn,by omega,hlo,hhi⟩) ?post)
    case post =>
      rintro c st' ⟨rfl,l,rfl,h1,h2,h3⟩
      exact wpS_pure (h l h1 h2 h3)
    case fin =>
      rintro c st' ⟨rfl,l,r,rfl,h1,h2,h3,h4,h5⟩
      have:l=r:=by omega
      subst this
      exact ⟨rfl,l,rfl,h2,h4,h5⟩
    case step =>
      rintro x c st' _ hx ⟨rfl,l,r,rfl,h1,h2,h3,h4,h5⟩
      dsimp only
      by_cases hge:l >= r
      · rw [if_pos hge]
        have:l=r:=by omega
        subst this
        exact wpS_pure ⟨rfl,l,rfl,h2,h4,h5⟩
      · rw [if_neg hge]
        refine wpS_bind (hbey _ (by omega) ?_)
        dsimp only
        cases hgm:g (l + (r - l) / 2)
        · simp only [Bool.false_eq_true,if_false]
          exact wpS_pure ⟨rfl,_,_,rfl,by omega,by omega,by omega,h4,fun i a1 a2=>hm' _ i a1 a2 hgm⟩
        · simp only [if_true]
          exact wpS_pure ⟨rfl,_,_,rfl,by omega,by omega,by omega,fun i a1=>hm i _ (by omega) (by omega) hgm,h5⟩))
theorem w_gallop (hO:κ.OneLt) {left:Bool} {key:Keyed} {arr:Array Keyed} {base n hint:Nat} {st:SortSt} {Q:Option Nat->SortSt->Prop}
    (hk:kindOf st=oneType') (hkey:Has κ key) (harr:∀ p,p ∈ arr.toList->Has κ p) (hn:base + n<=arr.size) (hh:hint < n)
    (g:Nat->Bool) (hg:∀ i,i < n->∃ p,arr[base + i]?=some p /\ bey κ left key p=g i) (hm:∀ i j,i<=j->j < n->g j=true->g i=true)
    (h:∀ k,k<=n->(∀ i,i < k->g i=true)->(∀ i,k<=i->i < n->g i=false)->Q (some k) st) :
    wpS (model prog w) A E s (gallop' left key arr base n hint) Q st:=by
  have hm':∀ i j,i<=j->j < n->g i=false->g j=false:=by
    intro i j hij hj hi
    cases e:g j with
    | false=>rfl
    | true=>rw [hm i j hij hj e] at hi; exact absurd hi (by simp)
  delta gallop'
  exact 8101
  dsimp only
  have hbey:∀ (i:Nat) {Q':Option Bool->SortSt->Prop},i < n->Q' (some (g i)) st ->
      wpS (model prog w) A E s (do
        let x <- elem' arr (base + i)
        if left=true then lt' x key else do
          let r <- lt' key x
          pure (Option.map (fun x=>!x) r)) Q' st:=by
    intro i Q' hi hq
    obtain ⟨p,hp,hb⟩:=hg i hi
    have hhas:Has κ p:=harr p (by
      have:=Array.mem_of_getElem? hp
      exact Array.mem_toList_iff.mpr this)
    refine wpS_bind (w_elem hp ?_)
    cases left
    · simp only [Bool.false_eq_true,if_false]
      refine wpS_bind (w_lt hO hk hkey hhas (wpS_pure ?_))
      have:(!κ.blt (kk κ key) (kk κ p))=g i:=by rw [<- hb]; rfl
      show Q' (some (!κ.blt (kk κ key) (kk κ p))) st
      rw [this]; exact hq
    · simp only [if_true]
      refine w_lt hO hk hhas hkey ?_
      have:κ.blt (kk κ p) (kk κ key)=g i:=by rw [<- hb]; rfl
      rw [this]; exact hq
  refine wpS_bind (hbey hint hh ?_)
  dsimp only
  cases hr:g hint
  · simp only [Bool.false_eq_true,if_false]
    refine wpS_bind (wpS_mono (wpS_forRange (I:=fun x c st'=>st=st' /\ ∃ l o,c=(none,l,o) /\ l < o /\ x < o /\ l<=hint /\ g (hint - l)=false)
      (Q:=fun c st'=>st=st' /\ ∃ l o,c=(none,l,o) /\ l<=hint /\ l < o /\ g (hint - l)=false /\ (o >= hint + 1 \/ (o<=hint /\ g (hint - o)=true))) ?step ?fin ⟨rfl,0,1,rfl,by omega,by omega,by omega,hr⟩) ?post)
    case fin =>
      rintro c st' ⟨rfl,l,o,rfl,h1,h2,h3,h4⟩
      exact ⟨rfl,l,o,rfl,h3,h1,h4,.inl (by omega)⟩
    case step =>
      rintro x c st' _ hx ⟨rfl,l,o,rfl,h1,h2,h3,h4⟩
      dsimp only
      by_cases hge:o >= hint + 1
      · rw [if_pos hge]; exact wpS_pure ⟨rfl,l,o,rfl,h3,h1,h4,.inl hge⟩
      · rw [if_neg hge]
        refine wpS_bind (hbey _ (by omega) ?_)
        dsimp only
        cases hgm:g (hint - o)
        · simp only [Bool.false_eq_true,if_false]
          exact wpS_pure ⟨rfl,o,2 * o + 1,rfl,by omega,by omega,by omega,hgm⟩
        · simp only [if_true]
          exact wpS_pure ⟨rfl,l,o,rfl,h3,h1,h4,.inr ⟨by omega,hgm⟩⟩
    case post =>
      rintro c st' ⟨rfl,l,o,rfl,h1,h2,h3,h4⟩
      dsimp only
      have hlh:hint + 1 - min o (hint + 1)<=hint - l:=by omega
      have hhn:hint - l<=n:=by omega
      have hlo:∀ i,i < hint + 1 - min o (hint + 1)->g i=true:=by
        intro i hi
        rcases h4 with h4 | ⟨h4,h5⟩
        · omega
        · exact hm i _ (by omega) (by omega) h5
      have hhi:∀ i,hint - l<=i->i < n->g i=false:=fun i a1 a2=>hm' _ i a1 a2 h3
      clear h1 h2 h3 h4
      exact 8105
  · simp only [if_true]
    refine wpS_bind (wpS_mono (wpS_forRange (I:=fun x c st'=>st=st' /\ ∃ l o,c=(none,l,o) /\ l < o /\ x < o /\ hint + l < n /\ g (hint + l)=true)
      (Q:=fun c st'=>st=st' /\ ∃ l o,c=(none,l,o) /\ hint + l < n /\ l < o /\ g (hint + l)=true /\ (o >= n - hint \/ (hint + o < n /\ g (hint + o)=false))) ?step2 ?fin2 ⟨rfl,0,1,rfl,by omega,by omega,by omega,hr⟩) ?post2)
    case fin2 =>
      rintro c st' ⟨rfl,l,o,rfl,h1,h2,h3,h4⟩
      exact ⟨rfl,l,o,rfl,h3,h1,h4,.inl (by omega)⟩
    case step2 =>
      rintro x c st' _ hx ⟨rfl,l,o,rfl,h1,h2,h3,h4⟩
      dsimp only
      by_cases hge:o >= n - hint
      · rw [if_pos hge]; exact wpS_pure ⟨rfl,l,o,rfl,h3,h1,h4,.inl hge⟩
      · rw [if_neg hge]
        refine wpS_bind (hbey _ (by omega) ?_)
        dsimp only
        cases hgm:g (hint + o)
        · simp only [Bool.not_false,if_true]
          exact wpS_pure ⟨rfl,l,o,rfl,h3,h1,h4,.inr ⟨by omega,hgm⟩⟩
        · simp only [Bool.not_true,Bool.false_eq_true,if_false]
          exact wpS_pure ⟨rfl,o,2 * o + 1,rfl,by omega,by omega,by omega,hgm⟩
    case post2 =>
      rintro c st' ⟨rfl,l,o,rfl,h1,h2,h3,h4⟩
      dsimp only
      have hlh:hint + l + 1<=hint + min o (n - hint):=by omega
      have hhn:hint + min o (n - hint)<=n:=by omega
      have hlo:∀ i,i < hint + l + 1->g i=true:=fun i hi=>hm i _ (by omega) (by omega) h3
      have hhi:∀ i,hint + min o (n - hint)<=i->i < n->g i=false:=by
        intro i a1 a2
        rcases h4 with h4 | ⟨h4,h5⟩
        · omega
        · exact hm' _ i (by omega) a2 h5
      clear h1 h2 h3 h4
      exact 8105
end
end SO
namespace SO
set_option autoImplicit false
set_option linter.unusedVariables false
open PySem PyProof.Rows
noncomputable def mergeLo':Array Keyed->Array Keyed->StateT SortSt Sem (Array Keyed):=sortPriv% PySem.Builtin.mergeLo
noncomputable def mergeHi':Array Keyed->Array Keyed->StateT SortSt Sem (Array Keyed):=sortPriv% PySem.Builtin.mergeHi
section
variable {κ:KeyKind}
noncomputable def le (κ:KeyKind) (x y:Keyed):Prop:=κ.kle (kk κ x) (kk κ y)
noncomputable def Srt (κ:KeyKind) (l:List Keyed):Prop:=l.Pairwise (le κ)
theorem le_trans {x y z:Keyed} (h:le κ x y) (h':le κ y z):le κ x z:=KeyOrd.kle_trans h h'
theorem bey_ft {key x:Keyed} (h:bey κ false key x=true):le κ x key:=by
  unfold bey at h; simp only [Bool.false_eq_true,if_false] at h; unfold le KeyOrd.kle; simpa using h
theorem bey_ff {key x:Keyed} (h:bey κ false key x=false):le κ key x:=by
  unfold bey at h; simp only [Bool.false_eq_true,if_false] at h; exact KeyOrd.kle_of_klt (by unfold KeyOrd.klt; simpa using h)
theorem bey_tt {key x:Keyed} (h:bey κ true key x=true):le κ x key:=by
  unfold bey at h; simp only [if_true] at h; exact KeyOrd.kle_of_klt h
theorem bey_tf {key x:Keyed} (h:bey κ true key x=false):le κ key x:=by
  unfold bey at h; simp only [if_true] at h; exact h
theorem bey_mono {left:Bool} {key x y:Keyed} (h:le κ x y) (hy:bey κ left key y=true):bey κ left key x=true:=by
  cases left
  · have:=le_trans h (bey_ft hy)
    unfold bey; simp only [Bool.false_eq_true,if_false]; unfold le KeyOrd.kle at this; simpa using this
  · unfold bey at hy ⊢; simp only [if_true] at hy ⊢; exact KeyOrd.klt_of_kle_of_klt h hy
structure Sm (st st':SortSt):Prop where
  kind:kindOf st'=kindOf st
  arr:arrOf st'=arrOf st
  pend:pendingOf st'=pendingOf st
  failed:failedOf st'=failedOf st
theorem Sm.refl (st:SortSt):Sm st st:=⟨rfl,rfl,rfl,rfl⟩
theorem Sm.trans {a b c:SortSt} (h:Sm a b) (h':Sm b c):Sm a c:=⟨h'.1.trans h.1,h'.2.trans h.2,h'.3.trans h.3,h'.4.trans h.4⟩
structure M (κ:KeyKind) (A B:List Keyed) (out:Array Keyed) (ia ib:Nat):Prop where
  perm:(out.toList ++ (A.drop ia ++ B.drop ib)).Perm (A ++ B)
  srt:Srt κ out.toList
  low:∀ x ∈ out.toList,∀ y ∈ A.drop ia ++ B.drop ib,le κ x y
noncomputable def R (κ:KeyKind) (A B:List Keyed) (r:Array Keyed):Prop:=r.toList.Perm (A ++ B) /\ Srt κ r.toList
variable {A B:List Keyed} {out:Array Keyed} {ia ib:Nat}
theorem Srt.drop {l:List Keyed} (h:Srt κ l) (n:Nat):Srt κ (l.drop n):=List.Pairwise.sublist (List.drop_sublist n l) h
theorem Srt.take {l:List Keyed} (h:Srt κ l) (n:Nat):Srt κ (l.take n):=List.Pairwise.sublist (List.take_sublist n l) h
theorem M.fromA (m:M κ A B out ia ib) (sA:Srt κ A) {l:List Keyed} {ja:Nat} {out':Array Keyed} (hl:A.drop ia=l ++ A.drop ja) (ho:out'.toList=out.toList ++ l)
    (h:∀ x ∈ l,∀ y ∈ B.drop ib,le κ x y):M κ A B out' ja ib:=by
  have sl:Srt κ (l ++ A.drop ja):=hl ▸ sA.drop ia
  obtain ⟨s1,s2,s3⟩:=List.pairwise_append.mp sl
  refine ⟨?_,?_,?_⟩
  · have:=m.perm
    rw [hl] at this
    rw [ho]; simpa [List.append_assoc] using this
  · rw [ho]
    refine List.pairwise_append.mpr ⟨m.srt,s1,fun x hx y hy=>m.low x hx y ?_⟩
    rw [hl]; simp [hy]
  · intro x hx y hy
    rw [ho] at hx
    rcases List.mem_append.mp hx with hx | hx
    · refine m.low x hx y ?_
      rw [hl]; simp only [List.mem_append] at hy ⊢
      exact hy.elim (fun h=>.inl (.inr h)) .inr
    · rcases List.mem_append.mp hy with hy | hy
      · exact s3 x hx y hy
      · exact h x hx y hy
theorem M.fromB (m:M κ A B out ia ib) (sB:Srt κ B) {l:List Keyed} {jb:Nat} {out':Array Keyed} (hl:B.drop ib=l ++ B.drop jb) (ho:out'.toList=out.toList ++ l)
    (h:∀ x ∈ l,∀ y ∈ A.drop ia,le κ x y):M κ A B out' ia jb:=by
  have sl:Srt κ (l ++ B.drop jb):=hl ▸ sB.drop ib
  obtain ⟨s1,s2,s3⟩:=List.pairwise_append.mp sl
  refine ⟨?_,?_,?_⟩
  · have:=m.perm
    rw [hl] at this
    rw [ho]
    refine List.Perm.trans ?_ this
    rw [List.append_assoc]
    refine List.Perm.append_left _ ?_
    rw [<- List.append_assoc,<- List.append_assoc]
    exact List.Perm.append_right _ List.perm_append_comm
  · rw [ho]
    refine List.pairwise_append.mpr ⟨m.srt,s1,fun x hx y hy=>m.low x hx y ?_⟩
    rw [hl]; simp [hy]
  · intro x hx y hy
    rw [ho] at hx
    rcases List.mem_append.mp hx with hx | hx
    · refine m.low x hx y ?_
      rw [hl]; simp only [List.mem_append] at hy ⊢
      exact hy.elim .inl (fun h=>.inr (.inr h))
    · rcases List.mem_append.mp hy with hy | hy
      · exact h x hx y hy
      · exact s3 x hx y hy
theorem M.done (m:M κ A B out ia ib) (sA:Srt κ A) (sB:Srt κ B) {r:Array Keyed} (hr:r.toList=out.toList ++ (A.drop ia ++ B.drop ib)) (h:A.drop ia=[] \/ B.drop ib=[]):R κ A B r:=by
  refine ⟨hr ▸ m.perm,?_⟩
  rw [hr]
  refine List.pairwise_append.mpr ⟨m.srt,?_,m.low⟩
  rcases h with h | h <;> rw [h]
  · rw [List.nil_append]; exact sB.drop ib
  · rw [List.append_nil]; exact sA.drop ia
theorem M.last (m:M κ A B out ia ib) (sB:Srt κ B) {r:Array Keyed} (hr:r.toList=out.toList ++ (B.drop ib ++ A.drop ia)) {z:Keyed} (hz:A.drop ia=[z]) (h:∀ y ∈ B,le κ y z):R κ A B r:=by
  refine ⟨?_,?_⟩
  · rw [hr]; exact (List.Perm.append_left _ List.perm_append_comm).trans m.perm
  · rw [hr]
    refine List.pairwise_append.mpr ⟨m.srt,?_,fun x hx y hy=>m.low x hx y (List.perm_append_comm.mem_iff.mp hy)⟩
    rw [hz]
    refine List.pairwise_append.mpr ⟨sB.drop ib,List.pairwise_singleton _ _,fun x hx y hy=>?_⟩
    rw [List.mem_singleton.mp hy]
    exact h x (List.mem_of_mem_drop hx)
theorem M.size (m:M κ A B out ia ib):out.size + (A.length - ia) + (B.length - ib)=A.length + B.length:=by
  have:=m.perm.length_eq
  simp only [List.length_append,List.length_drop,Array.length_toList] at this
  omega
end
section
variable {prog:Program} {w:World} {A:Around} {E:Value->Shared->Prop} {s:Shared} {κ:KeyKind}
theorem w_galL (hO:κ.OneLt) {left:Bool} {key:Keyed} {arr:Array Keyed} {base n hint:Nat} {st:SortSt} {Q:Option Nat->SortSt->Prop}
    (hk:kindOf st=oneType') (hkey:Has κ key) (harr:∀ p,p ∈ arr.toList->Has κ p) (hn:base + n<=arr.size) (hh:hint < n)
    {L:List Keyed} (hL:(arr.toList.drop base).take n=L) (sL:Srt κ L)
    (h:∀ k,k<=n->(∀ x ∈ L.take k,bey κ left key x=true)->(∀ x ∈ L.drop k,bey κ left key x=false)->Q (some k) st) :
    wpS (model prog w) A E s (gallop' left key arr base n hint) Q st:=by
  have hlen:L.length=n:=by rw [<- hL]; simp; omega
  have hat:∀ i (hi:i < n),arr[base + i]?=some (L[i]'(by omega)):=by
    intro i hi
    have e:L[i]?=arr[base + i]?:=by
      rw [<- hL,List.getElem?_take]; simp [hi]
    rw [<- e]; exact List.getElem?_eq_getElem _
  refine w_gallop hO hk hkey harr hn hh (fun i=>if hi:i < n then bey κ left key (L[i]'(by omega)) else false) ?_ ?_ ?_
  · intro i hi
    exact ⟨_,hat i hi,by simp [hi]⟩
  · intro i j hij hj hgj
    have hi:i < n:=by omega
    simp only [hi,hj,dif_pos] at hgj ⊢
    by_cases e:i=j
    · subst e; exact hgj
    · exact bey_mono (List.pairwise_iff_getElem.mp sL i j (by omega) (by omega) (by omega)) hgj
  · intro k hk1 h1 h2
    refine h k hk1 ?_ ?_
    · intro x hx
      obtain ⟨i,hi,rfl⟩:=List.getElem_of_mem hx
      rw [List.length_take] at hi
      have:=h1 i (by omega)
      simp only [show i < n by omega,dif_pos] at this
      rw [List.getElem_take]; exact this
    · intro x hx
      obtain ⟨i,hi,rfl⟩:=List.getElem_of_mem hx
      rw [List.length_drop] at hi
      have:=h2 (k + i) (by omega) (by omega)
      simp only [show k + i < n by omega,dif_pos] at this
      rw [List.getElem_drop]; exact this
end
end SO
namespace SO
set_option autoImplicit false
set_option linter.unusedVariables false
open PySem PyProof.Rows
local macro_rules | `(tactic| exact 8102)=>do let i:=Lean.mkCIdent (Lean.mkPrivateNameCore `PySem.Builtin.List.W1All `PySem.Builtin.mergeLo); `(tactic| delta $i:ident)
theorem drop_at {a:Array Keyed} {i:Nat} {p:Keyed} (h:a[i]?=some p):a.toList.drop i=[p] ++ a.toList.drop (i + 1):=by
  have hi:i < a.toList.length:=by
    rw [Array.length_toList]; exact (Array.getElem?_eq_some_iff.mp h).1
  rw [List.drop_eq_getElem_cons hi]
  have:a.toList[i]=p:=by
    obtain ⟨h1,h2⟩:=Array.getElem?_eq_some_iff.mp h
    rw [<- h2]; simp
  rw [this]; rfl
theorem at_some {a:Array Keyed} {i:Nat} (h:i < a.size):∃ p,a[i]?=some p /\ p ∈ a.toList:=⟨a[i],getElem?_pos a i h,by simp⟩
theorem drop_end {a:Array Keyed} {i:Nat} (h:i=a.size):a.toList.drop i=[]:=by subst h; simp
theorem extract_l (a:Array Keyed) (i k:Nat):(a.extract i (i + k)).toList=(a.toList.drop i).take k:=by
  simp [Array.toList_extract,List.extract_eq_take_drop]
theorem drop_split (l:List Keyed) (i k:Nat):l.drop i=(l.drop i).take k ++ l.drop (i + k):=by
  conv=>lhs; rw [<- List.take_append_drop k (l.drop i)]
  rw [List.drop_drop]
theorem extract_all (a:Array Keyed) (i:Nat):(a.extract i a.size).toList=a.toList.drop i:=by
  rw [Array.toList_extract,List.extract_eq_take_drop]
  exact List.take_of_length_le (by simp)
section
variable {prog:Program} {w:World} {A:Around} {E:Value->Shared->Prop} {s:Shared} {κ:KeyKind}
theorem done_l (out a b:Array Keyed) (ia ib:Nat):(out ++ a.extract ia a.size ++ b.extract ib b.size).toList=out.toList ++ (a.toList.drop ia ++ b.toList.drop ib):=by
  rw [Array.toList_append,Array.toList_append,extract_all,extract_all,List.append_assoc]
theorem M.pushA {a b out:Array Keyed} {ia ib:Nat} (m:M κ a.toList b.toList out ia ib) (sA:Srt κ a.toList) {p:Keyed} (hp:a[ia]?=some p) (h:∀ y ∈ b.toList.drop ib,le κ p y) :
    M κ a.toList b.toList (out.push p) (ia + 1) ib :=
  m.fromA sA (drop_at hp) (by simp) fun x hx y hy=>by rw [List.mem_singleton.mp hx]; exact h y hy
theorem M.pushB {a b out:Array Keyed} {ia ib:Nat} (m:M κ a.toList b.toList out ia ib) (sB:Srt κ b.toList) {p:Keyed} (hp:b[ib]?=some p) (h:∀ y ∈ a.toList.drop ia,le κ p y) :
    M κ a.toList b.toList (out.push p) ia (ib + 1) :=
  m.fromB sB (drop_at hp) (by simp) fun x hx y hy=>by rw [List.mem_singleton.mp hx]; exact h y hy
theorem srt_at {a:Array Keyed} {i:Nat} {p:Keyed} (sA:Srt κ a.toList) (hp:a[i]?=some p):∀ y ∈ a.toList.drop i,le κ p y:=by
  intro y hy
  have:=sA.drop i
  rw [drop_at hp] at this hy
  rcases List.mem_cons.mp hy with e | hy
  · subst e; exact KeyOrd.kle_refl _
  · exact (List.pairwise_cons.mp this).1 y hy
set_option hygiene false in
local macro_rules | `(tactic| exact 8106) => `(tactic| (
            refine wpS_bind (w_elem hq ?_)
            by_cases c7:ja + 1 + 1=a.size
            · rw [if_pos (by simpa using c7)]
              exact wpS_pure (.inl ⟨_,_,rfl,⟨hs.1,hs.2,hs.3,hs.4⟩,hlst mq c7⟩)
            rw [if_neg (by simpa using c7)]
            split
            · exact wpS_pure (.inr ⟨_,_,_,_,_,_,rfl,⟨hs.1,hs.2,hs.3,hs.4⟩,mq,by omega,by omega,by simp only [Array.size_push,Array.size_append]; omega⟩)
            · exact wpS_pure ⟨_,_,_,_,_,_,rfl,⟨hs.1,hs.2,hs.3,hs.4⟩,mq,by omega,by omega,by simp only [Array.size_push,Array.size_append]; omega⟩))
set_option hygiene false in
local macro_rules | `(tactic| exact 8107) => `(tactic| (
          refine wpS_bind (w_elem hp ?_)
          by_cases c5:ib + 1=b.size
          · rw [if_pos (by simpa using c5)]
            exact wpS_pure (.inl ⟨_,_,rfl,⟨hs.1,hs.2,hs.3,hs.4⟩,hdnB mp c5⟩)
          rw [if_neg (by simpa using c5)]
          refine wpS_bind (w_elem hq ?_)
          refine wpS_bind (w_galL hO (hs.kind.trans hk) (ha q hqm) hb (by omega) (by omega) (L:=b.toList.drop (ib + 1)) (List.take_of_length_le (by simp)) (sB.drop (ib + 1)) fun j hj1 f1 f2=>?_)
          dsimp only
          have mj:=mp.fromB sB (out':=o2.push p ++ b.extract (ib + 1) (ib + 1 + j)) (drop_split _ (ib + 1) j) (by rw [Array.toList_append,extract_l]) fun x hx y hy=>le_trans (bey_tt (f1 x hx)) (srt_at sA hq y hy)
          rw [List.drop_drop] at f2
          by_cases c6:ib + 1 + j=b.size
          · by_cases cj:j > 0
            · rw [if_pos cj,if_pos (by simpa using c6)]
              exact wpS_pure (.inl ⟨_,_,rfl,⟨hs.1,hs.2,hs.3,hs.4⟩,hdnB mj c6⟩)
            · omega
          have mq:=mj.pushA sA hq (fun y hy=>bey_tf (f2 y hy))
          by_cases cj:j > 0
          · rw [if_pos cj,if_neg (by simpa using c6)]
            exact 8106
          · rw [if_neg cj]
            obtain rfl:j=0:=by omega
            simp only [Nat.add_zero,Array.extract_empty_of_stop_le_start (Nat.le_refl _),Array.append_empty] at mq c6
            exact 8106))
set_option hygiene false in
local macro_rules | `(tactic| exact 8108) => `(tactic| (
          refine wpS_bind (wpS_modify ?_)
          refine wpS_bind (w_elem hp ?_)
          refine wpS_bind (w_galL hO (hs.kind.trans hk) (hb p hpm) ha (by omega) (by omega) (L:=a.toList.drop ia) (List.take_of_length_le (by simp)) (sA.drop ia) fun k hk1 g1 g2=>?_)
          dsimp only
          have mk:M κ a.toList b.toList (o ++ a.extract ia (ia + k)) (ia + k) ib :=
            m.fromA sA (drop_split _ ia k) (by rw [Array.toList_append,extract_l]) fun x hx y hy=>le_trans (bey_ft (g1 x hx)) (srt_at sB hp y hy)
          rw [List.drop_drop] at g2
          by_cases c3:ia + k + 1=a.size
          · by_cases ck:k > 0
            · rw [if_pos ck,if_pos (by simpa using c3)]
              exact wpS_pure (.inl ⟨_,_,rfl,⟨hs.1,hs.2,hs.3,hs.4⟩,hlst mk c3⟩)
            · omega
          by_cases c4:ia + k=a.size
          · by_cases ck:k > 0
            · rw [if_pos ck,if_neg (by simpa using c3),if_pos (by simpa using c4)]
              exact wpS_pure (.inl ⟨_,_,rfl,⟨hs.1,hs.2,hs.3,hs.4⟩,hdnA mk c4⟩)
            · omega
          have mp:=mk.pushB sB hp (fun y hy=>bey_ff (g2 y hy))
          obtain ⟨q,hq,hqm⟩:=at_some (show ia + k < a.size by omega)
          have hsz:o.size<=(o ++ a.extract ia (ia + k)).size:=by rw [Array.size_append]; omega
          by_cases ck:k > 0
          · rw [if_pos ck,if_neg (by simpa using c3),if_neg (by simpa using c4)]
            clear m mk g1 g2
            generalize hja:ia + k=ja at *
            generalize o ++ a.extract ia ja=o2 at *
            exact 8107
          · rw [if_neg ck]
            obtain rfl:k=0:=by omega
            rw [Nat.add_zero,Array.extract_empty_of_stop_le_start (Nat.le_refl _),Array.append_empty] at mp
            clear mk g1 g2
            obtain ⟨o2,rfl⟩:∃ o2,o2=o:=⟨_,rfl⟩
            obtain ⟨ja,rfl⟩:∃ ja,ja=ia:=⟨_,rfl⟩
            rw [Nat.add_zero] at *
            have hsz:o2.size<=o2.size:=Nat.le_refl _
            exact 8107))
theorem w_mergeLo (hO:κ.OneLt) {a b:Array Keyed} {st:SortSt} {Q:Array Keyed->SortSt->Prop} (hk:kindOf st=oneType')
    (ha:∀ p,p ∈ a.toList->Has κ p) (hb:∀ p,p ∈ b.toList->Has κ p) (sA:Srt κ a.toList) (sB:Srt κ b.toList) {f z:Keyed}
    (hf:b[0]?=some f) (hz:a[a.size - 1]?=some z) (hfirst:∀ x ∈ a.toList,le κ f x) (hlast:∀ y ∈ b.toList,le κ y z)
    (h:∀ r st',Sm st st'->R κ a.toList b.toList r->Q r st'):wpS (model prog w) A E s (mergeLo' a b) Q st:=by
  have ha0:0 < a.size:=by have:=(Array.getElem?_eq_some_iff.mp hz).1; omega
  have hb0:0 < b.size:=(Array.getElem?_eq_some_iff.mp hf).1
  have hlst:∀ {ia ib:Nat} {out:Array Keyed},M κ a.toList b.toList out ia ib->ia + 1=a.size->R κ a.toList b.toList (out ++ b.extract ib b.size ++ a.extract ia a.size):=by
    intro ia ib out m e
    have hz':a.toList.drop ia=[z]:=by
      rw [drop_at (i:=ia) (by rw [show ia=a.size - 1 by omega]; exact hz),drop_end e]; rfl
    exact m.last sB (done_l _ _ _ _ _) hz' hlast
  have hdnB:∀ {ia ib:Nat} {out:Array Keyed},M κ a.toList b.toList out ia ib->ib=b.size->R κ a.toList b.toList (out ++ a.extract ia a.size ++ b.extract ib b.size) :=
    fun m e=>m.done sA sB (done_l _ _ _ _ _) (.inr (drop_end e))
  have hdnA:∀ {ia ib:Nat} {out:Array Keyed},M κ a.toList b.toList out ia ib->ia=a.size->R κ a.toList b.toList (out ++ a.extract ia a.size ++ b.extract ib b.size) :=
    fun m e=>m.done sA sB (done_l _ _ _ _ _) (.inl (drop_end e))
  delta mergeLo'
  exact 8102
  dsimp only
  refine wpS_bind (wpS_lift (wpAny_rule ⟨rfl,?_⟩))
  refine wpS_bind (w_elem hf ?_)
  have m0:M κ a.toList b.toList #[f] 0 1:=by
    have e:M κ a.toList b.toList #[] 0 0:=⟨by simp,List.Pairwise.nil,fun x hx=>by simp at hx⟩
    exact e.pushB sB hf (by simpa using hfirst)
  by_cases c1:1=b.size
  · rw [if_pos (by simpa using c1)]
    exact wpS_pure (h _ _ (Sm.refl _) (hdnB m0 c1))
  rw [if_neg (by simpa using c1)]
  by_cases c2:0 + 1=a.size
  · rw [if_pos (by simpa using c2)]
    exact wpS_pure (h _ _ (Sm.refl _) (hlst m0 c2))
  rw [if_neg (by simpa using c2)]
  refine wpS_bind (wpS_get ?_)
  refine wpS_bind (wpS_mono (wpS_forRange (I:=fun x c st'=>∃ out ia ib mg,c=(none,out,ia,ib,mg) /\ Sm st st' /\ M κ a.toList b.toList out ia ib /\ ia + 1 < a.size /\ ib < b.size /\ x < out.size)
    (Q:=fun c st'=>∃ r q,c=(some r,q) /\ Sm st st' /\ R κ a.toList b.toList r) ?step ?fin ⟨_,_,_,_,rfl,Sm.refl _,m0,by omega,by omega,by simp⟩) ?post)
  case post =>
    rintro c st' ⟨r,q,rfl,hs,hr⟩
    exact wpS_pure (h _ _ hs hr)
  case fin =>
    rintro c st' ⟨out,ia,ib,mg,rfl,hs,m,h1,h2,h3⟩
    have:=m.size
    simp only [Array.length_toList] at this
    omega
  case step =>
    rintro x c st1 _ hx ⟨out,ia,ib,mg,rfl,hs,m,h1,h2,h3⟩
    dsimp only
    refine wpS_bind (wpS_mono (wpS_forRange (I:=fun y c st'=>∃ out' ia ib ac bc,c=(none,out',ia,ib,ac,bc) /\ Sm st st' /\ M κ a.toList b.toList out' ia ib /\ ia + 1 < a.size /\ ib < b.size /\ out.size<=out'.size)
      (Q:=fun c st'=>(∃ r q,c=(some r,q) /\ Sm st st' /\ R κ a.toList b.toList r) \/ ∃ out' ia ib ac bc,c=(none,out',ia,ib,ac,bc) /\ Sm st st' /\ M κ a.toList b.toList out' ia ib /\ ia + 1 < a.size /\ ib < b.size /\ out.size<=out'.size)
      ?step1 (fun c st' h=>.inr h) ⟨_,_,_,_,_,rfl,hs,m,h1,h2,Nat.le_refl _⟩) ?post1)
    case step1 =>
      clear m h1 h2 h3 hs
      rintro y c st2 _ hy ⟨out1,ia,ib,ac,bc,rfl,hs,m,h1,h2,h3⟩
      dsimp only
      obtain ⟨p,hp,hpm⟩:=at_some h2
      obtain ⟨q,hq,hqm⟩:=at_some (show ia < a.size by omega)
      refine wpS_bind (w_elem hp (wpS_bind (w_elem hq (wpS_bind (w_lt hO (hs.kind.trans hk) (hb p hpm) (ha q hqm) ?_)))))
      dsimp only
      cases hlt:κ.blt (kk κ p) (kk κ q)
      · simp only [Bool.false_eq_true,if_false]
        refine wpS_bind (w_elem hq ?_)
        have m':=m.pushA sA hq (fun y hy=>le_trans (show le κ q p from hlt) (srt_at sB hp y hy))
        by_cases e:ia + 1 + 1=a.size
        · rw [if_pos (by simpa using e)]
          exact wpS_pure (.inl ⟨_,_,rfl,hs,hlst m' e⟩)
        · rw [if_neg (by simpa using e)]
          split
          · exact wpS_pure (.inr ⟨_,_,_,_,_,rfl,hs,m',by omega,by omega,by rw [Array.size_push]; omega⟩)
          · exact wpS_pure ⟨_,_,_,_,_,rfl,hs,m',by omega,by omega,by rw [Array.size_push]; omega⟩
      · simp only [if_true]
        refine wpS_bind (w_elem hp ?_)
        have m':=m.pushB sB hp (fun y hy=>le_trans (KeyOrd.kle_of_klt hlt) (srt_at sA hq y hy))
        by_cases e:ib + 1=b.size
        · rw [if_pos (by simpa using e)]
          exact wpS_pure (.inl ⟨_,_,rfl,hs,hdnB m' e⟩)
        · rw [if_neg (by simpa using e)]
          split
          · exact wpS_pure (.inr ⟨_,_,_,_,_,rfl,hs,m',by omega,by omega,by rw [Array.size_push]; omega⟩)
          · exact wpS_pure ⟨_,_,_,_,_,rfl,hs,m',by omega,by omega,by rw [Array.size_push]; omega⟩
    case post1 =>
      clear m h1 h2 hs
      rintro c st2 (⟨r,q,rfl,hs,hr⟩ | ⟨out1,ia,ib,ac,bc,rfl,hs,m,h1,h2,h4⟩)
      · exact wpS_pure ⟨_,_,rfl,hs,hr⟩
      dsimp only
      refine wpS_bind (wpS_lift (wpAny_rule ⟨rfl,?_⟩))
      refine wpS_bind (wpS_mono (wpS_forRange (I:=fun y c st'=>∃ out' ia ib mg ac bc,c=(none,out',ia,ib,mg,ac,bc) /\ Sm st st' /\ M κ a.toList b.toList out' ia ib /\ ia + 1 < a.size /\ ib < b.size /\ out1.size + y<=out'.size)
        (Q:=fun c st'=>(∃ r q,c=(some r,q) /\ Sm st st' /\ R κ a.toList b.toList r) \/ ∃ out' ia ib mg ac bc,c=(none,out',ia,ib,mg,ac,bc) /\ Sm st st' /\ M κ a.toList b.toList out' ia ib /\ ia + 1 < a.size /\ ib < b.size /\ out1.size < out'.size)
        ?step2 ?fin2 ⟨_,_,_,_,_,_,rfl,hs,m,h1,h2,Nat.le_refl _⟩) ?post2)
      case fin2 =>
        rintro c st' ⟨o,ia,ib,mg,ac,bc,rfl,hs,m,h1,h2,h5⟩
        exact .inr ⟨_,_,_,_,_,_,rfl,hs,m,h1,h2,by omega⟩
      case post2 =>
        clear m h1 h2 hs
        rintro c st' (⟨r,q,rfl,hs,hr⟩ | ⟨o,ia,ib,mg,ac,bc,rfl,hs,m,h1,h2,h5⟩)
        · exact wpS_pure ⟨_,_,rfl,hs,hr⟩
        dsimp only
        refine wpS_bind (wpS_modify (wpS_pure ⟨_,_,_,_,rfl,⟨hs.1,hs.2,hs.3,hs.4⟩,m,h1,h2,by omega⟩))
      case step2 =>
        clear m h1 h2 hs
        rintro y c st3 _ hy ⟨o,ia,ib,mg,ac,bc,rfl,hs,m,h1,h2,h5⟩
        dsimp only
        obtain ⟨p,hp,hpm⟩:=at_some h2
        by_cases cm:mg > 1
        · rw [if_pos cm]; exact 8108
        · rw [if_neg cm]; exact 8108
end
end SO
namespace SO
set_option autoImplicit false
set_option linter.unusedVariables false
open PySem PyProof.Rows
local macro_rules | `(tactic| exact 8103)=>do let i:=Lean.mkCIdent (Lean.mkPrivateNameCore `PySem.Builtin.List.W1All `PySem.Builtin.mergeHi); `(tactic| delta $i:ident)
section
variable {κ:KeyKind}
structure N (κ:KeyKind) (A B:List Keyed) (out:Array Keyed) (na nb:Nat):Prop where
  perm:(A.take na ++ B.take nb ++ out.toList.reverse).Perm (A ++ B)
  srt:Srt κ out.toList.reverse
  high:∀ x ∈ A.take na ++ B.take nb,∀ y ∈ out.toList.reverse,le κ x y
variable {A B:List Keyed} {out:Array Keyed} {na nb:Nat}
theorem N.fromA (m:N κ A B out na nb) (sA:Srt κ A) {l:List Keyed} {ja:Nat} {out':Array Keyed} (hl:A.take na=A.take ja ++ l) (ho:out'.toList.reverse=l ++ out.toList.reverse)
    (h:∀ x ∈ B.take nb,∀ y ∈ l,le κ x y):N κ A B out' ja nb:=by
  have sl:Srt κ (A.take ja ++ l):=hl ▸ sA.take na
  obtain ⟨s1,s2,s3⟩:=List.pairwise_append.mp sl
  refine ⟨?_,?_,?_⟩
  · refine List.Perm.trans ?_ m.perm
    rw [ho,hl,<- List.append_assoc]
    refine List.Perm.append_right _ ?_
    rw [List.append_assoc,List.append_assoc]
    exact List.Perm.append_left _ List.perm_append_comm
  · rw [ho]
    refine List.pairwise_append.mpr ⟨s2,m.srt,fun x hx y hy=>m.high x ?_ y hy⟩
    rw [hl]; simp [hx]
  · intro x hx y hy
    rw [ho] at hy
    rcases List.mem_append.mp hy with hy | hy
    · rcases List.mem_append.mp hx with hx | hx
      · exact s3 x hx y hy
      · exact h x hx y hy
    · refine m.high x ?_ y hy
      rw [hl]; simp only [List.mem_append] at hx ⊢
      exact hx.elim (fun h=>.inl (.inl h)) .inr
theorem N.fromB (m:N κ A B out na nb) (sB:Srt κ B) {l:List Keyed} {jb:Nat} {out':Array Keyed} (hl:B.take nb=B.take jb ++ l) (ho:out'.toList.reverse=l ++ out.toList.reverse)
    (h:∀ x ∈ A.take na,∀ y ∈ l,le κ x y):N κ A B out' na jb:=by
  have sl:Srt κ (B.take jb ++ l):=hl ▸ sB.take nb
  obtain ⟨s1,s2,s3⟩:=List.pairwise_append.mp sl
  refine ⟨?_,?_,?_⟩
  · have:=m.perm
    rw [hl] at this
    rw [ho]; simpa [List.append_assoc] using this
  · rw [ho]
    refine List.pairwise_append.mpr ⟨s2,m.srt,fun x hx y hy=>m.high x ?_ y hy⟩
    rw [hl]; simp [hx]
  · intro x hx y hy
    rw [ho] at hy
    rcases List.mem_append.mp hy with hy | hy
    · rcases List.mem_append.mp hx with hx | hx
      · exact h x hx y hy
      · exact s3 x hx y hy
    · refine m.high x ?_ y hy
      rw [hl]; simp only [List.mem_append] at hx ⊢
      exact hx.elim .inl (fun h=>.inr (.inl h))
theorem N.done (m:N κ A B out na nb) (sA:Srt κ A) (sB:Srt κ B) {r:Array Keyed} (hr:r.toList=A.take na ++ B.take nb ++ out.toList.reverse) (h:A.take na=[] \/ B.take nb=[]):R κ A B r:=by
  refine ⟨hr ▸ m.perm,?_⟩
  rw [hr]
  refine List.pairwise_append.mpr ⟨?_,m.srt,m.high⟩
  rcases h with h | h <;> rw [h]
  · rw [List.nil_append]; exact sB.take nb
  · rw [List.append_nil]; exact sA.take na
theorem N.first (m:N κ A B out na nb) (sA:Srt κ A) {r:Array Keyed} (hr:r.toList=B.take nb ++ A.take na ++ out.toList.reverse) {z:Keyed} (hz:B.take nb=[z]) (h:∀ y ∈ A,le κ z y):R κ A B r:=by
  refine ⟨?_,?_⟩
  · rw [hr]; exact (List.Perm.append_right _ List.perm_append_comm).trans m.perm
  · rw [hr]
    refine List.pairwise_append.mpr ⟨?_,m.srt,fun x hx y hy=>m.high x (List.perm_append_comm.mem_iff.mp hx) y hy⟩
    rw [hz]
    refine List.pairwise_append.mpr ⟨List.pairwise_singleton _ _,sA.take na,fun x hx y hy=>?_⟩
    rw [List.mem_singleton.mp hx]
    exact h y (List.mem_of_mem_take hy)
theorem N.size (m:N κ A B out na nb) (h1:na<=A.length) (h2:nb<=B.length):na + nb + out.size=A.length + B.length:=by
  have:=m.perm.length_eq
  simp only [List.length_append,List.length_take,List.length_reverse,Array.length_toList] at this
  omega
end
theorem take_at {a:Array Keyed} {i:Nat} {p:Keyed} (h:a[i]?=some p):a.toList.take (i + 1)=a.toList.take i ++ [p]:=by
  have hi:i < a.toList.length:=by
    rw [Array.length_toList]; exact (Array.getElem?_eq_some_iff.mp h).1
  rw [List.take_succ_eq_append_getElem hi]
  have:a.toList[i]=p:=by
    obtain ⟨h1,h2⟩:=Array.getElem?_eq_some_iff.mp h
    rw [<- h2]; simp
  rw [this]
theorem take_split (l:List Keyed) {j i:Nat} (h:j<=i):l.take i=l.take j ++ (l.take i).drop j:=by
  conv=>lhs; rw [<- List.take_append_drop j (l.take i)]
  rw [List.take_take,Nat.min_eq_left h]
theorem extract_h (a:Array Keyed) (j i:Nat):(a.extract j i).toList=(a.toList.take i).drop j:=by
  rw [Array.toList_extract,List.extract_eq_take_drop,List.drop_take]
theorem extract_0 (a:Array Keyed) (i:Nat):(a.extract 0 i).toList=a.toList.take i:=by
  rw [extract_h]; rfl
section
variable {prog:Program} {w:World} {A:Around} {E:Value->Shared->Prop} {s:Shared} {κ:KeyKind}
theorem doneh_l (out a b:Array Keyed) (na nb:Nat):(a.extract 0 na ++ b.extract 0 nb ++ out.reverse).toList=a.toList.take na ++ b.toList.take nb ++ out.toList.reverse:=by
  rw [Array.toList_append,Array.toList_append,extract_0,extract_0,Array.toList_reverse]
theorem N.pushA {a b out:Array Keyed} {na nb:Nat} (m:N κ a.toList b.toList out (na + 1) nb) (sA:Srt κ a.toList) {p:Keyed} (hp:a[na]?=some p) (h:∀ y ∈ b.toList.take nb,le κ y p) :
    N κ a.toList b.toList (out.push p) na nb :=
  m.fromA sA (take_at hp) (by simp) fun x hx y hy=>by rw [List.mem_singleton.mp hy]; exact h x hx
theorem N.pushB {a b out:Array Keyed} {na nb:Nat} (m:N κ a.toList b.toList out na (nb + 1)) (sB:Srt κ b.toList) {p:Keyed} (hp:b[nb]?=some p) (h:∀ y ∈ a.toList.take na,le κ y p) :
    N κ a.toList b.toList (out.push p) na nb :=
  m.fromB sB (take_at hp) (by simp) fun x hx y hy=>by rw [List.mem_singleton.mp hy]; exact h x hx
theorem srt_to {a:Array Keyed} {i:Nat} {p:Keyed} (sA:Srt κ a.toList) (hp:a[i]?=some p):∀ y ∈ a.toList.take (i + 1),le κ y p:=by
  intro y hy
  have:=sA.take (i + 1)
  rw [take_at hp] at this hy
  rcases List.mem_append.mp hy with hy | hy
  · exact (List.pairwise_append.mp this).2.2 y hy p (by simp)
  · rw [List.mem_singleton.mp hy]; exact KeyOrd.kle_refl _
set_option hygiene false in
local macro_rules | `(tactic| exact 8109) => `(tactic| (
            refine wpS_bind (w_elem hq ?_)
            by_cases c7:ja=0
            · rw [if_pos (by simpa using c7)]
              exact wpS_pure (.inl ⟨_,_,rfl,⟨hs.1,hs.2,hs.3,hs.4⟩,hdnA mq c7⟩)
            rw [if_neg (by simpa using c7)]
            split
            · exact wpS_pure (.inr ⟨_,_,_,_,_,_,rfl,⟨hs.1,hs.2,hs.3,hs.4⟩,mq,by omega,by omega,by omega,by omega,by simp only [Array.size_push,Array.size_append]; omega⟩)
            · exact wpS_pure ⟨_,_,_,_,_,_,rfl,⟨hs.1,hs.2,hs.3,hs.4⟩,mq,by omega,by omega,by omega,by omega,by simp only [Array.size_push,Array.size_append]; omega⟩))
set_option hygiene false in
local macro_rules | `(tactic| exact 8110) => `(tactic| (
          refine wpS_bind (w_elem hp ?_)
          by_cases c5:ib=1
          · rw [if_pos (by simpa using c5)]
            exact wpS_pure (.inl ⟨_,_,rfl,⟨hs.1,hs.2,hs.3,hs.4⟩,hfst mp c5⟩)
          rw [if_neg (by simpa using c5)]
          refine wpS_bind (w_elem hq ?_)
          refine wpS_bind (w_galL hO (hs.kind.trans hk) (ha q hqm) hb (by omega) (by omega) (L:=b.toList.take ib) (by rw [List.drop_zero]) (sB.take ib) fun j hj1 f1 f2=>?_)
          dsimp only
          rw [List.take_take,Nat.min_eq_left hj1] at f1
          have mj:=mp.fromB sB (out':=o2.push p ++ (b.extract j ib).reverse) (take_split _ hj1) (by simp only [Array.toList_append,Array.toList_reverse,extract_h,List.reverse_append,List.reverse_reverse]) fun x hx y hy=>le_trans (srt_to sA hq x hx) (bey_tf (f2 y hy))
          by_cases cj:ib - j > 0
          · rw [if_pos cj]
            by_cases c6:j=1
            · rw [if_pos (by simpa using c6)]
              exact wpS_pure (.inl ⟨_,_,rfl,⟨hs.1,hs.2,hs.3,hs.4⟩,hfst mj c6⟩)
            rw [if_neg (by simpa using c6)]
            by_cases c8:j=0
            · rw [if_pos (by simpa using c8)]
              exact wpS_pure (.inl ⟨_,_,rfl,⟨hs.1,hs.2,hs.3,hs.4⟩,hdnB mj c8⟩)
            rw [if_neg (by simpa using c8)]
            have mq:=mj.pushA sA hq (fun y hy=>bey_tt (f1 y hy))
            exact 8109
          · rw [if_neg cj]
            obtain rfl:j=ib:=by omega
            have mq:=mp.pushA sA hq (fun y hy=>bey_tt (f1 y hy))
            exact 8109))
set_option hygiene false in
local macro_rules | `(tactic| exact 8111) => `(tactic| (
          refine wpS_bind (wpS_modify ?_)
          refine wpS_bind (w_elem hp ?_)
          refine wpS_bind (w_galL hO (hs.kind.trans hk) (hb p hpm) ha (by omega) (by omega) (L:=a.toList.take (ia + 1)) (by rw [List.drop_zero]) (sA.take (ia + 1)) fun k hk1 g1 g2=>?_)
          dsimp only
          rw [List.take_take,Nat.min_eq_left hk1] at g1
          have mk:N κ a.toList b.toList (o ++ (a.extract k (ia + 1)).reverse) k (ib + 1) :=
            m.fromA sA (take_split _ hk1) (by simp only [Array.toList_append,Array.toList_reverse,extract_h,List.reverse_append,List.reverse_reverse]) fun x hx y hy=>le_trans (srt_to sB hp x hx) (bey_ff (g2 y hy))
          by_cases ck:ia + 1 - k > 0
          · rw [if_pos ck]
            by_cases c4:k=0
            · rw [if_pos (by simpa using c4)]
              exact wpS_pure (.inl ⟨_,_,rfl,⟨hs.1,hs.2,hs.3,hs.4⟩,hdnA mk c4⟩)
            rw [if_neg (by simpa using c4)]
            obtain ⟨ja,rfl⟩:∃ ja,k=ja + 1:=⟨k - 1,by omega⟩
            obtain ⟨q,hq,hqm⟩:=at_some (show ja < a.size by omega)
            have mp:=mk.pushB sB hp (fun y hy=>bey_ft (g1 y hy))
            have hsz:o.size<=(o ++ (a.extract (ja + 1) (ia + 1)).reverse).size:=by rw [Array.size_append]; omega
            clear m mk g1 g2
            generalize o ++ (a.extract (ja + 1) (ia + 1)).reverse=o2 at *
            try simp only [Nat.add_sub_cancel]
            exact 8110
          · rw [if_neg ck]
            obtain rfl:k=ia + 1:=by omega
            obtain ⟨q,hq,hqm⟩:=at_some (show ia < a.size by omega)
            have mp:=m.pushB sB hp (fun y hy=>bey_ft (g1 y hy))
            clear mk g1 g2
            obtain ⟨o2,rfl⟩:∃ o2,o2=o:=⟨_,rfl⟩
            obtain ⟨ja,rfl⟩:∃ ja,ja=ia:=⟨_,rfl⟩
            have hsz:o2.size<=o2.size:=Nat.le_refl _
            try simp only [Nat.add_sub_cancel]
            exact 8110))
theorem w_mergeHi (hO:κ.OneLt) {a b:Array Keyed} {st:SortSt} {Q:Array Keyed->SortSt->Prop} (hk:kindOf st=oneType')
    (ha:∀ p,p ∈ a.toList->Has κ p) (hb:∀ p,p ∈ b.toList->Has κ p) (sA:Srt κ a.toList) (sB:Srt κ b.toList) {f z:Keyed}
    (hf:b[0]?=some f) (hz:a[a.size - 1]?=some z) (hfirst:∀ x ∈ a.toList,le κ f x) (hlast:∀ y ∈ b.toList,le κ y z)
    (h:∀ r st',Sm st st'->R κ a.toList b.toList r->Q r st'):wpS (model prog w) A E s (mergeHi' a b) Q st:=by
  have ha0:0 < a.size:=by have:=(Array.getElem?_eq_some_iff.mp hz).1; omega
  have hb0:0 < b.size:=(Array.getElem?_eq_some_iff.mp hf).1
  have hfst:∀ {na nb:Nat} {out:Array Keyed},N κ a.toList b.toList out na nb->nb=1->R κ a.toList b.toList (b.extract 0 nb ++ a.extract 0 na ++ out.reverse):=by
    intro na nb out m e
    subst e
    have hz':b.toList.take 1=[f]:=by
      rw [take_at (i:=0) hf]; rfl
    exact m.first sA (doneh_l _ _ _ _ _) hz' hfirst
  have hdnB:∀ {na nb:Nat} {out:Array Keyed},N κ a.toList b.toList out na nb->nb=0->R κ a.toList b.toList (a.extract 0 na ++ b.extract 0 nb ++ out.reverse) :=
    fun m e=>m.done sA sB (doneh_l _ _ _ _ _) (.inr (by rw [e,List.take_zero]))
  have hdnA:∀ {na nb:Nat} {out:Array Keyed},N κ a.toList b.toList out na nb->na=0->R κ a.toList b.toList (a.extract 0 na ++ b.extract 0 nb ++ out.reverse) :=
    fun m e=>m.done sA sB (doneh_l _ _ _ _ _) (.inl (by rw [e,List.take_zero]))
  delta mergeHi'
  exact 8103
  dsimp only
  refine wpS_bind (wpS_lift (wpAny_rule ⟨rfl,?_⟩))
  refine wpS_bind (w_elem hz ?_)
  have m0:N κ a.toList b.toList #[z] (a.size - 1) b.size:=by
    have e:N κ a.toList b.toList #[] (a.size - 1 + 1) b.size:=by
      rw [show a.size - 1 + 1=a.size by omega]
      refine ⟨?_,List.Pairwise.nil,fun x hx y hy=>by simp at hy⟩
      rw [List.take_of_length_le (by simp),List.take_of_length_le (by simp)]; simp
    exact e.pushA sA hz (fun y hy=>hlast y (List.mem_of_mem_take hy))
  by_cases c1:a.size - 1=0
  · rw [if_pos (by simpa using c1)]
    exact wpS_pure (h _ _ (Sm.refl _) (hdnA m0 c1))
  rw [if_neg (by simpa using c1)]
  by_cases c2:b.size=1
  · rw [if_pos (by simpa using c2)]
    exact wpS_pure (h _ _ (Sm.refl _) (hfst m0 c2))
  rw [if_neg (by simpa using c2)]
  refine wpS_bind (wpS_get ?_)
  refine wpS_bind (wpS_mono (wpS_forRange (I:=fun x c st'=>∃ out ia ib mg,c=(none,ia,ib,out,mg) /\ Sm st st' /\ N κ a.toList b.toList out ia ib /\ 0 < ia /\ ia<=a.size /\ 1 < ib /\ ib<=b.size /\ x < out.size)
    (Q:=fun c st'=>∃ r q,c=(some r,q) /\ Sm st st' /\ R κ a.toList b.toList r) ?step ?fin ⟨_,_,_,_,rfl,Sm.refl _,m0,by omega,by omega,by omega,by omega,by simp⟩) ?post)
  case post =>
    rintro c st' ⟨r,q,rfl,hs,hr⟩
    exact wpS_pure (h _ _ hs hr)
  case fin =>
    rintro c st' ⟨out,ia,ib,mg,rfl,hs,m,h1,h1',h2,h2',h3⟩
    have:=m.size (by simpa using h1') (by simpa using h2')
    simp only [Array.length_toList] at this
    omega
  case step =>
    rintro x c st1 _ hx ⟨out,ia,ib,mg,rfl,hs,m,h1,h1',h2,h2',h3⟩
    dsimp only
    refine wpS_bind (wpS_mono (wpS_forRange (I:=fun y c st'=>∃ out' ia ib ac bc,c=(none,ia,ib,out',ac,bc) /\ Sm st st' /\ N κ a.toList b.toList out' ia ib /\ 0 < ia /\ ia<=a.size /\ 1 < ib /\ ib<=b.size /\ out.size<=out'.size)
      (Q:=fun c st'=>(∃ r q,c=(some r,q) /\ Sm st st' /\ R κ a.toList b.toList r) \/ ∃ out' ia ib ac bc,c=(none,ia,ib,out',ac,bc) /\ Sm st st' /\ N κ a.toList b.toList out' ia ib /\ 0 < ia /\ ia<=a.size /\ 1 < ib /\ ib<=b.size /\ out.size<=out'.size)
      ?step1 (fun c st' h=>.inr h) ⟨_,_,_,_,_,rfl,hs,m,h1,h1',h2,h2',Nat.le_refl _⟩) ?post1)
    case step1 =>
      clear m h1 h2 h1' h2' h3 hs
      rintro y c st2 _ hy ⟨out1,ia,ib,ac,bc,rfl,hs,m,h1,h1',h2,h2',h3⟩
      dsimp only
      obtain ⟨ia,rfl⟩:∃ j,ia=j + 1:=⟨ia - 1,by omega⟩
      obtain ⟨ib,rfl⟩:∃ j,ib=j + 1:=⟨ib - 1,by omega⟩
      simp only [Nat.add_sub_cancel]
      obtain ⟨p,hp,hpm⟩:=at_some (show ib < b.size by omega)
      obtain ⟨q,hq,hqm⟩:=at_some (show ia < a.size by omega)
      refine wpS_bind (w_elem hp (wpS_bind (w_elem hq (wpS_bind (w_lt hO (hs.kind.trans hk) (hb p hpm) (ha q hqm) ?_)))))
      dsimp only
      cases hlt:κ.blt (kk κ p) (kk κ q)
      · simp only [Bool.false_eq_true,if_false]
        refine wpS_bind (w_elem hp ?_)
        have m':=m.pushB sB hp (fun y hy=>le_trans (srt_to sA hq y hy) (show le κ q p from hlt))
        by_cases e:ib=1
        · rw [if_pos (by simpa using e)]
          exact wpS_pure (.inl ⟨_,_,rfl,hs,hfst m' e⟩)
        · rw [if_neg (by simpa using e)]
          split
          · exact wpS_pure (.inr ⟨_,_,_,_,_,rfl,hs,m',by omega,by omega,by omega,by omega,by rw [Array.size_push]; omega⟩)
          · exact wpS_pure ⟨_,_,_,_,_,rfl,hs,m',by omega,by omega,by omega,by omega,by rw [Array.size_push]; omega⟩
      · simp only [if_true]
        refine wpS_bind (w_elem hq ?_)
        have m':=m.pushA sA hq (fun y hy=>le_trans (srt_to sB hp y hy) (KeyOrd.kle_of_klt hlt))
        by_cases e:ia=0
        · rw [if_pos (by simpa using e)]
          exact wpS_pure (.inl ⟨_,_,rfl,hs,hdnA m' e⟩)
        · rw [if_neg (by simpa using e)]
          split
          · exact wpS_pure (.inr ⟨_,_,_,_,_,rfl,hs,m',by omega,by omega,by omega,by omega,by rw [Array.size_push]; omega⟩)
          · exact wpS_pure ⟨_,_,_,_,_,rfl,hs,m',by omega,by omega,by omega,by omega,by rw [Array.size_push]; omega⟩
    case post1 =>
      clear m h1 h2 h1' h2' hs
      rintro c st2 (⟨r,q,rfl,hs,hr⟩ | ⟨out1,ia,ib,ac,bc,rfl,hs,m,h1,h1',h2,h2',h4⟩)
      · exact wpS_pure ⟨_,_,rfl,hs,hr⟩
      dsimp only
      refine wpS_bind (wpS_lift (wpAny_rule ⟨rfl,?_⟩))
      refine wpS_bind (wpS_mono (wpS_forRange (I:=fun y c st'=>∃ out' ia ib mg ac bc,c=(none,ia,ib,out',mg,ac,bc) /\ Sm st st' /\ N κ a.toList b.toList out' ia ib /\ 0 < ia /\ ia<=a.size /\ 1 < ib /\ ib<=b.size /\ out1.size + y<=out'.size)
        (Q:=fun c st'=>(∃ r q,c=(some r,q) /\ Sm st st' /\ R κ a.toList b.toList r) \/ ∃ out' ia ib mg ac bc,c=(none,ia,ib,out',mg,ac,bc) /\ Sm st st' /\ N κ a.toList b.toList out' ia ib /\ 0 < ia /\ ia<=a.size /\ 1 < ib /\ ib<=b.size /\ out1.size < out'.size)
        ?step2 ?fin2 ⟨_,_,_,_,_,_,rfl,hs,m,h1,h1',h2,h2',Nat.le_refl _⟩) ?post2)
      case fin2 =>
        rintro c st' ⟨o,ia,ib,mg,ac,bc,rfl,hs,m,h1,h1',h2,h2',h5⟩
        exact .inr ⟨_,_,_,_,_,_,rfl,hs,m,h1,h1',h2,h2',by omega⟩
      case post2 =>
        clear m h1 h2 h1' h2' hs
        rintro c st' (⟨r,q,rfl,hs,hr⟩ | ⟨o,ia,ib,mg,ac,bc,rfl,hs,m,h1,h1',h2,h2',h5⟩)
        · exact wpS_pure ⟨_,_,rfl,hs,hr⟩
        dsimp only
        refine wpS_bind (wpS_modify (wpS_pure ⟨_,_,_,_,rfl,⟨hs.1,hs.2,hs.3,hs.4⟩,m,h1,h1',h2,h2',by omega⟩))
      case step2 =>
        clear m h1 h2 h1' h2' hs
        rintro y c st3 _ hy ⟨o,ia,ib,mg,ac,bc,rfl,hs,m,h1,h1',h2,h2',h5⟩
        dsimp only
        obtain ⟨ia,rfl⟩:∃ j,ia=j + 1:=⟨ia - 1,by omega⟩
        obtain ⟨ib,rfl⟩:∃ j,ib=j + 1:=⟨ib - 1,by omega⟩
        simp only [Nat.add_sub_cancel]
        obtain ⟨p,hp,hpm⟩:=at_some (show ib < b.size by omega)
        by_cases cm:mg > 1
        · rw [if_pos cm]; exact 8111
        · rw [if_neg cm]; exact 8111
end
end SO
namespace SO
set_option autoImplicit false
set_option linter.unusedVariables false
open PySem PyProof.Rows
local macro_rules | `(tactic| exact 8104)=>do let i:=Lean.mkCIdent (Lean.mkPrivateNameCore `PySem.Builtin.List.W1All `PySem.Builtin.mergeAt); `(tactic| delta $i:ident)
theorem wb (o:Nat):∀ (l O:List Keyed) (n:Nat) (arr:Array Keyed) (P T:List Keyed),O.length=l.length->P.length=o + n->arr.toList=P ++ O ++ T ->
    ((l.zipIdx n).foldl (fun a (x:Keyed × Nat)=>match x with | (p,j)=>a.setIfInBounds (o + j) p) arr).toList=P ++ l ++ T
  | [],O,n,arr,P,T,h1,h2,h3=>by
    have:O=[]:=List.length_eq_zero_iff.mp h1
    subst this; simpa using h3
  | p :: l,[],n,arr,P,T,h1,h2,h3=>by simp at h1
  | p :: l,q :: O,n,arr,P,T,h1,h2,h3=>by
    rw [List.zipIdx_cons,List.foldl_cons]
    have:=wb o l O (n + 1) (arr.setIfInBounds (o + n) p) (P ++ [p]) T (by simpa using h1) (by simp; omega) (by
      rw [Array.toList_setIfInBounds,h3,List.append_assoc,List.set_append_right _ _ (by omega),h2,Nat.sub_self]
      simp)
    rw [this]; simp
section
variable {prog:Program} {w:World} {A:Around} {E:Value->Shared->Prop} {s:Shared} {κ:KeyKind}
theorem w_set {σ:Type} {x:σ} {Q:PUnit->σ->Prop} {st:σ} {M:Model} (h:Q ⟨⟩ x):wpS M A E s (set x:StateT σ Sem PUnit) Q st:=by
  unfold wpS; rw [StateT.run_set]; exact wpAny_pure ⟨rfl,h⟩
theorem w_mergeAt (hO:κ.OneLt) {st:SortSt} {Q:Bool->SortSt->Prop} {i sa na pw sb nb pw2:Nat} {L X Y T:List Keyed}
    (hk:kindOf st=oneType') (hf:failedOf st=none) (hp1:(pendingOf st)[i]?=some (sa,na,pw)) (hp2:(pendingOf st)[i + 1]?=some (sb,nb,pw2))
    (hL:(arrOf st).toList=L ++ X ++ Y ++ T) (hsa:L.length=sa) (hna:X.length=na) (hsb:sb=sa + na) (hnb:Y.length=nb) (h1:0 < na) (h2:0 < nb)
    (hh:∀ p,p ∈ (arrOf st).toList->Has κ p) (sX:Srt κ X) (sY:Srt κ Y)
    (h:∀ st' Z,kindOf st'=oneType'->failedOf st'=none->pendingOf st'=((pendingOf st).setIfInBounds i (sa,na + nb,pw)).eraseIdxIfInBounds (i + 1) ->
      (arrOf st').toList=L ++ Z ++ T->Z.Perm (X ++ Y)->Srt κ Z->Q true st'):wpS (model prog w) A E s (mergeAt' i) Q st:=by
  have hsz:(arrOf st).size=sa + na + nb + T.length:=by
    rw [<- Array.length_toList,hL]; simp only [List.length_append]; omega
  have hX:((arrOf st).toList.drop sa).take na=X:=by
    rw [hL,List.append_assoc,List.append_assoc,<- hsa,List.drop_left,<- hna,List.take_left]
  have hY:((arrOf st).toList.drop sb).take nb=Y:=by
    rw [hL,hsb,show sa + na=(L ++ X).length by rw [List.length_append]; omega,List.append_assoc,List.drop_left,<- hnb,List.take_left]
  have hXa:∀ j (hj:j < na),(arrOf st)[sa + j]?=some (X[j]'(by omega)):=by
    intro j hj
    rw [<- Array.getElem?_toList,hL,<- hsa,List.append_assoc,List.append_assoc,List.getElem?_append_right (by omega),Nat.add_sub_cancel_left,List.getElem?_append_left (by omega)]
    exact List.getElem?_eq_getElem _
  have hYa:∀ j (hj:j < nb),(arrOf st)[sb + j]?=some (Y[j]'(by omega)):=by
    intro j hj
    rw [<- Array.getElem?_toList,hL,hsb,List.append_assoc,List.getElem?_append_right (by rw [List.length_append]; omega),List.getElem?_append_left (by rw [List.length_append]; omega)]
    rw [List.length_append,show sa + na + j - (L.length + X.length)=j by omega]
    exact List.getElem?_eq_getElem _
  have hXm:∀ x ∈ X,Has κ x:=fun x hx=>hh x (by rw [hL]; simp [hx])
  have hYm:∀ x ∈ Y,Has κ x:=fun x hx=>hh x (by rw [hL]; simp [hx])
  have hY0:=hYa 0 h2
  rw [Nat.add_zero] at hY0
  have hXl:=hXa (na - 1) (by omega)
  delta mergeAt'
  exact 8104
  dsimp only
  refine wpS_bind (wpS_get ?_)
  rw [hp1,hp2]
  dsimp only
  refine wpS_bind (w_set ?_)
  refine wpS_bind (w_elem hY0 ?_)
  have le0:∀ y ∈ Y,le κ (Y[0]'(by omega)) y:=by
    intro y hy
    obtain ⟨j,hj,rfl⟩:=List.getElem_of_mem hy
    by_cases e:j=0
    · subst e; exact KeyOrd.kle_refl _
    · exact List.pairwise_iff_getElem.mp sY 0 j (by omega) hj (by omega)
  have lez:∀ x ∈ X,le κ x (X[na - 1]'(by omega)):=by
    intro y hy
    obtain ⟨j,hj,rfl⟩:=List.getElem_of_mem hy
    by_cases e:j=na - 1
    · subst e; exact KeyOrd.kle_refl _
    · exact List.pairwise_iff_getElem.mp sX j (na - 1) hj (by omega) (by omega)
  refine wpS_bind (w_galL hO hk (hYm _ (List.getElem_mem _)) hh (show sa + na<=(arrOf st).size by omega) h1 hX sX fun k hk1 g1 g2=>?_)
  dsimp only
  by_cases c1:na - k=0
  · rw [if_pos (by simpa using c1)]
    refine wpS_pure (h _ (X ++ Y) hk hf rfl ?_ (List.Perm.refl _) ?_)
    · show (arrOf st).toList=_; rw [hL]; simp
    · refine List.pairwise_append.mpr ⟨sX,sY,fun x hx y hy=>le_trans (bey_ft (g1 x ?_)) (le0 y hy)⟩
      rw [List.take_of_length_le (by omega)]; exact hx
  rw [if_neg (by simpa using c1)]
  refine wpS_bind (w_elem (p:=X[na - 1]'(by omega)) (by rw [<- hXl]; congr 1; omega) ?_)
  refine wpS_bind (w_galL hO hk (hXm _ (List.getElem_mem _)) hh (show sb + nb<=(arrOf st).size by omega) (by omega) hY sY fun j hj1 f1 f2=>?_)
  dsimp only
  by_cases c2:j=0
  · rw [if_pos (by simpa using c2)]
    subst c2
    refine wpS_pure (h _ (X ++ Y) hk hf rfl ?_ (List.Perm.refl _) ?_)
    · show (arrOf st).toList=_; rw [hL]; simp
    · exact List.pairwise_append.mpr ⟨sX,sY,fun x hx y hy=>le_trans (lez x hx) (bey_tf (f2 y hy))⟩
  rw [if_neg (by simpa using c2)]
  have hx:((arrOf st).extract (sa + k) sb).toList=X.drop k:=by
    rw [extract_h,hsb,<- List.drop_drop,<- hX,List.drop_take]
    rw [List.drop_take,List.drop_take]
    rw [show sa + na - sa=na by omega,List.drop_drop]
  have hy:((arrOf st).extract sb (sb + j)).toList=Y.take j:=by
    rw [extract_l,<- hY,List.take_take,Nat.min_eq_left hj1]
  have hxs:((arrOf st).extract (sa + k) sb).size=na - k:=by rw [<- Array.length_toList,hx,List.length_drop]; omega
  have fin:∀ (r:Array Keyed) (st':SortSt),Sm (SortSt.mk' (kindOf st) (arrOf st) (((pendingOf st).setIfInBounds i (sa,na + nb,pw)).eraseIdxIfInBounds (i + 1)) (gallopOf st) (failedOf st)) st' ->
      R κ ((arrOf st).extract (sa + k) sb).toList ((arrOf st).extract sb (sb + j)).toList r ->
      wpS (model prog w) A E s (do
        modify (fun s=>setArr s (List.foldl (fun a (x:Keyed × Nat)=>match x with | (p,j)=>a.setIfInBounds (sa + k + j) p) (arrOf s) r.toList.zipIdx))
        let u <- get
        pure (failedOf u).isNone) Q st':=by
    intro r st' hs hr
    rw [hx,hy] at hr
    refine wpS_bind (wpS_modify (wpS_bind (wpS_get (wpS_pure ?_))))
    have e1:failedOf st'=none:=hs.failed.trans hf
    show Q (failedOf st').isNone _
    rw [e1]
    have hrl:r.toList.length=na - k + j:=by
      rw [hr.1.length_eq,List.length_append,List.length_drop,List.length_take]; omega
    refine h _ (X.take k ++ r.toList ++ Y.drop j) (hs.kind.trans hk) e1 hs.pend ?_ ?_ ?_
    · show (List.foldl (fun a (x:Keyed × Nat)=>match x with | (p,j)=>a.setIfInBounds (sa + k + j) p) (arrOf st') r.toList.zipIdx).toList=_
      rw [wb (sa + k) r.toList (X.drop k ++ Y.take j) 0 _ (L ++ X.take k) (Y.drop j ++ T)]
      · simp
      · rw [List.length_append,List.length_drop,List.length_take,hrl]; omega
      · rw [List.length_append,List.length_take]; omega
      · rw [hs.arr]
        show (arrOf st).toList=_
        rw [hL]
        conv=>lhs; rw [<- List.take_append_drop k X,<- List.take_append_drop j Y]
        simp only [List.append_assoc]
    · have:(X.take k ++ r.toList ++ Y.drop j).Perm (X.take k ++ (X.drop k ++ Y.take j) ++ Y.drop j):=List.Perm.append_right _ (List.Perm.append_left _ hr.1)
      refine this.trans (List.Perm.of_eq ?_)
      conv=>rhs; rw [<- List.take_append_drop k X,<- List.take_append_drop j Y]
      simp only [List.append_assoc]
    · have sX':=sX
      have sY':=sY
      rw [<- List.take_append_drop k X] at sX'
      rw [<- List.take_append_drop j Y] at sY'
      obtain ⟨a1,a2,a3⟩:=List.pairwise_append.mp sX'
      obtain ⟨b1,b2,b3⟩:=List.pairwise_append.mp sY'
      refine List.pairwise_append.mpr ⟨List.pairwise_append.mpr ⟨a1,hr.2,fun x hx' y hy'=>?_⟩,b2,fun x hx' y hy'=>?_⟩
      · rcases List.mem_append.mp (hr.1.mem_iff.mp hy') with hy' | hy'
        · exact a3 x hx' y hy'
        · exact le_trans (bey_ft (g1 x hx')) (le0 y (List.mem_of_mem_take hy'))
      · rcases List.mem_append.mp hx' with hx' | hx'
        · exact le_trans (bey_ft (g1 x hx')) (le0 y (List.mem_of_mem_drop hy'))
        · rcases List.mem_append.mp (hr.1.mem_iff.mp hx') with hx' | hx'
          · exact le_trans (lez x (List.mem_of_mem_drop hx')) (bey_tf (f2 y hy'))
          · exact b3 x hx' y hy'
  have ha:∀ p,p ∈ ((arrOf st).extract (sa + k) sb).toList->Has κ p:=by rw [hx]; exact fun p hp=>hXm p (List.mem_of_mem_drop hp)
  have hb:∀ p,p ∈ ((arrOf st).extract sb (sb + j)).toList->Has κ p:=by rw [hy]; exact fun p hp=>hYm p (List.mem_of_mem_take hp)
  have sA:Srt κ ((arrOf st).extract (sa + k) sb).toList:=by rw [hx]; exact sX.drop k
  have sB:Srt κ ((arrOf st).extract sb (sb + j)).toList:=by rw [hy]; exact sY.take j
  have hf0:((arrOf st).extract sb (sb + j))[0]?=some (Y[0]'(by omega)):=by
    rw [<- Array.getElem?_toList,hy,List.getElem?_take,if_pos (by omega)]; exact List.getElem?_eq_getElem _
  have hz0:((arrOf st).extract (sa + k) sb)[((arrOf st).extract (sa + k) sb).size - 1]?=some (X[na - 1]'(by omega)):=by
    rw [hxs,<- Array.getElem?_toList,hx,List.getElem?_drop,show k + (na - k - 1)=na - 1 by omega]; exact List.getElem?_eq_getElem _
  have hfi:∀ x ∈ ((arrOf st).extract (sa + k) sb).toList,le κ (Y[0]'(by omega)) x:=by rw [hx]; exact fun x hx=>bey_ff (g2 x hx)
  have hla:∀ y ∈ ((arrOf st).extract sb (sb + j)).toList,le κ y (X[na - 1]'(by omega)):=by rw [hy]; exact fun y hy=>bey_tt (f1 y hy)
  by_cases c3:na - k<=j
  · rw [if_pos c3]
    exact wpS_bind (w_mergeLo hO hk ha hb sA sB hf0 hz0 hfi hla fin)
  · rw [if_neg c3]
    exact wpS_bind (w_mergeHi hO hk ha hb sA sB hf0 hz0 hfi hla fin)
end
end SO
namespace SO
set_option autoImplicit false
set_option linter.unusedVariables false
open PySem PyProof.Rows
structure Bs (lo:Nat) (st₀ st:SortSt):Prop where
  kind:kindOf st=oneType'
  failed:failedOf st=none
  pend:pendingOf st=pendingOf st₀
  perm:(arrOf st).Perm (arrOf st₀)
  low:∀ i,i < lo->(arrOf st)[i]?=(arrOf st₀)[i]?
theorem Bs.sz {lo:Nat} {a b:SortSt} (h:Bs lo a b):(arrOf b).size=(arrOf a).size:=h.perm.size_eq
noncomputable def As (κ:KeyKind) (xs:Array Keyed) (lo n:Nat):Prop:=∀ i j,i<=j->j < n->κ.kle (KK κ xs (lo + i)) (KK κ xs (lo + j))
noncomputable def Ds (κ:KeyKind) (xs:Array Keyed) (lo n:Nat):Prop:=∀ i j,i<=j->j < n->κ.kle (KK κ xs (lo + j)) (KK κ xs (lo + i))
theorem Bs.mir {lo i j:Nat} {a b:SortSt} (h:Bs lo a b) (hi:lo<=i) (hj:j<=(arrOf a).size):Bs lo a (setArr b (mirror (arrOf b) i j ((j - i) / 2))) :=
  ⟨h.kind,h.failed,h.pend,(mirror_perm _ _ _ _).trans h.perm,fun k hk=>by
    show (mirror (arrOf b) i j ((j - i) / 2))[k]?=_
    rw [getElem?_mirror_all (by rw [h.sz]; exact hj),if_neg (by omega),h.low k hk]⟩
theorem Bs.bub {lo i d:Nat} {a b:SortSt} (h:Bs lo a b) (hi:lo + d<=i) (hj:i < (arrOf a).size):Bs lo a (setArr b (bubble (arrOf b) i d)) :=
  ⟨h.kind,h.failed,h.pend,(bubble_perm _ _ _).trans h.perm,fun k hk=>by
    show (bubble (arrOf b) i d)[k]?=_
    rw [getElem?_bubble (by rw [h.sz]; exact hj) d (by omega),if_neg (by omega),if_neg (by omega),h.low k hk]⟩
theorem As.one {κ:KeyKind} {xs:Array Keyed} {lo n:Nat} (h:n<=1):As κ xs lo n:=fun i j a b=>by
  have:i=j:=by omega
  subst this; exact KeyOrd.kle_refl _
theorem As.more {κ:KeyKind} {xs:Array Keyed} {lo n:Nat} (h:As κ xs lo n) (h1:1<=n) (hl:κ.kle (KK κ xs (lo + n - 1)) (KK κ xs (lo + n))):As κ xs lo (n + 1):=fun i j a b=>by
  by_cases c:j < n
  · exact h i j a c
  · have:j=n:=by omega
    subst this
    by_cases d:i=j
    · subst d; exact KeyOrd.kle_refl _
    · have:=h i (j - 1) (by omega) (by omega)
      rw [show lo + (j - 1)=lo + j - 1 by omega] at this
      exact KeyOrd.kle_trans this hl
theorem Ds.more {κ:KeyKind} {xs:Array Keyed} {lo n:Nat} (h:Ds κ xs lo n) (h1:1<=n) (hl:κ.kle (KK κ xs (lo + n)) (KK κ xs (lo + n - 1))):Ds κ xs lo (n + 1):=fun i j a b=>by
  by_cases c:j < n
  · exact h i j a c
  · have:j=n:=by omega
    subst this
    by_cases d:i=j
    · subst d; exact KeyOrd.kle_refl _
    · have:=h i (j - 1) (by omega) (by omega)
      rw [show lo + (j - 1)=lo + j - 1 by omega] at this
      exact KeyOrd.kle_trans hl this
theorem Ds.cg {κ:KeyKind} {xs ys:Array Keyed} {lo n:Nat} (h:Ds κ xs lo n) (e:∀ k,KK κ ys k=KK κ xs k):Ds κ ys lo n:=fun i j a b=>by rw [e,e]; exact h i j a b
section
variable {prog:Program} {w:World} {A:Around} {E:Value->Shared->Prop} {s:Shared} {κ:KeyKind} {lo:Nat} {a b:SortSt}
theorem w_at (hO:κ.OneLt) (hb:Bs lo a b) (hh:KeysOf κ (arrOf a)) {i j:Nat} {Q:Option Bool->SortSt->Prop} (hi:i < (arrOf a).size) (hj:j < (arrOf a).size)
    (h:Q (some (κ.blt (KK κ (arrOf b) i) (KK κ (arrOf b) j))) b):wpS (model prog w) A E s (ltAt' i j) Q b:=by
  have at':∀ i,i < (arrOf a).size->∃ p v,(arrOf b)[i]?=some p /\ κ.keyOf p.1=some v /\ KK κ (arrOf b) i=v:=by
    intro i hi
    have hi':i < (arrOf b).size:=by rw [hb.sz]; exact hi
    have e:(arrOf b)[i]?=some (arrOf b)[i]:=getElem?_pos _ i hi'
    obtain ⟨v,hv⟩:=hh _ ((Array.perm_iff_toList_perm.mp hb.perm).mem_iff.mp (show (arrOf b)[i] ∈ (arrOf b).toList by simp))
    exact ⟨_,v,e,hv,by unfold KK; rw [e]; simp [hv]⟩
  obtain ⟨p,v,e1,e2,e3⟩:=at' i hi
  obtain ⟨q,u,f1,f2,f3⟩:=at' j hj
  rw [e3,f3] at h
  exact wpS_ltAtK hO hb.kind e1 f1 e2 f2 h
theorem w_bin (hO:κ.OneLt) (hh:KeysOf κ (arrOf a)) {n ok:Nat} {Q:Bool->SortSt->Prop} (hn:lo + n<=(arrOf a).size) (hok:ok<=n) (hb:Bs lo a b) (hs:As κ (arrOf b) lo ok)
    (h:∀ c,Bs lo a c->As κ (arrOf c) lo n->Q true c):wpS (model prog w) A E s (binarySort' lo n ok) Q b:=by
  rw [binarySort'_eq]
  refine wpS_bind (wpS_mono (wpS_forRange (I:=fun k r c=>r=(none,()) /\ Bs lo a c /\ As κ (arrOf c) lo (min k n))
    (Q:=fun r c=>r=(none,()) /\ Bs lo a c /\ As κ (arrOf c) lo n) ?sp ?fn ?ini) ?po)
  case po =>
    rintro r c ⟨rfl,g1,g2⟩; exact wpS_pure (h c g1 g2)
  case ini =>
    refine ⟨rfl,hb,?_⟩
    by_cases e:ok=0
    · exact As.one (by omega)
    · rw [show min (max ok 1) n=ok by omega]; exact hs
  case fn =>
    rintro r c ⟨g0,g1,g2⟩
    rw [show min (max (max ok 1) n) n=n by omega] at g2
    exact ⟨g0,g1,g2⟩
  case sp =>
    rintro k r c _ hk ⟨rfl,g1,g2⟩
    rw [show min k n=k by omega] at g2
    refine wpS_bind (wpS_mono (wpS_forRange (I:=fun x r c'=>c=c' /\ ∃ l u,r=(none,l,u) /\ l<=u /\ u<=k /\ u - l<=k - x /\
        (∀ i,i < l->κ.kle (KK κ (arrOf c) (lo + i)) (KK κ (arrOf c) (lo + k))) /\ (∀ i,u<=i->i < k->κ.klt (KK κ (arrOf c) (lo + k)) (KK κ (arrOf c) (lo + i))))
      (Q:=fun r c'=>c=c' /\ ∃ l u,r=(none,l,u) /\ l<=k /\
        (∀ i,i < l->κ.kle (KK κ (arrOf c) (lo + i)) (KK κ (arrOf c) (lo + k))) /\ (∀ i,l<=i->i < k->κ.klt (KK κ (arrOf c) (lo + k)) (KK κ (arrOf c) (lo + i)))) ?s2 ?f2 ?i2) ?p2)
    case i2=>exact ⟨rfl,0,k,rfl,by omega,by omega,by omega,fun i hi=>absurd hi (by omega),fun i h1 h2=>absurd h1 (by omega)⟩
    case f2 =>
      rintro r c' ⟨rfl,l,u,rfl,h1,h2,h3,h4,h5⟩
      have:l=u:=by omega
      subst this
      exact ⟨rfl,l,l,rfl,h2,h4,h5⟩
    case s2 =>
      rintro x r c' _ hx ⟨rfl,l,u,rfl,h1,h2,h3,h4,h5⟩
      dsimp only
      by_cases hge:l >= u
      · have:l=u:=by omega
        subst this
        rw [if_pos hge]; exact wpS_pure ⟨rfl,l,l,rfl,h2,h4,h5⟩
      rw [if_neg hge]
      refine wpS_bind (w_at hO g1 hh (by omega) (by omega) ?_)
      dsimp only
      cases hl:κ.blt (KK κ (arrOf c) (lo + k)) (KK κ (arrOf c) (lo + (l + u) / 2))
      · rw [if_neg (by simp)]
        exact wpS_pure ⟨rfl,(l + u) / 2 + 1,u,rfl,by omega,by omega,by omega,fun i hi=>KeyOrd.kle_trans (g2 i ((l + u) / 2) (by omega) (by omega)) hl,h5⟩
      · rw [if_pos rfl]
        exact wpS_pure ⟨rfl,l,(l + u) / 2,rfl,by omega,by omega,by omega,h4,fun i q1 q2=>KeyOrd.klt_of_klt_of_kle hl (g2 _ _ q1 q2)⟩
    case p2 =>
      rintro r c' ⟨rfl,l,u,rfl,h1,h4,h5⟩
      show wpS _ _ _ _ (do moveDown' (lo + k) (lo + l); pure (ForInStep.yield (none,()))) _ _
      rw [moveDown'_eq]
      refine wpS_bind (wpS_modify (wpS_pure ⟨rfl,g1.bub (by omega) (by omega),?_⟩))
      rw [show min (k + 1) n=k + 1 by omega]
      have hks:lo + k < (arrOf c).size:=by rw [g1.sz]; omega
      intro i j hij hj
      show κ.kle (KK κ (bubble (arrOf c) (lo + k) (lo + k - (lo + l))) _) (KK κ (bubble (arrOf c) (lo + k) (lo + k - (lo + l))) _)
      rw [KK_bubble hks (by omega),KK_bubble hks (by omega),show lo + k - (lo + k - (lo + l))=lo + l by omega]
      have key:∀ i,i<=k->(if lo + i=lo + l then KK κ (arrOf c) (lo + k) else if lo + l < lo + i /\ lo + i<=lo + k then KK κ (arrOf c) (lo + i - 1) else KK κ (arrOf c) (lo + i)) =
          (if i < l then KK κ (arrOf c) (lo + i) else if i=l then KK κ (arrOf c) (lo + k) else KK κ (arrOf c) (lo + (i - 1))):=by
        intro i hi
        by_cases c1:i < l
        · rw [if_neg (by omega),if_neg (by omega),if_pos c1]
        · by_cases c2:i=l
          · rw [if_pos (by omega),if_neg c1,if_pos c2]
          · rw [if_neg (by omega),if_pos (by omega),if_neg c1,if_neg c2,show lo + i - 1=lo + (i - 1) by omega]
      rw [key i (by omega),key j (by omega)]
      by_cases c1:j < l
      · rw [if_pos (by omega),if_pos c1]; exact g2 i j hij (by omega)
      rw [if_neg c1]
      by_cases c2:i < l
      · rw [if_pos c2]
        by_cases c3:j=l
        · rw [if_pos c3]; exact h4 i c2
        · rw [if_neg c3]; exact g2 i (j - 1) (by omega) (by omega)
      rw [if_neg c2]
      by_cases c3:i=l
      · rw [if_pos c3]
        by_cases c4:j=l
        · rw [if_pos c4]; exact KeyOrd.kle_refl _
        · rw [if_neg c4]; exact KeyOrd.kle_of_klt (h5 _ (by omega) (by omega))
      · rw [if_neg c3,if_neg (by omega)]; exact g2 _ _ (by omega) (by omega)
end
end SO
namespace SO
set_option autoImplicit false
set_option linter.unusedVariables false
open PySem PyProof.Rows
theorem Ds.up {κ:KeyKind} {xs:Array Keyed} {lo k:Nat} (h:Ds κ xs lo k) (hz:lo + k<=xs.size):As κ (mirror xs lo (lo + k) ((lo + k - lo) / 2)) lo k:=fun i j q1 q2=>by
  rw [KK_mirror hz,KK_mirror hz,if_pos (by omega),if_pos (by omega)]
  have:=h (k - 1 - j) (k - 1 - i) (by omega) (by omega)
  rw [show lo + (lo + k) - 1 - (lo + i)=lo + (k - 1 - i) by omega,show lo + (lo + k) - 1 - (lo + j)=lo + (k - 1 - j) by omega]
  exact this
section
variable {prog:Program} {w:World} {A:Around} {E:Value->Shared->Prop} {s:Shared} {κ:KeyKind} {lo:Nat} {a b:SortSt}
theorem w_asc (hO:κ.OneLt) (hh:KeysOf κ (arrOf a)) {n m:Nat} {Q:Option (Option Nat) × Nat->SortSt->Prop} (hm:lo + m<=(arrOf a).size) (h1:1<=n) (hn:n<=m) (hb:Bs lo a b) (hs:As κ (arrOf b) lo n)
    (h:∀ k,1<=k->k<=m->As κ (arrOf b) lo k->(k=m \/ κ.klt (KK κ (arrOf b) (lo + k)) (KK κ (arrOf b) (lo + k - 1)))->Q (none,k) b) :
    wpS (model prog w) A E s (forIn [n:m] ((none,n):Option (Option Nat) × Nat) fun _ r=>do
      let x <- ltAt' (lo + r.2) (lo + r.2 - 1)
      match x with
      | some smaller=>if smaller=true then pure (ForInStep.done (none,r.2)) else pure (ForInStep.yield (none,r.2 + 1))
      | _=>pure (ForInStep.done (some none,r.2))) Q b:=by
  refine wpS_forRange (I:=fun x r c=>b=c /\ r=(none,x) /\ As κ (arrOf b) lo x) ?sp ?fn ⟨rfl,rfl,hs⟩
  case fn =>
    rintro r c ⟨rfl,rfl,g⟩
    rw [show max n m=m by omega] at g ⊢
    exact h m (by omega) (Nat.le_refl _) g (.inl rfl)
  case sp =>
    rintro x r c hx hxm ⟨rfl,rfl,g⟩
    refine wpS_bind (w_at hO hb hh (by omega) (by omega) ?_)
    dsimp only
    cases hl:κ.blt (KK κ (arrOf b) (lo + x)) (KK κ (arrOf b) (lo + x - 1))
    · rw [if_neg (by simp)]; exact wpS_pure ⟨rfl,rfl,g.more (by omega) hl⟩
    · rw [if_pos rfl]; exact wpS_pure (h x (by omega) (by omega) g (.inr hl))
theorem w_desc (hO:κ.OneLt) (hh:KeysOf κ (arrOf a)) {n m:Nat} {Q:Option (Option Nat) × Nat × Nat->SortSt->Prop} (hm:lo + m<=(arrOf a).size) (h1:1<=n) (hn:n<=m) (hb:Bs lo a b) (hs:Ds κ (arrOf b) lo n)
    (h:∀ k q c,Bs lo a c->n<=k->k<=m->Ds κ (arrOf c) lo k->q + 1<=k->(∀ i,lo + k - (q + 1)<=i->i < lo + k->KK κ (arrOf c) i=KK κ (arrOf c) (lo + k - 1))->Q (none,k,q) c) :
    wpS (model prog w) A E s (forIn [n:m] ((none,n,0):Option (Option Nat) × Nat × Nat) fun _ r=>do
      let x <- ltAt' (lo + r.2.1) (lo + r.2.1 - 1)
      match x with
      | some smaller =>
        if smaller=true then
          if r.2.2 > 0 then do
            reverseSlice' (lo + r.2.1 - (r.2.2 + 1)) (lo + r.2.1)
            pure (ForInStep.yield (none,r.2.1 + 1,0))
          else pure (ForInStep.yield (none,r.2.1 + 1,0))
        else do
          let y <- ltAt' (lo + r.2.1 - 1) (lo + r.2.1)
          match y with
          | some larger=>if larger=true then pure (ForInStep.done (none,r.2.1,r.2.2)) else pure (ForInStep.yield (none,r.2.1 + 1,r.2.2 + 1))
          | _=>pure (ForInStep.done (some none,r.2.1,r.2.2))
      | _=>pure (ForInStep.done (some none,r.2.1,r.2.2))) Q b:=by
  refine wpS_forRange (I:=fun x r c=>∃ q,r=(none,x,q) /\ Bs lo a c /\ Ds κ (arrOf c) lo x /\ q + 1<=x /\
      (∀ i,lo + x - (q + 1)<=i->i < lo + x->KK κ (arrOf c) i=KK κ (arrOf c) (lo + x - 1))) ?sp ?fn ⟨0,rfl,hb,hs,by omega,fun i q1 q2=>by rw [show i=lo + n - 1 by omega]⟩
  case fn =>
    rintro r c ⟨q,rfl,g1,g2,g3,g4⟩
    rw [show max n m=m by omega] at g2 g3 g4 ⊢
    exact h m q c g1 hn (Nat.le_refl _) g2 g3 g4
  case sp =>
    rintro x r c hx hxm ⟨q,rfl,g1,g2,g3,g4⟩
    have hsz:lo + x<=(arrOf c).size:=by rw [g1.sz]; omega
    dsimp only
    refine wpS_bind (w_at hO g1 hh (by omega) (by omega) ?_)
    dsimp only
    cases hl:κ.blt (KK κ (arrOf c) (lo + x)) (KK κ (arrOf c) (lo + x - 1))
    · rw [if_neg (by simp)]
      refine wpS_bind (w_at hO g1 hh (by omega) (by omega) ?_)
      dsimp only
      cases hg:κ.blt (KK κ (arrOf c) (lo + x - 1)) (KK κ (arrOf c) (lo + x))
      · rw [if_neg (by simp)]
        have e:KK κ (arrOf c) (lo + x)=KK κ (arrOf c) (lo + x - 1):=KeyOrd.kle_antisymm hg hl
        refine wpS_pure ⟨q + 1,rfl,g1,g2.more (by omega) hg,by omega,fun i q1 q2=>?_⟩
        rw [show lo + (x + 1) - 1=lo + x by omega,e]
        by_cases d:i=lo + x
        · rw [d,e]
        · exact g4 i (by omega) (by omega)
      · rw [if_pos rfl]; exact wpS_pure (h x q c g1 hx (by omega) g2 g3 g4)
    · rw [if_pos rfl]
      have hd:=g2.more (by omega) (KeyOrd.kle_of_klt hl)
      by_cases d:q > 0
      · rw [if_pos d]
        exact wpS_bind (wpS_reverse (wpS_pure ⟨0,rfl,g1.mir (by omega) (by omega),hd.cg (KK_mirror_equal hsz g4),by omega,fun i q1 q2=>by rw [show i=lo + (x + 1) - 1 by omega]⟩))
      · rw [if_neg d]
        exact wpS_pure ⟨0,rfl,g1,hd,by omega,fun i q1 q2=>by rw [show i=lo + (x + 1) - 1 by omega]⟩
set_option hygiene false in
local macro_rules | `(tactic| exact 8112 $g $q)=>`(tactic| (
    refine wpS_bind (wpS_reverse ?_)
    refine wpS_bind (w_asc hO hh hm (by omega) hk2 (Bs.mir (i:=lo) (j:=lo + k) $g (Nat.le_refl _) (by omega)) ?_ fun k' u1 u2 u3 _=>wpS_pure (h k' _ (Bs.mir (i:=lo) (j:=lo + k) $g (Nat.le_refl _) (by omega)) u1 u2 u3))
    exact Ds.up $q (by first | exact hsz | (show lo + k<=(mirror _ _ _ _).size; rw [(mirror_perm _ _ _ _).size_eq]; exact hsz))))
set_option hygiene false in
local macro_rules | `(tactic| exact 8113 $g $q)=>`(tactic| (
    refine wpS_bind (wpS_lift (wpAny_rule ⟨rfl,?_⟩))
    refine wpS_bind (w_desc hO hh hm (by omega) (by omega) $g $q fun k r c g1 hk1 hk2 g2 g3 g4=>?_)
    dsimp only
    have hsz:lo + k<=(arrOf c).size:=by rw [g1.sz]; omega
    by_cases d:r > 0
    · rw [if_pos d]
      refine wpS_bind (wpS_reverse ?_)
      exact 8112 (g1.mir (i:=lo + k - (r + 1)) (j:=lo + k) (by omega) (by omega)) (g2.cg (KK_mirror_equal hsz g4))
    · rw [if_neg d]
      exact 8112 g1 g2))
theorem w_run (hO:κ.OneLt) (hh:KeysOf κ (arrOf a)) {m:Nat} {Q:Option Nat->SortSt->Prop} (hm:lo + m<=(arrOf a).size) (h1:1<=m) (hb:Bs lo a b)
    (h:∀ k c,Bs lo a c->1<=k->k<=m->As κ (arrOf c) lo k->Q (some k) c):wpS (model prog w) A E s (countRun' lo m) Q b:=by
  rw [countRun'_eq]
  refine wpS_bind (w_asc hO hh hm (Nat.le_refl 1) h1 hb (As.one (Nat.le_refl 1)) fun n hn1 hn2 hsn hor=>?_)
  dsimp only
  by_cases e:n=m
  · rw [if_pos (by simpa using e)]; exact wpS_pure (h n b hb hn1 hn2 hsn)
  rw [if_neg (by simpa using e)]
  have hlt:=hor.resolve_left e
  have hsz0:lo + n<=(arrOf b).size:=by rw [hb.sz]; omega
  by_cases d:n > 1
  · rw [if_pos d]
    refine wpS_bind (w_at hO hb hh (by omega) (by omega) ?_)
    dsimp only
    cases hr:κ.blt (KK κ (arrOf b) lo) (KK κ (arrOf b) (lo + n - 1))
    · rw [if_neg (by simp)]
      have hall:∀ k,lo<=k->k < lo + n->KK κ (arrOf b) k=KK κ (arrOf b) (lo + n - 1):=by
        intro k q1 q2
        have r1:=hsn 0 (k - lo) (by omega) (by omega)
        have r2:=hsn (k - lo) (n - 1) (by omega) (by omega)
        rw [show lo + (k - lo)=k by omega] at r1 r2
        rw [show lo + (n - 1)=lo + n - 1 by omega] at r2
        exact KeyOrd.kle_antisymm r2 (KeyOrd.kle_trans hr r1)
      have hd:Ds κ (arrOf b) lo (n + 1):=Ds.more (fun i j q1 q2=>by rw [hall (lo + i) (by omega) (by omega),hall (lo + j) (by omega) (by omega)]; exact KeyOrd.kle_refl _) (by omega) (KeyOrd.kle_of_klt hlt)
      refine wpS_bind (wpS_reverse ?_)
      exact 8113 (hb.mir (Nat.le_refl _) (by omega)) (hd.cg (KK_mirror_equal hsz0 hall))
    · rw [if_pos rfl]; exact wpS_pure (h n b hb hn1 hn2 hsn)
  · rw [if_neg d]
    have:n=1:=by omega
    subst this
    have hd:Ds κ (arrOf b) lo (1 + 1):=Ds.more (fun i j q1 q2=>by rw [show i=j by omega]; exact KeyOrd.kle_refl _) (Nat.le_refl 1) (KeyOrd.kle_of_klt hlt)
    exact 8113 hb hd
end
end SO
namespace SO
set_option autoImplicit false
set_option linter.unusedVariables false
open PySem PyProof.Rows
noncomputable def Fit (κ:KeyKind):Nat->List (Nat × Nat × Nat)->List (List Keyed)->Prop
  | _,[],[]=>True
  | o,x :: p,X :: rs=>x.1=o /\ X.length=x.2.1 /\ 0 < x.2.1 /\ Srt κ X /\ Fit κ (o + x.2.1) p rs
  | _,_,_=>False
theorem Fit.push {κ:KeyKind} {X:List Keyed} {n pw:Nat} (hX:X.length=n) (h0:0 < n) (sX:Srt κ X):∀ {o:Nat} {p:List (Nat × Nat × Nat)} {rs:List (List Keyed)},Fit κ o p rs ->
    Fit κ o (p ++ [(o + rs.flatten.length,n,pw)]) (rs ++ [X])
  | o,[],[],_=>⟨rfl,hX,h0,sX,trivial⟩
  | o,x :: p,Y :: rs,h=>by
    obtain ⟨h1,h2,h3,h4,h5⟩:=h
    refine ⟨h1,h2,h3,h4,?_⟩
    have:=Fit.push (pw:=pw) hX h0 sX h5
    rw [show o + (Y :: rs).flatten.length=o + x.2.1 + rs.flatten.length by simp; omega]
    exact this
  | o,[],_ :: _,h=>h.elim
  | o,_ :: _,[],h=>h.elim
theorem Fit.len {κ:KeyKind}:∀ {o:Nat} {p:List (Nat × Nat × Nat)} {rs:List (List Keyed)},Fit κ o p rs->p.length<=rs.flatten.length
  | o,[],[],_=>Nat.le_refl _
  | o,x :: p,Y :: rs,h=>by
    obtain ⟨h1,h2,h3,h4,h5⟩:=h
    have:=h5.len
    simp only [List.length_cons,List.flatten_cons,List.length_append]; omega
  | o,[],_ :: _,h=>h.elim
  | o,_ :: _,[],h=>h.elim
theorem Fit.set {κ:KeyKind} {pw:Nat}:∀ {o:Nat} {p:List (Nat × Nat × Nat)} {rs:List (List Keyed)} (i:Nat),Fit κ o p rs ->
    Fit κ o (p.modify i fun x=>(x.1,x.2.1,pw)) rs
  | o,[],[],i,_=>by simp [Fit]
  | o,x :: p,Y :: rs,0,h=>h
  | o,x :: p,Y :: rs,i + 1,h=>by
    obtain ⟨h1,h2,h3,h4,h5⟩:=h
    exact ⟨h1,h2,h3,h4,h5.set i⟩
  | o,[],_ :: _,i,h=>h.elim
  | o,_ :: _,[],i,h=>h.elim
theorem Fit.at {κ:KeyKind}:∀ {o:Nat} {p:List (Nat × Nat × Nat)} {rs:List (List Keyed)} (i:Nat),Fit κ o p rs->i + 1 < p.length ->
    ∃ sa na pw sb nb pw2 rs1 X Y rs2,p[i]?=some (sa,na,pw) /\ p[i + 1]?=some (sb,nb,pw2) /\ rs=rs1 ++ X :: Y :: rs2 /\ o + rs1.flatten.length=sa /\ X.length=na /\ sb=sa + na /\ Y.length=nb /\
      0 < na /\ 0 < nb /\ Srt κ X /\ Srt κ Y /\ ∀ Z,Z.length=na + nb->Srt κ Z->Fit κ o ((p.set i (sa,na + nb,pw)).eraseIdx (i + 1)) (rs1 ++ Z :: rs2)
  | o,x :: [],_,0,h,hl=>by simp at hl
  | o,x :: y :: p,[_],0,h,hl=>h.2.2.2.2.elim
  | o,x :: y :: p,X :: Y :: rs,0,h,hl=>by
    obtain ⟨h1,h2,h3,h4,f1,f2,f3,f4,f5⟩:=h
    refine ⟨x.1,x.2.1,x.2.2,y.1,y.2.1,y.2.2,[],X,Y,rs,rfl,rfl,rfl,h1.symm,h2,?_,f2,h3,f3,h4,f4,fun Z z1 z2=>⟨h1,z1,?_,z2,?_⟩⟩
    · rw [f1,h1]
    · show 0 < x.2.1 + y.2.1; omega
    · show Fit κ (o + (x.2.1 + y.2.1)) p rs
      rw [<- Nat.add_assoc]; exact f5
  | o,x :: p,Y :: rs,i + 1,h,hl=>by
    obtain ⟨h1,h2,h3,h4,h5⟩:=h
    obtain ⟨sa,na,pw,sb,nb,pw2,rs1,X,Y',rs2,g1,g2,g3,g4,g5,g6,g7,g8,g9,g10,g11,g12⟩:=h5.at i (by simpa using hl)
    refine ⟨sa,na,pw,sb,nb,pw2,Y :: rs1,X,Y',rs2,g1,g2,by rw [g3]; rfl,by rw [<- g4]; simp; omega,g5,g6,g7,g8,g9,g10,g11,fun Z z1 z2=>?_⟩
    exact ⟨h1,h2,h3,h4,g12 Z z1 z2⟩
  | o,[],_,i,h,hl=>by simp at hl
  | o,_ :: _,[],i,h,_=>h.elim
structure Iv (κ:KeyKind) (a₀:Array Keyed) (lo:Nat) (T:List Keyed) (st:SortSt):Prop where
  kind:kindOf st=oneType'
  failed:failedOf st=none
  perm:(arrOf st).Perm a₀
  runs:∃ rs,(arrOf st).toList=rs.flatten ++ T /\ rs.flatten.length=lo /\ Fit κ 0 (pendingOf st).toList rs
section
variable {prog:Program} {w:World} {A:Around} {E:Value->Shared->Prop} {s:Shared} {κ:KeyKind} {lo:Nat} {a₀:Array Keyed} {st:SortSt} {T:List Keyed}
theorem Iv.has (h:Iv κ a₀ lo T st) (h0:KeysOf κ a₀):∀ p,p ∈ (arrOf st).toList->Has κ p:=fun p hp=>h0 p ((Array.perm_iff_toList_perm.mp h.perm).mem_iff.mp hp)
theorem w_join (hO:κ.OneLt) (h0:KeysOf κ a₀) (hi:Iv κ a₀ lo T st) {i:Nat} {Q:Bool->SortSt->Prop} (hl:i + 1 < (pendingOf st).size)
    (h:∀ st',Iv κ a₀ lo T st'->(pendingOf st').size + 1=(pendingOf st).size->Q true st'):wpS (model prog w) A E s (mergeAt' i) Q st:=by
  obtain ⟨rs,r1,r2,r3⟩:=hi.runs
  obtain ⟨sa,na,pw,sb,nb,pw2,rs1,X,Y,rs2,g1,g2,g3,g4,g5,g6,g7,g8,g9,g10,g11,g12⟩:=r3.at i (by simpa using hl)
  subst g3
  refine w_mergeAt (L:=rs1.flatten) (X:=X) (Y:=Y) (T:=rs2.flatten ++ T) hO hi.kind hi.failed (by rw [<- g1]; simp) (by rw [<- g2]; simp) (by rw [r1]; simp) (by omega) g5 g6 g7 g8 g9 (hi.has h0) g10 g11 fun st' Z e1 e2 e3 e4 e5 e6=>?_
  have hzl:Z.length=na + nb:=by rw [e5.length_eq,List.length_append,g5,g7]
  refine h st' ⟨e1,e2,?_,rs1 ++ Z :: rs2,by rw [e4]; simp,?_,?_⟩ ?_
  · rw [Array.perm_iff_toList_perm]
    refine List.Perm.trans ?_ (Array.perm_iff_toList_perm.mp hi.perm)
    rw [e4,r1]
    simp only [List.flatten_append,List.flatten_cons,List.append_assoc]
    refine List.Perm.append_left _ ?_
    rw [<- List.append_assoc X]
    exact List.Perm.append_right _ e5
  · simp only [List.flatten_append,List.flatten_cons,List.length_append] at r2 ⊢; omega
  · rw [e3,Array.toList_eraseIdxIfInBounds,Array.toList_setIfInBounds]; exact g12 Z hzl e6
  · rw [e3,<- Array.length_toList,Array.toList_eraseIdxIfInBounds,Array.toList_setIfInBounds,List.length_eraseIdx,if_pos (by simpa using hl)]
    simp only [List.length_set,Array.length_toList]; omega
theorem Bs.iv {b:SortSt} {n:Nat} (hi:Iv κ a₀ lo T st) (hb:Bs lo st b) (hn:n<=T.length) (hs:As κ (arrOf b) lo n) :
    ∃ X T',Iv κ a₀ lo (X ++ T') b /\ X.length=n /\ Srt κ X:=by
  obtain ⟨rs,r1,r2,r3⟩:=hi.runs
  have hl:=congrArg List.length r1
  rw [List.length_append,Array.length_toList] at hl
  have hz:=hb.sz
  have e:(arrOf b).toList.take lo=rs.flatten:=by
    refine List.ext_getElem? fun i=>?_
    by_cases c:i < lo
    · rw [List.getElem?_take,if_pos c,Array.getElem?_toList,hb.low i c,<- Array.getElem?_toList,r1,List.getElem?_append_left (by omega)]
    · rw [List.getElem?_take,if_neg c,List.getElem?_eq_none (by omega)]
  refine ⟨((arrOf b).toList.drop lo).take n,((arrOf b).toList.drop lo).drop n,⟨hb.kind,hb.failed,hb.perm.trans hi.perm,rs,?_,r2,?_⟩,?_,?_⟩
  · rw [List.take_append_drop,<- e,List.take_append_drop]
  · rw [hb.pend]; exact r3
  · simp; omega
  · refine List.pairwise_iff_getElem.mpr fun i j q1 q2 q3=>?_
    have hj:j < n:=by rw [List.length_take] at q2; omega
    have key:∀ k (q:k < (((arrOf b).toList.drop lo).take n).length),kk κ ((((arrOf b).toList.drop lo).take n)[k])=KK κ (arrOf b) (lo + k):=by
      intro k q
      unfold KK kk
      rw [List.length_take,List.length_drop,Array.length_toList] at q
      have e:(arrOf b)[lo + k]?=some (arrOf b)[lo + k]:=getElem?_pos _ _ (by omega)
      rw [e]
      simp
    unfold le
    rw [key i q1,key j q2]
    exact hs i j (by omega) hj
theorem Iv.more {X T':List Keyed} {n pw:Nat} (hi:Iv κ a₀ lo (X ++ T') st) (hX:X.length=n) (h0:0 < n) (sX:Srt κ X):Iv κ a₀ (lo + n) T' (setPending st ((pendingOf st).push (lo,n,pw))):=by
  obtain ⟨rs,r1,r2,r3⟩:=hi.runs
  refine ⟨hi.kind,hi.failed,hi.perm,rs ++ [X],?_,?_,?_⟩
  · show (arrOf st).toList=_; rw [r1]; simp
  · simp [r2,hX]
  · show Fit κ 0 ((pendingOf st).push (lo,n,pw)).toList _
    have:=Fit.push (pw:=pw) hX h0 sX r3
    rw [Nat.zero_add,r2] at this
    simpa using this
theorem Iv.set {pw i:Nat} (hi:Iv κ a₀ lo T st):Iv κ a₀ lo T (setPending st ((pendingOf st).modify i fun x=>(x.1,x.2.1,pw))):=by
  obtain ⟨rs,r1,r2,r3⟩:=hi.runs
  refine ⟨hi.kind,hi.failed,hi.perm,rs,r1,r2,?_⟩
  show Fit κ 0 ((pendingOf st).modify i _).toList _
  rw [Array.toList_modify]; exact r3.set i
set_option hygiene false in
local macro_rules | `(tactic| exact 8114 $n)=>`(tactic| (
    refine wpS_bind (wpS_get ?_)
    cases hbk:(pendingOf _).back? with
    | none =>
      dsimp only
      exact wpS_bind (wpS_modify (wpS_pure ⟨lo + $n,T',rfl,hv.more hX (by omega) sX,by omega,by omega⟩))
    | some z =>
      obtain ⟨s1,n1,pz⟩:=z
      dsimp only
      refine wpS_bind (wpS_mono (wpS_forRange (I:=fun _ r c=>r=(none,()) /\ Iv κ a₀ lo (X ++ T') c) (Q:=fun r c=>r=(none,()) /\ Iv κ a₀ lo (X ++ T') c) ?_ (fun _ _ hh=>hh) ⟨rfl,hv⟩) ?_)
      · rintro x' r c _ _ ⟨rfl,g⟩
        refine wpS_bind (wpS_get ?_)
        by_cases cc:(pendingOf c).size > 1
        · rw [if_pos cc]
          cases ho:(pendingOf c)[(pendingOf c).size - 2]? with
          | none=>exact wpS_pure ⟨rfl,g⟩
          | some z =>
            obtain ⟨z1,z2,z3⟩:=z
            dsimp only
            by_cases cd:z3<=power' a₀.size (2 * s1 + n1) (2 * s1 + n1 + n1 + $n) a₀.size
            · rw [if_pos cd]; exact wpS_pure ⟨rfl,g⟩
            · rw [if_neg cd]
              refine wpS_bind (w_join hO h0 g (by omega) fun c' g' _=>?_)
              exact wpS_pure ⟨rfl,g'⟩
        · rw [if_neg cc]; exact wpS_pure ⟨rfl,g⟩
      · rintro r c ⟨rfl,g⟩
        dsimp only
        exact wpS_bind (wpS_modify (wpS_bind (wpS_modify (wpS_pure ⟨lo + $n,T',rfl,Iv.more g.set hX (by omega) sX,by omega,by omega⟩))))))
theorem w_sortRuns (hO:κ.OneLt) (h0:KeysOf κ a₀) (hk:kindOf st=oneType') (hf:failedOf st=none) (hp:pendingOf st=#[]) (ha:arrOf st=a₀) (h1:1<=minRun' a₀.size a₀.size 0) {Q:Unit->SortSt->Prop}
    (h:∀ st',(arrOf st').Perm a₀->failedOf st'=none->Srt κ (arrOf st').toList->Q () st'):wpS (model prog w) A E s sortRuns' Q st:=by
  rw [sortRuns'_eq]
  refine wpS_bind (wpS_get ?_)
  dsimp only
  rw [ha]
  refine wpS_bind (wpS_mono (wpS_forRange (I:=fun x r c=>∃ lo T,r=(none,lo) /\ Iv κ a₀ lo T c /\ x<=lo /\ lo<=a₀.size)
    (Q:=fun r c=>∃ T,r=(none,a₀.size) /\ Iv κ a₀ a₀.size T c) ?sp ?fn ?ini) ?po)
  case ini=>exact ⟨0,a₀.toList,rfl,⟨hk,hf,by rw [ha],[],by rw [ha]; rfl,rfl,by rw [hp]; trivial⟩,by omega,by omega⟩
  case fn =>
    rintro r c ⟨lo,T,rfl,g,q1,q2⟩
    have:lo=a₀.size:=by omega
    subst this
    exact ⟨T,rfl,g⟩
  case sp =>
    rintro x r c _ hx ⟨lo,T,rfl,g,q1,q2⟩
    dsimp only
    by_cases d:lo >= a₀.size
    · rw [if_pos d]
      have:lo=a₀.size:=by omega
      subst this
      exact wpS_pure ⟨T,rfl,g⟩
    rw [if_neg d]
    have hz:(arrOf c).size=a₀.size:=g.perm.size_eq
    have hT:T.length=a₀.size - lo:=by
      obtain ⟨rs,r1,r2,r3⟩:=g.runs
      have:=congrArg List.length r1
      rw [List.length_append,Array.length_toList] at this; omega
    refine wpS_bind (w_run (a:=c) hO (g.has h0) (by omega) (by omega) ⟨g.kind,g.failed,rfl,Array.Perm.refl _,fun _ _=>rfl⟩ fun n b hb n1 n2 hs=>?_)
    dsimp only
    by_cases e:n < minRun' a₀.size a₀.size 0
    · rw [if_pos e]
      refine wpS_bind (wpS_lift (wpAny_rule ⟨rfl,?_⟩))
      refine wpS_bind (w_bin (a:=c) hO (g.has h0) (by omega) (by omega) hb hs fun b' hb' hs'=>?_)
      simp only [Bool.not_true,Bool.false_eq_true,if_false]
      obtain ⟨X,T',hv,hX,sX⟩:=Bs.iv g hb' (by omega) hs'
      exact 8114 (min (a₀.size - lo) (minRun' a₀.size a₀.size 0))
    · rw [if_neg e]
      obtain ⟨X,T',hv,hX,sX⟩:=Bs.iv g hb (by omega) hs
      exact 8114 n
  case po =>
    rintro r c ⟨T,rfl,g⟩
    dsimp only
    refine wpS_bind (wpS_mono (wpS_forRange (I:=fun x r c=>r=(none,()) /\ Iv κ a₀ a₀.size T c /\ (pendingOf c).size + x<=a₀.size + 1) (Q:=fun r c=>r=(none,()) /\ Iv κ a₀ a₀.size T c /\ (pendingOf c).size<=1) ?s2 ?f2 ?i2) ?p2)
    case i2 =>
      obtain ⟨rs,r1,r2,r3⟩:=g.runs
      have:=r3.len
      rw [Array.length_toList] at this
      exact ⟨rfl,g,by omega⟩
    case f2 =>
      rintro r c ⟨rfl,g,q⟩
      exact ⟨rfl,g,by omega⟩
    case s2 =>
      rintro x r c _ hx ⟨rfl,g,q⟩
      refine wpS_bind (wpS_get ?_)
      by_cases d:(pendingOf c).size<=1
      · rw [if_pos d]; exact wpS_pure ⟨rfl,g,d⟩
      rw [if_neg d]
      refine wpS_bind (w_join hO h0 g ?_ fun c' g' z=>wpS_pure ⟨rfl,g',by omega⟩)
      by_cases u:(Option.any (fun x=>decide (x < Option.elim (pendingOf c)[(pendingOf c).size - 2 + 1]? 0 fun x=>x.2.1)) (if (pendingOf c).size - 2 > 0 then Option.map (fun x=>x.2.1) (pendingOf c)[(pendingOf c).size - 2 - 1]? else none))=true
      · rw [if_pos u]; omega
      · rw [if_neg u]; omega
    case p2 =>
      rintro r c ⟨rfl,g,q⟩
      refine wpS_pure (h c g.perm g.failed ?_)
      obtain ⟨rs,r1,r2,r3⟩:=g.runs
      have hl:=congrArg List.length r1
      rw [List.length_append,Array.length_toList,g.perm.size_eq,r2] at hl
      have:T=[]:=List.length_eq_zero_iff.mp (by omega)
      subst this
      rw [r1,List.append_nil]
      rw [<- Array.length_toList] at q
      generalize (pendingOf c).toList=pl at q r3
      match pl,rs,r3 with
      | [],[],_=>exact List.Pairwise.nil
      | [_],[X],h=>rw [List.flatten_cons,List.flatten_nil,List.append_nil]; exact h.2.2.2.1
      | _ :: _ :: _,_,_=>simp at q
      | [_],_ :: _ :: _,h=>exact h.2.2.2.2.elim
theorem minRun_pos:∀ f n r,1<=n->n<=f->1<=minRun' f n r
  | 0,n,r,h1,h2=>by omega
  | f + 1,n,r,h1,h2=>by
    rw [minRun'_succ]
    by_cases c:n < 64
    · rw [if_pos c]; omega
    · rw [if_neg c]; exact minRun_pos f _ _ (by omega) (by omega)
end
end SO
namespace ST
set_option autoImplicit false
set_option linter.unusedVariables false
open PySem PyProof.Rows
theorem orS_led (t:SetTable) (n:Nat):(t.orStandIn n).led=t.led /\ (t.plain=false->(t.orStandIn n).plain=false):=by
  unfold SetTable.orStandIn
  split
  · exact ⟨rfl,id⟩
  · exact ⟨rfl,fun _=>rfl⟩
theorem layNew_led (t:SetTable) (es:Array (Int × Value)) (h:Int) (x:Value):(layNew t es h x).2.1.led=t.led:=by
  unfold layNew
  split
  · rename_i sl wd _
    exact (orS_led (t.put sl).1 _).1
  · rfl
theorem layNew_plain (t:SetTable) (es:Array (Int × Value)) (h:Int) (x:Value) (hp:t.plain=false):(layNew t es h x).2.1.plain=false:=by
  unfold layNew
  split
  · rename_i sl wd _
    exact (orS_led (t.put sl).1 _).2 hp
  · rfl
theorem relaid_led {t:SetTable} {hs:Array Int} {n:Nat} {r:SetTable × Array Nat} (h:t.relaid hs n=some r):r.1.led=t.led /\ r.1.plain=t.plain:=by
  unfold SetTable.relaid SetTable.laid at h
  cases e:SetTable.layClean (SetTable.sizeAbove n - 1) hs with
  | none=>rw [e] at h; cases h
  | some o=>rw [e] at h; cases h; exact ⟨rfl,rfl⟩
theorem relayAll_led (t:SetTable) (es:Array (Int × Value)) (n:Nat):(relayAll t es n).2.1.led=t.led:=by
  unfold relayAll
  split
  · rename_i t' o e
    dsimp only
    split
    · exact (relaid_led e).1
    · rfl
  · rfl
theorem relayAll_plain (t:SetTable) (es:Array (Int × Value)) (n:Nat) (hp:t.plain=false):(relayAll t es n).2.1.plain=false:=by
  unfold relayAll
  split
  · rename_i t' o e
    dsimp only
    split
    · exact (relaid_led e).2.trans hp
    · rfl
  · rfl
noncomputable def Ent (w:World) (es:Array (Int × Value)):Prop:=∀ e ∈ es.toList,∃ x t,e=(hashStr w x,.str x t)
noncomputable def keys (es:Array (Int × Value)):List Str:=es.toList.map fun e=>strOf e.2
structure TSo (w:World) (o:Obj) (es:Array (Int × Value)) (ep:Nat) (t:SetTable) (ss:List Str) (led:Bool):Prop where
  obj:o={ cls:=.type "set",dict:=none,data:=.set es ep t,slots:=#[] }
  ent:Ent w es
  perm:(keys es).Perm ss
  nodup:ss.Nodup
  fits:t.fits es.size=true
  led:t.led=led
  plain:t.plain=true->es.size=0
  small:es.size < scanBound
noncomputable def TS (w:World) (o:Obj) (ss:List Str) (led:Bool):Prop:=∃ es ep t,TSo w o es ep t ss led
theorem Ent.elems {prog:Program} {w:World} {es:Array (Int × Value)} (h:Ent w es):ElemsOf (strKind prog w) es.toList:=fun e he=>by
  obtain ⟨x,t,rfl⟩:=h e he
  exact ⟨⟨x,by show (x == x)=true; exact beq_self_eq_true x,rfl⟩,rfl⟩
theorem Ent.mem {w:World} {es:Array (Int × Value)} (h:Ent w es) (x:Str):x ∈ keys es ↔ ∃ e ∈ es.toList,Value.isStrOf x e.2=true:=by
  unfold keys
  rw [List.mem_map]
  constructor
  · rintro ⟨e,he,rfl⟩
    obtain ⟨y,t,rfl⟩:=h e he
    exact ⟨_,he,by show (y == y)=true; exact beq_self_eq_true y⟩
  · rintro ⟨e,he,hx⟩
    obtain ⟨y,t,rfl⟩:=h e he
    have:y=x:=by simpa [Value.isStrOf] using hx
    exact ⟨_,he,this⟩
section
variable {prog:Program} {w:World} {A:Around} {E:Value->Shared->Prop} {s:Shared}
theorem TSo.store {o:Obj} {es es':Array (Int × Value)} {ep:Nat} {t t':SetTable} {ss ss':List Str} {led:Bool} {a:Addr} {h:Heap} (hT:TSo w o es ep t ss led) (ho:h.get? a=some o)
    (e1:Ent w es') (e2:(keys es').Perm ss') (e3:ss'.Nodup) (e4:t'.fits es'.size=true) (e5:t'.led=led) (e6:t'.plain=true->es'.size=0) (e7:es'.size < scanBound) :
    ∃ o',(h.update a (Obj.putSet es' t')).get? a=some o' /\ TSo w o' es' (ep + 1) t' ss' led:=by
  have hd:o.data=.set es ep t:=by rw [hT.obj]
  have hg:=Heap.get?_update_self (Obj.putSet es' t') ho (by rw [putSet_of es' t' hd]; rfl)
  rw [putSet_of es' t' hd] at hg
  refine ⟨_,hg,?_,e1,e2,e3,e4,e5,e6,e7⟩
  rw [hT.obj]
theorem w_add {a:Addr} {o:Obj} {ss:List Str} {led:Bool} {x:Str} {tk:Tok} {Q:Bool->Shared->Prop} (ho:s.heap.get? a=some o) (hT:TS w o ss led) (hroom:ss.length + 1 < scanBound)
    (h:∀ h' o' b,Heap.SameBut a s.heap h'->h'.get? a=some o'->TS w o' (if x ∈ ss then ss else ss ++ [x]) led->Q b { s with heap:=h' }) :
    wpAny (model prog w) A (setAddHashed a (.str x tk) (hashStr w x)) Q E s:=by
  obtain ⟨es,ep,t,hT⟩:=hT
  have hd:o.data=.set es ep t:=by rw [hT.obj]
  have hel:ElemsOf (strKind prog w) es.toList:=hT.ent.elems
  have hn:es.size=ss.length:=by rw [<- hT.perm.length_eq]; simp [keys]
  have hkey:(strKind prog w).is x (.str x tk)=true:=by show (x == x)=true; exact beq_self_eq_true x
  have hmem:x ∈ ss ↔ ∃ e ∈ es.toList,(strKind prog w).is x e.2=true:=by rw [<- hT.perm.mem_iff]; exact hT.ent.mem x
  unfold setAddHashed setAddHashedIn
  refine wpAny_holding (wpAny_bind (wpAny_setState_of ho hd hT.fits ?_))
  dsimp only
  rw [byScan_of (knd:=strKind prog w) (x:=.str x tk) rfl hT.small hel,if_pos rfl]
  unfold setAddByScan
  refine wpAny_bind (wpAny_bind (wpAny_rule ?_))
  refine wpAny_bind (wpAny_setScan_of (knd:=strKind prog w) hkey ho hd hT.fits hel ?_)
  cases hr:List.findIdx? (fun e=>(strKind prog w).is x e.2) es.toList with
  | some j =>
    dsimp only
    obtain ⟨hj,hpj,_⟩:=List.findIdx?_eq_some_iff_getElem.mp hr
    have hx:x ∈ ss:=hmem.mpr ⟨_,List.getElem_mem hj,hpj⟩
    have:=h s.heap o false (Heap.SameBut.refl a s.heap) ho (by rw [if_pos hx]; exact ⟨es,ep,t,hT⟩)
    exact wpAny_pure (wpAny_pure this)
  | none =>
    dsimp only
    have hx:x ∉ ss:=fun hx=>by
      obtain ⟨e,he,hp⟩:=hmem.mp hx
      have:=List.findIdx?_eq_none_iff.mp hr e he
      rw [hp] at this; exact Bool.noConfusion this
    rw [if_neg hx] at h
    have hgw:∀ (b:Bool) {s₁:Shared} {Q':Unit->Shared->Prop},Q' () s₁->wpAny (model prog w) A (match b with | true=>rule "set.scan.the-table-gave-way" | false=>pure ()) Q' E s₁ :=
      fun b s₁ Q' hq=>by cases b <;> first | exact wpAny_pure hq | exact wpAny_rule hq
    have l1:=layNew_perm t es (hashStr w x) (.str x tk)
    have l2:=layNew_fits t es (hashStr w x) (.str x tk)
    have l3:=layNew_led t es (hashStr w x) (.str x tk)
    have l4:=layNew_plain t es (hashStr w x) (.str x tk)
    have e0:(strKind prog w).hash x=hashStr w x:=rfl
    generalize hL:layNew t es (hashStr w x) (.str x tk)=L at l1 l2 l3 l4 ⊢
    obtain ⟨es1,t1,wd,gv⟩:=L
    dsimp only at l1 l2 l3 l4 ⊢
    rw [Array.toList_push] at l1
    have f1:Ent w es1:=fun e he=>by
      rcases List.mem_append.mp (l1.mem_iff.mp he) with he | he
      · exact hT.ent e he
      · exact ⟨x,tk,List.mem_singleton.mp he⟩
    have f2:(keys es1).Perm (ss ++ [x]):=by
      have:=l1.map fun e=>strOf e.2
      rw [List.map_append] at this
      exact this.trans (hT.perm.append_right _)
    have f3:(ss ++ [x]).Nodup:=by
      refine List.nodup_append.mpr ⟨hT.nodup,by simp,fun a ha b hb e=>hx ?_⟩
      rw [List.mem_singleton.mp hb] at e; rw [<- e]; exact ha
    have f4:es1.size=ss.length + 1:=by rw [<- Array.length_toList,l1.length_eq]; simp [hn]
    refine wpAny_bind (hgw _ ?_)
    have tail:∀ t2:SetTable,t2.fits es1.size=true->t2.led=led->t2.plain=false->wpAny (model prog w) A (do
        storeSet a es1 t2
        if (!wd && t2.tooFull)=true then do
            (match (relayAll t2 es1 (SetTable.grown es1.size)).2.2 with | true=>rule "set.scan.the-table-gave-way" | false=>pure ())
            storeSet a (relayAll t2 es1 (SetTable.grown es1.size)).1 (relayAll t2 es1 (SetTable.grown es1.size)).2.1
            pure (some true)
          else pure (some true)) (fun r s'=>∃ h' o',s'={ s with heap:=h' } /\ r=some true /\ Heap.SameBut a s.heap h' /\ h'.get? a=some o' /\ TS w o' (ss ++ [x]) led) E s:=by
      intro t2 g1 g2 g3
      refine wpAny_bind (wpAny_storeSet_of ho hd ?_ (fits_of_scanBound (by omega)))
      obtain ⟨o1,ho1,hT1⟩:=hT.store (es':=es1) (t':=t2) (ss':=ss ++ [x]) ho f1 f2 f3 g1 g2 (fun hp=>by rw [g3] at hp; cases hp) (by omega)
      have sb1:=Heap.SameBut.update s.heap a (Obj.putSet es1 t2)
      by_cases c:(!wd && t2.tooFull)=true
      · rw [if_pos c]
        have r1:=relayAll_perm t2 es1 (SetTable.grown es1.size)
        have r2:=relayAll_fits t2 es1 (SetTable.grown es1.size)
        have r3:=relayAll_led t2 es1 (SetTable.grown es1.size)
        have r4:=relayAll_plain t2 es1 (SetTable.grown es1.size) g3
        generalize relayAll t2 es1 (SetTable.grown es1.size)=R at r1 r2 r3 r4 ⊢
        obtain ⟨es2,t3,gv2⟩:=R
        dsimp only at r1 r2 r3 r4 ⊢
        have hz:es2.size=es1.size:=by rw [<- Array.length_toList,r1.length_eq,Array.length_toList]
        refine wpAny_bind (hgw _ ?_)
        refine wpAny_bind (wpAny_storeSet_of ho1 (by rw [hT1.obj]) ?_ (fits_of_scanBound (by omega)))
        obtain ⟨o2,ho2,hT2⟩:=hT1.store (es':=es2) (t':=t3) (ss':=ss ++ [x]) ho1 (fun e he=>f1 e (r1.mem_iff.mp he)) ((r1.map fun e:Int × Value=>strOf e.2).trans f2) f3 r2 (r3.trans g2) (fun hp=>by rw [r4] at hp; cases hp) (by omega)
        exact wpAny_pure ⟨_,o2,rfl,rfl,sb1.trans (Heap.SameBut.update _ a _),ho2,_,_,_,hT2⟩
      · rw [if_neg c]
        exact wpAny_pure ⟨_,o1,rfl,rfl,sb1,ho1,_,_,_,hT1⟩
    cases hp:t1.plain
    · refine wpAny_bind (wpAny_pure ?_)
      refine wpAny_mono (tail t1 l2 (l3.trans hT.led) hp) ?_ fun _ _ e=>e
      rintro _ _ ⟨h',o',rfl,rfl,q1,q2,q3⟩
      exact wpAny_pure (h h' o' true q1 q2 q3)
    · refine wpAny_bind ?_
      rw [hashByValue_scannable 8 (x:=.str x tk) rfl]
      refine wpAny_pure ?_
      refine wpAny_mono (tail { t1 with plain:=false } (SetTable.fits_plain_off l2) (l3.trans hT.led) rfl) ?_ fun _ _ e=>e
      rintro _ _ ⟨h',o',rfl,rfl,q1,q2,q3⟩
      exact wpAny_pure (h h' o' true q1 q2 q3)
end
end ST
namespace ST
set_option autoImplicit false
set_option linter.unusedVariables false
set_option maxRecDepth 100000
open PySem PyProof.Rows
noncomputable def dd (l:List Str):List Str:=l.foldl (fun σ x=>if x ∈ σ then σ else σ ++ [x]) []
theorem dd_snoc (l:List Str) (x:Str):dd (l ++ [x])=if x ∈ dd l then dd l else dd l ++ [x]:=by
  unfold dd; rw [List.foldl_append]; rfl
theorem dd_take {l:List Str} {i:Nat} {x:Str} (h:l[i]?=some x):dd (l.take (i + 1))=if x ∈ dd (l.take i) then dd (l.take i) else dd (l.take i) ++ [x]:=by
  rw [<- dd_snoc,List.take_add_one,h]; rfl
theorem len_snoc (l:List Str):∀ (σ:List Str),(l.foldl (fun σ x=>if x ∈ σ then σ else σ ++ [x]) σ).length<=σ.length + l.length:=by
  induction l with
  | nil=>intro σ; exact Nat.le_refl _
  | cons x l ih =>
    intro σ
    rw [List.foldl_cons]
    refine Nat.le_trans (ih _) ?_
    split <;> simp <;> omega
theorem dd_len (l:List Str):(dd l).length<=l.length:=by have:=len_snoc l []; simpa [dd] using this
noncomputable abbrev byT (w:World):Bool:=w.params.followText "set-order"
section
variable {prog:Program} {w:World} {A:Around} {R:Result->Shared->Prop} {I:Addr} {fp wr:List Addr} {G:Array GenState->Array GenState->Prop} {n:Nat} {P:Nat->Value->Prop} {St:Nat->Shared->Prop}
theorem w_loop (W:WalksS prog w A.in1 I fp wr G n P St) (S:Addr) (hSf:S ∉ fp) (l:List Str) (hl:l.length=n) (hval:∀ i v,P i v->∃ x t,l[i]?=some x /\ v=.str x t) (hb:n + 1 < scanBound) (led:Bool) :
    ∀ (k i:Nat) (s:Shared),n - i=k->i<=n->St i s->(∃ o,s.heap.get? S=some o /\ TS w o (dd (l.take i)) led) ->
      (∀ s' o,Moved (S :: wr) G s s'->s'.heap.get? S=some o->TS w o (dd l) led->R (.ok (.ret .none)) s') ->
      codeAny (model prog w) A (.builtin "set.update.loop" ⟨[.ref S,.ref I],[]⟩) R s:=by
  have hSw:S ∉ wr:=fun h=>hSf (W.sub _ h)
  have hsub:∀ b ∈ wr,b ∈ S :: wr:=fun b hb=>List.mem_cons_of_mem _ hb
  intro k
  induction k with
  | zero =>
    rintro i s hk hi hst ⟨o,ho,hS⟩ hR
    obtain rfl:i=n:=by omega
    rw [List.take_of_length_le (by omega)] at hS
    refine codeAny_builtin PyProof.Rows.F.entry_set_update_loop ?_
    rw [Around.under_plainId PyProof.Rows.F.plain_set_update_loop _]
    show wpAny _ A.in1 (pyNext (.ref I) >>= _) _ _ s
    exact wpAny_bind (W.done s _ _ hst fun s' hm=>wpAny_pure (hR s' o (hm.mono hsub) (hm.heap S _ hSw ho) hS))
  | succ k ih =>
    rintro i s hk hi hst ⟨o,ho,hS⟩ hR
    refine codeAny_builtin PyProof.Rows.F.entry_set_update_loop ?_
    rw [Around.under_plainId PyProof.Rows.F.plain_set_update_loop _]
    show wpAny _ A.in1 (pyNext (.ref I) >>= _) _ _ s
    refine wpAny_bind (W.item i s _ _ (by omega) hst fun v s' hP hst' hm=>?_)
    obtain ⟨x,t,hx,rfl⟩:=hval i v hP
    show wpAny _ A.in1 (holding [Value.str x t] (setAdd S (.str x t)) >>= _) _ _ s'
    refine wpAny_bind (wpAny_holding ?_)
    unfold setAdd
    refine wpAny_holding (wpAny_bind ((strKind prog w).pyHash (k:=x) (by show (x == x)=true; exact beq_self_eq_true x) ?_))
    have hlen:=dd_len (l.take i)
    rw [List.length_take] at hlen
    refine w_add (s:={ s' with toks:=s'.toks + 1 }) (hm.heap S _ hSw ho) hS (by omega) fun h' o' b sb ho' hS'=>?_
    rw [<- dd_take hx] at hS'
    refine wpAny_pure ⟨plainId_quiet PyProof.Rows.F.plain_set_update_loop _,ih (i + 1) _ (by omega) (by omega) (W.frame _ s' _ _ hst' (Nat.le_succ _) fun b hb o e=>?_) ⟨o',ho',hS'⟩ fun s'' o'' hm'' q1 q2=>?_⟩
    · rw [sb.2 b (fun h:b=S=>hSf (by rw [<- h]; exact hb))]; exact e
    · refine hR s'' o'' (Moved.trans W.gtrans ((hm.mono hsub).then_heap (Nat.le_succ _) fun b o hb e=>?_) hm'') q1 q2
      rw [sb.2 b (fun h:b=S=>hb (by rw [h]; exact List.mem_cons_self))]; exact e
end
noncomputable def fresh0 (w:World):Obj:={ cls:=.type "set",dict:=none,data:=.set #[] 0 (.fresh 0 0 (!byT w)) }
theorem fresh0_ts (w:World):TS w (fresh0 w) [] (!byT w):=⟨#[],0,_,rfl,fun e he=>by simp at he,List.Perm.refl _,List.nodup_nil,rfl,rfl,fun _=>rfl,by decide⟩
section
variable {prog:Program} {w:World} {A:Around} {E:Value->Shared->Prop} {s:Shared}
theorem w_setnew (a:Value) {Q₁:Value->Shared->Prop} (h:Q₁ (.ref s.heap.objs.size) { s with heap:=s.heap.push (fresh0 w) }) :
    codeAny (model prog w) A (.call (.builtin "set.__new__") ⟨[.type "set",a],[]⟩) (wants Q₁ E) s:=by
  refine codeAny_of_tree ?_
  show wpAny _ A.in1 (do checkBuiltinCall "set.__new__" ⟨[.type "set",a],[]⟩; again (.builtin "set.__new__" ⟨[.type "set",a],[]⟩)) _ _ s
  refine wpAny_bind (wpAny_of_eq (F.newCall_set_1 a) (wpAny_pure ⟨plainId_quiet F.plain_set_new _,codeAny_builtin F.entry_set_new ?_⟩))
  rw [Around.under_plainId F.plain_set_new _]
  unfold Builtin.«set.__new__» Builtin.Frozenset.newClass
  have hsub:=sub_set_self
  obtain ⟨hp,g,d,tk,os⟩:=s
  dsimp only
  wp_walk
  refine wpAny_askSetting (wpAny_pure ?_)
  dsimp only
  simp only [newObj]
  exact wpAny_bind (wpAny_alloc (wpAny_pure (wpAny_pure h)))
set_option maxHeartbeats 3200000 in
theorem w_set {l:Addr} {items:Array Value} {ss:List Str} {Q:Value->Shared->Prop} (hh:A.handled=none) (hl:s.heap.IsList l items) (hi:StrsAre items.toList ss) (hb:items.size + 1 < scanBound)
    (h:∀ (h':Heap) (tk:Nat) (o:Obj),h'.get? s.heap.objs.size=some o->TS w o (dd ss) (!byT w)->(∀ b o,s.heap.get? b=some o->h'.get? b=some o)->Q (.ref s.heap.objs.size) { s with heap:=h',toks:=tk }) :
    wpAny (model prog w) A (call (.type "set") [.ref l]) Q E s:=by
  obtain ⟨c,tl,hmro⟩:=F.called_set.mro
  have hmade:=F.called_set.made
  have hsub:=F.called_set.sub
  refine wpAny_call (codeAny_of_tree ?_)
  show wpAny _ _ (callAny (.type "set") _) _ _ _
  refine wpAny_pure ⟨Code.quiet_builtin _ (by decide +kernel),codeAny_builtin F.entry_type_call ?_⟩
  rw [Around.under_plain (weight_type_call_type "set" [.ref l] []) rfl]
  have h1:=F.called_set.notType
  have h2:=F.called_set.canCreate
  have hct:=F.typeCall_set_1 (.ref l)
  repeat (any_goals (first | assumption | wp_step))
  refine codeAny_mono (w_setnew (.ref l) (E:=E) (Q₁:=fun obj s₁=>obj=.ref s.heap.objs.size /\ s₁={ s with heap:=s.heap.push (fresh0 w) }) ⟨rfl,rfl⟩) fun r s₁ hr=>?_
  cases r with
  | error e=>exact hr
  | ok fl =>
    cases fl with
    | ret obj =>
      obtain ⟨rfl,rfl⟩:=hr
      have hS:(s.heap.push (fresh0 w)).get? s.heap.objs.size=some (fresh0 w):=Heap.get?_push_size _ rfl
      have hT:Shared.TypeIs { s with heap:=s.heap.push (fresh0 w) } (.ref s.heap.objs.size) "set":=⟨_,hS,rfl⟩
      have hli:=F.called_set.init.lookup
      have hbi:=F.called_set.init.bind (.ref s.heap.objs.size)
      repeat (any_goals (first | assumption | wp_step))
      refine codeAny_mono (codeAny_call_builtin (R:=wants (fun r s₂=>r=.none /\ ∃ h' tk o,s₂={ s with heap:=h',toks:=tk } /\ h'.get? s.heap.objs.size=some o /\ TS w o (dd ss) (!byT w) /\
          (∀ b o,s.heap.get? b=some o->h'.get? b=some o)) E) F.called_set.init.plain F.entry_set_init (check_set_init_1 hT ?_)) fun r₂ s₂ hr₂=>?_
      · obtain ⟨ol,hol,hcl,nl,hdl⟩:=hl
        obtain ⟨ocls,odict,odata,oslots⟩:=ol
        simp only at hcl hdl
        subst hcl; subst hdl
        have hol':(s.heap.push (fresh0 w)).get? l=some { cls:=.type "list",dict:=odict,data:=.seq items nl,slots:=oslots }:=Heap.get?_push_of_some _ hol
        have hsls:=F.sub_list_set
        have hslf:=F.sub_list_frozenset
        have hne:(Value.type "list" == Value.type "dict")=false:=by decide
        have hl1:(s.heap.push (fresh0 w)).IsList l items:=⟨_,hol',rfl,nl,rfl⟩
        unfold fresh0 at hS hT hl1 hol' ⊢
        unfold Builtin.«set.__init__» noKeywords Builtin.Frozenset.updateFrom
        generalize hPI:pyIter=PI
        wp_walk
        subst hPI
        refine wpAny_pyIter_list hl1 (wpAny_bind (wpAny_runValue ?_))
        have hlS:l < s.heap.objs.size:=Heap.lt_size hol
        have hh3:A.in1.in1.in1.handled=none:=by simp [hh]
        have z1:(s.heap.push (fresh0 w)).objs.size=s.heap.objs.size + 1:=Heap.size_push ..
        unfold fresh0 at z1
        have hneI:l ≠ (s.heap.push (fresh0 w)).objs.size:=by rw [Heap.size_push]; exact Nat.ne_of_lt (Nat.lt_succ_of_lt hlS)
        have hSf:s.heap.objs.size ∉ [(s.heap.push (fresh0 w)).objs.size,l]:=by
          rw [Heap.size_push]; simp only [List.mem_cons,List.mem_singleton,List.not_mem_nil,or_false,not_or]
          exact ⟨Nat.ne_of_lt (Nat.lt_succ_self _),Nat.ne_of_gt hlS⟩
        have hlen:ss.length=items.size:=by have:=congrArg List.length hi.strs; rw [List.length_map] at this; rw [<- this]; simp
        have hval:∀ (i:Nat) (v:Value),items[i]?=some v->∃ x t,ss[i]?=some x /\ v=.str x t:=fun i v hv=>by
          have hm:v ∈ items.toList:=by rw [<- Array.getElem?_toList] at hv; exact List.mem_of_getElem? hv
          obtain ⟨x,t,rfl⟩:=hi.all v hm
          refine ⟨x,t,?_,rfl⟩
          rw [<- hi.strs,List.getElem?_map,Array.getElem?_toList,hv]; rfl
        refine w_loop ((Walks.list hh3 _ l hneI items).toS) s.heap.objs.size hSf ss hlen hval hb (!byT w) (items.size - 0) 0 _ (by omega) (Nat.zero_le _)
          ⟨⟨_,Heap.get?_push_size _ rfl,rfl,rfl⟩,(hl1.push _)⟩ ⟨_,Heap.get?_push_of_some _ hS,fresh0_ts w⟩ fun s' o hm ho hS'=>?_
        obtain ⟨h',g',d',tk',os'⟩:=s'
        obtain rfl:g'=s.gens:=hm.gens
        obtain rfl:d'=s.drawn:=hm.drawn
        obtain rfl:os'=s.os:=hm.os
        show wpAny _ _ _ _ _ _
        refine wpAny_pure ?_
        show wpAny _ _ (ret Value.none) _ _ _
        refine wpAny_pure ⟨rfl,h',tk',o,rfl,ho,hS',fun b o e=>?_⟩
        have hb:=Heap.lt_size e
        have hb1:b ≠ s.heap.objs.size:=Nat.ne_of_lt hb
        have hb2:b ≠ (s.heap.push (fresh0 w)).objs.size:=by rw [Heap.size_push]; exact Nat.ne_of_lt (Nat.lt_succ_of_lt hb)
        exact hm.heap b o (by simp only [List.mem_cons,List.mem_singleton,List.not_mem_nil,or_false,not_or]; exact ⟨hb1,hb2⟩) (Heap.get?_push_of_some _ (Heap.get?_push_of_some _ e))
      · cases r₂ with
        | error e=>exact hr₂
        | ok fl₂ =>
          cases fl₂ with
          | ret r =>
            obtain ⟨rfl,h',tk,o,rfl,ho,hS',hk'⟩:=hr₂
            repeat (any_goals (first | assumption | wp_step))
            exact h _ _ o ho hS' hk'
          | _=>exact hr₂.elim
    | _=>exact hr.elim
end
end ST
namespace ST
set_option autoImplicit false
set_option linter.unusedVariables false
set_option maxRecDepth 100000
open PySem PyProof.Rows
theorem slot_si_next:Slot "set_iterator" "__next__" "set_iterator.__next__" :=
  .of (owner:="set_iterator") (n:="__next__") (by rw [typeLookup_type,builtinLookup_eq_fast]; kernel_rfl) (by decide +kernel) (by decide +kernel) (by decide +kernel) (by first | exact .inl (by decide +kernel) | exact .inr (by decide +kernel)) (by rw [isSubtype_type]; kernel_rfl)
theorem entry_si_next:entryFor table "set_iterator.__next__"=some Builtin.«set_iterator.__next__»:=entryFor_of_tree (by kernel_rfl)
theorem args_si_next (a:Value):argsOk "set_iterator.__next__" ⟨[a],[]⟩:=by unfold argsOk; kernel_rfl
theorem entry_s_iter:entryFor table "set.__iter__"=some Builtin.«frozenset.__iter__»:=entryFor_alias (id':="frozenset.__iter__") (by rw [fastTable_eq_tree]; kernel_rfl) (by kernel_rfl) (by decide +kernel) (by rw [fastTable_eq_tree]; kernel_rfl)
theorem erase_perm {α:Type}:∀ {l:List α} {i:Nat} (h:i < l.length),(l[i] :: l.eraseIdx i).Perm l
  | x :: l,0,h=>List.Perm.refl _
  | x :: l,i + 1,h=>by
    have:=erase_perm (l:=l) (i:=i) (by simpa using h)
    exact (List.Perm.swap x _ _).trans (this.cons x)
theorem pick_perm {α:Type} (next:Nat->Nat):∀ (f k:Nat) (l:List α) (out:Array α),f=l.length->(pickOrder.go next f k l out).toList.Perm (out.toList ++ l)
  | 0,k,l,out,h=>by
    have:l=[]:=List.length_eq_zero_iff.mp h.symm
    subst this
    show out.toList.Perm _
    rw [List.append_nil]
  | f + 1,k,l,out,h=>by
    have hlt:next k % l.length < l.length:=Nat.mod_lt _ (by omega)
    unfold pickOrder.go
    rw [List.getElem?_eq_getElem hlt]
    dsimp only
    refine (pick_perm next f (k + 1) _ _ (by rw [List.length_eraseIdx,if_pos hlt]; omega)).trans ?_
    rw [Array.toList_push,List.append_assoc]
    exact List.Perm.append_left _ (erase_perm hlt)
theorem pickOrder_perm {α:Type} (next:Nat->Nat) (xs:Array α):(pickOrder next xs).toList.Perm xs.toList:=by
  have:=pick_perm next xs.size 0 xs.toList #[] (by simp)
  exact (by simpa using this:(pickOrder.go next xs.size 0 xs.toList #[]).toList.Perm xs.toList)
section
variable {prog:Program} {w:World} {A:Around} {E:Value->Shared->Prop} {s:Shared}
theorem w_choose {src:Source} {n:Nat} {Q:Nat->Shared->Prop} (hn:n ≠ 0) (h:∀ i,i < n->Q i { s with drawn:=s.drawn.bump src }):wpAny (model prog w) A (choose src n) Q E s :=
  fun _ _ _=>⟨hn,h _ (Nat.mod_lt _ (Nat.pos_of_ne_zero hn))⟩
theorem w_draw {α:Type}:∀ (n:Nat) (xs:List α) {s:Shared} {Q:List α->Shared->Prop},n=xs.length->(∀ ys d,ys.Perm xs->Q ys { s with drawn:=d })->wpAny (model prog w) A (drawOrder n xs) Q E s
  | 0,xs,s,Q,h,hQ=>by
    have:xs=[]:=List.length_eq_zero_iff.mp h.symm
    subst this
    unfold drawOrder
    exact wpAny_pure (hQ [] s.drawn (List.Perm.refl _))
  | n + 1,[],s,Q,h,hQ=>by simp at h
  | n + 1,x :: xs,s,Q,h,hQ=>by
    unfold drawOrder
    refine wpAny_bind (w_choose (by simp) fun i hi=>?_)
    rw [List.getElem?_eq_getElem hi]
    dsimp only
    refine wpAny_bind (w_draw n _ (by rw [List.length_eraseIdx,if_pos hi,<- h]; rfl) fun ys d hp=>wpAny_pure ?_)
    exact hQ _ d ((hp.cons _).trans (erase_perm hi))
noncomputable def itO (f:Value) (i:Nat) (S:Addr) (n ep:Nat):Obj:={ cls:=.type "set_iterator",dict:=none,data:=.fields #[f,.int i 0,.ref S,.int n 0,.int ep 0],slots:=#[] }
theorem w_nxt {I:Addr} {f:Value} {i:Nat} {S:Addr} {n ep:Nat} {Q:Option Value->Shared->Prop} (ho:s.heap.get? I=some (itO f i S n ep))
    (h:wpAny (model prog w) A.in1 (Builtin.«set_iterator.__next__» ⟨[.ref I],[]⟩) (fun r s'=>∃ v,r=.done (.ret v) /\ Q (some v) s') (fun e s'=>wpAny (model prog w) A (do if <- isInstance e (.type "StopIteration") then pure none else throw e) Q E s') s) :
    wpAny (model prog w) A (pyNext (.ref I)) Q E s:=by
  have hT:s.TypeIs (.ref I) "set_iterator":=⟨_,ho,rfl⟩
  unfold pyNext
  refine wpAny_bind (wpAny_attempt (wpAny_callSpecial?_slot (name:=Str.ofString "__next__") hT slot_si_next (wpAny_call_entry slot_si_next hT entry_si_next ?_ (args_si_next _))))
  refine wpAny_mono h ?_ fun _ _ e=>e
  rintro _ _ ⟨v,rfl,q⟩
  exact ⟨v,rfl,wpAny_pure q⟩
end
end ST
namespace ST
set_option autoImplicit false
set_option linter.unusedVariables false
set_option maxRecDepth 100000
open PySem PyProof.Rows
section
variable {prog:Program} {w:World} {A:Around} {E:Value->Shared->Prop} {s:Shared}
variable {I S:Addr} {o:Obj} {es:Array (Int × Value)} {ep:Nat} {t:SetTable} {ss:List Str}
theorem w_stop {f:Value} {i n:Nat} {Q:Option Value->Shared->Prop} {h1:Heap} (hh:A.handled=none) (hQ:∀ h',(∀ b o,h1.get? b=some o->h'.get? b=some o)->Q none { s with heap:=h' }) :
    wpAny (model prog w) A.in1 (do raiseNew (<- newExc (.type "StopIteration") [])) (fun (r:Fin) s'=>∃ v,r=.done (.ret v) /\ Q (some v) s') (fun e s'=>wpAny (model prog w) A (do if <- isInstance e (.type "StopIteration") then pure none else throw e) Q E s') { s with heap:=h1 }:=by
  refine wpAny_bind ?_
  simp only [newExc,newTuple]
  refine wpAny_bind (wpAny_newObj_type ?_ (by size_fits))
  refine wpAny_bind (m:=firstArgMember _ _) (wpAny_of_eq (a:=Value.none) (by first | rfl | (simp only [firstArgMember]; rfl)) ?_)
  refine wpAny_newObj_type ?_ (by size_fits)
  simp only [raiseNew]
  refine wpAny_bind (wpAny_handled ?_)
  rw [show A.in1.handled=none from hh]
  refine wpAny_bind (wpAny_pure (wpAny_throw ?_))
  refine wpAny_bind (wpAny_isInstance (T:="StopIteration") (b:=true) ⟨_,Heap.get?_push_size _ rfl,rfl⟩ isSubtype_stop ?_)
  exact wpAny_pure (hQ _ fun b o e=>Heap.get?_push_of_some _ (Heap.get?_push_of_some _ e))
theorem w_ask {Q:Setting->Shared->Prop} (h:Q ⟨prog,w.params⟩ s):wpAny (model prog w) A ask Q E s:=wpAny_askSetting h
theorem w_byT {Q:Bool->Shared->Prop} (h:Q (byT w) s):wpAny (model prog w) A setsByText Q E s:=by
  unfold setsByText; exact wpAny_bind (wpAny_askSetting (wpAny_pure h))
theorem nx_t {i:Nat} (hb:byT w=true) (hI:s.heap.get? I=some (itO (.int 0 0) i S es.size ep)) (hS:s.heap.get? S=some o) (hd:o.data=.set es ep t) (hf:t.fits es.size=true) (hh:A.handled=none) {Q:Option Value->Shared->Prop}
    (h1:∀ e,(pickOrder (w.params.setOrder S ep) es)[i]?=some e->∀ h',h'.get? I=some (itO (.int 0 0) (i + 1) S es.size ep)->Heap.SameBut I s.heap h'->Q (some e.2) { s with heap:=h' })
    (h2:(pickOrder (w.params.setOrder S ep) es)[i]?=none->∀ h',(∀ b o,b ≠ I->s.heap.get? b=some o->h'.get? b=some o)->Q none { s with heap:=h' }):wpAny (model prog w) A (pyNext (.ref I)) Q E s:=by
  refine w_nxt hI ?_
  show wpAny _ _ (fieldsOf (.ref I) >>= _) _ _ s
  refine wpAny_bind (wpAny_fieldsOf hI rfl ?_)
  show wpAny _ _ (setEntries S >>= _) _ _ s
  refine wpAny_bind (wpAny_setEntries_of hS hd hf ?_)
  rw [if_neg (by simp)]
  dsimp only
  unfold setNext
  refine wpAny_bind (wpAny_bind (wpAny_setState_of hS hd hf ?_))
  refine wpAny_bind (w_byT ?_)
  rw [if_pos hb,if_neg (by simp)]
  unfold setWalk
  refine wpAny_bind (wpAny_bind (wpAny_setState_of hS hd hf ?_))
  refine wpAny_bind (w_byT ?_)
  rw [if_pos hb]
  refine wpAny_bind (w_ask (wpAny_pure (wpAny_pure ?_)))
  dsimp only
  simp only [Int.toNat_natCast]
  generalize e:(pickOrder (w.params.setOrder S ep) es)[i]?=z at h1 h2 ⊢
  cases z with
  | none =>
    show wpAny _ _ (setField (.ref I) 2 .none >>= _) _ _ _
    refine wpAny_bind (wpAny_setField_rec hI (by simp) fun h' q1 q2=>?_)
    exact w_stop (f:=.none) (i:=0) (n:=0) hh fun h'' k=>h2 rfl h'' fun b o hb e=>k b o (by rw [q2.2 b hb]; exact e)
  | some z =>
    show wpAny _ _ (setField (.ref I) 0 _ >>= _) _ _ _
    refine wpAny_bind (wpAny_setField_rec hI (by simp) fun h' q1 q2=>?_)
    refine wpAny_bind (wpAny_setField_rec q1 (by simp) fun h'' q3 q4=>?_)
    exact wpAny_pure ⟨_,rfl,h1 z rfl h'' q3 (q2.trans q4)⟩
end
end ST
namespace ST
set_option autoImplicit false
set_option linter.unusedVariables false
set_option maxRecDepth 100000
open PySem PyProof.Rows
section
variable {prog:Program} {w:World} {A:Around} {E:Value->Shared->Prop} {s:Shared}
variable {I S:Addr} {o:Obj} {es:Array (Int × Value)} {ep:Nat} {t:SetTable} {ss:List Str}
theorem nx_d {T:Addr} {i:Nat} {pl:List Nat} (hT:s.heap.get? T=some (seqObj "tuple" (pl.map fun (p:Nat)=>rawInt p).toArray 0)) (hI:s.heap.get? I=some (itO (.ref T) i S es.size ep)) (hS:s.heap.get? S=some o) (hd:o.data=.set es ep t) (hf:t.fits es.size=true) (hh:A.handled=none) {Q:Option Value->Shared->Prop}
    (h1:∀ p e,pl[i]?=some p->es[p]?=some e->∀ h',h'.get? I=some (itO (.ref T) (i + 1) S es.size ep)->Heap.SameBut I s.heap h'->Q (some e.2) { s with heap:=h' }) (hp:∀ p ∈ pl,p < es.size)
    (h2:pl[i]?=none->∀ h',(∀ b o,b ≠ I->s.heap.get? b=some o->h'.get? b=some o)->Q none { s with heap:=h' }):wpAny (model prog w) A (pyNext (.ref I)) Q E s:=by
  refine w_nxt hI ?_
  show wpAny _ _ (fieldsOf (.ref I) >>= _) _ _ s
  refine wpAny_bind (wpAny_fieldsOf hI rfl ?_)
  show wpAny _ _ (setEntries S >>= _) _ _ s
  refine wpAny_bind (wpAny_setEntries_of hS hd hf ?_)
  rw [if_neg (by simp)]
  dsimp only
  refine wpAny_bind (wpAny_seqItems hT rfl ?_)
  dsimp only
  rw [show ((pl.map fun (p:Nat)=>rawInt p).toArray)[(i:Int).toNat]?=pl[i]?.map fun (p:Nat)=>rawInt p by simp]
  cases e:pl[i]? with
  | none =>
    show wpAny _ _ (setField (.ref I) 0 _ >>= _) _ _ _
    refine wpAny_bind (wpAny_setField_rec hI (by simp) fun h' q1 q2=>?_)
    refine wpAny_bind (wpAny_setField_rec q1 (by simp) fun h'' q3 q4=>?_)
    exact w_stop (f:=.none) (i:=0) (n:=0) hh fun h'' k=>h2 e h'' fun b o hb e=>k b o (by rw [(q2.trans q4).2 b hb]; exact e)
  | some p =>
    have hlt:=hp p (List.mem_of_getElem? e)
    have ee:es[p]?=some es[p]:=getElem?_pos es p hlt
    show wpAny _ _ (setNextDrawn S (p:Int).toNat (ep:Int).toNat >>= _) _ _ _
    unfold setNextDrawn
    refine wpAny_bind (wpAny_bind (wpAny_setState_of hS hd hf ?_))
    dsimp only
    rw [if_neg (by simp)]
    simp only [Int.toNat_natCast,ee]
    refine wpAny_pure ?_
    refine wpAny_bind (wpAny_setField_rec hI (by simp) fun h' q1 q2=>?_)
    exact wpAny_pure ⟨_,rfl,h1 p _ e ee h' q1 q2⟩
noncomputable def ft (t:SetTable):Nat->Nat
  | 0=>0
  | _ + 1=>t.place.getD 0 0 + 1
theorem below_0 {a:Array Nat} (h:a.size=0) (k:Nat):SetTable.below a k=0:=by
  unfold SetTable.below; rw [h]; rfl
theorem below_1 {a:Array Nat} (h:a.size=1):SetTable.below a 0=0:=by
  unfold SetTable.below; rw [h]
  unfold SetTable.below.go
  rw [if_pos (by omega)]
  dsimp only
  rw [if_neg (by omega)]; rfl
theorem below_2 {a:Array Nat} (h:a.size=1):SetTable.below a (a.getD 0 0 + 1)=1:=by
  unfold SetTable.below; rw [h]
  unfold SetTable.below.go
  rw [if_pos (by omega)]
  dsimp only
  have e:a.getD ((0 + 1) / 2) (a.getD 0 0 + 1)=a.getD 0 0:=by
    show a.getD 0 _=_
    unfold Array.getD
    rw [dif_pos (by omega),dif_pos (by omega)]
  rw [e,if_pos (by omega)]; rfl
theorem nx_1 {i:Nat} (hb:byT w=false) (hi:i<=es.size) (h1':es.size<=1) (hled:t.led=true) (hI:s.heap.get? I=some (itO (.int (ft t i:Nat) 0) i S es.size ep)) (hS:s.heap.get? S=some o) (hd:o.data=.set es ep t) (hf:t.fits es.size=true) (hh:A.handled=none) {Q:Option Value->Shared->Prop}
    (h1:∀ e,es[i]?=some e->∀ h',h'.get? I=some (itO (.int (ft t (i + 1):Nat) 0) (i + 1) S es.size ep)->Heap.SameBut I s.heap h'->Q (some e.2) { s with heap:=h' })
    (h2:es[i]?=none->∀ h',(∀ b o,b ≠ I->s.heap.get? b=some o->h'.get? b=some o)->Q none { s with heap:=h' }):wpAny (model prog w) A (pyNext (.ref I)) Q E s:=by
  have hz:t.place.size=es.size:=by
    simp only [SetTable.fits,Bool.and_eq_true,beq_iff_eq] at hf; exact hf.1
  refine w_nxt hI ?_
  show wpAny _ _ (fieldsOf (.ref I) >>= _) _ _ s
  refine wpAny_bind (wpAny_fieldsOf hI rfl ?_)
  show wpAny _ _ (setEntries S >>= _) _ _ s
  refine wpAny_bind (wpAny_setEntries_of hS hd hf ?_)
  rw [if_neg (by simp)]
  dsimp only
  unfold setNext
  refine wpAny_bind (wpAny_bind (wpAny_setState_of hS hd hf ?_))
  refine wpAny_bind (w_byT ?_)
  rw [hb,if_neg (by simp)]
  dsimp only
  rw [if_neg (by show ¬ ((!t.plain && decide (es.size > 1))=true); rw [decide_eq_false (by omega)]; simp)]
  refine wpAny_bind (wpAny_of_eq (a:=()) (by show (if (!t.led && !es.isEmpty)=true then _ else pure ())=_; rw [hled]; rfl) ?_)
  simp only [Int.toNat_natCast]
  have eb:SetTable.below t.place (ft t i)=i:=by
    by_cases c:es.size=0
    · rw [below_0 (by omega)]; omega
    · match i,hi with
      | 0,_=>exact below_1 (by omega)
      | 1,_=>exact below_2 (by omega)
      | i + 2,hi=>omega
  rw [eb]
  by_cases c:i < es.size
  · have e1:es[i]?=some es[i]:=getElem?_pos es i c
    have i0:i=0:=by omega
    have e2:t.place[i]?=some (t.place.getD 0 0):=by
      rw [getElem?_pos t.place i (by omega)]
      unfold Array.getD
      rw [dif_pos (by omega)]
      subst i0; rfl
    rw [e1,e2]
    refine wpAny_pure ?_
    dsimp only
    refine wpAny_bind (wpAny_setField_rec hI (by simp) fun h' q1 q2=>?_)
    refine wpAny_bind (wpAny_setField_rec q1 (by simp) fun h'' q3 q4=>?_)
    refine wpAny_pure ⟨_,rfl,h1 _ e1 h'' ?_ (q2.trans q4)⟩
    rw [q3]; subst i0; rfl
  · have e1:es[i]?=none:=by simp; omega
    rw [e1]
    refine wpAny_pure ?_
    dsimp only
    refine wpAny_bind (wpAny_setField_rec hI (by simp) fun h' q1 q2=>?_)
    exact w_stop (f:=.none) (i:=0) (n:=0) hh fun h'' k=>h2 e1 h'' fun b o hb e=>k b o (by rw [q2.2 b hb]; exact e)
end
end ST
namespace ST
set_option autoImplicit false
set_option linter.unusedVariables false
set_option maxRecDepth 100000
open PySem PyProof.Rows
theorem strs_perm {w:World} {es:Array (Int × Value)} {ss:List Str} (h:Ent w es) (hp:(keys es).Perm ss) {l:List (Int × Value)} (hl:l.Perm es.toList) :
    ∃ ss',StrsAre (l.map (·.2)) ss' /\ ss'.Perm ss:=by
  refine ⟨(l.map (·.2)).map strOf,strsAre_map _ fun v hv=>?_,?_⟩
  · obtain ⟨e,he,rfl⟩:=List.mem_map.mp hv
    obtain ⟨x,t,rfl⟩:=h e (hl.mem_iff.mp he)
    exact ⟨x,t,rfl⟩
  · rw [List.map_map]
    exact (hl.map _).trans hp
theorem range_getD (es:Array (Int × Value)):(List.range es.size).map (fun p=>es.getD p (0,.none))=es.toList:=by
  refine List.ext_getElem (by simp) fun i h1 h2=>?_
  have h3:i < es.size:=by simpa using h1
  simp [Array.getD,h3]
section
variable {prog:Program} {w:World} {A:Around} {E:Value->Shared->Prop} {s:Shared}
variable {I S:Addr} {o:Obj} {es:Array (Int × Value)} {ep:Nat} {t:SetTable} {ss:List Str}
noncomputable def Vw (vs:List Value) (i:Nat) (v:Value):Prop:=vs[i]?=some v
theorem wk_self {f:Value} {i n:Nat} (ho:s.heap.get? I=some (itO f i S n ep)) {Q:Value->Shared->Prop} (hQ:Q (.ref I) s):wpAny (model prog w) A (pyIter (.ref I)) Q E s:=by
  have hT:s.TypeIs (.ref I) "set_iterator":=⟨_,ho,rfl⟩
  have sl:Slot "set_iterator" "__iter__" "set_iterator.__iter__":=.of (owner:="set_iterator") (n:="__iter__") (by rw [typeLookup_type,builtinLookup_eq_fast]; kernel_rfl) (by decide +kernel) (by decide +kernel) (by decide +kernel) (by first | exact .inl (by decide +kernel) | exact .inr (by decide +kernel)) (by rw [isSubtype_type]; kernel_rfl)
  have en:entryFor table "set_iterator.__iter__"=some Builtin.«dict_keyiterator.__iter__»:=entryFor_alias (id':="dict_keyiterator.__iter__") (by rw [fastTable_eq_tree]; kernel_rfl) (by kernel_rfl) (by decide +kernel) (by rw [fastTable_eq_tree]; kernel_rfl)
  refine wpAny_pyIter_slot hT sl (wpAny_call_entry sl hT en ?_ (by unfold argsOk; kernel_rfl))
  exact wpAny_pure ⟨_,rfl,"set_iterator",_,hT,slot_si_next.lookup,hQ⟩
theorem wk_t (hb:byT w=true) (hne:S ≠ I) (hd:o.data=.set es ep t) (hf:t.fits es.size=true) (hh:A.handled=none) :
    Walks prog w A I [I,S] [I] ((pickOrder (w.params.setOrder S ep) es).toList.map (·.2)).length (Vw ((pickOrder (w.params.setOrder S ep) es).toList.map (·.2)))
      (fun i h=>h.get? I=some (itO (.int 0 0) i S es.size ep) /\ h.get? S=some o) where
  sub:=fun b hb=>by simp at hb; simp [hb]
  frame:=fun _ _ _ st hk=>⟨hk I (by simp) _ st.1,hk S (by simp) _ st.2⟩
  item:=fun i s Q E hi st hQ=>by
    refine nx_t hb st.1 st.2 hd hf hh (fun e he h' q1 q2=>hQ _ h' s.toks ?_ ⟨q1,(q2.2 S hne).trans st.2⟩ fun b o hb e=>?_) fun he=>absurd he ?_
    · unfold Vw; rw [List.getElem?_map,Array.getElem?_toList,he]; rfl
    · exact (q2.2 b (by simpa using hb)).trans e
    · simp at hi ⊢; exact hi
  done:=fun s Q E st hQ=>by
    refine nx_t hb st.1 st.2 hd hf hh (fun e he=>absurd he ?_) fun _ h' k=>hQ h' s.toks fun b o hb e=>k b o (by simpa using hb) e
    simp
  self:=fun _ _ _ _ st hQ=>wk_self st.1 hQ
theorem wk_d {T:Addr} {pl:List Nat} (hne:S ≠ I) (hne':T ≠ I) (hd:o.data=.set es ep t) (hf:t.fits es.size=true) (hp:∀ p ∈ pl,p < es.size) (hh:A.handled=none) :
    Walks prog w A I [I,S,T] [I] ((pl.map (fun p=>es.getD p (0,.none))).map (·.2)).length (Vw ((pl.map (fun p=>es.getD p (0,.none))).map (·.2)))
      (fun i h=>h.get? I=some (itO (.ref T) i S es.size ep) /\ h.get? S=some o /\ h.get? T=some (seqObj "tuple" (pl.map fun (p:Nat)=>rawInt p).toArray 0)) where
  sub:=fun b hb=>by simp at hb; simp [hb]
  frame:=fun _ _ _ st hk=>⟨hk I (by simp) _ st.1,hk S (by simp) _ st.2.1,hk T (by simp) _ st.2.2⟩
  item:=fun i s Q E hi st hQ=>by
    refine nx_d st.2.2 st.1 st.2.1 hd hf hh (fun p e he ee h' q1 q2=>hQ _ h' s.toks ?_ ⟨q1,(q2.2 S hne).trans st.2.1,(q2.2 T hne').trans st.2.2⟩ fun b o hb e=>?_) hp fun he=>absurd he ?_
    · unfold Vw; rw [List.getElem?_map,List.getElem?_map,he]
      have:=hp p (List.mem_of_getElem? he)
      rw [getElem?_pos es p this] at ee
      cases ee
      simp [Array.getD,this]
    · exact (q2.2 b (by simpa using hb)).trans e
    · simp at hi ⊢; exact hi
  done:=fun s Q E st hQ=>by
    refine nx_d st.2.2 st.1 st.2.1 hd hf hh (fun p e he=>absurd he ?_) hp fun _ h' k=>hQ h' s.toks fun b o hb e=>k b o (by simpa using hb) e
    simp
  self:=fun _ _ _ _ st hQ=>wk_self st.1 hQ
theorem wk_1 (hb:byT w=false) (h1:es.size<=1) (hled:t.led=true) (hne:S ≠ I) (hd:o.data=.set es ep t) (hf:t.fits es.size=true) (hh:A.handled=none) :
    Walks prog w A I [I,S] [I] (es.toList.map (·.2)).length (Vw (es.toList.map (·.2)))
      (fun i h=>h.get? I=some (itO (.int (ft t i:Nat) 0) i S es.size ep) /\ h.get? S=some o) where
  sub:=fun b hb=>by simp at hb; simp [hb]
  frame:=fun _ _ _ st hk=>⟨hk I (by simp) _ st.1,hk S (by simp) _ st.2⟩
  item:=fun i s Q E hi st hQ=>by
    have hi':i < es.size:=by simpa using hi
    refine nx_1 hb (by omega) h1 hled st.1 st.2 hd hf hh (fun e he h' q1 q2=>hQ _ h' s.toks ?_ ⟨q1,(q2.2 S hne).trans st.2⟩ fun b o hb e=>?_) fun he=>absurd he ?_
    · unfold Vw; rw [List.getElem?_map,Array.getElem?_toList,he]; rfl
    · exact (q2.2 b (by simpa using hb)).trans e
    · simp; exact hi'
  done:=fun s Q E st hQ=>by
    have e:(es.toList.map (·.2)).length=es.size:=by simp
    rw [e] at st
    refine nx_1 hb (Nat.le_refl _) h1 hled st.1 st.2 hd hf hh (fun e he=>absurd he ?_) fun _ h' k=>hQ h' s.toks fun b o hb e=>k b o (by simpa using hb) e
    simp
  self:=fun _ _ _ _ st hQ=>wk_self st.1 hQ
theorem w_iter (hS:s.heap.get? S=some o) (hT:TS w o ss (!byT w)) {Q:Value->Shared->Prop}
    (h:∀ (h':Heap) d (I:Addr) (fp:List Addr) (vs:List Value) (St:Nat->Heap->Prop),(∀ A':Around,A'.handled=none->Walks prog w A' I fp [I] vs.length (Vw vs) St)->St 0 h'->(∀ b ∈ fp,b=S \/ s.heap.objs.size<=b)->s.heap.objs.size<=I ->
      (∃ ss',StrsAre vs ss' /\ ss'.Perm ss)->(∀ b o,s.heap.get? b=some o->h'.get? b=some o)->Q (.ref I) { s with heap:=h',drawn:=d }) :
    wpAny (model prog w) A (pyIter (.ref S)) Q E s:=by
  obtain ⟨es,ep,t,hT⟩:=hT
  have hd:o.data=.set es ep t:=by rw [hT.obj]
  have hTy:s.TypeIs (.ref S) "set":=⟨o,hS,by rw [hT.obj]⟩
  have hlt:=Heap.lt_size hS
  refine wpAny_pyIter_slot hTy F.slot_set_iter (wpAny_call_entry F.slot_set_iter hTy entry_s_iter ?_ (F.args_set_iter_1 _))
  show wpAny _ _ (Builtin.Frozenset.sizeOf S >>= _) _ _ s
  unfold Builtin.Frozenset.sizeOf
  refine wpAny_bind (wpAny_bind (wpAny_setEntries_of hS hd hT.fits (wpAny_pure ?_)))
  show wpAny _ _ (setDrawn S >>= _) _ _ s
  unfold setDrawn
  refine wpAny_bind (wpAny_bind (wpAny_setState_of hS hd hT.fits ?_))
  refine wpAny_bind (w_byT (wpAny_pure ?_))
  have hk:∀ (o':Obj) b o,s.heap.get? b=some o->(s.heap.push o').get? b=some o:=fun o' b o e=>Heap.get?_push_of_some _ e
  cases hb:byT w
  · by_cases c:es.size<=1
    · rw [if_neg (by show ¬ ((!false && (!t.plain && decide (es.size > 1)))=true); rw [decide_eq_false (by omega)]; simp)]
      refine wpAny_bind (wpAny_pure (wpAny_bind (wpAny_setEpoch_of hS hd hT.fits ?_)))
      refine wpAny_bind (wpAny_newObj_type ?_)
      refine wpAny_pure ⟨_,rfl,"set_iterator",_,⟨_,Heap.get?_push_size _ rfl,rfl⟩,slot_si_next.lookup,?_⟩
      refine h _ s.drawn _ _ _ _ (fun A' hh=>wk_1 (I:=s.heap.objs.size) hb c (hT.led.trans (by rw [hb]; rfl)) (Nat.ne_of_lt hlt) hd hT.fits hh) ⟨Heap.get?_push_size _ rfl,hk _ _ _ hS⟩ (fun b hb=>?_) (Nat.le_refl _) (strs_perm hT.ent hT.perm (List.Perm.refl _)) (hk _)
      simp only [List.mem_cons,List.not_mem_nil,or_false] at hb
      rcases hb with rfl | rfl
      · exact .inr (Nat.le_refl _)
      · exact .inl rfl
    · have hp:t.plain=false:=by
        cases e:t.plain with
        | false=>rfl
        | true=>have:=hT.plain e; omega
      rw [if_pos (by show (!false && (!t.plain && decide (es.size > 1)))=true; rw [hp,decide_eq_true (by omega)]; rfl)]
      refine wpAny_bind (w_draw es.size (List.range es.size) (by simp) fun pl d hpl=>?_)
      refine wpAny_bind (wpAny_newTuple ?_ (hsz:=by rw [List.length_map,hpl.length_eq,List.length_range]; exact fits_of_scanBound hT.small))
      dsimp only
      refine wpAny_bind (wpAny_setEpoch_of (hk _ _ _ hS) hd hT.fits ?_)
      refine wpAny_bind (wpAny_newObj_type ?_)
      refine wpAny_pure ⟨_,rfl,"set_iterator",_,⟨_,Heap.get?_push_size _ rfl,rfl⟩,slot_si_next.lookup,?_⟩
      have hpl':∀ p ∈ pl,p < es.size:=fun p hp=>by have:=hpl.mem_iff.mp hp; simpa using this
      have zz:(s.heap.push (seqObj "tuple" (pl.map fun (p:Nat)=>rawInt p).toArray 0)).objs.size=s.heap.objs.size + 1:=Heap.size_push ..
      refine h _ d _ _ _ _ (fun A' hh=>wk_d (pl:=pl) (T:=s.heap.objs.size) (I:=(s.heap.push (seqObj "tuple" (pl.map fun (p:Nat)=>rawInt p).toArray 0)).objs.size) (by rw [zz]; exact Nat.ne_of_lt (Nat.lt_succ_of_lt hlt)) (by rw [zz]; exact Nat.ne_of_lt (Nat.lt_succ_self _)) hd hT.fits hpl' hh) ⟨Heap.get?_push_size _ rfl,Heap.get?_push_of_some _ (hk _ _ _ hS),Heap.get?_push_of_some _ (Heap.get?_push_size _ rfl)⟩ (fun b hb=>?_) (by rw [zz]; omega) (strs_perm hT.ent hT.perm ?_) (fun b o e=>Heap.get?_push_of_some _ (hk _ _ _ e))
      · simp only [List.mem_cons,List.not_mem_nil,or_false] at hb
        rcases hb with rfl | rfl | rfl
        · exact .inr (by rw [zz]; omega)
        · exact .inl rfl
        · exact .inr (Nat.le_refl _)
      · rw [<- range_getD]; exact hpl.map _
  · rw [if_neg (by simp)]
    refine wpAny_bind (wpAny_pure (wpAny_bind (wpAny_setEpoch_of hS hd hT.fits ?_)))
    refine wpAny_bind (wpAny_newObj_type ?_)
    refine wpAny_pure ⟨_,rfl,"set_iterator",_,⟨_,Heap.get?_push_size _ rfl,rfl⟩,slot_si_next.lookup,?_⟩
    refine h _ s.drawn _ _ _ _ (fun A' hh=>wk_t (I:=s.heap.objs.size) hb (Nat.ne_of_lt hlt) hd hT.fits hh) ⟨Heap.get?_push_size _ rfl,hk _ _ _ hS⟩ (fun b hb=>?_) (Nat.le_refl _) (strs_perm hT.ent hT.perm (pickOrder_perm _ _)) (hk _)
    simp only [List.mem_cons,List.not_mem_nil,or_false] at hb
    rcases hb with rfl | rfl
    · exact .inr (Nat.le_refl _)
    · exact .inl rfl
end
end ST
namespace ST
set_option autoImplicit false
set_option linter.unusedVariables false
set_option maxRecDepth 100000
open PySem PyProof.Rows
theorem s_len:typeLookup (.type "set") "__len__"=pure (some (.builtin "set.__len__")):=F.slot_set_len.lookup
noncomputable def Asc (ss:List Str):Prop:=ss.Pairwise fun a b=>decide (b.cps.toList < a.cps.toList)=false
theorem asc_out {vs:List Value} {ss:List Str} (hS:StrsAre vs ss) {xs:Array Keyed} (hp:xs.Perm (pairsOf vs)) (hs:SO.Srt PyProof.Rows.strKind xs.toList) :
    ∃ ss',StrsAre (xs.map (·.2)).toList ss' /\ ss'.Perm ss /\ Asc ss':=by
  have hl:xs.toList.Perm (vs.zip vs):=by rw [<- pairsOf_toList]; exact Array.perm_iff_toList_perm.mp hp
  have hmem:∀ p,p ∈ xs.toList->p.1=p.2 /\ p.1 ∈ vs:=fun p hp'=>mem_zip_self (hl.mem_iff.mp hp')
  have e:(xs.map (·.2)).toList=xs.toList.map (·.1):=by
    rw [Array.toList_map]; exact List.map_congr_left fun p hp'=>(hmem p hp').1.symm
  refine ⟨(xs.toList.map (·.1)).map strOf,?_,?_,?_⟩
  · rw [e]
    refine strsAre_map _ fun v hv=>?_
    obtain ⟨p,hp',rfl⟩:=List.mem_map.mp hv
    exact hS.all _ (hmem p hp').2
  · have:=(hl.map Prod.fst).map strOf
    rw [List.map_fst_zip (Nat.le_refl _),hS.strs] at this
    exact this
  · unfold Asc
    rw [List.map_map,List.pairwise_map]
    refine List.Pairwise.imp_of_mem (fun {a b} ha hb hab=>?_) hs
    obtain ⟨x,t,ex⟩:=hS.all _ (hmem a ha).2
    obtain ⟨y,u,ey⟩:=hS.all _ (hmem b hb).2
    unfold SO.le SO.kk at hab
    rw [ex,ey] at hab
    show decide ((strOf b.1).cps.toList < (strOf a.1).cps.toList)=false
    rw [ex,ey]
    exact hab
section
variable {prog:Program} {w:World} {A:Around} {E:Value->Shared->Prop} {s:Shared}
variable {S:Addr} {o:Obj} {ss:List Str}
theorem w_collect (hh:A.handled=none) (hS:s.heap.get? S=some o) (hT:TS w o ss (!byT w)) {Q:List Value->Shared->Prop}
    (hQ:∀ h' d tk vs ss',StrsAre vs ss'->ss'.Perm ss->s.heap.objs.size < h'.objs.size->(∀ b o,s.heap.get? b=some o->h'.get? b=some o)->Q vs { s with heap:=h',drawn:=d,toks:=tk }) :
    wpAny (model prog w) A (collect (.ref S)) Q E s:=by
  have hsm:ss.length < scanBound:=by
    obtain ⟨es,ep,t,hT⟩:=hT
    rw [<- hT.perm.length_eq]
    have:=hT.small
    simpa [keys] using this
  have hc:o.cls=.type "set":=by
    obtain ⟨es,ep,t,hT⟩:=hT
    rw [hT.obj]
  have hlt:=Heap.lt_size hS
  unfold collect
  refine wpAny_bind (wpAny_runValue (codeAny_builtin F.entry_proto_collect ?_))
  rw [Around.under_plainId F.plain_proto_collect _]
  show wpAny _ A.in1 (newList [] >>= fun l=>again (.builtin "list.__iadd__" ⟨[l,.ref S],[]⟩)) _ _ s
  refine wpAny_bind (wpAny_newObj_type ?_)
  refine wpAny_pure ⟨plainId_quiet F.plain_list_iadd _,codeAny_builtin F.entry_list_iadd ?_⟩
  rw [Around.under_plainId F.plain_list_iadd _]
  show wpAny _ A.in1 (Builtin.List.listExtendWith (.ref s.heap.objs.size) (.ref S) (.ref s.heap.objs.size)) _ _ _
  unfold Builtin.List.listExtendWith
  have hS1:(s.heap.push { cls:=.type "list",data:=.seq ([]:List Value).toArray }).get? S=some o:=Heap.get?_push_of_some _ hS
  have hTy:Shared.TypeIs { s with heap:=s.heap.push { cls:=.type "list",data:=.seq ([]:List Value).toArray } } (.ref S) "set":=⟨o,hS1,hc⟩
  refine wpAny_bind (wpAny_typeOf hTy ?_)
  have h1:Builtin.List.listSameRef (.ref s.heap.objs.size) (.ref S)=false:=by
    show (s.heap.objs.size == S)=false
    exact beq_false_of_ne (Nat.ne_of_gt hlt)
  rw [if_neg (by rw [h1]; decide)]
  refine wpAny_bind (w_iter hS1 hT fun h' d I fp vs St W st hfp hI hv ext=>?_)
  obtain ⟨ss',hv,hperm⟩:=hv
  have hTy':Shared.TypeIs { s with heap:=h',drawn:=d } (.ref S) "set":=⟨o,ext _ _ hS1,hc⟩
  refine wpAny_bind (wpAny_holding ?_)
  unfold Builtin.List.listLengthHint
  refine wpAny_bind (wpAny_specialOf hTy' s_len ?_)
  wp_delta
  refine wpAny_bind (wpAny_isInstance (b:=true) hTy' (by rw [isSubtype_type]; kernel_rfl) ?_)
  show wpAny _ A.in1 (typeOf (Value.ref S) >>= _) _ _ _
  refine wpAny_bind (wpAny_typeOf hTy' ?_)
  refine wpAny_pure ?_
  have hz:(s.heap.push { cls:=.type "list",data:=.seq ([]:List Value).toArray }).objs.size=s.heap.objs.size + 1:=Heap.size_push ..
  have hLf:s.heap.objs.size ∉ fp:=fun hm=>by
    rcases hfp _ hm with e | e
    · exact absurd e (Nat.ne_of_gt hlt)
    · have e':s.heap.objs.size + 1<=s.heap.objs.size:=hz ▸ e
      exact absurd e' (Nat.not_succ_le_self _)
  have hL:h'.get? s.heap.objs.size=some { cls:=.type "list",data:=.seq ([]:List Value).toArray }:=ext _ _ (Heap.get?_push_size _ rfl)
  have hlen:vs.length=ss'.length:=by rw [<- hv.strs,List.length_map]
  rw [if_pos (by decide)]
  refine wpAny_bind (wpAny_rule (wpAny_bind ?_))
  show wpAny _ A.in1 (updateSeq s.heap.objs.size (·.push .none) >>= fun _=>updateSeq s.heap.objs.size (·.pop)) _ _ _
  refine wpAny_bind (wpAny_updateSeq hL rfl ?_)
  have hL2:=Heap.get?_update_self (Obj.mapSeq (·.push Value.none)) hL rfl
  refine wpAny_updateSeq hL2 rfl ?_
  have hL3:=Heap.get?_update_self (Obj.mapSeq (·.pop)) hL2 rfl
  have oth:∀ b o,b ≠ s.heap.objs.size->h'.get? b=some o->((h'.update s.heap.objs.size (Obj.mapSeq (·.push Value.none))).update s.heap.objs.size (Obj.mapSeq (·.pop))).get? b=some o :=
    fun b o hb e=>(Heap.get?_update_other _ _ (Ne.symm hb)).trans ((Heap.get?_update_other _ _ (Ne.symm hb)).trans e)
  refine wpAny_pure ⟨plainId_quiet F.plain_extend_loop _,codeAny_extend_loopS (W A.in1 hh).toS (by rw [hlen,hperm.length_eq]; exact fits_of_scanBound hsm) _ hLf _ vs.length 0 _ _ _ rfl (Nat.zero_le _)
    ((W A.in1 hh).frame 0 _ _ st fun b hb o e=>oth b o (fun h=>hLf (h ▸ hb)) e) hL3 (ItemsOf.nil _) fun s' acc' c' hm hS' hacc=>?_⟩
  show wpAny _ A (load s.heap.objs.size >>= _) _ _ s'
  refine wpAny_bind (wpAny_load hS' ?_)
  have ea:acc'.toList=vs:=by
    refine List.ext_getElem? fun i=>?_
    by_cases c:i < vs.length
    · have hi:i < acc'.size:=by rw [hacc.1]; exact c
      have:=hacc.2 i _ (getElem?_pos acc' i hi)
      rw [Array.getElem?_toList,getElem?_pos acc' i hi]; exact this.symm
    · rw [List.getElem?_eq_none (by rw [Array.length_toList,hacc.1]; omega),List.getElem?_eq_none (by omega)]
  show wpAny _ _ (pure acc'.toList) _ _ _
  rw [ea]
  obtain ⟨h2,g2,d2,tk2,os2⟩:=s'
  obtain rfl:g2=s.gens:=hm.gens
  obtain rfl:d2=d:=hm.drawn
  obtain rfl:os2=s.os:=hm.os
  refine wpAny_pure (hQ h2 d2 tk2 vs ss' hv hperm (Heap.lt_size hS') fun b o e=>hm.heap b o ?_ (oth b o (Nat.ne_of_lt (Heap.lt_size e)) (ext _ _ (Heap.get?_push_of_some _ e))))
  have hb:=Heap.lt_size e
  simp only [List.mem_cons,List.not_mem_nil,or_false,not_or]
  refine ⟨Nat.ne_of_lt hb,fun e=>?_⟩
  rw [e] at hb
  rw [hz] at hI
  exact absurd (Nat.lt_of_lt_of_le hb (Nat.le_of_succ_le hI)) (Nat.lt_irrefl _)
theorem w_sort {a:Addr} {vs:List Value} {n:Nat} {P:Fin->Shared->Prop} (ho:s.heap.get? a=some (seqObj "list" vs.toArray n)) (hS:StrsAre vs ss) (hb:vs.length < scanBound)
    (h:∀ out ss',StrsAre out.toList ss'->ss'.Perm ss->Asc ss'->P (.done (.ret .none)) { s with heap:=sortedHeap s.heap a vs out }):wpAny (model prog w) A (Builtin.«list.sort» ⟨[.ref a],[]⟩) P E s:=by
  rw [list_sort_plain]
  have ha:a < s.heap.objs.size:=Heap.lt_size ho
  have hsz:vs.toArray.size=vs.length:=by simp
  have hfit:vs.length<=sizeLine:=fits_of_scanBound hb
  refine wpAny_bind (listItems_at ho rfl (wpAny_bind (listUpdate_at ho rfl ?_ (hsz:=by rw [hsz]; exact hfit))))
  obtain ⟨e1,ho1⟩:∃ e1,(s.heap.update a (Obj.mapSeq fun _=>#[])).get? a=some (seqObj "list" #[] e1):=⟨_,get?_update_seq ho (fun _=>#[])⟩
  refine wpAny_bind (seqEpoch_at ho1 rfl (wpAny_bind (wpAny_newTuple (wpAny_bind (wpAny_newList (wpAny_holding ?_))) (hsz:=by simpa using hfit))))
  have ho6:(((s.heap.update a (Obj.mapSeq fun _=>#[])).push (seqObj "tuple" vs.toArray 0)).push (seqObj "list" #[] 0)).get? a=some (seqObj "list" #[] e1) :=
    Heap.get?_push_of_some _ (Heap.get?_push_of_some _ ho1)
  show wpAny (model prog w) A _ P E { s with heap:=((s.heap.update a (Obj.mapSeq fun _=>#[])).push (seqObj "tuple" vs.toArray 0)).push (seqObj "list" #[] 0) }
  dsimp only
  have fin:∀ st':SortSt,(arrOf st').Perm (pairsOf vs)->SO.Srt PyProof.Rows.strKind (arrOf st').toList->P (.done (.ret .none)) { s with heap:=sortedHeap s.heap a vs ((arrOf st').map (·.2)) }:=by
    intro st' q1 q2
    obtain ⟨ss',r1,r2,r3⟩:=asc_out hS q1 q2
    exact h _ ss' r1 r2 r3
  have up:∀ xs:Array Keyed,xs.Perm (pairsOf vs)->(xs.map (·.2)).size<=sizeLine + 1:=fun xs hp=>by
    rw [Array.size_map,hp.size_eq,pairsOf_size]; omega
  by_cases h2:vs.toArray.size < 2
  · rw [if_pos h2,if_pos h2]
    refine wpAny_bind (wpAny_pure ?_)
    rw [StateT.run_pure]
    refine wpAny_bind (wpAny_pure ?_)
    dsimp only
    refine wpAny_bind (seqEpoch_at ho6 rfl (wpAny_bind (listUpdate_at ho6 rfl ?_ (hsz2:=up _ (Array.Perm.refl _)))))
    rw [if_neg (by simp)]
    refine wpAny_pure (fin (SortSt.mk' general' (pairsOf vs) #[] 7 none) (Array.Perm.refl _) ?_)
    show SO.Srt _ (pairsOf vs).toList
    rw [pairsOf_toList]
    match vs,hsz,h2 with
    | [],_,_=>exact List.Pairwise.nil
    | [_],_,_=>exact List.pairwise_singleton _ _
    | _ :: _ :: _,e,h=>simp at h; omega
  · rw [if_neg h2,if_neg h2]
    obtain ⟨v₁,v₂,rest,rfl⟩:∃ v₁ v₂ rest,vs=v₁ :: v₂ :: rest:=by
      match vs,hsz,h2 with
      | [],_,h2=>simp at h2
      | [_],_,h2=>simp at h2
      | v₁ :: v₂ :: rest,_,_=>exact ⟨v₁,v₂,rest,rfl⟩
    rw [keyKind_strs hS]
    refine wpAny_bind (wpAny_pure ?_)
    refine wpAny_bind (wpAny_mono (SO.w_sortRuns (a₀:=pairsOf (v₁ :: v₂ :: rest)) (st:=SortSt.mk' oneType' ((v₁ :: v₂ :: rest).toArray.zip (v₁ :: v₂ :: rest).toArray) #[] 7 none)
      (Q:=fun _ st'=>(arrOf st').Perm (pairsOf (v₁ :: v₂ :: rest)) /\ failedOf st'=none /\ SO.Srt PyProof.Rows.strKind (arrOf st').toList)
      strKind_oneLt hS.keysOf rfl rfl rfl rfl (SO.minRun_pos _ _ _ (by rw [pairsOf_size]; simp) (Nat.le_refl _)) fun st' a1 a2 a3=>⟨a1,a2,a3⟩) ?_ fun _ _ e=>e)
    rintro ⟨⟨⟩,st'⟩ s' ⟨rfl,hp,hf,hs⟩
    dsimp only
    refine wpAny_bind (seqEpoch_at ho6 rfl (wpAny_bind (listUpdate_at ho6 rfl ?_ (hsz2:=up _ hp))))
    rw [hf,if_neg (by simp)]
    exact wpAny_pure (fin st' hp hs)
theorem w_sorted (hh:A.handled=none) (hS:s.heap.get? S=some o) (hT:TS w o ss (!byT w)) {Q:Value->Shared->Prop}
    (h:∀ h' d tk a out ss' n,h'.get? a=some (seqObj "list" out n)->StrsAre out.toList ss'->ss'.Perm ss->Asc ss'->s.heap.objs.size<=a->(∀ b o,s.heap.get? b=some o->h'.get? b=some o)->Q (.ref a) { s with heap:=h',drawn:=d,toks:=tk }) :
    wpAny (model prog w) A (call (.builtin "sorted") [.ref S]) Q E s:=by
  have hsm:ss.length < scanBound:=by
    obtain ⟨es,ep,t,hT⟩:=hT
    rw [<- hT.perm.length_eq]
    have:=hT.small
    simpa [keys] using this
  refine Calls.call_function_entry kind_sorted plain_sorted entry_sorted (args_sorted1 _) ?_
  unfold Builtin.«sorted»
  refine wpAny_bind (m:=checkCount "sorted" 1 1 _) (wpAny_pure ?_)
  refine wpAny_bind (w_collect (by simpa using hh) hS hT fun h1 d tk vs ss1 v1 v2 hle k=>?_)
  have hlen:vs.length=ss.length:=by rw [<- v2.length_eq,<- v1.strs,List.length_map]
  refine wpAny_bind (wpAny_newList ?_ (hsz:=by rw [hlen]; exact fits_of_scanBound hsm))
  have hoL:(h1.push (seqObj "list" vs.toArray 0)).get? h1.objs.size=some (seqObj "list" vs.toArray 0):=Heap.get?_push_size _ rfl
  refine wpAny_bind (wpAny_holding (wpAny_call_entry slot_list_sort ⟨_,hoL,rfl⟩ entry_list_sort (w_sort hoL v1 (by rw [hlen]; exact hsm) fun out ss' a1 a2 a3=>⟨_,rfl,?_⟩) (args_list_sort _)))
  obtain ⟨n,hn⟩:=sortedHeap_at (h:=h1.push (seqObj "list" vs.toArray 0)) (out:=out) hoL
  refine wpAny_pure ⟨_,rfl,h _ d tk _ out ss' n hn a1 (a2.trans v2) a3 (Nat.le_of_lt hle) fun b o e=>?_⟩
  have hb:=Heap.lt_size (k _ _ e)
  rw [sortedHeap_old (Nat.ne_of_lt hb) (by rw [size_push']; exact Nat.lt_succ_of_lt hb)]
  exact Heap.get?_push_of_some _ (k _ _ e)
end
end ST
set_option Elab.async false
set_option linter.all false
set_option maxRecDepth 100000
set_option maxHeartbeats 4000000
namespace L2
open PySem PySem.Spec PyProof.Rows
theorem dd_mem (l:List Str) (x:Str):∀ σ:List Str,x ∈ l.foldl (fun σ x=>if x ∈ σ then σ else σ ++ [x]) σ ↔ x ∈ σ \/ x ∈ l:=by
  induction l with
  | nil=>intro σ; simp
  | cons y l ih =>
    intro σ
    rw [List.foldl_cons,ih]
    by_cases c:y ∈ σ
    · rw [if_pos c]
      constructor
      · rintro (h | h)
        · exact .inl h
        · exact .inr (List.mem_cons_of_mem _ h)
      · rintro (h | h)
        · exact .inl h
        · rcases List.mem_cons.mp h with rfl | h
          · exact .inl c
          · exact .inr h
    · rw [if_neg c]
      simp only [List.mem_append,List.mem_cons,List.not_mem_nil,or_false,List.mem_singleton]
      exact or_assoc
noncomputable def Up (ss:List Str):Prop:=ss.Pairwise fun a b=>a.cps.toList < b.cps.toList
theorem up_of {ss:List Str} (h:ST.Asc ss) (hn:ss.Nodup):Up ss:=by
  refine (List.Pairwise.and h hn).imp ?_
  rintro a b ⟨q1,q2⟩
  have q1:¬ b.cps.toList < a.cps.toList:=by simpa using q1
  rcases Classical.em (a.cps.toList < b.cps.toList) with q | q
  · exact q
  · exact absurd (List.le_antisymm (List.not_lt.mp q1) (List.not_lt.mp q)) fun e=>q2 (by
      obtain ⟨⟨x⟩⟩:=a
      obtain ⟨⟨y⟩⟩:=b
      simp only at e
      rw [e])
theorem Vals.strs:∀ {ss:List Str} {us:List Value},Vals (ss.map V.str) us->StrsAre us ss
  | [],_,h=>by cases h; exact .nil
  | x :: ss,_,h=>by
    cases h with
    | cons r t =>
      obtain ⟨tk,rfl⟩:=r
      exact .cons x tk (Vals.strs t)
theorem strs_vals:∀ {us:List Value} {ss:List Str},StrsAre us ss->Vals (ss.map V.str) us
  | _,_,.nil=>.nil
  | _,_,.cons x t h=>.cons ⟨t,rfl⟩ (strs_vals h)
section
variable {X:Cx}
theorem Inv.drw {pins:List (Addr × Obj)} {σ:List (Option V)} {H:Hp} {s:Shared} (I:Inv X pins σ H s) (d):Inv X pins σ H { s with drawn:=d }:=⟨I.ok,I.os,I.bare,I.base,I.loc,I.cell,I.free,I.freeC,I.pin,I.hok,I.len⟩
noncomputable def rSS (K:PySem.W.Frag):List V->Hp->VK->Prop:=fun xs H Q=>∃ (p:Addr) (ss:List Str),xs=[.ref p] /\ SqL K H p (ss.map V.str) /\ ss.length + 1 < scanBound /\ ∀ (l:Addr) (ss':List Str),H l=none->Up ss'->(∀ x,x ∈ ss' ↔ x ∈ ss)->Q (.ref l) (upd H l (.lst (ss'.map V.str)))
theorem pe_sset {a:Expr} {ta:TA} {p p' pos pos':Pos} (hc:X.calm=true) (hg:Gl X "set") (hm:X.mg "set"=none) (hg2:Gl X "sorted") (hm2:X.mg "sorted"=none) (ha:PA X [a] ta) (hs:starEach [a] X.env=[(false,eval a X.env)]) :
    PE X (.Call (.Name "sorted" p) [.Call (.Name "set" p') [a] [] pos'] [] pos) (fun σ H Q=>ta σ H fun vs H1=>rSS X.K vs H1 Q):=by
  intro pins s σ H Q I h
  refine wpAny_Call_Name_kw (ld_blt I hg2 hm2 boot_sorted ?_ (by decide) (by decide))
  refine PyProof.Rows.callWith_builtin1 ?_ rfl rfl
  show wpAny _ _ (spliced ((false,eval (.Call (.Name "set" p') [a] [] pos') X.env) :: [])) _ _ s
  refine Calls.spliced_cons (Call_ (ld_blt I hg hm boot_set (PyProof.Rows.callWith_type1 (thn (ha pos' pins s σ H _ I h) fun us s1 ⟨vs,H1,I1,r1,q1⟩=>?_) hs rfl) (by decide) (by decide)))
  obtain ⟨b,ss,e,hq,hsz,q⟩:=q1
  subst e
  cases r1 with
  | cons r rr =>
    cases rr
    cases r
    obtain ⟨its,rv,pl,hz⟩:=I1.list hq
    have hS:=rv.strs
    have hl:=rv.length
    rw [List.length_map] at hl
    refine ST.w_set (I1.ok.hd hc) pl.isList (by simpa using hS) (by simp only [List.size_toArray]; omega) fun h1 tk o ho hT kp=>?_
    refine wpAny_pure ?_
    refine ST.w_sorted (s:={ s1 with heap:=h1,toks:=tk }) (I1.ok.hd hc) ho hT fun h2 d tk2 a out ss' n ha hv hpm has hle kp2=>?_
    have hnd:(ST.dd ss).Nodup:=by
      obtain ⟨es,ep,t,hT⟩:=hT
      exact hT.nodup
    have sz:s1.heap.objs.size<=a:=Nat.le_trans (Nat.le_of_lt (Heap.lt_size ho)) hle
    have hm':∀ x,x ∈ ss' ↔ x ∈ ss:=fun x=>by
      rw [hpm.mem_iff]
      have:=dd_mem ss x []
      simpa [ST.dd] using this
    have hln:ss'.length=out.size:=by rw [<- hv.strs,List.length_map]; simp
    have hle':(ss'.map V.str).length<=sizeLine:=by
      rw [List.length_map,hpm.length_eq]
      exact fits_of_scanBound (Nat.lt_of_le_of_lt (ST.dd_len ss) (by omega))
    refine ⟨.ref _,_,(I1.drw d).laid (t':=tk2) (fun b' o e=>kp2 b' o (kp b' o e)) sz (show ObjOk X.prog X.w _ h2 _ (.lst (ss'.map V.str)) from ⟨hle',out.toList,n,strs_vals hv,?_⟩),rfl,q _ ss' (I1.hok.fresh sz) (up_of has (hpm.nodup_iff.mpr hnd)) hm'⟩
    simpa using ha
end
end L2
set_option Elab.async false
set_option linter.all false
set_option maxRecDepth 100000
namespace PI
open PySem L2
inductive D where
  | non | bl (b:Bool) | int (i:Int) | str (x:Str) | tup (xs:List D) | loc (n:Nat) | fl (xs:List D)
inductive O where
  | lst (xs:List D) | dK (kvs:List (Key × D)) | dT (kvs:List (List Key × D)) | obj (x:Str) (fs:List (Str × D))
noncomputable abbrev Hh:=List O
noncomputable abbrev En:=List (Option D)
inductive Res (α:Type) where
  | ok (a:α) (h:Hh) | exc (c:Nat) (h:Hh) | no
noncomputable def Res.bind {α β:Type} (r:Res α) (f:α->Hh->Res β):Res β:=match r with
  | .ok a h=>f a h
  | .exc c h=>.exc c h
  | .no=>.no
@[simp] theorem bind_ok {α β:Type} {a:α} {h:Hh} {f:α->Hh->Res β}:(Res.ok a h).bind f=f a h:=rfl
@[simp] theorem bind_exc {α β:Type} {c:Nat} {h:Hh} {f:α->Hh->Res β}:(Res.exc c h:Res α).bind f=.exc c h:=rfl
@[simp] theorem bind_no {α β:Type} {f:α->Hh->Res β}:(Res.no:Res α).bind f=.no:=rfl
inductive RS where
  | nx (ρ:En) (h:Hh) | rt (d:D) (h:Hh) | bk (ρ:En) (h:Hh) | ct (ρ:En) (h:Hh) | ex (c:Nat) (ρ:En) (h:Hh) | no
inductive Tg where
  | one (i:Nat) (p:Pos) | tup (is:List (Nat × Pos)) (p:Pos)
inductive M0 where
  | pop | reverse
inductive M1 where
  | append | extend
inductive F1 where
  | str | int | all | abs | any
noncomputable def F1.name:F1->Str
  | .str=>"str" | .int=>"int" | .all=>"all" | .abs=>"abs" | .any=>"any"
inductive Cv where
  | tup (xs:List Str) | int (i:Int) | fn (i:Nat) (x:Str) | oth
  deriving DecidableEq
inductive Cn where
  | int (i:Int) | str (x:Str) | tup (xs:List Str) | dic (kvs:List (Str × Cv)) | exc (c:Nat) (ups:List Nat) | cls (i:Nat) | isc (x:Str) (ys:List Str)
  deriving DecidableEq
set_option genInjectivity false
set_option genSizeOf false
mutual
inductive E where
  | non (p:Pos) | bl (b:Bool) (p:Pos) | int (i:Int) (p:Pos) | str (x:Str) (p:Pos)
  | var (i:Nat) (p:Pos)
  | bin (op:Operator) (a b:E) (p:Pos)
  | un (op:UnaryOp) (a:E) (p:Pos)
  | cmp (op:CmpOp) (a b:E) (p:Pos)
  | and (a b:E) (r:Es) (p:Pos)
  | or (a b:E) (r:Es) (p:Pos)
  | call (f:Nat) (a:E) (r:Es) (p0 p:Pos)
  | len (a:E) (p0 p:Pos)
  | isi (T:Nat) (a:E) (p0 p1 p:Pos)
  | sub (a i:E) (p:Pos)
  | tup (es:Es) (p:Pos)
  | ofL (l:L)
  | tupL (l:L) (p0 p:Pos)
  | tupE (e:E) (p0 p:Pos)
  | cut (a:E) (lo hi:Eo) (p2 p:Pos)
  | dic (p:Pos)
  | m0 (m:M0) (o:E) (p1 p:Pos)
  | m1 (m:M1) (o a:E) (p1 p:Pos)
  | min2 (a b:E) (p0 p:Pos)
  | sset (e:E) (p0 p1 p2 p:Pos)
  | cmpN (neg:Bool) (a:E) (p1 p:Pos)
  | gsub (x:Str) (kvs:List (Str × Cv)) (i:E) (p0 p:Pos)
inductive Es where
  | nil | cons (e:E) (r:Es)
inductive Eo where
  | none | some (e:E)
inductive L where
  | disp (es:Es) (p:Pos)
  | comp (elt:E) (t:Tg) (it:I) (c:Es) (NC:List Str) (cap:List (Option Nat)) (sc:Scope) (p:Pos)
inductive I where
  | seq (e:E) | lst (l:L) | rng (a:E) (p0 p:Pos)
end
structure Rp where
  c:Str
  d:Str
  pa:Pos
  pc:Pos
  pd:Pos
  p:Pos
noncomputable def Rp.py (e:Expr) (r:Rp):Expr:=.Call (.Attribute e "replace" r.pa) [.Constant (.str r.c) 0 r.pc,.Constant (.str r.d) 0 r.pd] [] r.p
inductive Fp where
  | c (x:Str) (p:Pos)
  | r (i:Nat) (p0 p:Pos)
noncomputable def Fp.py (N:List Str):Fp->Expr
  | .c x p=>.Constant (.str x) 0 p
  | .r i p0 p=>.FormattedValue (.Name (N.getD i "") p0) 114 none p
inductive Ms where
  | s (x:Str) (p:Pos)
  | f (a b:Fp) (r:List Fp) (p:Pos)
noncomputable def Ms.py (N:List Str):Ms->Expr
  | .s x p=>.Constant (.str x) 0 p
  | .f a b r p=>.JoinedStr (a.py N :: b.py N :: r.map (Fp.py N)) p
structure Xt where
  neg:Bool
  x:Str
  d:Option Nat
  pe:Pos
  p0:Pos
  p1:Pos
  p:Pos
  pn:Pos
noncomputable def Xt.call (e:Str) (t:Xt):Expr:=.Call (.Name "isinstance" t.p0) [.Name e t.pe,.Name t.x t.p1] [] t.p
noncomputable def Xt.py (e:Str) (t:Xt):Expr:=match t.neg with
  | true=>.UnaryOp .Not (t.call e) t.pn
  | false=>t.call e
noncomputable def Xt.is (u:List Nat) (t:Xt):Bool:=match t.d with
  | some d=>u.contains d
  | none=>true
noncomputable def Xt.val (u:List Nat) (t:Xt):Bool:=match t.neg with
  | true=>!(t.is u)
  | false=>t.is u
inductive Xv where
  | and (a b:Xt) (r:List Xt) (p:Pos) | lst (ts:List Xt) (p:Pos) | one (t:Xt)
noncomputable def Xv.py (e:Str):Xv->Expr
  | .and a b r p=>.BoolOp .And (a.py e :: b.py e :: r.map (Xt.py e)) p
  | .lst ts p=>.List (ts.map (Xt.py e)) p
  | .one t=>t.py e
mutual
inductive S where
  | set (i:Nat) (e:E) (p1 p:Pos)
  | ret (e:E) (p:Pos)
  | iff (c:E) (a b:Ss) (p:Pos)
  | ex (e:E) (p:Pos)
  | put (o i v:E) (p1 p:Pos)
  | forr (t:Tg) (it:I) (b:Ss) (p:Pos)
  | whil (c:E) (b:Ss) (p:Pos)
  | setT (is:List (Nat × Pos)) (e:E) (p1 p:Pos)
inductive Ss where
  | nil | cons (s:S) (r:Ss)
end
set_option genInjectivity true
set_option genSizeOf true
structure Nm where
  N:List Str
  F:List Str
  G:List (Str × Cn):=[]
noncomputable def tyName:Nat->Str
  | 0=>"int" | 1=>"bool" | 2=>"str" | 3=>"tuple" | _=>"list"
noncomputable def tyStr:Nat->String
  | 0=>"int" | 1=>"bool" | 2=>"str" | 3=>"tuple" | _=>"list"
noncomputable def Tg.py (N:List Str):Tg->Expr
  | .one i p=>.Name (N.getD i "") p
  | .tup is p=>.Tuple (is.map fun q=>.Name (N.getD q.1 "") q.2) 0 p
mutual
noncomputable def E.py (n:Nm):E->Expr
  | .non p=>.Constant .none 0 p
  | .bl b p=>.Constant (.bool b) 0 p
  | .int i p=>.Constant (.int i) 0 p
  | .str x p=>.Constant (.str x) 0 p
  | .var i p=>.Name (n.N.getD i "") p
  | .bin op a b p=>.BinOp (a.py n) op (b.py n) p
  | .un op a p=>.UnaryOp op (a.py n) p
  | .cmp op a b p=>.Compare (a.py n) [op] [b.py n] p
  | .and a b r p=>.BoolOp .And (a.py n :: b.py n :: r.py n) p
  | .or a b r p=>.BoolOp .Or (a.py n :: b.py n :: r.py n) p
  | .call f a r p0 p=>.Call (.Name (n.F.getD f "") p0) (a.py n :: r.py n) [] p
  | .len a p0 p=>.Call (.Name "len" p0) [a.py n] [] p
  | .isi T a p0 p1 p=>.Call (.Name "isinstance" p0) [a.py n,.Name (tyName T) p1] [] p
  | .sub a i p=>.Subscript (a.py n) (i.py n) p
  | .tup es p=>.Tuple (es.py n) 0 p
  | .ofL l=>l.py n
  | .tupL l p0 p=>.Call (.Name "tuple" p0) [l.py n] [] p
  | .tupE e p0 p=>.Call (.Name "tuple" p0) [e.py n] [] p
  | .cut a lo hi p2 p=>.Subscript (a.py n) (.Slice (lo.py n) (hi.py n) .none p2) p
  | .dic p=>.Dict [] [] p
  | .m0 m o p1 p=>.Call (.Attribute (o.py n) (match m with | .pop=>"pop" | .reverse=>"reverse") p1) [] [] p
  | .m1 m o a p1 p=>.Call (.Attribute (o.py n) (match m with | .append=>"append" | .extend=>"extend") p1) [a.py n] [] p
  | .min2 a b p0 p=>.Call (.Name "min" p0) [a.py n,b.py n] [] p
  | .cmpN neg a p1 p=>.Compare (a.py n) [if neg then .NotEq else .Eq] [.List [] p1] p
  | .sset e p0 p1 p2 p=>.Call (.Name "sorted" p0) [.Call (.Name "set" p1) [e.py n] [] p2] [] p
  | .gsub x _ i p0 p=>.Subscript (.Name x p0) (i.py n) p
noncomputable def Eo.py (n:Nm):Eo->Option Expr
  | .none=>.none
  | .some e=>.some (e.py n)
noncomputable def L.py (n:Nm):L->Expr
  | .disp es p=>.List (es.py n) p
  | .comp elt t it c NC cap sc p=>.ListComp (elt.py ⟨NC,n.F,n.G⟩) [⟨t.py NC,it.py n,c.py ⟨NC,n.F,n.G⟩,0⟩] sc p
noncomputable def I.py (n:Nm):I->Expr
  | .seq e=>e.py n
  | .lst l=>l.py n
  | .rng a p0 p=>.Call (.Name "range" p0) [a.py n] [] p
noncomputable def Es.py (n:Nm):Es->List Expr
  | .nil=>[]
  | .cons e r=>e.py n :: r.py n
end
mutual
noncomputable def S.py (n:Nm):S->Stmt
  | .set i e p1 p=>.Assign [.Name (n.N.getD i "") p1] (e.py n) p
  | .ret e p=>.Return (some (e.py n)) p
  | .iff c a b p=>.If (c.py n) (a.py n) (b.py n) p
  | .ex e p=>.Expr (e.py n) p
  | .put o i v p1 p=>.Assign [.Subscript (o.py n) (i.py n) p1] (v.py n) p
  | .forr t it b p=>.For (t.py n.N) (it.py n) (b.py n) [] p
  | .whil c b p=>.While (c.py n) (b.py n) [] p
  | .setT is e p1 p=>.Assign [(Tg.tup is p1).py n.N] (e.py n) p
noncomputable def Ss.py (n:Nm):Ss->List Stmt
  | .nil=>[]
  | .cons s r=>s.py n :: r.py n
end
mutual
noncomputable def D.pd (h:Hh):D->Option PyData
  | .non=>some .none
  | .bl b=>some (.bool b)
  | .int i=>some (.int i)
  | .str x=>some (.str x)
  | .tup xs=>(D.pds h xs).map .tuple
  | .loc _=>none
  | .fl xs=>(D.pds h xs).map .list
noncomputable def D.pds (h:Hh):List D->Option (List PyData)
  | []=>some []
  | x :: r=>match D.pd h x,D.pds h r with
    | some a,some b=>some (a :: b)
    | _,_=>none
end
noncomputable def keyD:D->Option Key
  | .int i=>some (.inl i)
  | .str x=>some (.inr x)
  | _=>none
noncomputable def keysL:List D->Option (List Key)
  | []=>some []
  | d :: r=>match keyD d,keysL r with
    | some k,some ks=>some (k :: ks)
    | _,_=>none
noncomputable def keysT:D->Option (List Key)
  | .tup ds=>keysL ds
  | _=>none
noncomputable def valD {κ:Type} [DecidableEq κ] (kvs:List (κ × D)) (k:κ):Option D:=(kvs.find? fun kv=>decide (kv.1=k)).map (·.2)
noncomputable def rd (h:Hh) (n:Nat):Option (List D):=match h[n]? with
  | some (.lst xs)=>some xs
  | _=>none
noncomputable def pdT (h:Hh):D->Option PyData
  | .loc n=>(rd h n).bind fun xs=>(D.pds h xs).map .list
  | d=>D.pd h d
noncomputable def isI (h:Hh):D->Nat->Option Bool
  | .non,_=>some false
  | .bl _,T=>some (T == 0 || T == 1)
  | .int _,T=>some (T == 0)
  | .str _,T=>some (T == 2)
  | .tup _,T=>some (T == 3)
  | .loc n,T=>(rd h n).map fun _=>T == 4
  | .fl _,T=>some (T == 4)
noncomputable def fits (i:Int):Bool:=decide (Builtin.Int.intBits i<=2 ^ 20)
noncomputable def eqR (neg:Bool) (u v:Option PyData) (h:Hh):Res D:=match u,v with
  | some u,some v=>if u.canLay0=true /\ v.canLay0=true /\ u.depth<=60 then .ok (.bl (if neg then !PyData.eqv u v else PyData.eqv u v)) h else .no
  | _,_=>.no
noncomputable def i2 (a b:D) (f:Int->Int->Res D):Res D:=match a,b with
  | .int i,.int j=>f i j
  | _,_=>.no
noncomputable def addD (a b:D) (h:Hh):Res D:=match a,b with
  | .int i,.int j=>.ok (.int (i + j)) h
  | .str x,.str y=>if x.length + y.length<=1000000 then .ok (.str (x ++ y)) h else .no
  | .loc n,.loc m=>match h[n]?,h[m]? with
    | some (.lst xs),some (.lst ys)=>if xs.length + ys.length<=1000000 then .ok (.loc h.length) (h ++ [.lst (xs ++ ys)]) else .no
    | _,_=>.no
  | .tup xs,.tup ys=>if xs.length + ys.length<=1000000 then .ok (.tup (xs ++ ys)) h else .no
  | _,_=>.no
noncomputable def mulD (a b:D) (h:Hh):Res D:=match b with
  | .int j=>match a with
    | .int i=>if fits i=true /\ fits j=true then .ok (.int (i * j)) h else .no
    | .str x=>if 0<=j /\ j<=1000 /\ x.length<=1000 then .ok (.str (Txt.mul x j)) h else .no
    | .loc n=>match h[n]? with
      | some (.lst xs)=>if 0<=j /\ j<=1000 /\ xs.length<=1000 then .ok (.loc h.length) (h ++ [.lst (List.replicate j.toNat xs).flatten]) else .no
      | _=>.no
    | _=>.no
  | _=>.no
noncomputable def binD (op:Operator) (a b:D) (h:Hh):Res D:=match op with
  | .Add=>addD a b h
  | .Mult=>mulD a b h
  | .Sub=>i2 a b fun i j=>.ok (.int (i - j)) h
  | .FloorDiv=>i2 a b fun i j=>if 0 < j /\ j < 1073741824 then .ok (.int (i / j)) h else .no
  | .Mod=>i2 a b fun i j=>if 0 < j then .ok (.int (i % j)) h else .no
  | .Pow=>i2 a b fun i j=>if 0<=j /\ j<=1000000 /\ i.natAbs < 2 ^ 64 then .ok (.int (i ^ j.toNat)) h else .no
  | .LShift=>i2 a b fun i j=>if fits i=true /\ 0<=j /\ j<=1000000 then .ok (.int (i * 2 ^ j.toNat)) h else .no
  | .RShift=>i2 a b fun i j=>if 0<=j then .ok (.int (i / 2 ^ j.toNat)) h else .no
  | .BitAnd=>i2 a b fun i j=>.ok (.int (Builtin.bitAnd i j)) h
  | .BitOr=>i2 a b fun i j=>.ok (.int (Builtin.bitOr i j)) h
  | _=>.no
noncomputable def vOf:D->V
  | .bl b=>.bl b
  | .int i=>.int i
  | .str x=>.str x
  | _=>.non
noncomputable def flatD:D->Bool
  | .non | .bl _ | .int _ | .str _=>true
  | _=>false
noncomputable def ngB (neg b:Bool):Bool:=if neg then !b else b
@[simp] theorem ngB_f {b:Bool}:ngB false b=b:=rfl
@[simp] theorem ngB_t {b:Bool}:ngB true b=!b:=rfl
noncomputable def isN:D->Bool
  | .non=>true
  | _=>false
noncomputable def flatT:D->Bool
  | .tup _=>true
  | d=>flatD d
noncomputable def inXs (neg:Bool) (x:D) (ds:List D) (h:Hh):Res D:=if flatD x=true /\ ds.all flatD=true then .ok (.bl (ngB neg (ds.any fun y=>eqV (vOf y) (vOf x)))) h else if neg=false /\ isN x=true /\ ds.all flatT=true then .ok (.bl (ds.any isN)) h else .no
noncomputable def inD (neg:Bool) (x y:D) (h:Hh):Res D:=match y with
  | .tup ds=>inXs neg x ds h
  | .fl ds=>inXs neg x ds h
  | .loc n=>match h[n]? with
    | some (.lst ds)=>inXs neg x ds h
    | some (.dK kvs)=>(match keyD x with | some k=>.ok (.bl (ngB neg (valD kvs k).isSome)) h | none=>(match kvs with | []=>(match keysT x with | some _=>.ok (.bl (ngB neg false)) h | none=>.no) | _=>.no))
    | some (.dT kvs)=>(match keysT x with | some k=>.ok (.bl (ngB neg (valD kvs k).isSome)) h | none=>.no)
    | _=>.no
  | .str z=>(match x with | .str u=>.ok (.bl (ngB neg (!(Builtin.Str.occurrences z u 0 z.length 1).isEmpty))) h | _=>.no)
  | _=>.no
noncomputable def isV (neg:Bool) (a b:D) (h:Hh):Res D:=match b with
  | .non=>.ok (.bl (ngB neg (isN a))) h
  | .bl y=>match a with
    | .bl x=>.ok (.bl (ngB neg (x == y))) h
    | _=>.no
  | _=>.no
noncomputable def cmpD (op:CmpOp) (a b:D) (h:Hh):Res D:=match op with
  | .Lt=>i2 a b fun i j=>.ok (.bl (decide (i < j))) h
  | .LtE=>i2 a b fun i j=>.ok (.bl (decide (i<=j))) h
  | .Gt=>i2 a b fun i j=>.ok (.bl (decide (j < i))) h
  | .GtE=>i2 a b fun i j=>.ok (.bl (decide (j<=i))) h
  | .Eq=>eqR false (pdT h a) (pdT h b) h
  | .NotEq=>eqR true (pdT h a) (pdT h b) h
  | .In=>inD false a b h
  | .NotIn=>inD true a b h
  | .Is=>isV false a b h
  | .IsNot=>isV true a b h
noncomputable def unD (op:UnaryOp) (a:D) (h:Hh):Res D:=match op,a with
  | .Not,.bl b=>.ok (.bl (!b)) h
  | .Invert,.int i=>.ok (.int (Builtin.bitNot i)) h
  | .USub,.int i=>.ok (.int (-i)) h
  | _,_=>.no
noncomputable def lenD (a:D) (h:Hh):Res D:=match a with
  | .tup xs=>.ok (.int xs.length) h
  | .loc n=>match rd h n with | some xs=>.ok (.int xs.length) h | none=>.no
  | .str x=>if x.length<=1000000 then .ok (.int x.length) h else .no
  | .fl xs=>.ok (.int xs.length) h
  | _=>.no
noncomputable def subD (a i:D) (h:Hh):Res D:=match a,i with
  | .tup xs,.int k=>match atI xs k with | some d=>.ok d h | none=>.no
  | .fl xs,.int k=>match atI xs k with | some d=>.ok d h | none=>.no
  | .str x,.int k=>if x.length<=1000000 then (match atI x.cps.toList k with | some c=>.ok (.str ⟨#[c]⟩) h | none=>.no) else .no
  | .loc n,y=>match h[n]? with
    | some (.dK kvs)=>match (keyD y).bind (fun k=>valD kvs k) with | some d=>.ok d h | none=>.no
    | some (.dT kvs)=>match (keysT y).bind (fun k=>valD kvs k) with | some d=>.ok d h | none=>.no
    | some (.lst xs)=>match y with
      | .int k=>match atI xs k with | some d=>.ok d h | none=>.no
      | _=>.no
    | _=>.no
  | _,_=>.no
noncomputable def new (o:O) (h:Hh):Res D:=.ok (.loc h.length) (h ++ [o])
noncomputable def putD {κ:Type} [DecidableEq κ] (kvs:List (κ × D)) (k:κ) (v:D):List (κ × D):=if (kvs.any fun kv=>decide (kv.1=k))=true then kvs.map (fun kv=>if kv.1=k then (kv.1,v) else kv) else kvs ++ [(k,v)]
noncomputable def onL (x:D) (h:Hh) (r:Res D):Res D:=match x with
  | .loc n=>match h[n]? with
    | some (.lst _)=>r
    | _=>.no
  | _=>.no
noncomputable def m0D (m:M0) (o:D) (h:Hh):Res D:=match o with
  | .loc n=>match h[n]? with
    | some (.lst xs)=>match m with
      | .pop=>match xs.getLast? with | some x=>.ok x (h.set n (.lst xs.dropLast)) | none=>.no
      | .reverse=>.ok .non (h.set n (.lst xs.reverse))
    | _=>.no
  | _=>.no
noncomputable def m1D (m:M1) (o a:D) (h:Hh):Res D:=match o with
  | .loc n=>match h[n]? with
    | some (.lst xs)=>match m with
      | .append=>if xs.length < 1000000 then .ok .non (h.set n (.lst (xs ++ [a]))) else .no
      | .extend=>match a with
        | .loc m=>match h[m]? with
          | some (.lst ys)=>if xs.length + ys.length<=1000000 then .ok .non (h.set n (.lst (xs ++ ys))) else .no
          | _=>.no
        | .tup ys=>if xs.length + ys.length<=1000000 then .ok .non (h.set n (.lst (xs ++ ys))) else .no
        | _=>.no
    | _=>.no
  | _=>.no
noncomputable def putS (o i v:D) (h:Hh):Option Hh:=match o with
  | .loc n=>match h[n]? with
    | some (.lst xs)=>match i with
      | .int k=>(ixN xs.length k).map fun j=>h.set n (.lst (xs.set j v))
      | _=>none
    | some (.dK kvs)=>(keyD i).bind fun k=>if kvs.length < 1000000 then some (h.set n (.dK (putD kvs k v))) else none
    | _=>none
  | _=>none
noncomputable def cutXs (xs:List D) (lo hi:Option Int):List D:=(xs.drop (HT.sIx xs.length 0 lo)).take (HT.sIx xs.length xs.length hi - HT.sIx xs.length 0 lo)
noncomputable def cutD (a:D) (lo hi:Option Int) (h:Hh):Res D:=match a with
  | .loc n=>match rd h n with
    | some xs=>new (.lst (cutXs xs lo hi)) h
    | none=>.no
  | .fl xs=>new (.lst (cutXs xs lo hi)) h
  | .str x=>if x.length<=1000000 then .ok (.str (Txt.slice x lo hi)) h else .no
  | .tup xs=>if HT.sIx xs.length 0 lo=0 /\ HT.sIx xs.length xs.length hi=xs.length then .ok (.tup xs) h else .ok (.tup (cutXs xs lo hi)) h
  | _=>.no
noncomputable def intO (d:D) (h:Hh):Res (Option Int):=match d with | .int i=>.ok (some i) h | _=>.no
noncomputable def seqOf (d:D) (h:Hh):Option (List D):=match d with
  | .tup xs=>some xs
  | .fl xs=>some xs
  | .loc n=>rd h n
  | _=>none
noncomputable abbrev Ck:=List (Nat × List D)
noncomputable def stay (c:Ck) (h:Hh):Prop:=∀ p ∈ c,rd h p.1=some p.2
noncomputable def bindT (t:Tg) (d:D) (ρ:En):Option En:=match t with
  | .one i _=>some (ρ.set i (some d))
  | .tup is _=>match d with
    | .tup xs=>if xs.length=is.length then some ((is.zip xs).foldl (fun ρ q=>ρ.set q.1.1 (some q.2)) ρ) else none
    | _=>none
noncomputable def capE (cap:List (Option Nat)) (ρ:En):En:=cap.map fun o=>o.bind fun i=>(ρ[i]?).bind id
noncomputable def compF (t:Tg) (ρ:En) (c:En->Hh->Res Bool) (e:En->Hh->Res D) (x:D) (h:Hh):Res (Option D):=match bindT t x ρ with
  | some ρ'=>(c ρ' h).bind fun b h1=>if b then (e ρ' h1).bind fun d h2=>.ok (some d) h2 else .ok none h1
  | none=>.no
noncomputable def stepF (t:Tg) (b:En->Hh->RS) (x:D) (ρ:En) (h:Hh):RS:=match bindT t x ρ with
  | some ρ'=>b ρ' h
  | none=>.no
noncomputable def addO (acc:List D):Option D->List D
  | some d=>acc ++ [d]
  | none=>acc
@[simp] theorem addO_some {acc:List D} {d:D}:addO acc (some d)=acc ++ [d]:=rfl
@[simp] theorem addO_none {acc:List D}:addO acc none=acc:=rfl
open Classical in
noncomputable def compL (c:Ck) (f:D->Hh->Res (Option D)):List D->List D->Hh->Res (List D)
  | [],acc,h=>if stay c h then .ok acc h else .no
  | x :: r,acc,h=>if stay c h then (f x h).bind fun o h'=>compL c f r (addO acc o) h' else .no
open Classical in
noncomputable def forL (c:Ck) (f:D->En->Hh->RS):List D->En->Hh->RS
  | [],ρ,h=>if stay c h then .nx ρ h else .no
  | x :: r,ρ,h=>if stay c h then (match f x ρ h with
      | .nx ρ' h'=>forL c f r ρ' h'
      | .ct ρ' h'=>forL c f r ρ' h'
      | .bk ρ' h'=>.nx ρ' h'
      | o=>o) else .no
noncomputable def whL (c:En->Hh->Res Bool) (b:En->Hh->RS):Nat->En->Hh->RS
  | 0,_,_=>.no
  | n + 1,ρ,h=>match c ρ h with
    | .ok true h1=>(match b ρ h1 with
      | .nx ρ' h'=>whL c b n ρ' h'
      | .ct ρ' h'=>whL c b n ρ' h'
      | .bk ρ' h'=>.nx ρ' h'
      | o=>o)
    | .ok false h1=>.nx ρ h1
    | .exc k h1=>.ex k ρ h1
    | .no=>.no
theorem whL_more {c:En->Hh->Res Bool} {b:En->Hh->RS}:∀ (n:Nat) (ρ:En) (h:Hh),whL c b n ρ h ≠ .no->whL c b (n + 1) ρ h=whL c b n ρ h
  | 0,ρ,h,z=>absurd rfl z
  | n + 1,ρ,h,z=>by
    rw [whL] at z ⊢
    rw [whL]
    cases ec:c ρ h with
    | ok t h1 =>
      cases t with
      | true =>
        rw [ec] at z
        simp only at z ⊢
        cases eb:b ρ h1 with
        | nx ρ' h'=>rw [eb] at z; exact whL_more n ρ' h' z
        | ct ρ' h'=>rw [eb] at z; exact whL_more n ρ' h' z
        | _=>rfl
      | false=>rfl
    | _=>rfl
theorem whL_le {c:En->Hh->Res Bool} {b:En->Hh->RS} {n m:Nat} {ρ:En} {h:Hh} (hl:n<=m) (z:whL c b n ρ h ≠ .no):whL c b m ρ h=whL c b n ρ h:=by
  induction hl with
  | refl=>rfl
  | step _ ih=>rw [whL_more _ _ _ (by rw [ih]; exact z),ih]
open Classical in
noncomputable def whR (c:En->Hh->Res Bool) (b:En->Hh->RS) (ρ:En) (h:Hh):RS:=if e:∃ n,whL c b n ρ h ≠ .no then whL c b (Classical.choose e) ρ h else .no
theorem whR_eq {c:En->Hh->Res Bool} {b:En->Hh->RS} {n:Nat} {ρ:En} {h:Hh} {r:RS} (e:whL c b n ρ h=r) (z:r ≠ .no):whR c b ρ h=r:=by
  have ex:∃ n,whL c b n ρ h ≠ .no:=⟨n,by rw [e]; exact z⟩
  unfold whR
  rw [dif_pos ex]
  have z2:=Classical.choose_spec ex
  rw [<- whL_le (Nat.le_max_left (Classical.choose ex) n) z2,whL_le (Nat.le_max_right (Classical.choose ex) n) (by rw [e]; exact z),e]
theorem whR_has {c:En->Hh->Res Bool} {b:En->Hh->RS} {ρ:En} {h:Hh} (z:whR c b ρ h ≠ .no):∃ n,whL c b n ρ h=whR c b ρ h:=by
  unfold whR at z ⊢
  split at z
  · rename_i e
    exact ⟨_,by rw [dif_pos e]⟩
  · exact absurd rfl z
theorem whR_turn {c:En->Hh->Res Bool} {b:En->Hh->RS} {ρ ρ':En} {h h1 h':Hh} (ec:c ρ h=.ok true h1) (eb:b ρ h1=.nx ρ' h'):whR c b ρ h=whR c b ρ' h':=by
  by_cases z:whR c b ρ' h'=.no
  · by_cases z2:whR c b ρ h=.no
    · rw [z,z2]
    · obtain ⟨n,e⟩:=whR_has z2
      cases n with
      | zero=>rw [<- e] at z2; exact absurd rfl z2
      | succ n =>
        rw [whL,ec] at e
        simp only [eb] at e
        rw [<- whR_eq e z2]
  · obtain ⟨n,e⟩:=whR_has z
    exact whR_eq (n:=n + 1) (by rw [whL,ec]; simp only [eb]; exact e) z
theorem whR_done {c:En->Hh->Res Bool} {b:En->Hh->RS} {ρ:En} {h h1:Hh} (ec:c ρ h=.ok false h1):whR c b ρ h=.nx ρ h1 :=
  whR_eq (n:=1) (by rw [whL,ec]) (by simp)
noncomputable def tru (d:D) (h:Hh) (f:Bool->Hh->Res D):Res D:=match d with
  | .bl b=>f b h
  | _=>.no
noncomputable def strsOf:List D->Option (List Str)
  | []=>some []
  | .str x :: r=>(strsOf r).map (x :: ·)
  | _ :: _=>none
noncomputable def putG {α:Type} (f:Str) (v:α):List (Str × α)->List (Str × α)
  | []=>[(f,v)]
  | (g,x) :: r=>if g=f then (g,v) :: r else (g,x) :: putG f v r
noncomputable def nilD (neg:Bool) (x:D) (h:Hh):Res D:=match x with
  | .fl xs=>.ok (.bl (ngB neg xs.isEmpty)) h
  | .loc n=>(match rd h n with | some xs=>.ok (.bl (ngB neg xs.isEmpty)) h | none=>.no)
  | _=>.no
noncomputable def insU (x:Str):List Str->List Str
  | []=>[x]
  | y :: r=>if x=y then y :: r else if x.cps.toList < y.cps.toList then x :: y :: r else y :: insU x r
noncomputable def srtU (l:List Str):List Str:=l.foldr insU []
noncomputable def ssD (x:D) (h:Hh):Res D:=match x with
  | .loc n=>(match rd h n with | some xs=>(match strsOf xs with | some ss=>if ss.length<=4000 then new (.lst ((srtU ss).map .str)) h else .no | none=>.no) | none=>.no)
  | _=>.no
noncomputable def Cv.d:Cv->D
  | .tup xs=>.tup (xs.map .str)
  | .int i=>.int i
  | .fn _ _=>.non
  | .oth=>.non
noncomputable def Cv.isFn:Cv->Bool
  | .fn _ _=>true
  | .oth=>true
  | _=>false
noncomputable def cstD (kvs:List (Str × Cv)) (y:D) (h:Hh):Res D:=match y with
  | .str k=>(match kvs.lookup k with | some c=>if c.isFn then .no else .ok c.d h | none=>.no)
  | _=>.no
noncomputable def fnOf (kvs:List (Str × Cv)) (y:D):Option Nat:=match y with
  | .str k=>(match kvs.lookup k with | some (.fn i _)=>some i | _=>none)
  | _=>none
noncomputable def unpD (d:D) (h:Hh):D:=match d with
  | .loc n=>(match rd h n with | some xs=>.tup xs | none=>.non)
  | d=>d
@[simp] theorem unpD_tup {xs:List D} {h:Hh}:unpD (.tup xs) h=.tup xs:=rfl
noncomputable def Xv.run (u:List Nat) (h:Hh):Xv->D × Hh
  | .and a b r _=>(.bl (a.val u && (b.val u && r.all (Xt.val u))),h)
  | .lst ts _=>(.loc h.length,h ++ [.lst (ts.map fun t=>.bl (t.val u))])
  | .one t=>(.bl (t.val u),h)
noncomputable section
variable (cl:Nat->List D->Hh->Res D)
mutual
noncomputable def E.ev:E->En->Hh->Res D
  | .non _,_,h=>.ok .non h
  | .bl b _,_,h=>.ok (.bl b) h
  | .int i _,_,h=>.ok (.int i) h
  | .str x _,_,h=>.ok (.str x) h
  | .var i _,ρ,h=>match ρ[i]? with | some (some d)=>.ok d h | _=>.no
  | .bin op a b _,ρ,h=>(a.ev ρ h).bind fun x h1=>(b.ev ρ h1).bind fun y h2=>binD op x y h2
  | .un op a _,ρ,h=>(a.ev ρ h).bind fun x h1=>unD op x h1
  | .cmp op a b _,ρ,h=>(a.ev ρ h).bind fun x h1=>(b.ev ρ h1).bind fun y h2=>cmpD op x y h2
  | .and a b r _,ρ,h=>(a.ev ρ h).bind fun x h1=>tru x h1 fun c h1=>if c then (b.ev ρ h1).bind fun y h2=>r.evAnd ρ y h2 else .ok (.bl false) h1
  | .or a b r _,ρ,h=>(a.ev ρ h).bind fun x h1=>tru x h1 fun c h1=>if c then .ok (.bl true) h1 else (b.ev ρ h1).bind fun y h2=>r.evOr ρ y h2
  | .call f a r _ _,ρ,h=>(a.ev ρ h).bind fun x h1=>(r.ev ρ h1).bind fun xs h2=>cl f (x :: xs) h2
  | .len a _ _,ρ,h=>(a.ev ρ h).bind fun x h1=>lenD x h1
  | .isi T a _ _ _,ρ,h=>(a.ev ρ h).bind fun x h1=>match isI h1 x T with | some b=>.ok (.bl b) h1 | none=>.no
  | .sub a i _,ρ,h=>(a.ev ρ h).bind fun x h1=>(i.ev ρ h1).bind fun y h2=>subD x y h2
  | .tup es _,ρ,h=>(es.ev ρ h).bind fun xs h1=>if xs.length<=1000 then .ok (.tup xs) h1 else .no
  | .ofL l,ρ,h=>(l.ev ρ h).bind fun xs h1=>new (.lst xs) h1
  | .tupL l _ _,ρ,h=>(l.ev ρ h).bind fun xs h1=>.ok (.tup xs) h1
  | .tupE e _ _,ρ,h=>(e.ev ρ h).bind fun x h1=>match seqOf x h1 with | some xs=>.ok (.tup xs) h1 | none=>.no
  | .cut a lo hi _ _,ρ,h=>(a.ev ρ h).bind fun x h1=>(lo.ev ρ h1).bind fun l h2=>(hi.ev ρ h2).bind fun u h3=>cutD x l u h3
  | .dic _,_,h=>new (.dK []) h
  | .m0 m o _ _,ρ,h=>(o.ev ρ h).bind fun x h1=>m0D m x h1
  | .m1 m o a _ _,ρ,h=>(o.ev ρ h).bind fun x h1=>onL x h1 ((a.ev ρ h1).bind fun y h2=>m1D m x y h2)
  | .min2 a b _ _,ρ,h=>(a.ev ρ h).bind fun x h1=>(b.ev ρ h1).bind fun y h2=>match x,y with | .int i,.int j=>.ok (.int (if j < i then j else i)) h2 | _,_=>.no
  | .cmpN neg a _ _,ρ,h=>(a.ev ρ h).bind fun x h1=>nilD neg x h1
  | .sset e _ _ _ _,ρ,h=>(e.ev ρ h).bind fun x h1=>ssD x h1
  | .gsub _ kvs i _ _,ρ,h=>(i.ev ρ h).bind fun y h1=>cstD kvs y h1
noncomputable def Eo.ev:Eo->En->Hh->Res (Option Int)
  | .none,_,h=>.ok none h
  | .some e,ρ,h=>(e.ev ρ h).bind fun d h1=>intO d h1
noncomputable def L.ev:L->En->Hh->Res (List D)
  | .disp es _,ρ,h=>(es.ev ρ h).bind fun xs h1=>if xs.length<=1000 then .ok xs h1 else .no
  | .comp elt t it c _ cap _ _,ρ,h=>(it.ev ρ h).bind fun q h1=>if q.2.length<=1000000 then compL q.1 (compF t (capE cap ρ) (fun ρ' h2=>c.evC ρ' h2) (fun ρ' h2=>elt.ev ρ' h2)) q.2 [] h1 else .no
noncomputable def I.ev:I->En->Hh->Res (Ck × List D)
  | .seq e,ρ,h=>(e.ev ρ h).bind fun x h1=>match x with
    | .tup xs=>.ok ([],xs) h1
    | .fl xs=>.ok ([],xs) h1
    | .loc n=>match rd h1 n with | some xs=>.ok ([(n,xs)],xs) h1 | none=>.no
    | .str x=>.ok ([],x.cps.toList.map fun c=>.str ⟨#[c]⟩) h1
    | _=>.no
  | .lst l,ρ,h=>(l.ev ρ h).bind fun xs h1=>.ok ([],xs) h1
  | .rng a _ _,ρ,h=>(a.ev ρ h).bind fun x h1=>match x with
    | .int j=>if -1000000<=j /\ j<=1000000 then .ok ([],(List.range j.toNat).map fun k=>.int (k:Nat)) h1 else .no
    | _=>.no
noncomputable def Es.evC:Es->En->Hh->Res Bool
  | .nil,_,h=>.ok true h
  | .cons e _,ρ,h=>(e.ev ρ h).bind fun d h1=>match d with | .bl b=>.ok b h1 | _=>.no
noncomputable def Es.ev:Es->En->Hh->Res (List D)
  | .nil,_,h=>.ok [] h
  | .cons e r,ρ,h=>(e.ev ρ h).bind fun x h1=>(r.ev ρ h1).bind fun xs h2=>.ok (x :: xs) h2
noncomputable def Es.evAnd:Es->En->D->Hh->Res D
  | .nil,_,x,h=>.ok x h
  | .cons e r,ρ,x,h=>tru x h fun c h1=>if c then (e.ev ρ h1).bind fun y h2=>r.evAnd ρ y h2 else .ok (.bl false) h1
noncomputable def Es.evOr:Es->En->D->Hh->Res D
  | .nil,_,x,h=>.ok x h
  | .cons e r,ρ,x,h=>tru x h fun c h1=>if c then .ok (.bl true) h1 else (e.ev ρ h1).bind fun y h2=>r.evOr ρ y h2
end
noncomputable def E.evT (e:E) (ρ:En) (h:Hh):Res Bool:=(e.ev cl ρ h).bind fun d h1=>match d with | .bl b=>.ok b h1 | _=>.no
noncomputable def andS {α:Type} (ρ:En) (r:Res α) (f:α->Hh->RS):RS:=match r with
  | .ok a h=>f a h
  | .exc c h=>.ex c ρ h
  | .no=>.no
@[simp] theorem andS_ok {α:Type} {ρ:En} {a:α} {h:Hh} {f:α->Hh->RS}:andS ρ (.ok a h) f=f a h:=rfl
@[simp] theorem andS_exc {α:Type} {ρ:En} {c:Nat} {h:Hh} {f:α->Hh->RS}:andS ρ (.exc c h) f=.ex c ρ h:=rfl
noncomputable def seqS (o:RS) (f:En->Hh->RS):RS:=match o with
  | .nx ρ h=>f ρ h
  | o=>o
@[simp] theorem seqS_nx {ρ:En} {h:Hh} {f:En->Hh->RS}:seqS (.nx ρ h) f=f ρ h:=rfl
@[simp] theorem seqS_rt {d:D} {h:Hh} {f:En->Hh->RS}:seqS (.rt d h) f=.rt d h:=rfl
@[simp] theorem seqS_bk {ρ:En} {h:Hh} {f:En->Hh->RS}:seqS (.bk ρ h) f=.bk ρ h:=rfl
@[simp] theorem seqS_ct {ρ:En} {h:Hh} {f:En->Hh->RS}:seqS (.ct ρ h) f=.ct ρ h:=rfl
@[simp] theorem seqS_ex {c:Nat} {ρ:En} {h:Hh} {f:En->Hh->RS}:seqS (.ex c ρ h) f=.ex c ρ h:=rfl
mutual
noncomputable def S.run:S->En->Hh->RS
  | .set i e _ _,ρ,h=>andS ρ (e.ev cl ρ h) fun d h1=>.nx (ρ.set i (some d)) h1
  | .ret e _,ρ,h=>andS ρ (e.ev cl ρ h) fun d h1=>.rt d h1
  | .iff c a b _,ρ,h=>andS ρ (c.evT cl ρ h) fun t h1=>if t then a.run ρ h1 else b.run ρ h1
  | .ex e _,ρ,h=>andS ρ (e.ev cl ρ h) fun _ h1=>.nx ρ h1
  | .put o i v _ _,ρ,h=>andS ρ (v.ev cl ρ h) fun z h1=>andS ρ (o.ev cl ρ h1) fun x h2=>andS ρ (i.ev cl ρ h2) fun y h3=>match putS x y z h3 with | some h4=>.nx ρ h4 | none=>.no
  | .forr t it b _,ρ,h=>andS ρ (it.ev cl ρ h) fun q h1=>forL q.1 (stepF t fun ρ' h'=>b.run ρ' h') q.2 ρ h1
  | .whil c b _,ρ,h=>whR (fun ρ' h'=>c.evT cl ρ' h') (fun ρ' h'=>b.run ρ' h') ρ h
  | .setT is e p1 _,ρ,h=>andS ρ (e.ev cl ρ h) fun d h1=>match bindT (.tup is p1) (unpD d h1) ρ with | some ρ'=>.nx ρ' h1 | none=>.no
noncomputable def Ss.run:Ss->En->Hh->RS
  | .nil,ρ,h=>.nx ρ h
  | .cons s r,ρ,h=>seqS (s.run ρ h) fun ρ' h'=>r.run ρ' h'
end
end
structure Df where
  name:Str
  ps:List Str
  N:List Str
  body:Ss
noncomputable def outR:RS->Res D
  | .rt v h'=>.ok v h'
  | .nx _ h'=>.ok .non h'
  | .ex c _ h'=>.exc c h'
  | _=>.no
noncomputable def Df.run (cl:Nat->List D->Hh->Res D) (d:Df) (as:List D) (h:Hh):Res D :=
  outR (d.body.run cl (as.map some ++ List.replicate (d.N.length - as.length) none) h)
noncomputable def callI (ds:List Df):Nat->Nat->List D->Hh->Res D
  | 0,_,_,_=>.no
  | k + 1,f,as,h=>match ds[f]? with
    | some d=>if as.length=d.ps.length then d.run (callI ds k) as h else .no
    | none=>.no
section
variable {i j:Int} {h:Hh} {x y:Str} {b c:Bool} {d e:D} {xs:List D}
@[simp] theorem bin_add:binD .Add (.int i) (.int j) h=.ok (.int (i + j)) h:=rfl
@[simp] theorem bin_sub:binD .Sub (.int i) (.int j) h=.ok (.int (i - j)) h:=rfl
@[simp] theorem bin_mul:binD .Mult (.int i) (.int j) h=if fits i=true /\ fits j=true then .ok (.int (i * j)) h else .no:=rfl
@[simp] theorem bin_fdiv:binD .FloorDiv (.int i) (.int j) h=if 0 < j /\ j < 1073741824 then .ok (.int (i / j)) h else .no:=rfl
@[simp] theorem bin_mod:binD .Mod (.int i) (.int j) h=if 0 < j then .ok (.int (i % j)) h else .no:=rfl
@[simp] theorem bin_pow:binD .Pow (.int i) (.int j) h=if 0<=j /\ j<=1000000 /\ i.natAbs < 2 ^ 64 then .ok (.int (i ^ j.toNat)) h else .no:=rfl
@[simp] theorem bin_shl:binD .LShift (.int i) (.int j) h=if fits i=true /\ 0<=j /\ j<=1000000 then .ok (.int (i * 2 ^ j.toNat)) h else .no:=rfl
@[simp] theorem bin_shr:binD .RShift (.int i) (.int j) h=if 0<=j then .ok (.int (i / 2 ^ j.toNat)) h else .no:=rfl
@[simp] theorem bin_and:binD .BitAnd (.int i) (.int j) h=.ok (.int (Builtin.bitAnd i j)) h:=rfl
@[simp] theorem bin_or:binD .BitOr (.int i) (.int j) h=.ok (.int (Builtin.bitOr i j)) h:=rfl
@[simp] theorem bin_adds:binD .Add (.str x) (.str y) h=if x.length + y.length<=1000000 then .ok (.str (x ++ y)) h else .no:=rfl
@[simp] theorem cmp_lt:cmpD .Lt (.int i) (.int j) h=.ok (.bl (decide (i < j))) h:=rfl
@[simp] theorem cmp_le:cmpD .LtE (.int i) (.int j) h=.ok (.bl (decide (i<=j))) h:=rfl
@[simp] theorem cmp_gt:cmpD .Gt (.int i) (.int j) h=.ok (.bl (decide (j < i))) h:=rfl
@[simp] theorem cmp_ge:cmpD .GtE (.int i) (.int j) h=.ok (.bl (decide (j<=i))) h:=rfl
@[simp] theorem cmp_eq:cmpD .Eq d e h=eqR false (pdT h d) (pdT h e) h:=rfl
@[simp] theorem cmp_ne:cmpD .NotEq d e h=eqR true (pdT h d) (pdT h e) h:=rfl
@[simp] theorem cmp_in:cmpD .In d e h=inD false d e h:=rfl
@[simp] theorem cmp_notin:cmpD .NotIn d e h=inD true d e h:=rfl
@[simp] theorem cmp_isN:cmpD .Is d .non h=.ok (.bl (match d with | .non=>true | _=>false)) h:=by cases d <;> rfl
@[simp] theorem cmp_isnotN:cmpD .IsNot d .non h=.ok (.bl (match d with | .non=>false | _=>true)) h:=by cases d <;> rfl
@[simp] theorem cmp_is:cmpD .Is (.bl b) (.bl c) h=.ok (.bl (b == c)) h:=rfl
@[simp] theorem cmp_isnot:cmpD .IsNot (.bl b) (.bl c) h=.ok (.bl (!(b == c))) h:=rfl
@[simp] theorem eqR_some {neg:Bool} {u v:PyData}:eqR neg (some u) (some v) h=if u.canLay0=true /\ v.canLay0=true /\ u.depth<=60 then .ok (.bl (if neg then !PyData.eqv u v else PyData.eqv u v)) h else .no:=rfl
@[simp] theorem pdT_non:pdT h .non=some .none:=by unfold pdT D.pd; rfl
@[simp] theorem pdT_bl:pdT h (.bl b)=some (.bool b):=by unfold pdT D.pd; rfl
@[simp] theorem pdT_int:pdT h (.int i)=some (.int i):=by unfold pdT D.pd; rfl
@[simp] theorem pdT_str:pdT h (.str x)=some (.str x):=by unfold pdT D.pd; rfl
@[simp] theorem pdT_tup:pdT h (.tup xs)=(D.pds h xs).map .tuple:=by unfold pdT D.pd; rfl
@[simp] theorem pdT_loc {n:Nat}:pdT h (.loc n)=(rd h n).bind fun xs=>(D.pds h xs).map .list:=rfl
@[simp] theorem pds_nil:D.pds h []=some []:=by unfold D.pds; rfl
@[simp] theorem un_not:unD .Not (.bl b) h=.ok (.bl (!b)) h:=rfl
@[simp] theorem un_invert:unD .Invert (.int i) h=.ok (.int (Builtin.bitNot i)) h:=rfl
@[simp] theorem un_usub:unD .USub (.int i) h=.ok (.int (-i)) h:=rfl
@[simp] theorem pdT_fl:pdT h (.fl xs)=(D.pds h xs).map .list:=by unfold pdT D.pd; rfl
@[simp] theorem len_fl:lenD (.fl xs) h=.ok (.int xs.length) h:=rfl
@[simp] theorem sub_fl:subD (.fl xs) (.int i) h=match atI xs i with | some d=>.ok d h | none=>.no:=rfl
@[simp] theorem len_tup:lenD (.tup xs) h=.ok (.int xs.length) h:=rfl
@[simp] theorem len_loc {n:Nat}:lenD (.loc n) h=match rd h n with | some xs=>.ok (.int xs.length) h | none=>.no:=rfl
@[simp] theorem len_str:lenD (.str x) h=if x.length<=1000000 then .ok (.int x.length) h else .no:=rfl
@[simp] theorem sub_tup:subD (.tup xs) (.int i) h=match atI xs i with | some d=>.ok d h | none=>.no:=rfl
@[simp] theorem bin_muls:binD .Mult (.str x) (.int j) h=if 0<=j /\ j<=1000 /\ x.length<=1000 then .ok (.str (Txt.mul x j)) h else .no:=rfl
@[simp] theorem bin_addt {ys:List D}:binD .Add (.tup xs) (.tup ys) h=if xs.length + ys.length<=1000000 then .ok (.tup (xs ++ ys)) h else .no:=rfl
@[simp] theorem bin_addl {n m:Nat}:binD .Add (.loc n) (.loc m) h=(match h[n]?,h[m]? with
    | some (.lst xs),some (.lst ys)=>if xs.length + ys.length<=1000000 then .ok (.loc h.length) (h ++ [.lst (xs ++ ys)]) else .no
    | _,_=>.no):=rfl
theorem sub_str:subD (.str x) (.int i) h=if x.length<=1000000 then (match atI x.cps.toList i with | some c=>.ok (.str ⟨#[c]⟩) h | none=>.no) else .no:=rfl
theorem sub_loc {n:Nat} {y:D}:subD (.loc n) y h=(match h[n]? with
    | some (.dK kvs)=>match (keyD y).bind (fun k=>valD kvs k) with | some d=>.ok d h | none=>.no
    | some (.dT kvs)=>match (keysT y).bind (fun k=>valD kvs k) with | some d=>.ok d h | none=>.no
    | some (.lst xs)=>match y with
      | .int k=>match atI xs k with | some d=>.ok d h | none=>.no
      | _=>.no
    | _=>.no):=rfl
@[simp] theorem tru_bl {f:Bool->Hh->Res D}:tru (.bl b) h f=f b h:=rfl
end
theorem callI_succ {ds:List Df} {k i:Nat} {d:Df} {as:List D} {h:Hh} (hd:ds[i]?=some d) (hl:as.length=d.ps.length):callI ds (k + 1) i as h=d.run (callI ds k) as h:=by
  unfold callI; rw [hd]; exact if_pos hl
theorem len0 {α:Type} {P:List α->Prop} (f:P []) (us:List α) (hl:us.length=0):P us:=by
  cases us with
  | nil=>exact f
  | cons=>cases hl
theorem lenS {α:Type} {n:Nat} {P:List α->Prop} (f:∀ a us,us.length=n->P (a :: us)) (us:List α) (hl:us.length=n + 1):P us:=by
  cases us with
  | nil=>cases hl
  | cons a r=>exact f a r (Nat.succ.inj hl)
theorem len1 {α:Type} {P:List α->Prop} (f:∀ a,P [a]):∀ us:List α,us.length=1->P us:=lenS fun a=>len0 (P:=fun us=>P (a :: us)) (f a)
theorem len2 {α:Type} {P:List α->Prop} (f:∀ a b,P [a,b]):∀ us:List α,us.length=2->P us:=lenS fun a=>len1 (P:=fun us=>P (a :: us)) (f a)
theorem len3 {α:Type} {P:List α->Prop} (f:∀ a b c,P [a,b,c]):∀ us:List α,us.length=3->P us:=lenS fun a=>len2 (P:=fun us=>P (a :: us)) (f a)
theorem len4 {α:Type} {P:List α->Prop} (f:∀ a b c d,P [a,b,c,d]):∀ us:List α,us.length=4->P us:=lenS fun a=>len3 (P:=fun us=>P (a :: us)) (f a)
theorem len5 {α:Type} {P:List α->Prop} (f:∀ a b c d e,P [a,b,c,d,e]):∀ us:List α,us.length=5->P us:=lenS fun a=>len4 (P:=fun us=>P (a :: us)) (f a)
end PI
set_option Elab.async false
set_option linter.all false
set_option maxRecDepth 100000
namespace PI
open PySem L2
noncomputable def Fz (K:PySem.W.Frag) (H:Hp) (a:Addr) (vs:List V):Prop:=(∃ o,H a=some (.frz o (.lst vs))) \/ ∀ H',SqL K H' a vs
theorem Fz.sq {K:PySem.W.Frag} {H:Hp} {a:Addr} {vs:List V} (h:Fz K H a vs):SqL K H a vs:=h.elim (fun ⟨o,q⟩=>.inl (.inr ⟨o,q⟩)) fun q=>q H
mutual
inductive Rep (K:PySem.W.Frag) (μ:List Addr) (H:Hp):D->V->Prop
  | non:Rep K μ H .non .non
  | bl (b:Bool):Rep K μ H (.bl b) (.bl b)
  | int (i:Int):Rep K μ H (.int i) (.int i)
  | str (x:Str):Rep K μ H (.str x) (.str x)
  | tup {ds:List D} {vs:List V} {a:Addr}:SqT K H a vs->Reps K μ H ds vs->Rep K μ H (.tup ds) (.ref a)
  | loc {n:Nat} {a:Addr}:μ[n]?=some a->Rep K μ H (.loc n) (.ref a)
  | fl {ds:List D} {vs:List V} {a:Addr}:Fz K H a vs->Reps K μ H ds vs->Rep K μ H (.fl ds) (.ref a)
inductive Reps (K:PySem.W.Frag) (μ:List Addr) (H:Hp):List D->List V->Prop
  | nil:Reps K μ H [] []
  | cons {d:D} {v:V} {ds:List D} {vs:List V}:Rep K μ H d v->Reps K μ H ds vs->Reps K μ H (d :: ds) (v :: vs)
end
structure Ext (K:PySem.W.Frag) (μ:List Addr) (H:Hp) (μ':List Addr) (H':Hp):Prop where
  loc:∀ (n:Nat) a,μ[n]?=some a->μ'[n]?=some a
  tup:∀ a xs,SqT K H a xs->SqT K H' a xs
  fz:∀ a xs,Fz K H a xs->Fz K H' a xs
  oth:∀ a o,H a=some o->a ∉ μ->H' a=some o
  new:∀ a,a ∈ μ'->a ∈ μ \/ H a=none
theorem Ext.refl {K:PySem.W.Frag} {μ:List Addr} {H:Hp}:Ext K μ H μ H:=⟨fun _ _ h=>h,fun _ _ h=>h,fun _ _ h=>h,fun _ _ h _=>h,fun _ h=>.inl h⟩
theorem Ext.sub {K:PySem.W.Frag} {μ μ1:List Addr} {H H1:Hp} (a:Ext K μ H μ1 H1) {x:Addr} (h:x ∈ μ):x ∈ μ1:=by
  obtain ⟨n,hn⟩:=List.getElem?_of_mem h
  exact List.mem_of_getElem? (a.loc n x hn)
theorem Ext.apart {K:PySem.W.Frag} {μ μ1:List Addr} {H H1:Hp} (a:Ext K μ H μ1 H1) {x:Addr} {o:HO} (h:H x=some o) (n:x ∉ μ):x ∉ μ1:=fun z=>by
  rcases a.new x z with q | q
  · exact n q
  · rw [h] at q; cases q
theorem Ext.trans {K:PySem.W.Frag} {μ μ1 μ2:List Addr} {H H1 H2:Hp} (a:Ext K μ H μ1 H1) (b:Ext K μ1 H1 μ2 H2):Ext K μ H μ2 H2:=by
  refine ⟨fun n x h=>b.loc n x (a.loc n x h),fun x y h=>b.tup x y (a.tup x y h),fun x y h=>b.fz x y (a.fz x y h),fun x o h n=>b.oth x o (a.oth x o h n) (a.apart h n),fun x h=>?_⟩
  rcases b.new x h with z | z
  · exact a.new x z
  · by_cases hx:x ∈ μ
    · exact .inl hx
    · right
      cases e:H x with
      | none=>rfl
      | some o=>rw [a.oth x o e hx] at z; cases z
mutual
theorem Rep.mono {K:PySem.W.Frag} {μ μ':List Addr} {H H':Hp} (e:Ext K μ H μ' H'):∀ {d:D} {v:V},Rep K μ H d v->Rep K μ' H' d v
  | _,_,.non=>.non
  | _,_,.bl b=>.bl b
  | _,_,.int i=>.int i
  | _,_,.str x=>.str x
  | _,_,.tup h r=>.tup (e.tup _ _ h) (Reps.mono e r)
  | _,_,.loc h=>.loc (e.loc _ _ h)
  | _,_,.fl h r=>.fl (e.fz _ _ h) (Reps.mono e r)
theorem Reps.mono {K:PySem.W.Frag} {μ μ':List Addr} {H H':Hp} (e:Ext K μ H μ' H'):∀ {ds:List D} {vs:List V},Reps K μ H ds vs->Reps K μ' H' ds vs
  | _,_,.nil=>.nil
  | _,_,.cons h r=>.cons (Rep.mono e h) (Reps.mono e r)
end
mutual
theorem Rep.mono' {K:PySem.W.Frag} {μ μ':List Addr} {H:Hp} (e:∀ (n:Nat) a,μ[n]?=some a->μ'[n]?=some a):∀ {d:D} {v:V},Rep K μ H d v->Rep K μ' H d v
  | _,_,.non=>.non
  | _,_,.bl b=>.bl b
  | _,_,.int i=>.int i
  | _,_,.str x=>.str x
  | _,_,.tup h r=>.tup h (Reps.mono' e r)
  | _,_,.loc h=>.loc (e _ _ h)
  | _,_,.fl h r=>.fl h (Reps.mono' e r)
theorem Reps.mono' {K:PySem.W.Frag} {μ μ':List Addr} {H:Hp} (e:∀ (n:Nat) a,μ[n]?=some a->μ'[n]?=some a):∀ {ds:List D} {vs:List V},Reps K μ H ds vs->Reps K μ' H ds vs
  | _,_,.nil=>.nil
  | _,_,.cons h r=>.cons (Rep.mono' e h) (Reps.mono' e r)
end
theorem Reps.length {K:PySem.W.Frag} {μ:List Addr} {H:Hp}:∀ {ds:List D} {vs:List V},Reps K μ H ds vs->ds.length=vs.length
  | _,_,.nil=>rfl
  | _,_,.cons _ r=>by rw [List.length_cons,List.length_cons,r.length]
theorem Reps.get {K:PySem.W.Frag} {μ:List Addr} {H:Hp}:∀ {ds:List D} {vs:List V} {i:Nat} {d:D},Reps K μ H ds vs->ds[i]?=some d->∃ v,vs[i]?=some v /\ Rep K μ H d v
  | _,_,_,_,.nil,e=>by simp at e
  | _,_,0,_,.cons h _,e=>by simp at e; subst e; exact ⟨_,rfl,h⟩
  | _,_,i + 1,d,.cons _ r,e=>by
    obtain ⟨v,h1,h2⟩:=Reps.get (i:=i) (d:=d) r (by simpa using e)
    exact ⟨v,by simpa using h1,h2⟩
theorem Reps.append {K:PySem.W.Frag} {μ:List Addr} {H:Hp}:∀ {ds es:List D} {vs ws:List V},Reps K μ H ds vs->Reps K μ H es ws->Reps K μ H (ds ++ es) (vs ++ ws)
  | _,_,_,_,.nil,r=>r
  | _,_,_,_,.cons h t,r=>.cons h (t.append r)
theorem Reps.atI {K:PySem.W.Frag} {μ:List Addr} {H:Hp} {ds:List D} {vs:List V} {k:Int} {d:D} (r:Reps K μ H ds vs) (e:L2.atI ds k=some d):∃ v,L2.atI vs k=some v /\ Rep K μ H d v:=by
  unfold L2.atI at e ⊢
  rw [<- r.length]
  cases h:ixN ds.length k with
  | none=>rw [h] at e; cases e
  | some j =>
    rw [h] at e
    exact r.get e
inductive RepKs {κ:Type} (K:PySem.W.Frag) (μ:List Addr) (H:Hp):List (κ × D)->List (κ × V)->Prop
  | nil:RepKs K μ H [] []
  | cons {k:κ} {d:D} {v:V} {ds:List (κ × D)} {vs:List (κ × V)}:Rep K μ H d v->RepKs K μ H ds vs->RepKs K μ H ((k,d) :: ds) ((k,v) :: vs)
theorem RepKs.mono {κ:Type} {K:PySem.W.Frag} {μ μ':List Addr} {H H':Hp} (e:Ext K μ H μ' H'):∀ {ds:List (κ × D)} {vs:List (κ × V)},RepKs K μ H ds vs->RepKs K μ' H' ds vs
  | _,_,.nil=>.nil
  | _,_,.cons h r=>.cons (h.mono e) (r.mono e)
theorem RepKs.length {κ:Type} {K:PySem.W.Frag} {μ:List Addr} {H:Hp}:∀ {ds:List (κ × D)} {vs:List (κ × V)},RepKs K μ H ds vs->ds.length=vs.length
  | _,_,.nil=>rfl
  | _,_,.cons _ r=>by rw [List.length_cons,List.length_cons,r.length]
inductive RepFs (K:PySem.W.Frag) (μ:List Addr) (H:Hp):List (Str × D)->List (Str × V)->Prop
  | nil:RepFs K μ H [] []
  | cons {f:Str} {d:D} {v:V} {ds:List (Str × D)} {vs:List (Str × V)}:Rep K μ H d v->RepFs K μ H ds vs->RepFs K μ H ((f,d) :: ds) ((f,v) :: vs)
theorem RepFs.mono {K:PySem.W.Frag} {μ μ':List Addr} {H H':Hp} (e:Ext K μ H μ' H'):∀ {ds:List (Str × D)} {vs:List (Str × V)},RepFs K μ H ds vs->RepFs K μ' H' ds vs
  | _,_,.nil=>.nil
  | _,_,.cons h r=>.cons (h.mono e) (r.mono e)
theorem RepFs.mono' {K:PySem.W.Frag} {μ μ':List Addr} {H:Hp} (e:∀ (n:Nat) a,μ[n]?=some a->μ'[n]?=some a):∀ {ds:List (Str × D)} {vs:List (Str × V)},RepFs K μ H ds vs->RepFs K μ' H ds vs
  | _,_,.nil=>.nil
  | _,_,.cons h r=>.cons (h.mono' e) (r.mono' e)
theorem RepFs.length {K:PySem.W.Frag} {μ:List Addr} {H:Hp}:∀ {ds:List (Str × D)} {vs:List (Str × V)},RepFs K μ H ds vs->ds.length=vs.length
  | _,_,.nil=>rfl
  | _,_,.cons _ r=>by rw [List.length_cons,List.length_cons,r.length]
theorem RepFs.get {K:PySem.W.Frag} {μ:List Addr} {H:Hp} {f:Str} {d:D}:∀ {ds:List (Str × D)} {vs:List (Str × V)},RepFs K μ H ds vs->ds.lookup f=some d->∃ v,vs.lookup f=some v /\ Rep K μ H d v
  | _,_,.nil,e=>by cases e
  | _,_,@RepFs.cons _ _ _ g _ _ _ _ h r,e=>by
    rw [List.lookup] at e ⊢
    cases c:f == g with
    | true=>rw [c] at e; cases e; exact ⟨_,rfl,h⟩
    | false=>rw [c] at e; exact r.get e
theorem RepFs.put {K:PySem.W.Frag} {μ:List Addr} {H:Hp} {f:Str} {d:D} {v:V} (q:Rep K μ H d v):∀ {ds:List (Str × D)} {vs:List (Str × V)},RepFs K μ H ds vs->RepFs K μ H (putG f d ds) (putF f v vs)
  | _,_,.nil=>.cons q .nil
  | _,_,@RepFs.cons _ _ _ g _ _ _ _ h r=>by
    rw [putG,putF]
    by_cases c:g=f
    · rw [if_pos c,if_pos c]; exact .cons q r
    · rw [if_neg c,if_neg c]; exact .cons h (r.put q)
noncomputable def fieldNames:List Str:=["named","clauses","bound","doing","left","standing","record","used","end","tasks","numbers","known","block","held","went","name","kept"]
structure ClsN (K:PySem.W.Frag) (x:Str) (C:Addr):Prop where
  nm:PySem.W.nsIn K mainGlobals x=some (some (.ref C))
  cl:Cls K C
  na:∀ f ∈ fieldNames,NoAttr K C f
noncomputable def RepO (K:PySem.W.Frag) (μ:List Addr) (H:Hp) (a:Addr):O->Prop
  | .lst ds=>∃ vs,H a=some (.lst vs) /\ Reps K μ H ds vs
  | .dK kvs=>∃ vs,H a=some (.dK vs) /\ RepKs K μ H kvs vs
  | .dT kvs=>∃ vs,H a=some (.dT vs) /\ RepKs K μ H kvs vs
  | .obj x fs=>∃ C dx vs,H a=some (.ins C dx vs) /\ ClsN K x C /\ RepFs K μ H fs vs
theorem RepKs.mono' {κ:Type} {K:PySem.W.Frag} {μ μ':List Addr} {H:Hp} (e:∀ (n:Nat) a,μ[n]?=some a->μ'[n]?=some a):∀ {ds:List (κ × D)} {vs:List (κ × V)},RepKs K μ H ds vs->RepKs K μ' H ds vs
  | _,_,.nil=>.nil
  | _,_,.cons h r=>.cons (h.mono' e) (r.mono' e)
theorem RepO.mono' {K:PySem.W.Frag} {μ μ':List Addr} {H:Hp} {a:Addr} {o:O} (e:∀ (n:Nat) a,μ[n]?=some a->μ'[n]?=some a) (r:RepO K μ H a o):RepO K μ' H a o:=by
  cases o with
  | lst ds=>obtain ⟨vs,q,r⟩:=r; exact ⟨vs,q,r.mono' e⟩
  | dK ds=>obtain ⟨vs,q,r⟩:=r; exact ⟨vs,q,r.mono' e⟩
  | dT ds=>obtain ⟨vs,q,r⟩:=r; exact ⟨vs,q,r.mono' e⟩
  | obj x fs=>obtain ⟨C,dx,vs,q,c,r⟩:=r; exact ⟨C,dx,vs,q,c,r.mono' e⟩
structure HR (K:PySem.W.Frag) (μ:List Addr) (h:Hh) (H:Hp):Prop where
  len:μ.length=h.length
  inj:∀ (n m:Nat) (a:Addr),μ[n]?=some a->μ[m]?=some a->n=m
  obj:∀ (n:Nat) (a:Addr) (o:O),μ[n]?=some a->h[n]?=some o->RepO K μ H a o
theorem HR.at {K:PySem.W.Frag} {μ:List Addr} {h:Hh} {H:Hp} (r:HR K μ h H) {n:Nat} {o:O} (e:h[n]?=some o):∃ a,μ[n]?=some a /\ RepO K μ H a o:=by
  have hn:n < h.length:=(List.getElem?_eq_some_iff.mp e).1
  have hm:n < μ.length:=by rw [r.len]; exact hn
  exact ⟨μ[n],List.getElem?_eq_getElem hm,r.obj n _ o (List.getElem?_eq_getElem hm) e⟩
theorem HR.fresh {K:PySem.W.Frag} {μ:List Addr} {h:Hh} {H:Hp} (r:HR K μ h H) {p:Addr} (hp:H p=none):p ∉ μ:=fun z=>by
  obtain ⟨n,hn⟩:=List.getElem?_of_mem z
  have hl:n < h.length:=by rw [<- r.len]; exact (List.getElem?_eq_some_iff.mp hn).1
  have:=r.obj n p h[n] hn (List.getElem?_eq_getElem hl)
  cases e:h[n] with
  | lst ds=>rw [e] at this; obtain ⟨vs,q,_⟩:=this; rw [hp] at q; cases q
  | dK ds=>rw [e] at this; obtain ⟨vs,q,_⟩:=this; rw [hp] at q; cases q
  | dT ds=>rw [e] at this; obtain ⟨vs,q,_⟩:=this; rw [hp] at q; cases q
  | obj x fs=>rw [e] at this; obtain ⟨C,dx,vs,q,_⟩:=this; rw [hp] at q; cases q
theorem ext_new {K:PySem.W.Frag} {μ:List Addr} {H:Hp} {p:Addr} {u:HO} (hp:H p=none):Ext K μ H μ (upd H p u) :=
  ⟨fun _ _ h=>h,fun a xs h=>by
    rcases h with h | h
    · left
      rcases h with h | ⟨o,h⟩
      · exact .inl (by rw [upd_ne (fun z=>by rw [z,hp] at h; cases h)]; exact h)
      · exact .inr ⟨o,by rw [upd_ne (fun z=>by rw [z,hp] at h; cases h)]; exact h⟩
    · exact .inr h,fun a xs h=>by
    rcases h with ⟨o,h⟩ | h
    · exact .inl ⟨o,by rw [upd_ne (fun z=>by rw [z,hp] at h; cases h)]; exact h⟩
    · exact .inr h,fun a o h _=>by rw [upd_ne (fun z=>by rw [z,hp] at h; cases h)]; exact h,fun _ h=>.inl h⟩
theorem Ext.add {K:PySem.W.Frag} {μ μ':List Addr} {H H':Hp} {p:Addr} (e:Ext K μ H μ' H') (hp:H p=none):Ext K μ H (μ' ++ [p]) H' :=
  ⟨fun n a h=>by rw [List.getElem?_append_left (List.getElem?_eq_some_iff.mp (e.loc n a h)).1]; exact e.loc n a h,e.tup,e.fz,e.oth,
    fun a h=>by
      rcases List.mem_append.mp h with h | h
      · exact e.new a h
      · rw [List.mem_singleton.mp h]; exact .inr hp⟩
theorem RepO.keep {K:PySem.W.Frag} {μ μ':List Addr} {H H':Hp} {a:Addr} {o:O} (e:Ext K μ H μ' H') (k:∀ u,H a=some u->H' a=some u) (r:RepO K μ H a o):RepO K μ' H' a o:=by
  cases o with
  | lst ds=>obtain ⟨vs,q,r⟩:=r; exact ⟨vs,k _ q,r.mono e⟩
  | dK ds=>obtain ⟨vs,q,r⟩:=r; exact ⟨vs,k _ q,r.mono e⟩
  | dT ds=>obtain ⟨vs,q,r⟩:=r; exact ⟨vs,k _ q,r.mono e⟩
  | obj x fs=>obtain ⟨C,dx,vs,q,c,r⟩:=r; exact ⟨C,dx,vs,k _ q,c,r.mono e⟩
theorem keep_new {H:Hp} {p a:Addr} {u w:HO} (hp:H p=none) (h:H a=some w):upd H p u a=some w:=by
  rw [upd_ne (fun z=>by rw [z,hp] at h; cases h)]; exact h
theorem HR.tup {K:PySem.W.Frag} {μ:List Addr} {h:Hh} {H:Hp} {p:Addr} {u:HO} (r:HR K μ h H) (hp:H p=none):HR K μ h (upd H p u) :=
  ⟨r.len,r.inj,fun n a o e1 e2=>(r.obj n a o e1 e2).keep (ext_new hp) fun _ q=>keep_new hp q⟩
theorem HR.add {K:PySem.W.Frag} {μ:List Addr} {h:Hh} {H:Hp} {p:Addr} {o:O} (r:HR K μ h H) (hp:p ∉ μ) (q:∀ μ',(∀ (n:Nat) a,μ[n]?=some a->μ'[n]?=some a)->RepO K μ' H p o):HR K (μ ++ [p]) (h ++ [o]) H:=by
  have gr:∀ (n:Nat) a,μ[n]?=some a->(μ ++ [p])[n]?=some a:=fun n a e=>by rw [List.getElem?_append_left (List.getElem?_eq_some_iff.mp e).1]; exact e
  refine ⟨by rw [List.length_append,List.length_append,r.len]; rfl,fun n m a e1 e2=>?_,fun n a o1 e1 e2=>?_⟩
  · have key:∀ (n:Nat) (a:Addr),(μ ++ [p])[n]?=some a->(n < μ.length /\ μ[n]?=some a) \/ (n=μ.length /\ a=p):=fun n a e=>by
      by_cases hn:n < μ.length
      · rw [List.getElem?_append_left hn] at e; exact .inl ⟨hn,e⟩
      · right
        rw [List.getElem?_append_right (by omega)] at e
        have:n - μ.length=0:=by
          cases q:n - μ.length with
          | zero=>rfl
          | succ z=>rw [q] at e; simp at e
        rw [this] at e
        simp at e
        exact ⟨by omega,e.symm⟩
    rcases key n a e1 with ⟨hn,q1⟩ | ⟨hn,q1⟩ <;> rcases key m a e2 with ⟨hm,q2⟩ | ⟨hm,q2⟩
    · exact r.inj n m a q1 q2
    · exact absurd (List.mem_of_getElem? q1) (q2 ▸ hp)
    · exact absurd (List.mem_of_getElem? q2) (q1 ▸ hp)
    · omega
  · by_cases hn:n < μ.length
    · rw [List.getElem?_append_left hn] at e1
      rw [List.getElem?_append_left (by rw [<- r.len]; exact hn)] at e2
      exact (r.obj n a o1 e1 e2).mono' gr
    · rw [List.getElem?_append_right (by omega)] at e1
      have hz:n - μ.length=0:=by
        cases z:n - μ.length with
        | zero=>rfl
        | succ y=>rw [z] at e1; simp at e1
      rw [hz] at e1
      simp at e1
      subst e1
      rw [List.getElem?_append_right (by rw [<- r.len]; omega),<- r.len,hz] at e2
      simp at e2
      subst e2
      exact q _ gr
theorem HR.alloc {K:PySem.W.Frag} {μ:List Addr} {h:Hh} {H:Hp} {p:Addr} {u:HO} {o:O} (r:HR K μ h H) (hp:H p=none) (hm:p ∉ μ) (q:∀ μ',(∀ (n:Nat) a,μ[n]?=some a->μ'[n]?=some a)->RepO K μ' (upd H p u) p o):HR K (μ ++ [p]) (h ++ [o]) (upd H p u) :=
  (r.tup hp).add hm q
theorem HR.chg {K:PySem.W.Frag} {μ:List Addr} {h:Hh} {H:Hp} {n:Nat} {a:Addr} {o o':O} {u:HO} (r:HR K μ h H) (hn:h[n]?=some o) (ha:μ[n]?=some a)
    (q:∀ H',Ext K μ H μ H'->H' a=some u->RepO K μ H' a o'):HR K μ (h.set n o') (upd H a u) /\ Ext K μ H μ (upd H a u):=by
  obtain ⟨w,hw,nt,nf⟩:∃ w,H a=some w /\ (∀ xs,w ≠ .tup xs) /\ ∀ o x,w ≠ .frz o x:=by
    have z:=r.obj n a o ha hn
    cases o with
    | lst ds=>obtain ⟨vs,e,_⟩:=z; exact ⟨_,e,fun _ y=>(nomatch y),fun _ _ y=>(nomatch y)⟩
    | dK ds=>obtain ⟨vs,e,_⟩:=z; exact ⟨_,e,fun _ y=>(nomatch y),fun _ _ y=>(nomatch y)⟩
    | dT ds=>obtain ⟨vs,e,_⟩:=z; exact ⟨_,e,fun _ y=>(nomatch y),fun _ _ y=>(nomatch y)⟩
    | obj x fs=>obtain ⟨C,dx,vs,e,_⟩:=z; exact ⟨_,e,fun _ y=>(nomatch y),fun _ _ y=>(nomatch y)⟩
  have ht:∀ b xs,SqT K H b xs->SqT K (upd H a u) b xs:=fun b xs z=>by
    rcases z with z | z
    · left
      rcases z with z | ⟨ob,z⟩
      · exact .inl (by rw [upd_ne (fun y=>by rw [y,hw] at z; exact nt _ (Option.some.inj z))]; exact z)
      · exact .inr ⟨ob,by rw [upd_ne (fun y=>by rw [y,hw] at z; exact nf _ _ (Option.some.inj z))]; exact z⟩
    · exact .inr z
  have hf:∀ b xs,Fz K H b xs->Fz K (upd H a u) b xs:=fun b xs z=>by
    rcases z with ⟨ob,z⟩ | z
    · exact .inl ⟨ob,by rw [upd_ne (fun y=>by rw [y,hw] at z; exact nf _ _ (Option.some.inj z))]; exact z⟩
    · exact .inr z
  have ex:Ext K μ H μ (upd H a u):=⟨fun _ _ z=>z,ht,hf,fun b v e z=>by rw [upd_ne (fun (y:b=a)=>z (by rw [y]; exact List.mem_of_getElem? ha))]; exact e,fun _ z=>.inl z⟩
  have hl:n < h.length:=(List.getElem?_eq_some_iff.mp hn).1
  refine ⟨⟨by rw [List.length_set]; exact r.len,r.inj,fun m b v e1 e2=>?_⟩,ex⟩
  by_cases hmn:m=n
  · subst hmn
    rw [List.getElem?_set_self hl] at e2
    cases e2
    rw [ha] at e1
    cases e1
    exact q _ ex upd_same
  · rw [List.getElem?_set_ne (Ne.symm hmn)] at e2
    have nb:b ≠ a:=fun y=>hmn (r.inj m n a (y ▸ e1) ha)
    exact (r.obj m b v e1 e2).keep ex fun _ g=>by rw [upd_ne nb]; exact g
structure ER (K:PySem.W.Frag) (μ:List Addr) (ρ:En) (σ:St) (H:Hp):Prop where
  len:ρ.length=σ.length
  val:∀ (i:Nat) d,ρ[i]?=some (some d)->∃ v,σ[i]?=some (some v) /\ Rep K μ H d v
theorem ER.mono {K:PySem.W.Frag} {μ μ':List Addr} {H H':Hp} {ρ:En} {σ:St} (r:ER K μ ρ σ H) (e:Ext K μ H μ' H'):ER K μ' ρ σ H' :=
  ⟨r.len,fun i d h=>let ⟨v,a,b⟩:=r.val i d h; ⟨v,a,b.mono e⟩⟩
theorem ER.set {K:PySem.W.Frag} {μ:List Addr} {H:Hp} {ρ:En} {σ:St} {d:D} {v:V} (r:ER K μ ρ σ H) (q:Rep K μ H d v) (i:Nat):ER K μ (ρ.set i (some d)) (σ.set i (some v)) H:=by
  refine ⟨by rw [List.length_set,List.length_set,r.len],fun j e hj=>?_⟩
  by_cases hij:i=j
  · subst hij
    rw [List.getElem?_set] at hj ⊢
    have hl:i < ρ.length:=by
      by_cases hl:i < ρ.length
      · exact hl
      · rw [if_pos rfl,if_neg hl] at hj; cases hj
    rw [if_pos rfl,if_pos hl] at hj
    rw [if_pos rfl,if_pos (by rw [<- r.len]; exact hl)]
    cases hj
    exact ⟨v,rfl,q⟩
  · rw [List.getElem?_set_ne hij] at hj ⊢
    exact r.val j e hj
noncomputable def PostE {α β:Type} (K:PySem.W.Frag) (cv:Nat->Value) (R:List Addr->Hp->α->β->Prop) (μ:List Addr) (H:Hp) (r:Res α) (Q:β->Hp->Prop) (Z:Value->Hp->Prop):Prop :=
  match r with
  | .ok d h'=>∀ μ' H' v,Ext K μ H μ' H'->HR K μ' h' H'->R μ' H' d v->Q v H'
  | .exc c h'=>∀ μ' H',Ext K μ H μ' H'->HR K μ' h' H'->Z (cv c) H'
  | .no=>False
noncomputable def lift {α β:Type} (K:PySem.W.Frag) (cv:Nat->Value) (R:List Addr->Hp->α->β->Prop) (Z:ZK) (m:En->Hh->Res α):St->Hp->(β->Hp->Prop)->Prop :=
  fun σ H Q=>∃ μ ρ h,HR K μ h H /\ ER K μ ρ σ H /\ PostE K cv R μ H (m ρ h) Q (Z σ)
theorem lift_elim {α β:Type} {K:PySem.W.Frag} {cv:Nat->Value} {R:List Addr->Hp->α->β->Prop} {Z:ZK} {m:En->Hh->Res α} {σ:St} {H:Hp} {Q:β->Hp->Prop} {G:Prop} (f:∀ μ ρ h,HR K μ h H->ER K μ ρ σ H->PostE K cv R μ H (m ρ h) Q (Z σ)->G) (x:lift K cv R Z m σ H Q):G:=by
  obtain ⟨μ,ρ,h,hr,er,q⟩:=x
  exact f μ ρ h hr er q
theorem lift_bind {α β γ δ:Type} {K:PySem.W.Frag} {cv:Nat->Value} {R:List Addr->Hp->α->β->Prop} {R':List Addr->Hp->γ->δ->Prop} {μ:List Addr} {ρ:En} {h:Hh} {σ:St} {H:Hp} {Z:ZK} {m:En->Hh->Res α} {f:α->Hh->Res γ} {Q:δ->Hp->Prop} {Q':β->Hp->Prop}
    (hr:HR K μ h H) (er:ER K μ ρ σ H) (p:PostE K cv R' μ H ((m ρ h).bind f) Q (Z σ))
    (go:∀ a h1 μ1 H1 x,m ρ h=.ok a h1->Ext K μ H μ1 H1->HR K μ1 h1 H1->ER K μ1 ρ σ H1->R μ1 H1 a x->PostE K cv R' μ1 H1 (f a h1) Q (Z σ)->Q' x H1) :
    lift K cv R Z m σ H Q':=by
  refine ⟨μ,ρ,h,hr,er,?_⟩
  cases e:m ρ h with
  | ok a h1 =>
    rw [e,bind_ok] at p
    intro μ1 H1 x e1 r1 q1
    refine go a h1 μ1 H1 x e e1 r1 (er.mono e1) q1 ?_
    unfold PostE at p ⊢
    cases e2:f a h1 with
    | ok b h2=>rw [e2] at p; exact fun μ2 H2 v e3 r3 q3=>p μ2 H2 v (e1.trans e3) r3 q3
    | exc c h2=>rw [e2] at p; exact fun μ2 H2 e3 r3=>p μ2 H2 (e1.trans e3) r3
    | no=>rw [e2] at p; exact p
  | exc c h1=>rw [e,bind_exc] at p; exact p
  | no=>rw [e,bind_no] at p; exact p
theorem PostE.bnd {α β γ δ:Type} {K:PySem.W.Frag} {cv:Nat->Value} {R:List Addr->Hp->α->β->Prop} {R':List Addr->Hp->γ->δ->Prop} {μ:List Addr} {H:Hp} {Z:Value->Hp->Prop} {r:Res α} {f:α->Hh->Res γ} {Q:δ->Hp->Prop} {Q':β->Hp->Prop}
    (p:PostE K cv R' μ H (r.bind f) Q Z) (go:∀ a h1 μ1 H1 x,r=.ok a h1->Ext K μ H μ1 H1->HR K μ1 h1 H1->R μ1 H1 a x->PostE K cv R' μ1 H1 (f a h1) Q Z->Q' x H1):PostE K cv R μ H r Q' Z:=by
  cases e:r with
  | ok a h1 =>
    rw [e,bind_ok] at p
    intro μ1 H1 x e1 r1 q1
    refine go a h1 μ1 H1 x e e1 r1 q1 ?_
    unfold PostE at p ⊢
    cases e2:f a h1 with
    | ok b h2=>rw [e2] at p; exact fun μ2 H2 v e3 r3 q3=>p μ2 H2 v (e1.trans e3) r3 q3
    | exc c h2=>rw [e2] at p; exact fun μ2 H2 e3 r3=>p μ2 H2 (e1.trans e3) r3
    | no=>rw [e2] at p; exact p
  | exc c h1=>rw [e,bind_exc] at p; exact p
  | no=>rw [e,bind_no] at p; exact p
theorem PostE.here {α β:Type} {K:PySem.W.Frag} {cv:Nat->Value} {R:List Addr->Hp->α->β->Prop} {μ:List Addr} {H:Hp} {d:α} {h:Hh} {v:β} {Q:β->Hp->Prop} {Z:Value->Hp->Prop} (p:PostE K cv R μ H (.ok d h) Q Z) (hr:HR K μ h H) (r:R μ H d v):Q v H :=
  p μ H v Ext.refl hr r
end PI
set_option Elab.async false
set_option linter.all false
set_option maxRecDepth 100000
namespace PI
open PySem L2 PySem.Spec
open PyProof.Rows hiding St
section
variable {X:Cx} {pins:List (Addr × Obj)} {σ:St} {H:Hp} {s:Shared} {μ:List Addr} {h:Hh}
mutual
theorem reads_of (I:Inv X pins σ H s):∀ {d:D} {v:V} {u:Value} {p:PyData},Rep X.K μ H d v->RelV v u->D.pd h d=some p->∃ as,Reads s.heap u p as
  | .non,_,_,_,r,q,e=>by cases r; cases q; cases e; exact ⟨_,.none⟩
  | .bl b,_,_,_,r,q,e=>by cases r; cases q; cases e; exact ⟨_,.bool b⟩
  | .int i,_,_,_,r,q,e=>by cases r; obtain ⟨t,rfl⟩:=q; cases e; exact ⟨_,.int i t⟩
  | .str x,_,_,_,r,q,e=>by cases r; obtain ⟨t,rfl⟩:=q; cases e; exact ⟨_,.str x t⟩
  | .tup ds,_,_,_,r,q,e=>by
    cases r with
    | tup hs rs =>
      cases q
      unfold D.pd at e
      cases e1:D.pds h ds with
      | none=>rw [e1] at e; cases e
      | some ps =>
        rw [e1] at e; cases e
        obtain ⟨its,rv,⟨o,g1,g2,n,g3⟩,_⟩:=I.tuple hs
        obtain ⟨as,ra⟩:=readsAll_of I rs rv e1
        exact ⟨_,.tuple g1 g2 g3 (by simpa using ra)⟩
  | .loc n,_,_,_,r,q,e=>by cases e
  | .fl ds,_,_,_,r,q,e=>by
    cases r with
    | fl hs rs =>
      cases q
      unfold D.pd at e
      cases e1:D.pds h ds with
      | none=>rw [e1] at e; cases e
      | some ps =>
        rw [e1] at e; cases e
        obtain ⟨its,rv,⟨o,n,g1,g2,_,g3⟩,_⟩:=I.list hs.sq
        obtain ⟨as,ra⟩:=readsAll_of I rs rv e1
        exact ⟨_,.list g1 g2 g3 (by simpa using ra)⟩
theorem readsAll_of (I:Inv X pins σ H s):∀ {ds:List D} {vs:List V} {us:List Value} {ps:List PyData},Reps X.K μ H ds vs->Vals vs us->D.pds h ds=some ps->∃ as,ReadsAll s.heap us ps as
  | [],_,_,_,r,q,e=>by cases r; cases q; cases e; exact ⟨_,.nil⟩
  | d :: ds,_,_,_,r,q,e=>by
    cases r with
    | cons r1 r2 =>
      cases q with
      | cons q1 q2 =>
        unfold D.pds at e
        cases e1:D.pd h d with
        | none=>rw [e1] at e; cases e
        | some p =>
          cases e2:D.pds h ds with
          | none=>rw [e1,e2] at e; cases e
          | some ps =>
            rw [e1,e2] at e; cases e
            obtain ⟨as,ra⟩:=reads_of I r1 q1 e1
            obtain ⟨bs,rb⟩:=readsAll_of I r2 q2 e2
            exact ⟨_,.cons ra rb⟩
end
theorem HR.rd (hr:HR X.K μ h H) {n:Nat} {ds:List D} (e:rd h n=some ds) {a:Addr} (m:μ[n]?=some a):∃ vs,SqL X.K H a vs /\ Reps X.K μ H ds vs:=by
  unfold PI.rd at e
  cases e1:h[n]? with
  | none=>rw [e1] at e; cases e
  | some o =>
    rw [e1] at e
    have q:=hr.obj n a o m e1
    cases o with
    | lst xs=>cases e; obtain ⟨vs,q1,q2⟩:=q; exact ⟨vs,SqL.of q1,q2⟩
    | dK xs=>cases e
    | dT xs=>cases e
    | obj _ _=>cases e
theorem readsT_of (I:Inv X pins σ H s) (hr:HR X.K μ h H) {d:D} {v:V} {u:Value} {p:PyData} (r:Rep X.K μ H d v) (q:RelV v u) (e:pdT h d=some p):∃ as,Reads s.heap u p as:=by
  cases d with
  | loc n =>
    cases r with
    | loc m =>
      cases q
      rw [pdT_loc] at e
      cases e1:rd h n with
      | none=>rw [e1] at e; cases e
      | some ds =>
        rw [e1] at e
        cases e2:D.pds h ds with
        | none=>rw [show (some ds).bind (fun xs=>(D.pds h xs).map PyData.list)=(D.pds h ds).map PyData.list from rfl,e2] at e; cases e
        | some ps =>
          rw [show (some ds).bind (fun xs=>(D.pds h xs).map PyData.list)=(D.pds h ds).map PyData.list from rfl,e2] at e; cases e
          obtain ⟨vs,hs,rs⟩:=hr.rd e1 m
          obtain ⟨its,rv,⟨o,n',g1,g2,_,g3⟩,_⟩:=I.list hs
          obtain ⟨as,ra⟩:=readsAll_of I rs rv e2
          exact ⟨_,.list g1 g2 g3 (by simpa using ra)⟩
  | non=>exact reads_of (h:=h) I r q e
  | bl b=>exact reads_of (h:=h) I r q e
  | int i=>exact reads_of (h:=h) I r q e
  | str x=>exact reads_of (h:=h) I r q e
  | tup ds=>exact reads_of (h:=h) I r q e
  | fl ds=>exact reads_of (h:=h) I r q e
end
theorem line_le {n:Nat} (h:n<=1000000):n<=sizeLine:=by rw [sizeLine_eq]; omega
theorem line_lt {n:Nat} (h:n < 1000000):n < sizeLine:=by rw [sizeLine_eq]; omega
section
variable {X:Cx} {cv:Nat->Value}
noncomputable def r2 (K:PySem.W.Frag) (cv:Nat->Value) (f:D->D->Hh->Res D):R2:=fun x y H Q=>∃ μ h a b Z,HR K μ h H /\ Rep K μ H a x /\ Rep K μ H b y /\ PostE K cv (Rep K) μ H (f a b h) Q Z
noncomputable def r1 (K:PySem.W.Frag) (cv:Nat->Value) (f:D->Hh->Res D):V->Hp->VK->Prop:=fun x H Q=>∃ μ h a Z,HR K μ h H /\ Rep K μ H a x /\ PostE K cv (Rep K) μ H (f a h) Q Z
theorem op_mulB:OpR X (binaryOp .Mult) (rI (fun i j=>Builtin.Int.intBits i<=2 ^ 20 /\ Builtin.Int.intBits j<=2 ^ 20) fun i j=>.int (i * j)):=opI fun _ _ _ _ _ _ _ hc q=>mul_int q (IntMulOk.of_bits hc.1 hc.2)
theorem op_shlB:OpR X (binaryOp .LShift) (rI (fun i j=>Builtin.Int.intBits i<=2 ^ 20 /\ 0<=j /\ j<=1000000) fun i j=>.int (i * 2 ^ j.toNat)):=opI fun _ _ _ _ _ _ _ hc q=>lshift_int hc.2.1 (by have:=hc.1; have:=hc.2.2; omega) q
theorem mul_ok {x:Str} {j:Int} (h:0<=j /\ j<=1000 /\ x.length<=1000):MulOk x j:=by
  obtain ⟨h0,h1,h2⟩:=h
  refine ⟨by simp; omega,fun a b c=>?_,fun a b=>?_⟩
  · have hj:1<=j:=by omega
    have:(2 ^ 63 - 1) / 1000<=(2 ^ 63 - 1:Int) / j:=Int.le_ediv_of_mul_le (by omega) (by
      have:((2 ^ 63 - 1) / 1000:Int) * j<=((2 ^ 63 - 1) / 1000) * 1000:=Int.mul_le_mul_of_nonneg_left h1 (by decide)
      have e:(((2 ^ 63 - 1) / 1000:Int) * 1000)<=2 ^ 63 - 1:=by decide
      omega)
    have e:(1000:Int) < (2 ^ 63 - 1) / 1000:=by decide
    omega
  · have hm:x.length * j.toNat<=1000 * 1000:=Nat.mul_le_mul h2 (by omega)
    unfold PySem.Builtin.Str.tooLong
    exact decide_eq_false (by rw [sizeLine_eq]; omega)
theorem op_mulS:OpR X (binaryOp .Mult) (fun x y H Q=>∃ z j,x=.str z /\ y=.int j /\ (0<=j /\ j<=1000 /\ z.length<=1000) /\ Q (.str (Txt.mul z j)) H):=by
  intro pins s σ H x y v u Q I rx ry h
  obtain ⟨z,j,rfl,rfl,hc,q⟩:=h
  obtain ⟨t,rfl⟩:=rx
  obtain ⟨t',rfl⟩:=ry
  exact SB.mul (mul_ok hc) fun t' k=>⟨.str _,H,I.tok _,⟨_,rfl⟩,q⟩
theorem meets_catT0 (t b:Addr) (xs ys:Array Value) (n m:Nat) (d1 d2:Option Addr) (s1 s2:Array (Option Value)) (h0:xs.isEmpty=true) :
    Meets (Builtin.«tuple.__add__» ⟨[.ref t,.ref b],[]⟩) (fun _ R s =>
      s.heap.get? t=some ⟨.type "tuple",d1,.seq xs n,s1⟩ /\
      s.heap.get? b=some ⟨.type "tuple",d2,.seq ys m,s2⟩ /\
      R (.ok (.ret (Value.ref b))) s) :=
  .of_wp fun prog w A R s h=>by
    obtain ⟨hp,g,d,tk,os⟩:=s
    obtain ⟨hl,hb,h⟩:=h
    have f1:=AutoSeq1.idx_int
    have f2:=AutoSeq1.sub_list_tuple
    have f3:=AutoSeq1.sub_tuple_list
    have f4:=AutoSeq1.sub_tuple_tuple
    have f5:=AutoSeq1.sub_list_list
    wp_walk using AutoSeq1.wpAny_loadPart' hl,AutoSeq1.wpAny_loadPart' hb
    exact ⟨_,rfl,h⟩
theorem cat_nil {A:Around} {E:Value->Shared->Prop} {prog:Program} {w:World} {s:Shared} {t b:Addr} {vs ws:List Value} {Q:Value->Shared->Prop} (ht:IsTup s.heap t vs.toArray) (hb:IsTup s.heap b ws.toArray) (hv:vs=[]) (h1:Q (.ref b) s) :
    wpAny (model prog w) A (binaryOp .Add (.ref t) (.ref b)) Q E s:=by
  obtain ⟨⟨cls,dd,data,sl⟩,ho,hc,n,hd⟩:=id ht
  obtain ⟨⟨cls2,dd2,data2,sl2⟩,ho2,hc2,n2,hd2⟩:=id hb
  simp only at hc hd hc2 hd2
  subst hc hd hc2 hd2
  exact concat_meets ⟨_,ho,rfl⟩ ⟨_,ho2,rfl⟩ noFill_tuple_add seq_tuple_add PySem.F.slot_tuple_add PySem.F.entry_tuple_add (PySem.F.args_tuple_add_2 _ _) (meets_catT0 t b vs.toArray ws.toArray n n2 dd dd2 sl sl2 (by simp [hv])) ⟨ho,ho2,h1⟩
theorem Reps.rep {K:PySem.W.Frag} {μ:List Addr} {H:Hp} {ds:List D} {vs:List V} (r:Reps K μ H ds vs):∀ k:Nat,Reps K μ H (List.replicate k ds).flatten (List.replicate k vs).flatten
  | 0=>.nil
  | k + 1=>by rw [List.replicate_succ,List.replicate_succ,List.flatten_cons,List.flatten_cons]; exact r.append (Reps.rep r k)
section
variable {K:PySem.W.Frag} {μ:List Addr} {H:Hp} {Q:VK} {Z:Value->Hp->Prop}
theorem post_if {c:Prop} [Decidable c] {r:Res D} {G:Prop} (p:PostE K cv (Rep K) μ H (if c then r else .no) Q Z) (f:c->PostE K cv (Rep K) μ H r Q Z->G):G:=by
  by_cases hc:c
  · rw [if_pos hc] at p; exact f hc p
  · rw [if_neg hc] at p; exact p.elim
theorem i2_elim {a b:D} {x y:V} {g:Int->Int->Res D} {G:Prop} (ra:Rep K μ H a x) (rb:Rep K μ H b y) (p:PostE K cv (Rep K) μ H (i2 a b g) Q Z) (f:∀ i j,x=.int i->y=.int j->PostE K cv (Rep K) μ H (g i j) Q Z->G):G:=by
  cases a with
  | int i =>
    cases b with
    | int j=>cases ra; cases rb; exact f i j rfl rfl p
    | _=>exact p.elim
  | _=>exact p.elim
theorem eqR_elim {neg:Bool} {u v:Option PyData} {h:Hh} {G:Prop} (p:PostE K cv (Rep K) μ H (eqR neg u v h) Q Z) (f:∀ pu pv,u=some pu->v=some pv->pu.canLay0=true->pv.canLay0=true->pu.depth<=60->PostE K cv (Rep K) μ H (.ok (.bl (if neg then !PyData.eqv pu pv else PyData.eqv pu pv)) h) Q Z->G):G:=by
  cases u with
  | none=>exact p.elim
  | some pu =>
    cases v with
    | none=>exact p.elim
    | some pv=>exact post_if p fun c q=>f pu pv rfl rfl c.1 c.2.1 c.2.2 q
end
theorem op_addD:OpR X (binaryOp .Add) (r2 X.K cv addD):=by
  intro pins s σ H x y v u Q I rx ry hh
  obtain ⟨μ,h,a,b,Z,hr,ra,rb,p⟩:=hh
  cases a with
  | int i =>
    cases b with
    | int j=>cases ra; cases rb; exact op_add pins s σ H _ _ v u Q I rx ry ⟨_,_,rfl,rfl,p.here hr (.int _)⟩
    | _=>exact p.elim
  | str i =>
    cases b with
    | str j=>cases ra; cases rb; exact post_if p fun c p=>op_add_str pins s σ H _ _ v u Q I rx ry ⟨_,_,rfl,rfl,line_le c,p.here hr (.str _)⟩
    | _=>exact p.elim
  | loc n =>
    cases b with
    | loc m =>
      cases ra with
      | loc ma =>
        cases rb with
        | loc mb =>
          have p:PostE X.K cv (Rep X.K) μ H (match h[n]?,h[m]? with
            | some (.lst xs),some (.lst ys)=>if xs.length + ys.length<=1000000 then .ok (.loc h.length) (h ++ [.lst (xs ++ ys)]) else .no
            | _,_=>.no) Q Z:=p
          cases e1:h[n]? with
          | none=>rw [e1] at p; exact p.elim
          | some o1 =>
            cases e2:h[m]? with
            | none=>rw [e1,e2] at p; cases o1 <;> exact p.elim
            | some o2 =>
              rw [e1,e2] at p
              cases o1 with
              | dK k=>exact p.elim
              | dT k=>exact p.elim
              | obj _ _=>exact p.elim
              | lst xs =>
                cases o2 with
                | dK k=>exact p.elim
                | dT k=>exact p.elim
                | obj _ _=>exact p.elim
                | lst ys =>
                  refine post_if p fun c p=>?_
                  obtain ⟨va,ha,qa⟩:=hr.obj n _ _ ma e1
                  obtain ⟨vb,hb,qb⟩:=hr.obj m _ _ mb e2
                  refine op_cat pins s σ H _ _ v u Q I rx ry ⟨_,_,_,_,rfl,rfl,ha,hb,by rw [<- qa.length,<- qb.length]; exact line_le c,fun b hb=>?_⟩
                  have nb:b ∉ μ:=hr.fresh hb
                  refine p _ _ _ ((ext_new hb).add hb) (hr.alloc hb nb fun μ' g=>⟨_,upd_same,((qa.append qb).mono (ext_new hb)).mono' g⟩) (.loc ?_)
                  rw [<- hr.len,List.getElem?_append_right (Nat.le_refl _),Nat.sub_self]
                  rfl
    | _=>exact p.elim
  | tup ds =>
    cases b with
    | tup es =>
      refine post_if p fun c p=>?_
      cases ra with
      | @tup _ vs a h1 r1 =>
        cases rb with
        | @tup _ ws b h2 r2 =>
          by_cases hv:vs=[]
          · subst hv
            cases r1
            cases rx
            cases ry
            obtain ⟨its,q1,p1,_⟩:=I.tuple h1
            obtain ⟨its2,q2,p2,_⟩:=I.tuple h2
            cases q1
            exact cat_nil p1 p2 rfl ⟨.ref b,H,I,rfl,p.here hr (.tup h2 r2)⟩
          · refine op_catT pins s σ H _ _ v u Q I rx ry ⟨a,b,vs,ws,rfl,rfl,h1,h2,hv,by rw [<- r1.length,<- r2.length]; exact line_le c,fun hz=>?_,fun _ l hl=>?_⟩
            · subst hz
              cases r2
              rw [List.append_nil] at p
              exact p.here hr (.tup h1 r1)
            · exact p μ _ _ (ext_new hl) (hr.tup hl) (.tup (SqT.of upd_same) ((r1.append r2).mono (ext_new hl)))
    | _=>exact p.elim
  | _=>exact p.elim
theorem op_mulD:OpR X (binaryOp .Mult) (r2 X.K cv mulD):=by
  intro pins s σ H x y v u Q I rx ry hh
  obtain ⟨μ,h,a,b,Z,hr,ra,rb,p⟩:=hh
  cases b with
  | int j =>
    cases rb
    cases a with
    | int i=>cases ra; exact post_if p fun c p=>op_mulB pins s σ H _ _ v u Q I rx ry ⟨_,_,rfl,rfl,⟨of_decide_eq_true c.1,of_decide_eq_true c.2⟩,p.here hr (.int _)⟩
    | str z=>cases ra; exact post_if p fun c p=>op_mulS pins s σ H _ _ v u Q I rx ry ⟨_,_,rfl,rfl,c,p.here hr (.str _)⟩
    | loc n =>
      cases ra with
      | loc ma =>
        have p:PostE X.K cv (Rep X.K) μ H (match h[n]? with
          | some (.lst xs)=>if 0<=j /\ j<=1000 /\ xs.length<=1000 then .ok (.loc h.length) (h ++ [.lst (List.replicate j.toNat xs).flatten]) else .no
          | _=>.no) Q Z:=p
        cases e1:h[n]? with
        | none=>rw [e1] at p; exact p.elim
        | some o1 =>
          rw [e1] at p
          cases o1 with
          | dK k=>exact p.elim
          | dT k=>exact p.elim
          | obj _ _=>exact p.elim
          | lst xs =>
            refine post_if p fun c p=>?_
            obtain ⟨va,ha,qa⟩:=hr.obj n _ _ ma e1
            refine op_rep pins s σ H _ _ v u Q I rx ry ⟨_,_,va,rfl,rfl,ha,by omega,by omega,?_,fun b hb=>?_⟩
            · have hm:va.length * j.toNat<=1000 * 1000:=Nat.mul_le_mul (by rw [<- qa.length]; exact c.2.2) (by omega)
              rw [sizeLine_eq]; omega
            · have nb:b ∉ μ:=hr.fresh hb
              refine p _ _ _ ((ext_new hb).add hb) (hr.alloc hb nb fun μ' g=>⟨_,upd_same,((qa.rep j.toNat).mono (ext_new hb)).mono' g⟩) (.loc ?_)
              rw [<- hr.len,List.getElem?_append_right (Nat.le_refl _),Nat.sub_self]
              rfl
    | _=>exact p.elim
  | _=>exact p.elim
theorem op_bin (op:Operator):OpR X (binaryOp op) (r2 X.K cv (binD op)):=by
  cases op with
  | Add=>exact op_addD
  | Mult=>exact op_mulD
  | Sub =>
    intro pins s σ H x y v u Q I rx ry q0
    obtain ⟨μ,h,a,b,Z,hr,ra,rb,p⟩:=q0
    exact i2_elim ra rb p fun i j ex ey p=>op_sub pins s σ H _ _ v u Q I rx ry ⟨i,j,ex,ey,p.here hr (.int _)⟩
  | FloorDiv =>
    intro pins s σ H x y v u Q I rx ry q0
    obtain ⟨μ,h,a,b,Z,hr,ra,rb,p⟩:=q0
    exact i2_elim ra rb p fun i j ex ey p=>post_if p fun c p=>op_fdiv pins s σ H _ _ v u Q I rx ry ⟨i,j,ex,ey,c,p.here hr (.int _)⟩
  | Mod =>
    intro pins s σ H x y v u Q I rx ry q0
    obtain ⟨μ,h,a,b,Z,hr,ra,rb,p⟩:=q0
    exact i2_elim ra rb p fun i j ex ey p=>post_if p fun c p=>op_mod pins s σ H _ _ v u Q I rx ry ⟨i,j,ex,ey,c,p.here hr (.int _)⟩
  | Pow =>
    intro pins s σ H x y v u Q I rx ry q0
    obtain ⟨μ,h,a,b,Z,hr,ra,rb,p⟩:=q0
    exact i2_elim ra rb p fun i j ex ey p=>post_if p fun c p=>op_pow pins s σ H _ _ v u Q I rx ry ⟨i,j,ex,ey,c,p.here hr (.int _)⟩
  | LShift =>
    intro pins s σ H x y v u Q I rx ry q0
    obtain ⟨μ,h,a,b,Z,hr,ra,rb,p⟩:=q0
    exact i2_elim ra rb p fun i j ex ey p=>post_if p fun c p=>op_shlB pins s σ H _ _ v u Q I rx ry ⟨i,j,ex,ey,⟨of_decide_eq_true c.1,c.2⟩,p.here hr (.int _)⟩
  | RShift =>
    intro pins s σ H x y v u Q I rx ry q0
    obtain ⟨μ,h,a,b,Z,hr,ra,rb,p⟩:=q0
    exact i2_elim ra rb p fun i j ex ey p=>post_if p fun c p=>op_shr pins s σ H _ _ v u Q I rx ry ⟨i,j,ex,ey,c,p.here hr (.int _)⟩
  | BitAnd =>
    intro pins s σ H x y v u Q I rx ry q0
    obtain ⟨μ,h,a,b,Z,hr,ra,rb,p⟩:=q0
    exact i2_elim ra rb p fun i j ex ey p=>op_and pins s σ H _ _ v u Q I rx ry ⟨i,j,ex,ey,p.here hr (.int _)⟩
  | BitOr =>
    intro pins s σ H x y v u Q I rx ry q0
    obtain ⟨μ,h,a,b,Z,hr,ra,rb,p⟩:=q0
    exact i2_elim ra rb p fun i j ex ey p=>op_or pins s σ H _ _ v u Q I rx ry ⟨i,j,ex,ey,p.here hr (.int _)⟩
  | _ =>
    intro pins s σ H x y v u Q I rx ry q0
    obtain ⟨μ,h,a,b,Z,hr,ra,rb,p⟩:=q0
    exact p.elim
theorem flat_rep {K:PySem.W.Frag} {μ:List Addr} {H:Hp} {d:D} {v:V} (r:Rep K μ H d v) (f:flatD d=true):v=vOf d /\ flatV v=true:=by
  cases r with
  | non=>exact ⟨rfl,rfl⟩
  | bl b=>exact ⟨rfl,rfl⟩
  | int i=>exact ⟨rfl,rfl⟩
  | str x=>exact ⟨rfl,rfl⟩
  | _=>cases f
theorem flat_reps {K:PySem.W.Frag} {μ:List Addr} {H:Hp}:∀ {ds:List D} {vs:List V},Reps K μ H ds vs->ds.all flatD=true->vs=ds.map vOf /\ vs.all flatV=true
  | _,_,.nil,_=>⟨rfl,rfl⟩
  | _,_,.cons r t,f=>by
    rw [List.all_cons,Bool.and_eq_true] at f
    obtain ⟨rfl,f1⟩:=flat_rep r f.1
    obtain ⟨rfl,f2⟩:=flat_reps t f.2
    exact ⟨rfl,by rw [List.all_cons,f1,f2]; rfl⟩
theorem in_V (x:D) (ds:List D):inV (vOf x) (ds.map vOf)=ds.any fun y=>eqV (vOf y) (vOf x):=by unfold inV; rw [List.any_map]; rfl
theorem flat_repsT {K:PySem.W.Frag} {μ:List Addr} {H:Hp}:∀ {ds:List D} {vs:List V},Reps K μ H ds vs->ds.all flatT=true->(∀ v ∈ vs,flatV v=true \/ ∃ a ts,v=.ref a /\ SqT K H a ts) /\ ds.any isN=vs.any isNonV
  | _,_,.nil,_=>⟨fun v hv=>(nomatch hv),rfl⟩
  | d :: ds,v :: vs,.cons r t,f=>by
    rw [List.all_cons,Bool.and_eq_true] at f
    obtain ⟨f1,f2⟩:=flat_repsT t f.2
    have g:(flatV v=true \/ ∃ a ts,v=.ref a /\ SqT K H a ts) /\ isN d=isNonV v:=by
      have f0:=f.1
      cases r with
      | tup h1 h2=>exact ⟨.inr ⟨_,_,rfl,h1⟩,rfl⟩
      | non=>exact ⟨.inl rfl,rfl⟩
      | bl b=>exact ⟨.inl rfl,rfl⟩
      | int i=>exact ⟨.inl rfl,rfl⟩
      | str x=>exact ⟨.inl rfl,rfl⟩
      | _=>exact absurd (show false=true from f0) Bool.false_ne_true
    exact ⟨fun w hw=>by rcases List.mem_cons.mp hw with rfl | hw; exact g.1; exact f1 w hw,by rw [List.any_cons,List.any_cons,g.2,f2]⟩
theorem op_inXs {neg:Bool} {pins:List (Addr × Obj)} {s:Shared} {σ:St} {H:Hp} {v u:Value} {Q:VK} {μ:List Addr} {h:Hh} {a:D} {x:V} {Z':Value->Hp->Prop} {ds:List D} {vs:List V} {p':Addr} (op:CmpOp) (hop:OpR X (compareOp op) (rIn X.K neg)) (hopN:neg=false->OpR X (compareOp op) (rInN X.K))
    (I:Inv X pins σ H s) (rx:RelV x v) (ry:RelV (.ref p') u) (hr:HR X.K μ h H) (ra:Rep X.K μ H a x) (sq:SqL X.K H p' vs \/ SqT X.K H p' vs) (rs:Reps X.K μ H ds vs) (p:PostE X.K cv (Rep X.K) μ H (inXs neg a ds h) Q Z') :
    wpAny (model X.prog X.w) X.A (compareOp op v u) (EP X pins σ Q) X.xe s:=by
  unfold inXs at p
  split at p
  · rename_i c
    obtain ⟨rfl,f1⟩:=flat_rep ra c.1
    obtain ⟨rfl,f2⟩:=flat_reps rs c.2
    refine hop pins s σ H _ _ v u Q I rx ry ⟨p',_,rfl,sq,f1,f2,?_⟩
    rw [in_V]
    exact p.here hr (.bl _)
  · split at p
    · rename_i c
      cases ra <;> first | (exact absurd c.2.1 Bool.false_ne_true) | skip
      obtain ⟨f1,f2⟩:=flat_repsT rs c.2.2
      refine hopN c.1 pins s σ H _ _ v u Q I rx ry ⟨p',_,rfl,rfl,sq,f1,?_⟩
      rw [<- f2]
      exact p.here hr (.bl _)
    · exact p.elim
theorem keyD_rep' {K:PySem.W.Frag} {μ:List Addr} {H:Hp} {d:D} {v:V} {k:Key} (r:Rep K μ H d v) (e:keyD d=some k):v=kV k:=by
  unfold keyD at e
  cases r <;> first | (cases e; rfl) | cases e
theorem keysL_rep {K:PySem.W.Frag} {μ:List Addr} {H:Hp}:∀ {ds:List D} {vs:List V} {ks:List Key},Reps K μ H ds vs->keysL ds=some ks->vs=ks.map kV
  | _,_,ks,.nil,e=>by cases e; rfl
  | _,_,ks,@Reps.cons _ _ _ d v ds vs h r,e=>by
    unfold keysL at e
    cases e1:keyD d with
    | none=>rw [e1] at e; cases e
    | some k =>
      cases e2:keysL ds with
      | none=>rw [e1,e2] at e; cases e
      | some l =>
        rw [e1,e2] at e
        cases e
        rw [keyD_rep' h e1,keysL_rep r e2]; rfl
theorem keysT_rep {K:PySem.W.Frag} {μ:List Addr} {H:Hp} {d:D} {v:V} {ks:List Key} (r:Rep K μ H d v) (e:keysT d=some ks):∃ b,v=.ref b /\ SqT K H b (ks.map kV):=by
  cases r with
  | tup h1 h2=>have:=keysL_rep h2 e; subst this; exact ⟨_,rfl,h1⟩
  | _=>cases e
theorem RepKs.none {κ:Type} [DecidableEq κ] {K:PySem.W.Frag} {μ:List Addr} {H:Hp} {k:κ}:∀ {ds:List (κ × D)} {vs:List (κ × V)},RepKs K μ H ds vs->(valD ds k).isSome=(valV vs k).isSome
  | _,_,.nil=>rfl
  | _,_,.cons (k:=k') (d:=d') (v:=v') h r=>by
    have ih:=RepKs.none (k:=k) r
    by_cases hk:k'=k
    · rw [valV_pos (p:=(k',v')) hk]
      unfold valD
      rw [List.find?_cons_of_pos (by simpa using hk)]
      rfl
    · rw [valV_neg (p:=(k',v')) hk,<- ih]
      unfold valD
      rw [List.find?_cons_of_neg (by simpa using hk)]
theorem op_inI (hu:X.A.units + 1 < cLine) (neg:Bool):OpR X (compareOp (if neg then .NotIn else .In)) (r2 X.K cv (inD neg)):=by
  intro pins s σ H x y v u Q I rx ry hh
  obtain ⟨μ,h,a,b,Z',hr,ra,rb,p⟩:=hh
  have hop:OpR X (compareOp (if neg then .NotIn else .In)) (rIn X.K neg):=by cases neg with | true=>exact op_notIn_seq | false=>exact op_in_seq
  have hopN:neg=false->OpR X (compareOp (if neg then .NotIn else .In)) (rInN X.K):=fun z=>by subst z; exact op_in_none hu
  unfold inD at p
  cases rb with
  | tup h1 h2=>exact op_inXs _ hop hopN I rx ry hr ra (.inr h1) h2 p
  | fl h1 h2=>exact op_inXs _ hop hopN I rx ry hr ra (.inl h1.sq) h2 p
  | @loc nn b' m =>
    cases e1:h[nn]? with
    | none=>simp only [e1] at p; exact p.elim
    | some o =>
      have q:=hr.obj nn b' o m e1
      cases o with
      | lst ds =>
        simp only [e1] at p
        obtain ⟨vs,q1,q2⟩:=q
        exact op_inXs _ hop hopN I rx ry hr ra (.inl (SqL.of q1)) q2 p
      | obj _ _=>simp only [e1] at p; exact p.elim
      | dK kvs =>
        simp only [e1] at p
        obtain ⟨vs,q1,q2⟩:=q
        cases e2:keyD a with
        | none =>
          simp only [e2] at p
          cases kvs with
          | cons _ _=>exact p.elim
          | nil =>
            cases q2
            cases e3:keysT a with
            | none=>simp only [e3] at p; exact p.elim
            | some k =>
              simp only [e3] at p
              obtain ⟨c,rfl,hc⟩:=keysT_rep ra e3
              cases rx
              cases ry
              have p':=p.here hr (.bl _)
              cases neg with
              | true=>exact t_notIn hu I (.inr ⟨q1,rfl⟩) hc fun s' I'=>⟨.bl _,H,I',rfl,p'⟩
              | false=>exact t_in hu I (.inr ⟨q1,rfl⟩) hc fun s' I'=>⟨.bl _,H,I',rfl,p'⟩
        | some k =>
          simp only [e2] at p
          have ey:=keyD_rep' ra e2
          subst ey
          cases ry
          have p':=p.here hr (.bl _)
          rw [q2.none] at p'
          cases neg with
          | true=>exact d_notIn hu I (DGet.k q1) rx fun s' I'=>⟨.bl _,H,I',rfl,p'⟩
          | false=>exact d_in hu I (DGet.k q1) rx fun s' I'=>⟨.bl _,H,I',rfl,p'⟩
      | dT kvs =>
        simp only [e1] at p
        obtain ⟨vs,q1,q2⟩:=q
        cases e2:keysT a with
        | none=>simp only [e2] at p; exact p.elim
        | some k =>
          simp only [e2] at p
          obtain ⟨c,rfl,hc⟩:=keysT_rep ra e2
          cases rx
          cases ry
          have p':=p.here hr (.bl _)
          rw [q2.none] at p'
          cases neg with
          | true=>exact t_notIn hu I (.inl q1) hc fun s' I'=>⟨.bl _,H,I',rfl,p'⟩
          | false=>exact t_in hu I (.inl q1) hc fun s' I'=>⟨.bl _,H,I',rfl,p'⟩
  | str z =>
    cases ra with
    | str w =>
      cases neg with
      | true=>exact op_notIn_str pins s σ H _ _ v u Q I rx ry ⟨w,z,rfl,rfl,p.here hr (.bl _)⟩
      | false=>exact op_in_str pins s σ H _ _ v u Q I rx ry ⟨w,z,rfl,rfl,p.here hr (.bl _)⟩
    | _=>exact p.elim
  | _=>exact p.elim
theorem op_cmp (hu:X.A.units + 64 < cLine) (op:CmpOp):OpR X (compareOp op) (r2 X.K cv (cmpD op)):=by
  intro pins s σ H x y v u Q I rx ry hh
  obtain ⟨μ,h,a,b,Z,hr,ra,rb,p⟩:=hh
  cases op with
  | Lt=>exact i2_elim ra rb p fun i j ex ey p=>op_lt pins s σ H _ _ v u Q I rx ry ⟨i,j,ex,ey,p.here hr (.bl _)⟩
  | LtE=>exact i2_elim ra rb p fun i j ex ey p=>op_le pins s σ H _ _ v u Q I rx ry ⟨i,j,ex,ey,p.here hr (.bl _)⟩
  | Gt=>exact i2_elim ra rb p fun i j ex ey p=>op_gt pins s σ H _ _ v u Q I rx ry ⟨i,j,ex,ey,p.here hr (.bl _)⟩
  | GtE=>exact i2_elim ra rb p fun i j ex ey p=>op_ge pins s σ H _ _ v u Q I rx ry ⟨i,j,ex,ey,p.here hr (.bl _)⟩
  | Eq =>
    refine eqR_elim p fun pu pv e1 e2 c1 c2 c3 p=>?_
    obtain ⟨as,q1⟩:=readsT_of I hr ra rx e1
    obtain ⟨bs,q2⟩:=readsT_of I hr rb ry e2
    exact SeqAt.compareEq_reads q1 q2 c1 c2 (by have:=Nat.min_le_left pu.depth pv.depth; omega) ⟨.bl _,H,I,rfl,p.here hr (.bl _)⟩
  | NotEq =>
    refine eqR_elim p fun pu pv e1 e2 c1 c2 c3 p=>?_
    obtain ⟨as,q1⟩:=readsT_of I hr ra rx e1
    obtain ⟨bs,q2⟩:=readsT_of I hr rb ry e2
    exact SeqAt.compareNe_reads q1 q2 c1 c2 (by have:=Nat.min_le_left pu.depth pv.depth; omega) ⟨.bl _,H,I,rfl,p.here hr (.bl _)⟩
  | In=>exact op_inI (cv:=cv) (by omega) false pins s σ H _ _ v u Q I rx ry ⟨μ,h,_,_,Z,hr,ra,rb,p⟩
  | NotIn=>exact op_inI (cv:=cv) (by omega) true pins s σ H _ _ v u Q I rx ry ⟨μ,h,_,_,Z,hr,ra,rb,p⟩
  | Is =>
    cases b with
    | non =>
      cases rb
      cases ry
      refine wpAny_is_plain (by cases ra <;> first | (cases rx; rfl) | (obtain ⟨t,rfl⟩:=rx; rfl)) (fin_bl I (p.here hr (.bl _)) ?_)
      cases ra <;> first | (cases rx; rfl) | (obtain ⟨t,rfl⟩:=rx; rfl)
    | bl y =>
      cases a with
      | bl x =>
        cases ra; cases rb; cases rx; cases ry
        exact wpAny_is_plain rfl (fin_bl I (p.here hr (.bl _)) (by cases x <;> cases y <;> rfl))
      | _=>exact p.elim
    | _=>exact p.elim
  | IsNot =>
    cases b with
    | non =>
      cases rb
      cases ry
      refine wpAny_isNot_plain (by cases ra <;> first | (cases rx; rfl) | (obtain ⟨t,rfl⟩:=rx; rfl)) (fin_bl I (p.here hr (.bl _)) ?_)
      cases ra <;> first | (cases rx; rfl) | (obtain ⟨t,rfl⟩:=rx; rfl)
    | bl y =>
      cases a with
      | bl x =>
        cases ra; cases rb; cases rx; cases ry
        exact wpAny_isNot_plain rfl (fin_bl I (p.here hr (.bl _)) (by cases x <;> cases y <;> rfl))
      | _=>exact p.elim
    | _=>exact p.elim
end
end PI
set_option Elab.async false
set_option linter.all false
set_option maxRecDepth 100000
namespace PI
open PySem L2 PySem.Spec
open PyProof.Rows hiding St
noncomputable def RB:List Addr->Hp->Bool->Bool->Prop:=fun _ _ b c=>b=c
noncomputable def spI (K:PySem.W.Frag) (cv:Nat->Value) (np:Nat) (c:List D->Hh->Res D):Sp:=fun vs H Q E =>
  vs.length=np /\ ∃ μ h ds,HR K μ h H /\ Reps K μ H ds vs /\ PostE K cv (Rep K) μ H (c ds h) Q (fun C H'=>E C none H')
noncomputable def bnames:List Str:=["len","isinstance","int","bool","str","tuple","list","range","max","min","sum","all","any","zip","reversed","sorted","set","enumerate","dict","abs","ValueError"]
noncomputable def gOf (sc:Scope) (x:Str):Bool:=decide (sc.names.lookup x=some .globalImplicit)
noncomputable def relab (scope osc:Scope):Scope :=
  { scope with names:=scope.names.map fun (n,k)=>if (k == .free && osc.kind == .function && osc.names.lookup n == some .cell) then (n,.cell) else (n,k) }
noncomputable def Tg.idx:Tg->List Nat
  | .one i _=>[i]
  | .tup is _=>is.map (·.1)
noncomputable def Tg.ok (sc:Scope) (N:List Str) (t:Tg):Bool:=t.idx.all fun i=>decide (i < N.length) && decide (sc.names.lookup (N.getD i "")=some .local \/ sc.names.lookup (N.getD i "")=some .cell)
noncomputable def Tg.okS (N:List Str) (t:Tg):Bool:=t.idx.all fun i=>decide (i < N.length)
noncomputable def goodN (x:Str):Bool:=!(x == ("__debug__":Str)) && !(x == ("__classdict__":Str))
noncomputable def Tg.forI (t:Tg):I->Bool
  | _=>true
mutual
noncomputable def E.ok (sc:Scope) (n:Nm):E->Bool
  | .non _ | .bl _ _ | .int _ _ | .str _ _=>true
  | .var i _=>decide (i < n.N.length)
  | .bin _ a b _=>a.ok sc n && b.ok sc n
  | .un op a _=>a.ok sc n && (match op with | .Not=>a.okT | _=>true)
  | .cmp op a b _=>a.ok sc n && b.ok sc n && !behindInMarks op (b.py n)
  | .and a b r _=>a.ok sc n && b.ok sc n && r.ok sc n && a.okT && b.okT && r.okT
  | .or a b r _=>a.ok sc n && b.ok sc n && r.ok sc n && a.okT && b.okT && r.okT
  | .call f a r _ _=>decide (f < n.F.length) && !(n.G.any fun q=>decide (q.2=Cn.cls f)) && gOf sc (n.F.getD f "") && a.ok sc n && r.ok sc n
  | .len a _ _=>gOf sc "len" && a.ok sc n
  | .isi T a _ _ _=>gOf sc "isinstance" && gOf sc (tyName T) && decide (T < 5) && a.ok sc n
  | .sub a i _=>a.ok sc n && i.ok sc n
  | .tup es _=>es.ok sc n
  | .ofL l=>l.ok sc n
  | .tupL l _ _=>gOf sc "tuple" && l.ok sc n
  | .tupE e _ _=>gOf sc "tuple" && e.ok sc n
  | .cut a lo hi _ _=>a.ok sc n && lo.ok sc n && hi.ok sc n
  | .dic _=>true
  | .m0 _ o p1 p=>o.ok sc n && decide (p1.endLine=p.line)
  | .m1 _ o a p1 p=>o.ok sc n && a.ok sc n && decide (p1.endLine=p.line)
  | .min2 a b _ _=>gOf sc "min" && a.ok sc n && b.ok sc n
  | .cmpN _ a _ _=>a.ok sc n
  | .sset e _ _ _ _=>gOf sc "sorted" && gOf sc "set" && e.ok sc n
  | .gsub x kvs i _ _=>gOf sc x && decide ((x,Cn.dic kvs) ∈ n.G) && i.ok sc n
noncomputable def Eo.ok (sc:Scope) (n:Nm):Eo->Bool
  | .none=>true
  | .some e=>e.ok sc n
noncomputable def L.ok (sc:Scope) (n:Nm):L->Bool
  | .disp es _=>es.ok sc n
  | .comp elt t it c NC cap csc _=>(it.ok sc n && t.forI it) && compOk sc csc n.N NC cap && decide NC.Nodup && NC.all goodN && t.ok csc NC && elt.ok (relab csc sc) ⟨NC,n.F,n.G⟩ && c.ok (relab csc sc) ⟨NC,n.F,n.G⟩ && c.okT && c.short
noncomputable def I.ok (sc:Scope) (n:Nm):I->Bool
  | .seq e=>e.ok sc n
  | .lst l=>l.ok sc n
  | .rng a _ _=>gOf sc "range" && a.ok sc n
noncomputable def Es.ok (sc:Scope) (n:Nm):Es->Bool
  | .nil=>true
  | .cons e r=>e.ok sc n && r.ok sc n
noncomputable def E.okT:E->Bool
  | .non _ | .bl _ _ | .int _ _ | .str _ _=>false
  | .ofL _=>false
  | .dic _=>false
  | .un op a _=>match op with | .Not=>a.okT | _=>true
  | _=>true
noncomputable def Es.okT:Es->Bool
  | .nil=>true
  | .cons e r=>e.okT && r.okT
noncomputable def Es.short:Es->Bool
  | .nil=>true
  | .cons _ .nil=>true
  | .cons _ (.cons _ _)=>false
end
noncomputable def TupK (K:PySem.W.Frag) (a:Addr) (xs:List Str):Prop:=∃ (o:Obj) (its:Array Value) (n:Nat),K.lookup a=some o /\ o.cls=.type "tuple" /\ o.data=.seq its n /\ its.size<=sizeLine /\ Vals (xs.map V.str) its.toList
noncomputable def CvOk (K:PySem.W.Frag) (v:Value):Cv->Prop
  | .tup xs=>∃ a,v=.ref a /\ TupK K a xs
  | .int i=>∃ t,v=.int i t
  | .fn _ x=>∃ f,v=.ref f /\ PySem.W.nsIn K mainGlobals x=some (some (.ref f))
  | .oth=>∃ f,v=.ref f
noncomputable def DicV (K:PySem.W.Frag):List (Str × Cv)->List (Key × Value)->Prop
  | [],[]=>True
  | kx :: r,qv :: s=>qv.1=.inr kx.1 /\ CvOk K qv.2 kx.2 /\ DicV K r s
  | _,_=>False
structure IsK (K:PySem.W.Frag) (C:Addr):Prop where
  ha:PySem.W.findIn K (.ref C) "__class__"=some (some (.builtin "object.__class__"))
  hn:PySem.W.specialIn K (.builtin "object.__class__") "__get__"=some (some (.builtin "getset_descriptor.__get__"))
  ht:PySem.W.takesIn K (.builtin "object.__class__")=some true
  hm:PySem.W.mroIn K C (.type "object")=some true
noncomputable def CnOk (P:Program) (w:World) (K:PySem.W.Frag) (v:Value):Cn->Prop
  | .int i=>∃ t,v=.int i t
  | .str x=>∃ t,v=.str x t
  | .tup xs=>∃ a,v=.ref a /\ TupK K a xs
  | .cls _=>∃ a,v=.ref a
  | .isc x ys=>∃ D,v=.ref D /\ ∀ y ∈ ys,∃ C,PySem.W.nsIn K mainGlobals y=some (some (.ref C)) /\ IsK K C /\ PySem.W.kitOne K (.ref C) (.ref D)=some (decide (y=x))
  | .exc _ _=>∃ a bmB newId initId B,v=.ref a /\ PySem.W.excIn K a bmB newId=true /\ ExcBaseFacts B newId initId bmB /\ bmB.contains (.type "BaseException")=true
  | .dic kvs=>∃ a o es ep vs,v=.ref a /\ K.lookup a=some o /\ o.ExactDict /\ o.data=.dict es ep /\ KeysOf (mixKind P w) es /\ Pairs (mixKind P w) es.toList vs /\ (vs.map (·.1)).Nodup /\ DicV K kvs vs
structure TstK (K:PySem.W.Frag) (G:List (Str × Cn)) (cv:Nat->Value) (C:Addr) (u:List Nat):Prop where
  ec:ExC K C
  ve:PySem.W.kitOne K (.ref C) (.type "ValueError")=some true
  ot:∀ y d w,(y,Cn.exc d w) ∈ G->PySem.W.kitOne K (.ref C) (cv d)=some (u.contains d)
structure Kx (X:Cx) (Z:ZK) (k:Nat) (n:Nm) (cv:Nat->Value) (cl:Nat->List D->Hh->Res D):Prop where
  th:Thr X Z
  rm:Room (2 * k + 1) X.A
  nN:X.N=n.N
  nd:X.N.Nodup
  cm:X.calm=true
  kd:X.env.scope.kind=.function
  nm:∀ x ∈ n.N,Vis X.env.scope x /\ goodN x=true
  bm:∀ x,x ∈ bnames->X.mg x=none
  gc:∀ x c,(x,c) ∈ n.G->(x == ("__debug__":Str))=false /\ ∃ v,X.mg x=some v /\ CnOk X.prog X.w X.K v c
  fn:∀ i x,n.F[i]?=some x->(n.G.any fun q=>decide (q.2=Cn.cls i))=false->(x == ("__debug__":Str))=false /\ ∃ f fd ps,X.mg x=some (.ref f) /\ PySem.W.nsIn X.K mainGlobals x=some (some (.ref f)) /\ PySem.W.keepIn X.K (.ref f)=true /\ Binds X.K fd ps [] /\ (∀ ds h,cl i ds h ≠ .no->ds.length=ps.length) /\
    FnOk X.prog X.w X.K X.mg X.base (CXs X.prog X.w) (2 * k) f fd ps (spI X.K cv ps.length (cl i))
  mc:∀ x i,(x,Cn.cls i) ∈ n.G->(x == ("__debug__":Str))=false /\ ∃ C f fd ps,X.mg x=some (.ref C) /\ Mk X.K C f /\ ClsN X.K x C /\ Binds X.K fd ps [] /\ (∀ ds h,cl i ds h ≠ .no->ds.length=ps.length) /\
    FnOk X.prog X.w X.K X.mg X.base (CXs X.prog X.w) (2 * k) f fd ps (spI X.K cv ps.length (cl i))
  xc:∀ x c u,(x,Cn.exc c u) ∈ n.G->X.mg x=some (cv c) /\ (∀ D ∈ u,∃ a d,cv c=.ref a /\ cv D=.ref d /\ Under X.K a d) /\ ∃ a,cv c=.ref a /\ TstK X.K n.G cv a u
theorem Kx.gl {X:Cx} {Z:ZK} {k:Nat} {n:Nm} {cv:Nat->Value} {cl:Nat->List D->Hh->Res D} (C:Kx X Z k n cv cl) {x:Str} (h:gOf X.env.scope x=true):Gl X x:=show X.env.scope.names.lookup x=some .globalImplicit from of_decide_eq_true h
theorem goodN_of {x:Str} (h:goodN x=true):(x == ("__debug__":Str))=false /\ (x == ("__classdict__":Str))=false:=by unfold goodN at h; simpa using h
theorem bind_pure {α:Type} (r:Res α):(r.bind fun a h=>.ok a h)=r:=by cases r <;> rfl
theorem bind_assoc {α β γ:Type} (r:Res α) (f:α->Hh->Res β) (q:β->Hh->Res γ):(r.bind f).bind q=r.bind fun a h=>(f a h).bind q:=by cases r <;> rfl
theorem PE.mono {X:Cx} {e:Expr} {t t':TE} (p:PE X e t) (h:∀ σ H Q,t' σ H Q->t σ H Q):PE X e t':=fun pins s σ H Q I q=>p pins s σ H Q I (h σ H Q q)
theorem PT.mono {X:Cx} {e:Expr} {t t':TT} (p:PT X e t) (h:∀ σ H Q,t' σ H Q->t σ H Q):PT X e t':=fun pins s σ H Q I q=>p pins s σ H Q I (h σ H Q q)
theorem PW.mono {X:Cx} {e:Expr} {t t':TT} (p:PW X e t) (h:∀ σ H Q,t' σ H Q->t σ H Q):PW X e t':=fun wh pins s σ H Q I q=>p wh pins s σ H Q I (h σ H Q q)
theorem PA.mono {X:Cx} {e:List Expr} {t t':TA} (p:PA X e t) (h:∀ σ H Q,t' σ H Q->t σ H Q):PA X e t':=fun ps pins s σ H Q I q=>p ps pins s σ H Q I (h σ H Q q)
noncomputable def toB (d:D) (h:Hh):Res Bool:=match d with | .bl b=>.ok b h | _=>.no
theorem evT_eq (cl:Nat->List D->Hh->Res D) (e:E) (ρ:En) (h:Hh):e.evT cl ρ h=(e.ev cl ρ h).bind toB:=rfl
section
variable {X:Cx} {Z:ZK} {k:Nat} {n:Nm} {cv:Nat->Value} {cl:Nat->List D->Hh->Res D}
theorem L.py_star (l:L) (r:List Expr) (env:Env):starEach (l.py n :: r) env=(false,eval (l.py n) env) :: starEach r env:=by cases l <;> rfl
theorem star_cons (e:E) (r:List Expr) (env:Env):starEach (e.py n :: r) env=(false,eval (e.py n) env) :: starEach r env:=by
  cases e with
  | ofL l=>exact L.py_star l r env
  | _=>rfl
theorem star_plain:∀ (r:Es) (pos:Pos) (env:Env),(backTo pos (starEach (r.py n) env)).any (·.1)=false
  | .nil,_,_=>rfl
  | .cons e r,pos,env=>by
    show (backTo pos (starEach (e.py n :: r.py n) env)).any (·.1)=false
    rw [star_cons]
    exact star_plain r pos env
theorem plain_ix (e:E):PlainIx (e.py n):=by
  intro o i
  cases e with
  | ofL l=>cases l <;> rfl
  | _=>rfl
theorem pt_lift {e:Expr} {m:En->Hh->Res D} (p:PE X e (lift X.K cv (Rep X.K) Z m)) (he:∀ whole,isTrue e X.env whole=(do let v <- whole; standAt e.pos; holding [v] (truthy v))) :
    PT X e (lift X.K cv RB Z fun ρ h=>(m ρ h).bind toB):=by
  refine PT.mono (pt_val p he) fun σ H Q=>lift_elim fun μ ρ h hr er q=>?_
  refine lift_bind (m:=m) hr er q fun a h1 μ1 H1 x _ e1 r1 er1 qa p1=>?_
  unfold toB at p1
  cases qa with
  | bl b=>exact ⟨b,rfl,p1.here r1 rfl⟩
  | _=>exact p1.elim
noncomputable def Es.evAndT (cl:Nat->List D->Hh->Res D):Es->En->Bool->Hh->Res Bool
  | .nil,_,c,h=>.ok c h
  | .cons e r,ρ,c,h=>if c then (e.evT cl ρ h).bind fun c' h2=>r.evAndT cl ρ c' h2 else .ok false h
noncomputable def Es.evOrT (cl:Nat->List D->Hh->Res D):Es->En->Bool->Hh->Res Bool
  | .nil,_,c,h=>.ok c h
  | .cons e r,ρ,c,h=>if c then .ok true h else (e.evT cl ρ h).bind fun c' h2=>r.evOrT cl ρ c' h2
theorem and_toB:∀ (r:Es) (ρ:En) (d:D) (h:Hh),(r.evAnd cl ρ d h).bind toB=(toB d h).bind fun c h1=>r.evAndT cl ρ c h1
  | .nil,ρ,d,h=>(bind_pure (r:=toB d h)).symm
  | .cons e r,ρ,d,h=>by
    cases d with
    | bl b =>
      cases b with
      | false=>rfl
      | true =>
        show (((e.ev cl ρ h).bind fun y h2=>r.evAnd cl ρ y h2).bind toB)=((e.ev cl ρ h).bind toB).bind fun c' h2=>r.evAndT cl ρ c' h2
        rw [bind_assoc,bind_assoc]
        congr 1
        funext y h2
        exact and_toB r ρ y h2
    | _=>rfl
theorem or_toB:∀ (r:Es) (ρ:En) (d:D) (h:Hh),(r.evOr cl ρ d h).bind toB=(toB d h).bind fun c h1=>r.evOrT cl ρ c h1
  | .nil,ρ,d,h=>(bind_pure (r:=toB d h)).symm
  | .cons e r,ρ,d,h=>by
    cases d with
    | bl b =>
      cases b with
      | true=>rfl
      | false =>
        show (((e.ev cl ρ h).bind fun y h2=>r.evOr cl ρ y h2).bind toB)=((e.ev cl ρ h).bind toB).bind fun c' h2=>r.evOrT cl ρ c' h2
        rw [bind_assoc,bind_assoc]
        congr 1
        funext y h2
        exact or_toB r ρ y h2
    | _=>rfl
end
end PI
set_option Elab.async false
set_option linter.all false
set_option maxRecDepth 100000
set_option maxHeartbeats 4000000
namespace PI
open PySem L2 PySem.Spec
open PyProof.Rows hiding St
section
variable {X:Cx} {Z:ZK} {k:Nat} {n:Nm} {cv:Nat->Value} {cl:Nat->List D->Hh->Res D}
structure SE (X:Cx) (Z:ZK) (n:Nm) (cv:Nat->Value) (cl:Nat->List D->Hh->Res D) (e:E):Prop where
  pe:PE X (e.py n) (lift X.K cv (Rep X.K) Z (e.ev cl))
  pt:e.okT=true->PT X (e.py n) (lift X.K cv RB Z (e.evT cl))
noncomputable def PsOk (X:Cx) (Z:ZK) (n:Nm) (cv:Nat->Value) (cl:Nat->List D->Hh->Res D) (r:Es):Prop:=∀ (ks:List (Str × Pos)) (pos:Pos),ks.length=(r.py n).length ->
  ∃ trs,PPs X pos (ks.map fun q=>some (.Constant (.str q.1) 0 q.2)) (r.py n) trs /\ ∀ σ H (Q:List (V × V)->Hp->Prop),lift X.K cv (Reps X.K) Z (r.ev cl) σ H (fun us H'=>Q ((ks.map fun q=>V.str q.1).zip us) H')->tPairs trs σ H Q
structure SEs (X:Cx) (Z:ZK) (n:Nm) (cv:Nat->Value) (cl:Nat->List D->Hh->Res D) (r:Es):Prop where
  pa:PA X (r.py n) (lift X.K cv (Reps X.K) Z (r.ev cl))
  an:∀ (b:E) (p:Pos),SE X Z n cv cl b->PE X (.BoolOp .And (b.py n :: r.py n) p) (lift X.K cv (Rep X.K) Z fun ρ h=>(b.ev cl ρ h).bind fun y h2=>r.evAnd cl ρ y h2)
  anT:∀ (b:E) (p:Pos),SE X Z n cv cl b->b.okT=true->r.okT=true->PW X (.BoolOp .And (b.py n :: r.py n) p) (lift X.K cv RB Z fun ρ h=>(b.evT cl ρ h).bind fun c h2=>r.evAndT cl ρ c h2)
  orr:∀ (b:E) (p:Pos),SE X Z n cv cl b->PE X (.BoolOp .Or (b.py n :: r.py n) p) (lift X.K cv (Rep X.K) Z fun ρ h=>(b.ev cl ρ h).bind fun y h2=>r.evOr cl ρ y h2)
  orT:∀ (b:E) (p:Pos),SE X Z n cv cl b->b.okT=true->r.okT=true->PW X (.BoolOp .Or (b.py n :: r.py n) p) (lift X.K cv RB Z fun ρ h=>(b.evT cl ρ h).bind fun c h2=>r.evOrT cl ρ c h2)
  ps:PsOk X Z n cv cl r
theorem lift_C {v:V} {d:D} {Q:VK} {σ:St} {H:Hp} (hv:∀ K μ H,Rep K μ H d v) (p:lift X.K cv (Rep X.K) Z (fun _ h=>.ok d h) σ H Q):tC v σ H Q:=by
  obtain ⟨μ,ρ,h,hr,er,q⟩:=p
  exact q.here hr (hv _ _ _)
theorem lift2 {f:D->D->Hh->Res D} {a b:E} {σ:St} {H:Hp} {Q:VK} (p:lift X.K cv (Rep X.K) Z (fun ρ h=>(a.ev cl ρ h).bind fun x h1=>(b.ev cl ρ h1).bind fun y h2=>f x y h2) σ H Q) :
    tOp (r2 X.K cv f) (lift X.K cv (Rep X.K) Z (a.ev cl)) (lift X.K cv (Rep X.K) Z (b.ev cl)) σ H Q:=by
  obtain ⟨μ,ρ,h,hr,er,q⟩:=p
  refine lift_bind (m:=a.ev cl) hr er q fun da h1 μ1 H1 x _ e1 r1 er1 qa p1=>?_
  refine lift_bind (m:=b.ev cl) r1 er1 p1 fun db h2 μ2 H2 y _ e2 r2 er2 qb p2=>?_
  exact ⟨μ2,h2,da,db,_,r2,qa.mono e2,qb,p2⟩
theorem lift1 {f:D->Hh->Res D} {a:E} {σ:St} {H:Hp} {Q:VK} (p:lift X.K cv (Rep X.K) Z (fun ρ h=>(a.ev cl ρ h).bind fun x h1=>f x h1) σ H Q) :
    tUn (r1 X.K cv f) (lift X.K cv (Rep X.K) Z (a.ev cl)) σ H Q:=by
  obtain ⟨μ,ρ,h,hr,er,q⟩:=p
  refine lift_bind (m:=a.ev cl) hr er q fun da h1 μ1 H1 x _ e1 r1 er1 qa p1=>?_
  exact ⟨μ1,h1,da,_,r1,qa,p1⟩
theorem un_op (op:UnaryOp) (h:op=.Invert \/ op=.USub):UnR X (unaryOp op) (r1 X.K cv (unD op)):=by
  intro pins s σ H x v Q I rx hh
  obtain ⟨μ,h',a,Z',hr,ra,p⟩:=hh
  rcases h with rfl | rfl
  · unfold unD at p
    cases ra with
    | int i=>exact un_inv pins s σ H _ v Q I rx ⟨i,rfl,p.here hr (.int _)⟩
    | _=>exact p.elim
  · unfold unD at p
    cases ra with
    | int i=>exact un_neg pins s σ H _ v Q I rx ⟨i,rfl,p.here hr (.int _)⟩
    | _=>exact p.elim
theorem ix_dict (hu:X.A.units + 1 < cLine):IxR X (fun x y H Q=>∃ a v,x=.ref a /\ DGet H a y (some v) /\ Q v H):=by
  intro value slice pins s σ H x y v u Q I rx ry h hs
  obtain ⟨a,w,rfl,g,q⟩:=h
  cases rx
  have ty:s.TypeIs (.ref a) "dict":=by
    rcases g with ⟨kvs,k,e,ey,l⟩ | ⟨kvs,k,b,e,ey,eb,l⟩
    · obtain ⟨_,_,vs,_,o,es,ep,e1,ex,_⟩:=e.ok I.hok
      exact ⟨o,e1,ex.1⟩
    · obtain ⟨_,_,xs,_,o,es,ep,e1,ex,_⟩:=e.ok I.hok
      exact ⟨o,e1,ex.1⟩
  exact tail_any ty slot_dict_getitem.lookup (d_getItem hu I g ry fun w' s' I' r'=>⟨w,H,I',r',q⟩) hs
theorem ix_dT (hu:X.A.units + 1 < cLine):IxR X (fun x y H Q=>∃ a b kvs k v,x=.ref a /\ y=.ref b /\ H a=some (.dT kvs) /\ SqT X.K H b (k.map kV) /\ valV kvs k=some v /\ Q v H):=by
  intro value slice pins s σ H x y v u Q I rx ry h hs
  obtain ⟨a,b,kvs,k,w,rfl,rfl,g,hb,hv,q⟩:=h
  cases rx
  cases ry
  have ty:s.TypeIs (.ref a) "dict":=by
    obtain ⟨_,_,xs,_,o,es,ep,e1,ex,_⟩:=(show ObjOk X.prog X.w H s.heap a (.dT kvs) from I.hok a _ g)
    exact ⟨o,e1,ex.1⟩
  exact tail_any ty slot_dict_getitem.lookup (t_getItem hu I (.inl g) hb hv fun w' s' I' r'=>⟨w,H,I',r',q⟩) hs
theorem RepKs.val {κ:Type} [DecidableEq κ] {K:PySem.W.Frag} {μ:List Addr} {H:Hp} {k:κ} {d:D}:∀ {ds:List (κ × D)} {vs:List (κ × V)},RepKs K μ H ds vs->valD ds k=some d->∃ v,valV vs k=some v /\ Rep K μ H d v
  | _,_,.nil,e=>by unfold valD at e; simp at e
  | _,_,.cons (k:=k') (d:=d') (v:=v') h r,e=>by
    by_cases hk:k'=k
    · rw [valV_pos (p:=(k',v')) hk]
      unfold valD at e
      rw [List.find?_cons_of_pos (by simpa using hk)] at e
      cases e
      exact ⟨_,rfl,h⟩
    · rw [valV_neg (p:=(k',v')) hk]
      unfold valD at e
      rw [List.find?_cons_of_neg (by simpa using hk)] at e
      exact RepKs.val r e
theorem keyD_rep {K:PySem.W.Frag} {μ:List Addr} {H:Hp} {d:D} {v:V} {k:Key} (r:Rep K μ H d v) (e:keyD d=some k):v=kV k:=by
  unfold keyD at e
  cases r <;> first | (cases e; rfl) | cases e
theorem DicV.at {K:PySem.W.Frag} {k:Str} {c:Cv}:∀ {kvs:List (Str × Cv)} {vs:List (Key × Value)},DicV K kvs vs->kvs.lookup k=some c->∃ v,valueAt vs (Sum.inr k:Key)=some v /\ CvOk K v c
  | [],[],_,e=>by cases e
  | [],_ :: _,h,_=>h.elim
  | _ :: _,[],h,_=>h.elim
  | (k',ys) :: r,(q,v) :: s,⟨h1,h2,h4⟩,e=>by
    rw [List.lookup_cons] at e
    by_cases hk:k=k'
    · subst hk
      simp only [beq_self_eq_true] at e
      cases e
      refine ⟨v,?_,h2⟩
      unfold valueAt
      rw [List.find?_cons_of_pos (by simpa using h1)]
      rfl
    · have hb:(k == k')=false:=by simpa using hk
      rw [hb] at e
      obtain ⟨b,e1,e2⟩:=DicV.at h4 e
      refine ⟨b,?_,e2⟩
      unfold valueAt at e1 ⊢
      rw [List.find?_cons_of_neg (by
        have h1':q=Sum.inr k':=h1
        simp only [decide_eq_true_eq]
        intro z
        rw [h1'] at z
        exact hk (Sum.inr.inj z).symm)]
      exact e1
noncomputable def CvV (K:PySem.W.Frag) (u:V):Cv->Prop
  | .tup xs=>∃ a,u=.ref a /\ TupK K a xs
  | .int i=>u=.int i
  | .fn _ x=>∃ f,u=.ref f /\ PySem.W.nsIn K mainGlobals x=some (some (.ref f))
  | .oth=>∃ f,u=.ref f
theorem CvOk.v {K:PySem.W.Frag} {v:Value} {c:Cv} (h:CvOk K v c):∃ u,RelV u v /\ CvV K u c:=by
  cases c with
  | tup xs=>obtain ⟨a,rfl,t⟩:=h; exact ⟨.ref a,rfl,a,rfl,t⟩
  | int i=>obtain ⟨t,rfl⟩:=h; exact ⟨.int i,⟨t,rfl⟩,rfl⟩
  | fn i x=>obtain ⟨f,rfl,t⟩:=h; exact ⟨.ref f,rfl,f,rfl,t⟩
  | oth=>obtain ⟨f,rfl⟩:=h; exact ⟨.ref f,rfl,f,rfl⟩
theorem ix_cst {kvs:List (Str × Cv)}:IxR X (fun x y H Q=>∃ a k c,x=.ref a /\ y=.str k /\ CnOk X.prog X.w X.K (.ref a) (.dic kvs) /\ kvs.lookup k=some c /\ ∀ u,CvV X.K u c->Q u H):=by
  intro value slice pins s σ H x y v u Q I rx ry h hs
  obtain ⟨a,k,xs,rfl,rfl,ok,l,q⟩:=h
  cases rx
  obtain ⟨a',o,es,ep,vs,ea,e1,ex,ed,ks,ps,nd,dv⟩:=ok
  cases ea
  obtain ⟨b,e2,tk⟩:=dv.at l
  obtain ⟨bu,tr,tk⟩:=tk.v
  have eh:=I.kIn a o e1
  have dd:s.heap.DictOf (mixKind X.prog X.w) a vs:=⟨o,es,ep,eh,ex,ed,ks,ps,nd⟩
  exact tail_any ⟨o,eh,ex.1⟩ slot_dict_getitem.lookup (wpAny_getItem_of (kV_is (k:=.inr k) ry) dd.mapOf e2 ⟨bu,H,I.tok _,tr,q bu tk⟩) hs
theorem TupK.rep {K:PySem.W.Frag} {μ:List Addr} {H:Hp} {a:Addr} {xs:List Str} (h:TupK K a xs):Rep K μ H (.tup (xs.map .str)) (.ref a):=by
  have rs:∀ ys:List Str,Reps K μ H (ys.map D.str) (ys.map V.str):=fun ys=>by
    induction ys with
    | nil=>exact .nil
    | cons y r ih=>exact .cons (.str y) ih
  exact .tup (.inr h) (rs xs)
theorem CvV.rep {K:PySem.W.Frag} {μ:List Addr} {H:Hp} {u:V} {c:Cv} (h:CvV K u c) (nf:c.isFn=false):Rep K μ H c.d u:=by
  cases c with
  | tup xs=>obtain ⟨a,rfl,t⟩:=h; exact t.rep
  | int i=>cases h; exact .int i
  | fn i x=>cases nf
  | oth=>cases nf
theorem ix_ours (hu:X.A.units + 1 < cLine):IxR X (r2 X.K cv subD):=by
  intro value slice pins s σ H x y v u Q I rx ry hh hs
  obtain ⟨μ,h,a,b,Z',hr,ra,rb,p⟩:=hh
  cases ra with
  | tup h1 h2 =>
    cases rb with
    | int k =>
      rw [sub_tup] at p
      split at p
      · rename_i d e
        obtain ⟨w,e1,e2⟩:=h2.atI e
        exact ix_tup value slice pins s σ H _ _ v u Q I rx ry ⟨_,_,_,w,rfl,rfl,h1,e1,p.here hr e2⟩ hs
      · exact p.elim
    | _=>exact p.elim
  | fl h1 h2 =>
    cases rb with
    | int k =>
      rw [sub_fl] at p
      split at p
      · rename_i d e
        obtain ⟨w,e1,e2⟩:=h2.atI e
        exact ix_list value slice pins s σ H _ _ v u Q I rx ry ⟨_,_,_,w,rfl,rfl,h1.sq,e1,p.here hr e2⟩ hs
      · exact p.elim
    | _=>exact p.elim
  | str z =>
    cases rb with
    | int k =>
      rw [sub_str] at p
      split at p
      · rename_i c
        split at p
        · rename_i d e
          exact ix_str value slice pins s σ H _ _ v u Q I rx ry ⟨_,_,_,rfl,rfl,line_le c,e,p.here hr (.str _)⟩ hs
        · exact p.elim
      · exact p.elim
    | _=>exact p.elim
  | @loc nn a m =>
    rw [sub_loc] at p
    cases e1:h[nn]? with
    | none=>rw [e1] at p; exact p.elim
    | some o =>
      rw [e1] at p
      have q:=hr.obj nn a o m e1
      cases o with
      | lst xs =>
        obtain ⟨vs,q1,q2⟩:=q
        cases rb with
        | int k =>
          cases e2:atI xs k with
          | none=>simp only [e2] at p; exact p.elim
          | some d =>
            simp only [e2] at p
            obtain ⟨w,e3,e4⟩:=q2.atI e2
            exact ix_list value slice pins s σ H _ _ v u Q I rx ry ⟨_,_,_,w,rfl,rfl,SqL.of q1,e3,p.here hr e4⟩ hs
        | _=>exact p.elim
      | obj _ _=>exact p.elim
      | dK kvs =>
        obtain ⟨vs,q1,q2⟩:=q
        cases e2:keyD b with
        | none=>simp only [e2,Option.bind_none] at p; exact p.elim
        | some k =>
          simp only [e2,Option.bind_some] at p
          cases e3:valD kvs k with
          | none=>simp only [e3] at p; exact p.elim
          | some d =>
            simp only [e3] at p
            obtain ⟨w,e4,e5⟩:=q2.val e3
            have ey:=keyD_rep rb e2
            subst ey
            exact ix_dict hu value slice pins s σ H _ _ v u Q I rx ry ⟨_,w,rfl,e4 ▸ DGet.k q1,p.here hr e5⟩ hs
      | dT kvs =>
        obtain ⟨vs,q1,q2⟩:=q
        cases e2:keysT b with
        | none=>simp only [e2,Option.bind_none] at p; exact p.elim
        | some k =>
          simp only [e2,Option.bind_some] at p
          cases e3:valD kvs k with
          | none=>simp only [e3] at p; exact p.elim
          | some d =>
            simp only [e3] at p
            obtain ⟨w,e4,e5⟩:=q2.val e3
            obtain ⟨c,rfl,hc⟩:=keysT_rep rb e2
            exact ix_dT hu value slice pins s σ H _ _ v u Q I rx ry ⟨_,_,_,_,w,rfl,rfl,q1,hc,e4,p.here hr e5⟩ hs
  | _=>exact p.elim
noncomputable def rLen (K:PySem.W.Frag) (cv:Nat->Value):List V->Hp->VK->Prop:=fun xs H Q=>∃ x,xs=[x] /\ r1 K cv lenD x H Q
theorem call_lenI:CallR X (.builtin "len") (rLen X.K cv):=by
  intro pins s σ H xs us Q I r hh
  obtain ⟨x,rfl,μ,h,a,Z',hr,ra,p⟩:=hh
  refine call_len pins s σ H _ us Q I r ⟨x,?_⟩
  cases ra with
  | tup h1 h2=>exact ⟨_,rfl,.inr ⟨_,h1,h2.length⟩,p.here hr (.int _)⟩
  | @loc nn b m =>
    rw [len_loc] at p
    cases e1:rd h nn with
    | none=>rw [e1] at p; exact p.elim
    | some ys =>
      rw [e1] at p
      obtain ⟨vs,hs1,rs⟩:=hr.rd e1 m
      exact ⟨_,rfl,.inl ⟨_,hs1,rs.length⟩,p.here hr (.int _)⟩
  | fl h1 h2=>exact ⟨_,rfl,.inl ⟨_,h1.sq,h2.length⟩,p.here hr (.int _)⟩
  | str y =>
    rw [len_str] at p
    split at p
    · rename_i c; exact ⟨_,rfl,⟨line_le c,rfl⟩,p.here hr (.int _)⟩
    · exact p.elim
  | _=>exact p.elim
noncomputable def isD (T:Nat) (d:D) (h:Hh):Res D:=match isI h d T with | some b=>.ok (.bl b) h | none=>.no
theorem five {P:Nat->Prop} {T:Nat} (hT:T < 5) (a:P 0) (b:P 1) (c:P 2) (d:P 3) (e:P 4):P T:=by
  match T,hT with | 0,_=>exact a | 1,_=>exact b | 2,_=>exact c | 3,_=>exact d | 4,_=>exact e
theorem call_isI (T:Nat) (hT:T < 5):CallR X (.builtin "isinstance") (fun xs H Q=>∃ x,xs=[x,.ty (tyStr T)] /\ r1 X.K cv (isD T) x H Q):=by
  intro pins s σ H xs us Q I r hh
  obtain ⟨x,rfl,μ,h,a,Z',hr,ra,p⟩:=hh
  obtain ⟨u,w',rfl,rx,rw'⟩:=vals2 r
  cases (show w'=Value.type (tyStr T) from rw')
  unfold isD at p
  have key:∀ (b:Bool),Q (.bl b) H->∀ tk,EP X pins σ Q (.bool b) { s with toks:=tk }:=fun b q tk=>⟨.bl b,H,I.tok _,rfl,q⟩
  cases ra with
  | non =>
    have p1:Q (.bl false) H:=p.here hr (.bl _)
    refine isinst_ok I rx .non (b:=false) ?_ (key _ p1)
    apply five hT <;> rfl
  | bl y =>
    have p1:Q (.bl (T == 0 || T == 1)) H:=p.here hr (.bl _)
    refine isinst_ok I rx (.bl y) (b:=(T == 0 || T == 1)) ?_ (key _ p1)
    apply five hT <;> rfl
  | int y =>
    have p1:Q (.bl (T == 0)) H:=p.here hr (.bl _)
    refine isinst_ok I rx (.int y) (b:=(T == 0)) ?_ (key _ p1)
    apply five hT <;> rfl
  | str y =>
    have p1:Q (.bl (T == 2)) H:=p.here hr (.bl _)
    refine isinst_ok I rx (.str y) (b:=(T == 2)) ?_ (key _ p1)
    apply five hT <;> rfl
  | tup h1 h2 =>
    have p1:Q (.bl (T == 3)) H:=p.here hr (.bl _)
    cases rx
    obtain ⟨its,rv,⟨o,g1,g2,_⟩,_⟩:=I.tuple h1
    refine PySem.W.kia_one PySem.W.kitx_tuple I.kIn ⟨_,g1,g2⟩ (b:=(T == 3)) ?_ (fun z=>nomatch z) (key _ p1)
    apply five hT <;> rfl
  | fl h1 h2 =>
    have p1:Q (.bl (T == 4)) H:=p.here hr (.bl _)
    cases rx
    obtain ⟨its,rv,⟨o,n',g1,g2,_⟩,_⟩:=I.list h1.sq
    refine PySem.W.kia_one PySem.W.kitx_list I.kIn ⟨_,g1,g2⟩ (b:=(T == 4)) ?_ (fun z=>nomatch z) (key _ p1)
    apply five hT <;> rfl
  | @loc nn b m =>
    cases e1:rd h nn with
    | none=>rw [show isI h (.loc nn) T=(rd h nn).map fun _=>T == 4 from rfl,e1] at p; exact p.elim
    | some ys =>
      rw [show isI h (.loc nn) T=(rd h nn).map fun _=>T == 4 from rfl,e1] at p
      have p1:Q (.bl (T == 4)) H:=p.here hr (.bl _)
      obtain ⟨vs,hs1,rs⟩:=hr.rd e1 m
      cases rx
      obtain ⟨its,rv,⟨o,n',g1,g2,_⟩,_⟩:=I.list hs1
      refine PySem.W.kia_one PySem.W.kitx_list I.kIn ⟨_,g1,g2⟩ (b:=(T == 4)) ?_ (fun z=>nomatch z) (key _ p1)
      apply five hT <;> rfl
end
end PI
set_option Elab.async false
set_option linter.all false
set_option maxRecDepth 100000
set_option maxHeartbeats 4000000
namespace PI
open PySem L2 PySem.Spec
open PyProof.Rows hiding St
section
variable {X:Cx} {Z:ZK} {k:Nat} {n:Nm} {cv:Nat->Value} {cl:Nat->List D->Hh->Res D}
noncomputable def rM0 (K:PySem.W.Frag) (cv:Nat->Value) (m:M0):V->List V->Hp->VK->Prop:=fun x vs H Q=>vs=[] /\ r1 K cv (m0D m) x H Q
noncomputable def rM1 (K:PySem.W.Frag) (cv:Nat->Value) (m:M1):V->List V->Hp->VK->Prop:=fun x vs H Q=>∃ y,vs=[y] /\ r2 K cv (m1D m) x y H Q
theorem lst_of {K:PySem.W.Frag} {μ:List Addr} {H:Hp} {h:Hh} (hr:HR K μ h H) {n:Nat} {a:Addr} {xs:List D} (m:μ[n]?=some a) (e:h[n]?=some (.lst xs)):∃ vs,H a=some (.lst vs) /\ Reps K μ H xs vs:=hr.obj n a _ m e
theorem Reps.reverse {K:PySem.W.Frag} {μ:List Addr} {H:Hp}:∀ {ds:List D} {vs:List V},Reps K μ H ds vs->Reps K μ H ds.reverse vs.reverse
  | _,_,.nil=>.nil
  | _,_,.cons h r=>by rw [List.reverse_cons,List.reverse_cons]; exact r.reverse.append (.cons h .nil)
theorem Reps.dropLast {K:PySem.W.Frag} {μ:List Addr} {H:Hp}:∀ {ds:List D} {vs:List V},Reps K μ H ds vs->Reps K μ H ds.dropLast vs.dropLast
  | _,_,.nil=>.nil
  | _,_,.cons h .nil=>.nil
  | _,_,.cons h (.cons h' r)=>.cons h (Reps.dropLast (.cons h' r))
theorem Reps.set {K:PySem.W.Frag} {μ:List Addr} {H:Hp} {d:D} {v:V} (q:Rep K μ H d v):∀ {ds:List D} {vs:List V} (i:Nat),Reps K μ H ds vs->Reps K μ H (ds.set i d) (vs.set i v)
  | _,_,_,.nil=>.nil
  | _,_,0,.cons _ r=>.cons q r
  | _,_,i + 1,.cons h r=>.cons h (Reps.set q i r)
theorem Reps.take {K:PySem.W.Frag} {μ:List Addr} {H:Hp}:∀ {ds:List D} {vs:List V} (i:Nat),Reps K μ H ds vs->Reps K μ H (ds.take i) (vs.take i)
  | _,_,0,_=>.nil
  | _,_,_ + 1,.nil=>.nil
  | _,_,i + 1,.cons h r=>.cons h (Reps.take i r)
theorem Reps.drop {K:PySem.W.Frag} {μ:List Addr} {H:Hp}:∀ {ds:List D} {vs:List V} (i:Nat),Reps K μ H ds vs->Reps K μ H (ds.drop i) (vs.drop i)
  | _,_,0,r=>r
  | _,_,_ + 1,.nil=>.nil
  | _,_,i + 1,.cons _ r=>Reps.drop i r
theorem Reps.cut {K:PySem.W.Frag} {μ:List Addr} {H:Hp} {ds:List D} {vs:List V} (r:Reps K μ H ds vs) (lo hi:Option Int):Reps K μ H (cutXs ds lo hi) (cutV vs lo hi):=by
  unfold cutXs cutV
  rw [<- r.length]
  exact (r.drop _).take _
theorem mt_pop0:MtR X "list.pop" (rM0 X.K cv .pop):=by
  intro pins s σ H x xs v us Q I rx rs hh
  obtain ⟨rfl,μ,h,a,Z',hr,ra,p⟩:=hh
  unfold m0D at p
  cases ra with
  | @loc nn b m =>
    cases e1:h[nn]? with
    | none=>simp only [e1] at p; exact p.elim
    | some o =>
      cases o with
      | dK _=>simp only [e1] at p; exact p.elim
      | dT _=>simp only [e1] at p; exact p.elim
      | obj _ _=>simp only [e1] at p; exact p.elim
      | lst ds =>
        simp only [e1] at p
        obtain ⟨vs,q1,q2⟩:=lst_of hr m e1
        cases e2:ds.getLast? with
        | none=>simp only [e2] at p; exact p.elim
        | some d =>
          simp only [e2] at p
          rw [List.getLast?_eq_getElem?] at e2
          obtain ⟨w,e3,e4⟩:=q2.get e2
          rw [q2.length] at e3
          obtain ⟨hr',ex⟩:=hr.chg (u:=.lst vs.dropLast) (o':=.lst ds.dropLast) e1 m fun H' ex e=>⟨_,e,(q2.mono ex).dropLast⟩
          exact mt_pop pins s σ H _ _ v us Q I rx rs ⟨b,vs,w,rfl,rfl,q1,e3,p μ _ w ex hr' (e4.mono ex)⟩
  | _=>exact p.elim
theorem mt_reverse0:MtR X "list.reverse" (rM0 X.K cv .reverse):=by
  intro pins s σ H x xs v us Q I rx rs hh
  obtain ⟨rfl,μ,h,a,Z',hr,ra,p⟩:=hh
  unfold m0D at p
  cases ra with
  | @loc nn b m =>
    cases e1:h[nn]? with
    | none=>simp only [e1] at p; exact p.elim
    | some o =>
      cases o with
      | dK _=>simp only [e1] at p; exact p.elim
      | dT _=>simp only [e1] at p; exact p.elim
      | obj _ _=>simp only [e1] at p; exact p.elim
      | lst ds =>
        simp only [e1] at p
        obtain ⟨vs,q1,q2⟩:=lst_of hr m e1
        obtain ⟨hr',ex⟩:=hr.chg (u:=.lst vs.reverse) (o':=.lst ds.reverse) e1 m fun H' ex e=>⟨_,e,(q2.mono ex).reverse⟩
        exact mt_reverse pins s σ H _ _ v us Q I rx rs ⟨b,vs,rfl,rfl,q1,p μ _ .non ex hr' .non⟩
  | _=>exact p.elim
theorem mt_append1:MtR X "list.append" (rM1 X.K cv .append):=by
  intro pins s σ H x xs v us Q I rx rs hh
  obtain ⟨y,rfl,μ,h,a,d,Z',hr,ra,rb,p⟩:=hh
  unfold m1D at p
  cases ra with
  | @loc nn b m =>
    cases e1:h[nn]? with
    | none=>simp only [e1] at p; exact p.elim
    | some o =>
      cases o with
      | dK _=>simp only [e1] at p; exact p.elim
      | dT _=>simp only [e1] at p; exact p.elim
      | obj _ _=>simp only [e1] at p; exact p.elim
      | lst ds =>
        simp only [e1] at p
        obtain ⟨vs,q1,q2⟩:=lst_of hr m e1
        split at p
        · rename_i c
          obtain ⟨hr',ex⟩:=hr.chg (u:=.lst (vs ++ [y])) (o':=.lst (ds ++ [d])) e1 m fun H' ex e=>⟨_,e,(q2.mono ex).append (.cons (rb.mono ex) .nil)⟩
          exact mt_append pins s σ H _ _ v us Q I rx rs ⟨b,vs,y,rfl,rfl,q1,by rw [<- q2.length]; exact line_lt c,p μ _ .non ex hr' .non⟩
        · exact p.elim
  | _=>exact p.elim
theorem meets_extT (l b:Addr) (xs ys:Array Value) (n m:Nat) (dd:Option Addr) (ss:Array (Option Value)) (h0:¬(!xs.isEmpty && Builtin.List.listTooLong (xs.size + ys.size))=true) (h1:xs.size<=sizeLine) (h2:xs.size + ys.size<=sizeLine + 1) :
    Meets (Builtin.«list.extend» ⟨[.ref l,.ref b],[]⟩) (fun _ R s =>
      s.heap.get? l=some { cls:=.type "list",data:=.seq xs n } /\
      s.heap.get? b=some ⟨.type "tuple",dd,.seq ys m,ss⟩ /\
      R (.ok (.ret Value.none)) { s with heap:=s.heap.update l (Obj.mapSeq fun x=>x ++ ys),toks:=s.toks }) :=
  .of_wp fun prog w A R s h=>by
    obtain ⟨hp,g,d,tk,os⟩:=s
    obtain ⟨hl,hb,h⟩:=h
    have f1:=AutoSeq1.idx_int
    have f2:=AutoSeq1.sub_list_tuple
    have f3:=AutoSeq1.sub_tuple_list
    have f4:=AutoSeq1.sub_tuple_tuple
    have f5:=AutoSeq1.sub_list_list
    have hz:(xs ++ ys).size<=sizeLine + 1:=by rw [Array.size_append]; exact h2
    wp_walk using (wpAny_updateSeq hl rfl (hz:=h1) (_hz':=hz)),AutoSeq1.wpAny_loadPart' hl,AutoSeq1.wpAny_loadPart' hb
    exact ⟨_,rfl,h⟩
noncomputable def rExtT (K:PySem.W.Frag):V->List V->Hp->VK->Prop:=fun x vs H Q=>∃ l b xs zs,x=.ref l /\ vs=[.ref b] /\ H l=some (.lst xs) /\ SqT K H b zs /\ xs.length + zs.length<=sizeLine /\ Q .non (upd H l (.lst (xs ++ zs)))
theorem mt_extT {X:Cx}:MtM X "list.extend" (rExtT X.K):=by
  intro pins s σ H x vs v us Q I rx rv h
  obtain ⟨l,b,xs,zs,rfl,rfl,hH,hB,hz,q⟩:=h
  cases rx
  obtain ⟨u,rfl,ru⟩:=rv.one
  cases ru
  obtain ⟨z,its,n,r,hl,e⟩:=I.lstM hH
  obtain ⟨its2,r2,⟨o,e2,oc,m,od⟩,z2⟩:=I.tuple hB
  obtain ⟨oc',dd,od',ss⟩:=o
  cases oc
  cases od
  have hl2:=r2.length
  have hsz:its.toArray.size + its2.toArray.size<=sizeLine:=by simp only [List.size_toArray]; omega
  have hlong:¬ (!its.toArray.isEmpty && Builtin.List.listTooLong (its.toArray.size + its2.toArray.size))=true:=by rw [notLongL hsz,Bool.and_false]; exact Bool.false_ne_true
  refine call_meets F.slot_list_extend ⟨_,e,rfl⟩ F.entry_list_extend (F.args_list_extend_2 _ _) (meets_extT l b its.toArray its2.toArray n m dd ss hlong (by simp only [List.size_toArray]; omega) (by omega)) ⟨e,e2,?_⟩
  refine ⟨.non,_,I.lset (its':=its ++ its2) hH e (by simp) (r.append r2) (by rw [List.length_append]; omega),rfl,q⟩
theorem mt_extend1:MtR X "list.extend" (rM1 X.K cv .extend):=by
  intro pins s σ H x xs v us Q I rx rs hh
  obtain ⟨y,rfl,μ,h,a,d,Z',hr,ra,rb,p⟩:=hh
  unfold m1D at p
  cases ra with
  | @loc nn b m =>
    cases e1:h[nn]? with
    | none=>simp only [e1] at p; exact p.elim
    | some o =>
      cases o with
      | dK _=>simp only [e1] at p; exact p.elim
      | dT _=>simp only [e1] at p; exact p.elim
      | obj _ _=>simp only [e1] at p; exact p.elim
      | lst ds =>
        simp only [e1] at p
        obtain ⟨vs,q1,q2⟩:=lst_of hr m e1
        cases rb with
        | @loc nm b2 m2 =>
          cases e2:h[nm]? with
          | none=>simp only [e2] at p; exact p.elim
          | some o2 =>
            cases o2 with
            | dK _=>simp only [e2] at p; exact p.elim
            | dT _=>simp only [e2] at p; exact p.elim
            | obj _ _=>simp only [e2] at p; exact p.elim
            | lst ds2 =>
              simp only [e2] at p
              obtain ⟨vs2,q3,q4⟩:=lst_of hr m2 e2
              split at p
              · rename_i c
                obtain ⟨hr',ex⟩:=hr.chg (u:=.lst (vs ++ vs2)) (o':=.lst (ds ++ ds2)) e1 m fun H' ex e=>⟨_,e,(q2.mono ex).append (q4.mono ex)⟩
                exact mt_extend pins s σ H _ _ v us Q I rx rs ⟨b,b2,vs,vs2,rfl,rfl,q1,q3,by rw [<- q2.length,<- q4.length]; exact line_le c,p μ _ .non ex hr' .non⟩
              · exact p.elim
        | @tup ds2 vs2 b2 q3 q4 =>
          simp only at p
          split at p
          · rename_i c
            obtain ⟨hr',ex⟩:=hr.chg (u:=.lst (vs ++ vs2)) (o':=.lst (ds ++ ds2)) e1 m fun H' ex e=>⟨_,e,(q2.mono ex).append (q4.mono ex)⟩
            exact mt_extT pins s σ H _ _ v us Q I rx rs ⟨b,b2,vs,vs2,rfl,rfl,q1,q3,by rw [<- q2.length,<- q4.length]; exact line_le c,p μ _ .non ex hr' .non⟩
          · exact p.elim
        | _=>exact p.elim
  | _=>exact p.elim
noncomputable def rCut (K:PySem.W.Frag) (cv:Nat->Value):V->Option Int->Option Int->Hp->VK->Prop:=fun x lo hi H Q=>∃ μ h a Z,HR K μ h H /\ Rep K μ H a x /\ PostE K cv (Rep K) μ H (cutD a lo hi h) Q Z
theorem new_loc {K:PySem.W.Frag} {cv:Nat->Value} {μ:List Addr} {H:Hp} {h:Hh} {ds:List D} {vs:List V} {Q:VK} {Z:Value->Hp->Prop} (hr:HR K μ h H) (r:Reps K μ H ds vs) (p:PostE K cv (Rep K) μ H (new (.lst ds) h) Q Z) :
    ∀ b,H b=none->Q (.ref b) (upd H b (.lst vs)):=fun b hb=>by
  refine p _ _ _ ((ext_new hb).add hb) (hr.alloc hb (hr.fresh hb) fun μ' g=>⟨_,upd_same,(r.mono (ext_new hb)).mono' g⟩) (.loc ?_)
  rw [<- hr.len,List.getElem?_append_right (Nat.le_refl _),Nat.sub_self]
  rfl
theorem cut_tup {xs:List D} {lo hi:Option Int} {h:Hh}:cutD (.tup xs) lo hi h=if HT.sIx xs.length 0 lo=0 /\ HT.sIx xs.length xs.length hi=xs.length then .ok (.tup xs) h else .ok (.tup (cutXs xs lo hi)) h:=rfl
theorem cut_loc {n:Nat} {lo hi:Option Int} {h:Hh}:cutD (.loc n) lo hi h=match rd h n with | some xs=>new (.lst (cutXs xs lo hi)) h | none=>.no:=rfl
theorem sl_ours:SlR X (rCut X.K cv):=by
  intro pins s σ H x v vl vu lo hi sl Q I rx hs pl pu hh
  obtain ⟨μ,h,a,Z',hr,ra,p⟩:=hh
  cases ra with
  | tup h1 h2 =>
    rw [cut_tup] at p
    split at p
    · rename_i c
      rw [h2.length] at c
      exact sl_tupW pins s σ H _ v vl vu lo hi sl Q I rx hs pl pu ⟨_,_,rfl,h1,c.1,c.2,p.here hr (.tup h1 h2)⟩
    · rename_i c
      rw [h2.length] at c
      exact sl_tup pins s σ H _ v vl vu lo hi sl Q I rx hs pl pu ⟨_,_,rfl,h1,c,fun b hb=>p μ _ _ (ext_new hb) (hr.tup hb) (.tup (SqT.of upd_same) ((h2.cut lo hi).mono (ext_new hb)))⟩
  | fl h1 h2=>exact sl_list pins s σ H _ v vl vu lo hi sl Q I rx hs pl pu ⟨_,_,rfl,h1.sq,new_loc hr (h2.cut lo hi) p⟩
  | str x =>
    simp only [cutD] at p
    split at p
    · rename_i c
      exact sl_str pins s σ H _ v vl vu lo hi sl Q I rx hs pl pu ⟨x,rfl,Nat.le_trans c (by decide),p.here hr (.str _)⟩
    · exact p.elim
  | @loc nn b m =>
    rw [cut_loc] at p
    cases e1:rd h nn with
    | none=>simp only [e1] at p; exact p.elim
    | some xs =>
      simp only [e1] at p
      obtain ⟨vs,hs1,rs⟩:=hr.rd e1 m
      exact sl_list pins s σ H _ v vl vu lo hi sl Q I rx hs pl pu ⟨_,_,rfl,hs1,new_loc hr (rs.cut lo hi) p⟩
  | _=>exact p.elim
theorem seqOf_rep {K:PySem.W.Frag} {μ:List Addr} {H:Hp} {h:Hh} {d:D} {v:V} {xs:List D} (hr:HR K μ h H) (r:Rep K μ H d v) (e:seqOf d h=some xs):∃ a vs,v=.ref a /\ ((SqL K H a vs /\ (∀ ys,d ≠ .tup ys)) \/ (SqT K H a vs /\ d=.tup xs)) /\ Reps K μ H xs vs:=by
  unfold seqOf at e
  cases r with
  | tup h1 h2=>cases e; exact ⟨_,_,rfl,.inr ⟨h1,rfl⟩,h2⟩
  | fl h1 h2=>cases e; exact ⟨_,_,rfl,.inl ⟨h1.sq,fun _ z=>nomatch z⟩,h2⟩
  | @loc nn b m =>
    unfold PI.rd at e
    cases e1:h[nn]? with
    | none=>simp only [e1] at e; cases e
    | some o =>
      cases o with
      | dK _=>simp only [e1] at e; cases e
      | dT _=>simp only [e1] at e; cases e
      | obj _ _=>simp only [e1] at e; cases e
      | lst ds =>
        simp only [e1] at e
        cases e
        obtain ⟨vs,q1,q2⟩:=lst_of hr m e1
        exact ⟨_,_,rfl,.inl ⟨SqL.of q1,fun _ z=>nomatch z⟩,q2⟩
  | _=>cases e
noncomputable def tupD (d:D) (h:Hh):Res D:=match seqOf d h with | some xs=>.ok (.tup xs) h | none=>.no
theorem call_tupI:CallR X (.type "tuple") (fun xs H Q=>∃ x,xs=[x] /\ r1 X.K cv tupD x H Q):=by
  intro pins s σ H xs us Q I r hh
  obtain ⟨x,rfl,μ,h,a,Z',hr,ra,p⟩:=hh
  unfold tupD at p
  cases e:seqOf a h with
  | none=>rw [e] at p; exact p.elim
  | some ds =>
    rw [e] at p
    obtain ⟨b,vs,rfl,q1,q2⟩:=seqOf_rep hr ra e
    refine call_tuple_of pins s σ H _ us Q I r ⟨b,vs,rfl,?_⟩
    rcases q1 with ⟨q1,_⟩ | ⟨q1,rfl⟩
    · exact .inl ⟨q1,fun l hl=>p μ _ _ (ext_new hl) (hr.tup hl) (.tup (SqT.of upd_same) (q2.mono (ext_new hl)))⟩
    · exact .inr ⟨q1,p.here hr ra⟩
noncomputable def minD (a b:D) (h:Hh):Res D:=match a,b with | .int i,.int j=>.ok (.int (if j < i then j else i)) h | _,_=>.no
theorem call_minI (hc:X.calm=true):CallR X (.builtin "min") (fun xs H Q=>∃ x y,xs=[x,y] /\ r2 X.K cv minD x y H Q):=by
  intro pins s σ H xs us Q I r hh
  obtain ⟨x,y,rfl,μ,h,a,b,Z',hr,ra,rb,p⟩:=hh
  unfold minD at p
  cases ra with
  | int i =>
    cases rb with
    | int j=>exact call_min2 hc pins s σ H _ us Q I r ⟨i,j,rfl,p.here hr (.int _)⟩
    | _=>exact p.elim
  | _=>exact p.elim
theorem strs_reps {K:PySem.W.Frag} {μ:List Addr} {H:Hp}:∀ {ds:List D} {vs:List V} {bs:List Str},Reps K μ H ds vs->strsOf ds=some bs->vs=bs.map V.str
  | _,_,_,.nil,e=>by cases e; rfl
  | _,_,_,.cons r t,e=>by
    cases r with
    | str b =>
      unfold strsOf at e
      obtain ⟨bs',e1,rfl⟩:=Option.map_eq_some_iff.mp e
      rw [strs_reps t e1]
      rfl
    | _=>cases e
theorem rd_reps {K:PySem.W.Frag} {μ:List Addr} {H:Hp} {h:Hh} {n:Nat} {a:Addr} {ds:List D} (hr:HR K μ h H) (m:μ[n]?=some a) (e:PI.rd h n=some ds):∃ vs,H a=some (.lst vs) /\ Reps K μ H ds vs:=by
  unfold PI.rd at e
  cases e1:h[n]? with
  | none=>simp only [e1] at e; cases e
  | some o =>
    cases o with
    | dK _=>simp only [e1] at e; cases e
    | dT _=>simp only [e1] at e; cases e
    | obj _ _=>simp only [e1] at e; cases e
    | lst xs =>
      simp only [e1] at e
      cases e
      exact lst_of hr m e1
theorem Reps.eraseIdx {K:PySem.W.Frag} {μ:List Addr} {H:Hp}:∀ {ds:List D} {vs:List V} (i:Nat),Reps K μ H ds vs->Reps K μ H (ds.eraseIdx i) (vs.eraseIdx i)
  | _,_,_,.nil=>.nil
  | _,_,0,.cons _ r=>r
  | _,_,i + 1,.cons h r=>.cons h (Reps.eraseIdx i r)
theorem strs_rep {K:PySem.W.Frag} {μ:List Addr} {H:Hp} (ys:List Str):Reps K μ H (ys.map D.str) (ys.map V.str):=by
  induction ys with
  | nil=>exact .nil
  | cons y r ih=>exact .cons (.str y) ih
noncomputable def rPut (K:PySem.W.Frag):TSet:=fun o i v H Q=>∃ μ h a b c h',HR K μ h H /\ Rep K μ H a o /\ Rep K μ H b i /\ Rep K μ H c v /\ putS a b c h=some h' /\ ∀ μ' H',Ext K μ H μ' H'->HR K μ' h' H'->Q H'
theorem RepKs.map {κ:Type} [DecidableEq κ] {K:PySem.W.Frag} {μ:List Addr} {H:Hp} {k:κ} {d:D} {v:V} (q:Rep K μ H d v):∀ {ds:List (κ × D)} {vs:List (κ × V)},RepKs K μ H ds vs ->
    RepKs K μ H (ds.map fun kv=>if kv.1=k then (kv.1,d) else kv) (vs.map fun kv=>if kv.1=k then (kv.1,v) else kv)
  | _,_,.nil=>.nil
  | _,_,.cons (k:=k') h r=>by
    rw [List.map_cons,List.map_cons]
    by_cases e:k'=k
    · rw [if_pos e,if_pos e]; exact .cons q (RepKs.map q r)
    · rw [if_neg e,if_neg e]; exact .cons h (RepKs.map q r)
theorem RepKs.any {κ:Type} [DecidableEq κ] {K:PySem.W.Frag} {μ:List Addr} {H:Hp} (k:κ):∀ {ds:List (κ × D)} {vs:List (κ × V)},RepKs K μ H ds vs->(ds.any fun kv=>decide (kv.1=k))=(vs.any fun kv=>decide (kv.1=k))
  | _,_,.nil=>rfl
  | _,_,.cons h r=>by rw [List.any_cons,List.any_cons,RepKs.any k r]
theorem RepKs.snoc {κ:Type} [DecidableEq κ] {K:PySem.W.Frag} {μ:List Addr} {H:Hp} {k:κ} {d:D} {v:V} (q:Rep K μ H d v):∀ {ds:List (κ × D)} {vs:List (κ × V)},RepKs K μ H ds vs->RepKs K μ H (ds ++ [(k,d)]) (vs ++ [(k,v)])
  | _,_,.nil=>.cons q .nil
  | _,_,.cons h r=>.cons h (RepKs.snoc q r)
theorem RepKs.put {κ:Type} [DecidableEq κ] {K:PySem.W.Frag} {μ:List Addr} {H:Hp} {k:κ} {d:D} {v:V} {ds:List (κ × D)} {vs:List (κ × V)} (r:RepKs K μ H ds vs) (q:Rep K μ H d v):RepKs K μ H (putD ds k d) (putK vs k v):=by
  unfold putD putK
  rw [<- r.any k]
  split
  · exact r.map q
  · exact r.snoc q
theorem set_ours (hu:X.A.units + 1 < cLine):PSet X (rPut X.K):=by
  intro pins s σ H o i v ov iv u Q I ro ri rv hh
  obtain ⟨μ,h,a,b,c,h',hr,ra,rb,rc,e,q⟩:=hh
  unfold putS at e
  cases ra with
  | @loc nn p m =>
    cases e1:h[nn]? with
    | none=>simp only [e1] at e; cases e
    | some ob =>
      cases ob with
      | lst xs =>
        simp only [e1] at e
        obtain ⟨vs,q1,q2⟩:=lst_of hr m e1
        cases rb with
        | int k =>
          cases e2:ixN xs.length k with
          | none=>simp only [e2,Option.map_none] at e; cases e
          | some j =>
            simp only [e2,Option.map_some] at e
            cases e
            obtain ⟨hr',ex⟩:=hr.chg (u:=.lst (vs.set j v)) (o':=.lst (xs.set j c)) e1 m fun H' ex e=>⟨_,e,(q2.mono ex).set (rc.mono ex) j⟩
            exact set_list pins s σ H _ _ v ov iv u Q I ro ri rv ⟨p,vs,k,j,rfl,rfl,q1,by rw [<- q2.length]; exact e2,q μ _ ex hr'⟩
        | _=>cases e
      | obj _ _=>simp only [e1] at e; cases e
      | dT _=>simp only [e1] at e; cases e
      | dK kvs =>
        simp only [e1] at e
        obtain ⟨vs,q1,q2⟩:=(hr.obj nn p _ m e1:RepO X.K μ H p (.dK kvs))
        cases e2:keyD b with
        | none=>simp only [e2,Option.bind_none] at e; cases e
        | some k =>
          simp only [e2,Option.bind_some] at e
          split at e
          · rename_i hl
            cases e
            have ey:=keyD_rep rb e2
            subst ey
            obtain ⟨hr',ex⟩:=hr.chg (u:=.dK (putK vs k v)) (o':=.dK (putD kvs k c)) e1 m fun H' ex e=>⟨_,e,(q2.mono ex).put (rc.mono ex)⟩
            cases ro
            exact d_setItem hu I (DPut.k q1 (by rw [<- q2.length]; exact line_lt hl)) ri rv fun s' I'=>⟨_,I',q μ _ ex hr'⟩
          · cases e
  | _=>cases e
end
end PI
set_option Elab.async false
set_option linter.all false
set_option maxRecDepth 100000
set_option maxHeartbeats 4000000
namespace PI
open PySem L2 PySem.Spec
open PyProof.Rows hiding St
theorem lift_bind0 {α β γ δ:Type} {K:PySem.W.Frag} {cv:Nat->Value} {R:List Addr->Hp->α->β->Prop} {R':List Addr->Hp->γ->δ->Prop} {μ0 μ:List Addr} {ρ:En} {h:Hh} {σ:St} {H0 H:Hp} {Z:ZK} {Zz:Value->Hp->Prop} {m:En->Hh->Res α} {f:α->Hh->Res γ} {Q:δ->Hp->Prop} {Q':β->Hp->Prop}
    (e0:Ext K μ0 H0 μ H) (hr:HR K μ h H) (er:ER K μ ρ σ H) (p:PostE K cv R' μ0 H0 ((m ρ h).bind f) Q Zz) (hz:∀ C H',Zz C H'->Z σ C H')
    (go:∀ a h1 μ1 H1 x,m ρ h=.ok a h1->Ext K μ H μ1 H1->HR K μ1 h1 H1->ER K μ1 ρ σ H1->R μ1 H1 a x->PostE K cv R' μ0 H0 (f a h1) Q Zz->Q' x H1) :
    lift K cv R Z m σ H Q':=by
  refine ⟨μ,ρ,h,hr,er,?_⟩
  cases e:m ρ h with
  | ok a h1 =>
    rw [e,bind_ok] at p
    exact fun μ1 H1 x e1 r1 q1=>go a h1 μ1 H1 x e e1 r1 (er.mono e1) q1 p
  | exc c h1 =>
    rw [e,bind_exc] at p
    exact fun μ1 H1 e1 r1=>hz _ _ (p μ1 H1 (e0.trans e1) r1)
  | no=>rw [e,bind_no] at p; exact p
noncomputable def Src (K:PySem.W.Frag) (μ0:List Addr) (H0:Hp) (c:Ck) (ds:List D) (J:It):Prop:=∀ μ h H,Ext K μ0 H0 μ H->HR K μ h H->stay c h ->
  (∀ i d,ds[i]?=some d->J.go i H /\ ∀ x H',J.yld i H x H'->Ext K μ H μ H' /\ HR K μ h H' /\ Rep K μ H' d x) /\ J.stop ds.length H
noncomputable def RJ (K:PySem.W.Frag):List Addr->Hp->(Ck × List D)->It->Prop:=fun μ H q J=>Src K μ H q.1 q.2 J
noncomputable def RL (K:PySem.W.Frag) (H0:Hp):List Addr->Hp->List D->V->Prop:=fun μ H ds v=>∃ p vs,v=.ref p /\ H p=some (.lst vs) /\ Reps K μ H ds vs /\ p ∉ μ /\ H0 p=none
noncomputable abbrev liftL (K:PySem.W.Frag) (cv:Nat->Value) (Z:ZK) (m:En->Hh->Res (List D)):TE:=fun σ H Q=>lift K cv (RL K H) Z m σ H Q
section
variable {K:PySem.W.Frag} {μ:List Addr} {H:Hp} {h:Hh} {ds:List D} {vs:List V} {a:Addr}
theorem src_of {c:Ck} {J:It} (k:∀ μ1 h1 H1,Ext K μ H μ1 H1->HR K μ1 h1 H1->stay c h1->(∀ i d,ds[i]?=some d->J.go i H1 /\ ∀ x H',J.yld i H1 x H'->H'=H1 /\ Rep K μ1 H1 d x) /\ J.stop ds.length H1):Src K μ H c ds J:=fun μ1 h1 H1 ex hr st =>
  ⟨fun i d e=>⟨((k μ1 h1 H1 ex hr st).1 i d e).1,fun x H' y=>by obtain ⟨rfl,r⟩:=((k μ1 h1 H1 ex hr st).1 i d e).2 x H' y; exact ⟨Ext.refl,hr,r⟩⟩,(k μ1 h1 H1 ex hr st).2⟩
theorem src_sq {c:Ck} (k:∀ μ1 h1 H1,Ext K μ H μ1 H1->HR K μ1 h1 H1->stay c h1->∃ vs,SqL K H1 a vs /\ Reps K μ1 H1 ds vs):Src K μ H c ds (Itl K a):=src_of fun μ1 h1 H1 ex hr st=>by
  obtain ⟨vs,q1,q2⟩:=k μ1 h1 H1 ex hr st
  refine ⟨fun i d e=>?_,⟨vs,q1,by rw [<- q2.length]; exact Nat.le_refl _⟩⟩
  obtain ⟨w,e1,e2⟩:=q2.get e
  refine ⟨⟨vs,w,q1,e1⟩,fun x H' y=>⟨y.1,?_⟩⟩
  have:=y.2 vs q1
  rw [e1] at this
  cases this
  exact e2
theorem src_loc {n:Nat} (m:μ[n]?=some a):Src K μ H [(n,ds)] ds (Itl K a):=src_sq fun μ1 h1 H1 ex hr st=>by
  have e:rd h1 n=some ds:=st (n,ds) (List.mem_singleton.mpr rfl)
  have m1:=ex.loc n a m
  unfold PI.rd at e
  cases e1:h1[n]? with
  | none=>simp only [e1] at e; cases e
  | some o =>
    cases o with
    | dK _=>simp only [e1] at e; cases e
    | dT _=>simp only [e1] at e; cases e
    | obj _ _=>simp only [e1] at e; cases e
    | lst xs =>
      simp only [e1] at e
      cases e
      obtain ⟨vs,q1,q2⟩:=lst_of hr m1 e1
      exact ⟨vs,SqL.of q1,q2⟩
theorem src_fl (f:Fz K H a vs) (r:Reps K μ H ds vs):Src K μ H [] ds (Itl K a):=src_sq fun μ1 h1 H1 ex hr st=>⟨vs,(ex.fz _ _ f).sq,r.mono ex⟩
theorem src_new (e:H a=some (.lst vs)) (n:a ∉ μ) (r:Reps K μ H ds vs):Src K μ H [] ds (Itl K a):=src_sq fun μ1 h1 H1 ex hr st=>⟨vs,SqL.of (ex.oth _ _ e n),r.mono ex⟩
theorem src_tup (f:SqT K H a vs) (r:Reps K μ H ds vs):Src K μ H [] ds (Itt K a):=src_of fun μ1 h1 H1 ex hr st=>by
  have q1:=ex.tup _ _ f
  have q2:=r.mono ex
  refine ⟨fun i d e=>?_,⟨vs,q1,by rw [<- q2.length]; exact Nat.le_refl _⟩⟩
  obtain ⟨w,e1,e2⟩:=q2.get e
  refine ⟨⟨vs,w,q1,e1⟩,fun x H' y=>⟨y.1,?_⟩⟩
  have:=y.2 vs q1
  rw [e1] at this
  cases this
  exact e2
theorem src_str (z:Str):Src K μ H [] (z.cps.toList.map fun c=>.str ⟨#[c]⟩) (Its z):=src_of fun μ1 h1 H1 ex hr st=>by
  refine ⟨fun i d e=>?_,by show z.length<=_; rw [List.length_map]; exact Nat.le_of_eq rfl⟩
  rw [List.getElem?_map] at e
  cases e1:z.cps.toList[i]? with
  | none=>rw [e1] at e; cases e
  | some c =>
    rw [e1] at e
    cases e
    refine ⟨?_,fun x H' y=>⟨y.1,?_⟩⟩
    · have:=(List.getElem?_eq_some_iff.mp e1).1
      exact (by simpa using this:i < z.cps.size)
    · obtain ⟨c',e2,rfl⟩:=y.2
      rw [e1] at e2
      cases e2
      exact .str _
theorem src_rng (j:Nat):Src K μ H [] ((List.range j).map fun (k:Nat)=>.int (k:Nat)) (Itr 0 j):=src_of fun μ1 h1 H1 ex hr st=>by
  refine ⟨fun i d e=>?_,by show j<=_; rw [List.length_map,List.length_range]; exact Nat.le_refl _⟩
  rw [List.getElem?_map] at e
  cases e1:(List.range j)[i]? with
  | none=>rw [e1] at e; cases e
  | some c =>
    rw [e1] at e
    cases e
    obtain ⟨hi,e2⟩:=List.getElem?_eq_some_iff.mp e1
    rw [List.length_range] at hi
    rw [List.getElem_range] at e2
    subst e2
    refine ⟨hi,fun x H' y=>⟨y.1,?_⟩⟩
    rw [y.2,Int.zero_add]
    exact .int _
end
section
variable {X:Cx} {Z:ZK} {k:Nat} {n:Nm} {cv:Nat->Value} {cl:Nat->List D->Hh->Res D} {tg:Expr}
theorem pi_any {l:Expr} {tl:TE} (hl:PE X l tl):PI X tg l (fun σ H R=>tl σ H fun x H1=>(∃ a,x=.ref a /\ (∃ xs,SqL X.K H1 a xs) /\ R (Itl X.K a) H1) \/ (∃ a,x=.ref a /\ (∃ xs,SqT X.K H1 a xs) /\ R (Itt X.K a) H1) \/ ∃ z,x=.str z /\ R (Its z) H1):=by
  intro pins s σ H R I h
  refine thn (hl pins s σ H _ I h) fun v s1 ⟨x,H1,I1,r1,q1⟩=>?_
  rcases q1 with ⟨a,rfl,⟨xs,hq⟩,q⟩ | ⟨a,rfl,⟨xs,hq⟩,q⟩ | ⟨x,rfl,q⟩
  · cases r1
    obtain ⟨its,rv,p,hz⟩:=I1.list hq
    refine wpAny_pyIter_list p.isList ?_
    refine ⟨s1.heap.objs.size,[s1.heap.objs.size],_,_,H1,rfl,I1.kept (t':=s1.toks) fun b o e=>Heap.get?_push_of_some _ e,turn_list a _,⟨_,Heap.get?_push_size _ rfl,rfl,rfl⟩,fun b hb=>?_,q⟩
    have e:b=s1.heap.objs.size:=by simpa using hb
    subst e
    exact I1.fpOk (Nat.le_refl _) (I1.hok.fresh (Nat.le_refl _))
  · cases r1
    obtain ⟨its,rv,p,hz⟩:=I1.tuple hq
    refine wpAny_pyIter_tuple (show s1.heap.IsTuple a its.toArray from p) ?_
    refine ⟨s1.heap.objs.size,[s1.heap.objs.size],_,_,H1,rfl,I1.kept (t':=s1.toks) fun b o e=>Heap.get?_push_of_some _ e,turn_tuple a _,⟨_,Heap.get?_push_size _ rfl,rfl,rfl⟩,fun b hb=>?_,q⟩
    have e:b=s1.heap.objs.size:=by simpa using hb
    subst e
    exact I1.fpOk (Nat.le_refl _) (I1.hok.fresh (Nat.le_refl _))
  · obtain ⟨t,rfl⟩:=r1
    have fp:∀ b ∈ [s1.heap.objs.size],FpOk X pins H1 b:=fun b hb=>by
      have e:b=s1.heap.objs.size:=by simpa using hb
      subst e
      exact I1.fpOk (Nat.le_refl _) (I1.hok.fresh (Nat.le_refl _))
    cases ha:x.cps.all (· < 128) with
    | false =>
      refine wpAny_pyIter_wide ha ?_
      exact ⟨s1.heap.objs.size,[s1.heap.objs.size],_,_,H1,rfl,I1.kept (t':=s1.toks) fun b o e=>Heap.get?_push_of_some _ e,turn_wide _ x t,⟨_,Heap.get?_push_size _ rfl,rfl,rfl⟩,fp,q⟩
    | true =>
      refine wpAny_pyIter_ascii ha ?_
      exact ⟨s1.heap.objs.size,[s1.heap.objs.size],_,_,H1,rfl,I1.kept (t':=s1.toks) fun b o e=>Heap.get?_push_of_some _ e,turn_ascii _ x t,⟨_,Heap.get?_push_size _ rfl,rfl,rfl⟩,fp,q⟩
theorem PI.mono {iter:Expr} {t t':TI} (p:L2.PI X tg iter t) (h:∀ σ H R,t' σ H R->t σ H R):L2.PI X tg iter t':=fun pins s σ H R I q=>p pins s σ H R I (h σ H R q)
noncomputable def gB (K:PySem.W.Frag) (t:Tg):TG:=fun v σ H Q=>∃ μ ρ d ρ' h,HR K μ h H /\ ER K μ ρ σ H /\ Rep K μ H d v /\ bindT t d ρ=some ρ' /\
  ∀ σ',ER K μ ρ' σ' H->σ'.length=σ.length->(∀ i,i ∉ t.idx->σ'[i]?=σ[i]?)->Q σ' H
theorem PG.mono {t t':TG} (p:PG X tg t) (h:∀ v σ H Q,t' v σ H Q->t v σ H Q):PG X tg t':=fun pins s σ H v u Q I r q=>p pins s σ H v u Q I r (h v σ H Q q)
noncomputable def gNs:List (Nat × Pos)->TGs
  | []=>gNil
  | q :: r=>gCons (gName q.1) (gNs r)
theorem pgs_names (hN:X.N.Nodup):∀ (is:List (Nat × Pos)),(∀ q ∈ is,q.1 < X.N.length /\ Loc X.env.scope (X.N.getD q.1 "") /\ (X.fn (X.N.getD q.1 "")=true \/ X.env.scope.names.lookup (X.N.getD q.1 "")=some .local)) ->
    PGs X (is.map fun q=>.Name (X.N.getD q.1 "") q.2) (gNs is)
  | [],_=>pgs_nil
  | q :: r,h=>by
    have hq:=h q (List.mem_cons_self ..)
    exact pgs_cons (pg_name (i:=q.1) hN (by rw [List.getD_eq_getElem?_getD,List.getElem?_eq_getElem hq.1]; rfl) hq.2.1 hq.2.2) (pgs_names hN r fun z hz=>h z (List.mem_cons_of_mem _ hz))
theorem names_len (N:List Str) (env:Env):∀ is:List (Nat × Pos),(assignEach (is.map fun q=>.Name (N.getD q.1 "") q.2) env).length=is.length /\ (assignEach (is.map fun q=>.Name (N.getD q.1 "") q.2) env).findIdx? (·.1)=none
  | []=>⟨rfl,rfl⟩
  | q :: r=>by
    have ih:=names_len N env r
    rw [List.map_cons]
    refine ⟨?_,?_⟩
    · show ((false,_) :: assignEach (r.map fun q=>.Name (N.getD q.1 "") q.2) env).length=_
      rw [List.length_cons,ih.1,List.length_cons]
    · show ((false,_) :: assignEach (r.map fun q=>.Name (N.getD q.1 "") q.2) env).findIdx? (·.1)=none
      rw [List.findIdx?_cons,ih.2]
      rfl
theorem fold_er {K:PySem.W.Frag} {μ:List Addr} {H:Hp}:∀ (is:List (Nat × Pos)) {ds:List D} {vs:List V} {ρ:En} {σ:St} {Q:St->Hp->Prop},Reps K μ H ds vs->ds.length=is.length->ER K μ ρ σ H ->
    (∀ σ',ER K μ ((is.zip ds).foldl (fun ρ q=>ρ.set q.1.1 (some q.2)) ρ) σ' H->σ'.length=σ.length->(∀ i,i ∉ is.map (·.1)->σ'[i]?=σ[i]?)->Q σ' H)->gNs is vs σ H Q
  | [],_,_,ρ,σ,Q,r,hl,er,q=>by
    cases r with
    | nil=>exact ⟨rfl,q σ er rfl fun _ _=>rfl⟩
    | cons _ _=>cases hl
  | p :: is,_,_,ρ,σ,Q,r,hl,er,q=>by
    cases r with
    | nil=>cases hl
    | cons r1 r2 =>
      refine ⟨_,_,rfl,?_⟩
      refine fold_er is r2 (by simpa using hl) (er.set r1 p.1) fun σ' e1 e2 e3=>?_
      refine q σ' e1 (e2.trans List.length_set) fun i hi=>?_
      rw [List.map_cons] at hi
      rw [e3 i fun z=>hi (List.mem_cons_of_mem _ z),List.getElem?_set_ne fun z=>hi (by rw [<- z]; exact List.mem_cons_self ..)]
theorem pg_T (hc:X.calm=true) (hN:X.N.Nodup) (t:Tg) (h:∀ i ∈ t.idx,i < X.N.length /\ Loc X.env.scope (X.N.getD i "") /\ (X.fn (X.N.getD i "")=true \/ X.env.scope.names.lookup (X.N.getD i "")=some .local)):PG X (t.py X.N) (gB X.K t):=by
  cases t with
  | one i p =>
    have hq:=h i (List.mem_singleton.mpr rfl)
    refine PG.mono (pg_name (i:=i) hN (by rw [List.getD_eq_getElem?_getD,List.getElem?_eq_getElem hq.1]; rfl) hq.2.1 hq.2.2) fun v σ H Q ⟨μ,ρ,d,ρ',h,hr,er,r,e,q⟩=>?_
    cases e
    exact q _ (er.set r i) List.length_set fun j hj=>List.getElem?_set_ne fun z=>hj (by rw [<- z]; exact List.mem_singleton.mpr rfl)
  | tup is p =>
    refine PG.mono (pg_tup (k:=0) (pos:=p) hc (pgs_names hN is fun q hq=>h q.1 (List.mem_map.mpr ⟨q,hq,rfl⟩)) (names_len X.N X.env is).1 (names_len X.N X.env is).2) fun v σ H Q ⟨μ,ρ,d,ρ',h,hr,er,r,e,q⟩=>?_
    unfold bindT at e
    cases r with
    | tup h1 h2 =>
      simp only at e
      split at e
      · rename_i c
        cases e
        exact ⟨_,_,rfl,h1,by rw [<- h2.length]; exact c,fold_er is h2 c er q⟩
      · cases e
    | _=>cases e
end
end PI
set_option Elab.async false
set_option linter.all false
set_option maxRecDepth 100000
set_option maxHeartbeats 4000000
namespace PI
open PySem L2 PySem.Spec
open PyProof.Rows hiding St
theorem line_ge:(1000000:Nat) < sizeLine:=by rw [sizeLine_eq]; decide
section
variable {X:Cx} {Z:ZK} {k:Nat} {n:Nm} {cv:Nat->Value} {cl:Nat->List D->Hh->Res D}
theorem capER {K:PySem.W.Frag} {μ:List Addr} {H:Hp} {ρ:En} {σ:St} (cap:List (Option Nat)) (er:ER K μ ρ σ H):ER K μ (capE cap ρ) (capσ cap σ) H:=by
  refine ⟨by unfold capE capσ; rw [List.length_map,List.length_map],fun j d e=>?_⟩
  unfold capE at e
  unfold capσ
  rw [List.getElem?_map] at e ⊢
  cases e1:cap[j]? with
  | none=>rw [e1] at e; cases e
  | some o =>
    rw [e1] at e
    cases o with
    | none=>cases e
    | some i =>
      have e':(ρ[i]?).bind id=some d:=Option.some.inj e
      cases e2:ρ[i]? with
      | none=>rw [e2] at e'; cases e'
      | some o2 =>
        rw [e2] at e'
        have e3:o2=some d:=e'
        subst e3
        obtain ⟨v,q1,q2⟩:=er.val i d e2
        exact ⟨v,by show some ((σ[i]?).bind id)=_; rw [q1]; rfl,q2⟩
theorem cap_none {osc scope:Scope} {N NC:List Str} {cap:List (Option Nat)} {t:Tg} (cok:compOk osc scope N NC cap=true) (ht:t.ok scope NC=true) (σ:St):∀ i ∈ t.idx,(capσ cap σ)[i]?=some none:=by
  intro i hi
  unfold Tg.ok at ht
  have h1:=List.all_eq_true.mp ht i hi
  rw [Bool.and_eq_true] at h1
  have hl:i < NC.length:=of_decide_eq_true h1.1
  have hloc:scope.names.lookup (NC.getD i "")=some .local \/ scope.names.lookup (NC.getD i "")=some .cell:=of_decide_eq_true h1.2
  unfold compOk at cok
  simp only [Bool.and_eq_true] at cok
  obtain ⟨⟨⟨⟨⟨k1,k2⟩,k3⟩,k4⟩,k5⟩,k6⟩:=cok
  have hj:=List.all_eq_true.mp k6 i (List.mem_range.mpr hl)
  have hN:NC[i]?=some (NC.getD i ""):=by rw [List.getD_eq_getElem?_getD,List.getElem?_eq_getElem hl]; rfl
  have hc:i < cap.length:=by rw [beq_iff_eq.mp k5]; exact hl
  unfold capσ
  rw [List.getElem?_map]
  cases e:cap[i]? with
  | none=>rw [List.getElem?_eq_none_iff] at e; omega
  | some o =>
    cases o with
    | none=>rfl
    | some m =>
      exfalso
      rw [e,hN] at hj
      simp only [Bool.and_eq_true,beq_iff_eq] at hj
      have hfree:=hj.2
      rcases hloc with z | z <;> (rw [hfree] at z; cases z)
theorem read_comp {scope:Scope} {NC:List Str} {cap:List (Option Nat)} {t:Tg} {mi:En->Hh->Res (Ck × List D)} {mc:En->Hh->Res Bool} {me:En->Hh->Res D}
    (cok:compOk X.env.scope scope X.N NC cap=true) (ht:t.ok scope NC=true) {σ:St} {H:Hp} {Q:VK}
    (p:liftL X.K cv Z (fun ρ h=>(mi ρ h).bind fun q h1=>if q.2.length<=1000000 then compL q.1 (compF t (capE cap ρ) mc me) q.2 [] h1 else .no) σ H Q) :
    tComp Z cap (lift X.K cv (RJ X.K) Z mi) (gB X.K t) (fun Zc=>lift X.K cv RB Zc mc) (fun Zc=>lift X.K cv (Rep X.K) Zc me) σ H Q:=by
  obtain ⟨μ,ρ,h,hr,er,p⟩:=p
  refine lift_bind0 (m:=mi) Ext.refl hr er p (fun _ _ z=>z) fun q h1 μ1 H1 J _ e1 r1 er1 src p1=>?_
  split at p1
  rotate_left
  · exact p1.elim
  rename_i hlen
  obtain ⟨c,ds⟩:=q
  refine ⟨fun i m ys H2=>m=ds.length - i /\ i<=ds.length /\ ∃ μ2 h2 acc,Ext X.K μ1 H1 μ2 H2 /\ HR X.K μ2 h2 H2 /\ Reps X.K μ2 H2 acc ys /\ acc.length<=i /\ PostE X.K cv (RL X.K H) μ H (compL c (compF t (capE cap ρ) mc me) (ds.drop i) acc h2) Q (Z σ),
    ⟨ds.length,by simp,Nat.zero_le _,μ1,h1,[],Ext.refl,r1,.nil,Nat.le_refl _,p1⟩,?_⟩
  rintro i m ys H2 ⟨rfl,hi',μ2,h2,acc,e2,r2,ry,ha,p2⟩
  have hyl:ys.length<=i:=by rw [<- ry.length]; exact ha
  have hll:ds.length<=1000000:=hlen
  by_cases hlt:i < ds.length
  · right
    rw [List.drop_eq_getElem_cons hlt] at p2
    unfold compL at p2
    split at p2
    rotate_left
    · exact p2.elim
    rename_i st
    obtain ⟨s1,s2⟩:=src μ2 h2 H2 e2 r2 st
    obtain ⟨g1,g2⟩:=s1 i ds[i] (List.getElem?_eq_getElem hlt)
    refine ⟨g1,by have:=line_ge; omega,fun x H3 y=>?_⟩
    obtain ⟨e2',r2',rx⟩:=g2 x H3 y
    replace e2:=e2.trans e2'
    replace r2:=r2'
    replace ry:=ry.mono e2'
    have er2:ER X.K μ2 ρ σ H3:=er1.mono e2
    unfold compF at p2
    cases eb:bindT t ds[i] (capE cap ρ) with
    | none=>rw [eb] at p2; exact p2.elim
    | some ρ' =>
      rw [eb] at p2
      refine ⟨μ2,capE cap ρ,ds[i],ρ',h2,r2,capER cap er2,rx,eb,fun σ4 er4 hl4 hs4=>⟨⟨hl4,fun j v ej=>?_⟩,?_⟩⟩
      · have nj:j ∉ t.idx:=fun z=>by rw [cap_none cok ht σ j z] at ej; cases ej
        rw [hs4 j nj]; exact ej
      have p3:PostE X.K cv (RL X.K H) μ H ((mc ρ' h2).bind fun b h3=>(if b then (me ρ' h3).bind fun d h4=>Res.ok (some d) h4 else Res.ok none h3).bind fun o h'=>compL c (compF t (capE cap ρ) mc me) (ds.drop (i + 1)) (addO acc o) h') Q (Z σ):=by
        have p2':=p2
        rw [bind_assoc] at p2'
        exact p2'
      refine lift_bind0 (m:=mc) (R:=RB) (e1.trans e2) r2 er4 p3 (fun _ _ z=>z) fun b h3 μ3 H3' bb _ e3 r3 er5 qb p4=>?_
      have qb':b=bb:=qb
      subst qb'
      cases b with
      | false =>
        refine iteF ⟨ds.length - (i + 1),by omega,rfl,hlt,μ3,h3,acc,e2.trans e3,r3,ry.mono e3,Nat.le_succ_of_le ha,p4⟩
      | true =>
        refine iteT ?_
        have p5:PostE X.K cv (RL X.K H) μ H ((me ρ' h3).bind fun d h4=>compL c (compF t (capE cap ρ) mc me) (ds.drop (i + 1)) (acc ++ [d]) h4) Q (Z σ):=by
          have p4':=p4
          rw [if_pos rfl,bind_assoc] at p4'
          exact p4'
        refine lift_bind0 (m:=me) ((e1.trans e2).trans e3) r3 er5 p5 (fun _ _ z=>z) fun d h4 μ4 H4 v _ e4 r4 er6 qd p6=>?_
        exact ⟨ds.length - (i + 1),by omega,rfl,hlt,μ4,h4,acc ++ [d],(e2.trans e3).trans e4,r4,((ry.mono e3).mono e4).append (.cons qd .nil),by rw [List.length_append]; exact Nat.succ_le_succ ha,p6⟩
  · left
    have ei:i=ds.length:=by omega
    subst ei
    rw [List.drop_length] at p2
    unfold compL at p2
    split at p2
    rotate_left
    · exact p2.elim
    rename_i st
    refine ⟨(src μ2 h2 H2 e2 r2 st).2,by have:=line_ge; omega,fun a ha'=>?_⟩
    have ex:=(e1.trans e2)
    have na:=r2.fresh ha'
    have n0:H a=none:=by
      cases e:H a with
      | none=>rfl
      | some o=>rw [ex.oth a o e fun z=>na (ex.sub z)] at ha'; cases ha'
    exact p2 μ2 _ _ (ex.trans (ext_new ha')) (r2.tup ha') ⟨a,ys,rfl,upd_same,ry.mono (ext_new ha'),na,n0⟩
theorem pe_compI {elt iter:Expr} {ifs:List Expr} {scope:Scope} {NC:List Str} {cap:List (Option Nat)} {t:Tg} {pos:Pos} {mi:En->Hh->Res (Ck × List D)} {mc:En->Hh->Res Bool} {me:En->Hh->Res D}
    (hc:X.calm=true) (th:Thr X Z) (hi:L2.PI X (t.py NC) iter (lift X.K cv (RJ X.K) Z mi)) (cok:compOk X.env.scope scope X.N NC cap=true) (ht:t.ok scope NC=true)
    (hg:∀ C s H fp pn xe,PG (compCx X NC scope C s H fp pn xe) (t.py NC) (gB X.K t))
    (hf:∀ C s H fp pn xe Zc,Thr (compCx X NC scope C s H fp pn xe) Zc->PF (compCx X NC scope C s H fp pn xe) ifs (lift X.K cv RB Zc mc))
    (hb:∀ C s H fp pn xe Zc,Thr (compCx X NC scope C s H fp pn xe) Zc->PE (compCx X NC scope C s H fp pn xe) elt (lift X.K cv (Rep X.K) Zc me))
    (hs:∀ x,foldedSetIterable iter X.env x=pure x) :
    PE X (.ListComp elt [⟨t.py NC,iter,ifs,0⟩] scope pos) (liftL X.K cv Z fun ρ h=>(mi ρ h).bind fun q h1=>if q.2.length<=1000000 then compL q.1 (compF t (capE cap ρ) mc me) q.2 [] h1 else .no) :=
  PE.mono (pe_comp hc th hi cok hg (tf:=fun Zc=>lift X.K cv RB Zc mc) (te:=fun Zc=>lift X.K cv (Rep X.K) Zc me) hf hb hs) fun σ H Q p=>read_comp cok ht p
theorem Kx.comp {scope:Scope} {NC:List Str} {cap:List (Option Nat)} (C:Kx X Z k n cv cl) (cok:compOk X.env.scope scope X.N NC cap=true) (hnd:NC.Nodup) (hgood:NC.all goodN=true) {Cc:Addr} {s:Shared} {H:Hp} {fp:List Addr} {pn:List (Addr × Obj)} {xe:Value->Shared->Prop} {Zc:ZK}
    (th:Thr (compCx X NC scope Cc s H fp pn xe) Zc):Kx (compCx X NC scope Cc s H fp pn xe) Zc k ⟨NC,n.F,n.G⟩ cv cl:=by
  obtain ⟨c1,c2,c3,c4,c5,c6,c7⟩:=compOk_parts cok
  refine ⟨th,C.rm,rfl,hnd,rfl,c1,fun x hx=>⟨?_,List.all_eq_true.mp hgood x hx⟩,C.bm,C.gc,C.fn,C.mc,C.xc⟩
  obtain ⟨j,hj⟩:=List.getElem?_of_mem hx
  have cok':=cok
  unfold compOk at cok'
  simp only [Bool.and_eq_true] at cok'
  obtain ⟨⟨⟨⟨⟨k1,k2⟩,k3⟩,k4⟩,k5⟩,k6⟩:=cok'
  have hl:j < NC.length:=(List.getElem?_eq_some_iff.mp hj).1
  have hk:=List.all_eq_true.mp k6 j (List.mem_range.mpr hl)
  have rel:(relabel scope X.env).names.lookup x=(scope.names.lookup x).map fun k=>if k=.free then .cell else k:=kindOf_rel (scope:=scope) C.kd fun y hy e=>c4 y hy e
  rw [hj] at hk
  show Vis (relabel scope X.env) x
  unfold Vis
  rw [rel]
  cases e:cap[j]? with
  | none=>rw [e] at hk; cases hk
  | some o =>
    rw [e] at hk
    cases o with
    | none =>
      have hk':scope.names.lookup x=some .local \/ scope.names.lookup x=some .cell:=by simpa using hk
      rcases hk' with hk' | hk'
      · rw [hk']; exact .inl rfl
      · rw [hk']; exact .inr (.inl rfl)
    | some m =>
      simp only [Bool.and_eq_true,beq_iff_eq] at hk
      rw [hk.2]; exact .inr (.inl rfl)
end
end PI
set_option Elab.async false
set_option linter.all false
set_option maxRecDepth 100000
set_option maxHeartbeats 4000000
namespace PI
open PySem L2 PySem.Spec
open PyProof.Rows hiding St
theorem RepKs.zip {K:PySem.W.Frag} {μ:List Addr} {H:Hp}:∀ (ks:List (Str × Pos)) {ds:List D} {vs:List V},Reps K μ H ds vs->RepKs K μ H ((ks.map fun q=>(Sum.inr q.1:Key)).zip ds) ((ks.map fun q=>(Sum.inr q.1:Key)).zip vs)
  | [],_,_,_=>.nil
  | q :: ks,_,_,.nil=>.nil
  | q :: ks,_,_,.cons h t=>.cons h (RepKs.zip ks t)
theorem ps_nil {X:Cx} {Z:ZK} {n:Nm} {cv:Nat->Value} {cl:Nat->List D->Hh->Res D}:PsOk X Z n cv cl .nil:=by
  intro ks pos hl
  cases ks with
  | nil =>
    refine ⟨[],pps_nil,fun σ H Q=>lift_elim fun μ ρ h hr er q=>?_⟩
    exact q.here hr .nil
  | cons _ _=>cases hl
theorem ps_cons {X:Cx} {Z:ZK} {n:Nm} {cv:Nat->Value} {cl:Nat->List D->Hh->Res D} {e:E} {r:Es} (se:PE X (e.py n) (lift X.K cv (Rep X.K) Z (e.ev cl))) (sr:PsOk X Z n cv cl r):PsOk X Z n cv cl (.cons e r):=by
  intro ks pos hl
  have hl:ks.length=(e.py n :: r.py n).length:=hl
  cases ks with
  | nil=>cases hl
  | cons k ks =>
    obtain ⟨trs,p1,p2⟩:=sr ks pos (by simpa using hl)
    refine ⟨(tC (.str k.1),lift X.K cv (Rep X.K) Z (e.ev cl)) :: trs,pps_cons pe_str se p1,fun σ H Q=>lift_elim fun μ ρ h hr er q=>?_⟩
    show lift X.K cv (Rep X.K) Z (e.ev cl) σ H _
    refine lift_bind (m:=e.ev cl) hr er q fun da h1 μ1 H1 x _ e1 r1 er1 qa p3=>?_
    refine p2 σ H1 _ (lift_bind (m:=r.ev cl) r1 er1 p3 fun ds h2 μ2 H2 xs _ e2 r2 er2 qb p4=>?_)
    exact p4.here r2 (.cons (qa.mono e2) qb)
section
variable {X:Cx} {cv:Nat->Value}
theorem pg_TL (hc:X.calm=true) (hN:X.N.Nodup) (is:List (Nat × Pos)) (p1:Pos) (h:∀ i ∈ (Tg.tup is p1).idx,i < X.N.length /\ Loc X.env.scope (X.N.getD i "") /\ (X.fn (X.N.getD i "")=true \/ X.env.scope.names.lookup (X.N.getD i "")=some .local)) :
    PG X ((Tg.tup is p1).py X.N) (fun v σ H Q=>∃ μ ρ d ρ' h,HR X.K μ h H /\ ER X.K μ ρ σ H /\ Rep X.K μ H d v /\ bindT (.tup is p1) (unpD d h) ρ=some ρ' /\ ∀ σ',ER X.K μ ρ' σ' H->Q σ' H):=by
  refine PG.mono (pg_tupL (k:=0) (pos:=p1) hc (pgs_names hN is fun q hq=>h q.1 (List.mem_map.mpr ⟨q,hq,rfl⟩)) (names_len X.N X.env is).1 (names_len X.N X.env is).2) fun v σ H Q ⟨μ,ρ,d,ρ',h,hr,er,r,e,q⟩=>?_
  have fin:∀ (ds:List D) (vs:List V),Reps X.K μ H ds vs->bindT (.tup is p1) (.tup ds) ρ=some ρ'->vs.length=is.length /\ gNs is vs σ H Q:=fun ds vs h2 e=>by
    unfold bindT at e
    simp only at e
    split at e
    · rename_i c
      cases e
      exact ⟨by rw [<- h2.length]; exact c,fold_er is h2 c er fun σ' e1 _ _=>q σ' e1⟩
    · cases e
  cases r with
  | tup h1 h2 =>
    obtain ⟨a,b⟩:=fin _ _ h2 e
    exact ⟨_,_,rfl,.inl h1,a,b⟩
  | @loc nn b mm =>
    unfold unpD at e
    simp only at e
    cases e1:rd h nn with
    | none=>rw [e1] at e; simp [bindT] at e
    | some ds =>
      rw [e1] at e
      obtain ⟨vs,hs1,rs⟩:=hr.rd e1 mm
      obtain ⟨a,b⟩:=fin _ _ rs e
      exact ⟨_,_,rfl,.inr hs1,a,b⟩
  | _=>simp [bindT,unpD] at e
end
end PI
set_option Elab.async false
set_option linter.all false
set_option maxRecDepth 100000
set_option Elab.async false
set_option linter.all false
set_option maxRecDepth 100000
namespace PI
open PySem L2
theorem insU_mem (x z:Str):∀ l:List Str,z ∈ insU x l ↔ z=x \/ z ∈ l
  | []=>by simp [insU]
  | y :: r=>by
    unfold insU
    split
    · rename_i e
      subst e
      simp
    · split
      · simp
      · rw [List.mem_cons,insU_mem x z r,List.mem_cons]
        constructor
        · rintro (h | h | h)
          · exact .inr (.inl h)
          · exact .inl h
          · exact .inr (.inr h)
        · rintro (h | h | h)
          · exact .inr (.inl h)
          · exact .inl h
          · exact .inr (.inr h)
theorem srtU_mem (z:Str):∀ l:List Str,z ∈ srtU l ↔ z ∈ l
  | []=>Iff.rfl
  | x :: r=>by
    show z ∈ insU x (srtU r) ↔ _
    rw [insU_mem,srtU_mem z r,List.mem_cons]
theorem cps_ne {x y:Str} (h:x ≠ y) (h':¬ x.cps.toList < y.cps.toList):y.cps.toList < x.cps.toList:=by
  rcases Classical.em (y.cps.toList < x.cps.toList) with q | q
  · exact q
  · exact absurd (List.le_antisymm (List.not_lt.mp q) (List.not_lt.mp h')) fun e=>h (by
      obtain ⟨⟨x⟩⟩:=x
      obtain ⟨⟨y⟩⟩:=y
      simp only at e
      rw [e])
theorem insU_up (x:Str):∀ l:List Str,Up l->Up (insU x l)
  | [],_=>List.pairwise_singleton _ _
  | y :: r,h=>by
    unfold insU
    obtain ⟨h1,h2⟩:=List.pairwise_cons.mp h
    split
    · exact h
    · rename_i c
      split
      · rename_i d
        refine List.pairwise_cons.mpr ⟨fun z hz=>?_,h⟩
        rcases List.mem_cons.mp hz with rfl | hz
        · exact d
        · exact List.lt_trans d (h1 z hz)
      · rename_i d
        refine List.pairwise_cons.mpr ⟨fun z hz=>?_,insU_up x r h2⟩
        rcases (insU_mem x z r).mp hz with rfl | hz
        · exact cps_ne c d
        · exact h1 z hz
theorem srtU_up:∀ l:List Str,Up (srtU l)
  | []=>List.Pairwise.nil
  | x :: r=>insU_up x _ (srtU_up r)
theorem up_uniq:∀ {l m:List Str},Up l->Up m->(∀ x,x ∈ l ↔ x ∈ m)->l=m
  | [],[],_,_,_=>rfl
  | [],y :: m,_,_,h=>absurd ((h y).mpr (List.mem_cons_self ..)) (by simp)
  | x :: l,[],_,_,h=>absurd ((h x).mp (List.mem_cons_self ..)) (by simp)
  | x :: l,y :: m,hl,hm,h=>by
    obtain ⟨a1,a2⟩:=List.pairwise_cons.mp hl
    obtain ⟨b1,b2⟩:=List.pairwise_cons.mp hm
    have e:x=y:=by
      rcases List.mem_cons.mp ((h x).mp (List.mem_cons_self ..)) with e | hx
      · exact e
      · rcases List.mem_cons.mp ((h y).mpr (List.mem_cons_self ..)) with e | hy
        · exact e.symm
        · exact absurd (List.lt_trans (a1 y hy) (b1 x hx)) (List.lt_irrefl _)
    subst e
    rw [up_uniq a2 b2 fun z=>?_]
    constructor
    · intro hz
      rcases List.mem_cons.mp ((h z).mp (List.mem_cons_of_mem _ hz)) with e | hz'
      · subst e; exact absurd (a1 z hz) (List.lt_irrefl _)
      · exact hz'
    · intro hz
      rcases List.mem_cons.mp ((h z).mpr (List.mem_cons_of_mem _ hz)) with e | hz'
      · subst e; exact absurd (b1 z hz) (List.lt_irrefl _)
      · exact hz'
theorem srtU_eq {l m:List Str} (h:∀ x,x ∈ l ↔ x ∈ m):srtU l=srtU m:=up_uniq (srtU_up l) (srtU_up m) fun x=>by rw [srtU_mem,srtU_mem]; exact h x
theorem ss_post {K:PySem.W.Frag} {cv:Nat->Value} {μ:List Addr} {H:Hp} {h:Hh} {d:D} {x:V} {Q:VK} {Z:Value->Hp->Prop} (hr:HR K μ h H) (qa:Rep K μ H d x) (p:PostE K cv (Rep K) μ H (ssD d h) Q Z):rSS K [x] H Q:=by
  unfold ssD at p
  cases qa with
  | @loc nn b m =>
    cases e2:PI.rd h nn with
    | none=>simp only [e2] at p; exact p.elim
    | some ds =>
      simp only [e2] at p
      cases e3:strsOf ds with
      | none=>simp only [e3] at p; exact p.elim
      | some ss =>
        simp only [e3] at p
        obtain ⟨vs,q1,q2⟩:=rd_reps hr m e2
        by_cases c:ss.length<=4000
        · rw [if_pos c] at p
          have ev:=PI.strs_reps q2 e3
          subst ev
          refine ⟨b,ss,rfl,SqL.of q1,by unfold scanBound; omega,fun l ss' hl hu hm=>?_⟩
          have e:ss'=srtU ss:=up_uniq hu (srtU_up ss) fun z=>by rw [hm,srtU_mem]
          rw [e]
          exact new_loc hr (strs_rep _) p l hl
        · rw [if_neg c] at p; exact p.elim
  | _=>exact p.elim
end PI
set_option Elab.async false
set_option linter.all false
set_option maxRecDepth 100000
set_option maxHeartbeats 4000000
namespace PI
open PySem L2 PySem.Spec
open PyProof.Rows hiding St
section
variable {X:Cx} {Z:ZK} {k:Nat} {n:Nm} {cv:Nat->Value} {cl:Nat->List D->Hh->Res D}
theorem boot_T (T:Nat) (h:T < 5):bootBuiltins (tyName T)=some (.type (tyStr T)) /\ tyName T ≠ "__name__" /\ (tyName T == ("__debug__":Str))=false /\ tyName T ∈ bnames:=by
  match T,h with
  | 0,_=>exact ⟨rfl,by decide,by decide,by decide⟩
  | 1,_=>exact ⟨rfl,by decide,by decide,by decide⟩
  | 2,_=>exact ⟨rfl,by decide,by decide,by decide⟩
  | 3,_=>exact ⟨rfl,by decide,by decide,by decide⟩
  | 4,_=>exact ⟨rfl,by decide,by decide,by decide⟩
theorem getD_some {α:Type} {xs:List α} {i:Nat} {d:α} (h:i < xs.length):xs[i]?=some (xs.getD i d):=by
  rw [List.getD_eq_getElem?_getD,List.getElem?_eq_getElem h]; rfl
theorem getD_mem {α:Type} {xs:List α} {i:Nat} {d:α} (h:i < xs.length):xs.getD i d ∈ xs:=List.mem_of_getElem? (getD_some h)
theorem PO.mono {X:Cx} {e:Option Expr} {t t':TO} (p:PO X e t) (h:∀ σ H Q,t' σ H Q->t σ H Q):PO X e t':=fun pins s σ H Q I q=>p pins s σ H Q I (h σ H Q q)
theorem base_plain (o:E) (x:Str) (env:Env):attributeBase (o.py n) x env (eval (o.py n) env)=eval (o.py n) env:=by
  cases o with
  | ofL l=>cases l <;> (rfl)
  | _=>rfl
theorem few_one (a : E) (pos : Pos) (env : Env) : ((backTo pos (starEach [a.py n] env)).all (fun x => !x.1) && (backToKw pos (keywordEach [] env)).all (fun x => x.1.isSome)
      && decide (([a.py n]:List Expr).length + ([]:List Keyword).length + (if ([]:List Keyword).isEmpty then 0 else 1) < 30))=true:=by
  rw [star_cons]; rfl
theorem m0_ty {K:PySem.W.Frag} {μ:List Addr} {H:Hp} {h:Hh} {m:M0} {d:D} {v:V} (hr:HR K μ h H) (r:Rep K μ H d v) (e:m0D m d h ≠ .no):tyV K "list" v H:=by
  unfold m0D at e
  cases r with
  | @loc nn b mm =>
    cases e1:h[nn]? with
    | none=>simp only [e1] at e; exact absurd rfl e
    | some o =>
      cases o with
      | dK _=>simp only [e1] at e; exact absurd rfl e
      | dT _=>simp only [e1] at e; exact absurd rfl e
      | obj _ _=>simp only [e1] at e; exact absurd rfl e
      | lst ds=>obtain ⟨vs,q1,q2⟩:=lst_of hr mm e1; exact .inl ⟨rfl,vs,SqL.of q1⟩
  | _=>exact absurd rfl e
theorem Reps.isEmpty {K:PySem.W.Frag} {μ:List Addr} {H:Hp} {ds:List D} {vs:List V} (r:Reps K μ H ds vs):ds.isEmpty=vs.isEmpty:=by cases r <;> rfl
theorem onL_ty {K:PySem.W.Frag} {cv:Nat->Value} {R:List Addr->Hp->D->V->Prop} {μ:List Addr} {H:Hp} {h:Hh} {d:D} {v:V} {r:Res D} {Q:VK} {Z:Value->Hp->Prop} (hr:HR K μ h H) (q:Rep K μ H d v) (p:PostE K cv R μ H (onL d h r) Q Z):tyV K "list" v H /\ PostE K cv R μ H r Q Z:=by
  unfold onL at p
  cases q with
  | @loc nn b mm =>
    cases e1:h[nn]? with
    | none=>simp only [e1] at p; exact p.elim
    | some o =>
      cases o with
      | dK _=>simp only [e1] at p; exact p.elim
      | dT _=>simp only [e1] at p; exact p.elim
      | obj _ _=>simp only [e1] at p; exact p.elim
      | lst ds=>simp only [e1] at p; obtain ⟨vs,q1,q2⟩:=lst_of hr mm e1; exact ⟨.inl ⟨rfl,vs,SqL.of q1⟩,p⟩
  | _=>exact p.elim
theorem fold_plain (it:I) {env:Env}:∀ x,foldedSetIterable (it.py n) env x=pure x:=by
  intro x
  cases it with
  | seq e =>
    cases e with
    | ofL l=>cases l <;> (rfl)
    | _=>rfl
  | lst l=>cases l <;> (rfl)
  | rng a p0 p=>rfl
theorem comp_ok {elt:E} {t:Tg} {it:I} {c:Es} {NC:List Str} {cap:List (Option Nat)} {csc:Scope} {p:Pos} (C:Kx X Z k n cv cl) (h:(L.comp elt t it c NC cap csc p).ok X.env.scope n=true) :
    (it.ok X.env.scope n=true /\ t.forI it=true) /\ compOk X.env.scope csc X.N NC cap=true /\ NC.Nodup /\ NC.all goodN=true /\ t.ok csc NC=true /\ elt.ok (relab csc X.env.scope) ⟨NC,n.F,n.G⟩=true /\ c.ok (relab csc X.env.scope) ⟨NC,n.F,n.G⟩=true /\ c.okT=true /\ c.short=true:=by
  have h:(_ && _)=true:=h
  simp only [Bool.and_eq_true,decide_eq_true_eq] at h
  obtain ⟨⟨⟨⟨⟨⟨⟨⟨k1,k2⟩,k3⟩,k4⟩,k5⟩,k6⟩,k7⟩,k8⟩,k9⟩:=h
  exact ⟨k1,by rw [C.nN]; exact k2,k3,k4,k5,k6,k7,k8,k9⟩
theorem pf_none {Zc:ZK} {m:Nm}:PF X (Es.nil.py m) (lift X.K cv RB Zc (Es.nil.evC cl)):=by
  refine fun pins s σ H Q I q=>pf_nil pins s σ H Q I ?_
  obtain ⟨μ,ρ,h,hr,er,q⟩:=q
  exact q.here hr rfl
theorem comp_pg {scope:Scope} {NC:List Str} {cap:List (Option Nat)} {t:Tg} (kd:X.env.scope.kind=.function) (cok:compOk X.env.scope scope X.N NC cap=true) (hnd:NC.Nodup) (ht:t.ok scope NC=true) {Cc:Addr} {s:Shared} {H:Hp} {fp:List Addr} {pn:List (Addr × Obj)} {xe:Value->Shared->Prop} :
    PG (compCx X NC scope Cc s H fp pn xe) (t.py NC) (gB X.K t):=by
  refine pg_T (X:=compCx X NC scope Cc s H fp pn xe) rfl hnd t fun i hi=>?_
  unfold Tg.ok at ht
  have h1:=List.all_eq_true.mp ht i hi
  rw [Bool.and_eq_true] at h1
  have h2:scope.names.lookup (NC.getD i "")=some .local \/ scope.names.lookup (NC.getD i "")=some .cell:=of_decide_eq_true h1.2
  obtain ⟨c1,c2,c3,c4,c5,c6,c7⟩:=compOk_parts cok
  have rel:∀ x,(relabel scope X.env).names.lookup x=(scope.names.lookup x).map fun k=>if k=.free then .cell else k:=fun x=>kindOf_rel (scope:=scope) kd fun y hy e=>c4 y hy e
  refine ⟨of_decide_eq_true h1.1,?_,?_⟩
  · show Loc (relabel scope X.env) _
    unfold L2.Loc
    rw [rel]
    rcases h2 with h2 | h2
    · rw [h2]; exact .inl rfl
    · rw [h2]; exact .inr rfl
  · rcases h2 with h2 | h2
    · refine .inr ?_
      show (relabel scope X.env).names.lookup _=_
      rw [rel,h2]; rfl
    · refine .inl ?_
      show (scope.names.lookup _ == some NameKind.cell)=true
      rw [h2]; rfl
mutual
theorem sE:∀ (e:E) (X:Cx) (Z:ZK) (k:Nat) (n:Nm) (cv:Nat->Value) (cl:Nat->List D->Hh->Res D),Kx X Z k n cv cl->e.ok X.env.scope n=true->SE X Z n cv cl e
  | .non p,X,Z,k,n,cv,cl,C,_=>⟨PE.mono pe_non fun σ H Q q=>lift_C (fun _ _ _=>.non) q,fun z=>nomatch z⟩
  | .bl b p,X,Z,k,n,cv,cl,C,_=>⟨PE.mono pe_bl fun σ H Q q=>lift_C (fun _ _ _=>.bl b) q,fun z=>nomatch z⟩
  | .int i p,X,Z,k,n,cv,cl,C,_=>⟨PE.mono pe_int fun σ H Q q=>lift_C (fun _ _ _=>.int i) q,fun z=>nomatch z⟩
  | .str x p,X,Z,k,n,cv,cl,C,_=>⟨PE.mono pe_str fun σ H Q q=>lift_C (fun _ _ _=>.str x) q,fun z=>nomatch z⟩
  | .var i p,X,Z,k,n,cv,cl,C,h=>by
    have hi:i < n.N.length:=of_decide_eq_true h
    have hm:=C.nm _ (getD_mem (d:=("":Str)) hi)
    have hv:=hm.1
    have hg:=goodN_of hm.2
    have pe:PE X ((E.var i p).py n) (lift X.K cv (Rep X.K) Z ((E.var i p).ev cl)):=by
      refine PE.mono (pe_var (i:=i) (by rw [C.nN]; exact getD_some hi) hv hg.1 hg.2) fun σ H Q=>lift_elim fun μ ρ h hr er q=>?_
      have q:PostE X.K cv (Rep X.K) μ H (match ρ[i]? with | some (some d)=>.ok d h | _=>.no) Q (Z σ):=q
      cases e:ρ[i]? with
      | none=>rw [e] at q; exact q.elim
      | some o =>
        cases o with
        | none=>rw [e] at q; exact q.elim
        | some d =>
          rw [e] at q
          obtain ⟨v,e1,r1⟩:=er.val i d e
          exact ⟨v,e1,q.here hr r1⟩
    exact ⟨pe,fun _=>by exact pt_lift pe fun _=>rfl⟩
  | .bin op a b p,X,Z,k,n,cv,cl,C,h=>by
    have h':a.ok X.env.scope n=true /\ b.ok X.env.scope n=true:=by have h:(_ && _)=true:=h; simpa using h
    have sa:=sE a X Z k n cv cl C h'.1
    have sb:=sE b X Z k n cv cl C h'.2
    have pe:PE X ((E.bin op a b p).py n) (lift X.K cv (Rep X.K) Z ((E.bin op a b p).ev cl)):=by
      refine PE.mono (pe_op (op_bin (cv:=cv) op) sa.pe sb.pe) fun σ H Q q=>?_
      exact lift2 q
    exact ⟨pe,fun _=>by exact pt_lift pe fun _=>rfl⟩
  | .un op a p,X,Z,k,n,cv,cl,C,h=>by
    have h':a.ok X.env.scope n=true:=by have h:(_ && _)=true:=h; simp at h; exact h.1
    have sa:=sE a X Z k n cv cl C h'
    cases op with
    | Not =>
      refine ⟨?_,fun z=>?_⟩
      · skip
        refine PE.mono (pe_not sa.pe) fun σ H Q=>lift_elim fun μ ρ h hr er q=>?_
        refine lift_bind (m:=a.ev cl) hr er q fun d h1 μ1 H1 x _ e1 r1 er1 qa p1=>?_
        unfold unD at p1
        cases qa with
        | bl b=>exact ⟨b,rfl,p1.here r1 (.bl _)⟩
        | _=>exact p1.elim
      · skip
        have z':a.okT=true:=by exact z
        refine PT.mono (pt_not (sa.pt z')) fun σ H Q=>lift_elim fun μ ρ h hr er q=>?_
        refine ⟨μ,ρ,h,hr,er,?_⟩
        have e1:(E.un .Not a p).evT cl ρ h=(a.evT cl ρ h).bind fun b h1=>.ok (!b) h1:=by
          rw [evT_eq,evT_eq,bind_assoc]
          show ((a.ev cl ρ h).bind fun x h1=>unD .Not x h1).bind toB=_
          rw [bind_assoc]
          congr 1
          funext d h1
          unfold unD toB
          cases d <;> rfl
        rw [e1] at q
        cases e2:a.evT cl ρ h with
        | ok b h1 =>
          rw [e2] at q
          intro μ1 H1 v x1 x2 x3
          have x3':b=v:=x3
          subst x3'
          exact q μ1 H1 (!b) x1 x2 rfl
        | exc c h1=>rw [e2] at q; exact q
        | no=>rw [e2] at q; exact q
    | Invert =>
      have pe:PE X ((E.un .Invert a p).py n) (lift X.K cv (Rep X.K) Z ((E.un .Invert a p).ev cl)):=by
        refine PE.mono (pe_un (un_op (cv:=cv) .Invert (.inl rfl)) sa.pe) fun σ H Q q=>?_
        exact lift1 q
      exact ⟨pe,fun _=>by exact pt_lift pe fun _=>rfl⟩
    | USub =>
      have pe:PE X ((E.un .USub a p).py n) (lift X.K cv (Rep X.K) Z ((E.un .USub a p).ev cl)):=by
        refine PE.mono (pe_un (un_op (cv:=cv) .USub (.inr rfl)) sa.pe) fun σ H Q q=>?_
        exact lift1 q
      exact ⟨pe,fun _=>by exact pt_lift pe fun _=>rfl⟩
    | UAdd =>
      have no:∀ {β:Type} {σ:St} {H:Hp} {R:List Addr->Hp->D->β->Prop} {Q:β->Hp->Prop},lift X.K cv R Z ((E.un .UAdd a p).ev cl) σ H Q->lift X.K cv (Rep X.K) Z (a.ev cl) σ H (fun _ _=>False):=by
        intro β σ H R Q ⟨μ,ρ,h,hr,er,q⟩
        refine lift_bind (m:=a.ev cl) hr er q fun d h1 μ1 H1 x _ e1 r1 er1 qa p1=>?_
        unfold unD at p1
        cases d <;> exact p1.elim
      have pe:PE X ((E.un .UAdd a p).py n) (lift X.K cv (Rep X.K) Z ((E.un .UAdd a p).ev cl)):=by
        refine PE.mono (pe_un (r:=fun _ _ _=>False) (fun _ _ _ _ _ _ _ _ _ z=>z.elim) sa.pe) fun σ H Q q=>no q
      exact ⟨pe,fun _=>by exact pt_lift pe fun _=>rfl⟩
  | .cmp op a b p,X,Z,k,n,cv,cl,C,h=>by
    have h':(a.ok X.env.scope n=true /\ b.ok X.env.scope n=true) /\ behindInMarks op (b.py n)=false:=by have h:(_ && _)=true:=h; simpa using h
    have sa:=sE a X Z k n cv cl C h'.1.1
    have sb:=sE b X Z k n cv cl C h'.1.2
    refine ⟨?_,fun _=>?_⟩
    · skip
      refine PE.mono (pe_cmpR (op_cmp (cv:=cv) C.rm.units op) sa.pe sb.pe h'.2) fun σ H Q q=>?_
      exact lift2 q
    · skip
      refine PT.mono (pt_cmpR (op_cmp (cv:=cv) C.rm.units op) sa.pe sb.pe h'.2) fun σ H Q=>lift_elim fun μ ρ h hr er q=>?_
      have q:PostE X.K cv RB μ H (((a.ev cl ρ h).bind fun x h1=>(b.ev cl ρ h1).bind fun y h2=>cmpD op x y h2).bind toB) Q (Z σ):=q
      rw [bind_assoc] at q
      unfold tTest
      refine lift_bind (m:=a.ev cl) hr er q fun da h1 μ1 H1 x _ e1 r1 er1 qa p1=>?_
      rw [bind_assoc] at p1
      refine lift_bind (m:=b.ev cl) r1 er1 p1 fun db h2 μ2 H2 y _ e2 r2 er2 qb p2=>?_
      refine ⟨μ2,h2,da,db,Z σ,r2,qa.mono e2,qb,?_⟩
      cases e3:cmpD op da db h2 with
      | ok d h3 =>
        rw [e3] at p2
        intro μ3 H3 v x1 x2 x3
        unfold Res.bind toB at p2
        cases x3 with
        | bl c=>exact ⟨c,rfl,p2 μ3 H3 c x1 x2 rfl⟩
        | _=>exact p2.elim
      | exc c h3=>rw [e3] at p2; exact p2
      | no=>rw [e3] at p2; exact p2
  | .and a b r p,X,Z,k,n,cv,cl,C,h=>by
    have h':((((a.ok X.env.scope n=true /\ b.ok X.env.scope n=true) /\ r.ok X.env.scope n=true) /\ a.okT=true) /\ b.okT=true) /\ r.okT=true:=by have h:(_ && _)=true:=h; simpa using h
    have sa:=sE a X Z k n cv cl C h'.1.1.1.1.1
    have sb:=sE b X Z k n cv cl C h'.1.1.1.1.2
    have sr:=sEs r X Z k n cv cl C h'.1.1.1.2
    refine ⟨?_,fun _=>?_⟩
    · skip
      refine PE.mono (pe_and sa.pe (sr.an b p sb)) fun σ H Q=>lift_elim fun μ ρ h hr er q=>?_
      refine lift_bind (m:=a.ev cl) hr er q fun d h1 μ1 H1 x _ e1 r1 er1 qa p1=>?_
      unfold tru at p1
      cases qa with
      | bl c =>
        refine ⟨c,rfl,?_⟩
        cases c with
        | true=>exact iteT ⟨μ1,ρ,h1,r1,er1,p1⟩
        | false=>exact iteF (p1.here r1 (.bl _))
      | _=>exact p1.elim
    · skip
      refine PT.mono (PW.pt (pw_and (sa.pt h'.1.1.2) (sr.anT b p sb h'.1.2 h'.2))) fun σ H Q=>lift_elim fun μ ρ h hr er q=>?_
      have e0:(E.and a b r p).evT cl ρ h=(a.evT cl ρ h).bind fun c h1=>if c then (b.evT cl ρ h1).bind fun c' h2=>r.evAndT cl ρ c' h2 else .ok false h1:=by
        rw [evT_eq,evT_eq,bind_assoc]
        show ((a.ev cl ρ h).bind fun x h1=>tru x h1 fun c h1=>if c then (b.ev cl ρ h1).bind fun y h2=>r.evAnd cl ρ y h2 else .ok (.bl false) h1).bind toB=_
        rw [bind_assoc]
        congr 1
        funext d h1
        unfold tru
        cases d with
        | bl c =>
          cases c with
          | false=>rfl
          | true =>
            show ((b.ev cl ρ h1).bind fun y h2=>r.evAnd cl ρ y h2).bind toB=(b.evT cl ρ h1).bind fun c' h2=>r.evAndT cl ρ c' h2
            rw [evT_eq,bind_assoc,bind_assoc]
            congr 1
            funext y h2
            exact and_toB r ρ y h2
        | _=>rfl
      rw [e0] at q
      refine lift_bind (m:=a.evT cl) (R:=RB) hr er q fun c h1 μ1 H1 x _ e1 r1 er1 qa p1=>?_
      have qa':c=x:=qa
      subst qa'
      cases c with
      | true=>exact iteT ⟨μ1,ρ,h1,r1,er1,p1⟩
      | false=>exact iteF (p1.here r1 rfl)
  | .or a b r p,X,Z,k,n,cv,cl,C,h=>by
    have h':((((a.ok X.env.scope n=true /\ b.ok X.env.scope n=true) /\ r.ok X.env.scope n=true) /\ a.okT=true) /\ b.okT=true) /\ r.okT=true:=by have h:(_ && _)=true:=h; simpa using h
    have sa:=sE a X Z k n cv cl C h'.1.1.1.1.1
    have sb:=sE b X Z k n cv cl C h'.1.1.1.1.2
    have sr:=sEs r X Z k n cv cl C h'.1.1.1.2
    refine ⟨?_,fun _=>?_⟩
    · skip
      refine PE.mono (pe_or sa.pe (sr.orr b p sb)) fun σ H Q=>lift_elim fun μ ρ h hr er q=>?_
      refine lift_bind (m:=a.ev cl) hr er q fun d h1 μ1 H1 x _ e1 r1 er1 qa p1=>?_
      unfold tru at p1
      cases qa with
      | bl c =>
        refine ⟨c,rfl,?_⟩
        cases c with
        | true=>exact iteT (p1.here r1 (.bl _))
        | false=>exact iteF ⟨μ1,ρ,h1,r1,er1,p1⟩
      | _=>exact p1.elim
    · skip
      refine PT.mono (PW.pt (pw_or (sa.pt h'.1.1.2) (sr.orT b p sb h'.1.2 h'.2))) fun σ H Q=>lift_elim fun μ ρ h hr er q=>?_
      have e0:(E.or a b r p).evT cl ρ h=(a.evT cl ρ h).bind fun c h1=>if c then .ok true h1 else (b.evT cl ρ h1).bind fun c' h2=>r.evOrT cl ρ c' h2:=by
        rw [evT_eq,evT_eq,bind_assoc]
        show ((a.ev cl ρ h).bind fun x h1=>tru x h1 fun c h1=>if c then .ok (.bl true) h1 else (b.ev cl ρ h1).bind fun y h2=>r.evOr cl ρ y h2).bind toB=_
        rw [bind_assoc]
        congr 1
        funext d h1
        unfold tru
        cases d with
        | bl c =>
          cases c with
          | true=>rfl
          | false =>
            show ((b.ev cl ρ h1).bind fun y h2=>r.evOr cl ρ y h2).bind toB=(b.evT cl ρ h1).bind fun c' h2=>r.evOrT cl ρ c' h2
            rw [evT_eq,bind_assoc,bind_assoc]
            congr 1
            funext y h2
            exact or_toB r ρ y h2
        | _=>rfl
      rw [e0] at q
      refine lift_bind (m:=a.evT cl) (R:=RB) hr er q fun c h1 μ1 H1 x _ e1 r1 er1 qa p1=>?_
      have qa':c=x:=qa
      subst qa'
      cases c with
      | true=>exact iteT (p1.here r1 rfl)
      | false=>exact iteF ⟨μ1,ρ,h1,r1,er1,p1⟩
  | .call f a r p0 p,X,Z,k,n,cv,cl,C,h=>by
    have h':((f < n.F.length /\ gOf X.env.scope (n.F.getD f "")=true) /\ a.ok X.env.scope n=true) /\ r.ok X.env.scope n=true:=by have h:(_ && _)=true:=h; simp only [Bool.and_eq_true,decide_eq_true_eq] at h; exact ⟨⟨⟨h.1.1.1.1,h.1.1.2⟩,h.1.2⟩,h.2⟩
    have hnc:(n.G.any fun q=>decide (q.2=Cn.cls f))=false:=by have h:(_ && _)=true:=h; simp only [Bool.and_eq_true,Bool.not_eq_true'] at h; exact h.1.1.1.2
    have sa:=sE a X Z k n cv cl C h'.1.2
    have sr:=sEs r X Z k n cv cl C h'.2
    obtain ⟨hdb,fa,fd,ps,hm,_,hk,hb,hl,F⟩:=C.fn f _ (getD_some (d:=("":Str)) h'.1.1.1) hnc
    have pe:PE X ((E.call f a r p0 p).py n) (lift X.K cv (Rep X.K) Z ((E.call f a r p0 p).ev cl)):=by
      refine PE.mono (pe_callX F (C.rm.mono (by omega)) (C.gl h'.1.1.2) hm hk hb .nil C.th (pa_cons sa.pe sr.pa (star_cons a _ _)) hdb (star_cons a _ _) (star_plain r p X.env)) fun σ H Q=>lift_elim fun μ ρ h hr er q=>?_
      unfold tCallX tCons
      refine lift_bind (m:=a.ev cl) hr er q fun da h1 μ1 H1 x _ e1 r1 er1 qa p1=>?_
      refine lift_bind (m:=r.ev cl) r1 er1 p1 fun ds h2 μ2 H2 xs _ e2 r2 er2 qb p2=>?_
      show spI X.K cv ps.length (cl f) ((x :: xs) ++ []) H2 Q fun C _ H'=>Z σ C H'
      rw [List.append_nil]
      have z:=hl (da :: ds) h2 fun z=>by rw [z] at p2; exact p2
      exact ⟨by rw [List.length_cons,<- qb.length,<- List.length_cons (a:=da)]; exact z,μ2,h2,da :: ds,r2,.cons (qa.mono e2) qb,p2⟩
    exact ⟨pe,fun _=>by exact pt_lift pe fun _=>rfl⟩
  | .len a p0 p,X,Z,k,n,cv,cl,C,h=>by
    have h':gOf X.env.scope "len"=true /\ a.ok X.env.scope n=true:=by have h:(_ && _)=true:=h; simpa using h
    have sa:=sE a X Z k n cv cl C h'.2
    have pe:PE X ((E.len a p0 p).py n) (lift X.K cv (Rep X.K) Z ((E.len a p0 p).ev cl)):=by
      refine PE.mono (pe_callB (call_lenI (cv:=cv)) (C.gl h'.1) (C.bm _ (by decide)) PySem.boot_len (pa_cons sa.pe pa_nil (star_cons a _ _)) (by decide) (by decide) (star_cons a _ _) rfl) fun σ H Q=>lift_elim fun μ ρ h hr er q=>?_
      refine lift_bind (m:=a.ev cl) hr er q fun da h1 μ1 H1 x _ e1 r1 er1 qa p1=>?_
      exact ⟨x,rfl,μ1,h1,da,_,r1,qa,p1⟩
    exact ⟨pe,fun _=>by exact pt_lift pe fun _=>rfl⟩
  | .isi T a p0 p1 p,X,Z,k,n,cv,cl,C,h=>by
    have h':((gOf X.env.scope "isinstance"=true /\ gOf X.env.scope (tyName T)=true) /\ T < 5) /\ a.ok X.env.scope n=true:=by have h:(_ && _)=true:=h; simpa using h
    have sa:=sE a X Z k n cv cl C h'.2
    obtain ⟨b1,b2,b3,b4⟩:=boot_T T h'.1.2
    have pe:PE X ((E.isi T a p0 p1 p).py n) (lift X.K cv (Rep X.K) Z ((E.isi T a p0 p1 p).ev cl)):=by
      refine PE.mono (pe_callB (call_isI (cv:=cv) T h'.1.2) (C.gl h'.1.1.1) (C.bm _ (by decide)) PyProof.Rows.boot_isinstance (pa_cons sa.pe (pa_cons (pe_bltn (v:=.ty (tyStr T)) (C.gl h'.1.1.2) (C.bm _ b4) b1 rfl b2 b3) pa_nil) (star_cons a _ _)) (by decide) (by decide) (star_cons a _ _) rfl) fun σ H Q=>lift_elim fun μ ρ h hr er q=>?_
      refine lift_bind (m:=a.ev cl) hr er q fun da h1 μ1 H1 x _ e1 r1 er1 qa p1=>?_
      exact ⟨x,rfl,μ1,h1,da,_,r1,qa,p1⟩
    exact ⟨pe,fun _=>by exact pt_lift pe fun _=>rfl⟩
  | .sub a i p,X,Z,k,n,cv,cl,C,h=>by
    have h':a.ok X.env.scope n=true /\ i.ok X.env.scope n=true:=by have h:(_ && _)=true:=h; simpa using h
    have sa:=sE a X Z k n cv cl C h'.1
    have sb:=sE i X Z k n cv cl C h'.2
    have pe:PE X ((E.sub a i p).py n) (lift X.K cv (Rep X.K) Z ((E.sub a i p).ev cl)):=by
      refine PE.mono (pe_ix (ix_ours (cv:=cv) (hu_of C.rm)) sa.pe sb.pe (plain_ix i)) fun σ H Q q=>?_
      exact lift2 q
    exact ⟨pe,fun _=>by exact pt_lift pe fun _=>rfl⟩
  | .tup es p,X,Z,k,n,cv,cl,C,h=>by
    have h':es.ok X.env.scope n=true:=by exact h
    have sr:=sEs es X Z k n cv cl C h'
    have pe:PE X ((E.tup es p).py n) (lift X.K cv (Rep X.K) Z ((E.tup es p).ev cl)):=by
      refine PE.mono (pe_tup sr.pa) fun σ H Q=>lift_elim fun μ ρ h hr er q=>?_
      refine lift_bind (m:=es.ev cl) hr er q fun ds h1 μ1 H1 xs _ e1 r1 er1 qa p1=>?_
      split at p1
      · rename_i c
        refine ⟨by rw [<- qa.length]; exact Nat.le_of_lt (small1000 c),fun a ha=>?_⟩
        exact p1 μ1 _ (.ref a) (ext_new ha) (r1.tup ha) (.tup (SqT.of upd_same) (qa.mono (ext_new ha)))
      · exact p1.elim
    exact ⟨pe,fun _=>by exact pt_lift pe fun _=>rfl⟩
  | .ofL l,X,Z,k,n,cv,cl,C,h=>by
    have sl:=sL l X Z k n cv cl C (by exact h)
    refine ⟨?_,fun z=>nomatch z⟩
    refine PE.mono sl fun σ H Q=>lift_elim fun μ ρ h hr er q=>?_
    refine lift_bind0 (m:=l.ev cl) Ext.refl hr er q (fun _ _ z=>z) fun ds h1 μ1 H1 x _ e1 r1 er1 qa p1=>?_
    obtain ⟨p,vs,rfl,g1,g2,g3,g4⟩:=qa
    refine p1 (μ1 ++ [p]) H1 _ (e1.add g4) (r1.add g3 fun μ' gr=>⟨vs,g1,g2.mono' gr⟩) (.loc ?_)
    rw [<- r1.len,List.getElem?_append_right (Nat.le_refl _),Nat.sub_self]
    rfl
  | .tupL l p0 p,X,Z,k,n,cv,cl,C,h=>by
    have h':gOf X.env.scope "tuple"=true /\ l.ok X.env.scope n=true:=by have h:(_ && _)=true:=h; simpa using h
    have sl:=sL l X Z k n cv cl C h'.2
    have pe:PE X ((E.tupL l p0 p).py n) (lift X.K cv (Rep X.K) Z ((E.tupL l p0 p).ev cl)):=by
      refine PE.mono (pe_callTy call_tuple_of (C.gl h'.1) (C.bm _ (by decide)) PyProof.Rows.boot_tuple (pa_cons sl pa_nil (L.py_star l _ _)) (by decide) (by decide) (L.py_star l _ _) rfl) fun σ H Q=>lift_elim fun μ ρ h hr er q=>?_
      refine lift_bind0 (m:=l.ev cl) Ext.refl hr er q (fun _ _ z=>z) fun ds h1 μ1 H1 x _ e1 r1 er1 qa p1=>?_
      obtain ⟨b,vs,rfl,g1,g2,g3,g4⟩:=qa
      exact ⟨b,vs,rfl,.inl ⟨SqL.of g1,fun a ha=>p1 μ1 _ _ (e1.trans (ext_new ha)) (r1.tup ha) (.tup (SqT.of upd_same) (g2.mono (ext_new ha)))⟩⟩
    exact ⟨pe,fun _=>by exact pt_lift pe fun _=>rfl⟩
  | .tupE e p0 p,X,Z,k,n,cv,cl,C,h=>by
    have h':gOf X.env.scope "tuple"=true /\ e.ok X.env.scope n=true:=by have h:(_ && _)=true:=h; simpa using h
    have se:=sE e X Z k n cv cl C h'.2
    have pe:PE X ((E.tupE e p0 p).py n) (lift X.K cv (Rep X.K) Z ((E.tupE e p0 p).ev cl)):=by
      refine PE.mono (pe_callTy (call_tupI (cv:=cv)) (C.gl h'.1) (C.bm _ (by decide)) PyProof.Rows.boot_tuple (pa_cons se.pe pa_nil (star_cons e _ _)) (by decide) (by decide) (star_cons e _ _) rfl) fun σ H Q=>lift_elim fun μ ρ h hr er q=>?_
      refine lift_bind (m:=e.ev cl) hr er q fun da h1 μ1 H1 x _ e1 r1 er1 qa p1=>?_
      exact ⟨x,rfl,μ1,h1,da,_,r1,qa,p1⟩
    exact ⟨pe,fun _=>by exact pt_lift pe fun _=>rfl⟩
  | .cut a lo hi p2 p,X,Z,k,n,cv,cl,C,h=>by
    have h':(a.ok X.env.scope n=true /\ lo.ok X.env.scope n=true) /\ hi.ok X.env.scope n=true:=by have h:(_ && _)=true:=h; simpa using h
    have sa:=sE a X Z k n cv cl C h'.1.1
    have sl:=sEo lo X Z k n cv cl C h'.1.2
    have sh:=sEo hi X Z k n cv cl C h'.2
    have pe:PE X ((E.cut a lo hi p2 p).py n) (lift X.K cv (Rep X.K) Z ((E.cut a lo hi p2 p).ev cl)):=by
      refine PE.mono (pe_slice (sl_ours (cv:=cv)) sa.pe sl sh) fun σ H Q=>lift_elim fun μ ρ h hr er q=>?_
      refine lift_bind (m:=a.ev cl) hr er q fun da h1 μ1 H1 x _ e1 r1 er1 qa p1=>?_
      refine lift_bind (m:=lo.ev cl) (R:=fun _ _ a b=>a=b) r1 er1 p1 fun l h2 μ2 H2 l' _ e2 r2 er2 ql p2=>?_
      have ql':l=l':=ql
      subst ql'
      refine lift_bind (m:=hi.ev cl) (R:=fun _ _ a b=>a=b) r2 er2 p2 fun u h3 μ3 H3 u' _ e3 r3 er3 qu p3=>?_
      have qu':u=u':=qu
      subst qu'
      exact ⟨μ3,h3,da,_,r3,(qa.mono e2).mono e3,p3⟩
    exact ⟨pe,fun _=>by exact pt_lift pe fun _=>rfl⟩
  | .dic p,X,Z,k,n,cv,cl,C,h=>by
    refine ⟨?_,fun z=>nomatch z⟩
    refine PE.mono pe_dnewK fun σ H Q=>lift_elim fun μ ρ h hr er q=>?_
    intro b hb
    refine q _ _ _ ((ext_new hb).add hb) (hr.alloc hb (hr.fresh hb) fun μ' g=>⟨_,upd_same,.nil⟩) (.loc ?_)
    rw [<- hr.len,List.getElem?_append_right (Nat.le_refl _),Nat.sub_self]
    rfl
  | .m0 m o p1 p,X,Z,k,n,cv,cl,C,h=>by
    have h':o.ok X.env.scope n=true /\ p1.endLine=p.line:=by have h:(_ && _)=true:=h; simpa using h
    have so:=sE o X Z k n cv cl C h'.1
    have hl:(p1.endLine == p.line)=true:=beq_iff_eq.mpr h'.2
    have pe:PE X ((E.m0 m o p1 p).py n) (lift X.K cv (Rep X.K) Z ((E.m0 m o p1 p).ev cl)):=by
      cases m with
      | pop =>
        refine PE.mono (pe_bm0 PySem.F.plainAttrs_list PySem.F.slot_list_pop PySem.F.type_list_pop (mt_pop0 (cv:=cv)) so.pe (base_plain o _ _) hl) fun σ H Q=>lift_elim fun μ ρ h hr er q=>?_
        refine lift_bind (m:=o.ev cl) hr er q fun da h1 μ1 H1 x _ e1 r1 er1 qa p1=>?_
        exact ⟨m0_ty r1 qa fun z=>by rw [z] at p1; exact p1,rfl,μ1,h1,da,_,r1,qa,p1⟩
      | reverse =>
        refine PE.mono (pe_bm0 PySem.F.plainAttrs_list PySem.F.slot_list_reverse PySem.F.type_list_reverse (mt_reverse0 (cv:=cv)) so.pe (base_plain o _ _) hl) fun σ H Q=>lift_elim fun μ ρ h hr er q=>?_
        refine lift_bind (m:=o.ev cl) hr er q fun da h1 μ1 H1 x _ e1 r1 er1 qa p1=>?_
        exact ⟨m0_ty r1 qa fun z=>by rw [z] at p1; exact p1,rfl,μ1,h1,da,_,r1,qa,p1⟩
    exact ⟨pe,fun _=>by exact pt_lift pe fun _=>rfl⟩
  | .m1 m o a p1 p,X,Z,k,n,cv,cl,C,h=>by
    have h':(o.ok X.env.scope n=true /\ a.ok X.env.scope n=true) /\ p1.endLine=p.line:=by have h:(_ && _)=true:=h; simpa using h
    have so:=sE o X Z k n cv cl C h'.1.1
    have sa:=sE a X Z k n cv cl C h'.1.2
    have hl:(p1.endLine == p.line)=true:=beq_iff_eq.mpr h'.2
    have pe:PE X ((E.m1 m o a p1 p).py n) (lift X.K cv (Rep X.K) Z ((E.m1 m o a p1 p).ev cl)):=by
      cases m with
      | append =>
        refine PE.mono (pe_bm PySem.F.plainAttrs_list PySem.F.slot_list_append PySem.F.type_list_append (mt_append1 (cv:=cv)) so.pe (pa_cons sa.pe pa_nil (star_cons a _ _)) (base_plain o _ _) (few_one a _ _) hl (star_cons a _ _) rfl) fun σ H Q=>lift_elim fun μ ρ h hr er q=>?_
        refine lift_bind (m:=o.ev cl) hr er q fun da h1 μ1 H1 x _ e1 r1 er1 qa p1=>?_
        obtain ⟨ty,p1⟩:=onL_ty r1 qa p1
        refine ⟨ty,?_⟩
        refine lift_bind (m:=a.ev cl) r1 er1 p1 fun db h2 μ2 H2 y _ e2 r2 er2 qb p2=>?_
        exact ⟨y,rfl,μ2,h2,da,db,_,r2,qa.mono e2,qb,p2⟩
      | extend =>
        refine PE.mono (pe_bm PySem.F.plainAttrs_list PySem.F.slot_list_extend PySem.F.type_list_extend (mt_extend1 (cv:=cv)) so.pe (pa_cons sa.pe pa_nil (star_cons a _ _)) (base_plain o _ _) (few_one a _ _) hl (star_cons a _ _) rfl) fun σ H Q=>lift_elim fun μ ρ h hr er q=>?_
        refine lift_bind (m:=o.ev cl) hr er q fun da h1 μ1 H1 x _ e1 r1 er1 qa p1=>?_
        obtain ⟨ty,p1⟩:=onL_ty r1 qa p1
        refine ⟨ty,?_⟩
        refine lift_bind (m:=a.ev cl) r1 er1 p1 fun db h2 μ2 H2 y _ e2 r2 er2 qb p2=>?_
        exact ⟨y,rfl,μ2,h2,da,db,_,r2,qa.mono e2,qb,p2⟩
    exact ⟨pe,fun _=>by exact pt_lift pe fun _=>rfl⟩
  | .min2 a b p0 p,X,Z,k,n,cv,cl,C,h=>by
    have h':(gOf X.env.scope "min"=true /\ a.ok X.env.scope n=true) /\ b.ok X.env.scope n=true:=by have h:(_ && _)=true:=h; simpa using h
    have sa:=sE a X Z k n cv cl C h'.1.2
    have sb:=sE b X Z k n cv cl C h'.2
    have pe:PE X ((E.min2 a b p0 p).py n) (lift X.K cv (Rep X.K) Z ((E.min2 a b p0 p).ev cl)):=by
      refine PE.mono (pe_callB (call_minI (cv:=cv) C.cm) (C.gl h'.1.1) (C.bm _ (by decide)) PyProof.Rows.boot_min (pa_cons sa.pe (pa_cons sb.pe pa_nil (star_cons b _ _)) (star_cons a _ _)) (by decide) (by decide) (star_cons a _ _) (by rw [star_cons]; rfl)) fun σ H Q=>lift_elim fun μ ρ h hr er q=>?_
      refine lift_bind (m:=a.ev cl) hr er q fun da h1 μ1 H1 x _ e1 r1 er1 qa p1=>?_
      refine lift_bind (m:=b.ev cl) r1 er1 p1 fun db h2 μ2 H2 y _ e2 r2 er2 qb p2=>?_
      exact ⟨x,y,rfl,μ2,h2,da,db,_,r2,qa.mono e2,qb,p2⟩
    exact ⟨pe,fun _=>by exact pt_lift pe fun _=>rfl⟩
  | .gsub x kvs i p0 p,X,Z,k,n,cv,cl,C,h=>by
    have h':(gOf X.env.scope x=true /\ (x,Cn.dic kvs) ∈ n.G) /\ i.ok X.env.scope n=true:=by have h:(_ && _)=true:=h; simpa using h
    obtain ⟨hd,v,hm,ok⟩:=C.gc x _ h'.1.2
    have si:=sE i X Z k n cv cl C h'.2
    have pe:PE X ((E.gsub x kvs i p0 p).py n) (lift X.K cv (Rep X.K) Z ((E.gsub x kvs i p0 p).ev cl)):=by
      have ok':=ok
      obtain ⟨a,o,es,ep,vs,rfl,_⟩:=ok'
      refine PE.mono (pe_ix (ix_cst (kvs:=kvs)) (pe_glob (v:=.ref a) (C.gl h'.1.1) hm rfl hd) si.pe (plain_ix i)) fun σ H Q=>lift_elim fun μ ρ h hr er q=>?_
      refine lift_bind (m:=i.ev cl) hr er q fun d h1 μ1 H1 y _ e1 r1 er1 qa p1=>?_
      unfold cstD at p1
      cases qa with
      | str kk =>
        simp only at p1
        split at p1
        · rename_i xs l
          split at p1
          · exact p1.elim
          · rename_i nf
            exact ⟨a,kk,xs,rfl,rfl,ok,l,fun b tk=>p1.here r1 (tk.rep ((Bool.not_eq_true _).mp nf))⟩
        · exact p1.elim
      | _=>exact p1.elim
    exact ⟨pe,fun _=>by exact pt_lift pe fun _=>rfl⟩
  | .sset e p0 p1 p2 p,X,Z,k,n,cv,cl,C,h=>by
    have h':(gOf X.env.scope "sorted"=true /\ gOf X.env.scope "set"=true) /\ e.ok X.env.scope n=true:=by have h:(_ && _)=true:=h; simpa using h
    have se:=sE e X Z k n cv cl C h'.2
    have pe:PE X ((E.sset e p0 p1 p2 p).py n) (lift X.K cv (Rep X.K) Z ((E.sset e p0 p1 p2 p).ev cl)):=by
      refine PE.mono (pe_sset C.cm (C.gl h'.1.2) (C.bm _ (by decide)) (C.gl h'.1.1) (C.bm _ (by decide)) (pa_cons se.pe pa_nil (star_cons e _ _)) (star_cons e _ _)) fun σ H Q=>lift_elim fun μ ρ h hr er q=>?_
      refine lift_bind (m:=e.ev cl) hr er q fun d h1 μ1 H1 x _ e1 r1 er1 qa p1=>?_
      exact ss_post r1 qa p1
    exact ⟨pe,fun _=>by exact pt_lift pe fun _=>rfl⟩
  | .cmpN neg a p1 p,X,Z,k,n,cv,cl,C,h=>by
    have h':a.ok X.env.scope n=true:=by exact h
    have sa:=sE a X Z k n cv cl C h'
    have hu:X.A.units < cLine:=by have:=C.rm.units; omega
    have hop:OpR X (compareOp (if neg then .NotEq else .Eq)) (rNil X.K neg):=by cases neg with | true=>exact op_neNil hu | false=>exact op_eqNil hu
    have hb:behindInMarks (if neg then .NotEq else .Eq) (.List [] p1)=false:=by cases neg <;> rfl
    have fin:∀ {μ1:List Addr} {h1:Hh} {H1:Hp} {x:V} {da:D} {Q:VK} {Z1:Value->Hp->Prop},HR X.K μ1 h1 H1->Rep X.K μ1 H1 da x->PostE X.K cv (Rep X.K) μ1 H1 (nilD neg da h1) Q Z1->∀ b,H1 b=none->rNil X.K neg x (.ref b) (upd H1 b (.lst [])) Q:=fun {μ1 h1 H1 x da Q Z1} r1 qa p1 b hb'=>by
      unfold nilD at p1
      have q2:=SqL.of (K:=X.K) (upd_same (H:=H1) (a:=b) (o:=.lst []))
      cases qa with
      | @fl ds vs a f r =>
        refine ⟨a,b,vs,rfl,rfl,((ext_new (μ:=μ1) hb').fz _ _ f).sq,q2,?_⟩
        have z:=p1 μ1 (upd H1 b (.lst [])) _ (ext_new hb') (r1.tup hb') (.bl _)
        rw [r.isEmpty] at z
        exact z
      | @loc nn a m =>
        cases e2:PI.rd h1 nn with
        | none=>simp only [e2] at p1; exact p1.elim
        | some ds =>
          simp only [e2] at p1
          obtain ⟨vs,q1,r⟩:=rd_reps r1 m e2
          refine ⟨a,b,vs,rfl,rfl,SqL.of (by rw [upd_ne (by intro z; rw [z,hb'] at q1; cases q1)]; exact q1),q2,?_⟩
          have z:=p1 μ1 (upd H1 b (.lst [])) _ (ext_new hb') (r1.tup hb') (.bl _)
          rw [r.isEmpty] at z
          exact z
      | _=>exact p1.elim
    have pe:PE X ((E.cmpN neg a p1 p).py n) (lift X.K cv (Rep X.K) Z ((E.cmpN neg a p1 p).ev cl)):=by
      refine PE.mono (pe_cmpR hop sa.pe (pe_lst pa_nil) hb) fun σ H Q=>lift_elim fun μ ρ h hr er q=>?_
      refine lift_bind (m:=a.ev cl) hr er q fun da h1 μ1 H1 x _ e1 r1 er1 qa p1=>?_
      exact ⟨Nat.zero_le _,fun b hb'=>fin r1 qa p1 b hb'⟩
    refine ⟨pe,fun _=>?_⟩
    refine PT.mono (pt_cmpR hop sa.pe (pe_lst pa_nil) hb) fun σ H Q=>lift_elim fun μ ρ h hr er q=>?_
    have q:PostE X.K cv RB μ H (((a.ev cl ρ h).bind fun x h1=>nilD neg x h1).bind toB) Q (Z σ):=q
    rw [bind_assoc] at q
    unfold tTest
    refine lift_bind (m:=a.ev cl) hr er q fun da h1 μ1 H1 x _ e1 r1 er1 qa p1=>?_
    refine ⟨Nat.zero_le _,fun b hb'=>fin (Z1:=Z σ) r1 qa ?_ b hb'⟩
    cases e3:nilD neg da h1 with
    | ok d h3 =>
      rw [e3] at p1
      intro μ3 H3 v x1 x2 x3
      unfold Res.bind toB at p1
      cases x3 with
      | bl c=>exact ⟨c,rfl,p1 μ3 H3 c x1 x2 rfl⟩
      | _=>exact p1.elim
    | exc c h3=>rw [e3] at p1; exact p1
    | no=>rw [e3] at p1; exact p1
theorem sEo:∀ (e:Eo) (X:Cx) (Z:ZK) (k:Nat) (n:Nm) (cv:Nat->Value) (cl:Nat->List D->Hh->Res D),Kx X Z k n cv cl->e.ok X.env.scope n=true->PO X (e.py n) (lift X.K cv (fun _ _ a b=>a=b) Z (e.ev cl))
  | .none,X,Z,k,n,cv,cl,C,h=>by
    refine PO.mono po_none fun σ H Q=>lift_elim fun μ ρ h hr er q=>?_
    exact q.here hr rfl
  | .some e,X,Z,k,n,cv,cl,C,h=>by
    have se:=sE e X Z k n cv cl C (by exact h)
    refine PO.mono (po_some se.pe) fun σ H Q=>lift_elim fun μ ρ h hr er q=>?_
    refine lift_bind (m:=e.ev cl) hr er q fun d h1 μ1 H1 x _ e1 r1 er1 qa p1=>?_
    unfold intO at p1
    cases qa with
    | int i=>exact ⟨i,rfl,p1.here r1 rfl⟩
    | _=>exact p1.elim
theorem sL:∀ (l:L) (X:Cx) (Z:ZK) (k:Nat) (n:Nm) (cv:Nat->Value) (cl:Nat->List D->Hh->Res D),Kx X Z k n cv cl->l.ok X.env.scope n=true->PE X (l.py n) (liftL X.K cv Z (l.ev cl))
  | .disp es p,X,Z,k,n,cv,cl,C,h=>by
    have sr:=sEs es X Z k n cv cl C (by exact h)
    refine PE.mono (pe_lst sr.pa) fun σ H Q=>lift_elim fun μ ρ h hr er q=>?_
    refine lift_bind0 (m:=es.ev cl) Ext.refl hr er q (fun _ _ z=>z) fun ds h1 μ1 H1 xs _ e1 r1 er1 qa p1=>?_
    split at p1
    · rename_i c
      refine ⟨by rw [<- qa.length]; exact Nat.le_of_lt (small1000 c),fun a ha=>?_⟩
      have na:=r1.fresh ha
      have n0:H a=none:=by
        cases e:H a with
        | none=>rfl
        | some o=>rw [e1.oth a o e fun z=>na (e1.sub z)] at ha; cases ha
      exact p1 μ1 _ _ (e1.trans (ext_new ha)) (r1.tup ha) ⟨a,xs,rfl,upd_same,qa.mono (ext_new ha),na,n0⟩
    · exact p1.elim
  | .comp elt t it c NC cap csc p,X,Z,k,n,cv,cl,C,h=>by
    obtain ⟨k1,k2',k3,k4,k5,k6,k7,k8,k9⟩:=comp_ok C h
    have hit:=sI it X Z k n cv cl C k1.1 t k1.2 NC
    exact pe_compI (X:=X) (Z:=Z) (cv:=cv) (mi:=it.ev cl) (mc:=c.evC cl) (me:=elt.ev cl) (pos:=p) (elt:=elt.py ⟨NC,n.F,n.G⟩) (iter:=it.py n) (ifs:=c.py ⟨NC,n.F,n.G⟩) C.cm C.th hit k2' k5
      (fun Cc s H fp pn xe=>comp_pg C.kd k2' k3 k5)
      (fun Cc s H fp pn xe Zc th=>by
        have Cc':=C.comp k2' k3 k4 th
        cases c with
        | nil=>exact pf_none
        | cons e r =>
          cases r with
          | cons _ _=>cases k9
          | nil =>
            have se:=sE e _ Zc k ⟨NC,n.F,n.G⟩ cv cl Cc' (by have k7:(_ && _)=true:=k7; simp at k7; exact k7.1)
            have ht:=se.pt (by have k8:(_ && _)=true:=k8; simp at k8; exact k8.1)
            exact pf_one ht)
      (fun Cc s H fp pn xe Zc th=>(sE elt _ Zc k ⟨NC,n.F,n.G⟩ cv cl (C.comp k2' k3 k4 th) k6).pe) (fold_plain it)
theorem sI:∀ (it:I) (X:Cx) (Z:ZK) (k:Nat) (n:Nm) (cv:Nat->Value) (cl:Nat->List D->Hh->Res D),Kx X Z k n cv cl->it.ok X.env.scope n=true->∀ t:Tg,t.forI it=true->∀ N,L2.PI X (t.py N) (it.py n) (lift X.K cv (RJ X.K) Z (it.ev cl))
  | .seq e,X,Z,k,n,cv,cl,C,h=>fun t ht N=>by
    have se:=sE e X Z k n cv cl C (by exact h)
    refine PI.mono (pi_any se.pe) fun σ H Q=>lift_elim fun μ ρ h hr er q=>?_
    refine lift_bind (m:=e.ev cl) hr er q fun d h1 μ1 H1 x _ e1 r1 er1 qa p1=>?_
    cases qa with
    | tup g1 g2=>exact .inr (.inl ⟨_,rfl,⟨_,g1⟩,p1.here r1 (src_tup g1 g2)⟩)
    | fl g1 g2=>exact .inl ⟨_,rfl,⟨_,g1.sq⟩,p1.here r1 (src_fl g1 g2)⟩
    | str z=>exact .inr (.inr ⟨_,rfl,p1.here r1 (src_str z)⟩)
    | @loc nn a m =>
      cases e2:rd h1 nn with
      | none=>simp only [e2] at p1; exact p1.elim
      | some xs =>
        simp only [e2] at p1
        obtain ⟨vs,hs1,rs⟩:=r1.rd e2 m
        exact .inl ⟨_,rfl,⟨_,hs1⟩,p1.here r1 (src_loc m)⟩
    | _=>exact p1.elim
  | .lst l,X,Z,k,n,cv,cl,C,h=>fun t ht N=>by
    have sl:=sL l X Z k n cv cl C (by exact h)
    refine PI.mono (pi_list sl) fun σ H Q=>lift_elim fun μ ρ h hr er q=>?_
    refine lift_bind0 (m:=l.ev cl) Ext.refl hr er q (fun _ _ z=>z) fun ds h1 μ1 H1 x _ e1 r1 er1 qa p1=>?_
    obtain ⟨p,vs,rfl,g1,g2,g3,g4⟩:=qa
    exact ⟨p,rfl,⟨vs,SqL.of g1⟩,p1 μ1 H1 _ e1 r1 (src_new g1 g3 g2)⟩
  | .rng a p0 p,X,Z,k,n,cv,cl,C,h=>fun t ht N=>by
    have h':gOf X.env.scope "range"=true /\ a.ok X.env.scope n=true:=by have h:(_ && _)=true:=h; simpa using h
    have sa:=sE a X Z k n cv cl C h'.2
    refine PI.mono (pi_range1 (C.gl h'.1) (C.bm _ (by decide)) (pa_cons sa.pe pa_nil (star_cons a _ _)) (star_cons a _ _)) fun σ H Q=>lift_elim fun μ ρ h hr er q=>?_
    refine lift_bind (m:=a.ev cl) hr er q fun d h1 μ1 H1 x _ e1 r1 er1 qa p1=>?_
    cases qa with
    | int j =>
      simp only at p1
      split at p1
      · rename_i c
        exact ⟨j,rfl,by have:=c.1; omega,by have:=c.2; omega,p1.here r1 (src_rng j.toNat)⟩
      · exact p1.elim
    | _=>exact p1.elim
theorem sEs:∀ (r:Es) (X:Cx) (Z:ZK) (k:Nat) (n:Nm) (cv:Nat->Value) (cl:Nat->List D->Hh->Res D),Kx X Z k n cv cl->r.ok X.env.scope n=true->SEs X Z n cv cl r
  | .nil,X,Z,k,n,cv,cl,C,_=>by
    refine ⟨?_,fun b p sb=>?_,fun b p sb hb _=>?_,fun b p sb=>?_,fun b p sb hb _=>?_,ps_nil⟩
    · skip
      refine PA.mono pa_nil fun σ H Q=>lift_elim fun μ ρ h hr er q=>?_
      exact q.here hr .nil
    · skip
      refine PE.mono (pe_one sb.pe) fun σ H Q=>lift_elim fun μ ρ h hr er q=>⟨μ,ρ,h,hr,er,?_⟩
      have q:PostE X.K cv (Rep X.K) μ H ((b.ev cl ρ h).bind fun a h1=>.ok a h1) Q (Z σ):=q
      rwa [bind_pure] at q
    · skip
      refine PW.mono (pw_and1 (sb.pt hb)) fun σ H Q=>lift_elim fun μ ρ h hr er q=>⟨μ,ρ,h,hr,er,?_⟩
      have q:PostE X.K cv RB μ H ((b.evT cl ρ h).bind fun a h1=>.ok a h1) Q (Z σ):=q
      rwa [bind_pure] at q
    · skip
      refine PE.mono (pe_one sb.pe) fun σ H Q=>lift_elim fun μ ρ h hr er q=>⟨μ,ρ,h,hr,er,?_⟩
      have q:PostE X.K cv (Rep X.K) μ H ((b.ev cl ρ h).bind fun a h1=>.ok a h1) Q (Z σ):=q
      rwa [bind_pure] at q
    · skip
      refine PW.mono (pw_or1 (sb.pt hb)) fun σ H Q=>lift_elim fun μ ρ h hr er q=>⟨μ,ρ,h,hr,er,?_⟩
      have q:PostE X.K cv RB μ H ((b.evT cl ρ h).bind fun a h1=>.ok a h1) Q (Z σ):=q
      rwa [bind_pure] at q
  | .cons e r,X,Z,k,n,cv,cl,C,h=>by
    have h':e.ok X.env.scope n=true /\ r.ok X.env.scope n=true:=by have h:(_ && _)=true:=h; simpa using h
    have se:=sE e X Z k n cv cl C h'.1
    have sr:=sEs r X Z k n cv cl C h'.2
    refine ⟨?_,fun b p sb=>?_,fun b p sb hb hr'=>?_,fun b p sb=>?_,fun b p sb hb hr'=>?_,ps_cons se.pe sr.ps⟩
    · skip
      refine PA.mono (pa_cons se.pe sr.pa (star_cons e _ _)) fun σ H Q=>lift_elim fun μ ρ h hr er q=>?_
      refine lift_bind (m:=e.ev cl) hr er q fun da h1 μ1 H1 x _ e1 r1 er1 qa p1=>?_
      refine lift_bind (m:=r.ev cl) r1 er1 p1 fun ds h2 μ2 H2 xs _ e2 r2 er2 qb p2=>?_
      exact p2.here r2 (.cons (qa.mono e2) qb)
    · skip
      refine PE.mono (pe_and sb.pe (sr.an e p se)) fun σ H Q=>lift_elim fun μ ρ h hr er q=>?_
      refine lift_bind (m:=b.ev cl) hr er q fun d h1 μ1 H1 x _ e1 r1 er1 qa p1=>?_
      cases qa with
      | bl c =>
        refine ⟨c,rfl,?_⟩
        cases c with
        | true=>exact iteT ⟨μ1,ρ,h1,r1,er1,p1⟩
        | false=>exact iteF (p1.here r1 (.bl _))
      | _=>exact p1.elim
    · skip
      have hr2:e.okT=true /\ r.okT=true:=by have hr':(_ && _)=true:=hr'; simpa using hr'
      refine PW.mono (pw_and (sb.pt hb) (sr.anT e p se hr2.1 hr2.2)) fun σ H Q=>lift_elim fun μ ρ h hr er q=>?_
      refine lift_bind (m:=b.evT cl) (R:=RB) hr er q fun c h1 μ1 H1 x _ e1 r1 er1 qa p1=>?_
      have qa':c=x:=qa
      subst qa'
      cases c with
      | true=>exact iteT ⟨μ1,ρ,h1,r1,er1,p1⟩
      | false=>exact iteF (p1.here r1 rfl)
    · skip
      refine PE.mono (pe_or sb.pe (sr.orr e p se)) fun σ H Q=>lift_elim fun μ ρ h hr er q=>?_
      refine lift_bind (m:=b.ev cl) hr er q fun d h1 μ1 H1 x _ e1 r1 er1 qa p1=>?_
      cases qa with
      | bl c =>
        refine ⟨c,rfl,?_⟩
        cases c with
        | true=>exact iteT (p1.here r1 (.bl _))
        | false=>exact iteF ⟨μ1,ρ,h1,r1,er1,p1⟩
      | _=>exact p1.elim
    · skip
      have hr2:e.okT=true /\ r.okT=true:=by have hr':(_ && _)=true:=hr'; simpa using hr'
      refine PW.mono (pw_or (sb.pt hb) (sr.orT e p se hr2.1 hr2.2)) fun σ H Q=>lift_elim fun μ ρ h hr er q=>?_
      refine lift_bind (m:=b.evT cl) (R:=RB) hr er q fun c h1 μ1 H1 x _ e1 r1 er1 qa p1=>?_
      have qa':c=x:=qa
      subst qa'
      cases c with
      | true=>exact iteT (p1.here r1 rfl)
      | false=>exact iteF ⟨μ1,ρ,h1,r1,er1,p1⟩
end
end
end PI
set_option Elab.async false
set_option linter.all false
set_option maxRecDepth 100000
set_option maxHeartbeats 4000000
namespace PI
open PySem L2 PySem.Spec
open PyProof.Rows hiding St
noncomputable def PostS (K:PySem.W.Frag) (cv:Nat->Value) (μ:List Addr) (H:Hp) (r:RS) (En:Ends) (Z:ZK):Prop :=
  match r with
  | .nx ρ h'=>∀ μ' H' σ',Ext K μ H μ' H'->HR K μ' h' H'->ER K μ' ρ σ' H'->En.nx σ' H'
  | .bk ρ h'=>∀ μ' H' σ',Ext K μ H μ' H'->HR K μ' h' H'->ER K μ' ρ σ' H'->En.bk σ' H'
  | .ct ρ h'=>∀ μ' H' σ',Ext K μ H μ' H'->HR K μ' h' H'->ER K μ' ρ σ' H'->En.ct σ' H'
  | .rt d h'=>∀ μ' H' v,Ext K μ H μ' H'->HR K μ' h' H'->Rep K μ' H' d v->En.rt v H'
  | .ex c ρ h'=>∀ μ' H' σ',Ext K μ H μ' H'->HR K μ' h' H'->ER K μ' ρ σ' H'->Z σ' (cv c) H'
  | .no=>False
noncomputable def liftS (K:PySem.W.Frag) (cv:Nat->Value) (Z:ZK) (m:En->Hh->RS):TS:=fun En σ H=>∃ μ ρ h,HR K μ h H /\ ER K μ ρ σ H /\ PostS K cv μ H (m ρ h) En Z
theorem liftS_elim {K:PySem.W.Frag} {cv:Nat->Value} {Z:ZK} {m:En->Hh->RS} {En:Ends} {σ:St} {H:Hp} {G:Prop} (f:∀ μ ρ h,HR K μ h H->ER K μ ρ σ H->PostS K cv μ H (m ρ h) En Z->G) (x:liftS K cv Z m En σ H):G:=by
  obtain ⟨μ,ρ,h,hr,er,q⟩:=x
  exact f μ ρ h hr er q
theorem PostS.ext {K:PySem.W.Frag} {cv:Nat->Value} {μ μ1:List Addr} {H H1:Hp} {r:RS} {En:Ends} {Z:ZK} (p:PostS K cv μ H r En Z) (e:Ext K μ H μ1 H1):PostS K cv μ1 H1 r En Z:=by
  unfold PostS at p ⊢
  cases r with
  | nx ρ h=>exact fun μ' H' σ' e1 r1 q1=>p μ' H' σ' (e.trans e1) r1 q1
  | bk ρ h=>exact fun μ' H' σ' e1 r1 q1=>p μ' H' σ' (e.trans e1) r1 q1
  | ct ρ h=>exact fun μ' H' σ' e1 r1 q1=>p μ' H' σ' (e.trans e1) r1 q1
  | rt d h=>exact fun μ' H' σ' e1 r1 q1=>p μ' H' σ' (e.trans e1) r1 q1
  | ex c ρ h=>exact fun μ' H' σ' e1 r1 q1=>p μ' H' σ' (e.trans e1) r1 q1
  | no=>exact p
theorem liftS_bind {α β:Type} {K:PySem.W.Frag} {cv:Nat->Value} {R:List Addr->Hp->α->β->Prop} {μ:List Addr} {ρ:En} {h:Hh} {σ:St} {H:Hp} {Z:ZK} {m:En->Hh->Res α} {f:α->Hh->RS} {En:Ends} {Q':β->Hp->Prop}
    (hr:HR K μ h H) (er:ER K μ ρ σ H) (p:PostS K cv μ H (andS ρ (m ρ h) f) En Z)
    (go:∀ a h1 μ1 H1 x,m ρ h=.ok a h1->Ext K μ H μ1 H1->HR K μ1 h1 H1->ER K μ1 ρ σ H1->R μ1 H1 a x->PostS K cv μ1 H1 (f a h1) En Z->Q' x H1) :
    lift K cv R Z m σ H Q':=by
  refine ⟨μ,ρ,h,hr,er,?_⟩
  unfold andS at p
  cases e:m ρ h with
  | ok a h1 =>
    rw [e] at p
    exact fun μ1 H1 x e1 r1 q1=>go a h1 μ1 H1 x e e1 r1 (er.mono e1) q1 (PostS.ext p e1)
  | exc c h1 =>
    rw [e] at p
    exact fun μ1 H1 e1 r1=>p μ1 H1 σ e1 r1 (er.mono e1)
  | no=>rw [e] at p; exact p
noncomputable def Xt.ok (sc:Scope) (n:Nm) (t:Xt):Bool:=gOf sc t.x && !(t.x == ("__debug__":Str)) && (match t.d with
  | some d=>n.G.any fun q=>q.1 == t.x && (match q.2 with | .exc d' _=>d' == d | _=>false)
  | none=>t.x == ("ValueError":Str))
noncomputable def Xv.ok (sc:Scope) (n:Nm):Xv->Bool
  | .and a b r _=>a.ok sc n && b.ok sc n && r.all (Xt.ok sc n)
  | .lst ts _=>ts.all (Xt.ok sc n) && decide (ts.length<=1000)
  | .one t=>t.ok sc n
structure XK' (X:Cx) (n:Nm) (cv:Nat->Value) (j:Nat):Prop where
  is:Gl X "isinstance"
  mi:X.mg "isinstance"=none
  mv:X.mg "ValueError"=none
  hj:X.N[j]?=some (n.N.getD j "")
  vi:Vis X.env.scope (n.N.getD j "")
  nd:(n.N.getD j "" == ("__debug__":Str))=false
  nc:(n.N.getD j "" == ("__classdict__":Str))=false
  gc:∀ x c u,(x,Cn.exc c u) ∈ n.G->∃ a,X.mg x=some (.ref a) /\ cv c=.ref a
section
variable {X:Cx} {n:Nm} {cv:Nat->Value} {j:Nat}
end
noncomputable def E.noT:E->Bool
  | .tup _ _=>false
  | .ofL _=>false
  | _=>true
noncomputable def E.noC:E->Bool
  | .ofL (.comp _ _ _ _ _ _ _ _)=>false
  | _=>true
noncomputable def Fp.ok (n:Nm):Fp->Bool
  | .c _ _=>true
  | .r i _ _=>decide (i < n.N.length)
noncomputable def Ms.ok (n:Nm):Ms->Bool
  | .s _ _=>true
  | .f a b r _=>a.ok n && b.ok n && r.all (fun q=>q.ok n)
mutual
noncomputable def S.ok (sc:Scope) (n:Nm):S->Bool
  | .set i e _ _=>decide (i < n.N.length) && e.ok sc n
  | .ret e _=>e.ok sc n
  | .iff c a b _=>c.ok sc n && c.okT && a.ok sc n && b.ok sc n
  | .ex e _=>e.ok sc n && e.noC
  | .put o i v _ _=>o.ok sc n && i.ok sc n && v.ok sc n
  | .forr t it b _=>t.okS n.N && (it.ok sc n && t.forI it) && b.ok sc n
  | .whil c b _=>c.ok sc n && c.okT && b.ok sc n
  | .setT is e p1 _=>(Tg.tup is p1).okS n.N && e.ok sc n && e.noT
noncomputable def Ss.ok (sc:Scope) (n:Nm):Ss->Bool
  | .nil=>true
  | .cons s r=>s.ok sc n && r.ok sc n
end
theorem PS.mono {X:Cx} {e:Stmt} {t t':TS} (p:PS X e t) (h:∀ En σ H,t' En σ H->t En σ H):PS X e t':=fun pins s σ H En I q=>p pins s σ H En I (h En σ H q)
theorem PSs.mono {X:Cx} {e:List Stmt} {t t':TS} (p:PSs X e t) (h:∀ En σ H,t' En σ H->t En σ H):PSs X e t':=fun pins s σ H En I q=>p pins s σ H En I (h En σ H q)
structure KxS (X:Cx) (Z:ZK) (k:Nat) (n:Nm) (cv:Nat->Value) (cl:Nat->List D->Hh->Res D):Prop extends Kx X Z k n cv cl where
  lo:∀ x ∈ n.N,Loc X.env.scope x /\ (X.fn x=true \/ X.env.scope.names.lookup x=some .local)
theorem KxS.wish {X:Cx} {Z:ZK} {k:Nat} {n:Nm} {cv:Nat->Value} {cl:Nat->List D->Hh->Res D} (C:KxS X Z k n cv cl):KxS (X.wish (XE X Z)) Z k n cv cl :=
  ⟨⟨C.th.wished,C.rm,C.nN,C.nd,C.cm,C.kd,C.nm,C.bm,C.gc,C.fn,C.mc,C.xc⟩,C.lo⟩
section
variable {X:Cx} {Z:ZK} {k:Nat} {n:Nm} {cv:Nat->Value} {cl:Nat->List D->Hh->Res D}
theorem swaps_plain (e:E) (h:e.noC=true) (t:Option Expr) (l:Nat) (env:Env):swapsWith (e.py n) t l env=pure false:=by
  cases e with
  | ofL l =>
    cases l with
    | disp es p=>rfl
    | comp=>cases h
  | _=>rfl
theorem assign_sub (o i : E) (p1 : Pos) (env : Env) : ∀ v, assign (.Subscript (o.py n) (i.py n) p1) env v = (do
      let ov <- holding [v] (eval (o.py n) env)
      let iv <- holding [v,ov] (eval (i.py n) env)
      standAt p1
      holding [v,ov,iv] (setItem ov iv v)
      release [v,ov,iv] []):=by
  intro v
  generalize o.py n=oo
  cases i with
  | ofL l=>cases l <;> (rfl)
  | _=>rfl
theorem swaps_sole (o i e:E) (p1:Pos) (l:Nat) (env:Env):swapsWithSole [.Subscript (o.py n) (i.py n) p1] (e.py n) l env=pure false:=by
  generalize o.py n=oo
  generalize i.py n=ii
  cases e with
  | ofL l=>cases l <;> (rfl)
  | _=>rfl
theorem swapped_none (o i e:E) (p1:Pos) (env:Env):swappedStores [.Subscript (o.py n) (i.py n) p1] (e.py n) env=pure none:=by
  generalize o.py n=oo
  generalize i.py n=ii
  cases e with
  | ofL l=>cases l <;> (rfl)
  | _=>rfl
theorem swaps_T (ts:List Expr) (e:E) (h:e.noT=true) (k:Nat) (p1:Pos) (l:Nat) (env:Env):swapsWithSole [.Tuple ts k p1] (e.py n) l env=pure false:=by
  cases e with
  | ofL l=>cases h
  | tup es p=>cases h
  | _=>rfl
theorem swapped_T (ts:List Expr) (e:E) (h:e.noT=true) (k:Nat) (p1:Pos) (env:Env):swappedStores [.Tuple ts k p1] (e.py n) env=pure none:=by
  cases e with
  | ofL l=>cases h
  | tup es p=>cases h
  | _=>rfl
theorem while_ours {c:E} {b:Ss} {p:Pos} {En:Ends} {σ:St} {H:Hp} {μ:List Addr} {ρ:PI.En} {h:Hh} (hr:HR X.K μ h H) (er:ER X.K μ ρ σ H) (q:PostS X.K cv μ H ((S.whil c b p).run cl ρ h) En Z) :
    tWhile (lift X.K cv RB Z (c.evT cl)) (liftS X.K cv Z (b.run cl)) En σ H:=by
  have q:PostS X.K cv μ H (whR (fun ρ' h'=>c.evT cl ρ' h') (fun ρ' h'=>b.run cl ρ' h') ρ h) En Z:=q
  have nz:whR (fun ρ' h'=>c.evT cl ρ' h') (fun ρ' h'=>b.run cl ρ' h') ρ h ≠ .no:=fun z=>by rw [z] at q; exact q
  obtain ⟨n0,e0⟩:=whR_has nz
  rw [<- e0] at q
  refine ⟨fun m σ H=>∃ μ ρ h,HR X.K μ h H /\ ER X.K μ ρ σ H /\ PostS X.K cv μ H (whL (fun ρ' h'=>c.evT cl ρ' h') (fun ρ' h'=>b.run cl ρ' h') m ρ h) En Z,⟨n0,μ,ρ,h,hr,er,q⟩,?_⟩
  rintro m σ1 H1 ⟨μ1,ρ1,h1,hr1,er1,q1⟩
  cases m with
  | zero=>exact q1.elim
  | succ m =>
    rw [whL] at q1
    refine ⟨μ1,ρ1,h1,hr1,er1,?_⟩
    cases ec:c.evT cl ρ1 h1 with
    | ok t h2 =>
      rw [ec] at q1
      intro μ2 H2 x e2 r2 hx
      have hx':t=x:=hx
      subst hx'
      cases t with
      | false=>exact iteF (q1 μ2 H2 σ1 e2 r2 (er1.mono e2))
      | true =>
        refine iteT ⟨fun σ' H'=>∃ μ ρ h,HR X.K μ h H' /\ ER X.K μ ρ σ' H' /\ PostS X.K cv μ H' (whL (fun ρ' h'=>c.evT cl ρ' h') (fun ρ' h'=>b.run cl ρ' h') m ρ h) En Z,fun σ' H' z=>⟨m,Nat.lt_succ_self m,z⟩,μ2,ρ1,h2,r2,er1.mono e2,?_⟩
        simp only at q1
        have q2:=PostS.ext q1 e2
        cases eb:b.run cl ρ1 h2 with
        | nx ρ4 h4=>simp only [eb] at q2; exact fun μ4 H4 σ4 e4 r4 er4=>⟨μ4,ρ4,h4,r4,er4,PostS.ext q2 e4⟩
        | ct ρ4 h4=>simp only [eb] at q2; exact fun μ4 H4 σ4 e4 r4 er4=>⟨μ4,ρ4,h4,r4,er4,PostS.ext q2 e4⟩
        | bk ρ4 h4=>simp only [eb] at q2; exact q2
        | rt d h4=>simp only [eb] at q2; exact q2
        | ex c' ρ4 h4=>simp only [eb] at q2; exact q2
        | no=>simp only [eb] at q2; exact q2
    | exc k h2 =>
      rw [ec] at q1
      exact fun μ2 H2 e2 r2=>q1 μ2 H2 σ1 e2 r2 (er1.mono e2)
    | no=>rw [ec] at q1; exact q1
theorem ps_whileX {c:Expr} {body:List Stmt} {tc:TT} {tb:TS} {pos:Pos} (th:Thr X Z) (hc:PT (X.wish (XE X Z)) c tc) (hb:PSs (X.wish (XE X Z)) body tb):PS X (.While c body [] pos) (tWhile tc tb):=by
  intro pins s σ H D I h
  refine wpAny_mono (ps_while (X:=X.wish (XE X Z)) (passes_XE th.toXOk) hc hb pins s σ H D (I.wish _) h) (fun f s' q=>q.unwish) fun e s' x=>th.thr e s' x
theorem for_ours {t:Tg} {it:I} {b:Ss} {En:Ends} {σ:St} {H:Hp} {μ:List Addr} {ρ:PI.En} {h:Hh} (hr:HR X.K μ h H) (er:ER X.K μ ρ σ H) (q:PostS X.K cv μ H ((S.forr t it b p).run cl ρ h) En Z) :
    tFor (lift X.K cv (RJ X.K) Z (it.ev cl)) (gB X.K t) (liftS X.K cv Z (b.run cl)) En σ H:=by
  refine liftS_bind (m:=it.ev cl) hr er q fun qq h1 μ1 H1 J _ e1 r1 er1 src p1=>?_
  obtain ⟨c,ds⟩:=qq
  refine ⟨fun i m σ' H'=>m=ds.length - i /\ i<=ds.length /\ ∃ μ2 ρ2 h2,Ext X.K μ1 H1 μ2 H' /\ HR X.K μ2 h2 H' /\ ER X.K μ2 ρ2 σ' H' /\ PostS X.K cv μ2 H' (forL c (stepF t fun ρ' h'=>b.run cl ρ' h') (ds.drop i) ρ2 h2) En Z,
    ⟨ds.length,by simp,Nat.zero_le _,μ1,ρ,h1,Ext.refl,r1,er1,p1⟩,?_⟩
  rintro i m σ' H' ⟨rfl,hi,μ2,ρ2,h2,e2,r2,er2,p2⟩
  by_cases hlt:i < ds.length
  · right
    rw [List.drop_eq_getElem_cons hlt] at p2
    unfold forL at p2
    split at p2
    rotate_left
    · exact p2.elim
    rename_i st
    obtain ⟨s1,s2⟩:=src μ2 h2 H' e2 r2 st
    obtain ⟨g1,g2⟩:=s1 i ds[i] (List.getElem?_eq_getElem hlt)
    refine ⟨g1,fun σ3 H3=>ds.length - (i + 1)=ds.length - (i + 1) /\ i + 1<=ds.length /\ ∃ μ3 ρ3 h3,Ext X.K μ1 H1 μ3 H3 /\ HR X.K μ3 h3 H3 /\ ER X.K μ3 ρ3 σ3 H3 /\ PostS X.K cv μ3 H3 (forL c (stepF t fun ρ' h'=>b.run cl ρ' h') (ds.drop (i + 1)) ρ3 h3) En Z,
      fun σ3 H3 z=>⟨ds.length - (i + 1),by omega,z⟩,fun x H3 y=>?_⟩
    obtain ⟨e2',r2',rx⟩:=g2 x H3 y
    replace p2:=PostS.ext p2 e2'
    replace e2:=e2.trans e2'
    replace r2:=r2'
    replace er2:=er2.mono e2'
    unfold stepF at p2
    cases eb:bindT t ds[i] ρ2 with
    | none=>rw [eb] at p2; exact p2.elim
    | some ρ3 =>
      rw [eb] at p2
      refine ⟨μ2,ρ2,ds[i],ρ3,h2,r2,er2,rx,eb,fun σ3 er3 _ _=>⟨μ2,ρ3,h2,r2,er3,?_⟩⟩
      cases eo:b.run cl ρ3 h2 with
      | nx ρ4 h4 =>
        simp only [eo] at p2
        exact fun μ4 H4 σ4 e4 r4 er4=>⟨rfl,hlt,μ4,ρ4,h4,e2.trans e4,r4,er4,PostS.ext p2 e4⟩
      | ct ρ4 h4 =>
        simp only [eo] at p2
        exact fun μ4 H4 σ4 e4 r4 er4=>⟨rfl,hlt,μ4,ρ4,h4,e2.trans e4,r4,er4,PostS.ext p2 e4⟩
      | bk ρ4 h4=>simp only [eo] at p2; exact p2
      | rt d h4=>simp only [eo] at p2; exact p2
      | ex c' ρ4 h4=>simp only [eo] at p2; exact p2
      | no=>simp only [eo] at p2; exact p2
  · left
    have ei:i=ds.length:=by omega
    subst ei
    rw [List.drop_length] at p2
    unfold forL at p2
    split at p2
    rotate_left
    · exact p2.elim
    rename_i st
    exact ⟨(src μ2 h2 H' e2 r2 st).2,p2 μ2 H' σ' Ext.refl r2 er2⟩
mutual
theorem sS:∀ (s:S) (X:Cx) (Z:ZK) (k:Nat) (n:Nm) (cv:Nat->Value) (cl:Nat->List D->Hh->Res D),KxS X Z k n cv cl->s.ok X.env.scope n=true->PS X (s.py n) (liftS X.K cv Z (s.run cl))
  | .set i e p1 p,X,Z,k,n,cv,cl,C,h=>by
    have h':i < n.N.length /\ e.ok X.env.scope n=true:=by have h:(_ && _)=true:=h; simpa using h
    have hm:=C.lo _ (getD_mem (d:=("":Str)) h'.1)
    have hN:X.N[i]?=some (n.N.getD i ""):=by rw [C.nN]; exact getD_some h'.1
    have plain:swapsWith (e.py n) (some (.Name (n.N.getD i "") p1)) p.line X.env=pure false->PS X ((S.set i e p1 p).py n) (liftS X.K cv Z ((S.set i e p1 p).run cl)):=fun hs=>by
      have se:=sE e X Z k n cv cl C.toKx h'.2
      refine PS.mono (ps_set (i:=i) C.nd hN hm.1 se.pe hs hm.2) fun En σ H=>liftS_elim fun μ ρ h hr er q=>?_
      refine liftS_bind (m:=e.ev cl) hr er q fun d h1 μ1 H1 x _ e1 r1 er1 qa p1=>?_
      exact p1 μ1 H1 _ Ext.refl r1 (er1.set qa i)
    cases hn:e.noC with
    | true=>exact plain (swaps_plain e hn _ _ _)
    | false =>
      cases e with
      | ofL l =>
        cases l with
        | disp es pp=>cases hn
        | comp elt t it c NC cap csc pp =>
          have hL:(L.comp elt t it c NC cap csc pp).ok X.env.scope n=true:=by exact h'.2
          obtain ⟨b,eb,hb⟩:∃ b,swapsWith ((E.ofL (.comp elt t it c NC cap csc pp)).py n) (some (.Name (n.N.getD i "") p1)) p.line X.env=pure b /\ (b=true->X.env.scope.names.lookup (n.N.getD i "")=some .local):=by
            refine ⟨_,by rfl,fun z=>?_⟩
            simp only [Bool.and_eq_true,beq_iff_eq] at z
            exact z.1.1.2
          cases b with
          | false=>exact plain eb
          | true =>
            obtain ⟨k1,k2,k3,k4,k5,k6,k7,k8,k9⟩:=comp_ok C.toKx hL
            have hit:=sI it X Z k n cv cl C.toKx k1.1 t k1.2 NC
            have hff:∀ Cc s H fp pn xe Zc,Thr (compCx X NC csc Cc s H fp pn xe) Zc->PF (compCx X NC csc Cc s H fp pn xe) (c.py ⟨NC,n.F,n.G⟩) (lift X.K cv RB Zc (c.evC cl)):=fun Cc s H fp pn xe Zc th=>by
              have Cc':=C.toKx.comp k2 k3 k4 th
              cases c with
              | nil=>exact pf_none
              | cons e r =>
                cases r with
                | cons _ _=>cases k9
                | nil =>
                  have se:=sE e _ Zc k ⟨NC,n.F,n.G⟩ cv cl Cc' (by have k7:(_ && _)=true:=k7; simp at k7; exact k7.1)
                  have ht:=se.pt (by have k8:(_ && _)=true:=k8; simp at k8; exact k8.1)
                  exact pf_one ht
            have key:=ps_setC (X:=X) (i:=i) (cap:=cap) (pos:=pp) (pos':=p1) (spos:=p) (g:=gB X.K t) (tf:=fun Zc=>lift X.K cv RB Zc (c.evC cl)) (te:=fun Zc=>lift X.K cv (Rep X.K) Zc (elt.ev cl)) C.cm C.th hit k2 (fun Cc s H fp pn xe=>comp_pg C.kd k2 k3 k5) hff
              (fun Cc s H fp pn xe Zc th=>(sE elt _ Zc k ⟨NC,n.F,n.G⟩ cv cl (C.toKx.comp k2 k3 k4 th) k6).pe) (fold_plain it) C.nd hN (hb rfl) eb
            refine PS.mono key fun En σ H=>liftS_elim fun μ ρ h hr er q=>read_comp k2 k5 ⟨μ,ρ,h,hr,er,?_⟩
            have q:PostS X.K cv μ H (andS ρ (((L.comp elt t it c NC cap csc pp).ev cl ρ h).bind fun xs h1=>new (.lst xs) h1) fun d h1=>.nx (ρ.set i (some d)) h1) En Z:=q
            show PostE X.K cv (RL X.K H) μ H ((L.comp elt t it c NC cap csc pp).ev cl ρ h) _ (Z σ)
            cases el:(L.comp elt t it c NC cap csc pp).ev cl ρ h with
            | ok ds h1 =>
              rw [el] at q
              intro μ1 H1 x e1 r1 ⟨pa,vs,ex,g1,g2,g3,g4⟩
              subst ex
              have er1:ER X.K (μ1 ++ [pa]) ρ σ H1:=er.mono (e1.add g4)
              refine q (μ1 ++ [pa]) H1 _ (e1.add g4) (r1.add g3 fun μ' gr=>⟨vs,g1,g2.mono' gr⟩) (er1.set (.loc ?_) i)
              rw [<- r1.len,List.getElem?_append_right (Nat.le_refl _),Nat.sub_self]
              rfl
            | exc cc h1=>rw [el] at q; exact fun μ1 H1 e1 r1=>q μ1 H1 σ e1 r1 (er.mono e1)
            | no=>rw [el] at q; exact q
      | _=>cases hn
  | .ret e p,X,Z,k,n,cv,cl,C,h=>by
    have se:=sE e X Z k n cv cl C.toKx (by exact h)
    refine PS.mono (ps_ret se.pe) fun En σ H=>liftS_elim fun μ ρ h hr er q=>?_
    refine liftS_bind (m:=e.ev cl) hr er q fun d h1 μ1 H1 x _ e1 r1 er1 qa p1=>?_
    exact p1 μ1 H1 x Ext.refl r1 qa
  | .iff c a b p,X,Z,k,n,cv,cl,C,h=>by
    have h':((c.ok X.env.scope n=true /\ c.okT=true) /\ a.ok X.env.scope n=true) /\ b.ok X.env.scope n=true:=by have h:(_ && _)=true:=h; simpa using h
    have sc:=sE c X Z k n cv cl C.toKx h'.1.1.1
    have sa:=sSs a X Z k n cv cl C h'.1.2
    have sb:=sSs b X Z k n cv cl C h'.2
    refine PS.mono (ps_if (sc.pt h'.1.1.2) sa sb) fun En σ H=>liftS_elim fun μ ρ h hr er q=>?_
    refine liftS_bind (m:=c.evT cl) (R:=RB) hr er q fun t h1 μ1 H1 x _ e1 r1 er1 qa p1=>?_
    have qa':t=x:=qa
    subst qa'
    cases t with
    | true=>exact iteT ⟨μ1,ρ,h1,r1,er1,p1⟩
    | false=>exact iteF ⟨μ1,ρ,h1,r1,er1,p1⟩
  | .ex e p,X,Z,k,n,cv,cl,C,h=>by
    have h':e.ok X.env.scope n=true /\ e.noC=true:=by have h:(_ && _)=true:=h; simpa using h
    have se:=sE e X Z k n cv cl C.toKx h'.1
    refine PS.mono (ps_expr se.pe (swaps_plain e h'.2 _ _ _)) fun En σ H=>liftS_elim fun μ ρ h hr er q=>?_
    refine liftS_bind (m:=e.ev cl) hr er q fun d h1 μ1 H1 x _ e1 r1 er1 qa p1=>?_
    exact p1 μ1 H1 _ Ext.refl r1 er1
  | .put o i v p1 p,X,Z,k,n,cv,cl,C,h=>by
    have h':(o.ok X.env.scope n=true /\ i.ok X.env.scope n=true) /\ v.ok X.env.scope n=true:=by have h:(_ && _)=true:=h; simpa using h
    have so:=sE o X Z k n cv cl C.toKx h'.1.1
    have si:=sE i X Z k n cv cl C.toKx h'.1.2
    have sv:=sE v X Z k n cv cl C.toKx h'.2
    refine PS.mono (ps_asg sv.pe (pg_sub so.pe si.pe (set_ours (hu_of C.rm)) (assign_sub o i p1 _)) (swaps_sole o i v p1 _ _) (swapped_none o i v p1 _) rfl) fun En σ H=>liftS_elim fun μ ρ h hr er q=>?_
    refine liftS_bind (m:=v.ev cl) hr er q fun z h1 μ1 H1 x _ e1 r1 er1 qz p1=>?_
    refine liftS_bind (m:=o.ev cl) r1 er1 p1 fun a h2 μ2 H2 y _ e2 r2 er2 qa p2=>?_
    refine liftS_bind (m:=i.ev cl) r2 er2 p2 fun b h3 μ3 H3 w _ e3 r3 er3 qb p3=>?_
    cases e:putS a b z h3 with
    | none=>rw [e] at p3; exact p3.elim
    | some h4 =>
      rw [e] at p3
      exact ⟨μ3,h3,a,b,z,h4,r3,qa.mono e3,qb,(qz.mono e2).mono e3,e,fun μ4 H4 e4 r4=>p3 μ4 H4 σ e4 r4 (er3.mono e4)⟩
  | .forr t it b p,X,Z,k,n,cv,cl,C,h=>by
    have h':(t.okS n.N=true /\ it.ok X.env.scope n=true /\ t.forI it=true) /\ b.ok X.env.scope n=true:=by have h:(_ && _)=true:=h; simpa using h
    have hi:=sI it _ Z k n cv cl C.wish.toKx h'.1.2.1 t h'.1.2.2 n.N
    have hb:=sSs b _ Z k n cv cl C.wish h'.2
    have hg:PG (X.wish (XE X Z)) (t.py n.N) (gB X.K t):=by
      have z:=pg_T (X:=X.wish (XE X Z)) C.cm C.nd t fun i hi=>by
        have h1:=List.all_eq_true.mp h'.1.1 i hi
        have hl:i < n.N.length:=of_decide_eq_true h1
        have hm:=C.lo _ (getD_mem (d:=("":Str)) hl)
        have eN:(X.wish (XE X Z)).N=n.N:=C.nN
        rw [eN]
        exact ⟨hl,hm⟩
      rw [show (X.wish (XE X Z)).N=n.N from C.nN] at z
      exact z
    exact PS.mono (ps_forX C.th C.cm hi hg hb (fold_plain it)) fun En σ H=>liftS_elim fun μ ρ h hr er q=>for_ours (p:=p) hr er q
  | .whil c b p,X,Z,k,n,cv,cl,C,h=>by
    have h':(c.ok X.env.scope n=true /\ c.okT=true) /\ b.ok X.env.scope n=true:=by have h:(_ && _)=true:=h; simpa using h
    have sc:=sE c _ Z k n cv cl C.wish.toKx h'.1.1
    have hb:=sSs b _ Z k n cv cl C.wish h'.2
    exact PS.mono (ps_whileX C.th (sc.pt h'.1.2) hb) fun En σ H=>liftS_elim fun μ ρ h hr er q=>while_ours (p:=p) hr er q
  | .setT is e p1 p,X,Z,k,n,cv,cl,C,h=>by
    have h':((Tg.tup is p1).okS n.N=true /\ e.ok X.env.scope n=true) /\ e.noT=true:=by have h:(_ && _)=true:=h; simpa using h
    have se:=sE e X Z k n cv cl C.toKx h'.1.2
    have hg:PG X ((Tg.tup is p1).py n.N) (fun v σ H Q=>∃ μ ρ d ρ' h,HR X.K μ h H /\ ER X.K μ ρ σ H /\ Rep X.K μ H d v /\ bindT (.tup is p1) (unpD d h) ρ=some ρ' /\ ∀ σ',ER X.K μ ρ' σ' H->Q σ' H):=by
      have z:=pg_TL (X:=X) C.cm C.nd is p1 fun i hi=>by
        have h1:=List.all_eq_true.mp h'.1.1 i hi
        have hl:i < n.N.length:=of_decide_eq_true h1
        have hm:=C.lo _ (getD_mem (d:=("":Str)) hl)
        rw [C.nN]
        exact ⟨hl,hm⟩
      rw [C.nN] at z
      exact z
    refine PS.mono (ps_asg se.pe hg (swaps_T _ e h'.2 _ _ _ _) (swapped_T _ e h'.2 _ _ _) rfl) fun En σ H=>liftS_elim fun μ ρ h hr er q=>?_
    refine liftS_bind (m:=e.ev cl) hr er q fun d h1 μ1 H1 x _ e1 r1 er1 qa q1=>?_
    cases eb:bindT (.tup is p1) (unpD d h1) ρ with
    | none=>rw [eb] at q1; exact q1.elim
    | some ρ' =>
      rw [eb] at q1
      exact ⟨μ1,ρ,d,ρ',h1,r1,er1,qa,eb,fun σ' er'=>q1 μ1 H1 σ' Ext.refl r1 er'⟩
theorem sSs:∀ (s:Ss) (X:Cx) (Z:ZK) (k:Nat) (n:Nm) (cv:Nat->Value) (cl:Nat->List D->Hh->Res D),KxS X Z k n cv cl->s.ok X.env.scope n=true->PSs X (s.py n) (liftS X.K cv Z (s.run cl))
  | .nil,X,Z,k,n,cv,cl,C,_=>by
    refine PSs.mono pss_nil fun En σ H=>liftS_elim fun μ ρ h hr er q=>?_
    exact q μ H σ Ext.refl hr er
  | .cons s r,X,Z,k,n,cv,cl,C,h=>by
    have h':s.ok X.env.scope n=true /\ r.ok X.env.scope n=true:=by have h:(_ && _)=true:=h; simpa using h
    have ss:=sS s X Z k n cv cl C h'.1
    have sr:=sSs r X Z k n cv cl C h'.2
    refine PSs.mono (pss_cons ss sr) fun En σ H=>liftS_elim fun μ ρ h hr er q=>?_
    have q:PostS X.K cv μ H (seqS (s.run cl ρ h) fun ρ' h'=>r.run cl ρ' h') En Z:=q
    refine ⟨μ,ρ,h,hr,er,?_⟩
    cases e:s.run cl ρ h with
    | nx ρ' h1 =>
      rw [e] at q
      exact fun μ1 H1 σ1 e1 r1 er1=>⟨μ1,ρ',h1,r1,er1,PostS.ext q e1⟩
    | bk ρ' h1=>rw [e] at q; exact q
    | ct ρ' h1=>rw [e] at q; exact q
    | rt d h1=>rw [e] at q; exact q
    | ex c ρ' h1=>rw [e] at q; exact q
    | no=>rw [e] at q; exact q
end
end
end PI
set_option Elab.async false
set_option linter.all false
set_option maxRecDepth 100000
set_option maxHeartbeats 4000000
namespace PI
open PySem L2 PySem.Spec
open PyProof.Rows hiding St
section
variable {X:Cx} {Z:ZK} {k:Nat} {n:Nm} {cv:Nat->Value} {cl:Nat->List D->Hh->Res D}
noncomputable def okD (b:Ss) (sc:Scope) (n:Nm) (ps:List Str):Bool:=b.ok sc n
end
structure DefOk (st:Stmt) (d:Df) (F:List Str) (G:List (Str × Cn)) (nm q:Str):Prop where
  body:defBody st=d.body.py ⟨d.N,F,G⟩
  sc:FnScope d.N d.ps (defScope st)
  ok:okD d.body (defScope st) ⟨d.N,F,G⟩ d.ps=true
  nms:∀ x ∈ d.N,((defScope st).names.lookup x=some .local \/ (defScope st).names.lookup x=some .cell) /\ goodN x=true
  bd:∀ (kV doc pm:Value) (an:Option Addr) (cdv ct:Value) (us:List Value),us.length=d.ps.length ->
    bindArgs (PySem.W.fnOf nm q (defArgs st) (defBody st) (defScope st) .none kV doc pm an cdv ct) ⟨us,[]⟩=pure (d.ps.zip us)
structure Tab (P:Program) (w:World) (K:PySem.W.Frag) (mg:Str->Option Value) (ds:List Df) (G:List (Str × Cn)):Prop where
  bm:∀ x,x ∈ bnames->mg x=none
  gc:∀ x c,(x,c) ∈ G->(x == ("__debug__":Str))=false /\ ∃ v,mg x=some v /\ CnOk P w K v c
  fn:∀ (i:Nat) d,ds[i]?=some d->(G.any fun q=>decide (q.2=Cn.cls i))=false->(d.name == ("__debug__":Str))=false /\ ∃ st f fd,mg d.name=some (.ref f) /\ PySem.W.nsIn K mainGlobals d.name=some (some (.ref f)) /\ Fun K d.name d.name st f fd /\ DefOk st d (ds.map (·.name)) G d.name d.name
  mc:∀ x i,(x,Cn.cls i) ∈ G->(x == ("__debug__":Str))=false /\ ∃ d st C f fd nm q,ds[i]?=some d /\ mg x=some (.ref C) /\ Mk K C f /\ ClsN K x C /\ Fun K nm q st f fd /\ DefOk st d (ds.map (·.name)) G nm q
theorem er_start {K:PySem.W.Frag} {μ:List Addr} {H:Hp} {as:List D} {vs:List V} (N:List Str) (r:Reps K μ H as vs):ER K μ (as.map some ++ List.replicate (N.length - as.length) none) (L2.start N vs) H:=by
  unfold L2.start
  refine ⟨by simp [r.length],fun i d h=>?_⟩
  rw [List.getElem?_append] at h ⊢
  rw [List.length_map] at h ⊢
  rw [<- r.length]
  split at h
  · rename_i c
    rw [if_pos c]
    rw [List.getElem?_map] at h ⊢
    cases e:as[i]? with
    | none=>rw [e] at h; cases h
    | some a =>
      rw [e] at h
      cases h
      obtain ⟨v,e1,e2⟩:=r.get e
      rw [e1]
      exact ⟨v,rfl,e2⟩
  · exfalso
    rw [List.getElem?_replicate] at h
    split at h <;> cases h
theorem callI_len {ds:List Df} {k i:Nat} {d:Df} (hd:ds[i]?=some d):∀ as h,callI ds k i as h ≠ .no->as.length=d.ps.length:=by
  intro as h q
  cases k with
  | zero=>exact absurd rfl q
  | succ k =>
    unfold callI at q
    rw [hd] at q
    by_cases c:as.length=d.ps.length
    · exact c
    · exact absurd (if_neg c) q
section
variable {P:Program} {w:World} {K:PySem.W.Frag} {mg:Str->Option Value} {base:Heap} {ds:List Df} {G:List (Str × Cn)} {cv:Nat->Value}
noncomputable def ExcOk (K:PySem.W.Frag) (mg:Str->Option Value) (cv:Nat->Value) (G:List (Str × Cn)):Prop:=∀ x c u,(x,Cn.exc c u) ∈ G->mg x=some (cv c) /\ (∀ D ∈ u,∃ a d,cv c=.ref a /\ cv D=.ref d /\ Under K a d) /\ ∃ a,cv c=.ref a /\ TstK K G cv a u
noncomputable def isExc:Cn->Bool
  | .exc _ _=>true
  | _=>false
theorem no_exc (h:(G.all fun q=>!isExc q.2)=true):ExcOk K mg cv G:=fun x c u hm=>by
  have:=List.all_eq_true.mp h _ hm
  cases this
theorem all_fn (T:Tab P w K mg ds G) (XC:ExcOk K mg cv G):∀ (k i:Nat) (d:Df) (nm qn:Str) (st:Stmt) (f:Addr) (fd:FuncData),ds[i]?=some d->Fun K nm qn st f fd->DefOk st d (ds.map (·.name)) G nm qn ->
    FnOk P w K mg base (CXs P w) (2 * k) f fd d.ps (spI K cv d.ps.length (callI ds k i))
  | 0,i,d,nm,qn,st,f,fd,hd,F,o=>by
    have no:∀ vs H Q E,¬ spI K cv d.ps.length (callI ds 0 i) vs H Q E:=fun vs H Q E ⟨_,_,_,_,_,_,z⟩=>z
    exact ⟨fun vs H Q E h=>absurd h (no vs H Q E),fun A outer s H args us vs Q E _ _ _ _ h=>absurd h (no vs H Q E)⟩
  | k + 1,i,d,nm,qn,st,f,fd,hd,F,o=>by
    have KC:∀ (cdv:Value) (A:Around) (outer:List Env) (s:Shared) (H:Hp) (E:XK),Room (2 * k + 1) (A.deeper (envOfC qn (defScope st) s.heap.objs.size f cdv))->KxS (cxOf (CXs P w) P w K mg base d.N qn (defScope st) f cdv A outer s H E) (fun _ C H'=>E C none H') k ⟨d.N,ds.map (·.name),G⟩ cv (callI ds k):=fun cdv A outer s H E hr=>by
      refine ⟨⟨thr_def,hr,rfl,o.sc.nd,rfl,o.sc.kind,fun x hx=>⟨(o.nms x hx).1.elim .inl fun z=>.inr (.inl z),(o.nms x hx).2⟩,T.bm,T.gc,fun j x hj hnc=>?_,fun x j hx=>?_,fun x c u hm=>XC x c u hm⟩,fun x hx=>⟨(o.nms x hx).1,.inl rfl⟩⟩
      rotate_left
      · obtain ⟨h1,d',st',C',f',fd',nm',q',e',m',M',N',F',o'⟩:=T.mc x j hx
        exact ⟨h1,C',f',fd',d'.ps,m',M',N',F'.binds o'.bd,callI_len e',all_fn T XC k j d' nm' q' st' f' fd' e' F' o'⟩
      have hj':(ds.map (·.name))[j]?=some x:=hj
      rw [List.getElem?_map] at hj'
      cases e:ds[j]? with
      | none=>rw [e] at hj'; cases hj'
      | some d' =>
        rw [e] at hj'
        cases hj'
        obtain ⟨h1,st',f',fd',m',s',F',o'⟩:=T.fn j d' e hnc
        exact ⟨h1,f',fd',d'.ps,m',s',F'.kp,F'.binds o'.bd,callI_len e,all_fn T XC k j d' _ _ st' f' fd' e F' o'⟩
    have fin:∀ {H:Hp} {vs:List V} {Q:VK} {E:XK},spI K cv d.ps.length (callI ds (k + 1) i) vs H Q E->liftS K cv (fun _ C H'=>E C none H') (d.body.run (callI ds k)) { nx:=fun _ H'=>Q .non H',rt:=Q } (L2.start d.N vs) H:=fun {H vs Q E} h=>by
      obtain ⟨hl,μ,h,as,hH,hv,p⟩:=h
      refine ⟨μ,_,h,hH,er_start d.N hv,?_⟩
      have c:as.length=d.ps.length:=by rw [hv.length]; exact hl
      rw [callI_succ hd c] at p
      have p1:=p
      unfold Df.run outR at p1
      cases e:d.body.run (callI ds k) (as.map some ++ List.replicate (d.N.length - as.length) none) h with
      | nx ρ h1=>rw [e] at p1; exact fun μ1 H1 σ1 e1 r1 er1=>p1 μ1 H1 .non e1 r1 .non
      | rt v h1=>rw [e] at p1; exact p1
      | ex c ρ h1=>rw [e] at p1; exact fun μ1 H1 σ1 e1 r1 er1=>p1 μ1 H1 e1 r1
      | bk ρ h1=>rw [e] at p1; exact p1.elim
      | ct ρ h1=>rw [e] at p1; exact p1.elim
      | no=>rw [e] at p1; exact p1.elim
    exact F.okX o.sc (fun vs H Q E h=>h.1) fun cdv A outer s H vs Q E hr h=>⟨_,by rw [o.body]; exact sSs d.body _ _ _ _ _ _ (KC cdv A outer s H E hr) o.ok,fin h⟩
end
noncomputable def EntsOk (w:World) (K:PySem.W.Frag):List DictEntry->List (Str × Cv)->Prop
  | [],[]=>True
  | e :: r,kx :: s=>(e.hash=hashStr w kx.1 /\ (∃ t,e.key=.str kx.1 t) /\ CvOk K e.val kx.2) /\ EntsOk w K r s
  | _,_=>False
theorem ents_pairs {P:Program} {w:World} {K:PySem.W.Frag}:∀ {es:List DictEntry} {kvs:List (Str × Cv)},EntsOk w K es kvs->∃ vs,Pairs (mixKind P w) es vs /\ DicV K kvs vs /\ vs.map (·.1)=kvs.map (fun kx=>(Sum.inr kx.1:Key)) /\ ∀ e ∈ es,∃ k,(mixKind P w).is k e.key=true /\ e.hash=(mixKind P w).hash k
  | [],[],_=>⟨[],.nil,trivial,rfl,fun e h=>absurd h (by simp)⟩
  | [],_ :: _,h=>h.elim
  | _ :: _,[],h=>h.elim
  | e :: r,(k,xs) :: s,⟨⟨h1,⟨t,h2⟩,h4⟩,h5⟩=>by
    obtain ⟨vs,p,d,n,ks⟩:=ents_pairs (P:=P) h5
    have ik:(mixKind P w).is (.inr k) e.key=true:=kV_is (k:=.inr k) ⟨t,h2⟩
    refine ⟨(.inr k,e.val) :: vs,.cons ik rfl p,⟨rfl,h4,d⟩,by simp [n],fun e' he=>?_⟩
    rcases List.mem_cons.mp he with rfl | he
    · exact ⟨_,ik,h1⟩
    · exact ks e' he
theorem cn_dic {P:Program} {w:World} {K:PySem.W.Frag} {a:Addr} {es:Array DictEntry} {ep:Nat} {kvs:List (Str × Cv)} (l:K.lookup a=some { cls:=.type "dict",data:=.dict es ep }) (h:EntsOk w K es.toList kvs) (nd:(kvs.map (·.1)).Nodup) :
    CnOk P w K (.ref a) (.dic kvs):=by
  obtain ⟨vs,p,d,n,ks⟩:=ents_pairs (P:=P) h
  refine ⟨a,_,es,ep,vs,rfl,l,⟨rfl,rfl,rfl⟩,rfl,fun e he=>ks e (by simpa using he),p,?_,d⟩
  rw [n]
  have e:kvs.map (fun kx=>(Sum.inr kx.1:Key))=(kvs.map (·.1)).map fun k=>(Sum.inr k:Key):=by simp
  rw [e]
  exact List.Pairwise.map _ (fun x y hxy z=>hxy (Sum.inr.inj z)) nd
theorem bits_of_W:∀ {ns:List Int},PySem.W.WData.weightAll (ns.map PySem.W.WData.int)<=2 ^ 20->∀ n ∈ ns,Builtin.Int.intBits n<=2 ^ 20
  | [],_,n,hn=>absurd hn (by simp)
  | m :: r,h,n,hn=>by
    rw [List.map_cons,PySem.W.WData.weightAll] at h
    rcases List.mem_cons.mp hn with rfl | hn
    · have e:PySem.W.WData.weight (.int n)=Builtin.Int.intBits n:=by rw [PySem.W.WData.weight]; rfl
      omega
    · exact bits_of_W (by omega) n hn
noncomputable def spLaw (K:PySem.W.Frag) (cv:Nat->Value) (c:List D->Hh->Res D):Sp:=spI K cv 1 c
theorem law_sp {K:PySem.W.Frag} {cv:Nat->Value} {c:List D->Hh->Res D} {H:Hp} {a:Addr} {ns:List Int} {h':Hh} (hO:Only H) (hS:SqL K H a (ns.map V.int)) (e:c [.fl (ns.map D.int)] []=.ok (.bl true) h') :
    spLaw K cv c [.ref a] H (fun v _=>v=.bl true) (fun _ _ _=>False):=by
  have rp:∀ ms:List Int,Reps K [] H (ms.map D.int) (ms.map V.int):=fun ms=>by
    induction ms with
    | nil=>exact .nil
    | cons m r ih=>exact .cons (.int m) ih
  have fz:Fz K H a (ns.map V.int):=by
    rcases hS with h | h
    · left
      rcases h with h | h
      · rcases hO a with z | ⟨o,xs,z⟩
        · rw [h] at z; cases z
        · rw [h] at z; cases z
      · exact h
    · exact .inr fun H'=>.inr h
  refine ⟨rfl,[],[],[.fl (ns.map D.int)],⟨rfl,fun n m b e1=>by simp at e1,fun n b o e1=>by simp at e1⟩,.cons (.fl fz (rp ns)) .nil,?_⟩
  · rw [e]
    intro μ1 H1 v e1 r1 q1
    cases q1
    rfl
theorem walk_ofB {l:PySem.W.OpenLaw} {k:Nat} {q:Program} {loose:List Str} {XP:(Str->Option Value)->Heap->Prop} {YP:World->Heap->Prop} {d:DefRec} {K:Params->PySem.W.Frag} {c:List D->Hh->Res D} {x:Str}
    (hn:l.most=some 63) (hdf:d.params.defaults=[]) (hr:Room k callerA)
    (hY:∀ (w:World) (h:Heap),YP w h->(K w.params).In h)
    (F:∀ (w:World) (mg:Str->Option Value) (fa:Addr) (h:Heap),(K w.params).In h->h.Ns mainGlobals mg->mg d.name=some (.ref fa) ->
      ∃ (cv:Nat->Value) (fd:FuncData),(∀ (s:Shared) (u:Value),BindsTo s fd ⟨[u],[]⟩ [(x,u)]) /\
        ∀ base:Heap,(K w.params).In base->base.Ns mainGlobals mg->FnOk l.prog w (K w.params) mg base (CXs l.prog w) k fa fd [x] (spLaw (K w.params) cv c))
    (hc:∀ ns:List Int,ns.length<=63->(∀ n ∈ ns,Builtin.Int.intBits n<=2 ^ 20)->∃ h',c [.fl (ns.map D.int)] []=.ok (.bl true) h') :
    PySem.W.WalkO q loose XP YP l.row.toRowW d [] (fun f vs=>PySem.call f vs):=by
  intro w s₀ s₁ mg mb G Y fa o pm cd doc dV kV ho hd hcd hD hmg hg args vals as hpre hlay hrd hwl hlo
  obtain rfl:dV=.none:=PySem.W.Dflts.none hD hdf
  obtain rfl:kV=.none:=PySem.W.Dflts.noKw hD
  obtain ⟨a,vs,ns,rfl,rfl,hobj,hints,hlen⟩:=Att.script_of hn hpre hwl
  have hbits:∀ n ∈ ns,Builtin.Int.intBits n<=2 ^ 20:=by
    have h1:PySem.W.WData.layable (.list (ns.map .int))=true:=by
      have:=hlay
      unfold PySem.W.WData.layableAll at this
      simpa using this
    have h2:=(PySem.W.layableW_iff.mp h1).2.2
    exact bits_of_W (by simpa [PySem.W.WData.weight] using h2)
  have KX:=hY w _ Y
  obtain ⟨cv,fd,hb,hF⟩:=F w mg fa _ KX G.T.g hmg
  obtain ⟨h',e⟩:=hc ns hlen hbits
  refine PySem.W.enter_call (codeAny_mono (law_call KX G.T.g G.T.b G.T.builtins G.T.nolimit hg hobj hints (Nat.le_trans hlen (by decide)) hr hF hb (fun H hO hS=>law_sp hO hS e) (fun H e' s' z=>by
    obtain ⟨_,_,_,_,_,_,_,_,_,_,_,z⟩:=z
    exact z)) fun r s' hq=>?_)
  obtain ⟨rfl,h2,h3,h4⟩:=hq
  exact ⟨.inl ⟨.bool true,.bool true,[],rfl,fun _=>rfl,.bool true,Att.post_true l _,fun _=>⟨List.Pairwise.nil,fun _ hm=>(nomatch hm)⟩⟩,h2,h3,h4⟩
end PI
set_option Elab.async false
set_option linter.all false
set_option maxRecDepth 100000
namespace PI
open PySem L2
section
variable {cl:Nat->List D->Hh->Res D}
theorem vvar {i z0 ρ h}:E.ev cl (.var i z0) ρ h=match ρ[i]? with | some (some d)=>.ok d h | _=>.no:=rfl
theorem vcall {f a r z0 z1 ρ h}:E.ev cl (.call f a r z0 z1) ρ h=(a.ev cl ρ h).bind fun x h1=>(r.ev cl ρ h1).bind fun xs h2=>cl f (x :: xs) h2:=rfl
theorem vofL {l ρ h}:E.ev cl (.ofL l) ρ h=(l.ev cl ρ h).bind fun xs h1=>new (.lst xs) h1:=rfl
theorem vm0 {m o z0 z1 ρ h}:E.ev cl (.m0 m o z0 z1) ρ h=(o.ev cl ρ h).bind fun x h1=>m0D m x h1:=rfl
theorem vm1 {m o a z0 z1 ρ h}:E.ev cl (.m1 m o a z0 z1) ρ h=(o.ev cl ρ h).bind fun x h1=>onL x h1 ((a.ev cl ρ h1).bind fun y h2=>m1D m x y h2):=rfl
theorem vcmpN {neg a z0 z1 ρ h}:E.ev cl (.cmpN neg a z0 z1) ρ h=(a.ev cl ρ h).bind fun x h1=>nilD neg x h1:=rfl
theorem ldisp {es z0 ρ h}:L.ev cl (.disp es z0) ρ h=(es.ev cl ρ h).bind fun xs h1=>if xs.length<=1000 then .ok xs h1 else .no:=rfl
theorem enil {z0 h}:Es.ev cl .nil z0 h=.ok [] h:=rfl
theorem econs {e r ρ h}:Es.ev cl (.cons e r) ρ h=(e.ev cl ρ h).bind fun x h1=>(r.ev cl ρ h1).bind fun xs h2=>.ok (x :: xs) h2:=rfl
theorem yset {i e z0 z1 ρ h}:S.run cl (.set i e z0 z1) ρ h=andS ρ (e.ev cl ρ h) fun d h1=>.nx (ρ.set i (some d)) h1:=rfl
theorem yret {e z0 ρ h}:S.run cl (.ret e z0) ρ h=andS ρ (e.ev cl ρ h) fun d h1=>.rt d h1:=rfl
theorem yex {e z0 ρ h}:S.run cl (.ex e z0) ρ h=andS ρ (e.ev cl ρ h) fun _ h1=>.nx ρ h1:=rfl
theorem ywhil {c b z0 ρ h}:S.run cl (.whil c b z0) ρ h=whR (fun ρ' h'=>c.evT cl ρ' h') (fun ρ' h'=>b.run cl ρ' h') ρ h:=rfl
theorem znil {ρ h}:Ss.run cl .nil ρ h=.nx ρ h:=rfl
theorem zcons {s r ρ h}:Ss.run cl (.cons s r) ρ h=seqS (s.run cl ρ h) fun ρ' h'=>r.run cl ρ' h':=rfl
end
end PI
set_option Elab.async false
set_option linter.all false
set_option maxRecDepth 100000
set_option maxHeartbeats 4000000
namespace PI
open PySem L2
section
variable {h l:Hh} {o u:O} {n k:Nat} {xs:List D}
theorem hx (h l:Hh) (k:Nat):(h ++ l)[h.length + k]?=l[k]?:=by
  rw [List.getElem?_append_right (by omega)]; congr 1; omega
theorem hx0 (h l:Hh):(h ++ l)[h.length]?=l[0]?:=hx h l 0
theorem hset (h l:Hh) (k:Nat) (o:O):(h ++ l).set (h.length + k) o=h ++ l.set k o:=by
  rw [List.set_append_right _ _ (by omega)]; congr 2; omega
theorem hset0 (h l:Hh) (o:O):(h ++ l).set h.length o=h ++ l.set 0 o:=hset h l 0 o
theorem rdx (h l:Hh) (k:Nat):rd (h ++ l) (h.length + k)=rd l k:=by unfold rd; rw [hx]
theorem rdx0 (h l:Hh):rd (h ++ l) h.length=rd l 0:=rdx h l 0
theorem rd_of (e:h[n]?=some (.lst xs)):rd h n=some xs:=by unfold rd; rw [e]
theorem get_old (e:h[n]?=some o):(h ++ l)[n]?=some o:=by rw [List.getElem?_append_left (List.getElem?_eq_some_iff.mp e).1]; exact e
theorem stay_nil:stay [] h:=by unfold stay; simp
theorem stay_one {n:Nat} {ds:List D} {h:Hh}:stay [(n,ds)] h ↔ rd h n=some ds:=by unfold stay; simp
end
theorem sIx_some (n d:Nat) (i:Int) (h:0<=i):HT.sIx n d (some i)=min i.toNat n:=by
  unfold HT.sIx
  exact if_neg (by omega)
theorem sIx_none (n d:Nat):HT.sIx n d none=d:=rfl
theorem atI_nat {α:Type} {xs:List α} {k:Nat}:atI xs (k:Int)=xs[k]?:=by
  unfold atI ixN
  rw [if_pos (by omega)]
  by_cases h:k < xs.length
  · rw [if_pos (by omega)]; simp
  · rw [if_neg (by omega),List.getElem?_eq_none (by omega)]; rfl
theorem atI_pos {α:Type} {xs:List α} {i:Int} (h:0<=i):atI xs i=xs[i.toNat]?:=by
  have:i=(i.toNat:Int):=by omega
  rw [this,atI_nat]; rfl
theorem eqS {a b:Str} {h:Hh} (ha:PyData.strOk a=true) (hb:PyData.strOk b=true):cmpD .Eq (.str a) (.str b) h=.ok (.bl (a == b)) h:=if_pos ⟨ha,hb,Nat.zero_le _⟩
theorem eqI {a b:Int} {h:Hh}:cmpD .Eq (.int a) (.int b) h=.ok (.bl (a == b)) h:=rfl
theorem fits_sm {i:Int} (h:i.natAbs < 1048576):fits i=true:=by
  unfold fits Builtin.Int.intBits
  refine decide_eq_true ?_
  split
  · decide
  · rename_i z
    have hz:i.natAbs ≠ 0:=by simpa using z
    have:i.natAbs.log2 < 20:=by
      rw [Nat.log2_lt hz]
      exact h
    omega
noncomputable def takeS:Nat->Ss->Ss
  | 0,_=>.nil
  | _ + 1,.nil=>.nil
  | n + 1,.cons s r=>.cons s (takeS n r)
noncomputable def dropS:Nat->Ss->Ss
  | 0,b=>b
  | _ + 1,.nil=>.nil
  | n + 1,.cons _ r=>dropS n r
theorem run_at (cl:Nat->List D->Hh->Res D):∀ (n:Nat) (b:Ss) (ρ:En) (h:Hh),Ss.run cl b ρ h=seqS (Ss.run cl (takeS n b) ρ h) fun ρ' h'=>Ss.run cl (dropS n b) ρ' h'
  | 0,b,ρ,h=>by simp [takeS,dropS,znil,zcons]
  | n + 1,.nil,ρ,h=>by simp [takeS,dropS,znil,zcons]
  | n + 1,.cons s r,ρ,h=>by
    simp only [takeS,dropS,znil,zcons]
    cases S.run cl s ρ h with
    | nx ρ' h'=>simp only [seqS_nx]; exact run_at cl n r ρ' h'
    | _=>rfl
noncomputable def cellv (ns:List Int) (i:Int):Int:=ns.getD i.toNat 0
theorem at_map (ns:List Int) (i:Int) (hi:0<=i) (h:i < (ns.length:Int)):atI (ns.map D.int) i=some (.int (cellv ns i)):=by
  rw [atI_pos hi,cellv,List.getElem?_map,List.getD_eq_getElem?_getD,List.getElem?_eq_getElem (by omega)]
  rfl
theorem cell_out (ns:List Int) (i:Int) (h:¬ i < (ns.length:Int)):cellv ns i=0:=by
  unfold cellv
  rw [List.getD_eq_getElem?_getD,List.getElem?_eq_none (by omega)]
  rfl
noncomputable abbrev scr (ns:List Int):D:=.fl (ns.map .int)
end PI
set_option Elab.async false
set_option linter.all false
set_option maxRecDepth 100000
set_option maxHeartbeats 4000000
namespace PI
open PySem L2
noncomputable def cs (x:Str):List Nat:=x.cps.toList
noncomputable def mkS (l:List Nat):Str:=⟨l.toArray⟩
theorem mk_cs (x:Str):mkS (cs x)=x:=by cases x; simp [cs,mkS]
theorem cs_append (x y:Str):cs (x ++ y)=cs x ++ cs y:=by
  show (x.cps ++ y.cps).toList=_
  simp [cs]
theorem cs_len (x:Str):x.length=(cs x).length:=by simp [cs,Str.length]
theorem ok_mk {l:List Nat} (h:∀ c ∈ l,c < 1114112):PyData.strOk (mkS l)=true:=by
  unfold PyData.strOk mkS
  simpa using h
theorem ok_cs {x:Str} (h:∀ c ∈ cs x,c < 1114112):PyData.strOk x=true:=by rw [<- mk_cs x]; exact ok_mk h
theorem strs_map:∀ xs:List Str,strsOf (xs.map D.str)=some xs
  | []=>rfl
  | x :: r=>by simp [strsOf,strs_map r]
structure Wd (x:Str):Prop where
  ne:cs x ≠ []
  len:(cs x).length<=20
  ch:∀ c ∈ cs x,c ≠ 40 /\ c ≠ 41 /\ c ≠ 10 /\ c < 1114112
theorem Wd.ok {x:Str} (h:Wd x):PyData.strOk x=true:=ok_cs fun c hc=>(h.ch c hc).2.2.2
end PI
set_option Elab.async false
set_option linter.all false
set_option maxRecDepth 100000
namespace PI
open PySem L2
section
variable {cl:Nat->List D->Hh->Res D} {ρ ρ':En} {h h' h2 h3:Hh} {c e:E} {a b r:Ss} {p p0 p1 p2 p3:Pos} {d x:D} {i:Nat}
theorem iff_f {o:RS} (hc:c.evT cl ρ h=.ok false h') (k:Ss.run cl r ρ h'=o):Ss.run cl (.cons (.iff c a .nil p) r) ρ h=o:=by
  rw [<- k]
  show seqS (andS ρ (c.evT cl ρ h) fun t h1=>if t then a.run cl ρ h1 else Ss.nil.run cl ρ h1) (fun ρ' h'=>r.run cl ρ' h')=_
  rw [hc]; rfl
theorem iff_t (hc:c.evT cl ρ h=.ok true h'):Ss.run cl (.cons (.iff c a b p) r) ρ h=seqS (a.run cl ρ h') fun ρ' h'=>r.run cl ρ' h':=by
  show seqS (andS ρ (c.evT cl ρ h) fun t h1=>if t then a.run cl ρ h1 else b.run cl ρ h1) (fun ρ' h'=>r.run cl ρ' h')=_
  rw [hc]; rfl
theorem iff_r (hc:c.evT cl ρ h=.ok true h') (ha:a.run cl ρ h'=.rt d h2):Ss.run cl (.cons (.iff c a b p) r) ρ h=.rt d h2:=by rw [iff_t hc,ha]; rfl
theorem iff_n {o:RS} (hc:c.evT cl ρ h=.ok true h') (ha:a.run cl ρ h'=.nx ρ' h2) (k:Ss.run cl r ρ' h2=o):Ss.run cl (.cons (.iff c a b p) r) ρ h=o:=by rw [<- k,iff_t hc,ha]; rfl
theorem ret_r (he:e.ev cl ρ h=.ok d h'):Ss.run cl (.cons (.ret e p) r) ρ h=.rt d h':=by
  show seqS (andS ρ (e.ev cl ρ h) fun d h1=>.rt d h1) (fun ρ' h'=>r.run cl ρ' h')=_
  rw [he]; rfl
theorem set_s {o:RS} (he:e.ev cl ρ h=.ok d h') (k:Ss.run cl r (ρ.set i (some d)) h'=o):Ss.run cl (.cons (.set i e p1 p) r) ρ h=o:=by
  rw [<- k]
  show seqS (andS ρ (e.ev cl ρ h) fun d h1=>.nx (ρ.set i (some d)) h1) (fun ρ' h'=>r.run cl ρ' h')=_
  rw [he]; rfl
theorem ex_s {o:RS} (he:e.ev cl ρ h=.ok d h') (k:Ss.run cl r ρ h'=o):Ss.run cl (.cons (.ex e p) r) ρ h=o:=by
  rw [<- k]
  show seqS (andS ρ (e.ev cl ρ h) fun d h1=>.nx ρ h1) (fun ρ' h'=>r.run cl ρ' h')=_
  rw [he]; rfl
theorem setT_s {o:RS} {is:List (Nat × Pos)} (he:e.ev cl ρ h=.ok d h') (hb:bindT (.tup is p1) (unpD d h') ρ=some ρ') (k:Ss.run cl r ρ' h'=o):Ss.run cl (.cons (.setT is e p1 p) r) ρ h=o:=by
  rw [<- k]
  show seqS (andS ρ (e.ev cl ρ h) fun d h1=>match bindT (.tup is p1) (unpD d h1) ρ with | some ρ'=>.nx ρ' h1 | none=>.no) (fun ρ' h'=>r.run cl ρ' h')=_
  rw [he,andS_ok,hb]; rfl
theorem out_rt {o:RS} (q:o=.rt d h):outR o=.ok d h:=by rw [q]; rfl
theorem bnd {α β:Type} {m:Res α} {f:α->Hh->Res β} {x:α} {y:Res β} (q:m=.ok x h) (g:f x h=y):m.bind f=y:=by rw [q]; exact g
theorem evT_bl {b:Bool} (q:e.evT cl ρ h=.ok b h'):e.ev cl ρ h=.ok (.bl b) h':=by
  have q:((e.ev cl ρ h).bind fun d h1=>match d with | .bl b=>.ok b h1 | _=>.no)=Res.ok b h':=q
  cases m:e.ev cl ρ h with
  | ok d h1 =>
    rw [m] at q
    cases d with
    | bl b'=>cases q; rfl
    | _=>cases q
  | exc c h1=>rw [m] at q; cases q
  | no=>rw [m] at q; cases q
theorem t_cmp {a' b':E} {x y:D} {op:CmpOp} {t:Bool} (ha:a'.ev cl ρ h=.ok x h') (hb:b'.ev cl ρ h'=.ok y h2) (hc:cmpD op x y h2=.ok (.bl t) h3):E.evT cl (.cmp op a' b' p) ρ h=.ok t h3:=bnd (bnd ha (bnd hb hc)) rfl
theorem forr_s {o:RS} {tg:Tg} {it:I} {q:Ck × List D} (hi:it.ev cl ρ h=.ok q h') (hf:forL q.1 (stepF tg fun ρ' h'=>a.run cl ρ' h') q.2 ρ h'=.nx ρ' h2) (k:Ss.run cl r ρ' h2=o):Ss.run cl (.cons (.forr tg it a p) r) ρ h=o:=by
  rw [<- k]
  show seqS (andS ρ (it.ev cl ρ h) fun q h1=>forL q.1 (stepF tg fun ρ' h'=>a.run cl ρ' h') q.2 ρ h1) (fun ρ' h'=>r.run cl ρ' h')=_
  rw [hi,andS_ok,hf]; rfl
theorem put_s {o:RS} {oe ie ve:E} {x y z:D} {h4:Hh} (hv:ve.ev cl ρ h=.ok z h') (ho:oe.ev cl ρ h'=.ok x h2) (hi:ie.ev cl ρ h2=.ok y h3) (hp:putS x y z h3=some h4) (k:Ss.run cl r ρ h4=o):Ss.run cl (.cons (.put oe ie ve p1 p) r) ρ h=o:=by
  rw [<- k]
  show seqS (andS ρ (ve.ev cl ρ h) fun z h1=>andS ρ (oe.ev cl ρ h1) fun x h2=>andS ρ (ie.ev cl ρ h2) fun y h3=>match putS x y z h3 with | some h4=>.nx ρ h4 | none=>.no) (fun ρ' h'=>r.run cl ρ' h')=_
  rw [hv,andS_ok,ho,andS_ok,hi,andS_ok,hp]; rfl
theorem for_n {o:RS} {ck:Ck} {f:D->En->Hh->RS} {l:List D} (hs:stay ck h) (hf:f x ρ h=.nx ρ' h') (k:forL ck f l ρ' h'=o):forL ck f (x :: l) ρ h=o:=by
  rw [forL,if_pos hs,hf]; exact k
theorem on_lst {n:Nat} {l:List D} (g:h[n]?=some (.lst l)) (m:Res D):onL (.loc n) h m=m:=by
  show (match h[n]? with | some (.lst _)=>m | _=>.no)=m
  rw [g]
theorem fdk {i k:Int} (hk:0 < k /\ k < 1073741824):binD .FloorDiv (.int i) (.int k) h=.ok (.int (i / k)) h:=if_pos hk
theorem mdk {i k:Int} (hk:0 < k):binD .Mod (.int i) (.int k) h=.ok (.int (i % k)) h:=if_pos hk
theorem rng_s {j:Int} (ha:e.ev cl ρ h=.ok (.int j) h') (hj:-1000000<=j /\ j<=1000000):I.ev cl (.rng e p1 p2) ρ h=.ok ([],(List.range j.toNat).map fun k=>.int (k:Nat)) h':=bnd ha (if_pos hj)
theorem t_or {e':E} {t:Bool} (ha:e.evT cl ρ h=.ok false h') (hb:e'.evT cl ρ h'=.ok t h2):(E.or e e' .nil p).evT cl ρ h=.ok t h2:=bnd (bnd (evT_bl ha) (bnd (evT_bl hb) rfl)) rfl
theorem tupE_s {xs:List D} (he:e.ev cl ρ h=.ok x h') (hs:seqOf x h'=some xs):E.ev cl (.tupE e p p1) ρ h=.ok (.tup xs) h':=bnd he (by
  show (match seqOf x h' with | some xs=>Res.ok (D.tup xs) h' | none=>.no)=_
  rw [hs])
theorem compF_t {tg:Tg} {ct:En->Hh->Res Bool} {ce:En->Hh->Res D} (hb:bindT tg x ρ=some ρ') (hc:ct ρ' h=.ok true h') (he:ce ρ' h'=.ok d h2):compF tg ρ ct ce x h=.ok (some d) h2:=by
  show (match bindT tg x ρ with | some ρ'=>(ct ρ' h).bind fun b h1=>if b then (ce ρ' h1).bind fun d h2=>.ok (some d) h2 else .ok none h1 | none=>.no)=_
  rw [hb]; exact bnd hc (bnd he rfl)
theorem seq_loc {n:Nat} {xs:List D} (he:e.ev cl ρ h=.ok (.loc n) h') (hr:rd h' n=some xs):I.ev cl (.seq e) ρ h=.ok ([(n,xs)],xs) h':=bnd he (by
  show (match rd h' n with | some xs=>Res.ok (([(n,xs)],xs):Ck × List D) h' | none=>.no)=_
  rw [hr])
theorem ofL_comp {elt:E} {tg:Tg} {it:I} {ct:Es} {ns:List Str} {cap:List (Option Nat)} {sc:Scope} {q:Ck × List D} {xs:List D} (hi:it.ev cl ρ h=.ok q h') (hl:q.2.length<=1000000) (hc:compL q.1 (compF tg (capE cap ρ) (fun ρ' h2=>ct.evC cl ρ' h2) (fun ρ' h2=>elt.ev cl ρ' h2)) q.2 [] h'=.ok xs h2):E.ev cl (.ofL (.comp elt tg it ct ns cap sc p)) ρ h=.ok (.loc h2.length) (h2 ++ [.lst xs]):=bnd (bnd hi ((if_pos hl).trans hc)) rfl
theorem some_s {i:Int} (he:e.ev cl ρ h=.ok (.int i) h'):Eo.ev cl (.some e) ρ h=.ok (some i) h':=bnd he rfl
theorem at_nx (n:Nat) {s:Ss} {o:RS} (q:Ss.run cl (takeS n s) ρ h=.nx ρ' h') (k:Ss.run cl (dropS n s) ρ' h'=o):Ss.run cl s ρ h=o:=by rw [run_at cl n,q]; exact k
theorem mlk {i j:Int} (hi:fits i=true) (hj:fits j=true):binD .Mult (.int i) (.int j) h=.ok (.int (i * j)) h:=if_pos ⟨hi,hj⟩
theorem iff_e {o:RS} (hc:c.evT cl ρ h=.ok false h') (hb:b.run cl ρ h'=.nx ρ' h2) (k:Ss.run cl r ρ' h2=o):Ss.run cl (.cons (.iff c a b p) r) ρ h=o:=by
  rw [<- k]
  show seqS (andS ρ (c.evT cl ρ h) fun t h1=>if t then a.run cl ρ h1 else b.run cl ρ h1) (fun ρ' h'=>r.run cl ρ' h')=_
  rw [hc]
  show seqS (b.run cl ρ h') _=_
  rw [hb]; rfl
end
end PI
set_option Elab.async false
set_option linter.all false
set_option maxRecDepth 100000
set_option maxHeartbeats 4000000
namespace PI
open PySem L2
inductive Kd where
  | num (n:Int) | var (x:Str) | op (s:Str) | lett (x:Str) | ite | call (f:Str) (g:Option Str) | doo (d:Str) | handle (h:Str) | go | guard
inductive G where
  | nd (k:Kd) (ps:List G)
noncomputable def Kd.tag:Kd->Str
  | .num _=>"num" | .var _=>"var" | .op _=>"op" | .lett _=>"let" | .ite=>"if" | .call _ _=>"call" | .doo _=>"do" | .handle _=>"handle" | .go=>"go" | .guard=>"guard"
noncomputable def Kd.isGo:Kd->Bool
  | .go=>true
  | _=>false
noncomputable def Kd.isIf:Kd->Bool
  | .ite=>true
  | _=>false
noncomputable def optD:Option Str->D
  | none=>.non
  | some g=>.str g
noncomputable def Kd.enc:Kd->List D->D
  | .num n,ps=>.tup (.str "num" :: .int n :: ps)
  | .var x,ps=>.tup (.str "var" :: .str x :: ps)
  | .op s,ps=>.tup (.str "op" :: .str s :: ps)
  | .lett x,ps=>.tup (.str "let" :: .str x :: ps)
  | .ite,ps=>.tup (.str "if" :: ps)
  | .call f g,ps=>.tup [.str "call",.str f,optD g,.tup ps]
  | .doo d,ps=>.tup (.str "do" :: .str d :: ps)
  | .handle h,ps=>.tup (.str "handle" :: .str h :: ps)
  | .go,ps=>.tup (.str "go" :: ps)
  | .guard,ps=>.tup (.str "guard" :: ps)
mutual
noncomputable def G.d:G->D
  | .nd k ps=>k.enc (G.ds ps)
noncomputable def G.ds:List G->List D
  | []=>[]
  | g :: r=>g.d :: G.ds r
end
mutual
noncomputable def G.size:G->Nat
  | .nd _ ps=>1 + G.sizes ps
noncomputable def G.sizes:List G->Nat
  | []=>0
  | g :: r=>g.size + G.sizes r
end
noncomputable def Kd.ok (k:Kd) (n:Nat):Bool:=match k with
  | .num _ | .var _=>n == 0
  | .op _ | .lett _ | .handle _ | .go | .guard=>n == 2
  | .ite=>n == 3
  | .doo _=>n == 1
  | .call _ _=>true
mutual
noncomputable def G.ok:G->Bool
  | .nd k ps=>k.ok ps.length && G.oks ps
noncomputable def G.oks:List G->Bool
  | []=>true
  | g :: r=>g.ok && G.oks r
end
theorem ds_map:∀ gs:List G,G.ds gs=gs.map G.d
  | []=>by rw [G.ds]; rfl
  | g :: r=>by rw [G.ds,ds_map r]; rfl
theorem ds_append (a b:List G):G.ds (a ++ b)=G.ds a ++ G.ds b:=by simp [ds_map]
theorem ds_len (a:List G):(G.ds a).length=a.length:=by simp [ds_map]
theorem sizes_append:∀ (a b:List G),G.sizes (a ++ b)=G.sizes a + G.sizes b
  | [],b=>by rw [List.nil_append]; simp [G.sizes]
  | g :: r,b=>by rw [List.cons_append,G.sizes,G.sizes,sizes_append r b]; omega
theorem so:∀ x ∈ (["num","var","op","let","if","call","do","handle","go","guard","never","jump","once","many"]:List Str),PyData.strOk x=true:=by decide +kernel
theorem so_call:PyData.strOk "call"=true:=so _ (by simp)
theorem tag_ok (k:Kd):PyData.strOk k.tag=true:=by cases k <;> exact so _ (by simp [Kd.tag])
noncomputable def Kd.isCall:Kd->Bool
  | .call _ _=>true
  | _=>false
noncomputable def Kd.isGuard:Kd->Bool
  | .guard=>true
  | _=>false
theorem tag_call (k:Kd):(k.tag == ("call":Str))=k.isCall:=by cases k <;> rfl
theorem enc_0 (k:Kd) (ps:List D):∃ r,k.enc ps=.tup (.str k.tag :: r):=by cases k <;> exact ⟨_,rfl⟩
theorem sub_0 (k:Kd) (ps:List D) (h:Hh):subD (k.enc ps) (.int 0) h=.ok (.str k.tag) h:=by
  obtain ⟨r,e⟩:=enc_0 k ps
  rw [e,sub_tup,atI_pos (by decide)]
  rfl
theorem cut_2 (a b:D) (ps:List D) (h:Hh):cutD (.tup (a :: b :: ps)) (some 2) none h=.ok (.tup ps) h:=by
  simp only [cutD,cutXs]
  rw [sIx_some _ _ _ (by decide),sIx_none]
  have e:min (2:Int).toNat (a :: b :: ps).length=2:=by simp
  rw [e,if_neg (by simp)]
  simp
theorem cut_1 (a:D) (ps:List D) (h:Hh):cutD (.tup (a :: ps)) (some 1) none h=.ok (.tup ps) h:=by
  simp only [cutD,cutXs]
  rw [sIx_some _ _ _ (by decide),sIx_none]
  have e:min (1:Int).toNat (a :: ps).length=1:=by simp
  rw [e,if_neg (by simp)]
  simp
end PI
set_option Elab.async false
set_option linter.all false
set_option maxRecDepth 100000
set_option maxHeartbeats 4000000
namespace K22
open PySem L2 PI
noncomputable abbrev qQ (l a b:Nat):PySem.Pos:=⟨l,a,l,b⟩
noncomputable def g_FIRST_PART:List (Str × Cv):=[("num",.int 2),("var",.int 2),("op",.int 2),("let",.int 2),("if",.int 1),("do",.int 2),("handle",.int 2),("go",.int 1),("guard",.int 1)]
noncomputable def consts:List (Str × Cn):=[("FIRST_PART",(.dic g_FIRST_PART))]
noncomputable def d_parts_of:Df:=⟨"parts_of",["tree"],["tree"],(.cons (.iff (.cmp .Eq (.sub (.var 0 (qQ 4 7 11)) (.int 0 (qQ 4 12 13)) (qQ 4 7 14)) (.str "call" (qQ 4 18 24)) (qQ 4 7 24)) (.cons (.ret (.sub (.var 0 (qQ 5 15 19)) (.int 3 (qQ 5 20 21)) (qQ 5 15 22)) (qQ 5 8 22)) .nil) .nil ⟨4,4,5,22⟩) (.cons (.ret (.cut (.var 0 (qQ 6 11 15)) (.some (.gsub "FIRST_PART" g_FIRST_PART (.sub (.var 0 (qQ 6 27 31)) (.int 0 (qQ 6 32 33)) (qQ 6 27 34)) (qQ 6 16 26) (qQ 6 16 35))) .none (qQ 6 16 36) (qQ 6 11 37)) (qQ 6 4 37)) .nil))⟩
noncomputable def w_all_within_1:E:=(.cmpN true (.var 2 (qQ 10 10 17)) (qQ 10 21 23) (qQ 10 10 23))
noncomputable def b_all_within_1:Ss:=(.cons (.set 3 (.m0 .pop (.var 2 (qQ 11 14 21)) (qQ 11 14 25) (qQ 11 14 27)) (qQ 11 8 11) (qQ 11 8 27)) (.cons (.ex (.m1 .append (.var 1 (qQ 12 8 13)) (.var 3 (qQ 12 21 24)) (qQ 12 8 20) (qQ 12 8 25)) (qQ 12 8 25)) (.cons (.ex (.m1 .extend (.var 2 (qQ 13 8 15)) (.call 0 (.var 3 (qQ 13 32 35)) .nil (qQ 13 23 31) (qQ 13 23 36)) (qQ 13 8 22) (qQ 13 8 37)) (qQ 13 8 37)) .nil)))
noncomputable def d_all_within:Df:=⟨"all_within",["tree"],["tree","found","waiting","one"],(.cons (.set 1 (.ofL (.disp .nil (qQ 8 12 14))) (qQ 8 4 9) (qQ 8 4 14)) (.cons (.set 2 (.ofL (.disp (.cons (.var 0 (qQ 9 15 19)) .nil) (qQ 9 14 20))) (qQ 9 4 11) (qQ 9 4 20)) (.cons (.whil w_all_within_1 b_all_within_1 ⟨10,4,13,37⟩) (.cons (.ret (.var 1 (qQ 14 11 16)) (qQ 14 4 16)) .nil))))⟩
noncomputable def e_bodies_of_1:E:=(.sub (.var 0 (qQ 18 18 24)) (.int 3 (qQ 18 25 26)) (qQ 18 18 27))
noncomputable def c_bodies_of_1:Es:=.nil
noncomputable def t_bodies_of_1:Tg:=(.one 0 (qQ 18 32 38))
noncomputable def s_bodies_of_1:Scope:={ kind:=PySem.ScopeKind.function,names:=[(PySem.Str.ofString ".0",PySem.NameKind.local),(PySem.Str.ofString "clause",PySem.NameKind.local)],isGenerator:=false,isCoroutine:=false,more:=[]:PySem.Scope }
noncomputable def d_bodies_of:Df:=⟨"bodies_of",["item"],["item"],(.cons (.iff (.cmp .Eq (.sub (.var 0 (qQ 16 7 11)) (.int 0 (qQ 16 12 13)) (qQ 16 7 14)) (.str "def" (qQ 16 18 23)) (qQ 16 7 23)) (.cons (.ret (.tup (.cons (.sub (.var 0 (qQ 17 16 20)) (.int 4 (qQ 17 21 22)) (qQ 17 16 23)) .nil) (qQ 17 15 25)) (qQ 17 8 25)) .nil) .nil ⟨16,4,17,25⟩) (.cons (.ret (.bin .Add (.tupL (.comp e_bodies_of_1 t_bodies_of_1 (.seq (.sub (.var 0 (qQ 18 42 46)) (.int 2 (qQ 18 47 48)) (qQ 18 42 49))) c_bodies_of_1 ["clause"] [none] s_bodies_of_1 (qQ 18 17 50)) (qQ 18 11 16) (qQ 18 11 51)) (.tup (.cons (.sub (.sub (.var 0 (qQ 18 55 59)) (.int 3 (qQ 18 60 61)) (qQ 18 55 62)) (.int 2 (qQ 18 63 64)) (qQ 18 55 65)) .nil) (qQ 18 54 67)) (qQ 18 11 67)) (qQ 18 4 67)) .nil))⟩
noncomputable def e_deeds_of_3:E:=(.sub (.var 0 (qQ 26 26 30)) (.int 1 (qQ 26 31 32)) (qQ 26 26 33))
noncomputable def c_deeds_of_3:Es:=(.cons (.cmp .Eq (.sub (.var 0 (qQ 26 66 70)) (.int 0 (qQ 26 71 72)) (qQ 26 66 73)) (.str "do" (qQ 26 77 81)) (qQ 26 66 81)) .nil)
noncomputable def t_deeds_of_3:Tg:=(.one 0 (qQ 26 38 42))
noncomputable def s_deeds_of_3:Scope:={ kind:=PySem.ScopeKind.function,names:=[(PySem.Str.ofString ".0",PySem.NameKind.local),(PySem.Str.ofString "tree",PySem.NameKind.local)],isGenerator:=false,isCoroutine:=false,more:=[]:PySem.Scope }
noncomputable def t_deeds_of_2:Tg:=(.one 3 (qQ 25 12 16))
noncomputable def b_deeds_of_2:Ss:=(.cons (.ex (.m1 .extend (.var 1 (qQ 26 12 17)) (.ofL (.comp e_deeds_of_3 t_deeds_of_3 (.seq (.call 1 (.var 3 (qQ 26 57 61)) .nil (qQ 26 46 56) (qQ 26 46 62))) c_deeds_of_3 ["tree"] [none] s_deeds_of_3 (qQ 26 25 82))) (qQ 26 12 24) (qQ 26 12 83)) (qQ 26 12 83)) .nil)
noncomputable def e_deeds_of_4:E:=(.sub (.var 0 (qQ 24 26 32)) (.int 0 (qQ 24 33 34)) (qQ 24 26 35))
noncomputable def c_deeds_of_4:Es:=.nil
noncomputable def t_deeds_of_4:Tg:=(.one 0 (qQ 24 40 46))
noncomputable def s_deeds_of_4:Scope:={ kind:=PySem.ScopeKind.function,names:=[(PySem.Str.ofString ".0",PySem.NameKind.local),(PySem.Str.ofString "clause",PySem.NameKind.local)],isGenerator:=false,isCoroutine:=false,more:=[]:PySem.Scope }
noncomputable def t_deeds_of_1:Tg:=(.one 2 (qQ 22 8 12))
noncomputable def b_deeds_of_1:Ss:=(.cons (.iff (.cmp .Eq (.sub (.var 2 (qQ 23 11 15)) (.int 0 (qQ 23 16 17)) (qQ 23 11 18)) (.str "handler" (qQ 23 22 31)) (qQ 23 11 31)) (.cons (.ex (.m1 .extend (.var 1 (qQ 24 12 17)) (.ofL (.comp e_deeds_of_4 t_deeds_of_4 (.seq (.sub (.var 2 (qQ 24 50 54)) (.int 2 (qQ 24 55 56)) (qQ 24 50 57))) c_deeds_of_4 ["clause"] [none] s_deeds_of_4 (qQ 24 25 58))) (qQ 24 12 24) (qQ 24 12 59)) (qQ 24 12 59)) .nil) .nil ⟨23,8,24,59⟩) (.cons (.forr t_deeds_of_2 (.seq (.call 2 (.var 2 (qQ 25 30 34)) .nil (qQ 25 20 29) (qQ 25 20 35))) b_deeds_of_2 ⟨25,8,26,83⟩) .nil))
noncomputable def d_deeds_of:Df:=⟨"deeds_of",["program"],["program","found","item","body"],(.cons (.set 1 (.ofL (.disp .nil (qQ 21 12 14))) (qQ 21 4 9) (qQ 21 4 14)) (.cons (.forr t_deeds_of_1 (.seq (.var 0 (qQ 22 16 23))) b_deeds_of_1 ⟨22,4,26,83⟩) (.cons (.ret (.sset (.var 1 (qQ 27 22 27)) (qQ 27 11 17) (qQ 27 18 21) (qQ 27 18 28) (qQ 27 11 29)) (qQ 27 4 29)) .nil)))⟩
noncomputable def d_law_cell:Df:=⟨"_law_cell",["_law_script","_law_k"],["_law_script","_law_k"],(.cons (.iff (.cmp .Lt (.var 1 (qQ 30 7 13)) (.len (.var 0 (qQ 30 20 31)) (qQ 30 16 19) (qQ 30 16 32)) (qQ 30 7 32)) (.cons (.ret (.sub (.var 0 (qQ 31 15 26)) (.var 1 (qQ 31 27 33)) (qQ 31 15 34)) (qQ 31 8 34)) .nil) .nil ⟨30,4,31,34⟩) (.cons (.ret (.int 0 (qQ 32 11 12)) (qQ 32 4 12)) .nil))⟩
noncomputable def d_law_name:Df:=⟨"_law_name",["_law_k","_law_cell_here"],["_law_k","_law_cell_here","_law_letters","_law_size","_law_at","_law_fill","_law_name_here"],(.cons (.set 2 (.str "abcdefghijklmnopqrstuvwxyz" (qQ 34 19 47)) (qQ 34 4 16) (qQ 34 4 47)) (.cons (.set 3 (.bin .Add (.int 3 (qQ 35 16 17)) (.bin .Mod (.var 1 (qQ 35 20 34)) (.int 5 (qQ 35 37 38)) (qQ 35 20 38)) (qQ 35 16 38)) (qQ 35 4 13) (qQ 35 4 38)) (.cons (.set 4 (.bin .Mod (.bin .FloorDiv (.var 1 (qQ 36 14 28)) (.int 5 (qQ 36 32 33)) (qQ 36 14 33)) (.bin .Sub (.var 3 (qQ 36 37 46)) (.int 1 (qQ 36 49 50)) (qQ 36 37 50)) (qQ 36 14 51)) (qQ 36 4 11) (qQ 36 4 51)) (.cons (.set 5 (.sub (.str "jqxz" (qQ 37 16 22)) (.bin .Mod (.bin .FloorDiv (.var 1 (qQ 37 23 37)) (.int 48 (qQ 37 41 43)) (qQ 37 23 43)) (.int 4 (qQ 37 46 47)) (qQ 37 23 47)) (qQ 37 16 48)) (qQ 37 4 13) (qQ 37 4 48)) (.cons (.set 6 (.bin .Add (.bin .Add (.bin .Mult (.var 5 (qQ 38 21 30)) (.var 4 (qQ 38 33 40)) (qQ 38 21 40)) (.sub (.var 2 (qQ 38 43 55)) (.bin .FloorDiv (.var 0 (qQ 38 56 62)) (.int 26 (qQ 38 66 68)) (qQ 38 56 68)) (qQ 38 43 69)) (qQ 38 21 69)) (.sub (.var 2 (qQ 38 72 84)) (.bin .Mod (.var 0 (qQ 38 85 91)) (.int 26 (qQ 38 94 96)) (qQ 38 85 96)) (qQ 38 72 97)) (qQ 38 21 97)) (qQ 38 4 18) (qQ 38 4 97)) (.cons (.set 6 (.bin .Add (.var 6 (qQ 39 21 35)) (.bin .Mult (.var 5 (qQ 39 38 47)) (.bin .Sub (.bin .Sub (.var 3 (qQ 39 51 60)) (.int 2 (qQ 39 63 64)) (qQ 39 51 64)) (.var 4 (qQ 39 67 74)) (qQ 39 51 74)) (qQ 39 38 75)) (qQ 39 21 75)) (qQ 39 4 18) (qQ 39 4 75)) (.cons (.ret (.bin .Add (.var 6 (qQ 40 11 25)) (.bin .Mult (.str "q" (qQ 40 28 31)) (.bin .Mult (.bin .Mod (.var 0 (qQ 40 35 41)) (.int 2 (qQ 40 44 45)) (qQ 40 35 45)) (.bin .Mod (.bin .FloorDiv (.var 1 (qQ 40 49 63)) (.int 192 (qQ 40 67 70)) (qQ 40 49 70)) (.int 2 (qQ 40 73 74)) (qQ 40 49 74)) (qQ 40 35 75)) (qQ 40 28 76)) (qQ 40 11 76)) (qQ 40 4 76)) .nil)))))))⟩
noncomputable def d_law_put:Df:=⟨"_law_put",["_law_form","_law_tree","_law_fixed"],["_law_form","_law_tree","_law_fixed","_law_some"],(.cons (.set 3 (.ofL (.disp (.cons (.var 1 (qQ 42 17 26)) (.cons (.tup (.cons (.str "op" (qQ 42 29 33)) (.cons (.str "+" (qQ 42 35 38)) (.cons (.var 1 (qQ 42 40 49)) (.cons (.tup (.cons (.str "num" (qQ 42 52 57)) (.cons (.int 1 (qQ 42 59 60)) .nil)) (qQ 42 51 61)) .nil)))) (qQ 42 28 62)) (.cons (.tup (.cons (.str "op" (qQ 42 65 69)) (.cons (.str "<" (qQ 42 71 74)) (.cons (.tup (.cons (.str "num" (qQ 42 77 82)) (.cons (.int 2 (qQ 42 84 85)) .nil)) (qQ 42 76 86)) (.cons (.var 1 (qQ 42 88 97)) .nil)))) (qQ 42 64 98)) (.cons (.tup (.cons (.str "let" (qQ 42 101 106)) (.cons (.str "z" (qQ 42 108 111)) (.cons (.var 1 (qQ 42 113 122)) (.cons (.tup (.cons (.str "num" (qQ 42 125 130)) (.cons (.int 3 (qQ 42 132 133)) .nil)) (qQ 42 124 134)) .nil)))) (qQ 42 100 135)) .nil)))) (qQ 42 16 136))) (qQ 42 4 13) (qQ 42 4 136)) (.cons (.set 3 (.bin .Add (.var 3 (qQ 43 16 25)) (.ofL (.disp (.cons (.tup (.cons (.str "let" (qQ 43 30 35)) (.cons (.str "z" (qQ 43 37 40)) (.cons (.tup (.cons (.str "num" (qQ 43 43 48)) (.cons (.int 4 (qQ 43 50 51)) .nil)) (qQ 43 42 52)) (.cons (.var 1 (qQ 43 54 63)) .nil)))) (qQ 43 29 64)) (.cons (.tup (.cons (.str "if" (qQ 43 67 71)) (.cons (.var 1 (qQ 43 73 82)) (.cons (.tup (.cons (.str "num" (qQ 43 85 90)) (.cons (.int 5 (qQ 43 92 93)) .nil)) (qQ 43 84 94)) (.cons (.tup (.cons (.str "num" (qQ 43 97 102)) (.cons (.int 6 (qQ 43 104 105)) .nil)) (qQ 43 96 106)) .nil)))) (qQ 43 66 107)) .nil)) (qQ 43 28 108))) (qQ 43 16 108)) (qQ 43 4 13) (qQ 43 4 108)) (.cons (.set 3 (.bin .Add (.var 3 (qQ 44 16 25)) (.ofL (.disp (.cons (.tup (.cons (.str "if" (qQ 44 30 34)) (.cons (.tup (.cons (.str "num" (qQ 44 37 42)) (.cons (.int 7 (qQ 44 44 45)) .nil)) (qQ 44 36 46)) (.cons (.var 1 (qQ 44 48 57)) (.cons (.tup (.cons (.str "num" (qQ 44 60 65)) (.cons (.int 8 (qQ 44 67 68)) .nil)) (qQ 44 59 69)) .nil)))) (qQ 44 29 70)) (.cons (.tup (.cons (.str "if" (qQ 44 73 77)) (.cons (.tup (.cons (.str "num" (qQ 44 80 85)) (.cons (.int 9 (qQ 44 87 88)) .nil)) (qQ 44 79 89)) (.cons (.tup (.cons (.str "num" (qQ 44 92 97)) (.cons (.int 0 (qQ 44 99 100)) .nil)) (qQ 44 91 101)) (.cons (.var 1 (qQ 44 103 112)) .nil)))) (qQ 44 72 113)) .nil)) (qQ 44 28 114))) (qQ 44 16 114)) (qQ 44 4 13) (qQ 44 4 114)) (.cons (.set 3 (.bin .Add (.var 3 (qQ 45 16 25)) (.ofL (.disp (.cons (.tup (.cons (.str "guard" (qQ 45 30 37)) (.cons (.var 1 (qQ 45 39 48)) (.cons (.tup (.cons (.str "num" (qQ 45 51 56)) (.cons (.int 1 (qQ 45 58 59)) .nil)) (qQ 45 50 60)) .nil))) (qQ 45 29 61)) (.cons (.tup (.cons (.str "guard" (qQ 45 64 71)) (.cons (.tup (.cons (.str "num" (qQ 45 74 79)) (.cons (.int 2 (qQ 45 81 82)) .nil)) (qQ 45 73 83)) (.cons (.var 1 (qQ 45 85 94)) .nil))) (qQ 45 63 95)) .nil)) (qQ 45 28 96))) (qQ 45 16 96)) (qQ 45 4 13) (qQ 45 4 96)) (.cons (.set 3 (.bin .Add (.var 3 (qQ 46 16 25)) (.ofL (.disp (.cons (.tup (.cons (.str "call" (qQ 46 30 36)) (.cons (.sub (.var 2 (qQ 46 38 48)) (.int 1 (qQ 46 49 50)) (qQ 46 38 51)) (.cons (.non (qQ 46 53 57)) (.cons (.tup (.cons (.var 1 (qQ 46 60 69)) (.cons (.tup (.cons (.str "num" (qQ 46 72 77)) (.cons (.int 5 (qQ 46 79 80)) .nil)) (qQ 46 71 81)) .nil)) (qQ 46 59 82)) .nil)))) (qQ 46 29 83)) (.cons (.tup (.cons (.str "call" (qQ 46 86 92)) (.cons (.sub (.var 2 (qQ 46 94 104)) (.int 1 (qQ 46 105 106)) (qQ 46 94 107)) (.cons (.non (qQ 46 109 113)) (.cons (.tup (.cons (.tup (.cons (.str "num" (qQ 46 117 122)) (.cons (.int 6 (qQ 46 124 125)) .nil)) (qQ 46 116 126)) (.cons (.var 1 (qQ 46 128 137)) .nil)) (qQ 46 115 138)) .nil)))) (qQ 46 85 139)) .nil)) (qQ 46 28 140))) (qQ 46 16 140)) (qQ 46 4 13) (qQ 46 4 140)) (.cons (.set 3 (.bin .Add (.var 3 (qQ 47 16 25)) (.ofL (.disp (.cons (.tup (.cons (.str "call" (qQ 47 30 36)) (.cons (.sub (.var 2 (qQ 47 38 48)) (.int 2 (qQ 47 49 50)) (qQ 47 38 51)) (.cons (.sub (.var 2 (qQ 47 53 63)) (.int 3 (qQ 47 64 65)) (qQ 47 53 66)) (.cons (.tup (.cons (.var 1 (qQ 47 69 78)) .nil) (qQ 47 68 80)) .nil)))) (qQ 47 29 81)) .nil) (qQ 47 28 82))) (qQ 47 16 82)) (qQ 47 4 13) (qQ 47 4 82)) (.cons (.set 3 (.bin .Add (.var 3 (qQ 48 16 25)) (.ofL (.disp (.cons (.tup (.cons (.str "handle" (qQ 48 30 38)) (.cons (.sub (.var 2 (qQ 48 40 50)) (.int 0 (qQ 48 51 52)) (qQ 48 40 53)) (.cons (.var 1 (qQ 48 55 64)) (.cons (.tup (.cons (.str "num" (qQ 48 67 72)) (.cons (.int 3 (qQ 48 74 75)) .nil)) (qQ 48 66 76)) .nil)))) (qQ 48 29 77)) (.cons (.tup (.cons (.str "handle" (qQ 48 80 88)) (.cons (.sub (.var 2 (qQ 48 90 100)) (.int 0 (qQ 48 101 102)) (qQ 48 90 103)) (.cons (.tup (.cons (.str "num" (qQ 48 106 111)) (.cons (.int 4 (qQ 48 113 114)) .nil)) (qQ 48 105 115)) (.cons (.var 1 (qQ 48 117 126)) .nil)))) (qQ 48 79 127)) .nil)) (qQ 48 28 128))) (qQ 48 16 128)) (qQ 48 4 13) (qQ 48 4 128)) (.cons (.set 3 (.bin .Add (.var 3 (qQ 49 16 25)) (.ofL (.disp (.cons (.tup (.cons (.str "go" (qQ 49 30 34)) (.cons (.var 1 (qQ 49 36 45)) (.cons (.tup (.cons (.str "num" (qQ 49 48 53)) (.cons (.int 7 (qQ 49 55 56)) .nil)) (qQ 49 47 57)) .nil))) (qQ 49 29 58)) (.cons (.tup (.cons (.str "go" (qQ 49 61 65)) (.cons (.tup (.cons (.str "num" (qQ 49 68 73)) (.cons (.int 8 (qQ 49 75 76)) .nil)) (qQ 49 67 77)) (.cons (.var 1 (qQ 49 79 88)) .nil))) (qQ 49 60 89)) .nil)) (qQ 49 28 90))) (qQ 49 16 90)) (qQ 49 4 13) (qQ 49 4 90)) (.cons (.ret (.sub (.var 3 (qQ 50 11 20)) (.var 0 (qQ 50 21 30)) (qQ 50 11 31)) (qQ 50 4 31)) .nil)))))))))⟩
noncomputable def e_law_handler_1:E:=(.tup (.cons (.var 0 (qQ 52 21 30)) (.cons (.str "x" (qQ 52 32 35)) (.cons (.str "y" (qQ 52 37 40)) (.cons (.tup (.cons (.str "var" (qQ 52 43 48)) (.cons (.str "y" (qQ 52 50 53)) .nil)) (qQ 52 42 54)) .nil)))) (qQ 52 20 55))
noncomputable def c_law_handler_1:Es:=.nil
noncomputable def t_law_handler_1:Tg:=(.one 0 (qQ 52 60 69))
noncomputable def s_law_handler_1:Scope:={ kind:=PySem.ScopeKind.function,names:=[(PySem.Str.ofString ".0",PySem.NameKind.local),(PySem.Str.ofString "_law_deed",PySem.NameKind.local)],isGenerator:=false,isCoroutine:=false,more:=[]:PySem.Scope }
noncomputable def d_law_handler:Df:=⟨"_law_handler",["_law_name_here","_law_cell_here","_law_first","_law_some","_law_tree"],["_law_name_here","_law_cell_here","_law_first","_law_some","_law_tree","_law_clauses","_law_at"],(.cons (.set 5 (.ofL (.comp e_law_handler_1 t_law_handler_1 (.seq (.var 3 (qQ 52 73 82))) c_law_handler_1 ["_law_deed"] [none] s_law_handler_1 (qQ 52 19 83))) (qQ 52 4 16) (qQ 52 4 83)) (.cons (.set 6 (.bin .Mod (.var 1 (qQ 53 14 28)) (.len (.var 3 (qQ 53 35 44)) (qQ 53 31 34) (qQ 53 31 45)) (qQ 53 14 45)) (qQ 53 4 11) (qQ 53 4 45)) (.cons (.iff (.var 2 (qQ 54 7 17)) (.cons (.put (.var 5 (qQ 55 8 20)) (.var 6 (qQ 55 21 28)) (.tup (.cons (.sub (.var 3 (qQ 55 33 42)) (.var 6 (qQ 55 43 50)) (qQ 55 33 51)) (.cons (.str "x" (qQ 55 53 56)) (.cons (.str "y" (qQ 55 58 61)) (.cons (.var 4 (qQ 55 63 72)) .nil)))) (qQ 55 32 73)) (qQ 55 8 29) (qQ 55 8 73)) (.cons (.ret (.tup (.cons (.str "handler" (qQ 56 16 25)) (.cons (.var 0 (qQ 56 27 41)) (.cons (.tupE (.var 5 (qQ 56 49 61)) (qQ 56 43 48) (qQ 56 43 62)) (.cons (.tup (.cons (.str "x" (qQ 56 65 68)) (.cons (.str "y" (qQ 56 70 73)) (.cons (.tup (.cons (.str "num" (qQ 56 76 81)) (.cons (.int 5 (qQ 56 83 84)) .nil)) (qQ 56 75 85)) .nil))) (qQ 56 64 86)) .nil)))) (qQ 56 15 87)) (qQ 56 8 87)) .nil)) .nil ⟨54,4,56,87⟩) (.cons (.ret (.tup (.cons (.str "handler" (qQ 57 12 21)) (.cons (.var 0 (qQ 57 23 37)) (.cons (.tupE (.var 5 (qQ 57 45 57)) (qQ 57 39 44) (qQ 57 39 58)) (.cons (.tup (.cons (.str "x" (qQ 57 61 64)) (.cons (.str "y" (qQ 57 66 69)) (.cons (.var 4 (qQ 57 71 80)) .nil))) (qQ 57 60 81)) .nil)))) (qQ 57 11 82)) (qQ 57 4 82)) .nil))))⟩
noncomputable def e_law_item_1:E:=(.sub (.var 1 (qQ 67 17 27)) (.bin .Mod (.bin .Add (.var 3 (qQ 67 29 38)) (.var 0 (qQ 67 41 47)) (qQ 67 29 47)) (.var 2 (qQ 67 51 60)) (qQ 67 28 60)) (qQ 67 17 61))
noncomputable def c_law_item_1:Es:=.nil
noncomputable def t_law_item_1:Tg:=(.one 0 (qQ 67 66 72))
noncomputable def s_law_item_1:Scope:={ kind:=PySem.ScopeKind.function,names:=[ (PySem.Str.ofString ".0",PySem.NameKind.local),(PySem.Str.ofString "_law_k",PySem.NameKind.local),(PySem.Str.ofString "_law_deeds",PySem.NameKind.free),(PySem.Str.ofString "_law_many",PySem.NameKind.free),(PySem.Str.ofString "_law_spot",PySem.NameKind.free)],isGenerator:=false,isCoroutine:=false,more:=[]:PySem.Scope }
noncomputable def d_law_item:Df:=⟨"_law_item",["_law_name_here","_law_cell_here","_law_deeds","_law_fixed"],["_law_name_here","_law_cell_here","_law_deeds","_law_fixed","_law_many","_law_one","_law_spot","_law_rest","_law_form","_law_tree","_law_some"],(.cons (.set 4 (.len (.var 2 (qQ 59 20 30)) (qQ 59 16 19) (qQ 59 16 31)) (qQ 59 4 13) (qQ 59 4 31)) (.cons (.set 5 (.sub (.var 2 (qQ 60 15 25)) (.bin .Mod (.bin .FloorDiv (.var 1 (qQ 60 26 40)) (.int 3 (qQ 60 44 45)) (qQ 60 26 45)) (.var 4 (qQ 60 48 57)) (qQ 60 26 57)) (qQ 60 15 58)) (qQ 60 4 12) (qQ 60 4 58)) (.cons (.set 6 (.bin .Mod (.bin .FloorDiv (.bin .FloorDiv (.var 1 (qQ 61 16 30)) (.int 3 (qQ 61 34 35)) (qQ 61 16 35)) (.var 4 (qQ 61 39 48)) (qQ 61 16 48)) (.var 4 (qQ 61 51 60)) (qQ 61 16 60)) (qQ 61 4 13) (qQ 61 4 60)) (.cons (.set 7 (.bin .FloorDiv (.bin .FloorDiv (.bin .FloorDiv (.var 1 (qQ 62 16 30)) (.int 3 (qQ 62 34 35)) (qQ 62 16 35)) (.var 4 (qQ 62 39 48)) (qQ 62 16 48)) (.var 4 (qQ 62 52 61)) (qQ 62 16 61)) (qQ 62 4 13) (qQ 62 4 61)) (.cons (.set 8 (.bin .FloorDiv (.var 7 (qQ 63 16 25)) (.int 6 (qQ 63 29 30)) (qQ 63 16 30)) (qQ 63 4 13) (qQ 63 4 30)) (.cons (.iff (.cmp .Eq (.bin .Mod (.var 1 (qQ 64 7 21)) (.int 3 (qQ 64 24 25)) (qQ 64 7 25)) (.int 0 (qQ 64 29 30)) (qQ 64 7 30)) (.cons (.set 9 (.call 6 (.bin .Mod (.var 8 (qQ 65 29 38)) (.int 15 (qQ 65 41 43)) (qQ 65 29 43)) (.cons (.tup (.cons (.str "do" (qQ 65 46 50)) (.cons (.var 5 (qQ 65 52 60)) (.cons (.tup (.cons (.str "do" (qQ 65 63 67)) (.cons (.sub (.var 2 (qQ 65 69 79)) (.var 6 (qQ 65 80 89)) (qQ 65 69 90)) (.cons (.tup (.cons (.str "num" (qQ 65 93 98)) (.cons (.int 12 (qQ 65 100 102)) .nil)) (qQ 65 92 103)) .nil))) (qQ 65 62 104)) .nil))) (qQ 65 45 105)) (.cons (.var 3 (qQ 65 107 117)) .nil)) (qQ 65 20 28) (qQ 65 20 118)) (qQ 65 8 17) (qQ 65 8 118)) (.cons (.ret (.tup (.cons (.tup (.cons (.str "def" (qQ 66 17 22)) (.cons (.var 0 (qQ 66 24 38)) (.cons (.tup .nil (qQ 66 40 42)) (.cons (.non (qQ 66 44 48)) (.cons (.call 6 (.bin .Mod (.bin .FloorDiv (.var 8 (qQ 66 59 68)) (.int 15 (qQ 66 72 74)) (qQ 66 59 74)) (.int 15 (qQ 66 77 79)) (qQ 66 59 79)) (.cons (.var 9 (qQ 66 81 90)) (.cons (.var 3 (qQ 66 92 102)) .nil)) (qQ 66 50 58) (qQ 66 50 103)) .nil))))) (qQ 66 16 104)) (.cons (.ofL (.disp (.cons (.var 5 (qQ 66 107 115)) (.cons (.sub (.var 2 (qQ 66 117 127)) (.var 6 (qQ 66 128 137)) (qQ 66 117 138)) .nil)) (qQ 66 106 139))) .nil)) (qQ 66 15 140)) (qQ 66 8 140)) .nil)) .nil ⟨64,4,66,140⟩) (.cons (.set 10 (.ofL (.comp e_law_item_1 t_law_item_1 (.rng (.min2 (.var 4 (qQ 67 86 95)) (.bin .Add (.int 1 (qQ 67 97 98)) (.bin .Mod (.var 7 (qQ 67 101 110)) (.int 3 (qQ 67 113 114)) (qQ 67 101 114)) (qQ 67 97 114)) (qQ 67 82 85) (qQ 67 82 115)) (qQ 67 76 81) (qQ 67 76 116)) c_law_item_1 ["_law_k","_law_deeds","_law_many","_law_spot"] [none,some 2,some 4,some 6] s_law_item_1 (qQ 67 16 117))) (qQ 67 4 13) (qQ 67 4 117)) (.cons (.iff (.cmp .Eq (.bin .Mod (.var 1 (qQ 68 7 21)) (.int 3 (qQ 68 24 25)) (qQ 68 7 25)) (.int 1 (qQ 68 29 30)) (qQ 68 7 30)) (.cons (.set 9 (.call 6 (.bin .Mod (.var 8 (qQ 69 29 38)) (.int 15 (qQ 69 41 43)) (qQ 69 29 43)) (.cons (.tup (.cons (.str "do" (qQ 69 46 50)) (.cons (.var 5 (qQ 69 52 60)) (.cons (.tup (.cons (.str "num" (qQ 69 63 68)) (.cons (.int 11 (qQ 69 70 72)) .nil)) (qQ 69 62 73)) .nil))) (qQ 69 45 74)) (.cons (.var 3 (qQ 69 76 86)) .nil)) (qQ 69 20 28) (qQ 69 20 87)) (qQ 69 8 17) (qQ 69 8 87)) (.cons (.set 9 (.call 6 (.bin .Mod (.bin .FloorDiv (.var 8 (qQ 70 29 38)) (.int 15 (qQ 70 42 44)) (qQ 70 29 44)) (.int 17 (qQ 70 47 49)) (qQ 70 29 49)) (.cons (.var 9 (qQ 70 51 60)) (.cons (.var 3 (qQ 70 62 72)) .nil)) (qQ 70 20 28) (qQ 70 20 73)) (qQ 70 8 17) (qQ 70 8 73)) .nil)) (.cons (.set 9 (.call 6 (.bin .Mod (.var 8 (qQ 72 29 38)) (.int 13 (qQ 72 41 43)) (qQ 72 29 43)) (.cons (.tup (.cons (.str "do" (qQ 72 46 50)) (.cons (.var 5 (qQ 72 52 60)) (.cons (.tup (.cons (.str "num" (qQ 72 63 68)) (.cons (.int 11 (qQ 72 70 72)) .nil)) (qQ 72 62 73)) .nil))) (qQ 72 45 74)) (.cons (.var 3 (qQ 72 76 86)) .nil)) (qQ 72 20 28) (qQ 72 20 87)) (qQ 72 8 17) (qQ 72 8 87)) (.cons (.set 9 (.call 6 (.bin .Mod (.bin .FloorDiv (.var 8 (qQ 73 29 38)) (.int 15 (qQ 73 42 44)) (qQ 73 29 44)) (.int 13 (qQ 73 47 49)) (qQ 73 29 49)) (.cons (.var 9 (qQ 73 51 60)) (.cons (.var 3 (qQ 73 62 72)) .nil)) (qQ 73 20 28) (qQ 73 20 73)) (qQ 73 8 17) (qQ 73 8 73)) .nil)) ⟨68,4,73,73⟩) (.cons (.ret (.tup (.cons (.call 7 (.var 0 (qQ 74 25 39)) (.cons (.bin .Add (.bin .FloorDiv (.var 7 (qQ 74 41 50)) (.int 3 (qQ 74 54 55)) (qQ 74 41 55)) (.var 8 (qQ 74 58 67)) (qQ 74 41 67)) (.cons (.cmp .Eq (.bin .Mod (.var 1 (qQ 74 69 83)) (.int 3 (qQ 74 86 87)) (qQ 74 69 87)) (.int 1 (qQ 74 91 92)) (qQ 74 69 92)) (.cons (.var 10 (qQ 74 94 103)) (.cons (.var 9 (qQ 74 105 114)) .nil)))) (qQ 74 12 24) (qQ 74 12 115)) (.cons (.bin .Add (.ofL (.disp (.cons (.var 5 (qQ 74 118 126)) .nil) (qQ 74 117 127))) (.var 10 (qQ 74 130 139)) (qQ 74 117 139)) .nil)) (qQ 74 11 140)) (qQ 74 4 140)) .nil)))))))))⟩
noncomputable def t_law_1:Tg:=(.one 7 (qQ 87 8 14))
noncomputable def b_law_1:Ss:=(.cons (.setT [(8,(qQ 88 8 22)),(9,(qQ 88 24 33))] (.call 8 (.sub (.var 3 (qQ 88 46 56)) (.var 7 (qQ 88 57 63)) (qQ 88 46 64)) (.cons (.sub (.var 0 (qQ 88 66 77)) (.bin .Add (.int 3 (qQ 88 78 79)) (.var 7 (qQ 88 82 88)) (qQ 88 78 88)) (qQ 88 66 89)) (.cons (.var 2 (qQ 88 91 101)) (.cons (.var 4 (qQ 88 103 113)) .nil))) (qQ 88 36 45) (qQ 88 36 114)) (qQ 88 8 33) (qQ 88 8 114)) (.cons (.ex (.m1 .append (.var 5 (qQ 89 8 20)) (.var 8 (qQ 89 28 42)) (qQ 89 8 27) (qQ 89 8 43)) (qQ 89 8 43)) (.cons (.ex (.m1 .extend (.var 6 (qQ 90 8 16)) (.var 9 (qQ 90 24 33)) (qQ 90 8 23) (qQ 90 8 34)) (qQ 90 8 34)) .nil)))
noncomputable def e_law_2:E:=(.call 5 (.var 0 (qQ 80 28 34)) (.cons (.call 4 (.var 1 (qQ 80 46 57)) (.cons (.int 2 (qQ 80 59 60)) .nil) (qQ 80 36 45) (qQ 80 36 61)) .nil) (qQ 80 18 27) (qQ 80 18 62))
noncomputable def c_law_2:Es:=.nil
noncomputable def t_law_2:Tg:=(.one 0 (qQ 80 67 73))
noncomputable def s_law_2:Scope:={ kind:=PySem.ScopeKind.function,names:=[ (PySem.Str.ofString ".0",PySem.NameKind.local),(PySem.Str.ofString "_law_k",PySem.NameKind.local),(PySem.Str.ofString "_law_name",PySem.NameKind.globalImplicit),(PySem.Str.ofString "_law_cell",PySem.NameKind.globalImplicit),(PySem.Str.ofString "_law_script",PySem.NameKind.free)],isGenerator:=false,isCoroutine:=false,more:=[]:PySem.Scope }
noncomputable def e_law_3:E:=(.call 5 (.var 0 (qQ 79 28 34)) (.cons (.call 4 (.var 1 (qQ 79 46 57)) (.cons (.int 1 (qQ 79 59 60)) .nil) (qQ 79 36 45) (qQ 79 36 61)) .nil) (qQ 79 18 27) (qQ 79 18 62))
noncomputable def c_law_3:Es:=.nil
noncomputable def t_law_3:Tg:=(.one 0 (qQ 79 67 73))
noncomputable def s_law_3:Scope:={ kind:=PySem.ScopeKind.function,names:=[ (PySem.Str.ofString ".0",PySem.NameKind.local),(PySem.Str.ofString "_law_k",PySem.NameKind.local),(PySem.Str.ofString "_law_name",PySem.NameKind.globalImplicit),(PySem.Str.ofString "_law_cell",PySem.NameKind.globalImplicit),(PySem.Str.ofString "_law_script",PySem.NameKind.free)],isGenerator:=false,isCoroutine:=false,more:=[]:PySem.Scope }
noncomputable def d_law:Df:=⟨"law",["_law_script"],["_law_script","_law_many","_law_deeds","_law_names","_law_fixed","_law_program","_law_due","_law_k","_law_item_here","_law_some","_law_found"],(.cons (.set 1 (.bin .Add (.int 1 (qQ 76 16 17)) (.bin .Mod (.call 4 (.var 0 (qQ 76 30 41)) (.cons (.int 0 (qQ 76 43 44)) .nil) (qQ 76 20 29) (qQ 76 20 45)) (.int 9 (qQ 76 48 49)) (qQ 76 20 49)) (qQ 76 16 49)) (qQ 76 4 13) (qQ 76 4 49)) (.cons (.iff (.cmp .Eq (.bin .Mod (.bin .FloorDiv (.call 4 (.var 0 (qQ 77 17 28)) (.cons (.int 0 (qQ 77 30 31)) .nil) (qQ 77 7 16) (qQ 77 7 32)) (.int 9 (qQ 77 36 37)) (qQ 77 7 37)) (.int 4 (qQ 77 40 41)) (qQ 77 7 41)) (.int 1 (qQ 77 45 46)) (qQ 77 7 46)) (.cons (.set 1 (.bin .Add (.int 1 (qQ 78 20 21)) (.bin .Mod (.bin .FloorDiv (.call 4 (.var 0 (qQ 78 34 45)) (.cons (.int 0 (qQ 78 47 48)) .nil) (qQ 78 24 33) (qQ 78 24 49)) (.int 36 (qQ 78 53 55)) (qQ 78 24 55)) (.int 120 (qQ 78 58 61)) (qQ 78 24 61)) (qQ 78 20 61)) (qQ 78 8 17) (qQ 78 8 61)) .nil) .nil ⟨77,4,78,61⟩) (.cons (.set 2 (.ofL (.comp e_law_3 t_law_3 (.rng (.var 1 (qQ 79 83 92)) (qQ 79 77 82) (qQ 79 77 93)) c_law_3 ["_law_k","_law_script"] [none,some 0] s_law_3 (qQ 79 17 94))) (qQ 79 4 14) (qQ 79 4 94)) (.cons (.set 3 (.ofL (.comp e_law_2 t_law_2 (.rng (.int 40 (qQ 80 83 85)) (qQ 80 77 82) (qQ 80 77 86)) c_law_2 ["_law_k","_law_script"] [none,some 0] s_law_2 (qQ 80 17 87))) (qQ 80 4 14) (qQ 80 4 87)) (.cons (.set 4 (.tup (.cons (.sub (.var 3 (qQ 81 18 28)) (.int 36 (qQ 81 29 31)) (qQ 81 18 32)) (.cons (.sub (.var 3 (qQ 81 34 44)) (.int 37 (qQ 81 45 47)) (qQ 81 34 48)) (.cons (.sub (.var 3 (qQ 81 50 60)) (.int 38 (qQ 81 61 63)) (qQ 81 50 64)) (.cons (.sub (.var 3 (qQ 81 66 76)) (.int 39 (qQ 81 77 79)) (qQ 81 66 80)) .nil)))) (qQ 81 17 81)) (qQ 81 4 14) (qQ 81 4 81)) (.cons (.set 5 (.ofL (.disp (.cons (.tup (.cons (.str "handler" (qQ 82 21 30)) (.cons (.sub (.var 3 (qQ 82 32 42)) (.int 36 (qQ 82 43 45)) (qQ 82 32 46)) (.cons (.tup .nil (qQ 82 48 50)) (.cons (.tup (.cons (.str "x" (qQ 82 53 56)) (.cons (.str "y" (qQ 82 58 61)) (.cons (.tup (.cons (.str "var" (qQ 82 64 69)) (.cons (.str "x" (qQ 82 71 74)) .nil)) (qQ 82 63 75)) .nil))) (qQ 82 52 76)) .nil)))) (qQ 82 20 77)) .nil) (qQ 82 19 78))) (qQ 82 4 16) (qQ 82 4 78)) (.cons (.ex (.m1 .append (.var 5 (qQ 83 4 16)) (.tup (.cons (.str "def" (qQ 83 25 30)) (.cons (.sub (.var 3 (qQ 83 32 42)) (.int 37 (qQ 83 43 45)) (qQ 83 32 46)) (.cons (.tup (.cons (.str "x" (qQ 83 49 52)) (.cons (.str "y" (qQ 83 54 57)) .nil)) (qQ 83 48 58)) (.cons (.non (qQ 83 60 64)) (.cons (.tup (.cons (.str "var" (qQ 83 67 72)) (.cons (.str "y" (qQ 83 74 77)) .nil)) (qQ 83 66 78)) .nil))))) (qQ 83 24 79)) (qQ 83 4 23) (qQ 83 4 80)) (qQ 83 4 80)) (.cons (.ex (.m1 .append (.var 5 (qQ 84 4 16)) (.tup (.cons (.str "def" (qQ 84 25 30)) (.cons (.sub (.var 3 (qQ 84 32 42)) (.int 38 (qQ 84 43 45)) (qQ 84 32 46)) (.cons (.tup (.cons (.str "x" (qQ 84 49 52)) .nil) (qQ 84 48 54)) (.cons (.str "p" (qQ 84 56 59)) (.cons (.tup (.cons (.str "call" (qQ 84 62 68)) (.cons (.str "p" (qQ 84 70 73)) (.cons (.non (qQ 84 75 79)) (.cons (.tup (.cons (.tup (.cons (.str "var" (qQ 84 83 88)) (.cons (.str "x" (qQ 84 90 93)) .nil)) (qQ 84 82 94)) .nil) (qQ 84 81 96)) .nil)))) (qQ 84 61 97)) .nil))))) (qQ 84 24 98)) (qQ 84 4 23) (qQ 84 4 99)) (qQ 84 4 99)) (.cons (.ex (.m1 .append (.var 5 (qQ 85 4 16)) (.tup (.cons (.str "def" (qQ 85 25 30)) (.cons (.sub (.var 3 (qQ 85 32 42)) (.int 39 (qQ 85 43 45)) (qQ 85 32 46)) (.cons (.tup (.cons (.str "x" (qQ 85 49 52)) .nil) (qQ 85 48 54)) (.cons (.non (qQ 85 56 60)) (.cons (.tup (.cons (.str "var" (qQ 85 63 68)) (.cons (.str "x" (qQ 85 70 73)) .nil)) (qQ 85 62 74)) .nil))))) (qQ 85 24 75)) (qQ 85 4 23) (qQ 85 4 76)) (qQ 85 4 76)) (.cons (.set 6 (.ofL (.disp .nil (qQ 86 15 17))) (qQ 86 4 12) (qQ 86 4 17)) (.cons (.forr t_law_1 (.rng (.len (.cut (.var 0 (qQ 87 28 39)) (.some (.int 3 (qQ 87 40 41))) (.some (.int 39 (qQ 87 42 44))) (qQ 87 40 44) (qQ 87 28 45)) (qQ 87 24 27) (qQ 87 24 46)) (qQ 87 18 23) (qQ 87 18 47)) b_law_1 ⟨87,4,90,34⟩) (.cons (.set 6 (.sset (.var 6 (qQ 91 26 34)) (qQ 91 15 21) (qQ 91 22 25) (qQ 91 22 35) (qQ 91 15 36)) (qQ 91 4 12) (qQ 91 4 36)) (.cons (.set 10 (.call 3 (.tupE (.var 5 (qQ 92 32 44)) (qQ 92 26 31) (qQ 92 26 45)) .nil (qQ 92 17 25) (qQ 92 17 46)) (qQ 92 4 14) (qQ 92 4 46)) (.cons (.iff (.or (.un .Not (.isi 4 (.var 10 (qQ 93 22 32)) (qQ 93 11 21) (qQ 93 34 38) (qQ 93 11 39)) (qQ 93 7 39)) (.cmp .NotEq (.var 10 (qQ 93 43 53)) (.var 6 (qQ 93 57 65)) (qQ 93 43 65)) .nil (qQ 93 7 65)) (.cons (.ret (.bl false (qQ 94 15 20)) (qQ 94 8 20)) .nil) .nil ⟨93,4,94,20⟩) (.cons (.ex (.m1 .append (.var 10 (qQ 95 4 14)) (.str "q" (qQ 95 22 25)) (qQ 95 4 21) (qQ 95 4 26)) (qQ 95 4 26)) (.cons (.iff (.cmpN true (.call 3 (.tupE (.cut (.var 5 (qQ 96 22 34)) .none (.some (.int 4 (qQ 96 36 37))) (qQ 96 35 37) (qQ 96 22 38)) (qQ 96 16 21) (qQ 96 16 39)) .nil (qQ 96 7 15) (qQ 96 7 40)) (qQ 96 44 46) (qQ 96 7 46)) (.cons (.ret (.bl false (qQ 97 15 20)) (qQ 97 8 20)) .nil) .nil ⟨96,4,97,20⟩) (.cons (.ex (.m0 .reverse (.var 5 (qQ 98 4 16)) (qQ 98 4 24) (qQ 98 4 26)) (qQ 98 4 26)) (.cons (.ret (.cmp .Eq (.call 3 (.tupE (.var 5 (qQ 99 26 38)) (qQ 99 20 25) (qQ 99 20 39)) .nil (qQ 99 11 19) (qQ 99 11 40)) (.var 6 (qQ 99 44 52)) (qQ 99 11 52)) (qQ 99 4 52)) .nil))))))))))))))))))⟩
noncomputable def defs:List Df:=[d_parts_of,d_all_within,d_bodies_of,d_deeds_of,d_law_cell,d_law_name,d_law_put,d_law_handler,d_law_item,d_law]
end K22
set_option Elab.async false
set_option linter.all false
set_option maxRecDepth 100000
set_option maxHeartbeats 4000000
namespace K22
open PySem L2 PI
mutual
noncomputable def pre:G->List G
  | .nd k ps=>.nd k ps :: pres ps
noncomputable def pres:List G->List G
  | []=>[]
  | g :: r=>pres r ++ pre g
end
theorem pres_append:∀ (a b:List G),pres (a ++ b)=pres b ++ pres a
  | [],b=>by rw [List.nil_append]; simp [pres]
  | g :: r,b=>by rw [List.cons_append,pres,pres,pres_append r b,List.append_assoc]
theorem size_pos (g:G):0 < g.size:=by cases g; rw [G.size]; omega
mutual
theorem pre_len:∀ g:G,(pre g).length=g.size
  | .nd k ps=>by rw [pre,G.size,List.length_cons,pres_len ps]; omega
theorem pres_len:∀ gs:List G,(pres gs).length=G.sizes gs
  | []=>by rw [pres,G.sizes]; rfl
  | g :: r=>by rw [pres,G.sizes,List.length_append,pre_len g,pres_len r]; omega
end
theorem g_lookup (k:Kd) (hk:∀ f g,k ≠ .call f g):g_FIRST_PART.lookup k.tag=some (.int (if k.isIf || k.isGo || k.isGuard then 1 else 2)):=by
  cases k <;> first | (exact absurd rfl (hk _ _)) | rfl
theorem r_parts (cl:Nat->List D->Hh->Res D) (k:Kd) (ps:List G) (h:Hh):d_parts_of.run cl [(G.nd k ps).d] h=.ok (.tup (G.ds ps)) h:=by
  have e0:=sub_0 k (G.ds ps) h
  have e1:=eqS (h:=h) (tag_ok k) so_call
  rw [G.d]
  by_cases hk:∃ f g,k=.call f g
  · obtain ⟨f,g,rfl⟩:=hk
    rw [tag_call] at e1
    exact out_rt (iff_r (t_cmp (bnd rfl (bnd rfl e0)) rfl e1) (ret_r (bnd rfl (bnd rfl rfl))))
  · have hk':∀ f g,k ≠ .call f g:=fun f g z=>hk ⟨f,g,z⟩
    have lk:=g_lookup k hk'
    have ht:k.isCall=false:=by cases k <;> first | exact absurd rfl (hk' _ _) | rfl
    rw [tag_call,ht] at e1
    refine out_rt (iff_f (t_cmp (bnd rfl (bnd rfl e0)) rfl e1) (ret_r (bnd rfl (bnd (some_s (h':=h) (i:=if k.isIf || k.isGo || k.isGuard then 1 else 2) (bnd (bnd rfl (bnd rfl e0)) ?_)) (bnd rfl ?_)))))
    · show cstD _ _ _=_
      unfold cstD
      dsimp only
      rw [lk]; rfl
    · cases k <;> first | (exact absurd rfl (hk' _ _)) | (simp [Kd.isIf,Kd.isGo,Kd.isGuard,Kd.enc,cut_1,cut_2])
noncomputable def PartsOk (cl:Nat->List D->Hh->Res D) (i:Nat):Prop:=∀ k ps h,cl i [(G.nd k ps).d] h=.ok (.tup (G.ds ps)) h
theorem wl:∀ W:List G,W.length<=G.sizes W
  | []=>by simp
  | g :: r=>by have:=size_pos g; have:=wl r; rw [G.sizes,List.length_cons]; omega
theorem aw_loop (cl:Nat->List D->Hh->Res D) (C:PartsOk cl 0) (t:D) (h:Hh):∀ (n:Nat) (W:List G) (F:List D) (one:Option D),G.sizes W<=n->F.length + G.sizes W<=1000000 ->
    ∃ one',whR (fun ρ h=>w_all_within_1.evT cl ρ h) (fun ρ h=>b_all_within_1.run cl ρ h) [some t,some (.loc h.length),some (.loc (h.length + 1)),one] (h ++ [.lst F,.lst (G.ds W)]) =
      .nx [some t,some (.loc h.length),some (.loc (h.length + 1)),one'] (h ++ [.lst (F ++ G.ds (pres W)),.lst []]):=by
  intro n
  induction n with
  | zero =>
    intro W F one hn hl
    have:W=[]:=by
      cases W with
      | nil=>rfl
      | cons g r=>have:=size_pos g; rw [G.sizes] at hn; omega
    subst this
    refine ⟨one,?_⟩
    rw [whR_done (h1:=h ++ [.lst F,.lst (G.ds [])])]
    · simp [pres,G.ds]
    · simp [w_all_within_1,E.evT,vcmpN,vvar,nilD,rdx,rd,G.ds,hx]
  | succ n ih =>
    intro W F one hn hl
    rcases List.eq_nil_or_concat W with rfl | ⟨W',g,rfl⟩
    · refine ⟨one,?_⟩
      rw [whR_done (h1:=h ++ [.lst F,.lst (G.ds [])])]
      · simp [pres,G.ds]
      · simp [w_all_within_1,E.evT,vcmpN,vvar,nilD,rdx,rd,G.ds,hx]
    · obtain ⟨k,ps⟩:=g
      rw [List.concat_eq_append] at *
      have es:G.sizes (W' ++ [.nd k ps])=G.sizes W' + 1 + G.sizes ps:=by rw [sizes_append,G.sizes,G.sizes,G.size]; omega
      have es2:G.sizes (W' ++ ps)=G.sizes W' + G.sizes ps:=sizes_append _ _
      obtain ⟨one',e⟩:=ih (W' ++ ps) (F ++ [(G.nd k ps).d]) (some (G.nd k ps).d) (by omega) (by simp; omega)
      refine ⟨one',?_⟩
      have l1:=wl W'
      have l2:=wl ps
      rw [whR_turn (h1:=h ++ [.lst F,.lst (G.ds (W' ++ [.nd k ps]))]) (ρ':=[some t,some (.loc h.length),some (.loc (h.length + 1)),some (G.nd k ps).d]) (h':=h ++ [.lst (F ++ [(G.nd k ps).d]),.lst (G.ds (W' ++ ps))]),e]
      · have ee:F ++ [(G.nd k ps).d] ++ G.ds (pres (W' ++ ps))=F ++ G.ds (pres (W' ++ [.nd k ps])):=by
          rw [pres_append,pres_append,pres,pres,pre,List.nil_append,List.append_assoc]
          congr 1
        rw [ee]
      · simp [w_all_within_1,E.evT,vcmpN,vvar,nilD,rdx,rd,G.ds,hx,ds_append]
      · have c:=C k ps
        have f1:F.length < 1000000:=by omega
        have f2:W'.length + ps.length<=1000000:=by omega
        simp [b_all_within_1,zcons,znil,yset,yex,vm0,vm1,vvar,vcall,econs,enil,m0D,m1D,onL,hx,hx0,hset,hset0,ds_append,G.ds,c,f1,f2,ds_len]
theorem r_within (cl:Nat->List D->Hh->Res D) (C:PartsOk cl 0) (g:G) (h:Hh) (hs:g.size<=1000000) :
    d_all_within.run cl [g.d] h=.ok (.loc h.length) (h ++ [.lst (G.ds (pre g)),.lst []]):=by
  obtain ⟨o,e⟩:=aw_loop cl C g.d h g.size [g] [] none (by rw [G.sizes,G.sizes]; omega) (by rw [G.sizes,G.sizes]; simpa using hs)
  have e1:pres [g]=pre g:=by rw [pres,pres]; rfl
  rw [e1] at e
  simp [G.ds] at e
  simp [d_all_within,Df.run,zcons,znil,yset,ywhil,yret,vofL,vvar,ldisp,econs,enil,new,e,outR]
noncomputable def WithinOk (cl:Nat->List D->Hh->Res D) (i:Nat):Prop:=∀ (g:G) h,g.size<=1000000->cl i [g.d] h=.ok (.loc h.length) (h ++ [.lst (G.ds (pre g)),.lst []])
inductive It where
  | df (nm ps o:D) (b:G)
  | hd (nm:D) (cs:List (Str × G)) (e:G)
noncomputable def clD (c:Str × G):D:=.tup [.str c.1,.str "x",.str "y",c.2.d]
noncomputable def It.d:It->D
  | .df nm ps o b=>.tup [.str "def",nm,ps,o,b.d]
  | .hd nm cs e=>.tup [.str "handler",nm,.tup (cs.map clD),.tup [.str "x",.str "y",e.d]]
noncomputable def It.bods:It->List G
  | .df _ _ _ b=>[b]
  | .hd _ cs e=>cs.map (·.2) ++ [e]
noncomputable def It.heads:It->List Str
  | .df _ _ _ _=>[]
  | .hd _ cs _=>cs.map (·.1)
theorem so_def:PyData.strOk "def"=true:=by decide +kernel
theorem so_hd:PyData.strOk "handler"=true:=by decide +kernel
theorem so_do:PyData.strOk "do"=true:=by decide +kernel
theorem compL_on {α:Type} (φ:α->D) {c:Ck} {f:D->Hh->Res (Option D)} {h:Hh} (st:stay c h) (g:α->Option D):∀ (xs:List α) (acc:List D),(∀ x ∈ xs,f (φ x) h=.ok (g x) h)->compL c f (xs.map φ) acc h=.ok (acc ++ xs.filterMap g) h
  | [],acc,_=>by simp [compL,st]
  | x :: r,acc,e=>by
    have e1:=e x (List.mem_cons_self ..)
    have ih:=compL_on φ st g r (addO acc (g x)) fun y hy=>e y (List.mem_cons_of_mem _ hy)
    rw [List.map_cons]
    unfold compL
    rw [if_pos st,e1,bind_ok,ih,List.filterMap_cons]
    cases g x <;> simp
theorem fm_some {α β:Type} (f:α->β) (l:List α):l.filterMap (fun x=>some (f x))=l.map f:=by
  induction l with
  | nil=>rfl
  | cons x r ih=>rw [List.filterMap_cons,List.map_cons,ih]
theorem tupL_comp {cl:Nat->List D->Hh->Res D} {ρ:En} {h h' h2:Hh} {p p1 p2:Pos} {elt:E} {tg:Tg} {it:I} {ct:Es} {ns:List Str} {cap:List (Option Nat)} {sc:Scope} {q:Ck × List D} {xs:List D} (hi:it.ev cl ρ h=.ok q h') (hl:q.2.length<=1000000) (hc:compL q.1 (compF tg (capE cap ρ) (fun ρ' h2=>ct.evC cl ρ' h2) (fun ρ' h2=>elt.ev cl ρ' h2)) q.2 [] h'=.ok xs h2):E.ev cl (.tupL (.comp elt tg it ct ns cap sc p) p1 p2) ρ h=.ok (.tup xs) h2:=bnd (bnd hi ((if_pos hl).trans hc)) rfl
theorem r_bodies (cl:Nat->List D->Hh->Res D) (it:It) (h:Hh) (hn:it.bods.length<=1000000):d_bodies_of.run cl [it.d] h=.ok (.tup (it.bods.map G.d)) h:=by
  cases it with
  | df nm ps o b=>exact out_rt (iff_r (t_cmp (bnd rfl (bnd rfl rfl)) rfl (eqS so_def so_def)) (ret_r (bnd (bnd (bnd rfl (bnd rfl rfl)) rfl) rfl)))
  | hd nm cs e =>
    have hl:cs.length + 1<=1000000:=by simpa [It.bods] using hn
    have key:=compL_on clD (c:=[]) (f:=compF t_bodies_of_1 (capE [none] [some (It.hd nm cs e).d]) (fun ρ' h2=>c_bodies_of_1.evC cl ρ' h2) (fun ρ' h2=>e_bodies_of_1.ev cl ρ' h2)) (h:=h) stay_nil (fun x=>some x.2.d) cs [] (fun x _=>compF_t rfl rfl (bnd rfl (bnd rfl rfl)))
    rw [fm_some,List.nil_append] at key
    refine out_rt (iff_f (t_cmp (bnd rfl (bnd rfl rfl)) rfl ((eqS so_hd so_def).trans (by rfl))) (ret_r (bnd (tupL_comp (q:=([],cs.map clD)) (bnd (bnd rfl (bnd rfl rfl)) rfl) (by simp; omega) key) (bnd (bnd (bnd (bnd (bnd rfl (bnd rfl rfl)) (bnd rfl rfl)) rfl) rfl) ?_))))
    show (if _ then _ else _)=_
    rw [if_pos (by simp; omega)]
    simp [It.bods]
noncomputable def BodOk (cl:Nat->List D->Hh->Res D) (i:Nat):Prop:=∀ (it:It) h,it.bods.length<=1000000->cl i [it.d] h=.ok (.tup (it.bods.map G.d)) h
end K22
set_option Elab.async false
set_option linter.all false
set_option maxRecDepth 100000
set_option maxHeartbeats 4000000
namespace K22
open PySem L2 PI
noncomputable def dd1:G->Option Str
  | .nd (.doo d) _=>some d
  | _=>none
noncomputable def gdd (g:G):List Str:=(pre g).filterMap dd1
noncomputable def It.dds (it:It):List Str:=it.heads ++ it.bods.flatMap gdd
theorem gdd_len (g:G):(gdd g).length<=g.size:=by
  unfold gdd
  exact Nat.le_trans (List.length_filterMap_le _ _) (Nat.le_of_eq (pre_len g))
theorem dd_go (k:Kd) (ps:List G) (h:Hh):(cmpD .Eq (.str k.tag) (.str "do") h)=.ok (.bl (dd1 (.nd k ps)).isSome) h:=by
  rw [eqS (tag_ok k) so_do]
  cases k <;> rfl
theorem f_dd (cl:Nat->List D->Hh->Res D) (g:G) (h:Hh):compF t_deeds_of_3 [none] (fun ρ' h2=>c_deeds_of_3.evC cl ρ' h2) (fun ρ' h2=>e_deeds_of_3.ev cl ρ' h2) g.d h=.ok ((dd1 g).map D.str) h:=by
  obtain ⟨k,ps⟩:=g
  have e0:=sub_0 k (G.ds ps) h
  have e1:=dd_go k ps h
  rw [G.d]
  cases hk:dd1 (.nd k ps) with
  | none =>
    rw [hk] at e1
    show (match bindT t_deeds_of_3 (k.enc (G.ds ps)) [none] with | some ρ'=>(c_deeds_of_3.evC cl ρ' h).bind fun b h1=>if b then (e_deeds_of_3.ev cl ρ' h1).bind fun d h2=>.ok (some d) h2 else .ok none h1 | none=>.no)=_
    exact bnd (x:=false) (bnd (bnd (bnd rfl (bnd rfl e0)) (bnd rfl e1)) rfl) rfl
  | some d =>
    rw [hk] at e1
    cases k with
    | doo d' =>
      cases hk
      exact compF_t rfl (bnd (bnd (bnd rfl (bnd rfl e0)) (bnd rfl e1)) rfl) (bnd rfl (bnd rfl (by rw [Kd.enc,sub_tup,atI_pos (by decide)]; rfl)))
    | _=>cases hk
theorem ext_s {cl:Nat->List D->Hh->Res D} {ρ:En} {h0 h h1:Hh} {o a:E} {p1 p:Pos} {n m:Nat} {xs ys:List D} (ho:o.ev cl ρ h0=.ok (.loc n) h) (g0:∃ l,h[n]?=some (.lst l)) (ha:a.ev cl ρ h=.ok (.loc m) h1) (g1:h1[n]?=some (.lst xs)) (g2:h1[m]?=some (.lst ys)) (hl:xs.length + ys.length<=1000000) :
    E.ev cl (.m1 .extend o a p1 p) ρ h0=.ok .non (h1.set n (.lst (xs ++ ys))):=by
  obtain ⟨l,g0⟩:=g0
  refine bnd ho ?_
  show onL (.loc n) h _=_
  rw [on_lst g0]
  refine bnd ha ?_
  show m1D .extend (.loc n) (.loc m) h1=_
  unfold m1D
  dsimp only
  rw [g1]
  dsimp only
  rw [g2]
  exact if_pos hl
theorem g_0 (h:Hh) (o:O) (J:Hh):(h ++ o :: J)[h.length]?=some o:=by rw [hx0]; rfl
theorem s_0 (h:Hh) (o o':O) (J:Hh):(h ++ o :: J).set h.length o'=h ++ o' :: J:=by rw [hset0]; rfl
theorem one_body (cl:Nat->List D->Hh->Res D) (W:WithinOk cl 1) (g:G) (h:Hh) (F:List Str) (J:Hh) (a b:Option D) (hs:g.size<=100000) (hF:F.length<=100000) :
    ∃ J',b_deeds_of_2.run cl [a,some (.loc h.length),b,some g.d] (h ++ .lst (F.map .str) :: J)=.nx [a,some (.loc h.length),b,some g.d] (h ++ .lst ((F ++ gdd g).map .str) :: J'):=by
  have c:=W g (h ++ .lst (F.map .str) :: J) (by omega)
  have l1:(G.ds (pre g)).length<=1000000:=by rw [ds_len,pre_len]; omega
  have lg:=gdd_len g
  generalize hh1:(h ++ O.lst (F.map .str) :: J) ++ [.lst (G.ds (pre g)),.lst []]=h1 at c
  have r1:rd h1 (h ++ O.lst (F.map .str) :: J).length=some (G.ds (pre g)):=by rw [<- hh1,rdx0]; rfl
  have r2:h1[h.length]?=some (.lst (F.map .str)):=by rw [<- hh1]; exact get_old (g_0 _ _ _)
  have key:=compL_on G.d (c:=[((h ++ O.lst (F.map .str) :: J).length,G.ds (pre g))]) (f:=compF t_deeds_of_3 [none] (fun ρ' h2=>c_deeds_of_3.evC cl ρ' h2) (fun ρ' h2=>e_deeds_of_3.ev cl ρ' h2)) (h:=h1) (stay_one.mpr r1) (fun x=>(dd1 x).map D.str) (pre g) [] (fun x _=>f_dd cl x h1)
  rw [List.nil_append,<- List.map_filterMap,<- ds_map] at key
  refine ⟨J ++ [.lst (G.ds (pre g)),.lst []] ++ [.lst ((gdd g).map .str)],ex_s (ext_s rfl ⟨_,g_0 _ _ _⟩ (ofL_comp (seq_loc (bnd rfl (bnd rfl c)) r1) l1 key) (get_old r2) (by rw [hx0]; rfl) (by unfold gdd at lg; simp only [List.length_map]; omega)) ?_⟩
  rw [<- hh1]
  show RS.nx _ _=_
  simp only [List.append_assoc,List.cons_append,List.map_append]
  rw [s_0]
  rfl
theorem bods_loop (cl:Nat->List D->Hh->Res D) (W:WithinOk cl 1) (h:Hh) (a b:Option D):∀ (gs:List G) (F:List Str) (J:Hh) (c:Option D),(∀ g ∈ gs,g.size<=1000)->F.length + (gs.flatMap gdd).length<=100000 ->
    ∃ c' J',forL [] (stepF t_deeds_of_2 fun ρ' h'=>b_deeds_of_2.run cl ρ' h') (gs.map G.d) [a,some (.loc h.length),b,c] (h ++ .lst (F.map .str) :: J)=.nx [a,some (.loc h.length),b,c'] (h ++ .lst ((F ++ gs.flatMap gdd).map .str) :: J')
  | [],F,J,c,_,_=>⟨c,J,by rw [List.map_nil,forL,if_pos stay_nil]; simp⟩
  | g :: gs,F,J,c,hs,hF=>by
    rw [List.flatMap_cons,List.length_append] at hF
    obtain ⟨J1,e1⟩:=one_body cl W g h F J a b (by have:=hs g (List.mem_cons_self ..); omega) (by omega)
    obtain ⟨c',J',e2⟩:=bods_loop cl W h a b gs (F ++ gdd g) J1 (some g.d) (fun x hx=>hs x (List.mem_cons_of_mem _ hx)) (by rw [List.length_append]; omega)
    refine ⟨c',J',for_n stay_nil e1 (e2.trans ?_)⟩
    rw [List.flatMap_cons,List.append_assoc]
structure It.Ok (it:It):Prop where
  sz:∀ g ∈ it.bods,g.size<=1000
  nb:it.bods.length<=1000
theorem one_item (cl:Nat->List D->Hh->Res D) (W:WithinOk cl 1) (B:BodOk cl 2) (it:It) (h:Hh) (F:List Str) (J:Hh) (a c:Option D) (ok:it.Ok) (hF:F.length + it.dds.length<=100000) :
    ∃ c' J',b_deeds_of_1.run cl [a,some (.loc h.length),some it.d,c] (h ++ .lst (F.map .str) :: J)=.nx [a,some (.loc h.length),some it.d,c'] (h ++ .lst ((F ++ it.dds).map .str) :: J'):=by
  have nb:=ok.nb
  unfold It.dds at hF ⊢
  rw [List.length_append] at hF
  have tl:∀ (J:Hh),∃ c' J',Ss.run cl (dropS 1 b_deeds_of_1) [a,some (.loc h.length),some it.d,c] (h ++ .lst ((F ++ it.heads).map .str) :: J)=.nx [a,some (.loc h.length),some it.d,c'] (h ++ .lst ((F ++ (it.heads ++ it.bods.flatMap gdd)).map .str) :: J'):=by
    intro J
    obtain ⟨c',J',e⟩:=bods_loop cl W h a (some it.d) it.bods (F ++ it.heads) J c ok.sz (by rw [List.length_append]; omega)
    refine ⟨c',J',forr_s (q:=([],it.bods.map G.d)) (bnd (bnd rfl (bnd rfl (B it _ (by omega)))) rfl) e ?_⟩
    rw [<- List.append_assoc]; rfl
  cases it with
  | df nm ps o b =>
    obtain ⟨c',J',e⟩:=tl J
    refine ⟨c',J',iff_f (t_cmp (bnd rfl (bnd rfl rfl)) rfl ((eqS so_def so_hd).trans (by rfl))) ?_⟩
    rw [show (F ++ (It.df nm ps o b).heads)=F from List.append_nil _] at e
    exact e
  | hd nm cs g =>
    obtain ⟨c',J',e⟩:=tl (J ++ [.lst (((It.hd nm cs g).heads).map .str)])
    have hl0:cs.length + 1<=1000:=by simpa [It.bods] using nb
    have hl:cs.length<=1000:=by omega
    have key:=compL_on clD (c:=[]) (f:=compF t_deeds_of_4 [none] (fun ρ' h2=>c_deeds_of_4.evC cl ρ' h2) (fun ρ' h2=>e_deeds_of_4.ev cl ρ' h2)) (h:=h ++ .lst (F.map .str) :: J) stay_nil (fun x=>some (.str x.1)) cs [] (fun x _=>compF_t rfl rfl (bnd rfl (bnd rfl rfl)))
    rw [fm_some,List.nil_append] at key
    have hl2:(It.hd nm cs g).heads.length=cs.length:=by simp [It.heads]
    refine ⟨c',J',iff_n (t_cmp (bnd rfl (bnd rfl rfl)) rfl (eqS so_hd so_hd)) (ex_s (ext_s rfl ⟨_,g_0 _ _ _⟩ (ofL_comp (q:=([],cs.map clD)) (bnd (bnd rfl (bnd rfl rfl)) rfl) (by simp; omega) key) (get_old (g_0 _ _ _)) (by rw [hx0]; rfl) (by simp; omega)) rfl) ?_⟩
    rw [<- e]
    congr 1
    rw [List.append_assoc,List.cons_append,s_0]
    simp [It.heads]
theorem items_loop (cl:Nat->List D->Hh->Res D) (W:WithinOk cl 1) (B:BodOk cl 2) (h:Hh) (a:Option D):∀ (its:List It) (F:List Str) (J:Hh) (b c:Option D),(∀ it ∈ its,it.Ok)->F.length + (its.flatMap It.dds).length<=100000 ->
    ∃ b' c' J',forL [] (stepF t_deeds_of_1 fun ρ' h'=>b_deeds_of_1.run cl ρ' h') (its.map It.d) [a,some (.loc h.length),b,c] (h ++ .lst (F.map .str) :: J)=.nx [a,some (.loc h.length),b',c'] (h ++ .lst ((F ++ its.flatMap It.dds).map .str) :: J')
  | [],F,J,b,c,_,_=>⟨b,c,J,by rw [List.map_nil,forL,if_pos stay_nil]; simp⟩
  | it :: its,F,J,b,c,hs,hF=>by
    rw [List.flatMap_cons,List.length_append] at hF
    obtain ⟨c1,J1,e1⟩:=one_item cl W B it h F J a c (hs it (List.mem_cons_self ..)) (by omega)
    obtain ⟨b',c',J',e2⟩:=items_loop cl W B h a its (F ++ it.dds) J1 (some it.d) c1 (fun x hx=>hs x (List.mem_cons_of_mem _ hx)) (by rw [List.length_append]; omega)
    refine ⟨b',c',J',for_n stay_nil e1 (e2.trans ?_)⟩
    rw [List.flatMap_cons,List.append_assoc]
theorem ss_s {cl:Nat->List D->Hh->Res D} {ρ:En} {h h':Hh} {e:E} {p0 p1 p2 p:Pos} {n:Nat} {F:List Str} (he:e.ev cl ρ h=.ok (.loc n) h') (hr:h'[n]?=some (.lst (F.map .str))) (hl:F.length<=4000) :
    E.ev cl (.sset e p0 p1 p2 p) ρ h=.ok (.loc h'.length) (h' ++ [.lst ((srtU F).map .str)]):=bnd he (by
  show ssD (.loc n) h'=_
  unfold ssD
  dsimp only
  rw [rd_of hr]
  dsimp only
  rw [strs_map]
  exact if_pos hl)
theorem r_deeds (cl:Nat->List D->Hh->Res D) (W:WithinOk cl 1) (B:BodOk cl 2) (its:List It) (h:Hh) (ok:∀ it ∈ its,it.Ok) (hF:(its.flatMap It.dds).length<=4000) :
    ∃ J,d_deeds_of.run cl [.tup (its.map It.d)] h=.ok (.loc (h ++ J).length) (h ++ J ++ [.lst ((srtU (its.flatMap It.dds)).map .str)]):=by
  obtain ⟨b',c',J',e⟩:=items_loop cl W B h (some (.tup (its.map It.d))) its [] [] none none ok (by rw [List.length_nil]; omega)
  refine ⟨.lst ((its.flatMap It.dds).map .str) :: J',out_rt (set_s rfl (forr_s (q:=([],its.map It.d)) (bnd rfl rfl) e (ret_r (ss_s rfl (g_0 _ _ _) hF))))⟩
end K22
set_option Elab.async false
set_option linter.all false
set_option maxRecDepth 100000
set_option maxHeartbeats 4000000
namespace K22
open PySem L2 PI
noncomputable def Sm (x:Str) (n:Nat):Prop:=(∀ c ∈ cs x,c < 1114112) /\ (cs x).length<=n
theorem Sm.ok {x:Str} {n:Nat} (h:Sm x n):PyData.strOk x=true:=ok_cs h.1
theorem Sm.app {x y:Str} {a b:Nat} (hx:Sm x a) (hy:Sm y b):Sm (x ++ y) (a + b):=by
  have h1:=hx.2
  have h2:=hy.2
  refine ⟨fun c hc=>?_,by rw [cs_append,List.length_append]; omega⟩
  rw [cs_append] at hc
  exact (List.mem_append.mp hc).elim (hx.1 c) (hy.1 c)
theorem fold_l (x:Array Nat):∀ (n:Nat) (a:Array Nat),((List.replicate n x).foldl (· ++ ·) a).toList=a.toList ++ (List.replicate n x.toList).flatten
  | 0,a=>by simp
  | n + 1,a=>by rw [List.replicate_succ,List.foldl_cons,fold_l x n,List.replicate_succ]; simp
theorem Sm.mul {x:Str} {a m:Nat} {j:Int} (hx:Sm x a) (hj:j<=m):Sm (Txt.mul x j) (m * a):=by
  unfold Txt.mul
  by_cases c1:j < 1
  · rw [if_pos c1]; exact ⟨fun c hc=>by simp [cs,Str.empty] at hc,by simp [cs,Str.empty]⟩
  rw [if_neg c1]
  by_cases c2:(j == 1 || x.length == 0)=true
  · rw [if_pos c2]
    exact ⟨hx.1,Nat.le_trans hx.2 (Nat.le_mul_of_pos_left a (by omega))⟩
  rw [if_neg c2]
  have e:cs ⟨(List.replicate j.toNat x.cps).foldl (· ++ ·) #[]⟩=(List.replicate j.toNat (cs x)).flatten:=by
    unfold cs
    rw [fold_l]; simp
  refine ⟨fun c hc=>?_,?_⟩
  · rw [e] at hc
    obtain ⟨l,hl,hc⟩:=List.mem_flatten.mp hc
    rw [(List.mem_replicate.mp hl).2] at hc
    exact hx.1 c hc
  · rw [e,List.length_flatten,List.map_replicate,List.sum_replicate_nat]
    exact Nat.mul_le_mul (by omega) hx.2
theorem sub_s {x:Str} {n:Nat} {i:Int} (hx:Sm x n) (hn:n<=1000000) (h0:0<=i) (h1:i < (cs x).length):∃ y,Sm y 1 /\ ∀ h,subD (.str x) (.int i) h=.ok (.str y) h:=by
  have hi:i.toNat < (cs x).length:=by omega
  refine ⟨⟨#[(cs x)[i.toNat]]⟩,⟨fun c hc=>?_,by simp [cs]⟩,fun h=>?_⟩
  · have:c=(cs x)[i.toNat]:=by simpa [cs] using hc
    rw [this]; exact hx.1 _ (List.getElem_mem hi)
  · show (if x.length<=1000000 then (match atI x.cps.toList i with | some c=>Res.ok (D.str ⟨#[c]⟩) h | none=>.no) else .no)=_
    have:=hx.2
    rw [if_pos (by rw [cs_len]; omega),atI_pos h0,show x.cps.toList=cs x from rfl,List.getElem?_eq_getElem hi]
theorem add_s {x y:Str} {a b:Nat} (hx:Sm x a) (hy:Sm y b) (hl:a + b<=1000000) (h:Hh):binD .Add (.str x) (.str y) h=.ok (.str (x ++ y)) h:=if_pos (by
  have:=hx.2
  have:=hy.2
  rw [cs_len,cs_len]; omega)
theorem mul_s {x:Str} {a:Nat} {j:Int} (hx:Sm x a) (ha:a<=1000) (h0:0<=j) (h1:j<=1000) (h:Hh):binD .Mult (.str x) (.int j) h=.ok (.str (Txt.mul x j)) h:=if_pos ⟨h0,h1,by
  have:=hx.2
  rw [cs_len]; omega⟩
theorem sm_of {x:Str} {n:Nat} (h:((cs x).all (fun c=>decide (c < 1114112)) && decide ((cs x).length<=n))=true):Sm x n:=by
  rw [Bool.and_eq_true] at h
  exact ⟨fun c hc=>of_decide_eq_true (List.all_eq_true.mp h.1 c hc),of_decide_eq_true h.2⟩
theorem sm_let:Sm "abcdefghijklmnopqrstuvwxyz" 26:=sm_of (by decide +kernel)
theorem len_let:(cs "abcdefghijklmnopqrstuvwxyz").length=26:=by decide +kernel
theorem sm_fil:Sm "jqxz" 4:=sm_of (by decide +kernel)
theorem len_fil:(cs "jqxz").length=4:=by decide +kernel
theorem sm_q:Sm "q" 1:=sm_of (by decide +kernel)
theorem name_ex (k c:Int) (h0:0<=k) (h1:k < 676):∃ x,Sm x 100 /\ ∀ cl h,d_law_name.run cl [.int k,.int c] h=.ok (.str x) h:=by
  obtain ⟨fl,f1,f2⟩:=sub_s (i:=c / 48 % 4) sm_fil (by decide) (by omega) (by rw [len_fil]; omega)
  obtain ⟨a,a1,a2⟩:=sub_s (i:=k / 26) sm_let (by decide) (by omega) (by rw [len_let]; omega)
  obtain ⟨b,b1,b2⟩:=sub_s (i:=k % 26) sm_let (by decide) (by omega) (by rw [len_let]; omega)
  have z1:3<=3 + c % 5 /\ 3 + c % 5<=7:=by omega
  have z3:0 < 3 + c % 5 - 1:=by omega
  have z2:0<=c / 5 % (3 + c % 5 - 1) /\ c / 5 % (3 + c % 5 - 1) < 3 + c % 5 - 1:=⟨Int.emod_nonneg _ (by omega),Int.emod_lt_of_pos _ z3⟩
  obtain ⟨t,et⟩:∃ t,t=c / 5 % (3 + c % 5 - 1):=⟨_,rfl⟩
  obtain ⟨u,eu⟩:∃ u,u=k % 2 * (c / 192 % 2):=⟨_,rfl⟩
  rw [<- et] at z2
  have hu:0<=u /\ u<=1:=by
    have a1:k % 2=0 \/ k % 2=1:=by omega
    have a2:c / 192 % 2=0 \/ c / 192 % 2=1:=by omega
    rcases a1 with a1 | a1 <;> rcases a2 with a2 | a2 <;> rw [a1,a2] at eu <;> omega
  have m1:Sm (Txt.mul fl t) (7 * 1):=f1.mul (by omega)
  have m2:Sm (Txt.mul fl (3 + c % 5 - 2 - t)) (7 * 1):=f1.mul (by omega)
  have m3:Sm (Txt.mul "q" u) (1 * 1):=sm_q.mul (by omega)
  have s1:=m1.app a1
  have s2:=s1.app b1
  have s3:=s2.app m2
  have s4:=s3.app m3
  refine ⟨_,⟨s4.1,Nat.le_trans s4.2 (by decide)⟩,fun cl h=>?_⟩
  rw [eu] at m3 s4 hu ⊢
  rw [et] at m1 m2 s1 s2 s3 s4 z2 ⊢
  exact out_rt (set_s rfl (set_s (bnd rfl (bnd (bnd rfl (bnd rfl (mdk (by decide)))) rfl))
    (set_s (bnd (bnd rfl (bnd rfl (fdk (by decide)))) (bnd (bnd rfl (bnd rfl rfl)) (mdk z3)))
    (set_s (bnd rfl (bnd (bnd (bnd rfl (bnd rfl (fdk (by decide)))) (bnd rfl (mdk (by decide)))) (f2 h)))
    (set_s (bnd (bnd (bnd rfl (bnd rfl (mul_s f1 (by decide) (by omega) (by omega) h))) (bnd (bnd rfl (bnd (bnd rfl (bnd rfl (fdk (by decide)))) (a2 h))) (add_s m1 a1 (by decide) h))) (bnd (bnd rfl (bnd (bnd rfl (bnd rfl (mdk (by decide)))) (b2 h))) (add_s s1 b1 (by decide) h)))
    (set_s (bnd rfl (bnd (bnd rfl (bnd (bnd (bnd rfl (bnd rfl rfl)) (bnd rfl rfl)) (mul_s f1 (by decide) (by omega) (by omega) h))) (add_s s2 m2 (by decide) h)))
    (ret_r (bnd rfl (bnd (bnd rfl (bnd (bnd (bnd rfl (bnd rfl (mdk (by decide)))) (bnd (bnd (bnd rfl (bnd rfl (fdk (by decide)))) (bnd rfl (mdk (by decide)))) (mlk (fits_sm (by omega)) (fits_sm (by omega))))) (mul_s sm_q (by decide) hu.1 (by omega) h))) (add_s s3 m3 (by decide) h))))))))))
open Classical in
noncomputable def nmv (c k:Int):Str:=if h:0<=k /\ k < 676 then Classical.choose (name_ex k c h.1 h.2) else ""
theorem nmv_spec {c k:Int} (h0:0<=k) (h1:k < 676):Sm (nmv c k) 100 /\ ∀ cl h,d_law_name.run cl [.int k,.int c] h=.ok (.str (nmv c k)) h:=by
  unfold nmv
  rw [dif_pos ⟨h0,h1⟩]
  exact Classical.choose_spec (name_ex k c h0 h1)
theorem r_cell (cl:Nat->List D->Hh->Res D) (h:Hh) (ns:List Int) (i:Int) (hi:0<=i):d_law_cell.run cl [scr ns,.int i] h=.ok (.int (cellv ns i)) h:=by
  by_cases c:i < (ns.length:Int)
  · exact out_rt (iff_r (t_cmp rfl (bnd rfl rfl) (by show Res.ok (D.bl (decide _)) _=_; rw [List.length_map,decide_eq_true c])) (ret_r (bnd rfl (bnd rfl (by show (match atI (ns.map D.int) i with | some d=>Res.ok d h | none=>.no)=_; rw [at_map ns i hi c])))))
  · rw [cell_out ns i c]
    exact out_rt (iff_f (t_cmp rfl (bnd rfl rfl) (by show Res.ok (D.bl (decide _)) _=_; rw [List.length_map,decide_eq_false c])) (ret_r rfl))
end K22
set_option Elab.async false
set_option linter.all false
set_option maxRecDepth 100000
set_option maxHeartbeats 4000000
namespace K22
open PySem L2 PI
structure Fx where
  a:Str
  b:Str
  c:Str
  d:Str
noncomputable def Fx.t (f:Fx):D:=.tup [.str f.a,.str f.b,.str f.c,.str f.d]
noncomputable def nu (n:Int):G:=.nd (.num n) []
noncomputable def putG (f:Fx) (t:G):Nat->G
  | 0=>t
  | 1=>.nd (.op "+") [t,nu 1]
  | 2=>.nd (.op "<") [nu 2,t]
  | 3=>.nd (.lett "z") [t,nu 3]
  | 4=>.nd (.lett "z") [nu 4,t]
  | 5=>.nd .ite [t,nu 5,nu 6]
  | 6=>.nd .ite [nu 7,t,nu 8]
  | 7=>.nd .ite [nu 9,nu 0,t]
  | 8=>.nd .guard [t,nu 1]
  | 9=>.nd .guard [nu 2,t]
  | 10=>.nd (.call f.b none) [t,nu 5]
  | 11=>.nd (.call f.b none) [nu 6,t]
  | 12=>.nd (.call f.c (some f.d)) [t]
  | 13=>.nd (.handle f.a) [t,nu 3]
  | 14=>.nd (.handle f.a) [nu 4,t]
  | 15=>.nd .go [t,nu 7]
  | _=>.nd .go [nu 8,t]
theorem addL {cl:Nat->List D->Hh->Res D} {ρ:En} {h:Hh} {n i:Nat} {xs ys:List D} {es:Es} {p p1 p2:Pos} (hv:ρ[i]?=some (some (.loc n))) (hg:h[n]?=some (.lst xs)) (he:es.ev cl ρ h=.ok ys h) (ly:ys.length<=1000) (lx:xs.length<=1000) :
    E.ev cl (.bin .Add (.var i p) (.ofL (.disp es p1)) p2) ρ h=.ok (.loc (h.length + 1)) (h ++ [.lst ys] ++ [.lst (xs ++ ys)]):=by
  refine bnd (m:=E.ev cl (.var i p) ρ h) (x:=.loc n) (h:=h) (by rw [vvar,hv]) (bnd (bnd (bnd he (if_pos ly)) rfl) ?_)
  rw [bin_addl]
  rw [get_old hg,hx0]
  dsimp only [List.getElem?_cons_zero]
  rw [if_pos (by omega),List.length_append]
  rfl
theorem set_a {cl:Nat->List D->Hh->Res D} {a b c:Option D} {h:Hh} {n:Nat} {xs:List D} (ys:List D) {es:Es} {p p1 p2 p3 p4:Pos} {r:Ss} {d:D} (hg:h[n]?=some (.lst xs)) (he:es.ev cl [a,b,c,some (.loc n)] h=.ok ys h) (ly:ys.length<=1000) (lx:xs.length<=1000)
    (k:∀ (h':Hh) m,h'[m]?=some (.lst (xs ++ ys))->∃ h'',(∃ J,h''=h' ++ J) /\ Ss.run cl r [a,b,c,some (.loc m)] h'=.rt d h'') :
    ∃ h'',(∃ J,h''=h ++ J) /\ Ss.run cl (.cons (.set 3 (.bin .Add (.var 3 p) (.ofL (.disp es p1)) p2) p3 p4) r) [a,b,c,some (.loc n)] h=.rt d h'':=by
  obtain ⟨h'',⟨J,q1⟩,q2⟩:=k (h ++ [.lst ys] ++ [.lst (xs ++ ys)]) (h.length + 1) (by rw [show h.length + 1=(h ++ [O.lst ys]).length by simp,hx0]; rfl)
  exact ⟨h'',⟨[.lst ys] ++ [.lst (xs ++ ys)] ++ J,by rw [q1]; simp⟩,set_s (addL rfl hg he ly lx) q2⟩
theorem dd_two (k:Kd) (a b:G):(G.nd k [a,b]).d=k.enc [a.d,b.d]:=by rw [G.d,G.ds,G.ds,G.ds]
theorem dd_thr (k:Kd) (a b c:G):(G.nd k [a,b,c]).d=k.enc [a.d,b.d,c.d]:=by rw [G.d,G.ds,G.ds,G.ds,G.ds]
theorem dd_one (k:Kd) (a:G):(G.nd k [a]).d=k.enc [a.d]:=by rw [G.d,G.ds,G.ds]
theorem dd_nu (n:Int):(nu n).d=.tup [.str "num",.int n]:=by unfold nu; rw [G.d,G.ds]; rfl
noncomputable def putL (f:Fx) (t:G):List D:=(List.range 17).map fun i=>(putG f t i).d
theorem r_put (cl:Nat->List D->Hh->Res D) (f:Fx) (t:G) (i:Int) (h0:0<=i) (h1:i < 17) (h:Hh):∃ J,d_law_put.run cl [.int i,t.d,f.t] h=.ok (putG f t i.toNat).d (h ++ J):=by
  have hL:putL f t=[t.d,.tup [.str "op",.str "+",t.d,.tup [.str "num",.int 1]],.tup [.str "op",.str "<",.tup [.str "num",.int 2],t.d],.tup [.str "let",.str "z",t.d,.tup [.str "num",.int 3]]]
      ++ [.tup [.str "let",.str "z",.tup [.str "num",.int 4],t.d],.tup [.str "if",t.d,.tup [.str "num",.int 5],.tup [.str "num",.int 6]]]
      ++ [.tup [.str "if",.tup [.str "num",.int 7],t.d,.tup [.str "num",.int 8]],.tup [.str "if",.tup [.str "num",.int 9],.tup [.str "num",.int 0],t.d]]
      ++ [.tup [.str "guard",t.d,.tup [.str "num",.int 1]],.tup [.str "guard",.tup [.str "num",.int 2],t.d]]
      ++ [.tup [.str "call",.str f.b,.non,.tup [t.d,.tup [.str "num",.int 5]]],.tup [.str "call",.str f.b,.non,.tup [.tup [.str "num",.int 6],t.d]]]
      ++ [.tup [.str "call",.str f.c,.str f.d,.tup [t.d]]]
      ++ [.tup [.str "handle",.str f.a,t.d,.tup [.str "num",.int 3]],.tup [.str "handle",.str f.a,.tup [.str "num",.int 4],t.d]]
      ++ [.tup [.str "go",t.d,.tup [.str "num",.int 7]],.tup [.str "go",.tup [.str "num",.int 8],t.d]]:=by
    unfold putL
    simp only [List.range,List.range.loop,List.map_cons,List.map_nil,putG,dd_two,dd_thr,dd_one,dd_nu]
    rfl
  have key:∃ h':Hh,(∃ J,h'=h ++ J) /\ Ss.run cl d_law_put.body [some (.int i),some t.d,some f.t,none] h=.rt (putG f t i.toNat).d h':=by
    have fin:∀ (h':Hh) (n:Nat),h'[n]?=some (.lst (putL f t))->∀ (p1 p2 p3 p4:Pos),Ss.run cl (.cons (.ret (.sub (.var 3 p1) (.var 0 p2) p3) p4) .nil) [some (.int i),some t.d,some f.t,some (.loc n)] h'=.rt (putG f t i.toNat).d h':=by
      intro h' n g p1 p2 p3 p4
      refine ret_r (bnd rfl (bnd rfl ?_))
      show subD (.loc n) (.int i) h'=_
      unfold subD
      dsimp only
      rw [g]
      dsimp only
      rw [atI_pos h0]
      unfold putL
      rw [List.getElem?_map,List.getElem?_range (by omega)]
      rfl
    rw [hL] at fin
    obtain ⟨H,hH⟩:∃ H:Hh,H=h ++ [.lst [t.d,.tup [.str "op",.str "+",t.d,.tup [.str "num",.int 1]],.tup [.str "op",.str "<",.tup [.str "num",.int 2],t.d],.tup [.str "let",.str "z",t.d,.tup [.str "num",.int 3]]]]:=⟨_,rfl⟩
    have q:∃ h',(∃ J,h'=H ++ J) /\ Ss.run cl (dropS 1 d_law_put.body) [some (.int i),some t.d,some f.t,some (.loc h.length)] H=.rt (putG f t i.toNat).d h':=set_a [.tup [.str "let",.str "z",.tup [.str "num",.int 4],t.d],.tup [.str "if",t.d,.tup [.str "num",.int 5],.tup [.str "num",.int 6]]] (by rw [hH,hx0]; rfl) rfl (by simp) (by simp) fun h2 m2 g2 =>
      set_a [.tup [.str "if",.tup [.str "num",.int 7],t.d,.tup [.str "num",.int 8]],.tup [.str "if",.tup [.str "num",.int 9],.tup [.str "num",.int 0],t.d]] g2 rfl (by simp) (by simp) fun h3 m3 g3 =>
      set_a [.tup [.str "guard",t.d,.tup [.str "num",.int 1]],.tup [.str "guard",.tup [.str "num",.int 2],t.d]] g3 rfl (by simp) (by simp) fun h4 m4 g4 =>
      set_a [.tup [.str "call",.str f.b,.non,.tup [t.d,.tup [.str "num",.int 5]]],.tup [.str "call",.str f.b,.non,.tup [.tup [.str "num",.int 6],t.d]]] g4 rfl (by simp) (by simp) fun h5 m5 g5 =>
      set_a [.tup [.str "call",.str f.c,.str f.d,.tup [t.d]]] g5 rfl (by simp) (by simp) fun h6 m6 g6 =>
      set_a [.tup [.str "handle",.str f.a,t.d,.tup [.str "num",.int 3]],.tup [.str "handle",.str f.a,.tup [.str "num",.int 4],t.d]] g6 rfl (by simp) (by simp) fun h7 m7 g7 =>
      set_a [.tup [.str "go",t.d,.tup [.str "num",.int 7]],.tup [.str "go",.tup [.str "num",.int 8],t.d]] g7 rfl (by simp) (by simp) fun h8 m8 g8 =>
      ⟨h8,⟨[],by rw [List.append_nil]⟩,fin h8 m8 g8 _ _ _ _⟩
    obtain ⟨h',⟨J,q1⟩,q2⟩:=q
    subst hH
    exact ⟨h',⟨_,by rw [q1,List.append_assoc]⟩,set_s rfl q2⟩
  obtain ⟨h',⟨J,rfl⟩,e⟩:=key
  exact ⟨J,out_rt e⟩
end K22
set_option Elab.async false
set_option linter.all false
set_option maxRecDepth 100000
set_option maxHeartbeats 4000000
namespace K22
open PySem L2 PI
theorem gdd_nd0 (k:Kd):gdd (.nd k [])=(dd1 (.nd k [])).toList:=by
  unfold gdd; rw [pre,pres,List.filterMap_cons,List.filterMap_nil]; cases dd1 (.nd k []) <;> rfl
theorem gdd_nd1 (k:Kd) (a:G):gdd (.nd k [a])=(dd1 (.nd k [a])).toList ++ gdd a:=by
  unfold gdd; rw [pre,pres,pres,List.filterMap_cons,List.nil_append]; cases dd1 (.nd k [a]) <;> rfl
theorem gdd_nd2 (k:Kd) (a b:G):gdd (.nd k [a,b])=(dd1 (.nd k [a,b])).toList ++ (gdd b ++ gdd a):=by
  unfold gdd; rw [pre,pres,pres,pres,List.filterMap_cons,List.nil_append,List.filterMap_append]; cases dd1 (.nd k [a,b]) <;> rfl
theorem gdd_nd3 (k:Kd) (a b c:G):gdd (.nd k [a,b,c])=(dd1 (.nd k [a,b,c])).toList ++ (gdd c ++ gdd b ++ gdd a):=by
  unfold gdd; rw [pre,pres,pres,pres,pres,List.filterMap_cons,List.nil_append,List.filterMap_append,List.filterMap_append]; cases dd1 (.nd k [a,b,c]) <;> rfl
theorem gdd_nu (n:Int):gdd (nu n)=[]:=gdd_nd0 _
theorem gdd_put (f:Fx) (t:G) (m:Nat):gdd (putG f t m)=gdd t:=by
  unfold putG
  split <;> first | rfl | (rw [gdd_nd1]; rfl) | (rw [gdd_nd2,gdd_nu]; simp [dd1]) | (rw [gdd_nd3,gdd_nu,gdd_nu]; simp [dd1])
theorem size_nu (n:Int):(nu n).size=1:=by unfold nu; rw [G.size,G.sizes]
theorem size_put (f:Fx) (t:G) (m:Nat):(putG f t m).size<=t.size + 3:=by
  unfold putG
  split <;> first | omega | (simp only [G.size,G.sizes,size_nu]; omega)
noncomputable def vy:G:=.nd (.var "y") []
theorem d_vy:vy.d=.tup [.str "var",.str "y"]:=by unfold vy; rw [G.d,G.ds]; rfl
theorem gdd_vy:gdd vy=[]:=gdd_nd0 _
noncomputable def cls (ds:List Str):List (Str × G):=ds.map fun d=>(d,vy)
theorem ixN_in {n:Nat} {k:Int} (h0:0<=k) (h1:k < n):ixN n k=some k.toNat:=by
  unfold ixN; rw [if_pos h0,if_pos h1]
noncomputable def hdI (nm:D) (first:Bool) (at':Nat) (ds:List Str) (t:G):It:=if first then .hd nm ((cls ds).set at' (ds.getD at' "",t)) (nu 5) else .hd nm (cls ds) t
theorem sub_loc {h:Hh} {n:Nat} {xs:List D} {i:Int} {d:D} (g:h[n]?=some (.lst xs)) (h0:0<=i) (e:xs[i.toNat]?=some d):subD (.loc n) (.int i) h=.ok d h:=by
  unfold subD
  dsimp only
  rw [g]
  dsimp only
  rw [atI_pos h0,e]
theorem len_loc {cl:Nat->List D->Hh->Res D} {ρ:En} {h h':Hh} {e:E} {p p1:Pos} {n:Nat} {xs:List D} (he:e.ev cl ρ h=.ok (.loc n) h') (g:h'[n]?=some (.lst xs)):E.ev cl (.len e p p1) ρ h=.ok (.int xs.length) h':=bnd he (by
  show lenD (.loc n) h'=_
  unfold lenD
  dsimp only
  rw [rd_of g])
theorem cns {cl:Nat->List D->Hh->Res D} {ρ:En} {h h1 h2:Hh} {e:E} {r:Es} {x:D} {xs:List D} (he:e.ev cl ρ h=.ok x h1) (hr:r.ev cl ρ h1=.ok xs h2):Es.ev cl (.cons e r) ρ h=.ok (x :: xs) h2:=bnd he (bnd hr rfl)
theorem tupE_loc {cl:Nat->List D->Hh->Res D} {ρ:En} {h h':Hh} {e:E} {p p1:Pos} {n:Nat} {xs:List D} (he:e.ev cl ρ h=.ok (.loc n) h') (g:h'[n]?=some (.lst xs)):E.ev cl (.tupE e p p1) ρ h=.ok (.tup xs) h':=tupE_s he (rd_of g)
theorem r_handler (cl:Nat->List D->Hh->Res D) (nm:D) (c:Int) (first:Bool) (n:Nat) (ds:List Str) (t:G) (h:Hh) (g:h[n]?=some (.lst (ds.map .str))) (h0:0 < ds.length) (h1:ds.length<=1000) :
    ∃ J,d_law_handler.run cl [nm,.int c,.bl first,.loc n,t.d] h=.ok (hdI nm first (c % ds.length).toNat ds t).d (h ++ J):=by
  have z:0<=c % ds.length /\ c % ds.length < ds.length:=⟨Int.emod_nonneg _ (by omega),Int.emod_lt_of_pos _ (by omega)⟩
  have key:=compL_on D.str (c:=[(n,ds.map .str)]) (f:=compF t_law_handler_1 [none] (fun ρ' h2=>c_law_handler_1.evC cl ρ' h2) (fun ρ' h2=>e_law_handler_1.ev cl ρ' h2)) (h:=h) (stay_one.mpr (rd_of g)) (fun x=>some (clD (x,vy))) ds [] (fun x _=>compF_t rfl rfl (by unfold clD; rw [d_vy]; rfl))
  rw [fm_some,List.nil_append] at key
  have ek:ds.map (fun x=>clD (x,vy))=(cls ds).map clD:=by unfold cls; rw [List.map_map]; rfl
  rw [ek] at key
  have g2:(h ++ [O.lst ((cls ds).map clD)])[n]?=some (.lst (ds.map .str)):=get_old g
  have g3:(h ++ [O.lst ((cls ds).map clD)])[h.length]?=some (.lst ((cls ds).map clD)):=g_0 _ _ _
  have eat:(ds.map D.str)[(c % ds.length).toNat]?=some (.str (ds.getD (c % ds.length).toNat "")):=by
    rw [List.getElem?_map,List.getD_eq_getElem?_getD,List.getElem?_eq_getElem (by omega)]; rfl
  cases first with
  | false =>
    refine ⟨[O.lst ((cls ds).map clD)],out_rt (set_s (ofL_comp (seq_loc rfl (rd_of g)) (by simp; omega) key) (set_s (bnd rfl (bnd (len_loc rfl g2) ((mdk (by simp; omega)).trans (by rw [List.length_map])))) (iff_f rfl (ret_r (bnd (cns rfl (cns rfl (cns (tupE_loc rfl g3) rfl))) rfl)))))⟩
  | true =>
    have hp:putS (.loc h.length) (.int (c % ds.length)) (clD (ds.getD (c % ds.length).toNat "",t)) (h ++ [O.lst ((cls ds).map clD)])=some (h ++ [O.lst (((cls ds).set (c % ds.length).toNat (ds.getD (c % ds.length).toNat "",t)).map clD)]):=by
      unfold putS
      dsimp only
      rw [g3]
      dsimp only
      rw [ixN_in z.1 (by unfold cls; simp; omega)]
      show some ((h ++ O.lst ((cls ds).map clD) :: []).set h.length _)=_
      rw [s_0,List.map_set]
    have g4:(h ++ [O.lst (((cls ds).set (c % ds.length).toNat (ds.getD (c % ds.length).toNat "",t)).map clD)])[h.length]?=some (.lst (((cls ds).set (c % ds.length).toNat (ds.getD (c % ds.length).toNat "",t)).map clD)):=g_0 _ _ _
    refine ⟨[O.lst (((cls ds).set (c % ds.length).toNat (ds.getD (c % ds.length).toNat "",t)).map clD)],out_rt (set_s (ofL_comp (seq_loc rfl (rd_of g)) (by simp; omega) key) (set_s (bnd rfl (bnd (len_loc rfl g2) ((mdk (by simp; omega)).trans (by rw [List.length_map])))) (iff_r rfl (put_s (bnd (cns (bnd rfl (bnd rfl (sub_loc g2 z.1 eat))) rfl) rfl) rfl rfl hp (ret_r (bnd (cns rfl (cns rfl (cns (tupE_loc rfl g4) rfl))) rfl))))))⟩
end K22
set_option Elab.async false
set_option linter.all false
set_option maxRecDepth 100000
set_option maxHeartbeats 4000000
namespace K22
open PySem L2 PI
structure Itm (ds:List Str) (it:It) (ss:List Str):Prop where
  ok:it.Ok
  len:it.dds.length<=100
  mem:∀ x,x ∈ it.dds ↔ x ∈ ss
  sub:∀ x ∈ ss,x ∈ ds
  ln:ss.length<=10
theorem flat_len {α β:Type} {f:α->List β} {S:Nat}:∀ {l:List α},(∀ g ∈ l,(f g).length<=S)->(l.flatMap f).length<=l.length * S
  | [],_=>by simp
  | g :: r,h=>by
    have h1:=h g (List.mem_cons_self ..)
    have h2:=flat_len (l:=r) fun x hx=>h x (List.mem_cons_of_mem _ hx)
    rw [List.flatMap_cons,List.length_append,List.length_cons,Nat.add_mul]; omega
theorem getD_mem {ds:List Str} {k:Nat} (h:k < ds.length):ds.getD k "" ∈ ds:=by
  rw [List.getD_eq_getElem?_getD,List.getElem?_eq_getElem h]; exact List.getElem_mem h
theorem hd_heads {nm:D} {b:Bool} {k:Nat} {ds:List Str} {t:G} (hk:k < ds.length):(hdI nm b k ds t).heads=ds:=by
  have e:(cls ds).map (·.1)=ds:=by unfold cls; rw [List.map_map]; exact List.map_id _
  unfold hdI
  cases b with
  | false=>exact e
  | true =>
    show ((cls ds).set k (ds.getD k "",t)).map (·.1)=ds
    rw [List.map_set,e]
    have:ds.getD k ""=ds[k]:=by rw [List.getD_eq_getElem?_getD,List.getElem?_eq_getElem hk]; rfl
    rw [this,List.set_getElem_self]
theorem hd_bods {nm:D} {b:Bool} {k:Nat} {ds:List Str} {t:G} (hk:k < ds.length) (x:Str):x ∈ (hdI nm b k ds t).bods.flatMap gdd ↔ x ∈ gdd t:=by
  rw [List.mem_flatMap]
  have cv:∀ q ∈ cls ds,q.2=vy:=fun q hq=>by
    unfold cls at hq
    obtain ⟨d,_,rfl⟩:=List.mem_map.mp hq
    rfl
  unfold hdI
  cases b with
  | false =>
    constructor
    · rintro ⟨g,hg,hx⟩
      rcases List.mem_append.mp hg with hg | hg
      · obtain ⟨q,hq,rfl⟩:=List.mem_map.mp hg
        rw [cv q hq,gdd_vy] at hx; cases hx
      · rw [List.mem_singleton.mp hg] at hx; exact hx
    · exact fun hx=>⟨t,List.mem_append_right _ (List.mem_singleton.mpr rfl),hx⟩
  | true =>
    constructor
    · rintro ⟨g,hg,hx⟩
      rcases List.mem_append.mp hg with hg | hg
      · obtain ⟨q,hq,rfl⟩:=List.mem_map.mp hg
        rcases List.mem_or_eq_of_mem_set hq with hq | hq
        · rw [cv q hq,gdd_vy] at hx; cases hx
        · rw [hq] at hx; exact hx
      · rw [List.mem_singleton.mp hg,gdd_nu] at hx; cases hx
    · exact fun hx=>⟨t,List.mem_append_left _ (List.mem_map.mpr ⟨(ds.getD k "",t),List.mem_set (show k < (cls ds).length by unfold cls; simpa using hk) _,rfl⟩),hx⟩
theorem hd_size {nm:D} {b:Bool} {k:Nat} {ds:List Str} {t:G} (ht:t.size<=20):(∀ g ∈ (hdI nm b k ds t).bods,g.size<=20) /\ (hdI nm b k ds t).bods.length=ds.length + 1:=by
  have sv:vy.size=1:=by unfold vy; rw [G.size,G.sizes]
  have cv:∀ q ∈ cls ds,q.2.size<=20:=fun q hq=>by
    unfold cls at hq
    obtain ⟨d,_,rfl⟩:=List.mem_map.mp hq
    show vy.size<=20
    omega
  unfold hdI
  cases b with
  | false =>
    refine ⟨fun g hg=>?_,by show (List.map _ _ ++ _).length=_; simp [cls]⟩
    rcases List.mem_append.mp hg with hg | hg
    · obtain ⟨q,hq,rfl⟩:=List.mem_map.mp hg; exact cv q hq
    · rw [List.mem_singleton.mp hg]; exact ht
  | true =>
    refine ⟨fun g hg=>?_,by show (List.map _ _ ++ _).length=_; simp [cls]⟩
    rcases List.mem_append.mp hg with hg | hg
    · obtain ⟨q,hq,rfl⟩:=List.mem_map.mp hg
      rcases List.mem_or_eq_of_mem_set hq with hq | hq
      · exact cv q hq
      · rw [hq]; exact ht
    · rw [List.mem_singleton.mp hg,size_nu]; decide
theorem hd_itm {nm:D} {b:Bool} {k:Nat} {ds sm:List Str} {t:G} {one:Str} (hk:k < sm.length) (h3:sm.length<=3) (ht:t.size<=20) (hg:gdd t=[one]) (ho:one ∈ ds) (hs:∀ x ∈ sm,x ∈ ds):Itm ds (hdI nm b k sm t) (one :: sm):=by
  obtain ⟨z1,z2⟩:=hd_size (nm:=nm) (b:=b) (k:=k) (ds:=sm) ht
  refine ⟨⟨fun g hg=>Nat.le_trans (z1 g hg) (by decide),by omega⟩,?_,fun x=>?_,fun x hx=>?_,by simp; omega⟩
  · unfold It.dds
    have:=flat_len (f:=gdd) (S:=20) (l:=(hdI nm b k sm t).bods) fun g hg=>Nat.le_trans (gdd_len g) (z1 g hg)
    rw [List.length_append,hd_heads hk]
    have:(hdI nm b k sm t).bods.length * 20<=80:=by omega
    omega
  · unfold It.dds
    rw [List.mem_append,hd_heads hk,hd_bods hk,hg,List.mem_singleton,List.mem_cons]
    exact or_comm
  · rcases List.mem_cons.mp hx with rfl | hx
    · exact ho
    · exact hs x hx
noncomputable def PutOk (cl:Nat->List D->Hh->Res D) (i:Nat):Prop:=∀ (f:Fx) (t:G) (k:Int) (h:Hh),0<=k->k < 17->∃ J,cl i [.int k,t.d,f.t] h=.ok (putG f t k.toNat).d (h ++ J)
noncomputable def HdOk (cl:Nat->List D->Hh->Res D) (i:Nat):Prop:=∀ (nm:D) (c:Int) (first:Bool) (n:Nat) (ds:List Str) (t:G) (h:Hh),h[n]?=some (.lst (ds.map .str))->0 < ds.length->ds.length<=1000->∃ J,cl i [nm,.int c,.bl first,.loc n,t.d] h=.ok (hdI nm first (c % ds.length).toNat ds t).d (h ++ J)
noncomputable def doG (d:Str) (g:G):G:=.nd (.doo d) [g]
theorem d_do (d:Str) (g:G):(doG d g).d=.tup [.str "do",.str d,g.d]:=by unfold doG; rw [dd_one]; rfl
theorem gdd_do (d:Str) (g:G):gdd (doG d g)=d :: gdd g:=by unfold doG; rw [gdd_nd1]; rfl
theorem size_do (d:Str) (g:G):(doG d g).size=g.size + 1:=by unfold doG; simp only [G.size,G.sizes]; omega
end K22
set_option Elab.async false
set_option linter.all false
set_option maxRecDepth 100000
set_option maxHeartbeats 4000000
namespace K22
open PySem L2 PI
section
variable {cl:Nat->List D->Hh->Res D} {ρ:En} {h h1 h2:Hh} {e e':E} {p p1 p2 p3 p4:Pos}
theorem fd_e {x k:Int} (he:e.ev cl ρ h=.ok (.int x) h1) (hk:e'.ev cl ρ h1=.ok (.int k) h2) (z:0 < k /\ k < 1073741824):E.ev cl (.bin .FloorDiv e e' p) ρ h=.ok (.int (x / k)) h2:=bnd he (bnd hk (fdk z))
theorem md_e {x k:Int} (he:e.ev cl ρ h=.ok (.int x) h1) (hk:e'.ev cl ρ h1=.ok (.int k) h2) (z:0 < k):E.ev cl (.bin .Mod e e' p) ρ h=.ok (.int (x % k)) h2:=bnd he (bnd hk (mdk z))
theorem ad_e {x k:Int} (he:e.ev cl ρ h=.ok (.int x) h1) (hk:e'.ev cl ρ h1=.ok (.int k) h2):E.ev cl (.bin .Add e e' p) ρ h=.ok (.int (x + k)) h2:=bnd he (bnd hk rfl)
theorem sb_e {n:Nat} {xs:List D} {i:Int} {d:D} (he:e.ev cl ρ h=.ok (.loc n) h1) (hi:e'.ev cl ρ h1=.ok (.int i) h2) (g:h2[n]?=some (.lst xs)) (h0:0<=i) (q:xs[i.toNat]?=some d):E.ev cl (.sub e e' p) ρ h=.ok d h2:=bnd he (bnd hi (sub_loc g h0 q))
theorem tp_e {es:Es} {xs:List D} (he:es.ev cl ρ h=.ok xs h1) (hl:xs.length<=1000):E.ev cl (.tup es p) ρ h=.ok (.tup xs) h1:=bnd he (if_pos hl)
theorem ls_e {es:Es} {xs:List D} (he:es.ev cl ρ h=.ok xs h1) (hl:xs.length<=1000):E.ev cl (.ofL (.disp es p)) ρ h=.ok (.loc h1.length) (h1 ++ [O.lst xs]):=bnd (bnd he (if_pos hl)) rfl
theorem ca_e {f:Nat} {a:E} {r:Es} {x:D} {xs:List D} {o:Res D} (ha:a.ev cl ρ h=.ok x h1) (hr:r.ev cl ρ h1=.ok xs h2) (hc:cl f (x :: xs) h2=o):E.ev cl (.call f a r p p1) ρ h=o:=bnd ha (bnd hr hc)
theorem vr_e {i:Nat} {d:D} (q:ρ[i]?=some (some d)):E.ev cl (.var i p) ρ h=.ok d h:=by rw [vvar,q]
end
theorem s_at {ds:List Str} {i:Int} (h0:0<=i) (h1:i < ds.length):(ds.map D.str)[i.toNat]?=some (.str (ds.getD i.toNat "")):=by
  rw [List.getElem?_map,List.getD_eq_getElem?_getD,List.getElem?_eq_getElem (by omega)]; rfl
theorem df_itm {nm:D} {ds:List Str} {t:G} {one two:Str} (ht:t.size<=20) (hg:gdd t=[one,two]) (ho:one ∈ ds) (hs:two ∈ ds):Itm ds (.df nm (.tup []) .non t) [one,two]:=by
  refine ⟨⟨fun g hg=>?_,by show [t].length<=_; simp⟩,?_,fun x=>?_,fun x hx=>?_,by simp⟩
  · have:g=t:=by simpa [It.bods] using hg
    rw [this]; omega
  · show ([] ++ [t].flatMap gdd).length<=_
    simp [hg]
  · show x ∈ [] ++ [t].flatMap gdd ↔ _
    simp [hg]
  · simp only [List.mem_cons,List.not_mem_nil,or_false] at hx
    rcases hx with rfl | rfl <;> assumption
noncomputable def ItemRes (cl:Nat->List D->Hh->Res D) (r:Hh->Res D) (ds:List Str) (h:Hh):Prop :=
  ∃ (it:It) (ss:List Str) (J:Hh) (m:Nat),r h=.ok (.tup [it.d,.loc m]) (h ++ J) /\ (h ++ J)[m]?=some (.lst (ss.map .str)) /\ h.length<=m /\ Itm ds it ss
theorem r_item (cl:Nat->List D->Hh->Res D) (P:PutOk cl 6) (Hd:HdOk cl 7) (nm:D) (c:Int) (n:Nat) (ds:List Str) (f:Fx) (h:Hh) (g:h[n]?=some (.lst (ds.map .str))) (h0:0 < ds.length) (h1:ds.length<=1000) :
    ItemRes cl (fun h=>d_law_item.run cl [nm,.int c,.loc n,f.t] h) ds h:=by
  have N0:(0:Int) < ((ds.map D.str).length:Nat):=by rw [List.length_map]; omega
  have NN:(((ds.map D.str).length:Nat):Int)=ds.length:=by rw [List.length_map]
  obtain ⟨N,eN⟩:∃ N:Int,N=((ds.map D.str).length:Nat):=⟨_,rfl⟩
  rw [<- eN] at N0 NN
  have N1:0 < N /\ N < 1073741824:=by omega
  obtain ⟨q,eq⟩:∃ q,q=c / 3:=⟨_,rfl⟩
  obtain ⟨a,ea⟩:∃ a,a=q % N:=⟨_,rfl⟩
  obtain ⟨sp,es⟩:∃ sp,sp=q / N % N:=⟨_,rfl⟩
  obtain ⟨rs,er⟩:∃ rs,rs=q / N / N:=⟨_,rfl⟩
  obtain ⟨fm,ef⟩:∃ fm,fm=rs / 6:=⟨_,rfl⟩
  have za:0<=a /\ a < N:=by rw [ea]; exact ⟨Int.emod_nonneg _ (by omega),Int.emod_lt_of_pos _ N1.1⟩
  have zs:0<=sp /\ sp < N:=by rw [es]; exact ⟨Int.emod_nonneg _ (by omega),Int.emod_lt_of_pos _ N1.1⟩
  have a1:=s_at (ds:=ds) za.1 (by omega)
  have s1:=s_at (ds:=ds) zs.1 (by omega)
  have m1:ds.getD a.toNat "" ∈ ds:=getD_mem (by omega)
  have m2:ds.getD sp.toNat "" ∈ ds:=getD_mem (by omega)
  generalize ds.getD a.toNat ""=one at a1 m1
  generalize ds.getD sp.toNat ""=two at s1 m2
  have start:∀ (o:RS),Ss.run cl (dropS 5 d_law_item.body) [some nm,some (.int c),some (.loc n),some f.t,some (.int N),some (.str one),some (.int sp),some (.int rs),some (.int fm),none,none] h=o ->
      Ss.run cl d_law_item.body [some nm,some (.int c),some (.loc n),some f.t,none,none,none,none,none,none,none] h=o:=by
    intro o k
    have l1:∀ p p1 p2,E.ev cl (.len (.var 2 p) p1 p2) [some nm,some (.int c),some (.loc n),some f.t,none,none,none,none,none,none,none] h=.ok (.int N) h:=fun p p1 p2=>by rw [eN]; exact len_loc rfl g
    refine set_s (l1 _ _ _) (set_s (sb_e rfl (md_e (fd_e rfl rfl (by decide)) rfl N1.1) g (by rw [<- eq,<- ea]; exact za.1) (by rw [<- eq,<- ea]; exact a1)) (set_s (md_e (fd_e (fd_e rfl rfl (by decide)) rfl N1) rfl N1.1) (set_s (fd_e (fd_e (fd_e rfl rfl (by decide)) rfl N1) rfl N1) (set_s (fd_e rfl rfl (by decide)) ?_))))
    rw [<- k,ef,er,es,eq]
    rfl
  by_cases c0:c % 3=0
  · obtain ⟨J1,e1⟩:=P f (doG one (doG two (nu 12))) (fm % 15) h (by omega) (by omega)
    obtain ⟨J2,e2⟩:=P f (putG f (doG one (doG two (nu 12))) (fm % 15).toNat) (fm / 15 % 15) (h ++ J1) (by omega) (by omega)
    have gd:gdd (putG f (putG f (doG one (doG two (nu 12))) (fm % 15).toNat) (fm / 15 % 15).toNat)=[one,two]:=by
      rw [gdd_put,gdd_put,gdd_do,gdd_do,gdd_nu]
    have sz:(putG f (putG f (doG one (doG two (nu 12))) (fm % 15).toNat) (fm / 15 % 15).toNat).size<=20:=by
      have x1:=size_put f (putG f (doG one (doG two (nu 12))) (fm % 15).toNat) (fm / 15 % 15).toNat
      have x2:=size_put f (doG one (doG two (nu 12))) (fm % 15).toNat
      rw [size_do,size_do,size_nu] at x2
      omega
    generalize putG f (putG f (doG one (doG two (nu 12))) (fm % 15).toNat) (fm / 15 % 15).toNat=t2 at e2 gd sz
    generalize ht1:putG f (doG one (doG two (nu 12))) (fm % 15).toNat=t1 at e1 e2
    have g1:(h ++ J1 ++ J2)[n]?=some (.lst (ds.map .str)):=get_old (get_old g)
    rw [d_do,d_do,dd_nu] at e1
    refine ⟨.df nm (.tup []) .non t2,[one,two],J1 ++ (J2 ++ [O.lst [.str one,.str two]]),(h ++ J1 ++ J2).length,?_,?_,?_,df_itm sz gd m1 m2⟩
    · rw [<- List.append_assoc,<- List.append_assoc]
      refine out_rt (start _ (iff_r (t_cmp (md_e rfl rfl (by decide)) rfl (eqI.trans (by rw [c0]; rfl))) (set_s (ca_e (md_e rfl rfl (by decide)) (cns (tp_e (cns rfl (cns rfl (cns (tp_e (cns rfl (cns (sb_e rfl rfl g zs.1 s1) rfl)) (by simp)) rfl))) (by simp)) rfl) e1) (ret_r (tp_e (cns (tp_e (cns rfl (cns rfl (cns rfl (cns rfl (cns (ca_e (md_e (fd_e rfl rfl (by decide)) rfl (by decide)) rfl e2) rfl))))) (by simp)) (cns (ls_e (cns rfl (cns (sb_e rfl rfl g1 zs.1 s1) rfl)) (by simp)) rfl)) (by simp))))))
    · rw [<- List.append_assoc,<- List.append_assoc,hx0]; rfl
    · simp only [List.length_append]; omega
  · obtain ⟨m,em⟩:∃ m:Int,m=if 1 + rs % 3 < N then 1 + rs % 3 else N:=⟨_,rfl⟩
    have zm:1<=m /\ m<=3:=by rw [em]; split <;> omega
    obtain ⟨sm,hsm⟩:∃ sm:List Str,sm=(List.range m.toNat).map fun k:Nat=>ds.getD ((sp + k) % N).toNat "":=⟨_,rfl⟩
    have lsm:sm.length=m.toNat:=by rw [hsm]; simp
    have zk:∀ k:Nat,0<=(sp + k) % N /\ (sp + k) % N < N:=fun k=>⟨Int.emod_nonneg _ (by omega),Int.emod_lt_of_pos _ N1.1⟩
    have ssm:∀ x ∈ sm,x ∈ ds:=fun x hx=>by
      rw [hsm] at hx
      obtain ⟨k,_,rfl⟩:=List.mem_map.mp hx
      have:=zk k
      exact getD_mem (by omega)
    have key:=compL_on (fun k:Nat=>D.int k) (c:=[]) (f:=compF t_law_item_1 [none,some (.loc n),some (.int N),some (.int sp)] (fun ρ' h2=>c_law_item_1.evC cl ρ' h2) (fun ρ' h2=>e_law_item_1.ev cl ρ' h2)) (h:=h) stay_nil (fun k=>some (.str (ds.getD ((sp + k) % N).toNat ""))) (List.range m.toNat) [] (fun k _=>compF_t rfl rfl (sb_e rfl (md_e (ad_e rfl rfl) rfl N1.1) g (zk k).1 (s_at (zk k).1 (by have:=zk k; omega))))
    rw [fm_some,List.nil_append] at key
    have ek:(List.range m.toNat).map (fun k:Nat=>D.str (ds.getD ((sp + k) % N).toNat ""))=sm.map .str:=by rw [hsm,List.map_map]; rfl
    rw [ek] at key
    have hmin:∀ p p1 p2 p3 p4 p5 p6 p7,E.ev cl (.min2 (.var 4 p) (.bin .Add (.int 1 p1) (.bin .Mod (.var 7 p2) (.int 3 p3) p4) p5) p6 p7) [some nm,some (.int c),some (.loc n),some f.t,some (.int N),some (.str one),some (.int sp),some (.int rs),some (.int fm),none,none] h=.ok (.int m) h:=fun p p1 p2 p3 p4 p5 p6 p7=>by
      rw [em]; exact bnd rfl (bnd (ad_e rfl (md_e rfl rfl (by decide))) rfl)
    have g1:(h ++ [O.lst (sm.map .str)])[h.length]?=some (.lst (sm.map .str)):=g_0 _ _ _
    have fin:∀ (b:Bool) (t2:G) (J:Hh) (p1 p2 p3 p4 p5 p6 p7 p8 p9 p10 p11 p12 p13 p14 p15 p16 p17 p18 p19 p20 p21:Pos),(c % 3 == 1)=b->gdd t2=[one]->t2.size<=20->∃ (J3:Hh),
        Ss.run cl (.cons (.ret (.tup (.cons (.call 7 (.var 0 p1) (.cons (.bin .Add (.bin .FloorDiv (.var 7 p2) (.int 3 p3) p4) (.var 8 p5) p6) (.cons (.cmp .Eq (.bin .Mod (.var 1 p7) (.int 3 p8) p9) (.int 1 p10) p11) (.cons (.var 10 p12) (.cons (.var 9 p13) .nil)))) p14 p15) (.cons (.bin .Add (.ofL (.disp (.cons (.var 5 p16) .nil) p17)) (.var 10 p18) p19) .nil)) p20) p21) .nil)
          [some nm,some (.int c),some (.loc n),some f.t,some (.int N),some (.str one),some (.int sp),some (.int rs),some (.int fm),some t2.d,some (.loc h.length)] (h ++ [O.lst (sm.map .str)] ++ J)=.rt (.tup [(hdI nm b ((rs / 3 + fm) % sm.length).toNat sm t2).d,.loc (h ++ [O.lst (sm.map .str)] ++ J ++ J3 ++ [O.lst [.str one]]).length]) (h ++ [O.lst (sm.map .str)] ++ J ++ J3 ++ [O.lst [.str one]] ++ [O.lst ((one :: sm).map .str)]):=by
      intro b t2 J p1 p2 p3 p4 p5 p6 p7 p8 p9 p10 p11 p12 p13 p14 p15 p16 p17 p18 p19 p20 p21 hb _ _
      obtain ⟨J3,e3⟩:=Hd nm (rs / 3 + fm) b h.length sm t2 (h ++ [O.lst (sm.map .str)] ++ J) (get_old g1) (by omega) (by omega)
      refine ⟨J3,ret_r (tp_e (cns (ca_e rfl (cns (ad_e (fd_e rfl rfl (by decide)) rfl) (cns (bnd (md_e rfl rfl (by decide)) (bnd rfl (eqI.trans (by rw [hb])))) (cns rfl (cns rfl rfl)))) e3) (cns (bnd (ls_e (cns rfl rfl) (by simp)) (bnd rfl ?_)) rfl)) (by simp))⟩
      rw [bin_addl,get_old (get_old (get_old g1)),hx0]
      dsimp only [List.getElem?_cons_zero]
      rw [if_pos (by simp; omega)]
      rfl
    have done:∀ (b:Bool) (t2:G) (J J3:Hh),(∀ o,Ss.run cl d_law_item.body [some nm,some (.int c),some (.loc n),some f.t,none,none,none,none,none,none,none] h=o->True)->gdd t2=[one]->t2.size<=20 ->
        Ss.run cl d_law_item.body [some nm,some (.int c),some (.loc n),some f.t,none,none,none,none,none,none,none] h=.rt (.tup [(hdI nm b ((rs / 3 + fm) % sm.length).toNat sm t2).d,.loc (h ++ [O.lst (sm.map .str)] ++ J ++ J3 ++ [O.lst [.str one]]).length]) (h ++ [O.lst (sm.map .str)] ++ J ++ J3 ++ [O.lst [.str one]] ++ [O.lst ((one :: sm).map .str)]) ->
        ItemRes cl (fun h=>d_law_item.run cl [nm,.int c,.loc n,f.t] h) ds h:=by
      intro b t2 J J3 _ gd sz e
      have zz:0<=(rs / 3 + fm) % (sm.length:Int) /\ (rs / 3 + fm) % (sm.length:Int) < sm.length:=⟨Int.emod_nonneg _ (by omega),Int.emod_lt_of_pos _ (by omega)⟩
      refine ⟨hdI nm b ((rs / 3 + fm) % sm.length).toNat sm t2,one :: sm,[O.lst (sm.map .str)] ++ J ++ J3 ++ [O.lst [.str one]] ++ [O.lst ((one :: sm).map .str)],(h ++ [O.lst (sm.map .str)] ++ J ++ J3 ++ [O.lst [.str one]]).length,(out_rt e).trans (by simp only [List.append_assoc]),?_,?_,hd_itm (by omega) (by omega) sz gd m1 ssm⟩
      · simp only [<- List.append_assoc]
        rw [hx0]; rfl
      · simp only [List.length_append]; omega
    have two_put:∀ k1 k2:Int,0<=k1->k1 < 17->0<=k2->k2 < 17->∃ (t1 t2:G) (J1 J2:Hh),cl 6 [.int k1,.tup [.str "do",.str one,.tup [.str "num",.int 11]],f.t] (h ++ [O.lst (sm.map .str)])=.ok t1.d (h ++ [O.lst (sm.map .str)] ++ J1) /\ cl 6 [.int k2,t1.d,f.t] (h ++ [O.lst (sm.map .str)] ++ J1)=.ok t2.d (h ++ [O.lst (sm.map .str)] ++ (J1 ++ J2)) /\ gdd t2=[one] /\ t2.size<=20:=by
      intro k1 k2 x1 x2 x3 x4
      obtain ⟨J1,e1⟩:=P f (doG one (nu 11)) k1 (h ++ [O.lst (sm.map .str)]) x1 x2
      obtain ⟨J2,e2⟩:=P f (putG f (doG one (nu 11)) k1.toNat) k2 (h ++ [O.lst (sm.map .str)] ++ J1) x3 x4
      have y1:=size_put f (putG f (doG one (nu 11)) k1.toNat) k2.toNat
      have y2:=size_put f (doG one (nu 11)) k1.toNat
      rw [size_do,size_nu] at y2
      rw [d_do,dd_nu] at e1
      refine ⟨_,_,J1,J2,e1,by rw [<- List.append_assoc]; exact e2,?_,by omega⟩
      rw [gdd_put,gdd_put,gdd_do,gdd_nu]
    have c0':(c % 3 == 0)=false:=beq_false_of_ne c0
    by_cases c1:c % 3=1
    · obtain ⟨t1,t2,J1,J2,e1,e2,gd,sz⟩:=two_put (fm % 15) (fm / 15 % 17) (by omega) (by omega) (by omega) (by omega)
      obtain ⟨J3,e3⟩:=fin true t2 (J1 ++ J2) ⟨74,25,74,39⟩ ⟨74,41,74,50⟩ ⟨74,54,74,55⟩ ⟨74,41,74,55⟩ ⟨74,58,74,67⟩ ⟨74,41,74,67⟩ ⟨74,69,74,83⟩ ⟨74,86,74,87⟩ ⟨74,69,74,87⟩ ⟨74,91,74,92⟩ ⟨74,69,74,92⟩ ⟨74,94,74,103⟩ ⟨74,105,74,114⟩ ⟨74,12,74,24⟩ ⟨74,12,74,115⟩ ⟨74,118,74,126⟩ ⟨74,117,74,127⟩ ⟨74,130,74,139⟩ ⟨74,117,74,139⟩ ⟨74,11,74,140⟩ ⟨74,4,74,140⟩ (by rw [c1]; rfl) gd sz
      refine done true t2 (J1 ++ J2) J3 (fun _ _=>trivial) gd sz (start _ (iff_f (t_cmp (md_e rfl rfl (by decide)) rfl (eqI.trans (by rw [c0']))) (set_s (ofL_comp (q:=([],(List.range m.toNat).map fun k:Nat=>D.int k)) (rng_s (hmin _ _ _ _ _ _ _ _) (by omega)) (by simp; omega) key) (iff_n (t_cmp (md_e rfl rfl (by decide)) rfl (eqI.trans (by rw [c1]; rfl))) (set_s (ca_e (md_e rfl rfl (by decide)) rfl e1) (set_s (ca_e (md_e (fd_e rfl rfl (by decide)) rfl (by decide)) rfl e2) rfl)) e3))))
    · obtain ⟨t1,t2,J1,J2,e1,e2,gd,sz⟩:=two_put (fm % 13) (fm / 15 % 13) (by omega) (by omega) (by omega) (by omega)
      have c1':(c % 3 == 1)=false:=beq_false_of_ne c1
      obtain ⟨J3,e3⟩:=fin false t2 (J1 ++ J2) ⟨74,25,74,39⟩ ⟨74,41,74,50⟩ ⟨74,54,74,55⟩ ⟨74,41,74,55⟩ ⟨74,58,74,67⟩ ⟨74,41,74,67⟩ ⟨74,69,74,83⟩ ⟨74,86,74,87⟩ ⟨74,69,74,87⟩ ⟨74,91,74,92⟩ ⟨74,69,74,92⟩ ⟨74,94,74,103⟩ ⟨74,105,74,114⟩ ⟨74,12,74,24⟩ ⟨74,12,74,115⟩ ⟨74,118,74,126⟩ ⟨74,117,74,127⟩ ⟨74,130,74,139⟩ ⟨74,117,74,139⟩ ⟨74,11,74,140⟩ ⟨74,4,74,140⟩ c1' gd sz
      refine done false t2 (J1 ++ J2) J3 (fun _ _=>trivial) gd sz (start _ (iff_f (t_cmp (md_e rfl rfl (by decide)) rfl (eqI.trans (by rw [c0']))) (set_s (ofL_comp (q:=([],(List.range m.toNat).map fun k:Nat=>D.int k)) (rng_s (hmin _ _ _ _ _ _ _ _) (by omega)) (by simp; omega) key) (iff_e (t_cmp (md_e rfl rfl (by decide)) rfl (eqI.trans (by rw [c1']))) (set_s (ca_e (md_e rfl rfl (by decide)) rfl e1) (set_s (ca_e (md_e (fd_e rfl rfl (by decide)) rfl (by decide)) rfl e2) rfl)) e3))))
end K22
set_option Elab.async false
set_option linter.all false
set_option maxRecDepth 100000
set_option maxHeartbeats 4000000
namespace K22
open PySem L2 PI
theorem can_st:∀ {l:List Str},(∀ x ∈ l,PyData.strOk x=true)->PyData.canLayAll0 (l.map PyData.str)=true
  | [],_=>rfl
  | b :: r,h=>by rw [List.map_cons]; simp [PyData.canLayAll0,PyData.canLay0,can_st (fun x hx=>h x (List.mem_cons_of_mem _ hx)),h b (List.mem_cons_self ..)]
theorem dep_st:∀ (l:List Str),PyData.depthAll (l.map PyData.str)=0
  | []=>rfl
  | b :: r=>by rw [List.map_cons]; simp [PyData.depthAll,PyData.depth,dep_st r]
theorem eqv_st:∀ (l:List Str),PyData.eqvAll (l.map PyData.str) (l.map PyData.str)=true
  | []=>rfl
  | b :: r=>by rw [List.map_cons]; simp [PyData.eqvAll,PyData.eqv,eqv_st r]
theorem pds_st {h:Hh}:∀ (l:List Str),D.pds h (l.map D.str)=some (l.map PyData.str)
  | []=>by rw [List.map_nil,D.pds]; rfl
  | b :: r=>by rw [List.map_cons,D.pds,pds_st r]; simp [D.pd]
theorem eq_lists {h:Hh} {a b:Nat} {l:List Str} (ga:h[a]?=some (.lst (l.map D.str))) (gb:h[b]?=some (.lst (l.map D.str))) (ok:∀ x ∈ l,PyData.strOk x=true):cmpD .Eq (.loc a) (.loc b) h=.ok (.bl true) h /\ cmpD .NotEq (.loc a) (.loc b) h=.ok (.bl false) h:=by
  have pa:∀ {a:Nat},h[a]?=some (.lst (l.map D.str))->pdT h (.loc a)=some (.list (l.map PyData.str)):=fun {a} ga=>by
    show (PI.rd h a).bind (fun xs=>(D.pds h xs).map PyData.list)=_
    rw [rd_of ga]; show (D.pds h (l.map D.str)).map PyData.list=_; rw [pds_st]; rfl
  rw [cmp_ne,cmp_eq,pa ga,pa gb]
  have c1:(PyData.list (l.map PyData.str)).canLay0=true:=by simp [PyData.canLay0,can_st ok]
  have c2:(PyData.list (l.map PyData.str)).depth<=60:=by simp [PyData.depth,dep_st]
  have c3:PyData.eqv (.list (l.map PyData.str)) (.list (l.map PyData.str))=true:=by simp [PyData.eqv,eqv_st]
  constructor
  · show (if _ then _ else _)=_
    rw [if_pos ⟨c1,c1,c2⟩,c3]; rfl
  · show (if _ then _ else _)=_
    rw [if_pos ⟨c1,c1,c2⟩,c3]; rfl
structure Good (ds:List Str) (its:List It) (us:List Str):Prop where
  ok:∀ it ∈ its,it.Ok
  len:∀ it ∈ its,it.dds.length<=100
  mem:∀ x,x ∈ its.flatMap It.dds ↔ x ∈ us
  sub:∀ x ∈ us,x ∈ ds
theorem Good.more {ds us ss:List Str} {its:List It} {it:It} (q:Good ds its us) (i:Itm ds it ss):Good ds (its ++ [it]) (us ++ ss):=by
  refine ⟨fun z hz=>?_,fun z hz=>?_,fun x=>?_,fun x hx=>?_⟩
  · rcases List.mem_append.mp hz with hz | hz
    · exact q.ok z hz
    · rw [List.mem_singleton.mp hz]; exact i.ok
  · rcases List.mem_append.mp hz with hz | hz
    · exact q.len z hz
    · rw [List.mem_singleton.mp hz]; exact i.len
  · rw [List.flatMap_append,List.mem_append,List.mem_append,q.mem,List.flatMap_cons,List.flatMap_nil,List.append_nil,i.mem]
  · rcases List.mem_append.mp hx with hx | hx
    · exact q.sub x hx
    · exact i.sub x hx
theorem Good.tot {ds us:List Str} {its:List It} (q:Good ds its us) (hl:its.length<=40):(its.flatMap It.dds).length<=4000:=by
  have:=flat_len (f:=It.dds) (S:=100) q.len
  omega
noncomputable def HP (ds ns:List Str) (its:List It) (us:List Str) (J:Hh):Hh:=.lst (ds.map .str) :: .lst (ns.map .str) :: .lst (its.map It.d) :: .lst (us.map .str) :: J
theorem HP.app (ds ns:List Str) (its:List It) (us:List Str) (J J':Hh):HP ds ns its us J ++ J'=HP ds ns its us (J ++ J'):=rfl
theorem HP.set2 (ds ns:List Str) (its:List It) (us:List Str) (J:Hh) (it:It):(HP ds ns its us J).set 2 (.lst (its.map It.d ++ [it.d]))=HP ds ns (its ++ [it]) us J:=by
  unfold HP; rw [List.map_append]; rfl
theorem HP.set3 (ds ns:List Str) (its:List It) (us:List Str) (J:Hh) (ss:List Str):(HP ds ns its us J).set 3 (.lst (us.map .str ++ ss.map .str))=HP ds ns its (us ++ ss) J:=by
  unfold HP; rw [List.map_append]; rfl
theorem app_s {cl:Nat->List D->Hh->Res D} {ρ:En} {h0 h h1:Hh} {o a:E} {p1 p:Pos} {n:Nat} {xs:List D} {d:D} (ho:o.ev cl ρ h0=.ok (.loc n) h) (g0:∃ l,h[n]?=some (.lst l)) (ha:a.ev cl ρ h=.ok d h1) (g1:h1[n]?=some (.lst xs)) (hl:xs.length < 1000000) :
    E.ev cl (.m1 .append o a p1 p) ρ h0=.ok .non (h1.set n (.lst (xs ++ [d]))):=by
  obtain ⟨l,g0⟩:=g0
  refine bnd ho ?_
  show onL (.loc n) h _=_
  rw [on_lst g0]
  refine bnd ha ?_
  show m1D .append (.loc n) d h1=_
  unfold m1D
  dsimp only
  rw [g1]
  exact if_pos hl
noncomputable def ItemOk (cl:Nat->List D->Hh->Res D) (i:Nat):Prop:=∀ (nm:D) (c:Int) (n:Nat) (ds:List Str) (f:Fx) (h:Hh),h[n]?=some (.lst (ds.map .str))->0 < ds.length->ds.length<=1000->ItemRes cl (fun h=>cl i [nm,.int c,.loc n,f.t] h) ds h
theorem law_loop (cl:Nat->List D->Hh->Res D) (I8:ItemOk cl 8) (ns:List Int) (ds nms:List Str) (f:Fx) (m:Option D) (h0:0 < ds.length) (h1:ds.length<=1000) (hn:nms.length=40):∀ (ks:List Nat) (its:List It) (us:List Str) (J:Hh) (x7 x8 x9:Option D),
    (∀ k ∈ ks,k < 36 /\ 3 + k < ns.length)->Good ds its us->its.length + ks.length<=40->us.length + 10 * ks.length<=1000 ->
    ∃ its' us' J' x7' x8' x9',forL [] (stepF t_law_1 fun ρ' h'=>b_law_1.run cl ρ' h') (ks.map fun k:Nat=>D.int k) [some (scr ns),m,some (.loc 0),some (.loc 1),some f.t,some (.loc 2),some (.loc 3),x7,x8,x9,none] (HP ds nms its us J) =
        .nx [some (scr ns),m,some (.loc 0),some (.loc 1),some f.t,some (.loc 2),some (.loc 3),x7',x8',x9',none] (HP ds nms its' us' J') /\ Good ds its' us' /\ its'.length<=40 /\ us'.length<=1000 /\ its'.take its.length=its
  | [],its,us,J,x7,x8,x9,_,q,_,_=>⟨its,us,J,x7,x8,x9,by rw [List.map_nil,forL,if_pos stay_nil],q,by simpa using ‹_›,by omega,List.take_length⟩
  | k :: ks,its,us,J,x7,x8,x9,hk,q,hl,hu=>by
    obtain ⟨k1,k2⟩:=hk k (List.mem_cons_self ..)
    rw [List.length_cons] at hl hu
    obtain ⟨it,ss,J1,mm,e1,g1,hm,i⟩:=I8 (.str (nms.getD k "")) (cellv ns (3 + k)) 0 ds f (HP ds nms its us J) rfl h0 h1
    have hm4:4<=mm:=Nat.le_trans (by unfold HP; simp) hm
    rw [HP.app] at e1 g1
    obtain ⟨its',us',J',y7,y8,y9,e2,q2,l2,l3,l4⟩:=law_loop cl I8 ns ds nms f m h0 h1 hn ks (its ++ [it]) (us ++ ss) (J ++ J1) (some (.int k)) (some it.d) (some (.loc mm)) (fun k hk'=>hk k (List.mem_cons_of_mem _ hk')) (q.more i) (by rw [List.length_append,List.length_singleton]; omega) (by have:=i.ln; rw [List.length_append]; omega)
    refine ⟨its',us',J',y7,y8,y9,for_n stay_nil ?_ e2,q2,l2,l3,?_⟩
    · have hat:(nms.map D.str)[((k:Nat):Int).toNat]?=some (.str (nms.getD k "")):=s_at (by omega) (by omega)
      have gg:(HP ds nms (its ++ [it]) us (J ++ J1))[mm]?=some (.lst (ss.map .str)):=by rw [<- HP.set2,List.getElem?_set_ne (by omega)]; exact g1
      refine setT_s (ca_e (sb_e rfl rfl (g:=(show (HP ds nms its us J)[1]?=some (.lst (nms.map .str)) from rfl)) (by omega) hat) (cns (bnd rfl (bnd (ad_e rfl rfl) (by
        show (match atI (ns.map D.int) _ with | some d=>Res.ok d _ | none=>.no)=_
        rw [at_map ns _ (by omega) (by omega)]))) rfl) e1) rfl (ex_s (app_s rfl ⟨_,rfl⟩ rfl (show (HP ds nms its us (J ++ J1))[2]?=some (.lst (its.map It.d)) from rfl) (by simp; omega)) ?_)
      rw [HP.set2]
      refine ex_s (ext_s rfl ⟨_,rfl⟩ rfl (show (HP ds nms (its ++ [it]) us (J ++ J1))[3]?=some (.lst (us.map .str)) from rfl) gg (by have:=i.ln; simp; omega)) ?_
      rw [HP.set3]
      rfl
    · have:=congrArg (List.take its.length) l4
      rw [List.take_take,List.length_append,List.length_singleton,Nat.min_eq_left (by omega),List.take_append_of_le_length (Nat.le_refl _),List.take_length] at this
      exact this
end K22
set_option Elab.async false
set_option linter.all false
set_option maxRecDepth 100000
set_option maxHeartbeats 4000000
namespace K22
open PySem L2 PI
noncomputable def vx:G:=.nd (.var "x") []
theorem d_vx:vx.d=.tup [.str "var",.str "x"]:=by unfold vx; rw [G.d,G.ds]; rfl
noncomputable def cp:G:=.nd (.call "p" none) [vx]
theorem d_cp:cp.d=.tup [.str "call",.str "p",.non,.tup [.tup [.str "var",.str "x"]]]:=by unfold cp; rw [dd_one,d_vx]; rfl
noncomputable def fixI (f:Fx):List It:=[.hd (.str f.a) [] vx,.df (.str f.b) (.tup [.str "x",.str "y"]) .non vy,.df (.str f.c) (.tup [.str "x"]) (.str "p") cp,.df (.str f.d) (.tup [.str "x"]) .non vx]
theorem gdd_vx:gdd vx=[]:=gdd_nd0 _
theorem gdd_cp:gdd cp=[]:=by unfold cp; rw [gdd_nd1,gdd_vx]; rfl
theorem fix_none (f:Fx):(fixI f).flatMap It.dds=[]:=by
  simp [fixI,It.dds,It.heads,It.bods,gdd_vx,gdd_vy,gdd_cp]
theorem size_vx:vx.size=1:=by unfold vx; rw [G.size,G.sizes]
theorem size_vy:vy.size=1:=by unfold vy; rw [G.size,G.sizes]
theorem size_cp:cp.size=2:=by unfold cp; rw [G.size,G.sizes,G.sizes,size_vx]
theorem fix_good (ds:List Str) (f:Fx):Good ds (fixI f) []:=by
  refine ⟨fun it hi=>?_,fun it hi=>?_,fun x=>by rw [fix_none],fun x hx=>by cases hx⟩
  · simp only [fixI,List.mem_cons,List.not_mem_nil,or_false] at hi
    rcases hi with rfl | rfl | rfl | rfl <;> exact ⟨fun g hg=>by simp [It.bods] at hg; rw [hg]; simp [size_vx,size_vy,size_cp],by simp [It.bods]⟩
  · have:it.dds=[]:=by
      simp only [fixI,List.mem_cons,List.not_mem_nil,or_false] at hi
      rcases hi with rfl | rfl | rfl | rfl <;> simp [It.dds,It.heads,It.bods,gdd_vx,gdd_vy,gdd_cp]
    rw [this]; simp
noncomputable def CellOk (cl:Nat->List D->Hh->Res D) (ns:List Int):Prop:=∀ (i:Int) (h:Hh),0<=i->cl 4 [scr ns,.int i] h=.ok (.int (cellv ns i)) h
noncomputable def NameOk (cl:Nat->List D->Hh->Res D):Prop:=∀ (k c:Int) (h:Hh),0<=k->k < 676->cl 5 [.int k,.int c] h=.ok (.str (nmv c k)) h
noncomputable def DeedsOk (cl:Nat->List D->Hh->Res D):Prop:=∀ (its:List It) (h:Hh),(∀ it ∈ its,it.Ok)->(its.flatMap It.dds).length<=4000->∃ J,cl 3 [.tup (its.map It.d)] h=.ok (.loc (h ++ J).length) (h ++ J ++ [.lst ((srtU (its.flatMap It.dds)).map .str)])
theorem law_A (cl:Nat->List D->Hh->Res D) (ns:List Int) (c4:CellOk cl ns):∃ M:Int,(1<=M /\ M<=120) /\ Ss.run cl (takeS 2 d_law.body) [some (scr ns),none,none,none,none,none,none,none,none,none,none] []=.nx [some (scr ns),some (.int M),none,none,none,none,none,none,none,none,none] []:=by
  have q:=c4 0 [] (by decide)
  generalize cellv ns 0=c at q
  by_cases z:c / 9 % 4=1
  · exact ⟨1 + c / 36 % 120,by omega,set_s (ad_e rfl (md_e (ca_e rfl rfl q) rfl (by decide))) (iff_n (t_cmp (md_e (fd_e (ca_e rfl rfl q) rfl (by decide)) rfl (by decide)) rfl (eqI.trans (by rw [z]; rfl))) (set_s (ad_e rfl (md_e (fd_e (ca_e rfl rfl q) rfl (by decide)) rfl (by decide))) rfl) rfl)⟩
  · exact ⟨1 + c % 9,by omega,set_s (ad_e rfl (md_e (ca_e rfl rfl q) rfl (by decide))) (iff_f (t_cmp (md_e (fd_e (ca_e rfl rfl q) rfl (by decide)) rfl (by decide)) rfl (eqI.trans (by rw [beq_false_of_ne z]))) rfl)⟩
noncomputable def nml (c:Int) (m:Nat):List Str:=(List.range m).map fun k:Nat=>nmv c (k:Int)
theorem nml_len (c:Int) (m:Nat):(nml c m).length=m:=by unfold nml; simp
theorem nml_at (c:Int) {m k:Nat} (h:k < m):(nml c m)[k]?=some (nmv c k):=by unfold nml; rw [List.getElem?_map,List.getElem?_range h]; rfl
theorem law_B (cl:Nat->List D->Hh->Res D) (ns:List Int) (c4:CellOk cl ns) (c5:NameOk cl) (M:Int) (hM:1<=M /\ M<=120) (c1 c2:Int) (e1:c1=cellv ns 1) (e2:c2=cellv ns 2) :
    Ss.run cl (takeS 8 (dropS 2 d_law.body)) [some (scr ns),some (.int M),none,none,none,none,none,none,none,none,none] [] =
      .nx [some (scr ns),some (.int M),some (.loc 0),some (.loc 1),some (Fx.mk (nmv c2 36) (nmv c2 37) (nmv c2 38) (nmv c2 39)).t,some (.loc 2),some (.loc 3),none,none,none,none] (HP (nml c1 M.toNat) (nml c2 40) (fixI (Fx.mk (nmv c2 36) (nmv c2 37) (nmv c2 38) (nmv c2 39))) [] []):=by
  have key1:=compL_on (fun k:Nat=>D.int k) (c:=[]) (f:=compF t_law_3 [none,some (scr ns)] (fun ρ' h2=>c_law_3.evC cl ρ' h2) (fun ρ' h2=>e_law_3.ev cl ρ' h2)) (h:=[]) stay_nil (fun k=>some (.str (nmv c1 k))) (List.range M.toNat) [] (fun k hk=>compF_t rfl rfl (ca_e rfl (cns (ca_e rfl rfl (c4 1 _ (by decide))) rfl) (by rw [<- e1]; exact c5 k c1 _ (by omega) (by have:=List.mem_range.mp hk; omega))))
  rw [fm_some,List.nil_append] at key1
  have k1:(List.range M.toNat).map (fun k:Nat=>D.str (nmv c1 k))=(nml c1 M.toNat).map .str:=by unfold nml; rw [List.map_map]; rfl
  rw [k1] at key1
  have key2:=compL_on (fun k:Nat=>D.int k) (c:=[]) (f:=compF t_law_2 [none,some (scr ns)] (fun ρ' h2=>c_law_2.evC cl ρ' h2) (fun ρ' h2=>e_law_2.ev cl ρ' h2)) (h:=[.lst ((nml c1 M.toNat).map .str)]) stay_nil (fun k=>some (.str (nmv c2 k))) (List.range 40) [] (fun k hk=>compF_t rfl rfl (ca_e rfl (cns (ca_e rfl rfl (c4 2 _ (by decide))) rfl) (by rw [<- e2]; exact c5 k c2 _ (by omega) (by have:=List.mem_range.mp hk; omega))))
  rw [fm_some,List.nil_append] at key2
  have k2:(List.range 40).map (fun k:Nat=>D.str (nmv c2 k))=(nml c2 40).map .str:=by unfold nml; rw [List.map_map]; rfl
  rw [k2] at key2
  have at':∀ k:Nat,k < 40->((nml c2 40).map D.str)[((k:Nat):Int).toNat]?=some (.str (nmv c2 k)):=fun k hk=>by
    rw [List.getElem?_map,show ((k:Nat):Int).toNat=k from by omega,nml_at c2 hk]; rfl
  have a36:=at' 36 (by decide)
  have a37:=at' 37 (by decide)
  have a38:=at' 38 (by decide)
  have a39:=at' 39 (by decide)
  have fx:HP (nml c1 M.toNat) (nml c2 40) (fixI (Fx.mk (nmv c2 36) (nmv c2 37) (nmv c2 38) (nmv c2 39))) [] []=[.lst ((nml c1 M.toNat).map .str),.lst ((nml c2 40).map .str),
      .lst [.tup [.str "handler",.str (nmv c2 36),.tup [],.tup [.str "x",.str "y",.tup [.str "var",.str "x"]]],.tup [.str "def",.str (nmv c2 37),.tup [.str "x",.str "y"],.non,.tup [.str "var",.str "y"]],.tup [.str "def",.str (nmv c2 38),.tup [.str "x"],.str "p",.tup [.str "call",.str "p",.non,.tup [.tup [.str "var",.str "x"]]]],.tup [.str "def",.str (nmv c2 39),.tup [.str "x"],.non,.tup [.str "var",.str "x"]]],.lst []]:=by
    unfold HP fixI
    simp only [List.map_cons,List.map_nil,It.d,d_vx,d_vy,d_cp]
  rw [fx]
  refine set_s (ofL_comp (q:=([],(List.range M.toNat).map fun k:Nat=>D.int k)) (rng_s rfl (by omega)) (by simp; omega) key1) (set_s (ofL_comp (q:=([],(List.range 40).map fun k:Nat=>D.int k)) (rng_s (j:=40) rfl (by decide)) (by simp) key2) (set_s (tp_e (cns (sb_e rfl rfl rfl (by decide) a36) (cns (sb_e rfl rfl rfl (by decide) a37) (cns (sb_e rfl rfl rfl (by decide) a38) (cns (sb_e rfl rfl rfl (by decide) a39) rfl)))) (by simp)) (set_s (ls_e (cns (tp_e (cns rfl (cns (sb_e rfl rfl rfl (by decide) a36) rfl)) (by simp)) rfl) (by simp)) ?_)))
  refine ex_s (app_s rfl ⟨_,rfl⟩ (tp_e (cns rfl (cns (sb_e rfl rfl rfl (by decide) a37) rfl)) (by simp)) rfl (by simp)) (ex_s (app_s rfl ⟨_,rfl⟩ (tp_e (cns rfl (cns (sb_e rfl rfl rfl (by decide) a38) rfl)) (by simp)) rfl (by simp)) (ex_s (app_s rfl ⟨_,rfl⟩ (tp_e (cns rfl (cns (sb_e rfl rfl rfl (by decide) a39) rfl)) (by simp)) rfl (by simp)) (set_s rfl rfl)))
end K22
set_option Elab.async false
set_option linter.all false
set_option maxRecDepth 100000
set_option maxHeartbeats 4000000
namespace K22
open PySem L2 PI
theorem cut_len (ns:List Int):(cutXs (ns.map D.int) (some 3) (some 39)).length<=36 /\ ∀ k,k < (cutXs (ns.map D.int) (some 3) (some 39)).length->3 + k < ns.length:=by
  unfold cutXs
  rw [sIx_some _ _ _ (by decide),sIx_some _ _ _ (by decide)]
  simp only [List.length_take,List.length_drop,List.length_map]
  refine ⟨?_,fun k hk=>?_⟩ <;> omega
theorem isi_l {cl:Nat->List D->Hh->Res D} {ρ:En} {h:Hh} {i n:Nat} {p p1 p2 p3 p4:Pos} {xs:List D} (q:ρ[i]?=some (some (.loc n))) (g:h[n]?=some (.lst xs)):E.evT cl (.un .Not (.isi 4 (.var i p) p1 p2 p3) p4) ρ h=.ok false h:=by
  refine bnd (x:=D.bl false) (h:=h) (bnd (x:=D.bl true) (h:=h) (bnd (vr_e q) ?_) rfl) rfl
  show (match isI h (.loc n) 4 with | some b=>Res.ok (D.bl b) h | none=>.no)=_
  unfold isI
  dsimp only
  rw [rd_of g]; rfl
theorem nil_l {cl:Nat->List D->Hh->Res D} {ρ:En} {h h1:Hh} {n:Nat} {e:E} {p p1:Pos} {neg:Bool} {xs:List D} (q:e.ev cl ρ h=.ok (.loc n) h1) (g:h1[n]?=some (.lst xs)):E.evT cl (.cmpN neg e p p1) ρ h=.ok (ngB neg xs.isEmpty) h1:=by
  refine bnd (x:=D.bl (ngB neg xs.isEmpty)) (h:=h1) (bnd q ?_) rfl
  show nilD neg (.loc n) h1=_
  unfold nilD
  dsimp only
  rw [rd_of g]
theorem cut_l {cl:Nat->List D->Hh->Res D} {ρ:En} {h h1:Hh} {n:Nat} {e e':E} {p p1:Pos} {xs:List D} (q:e.ev cl ρ h=.ok (.loc n) h1) (g:h1[n]?=some (.lst xs)) (q':e'.ev cl ρ h1=.ok (.int 4) h1):E.ev cl (.cut e .none (.some e') p p1) ρ h=.ok (.loc h1.length) (h1 ++ [.lst (xs.take 4)]):=by
  refine bnd q (bnd rfl (bnd (some_s q') ?_))
  show cutD (.loc n) none (some 4) h1=_
  unfold cutD
  dsimp only
  rw [rd_of g]
  show new (.lst (cutXs xs none (some 4))) h1=_
  unfold cutXs
  rw [sIx_none,sIx_some _ _ _ (by decide),List.drop_zero,Nat.sub_zero]
  have:List.take (min (4:Int).toNat xs.length) xs=xs.take 4:=by rw [List.take_eq_take_iff]; omega
  rw [this]; rfl
theorem law_D (cl:Nat->List D->Hh->Res D) (c3:DeedsOk cl) (ds nms:List Str) (its:List It) (us:List Str) (J:Hh) (f:Fx) (r0 r1 r2 r3 r4 r7 r8 r9:Option D) (q:Good ds its us) (hl:its.length<=40) (hu:us.length<=1000) (h4:its.take 4=fixI f) (ok:∀ x ∈ ds,PyData.strOk x=true) :
    ∃ h',Ss.run cl (dropS 11 d_law.body) [r0,r1,r2,r3,r4,some (.loc 2),some (.loc 3),r7,r8,r9,none] (HP ds nms its us J)=.rt (.bl true) h':=by
  have hS:∀ x ∈ srtU us,PyData.strOk x=true:=fun x hx=>ok x (q.sub x ((srtU_mem x us).mp hx))
  obtain ⟨H,eH⟩:∃ H,H=HP ds nms its us J:=⟨_,rfl⟩
  have g2:H[2]?=some (.lst (its.map It.d)):=by rw [eH]; rfl
  have g3:H[3]?=some (.lst (us.map .str)):=by rw [eH]; rfl
  have l4:4<=H.length:=by rw [eH]; unfold HP; simp
  rw [<- eH]
  clear eH
  obtain ⟨H1,e1⟩:∃ H1,H1=H ++ [O.lst ((srtU us).map .str)]:=⟨_,rfl⟩
  have l1:H1.length=H.length + 1:=by rw [e1]; simp
  have a2:H1[2]?=some (.lst (its.map It.d)):=by rw [e1]; exact get_old g2
  have a6:H1[H.length]?=some (.lst ((srtU us).map .str)):=by rw [e1]; exact g_0 _ _ _
  obtain ⟨J1,k1⟩:=c3 its H1 q.ok (q.tot hl)
  rw [srtU_eq q.mem] at k1
  obtain ⟨H2,e2⟩:∃ H2,H2=H1 ++ J1 ++ [O.lst ((srtU us).map .str)]:=⟨_,rfl⟩
  have b2:H2[2]?=some (.lst (its.map It.d)):=by rw [e2]; exact get_old (get_old a2)
  have b6:H2[H.length]?=some (.lst ((srtU us).map .str)):=by rw [e2]; exact get_old (get_old a6)
  have b10:H2[(H1 ++ J1).length]?=some (.lst ((srtU us).map .str)):=by rw [e2]; exact g_0 _ _ _
  have ln:H.length < (H1 ++ J1).length:=by rw [List.length_append,l1]; omega
  have ls:(srtU us).length<=1000:=by
    have:∀ l:List Str,(srtU l).length<=l.length:=fun l=>by
      have ins:∀ (x:Str) (l:List Str),(insU x l).length<=l.length + 1:=fun x l=>by
        induction l with
        | nil=>simp [insU]
        | cons y r ih=>unfold insU; split <;> (try split) <;> simp <;> omega
      induction l with
      | nil=>simp [srtU]
      | cons x r ih=>have:=ins x (srtU r); show (insU x (srtU r)).length<=_; simp; omega
    have:=this us
    omega
  obtain ⟨H3,e3⟩:∃ H3,H3=H2.set (H1 ++ J1).length (.lst ((srtU us).map .str ++ [.str "q"])):=⟨_,rfl⟩
  have d2:H3[2]?=some (.lst (its.map It.d)):=by rw [e3,List.getElem?_set_ne (by omega)]; exact b2
  have d6:H3[H.length]?=some (.lst ((srtU us).map .str)):=by rw [e3,List.getElem?_set_ne (by omega)]; exact b6
  obtain ⟨J2,k2⟩:=c3 (fixI f) (H3 ++ [O.lst ((its.map It.d).take 4)]) (fix_good ds f).ok (by rw [fix_none]; simp)
  rw [fix_none] at k2
  have et:(its.map It.d).take 4=(fixI f).map It.d:=by rw [<- List.map_take,h4]
  obtain ⟨H4,e4⟩:∃ H4,H4=H3 ++ [O.lst ((its.map It.d).take 4)] ++ J2 ++ [O.lst ((srtU []).map .str)]:=⟨_,rfl⟩
  have f2:H4[2]?=some (.lst (its.map It.d)):=by rw [e4]; exact get_old (get_old (get_old d2))
  have f6:H4[H.length]?=some (.lst ((srtU us).map .str)):=by rw [e4]; exact get_old (get_old (get_old d6))
  have f11:H4[(H3 ++ [O.lst ((its.map It.d).take 4)] ++ J2).length]?=some (.lst ((srtU []).map .str)):=by rw [e4]; exact g_0 _ _ _
  obtain ⟨H5,e5⟩:∃ H5,H5=H4.set 2 (.lst (its.map It.d).reverse):=⟨_,rfl⟩
  have i2:H5[2]?=some (.lst (its.reverse.map It.d)):=by
    rw [e5,List.getElem?_set_self (List.getElem?_eq_some_iff.mp f2).1,List.map_reverse]
  have i6:H5[H.length]?=some (.lst ((srtU us).map .str)):=by rw [e5,List.getElem?_set_ne (by omega)]; exact f6
  have qr:∀ x,x ∈ its.reverse.flatMap It.dds ↔ x ∈ us:=fun x=>by
    rw [<- q.mem,List.mem_flatMap,List.mem_flatMap]
    simp only [List.mem_reverse]
  have qt:(its.reverse.flatMap It.dds).length<=4000:=by
    have:=flat_len (f:=It.dds) (S:=100) (l:=its.reverse) fun g hg=>q.len g (List.mem_reverse.mp hg)
    rw [List.length_reverse] at this
    omega
  obtain ⟨J3,k3⟩:=c3 its.reverse H5 (fun it hi=>q.ok it (List.mem_reverse.mp hi)) qt
  rw [srtU_eq qr] at k3
  obtain ⟨H6,e6⟩:∃ H6,H6=H5 ++ J3 ++ [O.lst ((srtU us).map .str)]:=⟨_,rfl⟩
  have j6:H6[H.length]?=some (.lst ((srtU us).map .str)):=by rw [e6]; exact get_old (get_old i6)
  have j0:H6[(H5 ++ J3).length]?=some (.lst ((srtU us).map .str)):=by rw [e6]; exact g_0 _ _ _
  refine ⟨H6,set_s (ss_s rfl g3 (by omega)) ?_⟩
  rw [<- e1]
  rw [<- e2] at k1
  refine set_s (ca_e (tupE_loc rfl a2) rfl k1) (iff_f (t_or (isi_l rfl b10) (t_cmp rfl rfl (eq_lists b10 b6 hS).2)) (ex_s (app_s rfl ⟨_,b10⟩ rfl b10 (by simp; omega)) ?_))
  rw [<- e3]
  rw [<- e4,<- et] at k2
  refine iff_f (nil_l (ca_e (tupE_loc (cut_l rfl d2 rfl) (g_0 _ _ _)) rfl k2) f11) (ex_s (bnd rfl (show m0D .reverse (.loc 2) H4=.ok .non H5 from ?_)) (ret_r (bnd (ca_e (tupE_loc rfl i2) rfl (k3.trans (by rw [e6]))) (bnd rfl (eq_lists j0 j6 hS).1))))
  unfold m0D
  dsimp only
  rw [f2,e5]
theorem law_run (cl:Nat->List D->Hh->Res D) (ns:List Int) (c3:DeedsOk cl) (c4:CellOk cl ns) (c5:NameOk cl) (c8:ItemOk cl 8):∃ h',d_law.run cl [scr ns] []=.ok (.bl true) h':=by
  obtain ⟨M,hM,kA⟩:=law_A cl ns c4
  have kB:=law_B cl ns c4 c5 M hM (cellv ns 1) (cellv ns 2) rfl rfl
  generalize Fx.mk (nmv (cellv ns 2) 36) (nmv (cellv ns 2) 37) (nmv (cellv ns 2) 38) (nmv (cellv ns 2) 39)=f at kB
  obtain ⟨cl1,cl2⟩:=cut_len ns
  obtain ⟨L,eL⟩:∃ L,L=(cutXs (ns.map D.int) (some 3) (some 39)).length:=⟨_,rfl⟩
  rw [<- eL] at cl1 cl2
  have hds:∀ x ∈ nml (cellv ns 1) M.toNat,PyData.strOk x=true:=fun x hx=>by
    unfold nml at hx
    obtain ⟨k,hk,rfl⟩:=List.mem_map.mp hx
    have:=List.mem_range.mp hk
    exact (nmv_spec (c:=cellv ns 1) (k:=k) (by omega) (by omega)).1.ok
  have ld:=nml_len (cellv ns 1) M.toNat
  obtain ⟨its,us,J,x7,x8,x9,kC,qg,lg1,lg2,lg3⟩:=law_loop cl c8 ns (nml (cellv ns 1) M.toNat) (nml (cellv ns 2) 40) f (some (.int M)) (by omega) (by omega) (nml_len _ _) (List.range L) (fixI f) [] [O.lst (cutXs (ns.map D.int) (some 3) (some 39))] none none none (fun k hk=>by have:=List.mem_range.mp hk; exact ⟨by omega,cl2 k this⟩) (fix_good _ f) (by simp [fixI]; omega) (by simp; omega)
  obtain ⟨h',kD⟩:=law_D cl c3 _ (nml (cellv ns 2) 40) its us J f (some (scr ns)) (some (.int M)) (some (.loc 0)) (some (.loc 1)) (some f.t) x7 x8 x9 qg lg1 lg2 lg3 hds
  refine ⟨h',out_rt (at_nx 2 kA (at_nx 8 kB (forr_s (q:=([],(List.range L).map fun k:Nat=>D.int k)) (h':=HP (nml (cellv ns 1) M.toNat) (nml (cellv ns 2) 40) (fixI f) [] [O.lst (cutXs (ns.map D.int) (some 3) (some 39))]) ((rng_s (h':=HP (nml (cellv ns 1) M.toNat) (nml (cellv ns 2) 40) (fixI f) [] [O.lst (cutXs (ns.map D.int) (some 3) (some 39))]) (j:=L) (by rw [eL]; exact len_loc (n:=4) (bnd rfl (bnd rfl (bnd rfl rfl))) rfl) (by omega)).trans ?_) kC kD)))⟩
  rw [show ((L:Nat):Int).toNat=L from by omega]
theorem i_parts (k:Nat):PartsOk (callI defs (k + 1)) 0:=fun kd ps h=>(callI_succ (d:=d_parts_of) rfl rfl).trans (r_parts _ kd ps h)
theorem i_within (k:Nat):WithinOk (callI defs (k + 2)) 1:=fun g h hs=>(callI_succ (d:=d_all_within) rfl rfl).trans (r_within _ (i_parts k) g h hs)
theorem i_bodies (k:Nat):BodOk (callI defs (k + 1)) 2:=fun it h hs=>(callI_succ (d:=d_bodies_of) rfl rfl).trans (r_bodies _ it h hs)
theorem i_deeds (k:Nat):DeedsOk (callI defs (k + 3)):=fun its h ok hF=>by
  obtain ⟨J,e⟩:=r_deeds (callI defs (k + 2)) (i_within k) (i_bodies (k + 1)) its h ok hF
  exact ⟨J,(callI_succ (d:=d_deeds_of) rfl rfl).trans e⟩
theorem i_cell (k:Nat) (ns:List Int):CellOk (callI defs (k + 1)) ns:=fun i h hi=>(callI_succ (d:=d_law_cell) rfl rfl).trans (r_cell _ h ns i hi)
theorem i_name (k:Nat):NameOk (callI defs (k + 1)):=fun x c h h0 h1=>(callI_succ (d:=d_law_name) rfl rfl).trans ((nmv_spec h0 h1).2 _ h)
theorem i_put (k:Nat):PutOk (callI defs (k + 1)) 6:=fun f t i h h0 h1=>by
  obtain ⟨J,e⟩:=r_put (callI defs k) f t i h0 h1 h
  exact ⟨J,(callI_succ (d:=d_law_put) rfl rfl).trans e⟩
theorem i_hd (k:Nat):HdOk (callI defs (k + 1)) 7:=fun nm c b n ds t h g h0 h1=>by
  obtain ⟨J,e⟩:=r_handler (callI defs k) nm c b n ds t h g h0 h1
  exact ⟨J,(callI_succ (d:=d_law_handler) rfl rfl).trans e⟩
theorem i_item (k:Nat):ItemOk (callI defs (k + 2)) 8:=fun nm c n ds f h g h0 h1=>by
  obtain ⟨it,ss,J,m,e,r⟩:=r_item (callI defs (k + 1)) (i_put k) (i_hd k) nm c n ds f h g h0 h1
  exact ⟨it,ss,J,m,(callI_succ (d:=d_law_item) rfl rfl).trans e,r⟩
theorem law_true (ns:List Int):∃ h',callI defs 5 9 [.fl (ns.map .int)] []=.ok (.bl true) h':=by
  obtain ⟨h',e⟩:=law_run (callI defs 4) ns (i_deeds 1) (i_cell 3 ns) (i_name 3) (i_item 2)
  exact ⟨h',(callI_succ (d:=d_law) rfl rfl).trans e⟩
end K22
set_option Elab.async false
set_option linter.all false
set_option maxRecDepth 100000
set_option maxHeartbeats 4000000
namespace K22
open PySem L2 PI
noncomputable def top (i:Nat):Stmt:=PySem.Challenge.pw_deedwright_k22_deeds_of_a_program.main.body.getD i (.Pass ⟨0,0,0,0⟩)
theorem o_parts_of:DefOk (top 2) d_parts_of (defs.map (·.name)) consts "parts_of" "parts_of":=⟨rfl,⟨rfl,rfl,rfl,by decide +kernel,rfl,by decide +kernel,by decide +kernel⟩,by decide +kernel,by decide +kernel,fun _ _ _ _ _ _=>len1 fun _=>rfl⟩
theorem o_all_within:DefOk (top 3) d_all_within (defs.map (·.name)) consts "all_within" "all_within":=⟨rfl,⟨rfl,rfl,rfl,by decide +kernel,rfl,by decide +kernel,by decide +kernel⟩,by decide +kernel,by decide +kernel,fun _ _ _ _ _ _=>len1 fun _=>rfl⟩
theorem o_bodies_of:DefOk (top 4) d_bodies_of (defs.map (·.name)) consts "bodies_of" "bodies_of":=⟨rfl,⟨rfl,rfl,rfl,by decide +kernel,rfl,by decide +kernel,by decide +kernel⟩,by decide +kernel,by decide +kernel,fun _ _ _ _ _ _=>len1 fun _=>rfl⟩
theorem o_deeds_of:DefOk (top 6) d_deeds_of (defs.map (·.name)) consts "deeds_of" "deeds_of":=⟨rfl,⟨rfl,rfl,rfl,by decide +kernel,rfl,by decide +kernel,by decide +kernel⟩,by decide +kernel,by decide +kernel,fun _ _ _ _ _ _=>len1 fun _=>rfl⟩
theorem o_law_cell:DefOk (top 8) d_law_cell (defs.map (·.name)) consts "_law_cell" "_law_cell":=⟨rfl,⟨rfl,rfl,rfl,by decide +kernel,rfl,by decide +kernel,by decide +kernel⟩,by decide +kernel,by decide +kernel,fun _ _ _ _ _ _=>len2 fun _ _=>rfl⟩
theorem o_law_name:DefOk (top 9) d_law_name (defs.map (·.name)) consts "_law_name" "_law_name":=⟨rfl,⟨rfl,rfl,rfl,by decide +kernel,rfl,by decide +kernel,by decide +kernel⟩,by decide +kernel,by decide +kernel,fun _ _ _ _ _ _=>len2 fun _ _=>rfl⟩
theorem o_law_put:DefOk (top 10) d_law_put (defs.map (·.name)) consts "_law_put" "_law_put":=⟨rfl,⟨rfl,rfl,rfl,by decide +kernel,rfl,by decide +kernel,by decide +kernel⟩,by decide +kernel,by decide +kernel,fun _ _ _ _ _ _=>len3 fun _ _ _=>rfl⟩
theorem o_law_handler:DefOk (top 11) d_law_handler (defs.map (·.name)) consts "_law_handler" "_law_handler":=⟨rfl,⟨rfl,rfl,rfl,by decide +kernel,rfl,by decide +kernel,by decide +kernel⟩,by decide +kernel,by decide +kernel,fun _ _ _ _ _ _=>len5 fun _ _ _ _ _=>rfl⟩
theorem o_law_item:DefOk (top 12) d_law_item (defs.map (·.name)) consts "_law_item" "_law_item":=⟨rfl,⟨rfl,rfl,rfl,by decide +kernel,rfl,by decide +kernel,by decide +kernel⟩,by decide +kernel,by decide +kernel,fun _ _ _ _ _ _=>len4 fun _ _ _ _=>rfl⟩
theorem o_law:DefOk (top 13) d_law (defs.map (·.name)) consts "law" "law":=⟨rfl,⟨rfl,rfl,rfl,by decide +kernel,rfl,by decide +kernel,by decide +kernel⟩,by decide +kernel,by decide +kernel,fun _ _ _ _ _ _=>len1 fun _=>rfl⟩
noncomputable def FnK (K:PySem.W.Frag) (x:Str) (i:Nat) (f:Addr) (fd:FuncData):Prop:=PySem.W.nsIn K mainGlobals x=some (some (.ref f)) /\ Fun K x x (top i) f fd
theorem fnk {K:PySem.W.Frag} {x:Str} {i:Nat} {f:Addr} {oc:Value} {od an:Option Addr} {sl:Array (Option Value)} {kV dc pm cd ct:Value} (a:PySem.W.nsIn K mainGlobals x=some (some (.ref f))) (l:K.lookup f=some ⟨oc,od,.func (PySem.W.fnOf x x (defArgs (top i)) (defBody (top i)) (defScope (top i)) .none kV dc pm an cd ct),sl⟩) (c:PySem.W.codeIn K cd x=true) (k:PySem.W.keepIn K (.ref f)=true):FnK K x i f (PySem.W.fnOf x x (defArgs (top i)) (defBody (top i)) (defScope (top i)) .none kV dc pm an cd ct):=⟨a,fun_mk (st:=top i) l c k⟩
theorem FnK.row {K:PySem.W.Frag} {x:Str} {i:Nat} {f:Addr} {fd:FuncData} {h:Heap} {mg:Str->Option Value} {d:Df} (e:FnK K x i f fd) (X:K.In h) (G:h.Ns mainGlobals mg) (hx:d.name=x) (hb:(d.name == ("__debug__":Str))=false) (o:DefOk (top i) d (defs.map (·.name)) consts x x):(d.name == ("__debug__":Str))=false /\ ∃ st f fd,mg d.name=some (.ref f) /\ PySem.W.nsIn K mainGlobals d.name=some (some (.ref f)) /\ Fun K d.name d.name st f fd /\ DefOk st d (defs.map (·.name)) consts d.name d.name:=by
  subst hx
  exact ⟨hb,_,_,_,PySem.W.mg_of X G e.1,e.1,e.2,o⟩
noncomputable def NoN (K:PySem.W.Frag):List Str->Prop
  | []=>True
  | x :: r=>PySem.W.nsIn K mainGlobals x=some none /\ NoN K r
theorem NoN.mem {K:PySem.W.Frag} {x:Str}:∀ {l:List Str},NoN K l->x ∈ l->PySem.W.nsIn K mainGlobals x=some none
  | [],_,h=>nomatch h
  | _ :: _,q,h=>(List.mem_cons.mp h).elim (fun e=>e ▸ q.1) (NoN.mem q.2)
theorem all_mk {l:PySem.W.OpenLaw} {w:World} {K:PySem.W.Frag} {h:Heap} {mg:Str->Option Value} {fa f0 f1 f2 f3 f4 f5 f6 f7 f8 f9:Addr} {d0 d1 d2 d3 d4 d5 d6 d7 d8:FuncData} (X:K.In h) (G:h.Ns mainGlobals mg) (hfa:mg "law"=some (.ref fa))
    (e0:FnK K "parts_of" 2 f0 d0)
    (e1:FnK K "all_within" 3 f1 d1)
    (e2:FnK K "bodies_of" 4 f2 d2)
    (e3:FnK K "deeds_of" 6 f3 d3)
    (e4:FnK K "_law_cell" 8 f4 d4)
    (e5:FnK K "_law_name" 9 f5 d5)
    (e6:FnK K "_law_put" 10 f6 d6)
    (e7:FnK K "_law_handler" 11 f7 d7)
    (e8:FnK K "_law_item" 12 f8 d8)
    {od an:Option Addr} {sl:Array (Option Value)} {oc kV dc pm cd ct:Value} (a:PySem.W.nsIn K mainGlobals "law"=some (some (.ref f9))) (l9:K.lookup f9=some ⟨oc,od,.func (PySem.W.fnOf "law" "law" (defArgs (top 13)) (defBody (top 13)) (defScope (top 13)) .none kV dc pm an cd ct),sl⟩) (c9:PySem.W.codeIn K cd "law"=true) (k9:PySem.W.keepIn K (.ref f9)=true)
    (z:NoN K bnames)
    {gc0:Addr} {es0:Array DictEntry} {ep0:Nat} (ga0:PySem.W.nsIn K mainGlobals "FIRST_PART"=some (some (.ref gc0))) (gl0:K.lookup gc0=some { cls:=.type "dict",data:=.dict es0 ep0 }) (ge0:EntsOk w K es0.toList g_FIRST_PART)
   :∃ (cv:Nat->Value) (fd:FuncData),(∀ (s:Shared) (v:Value),BindsTo s fd ⟨[v],[]⟩ [("_law_script",v)]) /\ ∀ base:Heap,K.In base->base.Ns mainGlobals mg->FnOk l.prog w K mg base (CXs l.prog w) 10 fa fd ["_law_script"] (spLaw K cv (callI defs 5 9)):=by
  have e:=hfa.symm.trans (PySem.W.mg_of X G a)
  cases e
  have T:Tab l.prog w K mg defs consts:=by
    refine ⟨fun x hx=>?_,fun x c hx=>?_,fun i d hd hnc=>?_,fun x i hx=>?_⟩
    · exact PySem.W.mg_none_of X G (z.mem hx)
    · simp only [consts,List.mem_cons,List.not_mem_nil,or_false] at hx
      rcases hx with ⟨rfl,rfl⟩
      · exact ⟨by decide,_,PySem.W.mg_of X G ga0,cn_dic gl0 ge0 (by decide)⟩
    · match i,hd,hnc with
      | 0,hd,_=>cases hd; exact e0.row X G rfl (by decide) o_parts_of
      | 1,hd,_=>cases hd; exact e1.row X G rfl (by decide) o_all_within
      | 2,hd,_=>cases hd; exact e2.row X G rfl (by decide) o_bodies_of
      | 3,hd,_=>cases hd; exact e3.row X G rfl (by decide) o_deeds_of
      | 4,hd,_=>cases hd; exact e4.row X G rfl (by decide) o_law_cell
      | 5,hd,_=>cases hd; exact e5.row X G rfl (by decide) o_law_name
      | 6,hd,_=>cases hd; exact e6.row X G rfl (by decide) o_law_put
      | 7,hd,_=>cases hd; exact e7.row X G rfl (by decide) o_law_handler
      | 8,hd,_=>cases hd; exact e8.row X G rfl (by decide) o_law_item
      | 9,hd,_=>cases hd; exact ⟨by decide,_,_,_,PySem.W.mg_of X G a,a,fun_mk (st:=top 13) l9 c9 k9,o_law⟩
      | n + 10,hd,_=>exact absurd hd (by simp [defs])
    · simp only [consts,List.mem_cons,List.not_mem_nil,or_false] at hx
      have hq:=hx
      · cases hq
  refine ⟨fun _=>.none,PySem.W.fnOf "law" "law" (defArgs (top 13)) (defBody (top 13)) (defScope (top 13)) .none kV dc pm an cd ct,fun s v=>.of_eq rfl,fun base _ _=>?_⟩
  exact all_fn T (no_exc (by decide)) 5 9 d_law _ _ (top 13) _ _ rfl (fun_mk (st:=top 13) l9 c9 k9) o_law
end K22
open PySem PySem.W
set_option maxRecDepth 100000 in
set_option maxHeartbeats 0 in
theorem PySem.Challenge.cw_deedwright_k22_deeds_of_a_program_holds : PySem.Challenge.rw_deedwright_k22_deeds_of_a_program.Holds := by
  w_on; o_law; k_head; (case hw=>w_witness2)
  k_fill
  refine PI.walk_ofB (l:=PySem.Challenge.rw_deedwright_k22_deeds_of_a_program) (k:=10) (c:=PI.callI K22.defs 5 9) (x:="_law_script") rfl rfl ⟨rfl,by decide,by decide⟩ (fun w h Y=>PySem.W.kIn_of Y) ?F ?S
  case F =>
    intro w mg fa h KX G hmg
    refine' K22.all_mk (l:=PySem.Challenge.rw_deedwright_k22_deeds_of_a_program) (w:=w) KX G hmg (K22.fnk ?a0 ?l0 ?c0 ?k0) (K22.fnk ?a1 ?l1 ?c1 ?k1) (K22.fnk ?a2 ?l2 ?c2 ?k2) (K22.fnk ?a3 ?l3 ?c3 ?k3) (K22.fnk ?a4 ?l4 ?c4 ?k4) (K22.fnk ?a5 ?l5 ?c5 ?k5) (K22.fnk ?a6 ?l6 ?c6 ?k6) (K22.fnk ?a7 ?l7 ?c7 ?k7) (K22.fnk ?a8 ?l8 ?c8 ?k8) ?a9 ?l9 ?c9 ?k9 ⟨?_,?_,?_,?_,?_,?_,?_,?_,?_,?_,?_,?_,?_,?_,?_,?_,?_,?_,?_,?_,?_,⟨⟩⟩ ?ga0 ?gl0 ?ge0
    all_goals try k_is
    (case ge0=>(refine ⟨⟨rfl,⟨_,rfl⟩,?hx⟩,?hr⟩; (case hx=>exact ⟨_,rfl⟩); (case hr=>(refine ⟨⟨rfl,⟨_,rfl⟩,?hx⟩,?hr⟩; (case hx=>exact ⟨_,rfl⟩); (case hr=>(refine ⟨⟨rfl,⟨_,rfl⟩,?hx⟩,?hr⟩; (case hx=>exact ⟨_,rfl⟩); (case hr=>(refine ⟨⟨rfl,⟨_,rfl⟩,?hx⟩,?hr⟩; (case hx=>exact ⟨_,rfl⟩); (case hr=>(refine ⟨⟨rfl,⟨_,rfl⟩,?hx⟩,?hr⟩; (case hx=>exact ⟨_,rfl⟩); (case hr=>(refine ⟨⟨rfl,⟨_,rfl⟩,?hx⟩,?hr⟩; (case hx=>exact ⟨_,rfl⟩); (case hr=>(refine ⟨⟨rfl,⟨_,rfl⟩,?hx⟩,?hr⟩; (case hx=>exact ⟨_,rfl⟩); (case hr=>(refine ⟨⟨rfl,⟨_,rfl⟩,?hx⟩,?hr⟩; (case hx=>exact ⟨_,rfl⟩); (case hr=>(refine ⟨⟨rfl,⟨_,rfl⟩,?hx⟩,?hr⟩; (case hx=>exact ⟨_,rfl⟩); (case hr=>exact trivial)))))))))))))))))))
  case S =>
    exact fun ns _ hb=>K22.law_true ns
#print axioms PySem.Challenge.cw_deedwright_k22_deeds_of_a_program_holds
