import PyProof.Rows.All
import Wide.All
import OpenK.AllK
import Wide.FinOn
import Lean
import PyProof.EqAt
import PyProof.EqKinds
import PyProof.TupleCall
import KE.KIntText
import PyProof.NeKinds
import PyProof.FString4
import PyProof.StrLawsRepr
import PyProof.ZipIter
import PyProof.TupleIter
import KE.KRevIter
import KE.KDictOf
import PyProof.AttrMissHeap
import PyProof.StrLawsTight
import PyProof.StrCalls6
import PySem.Challenge.RW_deedwright_k11_a_word
set_option Elab.async false
set_option linter.all false
set_option maxRecDepth 100000
namespace L2
open PySem PySem.Spec PyProof.Rows
noncomputable abbrev Key:=Sum Int Str
noncomputable def keyIs:Key->Value->Bool
  | .inl k,v=>Value.isInt k v
  | .inr x,v=>Value.isStrOf x v
noncomputable def keyH (w:World):Key->Int
  | .inl k=>hashInt k
  | .inr x=>hashStr w x
theorem keyIs_shape:∀ {k:Key} {v:Value},keyIs k v=true->(∃ i t,k=Sum.inl i /\ v=Value.int i t) \/ (∃ x t,k=Sum.inr x /\ v=Value.str x t)
  | .inl i,v,h=>by
    obtain ⟨t,e⟩:=Value.isInt_shape (k:=i) (v:=v) h
    exact .inl ⟨i,t,rfl,e⟩
  | .inr x,v,h=>by
    obtain ⟨t,e⟩:=Value.isStrOf_shape (x:=x) (v:=v) h
    exact .inr ⟨x,t,rfl,e⟩
theorem keyIs_int (i:Int) (t:Tok):keyIs (.inl i) (.int i t)=true:=by simp [keyIs,Value.isInt]
theorem keyIs_str (x:Str) (t:Tok):keyIs (.inr x) (.str x t)=true:=by simp [keyIs,Value.isStrOf]
theorem key_ll (a b:Int):decide ((Sum.inl a:Key)=Sum.inl b)=(a == b):=by
  by_cases e:a=b
  · subst e; simp
  · have h:¬ (Sum.inl a:Key)=Sum.inl b:=fun q=>e (Sum.inl.inj q)
    rw [decide_eq_false h]
    exact (beq_eq_false_iff_ne.mpr e).symm
theorem key_rr (a b:Str):decide ((Sum.inr a:Key)=Sum.inr b)=decide (a=b):=by
  by_cases e:a=b
  · subst e; simp
  · have h:¬ (Sum.inr a:Key)=Sum.inr b:=fun q=>e (Sum.inr.inj q)
    rw [decide_eq_false h,decide_eq_false e]
theorem key_lr (a:Int) (b:Str):decide ((Sum.inl a:Key)=Sum.inr b)=false:=decide_eq_false (fun q=>nomatch q)
theorem key_rl (a:Str) (b:Int):decide ((Sum.inr a:Key)=Sum.inl b)=false:=decide_eq_false (fun q=>nomatch q)
noncomputable def mixKind (prog:Program) (w:World):PySem.KeyKind prog w Key where
  is:=keyIs
  hash:=keyH w
  inj:=fun v a b ha hb=>by
    rcases keyIs_shape ha with ⟨i,t,rfl,rfl⟩ | ⟨x,t,rfl,rfl⟩
    · rcases keyIs_shape hb with ⟨j,u,rfl,e⟩ | ⟨y,u,rfl,e⟩
      · injection e with e1 _; rw [e1]
      · exact nomatch e
    · rcases keyIs_shape hb with ⟨j,u,rfl,e⟩ | ⟨y,u,rfl,e⟩
      · exact nomatch e
      · injection e with e1 _; rw [e1]
  byValue:=fun k v h=>by
    rcases keyIs_shape h with ⟨i,t,rfl,rfl⟩ | ⟨x,t,rfl,rfl⟩ <;> rfl
  pyHash:=fun hv h=>by
    rcases keyIs_shape hv with ⟨i,t,rfl,rfl⟩ | ⟨x,t,rfl,rfl⟩
    · exact wpAny_pyHash_int h
    · exact wpAny_pyHash_str h
  eqBool:=fun hu hv h=>by
    rcases keyIs_shape hu with ⟨i,t,rfl,rfl⟩ | ⟨x,t,rfl,rfl⟩
    · rcases keyIs_shape hv with ⟨j,u,rfl,rfl⟩ | ⟨y,u,rfl,rfl⟩
      · rw [key_ll] at h; exact wpAny_eqBool_int h
      · rw [key_lr] at h; exact SeqAt.EqAt.int_str i t y u _ _ _ _ h
    · rcases keyIs_shape hv with ⟨j,u,rfl,rfl⟩ | ⟨y,u,rfl,rfl⟩
      · rw [key_rl] at h; exact SeqAt.EqAt.str_int x t j u _ _ _ _ h
      · rw [key_rr] at h; exact wpAny_eqBool_str h
  «strs»:=fun k x t v h=>by
    rcases keyIs_shape h with ⟨i,u,rfl,e⟩ | ⟨y,u,rfl,e⟩
    · exact nomatch e
    · injection e with e1 _
      subst e1
      cases v <;> rfl
theorem mixKind_int (prog:Program) (w:World) (i:Int) (t:Tok):(mixKind prog w).is (.inl i) (.int i t)=true:=keyIs_int i t
theorem mixKind_str (prog:Program) (w:World) (x:Str) (t:Tok):(mixKind prog w).is (.inr x) (.str x t)=true:=keyIs_str x t
end L2
namespace L2
open PySem PySem.Spec PyProof.Rows
inductive V where
  | non | bl (b:Bool) | int (i:Int) | str (x:Str) | byt (b:Array UInt8) | flt (b:UInt64) | ref (a:Addr) | ty (n:String)
  deriving DecidableEq
noncomputable def RelV:V->Value->Prop
  | .non,u=>u=Value.none
  | .bl b,u=>u=Value.bool b
  | .int i,u=>∃ t,u=Value.int i t
  | .str x,u=>∃ t,u=Value.str x t
  | .byt b,u=>∃ t,u=Value.bytes b t
  | .flt b,u=>∃ t,u=Value.float b t
  | .ref a,u=>u=Value.ref a
  | .ty n,u=>u=Value.type n
noncomputable abbrev Vals:List V->List Value->Prop:=Paired RelV
theorem Vals.length {xs:List V} {us:List Value} (r:Vals xs us):xs.length=us.length:=Paired.length r
theorem Vals.get:∀ {xs:List V} {us:List Value} {i:Nat} {x:V},Vals xs us->xs[i]?=some x->∃ u,us[i]?=some u /\ RelV x u
  | _,_,_,_,.nil,e=>by simp at e
  | _,_,0,_,.cons r _,e=>by simp at e; subst e; exact ⟨_,rfl,r⟩
  | _,_,i + 1,x,.cons _ t,e=>by
    obtain ⟨u,h1,h2⟩:=Vals.get (i:=i) (x:=x) t (by simpa using e)
    exact ⟨u,by simpa using h1,h2⟩
theorem Vals.set {x:V} {u:Value} (r:RelV x u):∀ {xs:List V} {us:List Value} (i:Nat),Vals xs us->Vals (xs.set i x) (us.set i u)
  | _,_,_,.nil=>.nil
  | _,_,0,.cons _ t=>.cons r t
  | _,_,i + 1,.cons q t=>.cons q (Vals.set r i t)
theorem Vals.append:∀ {xs ys:List V} {us ws:List Value},Vals xs us->Vals ys ws->Vals (xs ++ ys) (us ++ ws)
  | _,_,_,_,.nil,s=>s
  | _,_,_,_,.cons r t,s=>.cons r (Vals.append t s)
theorem Vals.take:∀ {xs:List V} {us:List Value} (n:Nat),Vals xs us->Vals (xs.take n) (us.take n)
  | _,_,0,_=>.nil
  | _,_,_ + 1,.nil=>.nil
  | _,_,n + 1,.cons r t=>.cons r (Vals.take n t)
theorem Vals.drop:∀ {xs:List V} {us:List Value} (n:Nat),Vals xs us->Vals (xs.drop n) (us.drop n)
  | _,_,0,r=>r
  | _,_,_ + 1,.nil=>.nil
  | _,_,n + 1,.cons _ t=>Vals.drop n t
noncomputable def RelO:Option V->Option Value->Prop
  | some v,some u=>RelV v u
  | none,none=>True
  | _,_=>False
noncomputable def KV {κ:Type}:List (κ × V)->List (κ × Value)->Prop:=Paired fun (p:κ × V) (q:κ × Value)=>p.1=q.1 /\ RelV p.2 q.2
noncomputable def kV:Key->V
  | .inl i=>.int i
  | .inr x=>.str x
inductive HO where
  | lst (xs:List V)
  | tup (xs:List V)
  | dK (kvs:List (Key × V)) | dT (kvs:List (List Key × V))
  | set (S:Int->Bool) (n:Nat)
  | ins (C dx:Addr) (fs:List (Str × V))
  | own (x:Addr)
  | xd (fs:List (Str × V))
  | met (f x:Addr)
  | rng (lo hi:Int)
  | frz (o:Obj) (u:HO)
  | tbl (ps:Array Value)
  | ext (φ:Heap->Prop)
noncomputable abbrev Hp:=Addr->Option HO
noncomputable def upd (H:Hp) (a:Addr) (o:HO):Hp:=fun b=>if b=a then some o else H b
theorem upd_same {H:Hp} {a:Addr} {o:HO}:upd H a o a=some o:=by unfold upd; rw [if_pos rfl]
theorem upd_ne {H:Hp} {a b:Addr} {o:HO} (h:b ≠ a):upd H a o b=H b:=by unfold upd; rw [if_neg h]
theorem ne_of_none {H:Hp} {a b:Addr} {o:HO} (h:H a=some o) (h':H b=none):a ≠ b:=by
  intro e; subst e; rw [h] at h'; cases h'
section
variable (P:Program) (w:World)
noncomputable def ObjOk (H:Hp) (h:Heap) (a:Addr):HO->Prop
  | .lst xs=>xs.length<=sizeLine /\ ∃ (its:List Value) (n:Nat),Vals xs its /\ h.get? a=some { cls:=.type "list",data:=.seq its.toArray n }
  | .tup xs=>xs.length<=sizeLine /\ ∃ its:List Value,Vals xs its /\ IsTup h a its.toArray
  | .dK kvs=>kvs.length<=sizeLine /\ (a == sysModules)=false /\ ∃ vs,KV kvs vs /\ h.DictOf (mixKind P w) a vs
  | .dT kvs=>kvs.length<=sizeLine /\ (a == sysModules)=false /\ ∃ xs:List (List Key × Addr × Value),
      Paired (fun (p:List Key × V) (q:List Key × Addr × Value)=>p.1=q.1 /\ H q.2.1=some (.tup (p.1.map kV)) /\ RelV p.2 q.2.2) kvs xs /\
      ∃ o es ep,h.get? a=some o /\ o.ExactDict /\ o.data=.dict es ep /\ es.toList=xs.map (entryOfKey (tupleKind (mixKind P w))) /\ (xs.map (·.1)).Nodup
  | .set S n=>h.SetOf (intKind P w) a S n
  | .ins C dx fs=>H dx=some (.own a) /\ fs.length<=1000 /\ dx ≠ a /\ h.get? a=some (PySem.W.instObj C dx) /\
      ∃ mA,h.Ns1 dx mA /\ (∀ f,RelO (fs.lookup f) (mA f)) /\ PySem.Within mA (fs.map (·.1))
  | .own _=>∃ o,h.get? a=some o
  | .xd fs=>∃ mA,h.Ns1 a mA /\ ∀ f,RelO (fs.lookup f) (mA f)
  | .rng lo hi=>∃ t u v,h.get? a=some { cls:=.type "range",data:=.fields #[.int lo t,.int hi u,.int 1 v] }
  | .frz o u=>h.get? a=some o /\ ObjOk H h a u
  | .tbl ps=>h.get? a=some { cls:=.none,data:=.fields ps }
  | .met f x=>h.get? a=some (PySem.W.methodObj (.ref f) (.ref x))
  | .ext φ=>φ h /\ (∃ o,h.get? a=some o) /\ ∀ h1 h2:Heap,φ h1->(∀ o,h1.get? a=some o->h2.get? a=some o)->φ h2
noncomputable def HOk (H:Hp) (h:Heap):Prop:=∀ a o,H a=some o->ObjOk P w H h a o
end
section
variable {P:Program} {w:World} {H H':Hp} {h h':Heap} {a:Addr} {o:HO}
theorem ObjOk.lt (x:ObjOk P w H h a o):a < h.objs.size:=by
  cases o with
  | lst xs=>obtain ⟨_,_,_,_,e⟩:=x; exact Heap.lt_size e
  | tup xs=>obtain ⟨_,_,_,p⟩:=x; exact p.lt
  | dK kvs=>obtain ⟨_,_,_,_,o,_,_,e,_⟩:=x; exact Heap.lt_size e
  | dT kvs=>obtain ⟨_,_,_,_,o,_,_,e,_⟩:=x; exact Heap.lt_size e
  | set S n=>obtain ⟨o,_,_,_,e,_⟩:=x; exact Heap.lt_size e
  | ins C dx fs=>obtain ⟨_,_,_,e,_⟩:=x; exact Heap.lt_size e
  | own y=>obtain ⟨_,e⟩:=x; exact Heap.lt_size e
  | xd fs=>obtain ⟨_,⟨_,_,_,e,_⟩,_⟩:=x; exact Heap.lt_size e
  | rng lo hi=>obtain ⟨_,_,_,e⟩:=x; exact Heap.lt_size e
  | frz ob u=>obtain ⟨e,_⟩:=x; exact Heap.lt_size e
  | tbl ps=>exact Heap.lt_size (show h.get? a=some _ from x)
  | met f y=>exact Heap.lt_size (show h.get? a=some _ from x)
  | ext φ=>obtain ⟨_,⟨_,e⟩,_⟩:=x; exact Heap.lt_size e
theorem Paired.mapP {α β:Type} {F G:α->β->Prop}:∀ {l₁:List α} {l₂:List β},Paired F l₁ l₂->(∀ a b,F a b->G a b)->Paired G l₁ l₂
  | _,_,.nil,_=>.nil
  | _,_,.cons r t,f=>.cons (f _ _ r) (Paired.mapP t f)
theorem ObjOk.stay (x:ObjOk P w H h a o) (k:∀ b u,(b=a \/ H b=some (.own a))->h.get? b=some u->h'.get? b=some u)
    (ho:∀ b,H b=some (.own a)->H' b=some (.own a)) (ht:∀ b xs,H b=some (.tup xs)->H' b=some (.tup xs)):ObjOk P w H' h' a o:=by
  induction o with
  | lst xs=>obtain ⟨z,its,n,r,e⟩:=x; exact ⟨z,its,n,r,k _ _ (.inl rfl) e⟩
  | tup xs=>obtain ⟨z,its,r,ob,e,c⟩:=x; exact ⟨z,its,r,ob,k _ _ (.inl rfl) e,c⟩
  | dK kvs=>obtain ⟨z,y,vs,r,ob,es,ep,e,c⟩:=x; exact ⟨z,y,vs,r,ob,es,ep,k _ _ (.inl rfl) e,c⟩
  | dT kvs =>
    obtain ⟨z,y,xs,r,ob,es,ep,e,c⟩:=x
    exact ⟨z,y,xs,Paired.mapP r fun p q z=>⟨z.1,ht _ _ z.2.1,z.2.2⟩,ob,es,ep,k _ _ (.inl rfl) e,c⟩
  | set S n=>obtain ⟨ob,es,ep,t,e,c⟩:=x; exact ⟨ob,es,ep,t,k _ _ (.inl rfl) e,c⟩
  | ins C dx fs =>
    obtain ⟨d,z,ne,e,mA,⟨od,es,ep,e2,c⟩,r⟩:=x
    exact ⟨ho _ d,z,ne,k _ _ (.inl rfl) e,mA,⟨od,es,ep,k _ _ (.inr d) e2,c⟩,r⟩
  | own y=>obtain ⟨ob,e⟩:=x; exact ⟨ob,k _ _ (.inl rfl) e⟩
  | xd fs=>obtain ⟨mA,⟨od,es,ep,e,c⟩,r⟩:=x; exact ⟨mA,⟨od,es,ep,k _ _ (.inl rfl) e,c⟩,r⟩
  | rng lo hi=>obtain ⟨t,u,v,e⟩:=x; exact ⟨t,u,v,k _ _ (.inl rfl) e⟩
  | frz ob u ih=>obtain ⟨e,q⟩:=x; exact ⟨k _ _ (.inl rfl) e,ih q⟩
  | tbl ps =>
    have e:h.get? a=some { cls:=.none,data:=.fields ps }:=x
    show h'.get? a=some { cls:=.none,data:=.fields ps }
    exact k a _ (.inl rfl) e
  | met f y =>
    have e:h.get? a=some (PySem.W.methodObj (.ref f) (.ref y)):=x
    show h'.get? a=some (PySem.W.methodObj (.ref f) (.ref y))
    exact k a _ (.inl rfl) e
  | ext φ=>obtain ⟨p,⟨o,e⟩,st⟩:=x; exact ⟨st _ _ p fun o q=>k _ _ (.inl rfl) q,⟨o,k _ _ (.inl rfl) e⟩,st⟩
theorem HOk.lt (x:HOk P w H h) (e:H a=some o):a < h.objs.size:=(x a o e).lt
theorem HOk.fresh (x:HOk P w H h) (e:h.objs.size<=a):H a=none:=by
  cases q:H a with
  | none=>rfl
  | some u=>exact absurd (Nat.lt_of_lt_of_le (x.lt q) e) (Nat.lt_irrefl _)
theorem HOk.kept (x:HOk P w H h) (k:∀ b u,h.get? b=some u->h'.get? b=some u):HOk P w H h':=fun a o e =>
  (x a o e).stay (fun b u _ q=>k b u q) (fun _ q=>q) fun _ _ q=>q
theorem HOk.laid (x:HOk P w H h) (k:∀ b u,h.get? b=some u->h'.get? b=some u) (hp:h.objs.size<=a) (new:ObjOk P w (upd H a o) h' a o):HOk P w (upd H a o) h':=fun b u e=>by
  have hn:=x.fresh hp
  by_cases hb:b=a
  · subst hb; rw [upd_same] at e; cases e; exact new
  · rw [upd_ne hb] at e
    exact (x b u e).stay (fun c v _ q=>k c v q) (fun c q=>by rw [upd_ne (ne_of_none q hn)]; exact q) fun c xs q=>by rw [upd_ne (ne_of_none q hn)]; exact q
end
noncomputable def Rd (H:Hp) (a:Addr) (u:HO):Prop:=H a=some u \/ ∃ o,H a=some (.frz o u)
theorem Rd.of {H:Hp} {a:Addr} {u:HO} (h:H a=some u):Rd H a u:=.inl h
theorem Rd.ok {P:Program} {w:World} {H:Hp} {h:Heap} {a:Addr} {u:HO} (r:Rd H a u) (x:HOk P w H h):ObjOk P w H h a u:=by
  rcases r with r | ⟨o,r⟩
  · exact x a u r
  · obtain ⟨_,q⟩:=x a _ r
    exact q
noncomputable def Mut:Option HO->Prop
  | some (.lst _)=>True
  | some (.dK _)=>True
  | some (.dT _)=>True
  | some (.set _ _)=>True
  | some (.ins _ _ _)=>True
  | some (.ext _)=>True
  | _=>False
section
variable {P:Program} {w:World} {H:Hp} {h h':Heap} {x e:Addr} {o':HO}
theorem HOk.write (ok:HOk P w H h) (mu:Mut (H x)) (he:e=x \/ H e=some (.own x)) (k:∀ b u,b ≠ e->h.get? b=some u->h'.get? b=some u) (heo:∃ u,h'.get? e=some u)
    (new:ObjOk P w (upd H x o') h' x o'):HOk P w (upd H x o') h':=fun b u q=>by
  have nown:∀ c y,H c=some (.own y)->c ≠ x:=fun c y r z=>by subst z; rw [r] at mu; exact mu
  have ntup:∀ c xs,H c=some (.tup xs)->c ≠ x:=fun c xs r z=>by subst z; rw [r] at mu; exact mu
  by_cases hb:b=x
  · subst hb; rw [upd_same] at q; cases q; exact new
  · rw [upd_ne hb] at q
    by_cases hbe:b=e
    · have q':H b=some (.own x):=by
        rcases he with z | z
        · exact absurd (hbe.trans z) hb
        · rw [hbe]; exact z
      rw [q] at q'; cases q'
      obtain ⟨v,hv⟩:=heo
      exact ⟨v,by rw [hbe]; exact hv⟩
    · refine (ok b u q).stay (fun c v hc r=>k c v ?_ r) (fun c r=>by rw [upd_ne (nown c b r)]; exact r) fun c xs r=>by rw [upd_ne (ntup c xs r)]; exact r
      rcases hc with rfl | hc
      · exact hbe
      · rintro rfl
        rcases he with z | z
        · exact nown c b hc z
        · rw [hc] at z; cases z; exact hb rfl
end
structure Un (fs ex:List Addr) (H H':Hp) (h h':Heap):Prop where
  keep:∀ b o,h.get? b=some o->H b=none->b ∉ fs->b ∉ ex->h'.get? b=some o
  slot:∀ b o,h.get? b=some o->H b=none->b ∈ fs->b ∉ ex->∃ sl,h'.get? b=some { o with slots:=sl }
  free:∀ b o,h.get? b=some o->H b=none->b ∉ ex->H' b=none
  there:∀ b o,h.get? b=some o->b ∉ ex->∃ o',h'.get? b=some o'
  tups:∀ b xs,H b=some (.tup xs)->H' b=some (.tup xs)
  frzs:∀ b o u,H b=some (.frz o u)->H' b=some (.frz o u)
  tbls:∀ b ps,H b=some (.tbl ps)->∃ more,H' b=some (.tbl (ps ++ more))
section
variable {fs fs' ex ex':List Addr} {H H1 H2:Hp} {h h1 h2 h':Heap} {a x e:Addr} {o:HO}
theorem Un.any (u:Un fs ex H H1 h h1) {b:Addr} {ob:Obj} (q:h.get? b=some ob) (n:H b=none) (hx:b ∉ ex):∃ sl,h1.get? b=some { ob with slots:=sl }:=by
  by_cases hb:b ∈ fs
  · exact u.slot b ob q n hb hx
  · exact ⟨ob.slots,u.keep b ob q n hb hx⟩
theorem Un.trans (a:Un fs ex H H1 h h1) (b:Un fs ex H1 H2 h1 h2):Un fs ex H H2 h h2 where
  keep:=fun c ob q n hc hx=>b.keep c ob (a.keep c ob q n hc hx) (a.free c ob q n hx) hc hx
  slot:=fun c ob q n hc hx=>by
    obtain ⟨sl,e1⟩:=a.slot c ob q n hc hx
    obtain ⟨sl',e2⟩:=b.slot c _ e1 (a.free c ob q n hx) hc hx
    exact ⟨sl',e2⟩
  free:=fun c ob q n hx=>by
    obtain ⟨o',e1⟩:=a.there c ob q hx
    exact b.free c o' e1 (a.free c ob q n hx) hx
  there:=fun c ob q hx=>by
    obtain ⟨o',e1⟩:=a.there c ob q hx
    exact b.there c o' e1 hx
  tups:=fun c xs q=>b.tups c xs (a.tups c xs q)
  frzs:=fun c ob xs q=>b.frzs c ob xs (a.frzs c ob xs q)
  tbls:=fun c ps q=>by
    obtain ⟨m1,e1⟩:=a.tbls c ps q
    obtain ⟨m2,e2⟩:=b.tbls c _ e1
    exact ⟨m1 ++ m2,by rw [e2,Array.append_assoc]⟩
theorem Un.kept (k:∀ b u,h.get? b=some u->h'.get? b=some u):Un fs ex H H h h' :=
  ⟨fun b ob q _ _ _=>k b ob q,fun b ob q _ _ _=>⟨ob.slots,k b ob q⟩,fun _ _ _ n _=>n,fun b ob q _=>⟨ob,k b ob q⟩,fun _ _ q=>q,fun _ _ _ q=>q,fun _ ps q=>⟨#[],by rw [q]; simp⟩⟩
theorem Un.refl:Un fs ex H H h h:=Un.kept fun _ _ q=>q
theorem Un.laid (k:∀ b u,h.get? b=some u->h'.get? b=some u) (hp:h.objs.size<=a) (hn:H a=none):Un fs ex H (upd H a o) h h' where
  keep:=fun b u q _ _ _=>k b u q
  slot:=fun b u q _ _ _=>⟨u.slots,k b u q⟩
  free:=fun b u q n _=>by rw [upd_ne (Nat.ne_of_lt (Nat.lt_of_lt_of_le (Heap.lt_size q) hp))]; exact n
  there:=fun b u q _=>⟨u,k b u q⟩
  tups:=fun b xs q=>by rw [upd_ne (ne_of_none q hn)]; exact q
  frzs:=fun b u xs q=>by rw [upd_ne (ne_of_none q hn)]; exact q
  tbls:=fun b ps q=>⟨#[],by rw [upd_ne (ne_of_none q hn),q]; simp⟩
theorem Un.write (mu:Mut (H x)) (he:e=x \/ H e=some (.own x)) (k:∀ b u,b ≠ e->h.get? b=some u->h'.get? b=some u) (heo:∃ u,h'.get? e=some u):Un fs ex H (upd H x o) h h':=by
  have hx:∀ b,H b=none->b ≠ x:=fun b n z=>by subst z; rw [n] at mu; exact mu
  have hb:∀ b,H b=none->b ≠ e:=fun b n z=>by
    subst z
    rcases he with r | r
    · exact hx b n r
    · rw [n] at r; cases r
  have hm:∀ b u,H b=some u->¬ Mut (some u)->b ≠ x:=fun b u q nm z=>by subst z; rw [q] at mu; exact nm mu
  refine ⟨fun b u q n _ _=>k b u (hb b n) q,fun b u q n _ _=>⟨u.slots,k b u (hb b n) q⟩,fun b u q n _=>by rw [upd_ne (hx b n)]; exact n,fun b u q _=>?_,
    fun b xs q=>by rw [upd_ne (hm b _ q fun z=>z)]; exact q,fun b u xs q=>by rw [upd_ne (hm b _ q fun z=>z)]; exact q,fun b ps q=>⟨#[],by rw [upd_ne (hm b _ q fun z=>z),q]; simp⟩⟩
  by_cases hbe:b=e
  · subst hbe; exact heo
  · exact ⟨u,k b u hbe q⟩
theorem Un.mono (u:Un fs ex H H1 h h1) (hs:∀ b ∈ fs,b ∈ fs') (hx:∀ b ∈ ex,b ∈ ex'):Un fs' ex' H H1 h h1 :=
  ⟨fun b ob q n hb he=>u.keep b ob q n (fun z=>hb (hs b z)) fun z=>he (hx b z),fun _ _ q n _ he=>u.any q n fun z=>he (hx _ z),fun b ob q n he=>u.free b ob q n fun z=>he (hx b z),fun b ob q he=>u.there b ob q fun z=>he (hx b z),u.tups,u.frzs,u.tbls⟩
end
noncomputable def trk (h:Heap) (H:Hp):List Addr:=(List.range h.objs.size).filter fun a=>(H a).isSome
noncomputable def hidT (h:Heap) (H:Hp):Heap:=PySem.W.hideAll h (trk h H)
theorem hidT_size (h:Heap) (H:Hp):(hidT h H).objs.size=h.objs.size:=PySem.W.hideAll_size _ _
theorem hidT_get {h:Heap} {H:Hp} {b:Addr} {o:Obj} (e:h.get? b=some o) (n:H b=none):(hidT h H).get? b=some o :=
  PySem.W.hideAll_get _ e fun hm=>by
    have q:(H b).isSome=true:=(List.mem_filter.mp hm).2
    rw [n] at q; simp at q
theorem of_hidT {h:Heap} {H:Hp} {b:Addr} {o:Obj} (e:(hidT h H).get? b=some o):h.get? b=some o /\ H b=none:=by
  have e':h.get? b=some o:=PySem.W.of_hideAll (trk h H) e
  refine ⟨e',?_⟩
  cases q:H b with
  | none=>rfl
  | some x =>
    have hm:b ∈ trk h H:=List.mem_filter.mpr ⟨List.mem_range.mpr (Heap.lt_size e'),by simp [q]⟩
    have z:(hidT h H).get? b=none:=PySem.W.hideAll_none (trk h H) hm
    rw [z] at e; cases e
noncomputable def allNews (g h:Heap) (L:Addr):List (Addr × Obj):=(List.range h.objs.size).filterMap fun a=>if a=L \/ (g.get? a).isSome=true then none else (h.get? a).map fun o=>(a,o)
noncomputable def rest (g h:Heap) (L d:Addr):List (Addr × Obj):=(allNews g h L).filter fun p=>decide (p.1 ≠ d)
end L2
namespace L2
open PySem PySem.Spec PyProof.Rows
structure Mod (K:PySem.W.Frag) (mg:Str->Option Value) (base:Heap):Prop where
  kin:K.In base
  glob:base.Ns mainGlobals mg
  blt:∃ mb,base.Ns builtinsNs mb /\ ∀ x:Str,x ≠ "__name__"->mb x=bootBuiltins x
  nolimit:base.NoLimit
structure Cx where
  prog:Program
  w:World
  K:PySem.W.Frag
  mg:Str->Option Value
  base:Heap
  A:Around
  N:List Str
  s₀:Shared
  H₀:Hp
  env:Env
  outer:List Env
  stack:List Env
  ex:List Addr
  fn:Str->Bool
  calm:Bool
  pn:List (Addr × Obj)
  xe:Value->Shared->Prop
noncomputable def frs (l:List Env):List Addr:=l.filterMap (·.frame)
noncomputable abbrev Cx.fs (X:Cx):List Addr:=frs X.outer
noncomputable def Vis (sc:Scope) (x:Str):Prop:=sc.names.lookup x=some .local \/ sc.names.lookup x=some .cell \/ sc.names.lookup x=some .free
noncomputable def Loc (sc:Scope) (x:Str):Prop:=sc.names.lookup x=some .local \/ sc.names.lookup x=some .cell
noncomputable def Look (env:Env) (h:Heap) (m:Str->Option Value) (x:Str) (u:Value):Prop :=
  (env.kindOf x=some .local /\ m x=some u) \/ ((env.kindOf x=some .cell \/ env.kindOf x=some .free) /\ ∃ c,env.cells.lookup x=some c /\ h.IsCell c (some u))
structure Cx.Ok (X:Cx):Prop where
  mod:Mod X.K X.mg X.base
  kind:X.env.scope.kind=.function
  glob:X.env.globals=mainGlobals
  blt:X.env.builtins=builtinsNs
  above:X.s₀.heap.objs.size<=X.env.locals
  inj:∀ x y c,X.env.cells.lookup x=some c->X.env.cells.lookup y=some c->x=y
  has:∀ x,(X.env.kindOf x=some .cell \/ X.env.kindOf x=some .free)->∃ c,X.env.cells.lookup x=some c
  cab:∀ x c,X.fn x=true->X.env.cells.lookup x=some c->X.s₀.heap.objs.size<=c
  hd:X.calm=true->X.A.handled=none
  frames:X.A.frames=some X.stack
  stk:X.stack=X.outer \/ (X.stack=X.env :: X.outer /\ X.env.frame=some X.env.locals)
  exf:∀ b ∈ X.ex,b ≠ X.env.locals /\ ∀ x c,X.env.cells.lookup x=some c->c ≠ b
  bs:∀ b o,X.base.get? b=some o->X.s₀.heap.get? b=some o /\ X.H₀ b=none
  bsz:X.base.objs.size<=X.s₀.heap.objs.size
  noex:∀ b o,X.base.get? b=some o->b ∉ X.ex
  exfs:∀ b ∈ X.ex,b ∉ X.fs
  funs:X.s₀.heap.FunFrames X.base X.outer
  frf:∀ b ∈ X.fs,X.H₀ b=none
structure Inv (X:Cx) (pins:List (Addr × Obj)) (σ:List (Option V)) (H:Hp) (s:Shared):Prop where
  ok:X.Ok
  os:s.os=X.s₀.os
  bare:AllBare s.gens
  base:Un X.fs X.ex X.H₀ H X.s₀.heap s.heap
  loc:∃ m,s.heap.Ns X.env.locals m /\ ∀ (i:Nat) (x:Str) (v:V),X.N[i]?=some x->σ[i]?=some (some v)->Vis X.env.scope x->∃ u,RelV v u /\ Look X.env s.heap m x u
  cell:∀ x c,X.env.cells.lookup x=some c->∃ v,s.heap.IsCell c v
  free:H X.env.locals=none
  freeC:∀ x c,X.env.cells.lookup x=some c->H c=none
  pin:∀ p ∈ X.pn ++ pins,s.heap.get? p.1=some p.2 /\ H p.1=none /\ p.1 ≠ X.env.locals /\ p.1 ∉ X.fs /\ ∀ v,p.2.data ≠ .cell v
  hok:HOk X.prog X.w H s.heap
  len:σ.length=X.N.length
section
variable {X:Cx} {pins:List (Addr × Obj)} {σ:List (Option V)} {H H':Hp} {s:Shared} {h':Heap}
theorem Cx.Ok.nofr (ok:X.Ok) {b:Addr} {o:Obj} (e:X.base.get? b=some o):b ∉ X.fs:=fun hb=>by
  have:=(ok.funs.mem hb).1
  rw [e] at this; cases this
theorem Inv.bs (I:Inv X pins σ H s):∀ b o,X.base.get? b=some o->s.heap.get? b=some o /\ H b=none:=fun b o e =>
  ⟨I.base.keep b o (I.ok.bs b o e).1 (I.ok.bs b o e).2 (I.ok.nofr e) (I.ok.noex b o e),I.base.free b o (I.ok.bs b o e).1 (I.ok.bs b o e).2 (I.ok.noex b o e)⟩
theorem Inv.bk (I:Inv X pins σ H s):∀ b o,X.base.get? b=some o->s.heap.get? b=some o:=fun b o e=>(I.bs b o e).1
theorem Inv.mod (I:Inv X pins σ H s):Mod X.K X.mg X.base:=I.ok.mod
theorem Inv.kIn (I:Inv X pins σ H s):X.K.In s.heap:=I.ok.mod.kin.keeps I.bk
theorem Inv.nolimit (I:Inv X pins σ H s):s.heap.NoLimit:=I.ok.mod.nolimit.keeps I.bk
theorem Inv.fr (I:Inv X pins σ H s):∃ m,Fr X.base X.env.locals s.heap m :=
  let ⟨m,hn,_⟩:=I.loc
  ⟨m,hn,I.bk,Nat.le_trans I.ok.bsz I.ok.above⟩
theorem Inv.lt (I:Inv X pins σ H s):X.env.locals < s.heap.objs.size:=let ⟨_,hn,_⟩:=I.loc; hn.lt
theorem Inv.sz (I:Inv X pins σ H s):X.s₀.heap.objs.size<=s.heap.objs.size:=Nat.le_trans I.ok.above (Nat.le_of_lt I.lt)
theorem Inv.nofs (I:Inv X pins σ H s) {a:Addr} (h:s.heap.objs.size<=a):a ∉ X.fs:=fun hb=>by
  obtain ⟨_,o,ho,_⟩:=I.ok.funs.mem hb
  exact absurd (Nat.lt_of_lt_of_le (Heap.lt_size ho) (Nat.le_trans I.sz h)) (Nat.lt_irrefl _)
theorem Inv.cne (I:Inv X pins σ H s):∀ x c,X.env.cells.lookup x=some c->c ≠ X.env.locals:=fun x c e z=>by
  obtain ⟨v,o,ho,hd⟩:=I.cell x c e
  obtain ⟨m,⟨o',es,ep,ho',hd',_⟩,_⟩:=I.loc
  rw [z,ho'] at ho; cases ho; rw [hd'] at hd; cases hd
theorem Inv.funs (I:Inv X pins σ H s):s.heap.FunFrames X.base X.outer:=by
  have all:∀ (l:List Env),(∀ b ∈ frs l,b ∈ X.fs)->X.s₀.heap.FunFrames X.base l->s.heap.FunFrames X.base l:=by
    intro l
    induction l with
    | nil=>intro _ _; trivial
    | cons env r ih =>
      intro hs hl
      obtain ⟨hk,⟨L,o,hf,hn,ho,hd⟩,hr⟩:=hl
      have hL:L ∈ X.fs:=hs L (by unfold frs; rw [List.filterMap_cons,hf]; exact List.mem_cons_self)
      obtain ⟨sl,e⟩:=I.base.slot L o ho (I.ok.frf L hL) hL fun z=>I.ok.exfs L z hL
      exact ⟨hk,⟨L,_,hf,hn,e,hd⟩,ih (fun b hb=>hs b (by unfold frs; rw [List.filterMap_cons,hf]; exact List.mem_cons_of_mem _ hb)) hr⟩
  exact all X.outer (fun _ hb=>hb) I.ok.funs
theorem Inv.stack (I:Inv X pins σ H s):s.heap.FunFrames X.base X.stack:=by
  rcases I.ok.stk with e | ⟨e,hf⟩
  · rw [e]; exact I.funs
  · rw [e]
    obtain ⟨m,hn,_⟩:=I.loc
    refine .cons (by rw [I.ok.kind]; decide) hf hn ?_ I.funs
    exact Heap.get?_none_of_le (Nat.le_trans I.ok.bsz I.ok.above)
theorem Inv.stkSub (I:Inv X pins σ H s):∀ b ∈ frs X.stack,b ∈ X.env.locals :: X.fs:=fun b hb=>by
  rcases I.ok.stk with e | ⟨e,hf⟩
  · rw [e] at hb; exact List.mem_cons_of_mem _ hb
  · rw [e] at hb
    unfold frs at hb
    rw [List.filterMap_cons,hf] at hb
    exact hb
theorem Inv.stkFree (I:Inv X pins σ H s):∀ b ∈ frs X.stack,H b=none:=fun b hb=>by
  rcases List.mem_cons.mp (I.stkSub b hb) with e | hb
  · rw [e]; exact I.free
  · obtain ⟨_,o,ho,_⟩:=I.ok.funs.mem hb
    exact I.base.free b o ho (I.ok.frf b hb) fun z=>I.ok.exfs b z hb
theorem Inv.step {g':Array GenState} {t':Nat} {d':Drawn} {ch:List Addr} (I:Inv X pins σ H s)
    (hch:∀ b ∈ ch,(b ∈ X.ex \/ X.s₀.heap.objs.size<=b) /\ b ≠ X.env.locals /\ (∀ x c,X.env.cells.lookup x=some c->c ≠ b) /\ ∀ p ∈ X.pn ++ pins,p.1 ≠ b)
    (keep:∀ b o,b ≠ X.env.locals->b ∉ X.fs->b ∉ ch->s.heap.get? b=some o->H b=none->h'.get? b=some o)
    (slot:∀ b o,b ≠ X.env.locals->b ∈ X.fs->b ∉ ch->s.heap.get? b=some o->H b=none->∃ sl,h'.get? b=some { o with slots:=sl }) (free:∀ b o,b ∉ ch->s.heap.get? b=some o->H b=none->H' b=none)
    (there:∀ b o,b ∉ ch->s.heap.get? b=some o->∃ o',h'.get? b=some o')
    (tups:∀ b xs,H b=some (.tup xs)->H' b=some (.tup xs)) (frzs:∀ b o u,H b=some (.frz o u)->H' b=some (.frz o u)) (tbls:∀ b ps,H b=some (.tbl ps)->∃ more,H' b=some (.tbl (ps ++ more)))
    (ns:∀ m,s.heap.Ns X.env.locals m->h'.Ns X.env.locals m) (hok:HOk X.prog X.w H' h') (hg:AllBare g') :
    Inv X pins σ H' { s with heap:=h',gens:=g',drawn:=d',toks:=t' }:=by
  have neL:∀ b o,X.s₀.heap.get? b=some o->b ≠ X.env.locals:=fun b o e=>Nat.ne_of_lt (Nat.lt_of_lt_of_le (Heap.lt_size e) I.ok.above)
  have neC:∀ b o,X.s₀.heap.get? b=some o->b ∉ X.ex->b ∉ ch:=fun b o e hx hb=>by
    rcases (hch b hb).1 with z | z
    · exact hx z
    · exact absurd (Nat.lt_of_lt_of_le (Heap.lt_size e) z) (Nat.lt_irrefl _)
  have cellK:∀ x c,X.env.cells.lookup x=some c->∀ v,s.heap.IsCell c v->h'.IsCell c v:=fun x c e v ⟨o,ho,hd⟩=>by
    have nch:c ∉ ch:=fun z=>(hch c z).2.2.1 x c e rfl
    by_cases hc:c ∈ X.fs
    · obtain ⟨sl,q⟩:=slot c o (I.cne x c e) hc nch ho (I.freeC x c e)
      exact ⟨_,q,hd⟩
    · exact ⟨o,keep c o (I.cne x c e) hc nch ho (I.freeC x c e),hd⟩
  refine ⟨I.ok,I.os,hg,⟨fun b o e n hb hx=>?_,fun b o e n hb hx=>?_,fun b o e n hx=>?_,fun b o e hx=>?_,fun b xs e=>tups b xs (I.base.tups b xs e),fun b o xs e=>frzs b o xs (I.base.frzs b o xs e),fun b ps e=>?_⟩,?_,fun x c e=>?_,?_,fun x c e=>?_,fun p hp=>?_,hok,I.len⟩
  · exact keep b o (neL b o e) hb (neC b o e hx) (I.base.keep b o e n hb hx) (I.base.free b o e n hx)
  · obtain ⟨sl,e1⟩:=I.base.slot b o e n hb hx
    obtain ⟨sl',e2⟩:=slot b _ (neL b o e) hb (neC b o e hx) e1 (I.base.free b o e n hx)
    exact ⟨sl',e2⟩
  · obtain ⟨o',e1⟩:=I.base.there b o e hx
    exact free b o' (neC b o e hx) e1 (I.base.free b o e n hx)
  · obtain ⟨o',e1⟩:=I.base.there b o e hx
    exact there b o' (neC b o e hx) e1
  · obtain ⟨m1,e1⟩:=I.base.tbls b ps e
    obtain ⟨m2,e2⟩:=tbls b _ e1
    exact ⟨m1 ++ m2,by rw [e2,Array.append_assoc]⟩
  · obtain ⟨m,hn,hl⟩:=I.loc
    refine ⟨m,ns m hn,fun i x v e1 e2 e3=>?_⟩
    obtain ⟨u,r,l⟩:=hl i x v e1 e2 e3
    refine ⟨u,r,?_⟩
    rcases l with l | ⟨k,c,e,z⟩
    · exact .inl l
    · exact .inr ⟨k,c,e,cellK x c e _ z⟩
  · obtain ⟨v,z⟩:=I.cell x c e
    exact ⟨v,cellK x c e v z⟩
  · obtain ⟨m,⟨o,_,_,ho,_⟩,_⟩:=I.loc
    exact free _ o (fun z=>(hch _ z).2.1 rfl) ho I.free
  · obtain ⟨v,o,ho,hd⟩:=I.cell x c e
    exact free c o (fun z=>(hch c z).2.2.1 x c e rfl) ho (I.freeC x c e)
  · obtain ⟨e,n,ne,nf,d⟩:=I.pin p hp
    have nch:p.1 ∉ ch:=fun z=>(hch p.1 z).2.2.2 p hp rfl
    exact ⟨keep p.1 p.2 ne nf nch e n,free p.1 p.2 nch e n,ne,nf,d⟩
theorem Inv.un {t':Nat} (I:Inv X pins σ H s) (u:Un X.fs [] H H' s.heap h') (hok:HOk X.prog X.w H' h'):Inv X pins σ H' { s with heap:=h',toks:=t' }:=by
  obtain ⟨m,⟨o,es,ep,ho,r⟩,_⟩:=id I.loc
  obtain ⟨sl,hL⟩:=u.any ho I.free (by simp)
  exact I.step (g':=s.gens) (d':=s.drawn) (ch:=[]) (fun _ z=>nomatch z) (fun b o _ hb _ e n=>u.keep b o e n hb (by simp)) (fun b o _ hb _ e n=>u.slot b o e n hb (by simp)) (fun b o _ e n=>u.free b o e n (by simp)) (fun b o _ e=>u.there b o e (by simp)) u.tups u.frzs u.tbls (fun m' hm=>by
    obtain ⟨o',es',ep',ho',r'⟩:=hm
    rw [ho] at ho'; cases ho'
    exact ⟨_,es',ep',hL,r'⟩) hok I.bare
theorem Inv.call {g':Array GenState} {t':Nat} {d':Drawn} {ch:List Addr} (I:Inv X pins σ H s) (u:Un (frs X.stack) ch H H' s.heap h') (hok:HOk X.prog X.w H' h') (hg:AllBare g')
    (hch:∀ b ∈ ch,(b ∈ X.ex \/ X.s₀.heap.objs.size<=b) /\ b ≠ X.env.locals /\ (∀ x c,X.env.cells.lookup x=some c->c ≠ b) /\ ∀ p ∈ X.pn ++ pins,p.1 ≠ b) :
    Inv X pins σ H' { s with heap:=h',gens:=g',drawn:=d',toks:=t' }:=by
  obtain ⟨m,⟨o,es,ep,ho,r⟩,_⟩:=id I.loc
  obtain ⟨sl,hL⟩:=u.any ho I.free fun z=>(hch _ z).2.1 rfl
  exact I.step (ch:=ch) hch (fun b o hL hb hc e n=>u.keep b o e n (fun z=>(List.mem_cons.mp (I.stkSub b z)).elim hL hb) hc) (fun b o _ _ hc e n=>u.any e n hc) (fun b o hc e n=>u.free b o e n hc) (fun b o hc e=>u.there b o e hc) u.tups u.frzs u.tbls (fun m' hm=>by
    obtain ⟨o',es',ep',ho',r'⟩:=hm
    rw [ho] at ho'; cases ho'
    exact ⟨_,es',ep',hL,r'⟩) hok hg
theorem Inv.turned {t':Nat} {it:Addr} (I:Inv X pins σ H s) (k:∀ b o,b ≠ it->s.heap.get? b=some o->h'.get? b=some o) (hn:H it=none) (hL:it ≠ X.env.locals)
    (h1:it ∈ X.ex \/ X.s₀.heap.objs.size<=it) (h2:∀ x c,X.env.cells.lookup x=some c->c ≠ it) (h3:∀ p ∈ X.pn ++ pins,p.1 ≠ it):Inv X pins σ H { s with heap:=h',toks:=t' }:=by
  have nit:∀ b u,H b=some u->b ≠ it:=fun b u e z=>by rw [z,hn] at e; cases e
  refine I.step (g':=s.gens) (d':=s.drawn) (ch:=[it]) (fun b hb=>?_) (fun b o _ _ hc e _=>k b o (fun z=>hc (by simp [z])) e) (fun b o _ _ hc e _=>⟨o.slots,k b o (fun z=>hc (by simp [z])) e⟩) (fun _ _ _ _ n=>n)
    (fun b o hc e=>⟨o,k b o (fun z=>hc (by simp [z])) e⟩) (fun _ _ e=>e) (fun _ _ _ e=>e) (fun b ps e=>⟨#[],by rw [e]; simp⟩) (fun m hm=>?_) (fun b u e=>?_) I.bare
  · have e:b=it:=by simpa using hb
    subst e
    exact ⟨h1,hL,h2,h3⟩
  · obtain ⟨o,es,ep,ho,r⟩:=hm
    exact ⟨o,es,ep,k _ o (Ne.symm hL) ho,r⟩
  · refine (I.hok b u e).stay (fun c v hc q=>k c v ?_ q) (fun _ q=>q) fun _ _ q=>q
    rcases hc with z | z
    · rw [z]; exact nit b u e
    · exact nit c _ z
theorem Inv.tok (I:Inv X pins σ H s) (t:Nat):Inv X pins σ H { s with toks:=t }:=I.un (h':=s.heap) (t':=t) Un.refl I.hok
theorem Inv.kept {t':Nat} (I:Inv X pins σ H s) (k:∀ b u,s.heap.get? b=some u->h'.get? b=some u):Inv X pins σ H { s with heap:=h',toks:=t' }:=I.un (Un.kept k) (I.hok.kept k)
theorem Inv.laid {a:Addr} {o:HO} {t':Nat} (I:Inv X pins σ H s) (k:∀ b u,s.heap.get? b=some u->h'.get? b=some u) (hp:s.heap.objs.size<=a) (new:ObjOk X.prog X.w (upd H a o) h' a o) :
    Inv X pins σ (upd H a o) { s with heap:=h',toks:=t' }:=I.un (Un.laid k hp (I.hok.fresh hp)) (I.hok.laid k hp new)
theorem Inv.write {x e:Addr} {o:HO} {t':Nat} (I:Inv X pins σ H s) (mu:Mut (H x)) (he:e=x \/ H e=some (.own x)) (k:∀ b u,b ≠ e->s.heap.get? b=some u->h'.get? b=some u) (heo:∃ u,h'.get? e=some u)
    (new:ObjOk X.prog X.w (upd H x o) h' x o):Inv X pins σ (upd H x o) { s with heap:=h',toks:=t' }:=I.un (Un.write mu he k heo) (I.hok.write mu he k heo new)
theorem Inv.weak {σ':List (Option V)} (I:Inv X pins σ H s) (hl:σ'.length=σ.length) (w:∀ (i:Nat) v,σ'[i]?=some (some v)->σ[i]?=some (some v)):Inv X pins σ' H s :=
  ⟨I.ok,I.os,I.bare,I.base,let ⟨m,hn,hl'⟩:=I.loc; ⟨m,hn,fun i x v e1 e2 e3=>hl' i x v e1 (w i v e2) e3⟩,I.cell,I.free,I.freeC,I.pin,I.hok,hl.trans I.len⟩
theorem Inv.pins_of {pins':List (Addr × Obj)} (I:Inv X pins σ H s) (h:∀ p ∈ pins',s.heap.get? p.1=some p.2 /\ H p.1=none /\ p.1 ≠ X.env.locals /\ p.1 ∉ X.fs /\ ∀ v,p.2.data ≠ .cell v):Inv X pins' σ H s :=
  ⟨I.ok,I.os,I.bare,I.base,I.loc,I.cell,I.free,I.freeC,fun p hp=>(List.mem_append.mp hp).elim (fun z=>I.pin p (List.mem_append_left _ z)) (h p),I.hok,I.len⟩
theorem nodup_ix {N:List Str} (hN:N.Nodup) {i j:Nat} {x:Str} (a:N[i]?=some x) (b:N[j]?=some x):i=j:=by
  obtain ⟨h1,e1⟩:=List.getElem?_eq_some_iff.mp a
  obtain ⟨h2,e2⟩:=List.getElem?_eq_some_iff.mp b
  exact (List.getElem_inj hN).mp (e1.trans e2.symm)
theorem store_ok2 {M:Model} {A:Around} {E:Value->Shared->Prop} {i:Nat} {x:Str} {v:V} {u:Value} {Q:Unit->Shared->Prop} (I:Inv X pins σ H s) (hN:X.N.Nodup) (hi:X.N[i]?=some x) (hx:Loc X.env.scope x) (r:RelV v u)
    (h:∀ s',Inv X pins (σ.set i (some v)) H s'->(∃ a,Heap.SameBut a s.heap s'.heap /\ (a=X.env.locals \/ X.env.cells.lookup x=some a))->Q () s') (hf:X.fn x=true \/ X.env.scope.names.lookup x=some .local:=by first | exact .inl rfl | exact .inr rfl | assumption):wpAny M A (storeName X.env x u) Q E s:=by
  obtain ⟨m,hn,hl⟩:=id I.loc
  have hcls:(X.env.scope.kind == .class || (X.env.scope.kind == .module && X.env.locals != X.env.globals))=false:=by rw [I.ok.kind]; rfl
  have hiσ:i < σ.length:=by rw [I.len]; exact (List.getElem?_eq_some_iff.mp hi).1
  have cne:=I.cne
  have tracked:∀ {a:Addr} {h':Heap},(∃ o,s.heap.get? a=some o /\ H a=none)->Heap.SameBut a s.heap h'->HOk X.prog X.w H h':=fun {a h'} ha hs b ob e=>by
    obtain ⟨_,_,hfree⟩:=ha
    refine (I.hok b ob e).stay (fun c w' hc q=>(hs.2 c ?_).trans q) (fun _ q=>q) fun _ _ q=>q
    rintro rfl
    rcases hc with rfl | hc
    · rw [hfree] at e; cases e
    · rw [hfree] at hc; cases hc
  rcases hx with hk | hk
  · refine wpAny_storeName_local hk hn (fun h' hn' hs=>?_) hcls
    obtain ⟨oL,_,_,hoL,_⟩:=id hn
    refine h _ ⟨I.ok,I.os,I.bare,⟨fun b o e n hb hx=>?_,fun b o e n hb hx=>?_,I.base.free,fun b o e hx=>?_,I.base.tups,I.base.frzs,I.base.tbls⟩,⟨_,hn',fun j y v' e1 e2 e3=>?_⟩,fun y c e=>?_,I.free,I.freeC,fun p hp=>?_,tracked ⟨oL,hoL,I.free⟩ hs,by simpa using I.len⟩ ⟨_,hs,.inl rfl⟩
    · exact (hs.2 b (Nat.ne_of_lt (Nat.lt_of_lt_of_le (Heap.lt_size e) I.ok.above))).trans (I.base.keep b o e n hb hx)
    · obtain ⟨sl,e1⟩:=I.base.slot b o e n hb hx
      exact ⟨sl,(hs.2 b (Nat.ne_of_lt (Nat.lt_of_lt_of_le (Heap.lt_size e) I.ok.above))).trans e1⟩
    · obtain ⟨o',e1⟩:=I.base.there b o e hx
      exact ⟨o',(hs.2 b (Nat.ne_of_lt (Nat.lt_of_lt_of_le (Heap.lt_size e) I.ok.above))).trans e1⟩
    · by_cases hj:j=i
      · subst hj
        rw [hi] at e1; cases e1
        rw [List.getElem?_set_self hiσ] at e2
        cases e2
        exact ⟨u,r,.inl ⟨hk,by simp⟩⟩
      · rw [List.getElem?_set_ne (Ne.symm hj)] at e2
        obtain ⟨u',r',q⟩:=hl j y v' e1 e2 e3
        refine ⟨u',r',?_⟩
        rcases q with ⟨k,e⟩ | ⟨k,c,e,z⟩
        · refine .inl ⟨k,?_⟩
          have:y ≠ x:=fun e=>hj (nodup_ix hN e1 (e ▸ hi))
          simp [this,e]
        · exact .inr ⟨k,c,e,z.sameBut hs (cne y c e)⟩
    · obtain ⟨w',z⟩:=I.cell y c e
      exact ⟨w',z.sameBut hs (cne y c e)⟩
    · obtain ⟨e,n,ne,nf,d⟩:=I.pin p hp
      exact ⟨(hs.2 p.1 ne).trans e,n,ne,nf,d⟩
  · have hfn:X.fn x=true:=by
      rcases hf with z | z
      · exact z
      · rw [z] at hk; cases hk
    obtain ⟨c,hc⟩:=I.ok.has x (.inl hk)
    obtain ⟨w',z⟩:=I.cell x c hc
    refine wpAny_storeName_cell I.ok.kind hk hc z (fun h' hc' hs=>?_)
    obtain ⟨oc,hoc,hocd⟩:=id z
    refine h { s with heap:=h' } ⟨I.ok,I.os,I.bare,⟨fun b o e n hb hx=>?_,fun b o e n hb hx=>?_,I.base.free,fun b o e hx=>?_,I.base.tups,I.base.frzs,I.base.tbls⟩,⟨m,hn.sameBut hs (Ne.symm (cne x c hc)),fun j y v' e1 e2 e3=>?_⟩,fun y c' e=>?_,I.free,I.freeC,fun p hp=>?_,tracked ⟨oc,hoc,I.freeC x c hc⟩ hs,by simpa using I.len⟩ ⟨c,hs,.inr hc⟩
    · exact (hs.2 b (Nat.ne_of_lt (Nat.lt_of_lt_of_le (Heap.lt_size e) (I.ok.cab x c hfn hc)))).trans (I.base.keep b o e n hb hx)
    · obtain ⟨sl,e1⟩:=I.base.slot b o e n hb hx
      exact ⟨sl,(hs.2 b (Nat.ne_of_lt (Nat.lt_of_lt_of_le (Heap.lt_size e) (I.ok.cab x c hfn hc)))).trans e1⟩
    · obtain ⟨o',e1⟩:=I.base.there b o e hx
      exact ⟨o',(hs.2 b (Nat.ne_of_lt (Nat.lt_of_lt_of_le (Heap.lt_size e) (I.ok.cab x c hfn hc)))).trans e1⟩
    · by_cases hj:j=i
      · subst hj
        rw [hi] at e1; cases e1
        rw [List.getElem?_set_self hiσ] at e2
        cases e2
        exact ⟨u,r,.inr ⟨.inl hk,c,hc,hc'⟩⟩
      · rw [List.getElem?_set_ne (Ne.symm hj)] at e2
        obtain ⟨u',r',q⟩:=hl j y v' e1 e2 e3
        refine ⟨u',r',?_⟩
        rcases q with q | ⟨k,c',e,z'⟩
        · exact .inl q
        · refine .inr ⟨k,c',e,z'.sameBut hs ?_⟩
          rintro rfl
          exact hj (nodup_ix hN e1 (I.ok.inj _ _ _ e hc ▸ hi))
    · by_cases hcc:c'=c
      · subst hcc; exact ⟨_,hc'⟩
      · obtain ⟨w2,z2⟩:=I.cell y c' e
        exact ⟨w2,z2.sameBut hs hcc⟩
    · obtain ⟨e,n,ne,nf,d⟩:=I.pin p hp
      refine ⟨(hs.2 p.1 ?_).trans e,n,ne,nf,d⟩
      intro q
      rw [q,hoc] at e
      have q':oc=p.2:=Option.some.inj e
      exact d w' (by rw [<- q']; exact hocd)
theorem store_ok {M:Model} {A:Around} {E:Value->Shared->Prop} {i:Nat} {x:Str} {v:V} {u:Value} {Q:Unit->Shared->Prop} (I:Inv X pins σ H s) (hN:X.N.Nodup) (hi:X.N[i]?=some x) (hx:Loc X.env.scope x) (r:RelV v u)
    (h:∀ s',Inv X pins (σ.set i (some v)) H s'->Q () s') (hf:X.fn x=true \/ X.env.scope.names.lookup x=some .local:=by first | exact .inl rfl | exact .inr rfl | assumption):wpAny M A (storeName X.env x u) Q E s :=
  store_ok2 I hN hi hx r (fun s' I' _=>h s' I') hf
theorem Inv.call' {s':Shared} {ch:List Addr} (I:Inv X pins σ H s) (ho:s'.os=s.os) (u:Un (frs X.stack) ch H H' s.heap s'.heap) (hok:HOk X.prog X.w H' s'.heap) (hg:AllBare s'.gens)
    (hch:∀ b ∈ ch,(b ∈ X.ex \/ X.s₀.heap.objs.size<=b) /\ b ≠ X.env.locals /\ (∀ x c,X.env.cells.lookup x=some c->c ≠ b) /\ ∀ p ∈ X.pn ++ pins,p.1 ≠ b):Inv X pins σ H' s':=by
  obtain ⟨h',g',d',t',o'⟩:=s'
  have e:o'=s.os:=ho
  subst e
  exact I.call (g':=g') (t':=t') (d':=d') u hok hg hch
end
noncomputable abbrev XK:=Value->Option Addr->Hp->Prop
noncomputable abbrev St:=List (Option V)
noncomputable abbrev VK:=V->Hp->Prop
noncomputable abbrev TE:=St->Hp->VK->Prop
noncomputable abbrev TT:=St->Hp->(Bool->Hp->Prop)->Prop
noncomputable abbrev TA:=St->Hp->(List V->Hp->Prop)->Prop
structure Ends where
  nx:St->Hp->Prop
  rt:VK
  bk:St->Hp->Prop:=fun _ _=>False
  ct:St->Hp->Prop:=fun _ _=>False
noncomputable abbrev TS:=Ends->St->Hp->Prop
noncomputable def EP (X:Cx) (pins:List (Addr × Obj)) (σ:St) (Q:VK) (u:Value) (s':Shared):Prop:=∃ v H',Inv X pins σ H' s' /\ RelV v u /\ Q v H'
noncomputable def TP (X:Cx) (pins:List (Addr × Obj)) (σ:St) (Q:Bool->Hp->Prop) (b:Bool) (s':Shared):Prop:=∃ H',Inv X pins σ H' s' /\ Q b H'
noncomputable def AP (X:Cx) (pins:List (Addr × Obj)) (σ:St) (Q:List V->Hp->Prop) (us:List Value) (s':Shared):Prop:=∃ vs H',Inv X pins σ H' s' /\ Vals vs us /\ Q vs H'
noncomputable def SP (X:Cx) (pins:List (Addr × Obj)) (D:Ends) (f:Flow) (s':Shared):Prop :=
  match f with
  | .next=>∃ σ' H',Inv X pins σ' H' s' /\ D.nx σ' H'
  | .brk=>∃ σ' H',Inv X pins σ' H' s' /\ D.bk σ' H'
  | .cont=>∃ σ' H',Inv X pins σ' H' s' /\ D.ct σ' H'
  | .ret u=>∃ v σ' H',Inv X pins σ' H' s' /\ RelV v u /\ D.rt v H'
noncomputable def PE (X:Cx) (e:Expr) (t:TE):Prop :=
  ∀ (pins:List (Addr × Obj)) (s:Shared) (σ:St) (H:Hp) (Q:VK),Inv X pins σ H s->t σ H Q->wpAny (model X.prog X.w) X.A (eval e X.env) (EP X pins σ Q) X.xe s
noncomputable def PT (X:Cx) (e:Expr) (t:TT):Prop :=
  ∀ (pins:List (Addr × Obj)) (s:Shared) (σ:St) (H:Hp) (Q:Bool->Hp->Prop),Inv X pins σ H s->t σ H Q->wpAny (model X.prog X.w) X.A (isTrue e X.env (eval e X.env)) (TP X pins σ Q) X.xe s
noncomputable def PW (X:Cx) (e:Expr) (t:TT):Prop :=
  ∀ (whole:Sem Value) (pins:List (Addr × Obj)) (s:Shared) (σ:St) (H:Hp) (Q:Bool->Hp->Prop),Inv X pins σ H s->t σ H Q->wpAny (model X.prog X.w) X.A (isTrue e X.env whole) (TP X pins σ Q) X.xe s
theorem PW.pt {X:Cx} {e:Expr} {t:TT} (h:PW X e t):PT X e t:=h _
noncomputable def PA (X:Cx) (es:List Expr) (t:TA):Prop :=
  ∀ (pos:Pos) (pins:List (Addr × Obj)) (s:Shared) (σ:St) (H:Hp) (Q:List V->Hp->Prop),Inv X pins σ H s->t σ H Q->wpAny (model X.prog X.w) X.A (spliced (backTo pos (starEach es X.env))) (AP X pins σ Q) X.xe s
noncomputable def PS (X:Cx) (st:Stmt) (t:TS):Prop :=
  ∀ (pins:List (Addr × Obj)) (s:Shared) (σ:St) (H:Hp) (D:Ends),Inv X pins σ H s->t D σ H->wpAny (model X.prog X.w) X.A (exec st X.env) (SP X pins D) X.xe s
noncomputable def PSs (X:Cx) (st:List Stmt) (t:TS):Prop :=
  ∀ (pins:List (Addr × Obj)) (s:Shared) (σ:St) (H:Hp) (D:Ends),Inv X pins σ H s->t D σ H->wpAny (model X.prog X.w) X.A (execs st X.env) (SP X pins D) X.xe s
theorem thn {α:Type} {t:Sem α} {Q Q':α->Shared->Prop} {M:Model} {A:Around} {E:Value->Shared->Prop} {s:Shared} (h:wpAny M A t Q E s) (hQ:∀ a s,Q a s->Q' a s):wpAny M A t Q' E s:=wpAny_mono h hQ fun _ _ x=>x
end L2
namespace L2
open PySem PySem.Spec PyProof.Rows
section
variable {X:Cx}
theorem bin {a b:Expr} {ta tb:TE} (ha:PE X a ta) (hb:PE X b tb) {pins:List (Addr × Obj)} {s:Shared} {σ:St} {H:Hp} {R:V->V->Hp->Prop} (I:Inv X pins σ H s) (h:ta σ H fun x H1=>tb σ H1 fun y H2=>R x y H2)
    {α:Type} {Q:α->Shared->Prop} {f:Value->Value->Sem α}
    (hf:∀ v u s2 x y H2,Inv X pins σ H2 s2->RelV x v->RelV y u->R x y H2->wpAny (model X.prog X.w) X.A (f v u) Q X.xe s2) :
    wpAny (model X.prog X.w) X.A (eval a X.env) (fun v s₁=>wpAny (model X.prog X.w) X.A (eval b X.env) (fun u s₂=>wpAny (model X.prog X.w) X.A (f v u) Q X.xe s₂) X.xe s₁) X.xe s:=by
  refine thn (ha pins s σ H _ I h) fun v s1 ⟨x,H1,I1,r1,q1⟩=>?_
  refine thn (hb pins s1 σ H1 _ I1 q1) fun u s2 ⟨y,H2,I2,r2,q2⟩=>?_
  exact hf v u s2 x y H2 I2 r1 r2 q2
noncomputable def tVar (i:Nat):TE:=fun σ H Q=>∃ v,σ[i]?=some (some v) /\ Q v H
noncomputable def tC (v:V):TE:=fun _ H Q=>Q v H
theorem pe_var {i:Nat} {x:Str} {pos:Pos} (hN:X.N[i]?=some x) (hv:Vis X.env.scope x) (hd:(x == ("__debug__":Str))=false:=by decide) (hcd:(x == ("__classdict__":Str))=false:=by decide):PE X (.Name x pos) (tVar i):=by
  intro pins s σ H Q I h
  obtain ⟨v,e,h⟩:=h
  obtain ⟨m,hn,hl⟩:=I.loc
  obtain ⟨u,r,l⟩:=hl i x v hN e hv
  have fin:EP X pins σ Q u s:=⟨v,H,I,r,h⟩
  rcases l with ⟨hk,hm⟩ | ⟨hk,c,hc,hcell⟩
  · exact wpAny_Name (wpAny_loadName_local I.ok.kind hk hn hm fin) hd
  · rcases hk with hk | hk
    · exact wpAny_Name (wpAny_loadName_cell I.ok.kind hk hc hcell fin) hd
    · exact wpAny_Name (wpAny_loadName_free I.ok.kind hk hc hcell fin hcd) hd
theorem pe_int {i j pos}:PE X (.Constant (.int i) j pos) (tC (.int i)):=fun _ _ _ H _ I h=>wpAny_Constant_int ⟨.int i,H,I.tok _,⟨_,rfl⟩,h⟩
theorem pe_bl {b j pos}:PE X (.Constant (.bool b) j pos) (tC (.bl b)):=fun _ _ _ H _ I h=>Constant_bool ⟨.bl b,H,I,rfl,h⟩
theorem pe_non {j pos}:PE X (.Constant .none j pos) (tC .non):=fun _ _ _ H _ I h=>Constant_none ⟨.non,H,I,rfl,h⟩
theorem pe_str {x j pos}:PE X (.Constant (.str x) j pos) (tC (.str x)):=fun _ _ _ H _ I h=>Calls.Constant_str ⟨.str x,H,I.tok _,⟨_,rfl⟩,h⟩
noncomputable def Gl (X:Cx) (x:Str):Prop:=X.env.kindOf x=some .globalImplicit
theorem ld_glob {E:Value->Shared->Prop} {pins:List (Addr × Obj)} {s:Shared} {σ:St} {H:Hp} {x:Str} {u:Value} {pos:Pos} {Q:Value->Shared->Prop} (I:Inv X pins σ H s) (hg:Gl X x) (hm:X.mg x=some u) (h:Q u s)
    (hd:(x == ("__debug__":Str))=false:=by decide):wpAny (model X.prog X.w) X.A (eval (.Name x pos) X.env) Q E s :=
  Calls.Name_function_global I.ok.kind hg (Calls.loadGlobal_global (by rw [I.ok.glob]; exact I.mod.glob.keeps I.bk) hm h) hd
theorem ld_blt {E:Value->Shared->Prop} {pins:List (Addr × Obj)} {s:Shared} {σ:St} {H:Hp} {x:Str} {u:Value} {pos:Pos} {Q:Value->Shared->Prop} (I:Inv X pins σ H s) (hg:Gl X x) (hm:X.mg x=none) (hv:bootBuiltins x=some u) (h:Q u s)
    (hn:x ≠ "__name__":=by decide) (hd:(x == ("__debug__":Str))=false:=by decide):wpAny (model X.prog X.w) X.A (eval (.Name x pos) X.env) Q E s:=by
  obtain ⟨mb,h1,h2⟩:=I.mod.blt
  exact Calls.Name_function_global I.ok.kind hg (Calls.loadGlobal_builtin (by rw [I.ok.glob]; exact I.mod.glob.keeps I.bk) hm (by rw [I.ok.blt]; exact h1.keeps I.bk) ((h2 x hn).trans hv) h) hd
theorem pe_glob {x:Str} {v:V} {u:Value} {pos:Pos} (hg:Gl X x) (hm:X.mg x=some u) (r:RelV v u) (hd:(x == ("__debug__":Str))=false:=by decide):PE X (.Name x pos) (tC v) :=
  fun _ _ _ H _ I h=>ld_glob I hg hm ⟨v,H,I,r,h⟩ hd
theorem pe_bltn {x:Str} {v:V} {u:Value} {pos:Pos} (hg:Gl X x) (hm:X.mg x=none) (hv:bootBuiltins x=some u) (r:RelV v u) (hn:x ≠ "__name__":=by decide) (hd:(x == ("__debug__":Str))=false:=by decide):PE X (.Name x pos) (tC v) :=
  fun _ _ _ H _ I h=>ld_blt I hg hm hv ⟨v,H,I,r,h⟩ hn hd
variable {a b:Expr} {ta tb:TE} {pos:Pos}
noncomputable def tB (t:TE):TT:=fun σ H Q=>t σ H fun x H1=>∃ c,x=.bl c /\ Q c H1
theorem pt_val {e:Expr} {t:TE} (h:PE X e t) (he:∀ whole,isTrue e X.env whole=(do let v <- whole; standAt e.pos; holding [v] (truthy v)):=by intro _; rfl):PT X e (tB t):=by
  intro pins s σ H Q I hw
  refine isTrue_plain (thn (h pins s σ H _ I hw) fun v s1 ⟨x,H1,I1,r1,q1⟩=>?_) (he _)
  obtain ⟨d,rfl,q⟩:=q1
  cases r1
  exact wpAny_truthy_bool ⟨H1,I1,q⟩
variable {tA tB':TT} {rest:List Expr}
noncomputable def tAnd (t u:TT):TT:=fun σ H Q=>t σ H fun c H1=>if c=true then u σ H1 Q else Q false H1
noncomputable def tOr (t u:TT):TT:=fun σ H Q=>t σ H fun c H1=>if c=true then Q true H1 else u σ H1 Q
noncomputable def tNot (t:TT):TT:=fun σ H Q=>t σ H fun c H1=>Q (!c) H1
theorem pw_and1 (ha:PT X a tA):PW X (.BoolOp .And [a] pos) tA:=by
  intro wh pins s σ H Q I h
  refine isTrue_and (thn (ha pins s σ H Q I h) fun c s1 e=>?_)
  cases c with
  | true=>exact isTrue_and_nil e
  | false=>exact e
theorem pw_or1 (ha:PT X a tA):PW X (.BoolOp .Or [a] pos) tA:=by
  intro wh pins s σ H Q I h
  refine isTrue_or (thn (ha pins s σ H Q I h) fun c s1 e=>?_)
  cases c with
  | false=>exact isTrue_or_nil e
  | true=>exact e
theorem pw_and (ha:PT X a tA) (hb:PW X (.BoolOp .And (b :: rest) pos) tB'):PW X (.BoolOp .And (a :: b :: rest) pos) (tAnd tA tB'):=by
  intro wh pins s σ H Q I h
  refine isTrue_and (thn (ha pins s σ H _ I h) fun c s1 ⟨H1,I1,q1⟩=>?_)
  cases c with
  | true=>exact hb wh pins s1 σ H1 Q I1 q1
  | false=>exact ⟨H1,I1,q1⟩
theorem pw_or (ha:PT X a tA) (hb:PW X (.BoolOp .Or (b :: rest) pos) tB'):PW X (.BoolOp .Or (a :: b :: rest) pos) (tOr tA tB'):=by
  intro wh pins s σ H Q I h
  refine isTrue_or (thn (ha pins s σ H _ I h) fun c s1 ⟨H1,I1,q1⟩=>?_)
  cases c with
  | true=>exact ⟨H1,I1,q1⟩
  | false=>exact hb wh pins s1 σ H1 Q I1 q1
theorem pt_not (ha:PT X a tA):PT X (.UnaryOp .Not a pos) (tNot tA):=by
  intro pins s σ H Q I h
  exact isTrue_not (ha pins s σ H (fun c H1=>Q (!c) H1) I h)
noncomputable def tAndV (ta tb:TE):TE:=fun σ H Q=>ta σ H fun x H1=>∃ c,x=.bl c /\ if c=true then tb σ H1 Q else Q (.bl false) H1
noncomputable def tOrV (ta tb:TE):TE:=fun σ H Q=>ta σ H fun x H1=>∃ c,x=.bl c /\ if c=true then Q (.bl true) H1 else tb σ H1 Q
noncomputable def tNotV (ta:TE):TE:=fun σ H Q=>ta σ H fun x H1=>∃ c,x=.bl c /\ Q (.bl (!c)) H1
theorem pe_one {op} {t:TE} (h:PE X a t):PE X (.BoolOp op [a] pos) t:=fun pins s σ H Q I hw=>BoolOp_one (h pins s σ H Q I hw)
theorem pe_and (ha:PE X a ta) (hb:PE X (.BoolOp .And (b :: rest) pos) tb):PE X (.BoolOp .And (a :: b :: rest) pos) (tAndV ta tb):=by
  intro pins s σ H Q I h
  refine BoolOp_and (thn (ha pins s σ H _ I h) fun v s1 ⟨x,H1,I1,r1,q1⟩=>?_)
  obtain ⟨c,rfl,q1⟩:=q1
  cases r1
  refine wpAny_truthy_bool ?_
  cases c with
  | true=>exact hb pins s1 σ H1 Q I1 q1
  | false=>exact ⟨.bl false,H1,I1,rfl,q1⟩
theorem pe_or (ha:PE X a ta) (hb:PE X (.BoolOp .Or (b :: rest) pos) tb):PE X (.BoolOp .Or (a :: b :: rest) pos) (tOrV ta tb):=by
  intro pins s σ H Q I h
  refine BoolOp_or (thn (ha pins s σ H _ I h) fun v s1 ⟨x,H1,I1,r1,q1⟩=>?_)
  obtain ⟨c,rfl,q1⟩:=q1
  cases r1
  refine wpAny_truthy_bool ?_
  cases c with
  | false=>exact hb pins s1 σ H1 Q I1 q1
  | true=>exact ⟨.bl true,H1,I1,rfl,q1⟩
theorem pe_not (ha:PE X a ta):PE X (.UnaryOp .Not a pos) (tNotV ta):=by
  intro pins s σ H Q I h
  refine UnaryOp_ (thn (ha pins s σ H _ I h) fun v s1 ⟨x,H1,I1,r1,q1⟩=>?_)
  obtain ⟨c,rfl,q1⟩:=q1
  cases r1
  exact not_of (wpAny_truthy_bool ⟨.bl (!c),H1,I1,rfl,q1⟩)
noncomputable def tIf (t:TT) (ta tb:TE):TE:=fun σ H Q=>t σ H fun c H1=>if c=true then ta σ H1 Q else tb σ H1 Q
theorem pe_ifExp {c:Expr} (hc:PT X c tA) (ha:PE X a ta) (hb:PE X b tb):PE X (.IfExp c a b pos) (tIf tA ta tb):=by
  intro pins s σ H Q I h
  refine wpAny_IfExp (thn (hc pins s σ H _ I h) fun d s1 ⟨H1,I1,q1⟩=>?_)
  cases d with
  | true=>exact ha pins s1 σ H1 Q I1 q1
  | false=>exact hb pins s1 σ H1 Q I1 q1
end
end L2
namespace L2
open PySem PySem.Spec PyProof.Rows
noncomputable def SqL (K:PySem.W.Frag) (H:Hp) (a:Addr) (xs:List V):Prop :=
  Rd H a (.lst xs) \/
    ∃ (o:Obj) (its:Array Value) (n:Nat),K.lookup a=some o /\ o.cls=.type "list" /\ o.dict=none /\ o.data=.seq its n /\ its.size<=sizeLine /\ Vals xs its.toList
noncomputable def SqT (K:PySem.W.Frag) (H:Hp) (a:Addr) (xs:List V):Prop :=
  Rd H a (.tup xs) \/
    ∃ (o:Obj) (its:Array Value) (n:Nat),K.lookup a=some o /\ o.cls=.type "tuple" /\ o.data=.seq its n /\ its.size<=sizeLine /\ Vals xs its.toList
noncomputable def absV:Value->Option V
  | .none=>some .non
  | .bool b=>some (.bl b)
  | .int i _=>some (.int i)
  | .str x _=>some (.str x)
  | .bytes b _=>some (.byt b)
  | .float b _=>some (.flt b)
  | .ref a=>some (.ref a)
  | .type n=>some (.ty n)
  | _=>none
theorem RelV.abs {x:V} {u:Value} (r:RelV x u):absV u=some x:=by
  cases x with
  | non=>cases r; rfl
  | bl _=>cases r; rfl
  | int _=>obtain ⟨t,rfl⟩:=r; rfl
  | str _=>obtain ⟨t,rfl⟩:=r; rfl
  | byt _=>obtain ⟨t,rfl⟩:=r; rfl
  | flt _=>obtain ⟨t,rfl⟩:=r; rfl
  | ref _=>cases r; rfl
  | ty _=>cases r; rfl
theorem RelV.inj {x y:V} {u:Value} (r:RelV x u) (q:RelV y u):x=y:=Option.some.inj (r.abs.symm.trans q.abs)
theorem Vals.inj:∀ {xs ys:List V} {us:List Value},Vals xs us->Vals ys us->xs=ys
  | _,_,_,.nil,.nil=>rfl
  | _,_,_,.cons r t,.cons r' t'=>by rw [r.inj r',Vals.inj t t']
section
variable {X:Cx} {pins:List (Addr × Obj)} {σ:St} {H:Hp} {s:Shared} {a:Addr} {xs ys:List V}
theorem SqL.of {K:PySem.W.Frag} (h:H a=some (.lst xs)):SqL K H a xs:=.inl (.inl h)
theorem SqT.of {K:PySem.W.Frag} (h:H a=some (.tup xs)):SqT K H a xs:=.inl (.inl h)
theorem Inv.list (I:Inv X pins σ H s) (h:SqL X.K H a xs):∃ its:List Value,Vals xs its /\ PlainL s.heap a its.toArray /\ xs.length<=sizeLine:=by
  rcases h with h | ⟨o,its,n,hk,hc,hd,hs,hz,r⟩
  · obtain ⟨z,its,n,r,e⟩:=h.ok I.hok
    exact ⟨its,r,⟨_,n,e,rfl,rfl,rfl⟩,z⟩
  · refine ⟨its.toList,r,⟨o,n,I.kIn a o hk,hc,hd,by simpa using hs⟩,?_⟩
    have e:=r.length
    simp only [Array.length_toList] at e
    omega
theorem Inv.tuple (I:Inv X pins σ H s) (h:SqT X.K H a xs):∃ its:List Value,Vals xs its /\ IsTup s.heap a its.toArray /\ xs.length<=sizeLine:=by
  rcases h with h | ⟨o,its,n,hk,hc,hs,hz,r⟩
  · obtain ⟨z,its,r,p⟩:=h.ok I.hok
    exact ⟨its,r,p,z⟩
  · refine ⟨its.toList,r,⟨o,I.kIn a o hk,hc,n,by simpa using hs⟩,?_⟩
    have e:=r.length
    simp only [Array.length_toList] at e
    omega
theorem Inv.list_inj (I:Inv X pins σ H s) (h:SqL X.K H a xs) (h':SqL X.K H a ys):xs=ys:=by
  obtain ⟨its,r,⟨o,n,e,_,_,d⟩,_⟩:=I.list h
  obtain ⟨its',r',⟨o',n',e',_,_,d'⟩,_⟩:=I.list h'
  rw [e] at e'; cases e'
  rw [d] at d'
  injection d' with d1 _
  have:its=its':=by simpa using congrArg Array.toList d1
  subst this
  exact r.inj r'
theorem Inv.tuple_inj (I:Inv X pins σ H s) (h:SqT X.K H a xs) (h':SqT X.K H a ys):xs=ys:=by
  obtain ⟨its,r,⟨o,e,_,n,d⟩,_⟩:=I.tuple h
  obtain ⟨its',r',⟨o',e',_,n',d'⟩,_⟩:=I.tuple h'
  rw [e] at e'; cases e'
  rw [d] at d'
  injection d' with d1 _
  have:its=its':=by simpa using congrArg Array.toList d1
  subst this
  exact r.inj r'
end
noncomputable abbrev Cx.wish (X:Cx) (E:Value->Shared->Prop):Cx:={ X with xe:=E }
noncomputable abbrev Cx.nox (X:Cx):Cx:=X.wish fun _ _=>False
theorem Cx.Ok.wish {X:Cx} (ok:X.Ok) (E:Value->Shared->Prop):(X.wish E).Ok :=
  ⟨ok.mod,ok.kind,ok.glob,ok.blt,ok.above,ok.inj,ok.has,ok.cab,ok.hd,ok.frames,ok.stk,ok.exf,ok.bs,ok.bsz,ok.noex,ok.exfs,ok.funs,ok.frf⟩
theorem Cx.Ok.unwish {X:Cx} {E:Value->Shared->Prop} (ok:(X.wish E).Ok):X.Ok :=
  ⟨ok.mod,ok.kind,ok.glob,ok.blt,ok.above,ok.inj,ok.has,ok.cab,ok.hd,ok.frames,ok.stk,ok.exf,ok.bs,ok.bsz,ok.noex,ok.exfs,ok.funs,ok.frf⟩
section
variable {X:Cx} {pins:List (Addr × Obj)} {σ:St} {H:Hp} {s:Shared} {E:Value->Shared->Prop}
theorem Inv.wish (I:Inv X pins σ H s) (E:Value->Shared->Prop):Inv (X.wish E) pins σ H s:=⟨I.ok.wish E,I.os,I.bare,I.base,I.loc,I.cell,I.free,I.freeC,I.pin,I.hok,I.len⟩
theorem Inv.unwish (I:Inv (X.wish E) pins σ H s):Inv X pins σ H s:=⟨I.ok.unwish,I.os,I.bare,I.base,I.loc,I.cell,I.free,I.freeC,I.pin,I.hok,I.len⟩
theorem SP.unwish {D:Ends} {f:Flow} {s':Shared} (h:SP (X.wish E) pins D f s'):SP X pins D f s':=by
  cases f with
  | next=>obtain ⟨σ',H',I,q⟩:=h; exact ⟨σ',H',I.unwish,q⟩
  | brk=>obtain ⟨σ',H',I,q⟩:=h; exact ⟨σ',H',I.unwish,q⟩
  | cont=>obtain ⟨σ',H',I,q⟩:=h; exact ⟨σ',H',I.unwish,q⟩
  | ret u=>obtain ⟨v,σ',H',I,r,q⟩:=h; exact ⟨v,σ',H',I.unwish,r,q⟩
theorem PE.nox {e:Expr} {t:TE} (h:PE X.nox e t):PE X e t:=fun pins s σ H Q I hw =>
  wpAny_mono (h pins s σ H Q (I.wish _) hw) (fun _ _ ⟨v,H',I',r,q⟩=>⟨v,H',I'.unwish,r,q⟩) fun _ _ z=>False.elim z
theorem PT.nox {e:Expr} {t:TT} (h:PT X.nox e t):PT X e t:=fun pins s σ H Q I hw =>
  wpAny_mono (h pins s σ H Q (I.wish _) hw) (fun _ _ ⟨H',I',q⟩=>⟨H',I'.unwish,q⟩) fun _ _ z=>False.elim z
theorem PSs.nox {st:List Stmt} {t:TS} (h:PSs X.nox st t):PSs X st t:=fun pins s σ H D I hw =>
  wpAny_mono (h pins s σ H D (I.wish _) hw) (fun _ _ q=>q.unwish) fun _ _ z=>False.elim z
end
section
variable {X:Cx} {st:Stmt} {rest:List Stmt} {t u:TS} {e:Expr} {te:TE} {pos:Pos}
noncomputable def tNext:TS:=fun D σ H=>D.nx σ H
noncomputable def tSeq (t u:TS):TS:=fun D σ H=>t { D with nx:=u D } σ H
theorem pss_nil:PSs X [] tNext:=fun _ _ σ H _ I h=>wpAny_execs_nil ⟨σ,H,I,h⟩
theorem pss_cons (h1:PS X st t) (h2:PSs X rest u):PSs X (st :: rest) (tSeq t u):=by
  intro pins s σ H D I h
  refine wpAny_execs_cons (thn (h1 pins s σ H { D with nx:=u D } I h) fun f s1 q=>?_)
  cases f with
  | next =>
    obtain ⟨σ',H',I',q⟩:=q
    exact h2 pins s1 σ' H' D I' q
  | ret v=>exact q
  | brk=>exact q
  | cont=>exact q
theorem pss_one (h1:PS X st t):PSs X [st] t:=by
  intro pins s σ H D I h
  refine wpAny_execs_cons (thn (h1 pins s σ H D I h) fun f s1 q=>?_)
  cases f with
  | next=>exact wpAny_execs_nil q
  | ret v=>exact q
  | brk=>exact q
  | cont=>exact q
theorem Inv.quiet {pins:List (Addr × Obj)} {σ:St} {H:Hp} {s:Shared} (I:Inv X pins σ H s):interactive X.env=false:=by simp [interactive,I.ok.kind]
noncomputable def tDrop (te:TE):TS:=fun D σ H=>te σ H fun _ H1=>D.nx σ H1
theorem ps_expr (he:PE X e te) (hs:swapsWith e none pos.line X.env=pure false:=by rfl):PS X (.Expr e pos) (tDrop te):=by
  intro pins s σ H D I h
  exact wpAny_Expr_any (thn (he pins s σ H _ I h) fun v s1 ⟨x,H1,I1,r1,q1⟩=>⟨σ,H1,I1,q1⟩) I.quiet hs
noncomputable def tRet (te:TE):TS:=fun D σ H=>te σ H D.rt
theorem ps_ret (he:PE X e te):PS X (.Return (some e) pos) (tRet te):=by
  intro pins s σ H D I h
  exact wpAny_Return_some (thn (he pins s σ H _ I h) fun v s1 ⟨x,H1,I1,r1,q1⟩=>⟨x,σ,H1,I1,r1,q1⟩)
noncomputable def tIfS (c:TT) (t u:TS):TS:=fun D σ H=>c σ H fun b H1=>if b=true then t D σ H1 else u D σ H1
theorem ps_if {c:Expr} {a b:List Stmt} {tc:TT} (hc:PT X c tc) (ha:PSs X a t) (hb:PSs X b u):PS X (.If c a b pos) (tIfS tc t u):=by
  intro pins s σ H D I h
  refine wpAny_If (thn (hc pins s σ H _ I h) fun d s1 ⟨H1,I1,q1⟩=>?_)
  cases d with
  | true=>exact ha pins s1 σ H1 D I1 q1
  | false=>exact hb pins s1 σ H1 D I1 q1
end
noncomputable abbrev TG:=V->St->Hp->(St->Hp->Prop)->Prop
noncomputable abbrev TGs:=List V->St->Hp->(St->Hp->Prop)->Prop
noncomputable def PG (X:Cx) (target:Expr) (t:TG):Prop :=
  ∀ (pins:List (Addr × Obj)) (s:Shared) (σ:St) (H:Hp) (v:V) (u:Value) (Q:St->Hp->Prop),Inv X pins σ H s->RelV v u->t v σ H Q ->
    wpAny (model X.prog X.w) X.A (assign target X.env u) (fun _ s'=>∃ σ' H',Inv X pins σ' H' s' /\ Q σ' H') X.xe s
noncomputable def PGs (X:Cx) (ts:List Expr) (t:TGs):Prop :=
  ∀ (pins:List (Addr × Obj)) (s:Shared) (σ:St) (H:Hp) (vs:List V) (us:List Value) (Q:St->Hp->Prop),Inv X pins σ H s->Vals vs us->t vs σ H Q ->
    wpAny (model X.prog X.w) X.A (assignInOrder ((assignEach ts X.env).map (·.2)) us) (fun _ s'=>∃ σ' H',Inv X pins σ' H' s' /\ Q σ' H') X.xe s
section
variable {X:Cx} {pos:Pos}
noncomputable def gName (i:Nat):TG:=fun v σ H Q=>Q (σ.set i (some v)) H
theorem pg_name {i:Nat} {x:Str} (hN:X.N.Nodup) (hi:X.N[i]?=some x) (hx:Loc X.env.scope x) (hf:X.fn x=true \/ X.env.scope.names.lookup x=some .local:=by first | exact .inl rfl | exact .inr rfl | assumption):PG X (.Name x pos) (gName i):=by
  intro pins s σ H v u Q I r h
  exact wpAny_assign_Name (store_ok I hN hi hx r (fun s' I'=>⟨_,H,I',h⟩) hf)
noncomputable def gNil:TGs:=fun vs σ H Q=>vs=[] /\ Q σ H
noncomputable def gCons (t:TG) (u:TGs):TGs:=fun vs σ H Q=>∃ v r,vs=v :: r /\ t v σ H fun σ' H'=>u r σ' H' Q
theorem pgs_nil:PGs X [] gNil:=by
  intro pins s σ H vs us Q I r h
  obtain ⟨e,h⟩:=h
  subst e
  cases r
  exact assignInOrder_nil ⟨σ,H,I,h⟩
theorem pgs_cons {e:Expr} {es:List Expr} {t:TG} {u:TGs} (h1:PG X e t) (h2:PGs X es u)
    (hs:(assignEach (e :: es) X.env).map (·.2)=assign e X.env :: (assignEach es X.env).map (·.2):=by rfl):PGs X (e :: es) (gCons t u):=by
  intro pins s σ H vs us Q I r h
  obtain ⟨v,vr,e1,h⟩:=h
  subst e1
  cases r with
  | cons r rr =>
    rw [hs]
    refine assignInOrder_cons (thn (h1 pins s σ H _ _ _ I r h) fun _ s1 ⟨σ1,H1,I1,q1⟩=>?_)
    exact h2 pins s1 σ1 H1 _ _ Q I1 rr q1
noncomputable def gTup (K:PySem.W.Frag) (n:Nat) (t:TGs):TG:=fun v σ H Q=>∃ a xs,v=.ref a /\ SqT K H a xs /\ xs.length=n /\ t xs σ H Q
theorem pg_tup {es:List Expr} {k:Nat} {t:TGs} {n:Nat} (hc:X.calm=true) (h:PGs X es t)
    (hn:(assignEach es X.env).length=n:=by rfl) (hst:(assignEach es X.env).findIdx? (·.1)=none:=by rfl):PG X (.Tuple es k pos) (gTup X.K n t):=by
  intro pins s σ H v u Q I r hw
  obtain ⟨a,xs,e1,hq,hl,hw⟩:=hw
  subst e1
  cases r
  obtain ⟨its,rv,ht,hz⟩:=I.tuple hq
  refine assign_Tuple_tuple (I.ok.hd hc) ht (by simp [hn,<- hl,rv.length]) hst fun h' hx=>?_
  have I1:Inv X pins σ H { s with heap:=h' }:=I.kept (t':=s.toks) fun b o e=>hx b o (Nat.ne_of_lt (Heap.lt_size e)) e
  exact h pins _ σ H xs _ Q I1 (by simpa using rv) hw
noncomputable def tAsg (te:TE) (g:TG):TS:=fun D σ H=>te σ H fun x H1=>g x σ H1 D.nx
theorem ps_set {i:Nat} {x:Str} {e:Expr} {te:TE} {pos':Pos} (hN:X.N.Nodup) (hi:X.N[i]?=some x) (hx:Loc X.env.scope x) (he:PE X e te) (hs:swapsWith e (some (.Name x pos')) pos.line X.env=pure false:=by rfl) (hf:X.fn x=true \/ X.env.scope.names.lookup x=some .local:=by first | exact .inl rfl | exact .inr rfl | assumption) :
    PS X (.Assign [.Name x pos'] e pos) (tAsg te (gName i)):=by
  intro pins s σ H D I h
  refine wpAny_Assign_Name (thn (he pins s σ H _ I h) fun v s1 ⟨y,H1,I1,r1,q1⟩=>?_) hs
  exact store_ok I1 hN hi hx r1 (fun s2 I2=>⟨_,H1,I2,q1⟩) hf
end
section
variable {X:Cx} {pos:Pos}
end
structure It where
  go:Nat->Hp->Prop
  yld:Nat->Hp->V->Hp->Prop
  stop:Nat->Hp->Prop
noncomputable def FpOk (X:Cx) (pins:List (Addr × Obj)) (H:Hp) (b:Addr):Prop :=
  H b=none /\ b ≠ X.env.locals /\ b ∉ X.fs /\ (b ∈ X.ex \/ X.s₀.heap.objs.size<=b) /\ (∀ x c,X.env.cells.lookup x=some c->c ≠ b) /\ ∀ p ∈ X.pn ++ pins,p.1 ≠ b
theorem Inv.fpOk {X:Cx} {pins:List (Addr × Obj)} {σ:St} {H H':Hp} {s:Shared} {b:Addr} (I:Inv X pins σ H s) (hb:s.heap.objs.size<=b) (hn:H' b=none):FpOk X pins H' b:=by
  refine ⟨hn,Nat.ne_of_gt (Nat.lt_of_lt_of_le I.lt hb),I.nofs hb,.inr (Nat.le_trans I.sz hb),fun x c e z=>?_,fun p hp z=>?_⟩
  · obtain ⟨v,q⟩:=I.cell x c e
    exact absurd (Nat.lt_of_lt_of_le q.lt (by rw [z]; exact hb)) (Nat.lt_irrefl _)
  · exact absurd (Nat.lt_of_lt_of_le (Heap.lt_size (I.pin p hp).1) (by rw [z]; exact hb)) (Nat.lt_irrefl _)
structure Turn (P:Program) (w:World) (K:PySem.W.Frag) (tg:Expr) (J:It) (fp:List Addr) (it:Addr) (tn:Nat->Heap->Prop):Prop where
  mem:it ∈ fp
  obj:∀ i h,tn i h->∀ b ∈ fp,∃ o,h.get? b=some o /\ ∀ v,o.data ≠ .cell v
  keep:∀ i h h',tn i h->(∀ b ∈ fp,∀ o,h.get? b=some o->h'.get? b=some o)->tn i h'
  item:∀ (X:Cx),X.prog=P->X.w=w->X.K=K->X.calm=true->∀ (i:Nat) (pins:List (Addr × Obj)) (s:Shared) (σ:St) (H:Hp) (E:Value->Shared->Prop),Inv X pins σ H s->(∀ b ∈ fp,FpOk X pins H b)->tn i s.heap->J.go i H ->
    wpAny (model P w) X.A (pyNext (.ref it)) (fun r s1=>∃ u,r=some u /\
      wpAny (model P w) X.A (letOwnedTupleGo tg (.ref it) u) (fun _ s2=>∃ x H',Inv X pins σ H' s2 /\ RelV x u /\ J.yld i H x H' /\ tn (i + 1) s2.heap /\ ∀ b ∈ fp,H' b=none) E s1) E s
  done:∀ (X:Cx),X.prog=P->X.w=w->X.K=K->X.calm=true->∀ (i:Nat) (pins:List (Addr × Obj)) (s:Shared) (σ:St) (H:Hp) (E:Value->Shared->Prop),Inv X pins σ H s->(∀ b ∈ fp,FpOk X pins H b)->tn i s.heap->J.stop i H ->
    wpAny (model P w) X.A (pyNext (.ref it)) (fun r s1=>r=none /\ Inv X pins σ H s1) E s
  self:∀ (A:Around) (i:Nat) (s:Shared) (Q:Value->Shared->Prop) (E:Value->Shared->Prop),tn i s.heap->Q (.ref it) s->wpAny (model P w) A (pyIter (.ref it)) Q E s
noncomputable abbrev TI:=St->Hp->(It->Hp->Prop)->Prop
noncomputable def PIE (X:Cx) (pins:List (Addr × Obj)) (σ:St) (tg:Expr) (R:It->Hp->Prop) (itv:Value) (s2:Shared):Prop :=
  ∃ (it:Addr) (fp:List Addr) (tn:Nat->Heap->Prop) (J:It) (H':Hp),itv=.ref it /\ Inv X pins σ H' s2 /\ Turn X.prog X.w X.K tg J fp it tn /\ tn 0 s2.heap /\ (∀ b ∈ fp,FpOk X pins H' b) /\ R J H'
noncomputable def PI (X:Cx) (tg iter:Expr) (wi:TI):Prop :=
  ∀ (pins:List (Addr × Obj)) (s:Shared) (σ:St) (H:Hp) (R:It->Hp->Prop),Inv X pins σ H s->wi σ H R ->
    wpAny (model X.prog X.w) X.A (eval iter X.env) (fun v s1=>wpAny (model X.prog X.w) X.A (pyIter v) (PIE X pins σ tg R) X.xe s1) X.xe s
theorem go_of {M:Model} {A:Around} {E:Value->Shared->Prop} {s:Shared} {tg:Expr} {it:Addr} {u:Value} {o:Obj} {n:String} {vs:Array Value} {Q:Unit->Shared->Prop} (ho:s.heap.get? it=some o) (hc:o.cls=.type n) (hd:o.data=.fields vs)
    (hn:["enumerate","zip","dict_itemiterator","dict_reverseitemiterator","odict_iterator","itertools.zip_longest","itertools.pairwise"].contains n=false) (hQ:Q () s):wpAny M A (letOwnedTupleGo tg (.ref it) u) Q E s:=by
  unfold letOwnedTupleGo
  cases tg <;> first
    | exact wpAny_pure hQ
    | (cases u <;> first
        | exact wpAny_pure hQ
        | (refine wpAny_bind (wpAny_load ho ?_)
           rw [hc,hd]
           show wpAny M A (if (["enumerate","zip","dict_itemiterator","dict_reverseitemiterator","odict_iterator","itertools.zip_longest","itertools.pairwise"].contains n && vs[0]? == some (rawInt _))=true then _ else _) Q E s
           rw [if_neg (by intro h; rw [hn,Bool.false_and] at h; cases h)]
           exact wpAny_pure hQ))
noncomputable def Itl (K:PySem.W.Frag) (a:Addr):It :=
  ⟨fun i H=>∃ xs x,SqL K H a xs /\ xs[i]?=some x,fun i H x H'=>H'=H /\ ∀ xs,SqL K H a xs->xs[i]?=some x,fun i H=>∃ xs,SqL K H a xs /\ xs.length<=i⟩
noncomputable def Itt (K:PySem.W.Frag) (a:Addr):It :=
  ⟨fun i H=>∃ xs x,SqT K H a xs /\ xs[i]?=some x,fun i H x H'=>H'=H /\ ∀ xs,SqT K H a xs->xs[i]?=some x,fun i H=>∃ xs,SqT K H a xs /\ xs.length<=i⟩
noncomputable def Itr (lo:Int) (n:Nat):It:=⟨fun i _=>i < n,fun i H x H'=>H'=H /\ x=.int (lo + i),fun i _=>n<=i⟩
theorem turn_list {P:Program} {w:World} {K:PySem.W.Frag} {tg:Expr} (a it:Addr):Turn P w K tg (Itl K a) [it] it (fun i h=>h.IsListIter it a i) where
  mem:=by simp
  obj:=fun i h st b hb=>by
    have e:b=it:=by simpa using hb
    subst e
    obtain ⟨o,e,c,d⟩:=st
    exact ⟨o,e,fun v z=>by rw [d] at z; cases z⟩
  keep:=fun i h h' st k=>st.at fun o e=>k it (by simp) o e
  item:=by
    intro X hP hw hK hc i pins s σ H E I hf st hg
    subst hP hw hK
    obtain ⟨xs,x,hq,hx⟩:=hg
    obtain ⟨its,rv,p,hz⟩:=I.list hq
    obtain ⟨u,hu,ru⟩:=rv.get hx
    obtain ⟨f0,f1,f2,f3,f4,f5⟩:=hf it (by simp)
    refine wpAny_pyNext_list_item st p.isList (x:=u) (by simpa using hu) fun h' st' sb=>?_
    have I1:Inv X pins σ H { s with heap:=h' }:=I.turned (t':=s.toks) (fun b o hb e=>(sb.2 b hb).trans e) f0 f1 f3 f4 f5
    obtain ⟨o,e,c,d⟩:=id st'
    exact ⟨u,rfl,go_of (s:={ s with heap:=h' }) e c d (by decide) ⟨x,H,I1,ru,⟨rfl,fun ys hy=>by rw [I.list_inj hy hq]; exact hx⟩,st',fun b hb=>(hf b hb).1⟩⟩
  done:=by
    intro X hP hw hK hc i pins s σ H E I hf st hg
    subst hP hw hK
    obtain ⟨xs,hq,hx⟩:=hg
    obtain ⟨its,rv,p,hz⟩:=I.list hq
    obtain ⟨f0,f1,f2,f3,f4,f5⟩:=hf it (by simp)
    have hl:=rv.length
    exact wpAny_pyNext_list_end (I.ok.hd hc) st p.isList (by simp; omega) fun h' eb=>⟨rfl,I.turned (t':=s.toks) (fun b o hb e=>eb b o hb e) f0 f1 f3 f4 f5⟩
  self:=fun _ _ _ _ _ st h=>wpAny_pyIter_listiter st h
theorem turn_tuple {P:Program} {w:World} {K:PySem.W.Frag} {tg:Expr} (a it:Addr):Turn P w K tg (Itt K a) [it] it (fun i h=>h.IsTupleIter it a i) where
  mem:=by simp
  obj:=fun i h st b hb=>by
    have e:b=it:=by simpa using hb
    subst e
    obtain ⟨o,e,c,d⟩:=st
    exact ⟨o,e,fun v z=>by rw [d] at z; cases z⟩
  keep:=fun i h h' st k=>st.at fun o e=>k it (by simp) o e
  item:=by
    intro X hP hw hK hc i pins s σ H E I hf st hg
    subst hP hw hK
    obtain ⟨xs,x,hq,hx⟩:=hg
    obtain ⟨its,rv,p,hz⟩:=I.tuple hq
    obtain ⟨u,hu,ru⟩:=rv.get hx
    obtain ⟨f0,f1,f2,f3,f4,f5⟩:=hf it (by simp)
    refine wpAny_pyNext_tuple_item st (show s.heap.IsTuple a its.toArray from p) (x:=u) (by simpa using hu) fun h' st' sb=>?_
    have I1:Inv X pins σ H { s with heap:=h' }:=I.turned (t':=s.toks) (fun b o hb e=>(sb.2 b hb).trans e) f0 f1 f3 f4 f5
    obtain ⟨o,e,c,d⟩:=id st'
    exact ⟨u,rfl,go_of (s:={ s with heap:=h' }) e c d (by decide) ⟨x,H,I1,ru,⟨rfl,fun ys hy=>by rw [I.tuple_inj hy hq]; exact hx⟩,st',fun b hb=>(hf b hb).1⟩⟩
  done:=by
    intro X hP hw hK hc i pins s σ H E I hf st hg
    subst hP hw hK
    obtain ⟨xs,hq,hx⟩:=hg
    obtain ⟨its,rv,p,hz⟩:=I.tuple hq
    obtain ⟨f0,f1,f2,f3,f4,f5⟩:=hf it (by simp)
    have hl:=rv.length
    exact wpAny_pyNext_tuple_end (I.ok.hd hc) st (show s.heap.IsTuple a its.toArray from p) (by simp; omega) fun h' eb=>⟨rfl,I.turned (t':=s.toks) (fun b o hb e=>eb b o hb e) f0 f1 f3 f4 f5⟩
  self:=fun _ _ _ _ _ st h=>wpAny_pyIter_tupleiter st h
theorem turn_range {P:Program} {w:World} {K:PySem.W.Frag} {tg:Expr} (it:Addr) (lo:Int) (n:Nat):Turn P w K tg (Itr lo n) [it] it (fun i h=>IsRangeIter h it (lo + (i:Nat) * 1) ((n:Int) - (i:Nat)) 1) where
  mem:=by simp
  obj:=fun i h st b hb=>by
    have e:b=it:=by simpa using hb
    subst e
    exact ⟨_,st,fun v z=>by
      have z':Data.fields _=Data.cell v:=z
      cases z'⟩
  keep:=fun i h h' st k=>k it (by simp) _ st
  item:=by
    intro X hP hw hK hc i pins s σ H E I hf st hg
    subst hP hw hK
    obtain ⟨f0,f1,f2,f3,f4,f5⟩:=hf it (by simp)
    have W:=Walks.range (prog:=X.prog) (w:=X.w) (I.ok.hd hc) it lo 1 n
    refine W.item i s _ _ hg st fun v h' tk hv st' kk=>?_
    obtain ⟨t,rfl⟩:=hv
    have I1:Inv X pins σ H { s with heap:=h',toks:=tk }:=I.turned (fun b o hb e=>kk b o (by simpa using hb) e) f0 f1 f3 f4 f5
    refine ⟨_,rfl,go_of (s:={ s with heap:=h',toks:=tk }) (n:="range_iterator") st' rfl rfl (by decide) ⟨.int (lo + i),H,I1,⟨t,?_⟩,⟨rfl,rfl⟩,st',fun b hb=>(hf b hb).1⟩⟩
    rw [Int.mul_one]
  done:=by
    intro X hP hw hK hc i pins s σ H E I hf st hg
    subst hP hw hK
    obtain ⟨f0,f1,f2,f3,f4,f5⟩:=hf it (by simp)
    exact wpAny_pyNext_range_end (I.ok.hd hc) st (by have:n<=i:=hg; omega) fun h' eb=>⟨rfl,I.turned (t':=s.toks) (fun b o hb e=>eb b o hb e) f0 f1 f3 f4 f5⟩
  self:=fun _ _ _ _ _ st h=>wpAny_pyIter_rangeiter st h
end L2
namespace L2
open PySem PySem.Spec PyProof.Rows
section
variable {X:Cx} {tg:Expr}
noncomputable def iList (K:PySem.W.Frag) (tl:TE):TI:=fun σ H R=>tl σ H fun x H1=>∃ a,x=.ref a /\ (∃ xs,SqL K H1 a xs) /\ R (Itl K a) H1
theorem pi_list {l:Expr} {tl:TE} (hl:PE X l tl):PI X tg l (iList X.K tl):=by
  intro pins s σ H R I h
  refine thn (hl pins s σ H _ I h) fun v s1 ⟨x,H1,I1,r1,q1⟩=>?_
  obtain ⟨a,e,⟨xs,hq⟩,q⟩:=q1
  subst e
  cases r1
  obtain ⟨its,rv,p,hz⟩:=I1.list hq
  refine wpAny_pyIter_list p.isList ?_
  refine ⟨s1.heap.objs.size,[s1.heap.objs.size],_,_,H1,rfl,I1.kept (t':=s1.toks) fun b o e=>Heap.get?_push_of_some _ e,turn_list a _,⟨_,Heap.get?_push_size _ rfl,rfl,rfl⟩,fun b hb=>?_,q⟩
  have e:b=s1.heap.objs.size:=by simpa using hb
  subst e
  exact I1.fpOk (Nat.le_refl _) (I1.hok.fresh (Nat.le_refl _))
theorem range_it {pins:List (Addr × Obj)} {σ:St} {H:Hp} {s:Shared} {R:It->Hp->Prop} {E:Value->Shared->Prop} {lo hi:Int} {t u v:Tok} {tk:Nat} (I:Inv X pins σ H s) (h1:-(2 ^ 62)<=lo) (h2:lo < 2 ^ 62) (h3:-(2 ^ 62)<=hi) (h4:hi < 2 ^ 62)
    (q:R (Itr lo (hi - lo).toNat) H):wpAny (model X.prog X.w) X.A (pyIter (.ref s.heap.objs.size)) (PIE X pins σ tg R) E { s with heap:=s.heap.push { cls:=.type "range",data:=.fields #[.int lo t,.int hi u,.int 1 v] },toks:=tk }:=by
  refine wpAny_pyIter_range (IsRange.new ..) (small_one h1 h2 h3 h4) ?_
  have I1:Inv X pins σ H { s with heap:=s.heap.push { cls:=.type "range",data:=.fields #[.int lo t,.int hi u,.int 1 v] },toks:=tk }:=I.kept fun b o e=>Heap.get?_push_of_some _ e
  refine ⟨(s.heap.push { cls:=.type "range",data:=.fields #[.int lo t,.int hi u,.int 1 v] }).objs.size,[(s.heap.push { cls:=.type "range",data:=.fields #[.int lo t,.int hi u,.int 1 v] }).objs.size],_,_,H,rfl,
    I1.kept (t':=tk) fun b o e=>Heap.get?_push_of_some _ e,turn_range _ lo (hi - lo).toNat,?_,fun b hb=>?_,q⟩
  · have e1:lo + ((0:Nat):Int) * 1=lo:=by simp
    have e2:(((hi - lo).toNat:Nat):Int) - ((0:Nat):Int)=Builtin.Range.rangeSize lo hi 1:=by rw [rangeSize_one]; split <;> omega
    show IsRangeIter _ _ (lo + ((0:Nat):Int) * 1) ((((hi - lo).toNat:Nat):Int) - ((0:Nat):Int)) 1
    rw [e1,e2]
    exact Heap.get?_push_size _ rfl
  · have e:b=(s.heap.push { cls:=.type "range",data:=.fields #[.int lo t,.int hi u,.int 1 v] }).objs.size:=by simpa using hb
    subst e
    exact I1.fpOk (Nat.le_refl _) (I1.hok.fresh (Nat.le_refl _))
noncomputable def iRng1 (ta:TA):TI:=fun σ H R=>ta σ H fun vs H1=>∃ j:Int,vs=[.int j] /\ -(2 ^ 62)<=j /\ j < 2 ^ 62 /\ R (Itr 0 j.toNat) H1
theorem pi_range1 {a:Expr} {ta:TA} {p pos:Pos} (hg:Gl X "range") (hm:X.mg "range"=none) (ha:PA X [a] ta) (hs:starEach [a] X.env=[(false,eval a X.env)]:=by rfl):PI X tg (.Call (.Name "range" p) [a] [] pos) (iRng1 ta):=by
  intro pins s σ H R I h
  refine Call_ (ld_blt I hg hm boot_range (PyProof.Rows.callWith_type1 (thn (ha pos pins s σ H _ I h) fun us s1 ⟨vs,H1,I1,r1,q1⟩=>?_) hs rfl))
  obtain ⟨j,e,q1,q2,q⟩:=q1
  subst e
  cases r1 with
  | cons r rr =>
    cases rr
    obtain ⟨t,rfl⟩:=r
    exact call_range_1 (range_it I1 (by omega) (by omega) q1 q2 (by simpa using q))
noncomputable def tFor (wi:TI) (g:TG) (tb:TS):TS:=fun D σ H=>wi σ H fun J H1=>∃ W:Nat->Nat->St->Hp->Prop,(∃ m,W 0 m σ H1) /\ ∀ i m σ H,W i m σ H ->
  (J.stop i H /\ D.nx σ H) \/ (J.go i H /\ ∃ N:St->Hp->Prop,(∀ σ' H',N σ' H'->∃ m',m' < m /\ W (i + 1) m' σ' H') /\ ∀ x H',J.yld i H x H'->g x σ H' fun σ2 H2=>tb { D with nx:=N,ct:=N,bk:=D.nx } σ2 H2)
noncomputable def pinsAt (fp:List Addr) (h:Heap):List (Addr × Obj):=fp.filterMap fun b=>(h.get? b).map fun o=>(b,o)
theorem mem_pinsAt {fp:List Addr} {h:Heap} {b:Addr} {o:Obj} (hb:b ∈ fp) (e:h.get? b=some o):(b,o) ∈ pinsAt fp h:=List.mem_filterMap.mpr ⟨b,hb,by rw [e]; rfl⟩
theorem of_pinsAt {fp:List Addr} {h:Heap} {p:Addr × Obj} (hp:p ∈ pinsAt fp h):p.1 ∈ fp /\ h.get? p.1=some p.2:=by
  obtain ⟨b,hb,e⟩:=List.mem_filterMap.mp hp
  cases q:h.get? b with
  | none=>rw [q] at e; cases e
  | some o =>
    rw [q] at e
    have e':(b,o)=p:=Option.some.inj e
    subst e'
    exact ⟨hb,q⟩
theorem Inv.pinned {pins:List (Addr × Obj)} {σ:St} {H:Hp} {s:Shared} {fp:List Addr} (I:Inv X pins σ H s) (hf:∀ b ∈ fp,FpOk X pins H b) (ho:∀ b ∈ fp,∃ o,s.heap.get? b=some o /\ ∀ v,o.data ≠ .cell v):Inv X (pins ++ pinsAt fp s.heap) σ H s :=
  I.pins_of fun p hp=>(List.mem_append.mp hp).elim (fun z=>I.pin p (List.mem_append_right _ z)) fun z=>by
    obtain ⟨hb,e⟩:=of_pinsAt z
    obtain ⟨f0,f1,f2,_⟩:=hf p.1 hb
    obtain ⟨o,e',d⟩:=ho p.1 hb
    rw [e] at e'; cases e'
    exact ⟨e,f0,f1,f2,d⟩
theorem Inv.unpinned {pins pl:List (Addr × Obj)} {σ:St} {H:Hp} {s:Shared} (I:Inv X (pins ++ pl) σ H s):Inv X pins σ H s:=I.pins_of fun p hp=>I.pin p (List.mem_append_right _ (List.mem_append_left _ hp))
theorem ps_for {iter:Expr} {body:List Stmt} {wi:TI} {g:TG} {tb:TS} {pos:Pos} (hp:PassesOwn (model X.prog X.w) X.A X.env X.xe) (hc:X.calm=true) (hi:PI X tg iter wi) (hg:PG X tg g) (hb:PSs X body tb)
    (hs:∀ x,foldedSetIterable iter X.env x=pure x:=by intro _; rfl):PS X (.For tg iter body [] pos) (tFor wi g tb):=by
  intro pins s σ H D I h
  refine wpAny_For (thn (hi pins s σ H _ I h) fun v s1 h1=>thn h1 fun itv s2 h2=>?_) hs
  obtain ⟨it,fp,tn,J,H2,e,I2,T,st2,f2,W,⟨m0,w0⟩,turn⟩:=h2
  subst e
  have stat:∀ {H':Hp},(∀ b ∈ fp,H' b=none)->∀ b ∈ fp,FpOk X pins H' b:=fun hn b hb=>⟨hn b hb,(f2 b hb).2⟩
  refine codeAny_forLoop_any (fun n s'=>∃ i σ' H',Inv X pins σ' H' s' /\ tn i s'.heap /\ (∀ b ∈ fp,H' b=none) /\ W i n σ' H') ?_ m0 ⟨0,σ,H2,I2,st2,fun b hb=>(f2 b hb).1,w0⟩
  rintro n s3 ⟨i,σ3,H3,I3,st3,fr3,w3⟩
  rcases turn i n σ3 H3 w3 with ⟨stop,qn⟩ | ⟨go,N,hN,step⟩
  · refine wpAny_passesOwn hp (thn (T.done X rfl rfl rfl hc i pins s3 σ3 H3 X.xe I3 (stat fr3) st3 stop) fun r s4 ⟨hr,I4⟩=>?_)
    subst hr
    exact wpAny_execs_nil ⟨σ3,H3,I4,qn⟩
  · refine wpAny_passesOwn hp (thn (T.item X rfl rfl rfl hc i pins s3 σ3 H3 X.xe I3 (stat fr3) st3 go) fun r s4 ⟨u,hr,h4⟩=>?_)
    subst hr
    refine wpAny_passesOwn hp (thn h4 fun _ s5 ⟨x,H5,I5,r5,y5,st5,fr5⟩=>?_)
    have I5':=I5.pinned (stat fr5) (T.obj _ _ st5)
    refine wpAny_passesOwn hp (thn (hg _ s5 σ3 H5 x u _ I5' r5 (step x H5 y5)) fun _ s6 ⟨σ6,H6,I6,q6⟩=>?_)
    refine wpAny_passesOwn hp (thn (hb _ s6 σ6 H6 _ I6 q6) fun f s7 q7=>?_)
    have again:∀ {σ7:St} {H7:Hp},Inv X (pins ++ pinsAt fp s5.heap) σ7 H7 s7->N σ7 H7->∃ m,m < n /\ ∃ i σ' H',Inv X pins σ' H' s7 /\ tn i s7.heap /\ (∀ b ∈ fp,H' b=none) /\ W i m σ' H':=fun {σ7 H7} I7 n7=>by
      obtain ⟨m',hm,w7⟩:=hN σ7 H7 n7
      refine ⟨m',hm,i + 1,σ7,H7,I7.unpinned,T.keep _ _ _ st5 fun b hb o e=>(I7.pin (b,o) (List.mem_append_right _ (List.mem_append_right _ (mem_pinsAt hb e)))).1,fun b hb=>?_,w7⟩
      obtain ⟨o,e,d⟩:=T.obj _ _ st5 b hb
      exact (I7.pin (b,o) (List.mem_append_right _ (List.mem_append_right _ (mem_pinsAt hb e)))).2.1
    cases f with
    | next=>obtain ⟨σ7,H7,I7,n7⟩:=q7; exact again I7 n7
    | cont=>obtain ⟨σ7,H7,I7,n7⟩:=q7; exact again I7 n7
    | brk=>obtain ⟨σ7,H7,I7,q7⟩:=q7; exact ⟨σ7,H7,I7.unpinned,q7⟩
    | ret v=>obtain ⟨x7,σ7,H7,I7,r7,q7⟩:=q7; exact ⟨x7,σ7,H7,I7.unpinned,r7,q7⟩
end
end L2
namespace L2
open PySem PySem.Spec PyProof.Rows
noncomputable abbrev R2:=V->V->Hp->VK->Prop
noncomputable def OpR (X:Cx) (f:Value->Value->Sem Value) (r:R2):Prop :=
  ∀ (pins:List (Addr × Obj)) (s:Shared) (σ:St) (H:Hp) (x y:V) (v u:Value) (Q:VK),Inv X pins σ H s->RelV x v->RelV y u->r x y H Q ->
    wpAny (model X.prog X.w) X.A (f v u) (EP X pins σ Q) X.xe s
noncomputable def UnR (X:Cx) (f:Value->Sem Value) (r:V->Hp->VK->Prop):Prop :=
  ∀ (pins:List (Addr × Obj)) (s:Shared) (σ:St) (H:Hp) (x:V) (v:Value) (Q:VK),Inv X pins σ H s->RelV x v->r x H Q ->
    wpAny (model X.prog X.w) X.A (f v) (EP X pins σ Q) X.xe s
noncomputable def CallR (X:Cx) (f:Value) (r:List V->Hp->VK->Prop):Prop :=
  ∀ (pins:List (Addr × Obj)) (s:Shared) (σ:St) (H:Hp) (xs:List V) (us:List Value) (Q:VK),Inv X pins σ H s->Vals xs us->r xs H Q ->
    wpAny (model X.prog X.w) X.A (call f us) (EP X pins σ Q) X.xe s
noncomputable def tOp (r:R2) (ta tb:TE):TE:=fun σ H Q=>ta σ H fun x H1=>tb σ H1 fun y H2=>r x y H2 Q
noncomputable def tUn (r:V->Hp->VK->Prop) (ta:TE):TE:=fun σ H Q=>ta σ H fun x H1=>r x H1 Q
noncomputable def rI (C:Int->Int->Prop) (g:Int->Int->V):R2:=fun x y H Q=>∃ i j,x=.int i /\ y=.int j /\ C i j /\ Q (g i j) H
noncomputable def rI0 (g:Int->Int->V):R2:=fun x y H Q=>∃ i j,x=.int i /\ y=.int j /\ Q (g i j) H
noncomputable def rU (g:Int->V):V->Hp->VK->Prop:=fun x H Q=>∃ i,x=.int i /\ Q (g i) H
section
variable {X:Cx} {a b c:Expr} {ta tb tc:TE} {pos:Pos}
theorem binT (ha:PE X a ta) (hb:PE X b tb) {pins:List (Addr × Obj)} {s:Shared} {σ:St} {H:Hp} {R:V->V->Hp->Prop} (I:Inv X pins σ H s)
    (h:ta σ H fun x H1=>tb σ H1 fun y H2=>R x y H2) {Q:Value->Shared->Prop} {f:Value->Value->Sem Value}
    (hf:∀ v u s2 x y H2,Inv X pins σ H2 s2->RelV x v->RelV y u->R x y H2->wpAny (model X.prog X.w) X.A (f v u) Q X.xe s2) :
    wpAny (model X.prog X.w) X.A (eval a X.env) (fun v s₁=>wpAny (model X.prog X.w) X.A (eval b X.env) (fun u s₂=>wpAny (model X.prog X.w) X.A (f v u) Q X.xe s₂) X.xe s₁) X.xe s:=by
  refine thn (ha pins s σ H _ I h) fun v s1 ⟨x,H1,I1,r1,q1⟩=>?_
  refine thn (hb pins s1 σ H1 _ I1 q1) fun u s2 ⟨y,H2,I2,r2,q2⟩=>?_
  exact hf v u s2 x y H2 I2 r1 r2 q2
theorem pe_op {op:Operator} {r:R2} (ho:OpR X (binaryOp op) r) (ha:PE X a ta) (hb:PE X b tb):PE X (.BinOp a op b pos) (tOp r ta tb):=by
  intro pins s σ H Q I h
  exact wpAny_BinOp (binT ha hb I h fun v u s2 x y H2 I2 rx ry q=>ho pins s2 σ H2 x y v u Q I2 rx ry q)
theorem pe_un {op:UnaryOp} {r:V->Hp->VK->Prop} (ho:UnR X (unaryOp op) r) (ha:PE X a ta):PE X (.UnaryOp op a pos) (tUn r ta):=by
  intro pins s σ H Q I h
  exact UnaryOp_ (thn (ha pins s σ H _ I h) fun v s1 ⟨x,H1,I1,r1,q1⟩=>ho pins s1 σ H1 x v Q I1 r1 q1)
theorem opI {f:Value->Value->Sem Value} {C:Int->Int->Prop} {g:Int->Int->Int}
    (rule:∀ (i j:Int) (t u:Tok) (s:Shared) (Q:Value->Shared->Prop) (E:Value->Shared->Prop),C i j->Q (.int (g i j) s.toks) { s with toks:=s.toks + 1 }->wpAny (model X.prog X.w) X.A (f (.int i t) (.int j u)) Q E s) :
    OpR X f (rI C fun i j=>.int (g i j)):=by
  intro pins s σ H x y v u Q I rx ry h
  obtain ⟨i,j,rfl,rfl,hc,q⟩:=h
  obtain ⟨t,rfl⟩:=rx
  obtain ⟨t',rfl⟩:=ry
  exact rule i j t t' s _ _ hc ⟨.int (g i j),H,I.tok _,⟨_,rfl⟩,q⟩
theorem opI0 {f:Value->Value->Sem Value} {g:Int->Int->Int}
    (rule:∀ (i j:Int) (t u:Tok) (s:Shared) (Q:Value->Shared->Prop) (E:Value->Shared->Prop),Q (.int (g i j) s.toks) { s with toks:=s.toks + 1 }->wpAny (model X.prog X.w) X.A (f (.int i t) (.int j u)) Q E s) :
    OpR X f (rI0 fun i j=>.int (g i j)):=by
  intro pins s σ H x y v u Q I rx ry h
  obtain ⟨i,j,rfl,rfl,q⟩:=h
  obtain ⟨t,rfl⟩:=rx
  obtain ⟨t',rfl⟩:=ry
  exact rule i j t t' s _ _ ⟨.int (g i j),H,I.tok _,⟨_,rfl⟩,q⟩
theorem opB0 {f:Value->Value->Sem Value} {g:Int->Int->Bool}
    (rule:∀ (i j:Int) (t u:Tok) (s:Shared) (Q:Value->Shared->Prop) (E:Value->Shared->Prop),Q (.bool (g i j)) s->wpAny (model X.prog X.w) X.A (f (.int i t) (.int j u)) Q E s) :
    OpR X f (rI0 fun i j=>.bl (g i j)):=by
  intro pins s σ H x y v u Q I rx ry h
  obtain ⟨i,j,rfl,rfl,q⟩:=h
  obtain ⟨t,rfl⟩:=rx
  obtain ⟨t',rfl⟩:=ry
  exact rule i j t t' s _ _ ⟨.bl (g i j),H,I,rfl,q⟩
noncomputable def CDiv (i j:Int):Prop:=0 < j /\ j < 1073741824
noncomputable def CPow (i j:Int):Prop:=0<=j /\ j<=1000000 /\ i.natAbs < 2 ^ 64
noncomputable def CMul (i j:Int):Prop:=(-(2 ^ 64) < i /\ i < 2 ^ 64) \/ (-(2 ^ 64) < j /\ j < 2 ^ 64)
theorem CMul.ok {i j:Int} (h:CMul i j):IntMulOk i j:=by
  rcases h with ⟨h1,h2⟩ | ⟨h1,h2⟩
  · exact .of_left (intBits_le_64 h1 h2)
  · exact .of_right (intBits_le_64 h1 h2)
theorem two_pow_nn (k:Nat):(0:Int)<=2 ^ k:=by
  rw [two_pow_cast]
  exact Int.natCast_nonneg _
theorem op_add:OpR X (binaryOp .Add) (rI0 fun i j=>.int (i + j)):=opI0 fun _ _ _ _ _ _ _ q=>add_int q
theorem op_sub:OpR X (binaryOp .Sub) (rI0 fun i j=>.int (i - j)):=opI0 fun _ _ _ _ _ _ _ q=>sub_int q
theorem op_fdiv:OpR X (binaryOp .FloorDiv) (rI CDiv fun i j=>.int (i / j)):=opI fun i j _ _ _ _ _ hc q=>by
  have h1:(0:Int) < j:=hc.1
  have h2:j < 1073741824:=hc.2
  exact floordiv_int (by omega) (by rw [Int.fdiv_eq_ediv_of_nonneg i (by omega)]; exact q) (.inl (PyProof.noPylong_small (by omega)))
theorem op_mod:OpR X (binaryOp .Mod) (rI (fun _ j=>0 < j) fun i j=>.int (i % j)):=opI fun i j _ _ _ _ _ hc q=>by
  have h1:(0:Int) < j:=hc
  exact mod_int' (by omega) (by rw [Int.fmod_eq_emod_of_nonneg i (by omega)]; exact q)
theorem op_pow:OpR X (binaryOp .Pow) (rI CPow fun i j=>.int (i ^ j.toNat)):=opI fun _ _ _ _ _ _ _ hc q=>pow_int_small hc.1 hc.2.1 hc.2.2 q
theorem op_shr:OpR X (binaryOp .RShift) (rI (fun _ j=>0<=j) fun i j=>.int (i / 2 ^ j.toNat)):=opI fun i j _ _ _ _ _ hc q =>
  rshift_int hc (by rw [Int.fdiv_eq_ediv_of_nonneg i (two_pow_nn _)]; exact q)
theorem op_and:OpR X (binaryOp .BitAnd) (rI0 fun i j=>.int (Builtin.bitAnd i j)):=opI0 fun _ _ _ _ _ _ _ q=>and_int q
theorem op_or:OpR X (binaryOp .BitOr) (rI0 fun i j=>.int (Builtin.bitOr i j)):=opI0 fun _ _ _ _ _ _ _ q=>or_int q
theorem unI {f:Value->Sem Value} {g:Int->Int}
    (rule:∀ (i:Int) (t:Tok) (s:Shared) (Q:Value->Shared->Prop) (E:Value->Shared->Prop),Q (.int (g i) s.toks) { s with toks:=s.toks + 1 }->wpAny (model X.prog X.w) X.A (f (.int i t)) Q E s) :
    UnR X f (rU fun i=>.int (g i)):=by
  intro pins s σ H x v Q I rx h
  obtain ⟨i,rfl,q⟩:=h
  obtain ⟨t,rfl⟩:=rx
  exact rule i t s _ _ ⟨.int (g i),H,I.tok _,⟨_,rfl⟩,q⟩
theorem un_neg:UnR X (unaryOp .USub) (rU fun i=>.int (-i)):=unI fun _ _ _ _ _ q=>neg_int q
theorem un_inv:UnR X (unaryOp .Invert) (rU fun i=>.int (Builtin.bitNot i)):=unI fun _ _ _ _ _ q=>invert_int q
end
section
variable {X:Cx} {a b c:Expr} {ta tb tc:TE} {pos:Pos}
theorem fin_bl {pins:List (Addr × Obj)} {σ:St} {H:Hp} {s:Shared} {Q:VK} {k k':Bool} (I:Inv X pins σ H s) (q:Q (.bl k) H) (e:k=k'):EP X pins σ Q (.bool k') s:=by
  subst e
  exact ⟨.bl k,H,I,rfl,q⟩
theorem op_lt:OpR X (compareOp .Lt) (rI0 fun i j=>.bl (decide (i < j))):=opB0 fun _ _ _ _ _ _ _ q=>lt_int q
theorem op_le:OpR X (compareOp .LtE) (rI0 fun i j=>.bl (decide (i<=j))):=opB0 fun _ _ _ _ _ _ _ q=>le_int q
theorem op_gt:OpR X (compareOp .Gt) (rI0 fun i j=>.bl (decide (j < i))):=opB0 fun _ _ _ _ _ _ _ q=>gt_int q
theorem op_ge:OpR X (compareOp .GtE) (rI0 fun i j=>.bl (decide (j<=i))):=opB0 fun _ _ _ _ _ _ _ q=>ge_int q
theorem op_in_str:OpR X (compareOp .In) (fun x y H Q=>∃ i j,x=.str i /\ y=.str j /\ Q (.bl (!(Builtin.Str.occurrences j i 0 j.length 1).isEmpty)) H):=by
  intro pins s σ H x y v u Q I rx ry h
  obtain ⟨i,j,rfl,rfl,q⟩:=h
  obtain ⟨t,rfl⟩:=rx
  obtain ⟨t',rfl⟩:=ry
  exact in_str (fin_bl I q rfl)
theorem OpR.or {f:Value->Value->Sem Value} {r r':R2} (h:OpR X f r) (h':OpR X f r'):OpR X f (fun x y H Q=>r x y H Q \/ r' x y H Q):=by
  intro pins s σ H x y v u Q I rx ry q
  rcases q with q | q
  · exact h pins s σ H x y v u Q I rx ry q
  · exact h' pins s σ H x y v u Q I rx ry q
theorem nomark (b:Expr) {op:CmpOp} (h:op ≠ .In:=by decide) (h2:op ≠ .NotIn:=by decide):behindInMarks op b=false:=by
  have e1:(op == CmpOp.In)=false:=by cases op <;> first | rfl | exact absurd rfl h
  have e2:(op == CmpOp.NotIn)=false:=by cases op <;> first | rfl | exact absurd rfl h2
  cases b <;> simp [behindInMarks,e1,e2]
theorem pe_cmpR {op:CmpOp} {r:R2} (ho:OpR X (compareOp op) r) (ha:PE X a ta) (hb:PE X b tb) (hm:behindInMarks op b=false):PE X (.Compare a [op] [b] pos) (tOp r ta tb):=by
  intro pins s σ H Q I h
  exact wpAny_Compare1 (binT ha hb I h fun v u s2 x y H2 I2 rx ry q=>ho pins s2 σ H2 x y v u Q I2 rx ry q) hm
noncomputable def tTest (t:TE):TT:=fun σ H Q=>t σ H fun x H'=>∃ k,x=.bl k /\ Q k H'
theorem pt_cmpR {op:CmpOp} {r:R2} (ho:OpR X (compareOp op) r) (ha:PE X a ta) (hb:PE X b tb) (hm:behindInMarks op b=false):PT X (.Compare a [op] [b] pos) (tTest (tOp r ta tb)):=by
  intro pins s σ H Q I h
  refine wpAny_isTrue_Compare1 (thn (ha pins s σ H _ I h) fun v s1 ⟨x,H1,I1,r1,q1⟩=>thn (hb pins s1 σ H1 _ I1 q1) fun u s2 ⟨y,H2,I2,r2,q2⟩ =>
    thn (ho pins s2 σ H2 x y v u _ I2 r1 r2 q2) fun c s3 ⟨z,H3,I3,r3,k,e,q3⟩=>?_) hm
  subst e
  cases r3
  exact wpAny_truthy_bool ⟨H3,I3,q3⟩
theorem line63:(sizeLine:Nat) < 2 ^ 63:=by rw [sizeLine_eq]; decide
theorem op_add_str:OpR X (binaryOp .Add) (fun x y H Q=>∃ i j,x=.str i /\ y=.str j /\ i.length + j.length<=sizeLine /\ Q (.str (i ++ j)) H):=by
  intro pins s σ H x y v u Q I rx ry h
  obtain ⟨i,j,rfl,rfl,hz,q⟩:=h
  obtain ⟨t,rfl⟩:=rx
  obtain ⟨t',rfl⟩:=ry
  exact add_str (fun t' tk=>⟨.str (i ++ j),H,I.tok _,⟨_,rfl⟩,q⟩) hz
theorem vals1 {x:V} {us:List Value} (r:Vals [x] us):∃ u,us=[u] /\ RelV x u:=by
  cases r with
  | cons r1 r2=>cases r2; exact ⟨_,rfl,r1⟩
theorem vals2 {x y:V} {us:List Value} (r:Vals [x,y] us):∃ u w',us=[u,w'] /\ RelV x u /\ RelV y w':=by
  cases r with
  | cons r1 r2 =>
    cases r2 with
    | cons r3 r4=>cases r4; exact ⟨_,_,rfl,r1,r3⟩
theorem call_abs:CallR X (.builtin "abs") (fun xs H Q=>∃ i,xs=[.int i] /\ Q (.int (if i < 0 then -i else i)) H):=by
  intro pins s σ H xs us Q I r h
  obtain ⟨i,rfl,q⟩:=h
  obtain ⟨u,rfl,t,rfl⟩:=vals1 r
  exact call_abs_int fun u tk=>⟨.int (if i < 0 then -i else i),H,I.tok _,⟨_,rfl⟩,q⟩
theorem call_int1:CallR X (.type "int") (fun xs H Q=>(∃ i,xs=[.int i] /\ Q (.int i) H) \/ ∃ k,xs=[.bl k] /\ Q (.int (if k then 1 else 0)) H):=by
  intro pins s σ H xs us Q I r h
  rcases h with ⟨i,rfl,q⟩ | ⟨k,rfl,q⟩
  · obtain ⟨u,rfl,t,rfl⟩:=vals1 r
    exact call_int_int ⟨.int i,H,I,⟨_,rfl⟩,q⟩
  · obtain ⟨u,rfl,r1⟩:=vals1 r
    cases r1
    exact call_int_bool ⟨.int (if k then 1 else 0),H,I.tok _,⟨_,rfl⟩,q⟩
theorem call_str_int:CallR X (.type "str") (fun xs H Q=>∃ i,xs=[.int i] /\ i.natAbs.log2 < 1920 /\ Q (.str (toString i)) H):=by
  intro pins s σ H xs us Q I r h
  obtain ⟨i,rfl,hz,q⟩:=h
  obtain ⟨u,rfl,t,rfl⟩:=vals1 r
  exact PySem.P.str_of_int hz ⟨.str _,H,I.tok _,⟨_,rfl⟩,q⟩
noncomputable def LenV (K:PySem.W.Frag) (x:V) (H:Hp) (n:Nat):Prop :=
  match x with
  | .str y=>y.length<=sizeLine /\ n=y.length
  | .byt y=>y.size<=sizeLine /\ n=y.size
  | .ref p=>(∃ xs,SqL K H p xs /\ n=xs.length) \/ ∃ xs,SqT K H p xs /\ n=xs.length
  | _=>False
theorem call_len:CallR X (.builtin "len") (fun xs H Q=>∃ x n,xs=[x] /\ LenV X.K x H n /\ Q (.int n) H):=by
  intro pins s σ H xs us Q I r h
  obtain ⟨x,n,rfl,e,q⟩:=h
  obtain ⟨u,rfl,rx⟩:=vals1 r
  have hl:=line63
  have hs:sizeLine=16777216:=sizeLine_eq
  cases x with
  | str y =>
    obtain ⟨t,rfl⟩:=rx
    obtain ⟨hy,e'⟩:y.length<=sizeLine /\ n=y.length:=e
    subst e'
    exact len_str (by omega) ⟨.int _,H,I.tok _,⟨_,rfl⟩,q⟩
  | byt y =>
    obtain ⟨t,rfl⟩:=rx
    obtain ⟨hy,e'⟩:y.size<=sizeLine /\ n=y.size:=e
    subst e'
    exact PySem.W.len_bytes (by omega) ⟨.int _,H,I.tok _,⟨_,rfl⟩,q⟩
  | ref p =>
    cases rx
    have e':(∃ xs,SqL X.K H p xs /\ n=xs.length) \/ ∃ xs,SqT X.K H p xs /\ n=xs.length:=e
    rcases e' with ⟨xs,hx,e'⟩ | ⟨xs,hx,e'⟩
    · subst e'
      obtain ⟨its,r',pl,hz⟩:=I.list hx
      have hlen:=r'.length
      exact Calls.call_len_list pl.isList (by simp only [List.size_toArray]; omega) ⟨.int xs.length,H,I.tok _,⟨_,by simp only [List.size_toArray]; rw [hlen]⟩,q⟩
    · subst e'
      obtain ⟨its,r',pl,hz⟩:=I.tuple hx
      have hlen:=r'.length
      exact len_tuple pl (by simp only [List.size_toArray]; omega) ⟨.int xs.length,H,I.tok _,⟨_,by simp only [List.size_toArray]; rw [hlen]⟩,q⟩
  | _=>exact (show False from e).elim
end
end L2
namespace L2
open PySem PySem.Spec PyProof.Rows
structure ObjM (h:Heap) (x dx C:Addr) (mA:Str->Option Value):Prop where
  obj:h.get? x=some (PySem.W.instObj C dx)
  ns:h.Ns1 dx mA
  ne:dx ≠ x
theorem lookIn_ns {h:Heap} {dx:Addr} {mA:Str->Option Value} (n:h.Ns1 dx mA):∃ od,h.get? dx=some od /\ ∀ name,PySem.W.lookIn name od=some (mA name):=by
  obtain ⟨o,es,ep,ho,hd,hk,_,hm⟩:=n
  refine ⟨o,ho,fun name=>?_⟩
  have e:=hm name
  unfold nsFind findBy at e
  rw [<- Array.find?_toList] at e
  unfold PySem.W.lookIn
  rw [hd]
  dsimp only
  split
  · rename_i y q
    rw [q] at e
    exact congrArg some e
  · rename_i q
    rw [q] at e
    have a:es.toList.any (·.refKey)=false:=by
      rw [List.any_eq_false]
      intro y hy
      obtain ⟨z,t,hkey⟩:=hk y (Array.mem_toList_iff.mp hy)
      simp [DictEntry.refKey,hkey]
    have a':¬ es.toList.any (·.refKey)=true:=by rw [a]; exact Bool.false_ne_true
    rw [if_neg a']
    exact congrArg some e
theorem ObjM.look {h:Heap} {x dx C:Addr} {mA:Str->Option Value} (I:ObjM h x dx C mA):∃ od,PySem.W.InstAt h x (PySem.W.instObj C dx) C (some od) /\ ∀ name,PySem.W.lookIn name od=some (mA name) :=
  let ⟨od,ho,hl⟩:=lookIn_ns I.ns
  ⟨od,⟨I.obj,rfl,rfl,ho⟩,hl⟩
section
variable {prog:Program} {w:World} {A:Around} {E:Value->Shared->Prop} {s:Shared} {K:PySem.W.Frag} {x dx C f:Addr} {mA:Str->Option Value} {name:Str} {v:Value}
end
theorem RelO.some_of {v:V} {o:Option Value} (r:RelO (some v) o):∃ u,o=some u /\ RelV v u:=by
  cases o with
  | none=>exact (show False from r).elim
  | some u=>exact ⟨u,rfl,r⟩
section
variable {P:Program} {w:World} {H H':Hp} {h h':Heap} {a C dx:Addr} {fs fs':List (Str × V)}
theorem ins_get (hok:HOk P w H h) (e:H a=some (.ins C dx fs)):∃ mA,ObjM h a dx C mA /\ (∀ f,RelO (fs.lookup f) (mA f)) /\ PySem.Within mA (fs.map (·.1)) /\ fs.length<=1000 /\ H dx=some (.own a):=by
  obtain ⟨d,z,ne,ob,mA,n,r,q⟩:=(show ObjOk P w H h a (.ins C dx fs) from hok a _ e)
  exact ⟨mA,⟨ob,n,ne⟩,r,q,z,d⟩
end
structure Cls (K:PySem.W.Frag) (C:Addr):Prop where
  pg:PySem.W.plainGet K C Str.empty=true
  hd:PySem.W.hasDictIn K C=true
  po:PySem.W.plainOver K C=true
  sa:PySem.W.findIn K (.ref C) "__setattr__"=some (some (.builtin "object.__setattr__"))
theorem Cls.get {K:PySem.W.Frag} {C:Addr} (c:Cls K C) (f:Str):PySem.W.plainGet K C f=true:=c.pg
structure Con (K:PySem.W.Frag) (C:Addr) (f:Str) (v:V) (u:Value):Prop where
  at_:PySem.W.findIn K (.ref C) f=some (some u)
  rel:RelV v u
  get:PySem.W.specialIn K u "__get__"=some none
  cp:PySem.W.copiedNames.contains f=false
structure Meth (K:PySem.W.Frag) (C:Addr) (m:Str) (f:Addr):Prop where
  at_:PySem.W.findIn K (.ref C) m=some (some (.ref f))
  fn:PySem.W.isFn K (.ref f)=true
  kp:PySem.W.keepIn K (.ref f)=true
section
variable {X:Cx} {pins:List (Addr × Obj)} {σ:St} {H:Hp} {s:Shared} {a C dx:Addr} {fs:List (Str × V)} {f:Str} {v:V} {A:Around} {E:Value->Shared->Prop}
theorem Inv.made (I:Inv X pins σ H s):Inv X pins σ (upd (upd H s.heap.objs.size (.own (s.heap.objs.size + 1))) (s.heap.objs.size + 1) (.ins C s.heap.objs.size []))
    { s with heap:=(s.heap.push PySem.W.emptyDict).push (PySem.W.instObj C s.heap.objs.size) }:=by
  have e1:(s.heap.push PySem.W.emptyDict).get? s.heap.objs.size=some PySem.W.emptyDict:=Heap.get?_push_size s.heap rfl
  have e2:((s.heap.push PySem.W.emptyDict).push (PySem.W.instObj C s.heap.objs.size)).get? (s.heap.objs.size + 1)=some (PySem.W.instObj C s.heap.objs.size):=by
    have:=Heap.get?_push_size (s.heap.push PySem.W.emptyDict) (o:=PySem.W.instObj C s.heap.objs.size) rfl
    rwa [Heap.size_push] at this
  have e3:(s.heap.push PySem.W.emptyDict).Ns s.heap.objs.size (fun _=>none):=⟨PySem.W.emptyDict,#[],_,e1,rfl,(fun e he=>absurd he (by simp)),fun _=>rfl⟩
  have I1:=I.laid (a:=s.heap.objs.size) (o:=.own (s.heap.objs.size + 1)) (h':=s.heap.push PySem.W.emptyDict) (t':=s.toks) (fun b u q=>Heap.get?_push_of_some _ q) (Nat.le_refl _) ⟨_,e1⟩
  refine I1.laid (a:=s.heap.objs.size + 1) (o:=.ins C s.heap.objs.size []) (t':=s.toks) (fun b u q=>Heap.get?_push_of_some _ q) (Nat.le_of_eq (Heap.size_push _ _)) ?_
  have ne:s.heap.objs.size ≠ s.heap.objs.size + 1:=Nat.ne_of_lt (Nat.lt_succ_self _)
  refine ⟨by rw [upd_ne ne,upd_same],Nat.zero_le _,ne,e2,fun _=>none,(Heap.Ns1.of_empty e3).at fun o q=>Heap.get?_push_of_some _ q,fun _=>True.intro,fun y hy=>absurd rfl hy⟩
end
section
variable {X:Cx} {o e value:Expr} {f:Str} {pos pos' tpos:Pos} {ta tv:TE}
end
section
variable {X:Cx} {pins:List (Addr × Obj)} {σ:St} {H:Hp} {s:Shared} {A:Around} {E:Value->Shared->Prop} {Q:Value->Shared->Prop} {c:Value} {b:Bool}
inductive TyOf (K:PySem.W.Frag) (H:Hp):V->Value->Prop where
  | non:TyOf K H .non (.type "NoneType")
  | bl (x:Bool):TyOf K H (.bl x) (.type "bool")
  | int (i:Int):TyOf K H (.int i) (.type "int")
  | str (x:Str):TyOf K H (.str x) (.type "str")
  | flt (x:UInt64):TyOf K H (.flt x) (.type "float")
  | lst {a:Addr} {xs:List V} (e:H a=some (.lst xs)):TyOf K H (.ref a) (.type "list")
  | frz {a:Addr} {o:Obj} {xs:List V} (e:H a=some (.frz o (.lst xs))):TyOf K H (.ref a) (.type "list")
  | tup {a:Addr} {xs:List V} (e:H a=some (.tup xs)):TyOf K H (.ref a) (.type "tuple")
  | dK {a:Addr} {kvs:List (Key × V)} (e:H a=some (.dK kvs)):TyOf K H (.ref a) (.type "dict")
  | dT {a:Addr} {kvs:List (List Key × V)} (e:H a=some (.dT kvs)):TyOf K H (.ref a) (.type "dict")
  | ins {a C dx:Addr} {fs:List (Str × V)} (e:H a=some (.ins C dx fs)) (cl:Cls K C) (ha:PySem.W.findIn K (.ref C) "__class__"=some (some (.builtin "object.__class__")))
      (hn:PySem.W.specialIn K (.builtin "object.__class__") "__get__"=some (some (.builtin "getset_descriptor.__get__"))) (htk:PySem.W.takesIn K (.builtin "object.__class__")=some true)
      (hm:PySem.W.mroIn K C (.type "object")=some true):TyOf K H (.ref a) (.ref C)
theorem isinst_ok {x:V} {u t:Value} (I:Inv X pins σ H s) (rx:RelV x u) (ty:TyOf X.K H x t) (e:PySem.W.kitOne X.K t c=some b) (h:∀ tk,Q (.bool b) { s with toks:=tk }) :
    wpAny (model X.prog X.w) A (call (.builtin "isinstance") [u,c]) Q E s:=by
  cases ty with
  | non=>cases (show u=Value.none from rx); exact PySem.W.kia_one PySem.W.kitx_none I.kIn True.intro e (fun z=>nomatch z) h
  | bl y=>cases (show u=Value.bool y from rx); exact PySem.W.kia_one PySem.W.kitx_bool I.kIn True.intro e (fun z=>nomatch z) h
  | int i=>obtain ⟨t,q⟩:=(show ∃ t,u=Value.int i t from rx); cases q; exact PySem.W.kia_one PySem.W.kitx_int I.kIn True.intro e (fun z=>nomatch z) h
  | str y=>obtain ⟨t,q⟩:=(show ∃ t,u=Value.str y t from rx); cases q; exact PySem.W.kia_one PySem.W.kitx_str I.kIn True.intro e (fun z=>nomatch z) h
  | flt y=>obtain ⟨t,q⟩:=(show ∃ t,u=Value.float y t from rx); cases q; exact PySem.W.kia_one PySem.W.kitx_float I.kIn True.intro e (fun z=>nomatch z) h
  | @lst a xs ea =>
    cases (show u=Value.ref a from rx)
    obtain ⟨_,_,n,_,h1⟩:=(show ObjOk X.prog X.w H s.heap a (.lst xs) from I.hok a _ ea)
    exact PySem.W.kia_one PySem.W.kitx_list I.kIn ⟨_,h1,rfl⟩ e (fun z=>nomatch z) h
  | @frz a ob xs ea =>
    cases (show u=Value.ref a from rx)
    obtain ⟨_,_,_,n,_,h1⟩:=(show ObjOk X.prog X.w H s.heap a (.frz ob (.lst xs)) from I.hok a _ ea)
    exact PySem.W.kia_one PySem.W.kitx_list I.kIn ⟨_,h1,rfl⟩ e (fun z=>nomatch z) h
  | @tup a xs ea =>
    cases (show u=Value.ref a from rx)
    obtain ⟨_,_,_,p⟩:=(show ObjOk X.prog X.w H s.heap a (.tup xs) from I.hok a _ ea)
    obtain ⟨o,h1,h2,_⟩:=p
    exact PySem.W.kia_one PySem.W.kitx_tuple I.kIn ⟨o,h1,h2⟩ e (fun z=>nomatch z) h
  | @dK a kvs ea =>
    cases (show u=Value.ref a from rx)
    obtain ⟨_,_,vs,_,p⟩:=(show ObjOk X.prog X.w H s.heap a (.dK kvs) from I.hok a _ ea)
    obtain ⟨o,es,ep,h1,h2,_⟩:=p
    exact PySem.W.kia_one PySem.W.kitx_dict I.kIn ⟨o,h1,h2.1⟩ e (fun z=>nomatch z) h
  | @dT a kvs ea =>
    cases (show u=Value.ref a from rx)
    obtain ⟨_,_,xs,_,o,es,ep,h1,h2,_⟩:=(show ObjOk X.prog X.w H s.heap a (.dT kvs) from I.hok a _ ea)
    exact PySem.W.kia_one PySem.W.kitx_dict I.kIn ⟨o,h1,h2.1⟩ e (fun z=>nomatch z) h
  | @ins a C dx fs ea cl ha hn htk hm =>
    cases (show u=Value.ref a from rx)
    obtain ⟨mA,O,_⟩:=ins_get I.hok ea
    obtain ⟨od,J,_⟩:=O.look
    exact PySem.W.kia_one (PySem.W.kitx_own (cl.get _) cl.hd ha hn htk hm) I.kIn J e (fun z=>nomatch z) h
end
end L2
namespace L2
open PySem PySem.Spec PyProof.Rows
structure Room (k:Nat) (A:Around):Prop where
  hd:A.handled=none
  dp:A.depth + 3 * k + 5 < recursionLimit
  un:A.units + 16 * k + 200 < cLine
theorem Room.mono {j k:Nat} {A:Around} (r:Room k A) (h:j<=k):Room j A:=⟨r.hd,by have:=r.dp; omega,by have:=r.un; omega⟩
theorem Room.deeper {k:Nat} {A:Around} (r:Room (k + 1) A) (env:Env):Room k (A.deeper env) :=
  ⟨r.hd,by have:=r.dp; show A.depth + 1 + 3 * k + 5 < _; omega,by have:=r.un; show A.units + 3 + 16 * k + 200 < _; omega⟩
theorem Room.in1 {k:Nat} {A:Around} (r:Room (k + 1) A):Room k A.in1 :=
  ⟨r.hd,by have:=r.dp; show A.depth + 3 * k + 5 < _; omega,by have:=r.un; show A.units + 1 + 16 * k + 200 < _; omega⟩
theorem Room.depth {k:Nat} {A:Around} (r:Room k A):A.depth < recursionLimit:=by have:=r.dp; omega
theorem Room.units {k:Nat} {A:Around} (r:Room k A):A.units + 64 < cLine:=by have:=r.un; omega
noncomputable def tNil:TA:=fun _ H Q=>Q [] H
noncomputable def tCons (ta:TE) (tr:TA):TA:=fun σ H Q=>ta σ H fun x H1=>tr σ H1 fun xs H2=>Q (x :: xs) H2
section
variable {X:Cx} {e:Expr} {es:List Expr} {te:TE} {t:TA} {pos:Pos}
theorem pa_nil:PA X [] tNil:=fun _ _ _ _ H Q I h=>Calls.spliced_nil ⟨[],H,I,.nil,h⟩
theorem pa_cons (ha:PE X e te) (hr:PA X es t) (hs:starEach (e :: es) X.env=(false,eval e X.env) :: starEach es X.env:=by rfl):PA X (e :: es) (tCons te t):=by
  intro pos pins s σ H Q I h
  rw [hs]
  show wpAny _ _ (spliced ((false,eval e X.env) :: backTo pos (starEach es X.env))) _ _ s
  refine Calls.spliced_cons (thn (ha pins s σ H _ I h) fun u s1 ⟨x,H1,I1,r1,q1⟩=>?_)
  exact thn (hr pos pins s1 σ H1 _ I1 q1) fun us s2 ⟨xs,H2,I2,r2,q2⟩=>⟨x :: xs,H2,I2,.cons r1 r2,q2⟩
noncomputable def tTup (t:TA):TE:=fun σ H Q=>t σ H fun xs H1=>xs.length<=sizeLine /\ ∀ p,H1 p=none->Q (.ref p) (upd H1 p (.tup xs))
noncomputable def tLst (t:TA):TE:=fun σ H Q=>t σ H fun xs H1=>xs.length<=sizeLine /\ ∀ p,H1 p=none->Q (.ref p) (upd H1 p (.lst xs))
theorem pe_tup {x1} (h:PA X es t):PE X (.Tuple es x1 pos) (tTup t):=by
  intro pins s σ H Q I hq
  refine wpAny_Tuple_spliced (thn (h pos pins s σ H _ I hq) fun us s1 ⟨xs,H1,I1,r,z,q⟩=>⟨by rw [<- r.length]; exact z,?_⟩)
  have hf:H1 s1.heap.objs.size=none:=I1.hok.fresh (Nat.le_refl _)
  refine ⟨.ref s1.heap.objs.size,upd H1 s1.heap.objs.size (.tup xs),I1.laid (t':=s1.toks) (fun b u e=>Heap.get?_push_of_some _ e) (Nat.le_refl _) ?_,rfl,q _ hf⟩
  exact ⟨z,us,r,⟨_,Heap.get?_push_size _ rfl,rfl,_,rfl⟩⟩
theorem pe_lst (h:PA X es t):PE X (.List es pos) (tLst t):=by
  intro pins s σ H Q I hq
  refine wpAny_List_spliced (thn (h pos pins s σ H _ I hq) fun us s1 ⟨xs,H1,I1,r,z,q⟩=>⟨by rw [<- r.length]; exact z,?_⟩)
  have hf:H1 s1.heap.objs.size=none:=I1.hok.fresh (Nat.le_refl _)
  refine ⟨.ref s1.heap.objs.size,upd H1 s1.heap.objs.size (.lst xs),I1.laid (t':=s1.toks) (fun b u e=>Heap.get?_push_of_some _ e) (Nat.le_refl _) ?_,rfl,q _ hf⟩
  exact ⟨z,us,0,r,Heap.get?_push_size _ rfl⟩
end
noncomputable abbrev Sp:=List V->Hp->VK->XK->Prop
noncomputable abbrev CXT:=List Env->Hp->Shared->XK->Value->Shared->Prop
structure Env0 (P:Program) (w:World) (K:PySem.W.Frag) (mg:Str->Option Value) (base:Heap) (A:Around) (outer:List Env) (s:Shared) (H:Hp):Prop where
  frames:A.frames=some outer
  mod:Mod K mg base
  bs:∀ b o,base.get? b=some o->s.heap.get? b=some o /\ H b=none
  bsz:base.objs.size<=s.heap.objs.size
  funs:s.heap.FunFrames base outer
  frf:∀ b ∈ frs outer,H b=none
  hok:HOk P w H s.heap
  bare:AllBare s.gens
noncomputable def CE (outer:List Env) (P:Program) (w:World) (H:Hp) (s:Shared) (Q:VK) (u:Value) (s':Shared):Prop :=
  ∃ v H',s'.os=s.os /\ AllBare s'.gens /\ Un (frs outer) [] H H' s.heap s'.heap /\ HOk P w H' s'.heap /\ RelV v u /\ Q v H'
noncomputable def CR (CX:CXT) (outer:List Env) (P:Program) (w:World) (H:Hp) (s:Shared) (Q:VK) (E:XK) (r:Result) (s':Shared):Prop :=
  match r with
  | .ok (.ret u)=>CE outer P w H s Q u s'
  | .ok _=>False
  | .error e=>CX outer H s E e s'
structure FnOk (P:Program) (w:World) (K:PySem.W.Frag) (mg:Str->Option Value) (base:Heap) (CX:CXT) (k:Nat) (f:Addr) (fd:FuncData) (ps:List Str) (sp:Sp):Prop where
  len:∀ vs H Q E,sp vs H Q E->vs.length=ps.length
  run:∀ (A:Around) (outer:List Env) (s:Shared) (H:Hp) (args:Args) (us:List Value) (vs:List V) (Q:VK) (E:XK),Room k A->Env0 P w K mg base A outer s H->BindsTo s fd args (ps.zip us)->Vals vs us->sp vs H Q E ->
    codeAny (model P w) A (.call (.ref f) args) (CR CX outer P w H s Q E) s
theorem FnOk.mono {P:Program} {w:World} {K:PySem.W.Frag} {mg:Str->Option Value} {base:Heap} {CX:CXT} {j k:Nat} {f:Addr} {fd:FuncData} {ps:List Str} {sp:Sp} (F:FnOk P w K mg base CX j f fd ps sp) (h:j<=k) :
    FnOk P w K mg base CX k f fd ps sp:=⟨F.len,fun A outer s H args us vs Q E hr=>F.run A outer s H args us vs Q E (hr.mono h)⟩
theorem FnOk.imp {P:Program} {w:World} {K:PySem.W.Frag} {mg:Str->Option Value} {base:Heap} {CX:CXT} {k:Nat} {f:Addr} {fd:FuncData} {ps:List Str} {sp sp':Sp} (F:FnOk P w K mg base CX k f fd ps sp)
    (h:∀ vs H Q E,sp' vs H Q E->sp vs H Q E):FnOk P w K mg base CX k f fd ps sp' :=
  ⟨fun vs H Q E q=>F.len vs H Q E (h _ _ _ _ q),fun A outer s H args us vs Q E hr he hb hv hs=>F.run A outer s H args us vs Q E hr he hb hv (h _ _ _ _ hs)⟩
theorem Env0.in1 {P:Program} {w:World} {K:PySem.W.Frag} {mg:Str->Option Value} {base:Heap} {A:Around} {outer:List Env} {s:Shared} {H:Hp} (e:Env0 P w K mg base A outer s H) :
    Env0 P w K mg base A.in1 outer s H:=⟨e.frames,e.mod,e.bs,e.bsz,e.funs,e.frf,e.hok,e.bare⟩
section
variable {X:Cx} {pins:List (Addr × Obj)} {σ:St} {H:Hp} {s s':Shared}
theorem Inv.env0 (I:Inv X pins σ H s):Env0 X.prog X.w X.K X.mg X.base X.A X.stack s H :=
  ⟨I.ok.frames,I.ok.mod,I.bs,Nat.le_trans I.ok.bsz I.sz,I.stack,I.stkFree,I.hok,I.bare⟩
theorem Inv.after {Q:VK} {u:Value} (I:Inv X pins σ H s) (h:CE X.stack X.prog X.w H s Q u s'):EP X pins σ Q u s':=by
  obtain ⟨v,H',os,bare,un,hok,r,q⟩:=h
  obtain ⟨hh,g,d,t,os'⟩:=s'
  obtain rfl:os'=s.os:=os
  exact ⟨v,H',I.call (h':=hh) (g':=g) (d':=d) (t':=t) (ch:=[]) un hok bare (fun b z=>absurd z (by simp)),r,q⟩
end
noncomputable def Binds (K:PySem.W.Frag) (fd:FuncData) (ps:List Str) (ds:List Value):Prop :=
  ∀ (s:Shared) (us:List Value),K.In s.heap->(us ++ ds).length=ps.length->BindsTo s fd ⟨us,[]⟩ (ps.zip (us ++ ds))
theorem Binds.all {K:PySem.W.Frag} {fd:FuncData} {ps:List Str} (h:∀ us:List Value,us.length=ps.length->bindArgs fd ⟨us,[]⟩=pure (ps.zip us)):Binds K fd ps []:=fun s us _ hl=>by
  rw [List.append_nil] at hl ⊢
  exact .of_eq (h us hl)
section
variable {X:Cx} {CX:CXT} {k:Nat} {f C:Addr} {fd:FuncData} {ps:List Str} {sp:Sp} {dvs:List V} {ds:List Value} {E:XK} {x m:Str} {p pos apos:Pos} {e o:Expr} {es:List Expr} {ta:TE} {t:TA}
structure Mk (K:PySem.W.Frag) (C f:Addr):Prop where
  makes:PySem.W.makesIn K C=true
  init:PySem.W.findIn K (.ref C) "__init__"=some (some (.ref f))
  fn:PySem.W.isFn K (.ref f)=true
  kp:PySem.W.keepIn K (.ref C)=true
end
section
variable {X:Cx} {CX:CXT} {k:Nat} {f C:Addr} {fd:FuncData} {ps ks:List Str} {sp:Sp} {E:XK} {x m:Str} {p pos apos kpos:Pos} {e o:Expr} {es:List Expr} {kws:List Keyword} {te ta:TE} {t tk:TA} {nm:Option Str}
structure KBinds (K:PySem.W.Frag) (fd:FuncData) (ps ks:List Str) (g:List Value->List Value->List Value) (gV:List V->List V->List V):Prop where
  to:∀ (s:Shared) (us ws:List Value),K.In s.heap->(g us ws).length=ps.length->BindsTo s fd ⟨us,ks.zip ws⟩ (ps.zip (g us ws))
  rel:∀ {vs:List V} {us:List Value} {zs:List V} {ws:List Value},Vals vs us->Vals zs ws->Vals (gV vs zs) (g us ws)
variable {g:List Value->List Value->List Value} {gV:List V->List V->List V}
end
structure FnScope (N P:List Str) (sc:Scope):Prop where
  kind:sc.kind=.function
  co:sc.isCoroutine=false
  gen:sc.isGenerator=false
  nd:N.Nodup
  pre:N.take P.length=P
  par:∀ x ∈ P,sc.names.lookup x=some .local \/ sc.names.lookup x=some .cell
  nofree:∀ y ∈ sc.names,y.2 ≠ .free
theorem bindL_out {kindOf:Str->Option NameKind} {x:Str}:∀ {binds:List (Str × Value)} {m:Str->Option Value},(∀ v,(x,v) ∉ binds)->bindL kindOf binds m x=m x
  | [],_,_=>rfl
  | (n,v) :: r,m,h=>by
    unfold bindL
    rw [bindL_out fun w hw=>h w (List.mem_cons_of_mem _ hw)]
    split
    · have:x ≠ n:=by rintro rfl; exact h v List.mem_cons_self
      simp [this]
    · rfl
theorem bindC_out {kindOf:Str->Option NameKind} {x:Str}:∀ {binds:List (Str × Value)} {m:Str->Option Value},(∀ v,(x,v) ∉ binds)->bindC kindOf binds m x=m x
  | [],_,_=>rfl
  | (n,v) :: r,m,h=>by
    unfold bindC
    rw [bindC_out fun w hw=>h w (List.mem_cons_of_mem _ hw)]
    split
    · rfl
    · have:x ≠ n:=by rintro rfl; exact h v List.mem_cons_self
      simp [this]
theorem bindL_get {kindOf:Str->Option NameKind} {x:Str} {v:Value}:∀ {P:List Str} {vs:List Value} {i:Nat} {m:Str->Option Value},P.Nodup->P[i]?=some x->vs[i]?=some v->kindOf x=some .local ->
    bindL kindOf (P.zip vs) m x=some v
  | [],_,_,_,_,h,_,_=>by simp at h
  | _ :: _,[],_,_,_,_,h,_=>by simp at h
  | p :: P,w :: vs,0,m,nd,h1,h2,hk=>by
    simp at h1 h2; subst h1; subst h2
    show bindL kindOf ((p,w) :: P.zip vs) m p=_
    unfold bindL
    rw [bindL_out fun v hv=>(List.nodup_cons.mp nd).1 (List.of_mem_zip hv).1,if_pos hk]
    simp
  | p :: P,w :: vs,i + 1,m,nd,h1,h2,hk=>by
    show bindL kindOf ((p,w) :: P.zip vs) m x=_
    unfold bindL
    exact bindL_get (i:=i) (List.nodup_cons.mp nd).2 (by simpa using h1) (by simpa using h2) hk
theorem bindC_get {kindOf:Str->Option NameKind} {x:Str} {v:Value}:∀ {P:List Str} {vs:List Value} {i:Nat} {m:Str->Option Value},P.Nodup->P[i]?=some x->vs[i]?=some v->kindOf x ≠ some .local ->
    bindC kindOf (P.zip vs) m x=some v
  | [],_,_,_,_,h,_,_=>by simp at h
  | _ :: _,[],_,_,_,_,h,_=>by simp at h
  | p :: P,w :: vs,0,m,nd,h1,h2,hk=>by
    simp at h1 h2; subst h1; subst h2
    show bindC kindOf ((p,w) :: P.zip vs) m p=_
    unfold bindC
    rw [bindC_out fun v hv=>(List.nodup_cons.mp nd).1 (List.of_mem_zip hv).1,if_neg hk]
    simp
  | p :: P,w :: vs,i + 1,m,nd,h1,h2,hk=>by
    show bindC kindOf ((p,w) :: P.zip vs) m x=_
    unfold bindC
    exact bindC_get (i:=i) (List.nodup_cons.mp nd).2 (by simpa using h1) (by simpa using h2) hk
noncomputable def start (N:List Str) (vs:List V):St:=vs.map some ++ List.replicate (N.length - vs.length) none
noncomputable def cxOf (CX:CXT) (P:Program) (w:World) (K:PySem.W.Frag) (mg:Str->Option Value) (base:Heap) (N:List Str) (qual:Str) (scope:Scope) (f:Addr) (cd:Value) (A:Around) (outer:List Env) (s:Shared) (H:Hp) (E:XK):Cx where
  prog:=P
  w:=w
  K:=K
  mg:=mg
  base:=base
  A:=A.deeper (envOfC qual scope s.heap.objs.size f cd)
  N:=N
  s₀:=s
  H₀:=H
  env:=envOfC qual scope s.heap.objs.size f cd
  outer:=outer
  stack:=envOfC qual scope s.heap.objs.size f cd :: outer
  ex:=[]
  calm:=true
  fn:=fun _=>true
  pn:=[]
  xe:=fun e s'=>wpAny (model P w) (A.deeper (envOfC qual scope s.heap.objs.size f cd)) (leaving (envOfC qual scope s.heap.objs.size f cd) e) (fun _ s''=>CX outer H s E e s'') (fun e' s''=>CX outer H s E e' s'') s'
theorem cell_has {sc:Scope} {n:Nat} {x:Str} (h:sc.names.lookup x=some .cell):∃ c,(cellsFrom n sc.names []).lookup x=some c:=by
  have q:=PySem.W.cellsFrom_some sc.names n [] (.inl h)
  exact Option.isSome_iff_exists.mp q
theorem inv_start {CX:CXT} {P:Program} {w:World} {K:PySem.W.Frag} {mg:Str->Option Value} {base:Heap} {N ps:List Str} {qual:Str} {scope:Scope} {f:Addr} {cd:Value} {A:Around} {outer:List Env} {s s1:Shared} {H:Hp} {E:XK} {us:List Value} {vs:List V}
    (S:FnScope N ps scope) (hd:A.handled=none) (e0:Env0 P w K mg base A outer s H) (hl:vs.length=ps.length) (r:Vals vs us)
    (x:InCallC s s.heap.objs.size (bindL (envOfC qual scope s.heap.objs.size f cd).kindOf (ps.zip us) fun _=>none) (cellsFrom (s.heap.objs.size + 1) scope.names []) (bindC (envOfC qual scope s.heap.objs.size f cd).kindOf (ps.zip us) fun _=>none) s1) :
    Inv (cxOf CX P w K mg base N qual scope f cd A outer s H E) [] (start N vs) H s1:=by
  have hpl:ps.length<=N.length:=by have:=congrArg List.length S.pre; rw [List.length_take] at this; omega
  obtain ⟨h1,tk,rfl,hk⟩:=x.done
  have noA:∀ b:Addr,b ∉ (cxOf CX P w K mg base N qual scope f cd A outer s H E).ex:=fun b z=>absurd (show b ∈ ([]:List Addr) from z) (by simp)
  refine ⟨⟨e0.mod,S.kind,rfl,rfl,Nat.le_refl _,fun y z c h1 h2=>?_,fun y hy=>?_,fun y c _ h=>?_,fun _=>hd,Around.frames_deeper e0.frames,.inr ⟨rfl,rfl⟩,fun b z=>absurd z (noA b),e0.bs,e0.bsz,fun b _ _=>noA b,fun b z=>absurd z (noA b),e0.funs,e0.frf⟩,
    rfl,e0.bare,Un.kept hk,⟨_,x.toInCall.ns,fun i y v h1 h2 h3=>?_⟩,fun y c h=>⟨_,x.cell y c h⟩,e0.hok.fresh (Nat.le_refl _),fun y c h=>?_,fun p hp=>absurd (show p ∈ ([]:List (Addr × Obj)) from hp) (by simp),e0.hok.kept hk,?_⟩
  · exact name_of_addr x.apart (PySem.mem_of_lookup h1) (PySem.mem_of_lookup h2)
  · have hy:scope.names.lookup y=some .cell \/ scope.names.lookup y=some .free:=hy
    rcases hy with hy | hy
    · exact cell_has hy
    · exact absurd rfl (S.nofree _ (PySem.mem_of_lookup hy))
  · exact Nat.le_of_lt (x.above y c (PySem.mem_of_lookup h))
  · have hi:i < vs.length:=by
      unfold start at h2
      by_cases hi:i < vs.length
      · exact hi
      · rw [List.getElem?_append_right (by simpa using hi)] at h2
        rw [List.getElem?_replicate] at h2
        split at h2 <;> cases h2
    have ha:vs[i]?=some v:=by
      unfold start at h2
      rw [List.getElem?_append_left (by simpa using hi),List.getElem?_map] at h2
      cases e:vs[i]? with
      | none=>rw [e] at h2; cases h2
      | some a=>rw [e] at h2; cases h2; rfl
    obtain ⟨u,hu,rv⟩:=r.get ha
    have hp:ps[i]?=some y:=by
      rw [<- S.pre,List.getElem?_take_of_lt (by omega)]; exact h1
    have ndP:ps.Nodup:=by rw [<- S.pre]; exact S.nd.sublist (List.take_sublist _ _)
    refine ⟨u,rv,?_⟩
    rcases S.par y (List.mem_of_getElem? hp) with k | k
    · exact .inl ⟨k,bindL_get ndP hp hu k⟩
    · obtain ⟨c,e⟩:=cell_has (n:=s.heap.objs.size + 1) k
      refine .inr ⟨.inl k,c,e,?_⟩
      have q:=x.cell y c e
      rw [bindC_get ndP hp hu (by show scope.names.lookup y ≠ _; rw [k]; decide)] at q
      exact q
  · exact e0.hok.fresh (Nat.le_of_lt (x.above y c (PySem.mem_of_lookup h)))
  · unfold start
    show _=N.length
    rw [List.length_append,List.length_map,List.length_replicate]
    omega
theorem fn_of {CX:CXT} {P:Program} {w:World} {K:PySem.W.Frag} {mg:Str->Option Value} {base:Heap} {k:Nat} {f:Addr} {name qual:Str} {params:Arguments} {body:List Stmt} {scope:Scope} {dV kV doc pm cdv ct oc:Value} {an od:Option Addr}
    {osl:Array (Option Value)} {N ps:List Str} {sp:Sp} (lk:K.lookup f=some ⟨oc,od,.func (PySem.W.fnOf name qual params body scope dV kV doc pm an cdv ct),osl⟩) (hcd:PySem.W.codeIn K cdv qual=true) (S:FnScope N ps scope)
    (len:∀ vs H Q E,sp vs H Q E->vs.length=ps.length)
    (hbody:∀ (A:Around) (outer:List Env) (s:Shared) (H:Hp) (vs:List V) (Q:VK) (E:XK),Room k (A.deeper (envOfC qual scope s.heap.objs.size f cdv))->sp vs H Q E ->
      ∃ t,PSs (cxOf CX P w K mg base N qual scope f cdv A outer s H E) body t /\ t { nx:=fun _ H'=>Q .non H',rt:=Q } (start N vs) H) :
    FnOk P w K mg base CX (k + 1) f (PySem.W.fnOf name qual params body scope dV kV doc pm an cdv ct) ps sp:=by
  refine ⟨len,fun A outer s H args us vs Q E hr e0 hb r hsp=>?_⟩
  have hl:=len _ _ _ _ hsp
  have KX:K.In s.heap:=e0.mod.kin.keeps fun b o e=>(e0.bs b o e).1
  have lim:s.heap.NoLimit:=e0.mod.nolimit.keeps fun b o e=>(e0.bs b o e).1
  have hkind:∀ y ∈ ps.zip us,scope.names.lookup y.1=some .local \/ (scope.names.lookup y.1=some .cell /\ ((cellsFrom (s.heap.objs.size + 1) scope.names []).lookup y.1).isSome=true):=fun ⟨n,v⟩ hy=>by
    rcases S.par n (List.of_mem_zip hy).1 with q | q
    · exact .inl q
    · exact .inr ⟨q,PySem.W.cellsFrom_some _ _ _ (.inl q)⟩
  refine codeAny_call_function hr.depth (KX _ _ lk) rfl S.co S.gen rfl (PySem.W.codeRec_of KX hcd) (hb _ _ _ _ ?_)
  refine wpAny_newFunctionEnv_cells S.kind hkind fun env he s1 x=>?_
  subst he
  refine ⟨lim.keeps x.toInCall.keep,codeAny_func ?_⟩
  obtain ⟨t,ht,hq⟩:=hbody A outer s H vs Q E (hr.deeper _) hsp
  have I:Inv (cxOf CX P w K mg base N qual scope f cdv A outer s H E) [] (start N vs) H s1:=inv_start S hr.hd e0 hl r x
  refine wpAny_mono (ht [] s1 (start N vs) H _ I hq) (fun fl s' hs=>?_) fun e s' hs=>hs
  have fin:∀ {σ':St} {H':Hp} {v:V} {u:Value},Inv (cxOf CX P w K mg base N qual scope f cdv A outer s H E) [] σ' H' s'->RelV v u->Q v H'->CE outer P w H s Q u s' :=
    fun {σ' H' v u} J rv q=>⟨v,H',J.os,J.bare,J.base,J.hok,rv,q⟩
  cases fl with
  | ret u =>
    obtain ⟨v,σ',H',J,rv,q⟩:=hs
    exact fin J rv q
  | next =>
    obtain ⟨σ',H',J,q⟩:=hs
    exact fin (v:=V.non) (u:=Value.none) J rfl q
  | brk =>
    obtain ⟨_,_,_,q⟩:=hs
    exact False.elim q
  | cont =>
    obtain ⟨_,_,_,q⟩:=hs
    exact False.elim q
end L2
namespace L2
open PySem PySem.Spec PyProof.Rows
section
variable {X:Cx} {x:Str} {p pos:Pos} {e:Expr} {es:List Expr} {t:TA} {id T:String} {r:List V->Hp->VK->Prop}
noncomputable def tCB (r:List V->Hp->VK->Prop) (t:TA):TE:=fun σ H Q=>t σ H fun vs H1=>r vs H1 Q
theorem pe_callB (hc:CallR X (.builtin id) r) (hg:Gl X x) (hm:X.mg x=none) (hv:bootBuiltins x=some (.builtin id)) (ha:PA X (e :: es) t) (hn:x ≠ "__name__":=by decide) (hdb:(x == ("__debug__":Str))=false:=by decide)
    (he:starEach (e :: es) X.env=(false,eval e X.env) :: starEach es X.env:=by rfl) (hpl:(backTo pos (starEach es X.env)).any (·.1)=false:=by rfl):PE X (.Call (.Name x p) (e :: es) [] pos) (tCB r t):=by
  intro pins s σ H Q I h
  refine wpAny_Call_Name_kw (ld_blt I hg hm hv ?_ hn hdb)
  exact PyProof.Rows.callWith_builtin1 (thn (ha pos pins s σ H _ I h) fun us s1 ⟨vs,H1,I1,r1,q1⟩=>hc pins s1 σ H1 vs us Q I1 r1 q1) he hpl
theorem pe_callTy (hc:CallR X (.type T) r) (hg:Gl X x) (hm:X.mg x=none) (hv:bootBuiltins x=some (.type T)) (ha:PA X (e :: es) t) (hn:x ≠ "__name__":=by decide) (hdb:(x == ("__debug__":Str))=false:=by decide)
    (he:starEach (e :: es) X.env=(false,eval e X.env) :: starEach es X.env:=by rfl) (hpl:(backTo pos (starEach es X.env)).any (·.1)=false:=by rfl):PE X (.Call (.Name x p) (e :: es) [] pos) (tCB r t):=by
  intro pins s σ H Q I h
  refine wpAny_Call_Name_kw (ld_blt I hg hm hv ?_ hn hdb)
  exact PyProof.Rows.callWith_type1 (thn (ha pos pins s σ H _ I h) fun us s1 ⟨vs,H1,I1,r1,q1⟩=>hc pins s1 σ H1 vs us Q I1 r1 q1) he hpl
end
end L2
namespace HT
open PySem PyProof.Rows
section
open PySem.SeqAt
open PySem.AutoSeq1 (wpAny_loadPart')
open PySem.MeetsSeq PySem.MeetsSeq2 PySem.MeetsSeq3
end
section
variable {prog:Program} {w:World} {A:Around} {E:Value->Shared->Prop} {s:Shared}
theorem cat_tup {t b:Addr} {vs ws:List Value} {Q:Value->Shared->Prop} (ht:IsTup s.heap t vs.toArray) (hb:IsTup s.heap b ws.toArray) (hv:vs ≠ [])
    (h1:ws=[]->Q (.ref t) s) (h2:ws ≠ []->Q (.ref s.heap.objs.size) { s with heap:=s.heap.push { cls:=.type "tuple",data:=.seq (vs ++ ws).toArray } })
    (hsz:vs.length + ws.length<=sizeLine):wpAny (model prog w) A (binaryOp .Add (.ref t) (.ref b)) Q E s:=by
  obtain ⟨⟨cls,dd,data,sl⟩,ho,hc,n,hd⟩:=id ht
  obtain ⟨⟨cls2,dd2,data2,sl2⟩,ho2,hc2,n2,hd2⟩:=id hb
  simp only at hc hd hc2 hd2
  subst hc hd hc2 hd2
  have e:vs.toArray ++ ws.toArray=(vs ++ ws).toArray:=by simp
  by_cases hw:ws=[]
  · exact concat_meets ⟨_,ho,rfl⟩ ⟨_,ho2,rfl⟩ noFill_tuple_add seq_tuple_add PySem.F.slot_tuple_add PySem.F.entry_tuple_add (PySem.F.args_tuple_add_2 _ _)
      (tuple_addW1 t b vs.toArray ws.toArray n n2 dd dd2 sl sl2 (by simpa using hv) (by simp [hw])) ⟨ho,ho2,h1 hw⟩
  · refine concat_meets ⟨_,ho,rfl⟩ ⟨_,ho2,rfl⟩ noFill_tuple_add seq_tuple_add PySem.F.slot_tuple_add PySem.F.entry_tuple_add (PySem.F.args_tuple_add_2 _ _)
      (tuple_addW2 t b vs.toArray ws.toArray n n2 dd dd2 sl sl2 (by simpa using hv) (by simpa using hw) (by rw [List.size_toArray,List.size_toArray]; exact hsz)) ⟨ho,ho2,?_⟩
    rw [e]
    exact h2 hw
noncomputable def sIx (n d:Nat):Option Int->Nat
  | none=>d
  | some v=>if v < 0 then (v + (n:Int)).toNat else min v.toNat n
theorem sIx_none (n d:Nat):sIx n d none=d:=rfl
theorem sIx_le (n d:Nat) (hd:d<=n) (o:Option Int):sIx n d o<=n:=by
  cases o with
  | none=>exact hd
  | some v =>
    show (if v < 0 then (v + (n:Int)).toNat else min v.toNat n)<=n
    by_cases hv:v < 0
    · rw [if_pos hv]; omega
    · rw [if_neg hv]; exact Nat.min_le_right _ _
theorem clip_eq (v:Int) (n d:Nat):(if v < 0 then max (v + (n:Int)) 0 else min v (n:Int))=((sIx n d (some v):Nat):Int):=by
  show (if v < 0 then max (v + (n:Int)) 0 else min v (n:Int))=(((if v < 0 then (v + (n:Int)).toNat else min v.toNat n):Nat):Int)
  by_cases hv:v < 0
  · simp only [if_pos hv]; omega
  · simp only [if_neg hv]; omega
theorem adjust_gen (lo hi:Option Int) (n:Nat):Builtin.Slice.sliceAdjust lo hi 1 (n:Int)=(((sIx n 0 lo:Nat):Int),((sIx n n hi:Nat):Int)):=by
  have h1:¬ ((1:Int) < 0):=by omega
  unfold Builtin.Slice.sliceAdjust
  simp only [h1,if_false]
  refine Prod.ext ?_ ?_
  · cases lo with
    | none=>rfl
    | some v=>exact clip_eq v n 0
  · cases hi with
    | none=>rfl
    | some v=>exact clip_eq v n n
theorem places_gen (i j:Nat):Builtin.Slice.slicePlaces (i:Int) (j:Int) 1=j - i:=by
  unfold Builtin.Slice.slicePlaces
  have h1:(1:Int) > 0:=by omega
  simp only [h1,if_true,Int.ediv_one]
  split <;> omega
theorem slicePart_ {v:Value} {o:Option Int} {Q:Option Int->Shared->Prop} (p:IsPart v o) (h:Q o s):wpAny (model prog w) A (Builtin.Slice.slicePartIndex v) Q E s:=by
  cases p with
  | none=>exact slicePart_none h
  | int i t=>exact slicePart_int h
theorem sliceApplied_gen {sl:Addr} {vl vu:Value} {lo hi:Option Int} {n:Nat} {Q:Int × Int × Nat->Shared->Prop} (hs:s.heap.IsSliceOf sl vl vu .none) (pl:IsPart vl lo) (pu:IsPart vu hi)
    (h:Q (((sIx n 0 lo:Nat):Int),1,sIx n n hi - sIx n 0 lo) s):wpAny (model prog w) A (Builtin.Slice.sliceApplied (.ref sl) (pure (n:Int))) Q E s:=by
  obtain ⟨os,hos,hcs,hds⟩:=id hs
  unfold Builtin.Slice.sliceApplied Builtin.Slice.sliceFields
  refine wpAny_bind (wpAny_bind (wpAny_field hos hds (x:=vl) rfl (wpAny_bind (wpAny_field hos hds (x:=vu) rfl (wpAny_bind (wpAny_field hos hds (x:=.none) rfl (wpAny_pure ?_)))))))
  refine wpAny_bind (slicePart_none ?_)
  show wpAny _ _ (if ((1:Int) == 0)=true then _ else _) _ _ s
  rw [if_neg (by decide)]
  refine wpAny_bind (slicePart_ pl (wpAny_bind (slicePart_ pu (wpAny_bind (wpAny_pure ?_)))))
  show wpAny _ _ (match Builtin.Slice.sliceAdjust lo hi 1 (n:Int) with | (lo,hi)=>pure (lo,(1:Int),Builtin.Slice.slicePlaces lo hi 1)) _ _ s
  rw [adjust_gen lo hi n]
  show wpAny _ _ (pure (((sIx n 0 lo:Nat):Int),(1:Int),Builtin.Slice.slicePlaces ((sIx n 0 lo:Nat):Int) ((sIx n n hi:Nat):Int) 1)) _ _ s
  rw [places_gen]
  exact wpAny_pure h
theorem pick_gen (xs:Array Value) (i k:Nat):((List.range k).filterMap fun (m:Nat)=>xs[((i:Int) + (m:Int) * 1).toNat]?).toArray=((xs.toList.drop i).take k).toArray:=by
  have e:(fun (m:Nat)=>xs[((i:Int) + (m:Int) * 1).toNat]?)=fun m=>xs[i + m]?:=by
    funext m
    have:((i:Int) + (m:Int) * 1).toNat=i + m:=by omega
    rw [this]
  rw [e]
  have:=pick_run xs i k
  rw [List.filterMap_map] at this
  have e2:((fun x=>xs[x]?) ∘ fun x=>i + x)=fun m=>xs[i + m]?:=rfl
  rw [e2] at this
  rw [this]
theorem getItem_tuple_cut {t sl:Addr} {items:Array Value} {vl vu:Value} {lo hi:Option Int} {Q:Value->Shared->Prop} (ht:IsTup s.heap t items) (hs:s.heap.IsSliceOf sl vl vu .none) (pl:IsPart vl lo) (pu:IsPart vu hi)
    (hw:¬ (sIx items.size 0 lo=0 /\ sIx items.size items.size hi=items.size))
    (h:Q (.ref s.heap.objs.size) { s with heap:=s.heap.push { cls:=.type "tuple",data:=.seq ((items.toList.drop (sIx items.size 0 lo)).take (sIx items.size items.size hi - sIx items.size 0 lo)).toArray } })
    (hsz:items.size<=sizeLine):wpAny (model prog w) A (getItem (.ref t) (.ref sl)) Q E s:=by
  have htake:sizeOk (.seq ((items.toList.drop (sIx items.size 0 lo)).take (sIx items.size items.size hi - sIx items.size 0 lo)).toArray):=by
    show ((items.toList.drop (sIx items.size 0 lo)).take (sIx items.size items.size hi - sIx items.size 0 lo)).toArray.size<=sizeLine
    rw [List.size_toArray,List.length_take,List.length_drop,Array.length_toList]
    omega
  have hj:sIx items.size items.size hi<=items.size:=sIx_le _ _ (Nat.le_refl _) hi
  obtain ⟨os,hos,hcs,hds⟩:=id hs
  have hTs:s.TypeIs (.ref sl) "slice":=⟨os,hos,hcs⟩
  unfold getItem
  try with_reducible refine wpAny_holding ?_
  first | refine wpAny_bind (wpAny_pure ?_) | skip
  refine wpAny_bind (wpAny_sequenceKey ht.typeIs (by decide) ?_)
  refine wpAny_bind (wpAny_callSpecial?_slot (name:=Str.ofString "__getitem__") ht.typeIs PyProof.Rows.slot_tuple_getitem
    (wpAny_call_entry PyProof.Rows.slot_tuple_getitem ht.typeIs entry_tuple_getitem ?_ (args_tuple_getitem _ _)))
  show wpAny _ _ (Builtin.Tuple.tupleItemsOf (.ref t) >>= _) _ _ s
  refine wpAny_bind (tupleItemsOf_ ht ?_)
  refine wpAny_bind (wpAny_typeOf hTs ?_)
  rw [if_pos (by decide)]
  refine wpAny_bind (sliceApplied_gen hs pl pu ?_)
  have hno:¬ ((((sIx items.size 0 lo:Nat):Int) == 0 && (1:Int) == 1 && (sIx items.size items.size hi - sIx items.size 0 lo) == items.size)=true):=by
    intro q
    rw [Bool.and_eq_true,Bool.and_eq_true] at q
    have q1:((sIx items.size 0 lo:Nat):Int)=0:=eq_of_beq q.1.1
    have q2:sIx items.size items.size hi - sIx items.size 0 lo=items.size:=eq_of_beq q.2
    exact hw ⟨by omega,by omega⟩
  show wpAny _ _ (if (((sIx items.size 0 lo:Nat):Int) == 0 && (1:Int) == 1 && (sIx items.size items.size hi - sIx items.size 0 lo) == items.size)=true then _ else _) _ _ s
  rw [if_neg hno,pick_gen]
  first
    | exact wpAny_bind (m:=Builtin.Tuple.tupleExact _) (wpAny_newObj_type (wpAny_pure ⟨_,rfl,wpAny_pure h⟩) htake)
    | exact wpAny_bind (m:=Builtin.Tuple.tupleExact _) (wpAny_newObj_type (wpAny_bind (wpAny_pure (wpAny_pure ⟨_,rfl,wpAny_pure h⟩))) htake)
    | exact wpAny_bind (wpAny_bind (m:=Builtin.Tuple.tupleExact _) (wpAny_newObj_type (wpAny_pure (wpAny_pure ⟨_,rfl,wpAny_pure h⟩)) htake))
    | exact wpAny_bind (wpAny_bind (m:=Builtin.Tuple.tupleExact _) (wpAny_newObj_type (wpAny_pure ⟨_,rfl,wpAny_pure h⟩) htake))
end
end HT
namespace L2
open PySem PySem.Spec PyProof.Rows
noncomputable abbrev TO:=St->Hp->(Option Int->Hp->Prop)->Prop
noncomputable def PO (X:Cx) (e:Option Expr) (t:TO):Prop :=
  ∀ (pins:List (Addr × Obj)) (s:Shared) (σ:St) (H:Hp) (Q:Option Int->Hp->Prop),Inv X pins σ H s->t σ H Q ->
    wpAny (model X.prog X.w) X.A (evalPart e X.env) (fun u s'=>∃ o H',Inv X pins σ H' s' /\ IsPart u o /\ Q o H') X.xe s
noncomputable def tNoPart:TO:=fun _ H Q=>Q none H
noncomputable def tPart (t:TE):TO:=fun σ H Q=>t σ H fun x H1=>∃ i,x=.int i /\ Q (some i) H1
section
variable {X:Cx} {e:Expr} {te:TE} {lo hi:Option Expr} {tl th:TO} {pos p2:Pos}
theorem po_none:PO X none tNoPart:=by
  intro pins s σ H Q I h
  rw [evalPart_none]
  exact wpAny_pure ⟨none,H,I,.none,h⟩
theorem po_some (h:PE X e te):PO X (some e) (tPart te):=by
  intro pins s σ H Q I hw
  rw [evalPart_some]
  refine thn (h pins s σ H _ I hw) fun u s1 ⟨x,H1,I1,r1,q1⟩=>?_
  obtain ⟨i,rfl,q⟩:=q1
  obtain ⟨t,rfl⟩:=r1
  exact ⟨some i,H1,I1,.int i t,q⟩
noncomputable def SlR (X:Cx) (r:V->Option Int->Option Int->Hp->VK->Prop):Prop :=
  ∀ (pins:List (Addr × Obj)) (s:Shared) (σ:St) (H:Hp) (x:V) (v vl vu:Value) (lo hi:Option Int) (sl:Addr) (Q:VK),Inv X pins σ H s->RelV x v->s.heap.IsSliceOf sl vl vu .none->IsPart vl lo->IsPart vu hi->r x lo hi H Q ->
    ∃ T id,typeLookup (.type T) "__getitem__"=pure (some (.builtin id)) /\ s.TypeIs v T /\ wpAny (model X.prog X.w) X.A (getItem v (.ref sl)) (EP X pins σ Q) X.xe s
theorem SlR.or {r r':V->Option Int->Option Int->Hp->VK->Prop} (h:SlR X r) (h':SlR X r'):SlR X (fun x lo hi H Q=>r x lo hi H Q \/ r' x lo hi H Q):=by
  intro pins s σ H x v vl vu lo hi sl Q I rx hs pl pu q
  rcases q with q | q
  · exact h pins s σ H x v vl vu lo hi sl Q I rx hs pl pu q
  · exact h' pins s σ H x v vl vu lo hi sl Q I rx hs pl pu q
noncomputable def tSl (r:V->Option Int->Option Int->Hp->VK->Prop) (te:TE) (tl th:TO):TE:=fun σ H Q=>te σ H fun x H1=>tl σ H1 fun l H2=>th σ H2 fun u H3=>r x l u H3 Q
theorem pe_slice {r:V->Option Int->Option Int->Hp->VK->Prop} (hr:SlR X r) (he:PE X e te) (hl:PO X lo tl) (hu:PO X hi th):PE X (.Subscript e (.Slice lo hi none p2) pos) (tSl r te tl th):=by
  intro pins s σ H Q I h
  refine Subscript_ (thn (he pins s σ H _ I h) fun v s1 ⟨x,H1,I1,r1,q1⟩=>?_)
  refine wpAny_Slice (thn (hl pins s1 σ H1 _ I1 q1) fun vl s2 ⟨l,H2,I2,pl,q2⟩=>thn (hu pins s2 σ H2 _ I2 q2) fun vu s3 ⟨u,H3,I3,pu,q3⟩=>?_)
  rw [evalPart_none]
  refine wpAny_pure ?_
  have I4:Inv X pins σ H3 { s3 with heap:=s3.heap.push { cls:=.type "slice",data:=.fields #[vl,vu,.none] } }:=I3.kept (t':=s3.toks) fun b ob q=>Heap.get?_push_of_some _ q
  obtain ⟨T,id,hT,ht,hg⟩:=hr pins { s3 with heap:=s3.heap.push { cls:=.type "slice",data:=.fields #[vl,vu,.none] } } σ H3 x v vl vu l u s3.heap.objs.size Q I4 r1 (Heap.IsSliceOf.new ..) pl pu q3
  show wpAny (model X.prog X.w) X.A (subscriptTail e (.Slice lo hi none p2) v (.ref s3.heap.objs.size)) (EP X pins σ Q) X.xe { s3 with heap:=s3.heap.push { cls:=.type "slice",data:=.fields #[vl,vu,.none] } }
  exact tail_any (ops:=[.ref s3.heap.objs.size,v]) ht hT hg (by with_unfolding_all rfl)
noncomputable def cutV (xs:List V) (lo hi:Option Int):List V:=(xs.drop (HT.sIx xs.length 0 lo)).take (HT.sIx xs.length xs.length hi - HT.sIx xs.length 0 lo)
theorem cutV_length (xs:List V) (lo hi:Option Int):(cutV xs lo hi).length<=xs.length:=by
  unfold cutV
  rw [List.length_take,List.length_drop]
  omega
noncomputable def rSlT (K:PySem.W.Frag):V->Option Int->Option Int->Hp->VK->Prop:=fun x lo hi H Q=>∃ a xs,x=.ref a /\ SqT K H a xs /\
  ¬ (HT.sIx xs.length 0 lo=0 /\ HT.sIx xs.length xs.length hi=xs.length) /\ ∀ p,H p=none->Q (.ref p) (upd H p (.tup (cutV xs lo hi)))
theorem sl_tup:SlR X (rSlT X.K):=by
  intro pins s σ H x v vl vu lo hi sl Q I rx hs pl pu h
  obtain ⟨a,xs,rfl,hx,hw,q⟩:=h
  cases rx
  obtain ⟨its,r,ht,hz⟩:=I.tuple hx
  have hlen:its.toArray.size=xs.length:=by rw [List.size_toArray]; exact r.length.symm
  refine ⟨"tuple",_,PyProof.Rows.slot_tuple_getitem.lookup,ht.typeIs,?_⟩
  refine HT.getItem_tuple_cut ht hs pl pu (by rw [hlen]; exact hw) ?_ (by rw [hlen]; exact hz)
  rw [hlen]
  refine ⟨.ref s.heap.objs.size,_,I.laid (t':=s.toks) (o:=.tup (cutV xs lo hi)) (fun b ob q=>Heap.get?_push_of_some _ q) (Nat.le_refl _) ?_,rfl,q _ (I.hok.fresh (Nat.le_refl _))⟩
  exact ⟨Nat.le_trans (cutV_length xs lo hi) hz,_,(r.drop (HT.sIx xs.length 0 lo)).take (HT.sIx xs.length xs.length hi - HT.sIx xs.length 0 lo),IsTup.new _ _⟩
noncomputable def rCatT (K:PySem.W.Frag):R2:=fun x y H Q=>∃ a b xs ys,x=.ref a /\ y=.ref b /\ SqT K H a xs /\ SqT K H b ys /\ xs ≠ [] /\ xs.length + ys.length<=sizeLine /\
  (ys=[]->Q (.ref a) H) /\ (ys ≠ []->∀ p,H p=none->Q (.ref p) (upd H p (.tup (xs ++ ys))))
theorem Vals.nil_iff {xs:List V} {us:List Value} (r:Vals xs us):us=[] ↔ xs=[]:=by
  cases r with
  | nil=>simp
  | cons _ _=>simp
theorem op_catT:OpR X (binaryOp .Add) (rCatT X.K):=by
  intro pins s σ H x y v u Q I rx ry h
  obtain ⟨a,b,xs,ys,rfl,rfl,ha,hb,hx,hz,q1,q2⟩:=h
  cases rx
  cases ry
  obtain ⟨its,r1,p1,_⟩:=I.tuple ha
  obtain ⟨its2,r2,p2,_⟩:=I.tuple hb
  refine HT.cat_tup p1 p2 (fun z=>hx (r1.nil_iff.mp z)) (fun z=>⟨.ref a,H,I,rfl,q1 (r2.nil_iff.mp z)⟩) (fun z=>?_) (by rw [<- r1.length,<- r2.length]; exact hz)
  refine ⟨.ref s.heap.objs.size,_,I.laid (t':=s.toks) (o:=.tup (xs ++ ys)) (fun b ob q=>Heap.get?_push_of_some _ q) (Nat.le_refl _) ?_,rfl,q2 (fun w=>z (r2.nil_iff.mpr w)) _ (I.hok.fresh (Nat.le_refl _))⟩
  exact ⟨by rw [List.length_append]; exact hz,_,r1.append r2,IsTup.new _ _⟩
end
end L2
namespace L2
open PySem PySem.Spec PyProof.Rows
noncomputable def ixN (n:Nat) (i:Int):Option Nat:=if 0<=i then (if i < n then some i.toNat else none) else if -(n:Int)<=i then some (i + n).toNat else none
noncomputable def atI {α:Type} (xs:List α) (i:Int):Option α:=(ixN xs.length i).bind fun j=>xs[j]?
theorem ixN_seq {n:Nat} {i:Int} {j:Nat} (h:ixN n i=some j):seqIndex? i n=some j /\ j < n /\ -(n:Int)<=i /\ i < n:=by
  unfold ixN at h
  by_cases h0:0<=i
  · rw [if_pos h0] at h
    by_cases h1:i < n
    · rw [if_pos h1] at h
      have e:i.toNat=j:=Option.some.inj h
      exact ⟨by rw [seqIndex_of h0 h1,e],by omega,by omega,h1⟩
    · rw [if_neg h1] at h; cases h
  · rw [if_neg h0] at h
    by_cases h1:-(n:Int)<=i
    · rw [if_pos h1] at h
      have e:(i + n).toNat=j:=Option.some.inj h
      exact ⟨by rw [seqIndex_neg (by omega) h1,e],by omega,h1,by omega⟩
    · rw [if_neg h1] at h; cases h
theorem atI_get {α:Type} {xs:List α} {i:Int} {v:α} (h:atI xs i=some v):∃ j,seqIndex? i xs.length=some j /\ xs[j]?=some v /\ j < xs.length /\ -(xs.length:Int)<=i /\ i < xs.length:=by
  unfold atI at h
  cases e:ixN xs.length i with
  | none=>rw [e] at h; cases h
  | some j =>
    rw [e] at h
    obtain ⟨h1,h2,h3,h4⟩:=ixN_seq e
    exact ⟨j,h1,h,h2,h3,h4⟩
theorem atI_nat {α:Type} {xs:List α} {j:Nat} {v:α} (h:xs[j]?=some v):atI xs (j:Int)=some v:=by
  have hj:j < xs.length:=(List.getElem?_eq_some_iff.mp h).1
  have e:ixN xs.length (j:Int)=some j:=by
    unfold ixN
    rw [if_pos (by omega),if_pos (by omega)]; simp
  unfold atI; rw [e]; exact h
noncomputable def PlainIx (b:Expr):Prop:=∀ o i,subscripted b false o i=operate [o,i] (getItem o i)
noncomputable def IxR (X:Cx) (r:R2):Prop :=
  ∀ (value slice:Expr) (pins:List (Addr × Obj)) (s:Shared) (σ:St) (H:Hp) (x y:V) (v u:Value) (Q:VK),Inv X pins σ H s->RelV x v->RelV y u->r x y H Q ->
    subscripted slice false v u=operate [v,u] (getItem v u)->wpAny (model X.prog X.w) X.A (subscriptTail value slice v u) (EP X pins σ Q) X.xe s
noncomputable def MtR (X:Cx) (id:String) (r:V->List V->Hp->VK->Prop):Prop :=
  ∀ (pins:List (Addr × Obj)) (s:Shared) (σ:St) (H:Hp) (x:V) (xs:List V) (v:Value) (us:List Value) (Q:VK),Inv X pins σ H s->RelV x v->Vals xs us->r x xs H Q ->
    wpAny (model X.prog X.w) X.A (call (.builtin id) (v :: us)) (EP X pins σ Q) X.xe s
section
variable {X:Cx} {a b:Expr} {ta tb:TE} {pos:Pos}
theorem IxR.or {r r':R2} (h:IxR X r) (h':IxR X r'):IxR X (fun x y H Q=>r x y H Q \/ r' x y H Q):=by
  intro value slice pins s σ H x y v u Q I rx ry q hs
  rcases q with q | q
  · exact h value slice pins s σ H x y v u Q I rx ry q hs
  · exact h' value slice pins s σ H x y v u Q I rx ry q hs
theorem MtR.or {id:String} {r r':V->List V->Hp->VK->Prop} (h:MtR X id r) (h':MtR X id r'):MtR X id (fun x xs H Q=>r x xs H Q \/ r' x xs H Q):=by
  intro pins s σ H x xs v us Q I rx rs q
  rcases q with q | q
  · exact h pins s σ H x xs v us Q I rx rs q
  · exact h' pins s σ H x xs v us Q I rx rs q
theorem pe_ix {r:R2} (hr:IxR X r) (ha:PE X a ta) (hb:PE X b tb) (hs:PlainIx b):PE X (.Subscript a b pos) (tOp r ta tb):=by
  intro pins s σ H Q I h
  exact Subscript_ (binT ha hb I h fun v u s2 x y H2 I2 rx ry q=>hr a b pins s2 σ H2 x y v u Q I2 rx ry q (hs _ _))
noncomputable def rIxL (K:PySem.W.Frag):R2:=fun x y H Q=>∃ p xs i v,x=.ref p /\ y=.int i /\ SqL K H p xs /\ atI xs i=some v /\ Q v H
noncomputable def rIxT (K:PySem.W.Frag):R2:=fun x y H Q=>∃ p xs i v,x=.ref p /\ y=.int i /\ SqT K H p xs /\ atI xs i=some v /\ Q v H
noncomputable def rIxS:R2:=fun x y H Q=>∃ z i c,x=.str z /\ y=.int i /\ z.length<=sizeLine /\ atI z.cps.toList i=some c /\ Q (.str ⟨#[c]⟩) H
theorem ix_list:IxR X (rIxL X.K):=by
  intro value slice pins s σ H x y v u Q I rx ry h hs
  obtain ⟨p,xs,i,z,rfl,rfl,hq,he,q⟩:=h
  cases rx
  obtain ⟨t,rfl⟩:=ry
  obtain ⟨its,r,pl,hz⟩:=I.list hq
  obtain ⟨j,h1,h2,h3,h4,h5⟩:=atI_get he
  obtain ⟨w,ew,rw'⟩:=r.get h2
  have hl:=r.length
  have hn:=line63
  have fin:EP X pins σ Q w s:=⟨z,H,I,rw',q⟩
  by_cases h0:0<=i
  · have hj:i.toNat=j:=by
      rw [seqIndex_of h0 h5] at h1
      exact Option.some.inj h1
    exact item_listR pl.isList h0 (by omega) (by rw [hj]; simpa using ew) fin hs
  · have hj:(i + (its.toArray.size:Int)).toNat=j:=by
      rw [seqIndex_neg (by omega) h4] at h1
      rw [List.size_toArray,<- hl]
      exact Option.some.inj h1
    exact subscriptTail_builtinR (x:=w) pl.isList.typeIs slot_list_getitem.lookup
      (wpAny_getItem_list_neg (Q:=fun r s'=>r=w /\ EP X pins σ Q r s') pl.isList (by omega) (by rw [List.size_toArray] <;> omega) (by omega) (by rw [hj]; simpa using ew) ⟨rfl,fin⟩) hs
theorem ix_tup:IxR X (rIxT X.K):=by
  intro value slice pins s σ H x y v u Q I rx ry h hs
  obtain ⟨p,xs,i,z,rfl,rfl,hq,he,q⟩:=h
  cases rx
  obtain ⟨t,rfl⟩:=ry
  obtain ⟨its,r,pl,hz⟩:=I.tuple hq
  obtain ⟨j,h1,h2,h3,h4,h5⟩:=atI_get he
  obtain ⟨w,ew,rw'⟩:=r.get h2
  have hl:=r.length
  have hn:=line63
  have fin:EP X pins σ Q w s:=⟨z,H,I,rw',q⟩
  exact subscriptTail_builtinR (x:=w) pl.typeIs slot_tuple_getitem.lookup
    (getItem_tuple (j:=j) (Q:=fun r s'=>r=w /\ EP X pins σ Q r s') pl (by omega) (by omega) (by rw [List.size_toArray,<- hl]; exact h1) (by simpa using ew) ⟨rfl,fin⟩) hs
theorem ix_str:IxR X rIxS:=by
  intro value slice pins s σ H x y v u Q I rx ry h hs
  obtain ⟨z,i,c,rfl,rfl,hz,he,q⟩:=h
  obtain ⟨t,rfl⟩:=rx
  obtain ⟨t',rfl⟩:=ry
  obtain ⟨j,h1,h2,h3,h4,h5⟩:=atI_get he
  have hl:z.cps.toList.length=z.length:=by simp [Str.length]
  rw [hl] at h1 h4 h5
  have hn:=line63
  exact tail_any (typeIs_str s z t) slot_str_getitem.lookup (getItem_str (c:=c) (by
    have e1:decide (i < -(2 ^ 63:Int))=false:=decide_eq_false (by omega)
    have e2:decide (i >= 2 ^ 63)=false:=decide_eq_false (by omega)
    rw [e1,e2,Bool.or_false]) (by rw [h1]; simpa using h2) ⟨.str ⟨#[c]⟩,H,I.tok _,⟨_,rfl⟩,q⟩) hs
theorem Inv.lst {pins:List (Addr × Obj)} {σ:St} {H:Hp} {s:Shared} {p:Addr} {xs:List V} (I:Inv X pins σ H s) (h:H p=some (.lst xs)) :
    ∃ (its:List Value) (n:Nat),Vals xs its /\ s.heap.get? p=some { cls:=.type "list",data:=.seq its.toArray n } /\ xs.length<=sizeLine:=by
  obtain ⟨z,its,n,r,e⟩:=I.hok p _ h
  exact ⟨its,n,r,e,z⟩
theorem slice_bounds (lo hi:Option Int) (n:Nat):(sliceBounds lo hi none n).1=((HT.sIx n 0 lo:Nat):Int) /\ (sliceBounds lo hi none n).2.1=((HT.sIx n n hi:Nat):Int) /\ (sliceBounds lo hi none n).2.2=1:=by
  refine ⟨?_,?_,rfl⟩
  · cases lo with
    | none=>simp [sliceBounds,HT.sIx]
    | some i =>
      simp only [sliceBounds,HT.sIx,Option.getD_none,show (1:Int) > 0 by decide,if_true]
      by_cases h:i < 0
      · simp only [h,if_true] <;> omega
      · simp only [h,if_false] <;> omega
  · cases hi with
    | none=>simp [sliceBounds,HT.sIx]
    | some i =>
      simp only [sliceBounds,HT.sIx,Option.getD_none,show (1:Int) > 0 by decide,if_true]
      by_cases h:i < 0
      · simp only [h,if_true] <;> omega
      · simp only [h,if_false] <;> omega
theorem slicePick_cut (its:List Value) (lo hi:Option Int):slicePick its.toArray lo hi none=((its.drop (HT.sIx its.length 0 lo)).take (HT.sIx its.length its.length hi - HT.sIx its.length 0 lo)).toArray:=by
  obtain ⟨h1,h2,h3⟩:=slice_bounds lo hi its.toArray.size
  unfold slicePick
  rw [h1,h2,h3]
  simp only [sliceRange_one,pick_run,List.size_toArray] <;> rfl
noncomputable def rSlL (K:PySem.W.Frag):V->Option Int->Option Int->Hp->VK->Prop:=fun x lo hi H Q=>∃ a xs,x=.ref a /\ SqL K H a xs /\ ∀ p,H p=none->Q (.ref p) (upd H p (.lst (cutV xs lo hi)))
theorem sl_list:SlR X (rSlL X.K):=by
  intro pins s σ H x v vl vu lo hi sl Q I rx hs pl pu h
  obtain ⟨a,xs,rfl,hx,q⟩:=h
  cases rx
  obtain ⟨its,r,ht,hz⟩:=I.list hx
  have hlen:=r.length
  refine ⟨"list",_,slot_list_getitem.lookup,ht.isList.typeIs,?_⟩
  refine wpAny_getItem_list_slice ht.isList hs pl pu .none (by simp) ?_ (by rw [List.size_toArray] <;> omega)
  rw [slicePick_cut,<- hlen]
  refine ⟨.ref s.heap.objs.size,_,I.laid (t':=s.toks) (o:=.lst (cutV xs lo hi)) (fun b ob q=>Heap.get?_push_of_some _ q) (Nat.le_refl _) ?_,rfl,q _ (I.hok.fresh (Nat.le_refl _))⟩
  exact ⟨Nat.le_trans (cutV_length xs lo hi) hz,_,0,(r.drop (HT.sIx xs.length 0 lo)).take (HT.sIx xs.length xs.length hi - HT.sIx xs.length 0 lo),Heap.get?_push_size _ rfl⟩
noncomputable def flatV:V->Bool
  | .non=>true
  | .bl _=>true
  | .int _=>true
  | .str _=>true
  | _=>false
noncomputable def eqV:V->V->Bool
  | .non,.non=>true
  | .bl a,.bl b=>a == b
  | .bl a,.int b=>(if a then 1 else 0) == b
  | .int a,.bl b=>a == (if b then 1 else 0)
  | .int a,.int b=>a == b
  | .str a,.str b=>a == b
  | _,_=>false
theorem eqAt_V {A:Around} {s:Shared} {y x:V} {u v:Value} (ry:RelV y u) (rx:RelV x v) (fy:flatV y=true) (fx:flatV x=true):SeqAt.EqAt A s u v (eqV y x):=by
  cases y with
  | non =>
    cases ry
    cases x with
    | non=>cases rx; exact SeqAt.EqAt.same _
    | bl b=>cases rx; exact SeqAt.EqAt.none_bool b
    | int b=>obtain ⟨t,rfl⟩:=rx; exact SeqAt.EqAt.none_int b t
    | str b=>obtain ⟨t,rfl⟩:=rx; exact SeqAt.EqAt.none_str b t
    | _=>exact absurd (show false=true from fx) Bool.false_ne_true
  | bl a =>
    cases ry
    cases x with
    | non=>cases rx; exact SeqAt.EqAt.bool_none a
    | bl b=>cases rx; exact SeqAt.EqAt.bool_bool a b
    | int b=>obtain ⟨t,rfl⟩:=rx; exact SeqAt.EqAt.bool_int a b t
    | str b=>obtain ⟨t,rfl⟩:=rx; exact SeqAt.EqAt.bool_str a b t
    | _=>exact absurd (show false=true from fx) Bool.false_ne_true
  | int a =>
    obtain ⟨t',rfl⟩:=ry
    cases x with
    | non=>cases rx; exact SeqAt.EqAt.int_none a t'
    | bl b=>cases rx; exact SeqAt.EqAt.int_bool a t' b
    | int b=>obtain ⟨t,rfl⟩:=rx; exact SeqAt.EqAt.int_int a t' b t
    | str b=>obtain ⟨t,rfl⟩:=rx; exact SeqAt.EqAt.int_str a t' b t
    | _=>exact absurd (show false=true from fx) Bool.false_ne_true
  | str a =>
    obtain ⟨t',rfl⟩:=ry
    cases x with
    | non=>cases rx; exact SeqAt.EqAt.str_none a t'
    | bl b=>cases rx; exact SeqAt.EqAt.str_bool a t' b
    | int b=>obtain ⟨t,rfl⟩:=rx; exact SeqAt.EqAt.str_int a t' b t
    | str b=>obtain ⟨t,rfl⟩:=rx; exact SeqAt.EqAt.str_str a t' b t
    | _=>exact absurd (show false=true from fx) Bool.false_ne_true
  | _=>exact absurd (show false=true from fy) Bool.false_ne_true
noncomputable def eqU (x:V) (u:Value):Bool:=match u with
  | .none=>eqV .non x
  | .bool b=>eqV (.bl b) x
  | .int i _=>eqV (.int i) x
  | .str z _=>eqV (.str z) x
  | _=>false
theorem eqU_of {x y:V} {u:Value} (r:RelV y u) (f:flatV y=true):eqU x u=eqV y x:=by
  cases y with
  | non=>cases r; rfl
  | bl b=>cases r; rfl
  | int i=>obtain ⟨t,rfl⟩:=r; rfl
  | str z=>obtain ⟨t,rfl⟩:=r; rfl
  | _=>exact absurd (show false=true from f) Bool.false_ne_true
theorem any_eqU {x:V}:∀ {xs:List V} {us:List Value},Vals xs us->xs.all flatV=true->us.any (eqU x)=xs.any fun y=>eqV y x
  | _,_,.nil,_=>rfl
  | y :: xs,u :: us,.cons r t,f=>by
    rw [List.all_cons,Bool.and_eq_true] at f
    rw [List.any_cons,List.any_cons,eqU_of r f.1,any_eqU t f.2]
theorem mem_eqAt {A:Around} {s:Shared} {x:V} {v:Value} (rx:RelV x v) (fx:flatV x=true):∀ {xs:List V} {us:List Value},Vals xs us->xs.all flatV=true->∀ u ∈ us,SeqAt.EqAt A s u v (eqU x u)
  | _,_,.nil,_=>fun u hu=>by cases hu
  | y :: xs,u :: us,.cons r t,f=>fun u' hu=>by
    rw [List.all_cons,Bool.and_eq_true] at f
    rcases List.mem_cons.mp hu with rfl | hu
    · rw [eqU_of r f.1]; exact eqAt_V r rx f.1 fx
    · exact mem_eqAt rx fx t f.2 u' hu
noncomputable def inV (x:V) (xs:List V):Bool:=xs.any fun y=>eqV y x
noncomputable def rIn (K:PySem.W.Frag) (neg:Bool):R2:=fun x y H Q=>∃ p xs,y=.ref p /\ (SqL K H p xs \/ SqT K H p xs) /\ flatV x=true /\ xs.all flatV=true /\ Q (.bl (if neg then !inV x xs else inV x xs)) H
theorem op_in_seq:OpR X (compareOp .In) (rIn X.K false):=by
  intro pins s σ H x y v u Q I rx ry h
  obtain ⟨p,xs,rfl,hq,fx,fs,q⟩:=h
  cases ry
  rcases hq with hq | hq
  · obtain ⟨its,r,pl,hz⟩:=I.list hq
    refine SeqAt.in_listAt (eqU x) pl.isList (fun w hw=>mem_eqAt rx fx r fs w (by simpa using hw)) ⟨.bl _,H,I,rfl,?_⟩
    rw [show its.toArray.any (eqU x)=its.any (eqU x) by simp,any_eqU r fs]
    exact q
  · obtain ⟨its,r,pl,hz⟩:=I.tuple hq
    refine SeqAt.in_tupleAt (eqU x) pl (fun w hw=>mem_eqAt rx fx r fs w (by simpa using hw)) ⟨.bl _,H,I,rfl,?_⟩
    rw [show its.toArray.any (eqU x)=its.any (eqU x) by simp,any_eqU r fs]
    exact q
theorem op_notIn_seq:OpR X (compareOp .NotIn) (rIn X.K true):=by
  intro pins s σ H x y v u Q I rx ry h
  obtain ⟨p,xs,rfl,hq,fx,fs,q⟩:=h
  cases ry
  rcases hq with hq | hq
  · obtain ⟨its,r,pl,hz⟩:=I.list hq
    refine SeqAt.notIn_listAt (eqU x) pl.isList (fun w hw=>mem_eqAt rx fx r fs w (by simpa using hw)) ⟨.bl _,H,I,rfl,?_⟩
    rw [show its.toArray.any (eqU x)=its.any (eqU x) by simp,any_eqU r fs]
    exact q
  · obtain ⟨its,r,pl,hz⟩:=I.tuple hq
    refine SeqAt.notIn_tupleAt (eqU x) pl (fun w hw=>mem_eqAt rx fx r fs w (by simpa using hw)) ⟨.bl _,H,I,rfl,?_⟩
    rw [show its.toArray.any (eqU x)=its.any (eqU x) by simp,any_eqU r fs]
    exact q
theorem op_notIn_str:OpR X (compareOp .NotIn) (fun x y H Q=>∃ i j,x=.str i /\ y=.str j /\ Q (.bl (!(!(Builtin.Str.occurrences j i 0 j.length 1).isEmpty))) H):=by
  intro pins s σ H x y v u Q I rx ry h
  obtain ⟨i,j,rfl,rfl,q⟩:=h
  obtain ⟨t,rfl⟩:=rx
  obtain ⟨t',rfl⟩:=ry
  exact notIn_str ⟨.bl _,H,I,rfl,q⟩
theorem CallR.or {f:Value} {r r':List V->Hp->VK->Prop} (h:CallR X f r) (h':CallR X f r'):CallR X f (fun xs H Q=>r xs H Q \/ r' xs H Q):=by
  intro pins s σ H xs us Q I rs q
  rcases q with q | q
  · exact h pins s σ H xs us Q I rs q
  · exact h' pins s σ H xs us Q I rs q
theorem call_tuple_of:CallR X (.type "tuple") (fun xs H Q=>∃ p ys,xs=[.ref p] /\ ((SqL X.K H p ys /\ ∀ l,H l=none->Q (.ref l) (upd H l (.tup ys))) \/ (SqT X.K H p ys /\ Q (.ref p) H))):=by
  intro pins s σ H xs us Q I r h
  obtain ⟨p,ys,rfl,h⟩:=h
  obtain ⟨u,rfl,rx⟩:=vals1 r
  cases rx
  rcases h with ⟨hq,q⟩ | ⟨hq,q⟩
  · obtain ⟨its,r',pl,hz⟩:=I.list hq
    have hlen:=r'.length
    refine call_tuple_list pl.isList (fun h' kp=>?_) (by simp only [List.size_toArray] <;> omega)
    have I1:Inv X pins σ H { s with heap:=h' }:=I.kept (t':=s.toks) kp
    have I2:Inv X pins σ (upd H h'.objs.size (.tup ys)) { s with heap:=h'.push { cls:=.type "tuple",data:=.seq its.toArray } } :=
      I1.laid (t':=s.toks) (fun b o e=>Heap.get?_push_of_some _ e) (Nat.le_refl _) (show ObjOk X.prog X.w _ _ _ (.tup ys) from ⟨hz,its,r',IsTup.new _ _⟩)
    exact ⟨.ref h'.objs.size,_,I2,rfl,q _ (I1.hok.fresh (Nat.le_refl _))⟩
  · obtain ⟨its,r',pl,hz⟩:=I.tuple hq
    exact call_tuple_same pl ⟨.ref p,H,I,rfl,q⟩
noncomputable def tyV (K:PySem.W.Frag) (T:String) (x:V) (H:Hp):Prop:=match x with
  | .str _=>T="str"
  | .int _=>T="int"
  | .ref p=>(T="list" /\ ∃ xs,SqL K H p xs) \/ (T="tuple" /\ ∃ o,K.lookup p=some o /\ o.cls=.type "tuple" /\ o.dict=none) \/
      (T="dict" /\ ((∃ kvs,H p=some (.dK kvs)) \/ ∃ kvs,H p=some (.dT kvs))) \/ (T="set" /\ ∃ S n,H p=some (.set S n))
  | _=>False
theorem tyV_is {pins:List (Addr × Obj)} {σ:St} {H:Hp} {s:Shared} {T:String} {x:V} {v:Value} (I:Inv X pins σ H s) (r:RelV x v) (ty:tyV X.K T x H) :
    s.TypeIs v T /\ ∀ a,v=.ref a->∃ ob,s.heap.get? a=some ob /\ ob.dict=none:=by
  cases x with
  | str z =>
    obtain ⟨t,rfl⟩:=r
    cases (show T="str" from ty)
    exact ⟨typeIs_str s z t,fun _ e=>nomatch e⟩
  | int i =>
    obtain ⟨t,rfl⟩:=r
    cases (show T="int" from ty)
    exact ⟨typeIs_int s i t,fun _ e=>nomatch e⟩
  | ref p =>
    cases r
    rcases ty with ⟨rfl,xs,hq⟩ | ⟨rfl,o,hk,hc,hd⟩ | ⟨rfl,hk⟩ | ⟨rfl,S,n,hk⟩
    · obtain ⟨its,_,pl,_⟩:=I.list hq
      refine ⟨pl.isList.typeIs,fun a e=>?_⟩
      cases e
      obtain ⟨o,n,e,c,hd,_⟩:=pl
      exact ⟨o,e,hd⟩
    · refine ⟨⟨o,I.kIn p o hk,hc⟩,fun a e=>?_⟩
      cases e
      exact ⟨o,I.kIn _ o hk,hd⟩
    · have z:∃ o,s.heap.get? p=some o /\ o.ExactDict:=by
        rcases hk with ⟨kvs,hk⟩ | ⟨kvs,hk⟩
        · obtain ⟨_,_,_,_,o,_,_,e,ex,_⟩:=I.hok p _ hk
          exact ⟨o,e,ex⟩
        · obtain ⟨_,_,_,_,o,_,_,e,ex,_⟩:=I.hok p _ hk
          exact ⟨o,e,ex⟩
      obtain ⟨o,e,ex⟩:=z
      refine ⟨⟨o,e,ex.1⟩,fun a e2=>?_⟩
      cases e2
      exact ⟨o,e,ex.2.1⟩
    · obtain ⟨o,_,_,_,e,ex,_⟩:=I.hok p _ hk
      refine ⟨⟨o,e,ex.1⟩,fun a e2=>?_⟩
      cases e2
      exact ⟨o,e,ex.2.1⟩
  | _=>exact False.elim ty
noncomputable def tBM0 (K:PySem.W.Frag) (T:String) (r:V->List V->Hp->VK->Prop) (to:TE):TE:=fun σ H Q=>to σ H fun x H1=>tyV K T x H1 /\ r x [] H1 Q
noncomputable def tBM (K:PySem.W.Frag) (T:String) (r:V->List V->Hp->VK->Prop) (to:TE) (t:TA):TE:=fun σ H Q=>to σ H fun x H1=>tyV K T x H1 /\ t σ H1 fun xs H2=>r x xs H2 Q
variable {o e:Expr} {es:List Expr} {to:TE} {t:TA} {name:Str} {apos cpos:Pos} {T id:String} {r:V->List V->Hp->VK->Prop}
theorem pe_bm0 (pa:PlainAttrs T) (slot:Slot T name id) (hty:typeOf (.builtin id)=pure (.type "method_descriptor")) (hm:MtR X id r) (ho:PE X o to)
    (hbase:attributeBase o name X.env (eval o X.env)=eval o X.env:=by rfl) (hline:(apos.endLine == cpos.line)=true:=by rfl):PE X (.Call (.Attribute o name apos) [] [] cpos) (tBM0 X.K T r to):=by
  intro pins s σ H Q I h
  refine wpAny_Call_method0_late hbase hline (thn (ho pins s σ H _ I h) fun v s1 ⟨x,H1,I1,r1,ty,q1⟩=>?_)
  obtain ⟨h1,h2⟩:=tyV_is I1 r1 ty
  exact ⟨T,id,pa,slot,hty,h1,h2,Calls.callWith_builtin rfl (PySem.evalArgs_none (hm pins s1 σ H1 x [] v [] Q I1 r1 .nil q1))⟩
theorem pe_bm (pa:PlainAttrs T) (slot:Slot T name id) (hty:typeOf (.builtin id)=pure (.type "method_descriptor")) (hm:MtR X id r) (ho:PE X o to) (ha:PA X (e :: es) t)
    (hbase:attributeBase o name X.env (eval o X.env)=eval o X.env:=by rfl)
    (hfew:((backTo cpos (starEach (e :: es) X.env)).all (fun x=>!x.1) && (backToKw cpos (keywordEach [] X.env)).all (fun x=>x.1.isSome)
      && decide ((e :: es).length + ([]:List Keyword).length + (if ([]:List Keyword).isEmpty then 0 else 1) < 30))=true:=by rfl)
    (hline:(apos.endLine == cpos.line)=true:=by rfl) (hs:starEach (e :: es) X.env=(false,eval e X.env) :: starEach es X.env:=by rfl) (hplain:(backTo cpos (starEach es X.env)).any (·.1)=false:=by rfl) :
    PE X (.Call (.Attribute o name apos) (e :: es) [] cpos) (tBM X.K T r to t):=by
  intro pins s σ H Q I h
  refine wpAny_Call_method_late hbase hfew hline rfl (thn (ho pins s σ H _ I h) fun v s1 ⟨x,H1,I1,r1,ty,q1⟩=>?_)
  obtain ⟨h1,h2⟩:=tyV_is I1 r1 ty
  refine ⟨T,id,pa,slot,hty,h1,h2,?_⟩
  have hA:=ha cpos pins s1 σ H1 _ I1 q1
  rw [hs] at hA ⊢
  refine Calls.callWith_builtin (by show (false || (backTo cpos (starEach es X.env)).any (·.1))=false; rw [hplain] <;> rfl) (Calls.evalArgs_plain ?_)
  exact thn hA fun us s2 ⟨vs,H2,I2,r2,q2⟩=>hm pins s2 σ H2 x vs v us Q I2 r1 r2 q2
end
end L2
namespace L2
open PySem PySem.Spec PyProof.Rows
noncomputable def MtM (X:Cx) (id:String) (r:V->List V->Hp->VK->Prop):Prop :=
  ∀ (pins:List (Addr × Obj)) (s:Shared) (σ:St) (H:Hp) (x:V) (xs:List V) (v:Value) (us:List Value) (Q:VK),Inv X pins σ H s->RelV x v->Vals xs us->r x xs H Q ->
    wpAny (model X.prog X.w) X.A (call (.builtin id) (v :: us)) (EP X pins σ Q) X.xe s
theorem Vals.one:∀ {x:V} {us:List Value},Vals [x] us->∃ u,us=[u] /\ RelV x u
  | _,_,.cons r .nil=>⟨_,rfl,r⟩
theorem Vals.two:∀ {x y:V} {us:List Value},Vals [x,y] us->∃ u v,us=[u,v] /\ RelV x u /\ RelV y v
  | _,_,_,.cons r (.cons q .nil)=>⟨_,_,rfl,r,q⟩
theorem Vals.zero:∀ {us:List Value},Vals [] us->us=[]
  | _,.nil=>rfl
theorem Vals.dropLast {xs:List V} {us:List Value} (h:Vals xs us):Vals xs.dropLast us.dropLast:=by
  induction h with
  | nil=>exact .nil
  | cons r t ih =>
    cases t with
    | nil=>exact .nil
    | cons q t'=>exact .cons r ih
theorem Vals.eraseIdx:∀ {xs:List V} {us:List Value} (i:Nat),Vals xs us->Vals (xs.eraseIdx i) (us.eraseIdx i)
  | _,_,_,.nil=>.nil
  | _,_,0,.cons _ t=>t
  | _,_,i + 1,.cons r t=>.cons r (Vals.eraseIdx i t)
theorem Vals.reverse {xs:List V} {us:List Value} (h:Vals xs us):Vals xs.reverse us.reverse:=by
  induction h with
  | nil=>exact .nil
  | cons r t ih=>rw [List.reverse_cons,List.reverse_cons]; exact Vals.append ih (.cons r .nil)
theorem Vals.rep {xs:List V} {us:List Value} (h:Vals xs us):∀ k:Nat,Vals (List.replicate k xs).flatten (List.replicate k us).flatten
  | 0=>.nil
  | k + 1=>by
    rw [List.replicate_succ,List.replicate_succ,List.flatten_cons,List.flatten_cons]
    exact Vals.append h (Vals.rep h k)
theorem erase_last {α:Type} (l:List α):l.eraseIdx (l.length - 1)=l.dropLast:=by
  induction l with
  | nil=>rfl
  | cons a r ih =>
    cases r with
    | nil=>rfl
    | cons b r =>
      have e:(a :: b :: r).length - 1=((b :: r).length - 1) + 1:=by
        have h1:(a :: b :: r).length=r.length + 2:=rfl
        have h2:(b :: r).length=r.length + 1:=rfl
        omega
      rw [e,List.eraseIdx_cons_succ,ih]
      all_goals rfl
theorem foldl_rep (its:List Value):∀ (k:Nat) (acc:List Value),
    List.foldl (fun x1 x2=>x1 ++ x2) acc.toArray (List.replicate k its.toArray)=(acc ++ (List.replicate k its).flatten).toArray
  | 0,acc=>by simp
  | k + 1,acc=>by
    have e:acc.toArray ++ its.toArray=(acc ++ its).toArray:=by simp
    have e2:(acc ++ its) ++ (List.replicate k its).flatten=acc ++ (List.replicate (k + 1) its).flatten:=by
      rw [List.replicate_succ,List.flatten_cons,List.append_assoc]
    rw [<- e2,<- foldl_rep its k (acc ++ its),<- e,List.replicate_succ,List.foldl_cons]
section
variable {X:Cx} {pins:List (Addr × Obj)} {σ:St} {H:Hp} {s:Shared} {l b:Addr} {xs ys zs:List V}
theorem Inv.lset {its its':List Value} {n:Nat} {f:Array Value->Array Value} {t':Nat} (I:Inv X pins σ H s) (hH:H l=some (.lst xs))
    (e:s.heap.get? l=some { cls:=.type "list",data:=.seq its.toArray n }) (hf:f its.toArray=its'.toArray) (hv:Vals ys its') (hz:ys.length<=sizeLine) :
    Inv X pins σ (upd H l (.lst ys)) { s with heap:=s.heap.update l (Obj.mapSeq f),toks:=t' }:=by
  have q:=PySem.IsL.update e f
  rw [hf] at q
  refine I.write (x:=l) (e:=l) (by rw [hH]; exact trivial) (.inl rfl) (fun b' u hb hu=>(Heap.get?_update_other s.heap (Obj.mapSeq f) (Ne.symm hb)).trans hu) ⟨_,q⟩ ?_
  exact ⟨hz,its',_,hv,q⟩
theorem Inv.lnew {its:List Value} {t':Nat} (I:Inv X pins σ H s) (hv:Vals ys its) (hz:ys.length<=sizeLine) :
    Inv X pins σ (upd H s.heap.objs.size (.lst ys)) { s with heap:=s.heap.push { cls:=.type "list",data:=.seq its.toArray },toks:=t' } :=
  I.laid (fun _ _ q=>Heap.get?_push_of_some _ q) (Nat.le_refl _) ⟨hz,its,0,hv,Heap.get?_push_size _ rfl⟩
theorem Inv.fresh (I:Inv X pins σ H s):H s.heap.objs.size=none:=I.hok.fresh (Nat.le_refl _)
theorem Inv.lstM (I:Inv X pins σ H s) (hH:H l=some (.lst xs)):xs.length<=sizeLine /\ ∃ (its:List Value) (n:Nat),Vals xs its /\ xs.length=its.length /\ s.heap.get? l=some { cls:=.type "list",data:=.seq its.toArray n }:=by
  obtain ⟨z,its,n,r,e⟩:=I.hok l _ hH
  exact ⟨z,its,n,r,r.length,e⟩
theorem notLongL {n:Nat} (h:n<=sizeLine):Builtin.List.listTooLong n=false:=by
  unfold Builtin.List.listTooLong
  exact decide_eq_false (by omega)
end
section
variable {X:Cx}
noncomputable def rAppend:V->List V->Hp->VK->Prop:=fun x vs H Q=>∃ l xs y,x=.ref l /\ vs=[y] /\ H l=some (.lst xs) /\ xs.length < sizeLine /\ Q .non (upd H l (.lst (xs ++ [y])))
theorem mt_append:MtM X "list.append" rAppend:=by
  intro pins s σ H x vs v us Q I rx rv h
  obtain ⟨l,xs,y,rfl,rfl,hH,hz,q⟩:=h
  cases rx
  obtain ⟨u,rfl,ru⟩:=rv.one
  obtain ⟨z,its,n,r,hl,e⟩:=I.lstM hH
  refine call_meets F.slot_list_append ⟨_,e,rfl⟩ F.entry_list_append (F.args_list_append_2 _ _) (PySem.list_append l its.toArray n u (by rw [List.size_toArray]; omega)) ⟨e,?_⟩
  refine ⟨.non,_,I.lset (its':=its ++ [u]) hH e (by simp) (r.append (.cons ru .nil)) ?_,rfl,q⟩
  rw [List.length_append,List.length_singleton]
  omega
noncomputable def rPop:V->List V->Hp->VK->Prop:=fun x vs H Q=>∃ l xs y,x=.ref l /\ vs=[] /\ H l=some (.lst xs) /\ xs[xs.length - 1]?=some y /\ Q y (upd H l (.lst xs.dropLast))
theorem mt_pop:MtM X "list.pop" rPop:=by
  intro pins s σ H x vs v us Q I rx rv h
  obtain ⟨l,xs,y,rfl,rfl,hH,hy,q⟩:=h
  cases rx
  have hus:=rv.zero
  subst hus
  obtain ⟨z,its,n,r,hl,e⟩:=I.lstM hH
  obtain ⟨u,hu,ru⟩:=r.get hy
  have hy':its.toArray[its.toArray.size - 1]?=some u:=by
    show its.toArray[its.length - 1]?=some u
    rw [<- Array.getElem?_toList,<- hl]
    exact hu
  refine call_meets F.slot_list_pop ⟨_,e,rfl⟩ F.entry_list_pop (F.args_list_pop_1 _) (MeetsSeq.list_pop_last l its.toArray n u hy' (by rw [List.size_toArray]; omega)) ⟨e,?_⟩
  refine ⟨y,_,I.lset (its':=its.dropLast) hH e ?_ r.dropLast ?_,ru,q⟩
  · show its.toArray.eraseIdxIfInBounds (its.toArray.size - 1)=its.dropLast.toArray
    rw [List.size_toArray,List.eraseIdxIfInBounds_toArray,erase_last]
  · rw [List.length_dropLast]
    omega
noncomputable def rCat:R2:=fun x y H Q=>∃ l b xs zs,x=.ref l /\ y=.ref b /\ H l=some (.lst xs) /\ H b=some (.lst zs) /\ xs.length + zs.length<=sizeLine /\ ∀ p,H p=none->Q (.ref p) (upd H p (.lst (xs ++ zs)))
theorem op_cat:OpR X (binaryOp .Add) rCat:=by
  intro pins s σ H x y v u Q I rx ry h
  obtain ⟨l,b,xs,zs,rfl,rfl,hH,hB,hz,q⟩:=h
  cases rx
  cases ry
  obtain ⟨z,its,n,r,hl,e⟩:=I.lstM hH
  obtain ⟨z2,its2,n2,r2,hl2,e2⟩:=I.lstM hB
  refine PySem.P.add_list e e2 ?_ (by rw [List.size_toArray,List.size_toArray]; omega)
  have ea:its.toArray ++ its2.toArray=(its ++ its2).toArray:=by simp
  rw [ea]
  exact ⟨.ref _,_,I.lnew (t':=s.toks) (r.append r2) (by rw [List.length_append]; omega),rfl,q _ I.fresh⟩
noncomputable def rRep:R2:=fun x y H Q=>∃ l k xs,x=.ref l /\ y=.int k /\ H l=some (.lst xs) /\ -(2 ^ 63)<=k /\ k < 2 ^ 63 /\ xs.length * k.toNat<=sizeLine /\
  ∀ p,H p=none->Q (.ref p) (upd H p (.lst (List.replicate k.toNat xs).flatten))
theorem len_rep {α:Type} (xs:List α) (k:Nat):(List.replicate k xs).flatten.length=k * xs.length:=by
  induction k with
  | zero=>simp
  | succ k ih=>rw [List.replicate_succ,List.flatten_cons,List.length_append,ih,Nat.succ_mul,Nat.add_comm]
theorem op_rep:OpR X (binaryOp .Mult) rRep:=by
  intro pins s σ H x y v u Q I rx ry h
  obtain ⟨l,k,xs,rfl,rfl,hH,h1,h2,hz,q⟩:=h
  cases rx
  obtain ⟨t,rfl⟩:=ry
  obtain ⟨z,its,n,r,hl,e⟩:=I.lstM hH
  have hlen:its.toArray.size * k.toNat<=sizeLine:=by rw [List.size_toArray,<- hl]; exact hz
  have hcap:¬ its.toArray.size * k.toNat > (2 ^ 63 - 1) / 8:=by
    have:(sizeLine:Nat)<=(2 ^ 63 - 1) / 8:=by decide
    omega
  have hfit:¬ (!Builtin.List.listFitsIndex k)=true:=by
    rw [fitsIndex_both h1 h2]
    exact Bool.false_ne_true
  have hlong:¬ Builtin.List.listTooLong (its.toArray.size * k.toNat)=true:=by
    rw [notLongL hlen]
    exact Bool.false_ne_true
  have hnew:List.foldl (fun x1 x2=>x1 ++ x2) #[] (List.replicate (if its.toArray.isEmpty=true then 0 else k.toNat) its.toArray)=(List.replicate k.toNat its).flatten.toArray:=by
    have f0:∀ m:Nat,List.foldl (fun x1 x2=>x1 ++ x2) #[] (List.replicate m its.toArray)=(List.replicate m its).flatten.toArray:=fun m=>by
      have:=foldl_rep its m []
      rw [List.nil_append] at this
      exact this
    rw [f0]
    cases its with
    | nil=>simp
    | cons a r'=>rw [if_neg (by simp)]
  refine wpAny_binaryOp_repeat_ref (T:="list") (U:="int") (by decide) ⟨_,e,rfl⟩ (fun s'=>typeIs_int s' k t) noFill_list_mul F.fills_int_mul F.slot_int_rmul repeat_list F.slot_int_index.lookup
    (call_meets F.slot_int_rmul (typeIs_int s k t) F.entry_int_rmul (F.args_int_rmul_2 _ _) (int___rmul___int_list k t l its.toArray n)
      ⟨e,rfl,⟨_,e,rfl⟩,call_meets F.slot_list_mul ⟨_,e,rfl⟩ F.entry_list_mul (F.args_list_mul_2 _ _) (AutoListH.list___mul___list_int_3 l its.toArray n k t hfit hcap hlong) ⟨e,?_⟩⟩)
  rw [hnew]
  exact ⟨.ref _,_,I.lnew (t':=s.toks) (r.rep k.toNat) (by rw [len_rep,Nat.mul_comm]; exact hz),rfl,q _ I.fresh⟩
end
section
variable {prog:Program} {w:World} {A:Around} {E:Value->Shared->Prop} {s:Shared}
end
section
variable {X:Cx}
end
end L2
namespace Att
open PySem PySem.W PySem.Calls PyProof.Rows
theorem ints_of_wellAll {P:Params} {h:Heap}:∀ (ns:List Int) (vs:List Value),WellAll P h vs (ns.map WData.int)->IntsAre vs ns:=by
  intro ns
  induction ns with
  | nil =>
    intro vs w
    rw [List.map_nil] at w
    cases w
    exact .nil
  | cons n ns ih =>
    intro vs w
    rw [List.map_cons] at w
    cases w with
    | cons a b =>
      cases a
      exact .cons _ _ (ih _ b)
theorem script_of {l:OpenLaw} {n:Nat} (hn:l.most=some n) {P:Params} {h:Heap} {args:List WData} {vals:List Value}
    (hpre:l.row.toRowW.claim.pre args=true) (hwl:WellAll P h vals args) :
    ∃ a vs ns,vals=[Value.ref a] /\ args=[WData.list (ns.map WData.int)] /\ h.get? a=some { cls:=.type "list",data:=.seq vs.toArray } /\ IntsAre vs ns /\ ns.length<=n:=by
  have hsh:WShape.hasAll [] args [.list .int]=true:=(pre_splitW hpre).1
  have hc:l.pre.holds [] { args:=args }=true:=(pre_splitW hpre).2
  obtain ⟨d,r,rfl,h1,h2⟩:=hasAllW_cons hsh
  obtain rfl:=hasAllW_nil h2
  obtain ⟨xs,rfl,h3⟩:=hasW_list h1
  obtain ⟨ns,rfl⟩:=items_int h3
  have hlen:ns.length<=n:=by
    unfold OpenLaw.pre at hc
    have h4:(WTm.not (.lt (.lit (.int (n:Int))) (.len (.arg 0)))).holds [] { args:=[.list (ns.map .int)] }=true:=by
      have h4:=(holds_andW hc).1
      rw [hn] at h4
      exact h4
    have h5:=condW_of h4 (w_not (w_lt w_lit (w_len_list (w_arg rfl))))
    rw [List.length_map] at h5
    refine Nat.le_of_not_lt fun q=>?_
    have q':(n:Int) < ((ns.length:Nat):Int):=by omega
    first
      | (rw [decide_eq_true q'] at h5; exact absurd h5 (by decide))
      | (simp at h5; omega)
  cases hwl with
  | cons w1 w2 =>
    cases w2
    cases w1 with
    | list ho hall=>exact ⟨_,_,ns,rfl,rfl,ho,ints_of_wellAll ns _ hall,hlen⟩
theorem post_true (l:OpenLaw) (args:List WData):l.row.toRowW.claim.post args (.bool true) args=true :=
  postW_of (r:=l.row.toRowW) (X:=(true == true))
    (show WShape.has [] (.bool true) .bool=true by first | rfl | decide | simp [WShape.has,WShape.arms,WShape.armsAll])
    (show (WTm.eq .res (.lit (.bool true))).value [] { args:=args,res:=some (.bool true),after:=args }=some (.bool (true == true)) from w_eq_bool (w_res rfl) w_lit) rfl
theorem attach_call {l:OpenLaw} {n:Nat} {q:Program} {loose:List Str} {XP:(Str->Option Value)->Heap->Prop} {YP:World->Heap->Prop} {d:DefRec}
    (hn:l.most=some n) (hdf:d.params.defaults=[])
    (call:∀ (w:World) (s₀ s₁:Shared) (mg mb:Str->Option Value) (fa:Addr) (o:Obj) (pm cd doc:Value) (a:Addr) (vs:List Value) (ns:List Int),
      Ground q loose [] XP w s₀ mg mb s₁.heap->YP w s₁.heap ->
      s₁.heap.get? fa=some o->o.data=.func (docDef d.name d.params d.body d.scope pm cd doc)->s₁.heap.CodeRec cd d.name->mg d.name=some (.ref fa) ->
      s₁.heap.get? a=some { cls:=.type "list",data:=.seq vs.toArray }->IntsAre vs ns->ns.length<=n->s₁.gens=#[] ->
      codeAny (model l.prog w) callerA (.call (.ref fa) ⟨[.ref a],[]⟩) (fun r s'=>r=.ok (.ret (.bool true)) /\ OldK s₁.heap s'.heap /\ s'.os=s₁.os /\ AllBare s'.gens) s₁) :
    WalkO q loose XP YP l.row.toRowW d [] (fun f vs=>PySem.call f vs):=by
  intro w s₀ s₁ mg mb G Y fa o pm cd doc dV kV ho hd hcd hD hmg hg args vals as hpre hlay hrd hwl hlo
  obtain rfl:dV=.none:=Dflts.none hD hdf
  obtain rfl:kV=.none:=Dflts.noKw hD
  obtain ⟨a,vs,ns,rfl,rfl,hobj,hints,hlen⟩:=script_of hn hpre hwl
  refine enter_call (codeAny_mono (call w s₀ s₁ mg mb fa o pm cd doc a vs ns G Y ho (fd_plain hd) hcd hmg hobj hints hlen hg) fun r s' hq=>?_)
  obtain ⟨rfl,h2,h3,h4⟩:=hq
  exact ⟨.inl ⟨.bool true,.bool true,[],rfl,fun _=>rfl,.bool true,post_true l _,fun _=>⟨List.Pairwise.nil,fun _ hm=>(nomatch hm)⟩⟩,h2,h3,h4⟩
section
variable {prog:Program} {w:World} {A:Around} {E:Value->Shared->Prop} {s:Shared} {K:Frag}
noncomputable def ledger (h:Heap) (L d:Addr):List (Addr × Obj):=(List.range h.objs.size).filterMap fun a=>if a=L \/ a=d then none else (h.get? a).map fun o=>(a,o)
end
end Att
namespace L2
open PySem PySem.Spec PyProof.Rows
theorem vals_ints:∀ {vs:List Value} {ns:List Int},IntsAre vs ns->Vals (ns.map V.int) vs
  | _,_,.nil=>.nil
  | _,_,.cons n t h=>.cons ⟨t,rfl⟩ (vals_ints h)
noncomputable def Only (H:Hp):Prop:=∀ b,H b=none \/ ∃ o xs,H b=some (.frz o (.lst xs))
theorem law_call {P:Program} {w:World} {K:PySem.W.Frag} {mg mb:Str->Option Value} {CX:CXT} {k:Nat} {fa a:Addr} {fd:FuncData} {x:Str} {sp:Sp} {s₁:Shared} {vs:List Value} {ns:List Int}
    (KX:K.In s₁.heap) (hns:s₁.heap.Ns mainGlobals mg) (hb:s₁.heap.Ns builtinsNs mb) (hbb:∀ x:Str,x ≠ "__name__"->mb x=bootBuiltins x) (hlim:s₁.heap.NoLimit) (hg:s₁.gens=#[])
    (ha:s₁.heap.get? a=some { cls:=.type "list",data:=.seq vs.toArray }) (hi:IntsAre vs ns) (hl:ns.length<=sizeLine) (hr:Room k callerA)
    (F:∀ base:Heap,K.In base->base.Ns mainGlobals mg->FnOk P w K mg base CX k fa fd [x] sp) (hbind:∀ (s:Shared) (u:Value),BindsTo s fd ⟨[u],[]⟩ [(x,u)])
    (hsp:∀ H:Hp,Only H->SqL K H a (ns.map V.int)->sp [.ref a] H (fun v _=>v=.bl true) fun _ _ _=>False)
    (hCX:∀ H e s',CX [] H s₁ (fun _ _ _=>False) e s'->False) :
    codeAny (model P w) callerA (.call (.ref fa) ⟨[.ref a],[]⟩) (fun r s'=>r=.ok (.ret (.bool true)) /\ OldK s₁.heap s'.heap /\ s'.os=s₁.os /\ AllBare s'.gens) s₁:=by
  have rv:=vals_ints hi
  have lenV:=hi.length
  have core:∀ H:Hp,Only H->SqL K H a (ns.map V.int)->HOk P w H s₁.heap->(∀ b,H b ≠ none->b=a)->(H a ≠ none->K.lookup a=none) ->
      codeAny (model P w) callerA (.call (.ref fa) ⟨[.ref a],[]⟩) (fun r s'=>r=.ok (.ret (.bool true)) /\ OldK s₁.heap s'.heap /\ s'.os=s₁.os /\ AllBare s'.gens) s₁:=by
    intro H hO hS hok hA hK
    have base_of:∀ {b:Addr} {o:Obj},s₁.heap.get? b=some o->H b=none->(hidT s₁.heap H).get? b=some o:=fun e n=>hidT_get e n
    have noA:∀ {b:Addr} {o:Obj} {es:Array DictEntry} {ep:Nat},s₁.heap.get? b=some o->o.data=.dict es ep->H b=none:=fun {b o es ep} e d=>by
      cases q:H b with
      | none=>rfl
      | some u =>
        have e':b=a:=hA b (by rw [q]; simp)
        subst e'
        rw [ha] at e; cases e
        have d':Data.seq vs.toArray _=Data.dict es ep:=d
        cases d'
    have nsK:∀ {b:Addr} {m:Str->Option Value},s₁.heap.Ns b m->(hidT s₁.heap H).Ns b m:=fun {b m} ⟨o,es,ep,e,d,r⟩=>⟨o,es,ep,base_of e (noA e d),d,r⟩
    have hKb:K.In (hidT s₁.heap H):=fun b o e=>base_of (KX b o e) (by
      cases q:H b with
      | none=>rfl
      | some u =>
        have e':b=a:=hA b (by rw [q]; simp)
        subst e'
        rw [hK (by rw [q]; simp)] at e; cases e)
    have hM:Mod K mg (hidT s₁.heap H):=⟨hKb,nsK hns,⟨mb,nsK hb,hbb⟩,let ⟨mc,h1,h2⟩:=hlim; ⟨mc,nsK h1,h2⟩⟩
    have e0:Env0 P w K mg (hidT s₁.heap H) callerA [] s₁ H:=⟨rfl,hM,fun b o e=>of_hidT e,Nat.le_of_eq (hidT_size _ _),trivial,fun b hb=>absurd (show b ∈ ([]:List Addr) from hb) (by simp),hok,.of_eq hg⟩
    refine codeAny_mono ((F _ hKb (nsK hns)).run callerA [] s₁ H ⟨[.ref a],[]⟩ [.ref a] [.ref a] _ _ hr e0 (hbind s₁ (.ref a)) (.cons rfl .nil) (hsp H hO hS)) fun r s' h=>?_
    cases r with
    | error e=>exact (hCX H e s' h).elim
    | ok fl =>
      cases fl with
      | next=>exact False.elim h
      | brk=>exact False.elim h
      | cont=>exact False.elim h
      | ret u =>
        obtain ⟨v,H',os,bare,un,hok',r',q⟩:=h
        have q':v=.bl true:=q
        subst q'
        obtain rfl:u=Value.bool true:=r'
        refine ⟨rfl,OldK.of_keep fun b o e=>?_,os,bare⟩
        cases q:H b with
        | none=>exact un.keep b o e q (by intro z; exact absurd (show b ∈ ([]:List Addr) from z) (by simp)) (by simp)
        | some u =>
          rcases hO b with z | ⟨ob,xs,z⟩
          · rw [q] at z; cases z
          · have z2:=un.frzs b ob _ z
            obtain ⟨e1,_⟩:=hok b _ z
            obtain ⟨e2,_⟩:=hok' b _ z2
            rw [e] at e1; cases e1
            exact e2
  cases hk:K.lookup a with
  | some o =>
    have e:=KX a o hk
    rw [ha] at e
    cases e
    refine core (fun _=>none) (fun _=>.inl rfl) (.inr ⟨_,vs.toArray,_,hk,rfl,rfl,rfl,by rw [List.size_toArray,lenV]; exact hl,by simpa using rv⟩) (fun b u z=>by have z':(none:Option HO)=some u:=z; cases z') (fun b z=>absurd rfl z) fun z=>absurd rfl z
  | none =>
    refine core (fun b=>if b=a then some (.frz { cls:=.type "list",data:=.seq vs.toArray } (.lst (ns.map V.int))) else none) (fun b=>?_) (.inl (.inr ⟨{ cls:=.type "list",data:=.seq vs.toArray },if_pos rfl⟩)) (fun b u z=>?_) (fun b z=>?_) fun _=>hk
    · by_cases hb:b=a
      · exact .inr ⟨_,_,if_pos hb⟩
      · exact .inl (if_neg hb)
    · by_cases hb:b=a
      · have z':=(if_pos hb).symm.trans z
        cases z'
        subst hb
        exact ⟨ha,by rw [List.length_map]; exact hl,vs,_,rv,ha⟩
      · have z':=(if_neg hb).symm.trans z
        cases z'
    · by_cases hb:b=a
      · exact hb
      · exact absurd (if_neg hb) z
end L2
namespace L2
open PySem PySem.Spec PyProof.Rows
noncomputable abbrev KOf {K:PySem.W.Frag} {h:Heap} (_:K.In h):PySem.W.Frag:=K
theorem walk_of {l:PySem.W.OpenLaw} {n k:Nat} {q:Program} {loose:List Str} {XP:(Str->Option Value)->Heap->Prop} {YP:World->Heap->Prop} {d:DefRec} {K:Params->PySem.W.Frag} {CX:World->CXT} {sp:World->Sp} {x:Str}
    (hn:l.most=some n) (hn2:n<=sizeLine) (hdf:d.params.defaults=[]) (hr:Room k callerA)
    (hY:∀ (w:World) (h:Heap),YP w h->(K w.params).In h)
    (F:∀ (w:World) (mg:Str->Option Value) (fa:Addr) (h:Heap),(K w.params).In h->h.Ns mainGlobals mg->mg d.name=some (.ref fa) ->
      ∃ fd:FuncData,(∀ (s:Shared) (u:Value),BindsTo s fd ⟨[u],[]⟩ [(x,u)]) /\
        ∀ base:Heap,(K w.params).In base->base.Ns mainGlobals mg->FnOk l.prog w (K w.params) mg base (CX w) k fa fd [x] (sp w))
    (hsp:∀ (w:World) (H:Hp) (a:Addr) (ns:List Int),ns.length<=n->Only H->SqL (K w.params) H a (ns.map V.int)->sp w [.ref a] H (fun v _=>v=.bl true) fun _ _ _=>False)
    (hCX:∀ (w:World) (H:Hp) (s:Shared) (e:Value) (s':Shared),CX w [] H s (fun _ _ _=>False) e s'->False) :
    PySem.W.WalkO q loose XP YP l.row.toRowW d [] (fun f vs=>PySem.call f vs):=by
  refine Att.attach_call hn hdf fun w s₀ s₁ mg mb fa o pm cd doc a vs ns G Y ho hd hcd hmg hobj hints hlen hg=>?_
  have KX:=hY w _ Y
  obtain ⟨fd,hb,hF⟩:=F w mg fa _ KX G.T.g hmg
  exact law_call KX G.T.g G.T.b G.T.builtins G.T.nolimit hg hobj hints (Nat.le_trans hlen hn2) hr hF hb (fun H hO hS=>hsp w H a ns hlen hO hS) fun H e s'=>hCX w H s₁ e s'
end L2
namespace L2
open PySem PySem.Spec PyProof.Rows
noncomputable def defArgs (s:Stmt):Arguments:=match s with
  | .FunctionDef _ a _ _ _ _ _ _ _ _=>a
  | _=>{ posonlyargs:=[],args:=[],vararg:=none,kwonlyargs:=[],kw_defaults:=[],kwarg:=none,defaults:=[] }
noncomputable def defBody (s:Stmt):List Stmt:=match s with
  | .FunctionDef _ _ b _ _ _ _ _ _ _=>b
  | _=>[]
noncomputable def defScope (s:Stmt):Scope:=match s with
  | .FunctionDef _ _ _ _ _ _ sc _ _ _=>sc
  | _=>{ kind:=.function,names:=[],isGenerator:=false,isCoroutine:=false }
noncomputable abbrev CX0:CXT:=fun _ _ _ _ _ _=>False
structure Fun (K:PySem.W.Frag) (x qual:Str) (st:Stmt) (f:Addr) (fd:FuncData):Prop where
  ex:∃ (oc:Value) (od:Option Addr) (kV doc pm:Value) (an:Option Addr) (cdv ct:Value) (osl:Array (Option Value)),
    fd=PySem.W.fnOf x qual (defArgs st) (defBody st) (defScope st) .none kV doc pm an cdv ct /\ K.lookup f=some ⟨oc,od,.func fd,osl⟩ /\ PySem.W.codeIn K cdv qual=true
  kp:PySem.W.keepIn K (.ref f)=true
section
variable {P:Program} {w:World} {K:PySem.W.Frag} {mg:Str->Option Value} {base:Heap}
theorem Fun.ok {x qual:Str} {st:Stmt} {f:Addr} {fd:FuncData} {N ps:List Str} {k:Nat} {sp:Sp} (F:Fun K x qual st f fd) (S:FnScope N ps (defScope st)) (len:∀ vs H Q E,sp vs H Q E->vs.length=ps.length)
    (hbody:∀ (cdv:Value) (A:Around) (outer:List Env) (s:Shared) (H:Hp) (vs:List V) (Q:VK) (E:XK),Room k (A.deeper (envOfC qual (defScope st) s.heap.objs.size f cdv))->sp vs H Q E ->
      ∃ t,PSs (cxOf CX0 P w K mg base N qual (defScope st) f cdv A outer s H E).nox (defBody st) t /\ t { nx:=fun _ H'=>Q .non H',rt:=Q } (start N vs) H):FnOk P w K mg base CX0 (k + 1) f fd ps sp:=by
  obtain ⟨oc,od,kV,doc,pm,an,cdv,ct,osl,rfl,lk,hcd⟩:=F.ex
  refine fn_of lk hcd S len fun A outer s H vs Q E hr hsp=>?_
  obtain ⟨t,h,q⟩:=hbody cdv A outer s H vs Q E hr hsp
  exact ⟨t,h.nox,q⟩
theorem Fun.binds {x qual:Str} {st:Stmt} {f:Addr} {fd:FuncData} {ps:List Str} (F:Fun K x qual st f fd)
    (h:∀ (kV doc pm:Value) (an:Option Addr) (cdv ct:Value) (us:List Value),us.length=ps.length->bindArgs (PySem.W.fnOf x qual (defArgs st) (defBody st) (defScope st) .none kV doc pm an cdv ct) ⟨us,[]⟩=pure (ps.zip us)):Binds K fd ps []:=by
  obtain ⟨oc,od,kV,doc,pm,an,cdv,ct,osl,rfl,lk,hcd⟩:=F.ex
  exact .all (h kV doc pm an cdv ct)
theorem fun_mk {x qual:Str} {st:Stmt} {f:Addr} {oc:Value} {od an:Option Addr} {osl:Array (Option Value)} {kV doc pm cdv ct:Value} (l:K.lookup f=some ⟨oc,od,.func (PySem.W.fnOf x qual (defArgs st) (defBody st) (defScope st) .none kV doc pm an cdv ct),osl⟩)
    (c:PySem.W.codeIn K cdv qual=true) (k:PySem.W.keepIn K (.ref f)=true):Fun K x qual st f (PySem.W.fnOf x qual (defArgs st) (defBody st) (defScope st) .none kV doc pm an cdv ct):=⟨⟨oc,od,kV,doc,pm,an,cdv,ct,osl,rfl,l,c⟩,k⟩
end
theorem hu_of {A:Around} {k:Nat} (hr:Room k A):A.units + 1 < cLine:=Nat.lt_of_le_of_lt (Nat.add_le_add_left (by decide:1<=64) _) hr.units
theorem small1000 {n:Nat} (h:n<=1000):n < sizeLine:=Nat.lt_of_le_of_lt h (by decide)
section
variable {X:Cx}
theorem pv (i:Nat) {x:Str} {pos:Pos} (hN:X.N[i]?=some x:=by rfl) (hv:Vis X.env.scope x:=by first | exact Or.inl rfl | exact Or.inr (Or.inl rfl) | exact Or.inr (Or.inr rfl)) (hd:(x == ("__debug__":Str))=false:=by decide)
    (hcd:(x == ("__classdict__":Str))=false:=by decide):PE X (.Name x pos) (tVar i):=pe_var hN hv hd hcd
end
theorem iteF {A B:Prop} (h:B):if false=true then A else B:=by
  rw [if_neg Bool.false_ne_true]
  exact h
theorem iteT {A B:Prop} (h:A):if true=true then A else B:=by
  rw [if_pos rfl]
  exact h
noncomputable def Same (H H':Hp):Prop:=∀ b o,H b=some o->H' b=some o
theorem Same.refl (H:Hp):Same H H:=fun _ _ h=>h
theorem Same.trans {H H1 H2:Hp} (a:Same H H1) (b:Same H1 H2):Same H H2:=fun c o h=>b c o (a c o h)
theorem Same.free {H H':Hp} (e:Same H H') {l:Addr} (h:H' l=Option.none):H l=Option.none:=by
  cases q:H l with
  | none=>rfl
  | some o =>
    rw [e l o q] at h
    cases h
theorem Same.seq {K:PySem.W.Frag} {H H':Hp} {a:Addr} {xs:List V} (e:Same H H') (h:SqL K H a xs):SqL K H' a xs:=by
  rcases h with (h | ⟨o,h⟩) | h
  · exact .inl (.inl (e _ _ h))
  · exact .inl (.inr ⟨o,e _ _ h⟩)
  · exact .inr h
end L2
set_option Elab.async false
set_option linter.all false
set_option maxRecDepth 100000
namespace L2
open PySem PySem.Spec PyProof.Rows
section
variable {κ:Type} [DecidableEq κ]
noncomputable def valV (kvs:List (κ × V)) (k:κ):Option V:=(kvs.find? fun kv=>decide (kv.1=k)).map (·.2)
noncomputable def putK (kvs:List (κ × V)) (k:κ) (v:V):List (κ × V) :=
  if (kvs.any fun kv=>decide (kv.1=k))=true then kvs.map (fun kv=>if kv.1=k then (kv.1,v) else kv) else kvs ++ [(k,v)]
noncomputable def dropK (kvs:List (κ × V)) (k:κ):List (κ × V):=kvs.filter fun kv=>decide (kv.1 ≠ k)
theorem valV_pos {p:κ × V} {r:List (κ × V)} {k:κ} (e:p.1=k):valV (p :: r) k=some p.2:=by simp [valV,List.find?_cons,e]
theorem valV_neg {p:κ × V} {r:List (κ × V)} {k:κ} (e:¬ p.1=k):valV (p :: r) k=valV r k:=by simp [valV,List.find?_cons,e]
theorem valV_any (k:κ):∀ kvs:List (κ × V),(kvs.any fun kv=>decide (kv.1=k))=(valV kvs k).isSome
  | []=>rfl
  | p :: r=>by
    rw [List.any_cons]
    by_cases e:p.1=k
    · simp only [valV_pos e,decide_eq_true e,Bool.true_or,Option.isSome_some]
    · rw [valV_neg e,decide_eq_false e,Bool.false_or]; exact valV_any k r
theorem RelO.isSome_eq {o:Option V} {u:Option Value} (r:RelO o u):o.isSome=u.isSome:=by
  cases o with
  | none=>cases u with
    | none=>rfl
    | some _=>exact (show False from r).elim
  | some _=>cases u with
    | none=>exact (show False from r).elim
    | some _=>rfl
theorem RelO.getD {o:Option V} {u:Option Value} {d:V} {d':Value} (r:RelO o u) (rd:RelV d d'):RelV (o.getD d) (u.getD d'):=by
  cases o with
  | none=>cases u with
    | none=>exact rd
    | some _=>exact (show False from r).elim
  | some _=>cases u with
    | none=>exact (show False from r).elim
    | some _=>exact r
theorem KV.val {kvs:List (κ × V)} {vs:List (κ × Value)} (r:KV kvs vs) (k:κ):RelO (valV kvs k) (valueAt vs k):=by
  unfold KV at r
  induction r with
  | nil=>exact True.intro
  | @cons p q ps qs h t ih =>
    obtain ⟨h1,h2⟩:=h
    by_cases e:p.1=k
    · have e':q.1=k:=h1.symm.trans e
      have b:valueAt (q :: qs) k=some q.2:=by simp [valueAt,List.find?_cons,e']
      rw [valV_pos e,b]; exact h2
    · have e':¬ q.1=k:=fun z=>e (h1.trans z)
      have b:valueAt (q :: qs) k=valueAt qs k:=by simp [valueAt,List.find?_cons,e']
      rw [valV_neg e,b]; exact ih
theorem KV.any {kvs:List (κ × V)} {vs:List (κ × Value)} (r:KV kvs vs) (k:κ):(kvs.any fun kv=>decide (kv.1=k))=vs.any fun kv=>decide (kv.1=k):=by
  unfold KV at r
  induction r with
  | nil=>rfl
  | cons h t ih=>rw [List.any_cons,List.any_cons,ih,h.1]
theorem KV.repl {kvs:List (κ × V)} {vs:List (κ × Value)} (r:KV kvs vs) (k:κ) {y:V} {u:Value} (ry:RelV y u) :
    KV (kvs.map fun kv=>if kv.1=k then (kv.1,y) else kv) (vs.map fun kv=>if kv.1=k then (kv.1,u) else kv):=by
  unfold KV at r ⊢
  induction r with
  | nil=>exact .nil
  | @cons p q ps qs h t ih =>
    rw [List.map_cons,List.map_cons]
    refine .cons ?_ ih
    obtain ⟨h1,h2⟩:=h
    by_cases e:p.1=k
    · rw [if_pos e,if_pos (h1.symm.trans e)]; exact ⟨h1,ry⟩
    · rw [if_neg e,if_neg (fun z=>e (h1.trans z))]; exact ⟨h1,h2⟩
theorem KV.put {kvs:List (κ × V)} {vs:List (κ × Value)} (r:KV kvs vs) (k:κ) {y:V} {u:Value} (ry:RelV y u):KV (putK kvs k y) (stored vs k u):=by
  unfold putK stored
  rw [r.any k]
  by_cases e:(vs.any fun kv=>decide (kv.1=k))=true
  · rw [if_pos e,if_pos e]; exact r.repl k ry
  · rw [if_neg e,if_neg e]; exact Paired.snoc r ⟨rfl,ry⟩
theorem KV.drop {kvs:List (κ × V)} {vs:List (κ × Value)} (r:KV kvs vs) (k:κ):KV (dropK kvs k) (without vs k):=by
  unfold KV at r ⊢
  unfold dropK without
  induction r with
  | nil=>exact .nil
  | @cons p q ps qs h t ih =>
    obtain ⟨h1,h2⟩:=h
    rw [List.filter_cons,List.filter_cons]
    by_cases e:p.1=k
    · have a:¬ decide (p.1 ≠ k)=true:=by simp [e]
      have b:¬ decide (q.1 ≠ k)=true:=by simp [h1.symm.trans e]
      rw [if_neg a,if_neg b]; exact ih
    · have e':¬ q.1=k:=fun z=>e (h1.trans z)
      have a:decide (p.1 ≠ k)=true:=by simp [e]
      have b:decide (q.1 ≠ k)=true:=by simp [e']
      rw [if_pos a,if_pos b]; exact .cons ⟨h1,h2⟩ ih
theorem KV.keys {kvs:List (κ × V)} {vs:List (κ × Value)} (r:KV kvs vs):kvs.map (·.1)=vs.map (·.1):=by
  unfold KV at r
  induction r with
  | nil=>rfl
  | cons h t ih=>rw [List.map_cons,List.map_cons,ih,h.1]
theorem KV.length {kvs:List (κ × V)} {vs:List (κ × Value)} (r:KV kvs vs):kvs.length=vs.length:=Paired.length r
end
theorem kV_is {P:Program} {w:World} {k:Key} {u:Value} (r:RelV (kV k) u):(mixKind P w).is k u=true:=by
  cases k with
  | inl i=>obtain ⟨t,e⟩:=(show ∃ t,u=Value.int i t from r); subst e; exact mixKind_int P w i t
  | inr x=>obtain ⟨t,e⟩:=(show ∃ t,u=Value.str x t from r); subst e; exact mixKind_str P w x t
theorem items_are {P:Program} {w:World}:∀ {ks:List Key} {us:List Value},Vals (ks.map kV) us->ItemsAre (mixKind P w) ks us
  | [],_,r=>by rw [List.map_nil] at r; cases r; exact .nil
  | k :: ks,_,r=>by
    rw [List.map_cons] at r
    cases r with
    | cons h t=>exact .cons (kV_is h) (items_are t)
noncomputable abbrev KT (H:Hp):List (List Key × V)->List (List Key × Addr × Value)->Prop:=Paired fun p q=>p.1=q.1 /\ H q.2.1=some (.tup (p.1.map kV)) /\ RelV p.2 q.2.2
theorem KT.val {H:Hp} {kvs:List (List Key × V)} {xs:List (List Key × Addr × Value)} (r:KT H kvs xs) (k:List Key):RelO (valV kvs k) ((atKey xs k).map (·.2)):=by
  induction r with
  | nil=>exact True.intro
  | @cons p q ps qs h t ih =>
    obtain ⟨h1,_,h2⟩:=h
    by_cases e:p.1=k
    · have e':q.1=k:=h1.symm.trans e
      have b:atKey (q :: qs) k=some q.2:=by simp [atKey,List.find?_cons,e']
      rw [valV_pos e,b]; exact h2
    · have e':¬ q.1=k:=fun z=>e (h1.trans z)
      have b:atKey (q :: qs) k=atKey qs k:=by simp [atKey,List.find?_cons,e']
      rw [valV_neg e,b]; exact ih
theorem KT.repl {H:Hp} {kvs:List (List Key × V)} {xs:List (List Key × Addr × Value)} (r:KT H kvs xs) (k:List Key) {y:V} {u:Value} (ry:RelV y u) :
    KT H (kvs.map fun kv=>if kv.1=k then (kv.1,y) else kv) (xs.map (putAt k u)):=by
  induction r with
  | nil=>exact .nil
  | @cons p q ps qs h t ih =>
    rw [List.map_cons,List.map_cons]
    refine .cons ?_ ih
    obtain ⟨h1,h2,h3⟩:=h
    unfold putAt
    by_cases e:p.1=k
    · rw [if_pos e,if_pos (h1.symm.trans e)]; exact ⟨h1,h2,ry⟩
    · rw [if_neg e,if_neg (fun z=>e (h1.trans z))]; exact ⟨h1,h2,h3⟩
theorem KT.put {H:Hp} {kvs:List (List Key × V)} {xs:List (List Key × Addr × Value)} (r:KT H kvs xs) (k:List Key) {b:Addr} {y:V} {u:Value} (hb:H b=some (.tup (k.map kV))) (ry:RelV y u) :
    KT H (putK kvs k y) (storedH xs k b u):=by
  have e:(kvs.any fun kv=>decide (kv.1=k))=(atKey xs k).isSome:=by
    rw [valV_any,(r.val k).isSome_eq,Option.isSome_map]
  unfold putK storedH
  rw [e]
  by_cases q:(atKey xs k).isSome=true
  · rw [if_pos q,if_pos q]; exact r.repl k ry
  · rw [if_neg q,if_neg q]; exact Paired.snoc r ⟨rfl,hb,ry⟩
theorem KT.keeps {H H':Hp} {kvs:List (List Key × V)} {xs:List (List Key × Addr × Value)} (r:KT H kvs xs) (ht:∀ b ys,H b=some (.tup ys)->H' b=some (.tup ys)):KT H' kvs xs :=
  Paired.mapP r fun _ _ z=>⟨z.1,ht _ _ z.2.1,z.2.2⟩
section
variable {P:Program} {w:World} {H:Hp} {h:Heap} {a:Addr}
theorem rd_of {u:HO} (ok:HOk P w H h) (e:Rd H a u):ObjOk P w H h a u:=e.ok ok
theorem dk_rd {kvs:List (Key × V)} (ok:HOk P w H h) (e:Rd H a (.dK kvs)):kvs.length<=sizeLine /\ (a == sysModules)=false /\ ∃ vs,KV kvs vs /\ h.DictOf (mixKind P w) a vs :=
  show ObjOk P w H h a (.dK kvs) from rd_of ok e
theorem key_of {ks:List Key} (ok:HOk P w H h) (e:H a=some (.tup (ks.map kV))):(tupleKind (mixKind P w)).is h ks a:=by
  obtain ⟨_,its,r,o,h1,h2,n,h3⟩:=(show ObjOk P w H h a (.tup (ks.map kV)) from ok a _ e)
  exact ⟨o,its.toArray,n,h1,h2,h3,by simpa using items_are r⟩
theorem dt_rd {kvs:List (List Key × V)} (ok:HOk P w H h) (e:Rd H a (.dT kvs)):kvs.length<=sizeLine /\ (a == sysModules)=false /\
    ∃ xs,KT H kvs xs /\ h.DictOfH (tupleKind (mixKind P w)) a xs:=by
  obtain ⟨z,y,xs,r,o,es,ep,h1,h2,h3,h4,h5⟩:=(show ObjOk P w H h a (.dT kvs) from rd_of ok e)
  refine ⟨z,y,xs,r,o,es,ep,h1,h2,h3,h4,fun x hx=>?_,h5⟩
  have all:∀ {l:List (List Key × V)} {m:List (List Key × Addr × Value)},KT H l m->∀ x ∈ m,(tupleKind (mixKind P w)).is h x.1 x.2.1:=by
    intro l m q
    induction q with
    | nil=>intro x hx; exact nomatch hx
    | @cons p q ps qs hq t ih =>
      intro x hx
      rcases List.mem_cons.mp hx with e | hx
      · subst e
        exact key_of ok (by rw [<- hq.1]; exact hq.2.1)
      · exact ih x hx
  exact all r x hx
end
noncomputable def DGet (H:Hp) (a:Addr) (y:V) (r:Option V):Prop :=
  (∃ kvs k,Rd H a (.dK kvs) /\ y=kV k /\ r=valV kvs k) \/ ∃ kvs k b,Rd H a (.dT kvs) /\ y=.ref b /\ H b=some (.tup (k.map kV)) /\ r=valV kvs k
noncomputable def DPut (H:Hp) (a:Addr) (y v:V) (H':Hp):Prop :=
  (∃ kvs k,H a=some (.dK kvs) /\ y=kV k /\ kvs.length < sizeLine /\ H'=upd H a (.dK (putK kvs k v))) \/
  ∃ kvs k b,H a=some (.dT kvs) /\ y=.ref b /\ H b=some (.tup (k.map kV)) /\ kvs.length < sizeLine /\ H'=upd H a (.dT (putK kvs k v))
theorem DGet.k {H:Hp} {a:Addr} {kvs:List (Key × V)} {k:Key} (e:H a=some (.dK kvs)):DGet H a (kV k) (valV kvs k):=.inl ⟨kvs,k,.inl e,rfl,rfl⟩
theorem DGet.t {H:Hp} {a b:Addr} {kvs:List (List Key × V)} {k:List Key} (e:H a=some (.dT kvs)) (eb:H b=some (.tup (k.map kV))):DGet H a (.ref b) (valV kvs k):=.inr ⟨kvs,k,b,.inl e,rfl,eb,rfl⟩
theorem DPut.k {H:Hp} {a:Addr} {kvs:List (Key × V)} {k:Key} {v:V} (e:H a=some (.dK kvs)) (hl:kvs.length < sizeLine):DPut H a (kV k) v (upd H a (.dK (putK kvs k v))):=.inl ⟨kvs,k,e,rfl,hl,rfl⟩
theorem DPut.t {H:Hp} {a b:Addr} {kvs:List (List Key × V)} {k:List Key} {v:V} (e:H a=some (.dT kvs)) (eb:H b=some (.tup (k.map kV))) (hl:kvs.length < sizeLine) :
    DPut H a (.ref b) v (upd H a (.dT (putK kvs k v))):=.inr ⟨kvs,k,b,e,rfl,eb,hl,rfl⟩
section
variable {X:Cx} {pins:List (Addr × Obj)} {σ:St} {H:Hp} {s:Shared} {a:Addr} {y v:V} {u r:Value} {o:Option V} {A:Around} {E:Value->Shared->Prop}
theorem Inv.big (I:Inv X pins σ H s):sysModules < s.heap.objs.size:=by
  have h:mainGlobals < s.heap.objs.size:=(I.mod.glob.keeps I.bk).lt
  exact Nat.lt_trans (by decide) h
theorem d_getItem {Q:Value->Shared->Prop} (hu:A.units + 1 < cLine) (I:Inv X pins σ H s) (g:DGet H a y (some v)) (ry:RelV y u) (h:∀ w' s',Inv X pins σ H s'->RelV v w'->Q w' s') :
    wpAny (model X.prog X.w) A (getItem (.ref a) u) Q E s:=by
  rcases g with ⟨kvs,k,e,ey,l⟩ | ⟨kvs,k,b,e,ey,eb,l⟩
  · subst ey
    obtain ⟨z,hd,vs,rel,dd⟩:=dk_rd I.hok e
    obtain ⟨w',hw,rw'⟩:=RelO.some_of (v:=v) (o:=valueAt vs k) (by rw [l]; exact rel.val k)
    exact wpAny_getItem_of (kV_is ry) dd.mapOf hw (h w' _ (I.tok _) rw')
  · subst ey
    cases (show u=Value.ref b from ry)
    obtain ⟨z,hd,xs,rel,dd⟩:=dt_rd I.hok e
    obtain ⟨w',hw,rw'⟩:=RelO.some_of (v:=v) (o:=(atKey xs k).map (·.2)) (by rw [l]; exact rel.val k)
    obtain ⟨p,hp,hp2⟩:=Option.map_eq_some_iff.mp hw
    refine wpAny_getItem_heap (tupleKind_room_in1 hu) (key_of I.hok eb) dd hp ?_
    rw [hp2]
    exact h w' _ (I.tok _) rw'
theorem d_in {Q:Value->Shared->Prop} (hu:A.units + 1 < cLine) (I:Inv X pins σ H s) (g:DGet H a y o) (ry:RelV y u) (h:∀ s',Inv X pins σ H s'->Q (.bool o.isSome) s') :
    wpAny (model X.prog X.w) A (compareOp .In u (.ref a)) Q E s:=by
  rcases g with ⟨kvs,k,e,ey,l⟩ | ⟨kvs,k,b,e,ey,eb,l⟩
  · subst ey
    obtain ⟨z,hd,vs,rel,dd⟩:=dk_rd I.hok e
    refine wpAny_in_of (kV_is ry) hd dd.mapOf ?_
    rw [<- (rel.val k).isSome_eq,<- l]
    exact h _ (I.tok _)
  · subst ey
    cases (show u=Value.ref b from ry)
    obtain ⟨z,hd,xs,rel,dd⟩:=dt_rd I.hok e
    refine wpAny_in_heap (tupleKind_room_in1 hu) (key_of I.hok eb) hd dd ?_
    have q:=(rel.val k).isSome_eq
    rw [Option.isSome_map] at q
    rw [<- q,<- l]
    exact h _ (I.tok _)
theorem d_notIn {Q:Value->Shared->Prop} (hu:A.units + 1 < cLine) (I:Inv X pins σ H s) (g:DGet H a y o) (ry:RelV y u) (h:∀ s',Inv X pins σ H s'->Q (.bool (!o.isSome)) s') :
    wpAny (model X.prog X.w) A (compareOp .NotIn u (.ref a)) Q E s:=by
  rcases g with ⟨kvs,k,e,ey,l⟩ | ⟨kvs,k,b,e,ey,eb,l⟩
  · subst ey
    obtain ⟨z,hd,vs,rel,dd⟩:=dk_rd I.hok e
    refine wpAny_notIn_of (kV_is ry) hd dd.mapOf ?_
    rw [<- (rel.val k).isSome_eq,<- l]
    exact h _ (I.tok _)
  · subst ey
    cases (show u=Value.ref b from ry)
    obtain ⟨z,hd,xs,rel,dd⟩:=dt_rd I.hok e
    refine wpAny_notIn_heap (tupleKind_room_in1 hu) (key_of I.hok eb) hd dd ?_
    have q:=(rel.val k).isSome_eq
    rw [Option.isSome_map] at q
    rw [<- q,<- l]
    exact h _ (I.tok _)
end
section
variable {X:Cx} {pins:List (Addr × Obj)} {σ:St} {H:Hp} {s:Shared} {a:Addr} {kvs:List (Key × V)} {k:Key} {u:Value} {A:Around} {E:Value->Shared->Prop}
end
section
variable {X:Cx} {o i e value:Expr} {pos pos' tpos:Pos} {td ty tv:TE}
end
theorem dk_empty {P:Program} {w:World} {H:Hp} (h:Heap) (hb:sysModules < h.objs.size):ObjOk P w H (h.push { cls:=.type "dict",data:=.dict #[] }) h.objs.size (.dK []) :=
  ⟨Nat.zero_le _,beq_eq_false_iff_ne.mpr (Ne.symm (Nat.ne_of_lt hb)),[],.nil,Heap.DictOf.new h⟩
noncomputable def tDNewK:TE:=fun _ H Q=>∀ p,H p=none->Q (.ref p) (upd H p (.dK []))
section
variable {X:Cx} {pos:Pos}
theorem pe_dnewK:PE X (.Dict [] [] pos) tDNewK:=fun pins s σ H Q I h =>
  wpAny_Dict_empty ⟨.ref s.heap.objs.size,_,I.laid (a:=s.heap.objs.size) (o:=.dK []) (t':=s.toks) (fun _ _ q=>Heap.get?_push_of_some _ q) (Nat.le_refl _) (dk_empty s.heap I.big),rfl,h _ (I.hok.fresh (Nat.le_refl _))⟩
end
noncomputable def tPairs:List (TE × TE)->St->Hp->(List (V × V)->Hp->Prop)->Prop
  | [],_,H,Q=>Q [] H
  | (tk,tv) :: r,σ,H,Q=>tk σ H fun x H1=>tv σ H1 fun y H2=>tPairs r σ H2 fun ps H3=>Q ((x,y) :: ps) H3
noncomputable abbrev VV:List (V × V)->List (Value × Value)->Prop:=Paired fun p q=>RelV p.1 q.1 /\ RelV p.2 q.2
noncomputable def PPs (X:Cx) (pos:Pos) (keys:List (Option Expr)) (values:List Expr) (trs:List (TE × TE)):Prop :=
  ∀ (pins:List (Addr × Obj)) (s:Shared) (σ:St) (H:Hp) (Q:List (V × V)->Hp->Prop),Inv X pins σ H s->tPairs trs σ H Q ->
    wpAny (model X.prog X.w) X.A (evalPairs (pairTrees keys values X.env pos)) (fun vs s'=>∃ ps H',Inv X pins σ H' s' /\ VV ps vs /\ Q ps H') X.xe s
theorem pps_nil {X:Cx} {pos:Pos}:PPs X pos [] [] []:=fun pins s σ H Q I h=>pairTrees_nil_walk ⟨[],H,I,.nil,h⟩
theorem pps_cons {X:Cx} {pos:Pos} {k v:Expr} {ks:List (Option Expr)} {vs:List Expr} {tk tv:TE} {trs:List (TE × TE)} (hk:PE X k tk) (hv:PE X v tv) (hr:PPs X pos ks vs trs) :
    PPs X pos (some k :: ks) (v :: vs) ((tk,tv) :: trs):=fun pins s σ H Q I h =>
  pairTrees_cons_walk (thn (hk pins s σ H _ I h) fun u s1 ⟨x,H1,I1,rx,q1⟩=>thn (hv pins s1 σ H1 _ I1 q1) fun w2 s2 ⟨y,H2,I2,ry,q2⟩ =>
    thn (hr pins s2 σ H2 _ I2 q2) fun ws s3 ⟨ps,H3,I3,rel,q3⟩=>⟨(x,y) :: ps,H3,I3,.cons ⟨rx,ry⟩ rel,q3⟩)
structure M1 (X:Cx) (o:Expr) (m:Str) (apos:Pos) (e:Expr) (cpos:Pos):Prop where
  base:attributeBase o m X.env (eval o X.env)=eval o X.env
  few:((backTo cpos (starEach [e] X.env)).all (fun x=>!x.1) && (backToKw cpos (keywordEach [] X.env)).all (fun x=>x.1.isSome)
    && decide (([e]:List Expr).length + ([]:List Keyword).length + (if ([]:List Keyword).isEmpty then 0 else 1) < 30))=true
  line:(apos.endLine == cpos.line)=true
  trees:backTo cpos (starEach [e] X.env)=[(false,eval e X.env)]
structure M2 (X:Cx) (o:Expr) (m:Str) (apos:Pos) (e f:Expr) (cpos:Pos):Prop where
  base:attributeBase o m X.env (eval o X.env)=eval o X.env
  few:((backTo cpos (starEach [e,f] X.env)).all (fun x=>!x.1) && (backToKw cpos (keywordEach [] X.env)).all (fun x=>x.1.isSome)
    && decide (([e,f]:List Expr).length + ([]:List Keyword).length + (if ([]:List Keyword).isEmpty then 0 else 1) < 30))=true
  line:(apos.endLine == cpos.line)=true
  trees:backTo cpos (starEach [e,f] X.env)=[(false,eval e X.env),(false,eval f X.env)]
section
variable {X:Cx} {pins:List (Addr × Obj)} {σ:St} {H:Hp} {s:Shared} {a:Addr} {y d:V} {u r:Value} {o:Option V} {A:Around} {E:Value->Shared->Prop}
end
section
variable {X:Cx} {o e f:Expr} {apos cpos:Pos} {td ty tx:TE}
end
section
variable {X:Cx} {pins:List (Addr × Obj)} {σ:St} {H:Hp} {s:Shared} {a:Addr} {kvs:List (Key × V)} {A:Around} {E:Value->Shared->Prop}
end
section
variable {X:Cx} {pins:List (Addr × Obj)} {σ:St} {H:Hp} {s:Shared} {a:Addr} {y:V} {u:Value} {A:Around} {E:Value->Shared->Prop}
end
end L2
set_option Elab.async false
set_option linter.all false
set_option maxRecDepth 100000
namespace L2
open PySem PyProof.Rows
open Sem (wp)
theorem setGen_toks (s:Shared) (g:Nat) (x:GenState):(s.setGen g x).toks=s.toks:=rfl
theorem runs_toks {M:Model} {Γ:Ctx} {p:Pos} {t:Sem Fin} {fs:List Frame} {s s':Shared} {e:End} (h:Runs M Γ p t fs s e s'):s.toks<=s'.toks:=by
  induction h
  all_goals first
    | exact Nat.le_refl _
    | assumption
    | (simp only [setGen_toks] at *; omega)
    | omega
    | (dsimp only at *; omega)
    | trace_state
theorem wakes_toks {M:Model} {Γ:Ctx} {p:Pos} {g:Nat} {r:Resume} {s s':Shared} {res:GenResult} (h:Wakes M Γ p g r s res s'):s.toks<=s'.toks:=by
  unfold Wakes at h
  split at h
  · exact h.elim
  · split at h
    · obtain ⟨e₁,s₁,h1,_,_,rfl⟩:=h
      have:=runs_toks h1
      simpa only [setGen_toks] using this
    · obtain ⟨_,rfl⟩:=h; exact Nat.le_refl _
    · obtain ⟨_,rfl⟩:=h; exact Nat.le_refl _
  · obtain ⟨e₁,s₁,h1,_,_,rfl⟩:=h
    have:=runs_toks h1
    simpa only [setGen_toks] using this
  · obtain ⟨_,rfl⟩:=h; exact Nat.le_refl _
  · obtain ⟨_,rfl⟩:=h; exact Nat.le_refl _
theorem wp_toks {α:Type} (M:Model) (Γ:Ctx):∀ (t:Sem α) (Q:α->Pos->Shared->Prop) (E:Value->Pos->Shared->Prop) (p:Pos) (s:Shared),wp M Γ t Q E p s ->
    wp M Γ t (fun a p' s'=>Q a p' s' /\ s.toks<=s'.toks) (fun e p' s'=>E e p' s' /\ s.toks<=s'.toks) p s:=by
  have mono:∀ {t:Sem α} {Q:α->Pos->Shared->Prop} {E:Value->Pos->Shared->Prop} {p:Pos} {s s0:Shared},s0.toks<=s.toks->wp M Γ t (fun a p' s'=>Q a p' s' /\ s.toks<=s'.toks) (fun e p' s'=>E e p' s' /\ s.toks<=s'.toks) p s ->
      wp M Γ t (fun a p' s'=>Q a p' s' /\ s0.toks<=s'.toks) (fun e p' s'=>E e p' s' /\ s0.toks<=s'.toks) p s:=by
    intro t Q E p s s0 h0 h
    exact Sem.wp_mono M Γ t (fun _ _ _ q=>⟨q.1,Nat.le_trans h0 q.2⟩) (fun _ _ _ q=>⟨q.1,Nat.le_trans h0 q.2⟩) p s h
  intro t
  induction t with
  | pure a=>intro Q E p s h; rw [wp] at h ⊢; exact ⟨h,Nat.le_refl _⟩
  | raise e=>intro Q E p s h; rw [wp] at h ⊢; exact ⟨h,Nat.le_refl _⟩
  | unsupported w=>intro Q E p s h; rw [wp] at h; exact h.elim
  | finish w=>intro Q E p s h; rw [wp] at h; exact h.elim
  | rule _ k ih=>intro Q E p s h; rw [wp] at h ⊢; exact ih () Q E p s h
  | «at» p' k ih=>intro Q E p s h; rw [wp] at h ⊢; exact ih () Q E p' s h
  | load a _ k ih=>intro Q E p s h; rw [wp] at h ⊢; obtain ⟨o,e,h⟩:=h; exact ⟨o,e,ih o Q E p s h⟩
  | update a _ f k ih=>intro Q E p s h; rw [wp] at h ⊢; exact ⟨h.1,mono (Nat.le_refl _) (ih () Q E p _ h.2)⟩
  | loadIfAlive a k ih=>intro Q E p s h; rw [wp] at h ⊢; exact ih _ Q E p s h
  | point _ k ih=>intro Q E p s h; rw [wp] at h ⊢; exact ih () Q E p s h
  | register _ _=>intro Q E p s h; rw [wp] at h; exact h.elim
  | alloc o k ih=>intro Q E p s h; rw [wp] at h ⊢; exact mono (Nat.le_refl _) (ih _ Q E p _ h)
  | fresh k ih=>intro Q E p s h; rw [wp] at h ⊢; exact mono (Nat.le_succ _) (ih _ Q E p _ h)
  | ask k ih=>intro Q E p s h; rw [wp] at h ⊢; exact ih _ Q E p s h
  | choose src n k ih=>intro Q E p s h; rw [wp] at h ⊢; exact ⟨h.1,mono (Nat.le_refl _) (ih _ Q E p _ h.2)⟩
  | os q _ k ih=>intro Q E p s h; rw [wp] at h ⊢; exact mono (Nat.le_refl _) (ih _ Q E p _ h)
  | call c hd _ _ k ih =>
    intro Q E p s h
    rw [wp] at h ⊢
    obtain ⟨r,s',hr,h⟩:=h
    exact ⟨r,s',hr,mono (runs_toks hr) (ih r Q E p s' h)⟩
  | handled own k ih=>intro Q E p s h; rw [wp] at h ⊢; exact ih _ Q E p s h
  | genState g k ih=>intro Q E p s h; rw [wp] at h ⊢; obtain ⟨st,e,h⟩:=h; exact ⟨st,e,ih _ Q E p s h⟩
  | newGen c k ih=>intro Q E p s h; rw [wp] at h ⊢; exact mono (Nat.le_refl _) (ih _ Q E p _ h)
  | resume g r _ k ih =>
    intro Q E p s h
    rw [wp] at h ⊢
    obtain ⟨res,s',hr,h⟩:=h
    exact ⟨res,s',hr,mono (wakes_toks hr) (ih res Q E p s' h)⟩
  | yield=>intro Q E p s h; rw [wp] at h; exact h.elim
  | stack k ih=>intro Q E p s h; rw [wp] at h ⊢; exact ih _ Q E p s h
  | fork=>intro Q E p s h; rw [wp] at h; exact h.elim
  | thread k ih=>intro Q E p s h; rw [wp] at h ⊢; exact ih _ Q E p s h
  | await=>intro Q E p s h; rw [wp] at h; exact h.elim
theorem wpAny_toks {α:Type} {M:Model} {A:Around} {t:Sem α} {Q:α->Shared->Prop} {E:Value->Shared->Prop} {s:Shared} (h:wpAny M A t Q E s):wpAny M A t (fun a s'=>Q a s' /\ s.toks<=s'.toks) E s :=
  fun Γ p hΓ=>Sem.wp_mono M Γ t (fun _ _ _ q=>q) (fun _ _ _ q=>q.1) p s (wp_toks M Γ t _ _ p s (h Γ p hΓ))
end L2
set_option Elab.async false
set_option linter.all false
set_option maxRecDepth 100000
namespace L2
open PySem PyProof.Rows
open Sem (wp)
theorem excMatches_own {M:Model} {A:Around} {E:Value->Shared->Prop} {nm q nm' q':Str} {C N D N':Addr} {bs bm bs' bm':List Value} {hdct hdct':Bool} {sn sn':List Str} {sub sub':List Value} {ab ab':Bool} {col col':Option Bool} {dd dd':Option Addr}
    {k0 k1 k2 k3 k5 k0' k1' k2' k3' k5':Option Value} {newId newId':String} {h:Heap} {g:Array GenState} {d:Drawn} {t:Nat} {os:OsState} {e:Addr} {oe:Obj} {b:Bool} {Q:Bool->Shared->Prop}
    (hC:h.get? C=some (excClassObj nm q C N bs bm hdct sn sub ab col dd k0 k1 k2 k3 k5 newId)) (hD:h.get? D=some (excClassObj nm' q' D N' bs' bm' hdct' sn' sub' ab' col' dd' k0' k1' k2' k3' k5' newId'))
    (he:h.get? e=some oe) (hcls:oe.cls=.ref C) (hbase:bm'.contains (.type "BaseException")=true) (hb:(Value.ref C :: bm).contains (.ref D)=b)
    (hq:Q b ⟨h,g,d,t,os⟩):wpAny M A (excMatches (.ref e) (.ref D)) Q E ⟨h,g,d,t,os⟩:=by
  have hcB:(Value.ref D :: bm').contains (.type "BaseException")=true:=by rw [List.contains_cons,hbase,Bool.or_true]
  have f:=tc_notTuple
  unfold excMatches
  repeat (first | (with_reducible refine wpAny_loadPart_at he ?_; rw [hcls]) | with_reducible refine wpAny_loadPart_at hD ?_ | (with_reducible refine wpAny_isSubtype_exc hD ?_; rw [hcB]) | (with_reducible refine wpAny_isSubtype_exc hC ?_; rw [hb]) | wp_step)
  all_goals (cases b <;> (try wp_walk) <;> exact hq)
end L2
set_option Elab.async false
set_option linter.all false
set_option maxRecDepth 100000
namespace L2
open PySem PySem.Spec PyProof.Rows
noncomputable def Fl (h:Heap) (a:Addr) (C:Value) (T:Option Addr):Prop :=
  ∃ oe vs a0,h.get? a=some oe /\ oe.cls=C /\ oe.data=.fields vs /\ vs[0]?=some a0 /\ 1 < vs.size /\
    (match T with
    | none=>vs[1]?=some Value.none
    | some t=>vs[1]?=some (Value.ref t) /\ t ≠ a /\ ∃ oT ts,h.get? t=some oT /\ oT.data=.fields ts /\ 3 < ts.size)
theorem frameOf_congr {e1 e2:Env} (h:e1.frame=e2.frame):PySem.frameOf e1=PySem.frameOf e2:=by
  unfold PySem.frameOf; rw [h]
theorem noteFrame_congr {e:Value} {e1 e2:Env} (h:e1.frame=e2.frame):noteFrame e e1=noteFrame e e2:=by
  unfold noteFrame; rw [h,frameOf_congr h]
structure Wr (l fs:List Addr) (h h':Heap):Prop where
  keep:∀ b o,b ∉ l->b ∉ fs->h.get? b=some o->h'.get? b=some o
  slot:∀ b o,b ∉ l->b ∈ fs->h.get? b=some o->∃ sl,h'.get? b=some { o with slots:=sl }
theorem Wr.any {l fs:List Addr} {h h':Heap} (W:Wr l fs h h') {b:Addr} {o:Obj} (hb:b ∉ l) (e:h.get? b=some o):∃ sl,h'.get? b=some { o with slots:=sl }:=by
  by_cases hf:b ∈ fs
  · exact W.slot b o hb hf e
  · exact ⟨o.slots,W.keep b o hb hf e⟩
theorem ObjOk.there {P:Program} {w:World} {H:Hp} {h:Heap} {a:Addr} {o:HO} (x:ObjOk P w H h a o):∃ ob,h.get? a=some ob:=by
  cases o with
  | lst xs=>obtain ⟨_,_,_,_,e⟩:=x; exact ⟨_,e⟩
  | tup xs=>obtain ⟨_,_,_,ob,e,_⟩:=x; exact ⟨_,e⟩
  | dK kvs=>obtain ⟨_,_,_,_,o,_,_,e,_⟩:=x; exact ⟨_,e⟩
  | dT kvs=>obtain ⟨_,_,_,_,o,_,_,e,_⟩:=x; exact ⟨_,e⟩
  | set S n=>obtain ⟨o,_,_,_,e,_⟩:=x; exact ⟨_,e⟩
  | ins C dx fs=>obtain ⟨_,_,_,e,_⟩:=x; exact ⟨_,e⟩
  | own y=>obtain ⟨_,e⟩:=x; exact ⟨_,e⟩
  | xd fs=>obtain ⟨_,⟨_,_,_,e,_⟩,_⟩:=x; exact ⟨_,e⟩
  | rng lo hi=>obtain ⟨_,_,_,e⟩:=x; exact ⟨_,e⟩
  | frz ob u=>obtain ⟨e,_⟩:=x; exact ⟨_,e⟩
  | tbl ps=>exact ⟨_,(show h.get? a=some _ from x)⟩
  | met f y=>exact ⟨_,(show h.get? a=some _ from x)⟩
  | ext φ=>obtain ⟨_,⟨_,e⟩,_⟩:=x; exact ⟨_,e⟩
section
variable {M:Model} {A:Around} {E:Value->Shared->Prop} {s:Shared} {base:Heap} {env top:Env} {outer:List Env} {L a:Addr} {C:Value} {T:Option Addr}
theorem note_any {Q:Unit->Shared->Prop} (hfr:A.frames=some (top :: outer)) (ht:top.frame=some L) (hf:env.frame=some L) (hl:s.heap.FunFrames base (top :: outer)) (fl:Fl s.heap a C T)
    (h:∀ h' T',Wr (a :: T.toList) (frs (top :: outer)) s.heap h'->Fl h' a C (some T')->(T=some T' \/ s.heap.get? T'=none)->Q () { s with heap:=h' }) :
    wpAny M A (noteFrame (.ref a) env) Q E s:=by
  rw [noteFrame_congr (e1:=env) (e2:=top) (hf.trans ht.symm)]
  have fl0:=fl
  obtain ⟨oe,vs,a0,he,hc,hd,h0,hsz,hT⟩:=fl
  subst hc
  generalize hB:PySem.W.hideAll s.heap (a :: (T.toList ++ frs (top :: outer)))=B
  have hkb:B.StaysIn s.heap:=fun b o e=>by rw [<- hB] at e; exact PySem.W.of_hideAll _ e
  have hen:B.get? a=none:=by rw [<- hB]; exact PySem.W.hideAll_none _ (List.mem_cons_self ..)
  have hl':s.heap.FunFrames B (top :: outer):=by
    rw [<- hB]
    refine PySem.W.funFrames_hide hl fun env' he' b hb=>?_
    exact List.mem_cons_of_mem _ (List.mem_append_right _ (List.mem_filterMap.mpr ⟨env',he',hb⟩))
  have nf:∀ b,b ∈ frs (top :: outer)->∀ o,s.heap.get? b=some o->∀ vs,o.data ≠ .fields vs:=fun b hb o e=>by
    obtain ⟨_,o',ho',hnf⟩:=hl.mem hb
    rw [e] at ho'; cases ho'; exact hnf
  have unhid:∀ b o,b ∉ a :: T.toList->b ∉ frs (top :: outer)->s.heap.get? b=some o->B.get? b=some o:=fun b o hb hfb e=>by
    rw [<- hB]
    refine PySem.W.hideAll_get _ e fun z=>?_
    rcases List.mem_cons.mp z with z | z
    · exact hb (z ▸ List.mem_cons_self ..)
    · rcases List.mem_append.mp z with z | z
      · exact hb (List.mem_cons_of_mem _ z)
      · exact hfb z
  have fin:∀ h',Heap.NotedW B (top :: outer) a oe.cls a0 (rawInt L) s.heap h'->Q () { s with heap:=h' }:=fun h' hN=>by
    obtain ⟨n1,n2,⟨oe',vs',T',oT',ts',g1,⟨g2,g3⟩,g4,g5,g6,g7,g8,g9,g10⟩,n4⟩:=hN
    have slot:∀ b o,b ∈ frs (top :: outer)->s.heap.get? b=some o->∃ sl,h'.get? b=some { o with slots:=sl }:=fun b o hb e=>n4 b o e (nf b hb o e)
    refine h h' T' ⟨fun b o hb hfb e=>n1 b o (unhid b o hb hfb e),fun b o _ hb e=>slot b o hb e⟩ ⟨oe',vs',a0,g1,g2,g4,g3,(Array.getElem?_eq_some_iff.mp g5).1,g5,g7,oT',ts',g8,g9,(Array.getElem?_eq_some_iff.mp g10).1⟩ ?_
    by_cases q1:T' ∈ a :: T.toList
    · rcases List.mem_cons.mp q1 with z | z
      · exact absurd z g7
      · left
        cases T with
        | none=>simp at z
        | some t => have z' : T' = t := by simpa using z
                    rw [z']
    · right
      cases e:s.heap.get? T' with
      | none=>rfl
      | some o =>
        exfalso
        by_cases q2:T' ∈ frs (top :: outer)
        · obtain ⟨sl,q⟩:=slot T' o q2 e
          rw [g8] at q
          have q':oT'={ o with slots:=sl }:=Option.some.inj q
          rw [q'] at g9
          exact nf T' q2 o e _ g9
        · have:=unhid T' o q1 q2 e
          rw [g6] at this; cases this
  cases T with
  | none =>
    unfold noteFrame
    simp only [ht]
    refine wpAny_bind (wpAny_field he hd hT ?_)
    rw [if_neg (by decide)]
    exact wpAny_entryW hfr hl' ht he hkb hen hd hsz h0 fin
  | some t =>
    obtain ⟨h1,hta,oT,ts,hoT,hdT,hs3⟩:=hT
    obtain ⟨fl3,h3⟩:∃ v,ts[3]?=some v:=⟨ts[3],by simp [hs3]⟩
    have hnT:B.get? t=none:=by rw [<- hB]; exact PySem.W.hideAll_none _ (by simp)
    unfold noteFrame
    simp only [ht]
    refine wpAny_bind (wpAny_field he hd h1 ?_)
    rw [if_pos (show (Value.ref t != Value.none)=true from by simp)]
    refine wpAny_bind (wpAny_field hoT hdT h3 ?_)
    by_cases hfl:(fl3 == rawInt L)=true
    · rw [if_pos hfl]
      exact wpAny_pure (h s.heap t ⟨fun b o _ _ e=>e,fun b o _ _ e=>⟨o.slots,e⟩⟩ fl0 (.inl rfl))
    · rw [if_neg hfl]
      refine wpAny_bind (wpAny_setField hoT hdT hs3 ?_)
      have other:∀ b,b ≠ t->(s.heap.update t (Obj.mapFields (·.setIfInBounds 3 Value.none))).get? b=s.heap.get? b:=fun b hb=>Heap.get?_update_other _ _ (Ne.symm hb)
      have noRecord:∀ b o,s.heap.get? b=some o->(∀ vs,o.data ≠ .fields vs)->b ≠ t:=fun b o hb hnf q=>by
        rw [q,hoT] at hb; injection hb with hb; subst hb; exact hnf ts hdT
      refine wpAny_entryW hfr (hl'.of_keeps fun b o hb hnf=>⟨o,(other b (noRecord b o hb hnf)).trans hb,rfl⟩) ht ((other a (Ne.symm hta)).trans he)
        (fun b o hbo=>(other b fun q=>by rw [q,hnT] at hbo; cases hbo).trans (hkb b o hbo)) hen hd hsz h0 ?_
      rintro h' ⟨x1,x2,x3,x4⟩
      exact fin h' ⟨x1,x2,x3,fun b o hb hnf=>x4 b o ((other b (noRecord b o hb hnf)).trans hb) hnf⟩
theorem flight_any {t:Addr} {f:Option Addr} {Q:Unit->Shared->Prop} (fl:Fl s.heap a C (some t))
    (h:∀ h',Heap.SameBut t s.heap h'->Fl h' a C (some t)->Q () { s with heap:=h' }):wpAny M A (setFlight (.ref a) f) Q E s:=by
  obtain ⟨oe,vs,a0,he,hc,hd,h0,hsz,h1,hta,oT,ts,hoT,hdT,hs3⟩:=fl
  unfold setFlight
  refine wpAny_bind (wpAny_field he hd h1 ?_)
  rw [if_pos (show (Value.ref t != Value.none)=true from by simp)]
  refine wpAny_setField hoT hdT hs3 (h _ (Heap.SameBut.update ..) ?_)
  have hdT':=Obj.data_mapFields hdT (·.setIfInBounds 3 (f.elim Value.none fun f=>rawInt f))
  refine ⟨oe,vs,a0,(Heap.get?_update_other _ _ hta).trans he,hc,hd,h0,hsz,h1,hta,_,_,Heap.get?_update_self _ hoT (Obj.isFreed_of_fields hdT'),hdT',?_⟩
  simpa using hs3
theorem traced_any {t:Addr} {Q:Value->Shared->Prop} (fl:Fl s.heap a C (some t)) (h:Q (.ref t) s):wpAny M A (field (.ref a) 1) Q E s:=by
  obtain ⟨oe,vs,a0,he,hc,hd,h0,hsz,h1,_⟩:=fl
  exact wpAny_field he hd h1 h
end
theorem Fl.at {h h':Heap} {a:Addr} {C:Value} {T:Option Addr} (fl:Fl h a C T) (k:∀ b ∈ a :: T.toList,∀ o,h.get? b=some o->h'.get? b=some o):Fl h' a C T:=by
  obtain ⟨oe,vs,a0,he,hc,hd,h0,hsz,hT⟩:=fl
  refine ⟨oe,vs,a0,k a (by simp) _ he,hc,hd,h0,hsz,?_⟩
  cases T with
  | none=>exact hT
  | some t =>
    obtain ⟨h1,hta,oT,ts,hoT,r⟩:=hT
    exact ⟨h1,hta,oT,ts,k t (by simp) _ hoT,r⟩
theorem Fl.rec {h:Heap} {a:Addr} {C:Value} {T:Option Addr} (fl:Fl h a C T):∀ b ∈ a :: T.toList,∃ o vs,h.get? b=some o /\ o.data=.fields vs:=by
  obtain ⟨oe,vs,a0,he,hc,hd,h0,hsz,hT⟩:=fl
  intro b hb
  rcases List.mem_cons.mp hb with rfl | hb
  · exact ⟨oe,vs,he,hd⟩
  · cases T with
    | none=>simp at hb
    | some t =>
      have e:b=t:=by simpa using hb
      subst e
      obtain ⟨h1,hta,oT,ts,hoT,hdT,_⟩:=hT
      exact ⟨oT,ts,hoT,hdT⟩
noncomputable def Ow (X:Cx) (pins:List (Addr × Obj)) (H:Hp) (b:Addr):Prop:=H b=none /\ X.s₀.heap.get? b=none /\ b ∉ X.ex /\ ∀ p ∈ X.pn ++ pins,p.1 ≠ b
structure XOk (X:Cx):Prop where
  top:∃ top outer L,X.stack=top :: outer /\ top.frame=some L /\ X.env.frame=some L
  ex:∀ b ∈ X.ex,∃ o,(b,o) ∈ X.pn
structure Fly (X:Cx) (pins:List (Addr × Obj)) (H:Hp) (h:Heap) (a:Addr) (C:Value) (T:Option Addr):Prop where
  fl:Fl h a C T
  ow:∀ b ∈ a :: T.toList,Ow X pins H b
section
variable {X:Cx} {pins:List (Addr × Obj)} {σ:List (Option V)} {H H':Hp} {s:Shared} {h':Heap}
theorem Inv.ow (ok:XOk X) (I:Inv X pins σ H s) (hH:H'=H \/ True) {b:Addr} (n:s.heap.get? b=none) (hn:H' b=none):Ow X pins H' b:=by
  have nx:b ∉ X.ex:=fun z=>by
    obtain ⟨o,ho⟩:=ok.ex b z
    have:=(I.pin (b,o) (List.mem_append_left _ ho)).1
    rw [n] at this; cases this
  refine ⟨hn,?_,nx,fun p hp e=>?_⟩
  · cases q:X.s₀.heap.get? b with
    | none=>rfl
    | some o =>
      obtain ⟨o',e⟩:=I.base.there b o q nx
      rw [n] at e; cases e
  · have:=(I.pin p hp).1
    rw [e,n] at this; cases this
theorem Inv.untracked (I:Inv X pins σ H s) {b:Addr} (n:s.heap.get? b=none):H b=none:=by
  cases q:H b with
  | none=>rfl
  | some o =>
    obtain ⟨ob,e⟩:=(I.hok b o q).there
    rw [n] at e; cases e
theorem Inv.wrote {l:List Addr} (I:Inv X pins σ H s) (W:Wr l (frs X.stack) s.heap h') (ow:∀ b ∈ l,Ow X pins H b) (rec:∀ b ∈ l,∃ o vs,s.heap.get? b=some o /\ o.data=.fields vs) :
    Inv X pins σ H { s with heap:=h' }:=by
  have lL:X.env.locals ∉ l:=fun z=>by
    obtain ⟨o,vs,e,d⟩:=rec _ z
    obtain ⟨m,⟨o',es,ep,ho',hd',_⟩,_⟩:=I.loc
    rw [e] at ho'; cases ho'; rw [d] at hd'; cases hd'
  have cL:∀ x c,X.env.cells.lookup x=some c->c ∉ l:=fun x c e z=>by
    obtain ⟨o,vs,e1,d⟩:=rec _ z
    obtain ⟨v,o',ho',hd'⟩:=I.cell x c e
    rw [e1] at ho'; cases ho'; rw [d] at hd'; cases hd'
  have sL:∀ b o,X.s₀.heap.get? b=some o->b ∉ l:=fun b o e z=>by rw [(ow b z).2.1] at e; cases e
  have tL:∀ b o,H b=some o->b ∉ l:=fun b o e z=>by rw [(ow b z).1] at e; cases e
  have nL:∀ m,s.heap.Ns X.env.locals m->h'.Ns X.env.locals m:=fun m hm=>by
    obtain ⟨o,es,ep,ho,hd,r⟩:=hm
    obtain ⟨sl,q⟩:=W.any lL ho
    exact ⟨_,es,ep,q,hd,r⟩
  have cell:∀ x c,X.env.cells.lookup x=some c->∀ v,s.heap.IsCell c v->h'.IsCell c v:=fun x c e v ⟨o,ho,hd⟩=>by
    obtain ⟨sl,q⟩:=W.any (cL x c e) ho
    exact ⟨_,q,hd⟩
  have fs0:∀ b,b ≠ X.env.locals->b ∉ X.fs->b ∉ frs X.stack:=fun b h1 h2 z=>(List.mem_cons.mp (I.stkSub b z)).elim h1 h2
  have old:∀ b o,X.s₀.heap.get? b=some o->b ≠ X.env.locals:=fun b o e=>Nat.ne_of_lt (Nat.lt_of_lt_of_le (Heap.lt_size e) I.ok.above)
  refine ⟨I.ok,I.os,I.bare,⟨fun b o e n hb hx=>?_,fun b o e n hb hx=>?_,I.base.free,fun b o e hx=>?_,I.base.tups,I.base.frzs,I.base.tbls⟩,?_,fun x c e=>?_,I.free,I.freeC,fun p hp=>?_,fun b u e=>?_,I.len⟩
  · exact W.keep b o (sL b o e) (fs0 b (old b o e) hb) (I.base.keep b o e n hb hx)
  · obtain ⟨sl,e1⟩:=I.base.slot b o e n hb hx
    obtain ⟨sl',e2⟩:=W.any (sL b o e) e1
    exact ⟨sl',e2⟩
  · obtain ⟨o',e1⟩:=I.base.there b o e hx
    obtain ⟨sl,e2⟩:=W.any (sL b o e) e1
    exact ⟨_,e2⟩
  · obtain ⟨m,hn,hl⟩:=I.loc
    refine ⟨m,nL m hn,fun i x v e1 e2 e3=>?_⟩
    obtain ⟨u,r,q⟩:=hl i x v e1 e2 e3
    refine ⟨u,r,?_⟩
    rcases q with q | ⟨k,c,e,z⟩
    · exact .inl q
    · exact .inr ⟨k,c,e,cell x c e _ z⟩
  · obtain ⟨v,z⟩:=I.cell x c e
    exact ⟨v,cell x c e v z⟩
  · obtain ⟨e,n,ne,nf,d⟩:=I.pin p hp
    exact ⟨W.keep p.1 p.2 (fun z=>(ow p.1 z).2.2.2 p hp rfl) (fs0 p.1 ne nf) e,n,ne,nf,d⟩
  · refine (I.hok b u e).stay (fun c v hc q=>?_) (fun _ q=>q) fun _ _ q=>q
    have hc':∃ u,H c=some u:=hc.elim (fun z=>⟨u,z ▸ e⟩) fun z=>⟨_,z⟩
    obtain ⟨u',e'⟩:=hc'
    exact W.keep c v (tL c u' e') (fun z=>by rw [I.stkFree c z] at e'; cases e') q
variable {M:Model} {A:Around} {E:Value->Shared->Prop} {a:Addr} {C:Value} {T:Option Addr} {env:Env}
theorem Inv.note {Q:Unit->Shared->Prop} (ok:XOk X) (I:Inv X pins σ H s) (F:Fly X pins H s.heap a C T) (hfr:A.frames=some X.stack) (hen:env.frame=X.env.frame)
    (h:∀ h' T',Inv X pins σ H { s with heap:=h' }->Fly X pins H h' a C (some T')->Q () { s with heap:=h' }):wpAny M A (noteFrame (.ref a) env) Q E s:=by
  obtain ⟨top,outer,L,e1,e2,e3⟩:=ok.top
  have hst:=I.stack
  rw [e1] at hfr hst
  refine note_any hfr e2 (hen.trans e3) hst F.fl fun h' T' W fl' new=>?_
  rw [<- e1] at W
  refine h h' T' (I.wrote W F.ow F.fl.rec) ⟨fl',fun b hb=>?_⟩
  rcases List.mem_cons.mp hb with rfl | hb
  · exact F.ow _ (List.mem_cons_self ..)
  · have e:b=T':=by simpa using hb
    subst e
    rcases new with q | q
    · exact F.ow _ (by rw [q]; simp)
    · exact I.ow ok (.inr trivial) q (I.untracked q)
theorem Inv.flight {t:Addr} {f:Option Addr} {Q:Unit->Shared->Prop} (I:Inv X pins σ H s) (F:Fly X pins H s.heap a C (some t))
    (h:∀ h',Inv X pins σ H { s with heap:=h' }->Fly X pins H h' a C (some t)->Q () { s with heap:=h' }):wpAny M A (setFlight (.ref a) f) Q E s:=by
  refine flight_any F.fl fun h' sb fl'=>h h' (I.wrote (l:=[a,t]) ⟨fun b o hb _ e=>(sb.2 b fun z=>hb (by simp [z])).trans e,fun b o hb _ e=>⟨o.slots,(sb.2 b fun z=>hb (by simp [z])).trans e⟩⟩ (fun b hb=>F.ow b (by simpa using hb)) fun b hb=>F.fl.rec b (by simpa using hb)) ⟨fl',F.ow⟩
theorem Inv.passOn {α:Type} {t:Addr} {what:String} {Q:α->Shared->Prop} (I:Inv X pins σ H s) (F:Fly X pins H s.heap a C (some t))
    (h:∀ h',Inv X pins σ H { s with heap:=h' }->Fly X pins H h' a C (some t)->E (.ref a) { s with heap:=h' }):wpAny M A (passOn what (.ref a) env:Sem α) Q E s:=by
  unfold PySem.passOn
  refine wpAny_bind (traced_any F.fl ?_)
  rw [if_neg (show ¬ ((Value.ref t == Value.none)=true) from by simp)]
  exact wpAny_bind (I.flight F fun h' I' F'=>wpAny_throw (h h' I' F'))
theorem Inv.cameBack {t:Addr} (I:Inv X pins σ H s) (F:Fly X pins H s.heap a C (some t))
    (h:∀ h',Inv X pins σ H { s with heap:=h' }->Fly X pins H h' a C (some t)->E (.ref a) { s with heap:=h' }):cameBackBy M A env E (.ref a) s:=by
  unfold cameBackBy
  refine wpAny_bind (traced_any F.fl ?_)
  rw [if_neg (show ¬ ((Value.ref t == Value.none)=true) from by simp)]
  exact I.flight F fun h' I' F'=>h h' I' F'
end
noncomputable abbrev ZK:=St->Value->Hp->Prop
noncomputable def XE (X:Cx) (Z:ZK) (e:Value) (s':Shared):Prop:=∃ a C T σ' H',e=.ref a /\ Inv X [] σ' H' s' /\ Fly X [] H' s'.heap a C T /\ Z σ' C H'
structure Thr (X:Cx) (Z:ZK):Prop extends XOk X where
  thr:∀ e s',XE X Z e s'->X.xe e s'
noncomputable def CXs (P:Program) (w:World):CXT:=fun outer H s E e s'=>∃ a C t H',e=.ref a /\ s'.os=s.os /\ AllBare s'.gens /\ Un (frs outer) [] H H' s.heap s'.heap /\ HOk P w H' s'.heap /\
  Fl s'.heap a C (some t) /\ (∀ b ∈ [a,t],H' b=none /\ s.heap.get? b=none) /\ E C none H'
theorem thr_def {P:Program} {w:World} {K:PySem.W.Frag} {mg:Str->Option Value} {base:Heap} {N:List Str} {qual:Str} {scope:Scope} {f:Addr} {cd:Value} {A:Around} {outer:List Env} {s:Shared} {H:Hp} {E:XK} :
    Thr (cxOf (CXs P w) P w K mg base N qual scope f cd A outer s H E) (fun _ C H'=>E C none H') where
  top:=⟨_,_,_,rfl,rfl,rfl⟩
  ex:=fun b hb=>absurd (show b ∈ ([]:List Addr) from hb) (by simp)
  thr:=by
    rintro e s' ⟨a,C,T,σ',H',rfl,I,F,z⟩
    have ok:XOk (cxOf (CXs P w) P w K mg base N qual scope f cd A outer s H E):=⟨⟨_,_,_,rfl,rfl,rfl⟩,fun b hb=>absurd (show b ∈ ([]:List Addr) from hb) (by simp)⟩
    show wpAny (model P w) (A.deeper (envOfC qual scope s.heap.objs.size f cd)) (leaving (envOfC qual scope s.heap.objs.size f cd) (.ref a)) _ _ s'
    unfold leaving
    refine wpAny_bind (I.note ok F I.ok.frames rfl fun h1 t I1 F1=>?_)
    refine I1.flight F1 fun h2 I2 F2=>?_
    exact ⟨a,C,t,H',rfl,I2.os,I2.bare,I2.base,I2.hok,F2.fl,fun b hb=>⟨(F2.ow b (by simpa using hb)).1,(F2.ow b (by simpa using hb)).2.1⟩,z⟩
section
variable {X:Cx} {pins:List (Addr × Obj)} {σ:St} {H:Hp} {s s':Shared}
theorem Inv.thrown {E:XK} {e:Value} (ok:XOk X) (I:Inv X pins σ H s) (h:CXs X.prog X.w X.stack H s E e s'):∃ a C t H',e=.ref a /\ Inv X pins σ H' s' /\ Fly X pins H' s'.heap a C (some t) /\ E C none H':=by
  obtain ⟨a,C,t,H',rfl,ho,hg,u,hok,fl,ow,q⟩:=h
  have I':Inv X pins σ H' s':=I.call' (ch:=[]) ho u hok hg fun b hb=>absurd hb (by simp)
  refine ⟨a,C,t,H',rfl,I',⟨fl,fun b hb=>?_⟩,q⟩
  obtain ⟨o1,o2⟩:=ow b (by simpa using hb)
  exact I.ow ok (.inr trivial) o2 o1
theorem Inv.nopins (I:Inv X pins σ H s):Inv X [] σ H s:=I.pins_of fun p hp=>absurd hp (by simp)
theorem Fly.nopins {h:Heap} {a:Addr} {C:Value} {T:Option Addr} (F:Fly X pins H h a C T):Fly X [] H h a C T :=
  ⟨F.fl,fun b hb=>⟨(F.ow b hb).1,(F.ow b hb).2.1,(F.ow b hb).2.2.1,fun p hp=>(F.ow b hb).2.2.2 p (by simp at hp; exact List.mem_append_left _ hp)⟩⟩
theorem Thr.go {Z:ZK} (th:Thr X Z) {a:Addr} {C:Value} {T:Option Addr} (I:Inv X pins σ H s) (F:Fly X pins H s.heap a C T) (z:Z σ C H):X.xe (.ref a) s :=
  th.thr _ _ ⟨a,C,T,σ,H,rfl,I.nopins,F.nopins,z⟩
end
noncomputable def tCallX (sp:Sp) (dvs:List V) (Z:ZK) (t:TA):TE:=fun σ H Q=>t σ H fun vs H1=>sp (vs ++ dvs) H1 Q (fun C _ H'=>Z σ C H')
section
variable {X:Cx} {k:Nat} {f C:Addr} {fd:FuncData} {ps:List Str} {sp:Sp} {dvs:List V} {ds:List Value} {Z:ZK} {x m:Str} {p pos apos:Pos} {e o:Expr} {es:List Expr} {ta:TE} {t:TA}
theorem run_fnX {pins:List (Addr × Obj)} {σ:St} {H:Hp} {s:Shared} {Q:VK} {us:List Value} {vs:List V} (F:FnOk X.prog X.w X.K X.mg X.base (CXs X.prog X.w) k f fd ps sp) (hr:Room k X.A) (hb:Binds X.K fd ps ds) (hd:Vals dvs ds) (th:Thr X Z)
    (I:Inv X pins σ H s) (r:Vals vs us) (h:sp (vs ++ dvs) H Q (fun C _ H'=>Z σ C H')):wpAny (model X.prog X.w) X.A (call (.ref f) us) (EP X pins σ Q) X.xe s:=by
  have r2:Vals (vs ++ dvs) (us ++ ds):=r.append hd
  have hl:(us ++ ds).length=ps.length:=by rw [<- r2.length]; exact F.len _ _ _ _ h
  refine wpAny_call (codeAny_mono (F.run X.A X.stack s H ⟨us,[]⟩ (us ++ ds) (vs ++ dvs) Q _ hr I.env0 (hb s us I.kIn hl) r2 h) fun r s' hq=>?_)
  cases r with
  | error e =>
    have hq':CXs X.prog X.w X.stack H s (fun C _ H'=>Z σ C H') e s':=hq
    obtain ⟨a,C,t,H',rfl,I',F',z⟩:=I.thrown th.toXOk hq'
    exact th.go I' F' z
  | ok fl =>
    cases fl with
    | ret u=>exact I.after hq
    | next=>exact False.elim hq
    | brk=>exact False.elim hq
    | cont=>exact False.elim hq
theorem pe_callX (F:FnOk X.prog X.w X.K X.mg X.base (CXs X.prog X.w) k f fd ps sp) (hr:Room k X.A) (hg:Gl X x) (hm:X.mg x=some (.ref f)) (hk:PySem.W.keepIn X.K (.ref f)=true) (hb:Binds X.K fd ps ds) (hd:Vals dvs ds) (th:Thr X Z)
    (ha:PA X (e :: es) t) (hdb:(x == ("__debug__":Str))=false:=by decide) (he:starEach (e :: es) X.env=(false,eval e X.env) :: starEach es X.env:=by rfl) (hpl:(backTo pos (starEach es X.env)).any (·.1)=false:=by rfl) :
    PE X (.Call (.Name x p) (e :: es) [] pos) (tCallX sp dvs Z t):=by
  intro pins s σ H Q I h
  refine wpAny_Call_Name_kw (ld_glob I hg hm ?_ hdb)
  refine PySem.W.callWith_K (h₀:=X.base) I.ok.mod.kin hk (thn (ha pos pins s σ H _ I h) fun us s1 ⟨vs,H1,I1,r,q⟩=>⟨I1.kIn,?_⟩) he hpl
  exact run_fnX F hr hb hd th I1 r q
end
end L2
set_option Elab.async false
set_option linter.all false
set_option maxRecDepth 100000
namespace L2
open PySem PySem.Spec PyProof.Rows
noncomputable def clGo (env:Env):List (Str × NameKind)->List (Str × Addr)->List (Str × Addr)
  | [],cs=>cs
  | (n,k) :: r,cs=>clGo env r (if k == .free then (n,(env.cells.lookup n).getD 0) :: cs else cs)
noncomputable def clOf (scope:Scope) (env:Env):List (Str × Addr):=clGo env scope.names []
theorem closure_of {scope:Scope} {env:Env} (h:∀ y ∈ scope.names,y.2=.free->∃ c,env.cells.lookup y.1=some c):closureFor scope env=pure (clOf scope env):=by
  unfold closureFor clOf
  have go:∀ (l:List (Str × NameKind)) (cs:List (Str × Addr)),(∀ y ∈ l,y.2=.free->∃ c,env.cells.lookup y.1=some c) ->
      (forIn l cs fun (x:Str × NameKind) (r:List (Str × Addr))=>(match x with
        | (name,kind)=>if (kind == NameKind.free)=true then (do let a <- cellOf env name; pure (ForInStep.yield ((name,a) :: r))) else (pure (ForInStep.yield r)):Sem (ForInStep (List (Str × Addr)))))=(pure (clGo env l cs):Sem (List (Str × Addr))):=by
    intro l
    induction l with
    | nil=>intro cs _; rfl
    | cons y r ih =>
      intro cs hl
      obtain ⟨n,k⟩:=y
      rw [List.forIn_cons]
      by_cases hk:(k == NameKind.free)=true
      · obtain ⟨c,hc⟩:=hl (n,k) (List.mem_cons_self ..) (by simpa using hk)
        have e:cellOf env n=pure c:=by unfold cellOf; rw [hc]
        simp only [hk,if_true,e,pure_bind,clGo,hc,Option.getD_some]
        exact ih _ fun y hy=>hl y (List.mem_cons_of_mem _ hy)
      · simp only [hk,if_false,pure_bind,clGo,Bool.false_eq_true]
        exact ih _ fun y hy=>hl y (List.mem_cons_of_mem _ hy)
  have:=go scope.names [] h
  first
    | (rw [this]; rfl)
    | (simp only [bind_pure_comp] at this ⊢; rw [this]; rfl)
    | (simp only [bind_pure_comp] at this ⊢; rw [this]; simp)
theorem clGo_mem {env:Env}:∀ {l:List (Str × NameKind)} {cs:List (Str × Addr)} {x:Str} {c:Addr},(∀ y ∈ l,y.2=.free->∃ c,env.cells.lookup y.1=some c)->(x,c) ∈ clGo env l cs->(x,c) ∈ cs \/ env.cells.lookup x=some c
  | [],_,_,_,_,h=>.inl h
  | (n,k) :: r,cs,x,c,hl,h=>by
    rcases clGo_mem (l:=r) (fun y hy=>hl y (List.mem_cons_of_mem _ hy)) h with h | h
    · by_cases hk:(k == NameKind.free)=true
      · rw [if_pos hk] at h
        rcases List.mem_cons.mp h with e | h
        · obtain ⟨c',hc⟩:=hl (n,k) (List.mem_cons_self ..) (by simpa using hk)
          rw [hc] at e
          cases e
          exact .inr hc
        · exact .inl h
      · rw [if_neg hk] at h
        exact .inl h
    · exact .inr h
theorem clGo_keep {env:Env}:∀ {l:List (Str × NameKind)} {cs:List (Str × Addr)} {p:Str × Addr},p ∈ cs->p ∈ clGo env l cs
  | [],_,_,h=>h
  | (n,k) :: r,cs,p,h=>by
    unfold clGo
    refine clGo_keep ?_
    split
    · exact List.mem_cons_of_mem _ h
    · exact h
theorem clGo_has {env:Env}:∀ {l:List (Str × NameKind)} {cs:List (Str × Addr)} {x:Str},(x,NameKind.free) ∈ l->∃ c,(x,c) ∈ clGo env l cs
  | (n,k) :: r,cs,x,h=>by
    unfold clGo
    rcases List.mem_cons.mp h with e | h
    · cases e
      exact ⟨(env.cells.lookup n).getD 0,clGo_keep (by rw [if_pos (by decide)]; exact List.mem_cons_self ..)⟩
    · exact clGo_has h
theorem lookup_some_of_mem {α β:Type} [BEq α] [LawfulBEq α]:∀ {l:List (α × β)} {x:α} {c:β},(x,c) ∈ l->∃ c',l.lookup x=some c'
  | (n,k) :: r,x,c,h=>by
    rw [List.lookup_cons]
    cases e:x == n with
    | true=>exact ⟨k,rfl⟩
    | false =>
      rcases List.mem_cons.mp h with q | q
      · cases q; simp at e
      · exact lookup_some_of_mem q
noncomputable def ccells (scope:Scope) (C:Addr) (env:Env):List (Str × Addr):=cellsFrom (C + 1) scope.names (clOf scope env)
theorem cellsFrom_app:∀ (l:List (Str × NameKind)) (n:Nat) (acc:List (Str × Addr)),cellsFrom n l acc=cellsFrom n l [] ++ acc
  | [],_,_=>rfl
  | (x,k) :: r,n,acc=>by
    unfold cellsFrom
    by_cases hk:(k == NameKind.cell)=true
    · rw [if_pos hk,if_pos hk,cellsFrom_app r (n + 1) ((x,n) :: acc),cellsFrom_app r (n + 1) [(x,n)],List.append_assoc]; rfl
    · rw [if_neg hk,if_neg hk]; exact cellsFrom_app r n acc
theorem cellsFrom_mem:∀ {l:List (Str × NameKind)} {n:Nat} {x:Str} {c:Addr},(x,c) ∈ cellsFrom n l []->(x,NameKind.cell) ∈ l
  | (y,k) :: r,n,x,c,h=>by
    unfold cellsFrom at h
    by_cases hk:(k == NameKind.cell)=true
    · rw [if_pos hk,cellsFrom_app] at h
      rcases List.mem_append.mp h with h | h
      · exact List.mem_cons_of_mem _ (cellsFrom_mem h)
      · have e:x=y:=by simpa using (List.mem_singleton.mp h ▸ rfl:(x,c).1=(y,n).1)
        have e2:k=.cell:=by simpa using hk
        rw [e,e2]; exact List.mem_cons_self ..
    · rw [if_neg hk] at h
      exact List.mem_cons_of_mem _ (cellsFrom_mem h)
theorem cc_cases {scope:Scope} {C:Addr} {env:Env} {x:Str} {c:Addr} (h:(ccells scope C env).lookup x=some c):(cellsFrom (C + 1) scope.names []).lookup x=some c \/ ((cellsFrom (C + 1) scope.names []).lookup x=none /\ (clOf scope env).lookup x=some c):=by
  unfold ccells at h
  rw [cellsFrom_app,List.lookup_append] at h
  cases e:(cellsFrom (C + 1) scope.names []).lookup x with
  | none=>rw [e] at h; exact .inr ⟨rfl,h⟩
  | some c'=>rw [e] at h; exact .inl h
theorem cc_own {scope:Scope} {C:Addr} {env:Env} {x:Str} {c:Addr} (h:(cellsFrom (C + 1) scope.names []).lookup x=some c):(ccells scope C env).lookup x=some c:=by
  unfold ccells
  rw [cellsFrom_app,List.lookup_append,h]; rfl
theorem cc_clo {scope:Scope} {C:Addr} {env:Env} {x:Str} {c:Addr} (h:(clOf scope env).lookup x=some c) (h0:(cellsFrom (C + 1) scope.names []).lookup x=none):(ccells scope C env).lookup x=some c:=by
  unfold ccells
  rw [cellsFrom_app,List.lookup_append,h0]; exact h
theorem wpAny_newBlock {M:Model} {A:Around} {E:Value->Shared->Prop} {s:Shared} {scope:Scope} {globals:Addr} {closure:List (Str × Addr)} {qual:Str} {func:Option Addr} {code:Value} {e:Env} {builtins:Addr} {Q:Env->Shared->Prop}
    (hQ:Q (newEnv scope s.heap.objs.size globals (cellsFrom (s.heap.objs.size + 1) scope.names closure) qual func code (some e) builtins) { s with heap:=pushCells (s.heap.push { cls:=.type "dict",data:=.dict #[] }) scope.names }) :
    wpAny M A (newFunctionEnv scope globals closure [] qual func code (some e) builtins) Q E s:=by
  simp only [newFunctionEnv,Option.isSome_some,if_true]
  refine wpAny_bind (wpAny_alloc ?_)
  refine wpAny_bind (wpAny_layCells _ (fun name kind cells=>by cases hkc:kind == NameKind.cell <;> simp [hkc]) _ _ _ _ ?_)
  rw [show ({ s with heap:=s.heap.push { cls:=.type "dict",data:=.dict #[] } }:Shared).heap.objs.size=s.heap.objs.size + 1 from Heap.size_push ..]
  refine wpAny_bind ?_
  rw [List.forIn_nil]
  exact wpAny_pure (wpAny_pure hQ)
noncomputable abbrev compCx (X:Cx) (NC:List Str) (scope:Scope) (C:Addr) (s:Shared) (H:Hp) (ex:List Addr) (pn:List (Addr × Obj)) (xe:Value->Shared->Prop):Cx :=
  { X with N:=NC,s₀:=s,H₀:=H,env:=compEnvC scope (ccells scope C X.env) C X.env,outer:=X.stack,stack:=X.stack,ex:=ex,fn:=fun x=>scope.names.lookup x == some .cell,calm:=true,pn:=pn,xe:=xe }
noncomputable def compOk (osc scope:Scope) (N NC:List Str) (cap:List (Option Nat)):Bool :=
  scope.kind == .function && scope.names.all (fun y=>y.2 != .cell || scope.names.lookup y.1 == some .cell) &&
  scope.names.all (fun y=>y.2 != .local || scope.names.lookup y.1 == some .local) &&
  scope.names.all (fun y=>y.2 != .free || osc.names.lookup y.1 == some .cell) && cap.length == NC.length &&
  (List.range NC.length).all fun j=>match cap[j]?,NC[j]? with
    | some (some i),some x=>N[i]? == some x && scope.names.lookup x == some .free
    | some none,some x=>scope.names.lookup x == some .local || scope.names.lookup x == some .cell
    | _,_=>false
noncomputable def capσ (cap:List (Option Nat)) (σ:St):St:=cap.map fun o=>o.bind fun i=>(σ[i]?).bind id
theorem kindOf_rel {scope:Scope} {env:Env} {x:Str} (hk:env.scope.kind=.function):∀ {names:List (Str × NameKind)},(∀ y ∈ names,y.2=.free->env.kindOf y.1=some .cell) ->
    (names.map fun (n,k)=>if (k == NameKind.free && env.scope.kind == .function && env.kindOf n == some .cell) then (n,NameKind.cell) else (n,k)).lookup x=(names.lookup x).map fun k=>if k=.free then .cell else k
  | [],_=>rfl
  | (n,k) :: r,h=>by
    have ih:=kindOf_rel (scope:=scope) (x:=x) hk (names:=r) fun y hy=>h y (List.mem_cons_of_mem _ hy)
    show List.lookup x ((if (k == NameKind.free && env.scope.kind == .function && env.kindOf n == some .cell)=true then (n,NameKind.cell) else (n,k)) :: _)=_
    by_cases hkf:k=.free
    · subst hkf
      rw [if_pos (by rw [hk,h (n,.free) (List.mem_cons_self ..) rfl]; decide)]
      rw [List.lookup_cons,List.lookup_cons]
      cases e:x == n with
      | true=>rfl
      | false=>exact ih
    · rw [if_neg (by intro z; simp only [Bool.and_eq_true,beq_iff_eq] at z; exact hkf z.1.1)]
      rw [List.lookup_cons,List.lookup_cons]
      cases e:x == n with
      | true=>simp [hkf]
      | false=>exact ih
section
variable {X:Cx} {pins:List (Addr × Obj)} {σ:St} {H H':Hp} {s s':Shared}
theorem Inv.repn {pn pins':List (Addr × Obj)} {xe:Value->Shared->Prop} (I:Inv X pins σ H s) (h:∀ p ∈ pn ++ pins',p ∈ X.pn ++ pins):Inv { X with pn:=pn,xe:=xe } pins' σ H s :=
  ⟨⟨I.ok.mod,I.ok.kind,I.ok.glob,I.ok.blt,I.ok.above,I.ok.inj,I.ok.has,I.ok.cab,I.ok.hd,I.ok.frames,I.ok.stk,I.ok.exf,I.ok.bs,I.ok.bsz,I.ok.noex,I.ok.exfs,I.ok.funs,I.ok.frf⟩,
    I.os,I.bare,I.base,I.loc,I.cell,I.free,I.freeC,fun p hp=>I.pin p (h p hp),I.hok,I.len⟩
theorem Inv.track {D:Addr} {o:HO} (I:Inv X pins σ H s) (hD:H D=none) (h0:X.s₀.heap.get? D=none) (hL:D ≠ X.env.locals) (hC:∀ x c,X.env.cells.lookup x=some c->c ≠ D) (hp:∀ p ∈ X.pn ++ pins,p.1 ≠ D)
    (new:ObjOk X.prog X.w (upd H D o) s.heap D o):Inv X pins σ (upd H D o) s:=by
  have up:∀ b u,H b=some u->upd H D o b=some u:=fun b u e=>by rw [upd_ne (ne_of_none e hD)]; exact e
  refine ⟨I.ok,I.os,I.bare,⟨I.base.keep,I.base.slot,fun b u e n hx=>?_,I.base.there,fun b xs e=>up _ _ (I.base.tups b xs e),fun b u xs e=>up _ _ (I.base.frzs b u xs e),fun b ps e=>?_⟩,I.loc,I.cell,?_,fun x c e=>?_,fun p hq=>?_,fun b u e=>?_,I.len⟩
  · rw [upd_ne (fun z=>by rw [z,h0] at e; cases e)]
    exact I.base.free b u e n hx
  · obtain ⟨more,q⟩:=I.base.tbls b ps e
    exact ⟨more,up _ _ q⟩
  · rw [upd_ne (Ne.symm hL)]; exact I.free
  · rw [upd_ne (hC x c e)]; exact I.freeC x c e
  · obtain ⟨e,n,r⟩:=I.pin p hq
    exact ⟨e,by rw [upd_ne (hp p hq)]; exact n,r⟩
  · by_cases hb:b=D
    · subst hb
      rw [upd_same] at e
      cases e
      exact new
    · rw [upd_ne hb] at e
      exact (I.hok b u e).stay (fun _ _ _ q=>q) (fun c q=>up _ _ q) fun c xs q=>up _ _ q
end
noncomputable def PF (X:Cx) (ifs:List Expr) (t:TT):Prop :=
  ∀ (pins:List (Addr × Obj)) (s:Shared) (σ:St) (H:Hp) (Q:Bool->Hp->Prop),Inv X pins σ H s->t σ H Q ->
    wpAny (model X.prog X.w) X.A (forIn ifs true fun c r=>if r=true then do let ok <- isTrue c X.env (eval c X.env); pure (ForInStep.yield ok) else pure (ForInStep.yield r)) (TP X pins σ Q) X.xe s
noncomputable def tNoTest:TT:=fun _ H Q=>Q true H
theorem pf_nil {X:Cx}:PF X [] tNoTest:=fun pins s σ H Q I h=>wpAny_tests_nil ⟨H,I,h⟩
theorem pf_one {X:Cx} {c:Expr} {t:TT} (h:PT X c t):PF X [c] t:=fun pins s σ H Q I q=>wpAny_tests_one (h pins s σ H Q I q)
theorem compOk_parts {osc scope:Scope} {N NC:List Str} {cap:List (Option Nat)} (h:compOk osc scope N NC cap=true) :
    scope.kind=.function /\ (∀ y ∈ scope.names,y.2=.cell->scope.names.lookup y.1=some .cell) /\ (∀ y ∈ scope.names,y.2=.local->scope.names.lookup y.1=some .local) /\ (∀ y ∈ scope.names,y.2=.free->osc.names.lookup y.1=some .cell) /\ cap.length=NC.length /\
    (∀ (j i:Nat),cap[j]?=some (some i)->∃ x,NC[j]?=some x /\ N[i]?=some x /\ scope.names.lookup x=some .free) /\ ∀ (j:Nat) (x:Str),cap[j]?=some none->NC[j]?=some x->scope.names.lookup x=some .local \/ scope.names.lookup x=some .cell:=by
  unfold compOk at h
  simp only [Bool.and_eq_true,List.all_eq_true,bne_iff_ne,ne_eq,Bool.or_eq_true,beq_iff_eq,List.mem_range] at h
  obtain ⟨⟨⟨⟨⟨h1,h2⟩,h3⟩,h4⟩,h5⟩,h6⟩:=h
  refine ⟨h1,fun y hy e=>(h2 y hy).resolve_left fun z=>z e,fun y hy e=>(h3 y hy).resolve_left fun z=>z e,fun y hy e=>(h4 y hy).resolve_left fun z=>z e,h5,fun j i e=>?_,fun j x e ex=>?_⟩
  · have hj:j < NC.length:=by rw [<- h5]; exact (List.getElem?_eq_some_iff.mp e).1
    have q:=h6 j hj
    rw [e] at q
    cases ex:NC[j]? with
    | none=>rw [ex] at q; simp at q
    | some x =>
      rw [ex] at q
      simp only [Bool.and_eq_true,beq_iff_eq] at q
      exact ⟨x,rfl,q.1,q.2⟩
  · have hj:j < NC.length:=(List.getElem?_eq_some_iff.mp ex).1
    have q:=h6 j hj
    rw [e,ex] at q
    simpa using q
section
variable {X:Cx} {pins:List (Addr × Obj)} {σ:St} {H₂:Hp} {s₂:Shared} {scope:Scope} {NC:List Str} {cap:List (Option Nat)} {fp:List Addr}
theorem comp_start {C D:Addr} {h₁:Heap} {tk:Nat} {o:Obj} {xe:Value->Shared->Prop} (I:Inv X pins σ H₂ s₂) (hc:X.calm=true) (cok:compOk X.env.scope scope X.N NC cap=true) (f2:∀ b ∈ fp,FpOk X pins H₂ b) (hfp:∀ b ∈ fp,∃ o,s₂.heap.get? b=some o)
    (hD:D=s₂.heap.objs.size) (hC:C=s₂.heap.objs.size + 1) (old:∀ b o,s₂.heap.get? b=some o->h₁.get? b=some o) (hacc:h₁.get? D=some o) (ho:∀ v,o.data ≠ .cell v) {m:Str->Option Value} (ns:h₁.Ns C m) (own:CellsOk h₁ (C + 1) (cellsFrom (C + 1) scope.names [])) :
    Inv (compCx X NC scope C s₂ H₂ fp [] xe) [(D,o)] (capσ cap σ) H₂ { s₂ with heap:=h₁,toks:=tk }:=by
  obtain ⟨c1,c2,c3,c4,c5,c6,c7⟩:=compOk_parts cok
  have hfree:∀ y ∈ scope.names,y.2=.free->∃ c,X.env.cells.lookup y.1=some c:=fun y hy e=>I.ok.has y.1 (.inl (c4 y hy e))
  have clx:∀ x c,(clOf scope X.env).lookup x=some c->X.env.cells.lookup x=some c:=fun x c e=>by
    rcases clGo_mem hfree (PySem.mem_of_lookup e) with z | z
    · simp at z
    · exact z
  have ccx:∀ x c,(ccells scope C X.env).lookup x=some c->(cellsFrom (C + 1) scope.names []).lookup x=some c \/ X.env.cells.lookup x=some c:=fun x c e=>(cc_cases e).imp id fun z=>clx x c z.2
  have hrel:∀ x,(compEnvC scope (ccells scope C X.env) C X.env).kindOf x=(scope.names.lookup x).map fun k=>if k=.free then .cell else k:=fun x=>kindOf_rel (scope:=scope) I.ok.kind fun y hy e=>c4 y hy e
  have fresh:∀ b,s₂.heap.objs.size<=b->s₂.heap.get? b=none:=fun b hb=>Heap.get?_none_of_le hb
  have sz:s₂.heap.objs.size<=C:=by rw [hC]; exact Nat.le_succ _
  have szD:s₂.heap.objs.size<=D:=by rw [hD]; exact Nat.le_refl _
  have ownF:∀ x c,(cellsFrom (C + 1) scope.names []).lookup x=some c->s₂.heap.get? c=none /\ s₂.heap.objs.size<=c:=fun x c e=>by
    have q:=(own.empty x c (PySem.mem_of_lookup e)).2
    have q2:s₂.heap.objs.size<=c:=by rw [hC] at q; omega
    exact ⟨fresh c q2,q2⟩
  have cloF:∀ x c,X.env.cells.lookup x=some c->c < s₂.heap.objs.size:=fun x c e=>by
    obtain ⟨v,q⟩:=I.cell x c e
    exact q.lt
  have inj:∀ x y c,(ccells scope C X.env).lookup x=some c->(ccells scope C X.env).lookup y=some c->x=y:=fun x y c e1 e2=>by
    rcases ccx x c e1 with z1 | z1 <;> rcases ccx y c e2 with z2 | z2
    · exact name_of_addr own.apart (PySem.mem_of_lookup z1) (PySem.mem_of_lookup z2)
    · exact absurd (cloF y c z2) (Nat.not_lt.mpr (ownF x c z1).2)
    · exact absurd (cloF x c z1) (Nat.not_lt.mpr (ownF y c z2).2)
    · exact I.ok.inj x y c z1 z2
  have exC:∀ b ∈ fp,b ≠ C:=fun b hb z=>by
    obtain ⟨o,e⟩:=hfp b hb
    rw [z,fresh C sz] at e; cases e
  have exD:∀ b ∈ fp,b ≠ D:=fun b hb z=>by
    obtain ⟨o,e⟩:=hfp b hb
    rw [z,fresh D szD] at e; cases e
  refine ⟨⟨I.ok.mod,c1,I.ok.glob,I.ok.blt,sz,inj,fun x hx=>?_,fun x c z e=>?_,fun _=>I.ok.hd hc,I.ok.frames,.inl rfl,fun b hb=>⟨exC b hb,fun x c e=>?_⟩,
    I.bs,Nat.le_trans I.ok.bsz I.sz,fun b o e z=>?_,fun b hb z=>?_,I.stack,I.stkFree⟩,rfl,I.bare,Un.kept old,⟨m,ns,fun j x v e1 e2 e3=>?_⟩,fun x c e=>?_,I.hok.fresh sz,fun x c e=>?_,fun p hp=>?_,I.hok.kept old,?_⟩
  · rw [hrel] at hx
    have hxf:scope.names.lookup x=some .free \/ scope.names.lookup x=some .cell:=by
      cases e:scope.names.lookup x with
      | none=>rw [e] at hx; simp at hx
      | some k =>
        rw [e] at hx
        by_cases hk:k=.free
        · rw [hk]; exact .inl rfl
        · simp only [Option.map_some,if_neg hk,Option.some.injEq] at hx
          rcases hx with z | z
          · rw [z]; exact .inr rfl
          · exact absurd z hk
    rcases hxf with hxf | hxf
    · obtain ⟨c,hm⟩:=clGo_has (env:=X.env) (cs:=[]) (PySem.mem_of_lookup hxf)
      obtain ⟨c',hl⟩:=lookup_some_of_mem hm
      exact Option.isSome_iff_exists.mp (PySem.W.cellsFrom_some _ _ _ (.inr (by rw [show (clOf scope X.env).lookup x=some c' from hl]; rfl)))
    · exact Option.isSome_iff_exists.mp (PySem.W.cellsFrom_some _ _ _ (.inl hxf))
  · have hx:scope.names.lookup x=some .cell:=by simpa using z
    obtain ⟨c',hl⟩:=Option.isSome_iff_exists.mp (PySem.W.cellsFrom_some (x:=x) scope.names (C + 1) [] (.inl hx))
    have e':(ccells scope C X.env).lookup x=some c:=e
    rw [cc_own hl] at e'
    cases e'
    exact (ownF x _ hl).2
  · rcases ccx x c e with z | z
    · intro q
      obtain ⟨o,eb⟩:=hfp b hb
      rw [<- q,(ownF x c z).1] at eb
      cases eb
    · exact (f2 b hb).2.2.2.2.1 x c z
  · obtain ⟨e1,e2⟩:=I.bs b o e
    have:=(f2 b z).2.2.2.1
    rcases this with q | q
    · exact I.ok.noex b o e q
    · exact absurd (Nat.lt_of_lt_of_le (Heap.lt_size (I.ok.bs b o e).1) q) (Nat.lt_irrefl _)
  · rcases List.mem_cons.mp (I.stkSub b z) with q | q
    · exact (f2 b hb).2.1 q
    · exact (f2 b hb).2.2.1 q
  · have ej:cap[j]?=some ((some ((cap[j]?.bind id).getD 0):Option Nat)):=by
      unfold capσ at e2
      rw [List.getElem?_map] at e2
      cases q:cap[j]? with
      | none=>rw [q] at e2; simp at e2
      | some oo =>
        rw [q] at e2
        cases oo with
        | none=>simp at e2
        | some i=>simp
    generalize ((cap[j]?.bind id).getD 0)=i at ej
    obtain ⟨y,y1,y2,y3⟩:=c6 j i ej
    have:y=x:=Option.some.inj (y1.symm.trans e1)
    subst this
    have ev:σ[i]?=some (some v):=by
      unfold capσ at e2
      rw [List.getElem?_map,ej] at e2
      simp only [Option.map_some,Option.bind_some,Option.some.injEq] at e2
      cases q:σ[i]? with
      | none=>rw [q] at e2; simp at e2
      | some w=>rw [q] at e2; simp at e2; rw [e2]
    have kc:X.env.scope.names.lookup y=some .cell:=c4 (y,.free) (PySem.mem_of_lookup y3) rfl
    obtain ⟨m',hn',hl'⟩:=I.loc
    obtain ⟨u,r,q⟩:=hl' i y v y2 ev (.inr (.inl kc))
    refine ⟨u,r,.inr ⟨.inl (by rw [hrel,y3]; rfl),?_⟩⟩
    rcases q with ⟨k,_⟩ | ⟨k,c,e,z⟩
    · rw [show X.env.kindOf y=some .cell from kc] at k; cases k
    · obtain ⟨c',hm⟩:=clGo_has (env:=X.env) (cs:=[]) (PySem.mem_of_lookup y3)
      obtain ⟨c'',hl⟩:=lookup_some_of_mem hm
      have:=clx y c'' hl
      rw [e] at this
      cases this
      obtain ⟨oc,h1,h2⟩:=z
      refine ⟨c,cc_clo hl ?_,oc,old c oc h1,h2⟩
      cases eo:(cellsFrom (C + 1) scope.names []).lookup y with
      | none=>rfl
      | some c2' =>
        have q1:=c2 (y,.cell) (cellsFrom_mem (PySem.mem_of_lookup eo)) rfl
        rw [y3] at q1
        cases q1
  · rcases ccx x c e with z | z
    · exact ⟨none,(own.empty x c (PySem.mem_of_lookup z)).1⟩
    · obtain ⟨v,oc,h1,h2⟩:=I.cell x c z
      exact ⟨v,oc,old c oc h1,h2⟩
  · rcases ccx x c e with z | z
    · exact I.hok.fresh (ownF x c z).2
    · exact I.freeC x c z
  · have e:p=(D,o):=by simpa using hp
    subst e
    refine ⟨hacc,I.hok.fresh szD,fun z=>by rw [hC,hD] at z; exact absurd z (Nat.ne_of_lt (Nat.lt_succ_self _)),fun z=>?_,ho⟩
    obtain ⟨_,ob,e,_⟩:=I.stack.mem z
    rw [fresh D szD] at e; cases e
  · unfold capσ
    rw [List.length_map]
    exact c5
theorem comp_leave {C:Addr} {pn pc:List (Addr × Obj)} {σ':St} {H':Hp} {s':Shared} {h':Heap} {xe:Value->Shared->Prop} (I:Inv X pins σ H₂ s₂) (f2:∀ b ∈ fp,FpOk X pins H₂ b) (hC:C=s₂.heap.objs.size + 1)
    (J:Inv (compCx X NC scope C s₂ H₂ fp pn xe) pc σ' H' s') (sb:Heap.SameBut C s'.heap h'):Inv X pins σ H' { s' with heap:=h' }:=by
  have fC:s₂.heap.get? C=none:=Heap.get?_none_of_le (by rw [hC]; exact Nat.le_succ _)
  have nC:∀ b o,s₂.heap.get? b=some o->b ≠ C:=fun b o e z=>by rw [z,fC] at e; cases e
  have u:Un (frs X.stack) fp H₂ H' s₂.heap h':=by
    have v:Un (frs X.stack) fp H₂ H' s₂.heap s'.heap:=J.base
    refine ⟨fun b o e n hb hx=>(sb.2 b (nC b o e)).trans (v.keep b o e n hb hx),fun b o e n hb hx=>?_,v.free,fun b o e hx=>?_,v.tups,v.frzs,v.tbls⟩
    · obtain ⟨sl,q⟩:=v.slot b o e n hb hx
      exact ⟨sl,(sb.2 b (nC b o e)).trans q⟩
    · obtain ⟨o',q⟩:=v.there b o e hx
      exact ⟨o',(sb.2 b (nC b o e)).trans q⟩
  have hok:HOk X.prog X.w H' h':=fun b o e=>by
    refine (J.hok b o e).stay (fun c w hc q=>(sb.2 c fun z=>?_).trans q) (fun _ q=>q) fun _ _ q=>q
    have fr:H' C=none:=J.free
    subst z
    rcases hc with rfl | hc
    · rw [fr] at e; cases e
    · rw [fr] at hc; cases hc
  exact I.call' (s':={ s' with heap:=h' }) (ch:=fp) J.os u hok J.bare fun b hb=>⟨(f2 b hb).2.2.2.1,(f2 b hb).2.1,(f2 b hb).2.2.2.2.1,(f2 b hb).2.2.2.2.2⟩
end
end L2
set_option Elab.async false
set_option linter.all false
set_option maxRecDepth 100000
namespace L2
open PySem PySem.Spec PyProof.Rows
noncomputable def Weak (σ σ':St):Prop:=σ'.length=σ.length /\ ∀ (i:Nat) v,σ[i]?=some (some v)->σ'[i]?=some (some v)
theorem Weak.refl (σ:St):Weak σ σ:=⟨rfl,fun _ _ h=>h⟩
theorem Weak.set {σ:St} {j:Nat} {v:Option V} (h:σ[j]?=some none):Weak σ (σ.set j v):=by
  refine ⟨List.length_set ..,fun i w e=>?_⟩
  by_cases q:j=i
  · subst q; rw [h] at e; cases e
  · rw [List.getElem?_set_ne q]; exact e
section
variable {prog:Program} {w:World} {A:Around} {R:Result->Shared->Prop} {s:Shared}
theorem compLoop_any {elt target iter:Expr} {ifs:List Expr} {scope:Scope} {pos:Pos} {it acc:Value} {env:Env} (I:Nat->Shared->Prop)
    (turn:∀ n s,I n s->wpAny (model prog w) A (pyNext it) (fun r s₁=>match r with
      | none=>R (.ok .next) s₁
      | some v=>wpAny (model prog w) A (letOwnedTupleGo target it v) (fun _ s₁'=>wpAny (model prog w) A (assign target env v) (fun _ s₂ =>
          wpAny (model prog w) A (forIn ifs true fun c r=>if r=true then do let ok <- isTrue c env (eval c env); pure (ForInStep.yield ok) else pure (ForInStep.yield r)) (fun ok s₃ =>
            if ok=true then wpAny (model prog w) A (eval elt env) (fun x s₄ =>
              wpAny (model prog w) A (call (.builtin "list.append") [acc,x]) (fun _ s₅=>∃ m,m < n /\ I m s₅) (notedBy (model prog w) A env fun e s'=>R (.error e) s') s₄) (notedBy (model prog w) A env fun e s'=>R (.error e) s') s₃
            else ∃ m,m < n /\ I m s₃) (notedBy (model prog w) A env fun e s'=>R (.error e) s') s₂) (notedBy (model prog w) A env fun e s'=>R (.error e) s') s₁') (notedBy (model prog w) A env fun e s'=>R (.error e) s') s₁) (notedBy (model prog w) A env fun e s'=>R (.error e) s') s)
    (n:Nat) (h:I n s):codeAny (model prog w) A (.compLoop (.ListComp elt [⟨target,iter,ifs,0⟩] scope pos) 0 it acc env) R s:=by
  refine codeAny_loop rfl I (fun n s hI=>?_) n h
  show wpAny _ A ((compTurn (.ListComp elt [⟨target,iter,ifs,0⟩] scope pos) 0 it acc env).onRaise (fun x=>do noteFrame x env; theTreesLotGoes x)) _ _ s
  refine wpAny_noted ?_
  rw [compTurn_list]
  refine wpAny_bind (wpAny_standAt (wpAny_bind (wpAny_mono (turn n s hI) (fun r s₁ h₁=>?_) fun _ _ h'=>h')))
  cases r with
  | none=>exact wpAny_pure h₁
  | some v =>
    refine wpAny_bind (wpAny_mono h₁ (fun _ s₁' h₁'=>?_) fun _ _ h'=>h')
    refine wpAny_bind (wpAny_mono h₁' (fun _ s₂ h₂=>wpAny_bind (wpAny_mono h₂ (fun ok s₃ h₃=>?_) fun _ _ h'=>h')) fun _ _ h'=>h')
    cases ok with
    | false=>exact wpAny_pure ⟨rfl,h₃⟩
    | true =>
      exact wpAny_bind (wpAny_bind (wpAny_mono h₃ (fun x s₄ h₄=>wpAny_bind (wpAny_mono h₄ (fun _ s₅ h₅=>wpAny_pure (wpAny_pure ⟨rfl,h₅⟩)) fun _ _ h'=>h')) fun _ _ h'=>h'))
end
section
variable {X:Cx} {σ:St} {H:Hp} {s:Shared}
theorem Inv.repin {D:Addr} {o o':Obj} {h':Heap} (I:Inv X [(D,o)] σ H s) (hpn:∀ p ∈ X.pn,p.1 ≠ D) (h0:X.s₀.heap.objs.size<=D) (ho':∀ v,o'.data ≠ .cell v) (sb:Heap.SameBut D s.heap h') (e':h'.get? D=some o') :
    Inv X [(D,o')] σ H { s with heap:=h' }:=by
  obtain ⟨e,n,ne,nf,d⟩:=I.pin (D,o) (List.mem_append_right _ (by simp))
  have I0:Inv X [] σ H s:=I.pins_of fun p hp=>absurd hp (by simp)
  have I1:Inv X [] σ H { s with heap:=h' }:=I0.turned (t':=s.toks) (it:=D) (fun b u hb q=>(sb.2 b hb).trans q) n ne (.inr h0) (fun x c ec z=>by
    obtain ⟨v,oc,h1,h2⟩:=I.cell x c ec
    subst z
    rw [e] at h1; cases h1
    exact d v h2) fun p hp=>hpn p (by simpa using hp)
  refine I1.pins_of fun p hp=>?_
  have q:p=(D,o'):=by simpa using hp
  subst q
  exact ⟨e',n,ne,nf,ho'⟩
end
section
variable {X:Cx} {pins:List (Addr × Obj)} {σ:St} {H₂:Hp} {s₂:Shared} {scope:Scope} {NC:List Str} {cap:List (Option Nat)} {fp:List Addr} {elt tg iter:Expr} {ifs:List Expr} {pos:Pos} {Z:ZK} {J:It} {it:Addr} {tn:Nat->Heap->Prop}
  {g:TG} {tf:TT} {te:TE} {use:Option (Value->Sem Unit)} {Qv:Value->Shared->Prop}
theorem comp_core (hc:X.calm=true) (th:Thr X Z) (I:Inv X pins σ H₂ s₂) (T:Turn X.prog X.w X.K tg J fp it tn) (st2:tn 0 s₂.heap) (f2:∀ b ∈ fp,FpOk X pins H₂ b) (cok:compOk X.env.scope scope X.N NC cap=true)
    (hg:∀ C pn xe,PG (compCx X NC scope C s₂ H₂ fp pn xe) tg g)
    (hf:∀ C pn xe,Thr (compCx X NC scope C s₂ H₂ fp pn xe) (fun _ C' H'=>Z σ C' H')->PF (compCx X NC scope C s₂ H₂ fp pn xe) ifs tf)
    (hb:∀ C pn xe,Thr (compCx X NC scope C s₂ H₂ fp pn xe) (fun _ C' H'=>Z σ C' H')->PE (compCx X NC scope C s₂ H₂ fp pn xe) elt te)
    (W:Nat->Nat->List V->Hp->Prop) (m0:Nat) (w0:W 0 m0 [] H₂) {Fn:List V->Hp->Prop}
    (turn:∀ i m ys H2,W i m ys H2->(J.stop i H2 /\ Fn ys H2) \/ (J.go i H2 /\ ys.length < sizeLine /\ ∀ x H3,J.yld i H2 x H3->g x (capσ cap σ) H3 fun σ4 H4=>Weak (capσ cap σ) σ4 /\ tf σ4 H4 fun b H5 =>
      if b=true then te σ4 H5 fun y H6=>∃ m',m' < m /\ W (i + 1) m' (ys ++ [y]) H6 else ∃ m',m' < m /\ W (i + 1) m' ys H5))
    (fin:∀ (C D:Addr) (s':Shared) (H':Hp) (ys:List V) (us:List Value) (n:Nat),Fn ys H'->Vals ys us->s'.heap.get? D=some { cls:=.type "list",data:=.seq us.toArray n }->H' D=none->H' C=none->D=s₂.heap.objs.size->C=s₂.heap.objs.size + 1 ->
      (∃ m,s'.heap.Ns C m)->(∀ h',Heap.SameBut C s'.heap h'->Inv X pins σ H' { s' with heap:=h' })->compPost (model X.prog X.w) X.A X.xe use Qv (.ref D) C (.ok .next) s') :
    wpAny (model X.prog X.w) X.A (newList []) (fun acc s₃=>wpAny (model X.prog X.w) X.A (newFunctionEnv scope X.env.globals (clOf scope X.env) [] X.env.qual none .none (some X.env)) (fun cenv s₄ =>
      codeAny (model X.prog X.w) X.A (.compStart (.ListComp elt [⟨tg,iter,ifs,0⟩] scope pos) 0 (.ref it) acc { cenv with scope:=relabel scope X.env }) (compPost (model X.prog X.w) X.A X.xe use Qv acc cenv.locals) s₄) X.xe s₃) X.xe s₂:=by
  obtain ⟨c1,c2,c3,c4,c5,c6,c7⟩:=compOk_parts cok
  refine wpAny_newObj_type (wpAny_newBlock ?_)
  dsimp only
  generalize hH2:s₂.heap.push { cls:=.type "list",dict:=none,data:=.seq ([]:List Value).toArray }=H2
  generalize hh1:pushCells (H2.push { cls:=.type "dict",data:=.dict #[] }) scope.names=h₁
  have hns₁:h₁.Ns H2.objs.size (fun _=>none):=hh1 ▸ (Heap.Ns.new H2 (.type "dict")).keeps (pushCells_keeps _ _)
  have own₁:CellsOk h₁ (H2.objs.size + 1) (cellsFrom (H2.objs.size + 1) scope.names []):=by
    have ok:=cellsFrom_ok scope.names (H2.push { cls:=.type "dict",data:=.dict #[] }) (H2.objs.size + 1) [] ⟨fun _ _ hm=>(nomatch hm),List.Pairwise.nil⟩ (by rw [Heap.size_push]; exact Nat.le_refl _)
    rw [Heap.size_push,hh1] at ok
    exact ok
  have hC:H2.objs.size=s₂.heap.objs.size + 1:=by rw [<- hH2,Heap.size_push]
  have hDC:s₂.heap.objs.size ≠ H2.objs.size:=by rw [hC]; exact Nat.ne_of_lt (Nat.lt_succ_self _)
  have below:∀ b,b < s₂.heap.objs.size->b ≠ H2.objs.size:=fun b hb=>by rw [hC]; exact Nat.ne_of_lt (Nat.lt_succ_of_lt hb)
  have old:∀ b o,s₂.heap.get? b=some o->h₁.get? b=some o:=fun b o e=>hh1 ▸ pushCells_keeps _ _ _ _ (Heap.get?_push_of_some _ (hH2 ▸ Heap.get?_push_of_some _ e))
  have hacc:h₁.get? s₂.heap.objs.size=some { cls:=.type "list",data:=.seq ([]:List Value).toArray 0 }:=hh1 ▸ pushCells_keeps _ _ _ _ (Heap.get?_push_of_some _ (hH2 ▸ Heap.get?_push_size _ rfl))
  have hfp:∀ b ∈ fp,∃ o,s₂.heap.get? b=some o:=fun b hb=>let ⟨o,e,_⟩:=T.obj _ _ st2 b hb; ⟨o,e⟩
  have nodata:∀ (us:List Value) (n:Nat) v,({ cls:=.type "list",data:=.seq us.toArray n }:Obj).data ≠ .cell v:=fun us n v z=>by cases z
  have fpD:∀ b ∈ fp,b ≠ s₂.heap.objs.size:=fun b hb z=>by
    obtain ⟨o,e⟩:=hfp b hb
    exact absurd (Heap.lt_size e) (by rw [z]; exact Nat.lt_irrefl _)
  generalize hEn:(notedBy (model X.prog X.w) X.A (compEnvC scope (ccells scope H2.objs.size X.env) H2.objs.size X.env) fun e s'=>compPost (model X.prog X.w) X.A X.xe use Qv (.ref s₂.heap.objs.size) H2.objs.size (.error e) s')=En
  have loop:∀ s₃:Shared,s₃={ s₂ with heap:=h₁,toks:=s₂.toks } ->
      codeAny (model X.prog X.w) X.A (.compLoop (.ListComp elt [⟨tg,iter,ifs,0⟩] scope pos) 0 (.ref it) (.ref s₂.heap.objs.size) (compEnvC scope (ccells scope H2.objs.size X.env) H2.objs.size X.env))
        (compPost (model X.prog X.w) X.A X.xe use Qv (.ref s₂.heap.objs.size) H2.objs.size) s₃:=by
    rintro s₃ rfl
    refine compLoop_any (fun k s'=>∃ i ys us n H',Vals ys us /\ W i k ys H' /\ tn i s'.heap /\ (∀ b ∈ fp,H' b=none) /\
      Inv (compCx X NC scope H2.objs.size s₂ H₂ fp [] En) [(s₂.heap.objs.size,{ cls:=.type "list",data:=.seq us.toArray n })] (capσ cap σ) H' s') ?_ m0
      ⟨0,[],[],0,H₂,.nil,w0,T.keep _ _ _ st2 fun b _ o e=>old b o e,fun b hb=>(f2 b hb).1,comp_start I hc cok f2 hfp rfl hC old hacc (nodata _ _) hns₁ own₁⟩
    rw [hEn]
    rintro k s' ⟨i,ys,us,n,H',rv,w,st,fr,Ic⟩
    have Fp:∀ {H':Hp} {us:List Value} {n:Nat},(∀ b ∈ fp,H' b=none)->∀ b ∈ fp,FpOk (compCx X NC scope H2.objs.size s₂ H₂ fp [] En) [(s₂.heap.objs.size,({ cls:=.type "list",data:=.seq us.toArray n }:Obj))] H' b:=fun {H' us n} hn b hb=>by
      have q:=Ic.ok.exf b hb
      refine ⟨hn b hb,q.1,fun z=>Ic.ok.exfs b hb z,.inl hb,q.2,fun p hp=>?_⟩
      have e:p=(s₂.heap.objs.size,({ cls:=.type "list",data:=.seq us.toArray n }:Obj)):=by simpa using hp
      subst e
      exact (fpD b hb).symm
    rcases turn i k ys H' w with ⟨stop,q⟩ | ⟨go,hlen,step⟩
    · refine wpAny_mono (T.done (compCx X NC scope H2.objs.size s₂ H₂ fp [] En) rfl rfl rfl rfl i _ s' _ H' En Ic (Fp fr) st stop) (fun r s4 h4=>?_) fun _ _ x=>x
      obtain ⟨hr,I4⟩:=h4
      subst hr
      obtain ⟨m,ns,_⟩:=id I4.loc
      obtain ⟨p1,p2,_⟩:=I4.pin _ (List.mem_append_right _ (List.mem_singleton.mpr rfl))
      exact fin _ _ s4 H' ys us n q rv p1 p2 I4.free rfl hC ⟨m,ns⟩ fun h' sb=>comp_leave I f2 hC I4 sb
    · refine wpAny_mono (T.item (compCx X NC scope H2.objs.size s₂ H₂ fp [] En) rfl rfl rfl rfl i _ s' _ H' En Ic (Fp fr) st go) (fun r s4 h4=>?_) fun _ _ x=>x
      obtain ⟨u,hr,h4⟩:=h4
      subst hr
      refine wpAny_mono h4 (fun _ s5 h5=>?_) fun _ _ x=>x
      obtain ⟨x,H5,I5,r5,y5,st5,fr5⟩:=h5
      have I5':Inv (compCx X NC scope H2.objs.size s₂ H₂ fp (pinsAt fp s5.heap) En) [(s₂.heap.objs.size,{ cls:=.type "list",data:=.seq us.toArray n })] (capσ cap σ) H5 s5 :=
        (I5.pinned (Fp fr5) (T.obj _ _ st5)).repn fun p hp=>by
          rcases List.mem_append.mp hp with z | z
          · exact List.mem_append_right _ (List.mem_append_right _ z)
          · exact List.mem_append_right _ (List.mem_append_left _ z)
      have okx:XOk (compCx X NC scope H2.objs.size s₂ H₂ fp (pinsAt fp s5.heap) En):=by
        obtain ⟨top,outer,L,e1,e2,e3⟩:=th.top
        exact ⟨⟨top,outer,L,e1,e2,e3⟩,fun b hb=>let ⟨o,e,_⟩:=T.obj _ _ st5 b hb; ⟨o,mem_pinsAt hb e⟩⟩
      have thx:Thr (compCx X NC scope H2.objs.size s₂ H₂ fp (pinsAt fp s5.heap) En) (fun _ C' H'=>Z σ C' H'):=by
        refine ⟨okx,?_⟩
        rintro e s6 ⟨a,C',T',σ6,H6,rfl,I6,F6,z6⟩
        show En (.ref a) s6
        rw [<- hEn]
        unfold notedBy
        refine I6.note okx F6 I6.ok.frames rfl fun h7 t7 I7 F7=>?_
        obtain ⟨m,ns,_⟩:=id I7.loc
        have fin7:∃ m,h7.Ns H2.objs.size m /\ ∀ h',Heap.SameBut H2.objs.size h7 h'->∀ cenv:Env,cenv.locals=H2.objs.size->wpAny (model X.prog X.w) X.A (passOn "comprehension.variables-let-go" (.ref a) cenv:Sem Value) (fun _ _=>False) X.xe { s6 with heap:=h' }:=by
          refine ⟨m,ns,fun h' sb cenv _=>?_⟩
          have I8:Inv X pins σ H6 { s6 with heap:=h' }:=comp_leave (s':={ s6 with heap:=h7 }) I f2 hC I7 sb
          have F8:Fly X pins H6 h' a C' (some t7):=by
            refine ⟨F7.fl.at fun b hb o e=>(sb.2 b fun z=>?_).trans e,fun b hb=>?_⟩
            · obtain ⟨o',vs,e1,e2⟩:=F7.fl.rec b hb
              obtain ⟨oC,es,ep,e3,e4,_⟩:=ns
              subst z
              have q:o'=oC:=Option.some.inj (e1.symm.trans e3)
              rw [q] at e2
              have q2:=e2.symm.trans e4
              cases q2
            · obtain ⟨o1,o2,_⟩:=F7.ow b hb
              exact I.ow th.toXOk (.inr trivial) o2 o1
          exact I8.passOn F8 fun h9 I9 F9=>th.go I9 F9 z6
        show compPost _ _ _ _ _ _ _ (.error (.ref a)) _
        cases use <;> exact fin7
      refine wpAny_mono (hg _ _ En _ s5 _ H5 x u _ I5' r5 (step x H5 y5)) (fun _ s6 h6=>?_) fun _ _ x=>x
      obtain ⟨σ6,H6,I6,wk,q6⟩:=h6
      refine wpAny_mono (hf _ _ En thx _ s6 σ6 H6 _ I6 q6) (fun b s7 h7=>?_) fun _ _ x=>x
      obtain ⟨H7,I7,q7⟩:=h7
      have back:∀ {s8:Shared} {H8:Hp} {ys':List V} {us':List Value} {n' m':Nat},Inv (compCx X NC scope H2.objs.size s₂ H₂ fp (pinsAt fp s5.heap) En) [(s₂.heap.objs.size,{ cls:=.type "list",data:=.seq us'.toArray n' })] σ6 H8 s8->Vals ys' us'->m' < k->W (i + 1) m' ys' H8 ->
          ∃ m,m < k /\ ∃ i ys us n H',Vals ys us /\ W i m ys H' /\ tn i s8.heap /\ (∀ b ∈ fp,H' b=none) /\ Inv (compCx X NC scope H2.objs.size s₂ H₂ fp [] En) [(s₂.heap.objs.size,{ cls:=.type "list",data:=.seq us.toArray n })] (capσ cap σ) H' s8:=by
        intro s8 H8 ys' us' n' m' I8 rv8 hm w8
        refine ⟨m',hm,i + 1,ys',us',n',H8,rv8,w8,T.keep _ _ _ st5 fun b hb o e=>(I8.pin (b,o) (List.mem_append_left _ (mem_pinsAt hb e))).1,fun b hb=>?_,?_⟩
        · obtain ⟨o,e,d⟩:=T.obj _ _ st5 b hb
          exact (I8.pin (b,o) (List.mem_append_left _ (mem_pinsAt hb e))).2.1
        · have I9:=I8.weak (σ':=capσ cap σ) wk.1.symm wk.2
          exact I9.repn fun p hp=>List.mem_append_right _ (by simpa using hp)
      cases b with
      | false =>
        obtain ⟨m',hm,w8⟩:=q7
        exact back I7 rv hm w8
      | true =>
        refine wpAny_mono (hb _ _ En thx _ s7 σ6 H7 _ I7 q7) (fun y s8 h8=>?_) fun _ _ x=>x
        obtain ⟨v,H8,I8,rv8,m',hm,w8⟩:=h8
        obtain ⟨p1,p2,_⟩:=I8.pin _ (List.mem_append_right _ (List.mem_singleton.mpr rfl))
        have hlu:us.length=ys.length:=rv.length.symm
        refine append_at p1 (hsz:=by show us.toArray.size<=sizeLine; rw [List.size_toArray,hlu]; exact Nat.le_of_lt hlen) fun h9 sb9 e9=>?_
        rw [List.push_toArray] at e9
        have I9:=I8.repin (fun p hp=>by
          have q:=(of_pinsAt hp).1
          exact fpD _ q) (Nat.le_refl _) (nodata _ _) sb9 e9
        exact back I9 (rv.append (.cons rv8 .nil)) hm w8
  exact codeAny_compStart_list (loop _ rfl) (T.self _ 0 _ _ _ (T.keep _ _ _ st2 fun b _ o e=>old b o e) (loop _ rfl))
end
noncomputable def CompR (J:It) (H1:Hp) (cap:List (Option Nat)) (σ:St) (g:TG) (tf:TT) (te:TE) (Q:VK):Prop:=∃ W:Nat->Nat->List V->Hp->Prop,(∃ m,W 0 m [] H1) /\ ∀ i m ys H2,W i m ys H2 ->
  (J.stop i H2 /\ ys.length<=sizeLine /\ ∀ p,H2 p=none->Q (.ref p) (upd H2 p (.lst ys))) \/
  (J.go i H2 /\ ys.length < sizeLine /\ ∀ x H3,J.yld i H2 x H3->g x (capσ cap σ) H3 fun σ4 H4=>Weak (capσ cap σ) σ4 /\ tf σ4 H4 fun b H5 =>
    if b=true then te σ4 H5 fun y H6=>∃ m',m' < m /\ W (i + 1) m' (ys ++ [y]) H6 else ∃ m',m' < m /\ W (i + 1) m' ys H5)
noncomputable def tComp (Z:ZK) (cap:List (Option Nat)) (wi:TI) (g:TG) (tf:ZK->TT) (te:ZK->TE):TE:=fun σ H Q=>wi σ H fun J H1=>CompR J H1 cap σ g (tf (fun _ C H'=>Z σ C H')) (te (fun _ C H'=>Z σ C H')) Q
section
variable {X:Cx} {scope:Scope} {NC:List Str} {cap:List (Option Nat)} {elt tg iter:Expr} {ifs:List Expr} {pos:Pos} {Z:ZK} {wi:TI} {g:TG} {tf:ZK->TT} {te:ZK->TE}
theorem pe_comp (hc:X.calm=true) (th:Thr X Z) (hi:PI X tg iter wi) (cok:compOk X.env.scope scope X.N NC cap=true)
    (hg:∀ C s H fp pn xe,PG (compCx X NC scope C s H fp pn xe) tg g)
    (hf:∀ C s H fp pn xe Zc,Thr (compCx X NC scope C s H fp pn xe) Zc->PF (compCx X NC scope C s H fp pn xe) ifs (tf Zc))
    (hb:∀ C s H fp pn xe Zc,Thr (compCx X NC scope C s H fp pn xe) Zc->PE (compCx X NC scope C s H fp pn xe) elt (te Zc))
    (hs:∀ x,foldedSetIterable iter X.env x=pure x:=by intro _; rfl):PE X (.ListComp elt [⟨tg,iter,ifs,0⟩] scope pos) (tComp Z cap wi g tf te):=by
  intro pins s σ H Q I h
  obtain ⟨c1,c2,c3,c4,c5,c6,c7⟩:=compOk_parts cok
  rw [eval_ListComp]
  refine wpAny_comprehension_free (use:=none) rfl hs (closure_of fun y hy e=>I.ok.has y.1 (.inl (c4 y hy e))) c1 c3 (thn (hi pins s σ H _ I h) fun xv s₁ h₁=>thn h₁ fun itv s₂ h₂=>?_)
  obtain ⟨it,fp,tn,J,H2,rfl,I2,T,st2,f2,W,⟨m0,w0⟩,turn⟩:=h₂
  refine comp_core hc th I2 T st2 f2 cok (fun C pn xe=>hg C s₂ H2 fp pn xe) (fun C pn xe t=>hf C s₂ H2 fp pn xe _ t) (fun C pn xe t=>hb C s₂ H2 fp pn xe _ t) W m0 w0 turn ?_
  rintro C D s' H' ys us n ⟨hlen,q⟩ rv e hn _ rfl rfl ⟨m,ns⟩ lv
  refine ⟨m,ns,fun h' sb=>?_⟩
  have I':=lv h' sb
  have eD:h'.get? s₂.heap.objs.size=some { cls:=.type "list",data:=.seq us.toArray n }:=(sb.2 _ (Nat.ne_of_lt (Nat.lt_succ_self _))).trans e
  refine ⟨.ref s₂.heap.objs.size,_,I'.track (o:=.lst ys) hn (Heap.get?_none_of_le I2.sz) (Nat.ne_of_gt I2.lt) (fun x c ec z=>?_) (fun p hp z=>?_) ⟨hlen,us,n,rv,eD⟩,rfl,q _ hn⟩
  · obtain ⟨v,q⟩:=I2.cell x c ec
    exact absurd q.lt (by rw [z]; exact Nat.lt_irrefl _)
  · exact absurd (Heap.lt_size (I2.pin p hp).1) (by rw [z]; exact Nat.lt_irrefl _)
end
end L2
set_option Elab.async false
set_option linter.all false
set_option maxRecDepth 100000
namespace L2
open PySem PySem.Spec PyProof.Rows
theorem exc_obj {K:PySem.W.Frag} {h:Heap} {C:Addr} {bmB:List Value} {newId:String} (X:K.In h) (q:PySem.W.excIn K C bmB newId=true) :
    ∃ oc dd cd sl bm N nm qn bs hdct sn sub ab col k0 k1 k2 k3 k5 mN,K.lookup C=some ⟨oc,dd,.cls cd,sl⟩ /\ cd.mro=.ref C :: bm /\ h.get? C=some (excClassObj nm qn C N bs bm hdct sn sub ab col dd k0 k1 k2 k3 k5 newId) /\ h.Ns N mN /\ mN "__init__"=none /\ OwnTail h bmB bm:=by
  unfold PySem.W.excIn at q
  split at q
  · rename_i dd cd sl ho
    split at q
    · rename_i C' bm k0 k1 k2 k3 n k5 hm hs
      simp only [Bool.and_eq_true,beq_iff_eq,Bool.not_eq_true'] at q
      obtain ⟨⟨⟨⟨⟨rfl,rfl⟩,hdel⟩,ht⟩,hok⟩,hni⟩:=q
      obtain ⟨nm,bs,mro,ns,qn,hd,sn,sub,ab,col,del⟩:=cd
      dsimp only at hm hdel hok hni
      subst hm hdel
      have hsl:sl=#[k0,k1,k2,k3,some (.builtin n),k5]:=by
        obtain ⟨l⟩:=sl
        simp only at hs
        rw [hs]
      subst hsl
      exact ⟨_,dd,_,_,bm,ns,nm,qn,bs,hd,sn,sub,ab,col,k0,k1,k2,k3,k5,_,ho,rfl,X _ _ ho,.of_isNs (PySem.W.isNs_of_in X hok),PySem.W.nsMap_none_of_in X hok hni,PySem.W.tail_of_in X ht⟩
    · cases q
  · cases q
noncomputable def tRaise (C:Addr) (Z:ZK) (ta:TA):TS:=fun _ σ H=>ta σ H fun vs H1=>vs.length<=sizeLine /\ Z σ (.ref C) H1
section
variable {X:Cx} {Z:ZK} {x:Str} {C:Addr} {bmB:List Value} {B newId initId:String} {e₀:Expr} {rest:List Expr} {ta:TA} {np cpos pos:Pos}
theorem ps_raise (th:Thr X Z) (hc:X.calm=true) (hg:Gl X x) (hm:X.mg x=some (.ref C)) (hx:PySem.W.excIn X.K C bmB newId=true) (FB:ExcBaseFacts B newId initId bmB) (ha:PA X (e₀ :: rest) ta)
    (hd:(x == ("__debug__":Str))=false:=by decide) (he:starEach (e₀ :: rest) X.env=(false,eval e₀ X.env) :: starEach rest X.env:=by rfl) (hplain:(backTo cpos (starEach rest X.env)).any (·.1)=false:=by rfl) :
    PS X (.Raise (some (.Call (.Name x np) (e₀ :: rest) [] cpos)) none pos) (tRaise C Z ta):=by
  intro pins s σ H D I h
  obtain ⟨oc,dd,cd,sl,bm,N,nm,q,bs,hdct,sn,sub,ab,col,k0,k1,k2,k3,k5,mN,_,_,hC,hN,hni,T⟩:=exc_obj I.ok.mod.kin hx
  refine wpAny_Raise_call_subT (C:=C) (nm:=nm) (q:=q) (N:=N) (bs:=bs) (bm:=bm) (hdct:=hdct) (sn:=sn) (sub:=sub) (ab:=ab) (col:=col) (dd:=dd) (k0:=k0) (k1:=k1) (k2:=k2) (k3:=k3) (k5:=k5)
    FB (mN:=mN) (T.hasType FB.hasBase) (I.ok.hd hc) (by rw [he]; show (false || (backTo cpos (starEach rest X.env)).any (·.1))=false; rw [hplain]; rfl) hni (ld_glob I hg hm ⟨rfl,?_⟩ hd)
  have hA:=ha cpos pins s σ H _ I h
  rw [he] at hA ⊢
  refine Calls.evalArgs_plain (wpAny_mono hA (fun us s2 h2=>?_) fun _ _ y=>y)
  obtain ⟨vs,H1,I1,r,hlen,z⟩:=h2
  refine ⟨rfl,by rw [<- r.length]; exact hlen,I1.bk _ _ hC,hN.keeps I1.bk,T.keeps I1.bk,fun h' e hm=>?_⟩
  obtain ⟨t,he',ht0,ht⟩:=hm.there
  have I2:Inv X pins σ H1 { s2 with heap:=h' }:=I1.kept (t':=s2.toks) hm.keeps
  have F2:Fly X pins H1 h' e (.ref C) none:=by
    refine ⟨⟨_,_,.ref t,he',rfl,rfl,rfl,by simp,rfl⟩,fun b hb=>?_⟩
    have e':b=e:=by simpa using hb
    subst e'
    exact I1.ow th.toXOk (.inr trivial) hm.new (I1.untracked hm.new)
  exact th.go I2 F2 z
end
noncomputable def Under (K:PySem.W.Frag) (c D:Addr):Prop:=(∃ bmB newId,PySem.W.excIn K c bmB newId=true) /\ ∃ oc dd cd sl,K.lookup c=some ⟨oc,dd,.cls cd,sl⟩ /\ cd.mro.contains (.ref D)=true
noncomputable abbrev tryCx (X:Cx) (pins:List (Addr × Obj)) (xe:Value->Shared->Prop):Cx:={ X with pn:=X.pn ++ pins,xe:=xe }
noncomputable abbrev sutCx (X:Cx) (pins:List (Addr × Obj)) (a:Addr):Cx:={ X with A:=X.A.mark (some (.ref a)),calm:=false,pn:=X.pn ++ pins,xe:=fun _ _=>False }
section
variable {X:Cx} {pins:List (Addr × Obj)} {σ:St} {H:Hp} {s:Shared} {xe:Value->Shared->Prop} {a:Addr}
theorem Inv.toTry (I:Inv X pins σ H s):Inv (tryCx X pins xe) [] σ H s:=I.repn (by simp)
theorem Inv.ofTry (I:Inv (tryCx X pins xe) [] σ H s):Inv X pins σ H s:=I.repn (pn:=X.pn) (pins':=pins) (xe:=X.xe) (by simp)
theorem Inv.toSuite (I:Inv (tryCx X pins xe) [] σ H s):Inv (sutCx X pins a) [] σ H s :=
  ⟨⟨I.ok.mod,I.ok.kind,I.ok.glob,I.ok.blt,I.ok.above,I.ok.inj,I.ok.has,I.ok.cab,fun z=>absurd z (by simp),I.ok.frames,I.ok.stk,I.ok.exf,I.ok.bs,I.ok.bsz,I.ok.noex,I.ok.exfs,I.ok.funs,I.ok.frf⟩,
    I.os,I.bare,I.base,I.loc,I.cell,I.free,I.freeC,I.pin,I.hok,I.len⟩
theorem Inv.ofSuite (ok:X.Ok) (I:Inv (sutCx X pins a) [] σ H s):Inv X pins σ H s :=
  ⟨ok,I.os,I.bare,I.base,I.loc,I.cell,I.free,I.freeC,fun p hp=>I.pin p (by simpa using hp),I.hok,I.len⟩
theorem Inv.unbound {j:Nat} {n:Str} {h':Heap} {m m':Str->Option Value} {t':Nat} (I:Inv X pins σ H s) (hN:X.N.Nodup) (hj:X.N[j]?=some n) (hn:s.heap.Ns X.env.locals m) (hl:∀ (i:Nat) (x:Str) (v:V),X.N[i]?=some x->σ[i]?=some (some v)->Vis X.env.scope x->∃ u,RelV v u /\ Look X.env s.heap m x u)
    (hn':h'.Ns X.env.locals m') (hm:∀ x,x ≠ n->m' x=m x) (hs:Heap.SameBut X.env.locals s.heap h'):Inv X pins (σ.set j none) H { s with heap:=h',toks:=t' }:=by
  have cne:=I.cne
  obtain ⟨oL,_,_,hoL,_⟩:=id hn
  have below:∀ b o,X.s₀.heap.get? b=some o->b ≠ X.env.locals:=fun b o e=>Nat.ne_of_lt (Nat.lt_of_lt_of_le (Heap.lt_size e) I.ok.above)
  refine ⟨I.ok,I.os,I.bare,⟨fun b o e n hb hx=>?_,fun b o e n hb hx=>?_,I.base.free,fun b o e hx=>?_,I.base.tups,I.base.frzs,I.base.tbls⟩,⟨m',hn',fun i y v e1 e2 e3=>?_⟩,fun y c e=>?_,I.free,I.freeC,fun p hp=>?_,fun b ob e=>?_,by simpa using I.len⟩
  · exact (hs.2 b (below b o e)).trans (I.base.keep b o e n hb hx)
  · obtain ⟨sl,e1⟩:=I.base.slot b o e n hb hx
    exact ⟨sl,(hs.2 b (below b o e)).trans e1⟩
  · obtain ⟨o',e1⟩:=I.base.there b o e hx
    exact ⟨o',(hs.2 b (below b o e)).trans e1⟩
  · have hi:i ≠ j:=fun z=>by
      subst z
      by_cases hlt:i < σ.length
      · rw [List.getElem?_set_self hlt] at e2; cases e2
      · rw [List.getElem?_eq_none (by simp; omega)] at e2; cases e2
    rw [List.getElem?_set_ne (Ne.symm hi)] at e2
    obtain ⟨u,r,q⟩:=hl i y v e1 e2 e3
    refine ⟨u,r,?_⟩
    rcases q with ⟨k,e⟩ | ⟨k,c,e,z⟩
    · refine .inl ⟨k,?_⟩
      have:y ≠ n:=fun e=>hi (nodup_ix hN e1 (e ▸ hj))
      rw [hm y this]
      exact e
    · exact .inr ⟨k,c,e,z.sameBut hs (cne y c e)⟩
  · obtain ⟨w',z⟩:=I.cell y c e
    exact ⟨w',z.sameBut hs (cne y c e)⟩
  · obtain ⟨e,n,ne,nf,d⟩:=I.pin p hp
    exact ⟨(hs.2 p.1 ne).trans e,n,ne,nf,d⟩
  · refine (I.hok b ob e).stay (fun c w' hc q=>(hs.2 c ?_).trans q) (fun _ q=>q) fun _ _ q=>q
    rintro rfl
    rcases hc with rfl | hc
    · rw [I.free] at e; cases e
    · rw [I.free] at hc; cases hc
end
noncomputable def exO (a c:Addr):HO:=.ext fun h=>∃ o,h.get? a=some o /\ o.cls=.ref c
theorem exO_ok {P:Program} {w:World} {H:Hp} {h:Heap} {a c:Addr} {o:Obj} (e:h.get? a=some o) (hc:o.cls=.ref c):ObjOk P w H h a (exO a c) :=
  ⟨⟨o,e,hc⟩,⟨o,e⟩,fun h1 h2 ⟨o,e,hc⟩ k=>⟨o,k o e,hc⟩⟩
noncomputable def tTry (K:PySem.W.Frag) (D:Addr) (tb:ZK->TS) (ts:TS):TS:=fun En σ H=>tb (fun σ' C H'=>∃ c,C=.ref c /\ Under K c D /\ ts En σ' H') En σ H
noncomputable def tTryAs (K:PySem.W.Frag) (D:Addr) (j:Nat) (tb:ZK->TS) (ts:TS):TS:=fun En σ H=>tb (fun σ' C H'=>∃ c,C=.ref c /\ Under K c D /\ ∀ a,H' a=none ->
  ts { nx:=fun σ2 H2=>En.nx (σ2.set j none) H2,rt:=fun _ _=>False } (σ'.set j (some (.ref a))) (upd H' a (exO a c))) En σ H
section
variable {X:Cx} {Z:ZK} {x n:Str} {D:Addr} {bmB:List Value} {newId:String} {body suite:List Stmt} {b₀:Stmt} {tb:ZK->TS} {ts:TS} {np hpos pos:Pos} {j:Nat}
theorem Fly.toSuite {pins:List (Addr × Obj)} {H:Hp} {h:Heap} {a:Addr} {C:Value} {T:Option Addr} {xe:Value->Shared->Prop} (F:Fly (tryCx X pins xe) [] H h a C T):Fly (sutCx X pins a) [] H h a C T:=⟨F.fl,F.ow⟩
theorem caught {pins:List (Addr × Obj)} {σ:St} {H:Hp} {s:Shared} {a c:Addr} {t:Addr} {xe E:Value->Shared->Prop} {nm:Option Str} {Q:Flow->Shared->Prop} (I:Inv (tryCx X pins xe) [] σ H s) (F:Fly (tryCx X pins xe) [] H s.heap a (.ref c) (some t))
    (hg:Gl X x) (hm:X.mg x=some (.ref D)) (hx:PySem.W.excIn X.K D bmB newId=true) (hbB:bmB.contains (.type "BaseException")=true) (hu:Under X.K c D)
    (hd:(x == ("__debug__":Str))=false)
    (h : codeAny (model X.prog X.w) (X.A.mark (some (.ref a))) (.handlers (.ref a) [.ExceptHandler none nm (b₀ :: suite) hpos] X.env) (fun r s₂ => match r with
          | .ok f=>(match nm with
            | none=>Q f s₂
            | some n=>wpAny (model X.prog X.w) X.A (do bindName X.env n .none; unbindBehindTheSuite X.env n hpos) (fun _ s₃=>Q f s₃) E s₂)
          | .error x=>cameBackBy (model X.prog X.w) X.A X.env E x s₂) s) :
    wpAny (model X.prog X.w) X.A (handleBy (.ref a) X.env [.ExceptHandler (some (.Name x np)) nm (b₀ :: suite) hpos]) Q E s:=by
  refine wpAny_handleBy_cons (codeAny_handlers_test (ld_glob (X:=sutCx X pins a) I.toSuite hg hm ?_ hd)) (by intro q; cases q)
  obtain ⟨oc,dd,cd,sl,bm,N,nm',q,bs,hdct,sn,sub,ab,col,k0,k1,k2,k3,k5,mN,hl1,hm1,hC,_,_,T1⟩:=exc_obj I.kIn hx
  obtain ⟨⟨bmB',newId',hx'⟩,oc2,dd2,cd2,sl2,hl2,hmro⟩:=hu
  obtain ⟨oc',dd',cd',sl',bm',N',nm2,q',bs',hdct',sn',sub',ab',col',k0',k1',k2',k3',k5',mN',hl3,hm3,hC',_,_,_⟩:=exc_obj I.kIn hx'
  rw [hl2] at hl3
  cases hl3
  rw [hm3] at hmro
  obtain ⟨oe,vs,a0,he,hc,_⟩:=F.fl
  obtain ⟨hh,gg,dr,tk,os⟩:=s
  exact excMatches_own hC' hC he hc (T1.hasType hbB) hmro h
theorem ps_try (th:Thr X Z) (hg:Gl X x) (hm:X.mg x=some (.ref D)) (hx:PySem.W.excIn X.K D bmB newId=true) (hbB:bmB.contains (.type "BaseException")=true)
    (hb:∀ pins xe Zh,Thr (tryCx X pins xe) Zh->PSs (tryCx X pins xe) body (tb Zh)) (hs:∀ pins a,PSs (sutCx X pins a) (b₀ :: suite) ts) (hd:(x == ("__debug__":Str))=false:=by decide) :
    PS X (.Try body [.ExceptHandler (some (.Name x np)) none (b₀ :: suite) hpos] [] [] pos) (tTry X.K D tb ts):=by
  intro pins s σ H En I h
  refine wpAny_Try_except ?_
  generalize hEh:(fun (e:Value) (s₁:Shared)=>wpAny (model X.prog X.w) X.A (noteFrame e X.env) (fun _ s₂=>wpAny (model X.prog X.w) X.A (setFlight e none) (fun _ s₃=>wpAny (model X.prog X.w) X.A (handleBy e X.env [.ExceptHandler (some (.Name x np)) none (b₀ :: suite) hpos]) (SP X pins En) X.xe s₃) X.xe s₂) X.xe s₁)=Eh
  have ok1:XOk (tryCx X pins Eh):=⟨th.top,fun b hb=>let ⟨o,q⟩:=th.ex b hb; ⟨o,List.mem_append_left _ q⟩⟩
  have th1:Thr (tryCx X pins Eh) (fun σ' C H'=>∃ c,C=.ref c /\ Under X.K c D /\ ts En σ' H'):=by
    refine ⟨ok1,?_⟩
    rintro e s1 ⟨a,C,T,σ',H',rfl,I',F',c,rfl,hu,hts⟩
    show Eh (.ref a) s1
    rw [<- hEh]
    refine I'.note ok1 F' I'.ok.frames rfl fun h2 t I2 F2=>?_
    refine I2.flight F2 fun h3 I3 F3=>?_
    refine caught I3 F3 hg hm hx hbB hu hd (codeAny_handlers_suite ?_)
    refine I3.flight F3 fun h4 I4 F4=>?_
    refine wpAny_mono (hs pins a [] _ σ' H' En I4.toSuite hts) (fun f s5 h5=>?_) fun _ _ z=>z.elim
    show SP X pins En f s5
    cases f with
    | next=>obtain ⟨σ5,H5,I5,q⟩:=h5; exact ⟨σ5,H5,I5.ofSuite I.ok,q⟩
    | brk=>obtain ⟨σ5,H5,I5,q⟩:=h5; exact ⟨σ5,H5,I5.ofSuite I.ok,q⟩
    | cont=>obtain ⟨σ5,H5,I5,q⟩:=h5; exact ⟨σ5,H5,I5.ofSuite I.ok,q⟩
    | ret v=>obtain ⟨v',σ5,H5,I5,r,q⟩:=h5; exact ⟨v',σ5,H5,I5.ofSuite I.ok,r,q⟩
  refine wpAny_mono (hb pins Eh _ th1 [] s σ H En I.toTry h) (fun f s1 h1=>?_) fun _ _ z=>z
  cases f with
  | next=>obtain ⟨σ5,H5,I5,q⟩:=h1; exact wpAny_execs_nil ⟨σ5,H5,I5.ofTry,q⟩
  | brk=>obtain ⟨σ5,H5,I5,q⟩:=h1; exact ⟨σ5,H5,I5.ofTry,q⟩
  | cont=>obtain ⟨σ5,H5,I5,q⟩:=h1; exact ⟨σ5,H5,I5.ofTry,q⟩
  | ret v=>obtain ⟨v',σ5,H5,I5,r,q⟩:=h1; exact ⟨v',σ5,H5,I5.ofTry,r,q⟩
theorem ps_tryAs (th:Thr X Z) (hg:Gl X x) (hm:X.mg x=some (.ref D)) (hx:PySem.W.excIn X.K D bmB newId=true) (hbB:bmB.contains (.type "BaseException")=true) (hN:X.N.Nodup) (hj:X.N[j]?=some n) (hlo:X.env.scope.names.lookup n=some .local)
    (hb:∀ pins xe Zh,Thr (tryCx X pins xe) Zh->PSs (tryCx X pins xe) body (tb Zh)) (hs:∀ pins a,PSs (sutCx X pins a) (b₀ :: suite) ts) (hd:(x == ("__debug__":Str))=false:=by decide) :
    PS X (.Try body [.ExceptHandler (some (.Name x np)) (some n) (b₀ :: suite) hpos] [] [] pos) (tTryAs X.K D j tb ts):=by
  intro pins s σ H En I h
  refine wpAny_Try_except ?_
  generalize hEh:(fun (e:Value) (s₁:Shared)=>wpAny (model X.prog X.w) X.A (noteFrame e X.env) (fun _ s₂=>wpAny (model X.prog X.w) X.A (setFlight e none) (fun _ s₃=>wpAny (model X.prog X.w) X.A (handleBy e X.env [.ExceptHandler (some (.Name x np)) (some n) (b₀ :: suite) hpos]) (SP X pins En) X.xe s₃) X.xe s₂) X.xe s₁)=Eh
  have hcls:(X.env.scope.kind == .class || (X.env.scope.kind == .module && X.env.locals != X.env.globals))=false:=by rw [I.ok.kind]; rfl
  have ok1:XOk (tryCx X pins Eh):=⟨th.top,fun b hb=>let ⟨o,q⟩:=th.ex b hb; ⟨o,List.mem_append_left _ q⟩⟩
  have th1:Thr (tryCx X pins Eh) (fun σ' C H'=>∃ c,C=.ref c /\ Under X.K c D /\ ∀ a,H' a=none ->
      ts { nx:=fun σ2 H2=>En.nx (σ2.set j none) H2,rt:=fun _ _=>False } (σ'.set j (some (.ref a))) (upd H' a (exO a c))):=by
    refine ⟨ok1,?_⟩
    rintro e s1 ⟨a,C,T,σ',H',rfl,I',F',c,rfl,hu,hts⟩
    show Eh (.ref a) s1
    rw [<- hEh]
    refine I'.note ok1 F' I'.ok.frames rfl fun h2 t I2 F2=>?_
    refine I2.flight F2 fun h3 I3 F3=>?_
    refine caught I3 F3 hg hm hx hbB hu hd (codeAny_handlers_suite_as ?_)
    refine I3.flight F3 fun h4 I4 F4=>?_
    obtain ⟨o1,o2,o3,o4⟩:=F4.ow a (List.mem_cons_self ..)
    obtain ⟨oe,vs,a0,he,hce,hde,_⟩:=F4.fl
    have hL:a ≠ X.env.locals:=fun z=>by
      obtain ⟨m,⟨o',es,ep,ho',hd',_⟩,_⟩:=I4.loc
      have ho'':h4.get? a=some o':=by rw [z]; exact ho'
      rw [he] at ho''; cases ho''; rw [hde] at hd'; cases hd'
    have hC:∀ y k,X.env.cells.lookup y=some k->k ≠ a:=fun y k e z=>by
      obtain ⟨v,o',ho',hd'⟩:=I4.cell y k e
      have ho'':h4.get? a=some o':=by rw [<- z]; exact ho'
      rw [he] at ho''; cases ho''; rw [hde] at hd'; cases hd'
    have I5:=I4.toSuite (a:=a) |>.track (o:=exO a c) o1 o2 hL hC (fun p hp=>o4 p hp) (exO_ok he hce)
    refine store_ok (X:=sutCx X pins a) I5 hN hj (.inl hlo) (v:=.ref a) rfl (fun s6 I6=>?_) (.inr hlo)
    refine wpAny_mono (hs pins a [] s6 _ _ _ I6 (hts a o1)) (fun f s7 h7=>?_) fun _ _ z=>z.elim
    cases f with
    | next =>
      obtain ⟨σ7,H7,I7,q⟩:=h7
      show wpAny _ _ (do bindName X.env n .none; unbindBehindTheSuite X.env n hpos) _ _ s7
      have I7':=I7.ofSuite I.ok
      refine wpAny_bind (wpAny_bindName (store_ok (X:=X) I7' hN hj (.inl hlo) (v:=.non) rfl (fun s8 I8=>?_) (.inr hlo)))
      unfold unbindBehindTheSuite
      refine wpAny_onRaise ?_
      obtain ⟨m,hn,hl⟩:=id I8.loc
      obtain ⟨u,r,lk⟩:=hl j n .non hj (by rw [List.getElem?_set_self (by rw [I7'.len]; exact (List.getElem?_eq_some_iff.mp hj).1)]) (.inl hlo)
      have hv:m n=some u:=by
        rcases lk with ⟨_,e⟩ | ⟨k,_⟩
        · exact e
        · rcases k with k | k <;> (rw [show X.env.kindOf n=some .local from hlo] at k; cases k)
      refine wpAny_unbindName_local hlo hn hv hcls fun h9 u' hn9 hs9=>?_
      have I9:=I8.unbound (t':=s8.toks) hN hj hn hl hn9 (fun y hy=>if_neg hy) hs9
      rw [List.set_set] at I9
      exact ⟨_,_,I9,q⟩
    | brk=>obtain ⟨_,_,_,q⟩:=h7; exact q.elim
    | cont=>obtain ⟨_,_,_,q⟩:=h7; exact q.elim
    | ret v=>obtain ⟨_,_,_,_,_,q⟩:=h7; exact q.elim
  refine wpAny_mono (hb pins Eh _ th1 [] s σ H En I.toTry h) (fun f s1 h1=>?_) fun _ _ z=>z
  cases f with
  | next=>obtain ⟨σ5,H5,I5,q⟩:=h1; exact wpAny_execs_nil ⟨σ5,H5,I5.ofTry,q⟩
  | brk=>obtain ⟨σ5,H5,I5,q⟩:=h1; exact ⟨σ5,H5,I5.ofTry,q⟩
  | cont=>obtain ⟨σ5,H5,I5,q⟩:=h1; exact ⟨σ5,H5,I5.ofTry,q⟩
  | ret v=>obtain ⟨v',σ5,H5,I5,r,q⟩:=h1; exact ⟨v',σ5,H5,I5.ofTry,r,q⟩
end
end L2
set_option Elab.async false
set_option linter.all false
set_option maxRecDepth 100000
namespace L2
open PySem PySem.Spec PyProof.Rows
noncomputable def Its (x:Str):It:=⟨fun i _=>i < x.length,fun i H v H'=>H'=H /\ ∃ c,x.cps.toList[i]?=some c /\ v=.str ⟨#[c]⟩,fun i _=>x.length<=i⟩
theorem turn_ascii {P:Program} {w:World} {K:PySem.W.Frag} {tg:Expr} (it:Addr) (x:Str) (t:Tok):Turn P w K tg (Its x) [it] it (fun i h=>h.IsStrIter it "str_ascii_iterator" x t i) where
  mem:=by simp
  obj:=fun i h st b hb=>by
    have e:b=it:=by simpa using hb
    subst e
    obtain ⟨o,e,c,d⟩:=st
    exact ⟨o,e,fun v z=>by rw [d] at z; cases z⟩
  keep:=fun i h h' st k=>let ⟨o,e,r⟩:=st; ⟨o,k it (by simp) o e,r⟩
  item:=by
    intro X hP hw hK hc i pins s σ H E I hf st hg
    subst hP hw hK
    obtain ⟨f0,f1,f2,f3,f4,f5⟩:=hf it (by simp)
    have hg':i < x.cps.size:=hg
    refine wpAny_pyNext_ascii_item st (c:=x.cps[i]) (by simp [hg']) fun h' st' sb=>?_
    have I1:Inv X pins σ H { s with heap:=h',toks:=s.toks + 1 }:=I.turned (fun b o hb e=>(sb.2 b hb).trans e) f0 f1 f3 f4 f5
    obtain ⟨o,e,c,d⟩:=id st'
    exact ⟨_,rfl,go_of (s:={ s with heap:=h',toks:=s.toks + 1 }) e c d (by decide) ⟨.str ⟨#[x.cps[i]]⟩,H,I1,⟨_,rfl⟩,⟨rfl,x.cps[i],by simp [hg'],rfl⟩,st',fun b hb=>(hf b hb).1⟩⟩
  done:=by
    intro X hP hw hK hc i pins s σ H E I hf st hg
    subst hP hw hK
    obtain ⟨f0,f1,f2,f3,f4,f5⟩:=hf it (by simp)
    have hg':x.cps.size<=i:=hg
    exact wpAny_pyNext_ascii_end (I.ok.hd hc) st (by simp [hg']) fun h' eb=>⟨rfl,I.turned (t':=s.toks) (fun b o hb e=>eb b o hb e) f0 f1 f3 f4 f5⟩
  self:=fun _ _ _ _ _ st h=>wpAny_pyIter_striter_ascii st h
theorem turn_wide {P:Program} {w:World} {K:PySem.W.Frag} {tg:Expr} (it:Addr) (x:Str) (t:Tok):Turn P w K tg (Its x) [it] it (fun i h=>h.IsStrIter it "str_iterator" x t i) where
  mem:=by simp
  obj:=fun i h st b hb=>by
    have e:b=it:=by simpa using hb
    subst e
    obtain ⟨o,e,c,d⟩:=st
    exact ⟨o,e,fun v z=>by rw [d] at z; cases z⟩
  keep:=fun i h h' st k=>let ⟨o,e,r⟩:=st; ⟨o,k it (by simp) o e,r⟩
  item:=by
    intro X hP hw hK hc i pins s σ H E I hf st hg
    subst hP hw hK
    obtain ⟨f0,f1,f2,f3,f4,f5⟩:=hf it (by simp)
    have hg':i < x.cps.size:=hg
    refine wpAny_pyNext_wide_item st (c:=x.cps[i]) (by simp [hg']) fun h' st' sb=>?_
    have I1:Inv X pins σ H { s with heap:=h',toks:=s.toks + 1 }:=I.turned (fun b o hb e=>(sb.2 b hb).trans e) f0 f1 f3 f4 f5
    obtain ⟨o,e,c,d⟩:=id st'
    exact ⟨_,rfl,go_of (s:={ s with heap:=h',toks:=s.toks + 1 }) e c d (by decide) ⟨.str ⟨#[x.cps[i]]⟩,H,I1,⟨_,rfl⟩,⟨rfl,x.cps[i],by simp [hg'],rfl⟩,st',fun b hb=>(hf b hb).1⟩⟩
  done:=by
    intro X hP hw hK hc i pins s σ H E I hf st hg
    subst hP hw hK
    obtain ⟨f0,f1,f2,f3,f4,f5⟩:=hf it (by simp)
    have hg':x.cps.size<=i:=hg
    exact wpAny_pyNext_wide_end (I.ok.hd hc) st (by simp [hg']) fun h' eb=>⟨rfl,I.turned (t':=s.toks) (fun b o hb e=>eb b o hb e) f0 f1 f3 f4 f5⟩
  self:=fun _ _ _ _ _ st h=>wpAny_pyIter_striter_wide st h
section
variable {X:Cx} {tg:Expr}
theorem bools_of:∀ {bs:List Bool} {us:List Value},Vals (bs.map V.bl) us->PyProof.Rows.LSm.BoolsAre us bs
  | [],_,r=>by cases r; exact .nil
  | b :: bs,_,r=>by
    cases r with
    | cons r1 r2=>cases (show _=Value.bool b from r1); exact .cons b (bools_of r2)
theorem call_all (hc:X.calm=true):CallR X (.builtin "all") (fun xs H Q=>∃ (p:Addr) (bs:List Bool),xs=[.ref p] /\ SqL X.K H p (bs.map V.bl) /\ Q (.bl (bs.all id)) H):=by
  intro pins s σ H xs us Q I r h
  obtain ⟨p,bs,rfl,hq,q⟩:=h
  obtain ⟨u,rfl,ru⟩:=vals1 r
  cases ru
  obtain ⟨its,rv,pl,hz⟩:=I.list hq
  have hb:=bools_of rv
  have hl:s.heap.IsList p its.toArray:=pl.isList
  have hlt:p < s.heap.objs.size:=by obtain ⟨_,e,_⟩:=hl; exact Heap.lt_size e
  refine call_all_walk (wpAny_pyIter_list hl ?_)
  refine ⟨s.heap.objs.size,[s.heap.objs.size,p],[s.heap.objs.size],its.toArray.size,_,_,fun i=>(bs[i]?).getD true,rfl,Walks.list (A:=X.A.in1) (I.ok.hd hc) _ p (Nat.ne_of_lt hlt) its.toArray,
    ⟨⟨_,Heap.get?_push_size _ rfl,rfl,rfl⟩,hl.push _⟩,fun i v s' Q' E' hP hQ=>?_,fun h' tk hk=>?_⟩
  · obtain ⟨b,e,rfl⟩:=hb.get i v (by simpa using hP)
    simp only [e,Option.getD_some] at hQ
    exact wpAny_truthy_bool hQ
  · have e:((List.range its.toArray.size).all fun i=>(bs[i]?).getD true)=bs.all id:=by
      rw [List.size_toArray,hb.length]; exact PyProof.Rows.LSm.range_all bs
    rw [e]
    exact ⟨.bl (bs.all id),H,I.kept (PyProof.Rows.LSm.kept_iter hk),rfl,q⟩
theorem call_intS:CallR X (.type "int") (fun xs H Q=>∃ x n,xs=[.str x] /\ PySem.intText? x=some n /\ x.length<=640 /\ Q (.int n) H):=by
  intro pins s σ H xs us Q I r h
  obtain ⟨x,n,rfl,hn,hl,q⟩:=h
  obtain ⟨u,rfl,t,rfl⟩:=vals1 r
  exact PySem.W.KIN.call_text hn hl ⟨.int n,H,I.tok _,⟨_,rfl⟩,q⟩
theorem strs_of:∀ {ys:List Str} {us:List Value},Vals (ys.map V.str) us->StrsAre us ys
  | [],_,r=>by cases r; exact .nil
  | y :: ys,_,r=>by
    cases r with
    | cons r1 r2=>obtain ⟨t,rfl⟩:=r1; exact .cons y t (strs_of r2)
theorem mt_join:MtR X "str.join" (fun x vs H Q=>∃ (sep:Str) (p:Addr) (ys:List Str),x=.str sep /\ vs=[.ref p] /\ SqL X.K H p (ys.map V.str) /\ (ys.map (·.length)).sum + ys.length * sep.length<=16777216 /\ Q (.str (Txt.join sep ys)) H):=by
  intro pins s σ H x xs v us Q I rx rs h
  obtain ⟨sep,p,ys,rfl,rfl,hq,hz,q⟩:=h
  obtain ⟨t,rfl⟩:=rx
  obtain ⟨u,rfl,ru⟩:=vals1 rs
  cases ru
  obtain ⟨its,rv,pl,_⟩:=I.list hq
  exact join_list pl.isList (by simpa using strs_of rv) hz fun t' k=>⟨.str _,H,I.tok _,⟨_,rfl⟩,q⟩
open Builtin Builtin.Str in
theorem split_new {prog:Program} {w:World} {A:Around} {E:Value->Shared->Prop} {s:Shared} {x y:Str} {t u:Tok} {Q:Value->Shared->Prop} (hy:(y.length == 0)=false)
    (hq:∀ l k,l.map (·.1)=Txt.split x y->Q (.ref s.heap.objs.size) { s with heap:=s.heap.push { cls:=.type "list",data:=.seq (strValues l).toArray },toks:=k })
    (hsz:x.length<=sizeLine) (hsz2:(partsBetween x (occurrences x y 0 x.length (x.length + 1)) y.length).length<=sizeLine) :
    wpAny (model prog w) A (call (.builtin "str.split") [.str x t,.str y u]) Q E s:=by
  cases h1:(decide (x.length < y.length) || decide (strKind x < strKind y))
  · cases hf:(occurrences x y 0 x.length (x.length + 1)).isEmpty
    · refine call_meets F.slot_str_split (typeIs_str _ _ _) F.entry_str_split (F.args_str_split_2 _ _) (meets_str_split_sep x y t u h1 hy hf hsz hsz2) ?_
      show wants Q E _ { s with toks:=_,heap:=s.heap.push { cls:=.type "list",data:=.seq (strsFrom s.toks (partsBetween x (occurrences x y 0 x.length (x.length + 1)) y.length)).toArray } }
      rw [strsFrom_eq]
      exact hq (numbered s.toks _) _ ((numbered_texts _ _).trans ((if_neg (ne_true_of_eq_false h1)).trans (if_neg (ne_true_of_eq_false hf))).symm)
    · exact call_meets F.slot_str_split (typeIs_str _ _ _) F.entry_str_split (F.args_str_split_2 _ _) (meets_str_split_not_found x y t u h1 hy hf)
        (hq [(x,t)] s.toks ((if_neg (ne_true_of_eq_false h1)).trans (if_pos hf)).symm)
  · exact call_meets F.slot_str_split (typeIs_str _ _ _) F.entry_str_split (F.args_str_split_2 _ _) (meets_str_split_cannot_occur x y t u h1)
      (hq [(x,t)] s.toks (if_pos h1).symm)
theorem vals_strs:∀ (l:List (Str × Tok)),Vals ((l.map (·.1)).map V.str) (strValues l)
  | []=>.nil
  | (x,t) :: r=>.cons ⟨t,rfl⟩ (vals_strs r)
open Builtin Builtin.Str in
theorem mt_split:MtR X "str.split" (fun x vs H Q=>∃ z y,x=.str z /\ vs=[.str y] /\ (y.length == 0)=false /\ z.length<=sizeLine /\ (partsBetween z (occurrences z y 0 z.length (z.length + 1)) y.length).length<=sizeLine /\ (Txt.split z y).length<=sizeLine /\
    ∀ p,H p=none->Q (.ref p) (upd H p (.lst ((Txt.split z y).map V.str)))):=by
  intro pins s σ H x xs v us Q I rx rs h
  obtain ⟨z,y,rfl,rfl,hy,hz,hz2,hz3,q⟩:=h
  obtain ⟨t,rfl⟩:=rx
  obtain ⟨u,rfl,t',rfl⟩:=vals1 rs
  refine split_new hy (fun l k hl=>?_) hz hz2
  have hn:H s.heap.objs.size=none:=I.hok.fresh (Nat.le_refl _)
  refine ⟨.ref s.heap.objs.size,_,?_,rfl,q _ hn⟩
  refine I.laid (fun b o e=>Heap.get?_push_of_some _ e) (Nat.le_refl _) ⟨by rw [List.length_map]; exact hz3,strValues l,0,by rw [<- hl]; exact vals_strs l,Heap.get?_push_size _ rfl⟩
end
end L2
set_option Elab.async false
set_option linter.all false
set_option maxRecDepth 100000
namespace L2
open PySem PySem.Spec PyProof.Rows
noncomputable def PET (X:Cx) (e:Expr) (t:TE):Prop :=
  ∀ (pins:List (Addr × Obj)) (s:Shared) (σ:St) (H:Hp) (Q:VK),Inv X pins σ H s->0 < s.toks->t σ H Q->wpAny (model X.prog X.w) X.A (eval e X.env) (EP X pins σ Q) X.xe s
noncomputable def PST (X:Cx) (st:Stmt) (t:TS):Prop :=
  ∀ (pins:List (Addr × Obj)) (s:Shared) (σ:St) (H:Hp) (D:Ends),Inv X pins σ H s->0 < s.toks->t D σ H->wpAny (model X.prog X.w) X.A (exec st X.env) (SP X pins D) X.xe s
noncomputable def PSsT (X:Cx) (st:List Stmt) (t:TS):Prop :=
  ∀ (pins:List (Addr × Obj)) (s:Shared) (σ:St) (H:Hp) (D:Ends),Inv X pins σ H s->0 < s.toks->t D σ H->wpAny (model X.prog X.w) X.A (execs st X.env) (SP X pins D) X.xe s
noncomputable def tRepl (to:TE) (c d:Str):TE:=fun σ H Q=>to σ H fun x H1=>∃ z,x=.str z /\ z.length + (z.length + 1) * d.length<=16777216 /\ Q (.str (Txt.replace z c d)) H1
section
variable {X:Cx} {e o:Expr} {t to:TE} {st:Stmt} {rest:List Stmt} {tS u:TS} {apos cpos pos p1 p2:Pos} {c d:Str} {k1 k2:Nat}
theorem PE.pet (h:PE X e t):PET X e t:=fun pins s σ H Q I _ q=>h pins s σ H Q I q
theorem pet_replace (ho:PET X o to) (hcd:(c == d)=false) (hbase:attributeBase o "replace" X.env (eval o X.env)=eval o X.env:=by rfl)
    (hfew:((backTo cpos (starEach [.Constant (.str c) k1 p1,.Constant (.str d) k2 p2] X.env)).all (fun x=>!x.1) && (backToKw cpos (keywordEach [] X.env)).all (fun x=>x.1.isSome)
      && decide (([.Constant (.str c) k1 p1,.Constant (.str d) k2 p2]:List Expr).length + ([]:List Keyword).length + (if ([]:List Keyword).isEmpty then 0 else 1) < 30))=true:=by rfl)
    (hline:(apos.endLine == cpos.line)=true:=by rfl) :
    PET X (.Call (.Attribute o "replace" apos) [.Constant (.str c) k1 p1,.Constant (.str d) k2 p2] [] cpos) (tRepl to c d):=by
  intro pins s σ H Q I h0 h
  refine wpAny_Call_method_late hbase hfew hline rfl (wpAny_mono (wpAny_toks (ho pins s σ H _ I h0 h)) (fun v s1 h1=>?_) fun _ _ y=>y)
  obtain ⟨⟨x,H1,I1,r1,z,rfl,hz,q⟩,ht⟩:=h1
  obtain ⟨tk,rfl⟩:=r1
  have h1:0 < s1.toks:=Nat.lt_of_lt_of_le h0 ht
  refine ⟨"str","str.replace",PySem.F.plainAttrs_str,PySem.F.slot_str_replace,PySem.F.type_str_replace,typeIs_str _ _ _,(fun _ e=>nomatch e),?_⟩
  refine Calls.callWith_builtin rfl (Calls.evalArgs_plain ?_)
  refine spliced_more (Calls.Constant_str (spliced_more (Calls.Constant_str (spliced_none ?_))))
  refine SC.replace (by show s1.toks ≠ 0; omega) (by show s1.toks + 1 ≠ 0; omega) (by show s1.toks ≠ s1.toks + 1; omega) hcd hz fun t' k=>?_
  exact ⟨.str _,H1,I1.tok _,⟨_,rfl⟩,q⟩
theorem pst_set {i:Nat} {x:Str} {pos':Pos} (hN:X.N.Nodup) (hi:X.N[i]?=some x) (hx:Loc X.env.scope x) (he:PET X e t) (hs:swapsWith e (some (.Name x pos')) pos.line X.env=pure false:=by rfl) (hf:X.fn x=true \/ X.env.scope.names.lookup x=some .local:=by first | exact .inl rfl | exact .inr rfl | assumption) :
    PST X (.Assign [.Name x pos'] e pos) (tAsg t (gName i)):=by
  intro pins s σ H D I h0 h
  refine wpAny_Assign_Name (thn (he pins s σ H _ I h0 h) fun v s1 ⟨y,H1,I1,r1,q1⟩=>?_) hs
  exact store_ok I1 hN hi hx r1 (fun s2 I2=>⟨_,H1,I2,q1⟩) hf
theorem psst_cons (h1:PST X st tS) (h2:PSs X rest u):PSsT X (st :: rest) (tSeq tS u):=by
  intro pins s σ H D I h0 h
  refine wpAny_execs_cons (thn (h1 pins s σ H { D with nx:=u D } I h0 h) fun f s1 q=>?_)
  cases f with
  | next =>
    obtain ⟨σ',H',I',q⟩:=q
    exact h2 pins s1 σ' H' D I' q
  | ret v=>exact q
  | brk=>exact q
  | cont=>exact q
end
theorem cellsFrom_none:∀ {names:List (Str × NameKind)} {n:Nat},(∀ y ∈ names,y.2 ≠ .cell)->cellsFrom n names []=[]
  | [],_,_=>rfl
  | (x,k) :: r,n,h=>by
    have hk:k ≠ .cell:=h (x,k) (List.mem_cons_self ..)
    have ih:=cellsFrom_none (names:=r) (n:=n) fun y hy=>h y (List.mem_cons_of_mem _ hy)
    unfold cellsFrom
    simp only [beq_iff_eq,hk,if_false]
    exact ih
theorem bindL_rev {kindOf:Str->Option NameKind} {x:Str}:∀ {binds:List (Str × Value)} {m:Str->Option Value},(∀ y ∈ binds,kindOf y.1=some .local)->bindL kindOf binds m x=(binds.reverse.lookup x).or (m x)
  | [],_,_=>by simp [bindL]
  | (n,v) :: r,m,h=>by
    unfold bindL
    rw [bindL_rev fun y hy=>h y (List.mem_cons_of_mem _ hy),if_pos (h (n,v) (List.mem_cons_self ..)),List.reverse_cons,List.lookup_append,Option.or_assoc]
    congr 1
    by_cases e:x=n
    · subst e; simp [List.lookup]
    · have:(x == n)=false:=by simpa using e
      simp [List.lookup,this,e]
theorem fn_ofT {CX:CXT} {P:Program} {w:World} {K:PySem.W.Frag} {mg:Str->Option Value} {base:Heap} {k:Nat} {f:Addr} {name qual:Str} {params:Arguments} {body:List Stmt} {scope:Scope} {dV kV doc pm cdv ct oc:Value} {an od:Option Addr}
    {osl:Array (Option Value)} {N ps:List Str} {sp:Sp} (lk:K.lookup f=some ⟨oc,od,.func (PySem.W.fnOf name qual params body scope dV kV doc pm an cdv ct),osl⟩) (hcd:PySem.W.codeIn K cdv qual=true) (S:FnScope N ps scope)
    (nocell:∀ y ∈ scope.names,y.2 ≠ .cell) (hps:ps ≠ [])
    (len:∀ vs H Q E,sp vs H Q E->vs.length=ps.length)
    (hbody:∀ (A:Around) (outer:List Env) (s:Shared) (H:Hp) (vs:List V) (Q:VK) (E:XK),Room k (A.deeper (envOfC qual scope s.heap.objs.size f cdv))->sp vs H Q E ->
      ∃ t,PSsT (cxOf CX P w K mg base N qual scope f cdv A outer s H E) body t /\ t { nx:=fun _ H'=>Q .non H',rt:=Q } (start N vs) H) :
    FnOk P w K mg base CX (k + 1) f (PySem.W.fnOf name qual params body scope dV kV doc pm an cdv ct) ps sp:=by
  refine ⟨len,fun A outer s H args us vs Q E hr e0 hb r hsp=>?_⟩
  have hl:=len _ _ _ _ hsp
  have KX:K.In s.heap:=e0.mod.kin.keeps fun b o e=>(e0.bs b o e).1
  have lim:s.heap.NoLimit:=e0.mod.nolimit.keeps fun b o e=>(e0.bs b o e).1
  have hkind:∀ y ∈ ps.zip us,scope.names.lookup y.1=some .local:=fun ⟨n,v⟩ hy=>by
    rcases S.par n (List.of_mem_zip hy).1 with q | q
    · exact q
    · exact absurd rfl (nocell _ (PySem.mem_of_lookup q))
  have hkind':∀ y ∈ ps.zip us,scope.names.lookup y.1=some .local \/ (scope.names.lookup y.1=some .cell /\ ((cellsFrom (s.heap.objs.size + 1) scope.names []).lookup y.1).isSome=true):=fun y hy=>.inl (hkind y hy)
  refine codeAny_call_function hr.depth (KX _ _ lk) rfl S.co S.gen rfl (PySem.W.codeRec_of KX hcd) (hb _ _ _ _ ?_)
  refine wpAny_newFunctionEnv nocell hkind (fun h1 hns hsb=>?_) S.kind
  have zl:(ps.zip us).length=ps.length:=by
    rw [List.length_zip]
    have:=r.length
    omega
  have h0:0 < ({ s with heap:=h1,toks:=s.toks + (ps.zip us).length }:Shared).toks:=by
    have z2:0 < ps.length:=List.length_pos_iff.mpr hps
    show 0 < s.toks + (ps.zip us).length
    omega
  have hcs:cellsFrom (s.heap.objs.size + 1) scope.names []=[]:=cellsFrom_none nocell
  have ef:(bindL (envOfC qual scope s.heap.objs.size f cdv).kindOf (ps.zip us) fun _=>none)=fun x=>(ps.zip us).reverse.lookup x:=by
    funext x
    rw [bindL_rev (fun y hy=>hkind y hy)]
    cases (ps.zip us).reverse.lookup x <;> rfl
  have x:InCallC s s.heap.objs.size (bindL (envOfC qual scope s.heap.objs.size f cdv).kindOf (ps.zip us) fun _=>none) (cellsFrom (s.heap.objs.size + 1) scope.names []) (bindC (envOfC qual scope s.heap.objs.size f cdv).kindOf (ps.zip us) fun _=>none)
      { s with heap:=h1,toks:=s.toks + (ps.zip us).length }:=by
    rw [hcs,ef]
    refine ⟨⟨⟨h1,_,rfl⟩,hns,fun b o e=>?_,Nat.le_refl _⟩,fun n c q=>by simp at q,List.Pairwise.nil,fun n c q=>by simp at q⟩
    exact (hsb.2 b (Nat.ne_of_lt (Heap.lt_size e))).trans (Heap.get?_push_of_some _ e)
  have eE:newEnv scope s.heap.objs.size mainGlobals [] (qual ++ ".<locals>.") (some f) cdv none builtinsNs=envOfC qual scope s.heap.objs.size f cdv:=by
    unfold envOfC newEnv
    rw [hcs]
  generalize hfd:PySem.W.fnOf name qual params body scope dV kV doc pm an cdv ct=fd
  have eF:newEnv fd.scope s.heap.objs.size fd.globals fd.closure (fd.qualname ++ ".<locals>.") (some f) fd.code none fd.builtins=envOfC qual scope s.heap.objs.size f cdv:=by
    rw [<- hfd]
    exact eE
  rw [eF]
  generalize hs1:({ s with heap:=h1,toks:=s.toks + (ps.zip us).length }:Shared)=s1 at h0 x ⊢
  refine ⟨lim.keeps x.toInCall.keep,codeAny_func ?_⟩
  obtain ⟨t,ht,hq⟩:=hbody A outer s H vs Q E (hr.deeper _) hsp
  have I:Inv (cxOf CX P w K mg base N qual scope f cdv A outer s H E) [] (start N vs) H s1:=inv_start S hr.hd e0 hl r x
  refine wpAny_mono (ht [] s1 (start N vs) H _ I h0 hq) (fun fl s' hs=>?_) fun e s' hs=>hs
  have fin:∀ {σ':St} {H':Hp} {v:V} {u:Value},Inv (cxOf CX P w K mg base N qual scope f cdv A outer s H E) [] σ' H' s'->RelV v u->Q v H'->CE outer P w H s Q u s' :=
    fun {σ' H' v u} J rv q=>⟨v,H',J.os,J.bare,J.base,J.hok,rv,q⟩
  cases fl with
  | ret u =>
    obtain ⟨v,σ',H',J,rv,q⟩:=hs
    exact fin J rv q
  | next =>
    obtain ⟨σ',H',J,q⟩:=hs
    exact fin (v:=V.non) (u:=Value.none) J rfl q
  | brk =>
    obtain ⟨_,_,_,q⟩:=hs
    exact False.elim q
  | cont =>
    obtain ⟨_,_,_,q⟩:=hs
    exact False.elim q
end L2
set_option Elab.async false
set_option linter.all false
set_option maxRecDepth 100000
namespace L2
open PySem PySem.Spec PyProof.Rows
structure Walk (J:It) (xs:List V) (Pv:Hp->Prop):Prop where
  stop:∀ H,Pv H->J.stop xs.length H
  go:∀ i H,i < xs.length->Pv H->J.go i H
  yld:∀ i H x H',i < xs.length->Pv H->J.yld i H x H'->H'=H /\ xs[i]?=some x
section
variable {P:Program} {w:World} {K:PySem.W.Frag} {mg:Str->Option Value} {base:Heap}
theorem Fun.okX {x qual:Str} {st:Stmt} {f:Addr} {fd:FuncData} {N ps:List Str} {k:Nat} {sp:Sp} (F:Fun K x qual st f fd) (S:FnScope N ps (defScope st)) (len:∀ vs H Q E,sp vs H Q E->vs.length=ps.length)
    (hbody:∀ (cdv:Value) (A:Around) (outer:List Env) (s:Shared) (H:Hp) (vs:List V) (Q:VK) (E:XK),Room k (A.deeper (envOfC qual (defScope st) s.heap.objs.size f cdv))->sp vs H Q E ->
      ∃ t,PSs (cxOf (CXs P w) P w K mg base N qual (defScope st) f cdv A outer s H E) (defBody st) t /\ t { nx:=fun _ H'=>Q .non H',rt:=Q } (start N vs) H):FnOk P w K mg base (CXs P w) (k + 1) f fd ps sp:=by
  obtain ⟨oc,od,kV,doc,pm,an,cdv,ct,osl,rfl,lk,hcd⟩:=F.ex
  exact fn_of lk hcd S len fun A outer s H vs Q E hr hsp=>hbody cdv A outer s H vs Q E hr hsp
theorem Fun.okT {x qual:Str} {st:Stmt} {f:Addr} {fd:FuncData} {N ps:List Str} {k:Nat} {sp:Sp} (F:Fun K x qual st f fd) (S:FnScope N ps (defScope st)) (nocell:∀ y ∈ (defScope st).names,y.2 ≠ .cell) (hps:ps ≠ []) (len:∀ vs H Q E,sp vs H Q E->vs.length=ps.length)
    (hbody:∀ (cdv:Value) (A:Around) (outer:List Env) (s:Shared) (H:Hp) (vs:List V) (Q:VK) (E:XK),Room k (A.deeper (envOfC qual (defScope st) s.heap.objs.size f cdv))->sp vs H Q E ->
      ∃ t,PSsT (cxOf (CXs P w) P w K mg base N qual (defScope st) f cdv A outer s H E) (defBody st) t /\ t { nx:=fun _ H'=>Q .non H',rt:=Q } (start N vs) H):FnOk P w K mg base (CXs P w) (k + 1) f fd ps sp:=by
  obtain ⟨oc,od,kV,doc,pm,an,cdv,ct,osl,rfl,lk,hcd⟩:=F.ex
  exact fn_ofT lk hcd S nocell hps len fun A outer s H vs Q E hr hsp=>hbody cdv A outer s H vs Q E hr hsp
end
end L2
set_option Elab.async false
set_option linter.all false
set_option maxRecDepth 100000
namespace L2
open PySem PySem.Spec PyProof.Rows
noncomputable abbrev TJ:=St->Hp->Str->(Str->Hp->Prop)->Prop
noncomputable def PJ (X:Cx) (es:List Expr) (t:TJ):Prop:=∀ (pins:List (Addr × Obj)) (s:Shared) (σ:St) (H:Hp) (acc:Str) (Q:Str->Hp->Prop),Inv X pins σ H s->t σ H acc Q ->
  Joins (model X.prog X.w) X.A X.xe (evalEach es X.env) acc (fun out s₁=>out.length<=sizeLine /\ EP X pins σ (fun v H'=>∃ o,v=.str o /\ Q o H') (.str out s₁.toks) { s₁ with toks:=s₁.toks + 1 }) s
noncomputable def tJNil:TJ:=fun _ H acc Q=>acc.length<=sizeLine /\ Q acc H
noncomputable def tJC (c:Str) (t:TJ):TJ:=fun σ H acc Q=>(acc ++ c).length<=sizeLine /\ t σ H (acc ++ c) Q
noncomputable def tJR (te:TE) (t:TJ):TJ:=fun σ H acc Q=>te σ H fun v H1=>∃ x,v=.str x /\ (reprText x).length<=sizeLine /\ (acc ++ reprText x).length<=sizeLine /\ t σ H1 (acc ++ reprText x) Q
section
variable {X:Cx} {e v₁ v₂:Expr} {es:List Expr} {te:TE} {t:TJ} {c:Str} {k:Nat} {pos p:Pos}
theorem pj_nil:PJ X [] tJNil:=fun _ s _ H acc _ I h=>⟨h.1,.str acc,H,I.tok _,⟨_,rfl⟩,acc,rfl,h.2⟩
theorem pj_c (h:PJ X es t):PJ X (.Constant (.str c) k p :: es) (tJC c t):=by
  intro pins s σ H acc Q I q
  show wpAny _ _ (eval (.Constant (.str c) k p) X.env) _ _ s
  exact Calls.Constant_str ⟨c,_,rfl,q.1,h pins _ σ H (acc ++ c) Q (I.tok _) q.2⟩
theorem pj_r (he:PE X e te) (h:PJ X es t):PJ X (.FormattedValue e 114 none p :: es) (tJR te t):=by
  intro pins s σ H acc Q I q
  show wpAny _ _ (eval (.FormattedValue e 114 none p) X.env) _ _ s
  refine wpAny_FormattedValue_repr (thn (he pins s σ H _ I q) fun v s1 ⟨y,H1,I1,r1,x,ey,hz,hz2,q1⟩=>?_)
  subst ey
  obtain ⟨tk,rfl⟩:=r1
  refine pyReprObj_str (wpAny_formatField_str ?_ ?_ hz) hz
  · exact ⟨_,_,rfl,hz2,h pins _ σ H1 _ Q (I1.tok _) q1⟩
  · exact ⟨_,_,rfl,hz2,h pins _ σ H1 _ Q (I1.tok _) q1⟩
noncomputable def tJoin (t:TJ):TE:=fun σ H Q=>t σ H Str.empty fun o H'=>Q (.str o) H'
theorem pe_join (h:PJ X (v₁ :: v₂ :: es) t):PE X (.JoinedStr (v₁ :: v₂ :: es) pos) (tJoin t):=by
  intro pins s σ H Q I q
  refine wpAny_mono (wpAny_JoinedStr (Q:=EP X pins σ (fun v H'=>∃ o,v=.str o /\ Q (.str o) H')) (h pins s σ H Str.empty _ I q)) (fun v s1 h1=>?_) fun _ _ y=>y
  obtain ⟨y,H1,I1,r1,o,rfl,q1⟩:=h1
  exact ⟨_,H1,I1,r1,q1⟩
noncomputable def rNil (K:PySem.W.Frag) (neg:Bool):R2:=fun x y H Q=>∃ p q xs,x=.ref p /\ y=.ref q /\ SqL K H p xs /\ SqL K H q [] /\ Q (.bl (if neg then !xs.isEmpty else xs.isEmpty)) H
theorem op_eqNil (hu:X.A.units < cLine):OpR X (compareOp .Eq) (rNil X.K false):=by
  intro pins s σ H x y v u Q I rx ry h
  obtain ⟨p,q,xs,rfl,rfl,h1,h2,hq⟩:=h
  cases rx; cases ry
  obtain ⟨its,r,pl,hz⟩:=I.list h1
  obtain ⟨its2,r2,pl2,_⟩:=I.list h2
  cases r2
  cases xs with
  | nil =>
    cases r
    exact SeqAt.eq_listAt (e:=fun _=>true) pl.isList pl2.isList rfl hu (fun j h1 _=>absurd h1 (by simp)) ⟨.bl true,H,I,rfl,hq⟩
  | cons a t =>
    cases r with
    | cons r1 r2=>exact SeqAt.eq_list_lengthsAt pl.isList pl2.isList (by simp) hu ⟨.bl false,H,I,rfl,hq⟩
theorem op_neNil (hu:X.A.units < cLine):OpR X (compareOp .NotEq) (rNil X.K true):=by
  intro pins s σ H x y v u Q I rx ry h
  obtain ⟨p,q,xs,rfl,rfl,h1,h2,hq⟩:=h
  cases rx; cases ry
  obtain ⟨its,r,pl,hz⟩:=I.list h1
  obtain ⟨its2,r2,pl2,_⟩:=I.list h2
  cases r2
  cases xs with
  | nil =>
    cases r
    exact SeqAt.RcNeAt.lists (e:=fun _=>true) pl.isList pl2.isList rfl hu (fun j h1 _=>absurd h1 (by simp)) _ _ _ _ ⟨.bl false,H,I,rfl,hq⟩
  | cons a t =>
    cases r with
    | cons r1 r2=>exact SeqAt.RcNeAt.lists_lengths pl.isList pl2.isList (by simp) hu _ _ _ _ ⟨.bl true,H,I,rfl,hq⟩
end
end L2
set_option Elab.async false
set_option linter.all false
set_option maxRecDepth 100000
namespace L2
open PySem PySem.Spec PyProof.Rows
noncomputable def SIt (h:Heap) (i a:Addr) (k:Nat) (xs:Array Value):Prop:=(h.IsListIter i a k /\ h.IsList a xs) \/ (h.IsTupleIter i a k /\ h.IsTuple a xs)
theorem SIt.move {h h':Heap} {i a:Addr} {k:Nat} {xs:Array Value} (x:SIt h i a k xs) (hi:∀ o,h.get? i=some o->h'.get? i=some o) (ha:∀ o,h.get? a=some o->h'.get? a=some o):SIt h' i a k xs:=by
  rcases x with ⟨x,y⟩ | ⟨x,y⟩
  · exact .inl ⟨x.at hi,y.at ha⟩
  · exact .inr ⟨x.at hi,y.at ha⟩
theorem SIt.there {h:Heap} {i a:Addr} {k:Nat} {xs:Array Value} (x:SIt h i a k xs):∃ o,h.get? i=some o /\ ∀ v,o.data ≠ .cell v:=by
  rcases x with ⟨⟨o,e,_,d⟩,_⟩ | ⟨⟨o,e,_,d⟩,_⟩ <;> exact ⟨o,e,fun v z=>by rw [d] at z; cases z⟩
theorem SIt.src {h:Heap} {i a:Addr} {k:Nat} {xs:Array Value} (x:SIt h i a k xs):∃ o n,h.get? a=some o /\ o.data=.seq xs n:=by
  rcases x with ⟨_,o,e,_,n,d⟩ | ⟨_,o,e,_,n,d⟩ <;> exact ⟨o,n,e,d⟩
section
variable {prog:Program} {w:World} {A:Around} {E:Value->Shared->Prop} {s:Shared}
theorem nextOf_tuple_item {it t:Addr} {i:Nat} {items:Array Value} {x:Value} {Q:Value->Shared->Prop} (hit:s.heap.IsTupleIter it t i) (ht:s.heap.IsTuple t items) (hx:items[i]?=some x)
    (hQ:∀ h',h'.IsTupleIter it t (i + 1)->Heap.SameBut it s.heap h'->Q x { s with heap:=h' }):wpAny (model prog w) A (Builtin.SmallTypes.nextOf (.ref it)) Q E s:=by
  obtain ⟨o,ho,hc,hd⟩:=id hit
  obtain ⟨ol,hol,_,nl,hdl⟩:=ht
  unfold Builtin.SmallTypes.nextOf
  refine wpAny_bind (wpAny_callSpecial?_slot (name:=Str.ofString "__next__") hit.typeIs PySem.F.slot_tuple_iterator_next
    (wpAny_call_entry PySem.F.slot_tuple_iterator_next hit.typeIs PySem.F.entry_tuple_iterator_next ?_ (PySem.F.args_tuple_iterator_next_1 _)))
  show wpAny _ _ (field (.ref it) 0 >>= _) _ _ s
  refine wpAny_bind (wpAny_field ho hd (x:=.ref t) rfl ?_)
  show wpAny _ _ (if (Value.ref t == Value.none)=true then _ else _) _ _ s
  rw [if_neg (show ¬ ((Value.ref t == Value.none)=true) from Bool.false_ne_true)]
  show wpAny _ _ (field (.ref it) 1 >>= _) _ _ s
  refine wpAny_bind (wpAny_field ho hd (x:=.int i 0) rfl ?_)
  show wpAny _ _ (seqItems? (.ref t) >>= _) _ _ s
  refine wpAny_bind (wpAny_seqItems hol hdl ?_)
  simp only [Int.toNat_natCast,hx]
  refine wpAny_bind (wpAny_setField ho hd (by simp) (wpAny_pure ⟨x,rfl,wpAny_pure (hQ _ ?_ (Heap.SameBut.update ..))⟩))
  exact ⟨_,Heap.get?_update_self _ ho (Obj.isFreed_of_fields (Obj.data_mapFields hd _)),(Obj.cls_mapFields ..).trans hc,by
    rw [Obj.data_mapFields hd]; simp [rawInt]⟩
theorem nextOf_tuple_end {it t:Addr} {i:Nat} {items:Array Value} {Q:Value->Shared->Prop} (hh:A.handled=none) (hit:s.heap.IsTupleIter it t i) (ht:s.heap.IsTuple t items) (hx:items[i]?=none)
    (hE:∀ h' e,Heap.ExtBut it s.heap h'->(∃ o,h'.get? e=some o /\ o.cls=.type "StopIteration")->E (.ref e) { s with heap:=h' }):wpAny (model prog w) A (Builtin.SmallTypes.nextOf (.ref it)) Q E s:=by
  obtain ⟨o,ho,hc,hd⟩:=id hit
  obtain ⟨ol,hol,_,nl,hdl⟩:=ht
  unfold Builtin.SmallTypes.nextOf
  refine wpAny_bind (wpAny_callSpecial?_slot (name:=Str.ofString "__next__") hit.typeIs PySem.F.slot_tuple_iterator_next
    (wpAny_call_entry PySem.F.slot_tuple_iterator_next hit.typeIs PySem.F.entry_tuple_iterator_next ?_ (PySem.F.args_tuple_iterator_next_1 _)))
  show wpAny _ _ (field (.ref it) 0 >>= _) _ _ s
  refine wpAny_bind (wpAny_field ho hd (x:=.ref t) rfl ?_)
  show wpAny _ _ (if (Value.ref t == Value.none)=true then _ else _) _ _ s
  rw [if_neg (show ¬ ((Value.ref t == Value.none)=true) from Bool.false_ne_true)]
  show wpAny _ _ (field (.ref it) 1 >>= _) _ _ s
  refine wpAny_bind (wpAny_field ho hd (x:=.int i 0) rfl ?_)
  show wpAny _ _ (seqItems? (.ref t) >>= _) _ _ s
  refine wpAny_bind (wpAny_seqItems hol hdl ?_)
  simp only [Int.toNat_natCast,hx]
  refine wpAny_bind (wpAny_rule (wpAny_bind (wpAny_setField ho hd (by simp) ?_)))
  show wpAny _ _ (newExc (.type "StopIteration") [] >>= _) _ _ _
  refine wpAny_bind ?_
  simp only [newExc,newTuple]
  refine wpAny_bind (wpAny_newObj_type ?_ (by size_fits))
  refine wpAny_bind (m:=firstArgMember _ _) (wpAny_of_eq (a:=Value.none) (by first | rfl | (simp only [firstArgMember]; rfl)) ?_)
  refine wpAny_newObj_type ?_ (by size_fits)
  simp only [raiseNew]
  refine wpAny_bind (wpAny_handled ?_)
  first | rw [show A.in1.handled=none from hh] | rw [hh]
  refine wpAny_bind (wpAny_pure (wpAny_throw ?_))
  exact hE _ _ (((Heap.SameBut.update ..).extBut.push _).push _) ⟨_,Heap.get?_push_size _ rfl,rfl⟩
theorem nextOf_item {i a:Addr} {k:Nat} {xs:Array Value} {x:Value} {Q:Value->Shared->Prop} (hne:a ≠ i) (h:SIt s.heap i a k xs) (hx:xs[k]?=some x)
    (hQ:∀ h',SIt h' i a (k + 1) xs->Heap.SameBut i s.heap h'->Q x { s with heap:=h' }):wpAny (model prog w) A (Builtin.SmallTypes.nextOf (.ref i)) Q E s:=by
  rcases h with ⟨h1,h2⟩ | ⟨h1,h2⟩
  · exact wpAny_nextOf_list_item h1 h2 hx fun h' h3 sb=>hQ h' (.inl ⟨h3,h2.extBut sb.extBut hne⟩) sb
  · exact nextOf_tuple_item h1 h2 hx fun h' h3 sb=>hQ h' (.inr ⟨h3,h2.extBut sb.extBut hne⟩) sb
theorem nextOf_end {i a:Addr} {k:Nat} {xs:Array Value} {Q:Value->Shared->Prop} (hh:A.handled=none) (h:SIt s.heap i a k xs) (hx:xs[k]?=none)
    (hE:∀ h' e,Heap.ExtBut i s.heap h'->(∃ o,h'.get? e=some o /\ o.cls=.type "StopIteration")->E (.ref e) { s with heap:=h' }):wpAny (model prog w) A (Builtin.SmallTypes.nextOf (.ref i)) Q E s:=by
  rcases h with ⟨h1,h2⟩ | ⟨h1,h2⟩
  · exact wpAny_nextOf_list_end hh h1 h2 hx hE
  · exact nextOf_tuple_end hh h1 h2 hx hE
theorem SIt.ext {h h':Heap} {i a b:Addr} {k:Nat} {xs:Array Value} (x:SIt h i a k xs) (hs:Heap.ExtBut b h h') (h1:i ≠ b) (h2:a ≠ b):SIt h' i a k xs:=x.move (fun o e=>hs i o h1 e) (fun o e=>hs a o h2 e)
theorem zipS_next_item {z TI TO i1 i2 l1 l2:Addr} {k1 k2:Nat} {xs ys:Array Value} {x y a b:Value} {Q:Value->Shared->Prop} (D:ZipApart z TI TO i1 i2 l1 l2)
    (hz:IsZip s.heap z TI TO .none) (hTI:IsPair s.heap TI (.ref i1) (.ref i2)) (hTO:IsPair s.heap TO a b)
    (h1:SIt s.heap i1 l1 k1 xs) (h2:SIt s.heap i2 l2 k2 ys) (hx:xs[k1]?=some x) (hy:ys[k2]?=some y)
    (hQ:∀ h',IsZip h' z TI TO (rawInt s.heap.objs.size)->IsPair h' TO x y->SIt h' i1 l1 (k1 + 1) xs->SIt h' i2 l2 (k2 + 1) ys->IsPair h' s.heap.objs.size x y->h'.objs.size=s.heap.objs.size + 1 ->
      (∀ c o,c ≠ z->c ≠ TO->c ≠ i1->c ≠ i2->s.heap.get? c=some o->h'.get? c=some o)->Q (.ref s.heap.objs.size) { s with heap:=h' }) :
    wpAny (model prog w) A (Builtin.«zip.__next__» ⟨[.ref z],[]⟩) (fun fin s'=>∃ v,fin=.done (.ret v) /\ Q v s') E s:=by
  show wpAny _ _ (field (.ref z) 2 >>= _) _ _ _
  refine wpAny_bind (wpAny_field hz rfl (x:=.bool false) rfl ?_)
  show wpAny _ _ (field (.ref z) 3 >>= _) _ _ _
  refine wpAny_bind (wpAny_field hz rfl (x:=.ref TI) rfl ?_)
  refine wpAny_bind (wpAny_seqItems hTI rfl ?_)
  show wpAny _ _ (Builtin.SmallTypes.ownedTupleIsFree (.ref z) >>= _) _ _ _
  refine wpAny_bind ?_
  unfold Builtin.SmallTypes.ownedTupleIsFree
  refine wpAny_bind (wpAny_field hz rfl (x:=.none) rfl (wpAny_pure ?_))
  simp only [if_true]
  refine wpAny_bind (wpAny_rule ?_)
  refine wpAny_bind (wpAny_field hz rfl (x:=.ref TO) rfl ?_)
  refine wpAny_bind (wpAny_setField_rec hz (by simp) fun h₁ hz₁ hs₁=>?_)
  replace hz₁:IsZip h₁ z TI TO .ellipsis:=hz₁
  refine wpAny_bind ?_
  simp only [List.zipIdx_cons,List.zipIdx_nil,List.forIn_cons,List.forIn_nil]
  refine wpAny_bind (wpAny_bind (wpAny_onRaise ?_))
  show wpAny _ _ (Builtin.SmallTypes.nextOf (.ref i1) >>= _) _ _ _
  refine wpAny_bind (nextOf_item D.l1i1 (h1.ext hs₁.extBut D.i1z D.l1z) hx fun h₂ h1₂ hs₂=>wpAny_pure ?_)
  have hTO₂:IsPair h₂ TO a b:=hs₂.extBut _ _ D.TOi1 (hs₁.extBut _ _ D.TOz hTO)
  refine wpAny_bind (wpAny_seqItems hTO₂ rfl ?_)
  refine wpAny_bind (wpAny_updateSeq_pair hTO₂ fun h₃ hTO₃ hs₃=>?_)
  replace hTO₃:IsPair h₃ TO x b:=hTO₃
  refine wpAny_bind (wpAny_letGo (wpAny_pure ?_))
  refine wpAny_bind (wpAny_bind (wpAny_onRaise ?_))
  show wpAny _ _ (Builtin.SmallTypes.nextOf (.ref i2) >>= _) _ _ _
  refine wpAny_bind (nextOf_item D.l2i2 (((h2.ext hs₁.extBut D.i2z D.l2z).ext hs₂.extBut D.i12.symm D.l2i1).ext hs₃.extBut D.TOi2.symm D.l2TO) hy fun h₄ h2₄ hs₄=>wpAny_pure ?_)
  have hTO₄:IsPair h₄ TO x b:=hs₄.extBut _ _ D.TOi2 hTO₃
  refine wpAny_bind (wpAny_seqItems hTO₄ rfl ?_)
  refine wpAny_bind (wpAny_updateSeq_pair hTO₄ fun h₅ hTO₅ hs₅=>?_)
  replace hTO₅:IsPair h₅ TO x y:=hTO₅
  refine wpAny_bind (wpAny_letGo (wpAny_pure (wpAny_pure ?_)))
  refine wpAny_bind (wpAny_seqItems hTO₅ rfl ?_)
  refine wpAny_bind (wpAny_newTuple ?_)
  have hsz:h₅.objs.size=s.heap.objs.size:=by rw [hs₅.1,hs₄.1,hs₃.1,hs₂.1,hs₁.1]
  have hz₅:IsZip h₅ z TI TO .ellipsis:=hs₅.extBut _ _ D.TOz.symm (hs₄.extBut _ _ D.i2z.symm (hs₃.extBut _ _ D.TOz.symm (hs₂.extBut _ _ D.i1z.symm hz₁)))
  have hk₅:∀ c o,c ≠ z->c ≠ TO->c ≠ i1->c ≠ i2->s.heap.get? c=some o->h₅.get? c=some o:=fun c o c1 c2 c3 c4 e =>
    hs₅.extBut _ _ c2 (hs₄.extBut _ _ c4 (hs₃.extBut _ _ c2 (hs₂.extBut _ _ c3 (hs₁.extBut _ _ c1 e))))
  have h1₅:SIt h₅ i1 l1 (k1 + 1) xs:=((h1₂.ext hs₃.extBut D.TOi1.symm D.l1TO).ext hs₄.extBut D.i12 D.l1i2).ext hs₅.extBut D.TOi1.symm D.l1TO
  have h2₅:SIt h₅ i2 l2 (k2 + 1) ys:=h2₄.ext hs₅.extBut D.TOi2.symm D.l2TO
  have hzlt:z < h₅.objs.size:=Heap.lt_size hz₅
  have hTOlt:TO < h₅.objs.size:=Heap.lt_size hTO₅
  have hi1lt:i1 < h₅.objs.size:=by obtain ⟨_,e,_⟩:=h1₅.there; exact Heap.lt_size e
  have hi2lt:i2 < h₅.objs.size:=by obtain ⟨_,e,_⟩:=h2₅.there; exact Heap.lt_size e
  show wpAny _ _ (Builtin.SmallTypes.ownedTupleHandOut (.ref z) (.ref h₅.objs.size) >>= _) _ _ _
  refine wpAny_bind ?_
  unfold Builtin.SmallTypes.ownedTupleHandOut
  have hz₆:IsZip (h₅.push { cls:=.type "tuple",data:=.seq #[x,y] }) z TI TO .ellipsis:=Heap.get?_push_of_some _ hz₅
  refine wpAny_bind (wpAny_setField_rec hz₆ (by simp) fun h₇ hz₇ hs₇=>?_)
  replace hz₇:IsZip h₇ z TI TO (rawInt h₅.objs.size):=hz₇
  refine wpAny_setField_rec hz₇ (by simp) fun h₈ hz₈ hs₈=>?_
  replace hz₈:IsZip h₈ z TI TO (rawInt h₅.objs.size):=hz₈
  have up:∀ c o,c ≠ z->h₅.get? c=some o->h₈.get? c=some o:=fun c o c1 e=>hs₈.extBut _ _ c1 (hs₇.extBut _ _ c1 (Heap.get?_push_of_some _ e))
  have hT₈:IsPair h₈ h₅.objs.size x y:=hs₈.extBut _ _ (Nat.ne_of_gt hzlt) (hs₇.extBut _ _ (Nat.ne_of_gt hzlt) (Heap.get?_push_size _ rfl))
  have hz8:h₈.objs.size=h₅.objs.size + 1:=by rw [hs₈.1,hs₇.1,Heap.size_push]
  rw [hsz] at hz₈ hT₈ hz8
  refine wpAny_pure ⟨_,rfl,?_⟩
  show Q (.ref h₅.objs.size) _
  rw [hsz]
  exact hQ h₈ hz₈ (up _ _ D.TOz hTO₅) (h1₅.move (fun o e=>up _ o D.i1z e) (fun o e=>up _ o D.l1z e)) (h2₅.move (fun o e=>up _ o D.i2z e) (fun o e=>up _ o D.l2z e)) hT₈ hz8 fun c o c1 c2 c3 c4 e=>up c o c1 (hk₅ c o c1 c2 c3 c4 e)
theorem zipS_next_end {z TI TO i1 i2 l1 l2:Addr} {k1 k2:Nat} {xs ys:Array Value} {a b:Value} {Q:Fin->Shared->Prop} (hh:A.handled=none) (D:ZipApart z TI TO i1 i2 l1 l2)
    (hz:IsZip s.heap z TI TO .none) (hTI:IsPair s.heap TI (.ref i1) (.ref i2)) (hTO:IsPair s.heap TO a b)
    (h1:SIt s.heap i1 l1 k1 xs) (h2:SIt s.heap i2 l2 k2 ys) (hend:xs[k1]?=none \/ ys[k2]?=none)
    (hE:∀ h' e,(∀ c o,c ≠ z->c ≠ TO->c ≠ i1->c ≠ i2->s.heap.get? c=some o->h'.get? c=some o)->(∃ o,h'.get? e=some o /\ o.cls=.type "StopIteration")->E (.ref e) { s with heap:=h' }) :
    wpAny (model prog w) A (Builtin.«zip.__next__» ⟨[.ref z],[]⟩) Q E s:=by
  show wpAny _ _ (field (.ref z) 2 >>= _) _ _ _
  refine wpAny_bind (wpAny_field hz rfl (x:=.bool false) rfl ?_)
  show wpAny _ _ (field (.ref z) 3 >>= _) _ _ _
  refine wpAny_bind (wpAny_field hz rfl (x:=.ref TI) rfl ?_)
  refine wpAny_bind (wpAny_seqItems hTI rfl ?_)
  show wpAny _ _ (Builtin.SmallTypes.ownedTupleIsFree (.ref z) >>= _) _ _ _
  refine wpAny_bind ?_
  unfold Builtin.SmallTypes.ownedTupleIsFree
  refine wpAny_bind (wpAny_field hz rfl (x:=.none) rfl (wpAny_pure ?_))
  simp only [if_true]
  refine wpAny_bind (wpAny_rule ?_)
  refine wpAny_bind (wpAny_field hz rfl (x:=.ref TO) rfl ?_)
  refine wpAny_bind (wpAny_setField_rec hz (by simp) fun h₁ hz₁ hs₁=>?_)
  replace hz₁:IsZip h₁ z TI TO .ellipsis:=hz₁
  refine wpAny_bind ?_
  simp only [List.zipIdx_cons,List.zipIdx_nil,List.forIn_cons,List.forIn_nil]
  refine wpAny_bind (wpAny_bind (wpAny_onRaise ?_))
  show wpAny _ _ (Builtin.SmallTypes.nextOf (.ref i1) >>= _) _ _ _
  cases hx:xs[k1]? with
  | none =>
    refine wpAny_bind (nextOf_end hh (h1.ext hs₁.extBut D.i1z D.l1z) hx fun h₂ e hs₂ he=>?_)
    obtain ⟨oe,hoe,hce⟩:=he
    have hz₂:IsZip h₂ z TI TO .ellipsis:=hs₂ _ _ D.i1z.symm hz₁
    have hez:e ≠ z:=fun x=>by subst x; rw [hz₂] at hoe; cases hoe; simp at hce
    refine wpAny_setField_rec hz₂ (by simp) fun h₃ _ hs₃=>hE h₃ e (fun c o c1 _ c3 _ x=>hs₃.extBut _ _ c1 (hs₂ _ _ c3 (hs₁.extBut _ _ c1 x))) ⟨oe,hs₃.extBut _ _ hez hoe,hce⟩
  | some x =>
    have hy:ys[k2]?=none:=by rcases hend with h | h; rw [hx] at h; cases h; exact h
    refine wpAny_bind (nextOf_item D.l1i1 (h1.ext hs₁.extBut D.i1z D.l1z) hx fun h₂ h1₂ hs₂=>wpAny_pure ?_)
    have hTO₂:IsPair h₂ TO a b:=hs₂.extBut _ _ D.TOi1 (hs₁.extBut _ _ D.TOz hTO)
    refine wpAny_bind (wpAny_seqItems hTO₂ rfl ?_)
    refine wpAny_bind (wpAny_updateSeq_pair hTO₂ fun h₃ hTO₃ hs₃=>?_)
    refine wpAny_bind (wpAny_letGo (wpAny_pure ?_))
    refine wpAny_bind (wpAny_bind (wpAny_onRaise ?_))
    show wpAny _ _ (Builtin.SmallTypes.nextOf (.ref i2) >>= _) _ _ _
    refine wpAny_bind (nextOf_end hh (((h2.ext hs₁.extBut D.i2z D.l2z).ext hs₂.extBut D.i12.symm D.l2i1).ext hs₃.extBut D.TOi2.symm D.l2TO) hy fun h₄ e hs₄ he=>?_)
    obtain ⟨oe,hoe,hce⟩:=he
    have hz₄:IsZip h₄ z TI TO .ellipsis:=hs₄ _ _ D.i2z.symm (hs₃.extBut _ _ D.TOz.symm (hs₂.extBut _ _ D.i1z.symm hz₁))
    have hez:e ≠ z:=fun x=>by subst x; rw [hz₄] at hoe; cases hoe; simp at hce
    refine wpAny_setField_rec hz₄ (by simp) fun h₅ _ hs₅=>hE h₅ e (fun c o c1 c2 c3 c4 x=>hs₅.extBut _ _ c1 (hs₄ _ _ c4 (hs₃.extBut _ _ c2 (hs₂.extBut _ _ c3 (hs₁.extBut _ _ c1 x))))) ⟨oe,hs₅.extBut _ _ hez hoe,hce⟩
theorem pyNext_zipS_item {z TI TO i1 i2 l1 l2:Addr} {k1 k2:Nat} {xs ys:Array Value} {x y a b:Value} {Q:Option Value->Shared->Prop} (D:ZipApart z TI TO i1 i2 l1 l2)
    (hz:IsZip s.heap z TI TO .none) (hTI:IsPair s.heap TI (.ref i1) (.ref i2)) (hTO:IsPair s.heap TO a b)
    (h1:SIt s.heap i1 l1 k1 xs) (h2:SIt s.heap i2 l2 k2 ys) (hx:xs[k1]?=some x) (hy:ys[k2]?=some y)
    (hQ:∀ h',IsZip h' z TI TO (rawInt s.heap.objs.size)->IsPair h' TO x y->SIt h' i1 l1 (k1 + 1) xs->SIt h' i2 l2 (k2 + 1) ys->IsPair h' s.heap.objs.size x y->h'.objs.size=s.heap.objs.size + 1 ->
      (∀ c o,c ≠ z->c ≠ TO->c ≠ i1->c ≠ i2->s.heap.get? c=some o->h'.get? c=some o)->Q (some (.ref s.heap.objs.size)) { s with heap:=h' }) :
    wpAny (model prog w) A (pyNext (.ref z)) Q E s:=by
  have hT:s.TypeIs (.ref z) "zip":=⟨_,hz,rfl⟩
  unfold pyNext
  exact wpAny_bind (wpAny_attempt (wpAny_callSpecial?_slot (name:=Str.ofString "__next__") hT PySem.F.slot_zip_next
    (wpAny_call_entry PySem.F.slot_zip_next hT PySem.F.entry_zip_next
      (zipS_next_item D hz hTI hTO h1 h2 hx hy fun h' a1 a2 a3 a4 a5 a6 a7=>wpAny_pure (hQ h' a1 a2 a3 a4 a5 a6 a7)) (PySem.F.args_zip_next_1 _))))
theorem pyNext_zipS_end {z TI TO i1 i2 l1 l2:Addr} {k1 k2:Nat} {xs ys:Array Value} {a b:Value} {Q:Option Value->Shared->Prop} (hh:A.handled=none) (D:ZipApart z TI TO i1 i2 l1 l2)
    (hz:IsZip s.heap z TI TO .none) (hTI:IsPair s.heap TI (.ref i1) (.ref i2)) (hTO:IsPair s.heap TO a b)
    (h1:SIt s.heap i1 l1 k1 xs) (h2:SIt s.heap i2 l2 k2 ys) (hend:xs[k1]?=none \/ ys[k2]?=none)
    (hQ:∀ h',(∀ c o,c ≠ z->c ≠ TO->c ≠ i1->c ≠ i2->s.heap.get? c=some o->h'.get? c=some o)->Q none { s with heap:=h' }):wpAny (model prog w) A (pyNext (.ref z)) Q E s:=by
  have hT:s.TypeIs (.ref z) "zip":=⟨_,hz,rfl⟩
  unfold pyNext
  refine wpAny_bind (wpAny_attempt (wpAny_callSpecial?_slot (name:=Str.ofString "__next__") hT PySem.F.slot_zip_next
    (wpAny_call_entry PySem.F.slot_zip_next hT PySem.F.entry_zip_next (zipS_next_end hh D hz hTI hTO h1 h2 hend fun h' e hk he=>?_) (PySem.F.args_zip_next_1 _))))
  obtain ⟨o,ho,hc⟩:=he
  refine wpAny_bind (wpAny_isInstance (T:="StopIteration") (b:=true) ⟨o,ho,hc⟩ isSubtype_stop ?_)
  exact wpAny_pure (hQ _ hk)
end
end L2
set_option Elab.async false
set_option linter.all false
set_option maxRecDepth 100000
namespace L2
open PySem PySem.Spec PyProof.Rows
noncomputable def ItR (h:Heap) (i a:Addr) (k:Nat) (b:Bool):Prop:=if b=true then h.IsListIter i a k else h.IsTupleIter i a k
noncomputable def SqB (K:PySem.W.Frag) (H:Hp) (a:Addr) (b:Bool) (xs:List V):Prop:=if b=true then SqL K H a xs else SqT K H a xs
theorem ItR.at {h h':Heap} {i a:Addr} {k:Nat} {b:Bool} (x:ItR h i a k b) (hi:∀ o,h.get? i=some o->h'.get? i=some o):ItR h' i a k b:=by
  cases b with
  | true=>exact Heap.IsListIter.at (show h.IsListIter i a k from x) hi
  | false=>exact Heap.IsTupleIter.at (show h.IsTupleIter i a k from x) hi
theorem ItR.rec {h:Heap} {i a:Addr} {k:Nat} {b:Bool} (x:ItR h i a k b):∃ o vs,h.get? i=some o /\ o.data=.fields vs:=by
  cases b with
  | true=>obtain ⟨o,e,_,d⟩:=(show h.IsListIter i a k from x); exact ⟨o,_,e,d⟩
  | false=>obtain ⟨o,e,_,d⟩:=(show h.IsTupleIter i a k from x); exact ⟨o,_,e,d⟩
section
variable {X:Cx} {pins:List (Addr × Obj)} {σ:St} {H:Hp} {s:Shared}
theorem Inv.seqB {a:Addr} {b:Bool} {xs:List V} (I:Inv X pins σ H s) (h:SqB X.K H a b xs):∃ its:List Value,Vals xs its /\ (∀ (i:Addr) (k:Nat) (h':Heap),ItR h' i a k b->(∀ o,s.heap.get? a=some o->h'.get? a=some o)->SIt h' i a k its.toArray) /\ ∃ o n,s.heap.get? a=some o /\ o.data=.seq its.toArray n:=by
  cases b with
  | true =>
    obtain ⟨its,r,pl,_⟩:=I.list (show SqL X.K H a xs from h)
    have hl:s.heap.IsList a its.toArray:=pl.isList
    obtain ⟨o,e,c,n,d⟩:=id hl
    exact ⟨its,r,fun i k h' x ka=>.inl ⟨x,hl.at ka⟩,o,n,e,d⟩
  | false =>
    obtain ⟨its,r,pl,_⟩:=I.tuple (show SqT X.K H a xs from h)
    have hl:s.heap.IsTuple a its.toArray:=pl
    obtain ⟨o,e,c,n,d⟩:=id hl
    exact ⟨its,r,fun i k h' x ka=>.inr ⟨x,hl.at ka⟩,o,n,e,d⟩
theorem Inv.seqB_inj {a:Addr} {b:Bool} {xs ys:List V} (I:Inv X pins σ H s) (h:SqB X.K H a b xs) (h':SqB X.K H a b ys):xs=ys:=by
  cases b with
  | true=>exact I.list_inj (show SqL X.K H a xs from h) h'
  | false=>exact I.tuple_inj (show SqT X.K H a xs from h) h'
end
end L2
set_option Elab.async false
set_option linter.all false
set_option maxRecDepth 100000
namespace L2
open PySem PySem.Spec PyProof.Rows
section
variable {X:Cx} {pins:List (Addr × Obj)} {σ:St} {H:Hp} {s:Shared} {h':Heap}
theorem Inv.turnedL {t':Nat} {l:List Addr} (I:Inv X pins σ H s) (k:∀ b o,b ∉ l->s.heap.get? b=some o->h'.get? b=some o) (hf:∀ b ∈ l,FpOk X pins H b):Inv X pins σ H { s with heap:=h',toks:=t' }:=by
  have nit:∀ b u,H b=some u->b ∉ l:=fun b u e z=>by rw [(hf b z).1] at e; cases e
  have hL:X.env.locals ∉ l:=fun z=>(hf _ z).2.1 rfl
  refine I.step (g':=s.gens) (d':=s.drawn) (ch:=l) (fun b hb=>?_) (fun b o _ _ hc e _=>k b o hc e) (fun b o _ _ hc e _=>⟨o.slots,k b o hc e⟩) (fun _ _ _ _ n=>n)
    (fun b o hc e=>⟨o,k b o hc e⟩) (fun _ _ e=>e) (fun _ _ _ e=>e) (fun b ps e=>⟨#[],by rw [e]; simp⟩) (fun m hm=>?_) (fun b u e=>?_) I.bare
  · obtain ⟨_,f1,_,f3,f4,f5⟩:=hf b hb
    exact ⟨f3,f1,f4,f5⟩
  · obtain ⟨o,es,ep,ho,r⟩:=hm
    exact ⟨o,es,ep,k _ o hL ho,r⟩
  · refine (I.hok b u e).stay (fun c v hc q=>k c v ?_ q) (fun _ q=>q) fun _ _ q=>q
    rcases hc with z | z
    · rw [z]; exact nit b u e
    · exact nit c _ z
end
theorem ItR.ofS {h:Heap} {i a:Addr} {k m:Nat} {xs ys:Array Value} {b:Bool} {h0:Heap} (x:SIt h i a k xs) (q:ItR h0 i a m b) (y:SIt h0 i a m ys) (hc:∀ o,h0.get? a=some o->h.get? a=some o):ItR h i a k b:=by
  cases b with
  | true =>
    rcases x with ⟨x,_⟩ | ⟨_,⟨o,e,c,n,d⟩⟩
    · exact x
    · rcases y with ⟨_,⟨o',e',c',_⟩⟩ | ⟨⟨o',e',c',_⟩,_⟩
      · have:=hc _ e'; rw [e] at this; cases this; rw [c] at c'; exact absurd c' (by decide)
      · obtain ⟨o2,e2,c2,_⟩:=(show h0.IsListIter i a m from q)
        rw [e2] at e'; cases e'; rw [c2] at c'; exact absurd c' (by decide)
  | false =>
    rcases x with ⟨_,⟨o,e,c,n,d⟩⟩ | ⟨x,_⟩
    · rcases y with ⟨⟨o',e',c',_⟩,_⟩ | ⟨_,⟨o',e',c',_⟩⟩
      · obtain ⟨o2,e2,c2,_⟩:=(show h0.IsTupleIter i a m from q)
        rw [e2] at e'; cases e'; rw [c2] at c'; exact absurd c' (by decide)
      · have:=hc _ e'; rw [e] at this; cases this; rw [c] at c'; exact absurd c' (by decide)
    · exact x
noncomputable def Itz (K:PySem.W.Frag) (l1 l2:Addr) (b1 b2:Bool) (n m:Nat):It :=
  ⟨fun i H=>i < n /\ i < m /\ ∃ xs ys,SqB K H l1 b1 xs /\ SqB K H l2 b2 ys /\ xs.length=n /\ ys.length=m,
   fun i H v H'=>∃ T,v=.ref T /\ H T=none /\ ∀ xs ys,SqB K H l1 b1 xs->SqB K H l2 b2 ys->∃ x y,xs[i]?=some x /\ ys[i]?=some y /\ H'=upd H T (.tup [x,y]),
   fun i H=>(i=n \/ i=m) /\ ∃ xs ys,SqB K H l1 b1 xs /\ SqB K H l2 b2 ys /\ xs.length=n /\ ys.length=m⟩
noncomputable def ZTn (z TI TO i1 i2 l1 l2:Addr) (b1 b2:Bool) (i:Nat) (h:Heap):Prop :=
  IsZip h z TI TO .none /\ IsPair h TI (.ref i1) (.ref i2) /\ (∃ a b,IsPair h TO a b) /\ ItR h i1 l1 i b1 /\ ItR h i2 l2 i b2
theorem turn_zip {P:Program} {w:World} {K:PySem.W.Frag} {elts:List Expr} {x1} {pos:Pos} {z TI TO i1 i2 l1 l2:Addr} (D:ZipApart z TI TO i1 i2 l1 l2) (hT1:l1 ≠ TI) (hT2:l2 ≠ TI) (b1 b2:Bool) (n m:Nat) :
    Turn P w K (.Tuple elts x1 pos) (Itz K l1 l2 b1 b2 n m) [z,TI,TO,i1,i2] z (ZTn z TI TO i1 i2 l1 l2 b1 b2) where
  mem:=by simp
  obj:=fun i h st b hb=>by
    obtain ⟨z0,zI,⟨a,c,zO⟩,t1,t2⟩:=st
    have sq:∀ {i a k b},ItR h i a k b->∃ o,h.get? i=some o /\ ∀ v,o.data ≠ .cell v:=fun t=>by
      obtain ⟨o,vs,e,d⟩:=t.rec
      exact ⟨o,e,fun v q=>by rw [d] at q; cases q⟩
    simp only [List.mem_cons,List.not_mem_nil,or_false] at hb
    rcases hb with rfl | rfl | rfl | rfl | rfl
    · exact ⟨_,z0,fun v q=>by cases q⟩
    · exact ⟨_,zI,fun v q=>by cases q⟩
    · exact ⟨_,zO,fun v q=>by cases q⟩
    · exact sq t1
    · exact sq t2
  keep:=fun i h h' st k=>by
    obtain ⟨z0,zI,⟨a,c,zO⟩,t1,t2⟩:=st
    exact ⟨k z (by simp) _ z0,k TI (by simp) _ zI,⟨a,c,k TO (by simp) _ zO⟩,t1.at fun o e=>k i1 (by simp) o e,t2.at fun o e=>k i2 (by simp) o e⟩
  item:=by
    intro X hP hw hK hc i pins s σ H E I hf st hg
    subst hP hw hK
    obtain ⟨hi,hj,xs,ys,hx,hy,lx,ly⟩:=hg
    obtain ⟨z0,zI,⟨a,c,zO⟩,t1,t2⟩:=st
    obtain ⟨its1,v1,k1,o1,n1,e1,d1⟩:=I.seqB hx
    obtain ⟨its2,v2,k2,o2,n2,e2,d2⟩:=I.seqB hy
    have S1:=k1 i1 i s.heap t1 fun _ e=>e
    have S2:=k2 i2 i s.heap t2 fun _ e=>e
    have gx:xs[i]?=some (xs[i]'(by omega)):=List.getElem?_eq_getElem _
    have gy:ys[i]?=some (ys[i]'(by omega)):=List.getElem?_eq_getElem _
    generalize xs[i]'(by omega)=x at gx
    generalize ys[i]'(by omega)=y at gy
    obtain ⟨u,hu,ru⟩:=v1.get gx
    obtain ⟨v,hv,rv⟩:=v2.get gy
    refine pyNext_zipS_item D z0 zI zO S1 S2 (x:=u) (y:=v) (by simpa using hu) (by simpa using hv) fun h' a1 a2 a3 a4 a5 a6 a7=>?_
    refine ⟨_,rfl,wpAny_letOwnedTupleGo_zip (s:={ s with heap:=h' }) a1 fun h'' q1 q2=>?_⟩
    have up:∀ b o,b ∉ [z,TI,TO,i1,i2]->s.heap.get? b=some o->h''.get? b=some o:=fun b o hb e=>by
      simp only [List.mem_cons,List.not_mem_nil,or_false,not_or] at hb
      exact (q2.2 b hb.1).trans (a7 b o hb.1 hb.2.2.1 hb.2.2.2.1 hb.2.2.2.2 e)
    have I1:Inv X pins σ H { s with heap:=h'',toks:=s.toks }:=I.turnedL up hf
    have F:=I.fpOk (b:=s.heap.objs.size) (H':=H) (Nat.le_refl _) (I.hok.fresh (Nat.le_refl _))
    have h0:X.s₀.heap.get? s.heap.objs.size=none:=by
      cases q:X.s₀.heap.get? s.heap.objs.size with
      | none=>rfl
      | some o=>exact absurd (Nat.lt_of_lt_of_le (Heap.lt_size q) I.sz) (Nat.lt_irrefl _)
    have zs:s.heap.objs.size ≠ z:=Nat.ne_of_gt (Heap.lt_size z0)
    have T':IsPair h'' s.heap.objs.size u v:=(q2.2 _ zs).trans a5
    have I2:Inv X pins σ (upd H s.heap.objs.size (.tup [x,y])) { s with heap:=h'',toks:=s.toks }:=I1.track F.1 h0 F.2.1 F.2.2.2.2.1 F.2.2.2.2.2 ⟨by show 2<=sizeLine; rw [sizeLine_eq]; decide,[u,v],.cons ru (.cons rv .nil),⟨_,T',rfl,0,rfl⟩⟩
    have l1lt:l1 < s.heap.objs.size:=Heap.lt_size e1
    have l2lt:l2 < s.heap.objs.size:=Heap.lt_size e2
    have l1f:l1 ∉ [z,TI,TO,i1,i2]:=by simp [D.l1z,D.l1TO,D.l1i1,D.l1i2,hT1]
    have l2f:l2 ∉ [z,TI,TO,i1,i2]:=by simp [D.l2z,D.l2TO,D.l2i1,D.l2i2,hT2]
    have S1':SIt h'' i1 l1 (i + 1) its1.toArray:=a3.move (fun o e=>(q2.2 _ D.i1z).trans e) (fun o e=>(q2.2 _ D.l1z).trans e)
    have S2':SIt h'' i2 l2 (i + 1) its2.toArray:=a4.move (fun o e=>(q2.2 _ D.i2z).trans e) (fun o e=>(q2.2 _ D.l2z).trans e)
    refine ⟨.ref s.heap.objs.size,_,I2,rfl,⟨_,rfl,F.1,fun xs' ys' hx' hy'=>?_⟩,⟨q1,?_,⟨u,v,?_⟩,?_,?_⟩,fun b hb=>?_⟩
    · rw [I.seqB_inj hx' hx,I.seqB_inj hy' hy]
      exact ⟨x,y,gx,gy,rfl⟩
    · exact (q2.2 _ D.TIz).trans (a7 TI _ D.TIz D.TITO D.TIi1 D.TIi2 zI)
    · exact (q2.2 _ D.TOz).trans a2
    · exact ItR.ofS S1' t1 S1 fun o e=>up l1 o l1f e
    · exact ItR.ofS S2' t2 S2 fun o e=>up l2 o l2f e
    · have hb':=hf b hb
      have ne:b ≠ s.heap.objs.size:=by
        obtain ⟨o,e,_⟩:∃ o,s.heap.get? b=some o /\ True:=by
          simp only [List.mem_cons,List.not_mem_nil,or_false] at hb
          rcases hb with rfl | rfl | rfl | rfl | rfl
          · exact ⟨_,z0,trivial⟩
          · exact ⟨_,zI,trivial⟩
          · exact ⟨_,zO,trivial⟩
          · obtain ⟨o,vs,e,_⟩:=t1.rec; exact ⟨o,e,trivial⟩
          · obtain ⟨o,vs,e,_⟩:=t2.rec; exact ⟨o,e,trivial⟩
        exact Nat.ne_of_lt (Heap.lt_size e)
      rw [upd_ne ne]; exact hb'.1
  done:=by
    intro X hP hw hK hc i pins s σ H E I hf st hg
    subst hP hw hK
    obtain ⟨hi,xs,ys,hx,hy,lx,ly⟩:=hg
    obtain ⟨z0,zI,⟨a,c,zO⟩,t1,t2⟩:=st
    obtain ⟨its1,v1,k1,o1,n1,e1,d1⟩:=I.seqB hx
    obtain ⟨its2,v2,k2,o2,n2,e2,d2⟩:=I.seqB hy
    have S1:=k1 i1 i s.heap t1 fun _ e=>e
    have S2:=k2 i2 i s.heap t2 fun _ e=>e
    refine pyNext_zipS_end (I.ok.hd hc) D z0 zI zO S1 S2 ?_ fun h' a1=>⟨rfl,I.turnedL (t':=s.toks) (l:=[z,TI,TO,i1,i2]) (fun b o hb e=>?_) hf⟩
    · rcases hi with q | q
      · exact .inl (by simp; rw [<- v1.length,lx,q]; exact Nat.le_refl _)
      · exact .inr (by simp; rw [<- v2.length,ly,q]; exact Nat.le_refl _)
    · simp only [List.mem_cons,List.not_mem_nil,or_false,not_or] at hb
      exact a1 b o hb.1 hb.2.2.1 hb.2.2.2.1 hb.2.2.2.2 e
  self:=fun _ _ _ _ _ st h=>wpAny_pyIter_zip st.1 h
end L2
set_option Elab.async false
set_option linter.all false
set_option maxRecDepth 100000
set_option maxHeartbeats 4000000
namespace L2
open PySem PySem.Spec PyProof.Rows
noncomputable def itN (b:Bool):String:=if b=true then "list_iterator" else "tuple_iterator"
noncomputable def SqH (h:Heap) (a:Addr) (b:Bool) (xs:Array Value):Prop:=if b=true then h.IsList a xs else h.IsTuple a xs
noncomputable abbrev zbH1 (b1:Bool) (h:Heap) (l1:Addr):Heap:=h.push { cls:=.type (itN b1),data:=.fields #[.ref l1,.int 0 0] }
noncomputable abbrev zbH2 (b1 b2:Bool) (h:Heap) (l1 l2:Addr):Heap:=(zbH1 b1 h l1).push { cls:=.type (itN b2),data:=.fields #[.ref l2,.int 0 0] }
noncomputable abbrev zbH3 (b1 b2:Bool) (h:Heap) (l1 l2:Addr):Heap:=(zbH2 b1 b2 h l1 l2).push { cls:=.type "tuple",data:=.seq #[.ref h.objs.size,.ref (zbH1 b1 h l1).objs.size] }
noncomputable abbrev zbH4 (b1 b2:Bool) (h:Heap) (l1 l2:Addr):Heap:=(zbH3 b1 b2 h l1 l2).push { cls:=.type "tuple",data:=.seq #[.none,.none] }
noncomputable abbrev zbH5 (b1 b2:Bool) (h:Heap) (l1 l2:Addr):Heap:=(zbH4 b1 b2 h l1 l2).push { cls:=.type "zip",data:=.fields #[.none,.bool false,.bool false,.ref (zbH2 b1 b2 h l1 l2).objs.size,.ref (zbH3 b1 b2 h l1 l2).objs.size] }
theorem meets_zipB (b1 b2:Bool) (l1 l2:Addr) (xs ys:Array Value) :
    Meets (Builtin.«zip.__new__» ⟨[.type "zip",.ref l1,.ref l2],[]⟩) (fun _ R s=>SqH s.heap l1 b1 xs /\ SqH s.heap l2 b2 ys /\
      R (.ok (.ret (.ref (zbH4 b1 b2 s.heap l1 l2).objs.size))) { s with heap:=zbH5 b1 b2 s.heap l1 l2 }) :=
  .of_wp fun prog w A R s h=>by
    obtain ⟨hp,g,d,tk,os⟩:=s; obtain ⟨hl1,hl2,h⟩:=h
    have hsub:=PySem.sub_zip
    cases b1 <;> cases b2
    · have hL1:Heap.IsTuple (Shared.heap ⟨hp,g,d,tk,os⟩) l1 xs:=hl1
      have hL2:Heap.IsTuple (Shared.heap ⟨hp.push { cls:=.type "tuple_iterator",data:=.fields #[.ref l1,.int 0 0] },g,d,tk,os⟩) l2 ys:=Heap.IsTuple.at (show hp.IsTuple l2 ys from hl2) fun o e=>Heap.get?_push_of_some _ e
      wp_walk using wpAny_pyIter_tuple hL1,wpAny_pyIter_tuple hL2
      exact ⟨_,rfl,h⟩
    · have hL1:Heap.IsTuple (Shared.heap ⟨hp,g,d,tk,os⟩) l1 xs:=hl1
      have hL2:Heap.IsList (Shared.heap ⟨hp.push { cls:=.type "tuple_iterator",data:=.fields #[.ref l1,.int 0 0] },g,d,tk,os⟩) l2 ys:=Heap.IsList.push (show hp.IsList l2 ys from hl2) _
      wp_walk using wpAny_pyIter_tuple hL1,wpAny_pyIter_list hL2
      exact ⟨_,rfl,h⟩
    · have hL1:Heap.IsList (Shared.heap ⟨hp,g,d,tk,os⟩) l1 xs:=hl1
      have hL2:Heap.IsTuple (Shared.heap ⟨hp.push { cls:=.type "list_iterator",data:=.fields #[.ref l1,.int 0 0] },g,d,tk,os⟩) l2 ys:=Heap.IsTuple.at (show hp.IsTuple l2 ys from hl2) fun o e=>Heap.get?_push_of_some _ e
      wp_walk using wpAny_pyIter_list hL1,wpAny_pyIter_tuple hL2
      exact ⟨_,rfl,h⟩
    · have hL1:Heap.IsList (Shared.heap ⟨hp,g,d,tk,os⟩) l1 xs:=hl1
      have hL2:Heap.IsList (Shared.heap ⟨hp.push { cls:=.type "list_iterator",data:=.fields #[.ref l1,.int 0 0] },g,d,tk,os⟩) l2 ys:=Heap.IsList.push (show hp.IsList l2 ys from hl2) _
      wp_walk using wpAny_pyIter_list hL1,wpAny_pyIter_list hL2
      exact ⟨_,rfl,h⟩
theorem itR_new {h:Heap} {i a:Addr} (b:Bool) (e:h.get? i=some { cls:=.type (itN b),data:=.fields #[.ref a,.int 0 0] }):ItR h i a 0 b:=by
  cases b with
  | true=>exact (show h.IsListIter i a 0 from ⟨_,e,rfl,rfl⟩)
  | false=>exact (show h.IsTupleIter i a 0 from ⟨_,e,rfl,rfl⟩)
section
variable {prog:Program} {w:World} {A:Around} {E:Value->Shared->Prop} {s:Shared}
theorem call_zipB {l1 l2:Addr} {xs ys:Array Value} {Q:Value->Shared->Prop} (b1 b2:Bool) (hl1:SqH s.heap l1 b1 xs) (hl2:SqH s.heap l2 b2 ys)
    (h:∀ h',ZTn (s.heap.objs.size + 4) (s.heap.objs.size + 2) (s.heap.objs.size + 3) s.heap.objs.size (s.heap.objs.size + 1) l1 l2 b1 b2 0 h'->(∀ c o,s.heap.get? c=some o->h'.get? c=some o)->Q (.ref (s.heap.objs.size + 4)) { s with heap:=h' }) :
    wpAny (model prog w) A (call (.type "zip") [.ref l1,.ref l2]) Q E s:=by
  refine callType_new PySem.F.called_zip (by decide) (PySem.F.typeCall_zip_2 _ _) (PySem.F.newCall_zip_2 _ _) (fun obj=>PySem.F.args_object_init_3 obj _ _) PySem.F.entry_zip_new
    (meets_zipB b1 b2 l1 l2 xs ys) ⟨hl1,hl2,?_⟩
  have z1:(zbH1 b1 s.heap l1).objs.size=s.heap.objs.size + 1:=Heap.size_push ..
  have z2:(zbH2 b1 b2 s.heap l1 l2).objs.size=s.heap.objs.size + 2:=by rw [Heap.size_push,z1]
  have z3:(zbH3 b1 b2 s.heap l1 l2).objs.size=s.heap.objs.size + 3:=by rw [Heap.size_push,z2]
  have z4:(zbH4 b1 b2 s.heap l1 l2).objs.size=s.heap.objs.size + 4:=by rw [Heap.size_push,z3]
  have g5:(zbH5 b1 b2 s.heap l1 l2).get? (zbH4 b1 b2 s.heap l1 l2).objs.size=some _:=Heap.get?_push_size _ rfl
  have g4:(zbH5 b1 b2 s.heap l1 l2).get? (zbH3 b1 b2 s.heap l1 l2).objs.size=some _:=Heap.get?_push_of_some _ (Heap.get?_push_size _ rfl)
  have g3:(zbH5 b1 b2 s.heap l1 l2).get? (zbH2 b1 b2 s.heap l1 l2).objs.size=some _:=Heap.get?_push_of_some _ (Heap.get?_push_of_some _ (Heap.get?_push_size _ rfl))
  have g2:(zbH5 b1 b2 s.heap l1 l2).get? (zbH1 b1 s.heap l1).objs.size=some _:=Heap.get?_push_of_some _ (Heap.get?_push_of_some _ (Heap.get?_push_of_some _ (Heap.get?_push_size _ rfl)))
  have g1:(zbH5 b1 b2 s.heap l1 l2).get? s.heap.objs.size=some _:=Heap.get?_push_of_some _ (Heap.get?_push_of_some _ (Heap.get?_push_of_some _ (Heap.get?_push_of_some _ (Heap.get?_push_size _ rfl))))
  show _ /\ _
  rw [z2,z3,z4] at g5
  rw [z1,z2] at g3
  rw [z3] at g4
  rw [z1] at g2
  rw [z4]
  exact ⟨⟨_,g5,rfl⟩,h _ ⟨g5,g3,⟨_,_,g4⟩,itR_new b1 g1,itR_new b2 g2⟩ fun c o x =>
    Heap.get?_push_of_some _ (Heap.get?_push_of_some _ (Heap.get?_push_of_some _ (Heap.get?_push_of_some _ (Heap.get?_push_of_some _ x))))⟩
end
section
variable {X:Cx}
theorem boot_zip:bootBuiltins "zip"=some (.type "zip"):=by decide +kernel
noncomputable def iZip (K:PySem.W.Frag) (ta:TA):TI:=fun σ H R=>ta σ H fun vs H1=>∃ l1 l2 b1 b2 xs ys,vs=[.ref l1,.ref l2] /\ SqB K H1 l1 b1 xs /\ SqB K H1 l2 b2 ys /\ R (Itz K l1 l2 b1 b2 xs.length ys.length) H1
theorem Inv.seqH {pins:List (Addr × Obj)} {σ:St} {H:Hp} {s:Shared} {a:Addr} {b:Bool} {xs:List V} (I:Inv X pins σ H s) (h:SqB X.K H a b xs):∃ its:Array Value,SqH s.heap a b its /\ a < s.heap.objs.size:=by
  cases b with
  | true =>
    obtain ⟨its,r,pl,_⟩:=I.list (show SqL X.K H a xs from h)
    obtain ⟨o,e,_⟩:=id pl.isList
    exact ⟨_,pl.isList,Heap.lt_size e⟩
  | false =>
    obtain ⟨its,r,pl,_⟩:=I.tuple (show SqT X.K H a xs from h)
    obtain ⟨o,e,_⟩:=id pl
    exact ⟨_,pl,Heap.lt_size e⟩
theorem pi_zip {a b:Expr} {ta:TA} {p pos:Pos} {elts:List Expr} {x1} {pos':Pos} (hg:Gl X "zip") (hm:X.mg "zip"=none) (ha:PA X [a,b] ta) (hs:starEach [a,b] X.env=(false,eval a X.env) :: starEach [b] X.env) (hs2:(backTo pos (starEach [b] X.env)).any (·.1)=false):PI X (.Tuple elts x1 pos') (.Call (.Name "zip" p) [a,b] [] pos) (iZip X.K ta):=by
  intro pins s σ H R I h
  refine Call_ (ld_blt I hg hm boot_zip (PyProof.Rows.callWith_type1 (thn (ha pos pins s σ H _ I h) fun us s1 ⟨vs,H1,I1,r1,q1⟩=>?_) hs hs2))
  obtain ⟨l1,l2,b1,b2,xs,ys,e,hx,hy,q⟩:=q1
  subst e
  cases r1 with
  | cons r rr =>
    cases rr with
    | cons r' rr' =>
      cases rr'
      cases r
      cases r'
      obtain ⟨i1,s1',t1⟩:=I1.seqH hx
      obtain ⟨i2,s2',t2⟩:=I1.seqH hy
      refine call_zipB b1 b2 s1' s2' fun h' st k=>?_
      have D:ZipApart (s1.heap.objs.size + 4) (s1.heap.objs.size + 2) (s1.heap.objs.size + 3) s1.heap.objs.size (s1.heap.objs.size + 1) l1 l2:=by constructor <;> first | exact Nat.ne_of_lt (by omega) | exact Nat.ne_of_gt (by omega) | exact Nat.ne_of_lt (Nat.lt_of_lt_of_le t1 (by omega)) | exact Nat.ne_of_lt (Nat.lt_of_lt_of_le t2 (by omega))
      refine wpAny_pyIter_zip (s:={ s1 with heap:=h' }) st.1 ?_
      refine ⟨_,_,_,_,H1,rfl,I1.kept (t':=s1.toks) k,turn_zip D (Nat.ne_of_lt (Nat.lt_of_lt_of_le t1 (by omega))) (Nat.ne_of_lt (Nat.lt_of_lt_of_le t2 (by omega))) b1 b2 xs.length ys.length,st,fun b' hb=>?_,q⟩
      have hb':s1.heap.objs.size<=b':=by
        simp only [List.mem_cons,List.not_mem_nil,or_false] at hb
        rcases hb with rfl | rfl | rfl | rfl | rfl
        all_goals first | exact Nat.le_refl _ | exact Nat.le_add_right _ _
      exact I1.fpOk hb' (I1.hok.fresh hb')
end
end L2
set_option Elab.async false
set_option linter.all false
set_option maxRecDepth 100000
namespace L2
open PySem PySem.Spec PyProof.Rows
section
variable {X:Cx} {Z:ZK} {tg iter:Expr} {body:List Stmt} {wi:TI} {g:TG} {tb:TS} {pos:Pos}
theorem passes_XE (ok:XOk X):PassesOwn (model X.prog X.w) X.A X.env (XE X Z):=by
  rintro e s' ⟨a,C,T,σ',H',rfl,I,F,z⟩
  refine I.note ok F I.ok.frames rfl fun h1 t I1 F1=>?_
  exact I1.cameBack F1 fun h2 I2 F2=>⟨a,C,some t,σ',H',rfl,I2,F2,z⟩
theorem Thr.wished (th:Thr X Z):Thr (X.wish (XE X Z)) Z:=by
  refine ⟨⟨th.top,th.ex⟩,?_⟩
  rintro e s' ⟨a,C,T,σ',H',rfl,I,F,z⟩
  exact ⟨a,C,T,σ',H',rfl,I.unwish,⟨F.fl,F.ow⟩,z⟩
theorem ps_forX (th:Thr X Z) (hc:X.calm=true) (hi:PI (X.wish (XE X Z)) tg iter wi) (hg:PG (X.wish (XE X Z)) tg g) (hb:PSs (X.wish (XE X Z)) body tb)
    (hs:∀ x,foldedSetIterable iter X.env x=pure x:=by intro _; rfl):PS X (.For tg iter body [] pos) (tFor wi g tb):=by
  intro pins s σ H D I h
  refine wpAny_mono (ps_for (X:=X.wish (XE X Z)) (passes_XE th.toXOk) hc hi hg hb hs pins s σ H D (I.wish _) h) (fun f s' q=>q.unwish) fun e s' x=>th.thr e s' x
end
end L2
set_option Elab.async false
set_option linter.all false
set_option maxRecDepth 100000
namespace L2
open PySem PySem.Spec PyProof.Rows
section
variable {X:Cx} {scope:Scope} {NC:List Str} {cap:List (Option Nat)} {elt tg iter:Expr} {ifs:List Expr} {pos pos' spos:Pos} {Z:ZK} {wi:TI} {g:TG} {tf:ZK->TT} {te:ZK->TE} {i:Nat} {x:Str}
theorem ps_setC (hc:X.calm=true) (th:Thr X Z) (hi:PI X tg iter wi) (cok:compOk X.env.scope scope X.N NC cap=true)
    (hg:∀ C s H fp pn xe,PG (compCx X NC scope C s H fp pn xe) tg g)
    (hf:∀ C s H fp pn xe Zc,Thr (compCx X NC scope C s H fp pn xe) Zc->PF (compCx X NC scope C s H fp pn xe) ifs (tf Zc))
    (hb:∀ C s H fp pn xe Zc,Thr (compCx X NC scope C s H fp pn xe) Zc->PE (compCx X NC scope C s H fp pn xe) elt (te Zc))
    (hs:∀ x,foldedSetIterable iter X.env x=pure x) (hN:X.N.Nodup) (hx:X.N[i]?=some x) (hlo:X.env.scope.names.lookup x=some .local)
    (hsw:swapsWith (.ListComp elt [⟨tg,iter,ifs,0⟩] scope pos) (some (.Name x pos')) spos.line X.env=pure true) :
    PS X (.Assign [.Name x pos'] (.ListComp elt [⟨tg,iter,ifs,0⟩] scope pos) spos) (tAsg (tComp Z cap wi g tf te) (gName i)):=by
  intro pins s σ H D I h
  obtain ⟨c1,c2,c3,c4,c5,c6,c7⟩:=compOk_parts cok
  rw [exec_Assign_Name_used _ _ _ _ hsw]
  refine wpAny_bind (wpAny_standAt (wpAny_bind ?_))
  show wpAny _ X.A (do let _ <- comprehension (.ListComp elt [⟨tg,iter,ifs,0⟩] scope pos) scope X.env _ (newList []) false (eval iter X.env) (some (assign (.Name x pos') X.env))) _ _ s
  refine wpAny_bind (wpAny_mono (wpAny_comprehension_free (use:=some (assign (.Name x pos') X.env)) (Q:=fun _ s'=>SP X pins D .next s') rfl hs (closure_of fun y hy e=>I.ok.has y.1 (.inl (c4 y hy e))) c1 c3
    (thn (hi pins s σ H _ I h) fun xv s₁ h₁=>thn h₁ fun itv s₂ h₂=>?_)) (fun _ s' hq=>wpAny_pure (wpAny_pure hq)) fun _ _ e=>e)
  obtain ⟨it,fp,tn,J,H2,rfl,I2,T,st2,f2,W,⟨m0,w0⟩,turn⟩:=h₂
  refine comp_core hc th I2 T st2 f2 cok (fun C pn xe=>hg C s₂ H2 fp pn xe) (fun C pn xe t=>hf C s₂ H2 fp pn xe _ t) (fun C pn xe t=>hb C s₂ H2 fp pn xe _ t) W m0 w0 turn ?_
  rintro C D' s' H' ys us n ⟨hlen,q⟩ rv e hn hnC rfl rfl ⟨m,ns⟩ lv
  have I':Inv X pins σ H' s':=lv s'.heap (Heap.SameBut.refl _ _)
  have I3:Inv X pins σ (upd H' s₂.heap.objs.size (.lst ys)) s':=I'.track (o:=.lst ys) hn (Heap.get?_none_of_le I2.sz) (Nat.ne_of_gt I2.lt) (fun y c ec z=>by
    obtain ⟨v,q⟩:=I2.cell y c ec
    exact absurd q.lt (by rw [z]; exact Nat.lt_irrefl _)) (fun p hp z=>absurd (Heap.lt_size (I2.pin p hp).1) (by rw [z]; exact Nat.lt_irrefl _)) ⟨hlen,us,n,rv,e⟩
  have fC:FpOk X pins (upd H' s₂.heap.objs.size (.lst ys)) (s₂.heap.objs.size + 1):=I2.fpOk (Nat.le_succ _) (by rw [upd_ne (Nat.succ_ne_self _)]; exact hnC)
  show wpAny _ X.A (assign (.Name x pos') X.env (.ref s₂.heap.objs.size)) _ _ _
  refine wpAny_assign_Name (store_ok2 I3 hN hx (.inl hlo) (v:=.ref s₂.heap.objs.size) rfl (fun s'' I4 ⟨a,sb,ha⟩=>?_) (.inr hlo))
  have nC:s₂.heap.objs.size + 1 ≠ a:=by
    rcases ha with rfl | ha
    · exact fC.2.1
    · exact fun z=>fC.2.2.2.2.1 x a ha z.symm
  refine ⟨m,ns.sameBut sb nC,fun h' sb'=>⟨_,_,I4.turned (t':=s''.toks) (fun b o hb e=>(sb'.2 b hb).trans e) fC.1 fC.2.1 fC.2.2.2.1 fC.2.2.2.2.1 fC.2.2.2.2.2,q _ hn⟩⟩
end
end L2
set_option Elab.async false
set_option linter.all false
set_option maxRecDepth 100000
namespace L2
open PySem PySem.Spec PyProof.Rows
section
variable {X:Cx} {tg:Expr}
end
end L2
set_option Elab.async false
set_option linter.all false
set_option maxRecDepth 100000
namespace L2
open PySem PySem.Spec PyProof.Rows
section
variable {prog:Program} {w:World} {A:Around} {s:Shared} {R:Result->Shared->Prop}
variable {I:Addr} {fp wr:List Addr} {G:Array GenState->Array GenState->Prop} {n:Nat} {P:Nat->Value->Prop} {St:Nat->Shared->Prop}
end
section
variable {prog:Program} {w:World} {A:Around} {E:Value->Shared->Prop} {s:Shared}
variable {X:Cx}
end
end L2
set_option Elab.async false
set_option linter.all false
set_option maxRecDepth 100000
namespace L2
open PySem PySem.Spec PyProof.Rows
end L2
set_option Elab.async false
set_option linter.all false
set_option maxRecDepth 100000
namespace L2
open PySem PySem.Spec PyProof.Rows
noncomputable def IsRvt (h:Heap) (a l:Addr) (i:Int):Prop:=∃ o,h.get? a=some o /\ o.cls=.type "reversed" /\ o.data=.fields #[.ref l,rawInt i]
theorem IsRvt.typeIs {s:Shared} {a l:Addr} {i:Int} (x:IsRvt s.heap a l i):s.TypeIs (.ref a) "reversed":=let ⟨o,ho,hc,_⟩:=x; ⟨o,ho,hc⟩
theorem IsRvt.at {h h':Heap} {a l:Addr} {i:Int} (x:IsRvt h a l i) (e:∀ o,h.get? a=some o->h'.get? a=some o):IsRvt h' a l i:=let ⟨o,ho,r⟩:=x; ⟨o,e _ ho,r⟩
section
variable {prog:Program} {w:World} {A:Around} {E:Value->Shared->Prop} {s:Shared}
end
section
variable {X:Cx} {tg:Expr}
end
end L2
set_option Elab.async false
set_option linter.all false
set_option maxRecDepth 100000
namespace L2
open PySem PySem.Spec PyProof.Rows
open HT in
theorem tup_all {prog:Program} {w:World} {A:Around} {E:Value->Shared->Prop} {s:Shared} {t sl:Addr} {items:Array Value} {vl vu:Value} {lo hi:Option Int} {Q:Value->Shared->Prop} (ht:IsTup s.heap t items) (hs:s.heap.IsSliceOf sl vl vu .none) (pl:IsPart vl lo) (pu:IsPart vu hi)
    (h1:sIx items.size 0 lo=0) (h2:sIx items.size items.size hi=items.size) (h:Q (.ref t) s):wpAny (model prog w) A (getItem (.ref t) (.ref sl)) Q E s:=by
  obtain ⟨os,hos,hcs,hds⟩:=id hs
  have hTs:s.TypeIs (.ref sl) "slice":=⟨os,hos,hcs⟩
  unfold getItem
  try with_reducible refine wpAny_holding ?_
  first | refine wpAny_bind (wpAny_pure ?_) | skip
  refine wpAny_bind (wpAny_sequenceKey ht.typeIs (by decide) ?_)
  refine wpAny_bind (wpAny_callSpecial?_slot (name:=Str.ofString "__getitem__") ht.typeIs PyProof.Rows.slot_tuple_getitem (wpAny_call_entry PyProof.Rows.slot_tuple_getitem ht.typeIs entry_tuple_getitem ?_ (args_tuple_getitem _ _)))
  show wpAny _ _ (Builtin.Tuple.tupleItemsOf (.ref t) >>= _) _ _ s
  refine wpAny_bind (tupleItemsOf_ ht ?_)
  refine wpAny_bind (wpAny_typeOf hTs ?_)
  rw [if_pos (by decide)]
  refine wpAny_bind (sliceApplied_gen hs pl pu ?_)
  have hy:(((sIx items.size 0 lo:Nat):Int) == 0 && (1:Int) == 1 && (sIx items.size items.size hi - sIx items.size 0 lo) == items.size)=true:=by rw [h1,h2]; simp
  show wpAny _ _ (if (((sIx items.size 0 lo:Nat):Int) == 0 && (1:Int) == 1 && (sIx items.size items.size hi - sIx items.size 0 lo) == items.size)=true then _ else _) _ _ s
  rw [if_pos hy]
  refine wpAny_bind ?_
  unfold Builtin.Tuple.tupleIsExact
  refine wpAny_bind (wpAny_typeOf ht.typeIs (wpAny_pure ?_))
  rw [if_pos (by decide)]
  refine wpAny_bind (wpAny_rule ?_)
  exact wpAny_pure ⟨_,rfl,wpAny_pure h⟩
noncomputable def rSlW (K:PySem.W.Frag):V->Option Int->Option Int->Hp->VK->Prop:=fun x lo hi H Q=>∃ a xs,x=.ref a /\ SqT K H a xs /\ HT.sIx xs.length 0 lo=0 /\ HT.sIx xs.length xs.length hi=xs.length /\ Q (.ref a) H
theorem sl_tupW {X:Cx}:SlR X (rSlW X.K):=by
  intro pins s σ H x v vl vu lo hi sl Q I rx hs pl pu h
  obtain ⟨a,xs,rfl,hx,w1,w2,q⟩:=h
  cases rx
  obtain ⟨its,r,ht,hz⟩:=I.tuple hx
  have hlen:its.toArray.size=xs.length:=by rw [List.size_toArray]; exact r.length.symm
  exact ⟨"tuple",_,PyProof.Rows.slot_tuple_getitem.lookup,ht.typeIs,tup_all ht hs pl pu (by rw [hlen]; exact w1) (by rw [hlen]; exact w2) ⟨.ref a,H,I,rfl,q⟩⟩
end L2
set_option Elab.async false
set_option linter.all false
set_option maxRecDepth 100000
namespace L2
open PySem PySem.Spec PyProof.Rows
section
variable {prog:Program} {w:World} {A:Around} {E:Value->Shared->Prop} {s:Shared}
end
section
variable {prog:Program} {w:World} {A:Around} {R:Result->Shared->Prop} {I:Addr} {fp wr:List Addr} {G:Array GenState->Array GenState->Prop} {n:Nat} {P:Nat->Value->Prop} {St:Nat->Shared->Prop} {K:Type} [DecidableEq K] {knd:KeyKind prog w K}
end
section
variable {prog:Program} {w:World} {A:Around} {E:Value->Shared->Prop} {s:Shared} {K:Type} [DecidableEq K] {knd:KeyKind prog w K}
end
section
variable {X:Cx}
end
section
variable {prog:Program} {w:World} {A:Around} {E:Value->Shared->Prop} {s:Shared}
end
section
variable {X:Cx} {pos:Pos}
end
end L2
set_option Elab.async false
set_option linter.all false
set_option maxRecDepth 100000
namespace L2
open PySem PySem.Spec PyProof.Rows
section
variable {X:Cx}
end
section
variable {prog:Program} {w:World} {A:Around} {E:Value->Shared->Prop} {s:Shared}
end
section
variable {X:Cx} {e st:Expr} {te ts:TE} {p2 pos:Pos}
end
section
variable {X:Cx}
noncomputable def rSlS:V->Option Int->Option Int->Hp->VK->Prop:=fun x lo hi H Q=>∃ z,x=.str z /\ z.length<=sizeLine /\ Q (.str (Txt.slice z lo hi)) H
theorem sl_str:SlR X rSlS:=by
  intro pins s σ H x v vl vu lo hi sl Q I rx hs pl pu h
  obtain ⟨z,rfl,hz,q⟩:=h
  obtain ⟨t,rfl⟩:=rx
  obtain ⟨os,hos,hcs,hds⟩:=hs
  refine ⟨"str",_,F.slot_str_getitem.lookup,typeIs_str _ _ _,?_⟩
  cases pl with
  | none =>
    cases pu with
    | none=>exact wpAny_getItem_str_slice (l:=none) (u:=none) (st:=none) ⟨os,hos,hcs,hds⟩ rfl (post_val_or_str ⟨Nat.le_trans (Txt.slice_le z _ _) hz,fun t' k=>⟨.str _,H,I.tok k,⟨t',rfl⟩,q⟩⟩)
    | int j uj=>exact wpAny_getItem_str_slice (l:=none) (u:=some (j,uj)) (st:=none) ⟨os,hos,hcs,hds⟩ rfl (post_val_or_str ⟨Nat.le_trans (Txt.slice_le z _ _) hz,fun t' k=>⟨.str _,H,I.tok k,⟨t',rfl⟩,q⟩⟩)
  | int i ui =>
    cases pu with
    | none=>exact wpAny_getItem_str_slice (l:=some (i,ui)) (u:=none) (st:=none) ⟨os,hos,hcs,hds⟩ rfl (post_val_or_str ⟨Nat.le_trans (Txt.slice_le z _ _) hz,fun t' k=>⟨.str _,H,I.tok k,⟨t',rfl⟩,q⟩⟩)
    | int j uj=>exact wpAny_getItem_str_slice (l:=some (i,ui)) (u:=some (j,uj)) (st:=none) ⟨os,hos,hcs,hds⟩ rfl (post_val_or_str ⟨Nat.le_trans (Txt.slice_le z _ _) hz,fun t' k=>⟨.str _,H,I.tok k,⟨t',rfl⟩,q⟩⟩)
end
end L2
set_option Elab.async false
set_option linter.all false
set_option maxRecDepth 100000
namespace L2
open PySem PySem.Spec PyProof.Rows
section
variable {X:Cx} {tg:Expr}
end
section
variable {X:Cx}
end
end L2
set_option Elab.async false
set_option linter.all false
set_option maxRecDepth 100000
namespace L2
open PySem PySem.Spec PyProof.Rows
noncomputable def isNonV:V->Bool
  | .non=>true
  | _=>false
noncomputable def rInN (K:PySem.W.Frag):R2:=fun x y H Q=>∃ p xs,x=.non /\ y=.ref p /\ (SqL K H p xs \/ SqT K H p xs) /\ (∀ v ∈ xs,flatV v=true \/ ∃ a ts,v=.ref a /\ SqT K H a ts) /\ Q (.bl (xs.any isNonV)) H
section
variable {X:Cx}
theorem eqN_of {v:V} {u:Value} {H:Hp} {K:PySem.W.Frag} (r:RelV v u) (f:flatV v=true \/ ∃ a ts,v=.ref a /\ SqT K H a ts):eqU .non u=isNonV v:=by
  rcases f with f | ⟨a,ts,rfl,_⟩
  · rw [eqU_of r f]
    cases v <;> first | rfl | exact absurd (show false=true from f) Bool.false_ne_true
  · cases r; rfl
theorem any_eqN {H:Hp} {K:PySem.W.Frag}:∀ {xs:List V} {us:List Value},Vals xs us->(∀ v ∈ xs,flatV v=true \/ ∃ a ts,v=.ref a /\ SqT K H a ts)->us.any (eqU .non)=xs.any isNonV
  | _,_,.nil,_=>rfl
  | y :: xs,u :: us,.cons r t,f=>by
    rw [List.any_cons,List.any_cons,eqN_of r (f y (List.mem_cons_self ..)),any_eqN t fun v hv=>f v (List.mem_cons_of_mem _ hv)]
theorem mem_eqN {pins:List (Addr × Obj)} {σ:St} {H:Hp} {s:Shared} {A:Around} (I:Inv X pins σ H s) (hu:A.units < cLine):∀ {xs:List V} {us:List Value},Vals xs us->(∀ v ∈ xs,flatV v=true \/ ∃ a ts,v=.ref a /\ SqT X.K H a ts)->∀ u ∈ us,SeqAt.EqAt A s u .none (eqU .non u)
  | _,_,.nil,_=>fun u hu=>by cases hu
  | y :: xs,u :: us,.cons r t,f=>fun u' hu'=>by
    rcases List.mem_cons.mp hu' with rfl | hu'
    · rcases f y (List.mem_cons_self ..) with fy | ⟨a,ts,rfl,sq⟩
      · rw [eqU_of r fy]; exact eqAt_V r (show RelV .non .none from rfl) fy rfl
      · cases r
        obtain ⟨its,_,pl,_⟩:=I.tuple sq
        exact SeqAt.EqAt.tuple_none pl hu
    · exact mem_eqN I hu t (fun v hv=>f v (List.mem_cons_of_mem _ hv)) u' hu'
theorem op_in_none (hu:X.A.in1.units < cLine):OpR X (compareOp .In) (rInN X.K):=by
  intro pins s σ H x y v u Q I rx ry h
  obtain ⟨p,xs,rfl,rfl,hq,fs,q⟩:=h
  cases rx
  cases ry
  rcases hq with hq | hq
  · obtain ⟨its,r,pl,hz⟩:=I.list hq
    refine SeqAt.in_listAt (eqU .non) pl.isList (fun w hw=>mem_eqN I hu r fs w (by simpa using hw)) ⟨.bl _,H,I,rfl,?_⟩
    rw [show its.toArray.any (eqU .non)=its.any (eqU .non) by simp,any_eqN r fs]
    exact q
  · obtain ⟨its,r,pl,hz⟩:=I.tuple hq
    refine SeqAt.in_tupleAt (eqU .non) pl (fun w hw=>mem_eqN I hu r fs w (by simpa using hw)) ⟨.bl _,H,I,rfl,?_⟩
    rw [show its.toArray.any (eqU .non)=its.any (eqU .non) by simp,any_eqN r fs]
    exact q
end
end L2
set_option Elab.async false
set_option linter.all false
set_option maxRecDepth 100000
namespace L2
open PySem PySem.W PySem.Spec PyProof.Rows PySem.Calls PySem.Builtin PySem.Builtin.ObjectAttr PySem.Builtin.Getset_descriptor
structure ExC (K:PySem.W.Frag) (C:Addr):Prop where
  ga:findIn K (.ref C) "__getattribute__"=some (some (.builtin "BaseException.__getattribute__"))
  ng:findIn K (.ref C) "__getattr__"=some none
  cl:findIn K (.ref C) "__class__"=some (some (.builtin "object.__class__"))
  bx:mroIn K C (.type "BaseException")=some true
  ob:mroIn K C (.type "object")=some true
  is:(clsIn K C).isSome=true
section
variable {prog:Program} {w:World} {A:Around} {E:Value->Shared->Prop} {h:Heap} {g:Array GenState} {d:Drawn} {t:Nat} {os:OsState} {a C:Addr} {o:Obj} {K:PySem.W.Frag}
theorem xc_ty {M:Model} (hx:h.get? a=some o) (hc:o.cls=.ref C):Looks M h (typeOf (.ref a)) (.ref C):=hc ▸ (Looks.ld hx).andThen .now
theorem xc_get {tp:Value} {R:Result->Shared->Prop} (Z:ExC K C) (X:K.In h) (hx:h.get? a=some o) (hc:o.cls=.ref C) (hq:R (.ok (.ret (.ref C))) ⟨h,g,d,t,os⟩) :
    codeAny (model prog w) A (.call (.builtin "getset_descriptor.__get__") ⟨[.builtin "object.__class__",.ref a,tp],[]⟩) R ⟨h,g,d,t,os⟩:=by
  have L0:=xc_ty (M:=model prog w) hx hc
  have L1:=looks_mroIn (M:=model prog w) X Z.ob
  refine codeAny_call_builtin KF.slot_gs.plain KF.entry_gs (KF.slot_gs.check _ _ _ _ _ _ _ _ KF.type_class (KF.args_gs _ _ _) ?_)
  unfold Builtin.«getset_descriptor.__get__» descrGet
  rw [dga_obj]
  refine wpAny_bind (wpAny_pure ?_)
  unfold descrGetter descrCheckInstance descrNameAndClass isInstance
  simp only [KF.owner_class]
  repeat lk
  refine ⟨Code.quiet_builtin _ (by decide +kernel),codeAny_builtin KF.entry_class ?_⟩
  unfold Builtin.«object.__class__» shownTypeOf
  repeat lk
  exact hq
theorem xc_lk {n:Str} {y:Option Value} {Q:Option Value->Shared->Prop} (X:K.In h) (e:findIn K (.ref C) n=some y) (hq:Q y ⟨h,g,d,t,os⟩):wpAny (model prog w) A (typeLookup (.ref C) n) Q E ⟨h,g,d,t,os⟩:=(looks_findIn X e).at hq
theorem xc_sub {T:String} {Q:Bool->Shared->Prop} (X:K.In h) (e:mroIn K C (.type T)=some true) (hq:Q true ⟨h,g,d,t,os⟩):wpAny (model prog w) A (isSubtype (.ref C) (.type T)) Q E ⟨h,g,d,t,os⟩:=(looks_subIn (t:=.ref C) X e).at hq
theorem xc_check {nameV:Value} {Q:Unit->Shared->Prop} (Z:ExC K C) (X:K.In h) (hx:h.get? a=some o) (hc:o.cls=.ref C) (hq:Q () ⟨h,g,d,t,os⟩):wpAny (model prog w) A (checkBuiltinCall "BaseException.__getattribute__" ⟨[.ref a,nameV],[]⟩) Q E ⟨h,g,d,t,os⟩:=by
  have hk:builtinKind "BaseException.__getattribute__"=some .slot:=by decide +kernel
  have hsplit:splitId "BaseException.__getattribute__"=some ("BaseException","__getattribute__"):=by decide +kernel
  have ha:=F.args_bexc_ga (.ref a) nameV
  simp only [checkBuiltinCall,hk,hsplit]
  refine wpAny_bind ?_
  · unfold isInstance
    repeat (first | (with_reducible refine wpAny_loadPart_at hx ?_; rw [hc]) | (with_reducible refine xc_sub X Z.bx ?_) | wp_step)
    exact hq
theorem xc_entry {tk:Tok} {Q:Fin->Shared->Prop} (Z:ExC K C) (X:K.In h) (hx:h.get? a=some o) (hc:o.cls=.ref C) (hq:Q (.done (.ret (.ref C))) ⟨h,g,d,t,os⟩) :
    wpAny (model prog w) A (Builtin.«object.__getattribute__» ⟨[.ref a,.str "__class__" tk],[]⟩) Q E ⟨h,g,d,t,os⟩:=by
  have hT5:(⟨h,g,d,t,os⟩:Shared).TypeIs (.builtin "object.__class__") "getset_descriptor":=F.typeOf_object_class
  have f5:=F.typeOf_object_class
  have f6:=F.slot_gs_get.lookup
  have f7:=F.slot_gs_set.lookup
  repeat (any_goals (first | assumption | (with_reducible refine wpAny_loadPart_at hx ?_; rw [hc]) | with_reducible refine xc_lk X Z.cl ?_ | wp_step))
  refine xc_get Z X hx hc ?_
  repeat (any_goals (first | assumption | wp_step))
theorem xc_call {tk:Tok} {R:Result->Shared->Prop} (Z:ExC K C) (X:K.In h) (hx:h.get? a=some o) (hc:o.cls=.ref C) (hq:R (.ok (.ret (.ref C))) ⟨h,g,d,t,os⟩) :
    codeAny (model prog w) A (.call (.builtin "BaseException.__getattribute__") ⟨[.ref a,.str "__class__" tk],[]⟩) R ⟨h,g,d,t,os⟩ :=
  codeAny_call_builtin F.attr_ValueError.ga.plain F.entry_bexc_ga (xc_check Z X hx hc (xc_entry Z X hx hc hq))
theorem xc_by {tk:Tok} {fill expr:Bool} {Q:Value->Shared->Prop} (Z:ExC K C) (X:K.In h) (hx:h.get? a=some o) (hc:o.cls=.ref C) (hq:Q (.ref C) ⟨h,g,d,t,os⟩) :
    wpAny (model prog w) A (getAttrBy (.ref a) (.str "__class__" tk) fill expr) Q E ⟨h,g,d,t,os⟩:=by
  have f3:=F.attr_ValueError.ga.bind (.ref a)
  have hx0:(expr && onTheHeap (Value.builtin "BaseException.__getattribute__"))=false:=by cases expr <;> rfl
  have hx2:(Value.builtin "BaseException.__getattribute__" == Value.builtin "object.__getattribute__")=false:=by decide +kernel
  have hx1:(onTheHeap (Value.ref C) && Value.builtin "BaseException.__getattribute__" == Value.builtin "object.__getattribute__")=false:=by rw [hx2]; rfl
  repeat (any_goals (first | assumption | (with_reducible refine wpAny_loadPart_at hx ?_; rw [hc]) | with_reducible refine xc_lk X Z.ga ?_ | with_reducible refine xc_lk X Z.ng ?_ | wp_step))
  refine xc_call Z X hx hc ?_
  repeat (any_goals (first | assumption | wp_step))
theorem xc_attr {Q:Option Value->Shared->Prop} (Z:ExC K C) (X:K.In h) (hx:h.get? a=some o) (hc:o.cls=.ref C) (hq:Q (some (.ref C)) ⟨h,g,d,t + 1,os⟩):wpAny (model prog w) A (getAttr? (.ref a) "__class__") Q E ⟨h,g,d,t,os⟩:=by
  unfold getAttr? getAttrBy?
  repeat (any_goals (first | assumption | with_reducible apply xc_by Z X hx hc | wp_step))
theorem kitx_exc (Z:ExC K C):PySem.W.KitX K (.ref a) (.ref C) (fun h=>∃ o,h.get? a=some o /\ o.cls=.ref C) where
  ty:=fun M h X ⟨o,hx,hc⟩=>xc_ty hx hc
  it:=fun M h X _=>by
    have hc:=Z.is
    unfold clsIn at hc
    split at hc
    · rename_i c' d' cd' sl' ho
      intro A' Q' E' s' k q
      unfold isType loadHead
      exact wpAny_bind (wpAny_loadPart (k _ _ (X _ _ ho)) (wpAny_pure q))
    · cases hc
  ne:=fun h tp dd its n sl X htp=>by
    have hc:=Z.is
    refine Bool.eq_false_iff.mpr fun q=>?_
    have e:C=tp:=Value.ref.inj (beq_iff_eq.mp q)
    subst e
    unfold clsIn at hc
    split at hc
    · rename_i c' d' cd' sl' ho
      have z:=(X _ _ ho).symm.trans htp
      cases z
    · cases hc
  ca:=fun {prog w A E Q s} X ⟨o,hx,hc⟩ k=>by
    obtain ⟨h,g,d,t,os⟩:=s
    exact xc_attr Z X hx hc k
end
section
variable {X:Cx} {C:Addr}
theorem call_isx (Z:ExC X.K C) {c:Value} {b:Bool} (e:PySem.W.kitOne X.K (.ref C) c=some b):∀ {pins:List (Addr × Obj)} {s:Shared} {σ:St} {H:Hp} {a:Addr} {Q:Value->Shared->Prop} {E:Value->Shared->Prop} {A:Around},Inv X pins σ H s->H a=some (exO a C)->(∀ tk,Q (.bool b) { s with toks:=tk })->wpAny (model X.prog X.w) A (call (.builtin "isinstance") [.ref a,c]) Q E s:=by
  intro pins s σ H a Q E A I ea h
  obtain ⟨⟨o,e1,e2⟩,_⟩:=(show ObjOk X.prog X.w H s.heap a (exO a C) from I.hok a _ ea)
  exact PySem.W.kia_one (kitx_exc Z) I.kIn ⟨o,e1,e2⟩ e (fun z=>nomatch z) h
end
end L2
set_option Elab.async false
set_option linter.all false
set_option maxRecDepth 100000
namespace PI
open PySem L2
inductive D where
  | non | bl (b:Bool) | int (i:Int) | str (x:Str) | tup (xs:List D) | loc (n:Nat) | fl (xs:List D)
inductive O where
  | lst (xs:List D) | dK (kvs:List (Key × D))
noncomputable abbrev Hh:=List O
noncomputable abbrev En:=List (Option D)
inductive Res (α:Type) where
  | ok (a:α) (h:Hh) | exc (c:Nat) (h:Hh) | no
noncomputable def Res.bind {α β:Type} (r:Res α) (f:α->Hh->Res β):Res β:=match r with
  | .ok a h=>f a h
  | .exc c h=>.exc c h
  | .no=>.no
@[simp] theorem bind_ok {α β:Type} {a:α} {h:Hh} {f:α->Hh->Res β}:(Res.ok a h).bind f=f a h:=rfl
@[simp] theorem bind_exc {α β:Type} {c:Nat} {h:Hh} {f:α->Hh->Res β}:(Res.exc c h:Res α).bind f=.exc c h:=rfl
@[simp] theorem bind_no {α β:Type} {f:α->Hh->Res β}:(Res.no:Res α).bind f=.no:=rfl
inductive RS where
  | nx (ρ:En) (h:Hh) | rt (d:D) (h:Hh) | bk (ρ:En) (h:Hh) | ct (ρ:En) (h:Hh) | ex (c:Nat) (ρ:En) (h:Hh) | no
inductive Tg where
  | one (i:Nat) (p:Pos) | tup (is:List (Nat × Pos)) (p:Pos)
inductive M0 where
  | pop
inductive M1 where
  | append
inductive F1 where
  | str | int | all | abs | any
noncomputable def F1.name:F1->Str
  | .str=>"str" | .int=>"int" | .all=>"all" | .abs=>"abs" | .any=>"any"
inductive Cv where
  | tup (xs:List Str) | int (i:Int)
  deriving DecidableEq
inductive Cn where
  | int (i:Int) | str (x:Str) | tup (xs:List Str) | dic (kvs:List (Str × Cv)) | exc (c:Nat) (ups:List Nat)
  deriving DecidableEq
set_option genInjectivity false
set_option genSizeOf false
mutual
inductive E where
  | non (p:Pos) | bl (b:Bool) (p:Pos) | int (i:Int) (p:Pos) | str (x:Str) (p:Pos)
  | var (i:Nat) (p:Pos)
  | bin (op:Operator) (a b:E) (p:Pos)
  | un (op:UnaryOp) (a:E) (p:Pos)
  | cmp (op:CmpOp) (a b:E) (p:Pos)
  | and (a b:E) (r:Es) (p:Pos)
  | or (a b:E) (r:Es) (p:Pos)
  | ite (c a b:E) (p:Pos)
  | call (f:Nat) (a:E) (r:Es) (p0 p:Pos)
  | len (a:E) (p0 p:Pos)
  | isi (T:Nat) (a:E) (p0 p1 p:Pos)
  | sub (a i:E) (p:Pos)
  | tup (es:Es) (p:Pos)
  | ofL (l:L)
  | tupL (l:L) (p0 p:Pos)
  | tupE (e:E) (p0 p:Pos)
  | cut (a:E) (lo hi:Eo) (p2 p:Pos)
  | dic (p:Pos)
  | m0 (m:M0) (o:E) (p1 p:Pos)
  | m1 (m:M1) (o a:E) (p1 p:Pos)
  | c1 (f:F1) (a:E) (p0 p:Pos)
  | cmpN (neg:Bool) (a:E) (p1 p:Pos)
  | join (o a:E) (p1 p:Pos)
  | split (o a:E) (p1 p:Pos)
  | gcon (x:Str) (c:Cn) (p:Pos)
  | gsub (x:Str) (kvs:List (Str × Cv)) (i:E) (p0 p:Pos)
inductive Es where
  | nil | cons (e:E) (r:Es)
inductive Eo where
  | none | some (e:E)
inductive L where
  | disp (es:Es) (p:Pos)
  | comp (elt:E) (t:Tg) (it:I) (c:Es) (NC:List Str) (cap:List (Option Nat)) (sc:Scope) (p:Pos)
inductive I where
  | seq (e:E) | lst (l:L) | rng (a:E) (p0 p:Pos)
  | zip (a b:E) (p0 p:Pos)
end
structure Rp where
  c:Str
  d:Str
  pa:Pos
  pc:Pos
  pd:Pos
  p:Pos
noncomputable def Rp.py (e:Expr) (r:Rp):Expr:=.Call (.Attribute e "replace" r.pa) [.Constant (.str r.c) 0 r.pc,.Constant (.str r.d) 0 r.pd] [] r.p
noncomputable def repS:List Rp->Str->Option Str
  | [],z=>some z
  | r :: rs,z=>if z.length + (z.length + 1) * r.d.length<=16777216 then repS rs (Txt.replace z r.c r.d) else none
inductive Fp where
  | c (x:Str) (p:Pos)
  | r (i:Nat) (p0 p:Pos)
noncomputable def Fp.py (N:List Str):Fp->Expr
  | .c x p=>.Constant (.str x) 0 p
  | .r i p0 p=>.FormattedValue (.Name (N.getD i "") p0) 114 none p
noncomputable def Fp.fine (ρ:En):Fp->Bool
  | .c x _=>decide (x.length<=1000)
  | .r i _ _=>match ρ[i]? with | some (some (.str z))=>decide (z.length<=1000) && PyData.strOk z | _=>false
inductive Ms where
  | s (x:Str) (p:Pos)
  | f (a b:Fp) (r:List Fp) (p:Pos)
noncomputable def Ms.py (N:List Str):Ms->Expr
  | .s x p=>.Constant (.str x) 0 p
  | .f a b r p=>.JoinedStr (a.py N :: b.py N :: r.map (Fp.py N)) p
noncomputable def Ms.fine (ρ:En):Ms->Bool
  | .s _ _=>true
  | .f a b r _=>a.fine ρ && b.fine ρ && r.all (fun q=>q.fine ρ) && decide (r.length<=10)
structure Xt where
  neg:Bool
  x:Str
  d:Option Nat
  pe:Pos
  p0:Pos
  p1:Pos
  p:Pos
  pn:Pos
noncomputable def Xt.call (e:Str) (t:Xt):Expr:=.Call (.Name "isinstance" t.p0) [.Name e t.pe,.Name t.x t.p1] [] t.p
noncomputable def Xt.py (e:Str) (t:Xt):Expr:=match t.neg with
  | true=>.UnaryOp .Not (t.call e) t.pn
  | false=>t.call e
noncomputable def Xt.is (u:List Nat) (t:Xt):Bool:=match t.d with
  | some d=>u.contains d
  | none=>true
noncomputable def Xt.val (u:List Nat) (t:Xt):Bool:=match t.neg with
  | true=>!(t.is u)
  | false=>t.is u
inductive Xv where
  | and (a b:Xt) (r:List Xt) (p:Pos) | lst (ts:List Xt) (p:Pos) | one (t:Xt)
noncomputable def Xv.py (e:Str):Xv->Expr
  | .and a b r p=>.BoolOp .And (a.py e :: b.py e :: r.map (Xt.py e)) p
  | .lst ts p=>.List (ts.map (Xt.py e)) p
  | .one t=>t.py e
noncomputable def cnE (v:Option Bool) (p:Pos):Expr:=match v with
  | none=>.Constant .none 0 p
  | some b=>.Constant (.bool b) 0 p
noncomputable def cnD:Option Bool->D
  | none=>.non
  | some b=>.bl b
mutual
inductive S where
  | set (i:Nat) (e:E) (p1 p:Pos)
  | ret (e:E) (p:Pos)
  | iff (c:E) (a b:Ss) (p:Pos)
  | ex (e:E) (p:Pos)
  | forr (t:Tg) (it:I) (b:Ss) (p:Pos)
  | rep (i j:Nat) (p0:Pos) (rs:List Rp) (p1 p:Pos)
  | rais (x:Str) (c:Nat) (ups:List Nat) (m:Ms) (p0 p1 p:Pos)
  | tryA (b:Ss) (x:Str) (D:Nat) (ups:List Nat) (cs:List (Str × Nat × List Nat)) (j i:Nat) (v:Xv) (p0 p1 p3 p4 p:Pos)
  | tryS (b:Ss) (x:Str) (D:Nat) (ups:List Nat) (cs:List (Str × Nat × List Nat)) (i:Nat) (v:Option Bool) (p0 p1 p2 p3 p4 p:Pos)
inductive Ss where
  | nil | cons (s:S) (r:Ss)
end
set_option genInjectivity true
set_option genSizeOf true
structure Nm where
  N:List Str
  F:List Str
  G:List (Str × Cn):=[]
noncomputable def tyName:Nat->Str
  | 0=>"int" | 1=>"bool" | 2=>"str" | 3=>"tuple" | _=>"list"
noncomputable def tyStr:Nat->String
  | 0=>"int" | 1=>"bool" | 2=>"str" | 3=>"tuple" | _=>"list"
noncomputable def Tg.py (N:List Str):Tg->Expr
  | .one i p=>.Name (N.getD i "") p
  | .tup is p=>.Tuple (is.map fun q=>.Name (N.getD q.1 "") q.2) 0 p
mutual
noncomputable def E.py (n:Nm):E->Expr
  | .non p=>.Constant .none 0 p
  | .bl b p=>.Constant (.bool b) 0 p
  | .int i p=>.Constant (.int i) 0 p
  | .str x p=>.Constant (.str x) 0 p
  | .var i p=>.Name (n.N.getD i "") p
  | .bin op a b p=>.BinOp (a.py n) op (b.py n) p
  | .un op a p=>.UnaryOp op (a.py n) p
  | .cmp op a b p=>.Compare (a.py n) [op] [b.py n] p
  | .and a b r p=>.BoolOp .And (a.py n :: b.py n :: r.py n) p
  | .or a b r p=>.BoolOp .Or (a.py n :: b.py n :: r.py n) p
  | .ite c a b p=>.IfExp (c.py n) (a.py n) (b.py n) p
  | .call f a r p0 p=>.Call (.Name (n.F.getD f "") p0) (a.py n :: r.py n) [] p
  | .len a p0 p=>.Call (.Name "len" p0) [a.py n] [] p
  | .isi T a p0 p1 p=>.Call (.Name "isinstance" p0) [a.py n,.Name (tyName T) p1] [] p
  | .sub a i p=>.Subscript (a.py n) (i.py n) p
  | .tup es p=>.Tuple (es.py n) 0 p
  | .ofL l=>l.py n
  | .tupL l p0 p=>.Call (.Name "tuple" p0) [l.py n] [] p
  | .tupE e p0 p=>.Call (.Name "tuple" p0) [e.py n] [] p
  | .cut a lo hi p2 p=>.Subscript (a.py n) (.Slice (lo.py n) (hi.py n) .none p2) p
  | .dic p=>.Dict [] [] p
  | .m0 m o p1 p=>.Call (.Attribute (o.py n) (match m with | .pop=>"pop") p1) [] [] p
  | .m1 m o a p1 p=>.Call (.Attribute (o.py n) (match m with | .append=>"append") p1) [a.py n] [] p
  | .c1 f a p0 p=>.Call (.Name f.name p0) [a.py n] [] p
  | .cmpN neg a p1 p=>.Compare (a.py n) [if neg then .NotEq else .Eq] [.List [] p1] p
  | .join o a p1 p=>.Call (.Attribute (o.py n) "join" p1) [a.py n] [] p
  | .split o a p1 p=>.Call (.Attribute (o.py n) "split" p1) [a.py n] [] p
  | .gcon x _ p=>.Name x p
  | .gsub x _ i p0 p=>.Subscript (.Name x p0) (i.py n) p
noncomputable def Eo.py (n:Nm):Eo->Option Expr
  | .none=>.none
  | .some e=>.some (e.py n)
noncomputable def L.py (n:Nm):L->Expr
  | .disp es p=>.List (es.py n) p
  | .comp elt t it c NC cap sc p=>.ListComp (elt.py ⟨NC,n.F,n.G⟩) [⟨t.py NC,it.py n,c.py ⟨NC,n.F,n.G⟩,0⟩] sc p
noncomputable def I.py (n:Nm):I->Expr
  | .seq e=>e.py n
  | .lst l=>l.py n
  | .rng a p0 p=>.Call (.Name "range" p0) [a.py n] [] p
  | .zip a b p0 p=>.Call (.Name "zip" p0) [a.py n,b.py n] [] p
noncomputable def Es.py (n:Nm):Es->List Expr
  | .nil=>[]
  | .cons e r=>e.py n :: r.py n
end
mutual
noncomputable def S.py (n:Nm):S->Stmt
  | .set i e p1 p=>.Assign [.Name (n.N.getD i "") p1] (e.py n) p
  | .ret e p=>.Return (some (e.py n)) p
  | .iff c a b p=>.If (c.py n) (a.py n) (b.py n) p
  | .ex e p=>.Expr (e.py n) p
  | .forr t it b p=>.For (t.py n.N) (it.py n) (b.py n) [] p
  | .rais x _ _ m p0 p1 p=>.Raise (some (.Call (.Name x p0) [m.py n.N] [] p1)) none p
  | .tryA b x _ _ _ j i v p0 p1 p3 p4 p=>.Try (b.py n) [.ExceptHandler (some (.Name x p0)) (some (n.N.getD j "")) [.Assign [.Name (n.N.getD i "") p1] (v.py (n.N.getD j "")) p3] p4] [] [] p
  | .tryS b x _ _ _ i v p0 p1 p2 p3 p4 p=>.Try (b.py n) [.ExceptHandler (some (.Name x p0)) none [.Assign [.Name (n.N.getD i "") p1] (cnE v p2) p3] p4] [] [] p
  | .rep i j p0 rs p1 p=>.Assign [.Name (n.N.getD i "") p1] (rs.foldl Rp.py (.Name (n.N.getD j "") p0)) p
noncomputable def Ss.py (n:Nm):Ss->List Stmt
  | .nil=>[]
  | .cons s r=>s.py n :: r.py n
end
mutual
noncomputable def D.pd (h:Hh):D->Option PyData
  | .non=>some .none
  | .bl b=>some (.bool b)
  | .int i=>some (.int i)
  | .str x=>some (.str x)
  | .tup xs=>(D.pds h xs).map .tuple
  | .loc _=>none
  | .fl xs=>(D.pds h xs).map .list
noncomputable def D.pds (h:Hh):List D->Option (List PyData)
  | []=>some []
  | x :: r=>match D.pd h x,D.pds h r with
    | some a,some b=>some (a :: b)
    | _,_=>none
end
noncomputable def keyD:D->Option Key
  | .int i=>some (.inl i)
  | .str x=>some (.inr x)
  | _=>none
noncomputable def valD (kvs:List (Key × D)) (k:Key):Option D:=(kvs.find? fun kv=>decide (kv.1=k)).map (·.2)
noncomputable def rd (h:Hh) (n:Nat):Option (List D):=match h[n]? with
  | some (.lst xs)=>some xs
  | _=>none
noncomputable def pdT (h:Hh):D->Option PyData
  | .loc n=>(rd h n).bind fun xs=>(D.pds h xs).map .list
  | d=>D.pd h d
noncomputable def isI (h:Hh):D->Nat->Option Bool
  | .non,_=>some false
  | .bl _,T=>some (T == 0 || T == 1)
  | .int _,T=>some (T == 0)
  | .str _,T=>some (T == 2)
  | .tup _,T=>some (T == 3)
  | .loc n,T=>(rd h n).map fun _=>T == 4
  | .fl _,T=>some (T == 4)
noncomputable def fits (i:Int):Bool:=decide (Builtin.Int.intBits i<=2 ^ 20)
noncomputable def eqR (neg:Bool) (u v:Option PyData) (h:Hh):Res D:=match u,v with
  | some u,some v=>if u.canLay0=true /\ v.canLay0=true /\ u.depth<=60 then .ok (.bl (if neg then !PyData.eqv u v else PyData.eqv u v)) h else .no
  | _,_=>.no
noncomputable def i2 (a b:D) (f:Int->Int->Res D):Res D:=match a,b with
  | .int i,.int j=>f i j
  | _,_=>.no
noncomputable def addD (a b:D) (h:Hh):Res D:=match a,b with
  | .int i,.int j=>.ok (.int (i + j)) h
  | .str x,.str y=>if x.length + y.length<=1000000 then .ok (.str (x ++ y)) h else .no
  | .loc n,.loc m=>match h[n]?,h[m]? with
    | some (.lst xs),some (.lst ys)=>if xs.length + ys.length<=1000000 then .ok (.loc h.length) (h ++ [.lst (xs ++ ys)]) else .no
    | _,_=>.no
  | .tup xs,.tup ys=>if xs.length + ys.length<=1000000 then .ok (.tup (xs ++ ys)) h else .no
  | _,_=>.no
noncomputable def mulD (a b:D) (h:Hh):Res D:=match b with
  | .int j=>match a with
    | .int i=>if fits i=true /\ fits j=true then .ok (.int (i * j)) h else .no
    | .str x=>if 0<=j /\ j<=1000 /\ x.length<=1000 then .ok (.str (Txt.mul x j)) h else .no
    | .loc n=>match h[n]? with
      | some (.lst xs)=>if 0<=j /\ j<=1000 /\ xs.length<=1000 then .ok (.loc h.length) (h ++ [.lst (List.replicate j.toNat xs).flatten]) else .no
      | _=>.no
    | _=>.no
  | _=>.no
noncomputable def binD (op:Operator) (a b:D) (h:Hh):Res D:=match op with
  | .Add=>addD a b h
  | .Mult=>mulD a b h
  | .Sub=>i2 a b fun i j=>.ok (.int (i - j)) h
  | .FloorDiv=>i2 a b fun i j=>if 0 < j /\ j < 1073741824 then .ok (.int (i / j)) h else .no
  | .Mod=>i2 a b fun i j=>if 0 < j then .ok (.int (i % j)) h else .no
  | .Pow=>i2 a b fun i j=>if 0<=j /\ j<=1000000 /\ i.natAbs < 2 ^ 64 then .ok (.int (i ^ j.toNat)) h else .no
  | .LShift=>i2 a b fun i j=>if fits i=true /\ 0<=j /\ j<=1000000 then .ok (.int (i * 2 ^ j.toNat)) h else .no
  | .RShift=>i2 a b fun i j=>if 0<=j then .ok (.int (i / 2 ^ j.toNat)) h else .no
  | .BitAnd=>i2 a b fun i j=>.ok (.int (Builtin.bitAnd i j)) h
  | .BitOr=>i2 a b fun i j=>.ok (.int (Builtin.bitOr i j)) h
  | _=>.no
noncomputable def vOf:D->V
  | .bl b=>.bl b
  | .int i=>.int i
  | .str x=>.str x
  | _=>.non
noncomputable def flatD:D->Bool
  | .non | .bl _ | .int _ | .str _=>true
  | _=>false
noncomputable def ngB (neg b:Bool):Bool:=if neg then !b else b
@[simp] theorem ngB_f {b:Bool}:ngB false b=b:=rfl
@[simp] theorem ngB_t {b:Bool}:ngB true b=!b:=rfl
noncomputable def isN:D->Bool
  | .non=>true
  | _=>false
noncomputable def flatT:D->Bool
  | .tup _=>true
  | d=>flatD d
noncomputable def inXs (neg:Bool) (x:D) (ds:List D) (h:Hh):Res D:=if flatD x=true /\ ds.all flatD=true then .ok (.bl (ngB neg (ds.any fun y=>eqV (vOf y) (vOf x)))) h else if neg=false /\ isN x=true /\ ds.all flatT=true then .ok (.bl (ds.any isN)) h else .no
noncomputable def inD (neg:Bool) (x y:D) (h:Hh):Res D:=match y with
  | .tup ds=>inXs neg x ds h
  | .fl ds=>inXs neg x ds h
  | .loc n=>match h[n]? with
    | some (.lst ds)=>inXs neg x ds h
    | some (.dK kvs)=>(match keyD x with | some k=>.ok (.bl (ngB neg (valD kvs k).isSome)) h | none=>.no)
    | none=>.no
  | .str z=>(match x with | .str u=>.ok (.bl (ngB neg (!(Builtin.Str.occurrences z u 0 z.length 1).isEmpty))) h | _=>.no)
  | _=>.no
noncomputable def isV (neg:Bool) (a b:D) (h:Hh):Res D:=match b with
  | .non=>.ok (.bl (ngB neg (isN a))) h
  | .bl y=>match a with
    | .bl x=>.ok (.bl (ngB neg (x == y))) h
    | _=>.no
  | _=>.no
noncomputable def cmpD (op:CmpOp) (a b:D) (h:Hh):Res D:=match op with
  | .Lt=>i2 a b fun i j=>.ok (.bl (decide (i < j))) h
  | .LtE=>i2 a b fun i j=>.ok (.bl (decide (i<=j))) h
  | .Gt=>i2 a b fun i j=>.ok (.bl (decide (j < i))) h
  | .GtE=>i2 a b fun i j=>.ok (.bl (decide (j<=i))) h
  | .Eq=>eqR false (pdT h a) (pdT h b) h
  | .NotEq=>eqR true (pdT h a) (pdT h b) h
  | .In=>inD false a b h
  | .NotIn=>inD true a b h
  | .Is=>isV false a b h
  | .IsNot=>isV true a b h
noncomputable def unD (op:UnaryOp) (a:D) (h:Hh):Res D:=match op,a with
  | .Not,.bl b=>.ok (.bl (!b)) h
  | .Invert,.int i=>.ok (.int (Builtin.bitNot i)) h
  | .USub,.int i=>.ok (.int (-i)) h
  | _,_=>.no
noncomputable def lenD (a:D) (h:Hh):Res D:=match a with
  | .tup xs=>.ok (.int xs.length) h
  | .loc n=>match rd h n with | some xs=>.ok (.int xs.length) h | none=>.no
  | .str x=>if x.length<=1000000 then .ok (.int x.length) h else .no
  | .fl xs=>.ok (.int xs.length) h
  | _=>.no
noncomputable def subD (a i:D) (h:Hh):Res D:=match a,i with
  | .tup xs,.int k=>match atI xs k with | some d=>.ok d h | none=>.no
  | .fl xs,.int k=>match atI xs k with | some d=>.ok d h | none=>.no
  | .str x,.int k=>if x.length<=1000000 then (match atI x.cps.toList k with | some c=>.ok (.str ⟨#[c]⟩) h | none=>.no) else .no
  | .loc n,y=>match h[n]? with
    | some (.dK kvs)=>match (keyD y).bind (fun k=>valD kvs k) with | some d=>.ok d h | none=>.no
    | some (.lst xs)=>match y with
      | .int k=>match atI xs k with | some d=>.ok d h | none=>.no
      | _=>.no
    | none=>.no
  | _,_=>.no
noncomputable def new (o:O) (h:Hh):Res D:=.ok (.loc h.length) (h ++ [o])
noncomputable def putD (kvs:List (Key × D)) (k:Key) (v:D):List (Key × D):=if (kvs.any fun kv=>decide (kv.1=k))=true then kvs.map (fun kv=>if kv.1=k then (kv.1,v) else kv) else kvs ++ [(k,v)]
noncomputable def onL (x:D) (h:Hh) (r:Res D):Res D:=match x with
  | .loc n=>match h[n]? with
    | some (.lst _)=>r
    | _=>.no
  | _=>.no
noncomputable def m0D (m:M0) (o:D) (h:Hh):Res D:=match o with
  | .loc n=>match h[n]? with
    | some (.lst xs)=>match m with
      | .pop=>match xs.getLast? with | some x=>.ok x (h.set n (.lst xs.dropLast)) | none=>.no
    | _=>.no
  | _=>.no
noncomputable def m1D (m:M1) (o a:D) (h:Hh):Res D:=match o with
  | .loc n=>match h[n]? with
    | some (.lst xs)=>match m with
      | .append=>if xs.length < 1000000 then .ok .non (h.set n (.lst (xs ++ [a]))) else .no
    | _=>.no
  | _=>.no
noncomputable def cutXs (xs:List D) (lo hi:Option Int):List D:=(xs.drop (HT.sIx xs.length 0 lo)).take (HT.sIx xs.length xs.length hi - HT.sIx xs.length 0 lo)
noncomputable def cutD (a:D) (lo hi:Option Int) (h:Hh):Res D:=match a with
  | .loc n=>match rd h n with
    | some xs=>new (.lst (cutXs xs lo hi)) h
    | none=>.no
  | .fl xs=>new (.lst (cutXs xs lo hi)) h
  | .str x=>if x.length<=1000000 then .ok (.str (Txt.slice x lo hi)) h else .no
  | .tup xs=>if HT.sIx xs.length 0 lo=0 /\ HT.sIx xs.length xs.length hi=xs.length then .ok (.tup xs) h else .ok (.tup (cutXs xs lo hi)) h
  | _=>.no
noncomputable def intO (d:D) (h:Hh):Res (Option Int):=match d with | .int i=>.ok (some i) h | _=>.no
noncomputable def seqOf (d:D) (h:Hh):Option (List D):=match d with
  | .tup xs=>some xs
  | .fl xs=>some xs
  | .loc n=>rd h n
  | _=>none
noncomputable abbrev Ck:=List (Nat × List D)
noncomputable def stay (c:Ck) (h:Hh):Prop:=∀ p ∈ c,rd h p.1=some p.2
noncomputable def bindT (t:Tg) (d:D) (ρ:En):Option En:=match t with
  | .one i _=>some (ρ.set i (some d))
  | .tup is _=>match d with
    | .tup xs=>if xs.length=is.length then some ((is.zip xs).foldl (fun ρ q=>ρ.set q.1.1 (some q.2)) ρ) else none
    | _=>none
noncomputable def capE (cap:List (Option Nat)) (ρ:En):En:=cap.map fun o=>o.bind fun i=>(ρ[i]?).bind id
noncomputable def compF (t:Tg) (ρ:En) (c:En->Hh->Res Bool) (e:En->Hh->Res D) (x:D) (h:Hh):Res (Option D):=match bindT t x ρ with
  | some ρ'=>(c ρ' h).bind fun b h1=>if b then (e ρ' h1).bind fun d h2=>.ok (some d) h2 else .ok none h1
  | none=>.no
noncomputable def stepF (t:Tg) (b:En->Hh->RS) (x:D) (ρ:En) (h:Hh):RS:=match bindT t x ρ with
  | some ρ'=>b ρ' h
  | none=>.no
noncomputable def addO (acc:List D):Option D->List D
  | some d=>acc ++ [d]
  | none=>acc
@[simp] theorem addO_some {acc:List D} {d:D}:addO acc (some d)=acc ++ [d]:=rfl
@[simp] theorem addO_none {acc:List D}:addO acc none=acc:=rfl
open Classical in
noncomputable def compL (c:Ck) (f:D->Hh->Res (Option D)):List D->List D->Hh->Res (List D)
  | [],acc,h=>if stay c h then .ok acc h else .no
  | x :: r,acc,h=>if stay c h then (f x h).bind fun o h'=>compL c f r (addO acc o) h' else .no
open Classical in
noncomputable def forL (c:Ck) (f:D->En->Hh->RS):List D->En->Hh->RS
  | [],ρ,h=>if stay c h then .nx ρ h else .no
  | x :: r,ρ,h=>if stay c h then (match f x ρ h with
      | .nx ρ' h'=>forL c f r ρ' h'
      | .ct ρ' h'=>forL c f r ρ' h'
      | .bk ρ' h'=>.nx ρ' h'
      | o=>o) else .no
noncomputable def tru (d:D) (h:Hh) (f:Bool->Hh->Res D):Res D:=match d with
  | .bl b=>f b h
  | _=>.no
noncomputable def blsOf:List D->Option (List Bool)
  | []=>some []
  | .bl b :: r=>(blsOf r).map (b :: ·)
  | _ :: _=>none
noncomputable def strsOf:List D->Option (List Str)
  | []=>some []
  | .str x :: r=>(strsOf r).map (x :: ·)
  | _ :: _=>none
noncomputable def c1D (f:F1) (a:D) (h:Hh):Res D:=match f,a with
  | .str,.int i=>if i.natAbs.log2 < 1920 then .ok (.str (toString i)) h else .no
  | .str,.str x=>.ok (.str x) h
  | .int,.int i=>.ok (.int i) h
  | .int,.bl b=>.ok (.int (if b then 1 else 0)) h
  | .int,.str x=>(match PySem.intText? x with | some n=>if x.length<=640 then .ok (.int n) h else .no | none=>.no)
  | .all,.loc n=>(match (rd h n).bind blsOf with | some bs=>.ok (.bl (bs.all id)) h | none=>.no)
  | .abs,.int i=>.ok (.int (if i < 0 then -i else i)) h
  | .any,.loc n=>(match (rd h n).bind blsOf with | some bs=>.ok (.bl (bs.any id)) h | none=>.no)
  | _,_=>.no
noncomputable def onS (x:D) (r:Res D):Res D:=match x with | .str _=>r | _=>.no
noncomputable def joinD (x y:D) (h:Hh):Res D:=match x,y with
  | .str sep,.loc n=>(match (rd h n).bind strsOf with | some ys=>if (ys.map (·.length)).sum + ys.length * sep.length<=16777216 then .ok (.str (Txt.join sep ys)) h else .no | none=>.no)
  | .str sep,.tup ds=>(match strsOf ds with | some ys=>if (ys.map (·.length)).sum + ys.length * sep.length<=16777216 then .ok (.str (Txt.join sep ys)) h else .no | none=>.no)
  | _,_=>.no
noncomputable def splitD (x y:D) (h:Hh):Res D:=match x,y with
  | .str z,.str y=>if (y.length == 0)=false /\ z.length<=1000000 /\ (Builtin.Str.partsBetween z (Builtin.Str.occurrences z y 0 z.length (z.length + 1)) y.length).length<=1000000 /\ (Txt.split z y).length<=1000000 then new (.lst ((Txt.split z y).map .str)) h else .no
  | _,_=>.no
noncomputable def nilD (neg:Bool) (x:D) (h:Hh):Res D:=match x with
  | .fl xs=>.ok (.bl (ngB neg xs.isEmpty)) h
  | .loc n=>(match rd h n with | some xs=>.ok (.bl (ngB neg xs.isEmpty)) h | none=>.no)
  | _=>.no
noncomputable def Cv.d:Cv->D
  | .tup xs=>.tup (xs.map .str)
  | .int i=>.int i
noncomputable def cstD (kvs:List (Str × Cv)) (y:D) (h:Hh):Res D:=match y with
  | .str k=>(match kvs.lookup k with | some c=>.ok c.d h | none=>.no)
  | _=>.no
noncomputable def unpD (d:D) (h:Hh):D:=match d with
  | .loc n=>(match rd h n with | some xs=>.tup xs | none=>.non)
  | d=>d
@[simp] theorem unpD_tup {xs:List D} {h:Hh}:unpD (.tup xs) h=.tup xs:=rfl
noncomputable def seqC (x:D) (h:Hh):Option (Ck × List D):=match x with
  | .tup xs=>some ([],xs)
  | .fl xs=>some ([],xs)
  | .loc n=>(rd h n).map fun xs=>([(n,xs)],xs)
  | _=>none
noncomputable def pairT (q:D × D):D:=.tup [q.1,q.2]
noncomputable def zipD (x y:D) (h:Hh):Res (Ck × List D):=match seqC x h with
  | some p=>(match seqC y h with
    | some q=>.ok (p.1 ++ q.1,(p.2.zip q.2).map pairT) h
    | none=>.no)
  | none=>.no
noncomputable def Xv.run (u:List Nat) (h:Hh):Xv->D × Hh
  | .and a b r _=>(.bl (a.val u && (b.val u && r.all (Xt.val u))),h)
  | .lst ts _=>(.loc h.length,h ++ [.lst (ts.map fun t=>.bl (t.val u))])
  | .one t=>(.bl (t.val u),h)
noncomputable def tryR (cs:List (Str × Nat × List Nat)) (j i:Nat) (v:Xv) (c:Nat) (ρ:En) (h:Hh):RS:=match cs.find? (fun q=>q.2.1 == c) with
  | some q=>if j < ρ.length then .nx ((ρ.set i (some (v.run q.2.2 h).1)).set j none) (v.run q.2.2 h).2 else .no
  | none=>.no
noncomputable section
variable (cl:Nat->List D->Hh->Res D)
mutual
noncomputable def E.ev:E->En->Hh->Res D
  | .non _,_,h=>.ok .non h
  | .bl b _,_,h=>.ok (.bl b) h
  | .int i _,_,h=>.ok (.int i) h
  | .str x _,_,h=>.ok (.str x) h
  | .var i _,ρ,h=>match ρ[i]? with | some (some d)=>.ok d h | _=>.no
  | .bin op a b _,ρ,h=>(a.ev ρ h).bind fun x h1=>(b.ev ρ h1).bind fun y h2=>binD op x y h2
  | .un op a _,ρ,h=>(a.ev ρ h).bind fun x h1=>unD op x h1
  | .cmp op a b _,ρ,h=>(a.ev ρ h).bind fun x h1=>(b.ev ρ h1).bind fun y h2=>cmpD op x y h2
  | .and a b r _,ρ,h=>(a.ev ρ h).bind fun x h1=>tru x h1 fun c h1=>if c then (b.ev ρ h1).bind fun y h2=>r.evAnd ρ y h2 else .ok (.bl false) h1
  | .or a b r _,ρ,h=>(a.ev ρ h).bind fun x h1=>tru x h1 fun c h1=>if c then .ok (.bl true) h1 else (b.ev ρ h1).bind fun y h2=>r.evOr ρ y h2
  | .ite c a b _,ρ,h=>(c.ev ρ h).bind fun x h1=>tru x h1 fun t h1=>if t then a.ev ρ h1 else b.ev ρ h1
  | .call f a r _ _,ρ,h=>(a.ev ρ h).bind fun x h1=>(r.ev ρ h1).bind fun xs h2=>cl f (x :: xs) h2
  | .len a _ _,ρ,h=>(a.ev ρ h).bind fun x h1=>lenD x h1
  | .isi T a _ _ _,ρ,h=>(a.ev ρ h).bind fun x h1=>match isI h1 x T with | some b=>.ok (.bl b) h1 | none=>.no
  | .sub a i _,ρ,h=>(a.ev ρ h).bind fun x h1=>(i.ev ρ h1).bind fun y h2=>subD x y h2
  | .tup es _,ρ,h=>(es.ev ρ h).bind fun xs h1=>if xs.length<=1000 then .ok (.tup xs) h1 else .no
  | .ofL l,ρ,h=>(l.ev ρ h).bind fun xs h1=>new (.lst xs) h1
  | .tupL l _ _,ρ,h=>(l.ev ρ h).bind fun xs h1=>.ok (.tup xs) h1
  | .tupE e _ _,ρ,h=>(e.ev ρ h).bind fun x h1=>match seqOf x h1 with | some xs=>.ok (.tup xs) h1 | none=>.no
  | .cut a lo hi _ _,ρ,h=>(a.ev ρ h).bind fun x h1=>(lo.ev ρ h1).bind fun l h2=>(hi.ev ρ h2).bind fun u h3=>cutD x l u h3
  | .dic _,_,h=>new (.dK []) h
  | .m0 m o _ _,ρ,h=>(o.ev ρ h).bind fun x h1=>m0D m x h1
  | .m1 m o a _ _,ρ,h=>(o.ev ρ h).bind fun x h1=>onL x h1 ((a.ev ρ h1).bind fun y h2=>m1D m x y h2)
  | .c1 f a _ _,ρ,h=>(a.ev ρ h).bind fun x h1=>c1D f x h1
  | .cmpN neg a _ _,ρ,h=>(a.ev ρ h).bind fun x h1=>nilD neg x h1
  | .join o a _ _,ρ,h=>(o.ev ρ h).bind fun x h1=>onS x ((a.ev ρ h1).bind fun y h2=>joinD x y h2)
  | .split o a _ _,ρ,h=>(o.ev ρ h).bind fun x h1=>onS x ((a.ev ρ h1).bind fun y h2=>splitD x y h2)
  | .gcon _ c _,_,h=>match c with | .int i=>.ok (.int i) h | .str x=>.ok (.str x) h | .tup xs=>.ok (.tup (xs.map .str)) h | .dic _=>.no | .exc _ _=>.no
  | .gsub _ kvs i _ _,ρ,h=>(i.ev ρ h).bind fun y h1=>cstD kvs y h1
noncomputable def Eo.ev:Eo->En->Hh->Res (Option Int)
  | .none,_,h=>.ok none h
  | .some e,ρ,h=>(e.ev ρ h).bind fun d h1=>intO d h1
noncomputable def L.ev:L->En->Hh->Res (List D)
  | .disp es _,ρ,h=>(es.ev ρ h).bind fun xs h1=>if xs.length<=1000 then .ok xs h1 else .no
  | .comp elt t it c _ cap _ _,ρ,h=>(it.ev ρ h).bind fun q h1=>if q.2.length<=1000000 then compL q.1 (compF t (capE cap ρ) (fun ρ' h2=>c.evC ρ' h2) (fun ρ' h2=>elt.ev ρ' h2)) q.2 [] h1 else .no
noncomputable def I.ev:I->En->Hh->Res (Ck × List D)
  | .seq e,ρ,h=>(e.ev ρ h).bind fun x h1=>match x with
    | .tup xs=>.ok ([],xs) h1
    | .fl xs=>.ok ([],xs) h1
    | .loc n=>match rd h1 n with | some xs=>.ok ([(n,xs)],xs) h1 | none=>.no
    | .str x=>.ok ([],x.cps.toList.map fun c=>.str ⟨#[c]⟩) h1
    | _=>.no
  | .lst l,ρ,h=>(l.ev ρ h).bind fun xs h1=>.ok ([],xs) h1
  | .rng a _ _,ρ,h=>(a.ev ρ h).bind fun x h1=>match x with
    | .int j=>if -1000000<=j /\ j<=1000000 then .ok ([],(List.range j.toNat).map fun k=>.int (k:Nat)) h1 else .no
    | _=>.no
  | .zip a b _ _,ρ,h=>(a.ev ρ h).bind fun x h1=>(b.ev ρ h1).bind fun y h2=>zipD x y h2
noncomputable def Es.evC:Es->En->Hh->Res Bool
  | .nil,_,h=>.ok true h
  | .cons e _,ρ,h=>(e.ev ρ h).bind fun d h1=>match d with | .bl b=>.ok b h1 | _=>.no
noncomputable def Es.ev:Es->En->Hh->Res (List D)
  | .nil,_,h=>.ok [] h
  | .cons e r,ρ,h=>(e.ev ρ h).bind fun x h1=>(r.ev ρ h1).bind fun xs h2=>.ok (x :: xs) h2
noncomputable def Es.evAnd:Es->En->D->Hh->Res D
  | .nil,_,x,h=>.ok x h
  | .cons e r,ρ,x,h=>tru x h fun c h1=>if c then (e.ev ρ h1).bind fun y h2=>r.evAnd ρ y h2 else .ok (.bl false) h1
noncomputable def Es.evOr:Es->En->D->Hh->Res D
  | .nil,_,x,h=>.ok x h
  | .cons e r,ρ,x,h=>tru x h fun c h1=>if c then .ok (.bl true) h1 else (e.ev ρ h1).bind fun y h2=>r.evOr ρ y h2
end
noncomputable def E.evT (e:E) (ρ:En) (h:Hh):Res Bool:=(e.ev cl ρ h).bind fun d h1=>match d with | .bl b=>.ok b h1 | _=>.no
noncomputable def andS {α:Type} (ρ:En) (r:Res α) (f:α->Hh->RS):RS:=match r with
  | .ok a h=>f a h
  | .exc c h=>.ex c ρ h
  | .no=>.no
@[simp] theorem andS_ok {α:Type} {ρ:En} {a:α} {h:Hh} {f:α->Hh->RS}:andS ρ (.ok a h) f=f a h:=rfl
@[simp] theorem andS_exc {α:Type} {ρ:En} {c:Nat} {h:Hh} {f:α->Hh->RS}:andS ρ (.exc c h) f=.ex c ρ h:=rfl
noncomputable def seqS (o:RS) (f:En->Hh->RS):RS:=match o with
  | .nx ρ h=>f ρ h
  | o=>o
@[simp] theorem seqS_nx {ρ:En} {h:Hh} {f:En->Hh->RS}:seqS (.nx ρ h) f=f ρ h:=rfl
@[simp] theorem seqS_rt {d:D} {h:Hh} {f:En->Hh->RS}:seqS (.rt d h) f=.rt d h:=rfl
@[simp] theorem seqS_bk {ρ:En} {h:Hh} {f:En->Hh->RS}:seqS (.bk ρ h) f=.bk ρ h:=rfl
@[simp] theorem seqS_ct {ρ:En} {h:Hh} {f:En->Hh->RS}:seqS (.ct ρ h) f=.ct ρ h:=rfl
@[simp] theorem seqS_ex {c:Nat} {ρ:En} {h:Hh} {f:En->Hh->RS}:seqS (.ex c ρ h) f=.ex c ρ h:=rfl
mutual
noncomputable def S.run:S->En->Hh->RS
  | .set i e _ _,ρ,h=>andS ρ (e.ev cl ρ h) fun d h1=>.nx (ρ.set i (some d)) h1
  | .ret e _,ρ,h=>andS ρ (e.ev cl ρ h) fun d h1=>.rt d h1
  | .iff c a b _,ρ,h=>andS ρ (c.evT cl ρ h) fun t h1=>if t then a.run ρ h1 else b.run ρ h1
  | .ex e _,ρ,h=>andS ρ (e.ev cl ρ h) fun _ h1=>.nx ρ h1
  | .forr t it b _,ρ,h=>andS ρ (it.ev cl ρ h) fun q h1=>forL q.1 (stepF t fun ρ' h'=>b.run ρ' h') q.2 ρ h1
  | .rais _ c _ m _ _ _,ρ,h=>if m.fine ρ then .ex c ρ h else .no
  | .tryA b _ _ _ cs j i v _ _ _ _ _,ρ,h=>(match b.run ρ h with | .ex c ρ' h'=>tryR cs j i v c ρ' h' | o=>o)
  | .tryS b _ _ _ cs i v _ _ _ _ _ _,ρ,h=>(match b.run ρ h with | .ex c ρ' h'=>if (cs.any fun q=>q.2.1 == c) then .nx (ρ'.set i (some (cnD v))) h' else .no | o=>o)
  | .rep i j _ rs _ _,ρ,h=>(match ρ[j]? with | some (some (.str z))=>(match repS rs z with | some z'=>.nx (ρ.set i (some (.str z'))) h | none=>.no) | _=>.no)
noncomputable def Ss.run:Ss->En->Hh->RS
  | .nil,ρ,h=>.nx ρ h
  | .cons s r,ρ,h=>seqS (s.run ρ h) fun ρ' h'=>r.run ρ' h'
end
end
structure Df where
  name:Str
  ps:List Str
  N:List Str
  body:Ss
noncomputable def outR:RS->Res D
  | .rt v h'=>.ok v h'
  | .nx _ h'=>.ok .non h'
  | .ex c _ h'=>.exc c h'
  | _=>.no
noncomputable def Df.run (cl:Nat->List D->Hh->Res D) (d:Df) (as:List D) (h:Hh):Res D :=
  outR (d.body.run cl (as.map some ++ List.replicate (d.N.length - as.length) none) h)
noncomputable def callI (ds:List Df):Nat->Nat->List D->Hh->Res D
  | 0,_,_,_=>.no
  | k + 1,f,as,h=>match ds[f]? with
    | some d=>if as.length=d.ps.length then d.run (callI ds k) as h else .no
    | none=>.no
section
variable {i j:Int} {h:Hh} {x y:Str} {b c:Bool} {d e:D} {xs:List D}
@[simp] theorem bin_add:binD .Add (.int i) (.int j) h=.ok (.int (i + j)) h:=rfl
@[simp] theorem bin_sub:binD .Sub (.int i) (.int j) h=.ok (.int (i - j)) h:=rfl
@[simp] theorem bin_mul:binD .Mult (.int i) (.int j) h=if fits i=true /\ fits j=true then .ok (.int (i * j)) h else .no:=rfl
@[simp] theorem bin_fdiv:binD .FloorDiv (.int i) (.int j) h=if 0 < j /\ j < 1073741824 then .ok (.int (i / j)) h else .no:=rfl
@[simp] theorem bin_mod:binD .Mod (.int i) (.int j) h=if 0 < j then .ok (.int (i % j)) h else .no:=rfl
@[simp] theorem bin_pow:binD .Pow (.int i) (.int j) h=if 0<=j /\ j<=1000000 /\ i.natAbs < 2 ^ 64 then .ok (.int (i ^ j.toNat)) h else .no:=rfl
@[simp] theorem bin_shl:binD .LShift (.int i) (.int j) h=if fits i=true /\ 0<=j /\ j<=1000000 then .ok (.int (i * 2 ^ j.toNat)) h else .no:=rfl
@[simp] theorem bin_shr:binD .RShift (.int i) (.int j) h=if 0<=j then .ok (.int (i / 2 ^ j.toNat)) h else .no:=rfl
@[simp] theorem bin_and:binD .BitAnd (.int i) (.int j) h=.ok (.int (Builtin.bitAnd i j)) h:=rfl
@[simp] theorem bin_or:binD .BitOr (.int i) (.int j) h=.ok (.int (Builtin.bitOr i j)) h:=rfl
@[simp] theorem bin_adds:binD .Add (.str x) (.str y) h=if x.length + y.length<=1000000 then .ok (.str (x ++ y)) h else .no:=rfl
@[simp] theorem cmp_lt:cmpD .Lt (.int i) (.int j) h=.ok (.bl (decide (i < j))) h:=rfl
@[simp] theorem cmp_le:cmpD .LtE (.int i) (.int j) h=.ok (.bl (decide (i<=j))) h:=rfl
@[simp] theorem cmp_gt:cmpD .Gt (.int i) (.int j) h=.ok (.bl (decide (j < i))) h:=rfl
@[simp] theorem cmp_ge:cmpD .GtE (.int i) (.int j) h=.ok (.bl (decide (j<=i))) h:=rfl
@[simp] theorem cmp_eq:cmpD .Eq d e h=eqR false (pdT h d) (pdT h e) h:=rfl
@[simp] theorem cmp_ne:cmpD .NotEq d e h=eqR true (pdT h d) (pdT h e) h:=rfl
@[simp] theorem cmp_in:cmpD .In d e h=inD false d e h:=rfl
@[simp] theorem cmp_notin:cmpD .NotIn d e h=inD true d e h:=rfl
theorem in_strs {neg:Bool} {ys:List Str}:inXs neg (.str x) (ys.map .str) h=.ok (.bl (ngB neg (ys.any fun y=>y == x))) h:=by
  unfold inXs
  rw [if_pos ⟨rfl,by simp [flatD]⟩,List.any_map]
  rfl
@[simp] theorem cmp_isN:cmpD .Is d .non h=.ok (.bl (match d with | .non=>true | _=>false)) h:=by cases d <;> rfl
@[simp] theorem cmp_isnotN:cmpD .IsNot d .non h=.ok (.bl (match d with | .non=>false | _=>true)) h:=by cases d <;> rfl
@[simp] theorem cmp_is:cmpD .Is (.bl b) (.bl c) h=.ok (.bl (b == c)) h:=rfl
@[simp] theorem cmp_isnot:cmpD .IsNot (.bl b) (.bl c) h=.ok (.bl (!(b == c))) h:=rfl
@[simp] theorem eqR_some {neg:Bool} {u v:PyData}:eqR neg (some u) (some v) h=if u.canLay0=true /\ v.canLay0=true /\ u.depth<=60 then .ok (.bl (if neg then !PyData.eqv u v else PyData.eqv u v)) h else .no:=rfl
@[simp] theorem pdT_non:pdT h .non=some .none:=by unfold pdT D.pd; rfl
@[simp] theorem pdT_bl:pdT h (.bl b)=some (.bool b):=by unfold pdT D.pd; rfl
@[simp] theorem pdT_int:pdT h (.int i)=some (.int i):=by unfold pdT D.pd; rfl
@[simp] theorem pdT_str:pdT h (.str x)=some (.str x):=by unfold pdT D.pd; rfl
@[simp] theorem pdT_tup:pdT h (.tup xs)=(D.pds h xs).map .tuple:=by unfold pdT D.pd; rfl
@[simp] theorem pdT_loc {n:Nat}:pdT h (.loc n)=(rd h n).bind fun xs=>(D.pds h xs).map .list:=rfl
@[simp] theorem pds_nil:D.pds h []=some []:=by unfold D.pds; rfl
@[simp] theorem un_not:unD .Not (.bl b) h=.ok (.bl (!b)) h:=rfl
@[simp] theorem un_invert:unD .Invert (.int i) h=.ok (.int (Builtin.bitNot i)) h:=rfl
@[simp] theorem un_usub:unD .USub (.int i) h=.ok (.int (-i)) h:=rfl
@[simp] theorem pdT_fl:pdT h (.fl xs)=(D.pds h xs).map .list:=by unfold pdT D.pd; rfl
@[simp] theorem len_fl:lenD (.fl xs) h=.ok (.int xs.length) h:=rfl
@[simp] theorem sub_fl:subD (.fl xs) (.int i) h=match atI xs i with | some d=>.ok d h | none=>.no:=rfl
@[simp] theorem len_tup:lenD (.tup xs) h=.ok (.int xs.length) h:=rfl
@[simp] theorem len_loc {n:Nat}:lenD (.loc n) h=match rd h n with | some xs=>.ok (.int xs.length) h | none=>.no:=rfl
@[simp] theorem len_str:lenD (.str x) h=if x.length<=1000000 then .ok (.int x.length) h else .no:=rfl
@[simp] theorem sub_tup:subD (.tup xs) (.int i) h=match atI xs i with | some d=>.ok d h | none=>.no:=rfl
@[simp] theorem bin_muls:binD .Mult (.str x) (.int j) h=if 0<=j /\ j<=1000 /\ x.length<=1000 then .ok (.str (Txt.mul x j)) h else .no:=rfl
@[simp] theorem bin_addt {ys:List D}:binD .Add (.tup xs) (.tup ys) h=if xs.length + ys.length<=1000000 then .ok (.tup (xs ++ ys)) h else .no:=rfl
@[simp] theorem bin_addl {n m:Nat}:binD .Add (.loc n) (.loc m) h=(match h[n]?,h[m]? with
    | some (.lst xs),some (.lst ys)=>if xs.length + ys.length<=1000000 then .ok (.loc h.length) (h ++ [.lst (xs ++ ys)]) else .no
    | _,_=>.no):=rfl
theorem sub_str:subD (.str x) (.int i) h=if x.length<=1000000 then (match atI x.cps.toList i with | some c=>.ok (.str ⟨#[c]⟩) h | none=>.no) else .no:=rfl
theorem sub_loc {n:Nat} {y:D}:subD (.loc n) y h=(match h[n]? with
    | some (.dK kvs)=>match (keyD y).bind (fun k=>valD kvs k) with | some d=>.ok d h | none=>.no
    | some (.lst xs)=>match y with
      | .int k=>match atI xs k with | some d=>.ok d h | none=>.no
      | _=>.no
    | none=>.no):=rfl
@[simp] theorem tru_bl {f:Bool->Hh->Res D}:tru (.bl b) h f=f b h:=rfl
end
theorem callI_succ {ds:List Df} {k i:Nat} {d:Df} {as:List D} {h:Hh} (hd:ds[i]?=some d) (hl:as.length=d.ps.length):callI ds (k + 1) i as h=d.run (callI ds k) as h:=by
  unfold callI; rw [hd]; exact if_pos hl
theorem len0 {α:Type} {P:List α->Prop} (f:P []) (us:List α) (hl:us.length=0):P us:=by
  cases us with
  | nil=>exact f
  | cons=>cases hl
theorem lenS {α:Type} {n:Nat} {P:List α->Prop} (f:∀ a us,us.length=n->P (a :: us)) (us:List α) (hl:us.length=n + 1):P us:=by
  cases us with
  | nil=>cases hl
  | cons a r=>exact f a r (Nat.succ.inj hl)
theorem len1 {α:Type} {P:List α->Prop} (f:∀ a,P [a]):∀ us:List α,us.length=1->P us:=lenS fun a=>len0 (P:=fun us=>P (a :: us)) (f a)
theorem len2 {α:Type} {P:List α->Prop} (f:∀ a b,P [a,b]):∀ us:List α,us.length=2->P us:=lenS fun a=>len1 (P:=fun us=>P (a :: us)) (f a)
theorem len3 {α:Type} {P:List α->Prop} (f:∀ a b c,P [a,b,c]):∀ us:List α,us.length=3->P us:=lenS fun a=>len2 (P:=fun us=>P (a :: us)) (f a)
end PI
set_option Elab.async false
set_option linter.all false
set_option maxRecDepth 100000
namespace PI
open PySem L2
noncomputable def Fz (K:PySem.W.Frag) (H:Hp) (a:Addr) (vs:List V):Prop:=(∃ o,H a=some (.frz o (.lst vs))) \/ ∀ H',SqL K H' a vs
theorem Fz.sq {K:PySem.W.Frag} {H:Hp} {a:Addr} {vs:List V} (h:Fz K H a vs):SqL K H a vs:=h.elim (fun ⟨o,q⟩=>.inl (.inr ⟨o,q⟩)) fun q=>q H
mutual
inductive Rep (K:PySem.W.Frag) (μ:List Addr) (H:Hp):D->V->Prop
  | non:Rep K μ H .non .non
  | bl (b:Bool):Rep K μ H (.bl b) (.bl b)
  | int (i:Int):Rep K μ H (.int i) (.int i)
  | str (x:Str):Rep K μ H (.str x) (.str x)
  | tup {ds:List D} {vs:List V} {a:Addr}:SqT K H a vs->Reps K μ H ds vs->Rep K μ H (.tup ds) (.ref a)
  | loc {n:Nat} {a:Addr}:μ[n]?=some a->Rep K μ H (.loc n) (.ref a)
  | fl {ds:List D} {vs:List V} {a:Addr}:Fz K H a vs->Reps K μ H ds vs->Rep K μ H (.fl ds) (.ref a)
inductive Reps (K:PySem.W.Frag) (μ:List Addr) (H:Hp):List D->List V->Prop
  | nil:Reps K μ H [] []
  | cons {d:D} {v:V} {ds:List D} {vs:List V}:Rep K μ H d v->Reps K μ H ds vs->Reps K μ H (d :: ds) (v :: vs)
end
structure Ext (K:PySem.W.Frag) (μ:List Addr) (H:Hp) (μ':List Addr) (H':Hp):Prop where
  loc:∀ (n:Nat) a,μ[n]?=some a->μ'[n]?=some a
  tup:∀ a xs,SqT K H a xs->SqT K H' a xs
  fz:∀ a xs,Fz K H a xs->Fz K H' a xs
  oth:∀ a o,H a=some o->a ∉ μ->H' a=some o
  new:∀ a,a ∈ μ'->a ∈ μ \/ H a=none
theorem Ext.refl {K:PySem.W.Frag} {μ:List Addr} {H:Hp}:Ext K μ H μ H:=⟨fun _ _ h=>h,fun _ _ h=>h,fun _ _ h=>h,fun _ _ h _=>h,fun _ h=>.inl h⟩
theorem Ext.sub {K:PySem.W.Frag} {μ μ1:List Addr} {H H1:Hp} (a:Ext K μ H μ1 H1) {x:Addr} (h:x ∈ μ):x ∈ μ1:=by
  obtain ⟨n,hn⟩:=List.getElem?_of_mem h
  exact List.mem_of_getElem? (a.loc n x hn)
theorem Ext.apart {K:PySem.W.Frag} {μ μ1:List Addr} {H H1:Hp} (a:Ext K μ H μ1 H1) {x:Addr} {o:HO} (h:H x=some o) (n:x ∉ μ):x ∉ μ1:=fun z=>by
  rcases a.new x z with q | q
  · exact n q
  · rw [h] at q; cases q
theorem Ext.trans {K:PySem.W.Frag} {μ μ1 μ2:List Addr} {H H1 H2:Hp} (a:Ext K μ H μ1 H1) (b:Ext K μ1 H1 μ2 H2):Ext K μ H μ2 H2:=by
  refine ⟨fun n x h=>b.loc n x (a.loc n x h),fun x y h=>b.tup x y (a.tup x y h),fun x y h=>b.fz x y (a.fz x y h),fun x o h n=>b.oth x o (a.oth x o h n) (a.apart h n),fun x h=>?_⟩
  rcases b.new x h with z | z
  · exact a.new x z
  · by_cases hx:x ∈ μ
    · exact .inl hx
    · right
      cases e:H x with
      | none=>rfl
      | some o=>rw [a.oth x o e hx] at z; cases z
mutual
theorem Rep.mono {K:PySem.W.Frag} {μ μ':List Addr} {H H':Hp} (e:Ext K μ H μ' H'):∀ {d:D} {v:V},Rep K μ H d v->Rep K μ' H' d v
  | _,_,.non=>.non
  | _,_,.bl b=>.bl b
  | _,_,.int i=>.int i
  | _,_,.str x=>.str x
  | _,_,.tup h r=>.tup (e.tup _ _ h) (Reps.mono e r)
  | _,_,.loc h=>.loc (e.loc _ _ h)
  | _,_,.fl h r=>.fl (e.fz _ _ h) (Reps.mono e r)
theorem Reps.mono {K:PySem.W.Frag} {μ μ':List Addr} {H H':Hp} (e:Ext K μ H μ' H'):∀ {ds:List D} {vs:List V},Reps K μ H ds vs->Reps K μ' H' ds vs
  | _,_,.nil=>.nil
  | _,_,.cons h r=>.cons (Rep.mono e h) (Reps.mono e r)
end
mutual
theorem Rep.mono' {K:PySem.W.Frag} {μ μ':List Addr} {H:Hp} (e:∀ (n:Nat) a,μ[n]?=some a->μ'[n]?=some a):∀ {d:D} {v:V},Rep K μ H d v->Rep K μ' H d v
  | _,_,.non=>.non
  | _,_,.bl b=>.bl b
  | _,_,.int i=>.int i
  | _,_,.str x=>.str x
  | _,_,.tup h r=>.tup h (Reps.mono' e r)
  | _,_,.loc h=>.loc (e _ _ h)
  | _,_,.fl h r=>.fl h (Reps.mono' e r)
theorem Reps.mono' {K:PySem.W.Frag} {μ μ':List Addr} {H:Hp} (e:∀ (n:Nat) a,μ[n]?=some a->μ'[n]?=some a):∀ {ds:List D} {vs:List V},Reps K μ H ds vs->Reps K μ' H ds vs
  | _,_,.nil=>.nil
  | _,_,.cons h r=>.cons (Rep.mono' e h) (Reps.mono' e r)
end
theorem Reps.length {K:PySem.W.Frag} {μ:List Addr} {H:Hp}:∀ {ds:List D} {vs:List V},Reps K μ H ds vs->ds.length=vs.length
  | _,_,.nil=>rfl
  | _,_,.cons _ r=>by rw [List.length_cons,List.length_cons,r.length]
theorem Reps.get {K:PySem.W.Frag} {μ:List Addr} {H:Hp}:∀ {ds:List D} {vs:List V} {i:Nat} {d:D},Reps K μ H ds vs->ds[i]?=some d->∃ v,vs[i]?=some v /\ Rep K μ H d v
  | _,_,_,_,.nil,e=>by simp at e
  | _,_,0,_,.cons h _,e=>by simp at e; subst e; exact ⟨_,rfl,h⟩
  | _,_,i + 1,d,.cons _ r,e=>by
    obtain ⟨v,h1,h2⟩:=Reps.get (i:=i) (d:=d) r (by simpa using e)
    exact ⟨v,by simpa using h1,h2⟩
theorem Reps.append {K:PySem.W.Frag} {μ:List Addr} {H:Hp}:∀ {ds es:List D} {vs ws:List V},Reps K μ H ds vs->Reps K μ H es ws->Reps K μ H (ds ++ es) (vs ++ ws)
  | _,_,_,_,.nil,r=>r
  | _,_,_,_,.cons h t,r=>.cons h (t.append r)
theorem Reps.atI {K:PySem.W.Frag} {μ:List Addr} {H:Hp} {ds:List D} {vs:List V} {k:Int} {d:D} (r:Reps K μ H ds vs) (e:L2.atI ds k=some d):∃ v,L2.atI vs k=some v /\ Rep K μ H d v:=by
  unfold L2.atI at e ⊢
  rw [<- r.length]
  cases h:ixN ds.length k with
  | none=>rw [h] at e; cases e
  | some j =>
    rw [h] at e
    exact r.get e
inductive RepKs (K:PySem.W.Frag) (μ:List Addr) (H:Hp):List (Key × D)->List (Key × V)->Prop
  | nil:RepKs K μ H [] []
  | cons {k:Key} {d:D} {v:V} {ds:List (Key × D)} {vs:List (Key × V)}:Rep K μ H d v->RepKs K μ H ds vs->RepKs K μ H ((k,d) :: ds) ((k,v) :: vs)
theorem RepKs.mono {K:PySem.W.Frag} {μ μ':List Addr} {H H':Hp} (e:Ext K μ H μ' H'):∀ {ds:List (Key × D)} {vs:List (Key × V)},RepKs K μ H ds vs->RepKs K μ' H' ds vs
  | _,_,.nil=>.nil
  | _,_,.cons h r=>.cons (h.mono e) (r.mono e)
theorem RepKs.length {K:PySem.W.Frag} {μ:List Addr} {H:Hp}:∀ {ds:List (Key × D)} {vs:List (Key × V)},RepKs K μ H ds vs->ds.length=vs.length
  | _,_,.nil=>rfl
  | _,_,.cons _ r=>by rw [List.length_cons,List.length_cons,r.length]
noncomputable def RepO (K:PySem.W.Frag) (μ:List Addr) (H:Hp) (a:Addr):O->Prop
  | .lst ds=>∃ vs,H a=some (.lst vs) /\ Reps K μ H ds vs
  | .dK kvs=>∃ vs,H a=some (.dK vs) /\ RepKs K μ H kvs vs
theorem RepKs.mono' {K:PySem.W.Frag} {μ μ':List Addr} {H:Hp} (e:∀ (n:Nat) a,μ[n]?=some a->μ'[n]?=some a):∀ {ds:List (Key × D)} {vs:List (Key × V)},RepKs K μ H ds vs->RepKs K μ' H ds vs
  | _,_,.nil=>.nil
  | _,_,.cons h r=>.cons (h.mono' e) (r.mono' e)
theorem RepO.mono' {K:PySem.W.Frag} {μ μ':List Addr} {H:Hp} {a:Addr} {o:O} (e:∀ (n:Nat) a,μ[n]?=some a->μ'[n]?=some a) (r:RepO K μ H a o):RepO K μ' H a o:=by
  cases o with
  | lst ds=>obtain ⟨vs,q,r⟩:=r; exact ⟨vs,q,r.mono' e⟩
  | dK ds=>obtain ⟨vs,q,r⟩:=r; exact ⟨vs,q,r.mono' e⟩
structure HR (K:PySem.W.Frag) (μ:List Addr) (h:Hh) (H:Hp):Prop where
  len:μ.length=h.length
  inj:∀ (n m:Nat) (a:Addr),μ[n]?=some a->μ[m]?=some a->n=m
  obj:∀ (n:Nat) (a:Addr) (o:O),μ[n]?=some a->h[n]?=some o->RepO K μ H a o
theorem HR.at {K:PySem.W.Frag} {μ:List Addr} {h:Hh} {H:Hp} (r:HR K μ h H) {n:Nat} {o:O} (e:h[n]?=some o):∃ a,μ[n]?=some a /\ RepO K μ H a o:=by
  have hn:n < h.length:=(List.getElem?_eq_some_iff.mp e).1
  have hm:n < μ.length:=by rw [r.len]; exact hn
  exact ⟨μ[n],List.getElem?_eq_getElem hm,r.obj n _ o (List.getElem?_eq_getElem hm) e⟩
theorem HR.fresh {K:PySem.W.Frag} {μ:List Addr} {h:Hh} {H:Hp} (r:HR K μ h H) {p:Addr} (hp:H p=none):p ∉ μ:=fun z=>by
  obtain ⟨n,hn⟩:=List.getElem?_of_mem z
  have hl:n < h.length:=by rw [<- r.len]; exact (List.getElem?_eq_some_iff.mp hn).1
  have:=r.obj n p h[n] hn (List.getElem?_eq_getElem hl)
  cases e:h[n] with
  | lst ds=>rw [e] at this; obtain ⟨vs,q,_⟩:=this; rw [hp] at q; cases q
  | dK ds=>rw [e] at this; obtain ⟨vs,q,_⟩:=this; rw [hp] at q; cases q
theorem ext_new {K:PySem.W.Frag} {μ:List Addr} {H:Hp} {p:Addr} {u:HO} (hp:H p=none):Ext K μ H μ (upd H p u) :=
  ⟨fun _ _ h=>h,fun a xs h=>by
    rcases h with h | h
    · left
      rcases h with h | ⟨o,h⟩
      · exact .inl (by rw [upd_ne (fun z=>by rw [z,hp] at h; cases h)]; exact h)
      · exact .inr ⟨o,by rw [upd_ne (fun z=>by rw [z,hp] at h; cases h)]; exact h⟩
    · exact .inr h,fun a xs h=>by
    rcases h with ⟨o,h⟩ | h
    · exact .inl ⟨o,by rw [upd_ne (fun z=>by rw [z,hp] at h; cases h)]; exact h⟩
    · exact .inr h,fun a o h _=>by rw [upd_ne (fun z=>by rw [z,hp] at h; cases h)]; exact h,fun _ h=>.inl h⟩
theorem Ext.add {K:PySem.W.Frag} {μ μ':List Addr} {H H':Hp} {p:Addr} (e:Ext K μ H μ' H') (hp:H p=none):Ext K μ H (μ' ++ [p]) H' :=
  ⟨fun n a h=>by rw [List.getElem?_append_left (List.getElem?_eq_some_iff.mp (e.loc n a h)).1]; exact e.loc n a h,e.tup,e.fz,e.oth,
    fun a h=>by
      rcases List.mem_append.mp h with h | h
      · exact e.new a h
      · rw [List.mem_singleton.mp h]; exact .inr hp⟩
theorem RepO.keep {K:PySem.W.Frag} {μ μ':List Addr} {H H':Hp} {a:Addr} {o:O} (e:Ext K μ H μ' H') (k:∀ u,H a=some u->H' a=some u) (r:RepO K μ H a o):RepO K μ' H' a o:=by
  cases o with
  | lst ds=>obtain ⟨vs,q,r⟩:=r; exact ⟨vs,k _ q,r.mono e⟩
  | dK ds=>obtain ⟨vs,q,r⟩:=r; exact ⟨vs,k _ q,r.mono e⟩
theorem keep_new {H:Hp} {p a:Addr} {u w:HO} (hp:H p=none) (h:H a=some w):upd H p u a=some w:=by
  rw [upd_ne (fun z=>by rw [z,hp] at h; cases h)]; exact h
theorem HR.tup {K:PySem.W.Frag} {μ:List Addr} {h:Hh} {H:Hp} {p:Addr} {u:HO} (r:HR K μ h H) (hp:H p=none):HR K μ h (upd H p u) :=
  ⟨r.len,r.inj,fun n a o e1 e2=>(r.obj n a o e1 e2).keep (ext_new hp) fun _ q=>keep_new hp q⟩
theorem HR.add {K:PySem.W.Frag} {μ:List Addr} {h:Hh} {H:Hp} {p:Addr} {o:O} (r:HR K μ h H) (hp:p ∉ μ) (q:∀ μ',(∀ (n:Nat) a,μ[n]?=some a->μ'[n]?=some a)->RepO K μ' H p o):HR K (μ ++ [p]) (h ++ [o]) H:=by
  have gr:∀ (n:Nat) a,μ[n]?=some a->(μ ++ [p])[n]?=some a:=fun n a e=>by rw [List.getElem?_append_left (List.getElem?_eq_some_iff.mp e).1]; exact e
  refine ⟨by rw [List.length_append,List.length_append,r.len]; rfl,fun n m a e1 e2=>?_,fun n a o1 e1 e2=>?_⟩
  · have key:∀ (n:Nat) (a:Addr),(μ ++ [p])[n]?=some a->(n < μ.length /\ μ[n]?=some a) \/ (n=μ.length /\ a=p):=fun n a e=>by
      by_cases hn:n < μ.length
      · rw [List.getElem?_append_left hn] at e; exact .inl ⟨hn,e⟩
      · right
        rw [List.getElem?_append_right (by omega)] at e
        have:n - μ.length=0:=by
          cases q:n - μ.length with
          | zero=>rfl
          | succ z=>rw [q] at e; simp at e
        rw [this] at e
        simp at e
        exact ⟨by omega,e.symm⟩
    rcases key n a e1 with ⟨hn,q1⟩ | ⟨hn,q1⟩ <;> rcases key m a e2 with ⟨hm,q2⟩ | ⟨hm,q2⟩
    · exact r.inj n m a q1 q2
    · exact absurd (List.mem_of_getElem? q1) (q2 ▸ hp)
    · exact absurd (List.mem_of_getElem? q2) (q1 ▸ hp)
    · omega
  · by_cases hn:n < μ.length
    · rw [List.getElem?_append_left hn] at e1
      rw [List.getElem?_append_left (by rw [<- r.len]; exact hn)] at e2
      exact (r.obj n a o1 e1 e2).mono' gr
    · rw [List.getElem?_append_right (by omega)] at e1
      have hz:n - μ.length=0:=by
        cases z:n - μ.length with
        | zero=>rfl
        | succ y=>rw [z] at e1; simp at e1
      rw [hz] at e1
      simp at e1
      subst e1
      rw [List.getElem?_append_right (by rw [<- r.len]; omega),<- r.len,hz] at e2
      simp at e2
      subst e2
      exact q _ gr
theorem HR.alloc {K:PySem.W.Frag} {μ:List Addr} {h:Hh} {H:Hp} {p:Addr} {u:HO} {o:O} (r:HR K μ h H) (hp:H p=none) (hm:p ∉ μ) (q:∀ μ',(∀ (n:Nat) a,μ[n]?=some a->μ'[n]?=some a)->RepO K μ' (upd H p u) p o):HR K (μ ++ [p]) (h ++ [o]) (upd H p u) :=
  (r.tup hp).add hm q
theorem HR.chg {K:PySem.W.Frag} {μ:List Addr} {h:Hh} {H:Hp} {n:Nat} {a:Addr} {o o':O} {u:HO} (r:HR K μ h H) (hn:h[n]?=some o) (ha:μ[n]?=some a)
    (q:∀ H',Ext K μ H μ H'->H' a=some u->RepO K μ H' a o'):HR K μ (h.set n o') (upd H a u) /\ Ext K μ H μ (upd H a u):=by
  obtain ⟨w,hw,nt,nf⟩:∃ w,H a=some w /\ (∀ xs,w ≠ .tup xs) /\ ∀ o x,w ≠ .frz o x:=by
    have z:=r.obj n a o ha hn
    cases o with
    | lst ds=>obtain ⟨vs,e,_⟩:=z; exact ⟨_,e,fun _ y=>(nomatch y),fun _ _ y=>(nomatch y)⟩
    | dK ds=>obtain ⟨vs,e,_⟩:=z; exact ⟨_,e,fun _ y=>(nomatch y),fun _ _ y=>(nomatch y)⟩
  have ht:∀ b xs,SqT K H b xs->SqT K (upd H a u) b xs:=fun b xs z=>by
    rcases z with z | z
    · left
      rcases z with z | ⟨ob,z⟩
      · exact .inl (by rw [upd_ne (fun y=>by rw [y,hw] at z; exact nt _ (Option.some.inj z))]; exact z)
      · exact .inr ⟨ob,by rw [upd_ne (fun y=>by rw [y,hw] at z; exact nf _ _ (Option.some.inj z))]; exact z⟩
    · exact .inr z
  have hf:∀ b xs,Fz K H b xs->Fz K (upd H a u) b xs:=fun b xs z=>by
    rcases z with ⟨ob,z⟩ | z
    · exact .inl ⟨ob,by rw [upd_ne (fun y=>by rw [y,hw] at z; exact nf _ _ (Option.some.inj z))]; exact z⟩
    · exact .inr z
  have ex:Ext K μ H μ (upd H a u):=⟨fun _ _ z=>z,ht,hf,fun b v e z=>by rw [upd_ne (fun (y:b=a)=>z (by rw [y]; exact List.mem_of_getElem? ha))]; exact e,fun _ z=>.inl z⟩
  have hl:n < h.length:=(List.getElem?_eq_some_iff.mp hn).1
  refine ⟨⟨by rw [List.length_set]; exact r.len,r.inj,fun m b v e1 e2=>?_⟩,ex⟩
  by_cases hmn:m=n
  · subst hmn
    rw [List.getElem?_set_self hl] at e2
    cases e2
    rw [ha] at e1
    cases e1
    exact q _ ex upd_same
  · rw [List.getElem?_set_ne (Ne.symm hmn)] at e2
    have nb:b ≠ a:=fun y=>hmn (r.inj m n a (y ▸ e1) ha)
    exact (r.obj m b v e1 e2).keep ex fun _ g=>by rw [upd_ne nb]; exact g
structure ER (K:PySem.W.Frag) (μ:List Addr) (ρ:En) (σ:St) (H:Hp):Prop where
  len:ρ.length=σ.length
  val:∀ (i:Nat) d,ρ[i]?=some (some d)->∃ v,σ[i]?=some (some v) /\ Rep K μ H d v
theorem ER.mono {K:PySem.W.Frag} {μ μ':List Addr} {H H':Hp} {ρ:En} {σ:St} (r:ER K μ ρ σ H) (e:Ext K μ H μ' H'):ER K μ' ρ σ H' :=
  ⟨r.len,fun i d h=>let ⟨v,a,b⟩:=r.val i d h; ⟨v,a,b.mono e⟩⟩
theorem ER.set {K:PySem.W.Frag} {μ:List Addr} {H:Hp} {ρ:En} {σ:St} {d:D} {v:V} (r:ER K μ ρ σ H) (q:Rep K μ H d v) (i:Nat):ER K μ (ρ.set i (some d)) (σ.set i (some v)) H:=by
  refine ⟨by rw [List.length_set,List.length_set,r.len],fun j e hj=>?_⟩
  by_cases hij:i=j
  · subst hij
    rw [List.getElem?_set] at hj ⊢
    have hl:i < ρ.length:=by
      by_cases hl:i < ρ.length
      · exact hl
      · rw [if_pos rfl,if_neg hl] at hj; cases hj
    rw [if_pos rfl,if_pos hl] at hj
    rw [if_pos rfl,if_pos (by rw [<- r.len]; exact hl)]
    cases hj
    exact ⟨v,rfl,q⟩
  · rw [List.getElem?_set_ne hij] at hj ⊢
    exact r.val j e hj
noncomputable def PostE {α β:Type} (K:PySem.W.Frag) (cv:Nat->Value) (R:List Addr->Hp->α->β->Prop) (μ:List Addr) (H:Hp) (r:Res α) (Q:β->Hp->Prop) (Z:Value->Hp->Prop):Prop :=
  match r with
  | .ok d h'=>∀ μ' H' v,Ext K μ H μ' H'->HR K μ' h' H'->R μ' H' d v->Q v H'
  | .exc c h'=>∀ μ' H',Ext K μ H μ' H'->HR K μ' h' H'->Z (cv c) H'
  | .no=>False
noncomputable def lift {α β:Type} (K:PySem.W.Frag) (cv:Nat->Value) (R:List Addr->Hp->α->β->Prop) (Z:ZK) (m:En->Hh->Res α):St->Hp->(β->Hp->Prop)->Prop :=
  fun σ H Q=>∃ μ ρ h,HR K μ h H /\ ER K μ ρ σ H /\ PostE K cv R μ H (m ρ h) Q (Z σ)
theorem lift_elim {α β:Type} {K:PySem.W.Frag} {cv:Nat->Value} {R:List Addr->Hp->α->β->Prop} {Z:ZK} {m:En->Hh->Res α} {σ:St} {H:Hp} {Q:β->Hp->Prop} {G:Prop} (f:∀ μ ρ h,HR K μ h H->ER K μ ρ σ H->PostE K cv R μ H (m ρ h) Q (Z σ)->G) (x:lift K cv R Z m σ H Q):G:=by
  obtain ⟨μ,ρ,h,hr,er,q⟩:=x
  exact f μ ρ h hr er q
theorem lift_bind {α β γ δ:Type} {K:PySem.W.Frag} {cv:Nat->Value} {R:List Addr->Hp->α->β->Prop} {R':List Addr->Hp->γ->δ->Prop} {μ:List Addr} {ρ:En} {h:Hh} {σ:St} {H:Hp} {Z:ZK} {m:En->Hh->Res α} {f:α->Hh->Res γ} {Q:δ->Hp->Prop} {Q':β->Hp->Prop}
    (hr:HR K μ h H) (er:ER K μ ρ σ H) (p:PostE K cv R' μ H ((m ρ h).bind f) Q (Z σ))
    (go:∀ a h1 μ1 H1 x,m ρ h=.ok a h1->Ext K μ H μ1 H1->HR K μ1 h1 H1->ER K μ1 ρ σ H1->R μ1 H1 a x->PostE K cv R' μ1 H1 (f a h1) Q (Z σ)->Q' x H1) :
    lift K cv R Z m σ H Q':=by
  refine ⟨μ,ρ,h,hr,er,?_⟩
  cases e:m ρ h with
  | ok a h1 =>
    rw [e,bind_ok] at p
    intro μ1 H1 x e1 r1 q1
    refine go a h1 μ1 H1 x e e1 r1 (er.mono e1) q1 ?_
    unfold PostE at p ⊢
    cases e2:f a h1 with
    | ok b h2=>rw [e2] at p; exact fun μ2 H2 v e3 r3 q3=>p μ2 H2 v (e1.trans e3) r3 q3
    | exc c h2=>rw [e2] at p; exact fun μ2 H2 e3 r3=>p μ2 H2 (e1.trans e3) r3
    | no=>rw [e2] at p; exact p
  | exc c h1=>rw [e,bind_exc] at p; exact p
  | no=>rw [e,bind_no] at p; exact p
theorem PostE.bnd {α β γ δ:Type} {K:PySem.W.Frag} {cv:Nat->Value} {R:List Addr->Hp->α->β->Prop} {R':List Addr->Hp->γ->δ->Prop} {μ:List Addr} {H:Hp} {Z:Value->Hp->Prop} {r:Res α} {f:α->Hh->Res γ} {Q:δ->Hp->Prop} {Q':β->Hp->Prop}
    (p:PostE K cv R' μ H (r.bind f) Q Z) (go:∀ a h1 μ1 H1 x,r=.ok a h1->Ext K μ H μ1 H1->HR K μ1 h1 H1->R μ1 H1 a x->PostE K cv R' μ1 H1 (f a h1) Q Z->Q' x H1):PostE K cv R μ H r Q' Z:=by
  cases e:r with
  | ok a h1 =>
    rw [e,bind_ok] at p
    intro μ1 H1 x e1 r1 q1
    refine go a h1 μ1 H1 x e e1 r1 q1 ?_
    unfold PostE at p ⊢
    cases e2:f a h1 with
    | ok b h2=>rw [e2] at p; exact fun μ2 H2 v e3 r3 q3=>p μ2 H2 v (e1.trans e3) r3 q3
    | exc c h2=>rw [e2] at p; exact fun μ2 H2 e3 r3=>p μ2 H2 (e1.trans e3) r3
    | no=>rw [e2] at p; exact p
  | exc c h1=>rw [e,bind_exc] at p; exact p
  | no=>rw [e,bind_no] at p; exact p
theorem PostE.here {α β:Type} {K:PySem.W.Frag} {cv:Nat->Value} {R:List Addr->Hp->α->β->Prop} {μ:List Addr} {H:Hp} {d:α} {h:Hh} {v:β} {Q:β->Hp->Prop} {Z:Value->Hp->Prop} (p:PostE K cv R μ H (.ok d h) Q Z) (hr:HR K μ h H) (r:R μ H d v):Q v H :=
  p μ H v Ext.refl hr r
end PI
set_option Elab.async false
set_option linter.all false
set_option maxRecDepth 100000
namespace PI
open PySem L2 PySem.Spec
open PyProof.Rows hiding St
section
variable {X:Cx} {pins:List (Addr × Obj)} {σ:St} {H:Hp} {s:Shared} {μ:List Addr} {h:Hh}
mutual
theorem reads_of (I:Inv X pins σ H s):∀ {d:D} {v:V} {u:Value} {p:PyData},Rep X.K μ H d v->RelV v u->D.pd h d=some p->∃ as,Reads s.heap u p as
  | .non,_,_,_,r,q,e=>by cases r; cases q; cases e; exact ⟨_,.none⟩
  | .bl b,_,_,_,r,q,e=>by cases r; cases q; cases e; exact ⟨_,.bool b⟩
  | .int i,_,_,_,r,q,e=>by cases r; obtain ⟨t,rfl⟩:=q; cases e; exact ⟨_,.int i t⟩
  | .str x,_,_,_,r,q,e=>by cases r; obtain ⟨t,rfl⟩:=q; cases e; exact ⟨_,.str x t⟩
  | .tup ds,_,_,_,r,q,e=>by
    cases r with
    | tup hs rs =>
      cases q
      unfold D.pd at e
      cases e1:D.pds h ds with
      | none=>rw [e1] at e; cases e
      | some ps =>
        rw [e1] at e; cases e
        obtain ⟨its,rv,⟨o,g1,g2,n,g3⟩,_⟩:=I.tuple hs
        obtain ⟨as,ra⟩:=readsAll_of I rs rv e1
        exact ⟨_,.tuple g1 g2 g3 (by simpa using ra)⟩
  | .loc n,_,_,_,r,q,e=>by cases e
  | .fl ds,_,_,_,r,q,e=>by
    cases r with
    | fl hs rs =>
      cases q
      unfold D.pd at e
      cases e1:D.pds h ds with
      | none=>rw [e1] at e; cases e
      | some ps =>
        rw [e1] at e; cases e
        obtain ⟨its,rv,⟨o,n,g1,g2,_,g3⟩,_⟩:=I.list hs.sq
        obtain ⟨as,ra⟩:=readsAll_of I rs rv e1
        exact ⟨_,.list g1 g2 g3 (by simpa using ra)⟩
theorem readsAll_of (I:Inv X pins σ H s):∀ {ds:List D} {vs:List V} {us:List Value} {ps:List PyData},Reps X.K μ H ds vs->Vals vs us->D.pds h ds=some ps->∃ as,ReadsAll s.heap us ps as
  | [],_,_,_,r,q,e=>by cases r; cases q; cases e; exact ⟨_,.nil⟩
  | d :: ds,_,_,_,r,q,e=>by
    cases r with
    | cons r1 r2 =>
      cases q with
      | cons q1 q2 =>
        unfold D.pds at e
        cases e1:D.pd h d with
        | none=>rw [e1] at e; cases e
        | some p =>
          cases e2:D.pds h ds with
          | none=>rw [e1,e2] at e; cases e
          | some ps =>
            rw [e1,e2] at e; cases e
            obtain ⟨as,ra⟩:=reads_of I r1 q1 e1
            obtain ⟨bs,rb⟩:=readsAll_of I r2 q2 e2
            exact ⟨_,.cons ra rb⟩
end
theorem HR.rd (hr:HR X.K μ h H) {n:Nat} {ds:List D} (e:rd h n=some ds) {a:Addr} (m:μ[n]?=some a):∃ vs,SqL X.K H a vs /\ Reps X.K μ H ds vs:=by
  unfold PI.rd at e
  cases e1:h[n]? with
  | none=>rw [e1] at e; cases e
  | some o =>
    rw [e1] at e
    have q:=hr.obj n a o m e1
    cases o with
    | lst xs=>cases e; obtain ⟨vs,q1,q2⟩:=q; exact ⟨vs,SqL.of q1,q2⟩
    | dK xs=>cases e
theorem readsT_of (I:Inv X pins σ H s) (hr:HR X.K μ h H) {d:D} {v:V} {u:Value} {p:PyData} (r:Rep X.K μ H d v) (q:RelV v u) (e:pdT h d=some p):∃ as,Reads s.heap u p as:=by
  cases d with
  | loc n =>
    cases r with
    | loc m =>
      cases q
      rw [pdT_loc] at e
      cases e1:rd h n with
      | none=>rw [e1] at e; cases e
      | some ds =>
        rw [e1] at e
        cases e2:D.pds h ds with
        | none=>rw [show (some ds).bind (fun xs=>(D.pds h xs).map PyData.list)=(D.pds h ds).map PyData.list from rfl,e2] at e; cases e
        | some ps =>
          rw [show (some ds).bind (fun xs=>(D.pds h xs).map PyData.list)=(D.pds h ds).map PyData.list from rfl,e2] at e; cases e
          obtain ⟨vs,hs,rs⟩:=hr.rd e1 m
          obtain ⟨its,rv,⟨o,n',g1,g2,_,g3⟩,_⟩:=I.list hs
          obtain ⟨as,ra⟩:=readsAll_of I rs rv e2
          exact ⟨_,.list g1 g2 g3 (by simpa using ra)⟩
  | non=>exact reads_of (h:=h) I r q e
  | bl b=>exact reads_of (h:=h) I r q e
  | int i=>exact reads_of (h:=h) I r q e
  | str x=>exact reads_of (h:=h) I r q e
  | tup ds=>exact reads_of (h:=h) I r q e
  | fl ds=>exact reads_of (h:=h) I r q e
end
theorem line_le {n:Nat} (h:n<=1000000):n<=sizeLine:=by rw [sizeLine_eq]; omega
theorem line_lt {n:Nat} (h:n < 1000000):n < sizeLine:=by rw [sizeLine_eq]; omega
section
variable {X:Cx} {cv:Nat->Value}
noncomputable def r2 (K:PySem.W.Frag) (cv:Nat->Value) (f:D->D->Hh->Res D):R2:=fun x y H Q=>∃ μ h a b Z,HR K μ h H /\ Rep K μ H a x /\ Rep K μ H b y /\ PostE K cv (Rep K) μ H (f a b h) Q Z
noncomputable def r1 (K:PySem.W.Frag) (cv:Nat->Value) (f:D->Hh->Res D):V->Hp->VK->Prop:=fun x H Q=>∃ μ h a Z,HR K μ h H /\ Rep K μ H a x /\ PostE K cv (Rep K) μ H (f a h) Q Z
theorem op_mulB:OpR X (binaryOp .Mult) (rI (fun i j=>Builtin.Int.intBits i<=2 ^ 20 /\ Builtin.Int.intBits j<=2 ^ 20) fun i j=>.int (i * j)):=opI fun _ _ _ _ _ _ _ hc q=>mul_int q (IntMulOk.of_bits hc.1 hc.2)
theorem op_shlB:OpR X (binaryOp .LShift) (rI (fun i j=>Builtin.Int.intBits i<=2 ^ 20 /\ 0<=j /\ j<=1000000) fun i j=>.int (i * 2 ^ j.toNat)):=opI fun _ _ _ _ _ _ _ hc q=>lshift_int hc.2.1 (by have:=hc.1; have:=hc.2.2; omega) q
theorem mul_ok {x:Str} {j:Int} (h:0<=j /\ j<=1000 /\ x.length<=1000):MulOk x j:=by
  obtain ⟨h0,h1,h2⟩:=h
  refine ⟨by simp; omega,fun a b c=>?_,fun a b=>?_⟩
  · have hj:1<=j:=by omega
    have:(2 ^ 63 - 1) / 1000<=(2 ^ 63 - 1:Int) / j:=Int.le_ediv_of_mul_le (by omega) (by
      have:((2 ^ 63 - 1) / 1000:Int) * j<=((2 ^ 63 - 1) / 1000) * 1000:=Int.mul_le_mul_of_nonneg_left h1 (by decide)
      have e:(((2 ^ 63 - 1) / 1000:Int) * 1000)<=2 ^ 63 - 1:=by decide
      omega)
    have e:(1000:Int) < (2 ^ 63 - 1) / 1000:=by decide
    omega
  · have hm:x.length * j.toNat<=1000 * 1000:=Nat.mul_le_mul h2 (by omega)
    unfold PySem.Builtin.Str.tooLong
    exact decide_eq_false (by rw [sizeLine_eq]; omega)
theorem op_mulS:OpR X (binaryOp .Mult) (fun x y H Q=>∃ z j,x=.str z /\ y=.int j /\ (0<=j /\ j<=1000 /\ z.length<=1000) /\ Q (.str (Txt.mul z j)) H):=by
  intro pins s σ H x y v u Q I rx ry h
  obtain ⟨z,j,rfl,rfl,hc,q⟩:=h
  obtain ⟨t,rfl⟩:=rx
  obtain ⟨t',rfl⟩:=ry
  exact SB.mul (mul_ok hc) fun t' k=>⟨.str _,H,I.tok _,⟨_,rfl⟩,q⟩
theorem meets_catT0 (t b:Addr) (xs ys:Array Value) (n m:Nat) (d1 d2:Option Addr) (s1 s2:Array (Option Value)) (h0:xs.isEmpty=true) :
    Meets (Builtin.«tuple.__add__» ⟨[.ref t,.ref b],[]⟩) (fun _ R s =>
      s.heap.get? t=some ⟨.type "tuple",d1,.seq xs n,s1⟩ /\
      s.heap.get? b=some ⟨.type "tuple",d2,.seq ys m,s2⟩ /\
      R (.ok (.ret (Value.ref b))) s) :=
  .of_wp fun prog w A R s h=>by
    obtain ⟨hp,g,d,tk,os⟩:=s
    obtain ⟨hl,hb,h⟩:=h
    have f1:=AutoSeq1.idx_int
    have f2:=AutoSeq1.sub_list_tuple
    have f3:=AutoSeq1.sub_tuple_list
    have f4:=AutoSeq1.sub_tuple_tuple
    have f5:=AutoSeq1.sub_list_list
    wp_walk using AutoSeq1.wpAny_loadPart' hl,AutoSeq1.wpAny_loadPart' hb
    exact ⟨_,rfl,h⟩
theorem cat_nil {A:Around} {E:Value->Shared->Prop} {prog:Program} {w:World} {s:Shared} {t b:Addr} {vs ws:List Value} {Q:Value->Shared->Prop} (ht:IsTup s.heap t vs.toArray) (hb:IsTup s.heap b ws.toArray) (hv:vs=[]) (h1:Q (.ref b) s) :
    wpAny (model prog w) A (binaryOp .Add (.ref t) (.ref b)) Q E s:=by
  obtain ⟨⟨cls,dd,data,sl⟩,ho,hc,n,hd⟩:=id ht
  obtain ⟨⟨cls2,dd2,data2,sl2⟩,ho2,hc2,n2,hd2⟩:=id hb
  simp only at hc hd hc2 hd2
  subst hc hd hc2 hd2
  exact concat_meets ⟨_,ho,rfl⟩ ⟨_,ho2,rfl⟩ noFill_tuple_add seq_tuple_add PySem.F.slot_tuple_add PySem.F.entry_tuple_add (PySem.F.args_tuple_add_2 _ _) (meets_catT0 t b vs.toArray ws.toArray n n2 dd dd2 sl sl2 (by simp [hv])) ⟨ho,ho2,h1⟩
theorem Reps.rep {K:PySem.W.Frag} {μ:List Addr} {H:Hp} {ds:List D} {vs:List V} (r:Reps K μ H ds vs):∀ k:Nat,Reps K μ H (List.replicate k ds).flatten (List.replicate k vs).flatten
  | 0=>.nil
  | k + 1=>by rw [List.replicate_succ,List.replicate_succ,List.flatten_cons,List.flatten_cons]; exact r.append (Reps.rep r k)
section
variable {K:PySem.W.Frag} {μ:List Addr} {H:Hp} {Q:VK} {Z:Value->Hp->Prop}
theorem post_if {c:Prop} [Decidable c] {r:Res D} {G:Prop} (p:PostE K cv (Rep K) μ H (if c then r else .no) Q Z) (f:c->PostE K cv (Rep K) μ H r Q Z->G):G:=by
  by_cases hc:c
  · rw [if_pos hc] at p; exact f hc p
  · rw [if_neg hc] at p; exact p.elim
theorem i2_elim {a b:D} {x y:V} {g:Int->Int->Res D} {G:Prop} (ra:Rep K μ H a x) (rb:Rep K μ H b y) (p:PostE K cv (Rep K) μ H (i2 a b g) Q Z) (f:∀ i j,x=.int i->y=.int j->PostE K cv (Rep K) μ H (g i j) Q Z->G):G:=by
  cases a with
  | int i =>
    cases b with
    | int j=>cases ra; cases rb; exact f i j rfl rfl p
    | _=>exact p.elim
  | _=>exact p.elim
theorem eqR_elim {neg:Bool} {u v:Option PyData} {h:Hh} {G:Prop} (p:PostE K cv (Rep K) μ H (eqR neg u v h) Q Z) (f:∀ pu pv,u=some pu->v=some pv->pu.canLay0=true->pv.canLay0=true->pu.depth<=60->PostE K cv (Rep K) μ H (.ok (.bl (if neg then !PyData.eqv pu pv else PyData.eqv pu pv)) h) Q Z->G):G:=by
  cases u with
  | none=>exact p.elim
  | some pu =>
    cases v with
    | none=>exact p.elim
    | some pv=>exact post_if p fun c q=>f pu pv rfl rfl c.1 c.2.1 c.2.2 q
end
theorem op_addD:OpR X (binaryOp .Add) (r2 X.K cv addD):=by
  intro pins s σ H x y v u Q I rx ry hh
  obtain ⟨μ,h,a,b,Z,hr,ra,rb,p⟩:=hh
  cases a with
  | int i =>
    cases b with
    | int j=>cases ra; cases rb; exact op_add pins s σ H _ _ v u Q I rx ry ⟨_,_,rfl,rfl,p.here hr (.int _)⟩
    | _=>exact p.elim
  | str i =>
    cases b with
    | str j=>cases ra; cases rb; exact post_if p fun c p=>op_add_str pins s σ H _ _ v u Q I rx ry ⟨_,_,rfl,rfl,line_le c,p.here hr (.str _)⟩
    | _=>exact p.elim
  | loc n =>
    cases b with
    | loc m =>
      cases ra with
      | loc ma =>
        cases rb with
        | loc mb =>
          have p:PostE X.K cv (Rep X.K) μ H (match h[n]?,h[m]? with
            | some (.lst xs),some (.lst ys)=>if xs.length + ys.length<=1000000 then .ok (.loc h.length) (h ++ [.lst (xs ++ ys)]) else .no
            | _,_=>.no) Q Z:=p
          cases e1:h[n]? with
          | none=>rw [e1] at p; exact p.elim
          | some o1 =>
            cases e2:h[m]? with
            | none=>rw [e1,e2] at p; cases o1 <;> exact p.elim
            | some o2 =>
              rw [e1,e2] at p
              cases o1 with
              | dK k=>exact p.elim
              | lst xs =>
                cases o2 with
                | dK k=>exact p.elim
                | lst ys =>
                  refine post_if p fun c p=>?_
                  obtain ⟨va,ha,qa⟩:=hr.obj n _ _ ma e1
                  obtain ⟨vb,hb,qb⟩:=hr.obj m _ _ mb e2
                  refine op_cat pins s σ H _ _ v u Q I rx ry ⟨_,_,_,_,rfl,rfl,ha,hb,by rw [<- qa.length,<- qb.length]; exact line_le c,fun b hb=>?_⟩
                  have nb:b ∉ μ:=hr.fresh hb
                  refine p _ _ _ ((ext_new hb).add hb) (hr.alloc hb nb fun μ' g=>⟨_,upd_same,((qa.append qb).mono (ext_new hb)).mono' g⟩) (.loc ?_)
                  rw [<- hr.len,List.getElem?_append_right (Nat.le_refl _),Nat.sub_self]
                  rfl
    | _=>exact p.elim
  | tup ds =>
    cases b with
    | tup es =>
      refine post_if p fun c p=>?_
      cases ra with
      | @tup _ vs a h1 r1 =>
        cases rb with
        | @tup _ ws b h2 r2 =>
          by_cases hv:vs=[]
          · subst hv
            cases r1
            cases rx
            cases ry
            obtain ⟨its,q1,p1,_⟩:=I.tuple h1
            obtain ⟨its2,q2,p2,_⟩:=I.tuple h2
            cases q1
            exact cat_nil p1 p2 rfl ⟨.ref b,H,I,rfl,p.here hr (.tup h2 r2)⟩
          · refine op_catT pins s σ H _ _ v u Q I rx ry ⟨a,b,vs,ws,rfl,rfl,h1,h2,hv,by rw [<- r1.length,<- r2.length]; exact line_le c,fun hz=>?_,fun _ l hl=>?_⟩
            · subst hz
              cases r2
              rw [List.append_nil] at p
              exact p.here hr (.tup h1 r1)
            · exact p μ _ _ (ext_new hl) (hr.tup hl) (.tup (SqT.of upd_same) ((r1.append r2).mono (ext_new hl)))
    | _=>exact p.elim
  | _=>exact p.elim
theorem op_mulD:OpR X (binaryOp .Mult) (r2 X.K cv mulD):=by
  intro pins s σ H x y v u Q I rx ry hh
  obtain ⟨μ,h,a,b,Z,hr,ra,rb,p⟩:=hh
  cases b with
  | int j =>
    cases rb
    cases a with
    | int i=>cases ra; exact post_if p fun c p=>op_mulB pins s σ H _ _ v u Q I rx ry ⟨_,_,rfl,rfl,⟨of_decide_eq_true c.1,of_decide_eq_true c.2⟩,p.here hr (.int _)⟩
    | str z=>cases ra; exact post_if p fun c p=>op_mulS pins s σ H _ _ v u Q I rx ry ⟨_,_,rfl,rfl,c,p.here hr (.str _)⟩
    | loc n =>
      cases ra with
      | loc ma =>
        have p:PostE X.K cv (Rep X.K) μ H (match h[n]? with
          | some (.lst xs)=>if 0<=j /\ j<=1000 /\ xs.length<=1000 then .ok (.loc h.length) (h ++ [.lst (List.replicate j.toNat xs).flatten]) else .no
          | _=>.no) Q Z:=p
        cases e1:h[n]? with
        | none=>rw [e1] at p; exact p.elim
        | some o1 =>
          rw [e1] at p
          cases o1 with
          | dK k=>exact p.elim
          | lst xs =>
            refine post_if p fun c p=>?_
            obtain ⟨va,ha,qa⟩:=hr.obj n _ _ ma e1
            refine op_rep pins s σ H _ _ v u Q I rx ry ⟨_,_,va,rfl,rfl,ha,by omega,by omega,?_,fun b hb=>?_⟩
            · have hm:va.length * j.toNat<=1000 * 1000:=Nat.mul_le_mul (by rw [<- qa.length]; exact c.2.2) (by omega)
              rw [sizeLine_eq]; omega
            · have nb:b ∉ μ:=hr.fresh hb
              refine p _ _ _ ((ext_new hb).add hb) (hr.alloc hb nb fun μ' g=>⟨_,upd_same,((qa.rep j.toNat).mono (ext_new hb)).mono' g⟩) (.loc ?_)
              rw [<- hr.len,List.getElem?_append_right (Nat.le_refl _),Nat.sub_self]
              rfl
    | _=>exact p.elim
  | _=>exact p.elim
theorem op_bin (op:Operator):OpR X (binaryOp op) (r2 X.K cv (binD op)):=by
  cases op with
  | Add=>exact op_addD
  | Mult=>exact op_mulD
  | Sub =>
    intro pins s σ H x y v u Q I rx ry q0
    obtain ⟨μ,h,a,b,Z,hr,ra,rb,p⟩:=q0
    exact i2_elim ra rb p fun i j ex ey p=>op_sub pins s σ H _ _ v u Q I rx ry ⟨i,j,ex,ey,p.here hr (.int _)⟩
  | FloorDiv =>
    intro pins s σ H x y v u Q I rx ry q0
    obtain ⟨μ,h,a,b,Z,hr,ra,rb,p⟩:=q0
    exact i2_elim ra rb p fun i j ex ey p=>post_if p fun c p=>op_fdiv pins s σ H _ _ v u Q I rx ry ⟨i,j,ex,ey,c,p.here hr (.int _)⟩
  | Mod =>
    intro pins s σ H x y v u Q I rx ry q0
    obtain ⟨μ,h,a,b,Z,hr,ra,rb,p⟩:=q0
    exact i2_elim ra rb p fun i j ex ey p=>post_if p fun c p=>op_mod pins s σ H _ _ v u Q I rx ry ⟨i,j,ex,ey,c,p.here hr (.int _)⟩
  | Pow =>
    intro pins s σ H x y v u Q I rx ry q0
    obtain ⟨μ,h,a,b,Z,hr,ra,rb,p⟩:=q0
    exact i2_elim ra rb p fun i j ex ey p=>post_if p fun c p=>op_pow pins s σ H _ _ v u Q I rx ry ⟨i,j,ex,ey,c,p.here hr (.int _)⟩
  | LShift =>
    intro pins s σ H x y v u Q I rx ry q0
    obtain ⟨μ,h,a,b,Z,hr,ra,rb,p⟩:=q0
    exact i2_elim ra rb p fun i j ex ey p=>post_if p fun c p=>op_shlB pins s σ H _ _ v u Q I rx ry ⟨i,j,ex,ey,⟨of_decide_eq_true c.1,c.2⟩,p.here hr (.int _)⟩
  | RShift =>
    intro pins s σ H x y v u Q I rx ry q0
    obtain ⟨μ,h,a,b,Z,hr,ra,rb,p⟩:=q0
    exact i2_elim ra rb p fun i j ex ey p=>post_if p fun c p=>op_shr pins s σ H _ _ v u Q I rx ry ⟨i,j,ex,ey,c,p.here hr (.int _)⟩
  | BitAnd =>
    intro pins s σ H x y v u Q I rx ry q0
    obtain ⟨μ,h,a,b,Z,hr,ra,rb,p⟩:=q0
    exact i2_elim ra rb p fun i j ex ey p=>op_and pins s σ H _ _ v u Q I rx ry ⟨i,j,ex,ey,p.here hr (.int _)⟩
  | BitOr =>
    intro pins s σ H x y v u Q I rx ry q0
    obtain ⟨μ,h,a,b,Z,hr,ra,rb,p⟩:=q0
    exact i2_elim ra rb p fun i j ex ey p=>op_or pins s σ H _ _ v u Q I rx ry ⟨i,j,ex,ey,p.here hr (.int _)⟩
  | _ =>
    intro pins s σ H x y v u Q I rx ry q0
    obtain ⟨μ,h,a,b,Z,hr,ra,rb,p⟩:=q0
    exact p.elim
theorem flat_rep {K:PySem.W.Frag} {μ:List Addr} {H:Hp} {d:D} {v:V} (r:Rep K μ H d v) (f:flatD d=true):v=vOf d /\ flatV v=true:=by
  cases r with
  | non=>exact ⟨rfl,rfl⟩
  | bl b=>exact ⟨rfl,rfl⟩
  | int i=>exact ⟨rfl,rfl⟩
  | str x=>exact ⟨rfl,rfl⟩
  | _=>cases f
theorem flat_reps {K:PySem.W.Frag} {μ:List Addr} {H:Hp}:∀ {ds:List D} {vs:List V},Reps K μ H ds vs->ds.all flatD=true->vs=ds.map vOf /\ vs.all flatV=true
  | _,_,.nil,_=>⟨rfl,rfl⟩
  | _,_,.cons r t,f=>by
    rw [List.all_cons,Bool.and_eq_true] at f
    obtain ⟨rfl,f1⟩:=flat_rep r f.1
    obtain ⟨rfl,f2⟩:=flat_reps t f.2
    exact ⟨rfl,by rw [List.all_cons,f1,f2]; rfl⟩
theorem in_V (x:D) (ds:List D):inV (vOf x) (ds.map vOf)=ds.any fun y=>eqV (vOf y) (vOf x):=by unfold inV; rw [List.any_map]; rfl
theorem flat_repsT {K:PySem.W.Frag} {μ:List Addr} {H:Hp}:∀ {ds:List D} {vs:List V},Reps K μ H ds vs->ds.all flatT=true->(∀ v ∈ vs,flatV v=true \/ ∃ a ts,v=.ref a /\ SqT K H a ts) /\ ds.any isN=vs.any isNonV
  | _,_,.nil,_=>⟨fun v hv=>(nomatch hv),rfl⟩
  | d :: ds,v :: vs,.cons r t,f=>by
    rw [List.all_cons,Bool.and_eq_true] at f
    obtain ⟨f1,f2⟩:=flat_repsT t f.2
    have g:(flatV v=true \/ ∃ a ts,v=.ref a /\ SqT K H a ts) /\ isN d=isNonV v:=by
      have f0:=f.1
      cases r with
      | tup h1 h2=>exact ⟨.inr ⟨_,_,rfl,h1⟩,rfl⟩
      | non=>exact ⟨.inl rfl,rfl⟩
      | bl b=>exact ⟨.inl rfl,rfl⟩
      | int i=>exact ⟨.inl rfl,rfl⟩
      | str x=>exact ⟨.inl rfl,rfl⟩
      | _=>exact absurd (show false=true from f0) Bool.false_ne_true
    exact ⟨fun w hw=>by rcases List.mem_cons.mp hw with rfl | hw; exact g.1; exact f1 w hw,by rw [List.any_cons,List.any_cons,g.2,f2]⟩
theorem op_inXs {neg:Bool} {pins:List (Addr × Obj)} {s:Shared} {σ:St} {H:Hp} {v u:Value} {Q:VK} {μ:List Addr} {h:Hh} {a:D} {x:V} {Z':Value->Hp->Prop} {ds:List D} {vs:List V} {p':Addr} (op:CmpOp) (hop:OpR X (compareOp op) (rIn X.K neg)) (hopN:neg=false->OpR X (compareOp op) (rInN X.K))
    (I:Inv X pins σ H s) (rx:RelV x v) (ry:RelV (.ref p') u) (hr:HR X.K μ h H) (ra:Rep X.K μ H a x) (sq:SqL X.K H p' vs \/ SqT X.K H p' vs) (rs:Reps X.K μ H ds vs) (p:PostE X.K cv (Rep X.K) μ H (inXs neg a ds h) Q Z') :
    wpAny (model X.prog X.w) X.A (compareOp op v u) (EP X pins σ Q) X.xe s:=by
  unfold inXs at p
  split at p
  · rename_i c
    obtain ⟨rfl,f1⟩:=flat_rep ra c.1
    obtain ⟨rfl,f2⟩:=flat_reps rs c.2
    refine hop pins s σ H _ _ v u Q I rx ry ⟨p',_,rfl,sq,f1,f2,?_⟩
    rw [in_V]
    exact p.here hr (.bl _)
  · split at p
    · rename_i c
      cases ra <;> first | (exact absurd c.2.1 Bool.false_ne_true) | skip
      obtain ⟨f1,f2⟩:=flat_repsT rs c.2.2
      refine hopN c.1 pins s σ H _ _ v u Q I rx ry ⟨p',_,rfl,rfl,sq,f1,?_⟩
      rw [<- f2]
      exact p.here hr (.bl _)
    · exact p.elim
theorem keyD_rep' {K:PySem.W.Frag} {μ:List Addr} {H:Hp} {d:D} {v:V} {k:Key} (r:Rep K μ H d v) (e:keyD d=some k):v=kV k:=by
  unfold keyD at e
  cases r <;> first | (cases e; rfl) | cases e
theorem RepKs.none {K:PySem.W.Frag} {μ:List Addr} {H:Hp} {k:Key}:∀ {ds:List (Key × D)} {vs:List (Key × V)},RepKs K μ H ds vs->(valD ds k).isSome=(valV vs k).isSome
  | _,_,.nil=>rfl
  | _,_,.cons (k:=k') (d:=d') (v:=v') h r=>by
    have ih:=RepKs.none (k:=k) r
    by_cases hk:k'=k
    · rw [valV_pos (p:=(k',v')) hk]
      unfold valD
      rw [List.find?_cons_of_pos (by simpa using hk)]
      rfl
    · rw [valV_neg (p:=(k',v')) hk,<- ih]
      unfold valD
      rw [List.find?_cons_of_neg (by simpa using hk)]
theorem op_inI (hu:X.A.units + 1 < cLine) (neg:Bool):OpR X (compareOp (if neg then .NotIn else .In)) (r2 X.K cv (inD neg)):=by
  intro pins s σ H x y v u Q I rx ry hh
  obtain ⟨μ,h,a,b,Z',hr,ra,rb,p⟩:=hh
  have hop:OpR X (compareOp (if neg then .NotIn else .In)) (rIn X.K neg):=by cases neg with | true=>exact op_notIn_seq | false=>exact op_in_seq
  have hopN:neg=false->OpR X (compareOp (if neg then .NotIn else .In)) (rInN X.K):=fun z=>by subst z; exact op_in_none hu
  unfold inD at p
  cases rb with
  | tup h1 h2=>exact op_inXs _ hop hopN I rx ry hr ra (.inr h1) h2 p
  | fl h1 h2=>exact op_inXs _ hop hopN I rx ry hr ra (.inl h1.sq) h2 p
  | @loc nn b' m =>
    cases e1:h[nn]? with
    | none=>simp only [e1] at p; exact p.elim
    | some o =>
      have q:=hr.obj nn b' o m e1
      cases o with
      | lst ds =>
        simp only [e1] at p
        obtain ⟨vs,q1,q2⟩:=q
        exact op_inXs _ hop hopN I rx ry hr ra (.inl (SqL.of q1)) q2 p
      | dK kvs =>
        simp only [e1] at p
        obtain ⟨vs,q1,q2⟩:=q
        cases e2:keyD a with
        | none=>simp only [e2] at p; exact p.elim
        | some k =>
          simp only [e2] at p
          have ey:=keyD_rep' ra e2
          subst ey
          cases ry
          have p':=p.here hr (.bl _)
          rw [q2.none] at p'
          cases neg with
          | true=>exact d_notIn hu I (DGet.k q1) rx fun s' I'=>⟨.bl _,H,I',rfl,p'⟩
          | false=>exact d_in hu I (DGet.k q1) rx fun s' I'=>⟨.bl _,H,I',rfl,p'⟩
  | str z =>
    cases ra with
    | str w =>
      cases neg with
      | true=>exact op_notIn_str pins s σ H _ _ v u Q I rx ry ⟨w,z,rfl,rfl,p.here hr (.bl _)⟩
      | false=>exact op_in_str pins s σ H _ _ v u Q I rx ry ⟨w,z,rfl,rfl,p.here hr (.bl _)⟩
    | _=>exact p.elim
  | _=>exact p.elim
theorem op_cmp (hu:X.A.units + 64 < cLine) (op:CmpOp):OpR X (compareOp op) (r2 X.K cv (cmpD op)):=by
  intro pins s σ H x y v u Q I rx ry hh
  obtain ⟨μ,h,a,b,Z,hr,ra,rb,p⟩:=hh
  cases op with
  | Lt=>exact i2_elim ra rb p fun i j ex ey p=>op_lt pins s σ H _ _ v u Q I rx ry ⟨i,j,ex,ey,p.here hr (.bl _)⟩
  | LtE=>exact i2_elim ra rb p fun i j ex ey p=>op_le pins s σ H _ _ v u Q I rx ry ⟨i,j,ex,ey,p.here hr (.bl _)⟩
  | Gt=>exact i2_elim ra rb p fun i j ex ey p=>op_gt pins s σ H _ _ v u Q I rx ry ⟨i,j,ex,ey,p.here hr (.bl _)⟩
  | GtE=>exact i2_elim ra rb p fun i j ex ey p=>op_ge pins s σ H _ _ v u Q I rx ry ⟨i,j,ex,ey,p.here hr (.bl _)⟩
  | Eq =>
    refine eqR_elim p fun pu pv e1 e2 c1 c2 c3 p=>?_
    obtain ⟨as,q1⟩:=readsT_of I hr ra rx e1
    obtain ⟨bs,q2⟩:=readsT_of I hr rb ry e2
    exact SeqAt.compareEq_reads q1 q2 c1 c2 (by have:=Nat.min_le_left pu.depth pv.depth; omega) ⟨.bl _,H,I,rfl,p.here hr (.bl _)⟩
  | NotEq =>
    refine eqR_elim p fun pu pv e1 e2 c1 c2 c3 p=>?_
    obtain ⟨as,q1⟩:=readsT_of I hr ra rx e1
    obtain ⟨bs,q2⟩:=readsT_of I hr rb ry e2
    exact SeqAt.compareNe_reads q1 q2 c1 c2 (by have:=Nat.min_le_left pu.depth pv.depth; omega) ⟨.bl _,H,I,rfl,p.here hr (.bl _)⟩
  | In=>exact op_inI (cv:=cv) (by omega) false pins s σ H _ _ v u Q I rx ry ⟨μ,h,_,_,Z,hr,ra,rb,p⟩
  | NotIn=>exact op_inI (cv:=cv) (by omega) true pins s σ H _ _ v u Q I rx ry ⟨μ,h,_,_,Z,hr,ra,rb,p⟩
  | Is =>
    cases b with
    | non =>
      cases rb
      cases ry
      refine wpAny_is_plain (by cases ra <;> first | (cases rx; rfl) | (obtain ⟨t,rfl⟩:=rx; rfl)) (fin_bl I (p.here hr (.bl _)) ?_)
      cases ra <;> first | (cases rx; rfl) | (obtain ⟨t,rfl⟩:=rx; rfl)
    | bl y =>
      cases a with
      | bl x =>
        cases ra; cases rb; cases rx; cases ry
        exact wpAny_is_plain rfl (fin_bl I (p.here hr (.bl _)) (by cases x <;> cases y <;> rfl))
      | _=>exact p.elim
    | _=>exact p.elim
  | IsNot =>
    cases b with
    | non =>
      cases rb
      cases ry
      refine wpAny_isNot_plain (by cases ra <;> first | (cases rx; rfl) | (obtain ⟨t,rfl⟩:=rx; rfl)) (fin_bl I (p.here hr (.bl _)) ?_)
      cases ra <;> first | (cases rx; rfl) | (obtain ⟨t,rfl⟩:=rx; rfl)
    | bl y =>
      cases a with
      | bl x =>
        cases ra; cases rb; cases rx; cases ry
        exact wpAny_isNot_plain rfl (fin_bl I (p.here hr (.bl _)) (by cases x <;> cases y <;> rfl))
      | _=>exact p.elim
    | _=>exact p.elim
end
end PI
set_option Elab.async false
set_option linter.all false
set_option maxRecDepth 100000
namespace PI
open PySem L2 PySem.Spec
open PyProof.Rows hiding St
noncomputable def RB:List Addr->Hp->Bool->Bool->Prop:=fun _ _ b c=>b=c
noncomputable def spI (K:PySem.W.Frag) (cv:Nat->Value) (np:Nat) (c:List D->Hh->Res D):Sp:=fun vs H Q E =>
  vs.length=np /\ ∃ μ h ds,HR K μ h H /\ Reps K μ H ds vs /\ PostE K cv (Rep K) μ H (c ds h) Q (fun C H'=>E C none H')
noncomputable def bnames:List Str:=["len","isinstance","int","bool","str","tuple","list","range","max","min","sum","all","any","zip","reversed","sorted","set","enumerate","dict","abs","ValueError"]
noncomputable def gOf (sc:Scope) (x:Str):Bool:=decide (sc.names.lookup x=some .globalImplicit)
noncomputable def relab (scope osc:Scope):Scope :=
  { scope with names:=scope.names.map fun (n,k)=>if (k == .free && osc.kind == .function && osc.names.lookup n == some .cell) then (n,.cell) else (n,k) }
noncomputable def Tg.idx:Tg->List Nat
  | .one i _=>[i]
  | .tup is _=>is.map (·.1)
noncomputable def Tg.ok (sc:Scope) (N:List Str) (t:Tg):Bool:=t.idx.all fun i=>decide (i < N.length) && decide (sc.names.lookup (N.getD i "")=some .local \/ sc.names.lookup (N.getD i "")=some .cell)
noncomputable def Tg.okS (N:List Str) (t:Tg):Bool:=t.idx.all fun i=>decide (i < N.length)
noncomputable def goodN (x:Str):Bool:=!(x == ("__debug__":Str)) && !(x == ("__classdict__":Str))
noncomputable def Tg.forI (t:Tg):I->Bool
  | .zip _ _ _ _=>(match t with | .tup _ _=>true | _=>false)
  | _=>true
mutual
noncomputable def E.ok (sc:Scope) (n:Nm):E->Bool
  | .non _ | .bl _ _ | .int _ _ | .str _ _=>true
  | .var i _=>decide (i < n.N.length)
  | .bin _ a b _=>a.ok sc n && b.ok sc n
  | .un op a _=>a.ok sc n && (match op with | .Not=>a.okT | _=>true)
  | .cmp op a b _=>a.ok sc n && b.ok sc n && !behindInMarks op (b.py n)
  | .and a b r _=>a.ok sc n && b.ok sc n && r.ok sc n && a.okT && b.okT && r.okT
  | .or a b r _=>a.ok sc n && b.ok sc n && r.ok sc n && a.okT && b.okT && r.okT
  | .ite c a b _=>c.ok sc n && a.ok sc n && b.ok sc n && c.okT
  | .call f a r _ _=>decide (f < n.F.length) && gOf sc (n.F.getD f "") && a.ok sc n && r.ok sc n
  | .len a _ _=>gOf sc "len" && a.ok sc n
  | .isi T a _ _ _=>gOf sc "isinstance" && gOf sc (tyName T) && decide (T < 5) && a.ok sc n
  | .sub a i _=>a.ok sc n && i.ok sc n
  | .tup es _=>es.ok sc n
  | .ofL l=>l.ok sc n
  | .tupL l _ _=>gOf sc "tuple" && l.ok sc n
  | .tupE e _ _=>gOf sc "tuple" && e.ok sc n
  | .cut a lo hi _ _=>a.ok sc n && lo.ok sc n && hi.ok sc n
  | .dic _=>true
  | .m0 _ o p1 p=>o.ok sc n && decide (p1.endLine=p.line)
  | .m1 _ o a p1 p=>o.ok sc n && a.ok sc n && decide (p1.endLine=p.line)
  | .c1 f a _ _=>gOf sc f.name && a.ok sc n
  | .cmpN _ a _ _=>a.ok sc n
  | .join o a p1 p=>o.ok sc n && a.ok sc n && decide (p1.endLine=p.line)
  | .split o a p1 p=>o.ok sc n && a.ok sc n && decide (p1.endLine=p.line)
  | .gcon x c _=>gOf sc x && decide ((x,c) ∈ n.G)
  | .gsub x kvs i _ _=>gOf sc x && decide ((x,Cn.dic kvs) ∈ n.G) && i.ok sc n
noncomputable def Eo.ok (sc:Scope) (n:Nm):Eo->Bool
  | .none=>true
  | .some e=>e.ok sc n
noncomputable def L.ok (sc:Scope) (n:Nm):L->Bool
  | .disp es _=>es.ok sc n
  | .comp elt t it c NC cap csc _=>(it.ok sc n && t.forI it) && compOk sc csc n.N NC cap && decide NC.Nodup && NC.all goodN && t.ok csc NC && elt.ok (relab csc sc) ⟨NC,n.F,n.G⟩ && c.ok (relab csc sc) ⟨NC,n.F,n.G⟩ && c.okT && c.short
noncomputable def I.ok (sc:Scope) (n:Nm):I->Bool
  | .seq e=>e.ok sc n
  | .lst l=>l.ok sc n
  | .rng a _ _=>gOf sc "range" && a.ok sc n
  | .zip a b _ _=>gOf sc "zip" && a.ok sc n && b.ok sc n
noncomputable def Es.ok (sc:Scope) (n:Nm):Es->Bool
  | .nil=>true
  | .cons e r=>e.ok sc n && r.ok sc n
noncomputable def E.okT:E->Bool
  | .non _ | .bl _ _ | .int _ _ | .str _ _=>false
  | .ite _ _ _ _=>false
  | .ofL _=>false
  | .dic _=>false
  | .gcon _ _ _=>false
  | .un op a _=>match op with | .Not=>a.okT | _=>true
  | _=>true
noncomputable def Es.okT:Es->Bool
  | .nil=>true
  | .cons e r=>e.okT && r.okT
noncomputable def Es.short:Es->Bool
  | .nil=>true
  | .cons _ .nil=>true
  | .cons _ (.cons _ _)=>false
end
noncomputable def TupK (K:PySem.W.Frag) (a:Addr) (xs:List Str):Prop:=∃ (o:Obj) (its:Array Value) (n:Nat),K.lookup a=some o /\ o.cls=.type "tuple" /\ o.data=.seq its n /\ its.size<=sizeLine /\ Vals (xs.map V.str) its.toList
noncomputable def CvOk (K:PySem.W.Frag) (v:Value):Cv->Prop
  | .tup xs=>∃ a,v=.ref a /\ TupK K a xs
  | .int i=>∃ t,v=.int i t
noncomputable def DicV (K:PySem.W.Frag):List (Str × Cv)->List (Key × Value)->Prop
  | [],[]=>True
  | kx :: r,qv :: s=>qv.1=.inr kx.1 /\ CvOk K qv.2 kx.2 /\ DicV K r s
  | _,_=>False
noncomputable def CnOk (P:Program) (w:World) (K:PySem.W.Frag) (v:Value):Cn->Prop
  | .int i=>∃ t,v=.int i t
  | .str x=>∃ t,v=.str x t
  | .tup xs=>∃ a,v=.ref a /\ TupK K a xs
  | .exc _ _=>∃ a bmB newId initId B,v=.ref a /\ PySem.W.excIn K a bmB newId=true /\ ExcBaseFacts B newId initId bmB /\ bmB.contains (.type "BaseException")=true
  | .dic kvs=>∃ a o es ep vs,v=.ref a /\ K.lookup a=some o /\ o.ExactDict /\ o.data=.dict es ep /\ KeysOf (mixKind P w) es /\ Pairs (mixKind P w) es.toList vs /\ (vs.map (·.1)).Nodup /\ DicV K kvs vs
structure TstK (K:PySem.W.Frag) (G:List (Str × Cn)) (cv:Nat->Value) (C:Addr) (u:List Nat):Prop where
  ec:ExC K C
  ve:PySem.W.kitOne K (.ref C) (.type "ValueError")=some true
  ot:∀ y d w,(y,Cn.exc d w) ∈ G->PySem.W.kitOne K (.ref C) (cv d)=some (u.contains d)
structure Kx (X:Cx) (Z:ZK) (k:Nat) (n:Nm) (cv:Nat->Value) (cl:Nat->List D->Hh->Res D):Prop where
  th:Thr X Z
  rm:Room k X.A
  nN:X.N=n.N
  nd:X.N.Nodup
  cm:X.calm=true
  kd:X.env.scope.kind=.function
  nm:∀ x ∈ n.N,Vis X.env.scope x /\ goodN x=true
  bm:∀ x,x ∈ bnames->X.mg x=none
  gc:∀ x c,(x,c) ∈ n.G->(x == ("__debug__":Str))=false /\ ∃ v,X.mg x=some v /\ CnOk X.prog X.w X.K v c
  fn:∀ i x,n.F[i]?=some x->(x == ("__debug__":Str))=false /\ ∃ f fd ps,X.mg x=some (.ref f) /\ PySem.W.keepIn X.K (.ref f)=true /\ Binds X.K fd ps [] /\ (∀ ds h,cl i ds h ≠ .no->ds.length=ps.length) /\
    FnOk X.prog X.w X.K X.mg X.base (CXs X.prog X.w) k f fd ps (spI X.K cv ps.length (cl i))
  xc:∀ x c u,(x,Cn.exc c u) ∈ n.G->X.mg x=some (cv c) /\ (∀ D ∈ u,∃ a d,cv c=.ref a /\ cv D=.ref d /\ Under X.K a d) /\ ∃ a,cv c=.ref a /\ TstK X.K n.G cv a u
theorem Kx.gl {X:Cx} {Z:ZK} {k:Nat} {n:Nm} {cv:Nat->Value} {cl:Nat->List D->Hh->Res D} (C:Kx X Z k n cv cl) {x:Str} (h:gOf X.env.scope x=true):Gl X x:=show X.env.scope.names.lookup x=some .globalImplicit from of_decide_eq_true h
theorem goodN_of {x:Str} (h:goodN x=true):(x == ("__debug__":Str))=false /\ (x == ("__classdict__":Str))=false:=by unfold goodN at h; simpa using h
theorem bind_pure {α:Type} (r:Res α):(r.bind fun a h=>.ok a h)=r:=by cases r <;> rfl
theorem bind_assoc {α β γ:Type} (r:Res α) (f:α->Hh->Res β) (q:β->Hh->Res γ):(r.bind f).bind q=r.bind fun a h=>(f a h).bind q:=by cases r <;> rfl
theorem PE.mono {X:Cx} {e:Expr} {t t':TE} (p:PE X e t) (h:∀ σ H Q,t' σ H Q->t σ H Q):PE X e t':=fun pins s σ H Q I q=>p pins s σ H Q I (h σ H Q q)
theorem PT.mono {X:Cx} {e:Expr} {t t':TT} (p:PT X e t) (h:∀ σ H Q,t' σ H Q->t σ H Q):PT X e t':=fun pins s σ H Q I q=>p pins s σ H Q I (h σ H Q q)
theorem PW.mono {X:Cx} {e:Expr} {t t':TT} (p:PW X e t) (h:∀ σ H Q,t' σ H Q->t σ H Q):PW X e t':=fun wh pins s σ H Q I q=>p wh pins s σ H Q I (h σ H Q q)
theorem PA.mono {X:Cx} {e:List Expr} {t t':TA} (p:PA X e t) (h:∀ σ H Q,t' σ H Q->t σ H Q):PA X e t':=fun ps pins s σ H Q I q=>p ps pins s σ H Q I (h σ H Q q)
noncomputable def toB (d:D) (h:Hh):Res Bool:=match d with | .bl b=>.ok b h | _=>.no
theorem evT_eq (cl:Nat->List D->Hh->Res D) (e:E) (ρ:En) (h:Hh):e.evT cl ρ h=(e.ev cl ρ h).bind toB:=rfl
section
variable {X:Cx} {Z:ZK} {k:Nat} {n:Nm} {cv:Nat->Value} {cl:Nat->List D->Hh->Res D}
theorem L.py_star (l:L) (r:List Expr) (env:Env):starEach (l.py n :: r) env=(false,eval (l.py n) env) :: starEach r env:=by cases l <;> rfl
theorem star_cons (e:E) (r:List Expr) (env:Env):starEach (e.py n :: r) env=(false,eval (e.py n) env) :: starEach r env:=by
  cases e with
  | ofL l=>exact L.py_star l r env
  | _=>rfl
theorem star_plain:∀ (r:Es) (pos:Pos) (env:Env),(backTo pos (starEach (r.py n) env)).any (·.1)=false
  | .nil,_,_=>rfl
  | .cons e r,pos,env=>by
    show (backTo pos (starEach (e.py n :: r.py n) env)).any (·.1)=false
    rw [star_cons]
    exact star_plain r pos env
theorem plain_ix (e:E):PlainIx (e.py n):=by
  intro o i
  cases e with
  | ofL l=>cases l <;> rfl
  | _=>rfl
theorem pt_lift {e:Expr} {m:En->Hh->Res D} (p:PE X e (lift X.K cv (Rep X.K) Z m)) (he:∀ whole,isTrue e X.env whole=(do let v <- whole; standAt e.pos; holding [v] (truthy v))) :
    PT X e (lift X.K cv RB Z fun ρ h=>(m ρ h).bind toB):=by
  refine PT.mono (pt_val p he) fun σ H Q=>lift_elim fun μ ρ h hr er q=>?_
  refine lift_bind (m:=m) hr er q fun a h1 μ1 H1 x _ e1 r1 er1 qa p1=>?_
  unfold toB at p1
  cases qa with
  | bl b=>exact ⟨b,rfl,p1.here r1 rfl⟩
  | _=>exact p1.elim
noncomputable def Es.evAndT (cl:Nat->List D->Hh->Res D):Es->En->Bool->Hh->Res Bool
  | .nil,_,c,h=>.ok c h
  | .cons e r,ρ,c,h=>if c then (e.evT cl ρ h).bind fun c' h2=>r.evAndT cl ρ c' h2 else .ok false h
noncomputable def Es.evOrT (cl:Nat->List D->Hh->Res D):Es->En->Bool->Hh->Res Bool
  | .nil,_,c,h=>.ok c h
  | .cons e r,ρ,c,h=>if c then .ok true h else (e.evT cl ρ h).bind fun c' h2=>r.evOrT cl ρ c' h2
theorem and_toB:∀ (r:Es) (ρ:En) (d:D) (h:Hh),(r.evAnd cl ρ d h).bind toB=(toB d h).bind fun c h1=>r.evAndT cl ρ c h1
  | .nil,ρ,d,h=>(bind_pure (r:=toB d h)).symm
  | .cons e r,ρ,d,h=>by
    cases d with
    | bl b =>
      cases b with
      | false=>rfl
      | true =>
        show (((e.ev cl ρ h).bind fun y h2=>r.evAnd cl ρ y h2).bind toB)=((e.ev cl ρ h).bind toB).bind fun c' h2=>r.evAndT cl ρ c' h2
        rw [bind_assoc,bind_assoc]
        congr 1
        funext y h2
        exact and_toB r ρ y h2
    | _=>rfl
theorem or_toB:∀ (r:Es) (ρ:En) (d:D) (h:Hh),(r.evOr cl ρ d h).bind toB=(toB d h).bind fun c h1=>r.evOrT cl ρ c h1
  | .nil,ρ,d,h=>(bind_pure (r:=toB d h)).symm
  | .cons e r,ρ,d,h=>by
    cases d with
    | bl b =>
      cases b with
      | true=>rfl
      | false =>
        show (((e.ev cl ρ h).bind fun y h2=>r.evOr cl ρ y h2).bind toB)=((e.ev cl ρ h).bind toB).bind fun c' h2=>r.evOrT cl ρ c' h2
        rw [bind_assoc,bind_assoc]
        congr 1
        funext y h2
        exact or_toB r ρ y h2
    | _=>rfl
end
end PI
set_option Elab.async false
set_option linter.all false
set_option maxRecDepth 100000
set_option maxHeartbeats 4000000
namespace PI
open PySem L2 PySem.Spec
open PyProof.Rows hiding St
section
variable {X:Cx} {Z:ZK} {k:Nat} {n:Nm} {cv:Nat->Value} {cl:Nat->List D->Hh->Res D}
structure SE (X:Cx) (Z:ZK) (n:Nm) (cv:Nat->Value) (cl:Nat->List D->Hh->Res D) (e:E):Prop where
  pe:PE X (e.py n) (lift X.K cv (Rep X.K) Z (e.ev cl))
  pt:e.okT=true->PT X (e.py n) (lift X.K cv RB Z (e.evT cl))
noncomputable def PsOk (X:Cx) (Z:ZK) (n:Nm) (cv:Nat->Value) (cl:Nat->List D->Hh->Res D) (r:Es):Prop:=∀ (ks:List (Str × Pos)) (pos:Pos),ks.length=(r.py n).length ->
  ∃ trs,PPs X pos (ks.map fun q=>some (.Constant (.str q.1) 0 q.2)) (r.py n) trs /\ ∀ σ H (Q:List (V × V)->Hp->Prop),lift X.K cv (Reps X.K) Z (r.ev cl) σ H (fun us H'=>Q ((ks.map fun q=>V.str q.1).zip us) H')->tPairs trs σ H Q
structure SEs (X:Cx) (Z:ZK) (n:Nm) (cv:Nat->Value) (cl:Nat->List D->Hh->Res D) (r:Es):Prop where
  pa:PA X (r.py n) (lift X.K cv (Reps X.K) Z (r.ev cl))
  an:∀ (b:E) (p:Pos),SE X Z n cv cl b->PE X (.BoolOp .And (b.py n :: r.py n) p) (lift X.K cv (Rep X.K) Z fun ρ h=>(b.ev cl ρ h).bind fun y h2=>r.evAnd cl ρ y h2)
  anT:∀ (b:E) (p:Pos),SE X Z n cv cl b->b.okT=true->r.okT=true->PW X (.BoolOp .And (b.py n :: r.py n) p) (lift X.K cv RB Z fun ρ h=>(b.evT cl ρ h).bind fun c h2=>r.evAndT cl ρ c h2)
  orr:∀ (b:E) (p:Pos),SE X Z n cv cl b->PE X (.BoolOp .Or (b.py n :: r.py n) p) (lift X.K cv (Rep X.K) Z fun ρ h=>(b.ev cl ρ h).bind fun y h2=>r.evOr cl ρ y h2)
  orT:∀ (b:E) (p:Pos),SE X Z n cv cl b->b.okT=true->r.okT=true->PW X (.BoolOp .Or (b.py n :: r.py n) p) (lift X.K cv RB Z fun ρ h=>(b.evT cl ρ h).bind fun c h2=>r.evOrT cl ρ c h2)
  ps:PsOk X Z n cv cl r
theorem lift_C {v:V} {d:D} {Q:VK} {σ:St} {H:Hp} (hv:∀ K μ H,Rep K μ H d v) (p:lift X.K cv (Rep X.K) Z (fun _ h=>.ok d h) σ H Q):tC v σ H Q:=by
  obtain ⟨μ,ρ,h,hr,er,q⟩:=p
  exact q.here hr (hv _ _ _)
theorem lift2 {f:D->D->Hh->Res D} {a b:E} {σ:St} {H:Hp} {Q:VK} (p:lift X.K cv (Rep X.K) Z (fun ρ h=>(a.ev cl ρ h).bind fun x h1=>(b.ev cl ρ h1).bind fun y h2=>f x y h2) σ H Q) :
    tOp (r2 X.K cv f) (lift X.K cv (Rep X.K) Z (a.ev cl)) (lift X.K cv (Rep X.K) Z (b.ev cl)) σ H Q:=by
  obtain ⟨μ,ρ,h,hr,er,q⟩:=p
  refine lift_bind (m:=a.ev cl) hr er q fun da h1 μ1 H1 x _ e1 r1 er1 qa p1=>?_
  refine lift_bind (m:=b.ev cl) r1 er1 p1 fun db h2 μ2 H2 y _ e2 r2 er2 qb p2=>?_
  exact ⟨μ2,h2,da,db,_,r2,qa.mono e2,qb,p2⟩
theorem lift1 {f:D->Hh->Res D} {a:E} {σ:St} {H:Hp} {Q:VK} (p:lift X.K cv (Rep X.K) Z (fun ρ h=>(a.ev cl ρ h).bind fun x h1=>f x h1) σ H Q) :
    tUn (r1 X.K cv f) (lift X.K cv (Rep X.K) Z (a.ev cl)) σ H Q:=by
  obtain ⟨μ,ρ,h,hr,er,q⟩:=p
  refine lift_bind (m:=a.ev cl) hr er q fun da h1 μ1 H1 x _ e1 r1 er1 qa p1=>?_
  exact ⟨μ1,h1,da,_,r1,qa,p1⟩
theorem un_op (op:UnaryOp) (h:op=.Invert \/ op=.USub):UnR X (unaryOp op) (r1 X.K cv (unD op)):=by
  intro pins s σ H x v Q I rx hh
  obtain ⟨μ,h',a,Z',hr,ra,p⟩:=hh
  rcases h with rfl | rfl
  · unfold unD at p
    cases ra with
    | int i=>exact un_inv pins s σ H _ v Q I rx ⟨i,rfl,p.here hr (.int _)⟩
    | _=>exact p.elim
  · unfold unD at p
    cases ra with
    | int i=>exact un_neg pins s σ H _ v Q I rx ⟨i,rfl,p.here hr (.int _)⟩
    | _=>exact p.elim
theorem ix_dict (hu:X.A.units + 1 < cLine):IxR X (fun x y H Q=>∃ a v,x=.ref a /\ DGet H a y (some v) /\ Q v H):=by
  intro value slice pins s σ H x y v u Q I rx ry h hs
  obtain ⟨a,w,rfl,g,q⟩:=h
  cases rx
  have ty:s.TypeIs (.ref a) "dict":=by
    rcases g with ⟨kvs,k,e,ey,l⟩ | ⟨kvs,k,b,e,ey,eb,l⟩
    · obtain ⟨_,_,vs,_,o,es,ep,e1,ex,_⟩:=e.ok I.hok
      exact ⟨o,e1,ex.1⟩
    · obtain ⟨_,_,xs,_,o,es,ep,e1,ex,_⟩:=e.ok I.hok
      exact ⟨o,e1,ex.1⟩
  exact tail_any ty slot_dict_getitem.lookup (d_getItem hu I g ry fun w' s' I' r'=>⟨w,H,I',r',q⟩) hs
theorem RepKs.val {K:PySem.W.Frag} {μ:List Addr} {H:Hp} {k:Key} {d:D}:∀ {ds:List (Key × D)} {vs:List (Key × V)},RepKs K μ H ds vs->valD ds k=some d->∃ v,valV vs k=some v /\ Rep K μ H d v
  | _,_,.nil,e=>by unfold valD at e; simp at e
  | _,_,.cons (k:=k') (d:=d') (v:=v') h r,e=>by
    by_cases hk:k'=k
    · rw [valV_pos (p:=(k',v')) hk]
      unfold valD at e
      rw [List.find?_cons_of_pos (by simpa using hk)] at e
      cases e
      exact ⟨_,rfl,h⟩
    · rw [valV_neg (p:=(k',v')) hk]
      unfold valD at e
      rw [List.find?_cons_of_neg (by simpa using hk)] at e
      exact RepKs.val r e
theorem keyD_rep {K:PySem.W.Frag} {μ:List Addr} {H:Hp} {d:D} {v:V} {k:Key} (r:Rep K μ H d v) (e:keyD d=some k):v=kV k:=by
  unfold keyD at e
  cases r <;> first | (cases e; rfl) | cases e
theorem DicV.at {K:PySem.W.Frag} {k:Str} {c:Cv}:∀ {kvs:List (Str × Cv)} {vs:List (Key × Value)},DicV K kvs vs->kvs.lookup k=some c->∃ v,valueAt vs (Sum.inr k:Key)=some v /\ CvOk K v c
  | [],[],_,e=>by cases e
  | [],_ :: _,h,_=>h.elim
  | _ :: _,[],h,_=>h.elim
  | (k',ys) :: r,(q,v) :: s,⟨h1,h2,h4⟩,e=>by
    rw [List.lookup_cons] at e
    by_cases hk:k=k'
    · subst hk
      simp only [beq_self_eq_true] at e
      cases e
      refine ⟨v,?_,h2⟩
      unfold valueAt
      rw [List.find?_cons_of_pos (by simpa using h1)]
      rfl
    · have hb:(k == k')=false:=by simpa using hk
      rw [hb] at e
      obtain ⟨b,e1,e2⟩:=DicV.at h4 e
      refine ⟨b,?_,e2⟩
      unfold valueAt at e1 ⊢
      rw [List.find?_cons_of_neg (by
        have h1':q=Sum.inr k':=h1
        simp only [decide_eq_true_eq]
        intro z
        rw [h1'] at z
        exact hk (Sum.inr.inj z).symm)]
      exact e1
noncomputable def CvV (K:PySem.W.Frag) (u:V):Cv->Prop
  | .tup xs=>∃ a,u=.ref a /\ TupK K a xs
  | .int i=>u=.int i
theorem CvOk.v {K:PySem.W.Frag} {v:Value} {c:Cv} (h:CvOk K v c):∃ u,RelV u v /\ CvV K u c:=by
  cases c with
  | tup xs=>obtain ⟨a,rfl,t⟩:=h; exact ⟨.ref a,rfl,a,rfl,t⟩
  | int i=>obtain ⟨t,rfl⟩:=h; exact ⟨.int i,⟨t,rfl⟩,rfl⟩
theorem ix_cst {kvs:List (Str × Cv)}:IxR X (fun x y H Q=>∃ a k c,x=.ref a /\ y=.str k /\ CnOk X.prog X.w X.K (.ref a) (.dic kvs) /\ kvs.lookup k=some c /\ ∀ u,CvV X.K u c->Q u H):=by
  intro value slice pins s σ H x y v u Q I rx ry h hs
  obtain ⟨a,k,xs,rfl,rfl,ok,l,q⟩:=h
  cases rx
  obtain ⟨a',o,es,ep,vs,ea,e1,ex,ed,ks,ps,nd,dv⟩:=ok
  cases ea
  obtain ⟨b,e2,tk⟩:=dv.at l
  obtain ⟨bu,tr,tk⟩:=tk.v
  have eh:=I.kIn a o e1
  have dd:s.heap.DictOf (mixKind X.prog X.w) a vs:=⟨o,es,ep,eh,ex,ed,ks,ps,nd⟩
  exact tail_any ⟨o,eh,ex.1⟩ slot_dict_getitem.lookup (wpAny_getItem_of (kV_is (k:=.inr k) ry) dd.mapOf e2 ⟨bu,H,I.tok _,tr,q bu tk⟩) hs
theorem TupK.rep {K:PySem.W.Frag} {μ:List Addr} {H:Hp} {a:Addr} {xs:List Str} (h:TupK K a xs):Rep K μ H (.tup (xs.map .str)) (.ref a):=by
  have rs:∀ ys:List Str,Reps K μ H (ys.map D.str) (ys.map V.str):=fun ys=>by
    induction ys with
    | nil=>exact .nil
    | cons y r ih=>exact .cons (.str y) ih
  exact .tup (.inr h) (rs xs)
theorem CvV.rep {K:PySem.W.Frag} {μ:List Addr} {H:Hp} {u:V} {c:Cv} (h:CvV K u c):Rep K μ H c.d u:=by
  cases c with
  | tup xs=>obtain ⟨a,rfl,t⟩:=h; exact t.rep
  | int i=>cases h; exact .int i
theorem ix_ours (hu:X.A.units + 1 < cLine):IxR X (r2 X.K cv subD):=by
  intro value slice pins s σ H x y v u Q I rx ry hh hs
  obtain ⟨μ,h,a,b,Z',hr,ra,rb,p⟩:=hh
  cases ra with
  | tup h1 h2 =>
    cases rb with
    | int k =>
      rw [sub_tup] at p
      split at p
      · rename_i d e
        obtain ⟨w,e1,e2⟩:=h2.atI e
        exact ix_tup value slice pins s σ H _ _ v u Q I rx ry ⟨_,_,_,w,rfl,rfl,h1,e1,p.here hr e2⟩ hs
      · exact p.elim
    | _=>exact p.elim
  | fl h1 h2 =>
    cases rb with
    | int k =>
      rw [sub_fl] at p
      split at p
      · rename_i d e
        obtain ⟨w,e1,e2⟩:=h2.atI e
        exact ix_list value slice pins s σ H _ _ v u Q I rx ry ⟨_,_,_,w,rfl,rfl,h1.sq,e1,p.here hr e2⟩ hs
      · exact p.elim
    | _=>exact p.elim
  | str z =>
    cases rb with
    | int k =>
      rw [sub_str] at p
      split at p
      · rename_i c
        split at p
        · rename_i d e
          exact ix_str value slice pins s σ H _ _ v u Q I rx ry ⟨_,_,_,rfl,rfl,line_le c,e,p.here hr (.str _)⟩ hs
        · exact p.elim
      · exact p.elim
    | _=>exact p.elim
  | @loc nn a m =>
    rw [sub_loc] at p
    cases e1:h[nn]? with
    | none=>rw [e1] at p; exact p.elim
    | some o =>
      rw [e1] at p
      have q:=hr.obj nn a o m e1
      cases o with
      | lst xs =>
        obtain ⟨vs,q1,q2⟩:=q
        cases rb with
        | int k =>
          cases e2:atI xs k with
          | none=>simp only [e2] at p; exact p.elim
          | some d =>
            simp only [e2] at p
            obtain ⟨w,e3,e4⟩:=q2.atI e2
            exact ix_list value slice pins s σ H _ _ v u Q I rx ry ⟨_,_,_,w,rfl,rfl,SqL.of q1,e3,p.here hr e4⟩ hs
        | _=>exact p.elim
      | dK kvs =>
        obtain ⟨vs,q1,q2⟩:=q
        cases e2:keyD b with
        | none=>simp only [e2,Option.bind_none] at p; exact p.elim
        | some k =>
          simp only [e2,Option.bind_some] at p
          cases e3:valD kvs k with
          | none=>simp only [e3] at p; exact p.elim
          | some d =>
            simp only [e3] at p
            obtain ⟨w,e4,e5⟩:=q2.val e3
            have ey:=keyD_rep rb e2
            subst ey
            exact ix_dict hu value slice pins s σ H _ _ v u Q I rx ry ⟨_,w,rfl,e4 ▸ DGet.k q1,p.here hr e5⟩ hs
  | _=>exact p.elim
noncomputable def rLen (K:PySem.W.Frag) (cv:Nat->Value):List V->Hp->VK->Prop:=fun xs H Q=>∃ x,xs=[x] /\ r1 K cv lenD x H Q
theorem call_lenI:CallR X (.builtin "len") (rLen X.K cv):=by
  intro pins s σ H xs us Q I r hh
  obtain ⟨x,rfl,μ,h,a,Z',hr,ra,p⟩:=hh
  refine call_len pins s σ H _ us Q I r ⟨x,?_⟩
  cases ra with
  | tup h1 h2=>exact ⟨_,rfl,.inr ⟨_,h1,h2.length⟩,p.here hr (.int _)⟩
  | @loc nn b m =>
    rw [len_loc] at p
    cases e1:rd h nn with
    | none=>rw [e1] at p; exact p.elim
    | some ys =>
      rw [e1] at p
      obtain ⟨vs,hs1,rs⟩:=hr.rd e1 m
      exact ⟨_,rfl,.inl ⟨_,hs1,rs.length⟩,p.here hr (.int _)⟩
  | fl h1 h2=>exact ⟨_,rfl,.inl ⟨_,h1.sq,h2.length⟩,p.here hr (.int _)⟩
  | str y =>
    rw [len_str] at p
    split at p
    · rename_i c; exact ⟨_,rfl,⟨line_le c,rfl⟩,p.here hr (.int _)⟩
    · exact p.elim
  | _=>exact p.elim
noncomputable def isD (T:Nat) (d:D) (h:Hh):Res D:=match isI h d T with | some b=>.ok (.bl b) h | none=>.no
theorem five {P:Nat->Prop} {T:Nat} (hT:T < 5) (a:P 0) (b:P 1) (c:P 2) (d:P 3) (e:P 4):P T:=by
  match T,hT with | 0,_=>exact a | 1,_=>exact b | 2,_=>exact c | 3,_=>exact d | 4,_=>exact e
theorem call_isI (T:Nat) (hT:T < 5):CallR X (.builtin "isinstance") (fun xs H Q=>∃ x,xs=[x,.ty (tyStr T)] /\ r1 X.K cv (isD T) x H Q):=by
  intro pins s σ H xs us Q I r hh
  obtain ⟨x,rfl,μ,h,a,Z',hr,ra,p⟩:=hh
  obtain ⟨u,w',rfl,rx,rw'⟩:=vals2 r
  cases (show w'=Value.type (tyStr T) from rw')
  unfold isD at p
  have key:∀ (b:Bool),Q (.bl b) H->∀ tk,EP X pins σ Q (.bool b) { s with toks:=tk }:=fun b q tk=>⟨.bl b,H,I.tok _,rfl,q⟩
  cases ra with
  | non =>
    have p1:Q (.bl false) H:=p.here hr (.bl _)
    refine isinst_ok I rx .non (b:=false) ?_ (key _ p1)
    apply five hT <;> rfl
  | bl y =>
    have p1:Q (.bl (T == 0 || T == 1)) H:=p.here hr (.bl _)
    refine isinst_ok I rx (.bl y) (b:=(T == 0 || T == 1)) ?_ (key _ p1)
    apply five hT <;> rfl
  | int y =>
    have p1:Q (.bl (T == 0)) H:=p.here hr (.bl _)
    refine isinst_ok I rx (.int y) (b:=(T == 0)) ?_ (key _ p1)
    apply five hT <;> rfl
  | str y =>
    have p1:Q (.bl (T == 2)) H:=p.here hr (.bl _)
    refine isinst_ok I rx (.str y) (b:=(T == 2)) ?_ (key _ p1)
    apply five hT <;> rfl
  | tup h1 h2 =>
    have p1:Q (.bl (T == 3)) H:=p.here hr (.bl _)
    cases rx
    obtain ⟨its,rv,⟨o,g1,g2,_⟩,_⟩:=I.tuple h1
    refine PySem.W.kia_one PySem.W.kitx_tuple I.kIn ⟨_,g1,g2⟩ (b:=(T == 3)) ?_ (fun z=>nomatch z) (key _ p1)
    apply five hT <;> rfl
  | fl h1 h2 =>
    have p1:Q (.bl (T == 4)) H:=p.here hr (.bl _)
    cases rx
    obtain ⟨its,rv,⟨o,n',g1,g2,_⟩,_⟩:=I.list h1.sq
    refine PySem.W.kia_one PySem.W.kitx_list I.kIn ⟨_,g1,g2⟩ (b:=(T == 4)) ?_ (fun z=>nomatch z) (key _ p1)
    apply five hT <;> rfl
  | @loc nn b m =>
    cases e1:rd h nn with
    | none=>rw [show isI h (.loc nn) T=(rd h nn).map fun _=>T == 4 from rfl,e1] at p; exact p.elim
    | some ys =>
      rw [show isI h (.loc nn) T=(rd h nn).map fun _=>T == 4 from rfl,e1] at p
      have p1:Q (.bl (T == 4)) H:=p.here hr (.bl _)
      obtain ⟨vs,hs1,rs⟩:=hr.rd e1 m
      cases rx
      obtain ⟨its,rv,⟨o,n',g1,g2,_⟩,_⟩:=I.list hs1
      refine PySem.W.kia_one PySem.W.kitx_list I.kIn ⟨_,g1,g2⟩ (b:=(T == 4)) ?_ (fun z=>nomatch z) (key _ p1)
      apply five hT <;> rfl
end
end PI
set_option Elab.async false
set_option linter.all false
set_option maxRecDepth 100000
set_option maxHeartbeats 4000000
namespace PI
open PySem L2 PySem.Spec
open PyProof.Rows hiding St
section
variable {X:Cx} {Z:ZK} {k:Nat} {n:Nm} {cv:Nat->Value} {cl:Nat->List D->Hh->Res D}
noncomputable def rM0 (K:PySem.W.Frag) (cv:Nat->Value) (m:M0):V->List V->Hp->VK->Prop:=fun x vs H Q=>vs=[] /\ r1 K cv (m0D m) x H Q
noncomputable def rM1 (K:PySem.W.Frag) (cv:Nat->Value) (m:M1):V->List V->Hp->VK->Prop:=fun x vs H Q=>∃ y,vs=[y] /\ r2 K cv (m1D m) x y H Q
theorem lst_of {K:PySem.W.Frag} {μ:List Addr} {H:Hp} {h:Hh} (hr:HR K μ h H) {n:Nat} {a:Addr} {xs:List D} (m:μ[n]?=some a) (e:h[n]?=some (.lst xs)):∃ vs,H a=some (.lst vs) /\ Reps K μ H xs vs:=hr.obj n a _ m e
theorem Reps.reverse {K:PySem.W.Frag} {μ:List Addr} {H:Hp}:∀ {ds:List D} {vs:List V},Reps K μ H ds vs->Reps K μ H ds.reverse vs.reverse
  | _,_,.nil=>.nil
  | _,_,.cons h r=>by rw [List.reverse_cons,List.reverse_cons]; exact r.reverse.append (.cons h .nil)
theorem Reps.dropLast {K:PySem.W.Frag} {μ:List Addr} {H:Hp}:∀ {ds:List D} {vs:List V},Reps K μ H ds vs->Reps K μ H ds.dropLast vs.dropLast
  | _,_,.nil=>.nil
  | _,_,.cons h .nil=>.nil
  | _,_,.cons h (.cons h' r)=>.cons h (Reps.dropLast (.cons h' r))
theorem Reps.set {K:PySem.W.Frag} {μ:List Addr} {H:Hp} {d:D} {v:V} (q:Rep K μ H d v):∀ {ds:List D} {vs:List V} (i:Nat),Reps K μ H ds vs->Reps K μ H (ds.set i d) (vs.set i v)
  | _,_,_,.nil=>.nil
  | _,_,0,.cons _ r=>.cons q r
  | _,_,i + 1,.cons h r=>.cons h (Reps.set q i r)
theorem Reps.take {K:PySem.W.Frag} {μ:List Addr} {H:Hp}:∀ {ds:List D} {vs:List V} (i:Nat),Reps K μ H ds vs->Reps K μ H (ds.take i) (vs.take i)
  | _,_,0,_=>.nil
  | _,_,_ + 1,.nil=>.nil
  | _,_,i + 1,.cons h r=>.cons h (Reps.take i r)
theorem Reps.drop {K:PySem.W.Frag} {μ:List Addr} {H:Hp}:∀ {ds:List D} {vs:List V} (i:Nat),Reps K μ H ds vs->Reps K μ H (ds.drop i) (vs.drop i)
  | _,_,0,r=>r
  | _,_,_ + 1,.nil=>.nil
  | _,_,i + 1,.cons _ r=>Reps.drop i r
theorem Reps.cut {K:PySem.W.Frag} {μ:List Addr} {H:Hp} {ds:List D} {vs:List V} (r:Reps K μ H ds vs) (lo hi:Option Int):Reps K μ H (cutXs ds lo hi) (cutV vs lo hi):=by
  unfold cutXs cutV
  rw [<- r.length]
  exact (r.drop _).take _
theorem mt_pop0:MtR X "list.pop" (rM0 X.K cv .pop):=by
  intro pins s σ H x xs v us Q I rx rs hh
  obtain ⟨rfl,μ,h,a,Z',hr,ra,p⟩:=hh
  unfold m0D at p
  cases ra with
  | @loc nn b m =>
    cases e1:h[nn]? with
    | none=>simp only [e1] at p; exact p.elim
    | some o =>
      cases o with
      | dK _=>simp only [e1] at p; exact p.elim
      | lst ds =>
        simp only [e1] at p
        obtain ⟨vs,q1,q2⟩:=lst_of hr m e1
        cases e2:ds.getLast? with
        | none=>simp only [e2] at p; exact p.elim
        | some d =>
          simp only [e2] at p
          rw [List.getLast?_eq_getElem?] at e2
          obtain ⟨w,e3,e4⟩:=q2.get e2
          rw [q2.length] at e3
          obtain ⟨hr',ex⟩:=hr.chg (u:=.lst vs.dropLast) (o':=.lst ds.dropLast) e1 m fun H' ex e=>⟨_,e,(q2.mono ex).dropLast⟩
          exact mt_pop pins s σ H _ _ v us Q I rx rs ⟨b,vs,w,rfl,rfl,q1,e3,p μ _ w ex hr' (e4.mono ex)⟩
  | _=>exact p.elim
theorem mt_append1:MtR X "list.append" (rM1 X.K cv .append):=by
  intro pins s σ H x xs v us Q I rx rs hh
  obtain ⟨y,rfl,μ,h,a,d,Z',hr,ra,rb,p⟩:=hh
  unfold m1D at p
  cases ra with
  | @loc nn b m =>
    cases e1:h[nn]? with
    | none=>simp only [e1] at p; exact p.elim
    | some o =>
      cases o with
      | dK _=>simp only [e1] at p; exact p.elim
      | lst ds =>
        simp only [e1] at p
        obtain ⟨vs,q1,q2⟩:=lst_of hr m e1
        split at p
        · rename_i c
          obtain ⟨hr',ex⟩:=hr.chg (u:=.lst (vs ++ [y])) (o':=.lst (ds ++ [d])) e1 m fun H' ex e=>⟨_,e,(q2.mono ex).append (.cons (rb.mono ex) .nil)⟩
          exact mt_append pins s σ H _ _ v us Q I rx rs ⟨b,vs,y,rfl,rfl,q1,by rw [<- q2.length]; exact line_lt c,p μ _ .non ex hr' .non⟩
        · exact p.elim
  | _=>exact p.elim
noncomputable def rCut (K:PySem.W.Frag) (cv:Nat->Value):V->Option Int->Option Int->Hp->VK->Prop:=fun x lo hi H Q=>∃ μ h a Z,HR K μ h H /\ Rep K μ H a x /\ PostE K cv (Rep K) μ H (cutD a lo hi h) Q Z
theorem new_loc {K:PySem.W.Frag} {cv:Nat->Value} {μ:List Addr} {H:Hp} {h:Hh} {ds:List D} {vs:List V} {Q:VK} {Z:Value->Hp->Prop} (hr:HR K μ h H) (r:Reps K μ H ds vs) (p:PostE K cv (Rep K) μ H (new (.lst ds) h) Q Z) :
    ∀ b,H b=none->Q (.ref b) (upd H b (.lst vs)):=fun b hb=>by
  refine p _ _ _ ((ext_new hb).add hb) (hr.alloc hb (hr.fresh hb) fun μ' g=>⟨_,upd_same,(r.mono (ext_new hb)).mono' g⟩) (.loc ?_)
  rw [<- hr.len,List.getElem?_append_right (Nat.le_refl _),Nat.sub_self]
  rfl
theorem cut_tup {xs:List D} {lo hi:Option Int} {h:Hh}:cutD (.tup xs) lo hi h=if HT.sIx xs.length 0 lo=0 /\ HT.sIx xs.length xs.length hi=xs.length then .ok (.tup xs) h else .ok (.tup (cutXs xs lo hi)) h:=rfl
theorem cut_loc {n:Nat} {lo hi:Option Int} {h:Hh}:cutD (.loc n) lo hi h=match rd h n with | some xs=>new (.lst (cutXs xs lo hi)) h | none=>.no:=rfl
theorem sl_ours:SlR X (rCut X.K cv):=by
  intro pins s σ H x v vl vu lo hi sl Q I rx hs pl pu hh
  obtain ⟨μ,h,a,Z',hr,ra,p⟩:=hh
  cases ra with
  | tup h1 h2 =>
    rw [cut_tup] at p
    split at p
    · rename_i c
      rw [h2.length] at c
      exact sl_tupW pins s σ H _ v vl vu lo hi sl Q I rx hs pl pu ⟨_,_,rfl,h1,c.1,c.2,p.here hr (.tup h1 h2)⟩
    · rename_i c
      rw [h2.length] at c
      exact sl_tup pins s σ H _ v vl vu lo hi sl Q I rx hs pl pu ⟨_,_,rfl,h1,c,fun b hb=>p μ _ _ (ext_new hb) (hr.tup hb) (.tup (SqT.of upd_same) ((h2.cut lo hi).mono (ext_new hb)))⟩
  | fl h1 h2=>exact sl_list pins s σ H _ v vl vu lo hi sl Q I rx hs pl pu ⟨_,_,rfl,h1.sq,new_loc hr (h2.cut lo hi) p⟩
  | str x =>
    simp only [cutD] at p
    split at p
    · rename_i c
      exact sl_str pins s σ H _ v vl vu lo hi sl Q I rx hs pl pu ⟨x,rfl,Nat.le_trans c (by decide),p.here hr (.str _)⟩
    · exact p.elim
  | @loc nn b m =>
    rw [cut_loc] at p
    cases e1:rd h nn with
    | none=>simp only [e1] at p; exact p.elim
    | some xs =>
      simp only [e1] at p
      obtain ⟨vs,hs1,rs⟩:=hr.rd e1 m
      exact sl_list pins s σ H _ v vl vu lo hi sl Q I rx hs pl pu ⟨_,_,rfl,hs1,new_loc hr (rs.cut lo hi) p⟩
  | _=>exact p.elim
theorem seqOf_rep {K:PySem.W.Frag} {μ:List Addr} {H:Hp} {h:Hh} {d:D} {v:V} {xs:List D} (hr:HR K μ h H) (r:Rep K μ H d v) (e:seqOf d h=some xs):∃ a vs,v=.ref a /\ ((SqL K H a vs /\ (∀ ys,d ≠ .tup ys)) \/ (SqT K H a vs /\ d=.tup xs)) /\ Reps K μ H xs vs:=by
  unfold seqOf at e
  cases r with
  | tup h1 h2=>cases e; exact ⟨_,_,rfl,.inr ⟨h1,rfl⟩,h2⟩
  | fl h1 h2=>cases e; exact ⟨_,_,rfl,.inl ⟨h1.sq,fun _ z=>nomatch z⟩,h2⟩
  | @loc nn b m =>
    unfold PI.rd at e
    cases e1:h[nn]? with
    | none=>simp only [e1] at e; cases e
    | some o =>
      cases o with
      | dK _=>simp only [e1] at e; cases e
      | lst ds =>
        simp only [e1] at e
        cases e
        obtain ⟨vs,q1,q2⟩:=lst_of hr m e1
        exact ⟨_,_,rfl,.inl ⟨SqL.of q1,fun _ z=>nomatch z⟩,q2⟩
  | _=>cases e
noncomputable def tupD (d:D) (h:Hh):Res D:=match seqOf d h with | some xs=>.ok (.tup xs) h | none=>.no
theorem call_tupI:CallR X (.type "tuple") (fun xs H Q=>∃ x,xs=[x] /\ r1 X.K cv tupD x H Q):=by
  intro pins s σ H xs us Q I r hh
  obtain ⟨x,rfl,μ,h,a,Z',hr,ra,p⟩:=hh
  unfold tupD at p
  cases e:seqOf a h with
  | none=>rw [e] at p; exact p.elim
  | some ds =>
    rw [e] at p
    obtain ⟨b,vs,rfl,q1,q2⟩:=seqOf_rep hr ra e
    refine call_tuple_of pins s σ H _ us Q I r ⟨b,vs,rfl,?_⟩
    rcases q1 with ⟨q1,_⟩ | ⟨q1,rfl⟩
    · exact .inl ⟨q1,fun l hl=>p μ _ _ (ext_new hl) (hr.tup hl) (.tup (SqT.of upd_same) (q2.mono (ext_new hl)))⟩
    · exact .inr ⟨q1,p.here hr ra⟩
theorem bls_reps {K:PySem.W.Frag} {μ:List Addr} {H:Hp}:∀ {ds:List D} {vs:List V} {bs:List Bool},Reps K μ H ds vs->blsOf ds=some bs->vs=bs.map V.bl
  | _,_,_,.nil,e=>by cases e; rfl
  | _,_,_,.cons r t,e=>by
    cases r with
    | bl b =>
      unfold blsOf at e
      obtain ⟨bs',e1,rfl⟩:=Option.map_eq_some_iff.mp e
      rw [bls_reps t e1]
      rfl
    | _=>cases e
theorem strs_reps {K:PySem.W.Frag} {μ:List Addr} {H:Hp}:∀ {ds:List D} {vs:List V} {bs:List Str},Reps K μ H ds vs->strsOf ds=some bs->vs=bs.map V.str
  | _,_,_,.nil,e=>by cases e; rfl
  | _,_,_,.cons r t,e=>by
    cases r with
    | str b =>
      unfold strsOf at e
      obtain ⟨bs',e1,rfl⟩:=Option.map_eq_some_iff.mp e
      rw [strs_reps t e1]
      rfl
    | _=>cases e
theorem rd_reps {K:PySem.W.Frag} {μ:List Addr} {H:Hp} {h:Hh} {n:Nat} {a:Addr} {ds:List D} (hr:HR K μ h H) (m:μ[n]?=some a) (e:PI.rd h n=some ds):∃ vs,H a=some (.lst vs) /\ Reps K μ H ds vs:=by
  unfold PI.rd at e
  cases e1:h[n]? with
  | none=>simp only [e1] at e; cases e
  | some o =>
    cases o with
    | dK _=>simp only [e1] at e; cases e
    | lst xs =>
      simp only [e1] at e
      cases e
      exact lst_of hr m e1
theorem call_strI:CallR X (.type "str") (fun xs H Q=>∃ x,xs=[x] /\ r1 X.K cv (c1D .str) x H Q):=by
  intro pins s σ H xs us Q I r hh
  obtain ⟨x,rfl,μ,h,a,Z',hr,ra,p⟩:=hh
  unfold c1D at p
  cases ra with
  | int i =>
    simp only at p
    split at p
    · rename_i c
      exact call_str_int pins s σ H _ us Q I r ⟨i,rfl,c,p.here hr (.str _)⟩
    · exact p.elim
  | str z =>
    obtain ⟨u,rfl,t,rfl⟩:=vals1 r
    exact PySem.P.str_of_str ⟨.str z,H,I,⟨_,rfl⟩,p.here hr (.str _)⟩
  | _=>exact p.elim
theorem call_intI:CallR X (.type "int") (fun xs H Q=>∃ x,xs=[x] /\ r1 X.K cv (c1D .int) x H Q):=by
  intro pins s σ H xs us Q I r hh
  obtain ⟨x,rfl,μ,h,a,Z',hr,ra,p⟩:=hh
  unfold c1D at p
  cases ra with
  | int i=>exact call_int1 pins s σ H _ us Q I r (.inl ⟨i,rfl,p.here hr (.int _)⟩)
  | bl b=>exact call_int1 pins s σ H _ us Q I r (.inr ⟨b,rfl,p.here hr (.int _)⟩)
  | str z =>
    simp only at p
    split at p
    · rename_i n e
      split at p
      · rename_i c
        exact call_intS pins s σ H _ us Q I r ⟨z,n,rfl,e,c,p.here hr (.int _)⟩
      · exact p.elim
    · exact p.elim
  | _=>exact p.elim
theorem call_absI:CallR X (.builtin "abs") (fun xs H Q=>∃ x,xs=[x] /\ r1 X.K cv (c1D .abs) x H Q):=by
  intro pins s σ H xs us Q I r hh
  obtain ⟨x,rfl,μ,h,a,Z',hr,ra,p⟩:=hh
  unfold c1D at p
  cases ra with
  | int i=>exact call_abs pins s σ H _ us Q I r ⟨i,rfl,p.here hr (.int _)⟩
  | _=>exact p.elim
theorem call_allI (hc:X.calm=true):CallR X (.builtin "all") (fun xs H Q=>∃ x,xs=[x] /\ r1 X.K cv (c1D .all) x H Q):=by
  intro pins s σ H xs us Q I r hh
  obtain ⟨x,rfl,μ,h,a,Z',hr,ra,p⟩:=hh
  unfold c1D at p
  cases ra with
  | @loc nn b m =>
    simp only at p
    split at p
    · rename_i bs e
      obtain ⟨ds,e1,e2⟩:=Option.bind_eq_some_iff.mp e
      obtain ⟨vs,q1,q2⟩:=rd_reps hr m e1
      have ev:=bls_reps q2 e2
      subst ev
      exact call_all hc pins s σ H _ us Q I r ⟨b,bs,rfl,SqL.of q1,p.here hr (.bl _)⟩
    · exact p.elim
  | _=>exact p.elim
theorem call_any (hc:X.calm=true):CallR X (.builtin "any") (fun xs H Q=>∃ (p:Addr) (bs:List Bool),xs=[.ref p] /\ SqL X.K H p (bs.map V.bl) /\ Q (.bl (bs.any id)) H):=by
  intro pins s σ H xs us Q I r h
  obtain ⟨p,bs,rfl,hq,q⟩:=h
  obtain ⟨u,rfl,ru⟩:=vals1 r
  cases ru
  obtain ⟨its,rv,pl,hz⟩:=I.list hq
  have hb:=bools_of rv
  have hl:s.heap.IsList p its.toArray:=pl.isList
  have hlt:p < s.heap.objs.size:=by obtain ⟨_,e,_⟩:=hl; exact Heap.lt_size e
  refine call_any_walk (wpAny_pyIter_list hl ?_)
  refine ⟨s.heap.objs.size,[s.heap.objs.size,p],[s.heap.objs.size],its.toArray.size,_,_,fun i=>(bs[i]?).getD false,rfl,Walks.list (A:=X.A.in1) (I.ok.hd hc) _ p (Nat.ne_of_lt hlt) its.toArray,
    ⟨⟨_,Heap.get?_push_size _ rfl,rfl,rfl⟩,hl.push _⟩,fun i v s' Q' E' hP hQ=>?_,fun h' tk hk=>?_⟩
  · obtain ⟨b,e,rfl⟩:=hb.get i v (by simpa using hP)
    simp only [e,Option.getD_some] at hQ
    exact wpAny_truthy_bool hQ
  · have e:((List.range its.toArray.size).any fun i=>(bs[i]?).getD false)=bs.any id:=by
      rw [List.size_toArray,hb.length]; exact PyProof.Rows.LSm.range_any bs
    rw [e]
    exact ⟨.bl (bs.any id),H,I.kept (PyProof.Rows.LSm.kept_iter hk),rfl,q⟩
theorem call_anyI (hc:X.calm=true):CallR X (.builtin "any") (fun xs H Q=>∃ x,xs=[x] /\ r1 X.K cv (c1D .any) x H Q):=by
  intro pins s σ H xs us Q I r hh
  obtain ⟨x,rfl,μ,h,a,Z',hr,ra,p⟩:=hh
  unfold c1D at p
  cases ra with
  | @loc nn b m =>
    simp only at p
    split at p
    · rename_i bs e
      obtain ⟨ds,e1,e2⟩:=Option.bind_eq_some_iff.mp e
      obtain ⟨vs,q1,q2⟩:=rd_reps hr m e1
      have ev:=bls_reps q2 e2
      subst ev
      exact call_any hc pins s σ H _ us Q I r ⟨b,bs,rfl,SqL.of q1,p.here hr (.bl _)⟩
    · exact p.elim
  | _=>exact p.elim
theorem Reps.eraseIdx {K:PySem.W.Frag} {μ:List Addr} {H:Hp}:∀ {ds:List D} {vs:List V} (i:Nat),Reps K μ H ds vs->Reps K μ H (ds.eraseIdx i) (vs.eraseIdx i)
  | _,_,_,.nil=>.nil
  | _,_,0,.cons _ r=>r
  | _,_,i + 1,.cons h r=>.cons h (Reps.eraseIdx i r)
theorem mt_joinI:MtR X "str.join" (fun x vs H Q=>∃ y,vs=[y] /\ r2 X.K cv joinD x y H Q):=by
  intro pins s σ H x xs v us Q I rx rs hh
  obtain ⟨y,rfl,μ,h,a,d,Z',hr,ra,rb,p⟩:=hh
  unfold joinD at p
  cases ra with
  | str sep =>
    cases rb with
    | @loc nn b m =>
      simp only at p
      split at p
      · rename_i ys e
        split at p
        · rename_i c
          obtain ⟨ds,e1,e2⟩:=Option.bind_eq_some_iff.mp e
          obtain ⟨vs,q1,q2⟩:=rd_reps hr m e1
          have ev:=strs_reps q2 e2
          subst ev
          exact mt_join pins s σ H _ _ v us Q I rx rs ⟨sep,b,ys,rfl,rfl,SqL.of q1,c,p.here hr (.str _)⟩
        · exact p.elim
      · exact p.elim
    | @tup ds vs b h1 h2 =>
      simp only at p
      split at p
      · rename_i ys e
        split at p
        · rename_i c
          have ev:=strs_reps h2 e
          subst ev
          obtain ⟨t,rfl⟩:=rx
          obtain ⟨u,rfl,ru⟩:=vals1 rs
          cases ru
          obtain ⟨its,rv,pl,_⟩:=I.tuple h1
          exact join_tuple pl (by simpa using strs_of rv) c fun t' k=>⟨.str _,H,I.tok _,⟨_,rfl⟩,p.here hr (.str _)⟩
        · exact p.elim
      · exact p.elim
    | _=>exact p.elim
  | _=>exact p.elim
theorem strs_rep {K:PySem.W.Frag} {μ:List Addr} {H:Hp} (ys:List Str):Reps K μ H (ys.map D.str) (ys.map V.str):=by
  induction ys with
  | nil=>exact .nil
  | cons y r ih=>exact .cons (.str y) ih
theorem mt_splitI:MtR X "str.split" (fun x vs H Q=>∃ y,vs=[y] /\ r2 X.K cv splitD x y H Q):=by
  intro pins s σ H x xs v us Q I rx rs hh
  obtain ⟨y,rfl,μ,h,a,d,Z',hr,ra,rb,p⟩:=hh
  unfold splitD at p
  cases ra with
  | str z =>
    cases rb with
    | str w =>
      simp only at p
      split at p
      · rename_i c
        exact mt_split pins s σ H _ _ v us Q I rx rs ⟨z,w,rfl,rfl,c.1,line_le c.2.1,line_le c.2.2.1,line_le c.2.2.2,new_loc hr (strs_rep _) p⟩
      · exact p.elim
    | _=>exact p.elim
  | _=>exact p.elim
theorem RepKs.map {K:PySem.W.Frag} {μ:List Addr} {H:Hp} {k:Key} {d:D} {v:V} (q:Rep K μ H d v):∀ {ds:List (Key × D)} {vs:List (Key × V)},RepKs K μ H ds vs ->
    RepKs K μ H (ds.map fun kv=>if kv.1=k then (kv.1,d) else kv) (vs.map fun kv=>if kv.1=k then (kv.1,v) else kv)
  | _,_,.nil=>.nil
  | _,_,.cons (k:=k') h r=>by
    rw [List.map_cons,List.map_cons]
    by_cases e:k'=k
    · rw [if_pos e,if_pos e]; exact .cons q (RepKs.map q r)
    · rw [if_neg e,if_neg e]; exact .cons h (RepKs.map q r)
theorem RepKs.any {K:PySem.W.Frag} {μ:List Addr} {H:Hp} (k:Key):∀ {ds:List (Key × D)} {vs:List (Key × V)},RepKs K μ H ds vs->(ds.any fun kv=>decide (kv.1=k))=(vs.any fun kv=>decide (kv.1=k))
  | _,_,.nil=>rfl
  | _,_,.cons h r=>by rw [List.any_cons,List.any_cons,RepKs.any k r]
theorem RepKs.snoc {K:PySem.W.Frag} {μ:List Addr} {H:Hp} {k:Key} {d:D} {v:V} (q:Rep K μ H d v):∀ {ds:List (Key × D)} {vs:List (Key × V)},RepKs K μ H ds vs->RepKs K μ H (ds ++ [(k,d)]) (vs ++ [(k,v)])
  | _,_,.nil=>.cons q .nil
  | _,_,.cons h r=>.cons h (RepKs.snoc q r)
theorem RepKs.put {K:PySem.W.Frag} {μ:List Addr} {H:Hp} {k:Key} {d:D} {v:V} {ds:List (Key × D)} {vs:List (Key × V)} (r:RepKs K μ H ds vs) (q:Rep K μ H d v):RepKs K μ H (putD ds k d) (putK vs k v):=by
  unfold putD putK
  rw [<- r.any k]
  split
  · exact r.map q
  · exact r.snoc q
end
end PI
set_option Elab.async false
set_option linter.all false
set_option maxRecDepth 100000
set_option maxHeartbeats 4000000
namespace PI
open PySem L2 PySem.Spec
open PyProof.Rows hiding St
theorem lift_bind0 {α β γ δ:Type} {K:PySem.W.Frag} {cv:Nat->Value} {R:List Addr->Hp->α->β->Prop} {R':List Addr->Hp->γ->δ->Prop} {μ0 μ:List Addr} {ρ:En} {h:Hh} {σ:St} {H0 H:Hp} {Z:ZK} {Zz:Value->Hp->Prop} {m:En->Hh->Res α} {f:α->Hh->Res γ} {Q:δ->Hp->Prop} {Q':β->Hp->Prop}
    (e0:Ext K μ0 H0 μ H) (hr:HR K μ h H) (er:ER K μ ρ σ H) (p:PostE K cv R' μ0 H0 ((m ρ h).bind f) Q Zz) (hz:∀ C H',Zz C H'->Z σ C H')
    (go:∀ a h1 μ1 H1 x,m ρ h=.ok a h1->Ext K μ H μ1 H1->HR K μ1 h1 H1->ER K μ1 ρ σ H1->R μ1 H1 a x->PostE K cv R' μ0 H0 (f a h1) Q Zz->Q' x H1) :
    lift K cv R Z m σ H Q':=by
  refine ⟨μ,ρ,h,hr,er,?_⟩
  cases e:m ρ h with
  | ok a h1 =>
    rw [e,bind_ok] at p
    exact fun μ1 H1 x e1 r1 q1=>go a h1 μ1 H1 x e e1 r1 (er.mono e1) q1 p
  | exc c h1 =>
    rw [e,bind_exc] at p
    exact fun μ1 H1 e1 r1=>hz _ _ (p μ1 H1 (e0.trans e1) r1)
  | no=>rw [e,bind_no] at p; exact p
noncomputable def Src (K:PySem.W.Frag) (μ0:List Addr) (H0:Hp) (c:Ck) (ds:List D) (J:It):Prop:=∀ μ h H,Ext K μ0 H0 μ H->HR K μ h H->stay c h ->
  (∀ i d,ds[i]?=some d->J.go i H /\ ∀ x H',J.yld i H x H'->Ext K μ H μ H' /\ HR K μ h H' /\ Rep K μ H' d x) /\ J.stop ds.length H
noncomputable def RJ (K:PySem.W.Frag):List Addr->Hp->(Ck × List D)->It->Prop:=fun μ H q J=>Src K μ H q.1 q.2 J
noncomputable def RL (K:PySem.W.Frag) (H0:Hp):List Addr->Hp->List D->V->Prop:=fun μ H ds v=>∃ p vs,v=.ref p /\ H p=some (.lst vs) /\ Reps K μ H ds vs /\ p ∉ μ /\ H0 p=none
noncomputable abbrev liftL (K:PySem.W.Frag) (cv:Nat->Value) (Z:ZK) (m:En->Hh->Res (List D)):TE:=fun σ H Q=>lift K cv (RL K H) Z m σ H Q
section
variable {K:PySem.W.Frag} {μ:List Addr} {H:Hp} {h:Hh} {ds:List D} {vs:List V} {a:Addr}
theorem src_of {c:Ck} {J:It} (k:∀ μ1 h1 H1,Ext K μ H μ1 H1->HR K μ1 h1 H1->stay c h1->(∀ i d,ds[i]?=some d->J.go i H1 /\ ∀ x H',J.yld i H1 x H'->H'=H1 /\ Rep K μ1 H1 d x) /\ J.stop ds.length H1):Src K μ H c ds J:=fun μ1 h1 H1 ex hr st =>
  ⟨fun i d e=>⟨((k μ1 h1 H1 ex hr st).1 i d e).1,fun x H' y=>by obtain ⟨rfl,r⟩:=((k μ1 h1 H1 ex hr st).1 i d e).2 x H' y; exact ⟨Ext.refl,hr,r⟩⟩,(k μ1 h1 H1 ex hr st).2⟩
theorem src_sq {c:Ck} (k:∀ μ1 h1 H1,Ext K μ H μ1 H1->HR K μ1 h1 H1->stay c h1->∃ vs,SqL K H1 a vs /\ Reps K μ1 H1 ds vs):Src K μ H c ds (Itl K a):=src_of fun μ1 h1 H1 ex hr st=>by
  obtain ⟨vs,q1,q2⟩:=k μ1 h1 H1 ex hr st
  refine ⟨fun i d e=>?_,⟨vs,q1,by rw [<- q2.length]; exact Nat.le_refl _⟩⟩
  obtain ⟨w,e1,e2⟩:=q2.get e
  refine ⟨⟨vs,w,q1,e1⟩,fun x H' y=>⟨y.1,?_⟩⟩
  have:=y.2 vs q1
  rw [e1] at this
  cases this
  exact e2
theorem src_loc {n:Nat} (m:μ[n]?=some a):Src K μ H [(n,ds)] ds (Itl K a):=src_sq fun μ1 h1 H1 ex hr st=>by
  have e:rd h1 n=some ds:=st (n,ds) (List.mem_singleton.mpr rfl)
  have m1:=ex.loc n a m
  unfold PI.rd at e
  cases e1:h1[n]? with
  | none=>simp only [e1] at e; cases e
  | some o =>
    cases o with
    | dK _=>simp only [e1] at e; cases e
    | lst xs =>
      simp only [e1] at e
      cases e
      obtain ⟨vs,q1,q2⟩:=lst_of hr m1 e1
      exact ⟨vs,SqL.of q1,q2⟩
theorem src_fl (f:Fz K H a vs) (r:Reps K μ H ds vs):Src K μ H [] ds (Itl K a):=src_sq fun μ1 h1 H1 ex hr st=>⟨vs,(ex.fz _ _ f).sq,r.mono ex⟩
theorem src_new (e:H a=some (.lst vs)) (n:a ∉ μ) (r:Reps K μ H ds vs):Src K μ H [] ds (Itl K a):=src_sq fun μ1 h1 H1 ex hr st=>⟨vs,SqL.of (ex.oth _ _ e n),r.mono ex⟩
theorem src_tup (f:SqT K H a vs) (r:Reps K μ H ds vs):Src K μ H [] ds (Itt K a):=src_of fun μ1 h1 H1 ex hr st=>by
  have q1:=ex.tup _ _ f
  have q2:=r.mono ex
  refine ⟨fun i d e=>?_,⟨vs,q1,by rw [<- q2.length]; exact Nat.le_refl _⟩⟩
  obtain ⟨w,e1,e2⟩:=q2.get e
  refine ⟨⟨vs,w,q1,e1⟩,fun x H' y=>⟨y.1,?_⟩⟩
  have:=y.2 vs q1
  rw [e1] at this
  cases this
  exact e2
theorem src_str (z:Str):Src K μ H [] (z.cps.toList.map fun c=>.str ⟨#[c]⟩) (Its z):=src_of fun μ1 h1 H1 ex hr st=>by
  refine ⟨fun i d e=>?_,by show z.length<=_; rw [List.length_map]; exact Nat.le_of_eq rfl⟩
  rw [List.getElem?_map] at e
  cases e1:z.cps.toList[i]? with
  | none=>rw [e1] at e; cases e
  | some c =>
    rw [e1] at e
    cases e
    refine ⟨?_,fun x H' y=>⟨y.1,?_⟩⟩
    · have:=(List.getElem?_eq_some_iff.mp e1).1
      exact (by simpa using this:i < z.cps.size)
    · obtain ⟨c',e2,rfl⟩:=y.2
      rw [e1] at e2
      cases e2
      exact .str _
theorem zip_src {c:Ck} {d:D} {x:V} (r:Rep K μ H d x) (hr:HR K μ h H) (e:seqC d h=some (c,ds)):∃ l b vs,x=.ref l /\ SqB K H l b vs /\ vs.length=ds.length /\ ∀ μ1 h1 H1,Ext K μ H μ1 H1->HR K μ1 h1 H1->stay c h1->∃ vs',SqB K H1 l b vs' /\ Reps K μ1 H1 ds vs':=by
  cases r with
  | @tup xs vs a f r =>
    cases e
    exact ⟨a,false,vs,rfl,f,r.length.symm,fun μ1 h1 H1 ex _ _=>⟨vs,ex.tup _ _ f,r.mono ex⟩⟩
  | @fl xs vs a f r =>
    cases e
    exact ⟨a,true,vs,rfl,f.sq,r.length.symm,fun μ1 h1 H1 ex _ _=>⟨vs,(ex.fz _ _ f).sq,r.mono ex⟩⟩
  | @loc n a m =>
    have e:(PI.rd h n).map (fun xs=>(([(n,xs)],xs):Ck × List D))=some (c,ds):=e
    cases e1:PI.rd h n with
    | none=>rw [e1] at e; cases e
    | some xs =>
      rw [e1] at e
      cases e
      obtain ⟨vs,q1,q2⟩:=rd_reps hr m e1
      refine ⟨a,true,vs,rfl,SqL.of q1,q2.length.symm,fun μ1 h1 H1 ex hr1 st=>?_⟩
      obtain ⟨vs',q3,q4⟩:=rd_reps hr1 (ex.loc n a m) (st (n,ds) (List.mem_singleton.mpr rfl))
      exact ⟨vs',SqL.of q3,q4⟩
  | _=>cases e
theorem src_zip {c1 c2:Ck} {ds es:List D} {l1 l2:Addr} {b1 b2:Bool} (k1:∀ μ1 h1 H1,Ext K μ H μ1 H1->HR K μ1 h1 H1->stay c1 h1->∃ vs',SqB K H1 l1 b1 vs' /\ Reps K μ1 H1 ds vs') (k2:∀ μ1 h1 H1,Ext K μ H μ1 H1->HR K μ1 h1 H1->stay c2 h1->∃ vs',SqB K H1 l2 b2 vs' /\ Reps K μ1 H1 es vs') :
    Src K μ H (c1 ++ c2) ((ds.zip es).map pairT) (Itz K l1 l2 b1 b2 ds.length es.length):=fun μ1 h1 H1 ex hr st=>by
  obtain ⟨vs,q1,r1⟩:=k1 μ1 h1 H1 ex hr fun p hp=>st p (List.mem_append_left _ hp)
  obtain ⟨ws,q2,r2⟩:=k2 μ1 h1 H1 ex hr fun p hp=>st p (List.mem_append_right _ hp)
  refine ⟨fun i d e=>?_,?_,vs,ws,q1,q2,r1.length.symm,r2.length.symm⟩
  · rw [List.getElem?_map] at e
    cases e1:(ds.zip es)[i]? with
    | none=>rw [e1] at e; cases e
    | some q =>
      rw [e1] at e
      cases e
      obtain ⟨z1,z2⟩:=List.getElem?_zip_eq_some.mp e1
      obtain ⟨w1,g1,p1⟩:=r1.get z1
      obtain ⟨w2,g2,p2⟩:=r2.get z2
      refine ⟨⟨(List.getElem?_eq_some_iff.mp z1).1,(List.getElem?_eq_some_iff.mp z2).1,vs,ws,q1,q2,r1.length.symm,r2.length.symm⟩,fun x H' y=>?_⟩
      obtain ⟨T,rfl,hT,f⟩:=y
      obtain ⟨u,v,f1,f2,rfl⟩:=f vs ws q1 q2
      rw [g1] at f1; cases f1
      rw [g2] at f2; cases f2
      exact ⟨ext_new hT,hr.tup hT,.tup (SqT.of upd_same) (.cons (p1.mono (ext_new hT)) (.cons (p2.mono (ext_new hT)) .nil))⟩
  · rw [List.length_map,List.length_zip]
    rcases Nat.le_total ds.length es.length with z | z
    · exact .inl (Nat.min_eq_left z)
    · exact .inr (Nat.min_eq_right z)
theorem src_rng (j:Nat):Src K μ H [] ((List.range j).map fun (k:Nat)=>.int (k:Nat)) (Itr 0 j):=src_of fun μ1 h1 H1 ex hr st=>by
  refine ⟨fun i d e=>?_,by show j<=_; rw [List.length_map,List.length_range]; exact Nat.le_refl _⟩
  rw [List.getElem?_map] at e
  cases e1:(List.range j)[i]? with
  | none=>rw [e1] at e; cases e
  | some c =>
    rw [e1] at e
    cases e
    obtain ⟨hi,e2⟩:=List.getElem?_eq_some_iff.mp e1
    rw [List.length_range] at hi
    rw [List.getElem_range] at e2
    subst e2
    refine ⟨hi,fun x H' y=>⟨y.1,?_⟩⟩
    rw [y.2,Int.zero_add]
    exact .int _
end
section
variable {X:Cx} {Z:ZK} {k:Nat} {n:Nm} {cv:Nat->Value} {cl:Nat->List D->Hh->Res D} {tg:Expr}
theorem pi_any {l:Expr} {tl:TE} (hl:PE X l tl):PI X tg l (fun σ H R=>tl σ H fun x H1=>(∃ a,x=.ref a /\ (∃ xs,SqL X.K H1 a xs) /\ R (Itl X.K a) H1) \/ (∃ a,x=.ref a /\ (∃ xs,SqT X.K H1 a xs) /\ R (Itt X.K a) H1) \/ ∃ z,x=.str z /\ R (Its z) H1):=by
  intro pins s σ H R I h
  refine thn (hl pins s σ H _ I h) fun v s1 ⟨x,H1,I1,r1,q1⟩=>?_
  rcases q1 with ⟨a,rfl,⟨xs,hq⟩,q⟩ | ⟨a,rfl,⟨xs,hq⟩,q⟩ | ⟨x,rfl,q⟩
  · cases r1
    obtain ⟨its,rv,p,hz⟩:=I1.list hq
    refine wpAny_pyIter_list p.isList ?_
    refine ⟨s1.heap.objs.size,[s1.heap.objs.size],_,_,H1,rfl,I1.kept (t':=s1.toks) fun b o e=>Heap.get?_push_of_some _ e,turn_list a _,⟨_,Heap.get?_push_size _ rfl,rfl,rfl⟩,fun b hb=>?_,q⟩
    have e:b=s1.heap.objs.size:=by simpa using hb
    subst e
    exact I1.fpOk (Nat.le_refl _) (I1.hok.fresh (Nat.le_refl _))
  · cases r1
    obtain ⟨its,rv,p,hz⟩:=I1.tuple hq
    refine wpAny_pyIter_tuple (show s1.heap.IsTuple a its.toArray from p) ?_
    refine ⟨s1.heap.objs.size,[s1.heap.objs.size],_,_,H1,rfl,I1.kept (t':=s1.toks) fun b o e=>Heap.get?_push_of_some _ e,turn_tuple a _,⟨_,Heap.get?_push_size _ rfl,rfl,rfl⟩,fun b hb=>?_,q⟩
    have e:b=s1.heap.objs.size:=by simpa using hb
    subst e
    exact I1.fpOk (Nat.le_refl _) (I1.hok.fresh (Nat.le_refl _))
  · obtain ⟨t,rfl⟩:=r1
    have fp:∀ b ∈ [s1.heap.objs.size],FpOk X pins H1 b:=fun b hb=>by
      have e:b=s1.heap.objs.size:=by simpa using hb
      subst e
      exact I1.fpOk (Nat.le_refl _) (I1.hok.fresh (Nat.le_refl _))
    cases ha:x.cps.all (· < 128) with
    | false =>
      refine wpAny_pyIter_wide ha ?_
      exact ⟨s1.heap.objs.size,[s1.heap.objs.size],_,_,H1,rfl,I1.kept (t':=s1.toks) fun b o e=>Heap.get?_push_of_some _ e,turn_wide _ x t,⟨_,Heap.get?_push_size _ rfl,rfl,rfl⟩,fp,q⟩
    | true =>
      refine wpAny_pyIter_ascii ha ?_
      exact ⟨s1.heap.objs.size,[s1.heap.objs.size],_,_,H1,rfl,I1.kept (t':=s1.toks) fun b o e=>Heap.get?_push_of_some _ e,turn_ascii _ x t,⟨_,Heap.get?_push_size _ rfl,rfl,rfl⟩,fp,q⟩
theorem PI.mono {iter:Expr} {t t':TI} (p:L2.PI X tg iter t) (h:∀ σ H R,t' σ H R->t σ H R):L2.PI X tg iter t':=fun pins s σ H R I q=>p pins s σ H R I (h σ H R q)
noncomputable def gB (K:PySem.W.Frag) (t:Tg):TG:=fun v σ H Q=>∃ μ ρ d ρ' h,HR K μ h H /\ ER K μ ρ σ H /\ Rep K μ H d v /\ bindT t d ρ=some ρ' /\
  ∀ σ',ER K μ ρ' σ' H->σ'.length=σ.length->(∀ i,i ∉ t.idx->σ'[i]?=σ[i]?)->Q σ' H
theorem PG.mono {t t':TG} (p:PG X tg t) (h:∀ v σ H Q,t' v σ H Q->t v σ H Q):PG X tg t':=fun pins s σ H v u Q I r q=>p pins s σ H v u Q I r (h v σ H Q q)
noncomputable def gNs:List (Nat × Pos)->TGs
  | []=>gNil
  | q :: r=>gCons (gName q.1) (gNs r)
theorem pgs_names (hN:X.N.Nodup):∀ (is:List (Nat × Pos)),(∀ q ∈ is,q.1 < X.N.length /\ Loc X.env.scope (X.N.getD q.1 "") /\ (X.fn (X.N.getD q.1 "")=true \/ X.env.scope.names.lookup (X.N.getD q.1 "")=some .local)) ->
    PGs X (is.map fun q=>.Name (X.N.getD q.1 "") q.2) (gNs is)
  | [],_=>pgs_nil
  | q :: r,h=>by
    have hq:=h q (List.mem_cons_self ..)
    exact pgs_cons (pg_name (i:=q.1) hN (by rw [List.getD_eq_getElem?_getD,List.getElem?_eq_getElem hq.1]; rfl) hq.2.1 hq.2.2) (pgs_names hN r fun z hz=>h z (List.mem_cons_of_mem _ hz))
theorem names_len (N:List Str) (env:Env):∀ is:List (Nat × Pos),(assignEach (is.map fun q=>.Name (N.getD q.1 "") q.2) env).length=is.length /\ (assignEach (is.map fun q=>.Name (N.getD q.1 "") q.2) env).findIdx? (·.1)=none
  | []=>⟨rfl,rfl⟩
  | q :: r=>by
    have ih:=names_len N env r
    rw [List.map_cons]
    refine ⟨?_,?_⟩
    · show ((false,_) :: assignEach (r.map fun q=>.Name (N.getD q.1 "") q.2) env).length=_
      rw [List.length_cons,ih.1,List.length_cons]
    · show ((false,_) :: assignEach (r.map fun q=>.Name (N.getD q.1 "") q.2) env).findIdx? (·.1)=none
      rw [List.findIdx?_cons,ih.2]
      rfl
theorem fold_er {K:PySem.W.Frag} {μ:List Addr} {H:Hp}:∀ (is:List (Nat × Pos)) {ds:List D} {vs:List V} {ρ:En} {σ:St} {Q:St->Hp->Prop},Reps K μ H ds vs->ds.length=is.length->ER K μ ρ σ H ->
    (∀ σ',ER K μ ((is.zip ds).foldl (fun ρ q=>ρ.set q.1.1 (some q.2)) ρ) σ' H->σ'.length=σ.length->(∀ i,i ∉ is.map (·.1)->σ'[i]?=σ[i]?)->Q σ' H)->gNs is vs σ H Q
  | [],_,_,ρ,σ,Q,r,hl,er,q=>by
    cases r with
    | nil=>exact ⟨rfl,q σ er rfl fun _ _=>rfl⟩
    | cons _ _=>cases hl
  | p :: is,_,_,ρ,σ,Q,r,hl,er,q=>by
    cases r with
    | nil=>cases hl
    | cons r1 r2 =>
      refine ⟨_,_,rfl,?_⟩
      refine fold_er is r2 (by simpa using hl) (er.set r1 p.1) fun σ' e1 e2 e3=>?_
      refine q σ' e1 (e2.trans List.length_set) fun i hi=>?_
      rw [List.map_cons] at hi
      rw [e3 i fun z=>hi (List.mem_cons_of_mem _ z),List.getElem?_set_ne fun z=>hi (by rw [<- z]; exact List.mem_cons_self ..)]
theorem pg_T (hc:X.calm=true) (hN:X.N.Nodup) (t:Tg) (h:∀ i ∈ t.idx,i < X.N.length /\ Loc X.env.scope (X.N.getD i "") /\ (X.fn (X.N.getD i "")=true \/ X.env.scope.names.lookup (X.N.getD i "")=some .local)):PG X (t.py X.N) (gB X.K t):=by
  cases t with
  | one i p =>
    have hq:=h i (List.mem_singleton.mpr rfl)
    refine PG.mono (pg_name (i:=i) hN (by rw [List.getD_eq_getElem?_getD,List.getElem?_eq_getElem hq.1]; rfl) hq.2.1 hq.2.2) fun v σ H Q ⟨μ,ρ,d,ρ',h,hr,er,r,e,q⟩=>?_
    cases e
    exact q _ (er.set r i) List.length_set fun j hj=>List.getElem?_set_ne fun z=>hj (by rw [<- z]; exact List.mem_singleton.mpr rfl)
  | tup is p =>
    refine PG.mono (pg_tup (k:=0) (pos:=p) hc (pgs_names hN is fun q hq=>h q.1 (List.mem_map.mpr ⟨q,hq,rfl⟩)) (names_len X.N X.env is).1 (names_len X.N X.env is).2) fun v σ H Q ⟨μ,ρ,d,ρ',h,hr,er,r,e,q⟩=>?_
    unfold bindT at e
    cases r with
    | tup h1 h2 =>
      simp only at e
      split at e
      · rename_i c
        cases e
        exact ⟨_,_,rfl,h1,by rw [<- h2.length]; exact c,fold_er is h2 c er q⟩
      · cases e
    | _=>cases e
end
end PI
set_option Elab.async false
set_option linter.all false
set_option maxRecDepth 100000
set_option maxHeartbeats 4000000
namespace PI
open PySem L2 PySem.Spec
open PyProof.Rows hiding St
theorem line_ge:(1000000:Nat) < sizeLine:=by rw [sizeLine_eq]; decide
section
variable {X:Cx} {Z:ZK} {k:Nat} {n:Nm} {cv:Nat->Value} {cl:Nat->List D->Hh->Res D}
theorem capER {K:PySem.W.Frag} {μ:List Addr} {H:Hp} {ρ:En} {σ:St} (cap:List (Option Nat)) (er:ER K μ ρ σ H):ER K μ (capE cap ρ) (capσ cap σ) H:=by
  refine ⟨by unfold capE capσ; rw [List.length_map,List.length_map],fun j d e=>?_⟩
  unfold capE at e
  unfold capσ
  rw [List.getElem?_map] at e ⊢
  cases e1:cap[j]? with
  | none=>rw [e1] at e; cases e
  | some o =>
    rw [e1] at e
    cases o with
    | none=>cases e
    | some i =>
      have e':(ρ[i]?).bind id=some d:=Option.some.inj e
      cases e2:ρ[i]? with
      | none=>rw [e2] at e'; cases e'
      | some o2 =>
        rw [e2] at e'
        have e3:o2=some d:=e'
        subst e3
        obtain ⟨v,q1,q2⟩:=er.val i d e2
        exact ⟨v,by show some ((σ[i]?).bind id)=_; rw [q1]; rfl,q2⟩
theorem cap_none {osc scope:Scope} {N NC:List Str} {cap:List (Option Nat)} {t:Tg} (cok:compOk osc scope N NC cap=true) (ht:t.ok scope NC=true) (σ:St):∀ i ∈ t.idx,(capσ cap σ)[i]?=some none:=by
  intro i hi
  unfold Tg.ok at ht
  have h1:=List.all_eq_true.mp ht i hi
  rw [Bool.and_eq_true] at h1
  have hl:i < NC.length:=of_decide_eq_true h1.1
  have hloc:scope.names.lookup (NC.getD i "")=some .local \/ scope.names.lookup (NC.getD i "")=some .cell:=of_decide_eq_true h1.2
  unfold compOk at cok
  simp only [Bool.and_eq_true] at cok
  obtain ⟨⟨⟨⟨⟨k1,k2⟩,k3⟩,k4⟩,k5⟩,k6⟩:=cok
  have hj:=List.all_eq_true.mp k6 i (List.mem_range.mpr hl)
  have hN:NC[i]?=some (NC.getD i ""):=by rw [List.getD_eq_getElem?_getD,List.getElem?_eq_getElem hl]; rfl
  have hc:i < cap.length:=by rw [beq_iff_eq.mp k5]; exact hl
  unfold capσ
  rw [List.getElem?_map]
  cases e:cap[i]? with
  | none=>rw [List.getElem?_eq_none_iff] at e; omega
  | some o =>
    cases o with
    | none=>rfl
    | some m =>
      exfalso
      rw [e,hN] at hj
      simp only [Bool.and_eq_true,beq_iff_eq] at hj
      have hfree:=hj.2
      rcases hloc with z | z <;> (rw [hfree] at z; cases z)
theorem read_comp {scope:Scope} {NC:List Str} {cap:List (Option Nat)} {t:Tg} {mi:En->Hh->Res (Ck × List D)} {mc:En->Hh->Res Bool} {me:En->Hh->Res D}
    (cok:compOk X.env.scope scope X.N NC cap=true) (ht:t.ok scope NC=true) {σ:St} {H:Hp} {Q:VK}
    (p:liftL X.K cv Z (fun ρ h=>(mi ρ h).bind fun q h1=>if q.2.length<=1000000 then compL q.1 (compF t (capE cap ρ) mc me) q.2 [] h1 else .no) σ H Q) :
    tComp Z cap (lift X.K cv (RJ X.K) Z mi) (gB X.K t) (fun Zc=>lift X.K cv RB Zc mc) (fun Zc=>lift X.K cv (Rep X.K) Zc me) σ H Q:=by
  obtain ⟨μ,ρ,h,hr,er,p⟩:=p
  refine lift_bind0 (m:=mi) Ext.refl hr er p (fun _ _ z=>z) fun q h1 μ1 H1 J _ e1 r1 er1 src p1=>?_
  split at p1
  rotate_left
  · exact p1.elim
  rename_i hlen
  obtain ⟨c,ds⟩:=q
  refine ⟨fun i m ys H2=>m=ds.length - i /\ i<=ds.length /\ ∃ μ2 h2 acc,Ext X.K μ1 H1 μ2 H2 /\ HR X.K μ2 h2 H2 /\ Reps X.K μ2 H2 acc ys /\ acc.length<=i /\ PostE X.K cv (RL X.K H) μ H (compL c (compF t (capE cap ρ) mc me) (ds.drop i) acc h2) Q (Z σ),
    ⟨ds.length,by simp,Nat.zero_le _,μ1,h1,[],Ext.refl,r1,.nil,Nat.le_refl _,p1⟩,?_⟩
  rintro i m ys H2 ⟨rfl,hi',μ2,h2,acc,e2,r2,ry,ha,p2⟩
  have hyl:ys.length<=i:=by rw [<- ry.length]; exact ha
  have hll:ds.length<=1000000:=hlen
  by_cases hlt:i < ds.length
  · right
    rw [List.drop_eq_getElem_cons hlt] at p2
    unfold compL at p2
    split at p2
    rotate_left
    · exact p2.elim
    rename_i st
    obtain ⟨s1,s2⟩:=src μ2 h2 H2 e2 r2 st
    obtain ⟨g1,g2⟩:=s1 i ds[i] (List.getElem?_eq_getElem hlt)
    refine ⟨g1,by have:=line_ge; omega,fun x H3 y=>?_⟩
    obtain ⟨e2',r2',rx⟩:=g2 x H3 y
    replace e2:=e2.trans e2'
    replace r2:=r2'
    replace ry:=ry.mono e2'
    have er2:ER X.K μ2 ρ σ H3:=er1.mono e2
    unfold compF at p2
    cases eb:bindT t ds[i] (capE cap ρ) with
    | none=>rw [eb] at p2; exact p2.elim
    | some ρ' =>
      rw [eb] at p2
      refine ⟨μ2,capE cap ρ,ds[i],ρ',h2,r2,capER cap er2,rx,eb,fun σ4 er4 hl4 hs4=>⟨⟨hl4,fun j v ej=>?_⟩,?_⟩⟩
      · have nj:j ∉ t.idx:=fun z=>by rw [cap_none cok ht σ j z] at ej; cases ej
        rw [hs4 j nj]; exact ej
      have p3:PostE X.K cv (RL X.K H) μ H ((mc ρ' h2).bind fun b h3=>(if b then (me ρ' h3).bind fun d h4=>Res.ok (some d) h4 else Res.ok none h3).bind fun o h'=>compL c (compF t (capE cap ρ) mc me) (ds.drop (i + 1)) (addO acc o) h') Q (Z σ):=by
        have p2':=p2
        rw [bind_assoc] at p2'
        exact p2'
      refine lift_bind0 (m:=mc) (R:=RB) (e1.trans e2) r2 er4 p3 (fun _ _ z=>z) fun b h3 μ3 H3' bb _ e3 r3 er5 qb p4=>?_
      have qb':b=bb:=qb
      subst qb'
      cases b with
      | false =>
        refine iteF ⟨ds.length - (i + 1),by omega,rfl,hlt,μ3,h3,acc,e2.trans e3,r3,ry.mono e3,Nat.le_succ_of_le ha,p4⟩
      | true =>
        refine iteT ?_
        have p5:PostE X.K cv (RL X.K H) μ H ((me ρ' h3).bind fun d h4=>compL c (compF t (capE cap ρ) mc me) (ds.drop (i + 1)) (acc ++ [d]) h4) Q (Z σ):=by
          have p4':=p4
          rw [if_pos rfl,bind_assoc] at p4'
          exact p4'
        refine lift_bind0 (m:=me) ((e1.trans e2).trans e3) r3 er5 p5 (fun _ _ z=>z) fun d h4 μ4 H4 v _ e4 r4 er6 qd p6=>?_
        exact ⟨ds.length - (i + 1),by omega,rfl,hlt,μ4,h4,acc ++ [d],(e2.trans e3).trans e4,r4,((ry.mono e3).mono e4).append (.cons qd .nil),by rw [List.length_append]; exact Nat.succ_le_succ ha,p6⟩
  · left
    have ei:i=ds.length:=by omega
    subst ei
    rw [List.drop_length] at p2
    unfold compL at p2
    split at p2
    rotate_left
    · exact p2.elim
    rename_i st
    refine ⟨(src μ2 h2 H2 e2 r2 st).2,by have:=line_ge; omega,fun a ha'=>?_⟩
    have ex:=(e1.trans e2)
    have na:=r2.fresh ha'
    have n0:H a=none:=by
      cases e:H a with
      | none=>rfl
      | some o=>rw [ex.oth a o e fun z=>na (ex.sub z)] at ha'; cases ha'
    exact p2 μ2 _ _ (ex.trans (ext_new ha')) (r2.tup ha') ⟨a,ys,rfl,upd_same,ry.mono (ext_new ha'),na,n0⟩
theorem pe_compI {elt iter:Expr} {ifs:List Expr} {scope:Scope} {NC:List Str} {cap:List (Option Nat)} {t:Tg} {pos:Pos} {mi:En->Hh->Res (Ck × List D)} {mc:En->Hh->Res Bool} {me:En->Hh->Res D}
    (hc:X.calm=true) (th:Thr X Z) (hi:L2.PI X (t.py NC) iter (lift X.K cv (RJ X.K) Z mi)) (cok:compOk X.env.scope scope X.N NC cap=true) (ht:t.ok scope NC=true)
    (hg:∀ C s H fp pn xe,PG (compCx X NC scope C s H fp pn xe) (t.py NC) (gB X.K t))
    (hf:∀ C s H fp pn xe Zc,Thr (compCx X NC scope C s H fp pn xe) Zc->PF (compCx X NC scope C s H fp pn xe) ifs (lift X.K cv RB Zc mc))
    (hb:∀ C s H fp pn xe Zc,Thr (compCx X NC scope C s H fp pn xe) Zc->PE (compCx X NC scope C s H fp pn xe) elt (lift X.K cv (Rep X.K) Zc me))
    (hs:∀ x,foldedSetIterable iter X.env x=pure x) :
    PE X (.ListComp elt [⟨t.py NC,iter,ifs,0⟩] scope pos) (liftL X.K cv Z fun ρ h=>(mi ρ h).bind fun q h1=>if q.2.length<=1000000 then compL q.1 (compF t (capE cap ρ) mc me) q.2 [] h1 else .no) :=
  PE.mono (pe_comp hc th hi cok hg (tf:=fun Zc=>lift X.K cv RB Zc mc) (te:=fun Zc=>lift X.K cv (Rep X.K) Zc me) hf hb hs) fun σ H Q p=>read_comp cok ht p
theorem Kx.comp {scope:Scope} {NC:List Str} {cap:List (Option Nat)} (C:Kx X Z k n cv cl) (cok:compOk X.env.scope scope X.N NC cap=true) (hnd:NC.Nodup) (hgood:NC.all goodN=true) {Cc:Addr} {s:Shared} {H:Hp} {fp:List Addr} {pn:List (Addr × Obj)} {xe:Value->Shared->Prop} {Zc:ZK}
    (th:Thr (compCx X NC scope Cc s H fp pn xe) Zc):Kx (compCx X NC scope Cc s H fp pn xe) Zc k ⟨NC,n.F,n.G⟩ cv cl:=by
  obtain ⟨c1,c2,c3,c4,c5,c6,c7⟩:=compOk_parts cok
  refine ⟨th,C.rm,rfl,hnd,rfl,c1,fun x hx=>⟨?_,List.all_eq_true.mp hgood x hx⟩,C.bm,C.gc,C.fn,C.xc⟩
  obtain ⟨j,hj⟩:=List.getElem?_of_mem hx
  have cok':=cok
  unfold compOk at cok'
  simp only [Bool.and_eq_true] at cok'
  obtain ⟨⟨⟨⟨⟨k1,k2⟩,k3⟩,k4⟩,k5⟩,k6⟩:=cok'
  have hl:j < NC.length:=(List.getElem?_eq_some_iff.mp hj).1
  have hk:=List.all_eq_true.mp k6 j (List.mem_range.mpr hl)
  have rel:(relabel scope X.env).names.lookup x=(scope.names.lookup x).map fun k=>if k=.free then .cell else k:=kindOf_rel (scope:=scope) C.kd fun y hy e=>c4 y hy e
  rw [hj] at hk
  show Vis (relabel scope X.env) x
  unfold Vis
  rw [rel]
  cases e:cap[j]? with
  | none=>rw [e] at hk; cases hk
  | some o =>
    rw [e] at hk
    cases o with
    | none =>
      have hk':scope.names.lookup x=some .local \/ scope.names.lookup x=some .cell:=by simpa using hk
      rcases hk' with hk' | hk'
      · rw [hk']; exact .inl rfl
      · rw [hk']; exact .inr (.inl rfl)
    | some m =>
      simp only [Bool.and_eq_true,beq_iff_eq] at hk
      rw [hk.2]; exact .inr (.inl rfl)
end
end PI
set_option Elab.async false
set_option linter.all false
set_option maxRecDepth 100000
set_option maxHeartbeats 4000000
namespace PI
open PySem L2 PySem.Spec
open PyProof.Rows hiding St
theorem RepKs.zip {K:PySem.W.Frag} {μ:List Addr} {H:Hp}:∀ (ks:List (Str × Pos)) {ds:List D} {vs:List V},Reps K μ H ds vs->RepKs K μ H ((ks.map fun q=>(Sum.inr q.1:Key)).zip ds) ((ks.map fun q=>(Sum.inr q.1:Key)).zip vs)
  | [],_,_,_=>.nil
  | q :: ks,_,_,.nil=>.nil
  | q :: ks,_,_,.cons h t=>.cons h (RepKs.zip ks t)
theorem ps_nil {X:Cx} {Z:ZK} {n:Nm} {cv:Nat->Value} {cl:Nat->List D->Hh->Res D}:PsOk X Z n cv cl .nil:=by
  intro ks pos hl
  cases ks with
  | nil =>
    refine ⟨[],pps_nil,fun σ H Q=>lift_elim fun μ ρ h hr er q=>?_⟩
    exact q.here hr .nil
  | cons _ _=>cases hl
theorem ps_cons {X:Cx} {Z:ZK} {n:Nm} {cv:Nat->Value} {cl:Nat->List D->Hh->Res D} {e:E} {r:Es} (se:PE X (e.py n) (lift X.K cv (Rep X.K) Z (e.ev cl))) (sr:PsOk X Z n cv cl r):PsOk X Z n cv cl (.cons e r):=by
  intro ks pos hl
  have hl:ks.length=(e.py n :: r.py n).length:=hl
  cases ks with
  | nil=>cases hl
  | cons k ks =>
    obtain ⟨trs,p1,p2⟩:=sr ks pos (by simpa using hl)
    refine ⟨(tC (.str k.1),lift X.K cv (Rep X.K) Z (e.ev cl)) :: trs,pps_cons pe_str se p1,fun σ H Q=>lift_elim fun μ ρ h hr er q=>?_⟩
    show lift X.K cv (Rep X.K) Z (e.ev cl) σ H _
    refine lift_bind (m:=e.ev cl) hr er q fun da h1 μ1 H1 x _ e1 r1 er1 qa p3=>?_
    refine p2 σ H1 _ (lift_bind (m:=r.ev cl) r1 er1 p3 fun ds h2 μ2 H2 xs _ e2 r2 er2 qb p4=>?_)
    exact p4.here r2 (.cons (qa.mono e2) qb)
section
variable {X:Cx} {cv:Nat->Value}
end
end PI
set_option Elab.async false
set_option linter.all false
set_option maxRecDepth 100000
set_option maxHeartbeats 4000000
namespace PI
open PySem L2 PySem.Spec
open PyProof.Rows hiding St
section
variable {X:Cx} {Z:ZK} {k:Nat} {n:Nm} {cv:Nat->Value} {cl:Nat->List D->Hh->Res D}
theorem boot_T (T:Nat) (h:T < 5):bootBuiltins (tyName T)=some (.type (tyStr T)) /\ tyName T ≠ "__name__" /\ (tyName T == ("__debug__":Str))=false /\ tyName T ∈ bnames:=by
  match T,h with
  | 0,_=>exact ⟨rfl,by decide,by decide,by decide⟩
  | 1,_=>exact ⟨rfl,by decide,by decide,by decide⟩
  | 2,_=>exact ⟨rfl,by decide,by decide,by decide⟩
  | 3,_=>exact ⟨rfl,by decide,by decide,by decide⟩
  | 4,_=>exact ⟨rfl,by decide,by decide,by decide⟩
theorem getD_some {α:Type} {xs:List α} {i:Nat} {d:α} (h:i < xs.length):xs[i]?=some (xs.getD i d):=by
  rw [List.getD_eq_getElem?_getD,List.getElem?_eq_getElem h]; rfl
theorem getD_mem {α:Type} {xs:List α} {i:Nat} {d:α} (h:i < xs.length):xs.getD i d ∈ xs:=List.mem_of_getElem? (getD_some h)
theorem PO.mono {X:Cx} {e:Option Expr} {t t':TO} (p:PO X e t) (h:∀ σ H Q,t' σ H Q->t σ H Q):PO X e t':=fun pins s σ H Q I q=>p pins s σ H Q I (h σ H Q q)
theorem base_plain (o:E) (x:Str) (env:Env):attributeBase (o.py n) x env (eval (o.py n) env)=eval (o.py n) env:=by
  cases o with
  | ofL l=>cases l <;> (rfl)
  | _=>rfl
theorem few_one (a : E) (pos : Pos) (env : Env) : ((backTo pos (starEach [a.py n] env)).all (fun x => !x.1) && (backToKw pos (keywordEach [] env)).all (fun x => x.1.isSome)
      && decide (([a.py n]:List Expr).length + ([]:List Keyword).length + (if ([]:List Keyword).isEmpty then 0 else 1) < 30))=true:=by
  rw [star_cons]; rfl
theorem m0_ty {K:PySem.W.Frag} {μ:List Addr} {H:Hp} {h:Hh} {m:M0} {d:D} {v:V} (hr:HR K μ h H) (r:Rep K μ H d v) (e:m0D m d h ≠ .no):tyV K "list" v H:=by
  unfold m0D at e
  cases r with
  | @loc nn b mm =>
    cases e1:h[nn]? with
    | none=>simp only [e1] at e; exact absurd rfl e
    | some o =>
      cases o with
      | dK _=>simp only [e1] at e; exact absurd rfl e
      | lst ds=>obtain ⟨vs,q1,q2⟩:=lst_of hr mm e1; exact .inl ⟨rfl,vs,SqL.of q1⟩
  | _=>exact absurd rfl e
theorem Reps.isEmpty {K:PySem.W.Frag} {μ:List Addr} {H:Hp} {ds:List D} {vs:List V} (r:Reps K μ H ds vs):ds.isEmpty=vs.isEmpty:=by cases r <;> rfl
theorem onL_ty {K:PySem.W.Frag} {cv:Nat->Value} {R:List Addr->Hp->D->V->Prop} {μ:List Addr} {H:Hp} {h:Hh} {d:D} {v:V} {r:Res D} {Q:VK} {Z:Value->Hp->Prop} (hr:HR K μ h H) (q:Rep K μ H d v) (p:PostE K cv R μ H (onL d h r) Q Z):tyV K "list" v H /\ PostE K cv R μ H r Q Z:=by
  unfold onL at p
  cases q with
  | @loc nn b mm =>
    cases e1:h[nn]? with
    | none=>simp only [e1] at p; exact p.elim
    | some o =>
      cases o with
      | dK _=>simp only [e1] at p; exact p.elim
      | lst ds=>simp only [e1] at p; obtain ⟨vs,q1,q2⟩:=lst_of hr mm e1; exact ⟨.inl ⟨rfl,vs,SqL.of q1⟩,p⟩
  | _=>exact p.elim
theorem fold_plain (it:I) {env:Env}:∀ x,foldedSetIterable (it.py n) env x=pure x:=by
  intro x
  cases it with
  | seq e =>
    cases e with
    | ofL l=>cases l <;> (rfl)
    | _=>rfl
  | lst l=>cases l <;> (rfl)
  | rng a p0 p=>rfl
  | zip a b p0 p=>rfl
theorem comp_ok {elt:E} {t:Tg} {it:I} {c:Es} {NC:List Str} {cap:List (Option Nat)} {csc:Scope} {p:Pos} (C:Kx X Z k n cv cl) (h:(L.comp elt t it c NC cap csc p).ok X.env.scope n=true) :
    (it.ok X.env.scope n=true /\ t.forI it=true) /\ compOk X.env.scope csc X.N NC cap=true /\ NC.Nodup /\ NC.all goodN=true /\ t.ok csc NC=true /\ elt.ok (relab csc X.env.scope) ⟨NC,n.F,n.G⟩=true /\ c.ok (relab csc X.env.scope) ⟨NC,n.F,n.G⟩=true /\ c.okT=true /\ c.short=true:=by
  have h:(_ && _)=true:=h
  simp only [Bool.and_eq_true,decide_eq_true_eq] at h
  obtain ⟨⟨⟨⟨⟨⟨⟨⟨k1,k2⟩,k3⟩,k4⟩,k5⟩,k6⟩,k7⟩,k8⟩,k9⟩:=h
  exact ⟨k1,by rw [C.nN]; exact k2,k3,k4,k5,k6,k7,k8,k9⟩
theorem pf_none {Zc:ZK} {m:Nm}:PF X (Es.nil.py m) (lift X.K cv RB Zc (Es.nil.evC cl)):=by
  refine fun pins s σ H Q I q=>pf_nil pins s σ H Q I ?_
  obtain ⟨μ,ρ,h,hr,er,q⟩:=q
  exact q.here hr rfl
theorem comp_pg {scope:Scope} {NC:List Str} {cap:List (Option Nat)} {t:Tg} (kd:X.env.scope.kind=.function) (cok:compOk X.env.scope scope X.N NC cap=true) (hnd:NC.Nodup) (ht:t.ok scope NC=true) {Cc:Addr} {s:Shared} {H:Hp} {fp:List Addr} {pn:List (Addr × Obj)} {xe:Value->Shared->Prop} :
    PG (compCx X NC scope Cc s H fp pn xe) (t.py NC) (gB X.K t):=by
  refine pg_T (X:=compCx X NC scope Cc s H fp pn xe) rfl hnd t fun i hi=>?_
  unfold Tg.ok at ht
  have h1:=List.all_eq_true.mp ht i hi
  rw [Bool.and_eq_true] at h1
  have h2:scope.names.lookup (NC.getD i "")=some .local \/ scope.names.lookup (NC.getD i "")=some .cell:=of_decide_eq_true h1.2
  obtain ⟨c1,c2,c3,c4,c5,c6,c7⟩:=compOk_parts cok
  have rel:∀ x,(relabel scope X.env).names.lookup x=(scope.names.lookup x).map fun k=>if k=.free then .cell else k:=fun x=>kindOf_rel (scope:=scope) kd fun y hy e=>c4 y hy e
  refine ⟨of_decide_eq_true h1.1,?_,?_⟩
  · show Loc (relabel scope X.env) _
    unfold L2.Loc
    rw [rel]
    rcases h2 with h2 | h2
    · rw [h2]; exact .inl rfl
    · rw [h2]; exact .inr rfl
  · rcases h2 with h2 | h2
    · refine .inr ?_
      show (relabel scope X.env).names.lookup _=_
      rw [rel,h2]; rfl
    · refine .inl ?_
      show (scope.names.lookup _ == some NameKind.cell)=true
      rw [h2]; rfl
mutual
theorem sE:∀ (e:E) (X:Cx) (Z:ZK) (k:Nat) (n:Nm) (cv:Nat->Value) (cl:Nat->List D->Hh->Res D),Kx X Z k n cv cl->e.ok X.env.scope n=true->SE X Z n cv cl e
  | .non p,X,Z,k,n,cv,cl,C,_=>⟨PE.mono pe_non fun σ H Q q=>lift_C (fun _ _ _=>.non) q,fun z=>nomatch z⟩
  | .bl b p,X,Z,k,n,cv,cl,C,_=>⟨PE.mono pe_bl fun σ H Q q=>lift_C (fun _ _ _=>.bl b) q,fun z=>nomatch z⟩
  | .int i p,X,Z,k,n,cv,cl,C,_=>⟨PE.mono pe_int fun σ H Q q=>lift_C (fun _ _ _=>.int i) q,fun z=>nomatch z⟩
  | .str x p,X,Z,k,n,cv,cl,C,_=>⟨PE.mono pe_str fun σ H Q q=>lift_C (fun _ _ _=>.str x) q,fun z=>nomatch z⟩
  | .var i p,X,Z,k,n,cv,cl,C,h=>by
    have hi:i < n.N.length:=of_decide_eq_true h
    have hm:=C.nm _ (getD_mem (d:=("":Str)) hi)
    have hv:=hm.1
    have hg:=goodN_of hm.2
    have pe:PE X ((E.var i p).py n) (lift X.K cv (Rep X.K) Z ((E.var i p).ev cl)):=by
      refine PE.mono (pe_var (i:=i) (by rw [C.nN]; exact getD_some hi) hv hg.1 hg.2) fun σ H Q=>lift_elim fun μ ρ h hr er q=>?_
      have q:PostE X.K cv (Rep X.K) μ H (match ρ[i]? with | some (some d)=>.ok d h | _=>.no) Q (Z σ):=q
      cases e:ρ[i]? with
      | none=>rw [e] at q; exact q.elim
      | some o =>
        cases o with
        | none=>rw [e] at q; exact q.elim
        | some d =>
          rw [e] at q
          obtain ⟨v,e1,r1⟩:=er.val i d e
          exact ⟨v,e1,q.here hr r1⟩
    exact ⟨pe,fun _=>by exact pt_lift pe fun _=>rfl⟩
  | .bin op a b p,X,Z,k,n,cv,cl,C,h=>by
    have h':a.ok X.env.scope n=true /\ b.ok X.env.scope n=true:=by have h:(_ && _)=true:=h; simpa using h
    have sa:=sE a X Z k n cv cl C h'.1
    have sb:=sE b X Z k n cv cl C h'.2
    have pe:PE X ((E.bin op a b p).py n) (lift X.K cv (Rep X.K) Z ((E.bin op a b p).ev cl)):=by
      refine PE.mono (pe_op (op_bin (cv:=cv) op) sa.pe sb.pe) fun σ H Q q=>?_
      exact lift2 q
    exact ⟨pe,fun _=>by exact pt_lift pe fun _=>rfl⟩
  | .un op a p,X,Z,k,n,cv,cl,C,h=>by
    have h':a.ok X.env.scope n=true:=by have h:(_ && _)=true:=h; simp at h; exact h.1
    have sa:=sE a X Z k n cv cl C h'
    cases op with
    | Not =>
      refine ⟨?_,fun z=>?_⟩
      · skip
        refine PE.mono (pe_not sa.pe) fun σ H Q=>lift_elim fun μ ρ h hr er q=>?_
        refine lift_bind (m:=a.ev cl) hr er q fun d h1 μ1 H1 x _ e1 r1 er1 qa p1=>?_
        unfold unD at p1
        cases qa with
        | bl b=>exact ⟨b,rfl,p1.here r1 (.bl _)⟩
        | _=>exact p1.elim
      · skip
        have z':a.okT=true:=by exact z
        refine PT.mono (pt_not (sa.pt z')) fun σ H Q=>lift_elim fun μ ρ h hr er q=>?_
        refine ⟨μ,ρ,h,hr,er,?_⟩
        have e1:(E.un .Not a p).evT cl ρ h=(a.evT cl ρ h).bind fun b h1=>.ok (!b) h1:=by
          rw [evT_eq,evT_eq,bind_assoc]
          show ((a.ev cl ρ h).bind fun x h1=>unD .Not x h1).bind toB=_
          rw [bind_assoc]
          congr 1
          funext d h1
          unfold unD toB
          cases d <;> rfl
        rw [e1] at q
        cases e2:a.evT cl ρ h with
        | ok b h1 =>
          rw [e2] at q
          intro μ1 H1 v x1 x2 x3
          have x3':b=v:=x3
          subst x3'
          exact q μ1 H1 (!b) x1 x2 rfl
        | exc c h1=>rw [e2] at q; exact q
        | no=>rw [e2] at q; exact q
    | Invert =>
      have pe:PE X ((E.un .Invert a p).py n) (lift X.K cv (Rep X.K) Z ((E.un .Invert a p).ev cl)):=by
        refine PE.mono (pe_un (un_op (cv:=cv) .Invert (.inl rfl)) sa.pe) fun σ H Q q=>?_
        exact lift1 q
      exact ⟨pe,fun _=>by exact pt_lift pe fun _=>rfl⟩
    | USub =>
      have pe:PE X ((E.un .USub a p).py n) (lift X.K cv (Rep X.K) Z ((E.un .USub a p).ev cl)):=by
        refine PE.mono (pe_un (un_op (cv:=cv) .USub (.inr rfl)) sa.pe) fun σ H Q q=>?_
        exact lift1 q
      exact ⟨pe,fun _=>by exact pt_lift pe fun _=>rfl⟩
    | UAdd =>
      have no:∀ {β:Type} {σ:St} {H:Hp} {R:List Addr->Hp->D->β->Prop} {Q:β->Hp->Prop},lift X.K cv R Z ((E.un .UAdd a p).ev cl) σ H Q->lift X.K cv (Rep X.K) Z (a.ev cl) σ H (fun _ _=>False):=by
        intro β σ H R Q ⟨μ,ρ,h,hr,er,q⟩
        refine lift_bind (m:=a.ev cl) hr er q fun d h1 μ1 H1 x _ e1 r1 er1 qa p1=>?_
        unfold unD at p1
        cases d <;> exact p1.elim
      have pe:PE X ((E.un .UAdd a p).py n) (lift X.K cv (Rep X.K) Z ((E.un .UAdd a p).ev cl)):=by
        refine PE.mono (pe_un (r:=fun _ _ _=>False) (fun _ _ _ _ _ _ _ _ _ z=>z.elim) sa.pe) fun σ H Q q=>no q
      exact ⟨pe,fun _=>by exact pt_lift pe fun _=>rfl⟩
  | .cmp op a b p,X,Z,k,n,cv,cl,C,h=>by
    have h':(a.ok X.env.scope n=true /\ b.ok X.env.scope n=true) /\ behindInMarks op (b.py n)=false:=by have h:(_ && _)=true:=h; simpa using h
    have sa:=sE a X Z k n cv cl C h'.1.1
    have sb:=sE b X Z k n cv cl C h'.1.2
    refine ⟨?_,fun _=>?_⟩
    · skip
      refine PE.mono (pe_cmpR (op_cmp (cv:=cv) C.rm.units op) sa.pe sb.pe h'.2) fun σ H Q q=>?_
      exact lift2 q
    · skip
      refine PT.mono (pt_cmpR (op_cmp (cv:=cv) C.rm.units op) sa.pe sb.pe h'.2) fun σ H Q=>lift_elim fun μ ρ h hr er q=>?_
      have q:PostE X.K cv RB μ H (((a.ev cl ρ h).bind fun x h1=>(b.ev cl ρ h1).bind fun y h2=>cmpD op x y h2).bind toB) Q (Z σ):=q
      rw [bind_assoc] at q
      unfold tTest
      refine lift_bind (m:=a.ev cl) hr er q fun da h1 μ1 H1 x _ e1 r1 er1 qa p1=>?_
      rw [bind_assoc] at p1
      refine lift_bind (m:=b.ev cl) r1 er1 p1 fun db h2 μ2 H2 y _ e2 r2 er2 qb p2=>?_
      refine ⟨μ2,h2,da,db,Z σ,r2,qa.mono e2,qb,?_⟩
      cases e3:cmpD op da db h2 with
      | ok d h3 =>
        rw [e3] at p2
        intro μ3 H3 v x1 x2 x3
        unfold Res.bind toB at p2
        cases x3 with
        | bl c=>exact ⟨c,rfl,p2 μ3 H3 c x1 x2 rfl⟩
        | _=>exact p2.elim
      | exc c h3=>rw [e3] at p2; exact p2
      | no=>rw [e3] at p2; exact p2
  | .and a b r p,X,Z,k,n,cv,cl,C,h=>by
    have h':((((a.ok X.env.scope n=true /\ b.ok X.env.scope n=true) /\ r.ok X.env.scope n=true) /\ a.okT=true) /\ b.okT=true) /\ r.okT=true:=by have h:(_ && _)=true:=h; simpa using h
    have sa:=sE a X Z k n cv cl C h'.1.1.1.1.1
    have sb:=sE b X Z k n cv cl C h'.1.1.1.1.2
    have sr:=sEs r X Z k n cv cl C h'.1.1.1.2
    refine ⟨?_,fun _=>?_⟩
    · skip
      refine PE.mono (pe_and sa.pe (sr.an b p sb)) fun σ H Q=>lift_elim fun μ ρ h hr er q=>?_
      refine lift_bind (m:=a.ev cl) hr er q fun d h1 μ1 H1 x _ e1 r1 er1 qa p1=>?_
      unfold tru at p1
      cases qa with
      | bl c =>
        refine ⟨c,rfl,?_⟩
        cases c with
        | true=>exact iteT ⟨μ1,ρ,h1,r1,er1,p1⟩
        | false=>exact iteF (p1.here r1 (.bl _))
      | _=>exact p1.elim
    · skip
      refine PT.mono (PW.pt (pw_and (sa.pt h'.1.1.2) (sr.anT b p sb h'.1.2 h'.2))) fun σ H Q=>lift_elim fun μ ρ h hr er q=>?_
      have e0:(E.and a b r p).evT cl ρ h=(a.evT cl ρ h).bind fun c h1=>if c then (b.evT cl ρ h1).bind fun c' h2=>r.evAndT cl ρ c' h2 else .ok false h1:=by
        rw [evT_eq,evT_eq,bind_assoc]
        show ((a.ev cl ρ h).bind fun x h1=>tru x h1 fun c h1=>if c then (b.ev cl ρ h1).bind fun y h2=>r.evAnd cl ρ y h2 else .ok (.bl false) h1).bind toB=_
        rw [bind_assoc]
        congr 1
        funext d h1
        unfold tru
        cases d with
        | bl c =>
          cases c with
          | false=>rfl
          | true =>
            show ((b.ev cl ρ h1).bind fun y h2=>r.evAnd cl ρ y h2).bind toB=(b.evT cl ρ h1).bind fun c' h2=>r.evAndT cl ρ c' h2
            rw [evT_eq,bind_assoc,bind_assoc]
            congr 1
            funext y h2
            exact and_toB r ρ y h2
        | _=>rfl
      rw [e0] at q
      refine lift_bind (m:=a.evT cl) (R:=RB) hr er q fun c h1 μ1 H1 x _ e1 r1 er1 qa p1=>?_
      have qa':c=x:=qa
      subst qa'
      cases c with
      | true=>exact iteT ⟨μ1,ρ,h1,r1,er1,p1⟩
      | false=>exact iteF (p1.here r1 rfl)
  | .or a b r p,X,Z,k,n,cv,cl,C,h=>by
    have h':((((a.ok X.env.scope n=true /\ b.ok X.env.scope n=true) /\ r.ok X.env.scope n=true) /\ a.okT=true) /\ b.okT=true) /\ r.okT=true:=by have h:(_ && _)=true:=h; simpa using h
    have sa:=sE a X Z k n cv cl C h'.1.1.1.1.1
    have sb:=sE b X Z k n cv cl C h'.1.1.1.1.2
    have sr:=sEs r X Z k n cv cl C h'.1.1.1.2
    refine ⟨?_,fun _=>?_⟩
    · skip
      refine PE.mono (pe_or sa.pe (sr.orr b p sb)) fun σ H Q=>lift_elim fun μ ρ h hr er q=>?_
      refine lift_bind (m:=a.ev cl) hr er q fun d h1 μ1 H1 x _ e1 r1 er1 qa p1=>?_
      unfold tru at p1
      cases qa with
      | bl c =>
        refine ⟨c,rfl,?_⟩
        cases c with
        | true=>exact iteT (p1.here r1 (.bl _))
        | false=>exact iteF ⟨μ1,ρ,h1,r1,er1,p1⟩
      | _=>exact p1.elim
    · skip
      refine PT.mono (PW.pt (pw_or (sa.pt h'.1.1.2) (sr.orT b p sb h'.1.2 h'.2))) fun σ H Q=>lift_elim fun μ ρ h hr er q=>?_
      have e0:(E.or a b r p).evT cl ρ h=(a.evT cl ρ h).bind fun c h1=>if c then .ok true h1 else (b.evT cl ρ h1).bind fun c' h2=>r.evOrT cl ρ c' h2:=by
        rw [evT_eq,evT_eq,bind_assoc]
        show ((a.ev cl ρ h).bind fun x h1=>tru x h1 fun c h1=>if c then .ok (.bl true) h1 else (b.ev cl ρ h1).bind fun y h2=>r.evOr cl ρ y h2).bind toB=_
        rw [bind_assoc]
        congr 1
        funext d h1
        unfold tru
        cases d with
        | bl c =>
          cases c with
          | true=>rfl
          | false =>
            show ((b.ev cl ρ h1).bind fun y h2=>r.evOr cl ρ y h2).bind toB=(b.evT cl ρ h1).bind fun c' h2=>r.evOrT cl ρ c' h2
            rw [evT_eq,bind_assoc,bind_assoc]
            congr 1
            funext y h2
            exact or_toB r ρ y h2
        | _=>rfl
      rw [e0] at q
      refine lift_bind (m:=a.evT cl) (R:=RB) hr er q fun c h1 μ1 H1 x _ e1 r1 er1 qa p1=>?_
      have qa':c=x:=qa
      subst qa'
      cases c with
      | true=>exact iteT (p1.here r1 rfl)
      | false=>exact iteF ⟨μ1,ρ,h1,r1,er1,p1⟩
  | .ite c a b p,X,Z,k,n,cv,cl,C,h=>by
    have h':((c.ok X.env.scope n=true /\ a.ok X.env.scope n=true) /\ b.ok X.env.scope n=true) /\ c.okT=true:=by have h:(_ && _)=true:=h; simpa using h
    have sc:=sE c X Z k n cv cl C h'.1.1.1
    have sa:=sE a X Z k n cv cl C h'.1.1.2
    have sb:=sE b X Z k n cv cl C h'.1.2
    refine ⟨?_,fun z=>nomatch z⟩
    refine PE.mono (pe_ifExp (sc.pt h'.2) sa.pe sb.pe) fun σ H Q=>lift_elim fun μ ρ h hr er q=>?_
    have e0:((c.ev cl ρ h).bind fun x h1=>tru x h1 fun t h1=>if t then a.ev cl ρ h1 else b.ev cl ρ h1)=(c.evT cl ρ h).bind fun t h1=>if t then a.ev cl ρ h1 else b.ev cl ρ h1:=by
      rw [evT_eq,bind_assoc]
      congr 1
      funext d h1
      unfold tru toB
      cases d <;> rfl
    have q:PostE X.K cv (Rep X.K) μ H ((c.ev cl ρ h).bind fun x h1=>tru x h1 fun t h1=>if t then a.ev cl ρ h1 else b.ev cl ρ h1) Q (Z σ):=q
    rw [e0] at q
    refine lift_bind (m:=c.evT cl) (R:=RB) hr er q fun t h1 μ1 H1 x _ e1 r1 er1 qa p1=>?_
    have qa':t=x:=qa
    subst qa'
    cases t with
    | true=>exact iteT ⟨μ1,ρ,h1,r1,er1,p1⟩
    | false=>exact iteF ⟨μ1,ρ,h1,r1,er1,p1⟩
  | .call f a r p0 p,X,Z,k,n,cv,cl,C,h=>by
    have h':((f < n.F.length /\ gOf X.env.scope (n.F.getD f "")=true) /\ a.ok X.env.scope n=true) /\ r.ok X.env.scope n=true:=by have h:(_ && _)=true:=h; simpa using h
    have sa:=sE a X Z k n cv cl C h'.1.2
    have sr:=sEs r X Z k n cv cl C h'.2
    obtain ⟨hdb,fa,fd,ps,hm,hk,hb,hl,F⟩:=C.fn f _ (getD_some (d:=("":Str)) h'.1.1.1)
    have pe:PE X ((E.call f a r p0 p).py n) (lift X.K cv (Rep X.K) Z ((E.call f a r p0 p).ev cl)):=by
      refine PE.mono (pe_callX F C.rm (C.gl h'.1.1.2) hm hk hb .nil C.th (pa_cons sa.pe sr.pa (star_cons a _ _)) hdb (star_cons a _ _) (star_plain r p X.env)) fun σ H Q=>lift_elim fun μ ρ h hr er q=>?_
      unfold tCallX tCons
      refine lift_bind (m:=a.ev cl) hr er q fun da h1 μ1 H1 x _ e1 r1 er1 qa p1=>?_
      refine lift_bind (m:=r.ev cl) r1 er1 p1 fun ds h2 μ2 H2 xs _ e2 r2 er2 qb p2=>?_
      show spI X.K cv ps.length (cl f) ((x :: xs) ++ []) H2 Q fun C _ H'=>Z σ C H'
      rw [List.append_nil]
      have z:=hl (da :: ds) h2 fun z=>by rw [z] at p2; exact p2
      exact ⟨by rw [List.length_cons,<- qb.length,<- List.length_cons (a:=da)]; exact z,μ2,h2,da :: ds,r2,.cons (qa.mono e2) qb,p2⟩
    exact ⟨pe,fun _=>by exact pt_lift pe fun _=>rfl⟩
  | .len a p0 p,X,Z,k,n,cv,cl,C,h=>by
    have h':gOf X.env.scope "len"=true /\ a.ok X.env.scope n=true:=by have h:(_ && _)=true:=h; simpa using h
    have sa:=sE a X Z k n cv cl C h'.2
    have pe:PE X ((E.len a p0 p).py n) (lift X.K cv (Rep X.K) Z ((E.len a p0 p).ev cl)):=by
      refine PE.mono (pe_callB (call_lenI (cv:=cv)) (C.gl h'.1) (C.bm _ (by decide)) PySem.boot_len (pa_cons sa.pe pa_nil (star_cons a _ _)) (by decide) (by decide) (star_cons a _ _) rfl) fun σ H Q=>lift_elim fun μ ρ h hr er q=>?_
      refine lift_bind (m:=a.ev cl) hr er q fun da h1 μ1 H1 x _ e1 r1 er1 qa p1=>?_
      exact ⟨x,rfl,μ1,h1,da,_,r1,qa,p1⟩
    exact ⟨pe,fun _=>by exact pt_lift pe fun _=>rfl⟩
  | .isi T a p0 p1 p,X,Z,k,n,cv,cl,C,h=>by
    have h':((gOf X.env.scope "isinstance"=true /\ gOf X.env.scope (tyName T)=true) /\ T < 5) /\ a.ok X.env.scope n=true:=by have h:(_ && _)=true:=h; simpa using h
    have sa:=sE a X Z k n cv cl C h'.2
    obtain ⟨b1,b2,b3,b4⟩:=boot_T T h'.1.2
    have pe:PE X ((E.isi T a p0 p1 p).py n) (lift X.K cv (Rep X.K) Z ((E.isi T a p0 p1 p).ev cl)):=by
      refine PE.mono (pe_callB (call_isI (cv:=cv) T h'.1.2) (C.gl h'.1.1.1) (C.bm _ (by decide)) PyProof.Rows.boot_isinstance (pa_cons sa.pe (pa_cons (pe_bltn (v:=.ty (tyStr T)) (C.gl h'.1.1.2) (C.bm _ b4) b1 rfl b2 b3) pa_nil) (star_cons a _ _)) (by decide) (by decide) (star_cons a _ _) rfl) fun σ H Q=>lift_elim fun μ ρ h hr er q=>?_
      refine lift_bind (m:=a.ev cl) hr er q fun da h1 μ1 H1 x _ e1 r1 er1 qa p1=>?_
      exact ⟨x,rfl,μ1,h1,da,_,r1,qa,p1⟩
    exact ⟨pe,fun _=>by exact pt_lift pe fun _=>rfl⟩
  | .sub a i p,X,Z,k,n,cv,cl,C,h=>by
    have h':a.ok X.env.scope n=true /\ i.ok X.env.scope n=true:=by have h:(_ && _)=true:=h; simpa using h
    have sa:=sE a X Z k n cv cl C h'.1
    have sb:=sE i X Z k n cv cl C h'.2
    have pe:PE X ((E.sub a i p).py n) (lift X.K cv (Rep X.K) Z ((E.sub a i p).ev cl)):=by
      refine PE.mono (pe_ix (ix_ours (cv:=cv) (hu_of C.rm)) sa.pe sb.pe (plain_ix i)) fun σ H Q q=>?_
      exact lift2 q
    exact ⟨pe,fun _=>by exact pt_lift pe fun _=>rfl⟩
  | .tup es p,X,Z,k,n,cv,cl,C,h=>by
    have h':es.ok X.env.scope n=true:=by exact h
    have sr:=sEs es X Z k n cv cl C h'
    have pe:PE X ((E.tup es p).py n) (lift X.K cv (Rep X.K) Z ((E.tup es p).ev cl)):=by
      refine PE.mono (pe_tup sr.pa) fun σ H Q=>lift_elim fun μ ρ h hr er q=>?_
      refine lift_bind (m:=es.ev cl) hr er q fun ds h1 μ1 H1 xs _ e1 r1 er1 qa p1=>?_
      split at p1
      · rename_i c
        refine ⟨by rw [<- qa.length]; exact Nat.le_of_lt (small1000 c),fun a ha=>?_⟩
        exact p1 μ1 _ (.ref a) (ext_new ha) (r1.tup ha) (.tup (SqT.of upd_same) (qa.mono (ext_new ha)))
      · exact p1.elim
    exact ⟨pe,fun _=>by exact pt_lift pe fun _=>rfl⟩
  | .ofL l,X,Z,k,n,cv,cl,C,h=>by
    have sl:=sL l X Z k n cv cl C (by exact h)
    refine ⟨?_,fun z=>nomatch z⟩
    refine PE.mono sl fun σ H Q=>lift_elim fun μ ρ h hr er q=>?_
    refine lift_bind0 (m:=l.ev cl) Ext.refl hr er q (fun _ _ z=>z) fun ds h1 μ1 H1 x _ e1 r1 er1 qa p1=>?_
    obtain ⟨p,vs,rfl,g1,g2,g3,g4⟩:=qa
    refine p1 (μ1 ++ [p]) H1 _ (e1.add g4) (r1.add g3 fun μ' gr=>⟨vs,g1,g2.mono' gr⟩) (.loc ?_)
    rw [<- r1.len,List.getElem?_append_right (Nat.le_refl _),Nat.sub_self]
    rfl
  | .tupL l p0 p,X,Z,k,n,cv,cl,C,h=>by
    have h':gOf X.env.scope "tuple"=true /\ l.ok X.env.scope n=true:=by have h:(_ && _)=true:=h; simpa using h
    have sl:=sL l X Z k n cv cl C h'.2
    have pe:PE X ((E.tupL l p0 p).py n) (lift X.K cv (Rep X.K) Z ((E.tupL l p0 p).ev cl)):=by
      refine PE.mono (pe_callTy call_tuple_of (C.gl h'.1) (C.bm _ (by decide)) PyProof.Rows.boot_tuple (pa_cons sl pa_nil (L.py_star l _ _)) (by decide) (by decide) (L.py_star l _ _) rfl) fun σ H Q=>lift_elim fun μ ρ h hr er q=>?_
      refine lift_bind0 (m:=l.ev cl) Ext.refl hr er q (fun _ _ z=>z) fun ds h1 μ1 H1 x _ e1 r1 er1 qa p1=>?_
      obtain ⟨b,vs,rfl,g1,g2,g3,g4⟩:=qa
      exact ⟨b,vs,rfl,.inl ⟨SqL.of g1,fun a ha=>p1 μ1 _ _ (e1.trans (ext_new ha)) (r1.tup ha) (.tup (SqT.of upd_same) (g2.mono (ext_new ha)))⟩⟩
    exact ⟨pe,fun _=>by exact pt_lift pe fun _=>rfl⟩
  | .tupE e p0 p,X,Z,k,n,cv,cl,C,h=>by
    have h':gOf X.env.scope "tuple"=true /\ e.ok X.env.scope n=true:=by have h:(_ && _)=true:=h; simpa using h
    have se:=sE e X Z k n cv cl C h'.2
    have pe:PE X ((E.tupE e p0 p).py n) (lift X.K cv (Rep X.K) Z ((E.tupE e p0 p).ev cl)):=by
      refine PE.mono (pe_callTy (call_tupI (cv:=cv)) (C.gl h'.1) (C.bm _ (by decide)) PyProof.Rows.boot_tuple (pa_cons se.pe pa_nil (star_cons e _ _)) (by decide) (by decide) (star_cons e _ _) rfl) fun σ H Q=>lift_elim fun μ ρ h hr er q=>?_
      refine lift_bind (m:=e.ev cl) hr er q fun da h1 μ1 H1 x _ e1 r1 er1 qa p1=>?_
      exact ⟨x,rfl,μ1,h1,da,_,r1,qa,p1⟩
    exact ⟨pe,fun _=>by exact pt_lift pe fun _=>rfl⟩
  | .cut a lo hi p2 p,X,Z,k,n,cv,cl,C,h=>by
    have h':(a.ok X.env.scope n=true /\ lo.ok X.env.scope n=true) /\ hi.ok X.env.scope n=true:=by have h:(_ && _)=true:=h; simpa using h
    have sa:=sE a X Z k n cv cl C h'.1.1
    have sl:=sEo lo X Z k n cv cl C h'.1.2
    have sh:=sEo hi X Z k n cv cl C h'.2
    have pe:PE X ((E.cut a lo hi p2 p).py n) (lift X.K cv (Rep X.K) Z ((E.cut a lo hi p2 p).ev cl)):=by
      refine PE.mono (pe_slice (sl_ours (cv:=cv)) sa.pe sl sh) fun σ H Q=>lift_elim fun μ ρ h hr er q=>?_
      refine lift_bind (m:=a.ev cl) hr er q fun da h1 μ1 H1 x _ e1 r1 er1 qa p1=>?_
      refine lift_bind (m:=lo.ev cl) (R:=fun _ _ a b=>a=b) r1 er1 p1 fun l h2 μ2 H2 l' _ e2 r2 er2 ql p2=>?_
      have ql':l=l':=ql
      subst ql'
      refine lift_bind (m:=hi.ev cl) (R:=fun _ _ a b=>a=b) r2 er2 p2 fun u h3 μ3 H3 u' _ e3 r3 er3 qu p3=>?_
      have qu':u=u':=qu
      subst qu'
      exact ⟨μ3,h3,da,_,r3,(qa.mono e2).mono e3,p3⟩
    exact ⟨pe,fun _=>by exact pt_lift pe fun _=>rfl⟩
  | .dic p,X,Z,k,n,cv,cl,C,h=>by
    refine ⟨?_,fun z=>nomatch z⟩
    refine PE.mono pe_dnewK fun σ H Q=>lift_elim fun μ ρ h hr er q=>?_
    intro b hb
    refine q _ _ _ ((ext_new hb).add hb) (hr.alloc hb (hr.fresh hb) fun μ' g=>⟨_,upd_same,.nil⟩) (.loc ?_)
    rw [<- hr.len,List.getElem?_append_right (Nat.le_refl _),Nat.sub_self]
    rfl
  | .m0 m o p1 p,X,Z,k,n,cv,cl,C,h=>by
    have h':o.ok X.env.scope n=true /\ p1.endLine=p.line:=by have h:(_ && _)=true:=h; simpa using h
    have so:=sE o X Z k n cv cl C h'.1
    have hl:(p1.endLine == p.line)=true:=beq_iff_eq.mpr h'.2
    have pe:PE X ((E.m0 m o p1 p).py n) (lift X.K cv (Rep X.K) Z ((E.m0 m o p1 p).ev cl)):=by
      cases m with
      | pop =>
        refine PE.mono (pe_bm0 PySem.F.plainAttrs_list PySem.F.slot_list_pop PySem.F.type_list_pop (mt_pop0 (cv:=cv)) so.pe (base_plain o _ _) hl) fun σ H Q=>lift_elim fun μ ρ h hr er q=>?_
        refine lift_bind (m:=o.ev cl) hr er q fun da h1 μ1 H1 x _ e1 r1 er1 qa p1=>?_
        exact ⟨m0_ty r1 qa fun z=>by rw [z] at p1; exact p1,rfl,μ1,h1,da,_,r1,qa,p1⟩
    exact ⟨pe,fun _=>by exact pt_lift pe fun _=>rfl⟩
  | .m1 m o a p1 p,X,Z,k,n,cv,cl,C,h=>by
    have h':(o.ok X.env.scope n=true /\ a.ok X.env.scope n=true) /\ p1.endLine=p.line:=by have h:(_ && _)=true:=h; simpa using h
    have so:=sE o X Z k n cv cl C h'.1.1
    have sa:=sE a X Z k n cv cl C h'.1.2
    have hl:(p1.endLine == p.line)=true:=beq_iff_eq.mpr h'.2
    have pe:PE X ((E.m1 m o a p1 p).py n) (lift X.K cv (Rep X.K) Z ((E.m1 m o a p1 p).ev cl)):=by
      cases m with
      | append =>
        refine PE.mono (pe_bm PySem.F.plainAttrs_list PySem.F.slot_list_append PySem.F.type_list_append (mt_append1 (cv:=cv)) so.pe (pa_cons sa.pe pa_nil (star_cons a _ _)) (base_plain o _ _) (few_one a _ _) hl (star_cons a _ _) rfl) fun σ H Q=>lift_elim fun μ ρ h hr er q=>?_
        refine lift_bind (m:=o.ev cl) hr er q fun da h1 μ1 H1 x _ e1 r1 er1 qa p1=>?_
        obtain ⟨ty,p1⟩:=onL_ty r1 qa p1
        refine ⟨ty,?_⟩
        refine lift_bind (m:=a.ev cl) r1 er1 p1 fun db h2 μ2 H2 y _ e2 r2 er2 qb p2=>?_
        exact ⟨y,rfl,μ2,h2,da,db,_,r2,qa.mono e2,qb,p2⟩
    exact ⟨pe,fun _=>by exact pt_lift pe fun _=>rfl⟩
  | .gcon x c p,X,Z,k,n,cv,cl,C,h=>by
    have h':gOf X.env.scope x=true /\ (x,c) ∈ n.G:=by have h:(_ && _)=true:=h; simpa using h
    obtain ⟨hd,v,hm,ok⟩:=C.gc x c h'.2
    have pe:PE X ((E.gcon x c p).py n) (lift X.K cv (Rep X.K) Z ((E.gcon x c p).ev cl)):=by
      cases c with
      | int i =>
        obtain ⟨t,rfl⟩:=ok
        refine PE.mono (pe_glob (v:=.int i) (C.gl h'.1) hm ⟨t,rfl⟩ hd) fun σ H Q=>lift_elim fun μ ρ h hr er q=>?_
        exact q.here hr (.int i)
      | str z =>
        obtain ⟨t,rfl⟩:=ok
        refine PE.mono (pe_glob (v:=.str z) (C.gl h'.1) hm ⟨t,rfl⟩ hd) fun σ H Q=>lift_elim fun μ ρ h hr er q=>?_
        exact q.here hr (.str z)
      | tup xs =>
        obtain ⟨a,rfl,tk⟩:=ok
        refine PE.mono (pe_glob (v:=.ref a) (C.gl h'.1) hm rfl hd) fun σ H Q=>lift_elim fun μ ρ h hr er q=>?_
        exact q.here hr tk.rep
      | dic kvs =>
        obtain ⟨a,o,es,ep,vs,rfl,_⟩:=ok
        refine PE.mono (pe_glob (v:=.ref a) (C.gl h'.1) hm rfl hd) fun σ H Q=>lift_elim fun μ ρ h hr er q=>?_
        exact q.elim
      | exc c u =>
        obtain ⟨a,_,_,_,_,rfl,_⟩:=ok
        refine PE.mono (pe_glob (v:=.ref a) (C.gl h'.1) hm rfl hd) fun σ H Q=>lift_elim fun μ ρ h hr er q=>?_
        exact q.elim
    exact ⟨pe,fun z=>by cases z⟩
  | .gsub x kvs i p0 p,X,Z,k,n,cv,cl,C,h=>by
    have h':(gOf X.env.scope x=true /\ (x,Cn.dic kvs) ∈ n.G) /\ i.ok X.env.scope n=true:=by have h:(_ && _)=true:=h; simpa using h
    obtain ⟨hd,v,hm,ok⟩:=C.gc x _ h'.1.2
    have si:=sE i X Z k n cv cl C h'.2
    have pe:PE X ((E.gsub x kvs i p0 p).py n) (lift X.K cv (Rep X.K) Z ((E.gsub x kvs i p0 p).ev cl)):=by
      have ok':=ok
      obtain ⟨a,o,es,ep,vs,rfl,_⟩:=ok'
      refine PE.mono (pe_ix (ix_cst (kvs:=kvs)) (pe_glob (v:=.ref a) (C.gl h'.1.1) hm rfl hd) si.pe (plain_ix i)) fun σ H Q=>lift_elim fun μ ρ h hr er q=>?_
      refine lift_bind (m:=i.ev cl) hr er q fun d h1 μ1 H1 y _ e1 r1 er1 qa p1=>?_
      unfold cstD at p1
      cases qa with
      | str kk =>
        simp only at p1
        split at p1
        · rename_i xs l
          exact ⟨a,kk,xs,rfl,rfl,ok,l,fun b tk=>p1.here r1 tk.rep⟩
        · exact p1.elim
      | _=>exact p1.elim
    exact ⟨pe,fun _=>by exact pt_lift pe fun _=>rfl⟩
  | .c1 f a p0 p,X,Z,k,n,cv,cl,C,h=>by
    have h':gOf X.env.scope f.name=true /\ a.ok X.env.scope n=true:=by have h:(_ && _)=true:=h; simpa using h
    have sa:=sE a X Z k n cv cl C h'.2
    have fin:∀ {σ H Q},lift X.K cv (Rep X.K) Z ((E.c1 f a p0 p).ev cl) σ H Q->lift X.K cv (Rep X.K) Z (a.ev cl) σ H fun x H1=>∃ y,[x]=[y] /\ r1 X.K cv (c1D f) y H1 Q:=fun {σ H Q} ⟨μ,ρ,h,hr,er,q⟩=>by
      refine lift_bind (m:=a.ev cl) hr er q fun da h1 μ1 H1 x _ e1 r1 er1 qa p1=>?_
      exact ⟨x,rfl,μ1,h1,da,_,r1,qa,p1⟩
    have pe:PE X ((E.c1 f a p0 p).py n) (lift X.K cv (Rep X.K) Z ((E.c1 f a p0 p).ev cl)):=by
      cases f with
      | str=>exact PE.mono (pe_callTy (call_strI (cv:=cv)) (C.gl h'.1) (C.bm _ (by decide)) PyProof.Rows.boot_str (pa_cons sa.pe pa_nil (star_cons a _ _)) (by decide) (by decide) (star_cons a _ _) rfl) fun σ H Q q=>fin q
      | int=>exact PE.mono (pe_callTy (call_intI (cv:=cv)) (C.gl h'.1) (C.bm _ (by decide)) PyProof.Rows.boot_int (pa_cons sa.pe pa_nil (star_cons a _ _)) (by decide) (by decide) (star_cons a _ _) rfl) fun σ H Q q=>fin q
      | all=>exact PE.mono (pe_callB (call_allI (cv:=cv) C.cm) (C.gl h'.1) (C.bm _ (by decide)) PyProof.Rows.boot_all (pa_cons sa.pe pa_nil (star_cons a _ _)) (by decide) (by decide) (star_cons a _ _) rfl) fun σ H Q q=>fin q
      | any=>exact PE.mono (pe_callB (call_anyI (cv:=cv) C.cm) (C.gl h'.1) (C.bm _ (by decide)) PyProof.Rows.boot_any (pa_cons sa.pe pa_nil (star_cons a _ _)) (by decide) (by decide) (star_cons a _ _) rfl) fun σ H Q q=>fin q
      | abs=>exact PE.mono (pe_callB (call_absI (cv:=cv)) (C.gl h'.1) (C.bm _ (by decide)) PyProof.Rows.boot_abs (pa_cons sa.pe pa_nil (star_cons a _ _)) (by decide) (by decide) (star_cons a _ _) rfl) fun σ H Q q=>fin q
    exact ⟨pe,fun _=>by exact pt_lift pe fun _=>rfl⟩
  | .join o a p1 p,X,Z,k,n,cv,cl,C,h=>by
    have h':(o.ok X.env.scope n=true /\ a.ok X.env.scope n=true) /\ p1.endLine=p.line:=by have h:(_ && _)=true:=h; simpa using h
    have so:=sE o X Z k n cv cl C h'.1.1
    have sa:=sE a X Z k n cv cl C h'.1.2
    have hl:(p1.endLine == p.line)=true:=beq_iff_eq.mpr h'.2
    have pe:PE X ((E.join o a p1 p).py n) (lift X.K cv (Rep X.K) Z ((E.join o a p1 p).ev cl)):=by
      refine PE.mono (pe_bm PySem.F.plainAttrs_str PySem.F.slot_str_join PySem.F.type_str_join (mt_joinI (cv:=cv)) so.pe (pa_cons sa.pe pa_nil (star_cons a _ _)) (base_plain o _ _) (few_one a _ _) hl (star_cons a _ _) rfl) fun σ H Q=>lift_elim fun μ ρ h hr er q=>?_
      refine lift_bind (m:=o.ev cl) hr er q fun da h1 μ1 H1 x _ e1 r1 er1 qa p1=>?_
      unfold onS at p1
      cases qa with
      | str z =>
        refine ⟨?ty,?_⟩
        case ty=>exact rfl
        refine lift_bind (m:=a.ev cl) r1 er1 p1 fun db h2 μ2 H2 y _ e2 r2 er2 qb p2=>?_
        exact ⟨y,rfl,μ2,h2,.str z,db,_,r2,.str z,qb,p2⟩
      | _=>exact p1.elim
    exact ⟨pe,fun _=>by exact pt_lift pe fun _=>rfl⟩
  | .split o a p1 p,X,Z,k,n,cv,cl,C,h=>by
    have h':(o.ok X.env.scope n=true /\ a.ok X.env.scope n=true) /\ p1.endLine=p.line:=by have h:(_ && _)=true:=h; simpa using h
    have so:=sE o X Z k n cv cl C h'.1.1
    have sa:=sE a X Z k n cv cl C h'.1.2
    have hl:(p1.endLine == p.line)=true:=beq_iff_eq.mpr h'.2
    have pe:PE X ((E.split o a p1 p).py n) (lift X.K cv (Rep X.K) Z ((E.split o a p1 p).ev cl)):=by
      refine PE.mono (pe_bm PySem.F.plainAttrs_str PySem.F.slot_str_split PySem.F.type_str_split (mt_splitI (cv:=cv)) so.pe (pa_cons sa.pe pa_nil (star_cons a _ _)) (base_plain o _ _) (few_one a _ _) hl (star_cons a _ _) rfl) fun σ H Q=>lift_elim fun μ ρ h hr er q=>?_
      refine lift_bind (m:=o.ev cl) hr er q fun da h1 μ1 H1 x _ e1 r1 er1 qa p1=>?_
      unfold onS at p1
      cases qa with
      | str z =>
        refine ⟨?ty,?_⟩
        case ty=>exact rfl
        refine lift_bind (m:=a.ev cl) r1 er1 p1 fun db h2 μ2 H2 y _ e2 r2 er2 qb p2=>?_
        exact ⟨y,rfl,μ2,h2,.str z,db,_,r2,.str z,qb,p2⟩
      | _=>exact p1.elim
    exact ⟨pe,fun _=>by exact pt_lift pe fun _=>rfl⟩
  | .cmpN neg a p1 p,X,Z,k,n,cv,cl,C,h=>by
    have h':a.ok X.env.scope n=true:=by exact h
    have sa:=sE a X Z k n cv cl C h'
    have hu:X.A.units < cLine:=by have:=C.rm.units; omega
    have hop:OpR X (compareOp (if neg then .NotEq else .Eq)) (rNil X.K neg):=by cases neg with | true=>exact op_neNil hu | false=>exact op_eqNil hu
    have hb:behindInMarks (if neg then .NotEq else .Eq) (.List [] p1)=false:=by cases neg <;> rfl
    have fin:∀ {μ1:List Addr} {h1:Hh} {H1:Hp} {x:V} {da:D} {Q:VK} {Z1:Value->Hp->Prop},HR X.K μ1 h1 H1->Rep X.K μ1 H1 da x->PostE X.K cv (Rep X.K) μ1 H1 (nilD neg da h1) Q Z1->∀ b,H1 b=none->rNil X.K neg x (.ref b) (upd H1 b (.lst [])) Q:=fun {μ1 h1 H1 x da Q Z1} r1 qa p1 b hb'=>by
      unfold nilD at p1
      have q2:=SqL.of (K:=X.K) (upd_same (H:=H1) (a:=b) (o:=.lst []))
      cases qa with
      | @fl ds vs a f r =>
        refine ⟨a,b,vs,rfl,rfl,((ext_new (μ:=μ1) hb').fz _ _ f).sq,q2,?_⟩
        have z:=p1 μ1 (upd H1 b (.lst [])) _ (ext_new hb') (r1.tup hb') (.bl _)
        rw [r.isEmpty] at z
        exact z
      | @loc nn a m =>
        cases e2:PI.rd h1 nn with
        | none=>simp only [e2] at p1; exact p1.elim
        | some ds =>
          simp only [e2] at p1
          obtain ⟨vs,q1,r⟩:=rd_reps r1 m e2
          refine ⟨a,b,vs,rfl,rfl,SqL.of (by rw [upd_ne (by intro z; rw [z,hb'] at q1; cases q1)]; exact q1),q2,?_⟩
          have z:=p1 μ1 (upd H1 b (.lst [])) _ (ext_new hb') (r1.tup hb') (.bl _)
          rw [r.isEmpty] at z
          exact z
      | _=>exact p1.elim
    have pe:PE X ((E.cmpN neg a p1 p).py n) (lift X.K cv (Rep X.K) Z ((E.cmpN neg a p1 p).ev cl)):=by
      refine PE.mono (pe_cmpR hop sa.pe (pe_lst pa_nil) hb) fun σ H Q=>lift_elim fun μ ρ h hr er q=>?_
      refine lift_bind (m:=a.ev cl) hr er q fun da h1 μ1 H1 x _ e1 r1 er1 qa p1=>?_
      exact ⟨Nat.zero_le _,fun b hb'=>fin r1 qa p1 b hb'⟩
    refine ⟨pe,fun _=>?_⟩
    refine PT.mono (pt_cmpR hop sa.pe (pe_lst pa_nil) hb) fun σ H Q=>lift_elim fun μ ρ h hr er q=>?_
    have q:PostE X.K cv RB μ H (((a.ev cl ρ h).bind fun x h1=>nilD neg x h1).bind toB) Q (Z σ):=q
    rw [bind_assoc] at q
    unfold tTest
    refine lift_bind (m:=a.ev cl) hr er q fun da h1 μ1 H1 x _ e1 r1 er1 qa p1=>?_
    refine ⟨Nat.zero_le _,fun b hb'=>fin (Z1:=Z σ) r1 qa ?_ b hb'⟩
    cases e3:nilD neg da h1 with
    | ok d h3 =>
      rw [e3] at p1
      intro μ3 H3 v x1 x2 x3
      unfold Res.bind toB at p1
      cases x3 with
      | bl c=>exact ⟨c,rfl,p1 μ3 H3 c x1 x2 rfl⟩
      | _=>exact p1.elim
    | exc c h3=>rw [e3] at p1; exact p1
    | no=>rw [e3] at p1; exact p1
theorem sEo:∀ (e:Eo) (X:Cx) (Z:ZK) (k:Nat) (n:Nm) (cv:Nat->Value) (cl:Nat->List D->Hh->Res D),Kx X Z k n cv cl->e.ok X.env.scope n=true->PO X (e.py n) (lift X.K cv (fun _ _ a b=>a=b) Z (e.ev cl))
  | .none,X,Z,k,n,cv,cl,C,h=>by
    refine PO.mono po_none fun σ H Q=>lift_elim fun μ ρ h hr er q=>?_
    exact q.here hr rfl
  | .some e,X,Z,k,n,cv,cl,C,h=>by
    have se:=sE e X Z k n cv cl C (by exact h)
    refine PO.mono (po_some se.pe) fun σ H Q=>lift_elim fun μ ρ h hr er q=>?_
    refine lift_bind (m:=e.ev cl) hr er q fun d h1 μ1 H1 x _ e1 r1 er1 qa p1=>?_
    unfold intO at p1
    cases qa with
    | int i=>exact ⟨i,rfl,p1.here r1 rfl⟩
    | _=>exact p1.elim
theorem sL:∀ (l:L) (X:Cx) (Z:ZK) (k:Nat) (n:Nm) (cv:Nat->Value) (cl:Nat->List D->Hh->Res D),Kx X Z k n cv cl->l.ok X.env.scope n=true->PE X (l.py n) (liftL X.K cv Z (l.ev cl))
  | .disp es p,X,Z,k,n,cv,cl,C,h=>by
    have sr:=sEs es X Z k n cv cl C (by exact h)
    refine PE.mono (pe_lst sr.pa) fun σ H Q=>lift_elim fun μ ρ h hr er q=>?_
    refine lift_bind0 (m:=es.ev cl) Ext.refl hr er q (fun _ _ z=>z) fun ds h1 μ1 H1 xs _ e1 r1 er1 qa p1=>?_
    split at p1
    · rename_i c
      refine ⟨by rw [<- qa.length]; exact Nat.le_of_lt (small1000 c),fun a ha=>?_⟩
      have na:=r1.fresh ha
      have n0:H a=none:=by
        cases e:H a with
        | none=>rfl
        | some o=>rw [e1.oth a o e fun z=>na (e1.sub z)] at ha; cases ha
      exact p1 μ1 _ _ (e1.trans (ext_new ha)) (r1.tup ha) ⟨a,xs,rfl,upd_same,qa.mono (ext_new ha),na,n0⟩
    · exact p1.elim
  | .comp elt t it c NC cap csc p,X,Z,k,n,cv,cl,C,h=>by
    obtain ⟨k1,k2',k3,k4,k5,k6,k7,k8,k9⟩:=comp_ok C h
    have hit:=sI it X Z k n cv cl C k1.1 t k1.2 NC
    exact pe_compI (X:=X) (Z:=Z) (cv:=cv) (mi:=it.ev cl) (mc:=c.evC cl) (me:=elt.ev cl) (pos:=p) (elt:=elt.py ⟨NC,n.F,n.G⟩) (iter:=it.py n) (ifs:=c.py ⟨NC,n.F,n.G⟩) C.cm C.th hit k2' k5
      (fun Cc s H fp pn xe=>comp_pg C.kd k2' k3 k5)
      (fun Cc s H fp pn xe Zc th=>by
        have Cc':=C.comp k2' k3 k4 th
        cases c with
        | nil=>exact pf_none
        | cons e r =>
          cases r with
          | cons _ _=>cases k9
          | nil =>
            have se:=sE e _ Zc k ⟨NC,n.F,n.G⟩ cv cl Cc' (by have k7:(_ && _)=true:=k7; simp at k7; exact k7.1)
            have ht:=se.pt (by have k8:(_ && _)=true:=k8; simp at k8; exact k8.1)
            exact pf_one ht)
      (fun Cc s H fp pn xe Zc th=>(sE elt _ Zc k ⟨NC,n.F,n.G⟩ cv cl (C.comp k2' k3 k4 th) k6).pe) (fold_plain it)
theorem sI:∀ (it:I) (X:Cx) (Z:ZK) (k:Nat) (n:Nm) (cv:Nat->Value) (cl:Nat->List D->Hh->Res D),Kx X Z k n cv cl->it.ok X.env.scope n=true->∀ t:Tg,t.forI it=true->∀ N,L2.PI X (t.py N) (it.py n) (lift X.K cv (RJ X.K) Z (it.ev cl))
  | .seq e,X,Z,k,n,cv,cl,C,h=>fun t ht N=>by
    have se:=sE e X Z k n cv cl C (by exact h)
    refine PI.mono (pi_any se.pe) fun σ H Q=>lift_elim fun μ ρ h hr er q=>?_
    refine lift_bind (m:=e.ev cl) hr er q fun d h1 μ1 H1 x _ e1 r1 er1 qa p1=>?_
    cases qa with
    | tup g1 g2=>exact .inr (.inl ⟨_,rfl,⟨_,g1⟩,p1.here r1 (src_tup g1 g2)⟩)
    | fl g1 g2=>exact .inl ⟨_,rfl,⟨_,g1.sq⟩,p1.here r1 (src_fl g1 g2)⟩
    | str z=>exact .inr (.inr ⟨_,rfl,p1.here r1 (src_str z)⟩)
    | @loc nn a m =>
      cases e2:rd h1 nn with
      | none=>simp only [e2] at p1; exact p1.elim
      | some xs =>
        simp only [e2] at p1
        obtain ⟨vs,hs1,rs⟩:=r1.rd e2 m
        exact .inl ⟨_,rfl,⟨_,hs1⟩,p1.here r1 (src_loc m)⟩
    | _=>exact p1.elim
  | .lst l,X,Z,k,n,cv,cl,C,h=>fun t ht N=>by
    have sl:=sL l X Z k n cv cl C (by exact h)
    refine PI.mono (pi_list sl) fun σ H Q=>lift_elim fun μ ρ h hr er q=>?_
    refine lift_bind0 (m:=l.ev cl) Ext.refl hr er q (fun _ _ z=>z) fun ds h1 μ1 H1 x _ e1 r1 er1 qa p1=>?_
    obtain ⟨p,vs,rfl,g1,g2,g3,g4⟩:=qa
    exact ⟨p,rfl,⟨vs,SqL.of g1⟩,p1 μ1 H1 _ e1 r1 (src_new g1 g3 g2)⟩
  | .rng a p0 p,X,Z,k,n,cv,cl,C,h=>fun t ht N=>by
    have h':gOf X.env.scope "range"=true /\ a.ok X.env.scope n=true:=by have h:(_ && _)=true:=h; simpa using h
    have sa:=sE a X Z k n cv cl C h'.2
    refine PI.mono (pi_range1 (C.gl h'.1) (C.bm _ (by decide)) (pa_cons sa.pe pa_nil (star_cons a _ _)) (star_cons a _ _)) fun σ H Q=>lift_elim fun μ ρ h hr er q=>?_
    refine lift_bind (m:=a.ev cl) hr er q fun d h1 μ1 H1 x _ e1 r1 er1 qa p1=>?_
    cases qa with
    | int j =>
      simp only at p1
      split at p1
      · rename_i c
        exact ⟨j,rfl,by have:=c.1; omega,by have:=c.2; omega,p1.here r1 (src_rng j.toNat)⟩
      · exact p1.elim
    | _=>exact p1.elim
  | .zip a b p0 p,X,Z,k,n,cv,cl,C,h=>fun t ht N=>by
    cases t with
    | one i q=>cases ht
    | tup is q =>
      have h':(gOf X.env.scope "zip"=true /\ a.ok X.env.scope n=true) /\ b.ok X.env.scope n=true:=by have h:(_ && _)=true:=h; simpa using h
      have sa:=sE a X Z k n cv cl C h'.1.2
      have sb:=sE b X Z k n cv cl C h'.2
      refine PI.mono (pi_zip (C.gl h'.1.1) (C.bm _ (by decide)) (pa_cons sa.pe (pa_cons sb.pe pa_nil (star_cons b _ _)) (star_cons a _ _)) (star_cons a _ _) (by rw [star_cons]; rfl)) fun σ H Q=>lift_elim fun μ ρ h hr er q=>?_
      refine lift_bind (m:=a.ev cl) hr er q fun d h1 μ1 H1 x _ e1 r1 er1 qa p1=>?_
      refine lift_bind (m:=b.ev cl) r1 er1 p1 fun d2 h2 μ2 H2 y _ e2 r2 er2 qb p2=>?_
      unfold zipD at p2
      cases g1:seqC d h2 with
      | none=>rw [g1] at p2; exact p2.elim
      | some s1 =>
        cases g2:seqC d2 h2 with
        | none=>simp only [g1,g2] at p2; exact p2.elim
        | some s2 =>
          simp only [g1,g2] at p2
          obtain ⟨l1,b1,vs,rfl,u1,v1,w1⟩:=zip_src (qa.mono e2) r2 g1
          obtain ⟨l2,b2,ws,rfl,u2,v2,w2⟩:=zip_src qb r2 g2
          refine ⟨l1,l2,b1,b2,vs,ws,rfl,u1,u2,?_⟩
          rw [v1,v2]
          exact p2.here r2 (src_zip w1 w2)
theorem sEs:∀ (r:Es) (X:Cx) (Z:ZK) (k:Nat) (n:Nm) (cv:Nat->Value) (cl:Nat->List D->Hh->Res D),Kx X Z k n cv cl->r.ok X.env.scope n=true->SEs X Z n cv cl r
  | .nil,X,Z,k,n,cv,cl,C,_=>by
    refine ⟨?_,fun b p sb=>?_,fun b p sb hb _=>?_,fun b p sb=>?_,fun b p sb hb _=>?_,ps_nil⟩
    · skip
      refine PA.mono pa_nil fun σ H Q=>lift_elim fun μ ρ h hr er q=>?_
      exact q.here hr .nil
    · skip
      refine PE.mono (pe_one sb.pe) fun σ H Q=>lift_elim fun μ ρ h hr er q=>⟨μ,ρ,h,hr,er,?_⟩
      have q:PostE X.K cv (Rep X.K) μ H ((b.ev cl ρ h).bind fun a h1=>.ok a h1) Q (Z σ):=q
      rwa [bind_pure] at q
    · skip
      refine PW.mono (pw_and1 (sb.pt hb)) fun σ H Q=>lift_elim fun μ ρ h hr er q=>⟨μ,ρ,h,hr,er,?_⟩
      have q:PostE X.K cv RB μ H ((b.evT cl ρ h).bind fun a h1=>.ok a h1) Q (Z σ):=q
      rwa [bind_pure] at q
    · skip
      refine PE.mono (pe_one sb.pe) fun σ H Q=>lift_elim fun μ ρ h hr er q=>⟨μ,ρ,h,hr,er,?_⟩
      have q:PostE X.K cv (Rep X.K) μ H ((b.ev cl ρ h).bind fun a h1=>.ok a h1) Q (Z σ):=q
      rwa [bind_pure] at q
    · skip
      refine PW.mono (pw_or1 (sb.pt hb)) fun σ H Q=>lift_elim fun μ ρ h hr er q=>⟨μ,ρ,h,hr,er,?_⟩
      have q:PostE X.K cv RB μ H ((b.evT cl ρ h).bind fun a h1=>.ok a h1) Q (Z σ):=q
      rwa [bind_pure] at q
  | .cons e r,X,Z,k,n,cv,cl,C,h=>by
    have h':e.ok X.env.scope n=true /\ r.ok X.env.scope n=true:=by have h:(_ && _)=true:=h; simpa using h
    have se:=sE e X Z k n cv cl C h'.1
    have sr:=sEs r X Z k n cv cl C h'.2
    refine ⟨?_,fun b p sb=>?_,fun b p sb hb hr'=>?_,fun b p sb=>?_,fun b p sb hb hr'=>?_,ps_cons se.pe sr.ps⟩
    · skip
      refine PA.mono (pa_cons se.pe sr.pa (star_cons e _ _)) fun σ H Q=>lift_elim fun μ ρ h hr er q=>?_
      refine lift_bind (m:=e.ev cl) hr er q fun da h1 μ1 H1 x _ e1 r1 er1 qa p1=>?_
      refine lift_bind (m:=r.ev cl) r1 er1 p1 fun ds h2 μ2 H2 xs _ e2 r2 er2 qb p2=>?_
      exact p2.here r2 (.cons (qa.mono e2) qb)
    · skip
      refine PE.mono (pe_and sb.pe (sr.an e p se)) fun σ H Q=>lift_elim fun μ ρ h hr er q=>?_
      refine lift_bind (m:=b.ev cl) hr er q fun d h1 μ1 H1 x _ e1 r1 er1 qa p1=>?_
      cases qa with
      | bl c =>
        refine ⟨c,rfl,?_⟩
        cases c with
        | true=>exact iteT ⟨μ1,ρ,h1,r1,er1,p1⟩
        | false=>exact iteF (p1.here r1 (.bl _))
      | _=>exact p1.elim
    · skip
      have hr2:e.okT=true /\ r.okT=true:=by have hr':(_ && _)=true:=hr'; simpa using hr'
      refine PW.mono (pw_and (sb.pt hb) (sr.anT e p se hr2.1 hr2.2)) fun σ H Q=>lift_elim fun μ ρ h hr er q=>?_
      refine lift_bind (m:=b.evT cl) (R:=RB) hr er q fun c h1 μ1 H1 x _ e1 r1 er1 qa p1=>?_
      have qa':c=x:=qa
      subst qa'
      cases c with
      | true=>exact iteT ⟨μ1,ρ,h1,r1,er1,p1⟩
      | false=>exact iteF (p1.here r1 rfl)
    · skip
      refine PE.mono (pe_or sb.pe (sr.orr e p se)) fun σ H Q=>lift_elim fun μ ρ h hr er q=>?_
      refine lift_bind (m:=b.ev cl) hr er q fun d h1 μ1 H1 x _ e1 r1 er1 qa p1=>?_
      cases qa with
      | bl c =>
        refine ⟨c,rfl,?_⟩
        cases c with
        | true=>exact iteT (p1.here r1 (.bl _))
        | false=>exact iteF ⟨μ1,ρ,h1,r1,er1,p1⟩
      | _=>exact p1.elim
    · skip
      have hr2:e.okT=true /\ r.okT=true:=by have hr':(_ && _)=true:=hr'; simpa using hr'
      refine PW.mono (pw_or (sb.pt hb) (sr.orT e p se hr2.1 hr2.2)) fun σ H Q=>lift_elim fun μ ρ h hr er q=>?_
      refine lift_bind (m:=b.evT cl) (R:=RB) hr er q fun c h1 μ1 H1 x _ e1 r1 er1 qa p1=>?_
      have qa':c=x:=qa
      subst qa'
      cases c with
      | true=>exact iteT (p1.here r1 rfl)
      | false=>exact iteF ⟨μ1,ρ,h1,r1,er1,p1⟩
end
end
end PI
set_option Elab.async false
set_option linter.all false
set_option maxRecDepth 100000
set_option maxHeartbeats 4000000
namespace PI
open PySem L2 PySem.Spec
open PyProof.Rows hiding St
noncomputable def PostS (K:PySem.W.Frag) (cv:Nat->Value) (μ:List Addr) (H:Hp) (r:RS) (En:Ends) (Z:ZK):Prop :=
  match r with
  | .nx ρ h'=>∀ μ' H' σ',Ext K μ H μ' H'->HR K μ' h' H'->ER K μ' ρ σ' H'->En.nx σ' H'
  | .bk ρ h'=>∀ μ' H' σ',Ext K μ H μ' H'->HR K μ' h' H'->ER K μ' ρ σ' H'->En.bk σ' H'
  | .ct ρ h'=>∀ μ' H' σ',Ext K μ H μ' H'->HR K μ' h' H'->ER K μ' ρ σ' H'->En.ct σ' H'
  | .rt d h'=>∀ μ' H' v,Ext K μ H μ' H'->HR K μ' h' H'->Rep K μ' H' d v->En.rt v H'
  | .ex c ρ h'=>∀ μ' H' σ',Ext K μ H μ' H'->HR K μ' h' H'->ER K μ' ρ σ' H'->Z σ' (cv c) H'
  | .no=>False
noncomputable def liftS (K:PySem.W.Frag) (cv:Nat->Value) (Z:ZK) (m:En->Hh->RS):TS:=fun En σ H=>∃ μ ρ h,HR K μ h H /\ ER K μ ρ σ H /\ PostS K cv μ H (m ρ h) En Z
theorem liftS_elim {K:PySem.W.Frag} {cv:Nat->Value} {Z:ZK} {m:En->Hh->RS} {En:Ends} {σ:St} {H:Hp} {G:Prop} (f:∀ μ ρ h,HR K μ h H->ER K μ ρ σ H->PostS K cv μ H (m ρ h) En Z->G) (x:liftS K cv Z m En σ H):G:=by
  obtain ⟨μ,ρ,h,hr,er,q⟩:=x
  exact f μ ρ h hr er q
theorem PostS.ext {K:PySem.W.Frag} {cv:Nat->Value} {μ μ1:List Addr} {H H1:Hp} {r:RS} {En:Ends} {Z:ZK} (p:PostS K cv μ H r En Z) (e:Ext K μ H μ1 H1):PostS K cv μ1 H1 r En Z:=by
  unfold PostS at p ⊢
  cases r with
  | nx ρ h=>exact fun μ' H' σ' e1 r1 q1=>p μ' H' σ' (e.trans e1) r1 q1
  | bk ρ h=>exact fun μ' H' σ' e1 r1 q1=>p μ' H' σ' (e.trans e1) r1 q1
  | ct ρ h=>exact fun μ' H' σ' e1 r1 q1=>p μ' H' σ' (e.trans e1) r1 q1
  | rt d h=>exact fun μ' H' σ' e1 r1 q1=>p μ' H' σ' (e.trans e1) r1 q1
  | ex c ρ h=>exact fun μ' H' σ' e1 r1 q1=>p μ' H' σ' (e.trans e1) r1 q1
  | no=>exact p
theorem liftS_bind {α β:Type} {K:PySem.W.Frag} {cv:Nat->Value} {R:List Addr->Hp->α->β->Prop} {μ:List Addr} {ρ:En} {h:Hh} {σ:St} {H:Hp} {Z:ZK} {m:En->Hh->Res α} {f:α->Hh->RS} {En:Ends} {Q':β->Hp->Prop}
    (hr:HR K μ h H) (er:ER K μ ρ σ H) (p:PostS K cv μ H (andS ρ (m ρ h) f) En Z)
    (go:∀ a h1 μ1 H1 x,m ρ h=.ok a h1->Ext K μ H μ1 H1->HR K μ1 h1 H1->ER K μ1 ρ σ H1->R μ1 H1 a x->PostS K cv μ1 H1 (f a h1) En Z->Q' x H1) :
    lift K cv R Z m σ H Q':=by
  refine ⟨μ,ρ,h,hr,er,?_⟩
  unfold andS at p
  cases e:m ρ h with
  | ok a h1 =>
    rw [e] at p
    exact fun μ1 H1 x e1 r1 q1=>go a h1 μ1 H1 x e e1 r1 (er.mono e1) q1 (PostS.ext p e1)
  | exc c h1 =>
    rw [e] at p
    exact fun μ1 H1 e1 r1=>p μ1 H1 σ e1 r1 (er.mono e1)
  | no=>rw [e] at p; exact p
noncomputable def Xt.ok (sc:Scope) (n:Nm) (t:Xt):Bool:=gOf sc t.x && !(t.x == ("__debug__":Str)) && (match t.d with
  | some d=>n.G.any fun q=>q.1 == t.x && (match q.2 with | .exc d' _=>d' == d | _=>false)
  | none=>t.x == ("ValueError":Str))
noncomputable def Xv.ok (sc:Scope) (n:Nm):Xv->Bool
  | .and a b r _=>a.ok sc n && b.ok sc n && r.all (Xt.ok sc n)
  | .lst ts _=>ts.all (Xt.ok sc n) && decide (ts.length<=1000)
  | .one t=>t.ok sc n
theorem call_isx1 {X:Cx} {d:Addr}:CallR X (.builtin "isinstance") (fun xs H Q=>∃ a C b,xs=[.ref a,.ref d] /\ H a=some (exO a C) /\ ExC X.K C /\ PySem.W.kitOne X.K (.ref C) (.ref d)=some b /\ Q (.bl b) H):=by
  intro pins s σ H xs us Q I r h
  obtain ⟨a,C,b,rfl,ea,Z,e,q⟩:=h
  obtain ⟨u,w',rfl,rx,rw'⟩:=vals2 r
  cases (show u=Value.ref a from rx)
  cases (show w'=Value.ref d from rw')
  exact call_isx Z e I ea fun tk=>⟨.bl b,H,I.tok _,rfl,q⟩
theorem call_isx2 {X:Cx} {T:String}:CallR X (.builtin "isinstance") (fun xs H Q=>∃ a C b,xs=[.ref a,.ty T] /\ H a=some (exO a C) /\ ExC X.K C /\ PySem.W.kitOne X.K (.ref C) (.type T)=some b /\ Q (.bl b) H):=by
  intro pins s σ H xs us Q I r h
  obtain ⟨a,C,b,rfl,ea,Z,e,q⟩:=h
  obtain ⟨u,w',rfl,rx,rw'⟩:=vals2 r
  cases (show u=Value.ref a from rx)
  cases (show w'=Value.type T from rw')
  exact call_isx Z e I ea fun tk=>⟨.bl b,H,I.tok _,rfl,q⟩
noncomputable def XIn (K:PySem.W.Frag) (G:List (Str × Cn)) (cv:Nat->Value) (j:Nat) (σ:St) (H:Hp) (u:List Nat):Prop:=∃ a C,σ[j]?=some (some (.ref a)) /\ H a=some (exO a C) /\ TstK K G cv C u
noncomputable def tX (K:PySem.W.Frag) (G:List (Str × Cn)) (cv:Nat->Value) (j:Nat) (f:List Nat->V):TE:=fun σ H Q=>∃ u,XIn K G cv j σ H u /\ Q (f u) H
noncomputable def tXs (K:PySem.W.Frag) (G:List (Str × Cn)) (cv:Nat->Value) (j:Nat) (f:List Nat->List V):TA:=fun σ H Q=>∃ u,XIn K G cv j σ H u /\ Q (f u) H
structure XK' (X:Cx) (n:Nm) (cv:Nat->Value) (j:Nat):Prop where
  is:Gl X "isinstance"
  mi:X.mg "isinstance"=none
  mv:X.mg "ValueError"=none
  hj:X.N[j]?=some (n.N.getD j "")
  vi:Vis X.env.scope (n.N.getD j "")
  nd:(n.N.getD j "" == ("__debug__":Str))=false
  nc:(n.N.getD j "" == ("__classdict__":Str))=false
  gc:∀ x c u,(x,Cn.exc c u) ∈ n.G->∃ a,X.mg x=some (.ref a) /\ cv c=.ref a
section
variable {X:Cx} {n:Nm} {cv:Nat->Value} {j:Nat}
theorem boot_VE:bootBuiltins "ValueError"=some (.type "ValueError"):=by decide +kernel
theorem pe_call_x (C:XK' X n cv j) (t:Xt) (h:t.ok X.env.scope n=true):PE X (t.call (n.N.getD j "")) (tX X.K n.G cv j fun u=>.bl (t.is u)):=by
  obtain ⟨neg,x,d,q1,q2,q3,q4,q5⟩:=t
  have h:(_ && _)=true:=h
  simp only [Bool.and_eq_true,Bool.not_eq_true'] at h
  obtain ⟨⟨hg,hd⟩,h⟩:=h
  have hg:Gl X x:=show X.env.scope.names.lookup x=some .globalImplicit from of_decide_eq_true hg
  cases d with
  | some d =>
    obtain ⟨q,hq,e⟩:=List.any_eq_true.mp h
    obtain ⟨y,c⟩:=q
    rw [Bool.and_eq_true] at e
    cases c with
    | exc d' w =>
      have e1:y=x:=eq_of_beq e.1
      have e2:d'=d:=eq_of_beq e.2
      subst e1 e2
      obtain ⟨a,hm,ec⟩:=C.gc y d' w hq
      refine PE.mono (pe_callB (call_isx1 (d:=a)) C.is C.mi PyProof.Rows.boot_isinstance (pa_cons (pv j C.hj C.vi C.nd C.nc) (pa_cons (pe_glob (v:=.ref a) hg hm rfl hd) pa_nil)) (by decide) (by decide) rfl rfl) fun σ H Q q=>?_
      obtain ⟨u,⟨b,D,e1,e2,T⟩,q⟩:=q
      have:=T.ot y d' w hq
      rw [ec] at this
      exact ⟨_,e1,b,D,_,rfl,e2,T.ec,this,q⟩
    | int _=>cases e.2
    | str _=>cases e.2
    | tup _=>cases e.2
    | dic _=>cases e.2
  | none =>
    have e:x="ValueError":=eq_of_beq h
    subst e
    refine PE.mono (pe_callB (call_isx2 (T:="ValueError")) C.is C.mi PyProof.Rows.boot_isinstance (pa_cons (pv j C.hj C.vi C.nd C.nc) (pa_cons (pe_bltn (x:="ValueError") (v:=.ty "ValueError") hg C.mv (u:=.type "ValueError") boot_VE rfl (by decide) (by decide)) pa_nil)) (by decide) (by decide) rfl rfl) fun σ H Q q=>?_
    obtain ⟨u,⟨b,D,e1,e2,T⟩,q⟩:=q
    exact ⟨_,e1,b,D,_,rfl,e2,T.ec,T.ve,q⟩
theorem pe_xt (C:XK' X n cv j) (t:Xt) (h:t.ok X.env.scope n=true):PE X (t.py (n.N.getD j "")) (tX X.K n.G cv j fun u=>.bl (t.val u)):=by
  have p:=pe_call_x C t h
  unfold Xt.py Xt.val
  cases t.neg with
  | false=>exact p
  | true=>exact PE.mono (pe_not p) fun σ H Q q=>by obtain ⟨u,x,q⟩:=q; exact ⟨u,x,_,rfl,q⟩
theorem xt_star (t:Xt) (e:Str) (es:List Expr) (env:Env):starEach (t.py e :: es) env=(false,eval (t.py e) env) :: starEach es env:=by
  unfold Xt.py
  cases t.neg <;> rfl
theorem pa_xts (C:XK' X n cv j):∀ (ts:List Xt),ts.all (Xt.ok X.env.scope n)=true->PA X (ts.map (Xt.py (n.N.getD j ""))) (tXs X.K n.G cv j fun u=>ts.map fun t=>.bl (t.val u))
  | [],_=>fun pos pins s σ H Q I q=>pa_nil pos pins s σ H Q I (by obtain ⟨u,x,q⟩:=q; exact q)
  | t :: r,h=>by
    rw [List.all_cons,Bool.and_eq_true] at h
    intro pos pins s σ H Q I q
    refine pa_cons (pe_xt C t h.1) (pa_xts C r h.2) (xt_star t _ _ _) pos pins s σ H Q I ?_
    obtain ⟨u,x,q⟩:=q
    exact ⟨u,x,u,x,q⟩
theorem pe_ands (C:XK' X n cv j) (p:Pos):∀ (r:List Xt) (a:Xt),a.ok X.env.scope n=true->r.all (Xt.ok X.env.scope n)=true->PE X (.BoolOp .And (a.py (n.N.getD j "") :: r.map (Xt.py (n.N.getD j ""))) p) (tX X.K n.G cv j fun u=>.bl (a.val u && r.all (Xt.val u)))
  | [],a,h,_=>PE.mono (pe_one (pe_xt C a h)) fun σ H Q q=>by
    obtain ⟨u,x,q⟩:=q
    refine ⟨u,x,?_⟩
    dsimp only at q ⊢
    rw [List.all_nil,Bool.and_true] at q
    exact q
  | b :: r,a,h,hr=>by
    rw [List.all_cons,Bool.and_eq_true] at hr
    refine PE.mono (pe_and (pe_xt C a h) (pe_ands C p r b hr.1 hr.2)) fun σ H Q q=>?_
    obtain ⟨u,x,q⟩:=q
    refine ⟨u,x,_,rfl,?_⟩
    dsimp only at q ⊢
    rw [List.all_cons] at q
    cases e:a.val u with
    | true=>rw [e,Bool.true_and] at q; exact iteT ⟨u,x,q⟩
    | false=>rw [e,Bool.false_and] at q; exact iteF q
noncomputable def tXv (K:PySem.W.Frag) (G:List (Str × Cn)) (cv:Nat->Value) (j:Nat):Xv->TE
  | .and a b r _=>tX K G cv j fun u=>.bl (a.val u && (b.val u && r.all (Xt.val u)))
  | .lst ts _=>fun σ H Q=>∃ u,XIn K G cv j σ H u /\ ∀ p,H p=none->Q (.ref p) (upd H p (.lst (ts.map fun t=>.bl (t.val u))))
  | .one t=>tX K G cv j fun u=>.bl (t.val u)
theorem pe_xv (C:XK' X n cv j) (v:Xv) (h:v.ok X.env.scope n=true):PE X (v.py (n.N.getD j "")) (tXv X.K n.G cv j v):=by
  cases v with
  | one t=>exact pe_xt C t h
  | and a b r p =>
    have h:(_ && _)=true:=h
    simp only [Bool.and_eq_true] at h
    exact pe_ands C p (b :: r) a h.1.1 (by rw [List.all_cons,h.1.2,h.2]; rfl)
  | lst ts p =>
    have h:(_ && _)=true:=h
    rw [Bool.and_eq_true,decide_eq_true_eq] at h
    refine PE.mono (pe_lst (pa_xts C ts h.1)) fun σ H Q q=>?_
    obtain ⟨u,x,q⟩:=q
    exact ⟨u,x,by rw [List.length_map]; exact Nat.le_of_lt (small1000 h.2),q⟩
end
theorem xv_here {K:PySem.W.Frag} {G:List (Str × Cn)} {cv:Nat->Value} {j i:Nat} {v:Xv} {u:List Nat} {μ μ1:List Addr} {H H1:Hp} {ρ:PI.En} {σ1:St} {h:Hh} {En:Ends} {Z:ZK} {a C:Addr} (hij:i ≠ j) (hj:j < σ1.length) (T:TstK K G cv C u) (ha:H1 a=none)
    (q:PostS K cv μ H (.nx ((ρ.set i (some (v.run u h).1)).set j none) (v.run u h).2) En Z) (ex:Ext K μ H μ1 H1) (hr:HR K μ1 h H1) (er:ER K μ1 ρ σ1 H1) :
    tAsg (tXv K G cv j v) (gName i) { nx:=fun σ2 H2=>En.nx (σ2.set j none) H2,rt:=fun _ _=>False } (σ1.set j (some (.ref a))) (upd H1 a (exO a C)):=by
  have hx:XIn K G cv j (σ1.set j (some (.ref a))) (upd H1 a (exO a C)) u:=⟨a,C,List.getElem?_set_self hj,upd_same,T⟩
  have e1:Ext K μ1 H1 μ1 (upd H1 a (exO a C)):=ext_new ha
  have r1:HR K μ1 h (upd H1 a (exO a C)):=hr.tup ha
  have fin:∀ (μ2:List Addr) (H2:Hp) (h2:Hh) (d:D) (x:V),Ext K μ1 H1 μ2 H2->HR K μ2 h2 H2->Rep K μ2 H2 d x->(v.run u h).1=d->(v.run u h).2=h2->En.nx (((σ1.set j (some (.ref a))).set i (some x)).set j none) H2:=fun μ2 H2 h2 d x e2 r2 q2 ed eh=>by
    rw [ed,eh] at q
    refine q μ2 H2 _ (ex.trans e2) r2 ⟨?_,fun m d' hm=>?_⟩
    · have:=er.len; simp only [List.length_set]; exact this
    · have hmj:m ≠ j:=fun z=>by
        subst z
        rw [List.getElem?_set] at hm
        split at hm <;> simp_all
      rw [List.getElem?_set_ne (Ne.symm hmj)] at hm ⊢
      have es:=(er.mono e2).set q2 i
      obtain ⟨v',h1,h2⟩:=es.val m d' hm
      refine ⟨v',?_,h2⟩
      by_cases hmi:m=i
      · subst hmi
        have hl:m < σ1.length:=by
          have:=(List.getElem?_eq_some_iff.mp h1).1
          rwa [List.length_set] at this
        rw [List.getElem?_set_self hl] at h1
        rw [List.getElem?_set_self (by rw [List.length_set]; exact hl)]
        exact h1
      · rw [List.getElem?_set_ne (Ne.symm hmi)] at h1
        rw [List.getElem?_set_ne (Ne.symm hmi),List.getElem?_set_ne (Ne.symm hmj)]
        exact h1
  cases v with
  | one t=>exact ⟨u,hx,fin μ1 _ h _ _ e1 r1 (.bl _) rfl rfl⟩
  | and a' b r p=>exact ⟨u,hx,fin μ1 _ h _ _ e1 r1 (.bl _) rfl rfl⟩
  | lst ts p =>
    refine ⟨u,hx,fun b hb=>?_⟩
    have nb:b ∉ μ1:=r1.fresh hb
    have rb:∀ (μ':List Addr) (H':Hp),Reps K μ' H' (ts.map fun t=>D.bl (t.val u)) (ts.map fun t=>V.bl (t.val u)):=fun μ' H'=>by
      clear fin q
      induction ts with
      | nil=>exact .nil
      | cons t r ih=>exact .cons (.bl _) ih
    have r2:=r1.alloc (o:=.lst (ts.map fun t=>D.bl (t.val u))) (u:=.lst (ts.map fun t=>V.bl (t.val u))) hb nb fun μ' _=>⟨_,upd_same,rb μ' _⟩
    exact fin (μ1 ++ [b]) _ _ _ _ (e1.trans ((ext_new hb).add hb)) r2 (.loc (by rw [<- hr.len]; simp)) rfl rfl
noncomputable def E.noC:E->Bool
  | .ofL (.comp _ _ _ _ _ _ _ _)=>false
  | _=>true
noncomputable def Fp.ok (n:Nm):Fp->Bool
  | .c _ _=>true
  | .r i _ _=>decide (i < n.N.length)
noncomputable def Ms.ok (n:Nm):Ms->Bool
  | .s _ _=>true
  | .f a b r _=>a.ok n && b.ok n && r.all (fun q=>q.ok n)
mutual
noncomputable def S.ok (sc:Scope) (n:Nm):S->Bool
  | .set i e _ _=>decide (i < n.N.length) && e.ok sc n
  | .ret e _=>e.ok sc n
  | .iff c a b _=>c.ok sc n && c.okT && a.ok sc n && b.ok sc n
  | .ex e _=>e.ok sc n && e.noC
  | .forr t it b _=>t.okS n.N && (it.ok sc n && t.forI it) && b.ok sc n
  | .rep _ _ _ _ _ _=>false
  | .rais x c u m _ _ _=>gOf sc x && decide ((x,Cn.exc c u) ∈ n.G) && !(x == ("__debug__":Str)) && m.ok n
  | .tryA b x D u cs j i v _ _ _ _ _=>b.ok sc n && gOf sc x && decide ((x,Cn.exc D u) ∈ n.G) && !(x == ("__debug__":Str)) && (cs.all fun q=>decide ((q.1,Cn.exc q.2.1 q.2.2) ∈ n.G) && decide (D ∈ q.2.2)) && decide (i < n.N.length) && decide (j < n.N.length) && decide (i ≠ j) && decide (sc.names.lookup (n.N.getD j "")=some .local) && gOf sc "isinstance" && v.ok sc n
  | .tryS b x D u cs i _ _ _ _ _ _ _=>b.ok sc n && gOf sc x && decide ((x,Cn.exc D u) ∈ n.G) && !(x == ("__debug__":Str)) && (cs.all fun q=>decide ((q.1,Cn.exc q.2.1 q.2.2) ∈ n.G) && decide (D ∈ q.2.2)) && decide (i < n.N.length)
noncomputable def Ss.ok (sc:Scope) (n:Nm):Ss->Bool
  | .nil=>true
  | .cons s r=>s.ok sc n && r.ok sc n
end
theorem PS.mono {X:Cx} {e:Stmt} {t t':TS} (p:PS X e t) (h:∀ En σ H,t' En σ H->t En σ H):PS X e t':=fun pins s σ H En I q=>p pins s σ H En I (h En σ H q)
theorem PSs.mono {X:Cx} {e:List Stmt} {t t':TS} (p:PSs X e t) (h:∀ En σ H,t' En σ H->t En σ H):PSs X e t':=fun pins s σ H En I q=>p pins s σ H En I (h En σ H q)
structure KxS (X:Cx) (Z:ZK) (k:Nat) (n:Nm) (cv:Nat->Value) (cl:Nat->List D->Hh->Res D):Prop extends Kx X Z k n cv cl where
  lo:∀ x ∈ n.N,Loc X.env.scope x /\ (X.fn x=true \/ X.env.scope.names.lookup x=some .local)
theorem KxS.wish {X:Cx} {Z:ZK} {k:Nat} {n:Nm} {cv:Nat->Value} {cl:Nat->List D->Hh->Res D} (C:KxS X Z k n cv cl):KxS (X.wish (XE X Z)) Z k n cv cl :=
  ⟨⟨C.th.wished,C.rm,C.nN,C.nd,C.cm,C.kd,C.nm,C.bm,C.gc,C.fn,C.xc⟩,C.lo⟩
section
variable {X:Cx} {Z:ZK} {k:Nat} {n:Nm} {cv:Nat->Value} {cl:Nat->List D->Hh->Res D}
theorem swaps_plain (e:E) (h:e.noC=true) (t:Option Expr) (l:Nat) (env:Env):swapsWith (e.py n) t l env=pure false:=by
  cases e with
  | ofL l =>
    cases l with
    | disp es p=>rfl
    | comp=>cases h
  | _=>rfl
theorem for_ours {t:Tg} {it:I} {b:Ss} {En:Ends} {σ:St} {H:Hp} {μ:List Addr} {ρ:PI.En} {h:Hh} (hr:HR X.K μ h H) (er:ER X.K μ ρ σ H) (q:PostS X.K cv μ H ((S.forr t it b p).run cl ρ h) En Z) :
    tFor (lift X.K cv (RJ X.K) Z (it.ev cl)) (gB X.K t) (liftS X.K cv Z (b.run cl)) En σ H:=by
  refine liftS_bind (m:=it.ev cl) hr er q fun qq h1 μ1 H1 J _ e1 r1 er1 src p1=>?_
  obtain ⟨c,ds⟩:=qq
  refine ⟨fun i m σ' H'=>m=ds.length - i /\ i<=ds.length /\ ∃ μ2 ρ2 h2,Ext X.K μ1 H1 μ2 H' /\ HR X.K μ2 h2 H' /\ ER X.K μ2 ρ2 σ' H' /\ PostS X.K cv μ2 H' (forL c (stepF t fun ρ' h'=>b.run cl ρ' h') (ds.drop i) ρ2 h2) En Z,
    ⟨ds.length,by simp,Nat.zero_le _,μ1,ρ,h1,Ext.refl,r1,er1,p1⟩,?_⟩
  rintro i m σ' H' ⟨rfl,hi,μ2,ρ2,h2,e2,r2,er2,p2⟩
  by_cases hlt:i < ds.length
  · right
    rw [List.drop_eq_getElem_cons hlt] at p2
    unfold forL at p2
    split at p2
    rotate_left
    · exact p2.elim
    rename_i st
    obtain ⟨s1,s2⟩:=src μ2 h2 H' e2 r2 st
    obtain ⟨g1,g2⟩:=s1 i ds[i] (List.getElem?_eq_getElem hlt)
    refine ⟨g1,fun σ3 H3=>ds.length - (i + 1)=ds.length - (i + 1) /\ i + 1<=ds.length /\ ∃ μ3 ρ3 h3,Ext X.K μ1 H1 μ3 H3 /\ HR X.K μ3 h3 H3 /\ ER X.K μ3 ρ3 σ3 H3 /\ PostS X.K cv μ3 H3 (forL c (stepF t fun ρ' h'=>b.run cl ρ' h') (ds.drop (i + 1)) ρ3 h3) En Z,
      fun σ3 H3 z=>⟨ds.length - (i + 1),by omega,z⟩,fun x H3 y=>?_⟩
    obtain ⟨e2',r2',rx⟩:=g2 x H3 y
    replace p2:=PostS.ext p2 e2'
    replace e2:=e2.trans e2'
    replace r2:=r2'
    replace er2:=er2.mono e2'
    unfold stepF at p2
    cases eb:bindT t ds[i] ρ2 with
    | none=>rw [eb] at p2; exact p2.elim
    | some ρ3 =>
      rw [eb] at p2
      refine ⟨μ2,ρ2,ds[i],ρ3,h2,r2,er2,rx,eb,fun σ3 er3 _ _=>⟨μ2,ρ3,h2,r2,er3,?_⟩⟩
      cases eo:b.run cl ρ3 h2 with
      | nx ρ4 h4 =>
        simp only [eo] at p2
        exact fun μ4 H4 σ4 e4 r4 er4=>⟨rfl,hlt,μ4,ρ4,h4,e2.trans e4,r4,er4,PostS.ext p2 e4⟩
      | ct ρ4 h4 =>
        simp only [eo] at p2
        exact fun μ4 H4 σ4 e4 r4 er4=>⟨rfl,hlt,μ4,ρ4,h4,e2.trans e4,r4,er4,PostS.ext p2 e4⟩
      | bk ρ4 h4=>simp only [eo] at p2; exact p2
      | rt d h4=>simp only [eo] at p2; exact p2
      | ex c' ρ4 h4=>simp only [eo] at p2; exact p2
      | no=>simp only [eo] at p2; exact p2
  · left
    have ei:i=ds.length:=by omega
    subst ei
    rw [List.drop_length] at p2
    unfold forL at p2
    split at p2
    rotate_left
    · exact p2.elim
    rename_i st
    exact ⟨(src μ2 h2 H' e2 r2 st).2,p2 μ2 H' σ' Ext.refl r2 er2⟩
noncomputable def cnV:Option Bool->V
  | none=>.non
  | some b=>.bl b
noncomputable def jT (X:Cx) (cv:Nat->Value) (Z:ZK) (cl:Nat->List D->Hh->Res D):List Fp->TJ
  | []=>tJNil
  | .c x _ :: r=>tJC x (jT X cv Z cl r)
  | .r i p0 _ :: r=>tJR (lift X.K cv (Rep X.K) Z ((E.var i p0).ev cl)) (jT X cv Z cl r)
theorem pj_fp (C:Kx X Z k n cv cl):∀ (ps:List Fp),(ps.all fun q=>q.ok n)=true->PJ X (ps.map (Fp.py n.N)) (jT X cv Z cl ps)
  | [],_=>pj_nil
  | .c x p :: r,h=>by
    rw [List.all_cons,Bool.and_eq_true] at h
    exact pj_c (pj_fp C r h.2)
  | .r i p0 p :: r,h=>by
    rw [List.all_cons,Bool.and_eq_true] at h
    exact pj_r (sE (.var i p0) X Z k n cv cl C h.1).pe (pj_fp C r h.2)
noncomputable def msT (X:Cx) (cv:Nat->Value) (Z:ZK) (cl:Nat->List D->Hh->Res D):Ms->TE
  | .s x _=>tC (.str x)
  | .f a b r _=>tJoin (jT X cv Z cl (a :: b :: r))
theorem ms_pe (C:Kx X Z k n cv cl):∀ (m:Ms),m.ok n=true->PE X (m.py n.N) (msT X cv Z cl m)
  | .s x p,_=>pe_str
  | .f a b r p,h=>pe_join (pj_fp C (a :: b :: r) (by have h:(_ && _)=true:=h; rw [List.all_cons,List.all_cons]; simpa [Bool.and_assoc] using h))
theorem j_go {Q:Str->Hp->Prop} {ρ:PI.En} {h:Hh} {σ:St}:∀ (ps:List Fp) (acc:Str) (H:Hp) (μ:List Addr),(ps.all fun q=>q.fine ρ)=true->HR X.K μ h H->ER X.K μ ρ σ H->acc.length + 11000 * ps.length<=1000000->(∀ o μ' H',Ext X.K μ H μ' H'->HR X.K μ' h H'->Q o H')->jT X cv Z cl ps σ H acc Q
  | [],acc,H,μ,_,hr,er,hl,q=>⟨Nat.le_trans (by simp at hl; omega) (show 1000000<=sizeLine by decide),q acc μ H Ext.refl hr⟩
  | .c x p :: r,acc,H,μ,hf,hr,er,hl,q=>by
    rw [List.all_cons,Bool.and_eq_true] at hf
    have hx:x.length<=1000:=of_decide_eq_true hf.1
    rw [List.length_cons] at hl
    have l1:(acc ++ x).length=acc.length + x.length:=Str.length_append acc x
    exact ⟨Nat.le_trans (by omega) (show 1000000<=sizeLine by decide),j_go r (acc ++ x) H μ hf.2 hr er (by omega) q⟩
  | .r i p0 p :: r,acc,H,μ,hf,hr,er,hl,q=>by
    rw [List.all_cons,Bool.and_eq_true] at hf
    rw [List.length_cons] at hl
    obtain ⟨z,ez,lz,oz⟩:∃ z,ρ[i]?=some (some (.str z)) /\ z.length<=1000 /\ PyData.strOk z=true:=by
      have h1:(match ρ[i]? with | some (some (.str z))=>decide (z.length<=1000) && PyData.strOk z | _=>false)=true:=hf.1
      split at h1
      · rename_i z e
        rw [Bool.and_eq_true] at h1
        exact ⟨z,e,of_decide_eq_true h1.1,h1.2⟩
      · cases h1
    have lr:(reprText z).length<=10 * z.length + 2:=StrLaws.reprText_len z (fun c hc=>by
      unfold PyData.strOk at oz
      rw [<- Array.all_toList] at oz
      exact Nat.lt_of_lt_of_le (of_decide_eq_true (List.all_eq_true.mp oz c hc)) (by decide))
    have l1:(acc ++ reprText z).length=acc.length + (reprText z).length:=Str.length_append acc _
    have l9:1000000<=sizeLine:=by decide
    refine ⟨μ,ρ,h,hr,er,?_⟩
    show PostE X.K cv (Rep X.K) μ H (match ρ[i]? with | some (some d)=>.ok d h | _=>.no) _ (Z σ)
    rw [ez]
    intro μ' H' v ex hr' rv
    cases rv
    exact ⟨z,rfl,by omega,by omega,j_go r (acc ++ reprText z) H' μ' hf.2 hr' (er.mono ex) (by omega) fun o μ2 H2 e2 r2=>q o μ2 H2 (ex.trans e2) r2⟩
mutual
theorem sS:∀ (s:S) (X:Cx) (Z:ZK) (k:Nat) (n:Nm) (cv:Nat->Value) (cl:Nat->List D->Hh->Res D),KxS X Z k n cv cl->s.ok X.env.scope n=true->PS X (s.py n) (liftS X.K cv Z (s.run cl))
  | .set i e p1 p,X,Z,k,n,cv,cl,C,h=>by
    have h':i < n.N.length /\ e.ok X.env.scope n=true:=by have h:(_ && _)=true:=h; simpa using h
    have hm:=C.lo _ (getD_mem (d:=("":Str)) h'.1)
    have hN:X.N[i]?=some (n.N.getD i ""):=by rw [C.nN]; exact getD_some h'.1
    have plain:swapsWith (e.py n) (some (.Name (n.N.getD i "") p1)) p.line X.env=pure false->PS X ((S.set i e p1 p).py n) (liftS X.K cv Z ((S.set i e p1 p).run cl)):=fun hs=>by
      have se:=sE e X Z k n cv cl C.toKx h'.2
      refine PS.mono (ps_set (i:=i) C.nd hN hm.1 se.pe hs hm.2) fun En σ H=>liftS_elim fun μ ρ h hr er q=>?_
      refine liftS_bind (m:=e.ev cl) hr er q fun d h1 μ1 H1 x _ e1 r1 er1 qa p1=>?_
      exact p1 μ1 H1 _ Ext.refl r1 (er1.set qa i)
    cases hn:e.noC with
    | true=>exact plain (swaps_plain e hn _ _ _)
    | false =>
      cases e with
      | ofL l =>
        cases l with
        | disp es pp=>cases hn
        | comp elt t it c NC cap csc pp =>
          have hL:(L.comp elt t it c NC cap csc pp).ok X.env.scope n=true:=by exact h'.2
          obtain ⟨b,eb,hb⟩:∃ b,swapsWith ((E.ofL (.comp elt t it c NC cap csc pp)).py n) (some (.Name (n.N.getD i "") p1)) p.line X.env=pure b /\ (b=true->X.env.scope.names.lookup (n.N.getD i "")=some .local):=by
            refine ⟨_,by rfl,fun z=>?_⟩
            simp only [Bool.and_eq_true,beq_iff_eq] at z
            exact z.1.1.2
          cases b with
          | false=>exact plain eb
          | true =>
            obtain ⟨k1,k2,k3,k4,k5,k6,k7,k8,k9⟩:=comp_ok C.toKx hL
            have hit:=sI it X Z k n cv cl C.toKx k1.1 t k1.2 NC
            have hff:∀ Cc s H fp pn xe Zc,Thr (compCx X NC csc Cc s H fp pn xe) Zc->PF (compCx X NC csc Cc s H fp pn xe) (c.py ⟨NC,n.F,n.G⟩) (lift X.K cv RB Zc (c.evC cl)):=fun Cc s H fp pn xe Zc th=>by
              have Cc':=C.toKx.comp k2 k3 k4 th
              cases c with
              | nil=>exact pf_none
              | cons e r =>
                cases r with
                | cons _ _=>cases k9
                | nil =>
                  have se:=sE e _ Zc k ⟨NC,n.F,n.G⟩ cv cl Cc' (by have k7:(_ && _)=true:=k7; simp at k7; exact k7.1)
                  have ht:=se.pt (by have k8:(_ && _)=true:=k8; simp at k8; exact k8.1)
                  exact pf_one ht
            have key:=ps_setC (X:=X) (i:=i) (cap:=cap) (pos:=pp) (pos':=p1) (spos:=p) (g:=gB X.K t) (tf:=fun Zc=>lift X.K cv RB Zc (c.evC cl)) (te:=fun Zc=>lift X.K cv (Rep X.K) Zc (elt.ev cl)) C.cm C.th hit k2 (fun Cc s H fp pn xe=>comp_pg C.kd k2 k3 k5) hff
              (fun Cc s H fp pn xe Zc th=>(sE elt _ Zc k ⟨NC,n.F,n.G⟩ cv cl (C.toKx.comp k2 k3 k4 th) k6).pe) (fold_plain it) C.nd hN (hb rfl) eb
            refine PS.mono key fun En σ H=>liftS_elim fun μ ρ h hr er q=>read_comp k2 k5 ⟨μ,ρ,h,hr,er,?_⟩
            have q:PostS X.K cv μ H (andS ρ (((L.comp elt t it c NC cap csc pp).ev cl ρ h).bind fun xs h1=>new (.lst xs) h1) fun d h1=>.nx (ρ.set i (some d)) h1) En Z:=q
            show PostE X.K cv (RL X.K H) μ H ((L.comp elt t it c NC cap csc pp).ev cl ρ h) _ (Z σ)
            cases el:(L.comp elt t it c NC cap csc pp).ev cl ρ h with
            | ok ds h1 =>
              rw [el] at q
              intro μ1 H1 x e1 r1 ⟨pa,vs,ex,g1,g2,g3,g4⟩
              subst ex
              have er1:ER X.K (μ1 ++ [pa]) ρ σ H1:=er.mono (e1.add g4)
              refine q (μ1 ++ [pa]) H1 _ (e1.add g4) (r1.add g3 fun μ' gr=>⟨vs,g1,g2.mono' gr⟩) (er1.set (.loc ?_) i)
              rw [<- r1.len,List.getElem?_append_right (Nat.le_refl _),Nat.sub_self]
              rfl
            | exc cc h1=>rw [el] at q; exact fun μ1 H1 e1 r1=>q μ1 H1 σ e1 r1 (er.mono e1)
            | no=>rw [el] at q; exact q
      | _=>cases hn
  | .ret e p,X,Z,k,n,cv,cl,C,h=>by
    have se:=sE e X Z k n cv cl C.toKx (by exact h)
    refine PS.mono (ps_ret se.pe) fun En σ H=>liftS_elim fun μ ρ h hr er q=>?_
    refine liftS_bind (m:=e.ev cl) hr er q fun d h1 μ1 H1 x _ e1 r1 er1 qa p1=>?_
    exact p1 μ1 H1 x Ext.refl r1 qa
  | .iff c a b p,X,Z,k,n,cv,cl,C,h=>by
    have h':((c.ok X.env.scope n=true /\ c.okT=true) /\ a.ok X.env.scope n=true) /\ b.ok X.env.scope n=true:=by have h:(_ && _)=true:=h; simpa using h
    have sc:=sE c X Z k n cv cl C.toKx h'.1.1.1
    have sa:=sSs a X Z k n cv cl C h'.1.2
    have sb:=sSs b X Z k n cv cl C h'.2
    refine PS.mono (ps_if (sc.pt h'.1.1.2) sa sb) fun En σ H=>liftS_elim fun μ ρ h hr er q=>?_
    refine liftS_bind (m:=c.evT cl) (R:=RB) hr er q fun t h1 μ1 H1 x _ e1 r1 er1 qa p1=>?_
    have qa':t=x:=qa
    subst qa'
    cases t with
    | true=>exact iteT ⟨μ1,ρ,h1,r1,er1,p1⟩
    | false=>exact iteF ⟨μ1,ρ,h1,r1,er1,p1⟩
  | .ex e p,X,Z,k,n,cv,cl,C,h=>by
    have h':e.ok X.env.scope n=true /\ e.noC=true:=by have h:(_ && _)=true:=h; simpa using h
    have se:=sE e X Z k n cv cl C.toKx h'.1
    refine PS.mono (ps_expr se.pe (swaps_plain e h'.2 _ _ _)) fun En σ H=>liftS_elim fun μ ρ h hr er q=>?_
    refine liftS_bind (m:=e.ev cl) hr er q fun d h1 μ1 H1 x _ e1 r1 er1 qa p1=>?_
    exact p1 μ1 H1 _ Ext.refl r1 er1
  | .forr t it b p,X,Z,k,n,cv,cl,C,h=>by
    have h':(t.okS n.N=true /\ it.ok X.env.scope n=true /\ t.forI it=true) /\ b.ok X.env.scope n=true:=by have h:(_ && _)=true:=h; simpa using h
    have hi:=sI it _ Z k n cv cl C.wish.toKx h'.1.2.1 t h'.1.2.2 n.N
    have hb:=sSs b _ Z k n cv cl C.wish h'.2
    have hg:PG (X.wish (XE X Z)) (t.py n.N) (gB X.K t):=by
      have z:=pg_T (X:=X.wish (XE X Z)) C.cm C.nd t fun i hi=>by
        have h1:=List.all_eq_true.mp h'.1.1 i hi
        have hl:i < n.N.length:=of_decide_eq_true h1
        have hm:=C.lo _ (getD_mem (d:=("":Str)) hl)
        have eN:(X.wish (XE X Z)).N=n.N:=C.nN
        rw [eN]
        exact ⟨hl,hm⟩
      rw [show (X.wish (XE X Z)).N=n.N from C.nN] at z
      exact z
    exact PS.mono (ps_forX C.th C.cm hi hg hb (fold_plain it)) fun En σ H=>liftS_elim fun μ ρ h hr er q=>for_ours (p:=p) hr er q
  | .rep _ _ _ _ _ _,X,Z,k,n,cv,cl,C,h=>by cases h
  | .rais x c u m p0 p1 p,X,Z,k,n,cv,cl,C,h=>by
    have h':((gOf X.env.scope x=true /\ (x,Cn.exc c u) ∈ n.G) /\ (x == ("__debug__":Str))=false) /\ m.ok n=true:=by have h:(_ && _)=true:=h; simpa using h
    obtain ⟨hmg,hun,_⟩:=C.xc x c u h'.1.1.2
    obtain ⟨_,v,hv,a,bmB,newId,initId,B,ev,hx,FB,hB⟩:=C.gc x _ h'.1.1.2
    rw [hmg] at hv
    cases hv
    refine PS.mono (ps_raise C.th C.cm (C.gl h'.1.1.1) (by rw [hmg,ev]) hx FB (pa_cons (ms_pe C.toKx m h'.2) pa_nil (by cases m <;> rfl)) h'.1.2 (by cases m <;> rfl) rfl) fun En σ H=>liftS_elim fun μ ρ h hr er q=>?_
    have q:PostS X.K cv μ H (if m.fine ρ then .ex c ρ h else .no) En Z:=q
    split at q
    · rename_i hf
      have q2:=q
      clear q
      cases m with
      | s t p'=>exact ⟨show 1<=sizeLine by decide,by rw [<- ev]; exact q2 μ H σ Ext.refl hr er⟩
      | f a b r p' =>
        have hf:((a.fine ρ=true /\ b.fine ρ=true) /\ (r.all fun q=>q.fine ρ)=true) /\ r.length<=10:=by have h:(_ && _)=true:=hf; simpa [Bool.and_assoc,and_assoc] using h
        refine j_go (a :: b :: r) Str.empty H μ (by rw [List.all_cons,List.all_cons,hf.1.1.1,hf.1.1.2,hf.1.2]; rfl) hr er (by rw [List.length_cons,List.length_cons]; show 0 + _<=_; omega) fun o μ' H' ex hr'=>?_
        exact ⟨show 1<=sizeLine by decide,by rw [<- ev]; exact q2 μ' H' σ ex hr' (er.mono ex)⟩
    · exact q.elim
  | .tryA b x D u cs j i v p0 p1 p3 p4 p,X,Z,k,n,cv,cl,C,h=>by
    have h:(_ && _)=true:=h
    simp only [Bool.and_eq_true,decide_eq_true_eq,Bool.not_eq_true'] at h
    obtain ⟨⟨⟨⟨⟨⟨⟨⟨⟨⟨hb,hg⟩,hG⟩,hd⟩,hcs⟩,hi⟩,hj⟩,hij⟩,hlo⟩,his⟩,hv⟩:=h
    obtain ⟨hmg,_⟩:=C.xc x D u hG
    obtain ⟨_,w,hw,a,bmB,newId,initId,B,ev,hx,FB,hB⟩:=C.gc x _ hG
    rw [hmg] at hw
    cases hw
    have hm:=C.lo _ (getD_mem (d:=("":Str)) hi)
    have hN:X.N[i]?=some (n.N.getD i ""):=by rw [C.nN]; exact getD_some hi
    have hNj:X.N[j]?=some (n.N.getD j ""):=by rw [C.nN]; exact getD_some hj
    have hmj:=C.nm _ (getD_mem (d:=("":Str)) hj)
    have hs:∀ pins a',PSs (sutCx X pins a') [.Assign [.Name (n.N.getD i "") p1] (v.py (n.N.getD j "")) p3] (tAsg (tXv X.K n.G cv j v) (gName i)):=fun pins a'=>by
      refine pss_one (ps_set (X:=sutCx X pins a') (i:=i) C.nd hN hm.1 (pe_xv (X:=sutCx X pins a') ⟨C.gl his,C.bm _ (by decide),C.bm _ (by decide),hNj,hmj.1,(goodN_of hmj.2).1,(goodN_of hmj.2).2,fun x c u hq=>?_⟩ v hv) ?_ hm.2)
      · obtain ⟨h1,_,a,h2,_⟩:=C.xc x c u hq
        exact ⟨a,by rw [<- h2]; exact h1,h2⟩
      · cases v with
        | one t =>
          show swapsWith (match t.neg with | true=>.UnaryOp .Not (t.call (n.N.getD j "")) t.pn | false=>t.call (n.N.getD j "")) _ _ _=_
          cases t.neg <;> rfl
        | and a b r p=>rfl
        | lst ts p=>rfl
    refine PS.mono (ps_tryAs (tb:=fun Zh=>liftS X.K cv Zh (b.run cl)) (j:=j) C.th (C.gl hg) (by rw [hmg,ev]) hx hB C.nd hNj hlo (fun pins xe Zh th=>?_) hs hd) fun En σ H=>liftS_elim fun μ ρ h hr er q=>⟨μ,ρ,h,hr,er,?_⟩
    · exact sSs b (tryCx X pins xe) Zh k n cv cl ⟨⟨th,C.rm,C.nN,C.nd,C.cm,C.kd,C.nm,C.bm,C.gc,C.fn,C.xc⟩,C.lo⟩ hb
    · have q:PostS X.K cv μ H (match b.run cl ρ h with | .ex c ρ' h'=>tryR cs j i v c ρ' h' | o=>o) En Z:=q
      cases e:b.run cl ρ h with
      | ex c ρ' h2 =>
        rw [e] at q
        simp only at q
        unfold tryR at q
        cases ef:cs.find? (fun q=>q.2.1 == c) with
        | none=>rw [ef] at q; exact q.elim
        | some q0 =>
          rw [ef] at q
          have hq0:=List.mem_of_find?_eq_some ef
          have ec:(q0.2.1 == c)=true:=List.find?_some (p:=fun q:Str × Nat × List Nat=>q.2.1 == c) ef
          have hq1:=List.all_eq_true.mp hcs q0 hq0
          simp only [Bool.and_eq_true,decide_eq_true_eq] at hq1
          obtain ⟨_,hun,a2,e3,T⟩:=C.xc q0.1 q0.2.1 q0.2.2 hq1.1
          obtain ⟨a1,d1,e1,e2,un⟩:=hun D hq1.2
          have ec:q0.2.1=c:=eq_of_beq ec
          rw [e3] at e1
          cases e1
          rw [ec] at e3
          rw [ev] at e2
          cases e2
          intro μ1 H1 σ1 ex hr1 er1
          refine ⟨a2,e3,un,fun b hb=>?_⟩
          simp only at q
          split at q
          · rename_i hl
            exact xv_here hij (by rw [<- er1.len]; exact hl) T hb q ex hr1 er1
          · exact q.elim
      | nx ρ' h2=>rw [e] at q; exact q
      | bk ρ' h2=>rw [e] at q; exact q
      | ct ρ' h2=>rw [e] at q; exact q
      | rt d h2=>rw [e] at q; exact q
      | no=>rw [e] at q; exact q
  | .tryS b x D u cs i v p0 p1 p2 p3 p4 p,X,Z,k,n,cv,cl,C,h=>by
    have h:(_ && _)=true:=h
    simp only [Bool.and_eq_true,decide_eq_true_eq,Bool.not_eq_true'] at h
    obtain ⟨⟨⟨⟨⟨hb,hg⟩,hG⟩,hd⟩,hcs⟩,hi⟩:=h
    obtain ⟨hmg,_⟩:=C.xc x D u hG
    obtain ⟨_,w,hv,a,bmB,newId,initId,B,ev,hx,FB,hB⟩:=C.gc x _ hG
    rw [hmg] at hv
    cases hv
    have hm:=C.lo _ (getD_mem (d:=("":Str)) hi)
    have hN:X.N[i]?=some (n.N.getD i ""):=by rw [C.nN]; exact getD_some hi
    have hs:∀ pins a',PSs (sutCx X pins a') [.Assign [.Name (n.N.getD i "") p1] (cnE v p2) p3] (tAsg (tC (cnV v)) (gName i)):=fun pins a'=>by
      refine pss_one (ps_set (X:=sutCx X pins a') (i:=i) C.nd hN hm.1 (by cases v with | none=>exact pe_non | some b=>exact pe_bl) (by cases v <;> rfl) hm.2)
    refine PS.mono (ps_try (tb:=fun Zh=>liftS X.K cv Zh (b.run cl)) C.th (C.gl hg) (by rw [hmg,ev]) hx hB (fun pins xe Zh th=>?_) hs hd) fun En σ H=>liftS_elim fun μ ρ h hr er q=>⟨μ,ρ,h,hr,er,?_⟩
    · exact sSs b (tryCx X pins xe) Zh k n cv cl ⟨⟨th,C.rm,C.nN,C.nd,C.cm,C.kd,C.nm,C.bm,C.gc,C.fn,C.xc⟩,C.lo⟩ hb
    · have q:PostS X.K cv μ H (match b.run cl ρ h with | .ex c ρ' h'=>if (cs.any fun q=>q.2.1 == c) then .nx (ρ'.set i (some (cnD v))) h' else .no | o=>o) En Z:=q
      cases e:b.run cl ρ h with
      | ex c ρ' h2 =>
        rw [e] at q
        simp only at q
        split at q
        · rename_i hc
          obtain ⟨q0,hq0,ec⟩:=List.any_eq_true.mp hc
          have hq1:=List.all_eq_true.mp hcs q0 hq0
          simp only [Bool.and_eq_true,decide_eq_true_eq] at hq1
          obtain ⟨_,hun,_⟩:=C.xc q0.1 q0.2.1 q0.2.2 hq1.1
          obtain ⟨a1,d1,e1,e2,un⟩:=hun D hq1.2
          have ec:q0.2.1=c:=eq_of_beq ec
          rw [ec] at e1
          rw [ev] at e2
          cases e2
          intro μ1 H1 σ1 ex hr1 er1
          exact ⟨a1,e1,un,q μ1 H1 _ ex hr1 (er1.set (by cases v with | none=>exact .non | some b=>exact .bl b) i)⟩
        · exact q.elim
      | nx ρ' h2=>rw [e] at q; exact q
      | bk ρ' h2=>rw [e] at q; exact q
      | ct ρ' h2=>rw [e] at q; exact q
      | rt d h2=>rw [e] at q; exact q
      | no=>rw [e] at q; exact q
theorem sSs:∀ (s:Ss) (X:Cx) (Z:ZK) (k:Nat) (n:Nm) (cv:Nat->Value) (cl:Nat->List D->Hh->Res D),KxS X Z k n cv cl->s.ok X.env.scope n=true->PSs X (s.py n) (liftS X.K cv Z (s.run cl))
  | .nil,X,Z,k,n,cv,cl,C,_=>by
    refine PSs.mono pss_nil fun En σ H=>liftS_elim fun μ ρ h hr er q=>?_
    exact q μ H σ Ext.refl hr er
  | .cons s r,X,Z,k,n,cv,cl,C,h=>by
    have h':s.ok X.env.scope n=true /\ r.ok X.env.scope n=true:=by have h:(_ && _)=true:=h; simpa using h
    have ss:=sS s X Z k n cv cl C h'.1
    have sr:=sSs r X Z k n cv cl C h'.2
    refine PSs.mono (pss_cons ss sr) fun En σ H=>liftS_elim fun μ ρ h hr er q=>?_
    have q:PostS X.K cv μ H (seqS (s.run cl ρ h) fun ρ' h'=>r.run cl ρ' h') En Z:=q
    refine ⟨μ,ρ,h,hr,er,?_⟩
    cases e:s.run cl ρ h with
    | nx ρ' h1 =>
      rw [e] at q
      exact fun μ1 H1 σ1 e1 r1 er1=>⟨μ1,ρ',h1,r1,er1,PostS.ext q e1⟩
    | bk ρ' h1=>rw [e] at q; exact q
    | ct ρ' h1=>rw [e] at q; exact q
    | rt d h1=>rw [e] at q; exact q
    | ex c ρ' h1=>rw [e] at q; exact q
    | no=>rw [e] at q; exact q
end
end
end PI
set_option Elab.async false
set_option linter.all false
set_option maxRecDepth 100000
set_option maxHeartbeats 4000000
namespace PI
open PySem L2 PySem.Spec
open PyProof.Rows hiding St
section
variable {X:Cx} {Z:ZK} {k:Nat} {n:Nm} {cv:Nat->Value} {cl:Nat->List D->Hh->Res D}
noncomputable def okR (sc:Scope) (n:Nm):Ss->Bool
  | .cons (.rep i j _ rs _ _) r=>decide (i < n.N.length) && decide (j < n.N.length) && rs.all (fun r=>!(r.c == r.d) && (r.pa.endLine == r.p.line)) && r.ok sc n
  | _=>false
noncomputable def okD (b:Ss) (sc:Scope) (n:Nm) (ps:List Str):Bool:=b.ok sc n || (okR sc n b && !ps.isEmpty && sc.names.all fun y=>y.2 != .cell)
noncomputable def tReps (t:TE):List Rp->TE
  | []=>t
  | r :: rs=>tReps (tRepl t r.c r.d) rs
theorem pet_reps:∀ (rs:List Rp) {e:Expr} {t:TE},PET X e t->attributeBase e "replace" X.env (eval e X.env)=eval e X.env->(rs.all fun r=>!(r.c == r.d) && (r.pa.endLine == r.p.line))=true->PET X (rs.foldl Rp.py e) (tReps t rs)
  | [],_,_,he,_,_=>he
  | r :: rs,e,t,he,hb,h=>by
    rw [List.all_cons,Bool.and_eq_true,Bool.and_eq_true] at h
    refine pet_reps rs (e:=Rp.py e r) (t:=tRepl t r.c r.d) (pet_replace he (by have:=h.1.1; simpa using this) hb rfl h.1.2) rfl h.2
theorem reps_go {σ:St} {H:Hp} {μ:List Addr} {h:Hh}:∀ (rs:List Rp) {z z':Str} {t:TE},repS rs z=some z'->(∀ Q:VK,(∀ μ' H',Ext X.K μ H μ' H'->HR X.K μ' h H'->Q (.str z) H')->t σ H Q)->∀ Q:VK,(∀ μ' H',Ext X.K μ H μ' H'->HR X.K μ' h H'->Q (.str z') H')->tReps t rs σ H Q
  | [],z,z',t,e,ht,Q,q=>by cases e; exact ht Q q
  | r :: rs,z,z',t,e,ht,Q,q=>by
    unfold repS at e
    split at e
    · rename_i c
      exact reps_go rs (t:=tRepl t r.c r.d) e (fun Q' q'=>ht _ fun μ' H' ex hr=>⟨z,rfl,c,q' μ' H' ex hr⟩) Q q
    · cases e
theorem swaps_reps:∀ (rs:List Rp) (e:Expr) (o:Option Expr) (l:Nat) (env:Env),(∀ o l,swapsWith e o l env=pure false)->swapsWith (rs.foldl Rp.py e) o l env=pure false
  | [],e,o,l,env,h=>h o l
  | r :: rs,e,o,l,env,h=>swaps_reps rs (Rp.py e r) o l env fun _ _=>rfl
theorem PSsT.mono {st:List Stmt} {t u:TS} (h:PSsT X st t) (g:∀ D σ H,u D σ H->t D σ H):PSsT X st u:=fun pins s σ H D I h0 q=>h pins s σ H D I h0 (g D σ H q)
theorem sR (C:KxS X Z k n cv cl):∀ (b:Ss),okR X.env.scope n b=true->PSsT X (b.py n) (liftS X.K cv Z (b.run cl))
  | .cons (.rep i j p0 rs p1 p) r,h=>by
    have h:(_ && _)=true:=h
    simp only [Bool.and_eq_true,decide_eq_true_eq] at h
    obtain ⟨⟨⟨h1,h2⟩,h3⟩,h4⟩:=h
    have hm:=C.lo _ (getD_mem (d:=("":Str)) h1)
    have hN:X.N[i]?=some (n.N.getD i ""):=by rw [C.nN]; exact getD_some h1
    have se:=sE (.var j p0) X Z k n cv cl C.toKx (decide_eq_true h2)
    have sr:=sSs r X Z k n cv cl C h4
    have hp:=pet_reps rs (PE.pet se.pe) (base_plain (.var j p0) _ _) h3
    refine PSsT.mono (psst_cons (pst_set (i:=i) C.nd hN hm.1 hp (swaps_reps rs _ _ _ _ fun o l=>swaps_plain (.var j p0) rfl _ _ _) hm.2) sr) fun En σ H=>liftS_elim fun μ ρ h hr er q=>?_
    have q:PostS X.K cv μ H (seqS (match ρ[j]? with | some (some (.str z))=>(match repS rs z with | some z'=>.nx (ρ.set i (some (.str z'))) h | none=>.no) | _=>.no) fun ρ' h'=>r.run cl ρ' h') En Z:=q
    cases e1:ρ[j]? with
    | none=>rw [e1] at q; exact q.elim
    | some o =>
      cases o with
      | none=>rw [e1] at q; exact q.elim
      | some d =>
        cases d with
        | str z =>
          cases e2:repS rs z with
          | none=>simp only [e1,e2] at q; exact q.elim
          | some z' =>
            simp only [e1,e2] at q
            refine reps_go (X:=X) (μ:=μ) (h:=h) rs e2 (fun Q q'=>⟨μ,ρ,h,hr,er,?_⟩) _ fun μ' H' ex hr'=>⟨μ',ρ.set i (some (.str z')),h,hr',(er.mono ex).set (.str z') i,PostS.ext q ex⟩
            show PostE X.K cv (Rep X.K) μ H (match ρ[j]? with | some (some d)=>.ok d h | _=>.no) Q (Z σ)
            rw [e1]
            intro μ' H' v ex hr' rv
            cases rv
            exact q' μ' H' ex hr'
        | _=>rw [e1] at q; exact q.elim
  | .nil,h=>by cases h
  | .cons (.set _ _ _ _) _,h=>by cases h
  | .cons (.ret _ _) _,h=>by cases h
  | .cons (.iff _ _ _ _) _,h=>by cases h
  | .cons (.ex _ _) _,h=>by cases h
  | .cons (.forr _ _ _ _) _,h=>by cases h
  | .cons (.rais _ _ _ _ _ _ _) _,h=>by cases h
  | .cons (.tryA _ _ _ _ _ _ _ _ _ _ _ _ _) _,h=>by cases h
  | .cons (.tryS _ _ _ _ _ _ _ _ _ _ _ _ _) _,h=>by cases h
end
structure DefOk (st:Stmt) (d:Df) (F:List Str) (G:List (Str × Cn)):Prop where
  body:defBody st=d.body.py ⟨d.N,F,G⟩
  sc:FnScope d.N d.ps (defScope st)
  ok:okD d.body (defScope st) ⟨d.N,F,G⟩ d.ps=true
  nm:∀ x ∈ d.N,((defScope st).names.lookup x=some .local \/ (defScope st).names.lookup x=some .cell) /\ goodN x=true
  bd:∀ (kV doc pm:Value) (an:Option Addr) (cdv ct:Value) (us:List Value),us.length=d.ps.length ->
    bindArgs (PySem.W.fnOf d.name d.name (defArgs st) (defBody st) (defScope st) .none kV doc pm an cdv ct) ⟨us,[]⟩=pure (d.ps.zip us)
structure Tab (P:Program) (w:World) (K:PySem.W.Frag) (mg:Str->Option Value) (ds:List Df) (G:List (Str × Cn)):Prop where
  bm:∀ x,x ∈ bnames->mg x=none
  gc:∀ x c,(x,c) ∈ G->(x == ("__debug__":Str))=false /\ ∃ v,mg x=some v /\ CnOk P w K v c
  fn:∀ (i:Nat) d,ds[i]?=some d->(d.name == ("__debug__":Str))=false /\ ∃ st f fd,mg d.name=some (.ref f) /\ Fun K d.name d.name st f fd /\ DefOk st d (ds.map (·.name)) G
theorem er_start {K:PySem.W.Frag} {μ:List Addr} {H:Hp} {as:List D} {vs:List V} (N:List Str) (r:Reps K μ H as vs):ER K μ (as.map some ++ List.replicate (N.length - as.length) none) (L2.start N vs) H:=by
  unfold L2.start
  refine ⟨by simp [r.length],fun i d h=>?_⟩
  rw [List.getElem?_append] at h ⊢
  rw [List.length_map] at h ⊢
  rw [<- r.length]
  split at h
  · rename_i c
    rw [if_pos c]
    rw [List.getElem?_map] at h ⊢
    cases e:as[i]? with
    | none=>rw [e] at h; cases h
    | some a =>
      rw [e] at h
      cases h
      obtain ⟨v,e1,e2⟩:=r.get e
      rw [e1]
      exact ⟨v,rfl,e2⟩
  · exfalso
    rw [List.getElem?_replicate] at h
    split at h <;> cases h
theorem callI_len {ds:List Df} {k i:Nat} {d:Df} (hd:ds[i]?=some d):∀ as h,callI ds k i as h ≠ .no->as.length=d.ps.length:=by
  intro as h q
  cases k with
  | zero=>exact absurd rfl q
  | succ k =>
    unfold callI at q
    rw [hd] at q
    by_cases c:as.length=d.ps.length
    · exact c
    · exact absurd (if_neg c) q
section
variable {P:Program} {w:World} {K:PySem.W.Frag} {mg:Str->Option Value} {base:Heap} {ds:List Df} {G:List (Str × Cn)} {cv:Nat->Value}
noncomputable def ExcOk (K:PySem.W.Frag) (mg:Str->Option Value) (cv:Nat->Value) (G:List (Str × Cn)):Prop:=∀ x c u,(x,Cn.exc c u) ∈ G->mg x=some (cv c) /\ (∀ D ∈ u,∃ a d,cv c=.ref a /\ cv D=.ref d /\ Under K a d) /\ ∃ a,cv c=.ref a /\ TstK K G cv a u
theorem all_fn (T:Tab P w K mg ds G) (XC:ExcOk K mg cv G):∀ (k i:Nat) (d:Df) (st:Stmt) (f:Addr) (fd:FuncData),ds[i]?=some d->mg d.name=some (.ref f)->Fun K d.name d.name st f fd->DefOk st d (ds.map (·.name)) G ->
    FnOk P w K mg base (CXs P w) k f fd d.ps (spI K cv d.ps.length (callI ds k i))
  | 0,i,d,st,f,fd,hd,hm,F,o=>by
    have no:∀ vs H Q E,¬ spI K cv d.ps.length (callI ds 0 i) vs H Q E:=fun vs H Q E ⟨_,_,_,_,_,_,z⟩=>z
    exact ⟨fun vs H Q E h=>absurd h (no vs H Q E),fun A outer s H args us vs Q E _ _ _ _ h=>absurd h (no vs H Q E)⟩
  | k + 1,i,d,st,f,fd,hd,hm,F,o=>by
    have KC:∀ (cdv:Value) (A:Around) (outer:List Env) (s:Shared) (H:Hp) (E:XK),Room k (A.deeper (envOfC d.name (defScope st) s.heap.objs.size f cdv))->KxS (cxOf (CXs P w) P w K mg base d.N d.name (defScope st) f cdv A outer s H E) (fun _ C H'=>E C none H') k ⟨d.N,ds.map (·.name),G⟩ cv (callI ds k):=fun cdv A outer s H E hr=>by
      refine ⟨⟨thr_def,hr,rfl,o.sc.nd,rfl,o.sc.kind,fun x hx=>⟨(o.nm x hx).1.elim .inl fun z=>.inr (.inl z),(o.nm x hx).2⟩,T.bm,T.gc,fun j x hj=>?_,fun x c u hm=>XC x c u hm⟩,fun x hx=>⟨(o.nm x hx).1,.inl rfl⟩⟩
      have hj':(ds.map (·.name))[j]?=some x:=hj
      rw [List.getElem?_map] at hj'
      cases e:ds[j]? with
      | none=>rw [e] at hj'; cases hj'
      | some d' =>
        rw [e] at hj'
        cases hj'
        obtain ⟨h1,st',f',fd',m',F',o'⟩:=T.fn j d' e
        exact ⟨h1,f',fd',d'.ps,m',F'.kp,F'.binds o'.bd,callI_len e,all_fn T XC k j d' st' f' fd' e m' F' o'⟩
    have fin:∀ {H:Hp} {vs:List V} {Q:VK} {E:XK},spI K cv d.ps.length (callI ds (k + 1) i) vs H Q E->liftS K cv (fun _ C H'=>E C none H') (d.body.run (callI ds k)) { nx:=fun _ H'=>Q .non H',rt:=Q } (L2.start d.N vs) H:=fun {H vs Q E} h=>by
      obtain ⟨hl,μ,h,as,hH,hv,p⟩:=h
      refine ⟨μ,_,h,hH,er_start d.N hv,?_⟩
      have c:as.length=d.ps.length:=by rw [hv.length]; exact hl
      rw [callI_succ hd c] at p
      have p1:=p
      unfold Df.run outR at p1
      cases e:d.body.run (callI ds k) (as.map some ++ List.replicate (d.N.length - as.length) none) h with
      | nx ρ h1=>rw [e] at p1; exact fun μ1 H1 σ1 e1 r1 er1=>p1 μ1 H1 .non e1 r1 .non
      | rt v h1=>rw [e] at p1; exact p1
      | ex c ρ h1=>rw [e] at p1; exact fun μ1 H1 σ1 e1 r1 er1=>p1 μ1 H1 e1 r1
      | bk ρ h1=>rw [e] at p1; exact p1.elim
      | ct ρ h1=>rw [e] at p1; exact p1.elim
      | no=>rw [e] at p1; exact p1.elim
    have ok:(_ || _)=true:=o.ok
    rcases Bool.or_eq_true_iff.mp ok with ok | ok
    · exact F.okX o.sc (fun vs H Q E h=>h.1) fun cdv A outer s H vs Q E hr h=>⟨_,by rw [o.body]; exact sSs d.body _ _ _ _ _ _ (KC cdv A outer s H E hr) ok,fin h⟩
    · simp only [Bool.and_eq_true,Bool.not_eq_true',List.isEmpty_eq_false_iff] at ok
      refine F.okT o.sc (fun y hy z=>?_) ok.1.2 (fun vs H Q E h=>h.1) fun cdv A outer s H vs Q E hr h=>⟨_,by rw [o.body]; exact sR (KC cdv A outer s H E hr) d.body ok.1.1,fin h⟩
      have:=List.all_eq_true.mp ok.2 y hy
      rw [z] at this
      exact absurd this (by decide)
end
theorem exc_mk {K:PySem.W.Frag} {C:Addr} {o:Value} {dd:Option Addr} {cd:ClassData} {sl:Array (Option Value)} (l:K.lookup C=some ⟨o,dd,.cls cd,sl⟩) (ga:PySem.W.findIn K (.ref C) "__getattribute__"=some (some (.builtin "BaseException.__getattribute__"))) (ng:PySem.W.findIn K (.ref C) "__getattr__"=some none)
    (cl:PySem.W.findIn K (.ref C) "__class__"=some (some (.builtin "object.__class__"))) (bx:PySem.W.mroIn K C (.type "BaseException")=some true) (ob:PySem.W.mroIn K C (.type "object")=some true):ExC K C :=
  ⟨ga,ng,cl,bx,ob,by unfold PySem.W.clsIn; rw [l]; rfl⟩
theorem kit_ve {K:PySem.W.Frag} {C:Addr} (m:PySem.W.mroIn K C (.type "ValueError")=some true):PySem.W.kitOne K (.ref C) (.type "ValueError")=some true:=by
  unfold PySem.W.kitOne
  rw [if_neg (by intro q; cases eq_of_beq q)]
  show (if PySem.W.kitMeta "ValueError"=true then PySem.W.subIn K (.ref C) (.type "ValueError") else none)=_
  rw [if_pos (by decide +kernel)]
  exact m
theorem kit_own {K:PySem.W.Frag} {C E:Addr} {o:Value} {dd:Option Addr} {cd:ClassData} {sl:Array (Option Value)} {b:Bool} (l:K.lookup E=some ⟨o,dd,.cls cd,sl⟩) (ty:PySem.W.typeIn K (.ref E)=some (.type "type")) (m:PySem.W.mroIn K C (.ref E)=some b) (hb:b=true \/ C ≠ E):PySem.W.kitOne K (.ref C) (.ref E)=some b:=by
  unfold PySem.W.kitOne
  by_cases q:C=E
  · subst q
    rw [if_pos (by simp)]
    rcases hb with rfl | z
    · rfl
    · exact absurd rfl z
  · rw [if_neg (fun z=>q (Value.ref.inj (eq_of_beq z)))]
    show (if ((PySem.W.clsIn K E).isSome && PySem.W.typeIn K (.ref E) == some (.type "type"))=true then PySem.W.subIn K (.ref C) (.ref E) else none)=_
    rw [if_pos (by rw [ty,Bool.and_eq_true]; exact ⟨by unfold PySem.W.clsIn; rw [l]; rfl,by decide⟩)]
    exact m
noncomputable def EntsOk (w:World) (K:PySem.W.Frag):List DictEntry->List (Str × Cv)->Prop
  | [],[]=>True
  | e :: r,kx :: s=>(e.hash=hashStr w kx.1 /\ (∃ t,e.key=.str kx.1 t) /\ CvOk K e.val kx.2) /\ EntsOk w K r s
  | _,_=>False
theorem tupK_mk {K:PySem.W.Frag} {a:Addr} {d:Option Addr} {its:Array Value} {n:Nat} {sl:Array (Option Value)} {xs:List Str} (l:K.lookup a=some ⟨.type "tuple",d,.seq its n,sl⟩) (z:its.size<=sizeLine) (v:Vals (xs.map V.str) its.toList):TupK K a xs :=
  ⟨_,its,n,l,rfl,rfl,z,v⟩
theorem ents_pairs {P:Program} {w:World} {K:PySem.W.Frag}:∀ {es:List DictEntry} {kvs:List (Str × Cv)},EntsOk w K es kvs->∃ vs,Pairs (mixKind P w) es vs /\ DicV K kvs vs /\ vs.map (·.1)=kvs.map (fun kx=>(Sum.inr kx.1:Key)) /\ ∀ e ∈ es,∃ k,(mixKind P w).is k e.key=true /\ e.hash=(mixKind P w).hash k
  | [],[],_=>⟨[],.nil,trivial,rfl,fun e h=>absurd h (by simp)⟩
  | [],_ :: _,h=>h.elim
  | _ :: _,[],h=>h.elim
  | e :: r,(k,xs) :: s,⟨⟨h1,⟨t,h2⟩,h4⟩,h5⟩=>by
    obtain ⟨vs,p,d,n,ks⟩:=ents_pairs (P:=P) h5
    have ik:(mixKind P w).is (.inr k) e.key=true:=kV_is (k:=.inr k) ⟨t,h2⟩
    refine ⟨(.inr k,e.val) :: vs,.cons ik rfl p,⟨rfl,h4,d⟩,by simp [n],fun e' he=>?_⟩
    rcases List.mem_cons.mp he with rfl | he
    · exact ⟨_,ik,h1⟩
    · exact ks e' he
theorem cn_dic {P:Program} {w:World} {K:PySem.W.Frag} {a:Addr} {es:Array DictEntry} {ep:Nat} {kvs:List (Str × Cv)} (l:K.lookup a=some { cls:=.type "dict",data:=.dict es ep }) (h:EntsOk w K es.toList kvs) (nd:(kvs.map (·.1)).Nodup) :
    CnOk P w K (.ref a) (.dic kvs):=by
  obtain ⟨vs,p,d,n,ks⟩:=ents_pairs (P:=P) h
  refine ⟨a,_,es,ep,vs,rfl,l,⟨rfl,rfl,rfl⟩,rfl,fun e he=>ks e (by simpa using he),p,?_,d⟩
  rw [n]
  have e:kvs.map (fun kx=>(Sum.inr kx.1:Key))=(kvs.map (·.1)).map fun k=>(Sum.inr k:Key):=by simp
  rw [e]
  exact List.Pairwise.map _ (fun x y hxy z=>hxy (Sum.inr.inj z)) nd
theorem bits_of_W:∀ {ns:List Int},PySem.W.WData.weightAll (ns.map PySem.W.WData.int)<=2 ^ 20->∀ n ∈ ns,Builtin.Int.intBits n<=2 ^ 20
  | [],_,n,hn=>absurd hn (by simp)
  | m :: r,h,n,hn=>by
    rw [List.map_cons,PySem.W.WData.weightAll] at h
    rcases List.mem_cons.mp hn with rfl | hn
    · have e:PySem.W.WData.weight (.int n)=Builtin.Int.intBits n:=by rw [PySem.W.WData.weight]; rfl
      omega
    · exact bits_of_W (by omega) n hn
noncomputable def spLaw (K:PySem.W.Frag) (cv:Nat->Value) (c:List D->Hh->Res D):Sp:=spI K cv 1 c
theorem law_sp {K:PySem.W.Frag} {cv:Nat->Value} {c:List D->Hh->Res D} {H:Hp} {a:Addr} {ns:List Int} {h':Hh} (hO:Only H) (hS:SqL K H a (ns.map V.int)) (e:c [.fl (ns.map D.int)] []=.ok (.bl true) h') :
    spLaw K cv c [.ref a] H (fun v _=>v=.bl true) (fun _ _ _=>False):=by
  have rp:∀ ms:List Int,Reps K [] H (ms.map D.int) (ms.map V.int):=fun ms=>by
    induction ms with
    | nil=>exact .nil
    | cons m r ih=>exact .cons (.int m) ih
  have fz:Fz K H a (ns.map V.int):=by
    rcases hS with h | h
    · left
      rcases h with h | h
      · rcases hO a with z | ⟨o,xs,z⟩
        · rw [h] at z; cases z
        · rw [h] at z; cases z
      · exact h
    · exact .inr fun H'=>.inr h
  refine ⟨rfl,[],[],[.fl (ns.map D.int)],⟨rfl,fun n m b e1=>by simp at e1,fun n b o e1=>by simp at e1⟩,.cons (.fl fz (rp ns)) .nil,?_⟩
  · rw [e]
    intro μ1 H1 v e1 r1 q1
    cases q1
    rfl
theorem walk_ofB {l:PySem.W.OpenLaw} {k:Nat} {q:Program} {loose:List Str} {XP:(Str->Option Value)->Heap->Prop} {YP:World->Heap->Prop} {d:DefRec} {K:Params->PySem.W.Frag} {c:List D->Hh->Res D} {x:Str}
    (hn:l.most=some 63) (hdf:d.params.defaults=[]) (hr:Room k callerA)
    (hY:∀ (w:World) (h:Heap),YP w h->(K w.params).In h)
    (F:∀ (w:World) (mg:Str->Option Value) (fa:Addr) (h:Heap),(K w.params).In h->h.Ns mainGlobals mg->mg d.name=some (.ref fa) ->
      ∃ (cv:Nat->Value) (fd:FuncData),(∀ (s:Shared) (u:Value),BindsTo s fd ⟨[u],[]⟩ [(x,u)]) /\
        ∀ base:Heap,(K w.params).In base->base.Ns mainGlobals mg->FnOk l.prog w (K w.params) mg base (CXs l.prog w) k fa fd [x] (spLaw (K w.params) cv c))
    (hc:∀ ns:List Int,ns.length<=63->(∀ n ∈ ns,Builtin.Int.intBits n<=2 ^ 20)->∃ h',c [.fl (ns.map D.int)] []=.ok (.bl true) h') :
    PySem.W.WalkO q loose XP YP l.row.toRowW d [] (fun f vs=>PySem.call f vs):=by
  intro w s₀ s₁ mg mb G Y fa o pm cd doc dV kV ho hd hcd hD hmg hg args vals as hpre hlay hrd hwl hlo
  obtain rfl:dV=.none:=PySem.W.Dflts.none hD hdf
  obtain rfl:kV=.none:=PySem.W.Dflts.noKw hD
  obtain ⟨a,vs,ns,rfl,rfl,hobj,hints,hlen⟩:=Att.script_of hn hpre hwl
  have hbits:∀ n ∈ ns,Builtin.Int.intBits n<=2 ^ 20:=by
    have h1:PySem.W.WData.layable (.list (ns.map .int))=true:=by
      have:=hlay
      unfold PySem.W.WData.layableAll at this
      simpa using this
    have h2:=(PySem.W.layableW_iff.mp h1).2.2
    exact bits_of_W (by simpa [PySem.W.WData.weight] using h2)
  have KX:=hY w _ Y
  obtain ⟨cv,fd,hb,hF⟩:=F w mg fa _ KX G.T.g hmg
  obtain ⟨h',e⟩:=hc ns hlen hbits
  refine PySem.W.enter_call (codeAny_mono (law_call KX G.T.g G.T.b G.T.builtins G.T.nolimit hg hobj hints (Nat.le_trans hlen (by decide)) hr hF hb (fun H hO hS=>law_sp hO hS e) (fun H e' s' z=>by
    obtain ⟨_,_,_,_,_,_,_,_,_,_,_,z⟩:=z
    exact z)) fun r s' hq=>?_)
  obtain ⟨rfl,h2,h3,h4⟩:=hq
  exact ⟨.inl ⟨.bool true,.bool true,[],rfl,fun _=>rfl,.bool true,Att.post_true l _,fun _=>⟨List.Pairwise.nil,fun _ hm=>(nomatch hm)⟩⟩,h2,h3,h4⟩
end PI
set_option Elab.async false
set_option linter.all false
set_option maxRecDepth 100000
namespace PI
open PySem L2
section
variable {cl:Nat->List D->Hh->Res D}
theorem vvar {i z0 ρ h}:E.ev cl (.var i z0) ρ h=match ρ[i]? with | some (some d)=>.ok d h | _=>.no:=rfl
theorem vofL {l ρ h}:E.ev cl (.ofL l) ρ h=(l.ev cl ρ h).bind fun xs h1=>new (.lst xs) h1:=rfl
theorem vm1 {m o a z0 z1 ρ h}:E.ev cl (.m1 m o a z0 z1) ρ h=(o.ev cl ρ h).bind fun x h1=>onL x h1 ((a.ev cl ρ h1).bind fun y h2=>m1D m x y h2):=rfl
theorem vjoin {o a z0 z1 ρ h}:E.ev cl (.join o a z0 z1) ρ h=(o.ev cl ρ h).bind fun x h1=>onS x ((a.ev cl ρ h1).bind fun y h2=>joinD x y h2):=rfl
theorem ldisp {es z0 ρ h}:L.ev cl (.disp es z0) ρ h=(es.ev cl ρ h).bind fun xs h1=>if xs.length<=1000 then .ok xs h1 else .no:=rfl
theorem yrep {i j z0 rs z1 z2 ρ h}:S.run cl (.rep i j z0 rs z1 z2) ρ h=(match ρ[j]? with | some (some (.str z))=>(match repS rs z with | some z'=>.nx (ρ.set i (some (.str z'))) h | none=>.no) | _=>.no):=rfl
end
end PI
set_option Elab.async false
set_option linter.all false
set_option maxRecDepth 100000
set_option maxHeartbeats 4000000
namespace PI
open PySem L2
section
variable {h l:Hh} {o u:O} {n k:Nat} {xs:List D}
theorem hx (h l:Hh) (k:Nat):(h ++ l)[h.length + k]?=l[k]?:=by
  rw [List.getElem?_append_right (by omega)]; congr 1; omega
theorem hx0 (h l:Hh):(h ++ l)[h.length]?=l[0]?:=hx h l 0
theorem hset (h l:Hh) (k:Nat) (o:O):(h ++ l).set (h.length + k) o=h ++ l.set k o:=by
  rw [List.set_append_right _ _ (by omega)]; congr 2; omega
theorem hset0 (h l:Hh) (o:O):(h ++ l).set h.length o=h ++ l.set 0 o:=hset h l 0 o
theorem rdx (h l:Hh) (k:Nat):rd (h ++ l) (h.length + k)=rd l k:=by unfold rd; rw [hx]
theorem rdx0 (h l:Hh):rd (h ++ l) h.length=rd l 0:=rdx h l 0
theorem rd_of (e:h[n]?=some (.lst xs)):rd h n=some xs:=by unfold rd; rw [e]
theorem get_old (e:h[n]?=some o):(h ++ l)[n]?=some o:=by rw [List.getElem?_append_left (List.getElem?_eq_some_iff.mp e).1]; exact e
theorem rd_old {xs:List D} (e:rd h n=some xs):rd (h ++ l) n=some xs:=by
  unfold rd at e ⊢
  cases e1:h[n]? with
  | none=>rw [e1] at e; cases e
  | some o=>rw [e1] at e; rw [get_old e1]; exact e
theorem stay_nil:stay [] h:=by unfold stay; simp
theorem stay_one {n:Nat} {ds:List D} {h:Hh}:stay [(n,ds)] h ↔ rd h n=some ds:=by unfold stay; simp
theorem set_same (e:h[n]?=some o):h.set n o=h:=by
  apply List.ext_getElem?
  intro i
  by_cases hi:n=i
  · subst hi
    have:=(List.getElem?_eq_some_iff.mp e).1
    rw [List.getElem?_set_self this,e]
  · rw [List.getElem?_set_ne hi]
end
theorem compL_pure {c:Ck} {f:D->Hh->Res (Option D)} {h:Hh} (st:stay c h) (g:D->Option D):∀ (xs acc:List D),(∀ x ∈ xs,f x h=.ok (g x) h)->compL c f xs acc h=.ok (acc ++ xs.filterMap g) h
  | [],acc,_=>by simp [compL,st]
  | x :: r,acc,e=>by
    have e1:=e x (List.mem_cons_self ..)
    have ih:=compL_pure st g r (addO acc (g x)) fun y hy=>e y (List.mem_cons_of_mem _ hy)
    unfold compL
    rw [if_pos st,e1,bind_ok,ih,List.filterMap_cons]
    cases g x <;> simp
theorem sIx_some (n d:Nat) (i:Int) (h:0<=i):HT.sIx n d (some i)=min i.toNat n:=by
  unfold HT.sIx
  exact if_neg (by omega)
theorem sIx_none (n d:Nat):HT.sIx n d none=d:=rfl
theorem atI_nat {α:Type} {xs:List α} {k:Nat}:atI xs (k:Int)=xs[k]?:=by
  unfold atI ixN
  rw [if_pos (by omega)]
  by_cases h:k < xs.length
  · rw [if_pos (by omega)]; simp
  · rw [if_neg (by omega),List.getElem?_eq_none (by omega)]; rfl
theorem atI_pos {α:Type} {xs:List α} {i:Int} (h:0<=i):atI xs i=xs[i.toNat]?:=by
  have:i=(i.toNat:Int):=by omega
  rw [this,atI_nat]; rfl
theorem eqS {a b:Str} {h:Hh} (ha:PyData.strOk a=true) (hb:PyData.strOk b=true):cmpD .Eq (.str a) (.str b) h=.ok (.bl (a == b)) h:=if_pos ⟨ha,hb,Nat.zero_le _⟩
theorem neS {a b:Str} {h:Hh} (ha:PyData.strOk a=true) (hb:PyData.strOk b=true):cmpD .NotEq (.str a) (.str b) h=.ok (.bl (!(a == b))) h:=if_pos ⟨ha,hb,Nat.zero_le _⟩
theorem eqI {a b:Int} {h:Hh}:cmpD .Eq (.int a) (.int b) h=.ok (.bl (a == b)) h:=rfl
theorem neI {a b:Int} {h:Hh}:cmpD .NotEq (.int a) (.int b) h=.ok (.bl (!(a == b))) h:=rfl
noncomputable def dropS:Nat->Ss->Ss
  | 0,b=>b
  | _ + 1,.nil=>.nil
  | n + 1,.cons _ r=>dropS n r
noncomputable def cellv (ns:List Int) (i:Int):Int:=ns.getD i.toNat 0
theorem at_map (ns:List Int) (i:Int) (hi:0<=i) (h:i < (ns.length:Int)):atI (ns.map D.int) i=some (.int (cellv ns i)):=by
  rw [atI_pos hi,cellv,List.getElem?_map,List.getD_eq_getElem?_getD,List.getElem?_eq_getElem (by omega)]
  rfl
theorem cell_fits {ns:List Int} (hb:∀ n ∈ ns,fits n=true) (i:Int):fits (cellv ns i)=true:=by
  unfold cellv
  rw [List.getD_eq_getElem?_getD]
  cases e:ns[i.toNat]? with
  | none=>decide
  | some v=>exact hb v (List.mem_of_getElem? e)
noncomputable abbrev scr (ns:List Int):D:=.fl (ns.map .int)
theorem bls_map:∀ (bs:List Bool),blsOf (bs.map D.bl)=some bs
  | []=>rfl
  | b :: r=>by simp [blsOf,bls_map r]
end PI
set_option Elab.async false
set_option linter.all false
set_option maxRecDepth 100000
set_option maxHeartbeats 4000000
namespace PI
open PySem L2
noncomputable def cs (x:Str):List Nat:=x.cps.toList
noncomputable def mkS (l:List Nat):Str:=⟨l.toArray⟩
theorem cs_mk (l:List Nat):cs (mkS l)=l:=by simp [cs,mkS]
theorem mk_cs (x:Str):mkS (cs x)=x:=by cases x; simp [cs,mkS]
theorem cs_inj {x y:Str} (h:cs x=cs y):x=y:=by rw [<- mk_cs x,<- mk_cs y,h]
theorem cs_append (x y:Str):cs (x ++ y)=cs x ++ cs y:=by
  show (x.cps ++ y.cps).toList=_
  simp [cs]
theorem mk_append (a b:List Nat):mkS a ++ mkS b=mkS (a ++ b):=cs_inj (by rw [cs_append,cs_mk,cs_mk,cs_mk])
theorem cs_len (x:Str):x.length=(cs x).length:=by simp [cs,Str.length]
theorem mk_len (l:List Nat):(mkS l).length=l.length:=by rw [cs_len,cs_mk]
theorem ok_mk {l:List Nat} (h:∀ c ∈ l,c < 1114112):PyData.strOk (mkS l)=true:=by
  unfold PyData.strOk mkS
  simpa using h
theorem ok_cs {x:Str} (h:∀ c ∈ cs x,c < 1114112):PyData.strOk x=true:=by rw [<- mk_cs x]; exact ok_mk h
theorem str_ne {x y:Str} (h:cs x ≠ cs y):(x == y)=false:=by
  rw [beq_eq_false_iff_ne]
  exact fun z=>h (by rw [z])
noncomputable def sepL (s:List Nat):List (List Nat)->List Nat
  | []=>[]
  | [x]=>x
  | x :: y :: r=>x ++ s ++ sepL s (y :: r)
theorem cs_join (sep:Str):∀ xs:List Str,cs (Txt.join sep xs)=sepL (cs sep) (xs.map cs):=by
  intro xs
  show cs (Builtin.Str.glued sep xs)=_
  rw [StrLaws.glued_eq_join]
  induction xs with
  | nil=>rfl
  | cons x r ih =>
    cases r with
    | nil=>rfl
    | cons y r =>
      show cs (x ++ sep ++ Str.join sep (y :: r))=_
      rw [cs_append,cs_append,ih]
      rfl
theorem strs_map:∀ xs:List Str,strsOf (xs.map D.str)=some xs
  | []=>rfl
  | x :: r=>by simp [strsOf,strs_map r]
theorem fits_lt {i:Int} (h:i.natAbs < 18446744073709551616):fits i=true:=by
  unfold fits Builtin.Int.intBits
  refine decide_eq_true ?_
  split
  · decide
  · rename_i z
    have hz:i.natAbs ≠ 0:=by simpa using z
    have:i.natAbs.log2 < 64:=by
      rw [Nat.log2_lt hz]
      exact h
    omega
structure Wd (x:Str):Prop where
  ne:cs x ≠ []
  len:(cs x).length<=20
  ch:∀ c ∈ cs x,c ≠ 40 /\ c ≠ 41 /\ c ≠ 10 /\ c < 1114112
theorem Wd.ok {x:Str} (h:Wd x):PyData.strOk x=true:=ok_cs fun c hc=>(h.ch c hc).2.2.2
theorem wd_of {x:Str} (h:(decide (cs x ≠ []) && decide ((cs x).length<=20) && (cs x).all fun c=>decide (c ≠ 40 /\ c ≠ 41 /\ c ≠ 10 /\ c < 1114112))=true):Wd x:=by
  rw [Bool.and_eq_true,Bool.and_eq_true] at h
  exact ⟨of_decide_eq_true h.1.1,of_decide_eq_true h.1.2,fun c hc=>of_decide_eq_true (List.all_eq_true.mp h.2 c hc)⟩
end PI
set_option Elab.async false
set_option linter.all false
set_option maxRecDepth 100000
namespace PI
open PySem L2
section
variable {cl:Nat->List D->Hh->Res D} {ρ ρ':En} {h h' h2 h3:Hh} {c e:E} {a b r:Ss} {p p0 p1 p2 p3:Pos} {d x:D} {i:Nat}
theorem iff_f {o:RS} (hc:c.evT cl ρ h=.ok false h') (k:Ss.run cl r ρ h'=o):Ss.run cl (.cons (.iff c a .nil p) r) ρ h=o:=by
  rw [<- k]
  show seqS (andS ρ (c.evT cl ρ h) fun t h1=>if t then a.run cl ρ h1 else Ss.nil.run cl ρ h1) (fun ρ' h'=>r.run cl ρ' h')=_
  rw [hc]; rfl
theorem iff_t (hc:c.evT cl ρ h=.ok true h'):Ss.run cl (.cons (.iff c a b p) r) ρ h=seqS (a.run cl ρ h') fun ρ' h'=>r.run cl ρ' h':=by
  show seqS (andS ρ (c.evT cl ρ h) fun t h1=>if t then a.run cl ρ h1 else b.run cl ρ h1) (fun ρ' h'=>r.run cl ρ' h')=_
  rw [hc]; rfl
theorem iff_r (hc:c.evT cl ρ h=.ok true h') (ha:a.run cl ρ h'=.rt d h2):Ss.run cl (.cons (.iff c a b p) r) ρ h=.rt d h2:=by rw [iff_t hc,ha]; rfl
theorem iff_n {o:RS} (hc:c.evT cl ρ h=.ok true h') (ha:a.run cl ρ h'=.nx ρ' h2) (k:Ss.run cl r ρ' h2=o):Ss.run cl (.cons (.iff c a b p) r) ρ h=o:=by rw [<- k,iff_t hc,ha]; rfl
theorem ret_r (he:e.ev cl ρ h=.ok d h'):Ss.run cl (.cons (.ret e p) r) ρ h=.rt d h':=by
  show seqS (andS ρ (e.ev cl ρ h) fun d h1=>.rt d h1) (fun ρ' h'=>r.run cl ρ' h')=_
  rw [he]; rfl
theorem set_s {o:RS} (he:e.ev cl ρ h=.ok d h') (k:Ss.run cl r (ρ.set i (some d)) h'=o):Ss.run cl (.cons (.set i e p1 p) r) ρ h=o:=by
  rw [<- k]
  show seqS (andS ρ (e.ev cl ρ h) fun d h1=>.nx (ρ.set i (some d)) h1) (fun ρ' h'=>r.run cl ρ' h')=_
  rw [he]; rfl
theorem ex_s {o:RS} (he:e.ev cl ρ h=.ok d h') (k:Ss.run cl r ρ h'=o):Ss.run cl (.cons (.ex e p) r) ρ h=o:=by
  rw [<- k]
  show seqS (andS ρ (e.ev cl ρ h) fun d h1=>.nx ρ h1) (fun ρ' h'=>r.run cl ρ' h')=_
  rw [he]; rfl
theorem out_rt {o:RS} (q:o=.rt d h):outR o=.ok d h:=by rw [q]; rfl
theorem t_eqi {x k:Int} {b:Bool} (q:ρ[i]?=some (some (.int x))) (hb:(x == k)=b):E.evT cl (.cmp .Eq (.var i p1) (.int k p2) p3) ρ h=.ok b h:=by
  show ((match ρ[i]? with | some (some d)=>Res.ok d h | _=>.no).bind fun x h1=>cmpD .Eq x (.int k) h1).bind _=_
  rw [q,<- hb]
  show (cmpD .Eq (.int x) (.int k) h).bind _=_
  rw [eqI]; rfl
theorem bnd {α β:Type} {m:Res α} {f:α->Hh->Res β} {x:α} {y:Res β} (q:m=.ok x h) (g:f x h=y):m.bind f=y:=by rw [q]; exact g
theorem evT_bl {b:Bool} (q:e.evT cl ρ h=.ok b h'):e.ev cl ρ h=.ok (.bl b) h':=by
  have q:((e.ev cl ρ h).bind fun d h1=>match d with | .bl b=>.ok b h1 | _=>.no)=Res.ok b h':=q
  cases m:e.ev cl ρ h with
  | ok d h1 =>
    rw [m] at q
    cases d with
    | bl b'=>cases q; rfl
    | _=>cases q
  | exc c h1=>rw [m] at q; cases q
  | no=>rw [m] at q; cases q
theorem t_andF {e':E} {r:Es} (ha:e.evT cl ρ h=.ok false h'):(E.and e e' r p).evT cl ρ h=.ok false h':=bnd (bnd (evT_bl ha) rfl) rfl
theorem t_and {e':E} {t:Bool} (ha:e.evT cl ρ h=.ok true h') (hb:e'.evT cl ρ h'=.ok t h2):(E.and e e' .nil p).evT cl ρ h=.ok t h2:=bnd (bnd (evT_bl ha) (bnd (evT_bl hb) rfl)) rfl
theorem t_cmp {a' b':E} {x y:D} {op:CmpOp} {t:Bool} (ha:a'.ev cl ρ h=.ok x h') (hb:b'.ev cl ρ h'=.ok y h2) (hc:cmpD op x y h2=.ok (.bl t) h3):E.evT cl (.cmp op a' b' p) ρ h=.ok t h3:=bnd (bnd ha (bnd hb hc)) rfl
theorem t_and3 {e':E} {t:Bool} (ha:e.evT cl ρ h=.ok true h') (hb:e'.evT cl ρ h'=.ok true h2) (hc:c.evT cl ρ h2=.ok t h3):(E.and e e' (.cons c .nil) p).evT cl ρ h=.ok t h3:=bnd (bnd (evT_bl ha) (bnd (evT_bl hb) (bnd (evT_bl hc) rfl))) rfl
theorem forr_s {o:RS} {tg:Tg} {it:I} {q:Ck × List D} (hi:it.ev cl ρ h=.ok q h') (hf:forL q.1 (stepF tg fun ρ' h'=>a.run cl ρ' h') q.2 ρ h'=.nx ρ' h2) (k:Ss.run cl r ρ' h2=o):Ss.run cl (.cons (.forr tg it a p) r) ρ h=o:=by
  rw [<- k]
  show seqS (andS ρ (it.ev cl ρ h) fun q h1=>forL q.1 (stepF tg fun ρ' h'=>a.run cl ρ' h') q.2 ρ h1) (fun ρ' h'=>r.run cl ρ' h')=_
  rw [hi,andS_ok,hf]; rfl
theorem for_n {o:RS} {ck:Ck} {f:D->En->Hh->RS} {l:List D} (hs:stay ck h) (hf:f x ρ h=.nx ρ' h') (k:forL ck f l ρ' h'=o):forL ck f (x :: l) ρ h=o:=by
  rw [forL,if_pos hs,hf]; exact k
theorem on_lst {n:Nat} {l:List D} (g:h[n]?=some (.lst l)) (m:Res D):onL (.loc n) h m=m:=by
  show (match h[n]? with | some (.lst _)=>m | _=>.no)=m
  rw [g]
theorem fdk {i k:Int} (hk:0 < k /\ k < 1073741824):binD .FloorDiv (.int i) (.int k) h=.ok (.int (i / k)) h:=if_pos hk
theorem mdk {i k:Int} (hk:0 < k):binD .Mod (.int i) (.int k) h=.ok (.int (i % k)) h:=if_pos hk
theorem rng_s {j:Int} (ha:e.ev cl ρ h=.ok (.int j) h') (hj:-1000000<=j /\ j<=1000000):I.ev cl (.rng e p1 p2) ρ h=.ok ([],(List.range j.toNat).map fun k=>.int (k:Nat)) h':=bnd ha (if_pos hj)
theorem t_or {e':E} {t:Bool} (ha:e.evT cl ρ h=.ok false h') (hb:e'.evT cl ρ h'=.ok t h2):(E.or e e' .nil p).evT cl ρ h=.ok t h2:=bnd (bnd (evT_bl ha) (bnd (evT_bl hb) rfl)) rfl
theorem t_orT {e':E} {r:Es} (ha:e.evT cl ρ h=.ok true h'):(E.or e e' r p).evT cl ρ h=.ok true h':=bnd (bnd (evT_bl ha) rfl) rfl
theorem t_or3 {e':E} {t:Bool} (ha:e.evT cl ρ h=.ok false h') (hb:e'.evT cl ρ h'=.ok false h2) (hc:c.evT cl ρ h2=.ok t h3):(E.or e e' (.cons c .nil) p).evT cl ρ h=.ok t h3:=bnd (bnd (evT_bl ha) (bnd (evT_bl hb) (bnd (evT_bl hc) rfl))) rfl
theorem compF_t {tg:Tg} {ct:En->Hh->Res Bool} {ce:En->Hh->Res D} (hb:bindT tg x ρ=some ρ') (hc:ct ρ' h=.ok true h') (he:ce ρ' h'=.ok d h2):compF tg ρ ct ce x h=.ok (some d) h2:=by
  show (match bindT tg x ρ with | some ρ'=>(ct ρ' h).bind fun b h1=>if b then (ce ρ' h1).bind fun d h2=>.ok (some d) h2 else .ok none h1 | none=>.no)=_
  rw [hb]; exact bnd hc (bnd he rfl)
theorem seq_loc {n:Nat} {xs:List D} (he:e.ev cl ρ h=.ok (.loc n) h') (hr:rd h' n=some xs):I.ev cl (.seq e) ρ h=.ok ([(n,xs)],xs) h':=bnd he (by
  show (match rd h' n with | some xs=>Res.ok (([(n,xs)],xs):Ck × List D) h' | none=>.no)=_
  rw [hr])
theorem ofL_comp {elt:E} {tg:Tg} {it:I} {ct:Es} {ns:List Str} {cap:List (Option Nat)} {sc:Scope} {q:Ck × List D} {xs:List D} (hi:it.ev cl ρ h=.ok q h') (hl:q.2.length<=1000000) (hc:compL q.1 (compF tg (capE cap ρ) (fun ρ' h2=>ct.evC cl ρ' h2) (fun ρ' h2=>elt.ev cl ρ' h2)) q.2 [] h'=.ok xs h2):E.ev cl (.ofL (.comp elt tg it ct ns cap sc p)) ρ h=.ok (.loc h2.length) (h2 ++ [.lst xs]):=bnd (bnd hi ((if_pos hl).trans hc)) rfl
theorem t_or2 {e':E} {r:Es} (ha:e.evT cl ρ h=.ok false h') (hb:e'.evT cl ρ h'=.ok true h2):(E.or e e' (.cons c r) p).evT cl ρ h=.ok true h2:=bnd (bnd (evT_bl ha) (bnd (evT_bl hb) rfl)) rfl
theorem mlk {i j:Int} (hi:fits i=true) (hj:fits j=true):binD .Mult (.int i) (.int j) h=.ok (.int (i * j)) h:=if_pos ⟨hi,hj⟩
theorem iff_e {o:RS} (hc:c.evT cl ρ h=.ok false h') (hb:b.run cl ρ h'=.nx ρ' h2) (k:Ss.run cl r ρ' h2=o):Ss.run cl (.cons (.iff c a b p) r) ρ h=o:=by
  rw [<- k]
  show seqS (andS ρ (c.evT cl ρ h) fun t h1=>if t then a.run cl ρ h1 else b.run cl ρ h1) (fun ρ' h'=>r.run cl ρ' h')=_
  rw [hc]
  show seqS (b.run cl ρ h') _=_
  rw [hb]; rfl
end
end PI
set_option Elab.async false
set_option linter.all false
set_option maxRecDepth 100000
set_option maxHeartbeats 4000000
namespace PI
open PySem L2
inductive Kd where
  | num (n:Int) | var (x:Str) | op (s:Str) | lett (x:Str) | ite | call (f:Str) (g:Option Str) | doo (d:Str) | handle (h:Str) | go | guard
inductive G where
  | nd (k:Kd) (ps:List G)
noncomputable def optD:Option Str->D
  | none=>.non
  | some g=>.str g
noncomputable def Kd.enc:Kd->List D->D
  | .num n,ps=>.tup (.str "num" :: .int n :: ps)
  | .var x,ps=>.tup (.str "var" :: .str x :: ps)
  | .op s,ps=>.tup (.str "op" :: .str s :: ps)
  | .lett x,ps=>.tup (.str "let" :: .str x :: ps)
  | .ite,ps=>.tup (.str "if" :: ps)
  | .call f g,ps=>.tup [.str "call",.str f,optD g,.tup ps]
  | .doo d,ps=>.tup (.str "do" :: .str d :: ps)
  | .handle h,ps=>.tup (.str "handle" :: .str h :: ps)
  | .go,ps=>.tup (.str "go" :: ps)
  | .guard,ps=>.tup (.str "guard" :: ps)
mutual
noncomputable def G.d:G->D
  | .nd k ps=>k.enc (G.ds ps)
noncomputable def G.ds:List G->List D
  | []=>[]
  | g :: r=>g.d :: G.ds r
end
mutual
noncomputable def G.size:G->Nat
  | .nd _ ps=>1 + G.sizes ps
noncomputable def G.sizes:List G->Nat
  | []=>0
  | g :: r=>g.size + G.sizes r
end
noncomputable def Kd.ok (k:Kd) (n:Nat):Bool:=match k with
  | .num _ | .var _=>n == 0
  | .op _ | .lett _ | .handle _ | .go | .guard=>n == 2
  | .ite=>n == 3
  | .doo _=>n == 1
  | .call _ _=>true
mutual
noncomputable def G.ok:G->Bool
  | .nd k ps=>k.ok ps.length && G.oks ps
noncomputable def G.oks:List G->Bool
  | []=>true
  | g :: r=>g.ok && G.oks r
end
theorem so:∀ x ∈ (["num","var","op","let","if","call","do","handle","go","guard","never","jump","once","many"]:List Str),PyData.strOk x=true:=by decide +kernel
theorem so_call:PyData.strOk "call"=true:=so _ (by simp)
end PI
set_option Elab.async false
set_option linter.all false
set_option maxRecDepth 100000
set_option maxHeartbeats 4000000
namespace K11
open PySem L2 PI
noncomputable abbrev qQ (l a b:Nat):PySem.Pos:=⟨l,a,l,b⟩
noncomputable def g_WORDS:List Str:=["def","handler","on","end","let","if","call","hand","do","handle","go","guard"]
noncomputable def g_SIGNS:List Str:=["+","-","*","<"]
noncomputable def g_FORMS:List (Str × Cv):=[("num",.tup ["number"]),("var",.tup ["name"]),("op",.tup ["sign","part","part"]),("let",.tup ["name","part","part"]),("if",.tup ["part","part","part"]),("call",.tup ["name","block","parts"]),("do",.tup ["name","part"]),("handle",.tup ["name","part","part"]),("go",.tup ["part","part"]),("guard",.tup ["part","part"])]
noncomputable def g_CLAUSE_FORM:List Str:=["name","name","name","part"]
noncomputable def g_END_FORM:List Str:=["name","name","part"]
noncomputable def g_ALIKE:List Str:=["let","if","do","handle","go","guard"]
noncomputable def consts:List (Str × Cn):=[("WORDS",(.tup g_WORDS)),("SIGNS",(.tup g_SIGNS)),("LETTERS",(.str "abcdefghijklmnopqrstuvwxyz")),("LONGEST_NAME",(.int (8))),("FIGURES",(.str "0123456789")),("MOST_FIGURES",(.int (18))),("FORMS",(.dic g_FORMS)),("CLAUSE_FORM",(.tup g_CLAUSE_FORM)),("END_FORM",(.tup g_END_FORM)),("DEEPEST",(.int (24))),("ALIKE",(.tup g_ALIKE)),("WrightError",(.exc 0 [0])),("NoText",(.exc 1 [1,0])),("NoName",(.exc 2 [2,0]))]
noncomputable def e_is_name_1:E:=(.cmp .In (.var 0 (qQ 21 16 20)) (.gcon "LETTERS" (.str "abcdefghijklmnopqrstuvwxyz") (qQ 21 24 31)) (qQ 21 16 31))
noncomputable def c_is_name_1:Es:=.nil
noncomputable def t_is_name_1:Tg:=(.one 0 (qQ 21 36 40))
noncomputable def s_is_name_1:Scope:={ kind:=PySem.ScopeKind.function,names:=[ (PySem.Str.ofString ".0",PySem.NameKind.local),(PySem.Str.ofString "sign",PySem.NameKind.local),(PySem.Str.ofString "LETTERS",PySem.NameKind.globalImplicit)],isGenerator:=false,isCoroutine:=false,more:=[]:PySem.Scope }
noncomputable def d_is_name:Df:=⟨"is_name",["word"],["word"],(.cons (.iff (.or (.cmp .Eq (.var 0 (qQ 19 7 11)) (.str "" (qQ 19 15 17)) (qQ 19 7 17)) (.cmp .Gt (.len (.var 0 (qQ 19 25 29)) (qQ 19 21 24) (qQ 19 21 30)) (.gcon "LONGEST_NAME" (.int (8)) (qQ 19 33 45)) (qQ 19 21 45)) (.cons (.cmp .In (.var 0 (qQ 19 49 53)) (.gcon "WORDS" (.tup g_WORDS) (qQ 19 57 62)) (qQ 19 49 62)) .nil) (qQ 19 7 62)) (.cons (.ret (.bl false (qQ 20 15 20)) (qQ 20 8 20)) .nil) .nil ⟨19,4,20,20⟩) (.cons (.ret (.c1 .all (.ofL (.comp e_is_name_1 t_is_name_1 (.seq (.var 0 (qQ 21 44 48))) c_is_name_1 ["sign"] [none] s_is_name_1 (qQ 21 15 49))) (qQ 21 11 14) (qQ 21 11 50)) (qQ 21 4 50)) .nil))⟩
noncomputable def e_is_number_1:E:=(.cmp .In (.var 0 (qQ 25 16 20)) (.gcon "FIGURES" (.str "0123456789") (qQ 25 24 31)) (qQ 25 16 31))
noncomputable def c_is_number_1:Es:=.nil
noncomputable def t_is_number_1:Tg:=(.one 0 (qQ 25 36 40))
noncomputable def s_is_number_1:Scope:={ kind:=PySem.ScopeKind.function,names:=[ (PySem.Str.ofString ".0",PySem.NameKind.local),(PySem.Str.ofString "sign",PySem.NameKind.local),(PySem.Str.ofString "FIGURES",PySem.NameKind.globalImplicit)],isGenerator:=false,isCoroutine:=false,more:=[]:PySem.Scope }
noncomputable def d_is_number:Df:=⟨"is_number",["word"],["word"],(.cons (.iff (.or (.cmp .Eq (.var 0 (qQ 23 7 11)) (.str "" (qQ 23 15 17)) (qQ 23 7 17)) (.cmp .Gt (.len (.var 0 (qQ 23 25 29)) (qQ 23 21 24) (qQ 23 21 30)) (.gcon "MOST_FIGURES" (.int (18)) (qQ 23 33 45)) (qQ 23 21 45)) (.cons (.and (.cmp .Eq (.sub (.var 0 (qQ 23 50 54)) (.int 0 (qQ 23 55 56)) (qQ 23 50 57)) (.str "0" (qQ 23 61 64)) (qQ 23 50 64)) (.cmp .NotEq (.var 0 (qQ 23 69 73)) (.str "0" (qQ 23 77 80)) (qQ 23 69 80)) .nil (qQ 23 50 80)) .nil) (qQ 23 7 81)) (.cons (.ret (.bl false (qQ 24 15 20)) (qQ 24 8 20)) .nil) .nil ⟨23,4,24,20⟩) (.cons (.ret (.c1 .all (.ofL (.comp e_is_number_1 t_is_number_1 (.seq (.var 0 (qQ 25 44 48))) c_is_number_1 ["sign"] [none] s_is_number_1 (qQ 25 15 49))) (qQ 25 11 14) (qQ 25 11 50)) (qQ 25 4 50)) .nil))⟩
noncomputable def e_read_1:E:=(.call 5 (.var 0 (qQ 30 26 31)) .nil (qQ 30 18 25) (qQ 30 18 32))
noncomputable def c_read_1:Es:=.nil
noncomputable def t_read_1:Tg:=(.one 0 (qQ 30 37 42))
noncomputable def s_read_1:Scope:={ kind:=PySem.ScopeKind.function,names:=[ (PySem.Str.ofString ".0",PySem.NameKind.local),(PySem.Str.ofString "thing",PySem.NameKind.local),(PySem.Str.ofString "item_of",PySem.NameKind.globalImplicit)],isGenerator:=false,isCoroutine:=false,more:=[]:PySem.Scope }
noncomputable def d_read:Df:=⟨"read",["text"],["text"],(.cons (.ret (.tupL (.comp e_read_1 t_read_1 (.seq (.call 4 (.call 3 (.var 0 (qQ 30 62 66)) .nil (qQ 30 53 61) (qQ 30 53 67)) .nil (qQ 30 46 52) (qQ 30 46 68))) c_read_1 ["thing"] [none] s_read_1 (qQ 30 17 69)) (qQ 30 11 16) (qQ 30 11 70)) (qQ 30 4 70)) .nil)⟩
noncomputable def e_words_of_1:E:=(.var 0 (qQ 33 12 16))
noncomputable def c_words_of_1:Es:=(.cons (.cmp .NotEq (.var 0 (qQ 33 50 54)) (.str "" (qQ 33 58 60)) (qQ 33 50 60)) .nil)
noncomputable def t_words_of_1:Tg:=(.one 0 (qQ 33 21 25))
noncomputable def s_words_of_1:Scope:={ kind:=PySem.ScopeKind.function,names:=[(PySem.Str.ofString ".0",PySem.NameKind.local),(PySem.Str.ofString "word",PySem.NameKind.local)],isGenerator:=false,isCoroutine:=false,more:=[]:PySem.Scope }
noncomputable def d_words_of:Df:=⟨"words_of",["text"],["text","spaced"],(.cons (.rep 1 0 (qQ 32 13 17) [⟨"\n"," ",(qQ 32 13 25),(qQ 32 26 30),(qQ 32 32 35),(qQ 32 13 36)⟩,⟨"("," ( ",(qQ 32 13 44),(qQ 32 45 48),(qQ 32 50 55),(qQ 32 13 56)⟩,⟨")"," ) ",(qQ 32 13 64),(qQ 32 65 68),(qQ 32 70 75),(qQ 32 13 76)⟩] (qQ 32 4 10) (qQ 32 4 76)) (.cons (.ret (.ofL (.comp e_words_of_1 t_words_of_1 (.seq (.split (.var 1 (qQ 33 29 35)) (.str " " (qQ 33 42 45)) (qQ 33 29 41) (qQ 33 29 46))) c_words_of_1 ["word"] [none] s_words_of_1 (qQ 33 11 61))) (qQ 33 4 61)) .nil))⟩
noncomputable def t_nested_1:Tg:=(.one 3 (qQ 37 8 12))
noncomputable def b_nested_1:Ss:=(.cons (.iff (.cmp .Eq (.var 3 (qQ 38 11 15)) (.str "(" (qQ 38 19 22)) (qQ 38 11 22)) (.cons (.iff (.cmp .Eq (.len (.var 1 (qQ 39 19 25)) (qQ 39 15 18) (qQ 39 15 26)) (.gcon "DEEPEST" (.int (24)) (qQ 39 30 37)) (qQ 39 15 37)) (.cons (.rais "NoText" 1 [1,0] (.s "brackets too deep within one another" (qQ 40 29 67)) (qQ 40 22 28) (qQ 40 22 68) (qQ 40 16 68)) .nil) .nil ⟨39,12,40,68⟩) (.cons (.ex (.m1 .append (.var 1 (qQ 41 12 18)) (.var 2 (qQ 41 26 31)) (qQ 41 12 25) (qQ 41 12 32)) (qQ 41 12 32)) (.cons (.set 2 (.ofL (.disp .nil (qQ 42 20 22))) (qQ 42 12 17) (qQ 42 12 22)) .nil))) (.cons (.iff (.cmp .Eq (.var 3 (qQ 43 13 17)) (.str ")" (qQ 43 21 24)) (qQ 43 13 24)) (.cons (.iff (.cmpN false (.var 1 (qQ 44 15 21)) (qQ 44 25 27) (qQ 44 15 27)) (.cons (.rais "NoText" 1 [1,0] (.s "a bracket is closed that was not opened" (qQ 45 29 70)) (qQ 45 22 28) (qQ 45 22 71) (qQ 45 16 71)) .nil) .nil ⟨44,12,45,71⟩) (.cons (.set 4 (.var 2 (qQ 46 21 26)) (qQ 46 12 18) (qQ 46 12 26)) (.cons (.set 2 (.m0 .pop (.var 1 (qQ 47 20 26)) (qQ 47 20 30) (qQ 47 20 32)) (qQ 47 12 17) (qQ 47 12 32)) (.cons (.ex (.m1 .append (.var 2 (qQ 48 12 17)) (.var 4 (qQ 48 25 31)) (qQ 48 12 24) (qQ 48 12 32)) (qQ 48 12 32)) .nil)))) (.cons (.ex (.m1 .append (.var 2 (qQ 50 12 17)) (.var 3 (qQ 50 25 29)) (qQ 50 12 24) (qQ 50 12 30)) (qQ 50 12 30)) .nil) ⟨43,8,50,30⟩) .nil) ⟨38,8,50,30⟩) .nil)
noncomputable def d_nested:Df:=⟨"nested",["words"],["words","around","inner","word","closed"],(.cons (.set 1 (.ofL (.disp .nil (qQ 35 13 15))) (qQ 35 4 10) (qQ 35 4 15)) (.cons (.set 2 (.ofL (.disp .nil (qQ 36 12 14))) (qQ 36 4 9) (qQ 36 4 14)) (.cons (.forr t_nested_1 (.seq (.var 0 (qQ 37 16 21))) b_nested_1 ⟨37,4,50,30⟩) (.cons (.iff (.cmpN true (.var 1 (qQ 51 7 13)) (qQ 51 17 19) (qQ 51 7 19)) (.cons (.rais "NoText" 1 [1,0] (.s "a bracket is not closed" (qQ 52 21 46)) (qQ 52 14 20) (qQ 52 14 47) (qQ 52 8 47)) .nil) .nil ⟨51,4,52,47⟩) (.cons (.ret (.var 2 (qQ 53 11 16)) (qQ 53 4 16)) .nil)))))⟩
noncomputable def d_item_of:Df:=⟨"item_of",["thing"],["thing","head"],(.cons (.set 1 (.call 15 (.var 0 (qQ 55 19 24)) .nil (qQ 55 11 18) (qQ 55 11 25)) (qQ 55 4 8) (qQ 55 4 25)) (.cons (.iff (.cmp .Eq (.var 1 (qQ 56 7 11)) (.str "def" (qQ 56 15 20)) (qQ 56 7 20)) (.cons (.ret (.call 6 (.cut (.var 0 (qQ 57 27 32)) (.some (.int 1 (qQ 57 33 34))) .none (qQ 57 33 35) (qQ 57 27 36)) .nil (qQ 57 15 26) (qQ 57 15 37)) (qQ 57 8 37)) .nil) .nil ⟨56,4,57,37⟩) (.cons (.iff (.cmp .Eq (.var 1 (qQ 58 7 11)) (.str "handler" (qQ 58 15 24)) (qQ 58 7 24)) (.cons (.ret (.call 7 (.cut (.var 0 (qQ 59 26 31)) (.some (.int 1 (qQ 59 32 33))) .none (qQ 59 32 34) (qQ 59 26 35)) .nil (qQ 59 15 25) (qQ 59 15 36)) (qQ 59 8 36)) .nil) .nil ⟨58,4,59,36⟩) (.cons (.rais "NoText" 1 [1,0] (.f (.c "no item begins with " (qQ 60 19 39)) (.r 1 (qQ 60 40 44) (qQ 60 39 47)) [] (qQ 60 17 48)) (qQ 60 10 16) (qQ 60 10 49) (qQ 60 4 49)) .nil))))⟩
noncomputable def d_function_of:Df:=⟨"function_of",["things"],["things","block"],(.cons (.iff (.cmp .NotIn (.len (.var 0 (qQ 62 11 17)) (qQ 62 7 10) (qQ 62 7 18)) (.tup (.cons (.int 3 (qQ 62 27 28)) (.cons (.int 4 (qQ 62 30 31)) .nil)) (qQ 62 26 32)) (qQ 62 7 32)) (.cons (.rais "NoText" 1 [1,0] (.s "a def with too few or too many things" (qQ 63 21 60)) (qQ 63 14 20) (qQ 63 14 61) (qQ 63 8 61)) .nil) .nil ⟨62,4,63,61⟩) (.cons (.set 1 (.ite (.cmp .Eq (.len (.var 0 (qQ 64 38 44)) (qQ 64 34 37) (qQ 64 34 45)) (.int 4 (qQ 64 49 50)) (qQ 64 34 50)) (.call 17 (.sub (.var 0 (qQ 64 20 26)) (.int 2 (qQ 64 27 28)) (qQ 64 20 29)) .nil (qQ 64 12 19) (qQ 64 12 30)) (.non (qQ 64 56 60)) (qQ 64 12 60)) (qQ 64 4 9) (qQ 64 4 60)) (.cons (.ret (.tup (.cons (.str "def" (qQ 65 12 17)) (.cons (.call 17 (.sub (.var 0 (qQ 65 27 33)) (.int 0 (qQ 65 34 35)) (qQ 65 27 36)) .nil (qQ 65 19 26) (qQ 65 19 37)) (.cons (.call 16 (.sub (.var 0 (qQ 65 48 54)) (.int 1 (qQ 65 55 56)) (qQ 65 48 57)) .nil (qQ 65 39 47) (qQ 65 39 58)) (.cons (.var 1 (qQ 65 60 65)) (.cons (.call 11 (.sub (.var 0 (qQ 65 81 87)) (.un .USub (.int 1 (qQ 65 89 90)) (qQ 65 88 90)) (qQ 65 81 91)) .nil (qQ 65 67 80) (qQ 65 67 92)) .nil))))) (qQ 65 11 93)) (qQ 65 4 93)) .nil)))⟩
noncomputable def e_handler_of_1:E:=(.call 8 (.str "on" (qQ 69 22 26)) (.cons (.var 0 (qQ 69 28 33)) (.cons (.gcon "CLAUSE_FORM" (.tup g_CLAUSE_FORM) (qQ 69 35 46)) .nil)) (qQ 69 15 21) (qQ 69 15 47))
noncomputable def c_handler_of_1:Es:=.nil
noncomputable def t_handler_of_1:Tg:=(.one 0 (qQ 69 52 57))
noncomputable def s_handler_of_1:Scope:={ kind:=PySem.ScopeKind.function,names:=[ (PySem.Str.ofString ".0",PySem.NameKind.local),(PySem.Str.ofString "thing",PySem.NameKind.local),(PySem.Str.ofString "headed",PySem.NameKind.globalImplicit),(PySem.Str.ofString "CLAUSE_FORM",PySem.NameKind.globalImplicit)],isGenerator:=false,isCoroutine:=false,more:=[]:PySem.Scope }
noncomputable def d_handler_of:Df:=⟨"handler_of",["things"],["things","clauses"],(.cons (.iff (.cmp .Lt (.len (.var 0 (qQ 67 11 17)) (qQ 67 7 10) (qQ 67 7 18)) (.int 2 (qQ 67 21 22)) (qQ 67 7 22)) (.cons (.rais "NoText" 1 [1,0] (.s "a handler with too few things" (qQ 68 21 52)) (qQ 68 14 20) (qQ 68 14 53) (qQ 68 8 53)) .nil) .nil ⟨67,4,68,53⟩) (.cons (.set 1 (.ofL (.comp e_handler_of_1 t_handler_of_1 (.seq (.cut (.var 0 (qQ 69 61 67)) (.some (.int 1 (qQ 69 68 69))) (.some (.un .USub (.int 1 (qQ 69 71 72)) (qQ 69 70 72))) (qQ 69 68 72) (qQ 69 61 73))) c_handler_of_1 ["thing"] [none] s_handler_of_1 (qQ 69 14 74))) (qQ 69 4 11) (qQ 69 4 74)) (.cons (.ret (.tup (.cons (.str "handler" (qQ 70 12 21)) (.cons (.call 17 (.sub (.var 0 (qQ 70 31 37)) (.int 0 (qQ 70 38 39)) (qQ 70 31 40)) .nil (qQ 70 23 30) (qQ 70 23 41)) (.cons (.tupE (.var 1 (qQ 70 49 56)) (qQ 70 43 48) (qQ 70 43 57)) (.cons (.call 8 (.str "end" (qQ 70 66 71)) (.cons (.sub (.var 0 (qQ 70 73 79)) (.un .USub (.int 1 (qQ 70 81 82)) (qQ 70 80 82)) (qQ 70 73 83)) (.cons (.gcon "END_FORM" (.tup g_END_FORM) (qQ 70 85 93)) .nil)) (qQ 70 59 65) (qQ 70 59 94)) .nil)))) (qQ 70 11 95)) (qQ 70 4 95)) .nil)))⟩
noncomputable def d_headed:Df:=⟨"headed",["word","thing","form"],["word","thing","form"],(.cons (.iff (.cmp .NotEq (.call 15 (.var 1 (qQ 72 15 20)) .nil (qQ 72 7 14) (qQ 72 7 21)) (.var 0 (qQ 72 25 29)) (qQ 72 7 29)) (.cons (.rais "NoText" 1 [1,0] (.f (.c "brackets with " (qQ 73 23 37)) (.r 0 (qQ 73 38 42) (qQ 73 37 45)) [(.c " are lacking" (qQ 73 45 57))] (qQ 73 21 58)) (qQ 73 14 20) (qQ 73 14 59) (qQ 73 8 59)) .nil) .nil ⟨72,4,73,59⟩) (.cons (.ret (.call 9 (.cut (.var 1 (qQ 74 18 23)) (.some (.int 1 (qQ 74 24 25))) .none (qQ 74 24 26) (qQ 74 18 27)) (.cons (.var 2 (qQ 74 29 33)) .nil) (qQ 74 11 17) (qQ 74 11 34)) (qQ 74 4 34)) .nil))⟩
noncomputable def e_formed_1:E:=(.call 10 (.var 0 (qQ 78 26 30)) (.cons (.var 1 (qQ 78 32 37)) .nil) (qQ 78 18 25) (qQ 78 18 38))
noncomputable def c_formed_1:Es:=.nil
noncomputable def t_formed_1:Tg:=(.tup [(0,(qQ 78 43 47)),(1,(qQ 78 49 54))] (qQ 78 43 54))
noncomputable def s_formed_1:Scope:={ kind:=PySem.ScopeKind.function,names:=[ (PySem.Str.ofString ".0",PySem.NameKind.local),(PySem.Str.ofString "kind",PySem.NameKind.local),(PySem.Str.ofString "thing",PySem.NameKind.local),(PySem.Str.ofString "read_as",PySem.NameKind.globalImplicit)],isGenerator:=false,isCoroutine:=false,more:=[]:PySem.Scope }
noncomputable def d_formed:Df:=⟨"formed",["things","form"],["things","form"],(.cons (.iff (.cmp .NotEq (.len (.var 0 (qQ 76 11 17)) (qQ 76 7 10) (qQ 76 7 18)) (.len (.var 1 (qQ 76 26 30)) (qQ 76 22 25) (qQ 76 22 31)) (qQ 76 7 31)) (.cons (.rais "NoText" 1 [1,0] (.s "too few or too many things in a pair of brackets" (qQ 77 21 71)) (qQ 77 14 20) (qQ 77 14 72) (qQ 77 8 72)) .nil) .nil ⟨76,4,77,72⟩) (.cons (.ret (.tupL (.comp e_formed_1 t_formed_1 (.zip (.var 1 (qQ 78 62 66)) (.var 0 (qQ 78 68 74)) (qQ 78 58 61) (qQ 78 58 75)) c_formed_1 ["kind","thing"] [none,none] s_formed_1 (qQ 78 17 76)) (qQ 78 11 16) (qQ 78 11 77)) (qQ 78 4 77)) .nil))⟩
noncomputable def d_read_as:Df:=⟨"read_as",["kind","thing"],["kind","thing"],(.cons (.ret (.ite (.cmp .Eq (.var 0 (qQ 80 29 33)) (.str "name" (qQ 80 37 43)) (qQ 80 29 43)) (.call 17 (.var 1 (qQ 80 19 24)) .nil (qQ 80 11 18) (qQ 80 11 25)) (.call 11 (.var 1 (qQ 80 63 68)) .nil (qQ 80 49 62) (qQ 80 49 69)) (qQ 80 11 69)) (qQ 80 4 69)) .nil)⟩
noncomputable def d_expression_of:Df:=⟨"expression_of",["thing"],["thing","head"],(.cons (.iff (.isi 2 (.var 0 (qQ 82 18 23)) (qQ 82 7 17) (qQ 82 25 28) (qQ 82 7 29)) (.cons (.ret (.ite (.call 1 (.var 0 (qQ 83 48 53)) .nil (qQ 83 38 47) (qQ 83 38 54)) (.tup (.cons (.str "num" (qQ 83 16 21)) (.cons (.c1 .int (.var 0 (qQ 83 27 32)) (qQ 83 23 26) (qQ 83 23 33)) .nil)) (qQ 83 15 34)) (.tup (.cons (.str "var" (qQ 83 61 66)) (.cons (.call 17 (.var 0 (qQ 83 76 81)) .nil (qQ 83 68 75) (qQ 83 68 82)) .nil)) (qQ 83 60 83)) (qQ 83 15 83)) (qQ 83 8 83)) .nil) .nil ⟨82,4,83,83⟩) (.cons (.set 1 (.call 15 (.var 0 (qQ 84 19 24)) .nil (qQ 84 11 18) (qQ 84 11 25)) (qQ 84 4 8) (qQ 84 4 25)) (.cons (.iff (.cmp .In (.var 1 (qQ 85 7 11)) (.gcon "SIGNS" (.tup g_SIGNS) (qQ 85 15 20)) (qQ 85 7 20)) (.cons (.ret (.bin .Add (.tup (.cons (.str "op" (qQ 86 16 20)) (.cons (.var 1 (qQ 86 22 26)) .nil)) (qQ 86 15 27)) (.call 9 (.cut (.var 0 (qQ 86 37 42)) (.some (.int 1 (qQ 86 43 44))) .none (qQ 86 43 45) (qQ 86 37 46)) (.cons (.cut (.gsub "FORMS" g_FORMS (.str "op" (qQ 86 54 58)) (qQ 86 48 53) (qQ 86 48 59)) (.some (.int 1 (qQ 86 60 61))) .none (qQ 86 60 62) (qQ 86 48 63)) .nil) (qQ 86 30 36) (qQ 86 30 64)) (qQ 86 15 64)) (qQ 86 8 64)) .nil) .nil ⟨85,4,86,64⟩) (.cons (.iff (.cmp .In (.var 1 (qQ 87 7 11)) (.gcon "ALIKE" (.tup g_ALIKE) (qQ 87 15 20)) (qQ 87 7 20)) (.cons (.ret (.bin .Add (.tup (.cons (.var 1 (qQ 88 16 20)) .nil) (qQ 88 15 22)) (.call 9 (.cut (.var 0 (qQ 88 32 37)) (.some (.int 1 (qQ 88 38 39))) .none (qQ 88 38 40) (qQ 88 32 41)) (.cons (.gsub "FORMS" g_FORMS (.var 1 (qQ 88 49 53)) (qQ 88 43 48) (qQ 88 43 54)) .nil) (qQ 88 25 31) (qQ 88 25 55)) (qQ 88 15 55)) (qQ 88 8 55)) .nil) .nil ⟨87,4,88,55⟩) (.cons (.iff (.cmp .Eq (.var 1 (qQ 89 7 11)) (.str "call" (qQ 89 15 21)) (qQ 89 7 21)) (.cons (.ret (.call 12 (.cut (.var 0 (qQ 90 23 28)) (.some (.int 1 (qQ 90 29 30))) .none (qQ 90 29 31) (qQ 90 23 32)) .nil (qQ 90 15 22) (qQ 90 15 33)) (qQ 90 8 33)) .nil) .nil ⟨89,4,90,33⟩) (.cons (.iff (.cmp .Eq (.var 1 (qQ 91 7 11)) (.str "hand" (qQ 91 15 21)) (qQ 91 7 21)) (.cons (.ret (.call 13 (.cut (.var 0 (qQ 92 23 28)) (.some (.int 1 (qQ 92 29 30))) .none (qQ 92 29 31) (qQ 92 23 32)) .nil (qQ 92 15 22) (qQ 92 15 33)) (qQ 92 8 33)) .nil) .nil ⟨91,4,92,33⟩) (.cons (.rais "NoText" 1 [1,0] (.f (.c "no expression begins with " (qQ 93 19 45)) (.r 1 (qQ 93 46 50) (qQ 93 45 53)) [] (qQ 93 17 54)) (qQ 93 10 16) (qQ 93 10 55) (qQ 93 4 55)) .nil)))))))⟩
noncomputable def d_call_of:Df:=⟨"call_of",["things"],["things"],(.cons (.iff (.cmpN false (.var 0 (qQ 95 7 13)) (qQ 95 17 19) (qQ 95 7 19)) (.cons (.rais "NoText" 1 [1,0] (.s "a call with too few things" (qQ 96 21 49)) (qQ 96 14 20) (qQ 96 14 50) (qQ 96 8 50)) .nil) .nil ⟨95,4,96,50⟩) (.cons (.ret (.tup (.cons (.str "call" (qQ 97 12 18)) (.cons (.call 17 (.sub (.var 0 (qQ 97 28 34)) (.int 0 (qQ 97 35 36)) (qQ 97 28 37)) .nil (qQ 97 20 27) (qQ 97 20 38)) (.cons (.non (qQ 97 40 44)) (.cons (.call 14 (.cut (.var 0 (qQ 97 61 67)) (.some (.int 1 (qQ 97 68 69))) .none (qQ 97 68 70) (qQ 97 61 71)) .nil (qQ 97 46 60) (qQ 97 46 72)) .nil)))) (qQ 97 11 73)) (qQ 97 4 73)) .nil))⟩
noncomputable def d_hand_of:Df:=⟨"hand_of",["things"],["things"],(.cons (.iff (.cmp .Lt (.len (.var 0 (qQ 99 11 17)) (qQ 99 7 10) (qQ 99 7 18)) (.int 2 (qQ 99 21 22)) (qQ 99 7 22)) (.cons (.rais "NoText" 1 [1,0] (.s "a hand with too few things" (qQ 100 21 49)) (qQ 100 14 20) (qQ 100 14 50) (qQ 100 8 50)) .nil) .nil ⟨99,4,100,50⟩) (.cons (.ret (.tup (.cons (.str "call" (qQ 101 12 18)) (.cons (.call 17 (.sub (.var 0 (qQ 101 28 34)) (.int 0 (qQ 101 35 36)) (qQ 101 28 37)) .nil (qQ 101 20 27) (qQ 101 20 38)) (.cons (.call 17 (.sub (.var 0 (qQ 101 48 54)) (.int 1 (qQ 101 55 56)) (qQ 101 48 57)) .nil (qQ 101 40 47) (qQ 101 40 58)) (.cons (.call 14 (.cut (.var 0 (qQ 101 75 81)) (.some (.int 2 (qQ 101 82 83))) .none (qQ 101 82 84) (qQ 101 75 85)) .nil (qQ 101 60 74) (qQ 101 60 86)) .nil)))) (qQ 101 11 87)) (qQ 101 4 87)) .nil))⟩
noncomputable def e_expressions_of_1:E:=(.call 11 (.var 0 (qQ 103 32 37)) .nil (qQ 103 18 31) (qQ 103 18 38))
noncomputable def c_expressions_of_1:Es:=.nil
noncomputable def t_expressions_of_1:Tg:=(.one 0 (qQ 103 43 48))
noncomputable def s_expressions_of_1:Scope:={ kind:=PySem.ScopeKind.function,names:=[ (PySem.Str.ofString ".0",PySem.NameKind.local),(PySem.Str.ofString "thing",PySem.NameKind.local),(PySem.Str.ofString "expression_of",PySem.NameKind.globalImplicit)],isGenerator:=false,isCoroutine:=false,more:=[]:PySem.Scope }
noncomputable def d_expressions_of:Df:=⟨"expressions_of",["things"],["things"],(.cons (.ret (.tupL (.comp e_expressions_of_1 t_expressions_of_1 (.seq (.var 0 (qQ 103 52 58))) c_expressions_of_1 ["thing"] [none] s_expressions_of_1 (qQ 103 17 59)) (qQ 103 11 16) (qQ 103 11 60)) (qQ 103 4 60)) .nil)⟩
noncomputable def d_head_of:Df:=⟨"head_of",["thing"],["thing"],(.cons (.iff (.isi 2 (.var 0 (qQ 105 18 23)) (qQ 105 7 17) (qQ 105 25 28) (qQ 105 7 29)) (.cons (.rais "NoText" 1 [1,0] (.f (.r 0 (qQ 106 24 29) (qQ 106 23 32)) (.c " stands where brackets are asked" (qQ 106 32 64)) [] (qQ 106 21 65)) (qQ 106 14 20) (qQ 106 14 66) (qQ 106 8 66)) .nil) .nil ⟨105,4,106,66⟩) (.cons (.iff (.or (.cmpN false (.var 0 (qQ 107 7 12)) (qQ 107 16 18) (qQ 107 7 18)) (.un .Not (.isi 2 (.sub (.var 0 (qQ 107 37 42)) (.int 0 (qQ 107 43 44)) (qQ 107 37 45)) (qQ 107 26 36) (qQ 107 47 50) (qQ 107 26 51)) (qQ 107 22 51)) .nil (qQ 107 7 51)) (.cons (.rais "NoText" 1 [1,0] (.s "brackets that don't begin with a word" (qQ 108 21 60)) (qQ 108 14 20) (qQ 108 14 61) (qQ 108 8 61)) .nil) .nil ⟨107,4,108,61⟩) (.cons (.ret (.sub (.var 0 (qQ 109 11 16)) (.int 0 (qQ 109 17 18)) (qQ 109 11 19)) (qQ 109 4 19)) .nil)))⟩
noncomputable def e_names_of_1:E:=(.call 17 (.var 0 (qQ 113 26 30)) .nil (qQ 113 18 25) (qQ 113 18 31))
noncomputable def c_names_of_1:Es:=.nil
noncomputable def t_names_of_1:Tg:=(.one 0 (qQ 113 36 40))
noncomputable def s_names_of_1:Scope:={ kind:=PySem.ScopeKind.function,names:=[ (PySem.Str.ofString ".0",PySem.NameKind.local),(PySem.Str.ofString "part",PySem.NameKind.local),(PySem.Str.ofString "name_of",PySem.NameKind.globalImplicit)],isGenerator:=false,isCoroutine:=false,more:=[]:PySem.Scope }
noncomputable def d_names_of:Df:=⟨"names_of",["thing"],["thing"],(.cons (.iff (.isi 2 (.var 0 (qQ 111 18 23)) (qQ 111 7 17) (qQ 111 25 28) (qQ 111 7 29)) (.cons (.rais "NoText" 1 [1,0] (.f (.r 0 (qQ 112 24 29) (qQ 112 23 32)) (.c " stands where brackets are asked" (qQ 112 32 64)) [] (qQ 112 21 65)) (qQ 112 14 20) (qQ 112 14 66) (qQ 112 8 66)) .nil) .nil ⟨111,4,112,66⟩) (.cons (.ret (.tupL (.comp e_names_of_1 t_names_of_1 (.seq (.var 0 (qQ 113 44 49))) c_names_of_1 ["part"] [none] s_names_of_1 (qQ 113 17 50)) (qQ 113 11 16) (qQ 113 11 51)) (qQ 113 4 51)) .nil))⟩
noncomputable def d_name_of:Df:=⟨"name_of",["thing"],["thing"],(.cons (.iff (.un .Not (.isi 2 (.var 0 (qQ 115 22 27)) (qQ 115 11 21) (qQ 115 29 32) (qQ 115 11 33)) (qQ 115 7 33)) (.cons (.rais "NoText" 1 [1,0] (.s "brackets stand where a name is asked" (qQ 116 21 59)) (qQ 116 14 20) (qQ 116 14 60) (qQ 116 8 60)) .nil) .nil ⟨115,4,116,60⟩) (.cons (.iff (.un .Not (.call 0 (.var 0 (qQ 117 19 24)) .nil (qQ 117 11 18) (qQ 117 11 25)) (qQ 117 7 25)) (.cons (.rais "NoText" 1 [1,0] (.f (.r 0 (qQ 118 24 29) (qQ 118 23 32)) (.c " is no name" (qQ 118 32 43)) [] (qQ 118 21 44)) (qQ 118 14 20) (qQ 118 14 45) (qQ 118 8 45)) .nil) .nil ⟨117,4,118,45⟩) (.cons (.ret (.var 0 (qQ 119 11 16)) (qQ 119 4 16)) .nil)))⟩
noncomputable def d_law_cell:Df:=⟨"_law_cell",["_law_script","_law_k"],["_law_script","_law_k","_law_number"],(.cons (.set 2 (.bin .Add (.bin .Mult (.int 7919 (qQ 122 18 22)) (.var 1 (qQ 122 25 31)) (qQ 122 18 31)) (.int 5 (qQ 122 34 35)) (qQ 122 18 35)) (qQ 122 4 15) (qQ 122 4 35)) (.cons (.iff (.cmp .Gt (.len (.var 0 (qQ 123 11 22)) (qQ 123 7 10) (qQ 123 7 23)) (.int 0 (qQ 123 26 27)) (qQ 123 7 27)) (.cons (.set 2 (.bin .Add (.bin .Mult (.sub (.var 0 (qQ 124 22 33)) (.bin .Mod (.var 1 (qQ 124 34 40)) (.len (.var 0 (qQ 124 47 58)) (qQ 124 43 46) (qQ 124 43 59)) (qQ 124 34 59)) (qQ 124 22 60)) (.int 48271 (qQ 124 63 68)) (qQ 124 22 68)) (.bin .Mult (.int 7919 (qQ 124 71 75)) (.var 1 (qQ 124 78 84)) (qQ 124 71 84)) (qQ 124 22 84)) (qQ 124 8 19) (qQ 124 8 84)) .nil) .nil ⟨123,4,124,84⟩) (.cons (.set 2 (.bin .Mod (.var 2 (qQ 125 18 29)) (.int 2147483647 (qQ 125 32 42)) (qQ 125 18 42)) (qQ 125 4 15) (qQ 125 4 42)) (.cons (.ret (.bin .Mod (.bin .Mult (.var 2 (qQ 126 11 22)) (.var 2 (qQ 126 25 36)) (qQ 126 11 36)) (.int 2147483629 (qQ 126 39 49)) (qQ 126 11 49)) (qQ 126 4 49)) .nil))))⟩
noncomputable def e_law_letters_1:E:=(.sub (.str "abcdefghijklmnopqrstuvwxyz" (qQ 128 20 48)) (.bin .Mod (.call 18 (.var 2 (qQ 128 59 70)) (.cons (.bin .Add (.var 1 (qQ 128 72 79)) (.var 0 (qQ 128 82 88)) (qQ 128 72 88)) .nil) (qQ 128 49 58) (qQ 128 49 89)) (.int 26 (qQ 128 92 94)) (qQ 128 49 94)) (qQ 128 20 95))
noncomputable def c_law_letters_1:Es:=.nil
noncomputable def t_law_letters_1:Tg:=(.one 0 (qQ 128 100 106))
noncomputable def s_law_letters_1:Scope:={ kind:=PySem.ScopeKind.function,names:=[ (PySem.Str.ofString ".0",PySem.NameKind.local),(PySem.Str.ofString "_law_k",PySem.NameKind.local),(PySem.Str.ofString "_law_cell",PySem.NameKind.globalImplicit),(PySem.Str.ofString "_law_at",PySem.NameKind.free),(PySem.Str.ofString "_law_script",PySem.NameKind.free)],isGenerator:=false,isCoroutine:=false,more:=[]:PySem.Scope }
noncomputable def d_law_letters:Df:=⟨"_law_letters",["_law_script","_law_at","_law_size"],["_law_script","_law_at","_law_size"],(.cons (.ret (.join (.str "" (qQ 128 11 13)) (.ofL (.comp e_law_letters_1 t_law_letters_1 (.rng (.var 2 (qQ 128 116 125)) (qQ 128 110 115) (qQ 128 110 126)) c_law_letters_1 ["_law_k","_law_at","_law_script"] [none,some 1,some 0] s_law_letters_1 (qQ 128 19 127))) (qQ 128 11 18) (qQ 128 11 128)) (qQ 128 4 128)) .nil)⟩
noncomputable def e_law_word_1:E:=(.sub (.str "0123456789" (qQ 133 28 40)) (.bin .Mod (.call 18 (.var 1 (qQ 133 51 62)) (.cons (.bin .Add (.int 2 (qQ 133 64 65)) (.var 0 (qQ 133 68 74)) (qQ 133 64 74)) .nil) (qQ 133 41 50) (qQ 133 41 75)) (.int 10 (qQ 133 78 80)) (qQ 133 41 80)) (qQ 133 28 81))
noncomputable def c_law_word_1:Es:=.nil
noncomputable def t_law_word_1:Tg:=(.one 0 (qQ 133 86 92))
noncomputable def s_law_word_1:Scope:={ kind:=PySem.ScopeKind.function,names:=[ (PySem.Str.ofString ".0",PySem.NameKind.local),(PySem.Str.ofString "_law_k",PySem.NameKind.local),(PySem.Str.ofString "_law_cell",PySem.NameKind.globalImplicit),(PySem.Str.ofString "_law_script",PySem.NameKind.free)],isGenerator:=false,isCoroutine:=false,more:=[]:PySem.Scope }
noncomputable def d_law_word:Df:=⟨"_law_word",["_law_script"],["_law_script","_law_cell_here","_law_pick","_law_letters_here","_law_figures","_law_some","_law_odd","_law_word_here","_law_at"],(.cons (.set 1 (.call 18 (.var 0 (qQ 130 31 42)) (.cons (.int 0 (qQ 130 44 45)) .nil) (qQ 130 21 30) (qQ 130 21 46)) (qQ 130 4 18) (qQ 130 4 46)) (.cons (.set 2 (.bin .Mod (.var 1 (qQ 131 16 30)) (.int 6 (qQ 131 33 34)) (qQ 131 16 34)) (qQ 131 4 13) (qQ 131 4 34)) (.cons (.set 3 (.call 19 (.var 0 (qQ 132 37 48)) (.cons (.int 2 (qQ 132 50 51)) (.cons (.bin .Add (.int 1 (qQ 132 53 54)) (.bin .Mod (.bin .FloorDiv (.var 1 (qQ 132 57 71)) (.int 6 (qQ 132 75 76)) (qQ 132 57 76)) (.int 9 (qQ 132 79 80)) (qQ 132 57 80)) (qQ 132 53 80)) .nil)) (qQ 132 24 36) (qQ 132 24 81)) (qQ 132 4 21) (qQ 132 4 81)) (.cons (.set 4 (.join (.str "" (qQ 133 19 21)) (.ofL (.comp e_law_word_1 t_law_word_1 (.rng (.bin .Add (.int 1 (qQ 133 102 103)) (.bin .Mod (.bin .FloorDiv (.var 1 (qQ 133 106 120)) (.int 6 (qQ 133 124 125)) (qQ 133 106 125)) (.int 19 (qQ 133 128 130)) (qQ 133 106 130)) (qQ 133 102 130)) (qQ 133 96 101) (qQ 133 96 131)) c_law_word_1 ["_law_k","_law_script"] [none,some 0] s_law_word_1 (qQ 133 27 132))) (qQ 133 19 26) (qQ 133 19 133)) (qQ 133 4 16) (qQ 133 4 133)) (.cons (.iff (.cmp .Eq (.var 2 (qQ 134 7 16)) (.int 1 (qQ 134 20 21)) (qQ 134 7 21)) (.cons (.ret (.var 4 (qQ 135 15 27)) (qQ 135 8 27)) .nil) .nil ⟨134,4,135,27⟩) (.cons (.iff (.cmp .Eq (.var 2 (qQ 136 7 16)) (.int 2 (qQ 136 20 21)) (qQ 136 7 21)) (.cons (.set 5 (.ofL (.disp (.cons (.str "def" (qQ 137 21 26)) (.cons (.str "handler" (qQ 137 28 37)) (.cons (.str "on" (qQ 137 39 43)) (.cons (.str "end" (qQ 137 45 50)) (.cons (.str "let" (qQ 137 52 57)) (.cons (.str "if" (qQ 137 59 63)) (.cons (.str "call" (qQ 137 65 71)) (.cons (.str "hand" (qQ 137 73 79)) (.cons (.str "do" (qQ 137 81 85)) (.cons (.str "handle" (qQ 137 87 95)) (.cons (.str "go" (qQ 137 97 101)) (.cons (.str "guard" (qQ 137 103 110)) .nil)))))))))))) (qQ 137 20 111))) (qQ 137 8 17) (qQ 137 8 111)) (.cons (.ret (.sub (.var 5 (qQ 138 15 24)) (.bin .Mod (.bin .FloorDiv (.var 1 (qQ 138 25 39)) (.int 6 (qQ 138 43 44)) (qQ 138 25 44)) (.int 12 (qQ 138 47 49)) (qQ 138 25 49)) (qQ 138 15 50)) (qQ 138 8 50)) .nil)) .nil ⟨136,4,138,50⟩) (.cons (.iff (.cmp .Eq (.var 2 (qQ 139 7 16)) (.int 3 (qQ 139 20 21)) (qQ 139 7 21)) (.cons (.ret (.sub (.ofL (.disp (.cons (.str "+" (qQ 140 16 19)) (.cons (.str "-" (qQ 140 21 24)) (.cons (.str "*" (qQ 140 26 29)) (.cons (.str "<" (qQ 140 31 34)) (.cons (.str "+1" (qQ 140 36 40)) (.cons (.str "-1" (qQ 140 42 46)) (.cons (.str "-0" (qQ 140 48 52)) (.cons (.str "1a" (qQ 140 54 58)) (.cons (.str "a1" (qQ 140 60 64)) (.cons (.str "--" (qQ 140 66 70)) (.cons (.str "<<" (qQ 140 72 76)) (.cons (.str "+a" (qQ 140 78 82)) .nil)))))))))))) (qQ 140 15 83))) (.bin .Mod (.bin .FloorDiv (.var 1 (qQ 140 84 98)) (.int 6 (qQ 140 102 103)) (qQ 140 84 103)) (.int 12 (qQ 140 106 108)) (qQ 140 84 108)) (qQ 140 15 109)) (qQ 140 8 109)) .nil) .nil ⟨139,4,140,109⟩) (.cons (.iff (.cmp .Eq (.var 2 (qQ 141 7 16)) (.int 4 (qQ 141 20 21)) (qQ 141 7 21)) (.cons (.set 6 (.sub (.str "AZ_!#$&',./:;=>?\x40[]^{}|~\t\"`+-*<7" (qQ 142 19 55)) (.bin .Mod (.call 18 (.var 0 (qQ 142 66 77)) (.cons (.int 1 (qQ 142 79 80)) .nil) (qQ 142 56 65) (qQ 142 56 81)) (.int 32 (qQ 142 84 86)) (qQ 142 56 86)) (qQ 142 19 87)) (qQ 142 8 16) (qQ 142 8 87)) (.cons (.set 7 (.var 3 (qQ 143 25 42)) (qQ 143 8 22) (qQ 143 8 42)) (.cons (.iff (.cmp .Eq (.bin .Mod (.bin .FloorDiv (.var 1 (qQ 144 11 25)) (.int 54 (qQ 144 29 31)) (qQ 144 11 31)) (.int 2 (qQ 144 34 35)) (qQ 144 11 35)) (.int 1 (qQ 144 39 40)) (qQ 144 11 40)) (.cons (.set 7 (.var 4 (qQ 145 29 41)) (qQ 145 12 26) (qQ 145 12 41)) .nil) .nil ⟨144,8,145,41⟩) (.cons (.set 8 (.bin .Mod (.bin .FloorDiv (.call 18 (.var 0 (qQ 146 28 39)) (.cons (.int 1 (qQ 146 41 42)) .nil) (qQ 146 18 27) (qQ 146 18 43)) (.int 32 (qQ 146 47 49)) (qQ 146 18 49)) (.bin .Add (.len (.var 7 (qQ 146 57 71)) (qQ 146 53 56) (qQ 146 53 72)) (.int 1 (qQ 146 75 76)) (qQ 146 53 76)) (qQ 146 18 77)) (qQ 146 8 15) (qQ 146 8 77)) (.cons (.ret (.bin .Add (.bin .Add (.cut (.var 7 (qQ 147 15 29)) .none (.some (.var 8 (qQ 147 31 38))) (qQ 147 30 38) (qQ 147 15 39)) (.var 6 (qQ 147 42 50)) (qQ 147 15 50)) (.cut (.var 7 (qQ 147 53 67)) (.some (.var 8 (qQ 147 68 75))) .none (qQ 147 68 76) (qQ 147 53 77)) (qQ 147 15 77)) (qQ 147 8 77)) .nil))))) .nil ⟨141,4,147,77⟩) (.cons (.ret (.var 3 (qQ 148 11 28)) (qQ 148 4 28)) .nil)))))))))⟩
noncomputable def e_law_due_1:E:=(.cmp .In (.var 0 (qQ 154 43 52)) (.str "abcdefghijklmnopqrstuvwxyz" (qQ 154 56 84)) (qQ 154 43 84))
noncomputable def c_law_due_1:Es:=.nil
noncomputable def t_law_due_1:Tg:=(.one 0 (qQ 154 89 98))
noncomputable def s_law_due_1:Scope:={ kind:=PySem.ScopeKind.function,names:=[(PySem.Str.ofString ".0",PySem.NameKind.local),(PySem.Str.ofString "_law_sign",PySem.NameKind.local)],isGenerator:=false,isCoroutine:=false,more:=[]:PySem.Scope }
noncomputable def e_law_due_2:E:=(.cmp .In (.var 0 (qQ 150 12 21)) (.str "0123456789" (qQ 150 25 37)) (qQ 150 12 37))
noncomputable def c_law_due_2:Es:=.nil
noncomputable def t_law_due_2:Tg:=(.one 0 (qQ 150 42 51))
noncomputable def s_law_due_2:Scope:={ kind:=PySem.ScopeKind.function,names:=[(PySem.Str.ofString ".0",PySem.NameKind.local),(PySem.Str.ofString "_law_sign",PySem.NameKind.local)],isGenerator:=false,isCoroutine:=false,more:=[]:PySem.Scope }
noncomputable def d_law_due:Df:=⟨"_law_due",["_law_word_here"],["_law_word_here"],(.cons (.iff (.c1 .all (.ofL (.comp e_law_due_2 t_law_due_2 (.seq (.var 0 (qQ 150 55 69))) c_law_due_2 ["_law_sign"] [none] s_law_due_2 (qQ 150 11 70))) (qQ 150 7 10) (qQ 150 7 71)) (.cons (.iff (.or (.cmp .Gt (.len (.var 0 (qQ 151 15 29)) (qQ 151 11 14) (qQ 151 11 30)) (.int 18 (qQ 151 33 35)) (qQ 151 11 35)) (.and (.cmp .Eq (.sub (.var 0 (qQ 151 40 54)) (.int 0 (qQ 151 55 56)) (qQ 151 40 57)) (.str "0" (qQ 151 61 64)) (qQ 151 40 64)) (.cmp .Gt (.len (.var 0 (qQ 151 73 87)) (qQ 151 69 72) (qQ 151 69 88)) (.int 1 (qQ 151 91 92)) (qQ 151 69 92)) .nil (qQ 151 40 92)) .nil (qQ 151 11 93)) (.cons (.ret (.non (qQ 152 19 23)) (qQ 152 12 23)) .nil) .nil ⟨151,8,152,23⟩) (.cons (.ret (.tup (.cons (.str "num" (qQ 153 16 21)) (.cons (.c1 .int (.var 0 (qQ 153 27 41)) (qQ 153 23 26) (qQ 153 23 42)) .nil)) (qQ 153 15 43)) (qQ 153 8 43)) .nil)) .nil ⟨150,4,153,43⟩) (.cons (.iff (.or (.cmp .Gt (.len (.var 0 (qQ 154 11 25)) (qQ 154 7 10) (qQ 154 7 26)) (.int 8 (qQ 154 29 30)) (qQ 154 7 30)) (.un .Not (.c1 .all (.ofL (.comp e_law_due_1 t_law_due_1 (.seq (.var 0 (qQ 154 102 116))) c_law_due_1 ["_law_sign"] [none] s_law_due_1 (qQ 154 42 117))) (qQ 154 38 41) (qQ 154 38 118)) (qQ 154 34 118)) .nil (qQ 154 7 118)) (.cons (.ret (.non (qQ 155 15 19)) (qQ 155 8 19)) .nil) .nil ⟨154,4,155,19⟩) (.cons (.iff (.cmp .In (.var 0 (qQ 156 7 21)) (.ofL (.disp (.cons (.str "def" (qQ 156 26 31)) (.cons (.str "handler" (qQ 156 33 42)) (.cons (.str "on" (qQ 156 44 48)) (.cons (.str "end" (qQ 156 50 55)) (.cons (.str "let" (qQ 156 57 62)) (.cons (.str "if" (qQ 156 64 68)) (.cons (.str "call" (qQ 156 70 76)) (.cons (.str "hand" (qQ 156 78 84)) (.cons (.str "do" (qQ 156 86 90)) (.cons (.str "handle" (qQ 156 92 100)) (.cons (.str "go" (qQ 156 102 106)) (.cons (.str "guard" (qQ 156 108 115)) .nil)))))))))))) (qQ 156 25 116))) (qQ 156 7 116)) (.cons (.ret (.non (qQ 157 15 19)) (qQ 157 8 19)) .nil) .nil ⟨156,4,157,19⟩) (.cons (.ret (.tup (.cons (.str "var" (qQ 158 12 17)) (.cons (.var 0 (qQ 158 19 33)) .nil)) (qQ 158 11 34)) (qQ 158 4 34)) .nil))))⟩
noncomputable def e_law_alike_1:E:=(.call 22 (.var 0 (qQ 163 31 37)) (.cons (.var 1 (qQ 163 39 45)) .nil) (qQ 163 20 30) (qQ 163 20 46))
noncomputable def c_law_alike_1:Es:=.nil
noncomputable def t_law_alike_1:Tg:=(.tup [(0,(qQ 163 51 57)),(1,(qQ 163 59 65))] (qQ 163 51 65))
noncomputable def s_law_alike_1:Scope:={ kind:=PySem.ScopeKind.function,names:=[ (PySem.Str.ofString ".0",PySem.NameKind.local),(PySem.Str.ofString "_law_a",PySem.NameKind.local),(PySem.Str.ofString "_law_b",PySem.NameKind.local),(PySem.Str.ofString "_law_alike",PySem.NameKind.globalImplicit)],isGenerator:=false,isCoroutine:=false,more:=[]:PySem.Scope }
noncomputable def d_law_alike:Df:=⟨"_law_alike",["_law_found","_law_due_here"],["_law_found","_law_due_here"],(.cons (.iff (.isi 3 (.var 1 (qQ 160 18 31)) (qQ 160 7 17) (qQ 160 33 38) (qQ 160 7 39)) (.cons (.iff (.or (.un .Not (.isi 3 (.var 0 (qQ 161 26 36)) (qQ 161 15 25) (qQ 161 38 43) (qQ 161 15 44)) (qQ 161 11 44)) (.cmp .NotEq (.len (.var 0 (qQ 161 52 62)) (qQ 161 48 51) (qQ 161 48 63)) (.len (.var 1 (qQ 161 71 84)) (qQ 161 67 70) (qQ 161 67 85)) (qQ 161 48 85)) .nil (qQ 161 11 85)) (.cons (.ret (.bl false (qQ 162 19 24)) (qQ 162 12 24)) .nil) .nil ⟨161,8,162,24⟩) (.cons (.ret (.c1 .all (.ofL (.comp e_law_alike_1 t_law_alike_1 (.zip (.var 0 (qQ 163 73 83)) (.var 1 (qQ 163 85 98)) (qQ 163 69 72) (qQ 163 69 99)) c_law_alike_1 ["_law_a","_law_b"] [none,none] s_law_alike_1 (qQ 163 19 100))) (qQ 163 15 18) (qQ 163 15 101)) (qQ 163 8 101)) .nil)) .nil ⟨160,4,163,101⟩) (.cons (.iff (.isi 2 (.var 1 (qQ 164 18 31)) (qQ 164 7 17) (qQ 164 33 36) (qQ 164 7 37)) (.cons (.ret (.and (.isi 2 (.var 0 (qQ 165 26 36)) (qQ 165 15 25) (qQ 165 38 41) (qQ 165 15 42)) (.cmp .Eq (.var 0 (qQ 165 47 57)) (.var 1 (qQ 165 61 74)) (qQ 165 47 74)) .nil (qQ 165 15 74)) (qQ 165 8 74)) .nil) .nil ⟨164,4,165,74⟩) (.cons (.iff (.cmp .Is (.var 1 (qQ 166 7 20)) (.non (qQ 166 24 28)) (qQ 166 7 28)) (.cons (.ret (.cmp .Is (.var 0 (qQ 167 15 25)) (.non (qQ 167 29 33)) (qQ 167 15 33)) (qQ 167 8 33)) .nil) .nil ⟨166,4,167,33⟩) (.cons (.ret (.and (.isi 0 (.var 0 (qQ 168 22 32)) (qQ 168 11 21) (qQ 168 34 37) (qQ 168 11 38)) (.un .Not (.isi 1 (.var 0 (qQ 168 59 69)) (qQ 168 48 58) (qQ 168 71 75) (qQ 168 48 76)) (qQ 168 44 76)) (.cons (.cmp .Eq (.var 0 (qQ 168 83 93)) (.var 1 (qQ 168 97 110)) (qQ 168 83 110)) .nil) (qQ 168 11 111)) (qQ 168 4 111)) .nil))))⟩
noncomputable def d_law_name:Df:=⟨"_law_name",["_law_script"],["_law_script","_law_cell_here","_law_name_here"],(.cons (.set 1 (.bin .FloorDiv (.call 18 (.var 0 (qQ 170 31 42)) (.cons (.int 1 (qQ 170 44 45)) .nil) (qQ 170 21 30) (qQ 170 21 46)) (.int 1056 (qQ 170 50 54)) (qQ 170 21 54)) (qQ 170 4 18) (qQ 170 4 54)) (.cons (.set 2 (.call 19 (.var 0 (qQ 171 34 45)) (.cons (.int 22 (qQ 171 47 49)) (.cons (.bin .Add (.int 1 (qQ 171 51 52)) (.bin .Mod (.var 1 (qQ 171 55 69)) (.int 8 (qQ 171 72 73)) (qQ 171 55 73)) (qQ 171 51 73)) .nil)) (qQ 171 21 33) (qQ 171 21 74)) (qQ 171 4 18) (qQ 171 4 74)) (.cons (.iff (.cmp .Is (.call 21 (.var 2 (qQ 172 16 30)) .nil (qQ 172 7 15) (qQ 172 7 31)) (.non (qQ 172 35 39)) (qQ 172 7 39)) (.cons (.ret (.bin .Add (.var 2 (qQ 173 15 29)) (.str "z" (qQ 173 32 35)) (qQ 173 15 35)) (qQ 173 8 35)) .nil) .nil ⟨172,4,173,35⟩) (.cons (.ret (.var 2 (qQ 174 11 25)) (qQ 174 4 25)) .nil))))⟩
noncomputable def d_law_refused:Df:=⟨"_law_refused",["_law_text"],["_law_text","_law_given","e"],(.cons (.set 1 (.bl false (qQ 176 17 22)) (qQ 176 4 14) (qQ 176 4 22)) (.cons (.tryA (.cons (.ex (.call 2 (.var 0 (qQ 178 13 22)) .nil (qQ 178 8 12) (qQ 178 8 23)) (qQ 178 8 23)) .nil) "WrightError" 0 [0] [("WrightError",0,[0]),("NoText",1,[1,0]),("NoName",2,[2,0])] 2 1 (.and ⟨false,"NoText",some 1,(qQ 180 32 33),(qQ 180 21 31),(qQ 180 35 41),(qQ 180 21 42),(qQ 180 21 42)⟩ ⟨false,"ValueError",none,(qQ 180 58 59),(qQ 180 47 57),(qQ 180 61 71),(qQ 180 47 72),(qQ 180 47 72)⟩ [⟨true,"NoName",some 2,(qQ 180 93 94),(qQ 180 82 92),(qQ 180 96 102),(qQ 180 82 103),(qQ 180 78 103)⟩] (qQ 180 21 104)) (qQ 179 11 22) (qQ 180 8 18) (qQ 180 8 104) ⟨179,4,180,104⟩ ⟨177,4,180,104⟩) (.cons (.ret (.var 1 (qQ 181 11 21)) (qQ 181 4 21)) .nil)))⟩
noncomputable def d_law:Df:=⟨"law",["_law_script"],["_law_script","_law_word_here","_law_name_here","_law_space","_law_text","_law_due_here","_law_found"],(.cons (.set 1 (.call 20 (.var 0 (qQ 183 31 42)) .nil (qQ 183 21 30) (qQ 183 21 43)) (qQ 183 4 18) (qQ 183 4 43)) (.cons (.set 2 (.call 23 (.var 0 (qQ 184 31 42)) .nil (qQ 184 21 30) (qQ 184 21 43)) (qQ 184 4 18) (qQ 184 4 43)) (.cons (.set 3 (.sub (.ofL (.disp (.cons (.str "" (qQ 185 18 20)) (.cons (.str " " (qQ 185 22 25)) (.cons (.str "\n" (qQ 185 27 31)) (.cons (.str "  \n " (qQ 185 33 40)) .nil)))) (qQ 185 17 41))) (.bin .Mod (.call 18 (.var 0 (qQ 185 52 63)) (.cons (.int 30 (qQ 185 65 67)) .nil) (qQ 185 42 51) (qQ 185 42 68)) (.int 4 (qQ 185 71 72)) (qQ 185 42 72)) (qQ 185 17 73)) (qQ 185 4 14) (qQ 185 4 73)) (.cons (.set 4 (.bin .Add (.bin .Add (.bin .Add (.bin .Add (.bin .Add (.bin .Add (.bin .Add (.bin .Add (.str "(def " (qQ 186 16 23)) (.var 2 (qQ 186 26 40)) (qQ 186 16 40)) (.str " ()" (qQ 186 43 48)) (qQ 186 16 48)) (.var 3 (qQ 186 51 61)) (qQ 186 16 61)) (.str " " (qQ 186 64 67)) (qQ 186 16 67)) (.var 1 (qQ 186 70 84)) (qQ 186 16 84)) (.var 3 (qQ 186 87 97)) (qQ 186 16 97)) (.str ")" (qQ 186 100 103)) (qQ 186 16 103)) (.var 3 (qQ 186 106 116)) (qQ 186 16 116)) (qQ 186 4 13) (qQ 186 4 116)) (.cons (.set 5 (.call 21 (.var 1 (qQ 187 29 43)) .nil (qQ 187 20 28) (qQ 187 20 44)) (qQ 187 4 17) (qQ 187 4 44)) (.cons (.iff (.cmp .Is (.var 5 (qQ 188 7 20)) (.non (qQ 188 24 28)) (qQ 188 7 28)) (.cons (.ret (.call 24 (.var 4 (qQ 189 28 37)) .nil (qQ 189 15 27) (qQ 189 15 38)) (qQ 189 8 38)) .nil) .nil ⟨188,4,189,38⟩) (.cons (.set 6 (.non (qQ 190 17 21)) (qQ 190 4 14) (qQ 190 4 21)) (.cons (.tryS (.cons (.set 6 (.call 2 (.var 4 (qQ 192 26 35)) .nil (qQ 192 21 25) (qQ 192 21 36)) (qQ 192 8 18) (qQ 192 8 36)) .nil) "WrightError" 0 [0] [("WrightError",0,[0]),("NoText",1,[1,0]),("NoName",2,[2,0])] 6 none (qQ 193 11 22) (qQ 194 8 18) (qQ 194 21 25) (qQ 194 8 25) ⟨193,4,194,25⟩ ⟨191,4,194,25⟩) (.cons (.ret (.call 22 (.var 6 (qQ 195 22 32)) (.cons (.tup (.cons (.tup (.cons (.str "def" (qQ 195 36 41)) (.cons (.var 2 (qQ 195 43 57)) (.cons (.tup .nil (qQ 195 59 61)) (.cons (.non (qQ 195 63 67)) (.cons (.var 5 (qQ 195 69 82)) .nil))))) (qQ 195 35 83)) .nil) (qQ 195 34 85)) .nil) (qQ 195 11 21) (qQ 195 11 86)) (qQ 195 4 86)) .nil)))))))))⟩
noncomputable def defs:List Df:=[d_is_name,d_is_number,d_read,d_words_of,d_nested,d_item_of,d_function_of,d_handler_of,d_headed,d_formed,d_read_as,d_expression_of,d_call_of,d_hand_of,d_expressions_of,d_head_of,d_names_of,d_name_of,d_law_cell,d_law_letters,d_law_word,d_law_due,d_law_alike,d_law_name,d_law_refused,d_law]
end K11
set_option Elab.async false
set_option linter.all false
set_option maxRecDepth 100000
set_option maxHeartbeats 4000000
namespace K11
open PySem L2 PI
noncomputable def bodyOf:S->Ss
  | .iff _ a _ _=>a
  | _=>.nil
noncomputable def headS:Ss->S
  | .cons s _=>s
  | .nil=>.ret (.non ⟨0,0,0,0⟩) ⟨0,0,0,0⟩
section
variable {cl:Nat->List D->Hh->Res D}
theorem t_not {e:E} {ρ:En} {h h':Hh} {p:Pos} {b:Bool} (q:e.evT cl ρ h=.ok b h'):E.evT cl (.un .Not e p) ρ h=.ok (!b) h':=bnd (x:=.bl (!b)) (bnd (evT_bl q) rfl) rfl
theorem ite_t {c a b:E} {p:Pos} {ρ:En} {h h':Hh} {o:Res D} (hc:c.evT cl ρ h=.ok true h') (k:a.ev cl ρ h'=o):E.ev cl (.ite c a b p) ρ h=o:=bnd (evT_bl hc) k
theorem ite_f {c a b:E} {p:Pos} {ρ:En} {h h':Hh} {o:Res D} (hc:c.evT cl ρ h=.ok false h') (k:b.ev cl ρ h'=o):E.ev cl (.ite c a b p) ρ h=o:=bnd (evT_bl hc) k
theorem es_c {e:E} {r:Es} {ρ:En} {h h' h2:Hh} {x:D} {xs:List D} (a:e.ev cl ρ h=.ok x h') (b:r.ev cl ρ h'=.ok xs h2):(Es.cons e r).ev cl ρ h=.ok (x :: xs) h2:=bnd a (bnd b rfl)
theorem tup_s {es:Es} {p:Pos} {ρ:En} {h h':Hh} {xs:List D} (a:es.ev cl ρ h=.ok xs h') (l:xs.length<=1000):E.ev cl (.tup es p) ρ h=.ok (.tup xs) h':=bnd a (if_pos l)
theorem call_1 {i:Nat} {a:E} {p p1:Pos} {ρ:En} {h h':Hh} {x:D} {o:Res D} (e:a.ev cl ρ h=.ok x h') (k:cl i [x] h'=o):E.ev cl (.call i a .nil p p1) ρ h=o:=bnd e k
theorem call_2 {i:Nat} {a b:E} {p p1:Pos} {ρ:En} {h h' h2:Hh} {x y:D} {o:Res D} (e:a.ev cl ρ h=.ok x h') (g:b.ev cl ρ h'=.ok y h2) (k:cl i [x,y] h2=o):E.ev cl (.call i a (.cons b .nil) p p1) ρ h=o:=bnd e (bnd (es_c g rfl) k)
theorem call_3 {i:Nat} {a b c:E} {p p1:Pos} {ρ:En} {h h' h2 h3:Hh} {x y z:D} {o:Res D} (e:a.ev cl ρ h=.ok x h') (g:b.ev cl ρ h'=.ok y h2) (g2:c.ev cl ρ h2=.ok z h3) (k:cl i [x,y,z] h3=o):E.ev cl (.call i a (.cons b (.cons c .nil)) p p1) ρ h=o:=bnd e (bnd (es_c g (es_c g2 rfl)) k)
theorem sub_l {n k:Nat} {xs:List D} {d:D} {h:Hh} (g:h[n]?=some (.lst xs)) (e:xs[k]?=some d):subD (.loc n) (.int (k:Nat)) h=.ok d h:=by
  unfold subD
  dsimp only
  rw [g]
  dsimp only
  rw [PI.atI_nat,e]
theorem len_l {n:Nat} {xs:List D} {h:Hh} (g:h[n]?=some (.lst xs)):lenD (.loc n) h=.ok (.int (xs.length:Nat)) h:=by
  unfold lenD; dsimp only; rw [rd_of g]
theorem fd_ev {i:Nat} {ρ:En} {h:Hh} {v k:Int} {p p1 p2:Pos} (q:ρ[i]?=some (some (.int v))) (hk:0 < k /\ k < 1073741824):E.ev cl (.bin .FloorDiv (.var i p) (.int k p1) p2) ρ h=.ok (.int (v / k)) h:=bnd (x:=.int v) (by rw [vvar,q]) (bnd rfl (fdk hk))
theorem md_ev {i:Nat} {ρ:En} {h:Hh} {v k m:Int} {p p1 p2 p3 p4:Pos} (q:ρ[i]?=some (some (.int v))) (hk:0 < k /\ k < 1073741824) (hm:0 < m):E.ev cl (.bin .Mod (.bin .FloorDiv (.var i p) (.int k p1) p2) (.int m p3) p4) ρ h=.ok (.int (v / k % m)) h:=bnd (fd_ev q hk) (bnd rfl (mdk hm))
theorem t_ei {e:E} {ρ:En} {h h':Hh} {x k:Int} {b:Bool} {p p1:Pos} (q:e.ev cl ρ h=.ok (.int x) h') (hb:(x == k)=b):E.evT cl (.cmp .Eq e (.int k p) p1) ρ h=.ok b h':=t_cmp q rfl (by rw [eqI,hb])
theorem beq_t {x k:Int} (h:x=k):(x == k)=true:=by rw [h]; exact beq_self_eq_true k
theorem beq_f {x k:Int} (h:x ≠ k):(x == k)=false:=beq_false_of_ne h
end
end K11
set_option Elab.async false
set_option linter.all false
set_option maxRecDepth 100000
set_option maxHeartbeats 4000000
namespace K11
open PySem L2 PI
noncomputable def Kd.heads:Kd->List Str
  | .num _ | .var _=>[]
  | .op s=>[s]
  | .lett x=>["let",x]
  | .ite=>["if"]
  | .call f none=>["call",f]
  | .call f (some g)=>["hand",f,g]
  | .doo d=>["do",d]
  | .handle h=>["handle",h]
  | .go=>["go"]
  | .guard=>["guard"]
noncomputable def Kd.leaf:Kd->Option Str
  | .num n=>some (Str.ofString (toString n))
  | .var x=>some x
  | _=>none
noncomputable def brk (ts:List (List Nat)):List Nat:=40 :: (sepL [32] ts ++ [41])
noncomputable def Kd.tx (k:Kd) (ts:List (List Nat)):List Nat:=match Kd.leaf k with
  | some x=>cs x
  | none=>brk ((Kd.heads k).map cs ++ ts)
mutual
noncomputable def tx:G->List Nat
  | .nd k ps=>Kd.tx k (txs ps)
noncomputable def txs:List G->List (List Nat)
  | []=>[]
  | g :: r=>tx g :: txs r
end
mutual
noncomputable def ms:G->Nat
  | .nd _ ps=>10 + mss ps
noncomputable def mss:List G->Nat
  | []=>0
  | g :: r=>ms g + 2 + mss r
end
noncomputable def low (l:List Nat):Prop:=∀ c ∈ l,97<=c /\ c<=122
noncomputable def resW:List Str:=["def","handler","on","end","let","if","call","hand","do","handle","go","guard"]
structure Nm (x:Str):Prop where
  lo:low (cs x)
  ne:cs x ≠ []
  le:(cs x).length<=8
  nr:resW.any (fun y=>y == x)=false
theorem Nm.wd {x:Str} (h:Nm x):Wd x:=⟨h.ne,Nat.le_trans h.le (by decide),fun c hc=>by have:=h.lo c hc; omega⟩
noncomputable def Sg (s:Str):Prop:=s="+" \/ s="-" \/ s="*" \/ s="<"
noncomputable def Kd.wd (k:Kd) (n:Nat):Prop:=match k with
  | .num m=>0<=m /\ m < 1000000000000000000 /\ n=0
  | .var x=>Nm x /\ n=0
  | .op s=>Sg s
  | .lett x=>Nm x
  | .ite=>True
  | .call f g=>Nm f /\ ∀ x,g=some x->Nm x
  | .doo d=>Nm d
  | .handle h=>Nm h
  | .go=>True
  | .guard=>True
mutual
noncomputable def wdG:G->Prop
  | .nd k ps=>Kd.wd k ps.length /\ wdGs ps
noncomputable def wdGs:List G->Prop
  | []=>True
  | g :: r=>wdG g /\ wdGs r
end
end K11
set_option Elab.async false
set_option linter.all false
set_option maxRecDepth 100000
set_option maxHeartbeats 4000000
namespace K11
open PySem L2 PI
noncomputable def hdD (ws:List Str) (g:G):D:=.tup (ws.map .str ++ [g.d])
inductive Itm where
  | fn (f:Str) (ps:List Str) (b:Option Str) (g:G)
  | hd (n:Str) (cl:List (List Str × G)) (e:List Str × G)
noncomputable def Itm.d:Itm->D
  | .fn f ps b g=>.tup [.str "def",.str f,.tup (ps.map .str),optD b,g.d]
  | .hd n cl e=>.tup [.str "handler",.str n,.tup (cl.map fun q=>hdD q.1 q.2),hdD e.1 e.2]
noncomputable def okQ (q:List Str × G) (n:Nat):Prop:=(∀ x ∈ q.1,Nm x) /\ q.1.length=n /\ wdG q.2 /\ ms q.2<=9000
noncomputable def Itm.wd:Itm->Prop
  | .fn f ps b g=>Nm f /\ (∀ x ∈ ps,Nm x) /\ ps.length<=8 /\ (∀ x,b=some x->Nm x) /\ wdG g /\ ms g<=9000
  | .hd n cl e=>Nm n /\ (∀ q ∈ cl,okQ q 3) /\ cl.length<=2 /\ okQ e 2
theorem wd_def:Wd "def":=wd_of (by decide)
theorem compL_fn {α:Type} {c:Ck} {f:D->Hh->Res (Option D)} (en out:α->D) (P:Hh->Prop) (R:Hh->Hh->Prop) (rr:∀ h,R h h) (rt:∀ a b d,R a b->R b d->R a d) (st:∀ h,P h->stay c h):∀ (xs:List α) (acc:List D) (h:Hh),P h->(∀ x ∈ xs,∀ h,P h->∃ h',f (en x) h=.ok (some (out x)) h' /\ P h' /\ R h h') ->
    ∃ h',compL c f (xs.map en) acc h=.ok (acc ++ xs.map out) h' /\ P h' /\ R h h'
  | [],acc,h,hp,_=>⟨h,by simp [compL,st h hp],hp,rr h⟩
  | x :: r,acc,h,hp,hf=>by
    obtain ⟨h1,e1,p1,r1⟩:=hf x (List.mem_cons_self ..) h hp
    obtain ⟨h2,e2,p2,r2⟩:=compL_fn en out P R rr rt st r (acc ++ [out x]) h1 p1 fun y hy=>hf y (List.mem_cons_of_mem _ hy)
    refine ⟨h2,?_,p2,rt _ _ _ r1 r2⟩
    rw [List.map_cons]
    unfold compL
    rw [if_pos (st h hp),e1,bind_ok,addO_some,e2]
    simp
noncomputable def Gr (h h':Hh):Prop:=∃ J,h'=h ++ J
theorem Gr.refl (h:Hh):Gr h h:=⟨[],by simp⟩
theorem Gr.trans (a b d:Hh) (x:Gr a b) (y:Gr b d):Gr a d:=by obtain ⟨J,rfl⟩:=x; obtain ⟨K,rfl⟩:=y; exact ⟨J ++ K,by simp⟩
theorem so_def:PyData.strOk "def"=true:=wd_def.ok
end K11
set_option Elab.async false
set_option linter.all false
set_option maxRecDepth 100000
set_option maxHeartbeats 4000000
namespace K11
open PySem L2 PI
inductive Th where
  | w (x:Str)
  | l (ts:List Th)
mutual
noncomputable def Th.ws:Th->List Str
  | .w x=>[x]
  | .l ts=>"(" :: (Th.wss ts ++ [(")":Str)])
noncomputable def Th.wss:List Th->List Str
  | []=>[]
  | t :: r=>t.ws ++ Th.wss r
end
mutual
noncomputable def Th.dp:Th->Nat
  | .w _=>0
  | .l ts=>1 + Th.dps ts
noncomputable def Th.dps:List Th->Nat
  | []=>0
  | t :: r=>max t.dp (Th.dps r)
end
mutual
noncomputable def Th.sz:Th->Nat
  | .w _=>0
  | .l ts=>1 + Th.szs ts
noncomputable def Th.szs:List Th->Nat
  | []=>0
  | t :: r=>t.sz + Th.szs r
end
noncomputable def Th.v:Th->Nat->D
  | .w x,_=>.str x
  | .l _,b=>.loc b
noncomputable def Th.vs:List Th->Nat->List D
  | [],_=>[]
  | t :: r,b=>t.v b :: Th.vs r (b + t.sz)
mutual
noncomputable def Th.ap:Th->Nat->Hh
  | .w _,_=>[]
  | .l ts,b=>.lst (Th.vs ts (b + 1)) :: Th.aps ts (b + 1)
noncomputable def Th.aps:List Th->Nat->Hh
  | [],_=>[]
  | t :: r,b=>t.ap b ++ Th.aps r (b + t.sz)
end
mutual
theorem ap_len:∀ (t:Th) (b:Nat),(t.ap b).length=t.sz
  | .w _,b=>by rw [Th.ap,Th.sz]; rfl
  | .l ts,b=>by rw [Th.ap,Th.sz,List.length_cons,aps_len ts]; omega
theorem aps_len:∀ (ts:List Th) (b:Nat),(Th.aps ts b).length=Th.szs ts
  | [],b=>by rw [Th.aps,Th.szs]; rfl
  | t :: r,b=>by rw [Th.aps,Th.szs,List.length_append,ap_len t,aps_len r]
end
mutual
noncomputable def At (h:Hh):Th->D->Prop
  | .w x,d=>d=.str x
  | .l ts,d=>∃ n ds,d=.loc n /\ h[n]?=some (.lst ds) /\ Ats h ts ds
noncomputable def Ats (h:Hh):List Th->List D->Prop
  | [],ds=>ds=[]
  | t :: r,ds=>∃ e es,ds=e :: es /\ At h t e /\ Ats h r es
end
noncomputable def Has (h:Hh) (b:Nat) (L:Hh):Prop:=∀ k o,L[k]?=some o->h[b + k]?=some o
theorem has_left {h:Hh} {b:Nat} {L M:Hh} (q:Has h b (L ++ M)):Has h b L:=fun k o e=>q k o (get_old e)
theorem has_right {h:Hh} {b n:Nat} {L M:Hh} (q:Has h b (L ++ M)) (e:L.length=n):Has h (b + n) M:=fun k o g=>by
  have:=q (L.length + k) o (by rw [hx]; exact g)
  rw [<- e,Nat.add_assoc]; exact this
mutual
theorem at_of {h:Hh}:∀ (t:Th) (b:Nat),Has h b (t.ap b)->At h t (t.v b)
  | .w x,b,_=>by rw [At]; rfl
  | .l ts,b,q=>by
    rw [Th.ap] at q
    rw [At]
    refine ⟨b,Th.vs ts (b + 1),rfl,q 0 _ rfl,ats_of ts (b + 1) ?_⟩
    exact has_right (L:=[O.lst (Th.vs ts (b + 1))]) q rfl
theorem ats_of {h:Hh}:∀ (ts:List Th) (b:Nat),Has h b (Th.aps ts b)->Ats h ts (Th.vs ts b)
  | [],b,_=>by rw [Ats]; rfl
  | t :: r,b,q=>by
    rw [Th.aps] at q
    rw [Ats]
    exact ⟨t.v b,Th.vs r (b + t.sz),rfl,at_of t b (has_left q),ats_of r (b + t.sz) (has_right q (ap_len t b))⟩
end
mutual
theorem At.gr {h J:Hh}:∀ {t:Th} {d:D},At h t d->At (h ++ J) t d
  | .w x,d,q=>by rw [At] at q ⊢; exact q
  | .l ts,d,q=>by
    rw [At] at q ⊢
    obtain ⟨n,ds,e,g,a⟩:=q
    exact ⟨n,ds,e,get_old g,Ats.gr a⟩
theorem Ats.gr {h J:Hh}:∀ {ts:List Th} {ds:List D},Ats h ts ds->Ats (h ++ J) ts ds
  | [],d,q=>by rw [Ats] at q ⊢; exact q
  | t :: r,d,q=>by
    rw [Ats] at q ⊢
    obtain ⟨e,es,g,a,b⟩:=q
    exact ⟨e,es,g,At.gr a,Ats.gr b⟩
end
structure Pw (x:Str):Prop where
  ok:PyData.strOk x=true
  o:(x == ("(":Str))=false
  c:(x == (")":Str))=false
mutual
noncomputable def Th.ok:Th->Prop
  | .w x=>Pw x
  | .l ts=>Th.oks ts
noncomputable def Th.oks:List Th->Prop
  | []=>True
  | t :: r=>t.ok /\ Th.oks r
end
section
variable (cl:Nat->List D->Hh->Res D)
noncomputable abbrev env (nw na ni:Nat) (x y:Option D):En:=[some (.loc nw),some (.loc na),some (D.loc ni),x,y]
noncomputable abbrev nsF:D->En->Hh->RS:=stepF t_nested_1 fun ρ' h'=>b_nested_1.run cl ρ' h'
theorem so_o:PyData.strOk "("=true:=by decide +kernel
theorem so_c:PyData.strOk ")"=true:=by decide +kernel
variable {cl}
theorem app_at {i j:Nat} {p0 p1 p2 p3:Pos} {ρ:En} {h:Hh} {n:Nat} {d:D} {ds:List D} (ei:ρ[i]?=some (some (.loc n))) (ej:ρ[j]?=some (some d)) (g:h[n]?=some (.lst ds)) (hl:ds.length < 1000000) :
    E.ev cl (.m1 .append (.var i p0) (.var j p1) p2 p3) ρ h=.ok .non (h.set n (.lst (ds ++ [d]))):=by
  rw [vm1,vvar,ei]
  show onL (.loc n) h _=_
  rw [on_lst g,vvar,ej]
  show m1D .append (.loc n) d h=_
  unfold m1D
  dsimp only
  rw [g]
  exact if_pos hl
theorem st_w {nw na ni:Nat} {x y:Option D} {h:Hh} {w:Str} {ds:List D} (p:Pw w) (g:h[ni]?=some (.lst ds)) (hl:ds.length < 1000000) :
    nsF cl (.str w) (env nw na ni x y) h=.nx (env nw na ni (some (.str w)) y) (h.set ni (.lst (ds ++ [.str w]))) :=
  iff_e (t_cmp rfl rfl (by rw [eqS p.ok so_o,p.o])) (iff_e (t_cmp rfl rfl (by rw [eqS p.ok so_c,p.c])) (ex_s (app_at rfl rfl g hl) rfl) rfl) rfl
theorem st_o {nw na ni:Nat} {x y:Option D} {h:Hh} {st:List D} (g:h[na]?=some (.lst st)) (hl:st.length < 24) :
    nsF cl (.str "(") (env nw na ni x y) h=.nx (env nw na h.length (some (.str "(")) y) (h.set na (.lst (st ++ [.loc ni])) ++ [.lst []]):=by
  have e:(h.set na (O.lst (st ++ [.loc ni]))).length=h.length:=List.length_set ..
  have q:nsF cl (.str "(") (env nw na ni x y) h=.nx (env nw na (h.set na (O.lst (st ++ [.loc ni]))).length (some (.str "(")) y) (h.set na (.lst (st ++ [.loc ni])) ++ [.lst []]) :=
    iff_n (t_cmp rfl rfl (eqS so_o so_o)) (iff_f (t_cmp (bnd rfl (by show lenD (.loc na) h=.ok (.int st.length) h; unfold lenD; dsimp only; rw [rd_of g])) rfl (by rw [eqI]; congr 2; exact decide_eq_false (by omega))) (ex_s (app_at rfl rfl g (by omega)) (set_s rfl rfl))) rfl
  rw [q,e]
theorem st_c {nw na ni nj:Nat} {x y:Option D} {h:Hh} {st ds:List D} (g:h[na]?=some (.lst (st ++ [.loc nj]))) (gj:h[nj]?=some (.lst ds)) (hn:nj ≠ na) (hl:ds.length < 1000000) :
    nsF cl (.str ")") (env nw na ni x y) h=.nx (env nw na nj (some (.str ")")) (some (D.loc ni))) ((h.set na (.lst st)).set nj (.lst (ds ++ [.loc ni]))) :=
  iff_e (t_cmp rfl rfl (eqS so_c so_o)) (iff_n (t_cmp rfl rfl (eqS so_c so_c)) (iff_f (h':=h) (bnd (bnd rfl (by show nilD false (.loc na) h=.ok (.bl false) h; unfold nilD; dsimp only; rw [rd_of g]; simp)) rfl) (set_s rfl (set_s (d:=.loc nj) (h':=h.set na (.lst st)) (bnd rfl (by
    show m0D .pop (.loc na) h=_
    unfold m0D
    dsimp only
    rw [g]
    simp)) (ex_s (app_at rfl rfl (by rw [List.getElem?_set_ne (Ne.symm hn)]; exact gj) hl) rfl)))) rfl) rfl
theorem stay_at {nw:Nat} {all:List D} {h:Hh} (g:h[nw]?=some (.lst all)):stay [(nw,all)] h:=stay_one.mpr (rd_of g)
mutual
theorem nest_t {nw:Nat} {all:List D}:∀ (t:Th) (na ni:Nat) (st ds:List D) (x y:Option D) (h:Hh) (rest:List D),t.ok->h[nw]?=some (.lst all)->h[na]?=some (.lst st)->h[ni]?=some (.lst ds)->nw ≠ na->nw ≠ ni->na ≠ ni->st.length + t.dp<=24->ds.length + t.ws.length<=1000000 ->
    ∃ x' y',forL [(nw,all)] (nsF cl) (t.ws.map D.str ++ rest) (env nw na ni x y) h=forL [(nw,all)] (nsF cl) rest (env nw na ni x' y') (h.set ni (.lst (ds ++ [t.v h.length])) ++ t.ap h.length)
  | .w w,na,ni,st,ds,x,y,h,rest,ok,gw,ga,gi,n1,n2,n3,hd,hl=>by
    rw [Th.ok] at ok
    rw [Th.ws] at hl ⊢
    rw [Th.ap,List.append_nil]
    exact ⟨_,_,for_n (stay_at gw) (st_w ok gi (by simp at hl; omega)) rfl⟩
  | .l ts,na,ni,st,ds,x,y,h,rest,ok,gw,ga,gi,n1,n2,n3,hd,hl=>by
    rw [Th.ok] at ok
    rw [Th.ws] at hl ⊢
    rw [Th.dp] at hd
    simp only [List.length_cons,List.length_append,List.length_nil] at hl
    have la:na < h.length:=(List.getElem?_eq_some_iff.mp ga).1
    have li:ni < h.length:=(List.getElem?_eq_some_iff.mp gi).1
    have lw:nw < h.length:=(List.getElem?_eq_some_iff.mp gw).1
    have lh:(h.set na (O.lst (st ++ [D.loc ni]))).length=h.length:=List.length_set ..
    obtain ⟨x',y',e⟩:=nest_ts ts na h.length (st ++ [D.loc ni]) [] (some (.str "(")) y (h.set na (.lst (st ++ [D.loc ni])) ++ [O.lst []]) (.str ")" :: rest) ok
      (get_old (by rw [List.getElem?_set_ne (Ne.symm n1)]; exact gw)) (get_old (List.getElem?_set_self la)) (by rw [<- lh,hx0]; rfl) n1 (by omega) (by omega) (by rw [List.length_append]; simp only [List.length_cons,List.length_nil]; omega) (by simp only [List.length_nil]; omega)
    have l1:(h.set na (O.lst (st ++ [D.loc ni])) ++ [O.lst []]).length=h.length + 1:=by rw [List.length_append,lh]; rfl
    have s1:(h.set na (O.lst (st ++ [D.loc ni])) ++ [O.lst []]).set h.length (O.lst ([] ++ Th.vs ts (h.length + 1)))=h.set na (O.lst (st ++ [D.loc ni])) ++ [O.lst (Th.vs ts (h.length + 1))]:=by
      have:=hset0 (h.set na (O.lst (st ++ [D.loc ni]))) [O.lst []] (O.lst ([] ++ Th.vs ts (h.length + 1)))
      rw [lh] at this
      rw [this]; rfl
    rw [l1,s1,List.append_assoc] at e
    refine ⟨some (.str ")"),some (.loc h.length),?_⟩
    rw [List.map_cons,List.map_append,List.cons_append,List.append_assoc]
    refine for_n (stay_at gw) (st_o ga (by omega)) (e.trans ?_)
    have gw2:(h.set na (O.lst (st ++ [D.loc ni])) ++ ([O.lst (Th.vs ts (h.length + 1))] ++ Th.aps ts (h.length + 1)))[nw]?=some (.lst all):=get_old (by rw [List.getElem?_set_ne (Ne.symm n1)]; exact gw)
    refine for_n (stay_at gw2) (st_c (get_old (List.getElem?_set_self la)) (get_old (by rw [List.getElem?_set_ne n3]; exact gi)) (Ne.symm n3) (by omega)) ?_
    rw [List.set_append_left _ _ (by rw [lh]; exact la),List.set_set,set_same ga,List.set_append_left _ _ li,Th.ap]
    rfl
theorem nest_ts {nw:Nat} {all:List D}:∀ (ts:List Th) (na ni:Nat) (st ds:List D) (x y:Option D) (h:Hh) (rest:List D),Th.oks ts->h[nw]?=some (.lst all)->h[na]?=some (.lst st)->h[ni]?=some (.lst ds)->nw ≠ na->nw ≠ ni->na ≠ ni->st.length + Th.dps ts<=24->ds.length + (Th.wss ts).length<=1000000 ->
    ∃ x' y',forL [(nw,all)] (nsF cl) ((Th.wss ts).map D.str ++ rest) (env nw na ni x y) h=forL [(nw,all)] (nsF cl) rest (env nw na ni x' y') (h.set ni (.lst (ds ++ Th.vs ts h.length)) ++ Th.aps ts h.length)
  | [],na,ni,st,ds,x,y,h,rest,ok,gw,ga,gi,n1,n2,n3,hd,hl=>by
    refine ⟨x,y,?_⟩
    rw [Th.wss,Th.vs,Th.aps,List.append_nil,List.append_nil,set_same gi]
    rfl
  | t :: r,na,ni,st,ds,x,y,h,rest,ok,gw,ga,gi,n1,n2,n3,hd,hl=>by
    rw [Th.oks] at ok
    rw [Th.wss] at hl ⊢
    rw [Th.dps] at hd
    rw [List.length_append] at hl
    have li:ni < h.length:=(List.getElem?_eq_some_iff.mp gi).1
    have lh:(h.set ni (O.lst (ds ++ [t.v h.length]))).length=h.length:=List.length_set ..
    have lt:1<=t.ws.length:=by cases t <;> simp [Th.ws]
    obtain ⟨x1,y1,e1⟩:=nest_t t na ni st ds x y h ((Th.wss r).map D.str ++ rest) ok.1 gw ga gi n1 n2 n3 (by omega) (by omega)
    obtain ⟨x2,y2,e2⟩:=nest_ts r na ni st (ds ++ [t.v h.length]) x1 y1 (h.set ni (.lst (ds ++ [t.v h.length])) ++ t.ap h.length) rest ok.2
      (get_old (by rw [List.getElem?_set_ne (Ne.symm n2)]; exact gw)) (get_old (by rw [List.getElem?_set_ne (Ne.symm n3)]; exact ga)) (get_old (List.getElem?_set_self li)) n1 n2 n3 (by omega) (by rw [List.length_append]; simp only [List.length_cons,List.length_nil]; omega)
    refine ⟨x2,y2,?_⟩
    rw [List.map_append,List.append_assoc,e1,e2,List.length_append,lh,ap_len,List.set_append_left _ _ (by rw [lh]; exact li),List.set_set,Th.vs,Th.aps,List.append_assoc,List.append_assoc]
    rfl
end
theorem r_nested (nw:Nat) (ts:List Th) (h:Hh) (g:h[nw]?=some (.lst ((Th.wss ts).map D.str))) (ok:Th.oks ts) (hd:Th.dps ts<=24) (hl:(Th.wss ts).length<=1000000) :
    ∃ m ds J,d_nested.run cl [.loc nw] h=.ok (.loc m) (h ++ J) /\ (h ++ J)[m]?=some (.lst ds) /\ Ats (h ++ J) ts ds:=by
  have lw:nw < h.length:=(List.getElem?_eq_some_iff.mp g).1
  have g2:(h ++ [O.lst [],O.lst []])[nw]?=some (O.lst ((Th.wss ts).map D.str)):=get_old g
  have ga:(h ++ [O.lst [],O.lst []])[h.length]?=some (O.lst []):=by rw [hx0]; rfl
  have gi:(h ++ [O.lst [],O.lst []])[h.length + 1]?=some (O.lst []):=by rw [hx]; rfl
  obtain ⟨x',y',e⟩:=nest_ts (cl:=cl) ts h.length (h.length + 1) [] [] none none (h ++ [O.lst [],O.lst []]) [] ok g2 ga gi (by omega) (by omega) (by omega) (by simpa using hd) (by simpa using hl)
  have s1:(h ++ [O.lst [],O.lst []]).set (h.length + 1) (O.lst ([] ++ Th.vs ts (h ++ [O.lst [],O.lst []]).length))=h ++ [O.lst [],O.lst (Th.vs ts (h.length + 2))]:=by rw [hset,List.length_append]; rfl
  rw [List.append_nil,s1,List.append_assoc,List.length_append] at e
  have e':forL [(nw,(Th.wss ts).map D.str)] (nsF cl) ((Th.wss ts).map D.str) (env nw h.length (h.length + 1) none none) (h ++ [O.lst [],O.lst []])=.nx (env nw h.length (h.length + 1) x' y') (h ++ ([O.lst [],O.lst (Th.vs ts (h.length + 2))] ++ Th.aps ts (h.length + 2))):=by
    rw [e]
    exact if_pos (stay_at (get_old g))
  refine ⟨h.length + 1,Th.vs ts (h.length + 2),[O.lst [],O.lst (Th.vs ts (h.length + 2))] ++ Th.aps ts (h.length + 2),?_,?_,?_⟩
  · have e1:(h ++ [O.lst []]).length=h.length + 1:=List.length_append ..
    have s:Ss.run cl d_nested.body [some (.loc nw),none,none,none,none] h=.rt (.loc (h.length + 1)) (h ++ ([O.lst [],O.lst (Th.vs ts (h.length + 2))] ++ Th.aps ts (h.length + 2))):=by
      refine set_s (d:=.loc h.length) (h':=h ++ [O.lst []]) rfl (set_s (d:=.loc (h.length + 1)) (h':=h ++ [O.lst [],O.lst []]) ?_ (forr_s (seq_loc rfl (rd_of g2)) e' (iff_f (h':=h ++ ([O.lst [],O.lst (Th.vs ts (h.length + 2))] ++ Th.aps ts (h.length + 2))) ?_ (ret_r rfl))))
      · show Res.ok (D.loc (h ++ [O.lst []]).length) (h ++ [O.lst []] ++ [O.lst []])=_
        rw [e1,List.append_assoc]; rfl
      · refine bnd (x:=.bl false) (bnd rfl ?_) rfl
        show nilD true (.loc h.length) _=_
        unfold nilD
        dsimp only
        rw [rd_of (show (h ++ ([O.lst [],O.lst (Th.vs ts (h.length + 2))] ++ Th.aps ts (h.length + 2)))[h.length]?=some (O.lst []) by rw [hx0]; rfl)]
        rfl
    exact out_rt s
  · rw [hx]; rfl
  · refine ats_of ts (h.length + 2) fun k o q=>?_
    rw [Nat.add_assoc,hx,Nat.add_comm 2 k]
    exact q
end
end K11
set_option Elab.async false
set_option linter.all false
namespace K11
open PySem L2 PI
structure NumW (n:Int) (x:Str):Prop where
  dg:∀ c ∈ cs x,48<=c /\ c<=57
  ne:cs x ≠ []
  le:(cs x).length<=18
  z:(cs x)[0]?=some 48->x="0"
  rd:PySem.intText? x=some n
end K11
set_option Elab.async false
set_option linter.all false
set_option maxRecDepth 100000
set_option maxHeartbeats 4000000
namespace K11
open PySem L2 PI
section
variable {cl:Nat->List D->Hh->Res D}
noncomputable def sgIn (z:Str) (c:Nat):Bool:=!(Builtin.Str.occurrences z ⟨#[c]⟩ 0 z.length 1).isEmpty
theorem comp_sg {f:D->Hh->Res (Option D)} {b:Nat->Bool} {h:Hh}:∀ (L:List Nat) (acc:List D),(∀ c,f (.str ⟨#[c]⟩) h=.ok (some (.bl (b c))) h)->compL [] f (L.map fun c=>.str ⟨#[c]⟩) acc h=.ok (acc ++ (L.map b).map D.bl) h
  | [],acc,_=>by rw [List.map_nil,compL,if_pos stay_nil]; simp
  | c :: r,acc,hf=>by
    rw [List.map_cons,compL,if_pos stay_nil,hf c,bind_ok,addO_some,comp_sg r _ hf]
    simp
theorem all_in {x z nm:Str} {ns:List Str} {sc:Scope} {p0 p1 p2 p3 p4 p5 p6 p7:Pos} {h:Hh} (hl:(cs x).length<=1000000) :
    E.ev cl (.c1 .all (.ofL (.comp (.cmp .In (.var 0 p0) (.gcon nm (.str z) p1) p2) (.one 0 p3) (.seq (.var 0 p4)) .nil ns [none] sc p5)) p6 p7) [some (.str x)] h=.ok (.bl ((cs x).all (sgIn z))) (h ++ [.lst (((cs x).map (sgIn z)).map D.bl)]):=by
  have e:=comp_sg (f:=compF (.one 0 p3) (capE [none] [some (.str x)]) (fun ρ' h2=>Es.nil.evC cl ρ' h2) (fun ρ' h2=>(E.cmp .In (.var 0 p0) (.gcon nm (.str z) p1) p2).ev cl ρ' h2)) (b:=sgIn z) (h:=h) (cs x) [] (fun c=>rfl)
  refine bnd (ofL_comp (q:=([],(cs x).map fun c=>.str ⟨#[c]⟩)) rfl (by simpa using hl) e) ?_
  show c1D .all (.loc h.length) _=_
  unfold c1D
  dsimp only
  rw [rdx0,List.nil_append]
  show (match (some (((cs x).map (sgIn z)).map D.bl)).bind blsOf with | some bs=>Res.ok (D.bl (bs.all id)) _ | none=>.no)=_
  rw [Option.bind_some,bls_map]
  simp only [List.all_map]
  rfl
noncomputable def letS:Str:="abcdefghijklmnopqrstuvwxyz"
noncomputable def figS:Str:="0123456789"
theorem in_let {c:Nat} (h:97<=c /\ c<=122):sgIn letS c=true:=by
  have:∀ k < 26,sgIn letS (97 + k)=true:=by decide +kernel
  have:=this (c - 97) (by omega)
  rwa [show 97 + (c - 97)=c by omega] at this
theorem out_fig {c:Nat} (h:97<=c /\ c<=122):sgIn figS c=false:=by
  have:∀ k < 26,sgIn figS (97 + k)=false:=by decide +kernel
  have:=this (c - 97) (by omega)
  rwa [show 97 + (c - 97)=c by omega] at this
theorem so_e:PyData.strOk ""=true:=by decide +kernel
theorem so_z:PyData.strOk "0"=true:=by decide +kernel
theorem ne_e {x:Str} (h:cs x ≠ []):(x == ("":Str))=false:=str_ne h
theorem len_s {x:Str} {h:Hh} (hl:(cs x).length<=18):lenD (.str x) h=.ok (.int ((cs x).length:Nat)) h:=by
  unfold lenD
  dsimp only
  rw [if_pos (by rw [cs_len]; omega),cs_len]
theorem in_words {x:Str} {h:Hh} (q:resW.any (fun y=>y == x)=false):inD false (.str x) (.tup (g_WORDS.map .str)) h=.ok (.bl false) h:=by
  show inXs false (.str x) (g_WORDS.map .str) h=_
  unfold inXs
  have:((g_WORDS.map D.str).any fun y=>eqV (vOf y) (vOf (.str x)))=resW.any (fun y=>y == x):=by rw [List.any_map]; rfl
  rw [this,q,if_pos ⟨rfl,by rw [List.all_map]; rfl⟩]
  rfl
theorem r_is_name {x:Str} (m:Nm x) (h:Hh):∃ J,d_is_name.run cl [.str x] h=.ok (.bl true) (h ++ J):=by
  have l8:=m.le
  refine ⟨[.lst (((cs x).map (sgIn letS)).map D.bl)],out_rt (iff_f (h':=h) (t_or3 (t_cmp rfl rfl (by rw [eqS m.wd.ok so_e,ne_e m.ne])) (t_cmp (bnd rfl (len_s (by omega))) rfl (by rw [cmp_gt]; congr 2; exact decide_eq_false (by omega))) (t_cmp rfl rfl (in_words m.nr))) (ret_r ((all_in (z:=letS) (by omega)).trans ?_)))⟩
  rw [List.all_eq_true.mpr fun c hc=>in_let (m.lo c hc)]
theorem so_1 {c:Nat} (h:c < 1114112):PyData.strOk ⟨#[c]⟩=true:=ok_mk (l:=[c]) (by simpa using h)
noncomputable def IsName (cl:Nat->List D->Hh->Res D):Prop:=∀ x h,Nm x->∃ J,cl 0 [.str x] h=.ok (.bl true) (h ++ J)
noncomputable def IsNumber (cl:Nat->List D->Hh->Res D):Prop:=(∀ n x h,NumW n x->∃ J,cl 1 [.str x] h=.ok (.bl true) (h ++ J)) /\ (∀ x h,Nm x->∃ J,cl 1 [.str x] h=.ok (.bl false) (h ++ J))
noncomputable def NameOf (cl:Nat->List D->Hh->Res D):Prop:=∀ x h,Nm x->∃ J,cl 17 [.str x] h=.ok (.str x) (h ++ J)
theorem r_name_of (C:IsName cl) {x:Str} (m:Nm x) (h:Hh):∃ J,d_name_of.run cl [.str x] h=.ok (.str x) (h ++ J):=by
  obtain ⟨J,e⟩:=C x h m
  exact ⟨J,out_rt (iff_f (h':=h) (t_not (b:=true) (bnd (x:=.bl true) (bnd rfl rfl) rfl)) (iff_f (h':=h ++ J) (t_not (b:=true) (bnd (x:=.bl true) (bnd rfl (bnd rfl e)) rfl)) (ret_r rfl)))⟩
theorem r_head_of {n:Nat} {w:Str} {r:List D} {h:Hh} (g:h[n]?=some (.lst (.str w :: r))):d_head_of.run cl [.loc n] h=.ok (.str w) h:=by
  have s0:subD (.loc n) (.int 0) h=.ok (.str w) h:=by
    unfold subD
    dsimp only
    rw [g]
    dsimp only
    rw [show atI (D.str w :: r) 0=some (.str w) from PI.atI_nat (k:=0)]
  refine out_rt (iff_f (h':=h) (bnd (x:=.bl false) (bnd rfl ?_) rfl) (iff_f (h':=h) (t_or (bnd (x:=.bl false) (bnd rfl ?_) rfl) (t_not (b:=true) (bnd (x:=.bl true) (bnd (bnd rfl (bnd rfl s0)) rfl) rfl))) (ret_r (bnd rfl (bnd rfl s0)))))
  · show (match isI h (.loc n) 2 with | some b=>Res.ok (D.bl b) h | none=>.no)=_
    unfold isI
    dsimp only
    rw [rd_of g]
    rfl
  · show nilD false (.loc n) h=_
    unfold nilD
    dsimp only
    rw [rd_of g]
    rfl
theorem r_names_of (C:NameOf cl) {n:Nat} {ps:List Str} {h:Hh} (g:h[n]?=some (.lst (ps.map D.str))) (m:∀ x ∈ ps,Nm x) (hl:ps.length<=1000):∃ J,d_names_of.run cl [.loc n] h=.ok (.tup (ps.map D.str)) (h ++ J):=by
  obtain ⟨h',e,_,J,rfl⟩:=compL_fn (c:=[(n,ps.map D.str)]) (f:=compF t_names_of_1 (capE [none] [some (.loc n)]) (fun ρ' h2=>c_names_of_1.evC cl ρ' h2) (fun ρ' h2=>e_names_of_1.ev cl ρ' h2)) D.str D.str (fun h=>rd h n=some (ps.map D.str)) Gr Gr.refl Gr.trans (fun h q=>stay_one.mpr q) ps [] h (rd_of g) (by
    intro x hx h q
    obtain ⟨J,e⟩:=C x h (m x hx)
    exact ⟨h ++ J,compF_t rfl rfl (bnd rfl (bnd rfl e)),rd_old q,J,rfl⟩)
  refine ⟨J,out_rt (iff_f (h':=h) (bnd (x:=.bl false) (bnd rfl ?_) rfl) (ret_r (bnd (bnd (seq_loc rfl (rd_of g)) ((if_pos (show (ps.map D.str).length<=1000000 by simp; omega)).trans e)) rfl)))⟩
  show (match isI h (.loc n) 2 with | some b=>Res.ok (D.bl b) h | none=>.no)=_
  unfold isI
  dsimp only
  rw [rd_of g]
  rfl
end
end K11
set_option Elab.async false
set_option linter.all false
set_option maxRecDepth 100000
set_option maxHeartbeats 4000000
namespace K11
open PySem L2 PI
mutual
noncomputable def th:G->Th
  | .nd k ps=>match Kd.leaf k with
    | some x=>.w x
    | none=>.l ((Kd.heads k).map .w ++ ths ps)
noncomputable def ths:List G->List Th
  | []=>[]
  | g :: r=>th g :: ths r
end
inductive Sl where
  | nm (x:Str)
  | pt (g:G)
noncomputable def Sl.th:Sl->Th
  | .nm x=>.w x
  | .pt g=>K11.th g
noncomputable def Sl.d:Sl->D
  | .nm x=>.str x
  | .pt g=>g.d
noncomputable def Sl.kd:Sl->Str
  | .nm _=>"name"
  | .pt _=>"part"
theorem ats_len {h:Hh}:∀ {ts:List Th} {ds:List D},Ats h ts ds->ds.length=ts.length
  | [],ds,q=>by rw [Ats] at q; rw [q]; rfl
  | t :: r,ds,q=>by
    rw [Ats] at q
    obtain ⟨e,es,rfl,_,b⟩:=q
    rw [List.length_cons,List.length_cons,ats_len b]
section
variable {cl:Nat->List D->Hh->Res D}
theorem zip_snd {α:Type}:∀ (xs:List α) (ds:List D),ds.length=xs.length->List.zipWith (fun _ d=>d) xs ds=ds
  | [],[],_=>rfl
  | x :: r,d :: s,e=>by rw [List.zipWith_cons_cons,zip_snd r s (by simpa using e)]
theorem cut_l {n k:Nat} {xs:List D} {h:Hh} (g:h[n]?=some (.lst xs)):cutD (.loc n) (some (k:Nat)) none h=.ok (.loc h.length) (h ++ [.lst (xs.drop k)]):=by
  have e:cutXs xs (some (k:Nat)) none=xs.drop k:=by
    unfold cutXs
    rw [sIx_some _ _ _ (by omega),sIx_none,Int.toNat_natCast]
    by_cases q:k<=xs.length
    · rw [Nat.min_eq_left q,List.take_of_length_le (by rw [List.length_drop]; omega)]
    · rw [Nat.min_eq_right (by omega),Nat.sub_self,List.take_zero,List.drop_eq_nil_of_le (by omega)]
  unfold cutD
  dsimp only
  rw [rd_of g]
  dsimp only
  rw [e]
  rfl
theorem isi_l {i n:Nat} {xs:List D} {ρ:En} {h:Hh} {p p1 p2 p3:Pos} (ei:ρ[i]?=some (some (.loc n))) (g:h[n]?=some (.lst xs)):E.evT cl (.isi 2 (.var i p) p1 p2 p3) ρ h=.ok false h:=by
  refine bnd (x:=.bl false) (bnd (x:=.loc n) (by rw [vvar,ei]) ?_) rfl
  show (match isI h (.loc n) 2 with | some b=>Res.ok (D.bl b) h | none=>.no)=_
  unfold isI
  dsimp only
  rw [rd_of g]
  rfl
theorem in_t {x:Str} {ys:List Str} {b:Bool} {h:Hh} (q:ys.any (fun y=>y == x)=b):inD false (.str x) (.tup (ys.map .str)) h=.ok (.bl b) h:=by
  show inXs false (.str x) (ys.map .str) h=_
  unfold inXs
  have:((ys.map D.str).any fun y=>eqV (vOf y) (vOf (.str x)))=ys.any (fun y=>y == x):=by rw [List.any_map]; rfl
  rw [this,q,if_pos ⟨rfl,by rw [List.all_map]; simp [flatD]⟩]
  rfl
noncomputable def FormAt (cl:Nat->List D->Hh->Res D) (sl:List Sl):Prop:=∀ h n ds,h[n]?=some (.lst ds)->Ats h (sl.map Sl.th) ds->∃ J,cl 9 [.loc n,.tup (sl.map fun s=>.str s.kd)] h=.ok (.tup (sl.map Sl.d)) (h ++ J)
theorem so_name:PyData.strOk "name"=true:=by decide +kernel
theorem so_part:PyData.strOk "part"=true:=by decide +kernel
end
end K11
set_option Elab.async false
set_option linter.all false
set_option maxRecDepth 100000
set_option maxHeartbeats 4000000
namespace K11
open PySem L2 PI
section
variable {cl:Nat->List D->Hh->Res D}
noncomputable def HeadOf (cl:Nat->List D->Hh->Res D):Prop:=∀ n w r h,h[n]?=some (.lst (.str w :: r))->cl 15 [.loc n] h=.ok (.str w) h
theorem add_t {a b:E} {ρ:En} {h h' h2:Hh} {p:Pos} {xs ys:List D} (ea:a.ev cl ρ h=.ok (.tup xs) h') (eb:b.ev cl ρ h'=.ok (.tup ys) h2) (hl:xs.length + ys.length<=1000000):E.ev cl (.bin .Add a b p) ρ h=.ok (.tup (xs ++ ys)) h2:=bnd ea (bnd eb (if_pos hl))
theorem so_hand:PyData.strOk "hand"=true:=by decide +kernel
structure ExC (cl:Nat->List D->Hh->Res D) (ps:List G):Prop where
  hd:HeadOf cl
  nb:IsNumber cl
  nm:NameOf cl
  fo:∀ sl:List Sl,(∀ s ∈ sl,match s with | .nm x=>Nm x | .pt g=>g ∈ ps)->sl.length<=3->FormAt cl sl
  ca:∀ f,Nm f->∀ h n ds,h[n]?=some (.lst (.str f :: ds))->Ats h (ths ps) ds->∃ J,cl 12 [.loc n] h=.ok (G.nd (.call f none) ps).d (h ++ J)
  ha:∀ f f2,Nm f->Nm f2->∀ h n ds,h[n]?=some (.lst (.str f :: .str f2 :: ds))->Ats h (ths ps) ds->∃ J,cl 13 [.loc n] h=.ok (G.nd (.call f (some f2)) ps).d (h ++ J)
end
end K11
set_option Elab.async false
set_option linter.all false
set_option maxRecDepth 100000
set_option maxHeartbeats 4000000
namespace K11
open PySem L2 PI
noncomputable def thQ (w:Str) (q:List Str × G):Th:=.l (.w w :: (q.1.map .w ++ [th q.2]))
theorem ats_1 {h:Hh} {t:Th} {ds:List D} (q:Ats h [t] ds):∃ d,ds=[d] /\ At h t d:=by
  rw [Ats] at q
  obtain ⟨e,es,rfl,q1,q2⟩:=q
  rw [Ats] at q2
  exact ⟨e,by rw [q2],q1⟩
section
variable {cl:Nat->List D->Hh->Res D}
noncomputable def NamesAt (cl:Nat->List D->Hh->Res D):Prop:=∀ (n:Nat) (ps:List Str) (h:Hh),h[n]?=some (.lst (ps.map D.str))->(∀ x ∈ ps,Nm x)->ps.length<=1000->∃ J,cl 16 [.loc n] h=.ok (.tup (ps.map D.str)) (h ++ J)
theorem sub_m {n:Nat} {xs:List D} {d:D} {h:Hh} (g:h[n]?=some (.lst (xs ++ [d]))):subD (.loc n) (.int (-1)) h=.ok d h:=by
  unfold subD
  dsimp only
  rw [g]
  dsimp only
  have:atI (xs ++ [d]) (-1)=some d:=by
    unfold atI ixN
    rw [if_neg (by decide),if_pos (by simp; omega),Option.bind_some]
    have:((-1:Int) + ((xs ++ [d]).length:Nat)).toNat=xs.length:=by simp; omega
    rw [this]; simp
  rw [this]
end
end K11
set_option Elab.async false
set_option linter.all false
set_option maxRecDepth 100000
set_option maxHeartbeats 4000000
namespace K11
open PySem L2 PI
noncomputable def Itm.hw:Itm->Str
  | .fn ..=>"def"
  | .hd ..=>"handler"
noncomputable def Itm.tl:Itm->List Th
  | .fn f ps b g=>.w f :: .l (ps.map .w) :: (b.toList.map .w ++ [th g])
  | .hd n qs e=>.w n :: (qs.map (thQ "on") ++ [thQ "end" e])
noncomputable def Itm.fx:Itm->Nat
  | .fn ..=>6
  | .hd ..=>7
section
variable {cl:Nat->List D->Hh->Res D}
noncomputable def NestedAt (cl:Nat->List D->Hh->Res D) (ts:List Th):Prop:=∀ nw h,h[nw]?=some (.lst ((Th.wss ts).map D.str))->∃ m ds J,cl 4 [.loc nw] h=.ok (.loc m) (h ++ J) /\ (h ++ J)[m]?=some (.lst ds) /\ Ats (h ++ J) ts ds
end
end K11
set_option Elab.async false
set_option linter.all false
set_option maxRecDepth 100000
set_option maxHeartbeats 4000000
namespace K11
open PySem L2 PI
noncomputable def fl (cur:List Nat):List (List Nat):=if cur=[] then [] else [cur]
noncomputable def w1:List Nat->List Nat->List (List Nat)
  | cur,[]=>fl cur
  | cur,c :: r=>if c=32 then fl cur ++ w1 [] r else w1 (cur ++ [c]) r
theorem w1_part:∀ (p cur L:List Nat),32 ∉ p->w1 cur (p ++ L)=w1 (cur ++ p) L
  | [],cur,L,_=>by simp
  | c :: r,cur,L,h=>by
    rw [List.mem_cons,not_or] at h
    rw [List.cons_append,w1,if_neg (fun e=>h.1 e.symm),w1_part r _ L h.2,List.append_assoc]; rfl
theorem w1_sep:∀ (ps:List (List Nat)) (cur:List Nat),(∀ p ∈ ps,32 ∉ p)->w1 cur (sepL [32] ps)=match ps with | []=>fl cur | p :: r=>fl (cur ++ p) ++ r.filter (fun q=>decide (q ≠ []))
  | [],cur,_=>by rw [sepL,w1]
  | [p],cur,h=>by
    rw [sepL]
    have:=w1_part p cur [] (h p (List.mem_singleton.mpr rfl))
    rw [List.append_nil] at this
    rw [this,w1]; simp
  | p :: q :: r,cur,h=>by
    rw [sepL,List.append_assoc,w1_part p cur _ (h p (List.mem_cons_self ..)),List.singleton_append,w1,if_pos rfl,w1_sep (q :: r) [] fun x hx=>h x (List.mem_cons_of_mem _ hx)]
    simp only [List.nil_append,List.filter_cons]
    unfold fl
    by_cases e:q=[] <;> simp [e]
noncomputable def sg (c:Nat):List Nat:=if c=10 then [32] else if c=40 then [32,40,32] else if c=41 then [32,41,32] else [c]
noncomputable def Sn (T:List Nat):List Nat:=T.flatMap sg
theorem Sn_app (a b:List Nat):Sn (a ++ b)=Sn a ++ Sn b:=List.flatMap_append ..
theorem Sn_plain:∀ w:List Nat,(∀ c ∈ w,c ≠ 10 /\ c ≠ 40 /\ c ≠ 41)->Sn w=w
  | [],_=>rfl
  | c :: r,h=>by
    have hc:=h c (List.mem_cons_self ..)
    show sg c ++ Sn r=_
    rw [Sn_plain r fun x hx=>h x (List.mem_cons_of_mem _ hx),sg,if_neg hc.1,if_neg hc.2.1,if_neg hc.2.2]; rfl
noncomputable def Sp (s:List Nat):Prop:=∀ c ∈ s,c=32 \/ c=10
theorem w1_sp:∀ (s cur L:List Nat),Sp s->w1 cur (Sn s ++ L)=if s=[] then w1 cur L else fl cur ++ w1 [] L
  | [],cur,L,_=>rfl
  | c :: r,cur,L,h=>by
    have e:sg c=[32]:=by rcases h c (List.mem_cons_self ..) with rfl | rfl <;> rfl
    have ih:=w1_sp r [] L fun x hx=>h x (List.mem_cons_of_mem _ hx)
    show w1 cur (sg c ++ Sn r ++ L)=_
    have z:(if r=[] then w1 [] L else fl [] ++ w1 [] L)=w1 [] L:=by split <;> simp [fl]
    rw [e,List.append_assoc,List.singleton_append,w1,if_pos rfl,ih,z,if_neg (List.cons_ne_nil c r)]
structure Wq (w:List Nat):Prop where
  ne:w ≠ []
  le:w.length<=30
  ch:∀ c ∈ w,c ≠ 10 /\ c ≠ 32 /\ c ≠ 40 /\ c ≠ 41 /\ c < 1114112
noncomputable def Br (w:List Nat):Prop:=w=[40] \/ w=[41]
structure Inv (T:List Nat) (ws:List (List Nat)) (cur:List Nat):Prop where
  ex:∃ acc,ws=acc ++ fl cur /\ ∀ L,w1 [] (Sn T ++ L)=acc ++ w1 cur L
theorem inv_start {s:List Nat} (h:Sp s):Inv s [] []:=⟨[],rfl,fun L=>by rw [w1_sp s [] L h]; split <;> simp [fl]⟩
theorem inv_end {T:List Nat} {ws:List (List Nat)} {cur:List Nat} (h:Inv T ws cur):w1 [] (Sn T)=ws:=by
  obtain ⟨acc,e,q⟩:=h.ex
  have:=q []
  rw [List.append_nil,w1] at this
  rw [this,e]
theorem inv_br {T:List Nat} {ws:List (List Nat)} {cur w s:List Nat} (h:Inv T ws cur) (b:Br w) (hs:Sp s):Inv (T ++ w ++ s) (ws ++ [w]) []:=by
  obtain ⟨acc,e,q⟩:=h.ex
  refine ⟨ws ++ [w],by simp [fl],fun L=>?_⟩
  have hw:∀ L,w1 cur (Sn w ++ L)=fl cur ++ [w] ++ w1 [] L:=by
    intro L
    rcases b with rfl | rfl
    · show w1 cur (32 :: 40 :: 32 :: L)=_
      simp [w1,fl]
    · show w1 cur (32 :: 41 :: 32 :: L)=_
      simp [w1,fl]
  rw [Sn_app,Sn_app,List.append_assoc,List.append_assoc,q,hw,w1_sp s [] L hs,e]
  split <;> simp [fl]
theorem inv_w {T:List Nat} {ws:List (List Nat)} {w s:List Nat} (h:Inv T ws []) (b:Wq w) (hs:Sp s):Inv (T ++ w ++ s) (ws ++ [w]) (if s=[] then w else []):=by
  obtain ⟨acc,e,q⟩:=h.ex
  have e0:ws=acc:=by rw [e]; simp [fl]
  have hw:∀ L,w1 [] (Sn w ++ L)=w1 w L:=by
    intro L
    rw [Sn_plain w fun c hc=>⟨(b.ch c hc).1,(b.ch c hc).2.2.1,(b.ch c hc).2.2.2.1⟩,w1_part w [] L fun hm=>(b.ch 32 hm).2.1 rfl,List.nil_append]
  have fw:fl w=[w]:=if_neg b.ne
  by_cases z:s=[]
  · subst z
    rw [if_pos rfl]
    refine ⟨acc,by rw [e0,fw],fun L=>?_⟩
    rw [List.append_nil,Sn_app,List.append_assoc,q,hw]
  · rw [if_neg z]
    refine ⟨acc ++ [w],by rw [e0]; simp [fl],fun L=>?_⟩
    rw [Sn_app,Sn_app,List.append_assoc,List.append_assoc,q,hw,w1_sp s w L hs,if_neg z,fw,List.append_assoc]
theorem Sn_le (T:List Nat):T.length<=(Sn T).length:=by
  induction T with
  | nil=>exact Nat.le_refl 0
  | cons c r ih =>
    show r.length + 1<=(sg c ++ Sn r).length
    have:1<=(sg c).length:=by unfold sg; split <;> (try split) <;> (try split) <;> simp
    rw [List.length_append]; omega
end K11
set_option Elab.async false
set_option linter.all false
set_option maxHeartbeats 4000000
namespace K11
open PySem L2 PI Builtin Builtin.Str
theorem flat_free (c:Nat) (d:List Nat):∀ p:List Nat,c ∉ p->(p.flatMap fun a=>if a=c then d else [a])=p
  | [],_=>rfl
  | a :: r,h=>by
    rw [List.mem_cons,not_or] at h
    rw [List.flatMap_cons,flat_free c d r h.2,if_neg (fun e=>h.1 e.symm)]; rfl
theorem sep_flat (c:Nat) (d:List Nat):∀ ps:List (List Nat),(∀ p ∈ ps,c ∉ p)->((sepL [c] ps).flatMap fun a=>if a=c then d else [a])=sepL d ps
  | [],_=>rfl
  | [p],h=>flat_free c d p (h p (List.mem_singleton.mpr rfl))
  | p :: q :: r,h=>by
    rw [sepL,sepL,List.flatMap_append,List.flatMap_append,flat_free c d p (h p (List.mem_cons_self ..)),sep_flat c d (q :: r) fun x hx=>h x (List.mem_cons_of_mem _ hx)]
    simp
theorem parts_cs (x:Str) (c:Nat):∀ p ∈ partsBetween x (occurrences x ⟨#[c]⟩ 0 x.length (x.length + 1)) (⟨#[c]⟩:Str).length,c ∉ cs p:=by
  obtain ⟨f,ch,hn⟩:=StrLaws.occ_tight x ⟨#[c]⟩ (Nat.le_refl 1)
  rw [StrLaws.partsBetween_eq]
  exact StrLaws.parts_free x c _ 0 f ch hn
theorem parts_sep (x:Str) (c:Nat):cs x=sepL [c] ((partsBetween x (occurrences x ⟨#[c]⟩ 0 x.length (x.length + 1)) (⟨#[c]⟩:Str).length).map cs):=by
  have h1:=StrLaws.glued_between_self x ⟨#[c]⟩ (x.length + 1)
  have h2:=cs_join ⟨#[c]⟩ (partsBetween x (occurrences x ⟨#[c]⟩ 0 x.length (x.length + 1)) (⟨#[c]⟩:Str).length)
  rw [show Txt.join ⟨#[c]⟩ (partsBetween x (occurrences x ⟨#[c]⟩ 0 x.length (x.length + 1)) (⟨#[c]⟩:Str).length)=x from h1] at h2
  exact h2
theorem rep_cs (x:Str) (c:Nat) (d:Str):cs (Txt.replace x ⟨#[c]⟩ d)=(cs x).flatMap fun a=>if a=c then cs d else [a]:=by
  have h1:=parts_sep x c
  have h2:=parts_cs x c
  have h3:=length_partsBetween x (occurrences x ⟨#[c]⟩ 0 x.length (x.length + 1)) (⟨#[c]⟩:Str).length
  have hf:∀ p ∈ (partsBetween x (occurrences x ⟨#[c]⟩ 0 x.length (x.length + 1)) (⟨#[c]⟩:Str).length).map cs,c ∉ p:=by
    intro p hp
    obtain ⟨q,hq,rfl⟩:=List.mem_map.mp hp
    exact h2 q hq
  unfold Txt.replace
  split
  · rename_i q
    have q2:(occurrences x ⟨#[c]⟩ 0 x.length (x.length + 1)).isEmpty=true:=by simpa [Str.length] using q
    have q3:occurrences x ⟨#[c]⟩ 0 x.length (x.length + 1)=[]:=List.isEmpty_iff.mp q2
    rw [q3] at h3 h1 hf
    match hp:partsBetween x [] (⟨#[c]⟩:Str).length,h3 with
    | [p],_ =>
      rw [hp] at h1 hf
      have e:cs x=cs p:=h1
      rw [e,flat_free c (cs d) (cs p) (hf (cs p) (List.mem_singleton.mpr rfl))]
  · rw [h1,sep_flat c (cs d) _ hf]
    exact cs_join d _
theorem spl_cs (x:Str) (c:Nat):sepL [c] ((Txt.split x ⟨#[c]⟩).map cs)=cs x /\ (∀ p ∈ Txt.split x ⟨#[c]⟩,c ∉ cs p) /\ Txt.split x ⟨#[c]⟩ ≠ []:=by
  refine ⟨?_,fun p hp=>StrLaws.split_free x c p hp,?_⟩
  · have h1:=congrArg cs (StrLaws.join_split x ⟨#[c]⟩)
    rw [<- StrLaws.glued_eq_join] at h1
    exact (cs_join ⟨#[c]⟩ (Txt.split x ⟨#[c]⟩)).symm.trans h1
  · unfold Txt.split
    split
    · simp
    · split
      · simp
      · intro z
        have:=congrArg List.length z
        rw [length_partsBetween] at this
        simp at this
theorem spl_d (x:Str) (c:Nat) (h:Hh) (hl:x.length<=900000):splitD (.str x) (.str ⟨#[c]⟩) h=new (.lst ((Txt.split x ⟨#[c]⟩).map .str)) h /\ (Txt.split x ⟨#[c]⟩).length<=1000000:=by
  have h1:=congrArg Str.length (StrLaws.glued_between_self x ⟨#[c]⟩ (x.length + 1))
  rw [size_glued] at h1
  have h2:(⟨#[c]⟩:Str).length=1:=rfl
  rw [h2] at h1
  have h3:(Txt.split x ⟨#[c]⟩).length<=1000000:=by
    unfold Txt.split
    split
    · simp
    · split
      · simp
      · rw [h2]; omega
  refine ⟨?_,h3⟩
  unfold splitD
  dsimp only
  exact if_pos ⟨rfl,by omega,by rw [h2]; omega,h3⟩
end K11
set_option Elab.async false
set_option linter.all false
set_option maxRecDepth 100000
set_option maxHeartbeats 4000000
namespace K11
open PySem L2 PI
theorem sepL_mem (s:List Nat):∀ (ps:List (List Nat)) (p:List Nat),p ∈ ps->∀ c ∈ p,c ∈ sepL s ps
  | [p],q,hq,c,hc=>by rw [List.mem_singleton.mp hq] at hc; exact hc
  | p :: r :: t,q,hq,c,hc=>by
    rw [sepL,List.append_assoc]
    rcases List.mem_cons.mp hq with rfl | hq
    · exact List.mem_append.mpr (.inl hc)
    · exact List.mem_append.mpr (.inr (List.mem_append.mpr (.inr (sepL_mem s (r :: t) q hq c hc))))
theorem sg_three (a:Nat):((if a=10 then [32] else [a]).flatMap fun b=>(if b=40 then [32,40,32] else [b]).flatMap fun c=>if c=41 then [32,41,32] else [c])=sg a:=by
  unfold sg
  by_cases h1:a=10
  · subst h1; decide
  · by_cases h2:a=40
    · subst h2; decide
    · by_cases h3:a=41
      · subst h3; decide
      · simp [h1,h2,h3]
theorem rep_three (x:Str):cs (Txt.replace (Txt.replace (Txt.replace x "\n" " ") "(" " ( ") ")" " ) ")=Sn (cs x):=by
  show cs (Txt.replace (Txt.replace (Txt.replace x ⟨#[10]⟩ " ") ⟨#[40]⟩ " ( ") ⟨#[41]⟩ " ) ")=_
  rw [rep_cs,rep_cs,rep_cs]
  show (((cs x).flatMap fun a=>if a=10 then [32] else [a]).flatMap fun a=>if a=40 then [32,40,32] else [a]).flatMap (fun a=>if a=41 then [32,41,32] else [a])=_
  rw [List.flatMap_assoc,List.flatMap_assoc]
  unfold Sn
  congr 1
  funext a
  rw [<- sg_three a]
theorem flat_le (f:Nat->List Nat) (k:Nat) (hf:∀ a,1<=(f a).length) (L:List Nat):L.length<=(L.flatMap f).length:=by
  induction L with
  | nil=>simp
  | cons a r ih=>rw [List.flatMap_cons,List.length_append,List.length_cons]; have:=hf a; omega
theorem w1_filter (ps:List Str) (hn:ps ≠ []) (hf:∀ p ∈ ps,32 ∉ cs p):w1 [] (sepL [32] (ps.map cs))=(ps.filter fun p=>!(p == ("":Str))).map cs:=by
  have e:∀ p:Str,(!(p == ("":Str)))=decide (cs p ≠ []):=by
    intro p
    by_cases z:cs p=[]
    · have:p="":=cs_inj z
      subst this; decide
    · rw [ne_e z]; simp [z]
  rw [w1_sep _ _ (by intro p hp; obtain ⟨q,hq,rfl⟩:=List.mem_map.mp hp; exact hf q hq)]
  cases ps with
  | nil=>exact absurd rfl hn
  | cons p r =>
    simp only [List.map_cons,List.nil_append,List.filter_cons,e]
    rw [List.filter_map]
    unfold fl
    by_cases z:cs p=[] <;> simp [z,Function.comp_def]
noncomputable def wdF:D->Option D
  | .str p=>if (p == ("":Str)) then none else some (.str p)
  | _=>none
theorem wd_filter:∀ ps:List Str,(ps.map D.str).filterMap wdF=(ps.filter fun p=>!(p == ("":Str))).map D.str
  | []=>rfl
  | p :: r=>by
    rw [List.map_cons,List.filterMap_cons,List.filter_cons,wd_filter r,wdF]
    cases p == ("":Str) <;> simp
section
variable {cl:Nat->List D->Hh->Res D}
theorem r_words_of (T:List Nat) (hT:∀ c ∈ T,c < 1114112) (hl:(Sn T).length<=900000) (h:Hh):∃ n J,d_words_of.run cl [.str (mkS T)] h=.ok (.loc n) (h ++ J) /\ (h ++ J)[n]?=some (.lst ((w1 [] (Sn T)).map fun w=>.str (mkS w))):=by
  obtain ⟨z,ez⟩:∃ z,z=Txt.replace (Txt.replace (Txt.replace (mkS T) "\n" " ") "(" " ( ") ")" " ) ":=⟨_,rfl⟩
  have cz:cs z=Sn T:=by rw [ez,rep_three,cs_mk]
  have lz:z.length<=900000:=by rw [cs_len,cz]; exact hl
  have l0:=Sn_le T
  have c1:cs (Txt.replace (mkS T) "\n" " ")=T.flatMap fun a=>if a=10 then [32] else [a]:=by
    have:=rep_cs (mkS T) 10 " "
    rw [cs_mk] at this
    exact this
  have c2:cs (Txt.replace (Txt.replace (mkS T) "\n" " ") "(" " ( ")=(T.flatMap fun a=>if a=10 then [32] else [a]).flatMap fun a=>if a=40 then [32,40,32] else [a]:=by
    have:=rep_cs (Txt.replace (mkS T) "\n" " ") 40 " ( "
    rw [c1] at this
    exact this
  have c3:cs z=((T.flatMap fun a=>if a=10 then [32] else [a]).flatMap fun a=>if a=40 then [32,40,32] else [a]).flatMap fun a=>if a=41 then [32,41,32] else [a]:=by
    have:=rep_cs (Txt.replace (Txt.replace (mkS T) "\n" " ") "(" " ( ") 41 " ) "
    rw [c2] at this
    rw [ez]; exact this
  have m3:=flat_le (fun a=>if a=41 then [32,41,32] else [a]) 0 (by intro a; split <;> simp) ((T.flatMap fun a=>if a=10 then [32] else [a]).flatMap fun a=>if a=40 then [32,40,32] else [a])
  have m2:=flat_le (fun a=>if a=40 then [32,40,32] else [a]) 0 (by intro a; split <;> simp) (T.flatMap fun a=>if a=10 then [32] else [a])
  rw [<- c3,cz] at m3
  have rs:S.run cl (headS d_words_of.body) [some (.str (mkS T)),none] h=.nx [some (.str (mkS T)),some (.str z)] h:=by
    have k1:(mkS T).length + ((mkS T).length + 1) * (Str.ofString " ").length<=16777216:=by
      rw [mk_len,show (Str.ofString " ").length=1 by decide]; omega
    have k2:(Txt.replace (mkS T) "\n" " ").length + ((Txt.replace (mkS T) "\n" " ").length + 1) * (Str.ofString " ( ").length<=16777216:=by
      rw [cs_len (Txt.replace (mkS T) "\n" " "),c1,show (Str.ofString " ( ").length=3 by decide]; omega
    have k3:(Txt.replace (Txt.replace (mkS T) "\n" " ") "(" " ( ").length + ((Txt.replace (Txt.replace (mkS T) "\n" " ") "(" " ( ").length + 1) * (Str.ofString " ) ").length<=16777216:=by
      rw [cs_len (Txt.replace (Txt.replace (mkS T) "\n" " ") "(" " ( "),c2,show (Str.ofString " ) ").length=3 by decide]; omega
    unfold d_words_of headS
    dsimp only
    rw [yrep]
    simp only [List.getElem?_cons_zero]
    unfold repS
    rw [if_pos k1]
    unfold repS
    rw [if_pos k2]
    unfold repS
    rw [if_pos k3]
    unfold repS
    rw [ez]
    rfl
  obtain ⟨s1,s2,s3⟩:=spl_cs z 32
  obtain ⟨d1,d2⟩:=spl_d z 32 h lz
  have sok:∀ p ∈ Txt.split z ⟨#[32]⟩,PyData.strOk p=true:=by
    intro p hp
    refine ok_cs fun c hc=>?_
    have:=sepL_mem [32] _ (cs p) (List.mem_map.mpr ⟨p,hp,rfl⟩) c hc
    rw [s1,cz] at this
    obtain ⟨a,ha,hca⟩:=List.mem_flatMap.mp this
    have:=hT a ha
    unfold sg at hca
    split at hca
    · simp at hca; omega
    · split at hca
      · simp at hca; omega
      · split at hca
        · simp at hca; omega
        · simp at hca; omega
  have st:stay [(h.length,(Txt.split z ⟨#[32]⟩).map D.str)] (h ++ [.lst ((Txt.split z ⟨#[32]⟩).map D.str)]):=stay_one.mpr (by rw [rdx0]; rfl)
  have e:=compL_pure (f:=compF t_words_of_1 (capE [none] [some (.str (mkS T)),some (.str z)]) (fun ρ' h2=>c_words_of_1.evC cl ρ' h2) (fun ρ' h2=>e_words_of_1.ev cl ρ' h2)) st wdF ((Txt.split z ⟨#[32]⟩).map D.str) [] (by
    intro d hd
    obtain ⟨p,hp,rfl⟩:=List.mem_map.mp hd
    have q:cmpD .NotEq (.str p) (.str "") (h ++ [O.lst ((Txt.split z ⟨#[32]⟩).map D.str)])=.ok (.bl (!(p == ("":Str)))) (h ++ [O.lst ((Txt.split z ⟨#[32]⟩).map D.str)]):=neS (sok p hp) so_e
    have q2:c_words_of_1.evC cl [some (.str p)] (h ++ [O.lst ((Txt.split z ⟨#[32]⟩).map D.str)])=.ok (!(p == ("":Str))) (h ++ [O.lst ((Txt.split z ⟨#[32]⟩).map D.str)]):=bnd (x:=.bl (!(p == ("":Str)))) (bnd rfl (bnd rfl q)) rfl
    show (c_words_of_1.evC cl [some (.str p)] (h ++ [O.lst ((Txt.split z ⟨#[32]⟩).map D.str)])).bind _=_
    rw [q2,bind_ok]
    unfold wdF
    cases q3:(p == ("":Str)) <;> simp only [q3] <;> rfl)
  have lt:((Txt.split z ⟨#[32]⟩).map D.str).length<=1000000:=by rw [List.length_map]; exact d2
  have r0:rd (h ++ [O.lst ((Txt.split z ⟨#[32]⟩).map D.str)]) h.length=some ((Txt.split z ⟨#[32]⟩).map D.str):=by rw [rdx0]; rfl
  rw [List.nil_append,wd_filter] at e
  have ww:(w1 [] (Sn T)).map (fun w=>D.str (mkS w))=((Txt.split z ⟨#[32]⟩).filter fun p=>!(p == ("":Str))).map D.str:=by
    rw [<- cz,<- s1,w1_filter _ s3 s2,List.map_map]
    exact List.map_congr_left fun p _=>by show D.str (mkS (cs p))=_; rw [mk_cs]
  refine ⟨(h ++ [O.lst ((Txt.split z ⟨#[32]⟩).map D.str)]).length,[O.lst ((Txt.split z ⟨#[32]⟩).map D.str)] ++ [.lst ((w1 [] (Sn T)).map fun w=>.str (mkS w))],?_,?_⟩
  · rw [<- List.append_assoc,ww]
    have:Ss.run cl d_words_of.body [some (.str (mkS T)),none] h=.rt (.loc (h ++ [O.lst ((Txt.split z ⟨#[32]⟩).map D.str)]).length) (h ++ [O.lst ((Txt.split z ⟨#[32]⟩).map D.str)] ++ [.lst (((Txt.split z ⟨#[32]⟩).filter fun p=>!(p == ("":Str))).map D.str)]):=by
      show seqS (S.run cl (headS d_words_of.body) [some (.str (mkS T)),none] h) (fun ρ' h'=>Ss.run cl (dropS 1 d_words_of.body) ρ' h')=_
      rw [rs]
      exact ret_r (ofL_comp (seq_loc (bnd rfl (bnd rfl d1)) r0) lt e)
    exact out_rt this
  · rw [<- List.append_assoc,hx0]; rfl
end
end K11
set_option Elab.async false
set_option linter.all false
set_option maxRecDepth 100000
set_option maxHeartbeats 4000000
namespace K11
open PySem L2 PI
noncomputable def rs {α:Type} (o:Option α) (h:Hh):Res α:=match o with
  | some v=>.ok v h
  | none=>.exc 1 h
section
variable {cl:Nat->List D->Hh->Res D} {ρ:En} {h h' h2:Hh} {c:Nat}
theorem out_ex {o:RS} (q:o=.ex c ρ h):outR o=.exc c h:=by rw [q]; rfl
theorem rais_x {x:Str} {u:List Nat} {m:Ms} {p0 p1 p:Pos} {r:Ss} (hf:m.fine ρ=true):Ss.run cl (.cons (.rais x c u m p0 p1 p) r) ρ h=.ex c ρ h:=by
  show seqS (if m.fine ρ then .ex c ρ h else .no) _=_
  rw [if_pos hf]; rfl
theorem iff_x {e:E} {a b r:Ss} {p:Pos} {ρ':En} (hc:e.evT cl ρ h=.ok true h') (ha:a.run cl ρ h'=.ex c ρ' h2):Ss.run cl (.cons (.iff e a b p) r) ρ h=.ex c ρ' h2:=by rw [iff_t hc,ha]; rfl
theorem ret_x {e:E} {p:Pos} {r:Ss} (he:e.ev cl ρ h=.exc c h'):Ss.run cl (.cons (.ret e p) r) ρ h=.ex c ρ h':=by
  show seqS (andS ρ (e.ev cl ρ h) _) _=_
  rw [he]; rfl
theorem set_x {i:Nat} {e:E} {p1 p:Pos} {r:Ss} (he:e.ev cl ρ h=.exc c h'):Ss.run cl (.cons (.set i e p1 p) r) ρ h=.ex c ρ h':=by
  show seqS (andS ρ (e.ev cl ρ h) _) _=_
  rw [he]; rfl
theorem bnd_x {α β:Type} {m:Res α} {f:α->Hh->Res β} (q:m=.exc c h):m.bind f=.exc c h:=by rw [q]; rfl
structure Tw (x:Str):Prop where
  ok:PyData.strOk x=true
  le:(cs x).length<=1000
theorem Tw.fine {x:Str} (t:Tw x):(decide (x.length<=1000) && PyData.strOk x)=true:=by
  rw [t.ok,Bool.and_true]; exact decide_eq_true (by rw [cs_len]; exact t.le)
noncomputable def nameB (x:Str):Bool:=if (x == ("":Str))=true then false else if 8 < (cs x).length then false else if resW.any (fun y=>y == x)=true then false else (cs x).all (sgIn letS)
noncomputable def numB (x:Str):Bool:=if (x == ("":Str))=true then false else if 18 < (cs x).length then false else if ((cs x)[0]? == some 48 && !(x == ("0":Str)))=true then false else (cs x).all (sgIn figS)
theorem len_s' {x:Str} {h:Hh} (hl:(cs x).length<=1000):lenD (.str x) h=.ok (.int ((cs x).length:Nat)) h:=by
  unfold lenD
  dsimp only
  rw [if_pos (by rw [cs_len]; omega),cs_len]
theorem in_words' {x:Str} {h:Hh} {b:Bool} (q:resW.any (fun y=>y == x)=b):inD false (.str x) (.tup (g_WORDS.map .str)) h=.ok (.bl b) h:=by
  show inXs false (.str x) (g_WORDS.map .str) h=_
  unfold inXs
  have:((g_WORDS.map D.str).any fun y=>eqV (vOf y) (vOf (.str x)))=resW.any (fun y=>y == x):=by rw [List.any_map]; rfl
  rw [this,q,if_pos ⟨rfl,by rw [List.all_map]; rfl⟩]
  rfl
theorem r_is_name_g {x:Str} (t:Tw x) (h:Hh):∃ J,d_is_name.run cl [.str x] h=.ok (.bl (nameB x)) (h ++ J):=by
  have l:=t.le
  unfold nameB
  by_cases e:(x == ("":Str))=true
  · rw [if_pos e]
    exact ⟨[],by rw [List.append_nil]; exact out_rt (iff_r (t_orT (t_cmp rfl rfl (by rw [eqS t.ok so_e,e]))) (ret_r rfl))⟩
  · rw [if_neg e]
    have e:(x == ("":Str))=false:=by simpa using e
    by_cases l8:8 < (cs x).length
    · rw [if_pos l8]
      exact ⟨[],by rw [List.append_nil]; exact out_rt (iff_r (t_or2 (t_cmp rfl rfl (by rw [eqS t.ok so_e,e])) (t_cmp (bnd rfl (len_s' l)) rfl (by rw [cmp_gt]; congr 2; exact decide_eq_true (by omega)))) (ret_r rfl))⟩
    · rw [if_neg l8]
      by_cases w:resW.any (fun y=>y == x)=true
      · rw [if_pos w]
        exact ⟨[],by rw [List.append_nil]; exact out_rt (iff_r (t_or3 (t_cmp rfl rfl (by rw [eqS t.ok so_e,e])) (t_cmp (bnd rfl (len_s' l)) rfl (by rw [cmp_gt]; congr 2; exact decide_eq_false (by omega))) (t_cmp rfl rfl (in_words' w))) (ret_r rfl))⟩
      · rw [if_neg w]
        have w:resW.any (fun y=>y == x)=false:=(Bool.not_eq_true _).mp w
        exact ⟨[.lst (((cs x).map (sgIn letS)).map D.bl)],out_rt (iff_f (h':=h) (t_or3 (t_cmp rfl rfl (by rw [eqS t.ok so_e,e])) (t_cmp (bnd rfl (len_s' l)) rfl (by rw [cmp_gt]; congr 2; exact decide_eq_false (by omega))) (t_cmp rfl rfl (in_words' w))) (ret_r (all_in (z:=letS) (by omega))))⟩
theorem sub0' {x:Str} {c:Nat} {h:Hh} (e:(cs x)[0]?=some c) (hl:(cs x).length<=1000):subD (.str x) (.int 0) h=.ok (.str ⟨#[c]⟩) h:=by
  show (if x.length<=1000000 then (match atI x.cps.toList 0 with | some c=>Res.ok (D.str ⟨#[c]⟩) h | none=>.no) else .no)=_
  rw [if_pos (by rw [cs_len]; omega),show atI x.cps.toList 0=(cs x)[0]? from PI.atI_nat (k:=0),e]
theorem r_is_number_g {x:Str} (t:Tw x) (h:Hh):∃ J,d_is_number.run cl [.str x] h=.ok (.bl (numB x)) (h ++ J):=by
  have l:=t.le
  unfold numB
  by_cases e:(x == ("":Str))=true
  · rw [if_pos e]
    exact ⟨[],by rw [List.append_nil]; exact out_rt (iff_r (t_orT (t_cmp rfl rfl (by rw [eqS t.ok so_e,e]))) (ret_r rfl))⟩
  · rw [if_neg e]
    have e:(x == ("":Str))=false:=by simpa using e
    by_cases l8:18 < (cs x).length
    · rw [if_pos l8]
      exact ⟨[],by rw [List.append_nil]; exact out_rt (iff_r (t_or2 (t_cmp rfl rfl (by rw [eqS t.ok so_e,e])) (t_cmp (bnd rfl (len_s' l)) rfl (by rw [cmp_gt]; congr 2; exact decide_eq_true (by omega)))) (ret_r rfl))⟩
    · rw [if_neg l8]
      obtain ⟨c,r,ec⟩:∃ c r,cs x=c :: r:=by
        cases q:cs x with
        | nil =>
          have:x="":=cs_inj q
          rw [this] at e
          exact absurd e (by decide)
        | cons c r=>exact ⟨c,r,rfl⟩
      have e0:(cs x)[0]?=some c:=by rw [ec]; rfl
      have hc:c < 1114112:=by
        have:=t.ok
        unfold PyData.strOk at this
        rw [<- Array.all_toList] at this
        exact of_decide_eq_true (List.all_eq_true.mp this c (by show c ∈ cs x; rw [ec]; exact List.mem_cons_self ..))
      have f0:E.evT cl (.cmp .Eq (.sub (.var 0 ⟨23,50,23,54⟩) (.int 0 ⟨23,55,23,56⟩) ⟨23,50,23,57⟩) (.str "0" ⟨23,61,23,64⟩) ⟨23,50,23,64⟩) [some (.str x)] h=.ok (c == 48) h:=t_cmp (bnd rfl (bnd rfl (sub0' e0 l))) rfl (by
        rw [eqS (so_1 hc) so_z]
        congr 2
        by_cases z:c=48
        · subst z; decide
        · rw [beq_false_of_ne z]; exact str_ne (fun q=>z (List.cons.inj (show [c]=[48] from q)).1))
      have an:∀ b,((cs x)[0]? == some 48 && !(x == ("0":Str)))=b->E.evT cl (.and (.cmp .Eq (.sub (.var 0 ⟨23,50,23,54⟩) (.int 0 ⟨23,55,23,56⟩) ⟨23,50,23,57⟩) (.str "0" ⟨23,61,23,64⟩) ⟨23,50,23,64⟩) (.cmp .NotEq (.var 0 ⟨23,69,23,73⟩) (.str "0" ⟨23,77,23,80⟩) ⟨23,69,23,80⟩) .nil ⟨23,50,23,80⟩) [some (.str x)] h=.ok b h:=by
        intro b hb
        rw [e0] at hb
        cases z:(c == 48) with
        | false =>
          rw [z] at f0
          have:((some c:Option Nat) == some 48)=false:=by simpa using z
          rw [this,Bool.false_and] at hb
          rw [<- hb]
          exact t_andF f0
        | true =>
          rw [z] at f0
          have:((some c:Option Nat) == some 48)=true:=by simpa using z
          rw [this,Bool.true_and] at hb
          exact t_and f0 (t_cmp rfl rfl (by rw [neS t.ok so_z,hb]))
      by_cases w:((cs x)[0]? == some 48 && !(x == ("0":Str)))=true
      · rw [if_pos w]
        exact ⟨[],by rw [List.append_nil]; exact out_rt (iff_r (t_or3 (t_cmp rfl rfl (by rw [eqS t.ok so_e,e])) (t_cmp (bnd rfl (len_s' l)) rfl (by rw [cmp_gt]; congr 2; exact decide_eq_false (by omega))) (an true w)) (ret_r rfl))⟩
      · rw [if_neg w]
        have w:((cs x)[0]? == some 48 && !(x == ("0":Str)))=false:=by simpa using w
        exact ⟨[.lst (((cs x).map (sgIn figS)).map D.bl)],out_rt (iff_f (h':=h) (t_or3 (t_cmp rfl rfl (by rw [eqS t.ok so_e,e])) (t_cmp (bnd rfl (len_s' l)) rfl (by rw [cmp_gt]; congr 2; exact decide_eq_false (by omega))) (an false w)) (ret_r (all_in (z:=figS) (by omega))))⟩
theorem fine_2 {t:Str} {i:Nat} {p0 p1 p2 p3:Pos} {ρ:En} (hx:(match ρ[i]? with | some (some (.str z))=>decide (z.length<=1000) && PyData.strOk z | _=>false)=true) (ht:decide (t.length<=1000)=true:=by decide):(Ms.f (.r i p0 p1) (.c t p2) [] p3).fine ρ=true:=by
  show ((match ρ[i]? with | some (some (.str z))=>decide (z.length<=1000) && PyData.strOk z | _=>false) && decide (t.length<=1000) && true && decide (0<=10))=true
  rw [hx,ht]; rfl
noncomputable def IsNameG (cl:Nat->List D->Hh->Res D):Prop:=∀ x h,Tw x->∃ J,cl 0 [.str x] h=.ok (.bl (nameB x)) (h ++ J)
noncomputable def IsNumG (cl:Nat->List D->Hh->Res D):Prop:=∀ x h,Tw x->∃ J,cl 1 [.str x] h=.ok (.bl (numB x)) (h ++ J)
mutual
noncomputable def Th.tw:Th->Prop
  | .w x=>Tw x
  | .l ts=>ts.length<=1000 /\ Th.tws ts
noncomputable def Th.tws:List Th->Prop
  | []=>True
  | t :: r=>t.tw /\ Th.tws r
end
noncomputable def nameT:Th->Option Str
  | .w x=>if nameB x then some x else none
  | .l _=>none
noncomputable def NameG (cl:Nat->List D->Hh->Res D):Prop:=∀ t h d,t.tw->At h t d->∃ J,cl 17 [d] h=rs ((nameT t).map D.str) (h ++ J)
theorem r_name_of_g (C:IsNameG cl) (t:Th) (h:Hh) (d:D) (ht:t.tw) (a:At h t d):∃ J,d_name_of.run cl [d] h=rs ((nameT t).map D.str) (h ++ J):=by
  cases t with
  | w x =>
    rw [At] at a
    rw [Th.tw] at ht
    subst a
    obtain ⟨J,e⟩:=C x h ht
    refine ⟨J,?_⟩
    cases b:nameB x with
    | true =>
      rw [b] at e
      rw [show nameT (.w x)=some x from if_pos b]
      show d_name_of.run cl [.str x] h=.ok (.str x) (h ++ J)
      exact out_rt (iff_f (h':=h) (t_not (b:=true) (bnd (x:=.bl true) (bnd rfl rfl) rfl)) (iff_f (h':=h ++ J) (t_not (b:=true) (bnd (x:=.bl true) (bnd rfl (bnd rfl e)) rfl)) (ret_r rfl)))
    | false =>
      rw [b] at e
      rw [show nameT (.w x)=none from if_neg (by rw [b]; decide)]
      show d_name_of.run cl [.str x] h=.exc 1 (h ++ J)
      exact out_ex (iff_f (h':=h) (t_not (b:=true) (bnd (x:=.bl true) (bnd rfl rfl) rfl)) (iff_x (h':=h ++ J) (t_not (b:=false) (bnd (x:=.bl false) (bnd rfl (bnd rfl e)) rfl)) (rais_x (fine_2 ht.fine))))
  | l ts =>
    rw [At] at a
    obtain ⟨n,ds,rfl,g,_⟩:=a
    refine ⟨[],?_⟩
    rw [List.append_nil]
    show d_name_of.run cl [.loc n] h=.exc 1 h
    exact out_ex (iff_x (h':=h) (t_not (b:=false) (isi_l rfl g)) (rais_x rfl))
end
end K11
set_option Elab.async false
set_option linter.all false
set_option maxRecDepth 100000
set_option maxHeartbeats 4000000
namespace K11
open PySem L2 PI
noncomputable def allO {α:Type}:List (Option α)->Option (List α)
  | []=>some []
  | o :: r=>match o with
    | none=>none
    | some a=>(allO r).map (a :: ·)
section
variable {cl:Nat->List D->Hh->Res D}
theorem comp_ref {α:Type} (T:α->Th) (out:α->Option D) (en:α->D->D) {f:D->Hh->Res (Option D)} {n:Nat} {all:List D}:∀ (xs:List α) (ds acc:List D) (h:Hh),rd h n=some all->Ats h (xs.map T) ds->(∀ x ∈ xs,∀ h d,At h (T x) d->∃ J,f (en x d) h=rs ((out x).map some) (h ++ J)) ->
    ∃ J,compL [(n,all)] f (List.zipWith en xs ds) acc h=rs ((allO (xs.map out)).map (acc ++ ·)) (h ++ J)
  | [],ds,acc,h,q,a,hf=>⟨[],by rw [List.zipWith_nil_left,compL,if_pos (stay_one.mpr q)]; simp [allO,rs]⟩
  | x :: r,ds,acc,h,q,a,hf=>by
    rw [List.map_cons,Ats] at a
    obtain ⟨e,es,rfl,a1,a2⟩:=a
    obtain ⟨J1,e1⟩:=hf x (List.mem_cons_self ..) h e a1
    cases o:out x with
    | none =>
      rw [o] at e1
      refine ⟨J1,?_⟩
      rw [List.zipWith_cons_cons,compL,if_pos (stay_one.mpr q),e1,List.map_cons,o]
      rfl
    | some v =>
      rw [o] at e1
      obtain ⟨J2,e2⟩:=comp_ref T out en r es (acc ++ [v]) (h ++ J1) (rd_old q) (Ats.gr a2) fun y hy=>hf y (List.mem_cons_of_mem _ hy)
      refine ⟨J1 ++ J2,?_⟩
      rw [List.zipWith_cons_cons,compL,if_pos (stay_one.mpr q),e1]
      show compL _ _ _ _ _=_
      rw [addO_some,e2,List.map_cons,o,<- List.append_assoc,show allO (some v :: r.map out)=(allO (r.map out)).map (v :: ·) from rfl]
      cases allO (r.map out) with
      | none=>rfl
      | some l=>simp [rs]
noncomputable def numT (x:Str):D:=match PySem.intText? x with
  | some n=>.tup [.str "num",.int n]
  | none=>.non
noncomputable def slotT (e:Th->Option D) (k:Str) (t:Th):Option D:=if (k == ("name":Str))=true then (nameT t).map .str else e t
noncomputable def formT (e:Th->Option D) (ks:List Str) (ts:List Th):Option (List D):=if ts.length ≠ ks.length then none else allO ((ks.zip ts).map fun q=>slotT e q.1 q.2)
noncomputable def exT:Nat->Th->Option D
  | _,.w x=>if numB x then some (numT x) else (nameT (.w x)).map fun y=>.tup [.str "var",.str y]
  | 0,.l _=>none
  | n + 1,.l ts=>match ts with
    | .w hd :: r =>
      if g_SIGNS.any (fun y=>y == hd)=true then (formT (exT n) ["part","part"] r).map fun ds=>.tup ([.str "op",.str hd] ++ ds)
      else if g_ALIKE.any (fun y=>y == hd)=true then (match g_FORMS.lookup hd with | some (.tup ks)=>(formT (exT n) ks r).map fun ds=>.tup ([.str hd] ++ ds) | _=>none)
      else if (hd == ("call":Str))=true then (match r with | f :: r2=>(nameT f).bind fun x=>(allO (r2.map (exT n))).map fun ds=>.tup [.str "call",.str x,.non,.tup ds] | []=>none)
      else if (hd == ("hand":Str))=true then (match r with | f :: g :: r2=>(nameT f).bind fun x=>(nameT g).bind fun y=>(allO (r2.map (exT n))).map fun ds=>.tup [.str "call",.str x,.str y,.tup ds] | _=>none)
      else none
    | _=>none
noncomputable def ExG (cl:Nat->List D->Hh->Res D) (n:Nat):Prop:=∀ t h d,t.tw->t.dp<=n->At h t d->∃ J,cl 11 [d] h=rs (exT n t) (h ++ J)
theorem tws_mem:∀ {ts:List Th},Th.tws ts ↔ ∀ t ∈ ts,t.tw
  | []=>by simp [Th.tws]
  | t :: r=>by simp [Th.tws,tws_mem (ts:=r)]
theorem dps_mem:∀ {ts:List Th} {n:Nat},Th.dps ts<=n->∀ t ∈ ts,t.dp<=n
  | t :: r,n,h,x,hx=>by
    rw [Th.dps] at h
    rcases List.mem_cons.mp hx with rfl | hx
    · omega
    · exact dps_mem (ts:=r) (by omega) x hx
noncomputable def ReadG (cl:Nat->List D->Hh->Res D) (n:Nat):Prop:=∀ k t h d,(k=("name":Str) \/ k="part")->t.tw->t.dp<=n->At h t d->∃ J,cl 10 [.str k,d] h=rs (slotT (exT n) k t) (h ++ J)
noncomputable def FormG (cl:Nat->List D->Hh->Res D) (n:Nat):Prop:=∀ (ks:List Str) (ts:List Th) (h:Hh) (m:Nat) (ds:List D),(∀ k ∈ ks,k=("name":Str) \/ k="part")->ks.length<=100->ts.length<=1000->Th.tws ts->Th.dps ts<=n->h[m]?=some (.lst ds)->Ats h ts ds->∃ J,cl 9 [.loc m,.tup (ks.map .str)] h=rs ((formT (exT n) ks ts).map .tup) (h ++ J)
noncomputable def ExsG (cl:Nat->List D->Hh->Res D) (n:Nat):Prop:=∀ (ts:List Th) (h:Hh) (m:Nat) (ds:List D),ts.length<=1000->Th.tws ts->Th.dps ts<=n->h[m]?=some (.lst ds)->Ats h ts ds->∃ J,cl 14 [.loc m] h=rs ((allO (ts.map (exT n))).map .tup) (h ++ J)
theorem r_read_as_g {n:Nat} (C:NameG cl) (E:ExG cl n) (k:Str) (t:Th) (h:Hh) (d:D) (hk:k=("name":Str) \/ k="part") (ht:t.tw) (hd:t.dp<=n) (a:At h t d):∃ J,d_read_as.run cl [.str k,d] h=rs (slotT (exT n) k t) (h ++ J):=by
  rcases hk with rfl | rfl
  · obtain ⟨J,e⟩:=C t h d ht a
    refine ⟨J,?_⟩
    rw [show slotT (exT n) "name" t=(nameT t).map .str from if_pos (by decide)]
    cases o:(nameT t).map D.str with
    | none=>rw [o] at e; exact out_ex (ret_x (ite_t (t_cmp rfl rfl (eqS so_name so_name)) (call_1 rfl e)))
    | some v=>rw [o] at e; exact out_rt (ret_r (ite_t (t_cmp rfl rfl (eqS so_name so_name)) (call_1 rfl e)))
  · obtain ⟨J,e⟩:=E t h d ht hd a
    refine ⟨J,?_⟩
    rw [show slotT (exT n) "part" t=exT n t from if_neg (by decide)]
    cases o:exT n t with
    | none=>rw [o] at e; exact out_ex (ret_x (ite_f (t_cmp rfl rfl (eqS so_part so_name)) (call_1 rfl e)))
    | some v=>rw [o] at e; exact out_rt (ret_r (ite_f (t_cmp rfl rfl (eqS so_part so_name)) (call_1 rfl e)))
theorem zip_form (ks:List Str) (ts:List Th) (ds:List D) (h1:ts.length=ks.length) (h2:ds.length=ts.length):(((ks.map D.str).zip ds).map pairT)=List.zipWith (fun q d=>pairT (.str q.1,d)) (ks.zip ts) ds:=by
  induction ks generalizing ts ds with
  | nil=>simp
  | cons k r ih =>
    cases ts with
    | nil=>cases h1
    | cons t ts =>
      cases ds with
      | nil=>cases h2
      | cons d ds =>
        rw [List.map_cons,List.zip_cons_cons,List.map_cons,List.zip_cons_cons,List.zipWith_cons_cons,ih ts ds (by simpa using h1) (by simpa using h2)]
theorem r_formed_g {n:Nat} (R:ReadG cl n) (ks:List Str) (ts:List Th) (h:Hh) (m:Nat) (ds:List D) (hk:∀ k ∈ ks,k=("name":Str) \/ k="part") (lk:ks.length<=100) (lt:ts.length<=1000) (ht:Th.tws ts) (hd:Th.dps ts<=n) (g:h[m]?=some (.lst ds)) (a:Ats h ts ds) :
    ∃ J,d_formed.run cl [.loc m,.tup (ks.map .str)] h=rs ((formT (exT n) ks ts).map .tup) (h ++ J):=by
  have le:=ats_len a
  have l1:lenD (.loc m) h=.ok (.int (ts.length:Nat)) h:=(len_l g).trans (by rw [le])
  have l2:lenD (.tup (ks.map .str)) h=.ok (.int (ks.length:Nat)) h:=by unfold lenD; dsimp only; rw [List.length_map]
  by_cases z:ts.length=ks.length
  · have zz:(ks.zip ts).map (·.2)=ts:=List.map_snd_zip (by omega)
    obtain ⟨J,e⟩:=comp_ref (α:=Str × Th) (·.2) (fun q=>slotT (exT n) q.1 q.2) (fun q d=>pairT (.str q.1,d)) (f:=compF t_formed_1 (capE [none,none] [some (.loc m),some (.tup (ks.map .str))]) (fun ρ' h2=>c_formed_1.evC cl ρ' h2) (fun ρ' h2=>e_formed_1.ev cl ρ' h2)) (n:=m) (all:=ds) (ks.zip ts) ds [] h (rd_of g) (by rw [zz]; exact a) (by
      intro q hq h d a
      have q1:=hk _ (List.of_mem_zip hq).1
      have q2:=(List.of_mem_zip hq).2
      obtain ⟨J,e⟩:=R q.1 q.2 h d q1 (tws_mem.mp ht _ q2) (dps_mem hd _ q2) a
      refine ⟨J,?_⟩
      show ((cl 10 [.str q.1,d] h).bind fun y h2=>Res.ok (some y) h2)=_
      rw [e]
      cases slotT (exT n) q.1 q.2 <;> rfl)
    rw [<- zip_form ks ts ds z le] at e
    have zd:zipD (.tup (ks.map .str)) (.loc m) h=.ok ([(m,ds)],((ks.map D.str).zip ds).map pairT) h:=by
      unfold zipD seqC
      dsimp only
      rw [rd_of g]
      rfl
    have lz:(((ks.map D.str).zip ds).map pairT).length<=1000000:=by simp; omega
    refine ⟨J,?_⟩
    rw [show formT (exT n) ks ts=allO ((ks.zip ts).map fun q=>slotT (exT n) q.1 q.2) from if_neg (by omega)]
    have co:L.ev cl (.comp e_formed_1 t_formed_1 (.zip (.var 1 ⟨78,62,78,66⟩) (.var 0 ⟨78,68,78,74⟩) ⟨78,58,78,61⟩ ⟨78,58,78,75⟩) c_formed_1 ["kind","thing"] [none,none] s_formed_1 ⟨78,17,78,76⟩) [some (.loc m),some (.tup (ks.map .str))] h=rs (allO ((ks.zip ts).map fun q=>slotT (exT n) q.1 q.2)) (h ++ J):=by
      refine bnd (bnd rfl (bnd rfl zd)) ((if_pos lz).trans (e.trans ?_))
      cases allO ((ks.zip ts).map fun q=>slotT (exT n) q.1 q.2) <;> rfl
    have c0:E.evT cl (.cmp .NotEq (.len (.var 0 ⟨76,11,76,17⟩) ⟨76,7,76,10⟩ ⟨76,7,76,18⟩) (.len (.var 1 ⟨76,26,76,30⟩) ⟨76,22,76,25⟩ ⟨76,22,76,31⟩) ⟨76,7,76,31⟩) [some (.loc m),some (.tup (ks.map .str))] h=.ok false h:=t_cmp (bnd rfl l1) (bnd rfl l2) (by rw [neI,z]; simp)
    cases o:allO ((ks.zip ts).map fun q=>slotT (exT n) q.1 q.2) with
    | none=>rw [o] at co; exact out_ex (iff_f c0 (ret_x (bnd_x co)))
    | some l=>rw [o] at co; exact out_rt (iff_f c0 (ret_r (bnd co rfl)))
  · refine ⟨[],?_⟩
    rw [List.append_nil,show formT (exT n) ks ts=none from if_pos z]
    exact out_ex (iff_x (t_cmp (bnd rfl l1) (bnd rfl l2) (by rw [neI,beq_f (show (ts.length:Int) ≠ (ks.length:Int) by omega)]; rfl)) (rais_x rfl))
theorem r_exprs_g {n:Nat} (E:ExG cl n) (ts:List Th) (h:Hh) (m:Nat) (ds:List D) (lt:ts.length<=1000) (ht:Th.tws ts) (hd:Th.dps ts<=n) (g:h[m]?=some (.lst ds)) (a:Ats h ts ds) :
    ∃ J,d_expressions_of.run cl [.loc m] h=rs ((allO (ts.map (exT n))).map .tup) (h ++ J):=by
  have le:=ats_len a
  obtain ⟨J,e⟩:=comp_ref id (exT n) (fun _ d=>d) (f:=compF t_expressions_of_1 (capE [none] [some (.loc m)]) (fun ρ' h2=>c_expressions_of_1.evC cl ρ' h2) (fun ρ' h2=>e_expressions_of_1.ev cl ρ' h2)) (n:=m) (all:=ds) ts ds [] h (rd_of g) (by rw [List.map_id]; exact a) (by
    intro t hm h d a
    obtain ⟨J,e⟩:=E t h d (tws_mem.mp ht _ hm) (dps_mem hd _ hm) a
    refine ⟨J,?_⟩
    show ((cl 11 [d] h).bind fun y h2=>Res.ok (some y) h2)=_
    rw [e]
    cases exT n t <;> rfl)
  rw [zip_snd ts ds le] at e
  refine ⟨J,?_⟩
  have co:L.ev cl (.comp e_expressions_of_1 t_expressions_of_1 (.seq (.var 0 ⟨103,52,103,58⟩)) c_expressions_of_1 ["thing"] [none] s_expressions_of_1 ⟨103,17,103,59⟩) [some (.loc m)] h=rs (allO (ts.map (exT n))) (h ++ J):=by
    refine bnd (seq_loc rfl (rd_of g)) ((if_pos (show ds.length<=1000000 by omega)).trans (e.trans ?_))
    cases allO (ts.map (exT n)) <;> rfl
  cases o:allO (ts.map (exT n)) with
  | none=>rw [o] at co; exact out_ex (ret_x (bnd_x co))
  | some l=>rw [o] at co; exact out_rt (ret_r (bnd co rfl))
end
end K11
set_option Elab.async false
set_option linter.all false
set_option maxRecDepth 100000
set_option maxHeartbeats 4000000
namespace K11
open PySem L2 PI
section
variable {cl:Nat->List D->Hh->Res D} {ρ:En} {h h' h2:Hh} {c:Nat}
theorem es_x1 {e:E} {r:Es} (a:e.ev cl ρ h=.exc c h'):(Es.cons e r).ev cl ρ h=.exc c h':=bnd_x a
theorem es_x2 {e:E} {r:Es} {x:D} (a:e.ev cl ρ h=.ok x h') (b:r.ev cl ρ h'=.exc c h2):(Es.cons e r).ev cl ρ h=.exc c h2:=bnd a (bnd_x b)
theorem tup_x {es:Es} {p:Pos} (a:es.ev cl ρ h=.exc c h'):E.ev cl (.tup es p) ρ h=.exc c h':=bnd_x a
theorem add_x {a b:E} {x:D} {p:Pos} (ea:a.ev cl ρ h=.ok x h') (eb:b.ev cl ρ h'=.exc c h2):E.ev cl (.bin .Add a b p) ρ h=.exc c h2:=bnd ea (bnd_x eb)
noncomputable def callT (n:Nat):List Th->Option D
  | f :: r=>(nameT f).bind fun x=>(allO (r.map (exT n))).map fun ds=>.tup [.str "call",.str x,.non,.tup ds]
  | []=>none
noncomputable def handT (n:Nat):List Th->Option D
  | f :: g :: r=>(nameT f).bind fun x=>(nameT g).bind fun y=>(allO (r.map (exT n))).map fun ds=>.tup [.str "call",.str x,.str y,.tup ds]
  | _=>none
theorem r_call_of_g {n:Nat} (N:NameG cl) (X:ExsG cl n) (ts:List Th) (h:Hh) (m:Nat) (ds:List D) (lt:ts.length<=1000) (ht:Th.tws ts) (hd:Th.dps ts<=n) (g:h[m]?=some (.lst ds)) (a:Ats h ts ds) :
    ∃ J,d_call_of.run cl [.loc m] h=rs (callT n ts) (h ++ J):=by
  have nl:nilD false (.loc m) h=.ok (.bl ts.isEmpty) h:=by
    unfold nilD
    dsimp only
    rw [rd_of g]
    have le:=ats_len a
    cases ts with
    | nil=>cases ds with | nil=>rfl | cons d r=>cases le
    | cons t r=>cases ds with | nil=>cases le | cons d r=>rfl
  cases ts with
  | nil =>
    refine ⟨[],?_⟩
    rw [List.append_nil]
    exact out_ex (iff_x (h':=h) (bnd (x:=.bl true) (bnd rfl nl) rfl) (rais_x rfl))
  | cons f r =>
    rw [Ats] at a
    obtain ⟨d,es,rfl,a1,a2⟩:=a
    rw [Th.tws] at ht
    rw [Th.dps] at hd
    have c0:E.evT cl (.cmpN false (.var 0 ⟨95,7,95,13⟩) ⟨95,17,95,19⟩ ⟨95,7,95,19⟩) [some (.loc m)] h=.ok false h:=bnd (x:=.bl false) (bnd rfl nl) rfl
    obtain ⟨J1,e1⟩:=N f h d ht.1 a1
    have s0:E.ev cl (.sub (.var 0 ⟨97,28,97,34⟩) (.int 0 ⟨97,35,97,36⟩) ⟨97,28,97,37⟩) [some (.loc m)] h=.ok d h:=bnd rfl (bnd rfl (sub_l (k:=0) g rfl))
    show ∃ J,_=rs ((nameT f).bind _) _
    cases o:nameT f with
    | none =>
      rw [o] at e1
      exact ⟨J1,out_ex (iff_f c0 (ret_x (tup_x (es_x2 rfl (es_x1 (call_1 (bnd rfl (bnd rfl (sub_l (k:=0) g rfl))) e1))))))⟩
    | some x =>
      rw [o] at e1
      have g1:(h ++ J1)[m]?=some (O.lst (d :: es)):=get_old g
      obtain ⟨J2,e2⟩:=X r (h ++ J1 ++ [.lst es]) (h ++ J1).length es (by simp at lt; omega) ht.2 (by omega) (by rw [hx0]; rfl) (Ats.gr (Ats.gr a2))
      refine ⟨J1 ++ ([.lst es] ++ J2),?_⟩
      rw [<- List.append_assoc,<- List.append_assoc]
      show _=rs ((allO (r.map (exT n))).map _) _
      cases o2:allO (r.map (exT n)) with
      | none =>
        rw [o2] at e2
        exact out_ex (iff_f c0 (ret_x (tup_x (es_x2 rfl (es_x2 (call_1 (bnd rfl (bnd rfl (sub_l (k:=0) g rfl))) e1) (es_x2 rfl (es_x1 (call_1 (bnd rfl (bnd rfl (bnd rfl (cut_l (k:=1) g1)))) e2))))))))
      | some l =>
        rw [o2] at e2
        exact out_rt (iff_f c0 (ret_r (tup_s (es_c rfl (es_c (call_1 (bnd rfl (bnd rfl (sub_l (k:=0) g rfl))) e1) (es_c rfl (es_c (call_1 (bnd rfl (bnd rfl (bnd rfl (cut_l (k:=1) g1)))) e2) rfl)))) (Nat.le_of_ble_eq_true rfl))))
theorem r_hand_of_g {n:Nat} (N:NameG cl) (X:ExsG cl n) (ts:List Th) (h:Hh) (m:Nat) (ds:List D) (lt:ts.length<=1000) (ht:Th.tws ts) (hd:Th.dps ts<=n) (g:h[m]?=some (.lst ds)) (a:Ats h ts ds) :
    ∃ J,d_hand_of.run cl [.loc m] h=rs (handT n ts) (h ++ J):=by
  have le:=ats_len a
  have l1:lenD (.loc m) h=.ok (.int (ts.length:Nat)) h:=(len_l g).trans (by rw [le])
  by_cases z:ts.length < 2
  · have hn:handT n ts=none:=by
      match ts,z with
      | [],_=>rfl
      | [t],_=>rfl
    refine ⟨[],?_⟩
    rw [hn,List.append_nil]
    exact out_ex (iff_x (t_cmp (bnd rfl l1) rfl (by rw [cmp_lt]; congr 2; exact decide_eq_true (by omega))) (rais_x rfl))
  · have c0:E.evT cl (.cmp .Lt (.len (.var 0 ⟨99,11,99,17⟩) ⟨99,7,99,10⟩ ⟨99,7,99,18⟩) (.int 2 ⟨99,21,99,22⟩) ⟨99,7,99,22⟩) [some (.loc m)] h=.ok false h:=t_cmp (bnd rfl l1) rfl (by rw [cmp_lt]; congr 2; exact decide_eq_false (by omega))
    match ts,z,lt,ht,hd,a with
    | f :: f2 :: r,z,lt,ht,hd,a =>
      rw [Ats] at a
      obtain ⟨d,es,rfl,a1,a⟩:=a
      rw [Ats] at a
      obtain ⟨d2,es,rfl,a2,a3⟩:=a
      rw [Th.tws,Th.tws] at ht
      rw [Th.dps,Th.dps] at hd
      obtain ⟨J1,e1⟩:=N f h d ht.1 a1
      show ∃ J,_=rs ((nameT f).bind _) _
      cases o:nameT f with
      | none =>
        rw [o] at e1
        exact ⟨J1,out_ex (iff_f c0 (ret_x (tup_x (es_x2 rfl (es_x1 (call_1 (bnd rfl (bnd rfl (sub_l (k:=0) g rfl))) e1))))))⟩
      | some x =>
        rw [o] at e1
        have g1:(h ++ J1)[m]?=some (O.lst (d :: d2 :: es)):=get_old g
        obtain ⟨J2,e2⟩:=N f2 (h ++ J1) d2 ht.2.1 (At.gr a2)
        show ∃ J,_=rs ((nameT f2).bind _) _
        cases o2:nameT f2 with
        | none =>
          rw [o2] at e2
          refine ⟨J1 ++ J2,?_⟩
          rw [<- List.append_assoc]
          exact out_ex (iff_f c0 (ret_x (tup_x (es_x2 rfl (es_x2 (call_1 (bnd rfl (bnd rfl (sub_l (k:=0) g rfl))) e1) (es_x1 (call_1 (bnd rfl (bnd rfl (sub_l (k:=1) g1 rfl))) e2)))))))
        | some y =>
          rw [o2] at e2
          have g2:(h ++ J1 ++ J2)[m]?=some (O.lst (d :: d2 :: es)):=get_old g1
          obtain ⟨J3,e3⟩:=X r (h ++ J1 ++ J2 ++ [.lst es]) (h ++ J1 ++ J2).length es (by simp at lt; omega) ht.2.2 (by omega) (by rw [hx0]; rfl) (Ats.gr (Ats.gr (Ats.gr a3)))
          refine ⟨J1 ++ (J2 ++ ([.lst es] ++ J3)),?_⟩
          rw [<- List.append_assoc,<- List.append_assoc,<- List.append_assoc]
          show _=rs ((allO (r.map (exT n))).map _) _
          cases o3:allO (r.map (exT n)) with
          | none =>
            rw [o3] at e3
            exact out_ex (iff_f c0 (ret_x (tup_x (es_x2 rfl (es_x2 (call_1 (bnd rfl (bnd rfl (sub_l (k:=0) g rfl))) e1) (es_x2 (call_1 (bnd rfl (bnd rfl (sub_l (k:=1) g1 rfl))) e2) (es_x1 (call_1 (bnd rfl (bnd rfl (bnd rfl (cut_l (k:=2) g2)))) e3))))))))
          | some l =>
            rw [o3] at e3
            exact out_rt (iff_f c0 (ret_r (tup_s (es_c rfl (es_c (call_1 (bnd rfl (bnd rfl (sub_l (k:=0) g rfl))) e1) (es_c (call_1 (bnd rfl (bnd rfl (sub_l (k:=1) g1 rfl))) e2) (es_c (call_1 (bnd rfl (bnd rfl (bnd rfl (cut_l (k:=2) g2)))) e3) rfl)))) (Nat.le_of_ble_eq_true rfl))))
    | [],z,_,_,_,_=>exact absurd (by simp) z
    | [t],z,_,_,_,_=>exact absurd (by simp) z
end
end K11
set_option Elab.async false
set_option linter.all false
set_option maxRecDepth 100000
set_option maxHeartbeats 4000000
namespace K11
open PySem L2 PI
theorem sg_mem {z:Str} {c:Nat} (h:sgIn z c=true):c ∈ cs z:=by
  unfold sgIn at h
  obtain ⟨f,ch⟩:=StrLaws.occ_chain z ⟨#[c]⟩ 1
  cases e:Builtin.Str.occurrences z ⟨#[c]⟩ 0 z.length 1 with
  | nil=>rw [e] at h; cases h
  | cons i r =>
    rw [e] at ch
    have a:StrLaws.At z ⟨#[c]⟩ z.length i:=ch.2.1
    exact List.mem_of_getElem? ((StrLaws.subAt_one z c i).mp a)
theorem fig_mem {c:Nat} (h:sgIn figS c=true):48<=c /\ c<=57:=by
  have:=sg_mem h
  have e:cs figS=[48,49,50,51,52,53,54,55,56,57]:=by decide
  rw [e] at this
  simp at this
  omega
theorem num_int {x:Str} (h:numB x=true):∃ n,PySem.intText? x=some n /\ (cs x).length<=18:=by
  unfold numB at h
  split at h
  · cases h
  · rename_i e
    split at h
    · cases h
    · rename_i l
      split at h
      · cases h
      · have ne:cs x ≠ []:=fun q=>e (by rw [show x="" from cs_inj q]; decide)
        exact ⟨_,PySem.intText_digits (x:=x) (fun c hc=>fig_mem (List.all_eq_true.mp h c hc)) ne (by rw [cs_len]; omega),by omega⟩
section
variable {cl:Nat->List D->Hh->Res D} {ρ:En} {h h' h2:Hh} {c:Nat}
noncomputable def headT:Th->Option Str
  | .l (.w x :: _)=>some x
  | _=>none
noncomputable def HeadG (cl:Nat->List D->Hh->Res D):Prop:=∀ t h d,t.tw->At h t d->cl 15 [d] h=rs ((headT t).map .str) h
theorem r_head_of_g (t:Th) (h:Hh) (d:D) (ht:t.tw) (a:At h t d):d_head_of.run cl [d] h=rs ((headT t).map .str) h:=by
  match t,ht,a with
  | .w x,ht,a =>
    rw [At] at a
    rw [Th.tw] at ht
    subst a
    show d_head_of.run cl [.str x] h=.exc 1 h
    exact out_ex (iff_x (h':=h) (bnd (x:=.bl true) (bnd rfl rfl) rfl) (rais_x (fine_2 ht.fine)))
  | .l [],ht,a =>
    rw [At] at a
    obtain ⟨n,ds,rfl,g,a⟩:=a
    rw [Ats] at a
    subst a
    show d_head_of.run cl [.loc n] h=.exc 1 h
    have nl:nilD false (.loc n) h=.ok (.bl true) h:=by unfold nilD; dsimp only; rw [rd_of g]; rfl
    exact out_ex (iff_f (h':=h) (isi_l rfl g) (iff_x (h':=h) (t_orT (bnd (x:=.bl true) (bnd rfl nl) rfl)) (rais_x rfl)))
  | .l (.l ts :: r),ht,a =>
    rw [At] at a
    obtain ⟨n,ds,rfl,g,a⟩:=a
    rw [Ats] at a
    obtain ⟨d,es,rfl,a1,_⟩:=a
    rw [At] at a1
    obtain ⟨n2,ds2,rfl,g2,_⟩:=a1
    show d_head_of.run cl [.loc n] h=.exc 1 h
    have nl:nilD false (.loc n) h=.ok (.bl false) h:=by unfold nilD; dsimp only; rw [rd_of g]; rfl
    have i2:isI h (.loc n2) 2=some false:=by unfold isI; dsimp only; rw [rd_of g2]; rfl
    exact out_ex (iff_f (h':=h) (isi_l rfl g) (iff_x (h':=h) (t_or (bnd (x:=.bl false) (bnd rfl nl) rfl) (t_not (b:=false) (bnd (x:=.bl false) (bnd (bnd rfl (bnd rfl (sub_l (k:=0) g rfl))) (by rw [i2])) rfl))) (rais_x rfl)))
  | .l (.w x :: r),ht,a =>
    rw [At] at a
    obtain ⟨n,ds,rfl,g,a⟩:=a
    rw [Ats] at a
    obtain ⟨d,es,rfl,a1,_⟩:=a
    rw [At] at a1
    subst a1
    exact r_head_of g
structure ExGC (cl:Nat->List D->Hh->Res D) (n:Nat):Prop where
  hd:HeadG cl
  nb:IsNumG cl
  nm:NameG cl
  fo:FormG cl n
  ca:∀ ts h m ds,ts.length<=1000->Th.tws ts->Th.dps ts<=n->h[m]?=some (.lst ds)->Ats h ts ds->∃ J,cl 12 [.loc m] h=rs (callT n ts) (h ++ J)
  ha:∀ ts h m ds,ts.length<=1000->Th.tws ts->Th.dps ts<=n->h[m]?=some (.lst ds)->Ats h ts ds->∃ J,cl 13 [.loc m] h=rs (handT n ts) (h ++ J)
theorem exw (n:Nat) (x:Str):exT n (.w x)=if numB x then some (numT x) else (nameT (.w x)).map fun y=>.tup [.str "var",.str y]:=by cases n <;> rfl
theorem r_expr_w (Nb:IsNumG cl) (N:NameG cl) (n:Nat) (x:Str) (t:Tw x) (h:Hh):∃ J,d_expression_of.run cl [.str x] h=rs (exT n (.w x)) (h ++ J):=by
  obtain ⟨J1,e1⟩:=Nb x h t
  rw [exw]
  cases b:numB x with
  | true =>
    rw [b] at e1
    obtain ⟨k,hk,hl⟩:=num_int b
    refine ⟨J1,?_⟩
    have c:c1D .int (.str x) (h ++ J1)=.ok (.int k) (h ++ J1):=by
      unfold c1D
      dsimp only
      rw [hk]
      exact if_pos (by rw [cs_len]; omega)
    have nt:numT x=.tup [.str "num",.int k]:=by unfold numT; rw [hk]
    show _=Res.ok (numT x) _
    rw [nt]
    exact out_rt (iff_r (h':=h) (bnd (x:=.bl true) (bnd rfl rfl) rfl) (ret_r (ite_t (bnd (x:=.bl true) (call_1 rfl e1) rfl) (tup_s (es_c rfl (es_c (bnd rfl c) rfl)) (Nat.le_of_ble_eq_true rfl)))))
  | false =>
    rw [b] at e1
    obtain ⟨J2,e2⟩:=N (.w x) (h ++ J1) (.str x) (by rw [Th.tw]; exact t) (by rw [At])
    refine ⟨J1 ++ J2,?_⟩
    rw [<- List.append_assoc]
    show _=rs ((nameT (.w x)).map _) _
    cases o:nameT (.w x) with
    | none =>
      rw [o] at e2
      exact out_ex (iff_x (h':=h) (bnd (x:=.bl true) (bnd rfl rfl) rfl) (ret_x (ite_f (bnd (x:=.bl false) (call_1 rfl e1) rfl) (tup_x (es_x2 rfl (es_x1 (call_1 rfl e2)))))))
    | some y =>
      rw [o] at e2
      exact out_rt (iff_r (h':=h) (bnd (x:=.bl true) (bnd rfl rfl) rfl) (ret_r (ite_f (bnd (x:=.bl false) (call_1 rfl e1) rfl) (tup_s (es_c rfl (es_c (call_1 rfl e2) rfl)) (Nat.le_of_ble_eq_true rfl)))))
end
end K11
set_option Elab.async false
set_option linter.all false
set_option maxRecDepth 100000
set_option maxHeartbeats 4000000
namespace K11
open PySem L2 PI
theorem alike_form {w:Str} (h:g_ALIKE.any (fun y=>y == w)=true):∃ ks,g_FORMS.lookup w=some (.tup ks) /\ (∀ k ∈ ks,k=("name":Str) \/ k="part") /\ ks.length<=100:=by
  obtain ⟨y,hy,e⟩:=List.any_eq_true.mp h
  have e:y=w:=eq_of_beq e
  subst e
  simp only [g_ALIKE,List.mem_cons,List.not_mem_nil,or_false] at hy
  rcases hy with rfl | rfl | rfl | rfl | rfl | rfl
  · exact ⟨["name","part","part"],rfl,by simp,by simp⟩
  · exact ⟨["part","part","part"],rfl,by simp,by simp⟩
  · exact ⟨["name","part"],rfl,by simp,by simp⟩
  · exact ⟨["name","part","part"],rfl,by simp,by simp⟩
  · exact ⟨["part","part"],rfl,by simp,by simp⟩
  · exact ⟨["part","part"],rfl,by simp,by simp⟩
section
variable {cl:Nat->List D->Hh->Res D}
theorem fine_3 {t:Str} {i:Nat} {p0 p1 p2 p3:Pos} {ρ:En} (hx:(match ρ[i]? with | some (some (.str z))=>decide (z.length<=1000) && PyData.strOk z | _=>false)=true) (ht:decide (t.length<=1000)=true:=by decide):(Ms.f (.c t p2) (.r i p0 p1) [] p3).fine ρ=true:=by
  show (decide (t.length<=1000) && (match ρ[i]? with | some (some (.str z))=>decide (z.length<=1000) && PyData.strOk z | _=>false) && true && decide (0<=10))=true
  rw [hx,ht]; rfl
theorem len_form {e:Th->Option D} {ks:List Str} {ts:List Th} {ds:List D} (h:formT e ks ts=some ds):ds.length=ks.length:=by
  unfold formT at h
  split at h
  · cases h
  · rename_i z
    have z:ts.length=ks.length:=by simpa using z
    have al:∀ {l:List (Option D)} {r:List D},allO l=some r->r.length=l.length:=by
      intro l
      induction l with
      | nil=>intro r q; cases q; rfl
      | cons o l ih =>
        intro r q
        cases o with
        | none=>cases q
        | some v =>
          have q:(allO l).map (v :: ·)=some r:=q
          cases q2:allO l with
          | none=>rw [q2] at q; cases q
          | some r2=>rw [q2] at q; cases q; simp [ih q2]
    rw [al h]; simp; omega
theorem r_expr_g {n:Nat} (C:ExGC cl n) (t:Th) (h:Hh) (d:D) (ht:t.tw) (hd:t.dp<=n + 1) (a:At h t d):∃ J,d_expression_of.run cl [d] h=rs (exT (n + 1) t) (h ++ J):=by
  cases t with
  | w x =>
    rw [At] at a
    rw [Th.tw] at ht
    subst a
    exact r_expr_w C.nb C.nm (n + 1) x ht h
  | l ts =>
    have hh:=C.hd (.l ts) h d ht a
    rw [At] at a
    obtain ⟨m,ds,rfl,g,a⟩:=a
    rw [Th.tw] at ht
    rw [Th.dp] at hd
    have st:E.evT cl (.isi 2 (.var 0 ⟨82,18,82,23⟩) ⟨82,7,82,17⟩ ⟨82,25,82,28⟩ ⟨82,7,82,29⟩) [some (.loc m),none] h=.ok false h:=isi_l rfl g
    match ts,ht,hd,a,hh with
    | [],_,_,_,hh =>
      refine ⟨[],?_⟩
      rw [List.append_nil]
      exact out_ex (iff_f st (set_x (call_1 rfl hh)))
    | .l us :: r,_,_,_,hh =>
      refine ⟨[],?_⟩
      rw [List.append_nil]
      exact out_ex (iff_f st (set_x (call_1 rfl hh)))
    | .w w :: r,ht,hd,a,hh =>
      rw [Ats] at a
      obtain ⟨d1,es,rfl,a1,a2⟩:=a
      rw [At] at a1
      subst a1
      have tr:=ht.2
      rw [Th.tws,Th.tw] at tr
      rw [Th.dps,Th.dp] at hd
      have lr:r.length<=1000:=by have:=ht.1; simp at this; omega
      have dr:Th.dps r<=n:=by omega
      have g1:(h ++ [O.lst es])[h.length]?=some (.lst es):=by rw [hx0]; rfl
      have a3:Ats (h ++ [O.lst es]) r es:=Ats.gr a2
      have cu:∀ {p p1 p2 p3:Pos},E.ev cl (.cut (.var 0 p) (.some (.int 1 p1)) .none p2 p3) [some (.loc m),some (.str w)] h=.ok (.loc h.length) (h ++ [O.lst es]):=bnd rfl (bnd rfl (bnd rfl (cut_l (k:=1) g)))
      have go:∀ {o:RS},Ss.run cl (dropS 2 d_expression_of.body) [some (.loc m),some (.str w)] h=o->d_expression_of.run cl [.loc m] h=outR o:=fun k=>by
        show outR _=_
        rw [<- k]
        exact congrArg outR (iff_f st (set_s (call_1 rfl hh) rfl))
      by_cases q1:g_SIGNS.any (fun y=>y == w)=true
      · have ex:exT (n + 1) (.l (.w w :: r))=(formT (exT n) ["part","part"] r).map fun ds=>.tup ([.str "op",.str w] ++ ds):=if_pos q1
        obtain ⟨J,e⟩:=C.fo ["part","part"] r (h ++ [O.lst es]) h.length es (by simp) (by simp) lr tr.2 dr g1 a3
        refine ⟨[O.lst es] ++ J,?_⟩
        rw [ex,<- List.append_assoc]
        cases o:formT (exT n) ["part","part"] r with
        | none =>
          rw [o] at e
          exact go (iff_x (t_cmp rfl rfl (in_t q1)) (ret_x (add_x (x:=.tup [.str "op",.str w]) rfl (call_2 cu (y:=.tup [.str "part",.str "part"]) (bnd rfl (bnd rfl (bnd rfl rfl))) e))))
        | some l =>
          rw [o] at e
          have ll:=len_form o
          exact go (iff_r (t_cmp rfl rfl (in_t q1)) (ret_r (add_t (xs:=[.str "op",.str w]) rfl (call_2 cu (y:=.tup [.str "part",.str "part"]) (bnd rfl (bnd rfl (bnd rfl rfl))) e) (by rw [ll]; exact Nat.le_of_ble_eq_true rfl))))
      · have q1':g_SIGNS.any (fun y=>y == w)=false:=(Bool.not_eq_true _).mp q1
        by_cases q2:g_ALIKE.any (fun y=>y == w)=true
        · obtain ⟨ks,lk,kk,kl⟩:=alike_form q2
          have ex:exT (n + 1) (.l (.w w :: r))=(formT (exT n) ks r).map fun ds=>.tup ([.str w] ++ ds):=(if_neg q1).trans ((if_pos q2).trans (by rw [lk]))
          obtain ⟨J,e⟩:=C.fo ks r (h ++ [O.lst es]) h.length es kk kl lr tr.2 dr g1 a3
          have gs:∀ {p p1 p2:Pos} {H:Hh},E.ev cl (.gsub "FORMS" g_FORMS (.var 1 p) p1 p2) [some (.loc m),some (.str w)] H=.ok (.tup (ks.map .str)) H:=fun {p p1 p2 H}=>bnd rfl (by show cstD g_FORMS (.str w) H=_; unfold cstD; dsimp only; rw [lk]; rfl)
          refine ⟨[O.lst es] ++ J,?_⟩
          rw [ex,<- List.append_assoc]
          cases o:formT (exT n) ks r with
          | none =>
            rw [o] at e
            exact go (iff_f (t_cmp rfl rfl (in_t q1')) (iff_x (t_cmp rfl rfl (in_t q2)) (ret_x (add_x (x:=.tup [.str w]) rfl (call_2 cu gs e)))))
          | some l =>
            rw [o] at e
            have ll:=len_form o
            exact go (iff_f (t_cmp rfl rfl (in_t q1')) (iff_r (t_cmp rfl rfl (in_t q2)) (ret_r (add_t (xs:=[.str w]) rfl (call_2 cu gs e) (by rw [ll]; show 1 + _<=_; omega)))))
        · have q2':g_ALIKE.any (fun y=>y == w)=false:=(Bool.not_eq_true _).mp q2
          have ex0:exT (n + 1) (.l (.w w :: r))=if (w == ("call":Str))=true then callT n r else if (w == ("hand":Str))=true then handT n r else none:=by
            refine (if_neg q1).trans ((if_neg q2).trans ?_)
            cases r with
            | nil=>rfl
            | cons f r=>cases r <;> rfl
          by_cases q3:(w == ("call":Str))=true
          · rw [if_pos q3] at ex0
            obtain ⟨J,e⟩:=C.ca r (h ++ [O.lst es]) h.length es lr tr.2 dr g1 a3
            refine ⟨[O.lst es] ++ J,?_⟩
            rw [ex0,<- List.append_assoc]
            cases o:callT n r with
            | none=>rw [o] at e; exact go (iff_f (t_cmp rfl rfl (in_t q1')) (iff_f (t_cmp rfl rfl (in_t q2')) (iff_x (t_cmp rfl rfl (by rw [eqS tr.1.ok so_call,q3])) (ret_x (call_1 cu e)))))
            | some l=>rw [o] at e; exact go (iff_f (t_cmp rfl rfl (in_t q1')) (iff_f (t_cmp rfl rfl (in_t q2')) (iff_r (t_cmp rfl rfl (by rw [eqS tr.1.ok so_call,q3])) (ret_r (call_1 cu e)))))
          · rw [if_neg q3] at ex0
            have q3':(w == ("call":Str))=false:=(Bool.not_eq_true _).mp q3
            by_cases q4:(w == ("hand":Str))=true
            · rw [if_pos q4] at ex0
              obtain ⟨J,e⟩:=C.ha r (h ++ [O.lst es]) h.length es lr tr.2 dr g1 a3
              refine ⟨[O.lst es] ++ J,?_⟩
              rw [ex0,<- List.append_assoc]
              cases o:handT n r with
              | none=>rw [o] at e; exact go (iff_f (t_cmp rfl rfl (in_t q1')) (iff_f (t_cmp rfl rfl (in_t q2')) (iff_f (t_cmp rfl rfl (by rw [eqS tr.1.ok so_call,q3'])) (iff_x (t_cmp rfl rfl (by rw [eqS tr.1.ok so_hand,q4])) (ret_x (call_1 cu e))))))
              | some l=>rw [o] at e; exact go (iff_f (t_cmp rfl rfl (in_t q1')) (iff_f (t_cmp rfl rfl (in_t q2')) (iff_f (t_cmp rfl rfl (by rw [eqS tr.1.ok so_call,q3'])) (iff_r (t_cmp rfl rfl (by rw [eqS tr.1.ok so_hand,q4])) (ret_r (call_1 cu e))))))
            · rw [if_neg q4] at ex0
              have q4':(w == ("hand":Str))=false:=(Bool.not_eq_true _).mp q4
              refine ⟨[],?_⟩
              rw [ex0,List.append_nil]
              exact go (iff_f (t_cmp rfl rfl (in_t q1')) (iff_f (t_cmp rfl rfl (in_t q2')) (iff_f (t_cmp rfl rfl (by rw [eqS tr.1.ok so_call,q3'])) (iff_f (t_cmp rfl rfl (by rw [eqS tr.1.ok so_hand,q4'])) (rais_x (fine_3 tr.1.fine))))))
end
end K11
set_option Elab.async false
set_option linter.all false
set_option maxRecDepth 100000
set_option maxHeartbeats 4000000
namespace K11
open PySem L2 PI
noncomputable def fnD (f:Str) (e:D):D:=.tup [.str "def",.str f,.tup [],.non,e]
noncomputable def fnTh (f:Str) (t:Th):Th:=.l [.w "def",.w f,.l [],t]
section
variable {cl:Nat->List D->Hh->Res D}
theorem r_function_g {n:Nat} (C17:NameOf cl) (C16:NamesAt cl) (EX:ExG cl n) (f:Str) (t:Th) (hf:Nm f) (ht:t.tw) (hd:t.dp<=n) (h:Hh) (m:Nat) (ds:List D) (gn:h[m]?=some (.lst ds)) (a:Ats h [.w f,.l [],t] ds) :
    ∃ J,d_function_of.run cl [.loc m] h=rs ((exT n t).map (fnD f)) (h ++ J):=by
  rw [Ats] at a
  obtain ⟨e1,ds,rfl,a1,a⟩:=a
  rw [At] at a1
  rw [Ats] at a
  obtain ⟨e2,ds,rfl,a2,a⟩:=a
  rw [At] at a2
  obtain ⟨k,es,rfl,gk,a2⟩:=a2
  rw [Ats] at a2
  obtain ⟨dg,rfl,a3⟩:=ats_1 a
  subst a1 a2
  obtain ⟨J1,c1⟩:=C17 f h hf
  obtain ⟨J2,c2⟩:=C16 k [] (h ++ J1) (get_old gk) (by simp) (by simp)
  obtain ⟨J3,c3⟩:=EX t (h ++ J1 ++ J2) dg ht hd (At.gr (At.gr a3))
  refine ⟨J1 ++ (J2 ++ J3),?_⟩
  rw [<- List.append_assoc,<- List.append_assoc]
  have s0:∀ {p p1 p2 p3 p4:Pos},E.ev cl (.call 17 (.sub (.var 0 p) (.int 0 p1) p2) .nil p3 p4) [some (.loc m),some .non] h=.ok (.str f) (h ++ J1):=call_1 (bnd rfl (bnd rfl (sub_l (k:=0) gn rfl))) c1
  have s1:∀ {p p1 p2 p3 p4:Pos},E.ev cl (.call 16 (.sub (.var 0 p) (.int 1 p1) p2) .nil p3 p4) [some (.loc m),some .non] (h ++ J1)=.ok (.tup []) (h ++ J1 ++ J2):=call_1 (bnd rfl (bnd rfl (sub_l (k:=1) (get_old gn) rfl))) c2
  cases o:exT n t with
  | none =>
    rw [o] at c3
    exact out_ex (iff_f (h':=h) (t_cmp (bnd rfl (len_l gn)) rfl rfl) (set_s (d:=.non) (ite_f (t_cmp (bnd rfl (len_l gn)) rfl rfl) rfl) (ret_x (tup_x (es_x2 rfl (es_x2 s0 (es_x2 s1 (es_x2 rfl (es_x1 (call_1 (bnd rfl (bnd rfl (sub_m (xs:=[.str f,.loc k]) (get_old (get_old gn))))) c3))))))))))
  | some e =>
    rw [o] at c3
    exact out_rt (iff_f (h':=h) (t_cmp (bnd rfl (len_l gn)) rfl rfl) (set_s (d:=.non) (ite_f (t_cmp (bnd rfl (len_l gn)) rfl rfl) rfl) (ret_r (tup_s (es_c rfl (es_c s0 (es_c s1 (es_c rfl (es_c (call_1 (bnd rfl (bnd rfl (sub_m (xs:=[.str f,.loc k]) (get_old (get_old gn))))) c3) rfl))))) (Nat.le_of_ble_eq_true rfl)))))
theorem r_item_g {n:Nat} (C15:HeadOf cl) (f:Str) (t:Th) (C:∀ h m ds,h[m]?=some (.lst ds)->Ats h [.w f,.l [],t] ds->∃ J,cl 6 [.loc m] h=rs ((exT n t).map (fnD f)) (h ++ J)) (h:Hh) (d:D) (a:At h (fnTh f t) d):∃ J,d_item_of.run cl [d] h=rs ((exT n t).map (fnD f)) (h ++ J):=by
  rw [fnTh,At] at a
  obtain ⟨m,ds,rfl,g,a⟩:=a
  rw [Ats] at a
  obtain ⟨e,ds,rfl,a1,a⟩:=a
  rw [At] at a1
  subst a1
  obtain ⟨J,e⟩:=C (h ++ [.lst ds]) h.length ds (by rw [hx0]; rfl) (Ats.gr a)
  refine ⟨[.lst ds] ++ J,?_⟩
  rw [<- List.append_assoc]
  cases o:exT n t with
  | none=>rw [o] at e; exact out_ex (set_s (call_1 rfl (C15 m _ ds h g)) (iff_x (t_cmp rfl rfl (eqS so_def so_def)) (ret_x (call_1 (bnd rfl (bnd rfl (bnd rfl (cut_l (k:=1) g)))) e))))
  | some v=>rw [o] at e; exact out_rt (set_s (call_1 rfl (C15 m _ ds h g)) (iff_r (t_cmp rfl rfl (eqS so_def so_def)) (ret_r (call_1 (bnd rfl (bnd rfl (bnd rfl (cut_l (k:=1) g)))) e))))
theorem r_read_g {n:Nat} (x f:Str) (t:Th) (h:Hh) (C3:∃ n J,cl 3 [.str x] h=.ok (.loc n) (h ++ J) /\ (h ++ J)[n]?=some (.lst ((Th.wss [fnTh f t]).map D.str))) (C4:NestedAt cl [fnTh f t]) (C5:∀ h d,At h (fnTh f t) d->∃ J,cl 5 [d] h=rs ((exT n t).map (fnD f)) (h ++ J)) :
    ∃ J,d_read.run cl [.str x] h=rs ((exT n t).map fun e=>.tup [fnD f e]) (h ++ J):=by
  obtain ⟨k,J1,e1,g1⟩:=C3
  obtain ⟨m,ds,J2,e2,g2,a⟩:=C4 k (h ++ J1) g1
  have le:=ats_len a
  obtain ⟨J3,e3⟩:=comp_ref id (fun _=>(exT n t).map (fnD f)) (fun _ d=>d) (f:=compF t_read_1 (capE [none] [some (.str x)]) (fun ρ' h2=>c_read_1.evC cl ρ' h2) (fun ρ' h2=>e_read_1.ev cl ρ' h2)) (n:=m) (all:=ds) [fnTh f t] ds [] (h ++ J1 ++ J2) (rd_of g2) a (by
    intro s hs h d a
    rw [List.mem_singleton.mp hs] at a
    obtain ⟨J,e⟩:=C5 h d a
    refine ⟨J,?_⟩
    show ((cl 5 [d] h).bind fun y h2=>Res.ok (some y) h2)=_
    rw [e]
    cases exT n t <;> rfl)
  rw [zip_snd [fnTh f t] ds le] at e3
  refine ⟨J1 ++ (J2 ++ J3),?_⟩
  rw [<- List.append_assoc,<- List.append_assoc]
  have ll:ds.length<=1000000:=by rw [le]; exact Nat.le_of_ble_eq_true rfl
  cases o:exT n t with
  | none=>rw [o] at e3; exact out_ex (ret_x (bnd_x (bnd (seq_loc (call_1 (call_1 rfl e1) e2) (rd_of g2)) ((if_pos ll).trans e3))))
  | some v=>rw [o] at e3; exact out_rt (ret_r (bnd (bnd (seq_loc (call_1 (call_1 rfl e1) e2) (rd_of g2)) ((if_pos ll).trans e3)) rfl))
end
theorem i_isname (k:Nat):IsName (callI defs (k + 1)):=fun x h m=>by
  obtain ⟨J,e⟩:=r_is_name (cl:=callI defs k) m h
  exact ⟨J,(callI_succ (d:=d_is_name) rfl rfl).trans e⟩
theorem i_nameof (k:Nat):NameOf (callI defs (k + 2)):=fun x h m=>by
  obtain ⟨J,e⟩:=r_name_of (cl:=callI defs (k + 1)) (i_isname k) m h
  exact ⟨J,(callI_succ (d:=d_name_of) rfl rfl).trans e⟩
theorem i_headof (k:Nat):HeadOf (callI defs (k + 1)):=fun n w r h g=>(callI_succ (d:=d_head_of) rfl rfl).trans (r_head_of (cl:=callI defs k) g)
theorem i_names (k:Nat):NamesAt (callI defs (k + 3)):=fun n ps h g m l=>by
  obtain ⟨J,e⟩:=r_names_of (cl:=callI defs (k + 2)) (i_nameof k) g m l
  exact ⟨J,(callI_succ (d:=d_names_of) rfl rfl).trans e⟩
theorem i_isnameg (k:Nat):IsNameG (callI defs (k + 1)):=fun x h t=>by
  obtain ⟨J,e⟩:=r_is_name_g (cl:=callI defs k) t h
  exact ⟨J,(callI_succ (d:=d_is_name) rfl rfl).trans e⟩
theorem i_isnumg (k:Nat):IsNumG (callI defs (k + 1)):=fun x h t=>by
  obtain ⟨J,e⟩:=r_is_number_g (cl:=callI defs k) t h
  exact ⟨J,(callI_succ (d:=d_is_number) rfl rfl).trans e⟩
theorem i_nameg (k:Nat):NameG (callI defs (k + 2)):=fun t h d ht a=>by
  obtain ⟨J,e⟩:=r_name_of_g (cl:=callI defs (k + 1)) (i_isnameg k) t h d ht a
  exact ⟨J,(callI_succ (d:=d_name_of) rfl rfl).trans e⟩
theorem i_headg (k:Nat):HeadG (callI defs (k + 1)):=fun t h d ht a=>(callI_succ (d:=d_head_of) rfl rfl).trans (r_head_of_g (cl:=callI defs k) t h d ht a)
theorem i_formg (k n:Nat) (E:ExG (callI defs (k + 2)) n):FormG (callI defs (k + 4)) n:=fun ks ts h m ds hk lk lt ht hd g a=>by
  obtain ⟨J,e⟩:=r_formed_g (cl:=callI defs (k + 3)) (fun k' t h d hk ht hd a=>by
    obtain ⟨J,e⟩:=r_read_as_g (cl:=callI defs (k + 2)) (i_nameg k) E k' t h d hk ht hd a
    exact ⟨J,(callI_succ (d:=d_read_as) rfl rfl).trans e⟩) ks ts h m ds hk lk lt ht hd g a
  exact ⟨J,(callI_succ (d:=d_formed) rfl rfl).trans e⟩
theorem i_exsg (k n:Nat) (E:ExG (callI defs (k + 2)) n):ExsG (callI defs (k + 3)) n:=fun ts h m ds lt ht hd g a=>by
  obtain ⟨J,e⟩:=r_exprs_g (cl:=callI defs (k + 2)) E ts h m ds lt ht hd g a
  exact ⟨J,(callI_succ (d:=d_expressions_of) rfl rfl).trans e⟩
theorem i_exgc (k n:Nat) (E:ExG (callI defs (k + 2)) n):ExGC (callI defs (k + 4)) n where
  hd:=i_headg (k + 3)
  nb:=i_isnumg (k + 3)
  nm:=i_nameg (k + 2)
  fo:=i_formg k n E
  ca ts h m ds lt ht hd g a:=by
    obtain ⟨J,e⟩:=r_call_of_g (cl:=callI defs (k + 3)) (i_nameg (k + 1)) (i_exsg k n E) ts h m ds lt ht hd g a
    exact ⟨J,(callI_succ (d:=d_call_of) rfl rfl).trans e⟩
  ha ts h m ds lt ht hd g a:=by
    obtain ⟨J,e⟩:=r_hand_of_g (cl:=callI defs (k + 3)) (i_nameg (k + 1)) (i_exsg k n E) ts h m ds lt ht hd g a
    exact ⟨J,(callI_succ (d:=d_hand_of) rfl rfl).trans e⟩
theorem i_exg (k:Nat):∀ n:Nat,ExG (callI defs (k + 3 * n + 3)) n
  | 0=>fun t h d ht hd a=>by
    cases t with
    | l ts=>rw [Th.dp] at hd; omega
    | w x =>
      rw [At] at a
      rw [Th.tw] at ht
      subst a
      obtain ⟨J,e⟩:=r_expr_w (cl:=callI defs (k + 2)) (i_isnumg (k + 1)) (i_nameg k) 0 x ht h
      exact ⟨J,(callI_succ (d:=d_expression_of) rfl rfl).trans e⟩
  | n + 1=>fun t h d ht hd a=>by
    obtain ⟨J,e⟩:=r_expr_g (cl:=callI defs (k + 3 * n + 1 + 4)) (i_exgc (k + 3 * n + 1) n (i_exg k n)) t h d ht hd a
    exact ⟨J,(callI_succ (d:=d_expression_of) rfl rfl).trans e⟩
theorem i_readg (k n:Nat) (T:List Nat) (f:Str) (t:Th) (h:Hh) (hf:Nm f) (ht:t.tw) (hd:t.dp<=n) (hn:n<=23) (hT:∀ c ∈ T,c < 1114112) (hl:(Sn T).length<=900000) (hw:w1 [] (Sn T)=(Th.wss [fnTh f t]).map cs) (ok:(fnTh f t).ok) :
    ∃ J,callI defs (k + 3 * n + 6) 2 [.str (mkS T)] h=rs ((exT n t).map fun e=>.tup [fnD f e]) (h ++ J):=by
  have dd:Th.dps [fnTh f t]<=24:=by
    rw [Th.dps,Th.dps,fnTh,Th.dp,Th.dps,Th.dps,Th.dps,Th.dps,Th.dps,Th.dp,Th.dp,Th.dp,Th.dps]
    omega
  have lw:(Th.wss [fnTh f t]).length<=1000000:=by
    have e:(w1 [] (Sn T)).length<=(Sn T).length + 1:=by
      have:∀ (L cur:List Nat),(w1 cur L).length<=L.length + 1:=by
        intro L
        induction L with
        | nil=>intro cur; rw [w1]; unfold fl; split <;> simp
        | cons c r ih =>
          intro cur
          rw [w1]
          split
          · have:=ih []
            rw [List.length_append]
            have:(fl cur).length<=1:=by unfold fl; split <;> simp
            simp; omega
          · have:=ih (cur ++ [c]); simp; omega
      exact this (Sn T) []
    rw [hw,List.length_map] at e
    omega
  obtain ⟨J,e⟩:=r_read_g (n:=n) (cl:=callI defs (k + 3 * n + 5)) (mkS T) f t h (by
    obtain ⟨m,J,e,g⟩:=r_words_of (cl:=callI defs (k + 3 * n + 4)) T hT hl h
    refine ⟨m,J,(callI_succ (d:=d_words_of) rfl rfl).trans e,?_⟩
    rw [g,hw,List.map_map]
    rw [show ((fun w=>D.str (mkS w)) ∘ cs)=D.str from funext fun p=>by show D.str (mkS (cs p))=_; rw [mk_cs]]) (fun nw h g=>by
    obtain ⟨m,ds,J,e,r⟩:=r_nested (cl:=callI defs (k + 3 * n + 4)) nw [fnTh f t] h g (by rw [Th.oks,Th.oks]; exact ⟨ok,trivial⟩) dd lw
    exact ⟨m,ds,J,(callI_succ (d:=d_nested) rfl rfl).trans e,r⟩) (fun h d a=>by
    obtain ⟨J,e⟩:=r_item_g (n:=n) (cl:=callI defs (k + 3 * n + 4)) (i_headof (k + 3 * n + 3)) f t (fun h m ds gn a=>by
      obtain ⟨J,e⟩:=r_function_g (cl:=callI defs (k + 3 * n + 3)) (i_nameof (k + 3 * n + 1)) (i_names (k + 3 * n)) (i_exg k n) f t hf ht hd h m ds gn a
      exact ⟨J,(callI_succ (d:=d_function_of) rfl rfl).trans e⟩) h d a
    exact ⟨J,(callI_succ (d:=d_item_of) rfl rfl).trans e⟩)
  exact ⟨J,(callI_succ (d:=d_read) rfl rfl).trans e⟩
end K11
set_option Elab.async false
set_option linter.all false
set_option maxRecDepth 100000
set_option maxHeartbeats 4000000
namespace K11
open PySem L2 PI
noncomputable def azS:Str:="abcdefghijklmnopqrstuvwxyz"
theorem az_cs:cs azS=(List.range 26).map (· + 97):=by decide
theorem low_nm {T:List Nat} (h:low T) (h1:T ≠ []) (h2:T.length<=8) (h3:resW.any (fun y=>y == mkS T)=false):Nm (mkS T):=⟨by rw [cs_mk]; exact h,by rw [cs_mk]; exact h1,by rw [cs_mk]; exact h2,h3⟩
theorem more_nm {ys:List Str} {z:Str} {T:List Nat} (h:ys.any (fun y=>y == mkS T)=true) (hz:ys.all (fun y=>!(resW.any fun x=>x == y ++ z) && decide ((y ++ z).length<=8))=true):resW.any (fun y=>y == mkS T ++ z)=false /\ (mkS T ++ z).length<=8:=by
  obtain ⟨y,hy,e⟩:=List.any_eq_true.mp h
  have e:=eq_of_beq e
  subst e
  have:=List.all_eq_true.mp hz _ hy
  rw [Bool.and_eq_true,Bool.not_eq_true'] at this
  exact ⟨this.1,of_decide_eq_true this.2⟩
theorem inL (x:Str) (ys:List Str) (h:Hh) (n:Nat) (e:h[n]?=some (.lst (ys.map D.str))):inD false (.str x) (.loc n) h=.ok (.bl (ys.any fun y=>y == x)) h:=by
  unfold inD
  simp only [e]
  rw [in_strs]
  rfl
theorem r_cell (cl:Nat->List D->Hh->Res D) (h:Hh) (ns:List Int) (k:Int) (hk:0<=k /\ k < 1000) (hb:∀ n ∈ ns,fits n=true):∃ v,d_law_cell.run cl [scr ns,.int k] h=.ok (.int v) h /\ 0<=v /\ v < 2147483629:=by
  have fk:fits k=true:=fits_lt (by omega)
  have f1:fits (7919:Int)=true:=by decide
  have f2:fits (48271:Int)=true:=by decide
  have sq:∀ n:Int,fits (n % 2147483647)=true:=fun n=>fits_lt (by omega)
  by_cases hl:0 < (ns.length:Int)
  · have hm0:0<=k % (ns.length:Int):=Int.emod_nonneg _ (by omega)
    have hm1:k % (ns.length:Int) < (ns.length:Int):=Int.emod_lt_of_pos _ hl
    have am:=at_map ns (k % (ns.length:Int)) hm0 hm1
    have fc:=cell_fits hb (k % (ns.length:Int))
    have hl':0 < ns.length:=by omega
    have hne:ns ≠ []:=by intro z; rw [z] at hl'; cases hl'
    obtain ⟨w,hw⟩:∃ w,w=(cellv ns (k % (ns.length:Int)) * 48271 + 7919 * k) % 2147483647:=⟨_,rfl⟩
    have fw:fits w=true:=by rw [hw]; exact sq _
    refine ⟨w * w % 2147483629,?_,by omega,by omega⟩
    have su:subD (scr ns) (.int (k % (ns.length:Int))) h=.ok (.int (cellv ns (k % (ns.length:Int)))) h:=by
      show (match atI (ns.map D.int) (k % (ns.length:Int)) with | some d=>Res.ok d h | none=>.no)=_
      rw [am]
    have le:lenD (scr ns) h=.ok (.int (ns.length:Nat)) h:=by show Res.ok (D.int ((ns.map D.int).length:Nat)) h=_; rw [List.length_map]
    have c0:cmpD .Gt (.int (ns.length:Nat)) (.int 0) h=.ok (.bl true) h:=by rw [cmp_gt]; congr 2; exact decide_eq_true hl
    subst hw
    exact out_rt (set_s (bnd (bnd rfl (bnd rfl (mlk f1 fk))) (bnd rfl rfl)) (iff_n (t_cmp (bnd rfl le) rfl c0) (set_s (bnd (bnd (bnd rfl (bnd (bnd rfl (bnd (bnd rfl le) (mdk hl))) su)) (bnd rfl (mlk fc f2))) (bnd (bnd rfl (bnd rfl (mlk f1 fk))) rfl)) rfl) (set_s (bnd rfl (bnd rfl (mdk (by decide)))) (ret_r (bnd (bnd rfl (bnd rfl (mlk fw fw))) (bnd rfl (mdk (by decide))))))))
  · have h0:ns=[]:=by cases ns with | nil=>rfl | cons x r=>exact absurd (by rw [List.length_cons]; omega) hl
    subst h0
    obtain ⟨w,hw⟩:∃ w,w=(7919 * k + 5) % 2147483647:=⟨_,rfl⟩
    have fw:fits w=true:=by rw [hw]; exact sq _
    refine ⟨w * w % 2147483629,?_,by omega,by omega⟩
    subst hw
    exact out_rt (set_s (bnd (bnd rfl (bnd rfl (mlk f1 fk))) (bnd rfl rfl)) (iff_f (h':=h) (t_cmp (bnd rfl rfl) rfl rfl) (set_s (bnd rfl (bnd rfl (mdk (by decide)))) (ret_r (bnd (bnd rfl (bnd rfl (mlk fw fw))) (bnd rfl (mdk (by decide))))))))
theorem idx_from (p n:Nat) (h:p<=n):Builtin.Str.strSliceIndices (some (p:Int)) none 1 n=(List.range (n - p)).map (p + ·):=by
  unfold Builtin.Str.strSliceIndices
  simp only [show (1:Int) > 0 by decide,if_true]
  rw [if_neg (by omega)]
  have:max 0 (min (p:Int) (n:Int))=(p:Int):=by omega
  rw [this]
  exact sliceRange_one p n
theorem idx_to (p n:Nat) (h:p<=n):Builtin.Str.strSliceIndices none (some (p:Int)) 1 n=(List.range p).map (0 + ·):=by
  unfold Builtin.Str.strSliceIndices
  simp only [show (1:Int) > 0 by decide,if_true]
  rw [if_neg (by omega)]
  have:max 0 (min (p:Int) (n:Int))=(p:Int):=by omega
  rw [this]
  exact sliceRange_one 0 p
theorem fm_cong {α β:Type} {f g:α->Option β}:∀ (l:List α),(∀ x ∈ l,f x=g x)->l.filterMap f=l.filterMap g
  | [],_=>rfl
  | x :: r,h=>by rw [List.filterMap_cons,List.filterMap_cons,h x (List.mem_cons_self ..),fm_cong r fun y hy=>h y (List.mem_cons_of_mem _ hy)]
theorem pick_list (l:List Nat) (a k:Nat) (h:a + k<=l.length):((List.range k).map (a + ·)).filterMap (l.toArray[·]?)=(l.drop a).take k:=by
  have e:((List.range k).map (a + ·)).filterMap (l.toArray[·]?)=(List.range k).map fun i=>l.getD (a + i) 0:=by
    rw [List.filterMap_map,<- List.filterMap_eq_map]
    apply fm_cong
    intro i hi
    have:=List.mem_range.mp hi
    simp only [Function.comp,List.getElem?_toArray]
    rw [List.getElem?_eq_getElem (by omega),List.getD_eq_getElem?_getD,List.getElem?_eq_getElem (by omega)]
    rfl
  rw [e]
  apply List.ext_getElem?
  intro i
  rw [List.getElem?_map]
  by_cases hi:i < k
  · rw [List.getElem?_range hi,List.getElem?_take_of_lt hi,List.getElem?_drop]
    simp only [Option.map_some]
    rw [List.getD_eq_getElem?_getD,List.getElem?_eq_getElem (by omega)]
    rfl
  · rw [List.getElem?_eq_none (by simp; omega),List.getElem?_eq_none (by simp; omega)]
    rfl
theorem slice_from (l:List Nat) (p:Nat) (h:p<=l.length):Txt.slice (mkS l) (some (p:Int)) none=mkS (l.drop p):=by
  unfold Txt.slice
  rw [mk_len,idx_from p _ h]
  split
  · rename_i c
    simp at c
    have:p=0 \/ l.length=0:=by omega
    rcases this with z | z
    · rw [z]; rfl
    · rw [List.length_eq_zero_iff.mp z]; simp
  · show mkS _=_
    congr 1
    rw [show (mkS l).cps=l.toArray from rfl,pick_list l p (l.length - p) (by omega)]
    rw [List.take_of_length_le (by simp)]
theorem slice_to (l:List Nat) (p:Nat) (h:p<=l.length):Txt.slice (mkS l) none (some (p:Int))=mkS (l.take p):=by
  unfold Txt.slice
  rw [mk_len,idx_to p _ h]
  split
  · rename_i c
    simp at c
    rw [c,List.take_length]
  · show mkS _=_
    congr 1
    rw [show (mkS l).cps=l.toArray from rfl,pick_list l 0 p (by omega)]
    rfl
inductive Pl:Nat->D->Prop
  | non (n:Nat):Pl n .non
  | int (n:Nat) (i:Int):Pl n (.int i)
  | str (n:Nat) (x:Str) (h:PyData.strOk x=true):Pl n (.str x)
  | tup (n:Nat) (xs:List D) (h:∀ x ∈ xs,Pl n x) (l:xs.length<=1000000):Pl (n + 1) (.tup xs)
theorem Pl.up {n:Nat} {d:D} (h:Pl n d):∀ m,n<=m->Pl m d:=by
  induction h with
  | non n=>exact fun m _=>.non m
  | int n i=>exact fun m _=>.int m i
  | str n x h=>exact fun m _=>.str m x h
  | tup n xs h l ih =>
    intro m hm
    cases m with
    | zero=>omega
    | succ m=>exact .tup m xs (fun x hx=>ih x hx m (by omega)) l
section
variable {cl:Nat->List D->Hh->Res D}
noncomputable def AlikeAt (cl:Nat->List D->Hh->Res D) (d:D):Prop:=∀ h,∃ J,cl 22 [d,d] h=.ok (.bl true) (h ++ J)
theorem al_comp {f:D->Hh->Res (Option D)}:∀ (xs acc:List D) (h:Hh),(∀ x ∈ xs,∀ h,∃ J,f (pairT (x,x)) h=.ok (some (.bl true)) (h ++ J))->∃ J,compL [] f ((xs.zip xs).map pairT) acc h=.ok (acc ++ (List.replicate xs.length true).map D.bl) (h ++ J)
  | [],acc,h,_=>⟨[],by rw [List.zip_nil_left,List.map_nil,compL,if_pos stay_nil]; simp⟩
  | x :: r,acc,h,hf=>by
    obtain ⟨J1,e1⟩:=hf x (List.mem_cons_self ..) h
    obtain ⟨J2,e2⟩:=al_comp r (acc ++ [.bl true]) (h ++ J1) fun y hy=>hf y (List.mem_cons_of_mem _ hy)
    refine ⟨J1 ++ J2,?_⟩
    rw [List.zip_cons_cons,List.map_cons,compL,if_pos stay_nil,e1,bind_ok,addO_some,e2,List.append_assoc,List.append_assoc]
    rfl
theorem isi_v {i T:Nat} {d:D} {b:Bool} {ρ:En} {h:Hh} {p p1 p2 p3:Pos} (ei:ρ[i]?=some (some d)) (e:isI h d T=some b):E.evT cl (.isi T (.var i p) p1 p2 p3) ρ h=.ok b h :=
  bnd (x:=.bl b) (bnd (x:=d) (by rw [vvar,ei]) (by rw [e])) rfl
theorem r_alike {n:Nat} {d:D} (q:Pl n d) (C:∀ m,n=m + 1->∀ x,Pl m x->AlikeAt cl x) (h:Hh):∃ J,d_law_alike.run cl [d,d] h=.ok (.bl true) (h ++ J):=by
  cases q with
  | non=>exact ⟨[],by rw [List.append_nil]; exact out_rt (iff_f (isi_v rfl rfl) (iff_f (isi_v rfl rfl) (iff_r (t_cmp rfl rfl rfl) (ret_r rfl))))⟩
  | int _ i =>
    refine ⟨[],?_⟩
    rw [List.append_nil]
    refine out_rt (iff_f (isi_v rfl rfl) (iff_f (isi_v rfl rfl) (iff_f (t_cmp rfl rfl rfl) (ret_r (evT_bl (t_and3 (isi_v rfl rfl) (t_not (b:=false) (isi_v rfl rfl)) (t_cmp rfl rfl ?_)))))))
    rw [eqI]; simp
  | str _ x ok =>
    refine ⟨[],?_⟩
    rw [List.append_nil]
    refine out_rt (iff_f (isi_v rfl rfl) (iff_r (isi_v rfl rfl) (ret_r (evT_bl (t_and (isi_v rfl rfl) (t_cmp rfl rfl ?_))))))
    rw [eqS ok ok]; simp
  | tup m xs hx l =>
    obtain ⟨J,e⟩:=al_comp (f:=compF t_law_alike_1 (capE [none,none] [some (.tup xs),some (.tup xs)]) (fun ρ' h2=>c_law_alike_1.evC cl ρ' h2) (fun ρ' h2=>e_law_alike_1.ev cl ρ' h2)) xs [] h (by
      intro x hm h
      obtain ⟨J,e⟩:=C m rfl x (hx x hm) h
      exact ⟨J,compF_t rfl rfl (call_2 rfl rfl e)⟩)
    rw [List.nil_append] at e
    have lz:((xs.zip xs).map pairT).length<=1000000:=by simp; omega
    refine ⟨J ++ [.lst ((List.replicate xs.length true).map D.bl)],?_⟩
    rw [<- List.append_assoc]
    refine out_rt (iff_r (isi_v rfl rfl) (iff_f (h':=h) (t_or (t_not (b:=true) (isi_v rfl rfl)) (t_cmp (bnd rfl rfl) (bnd rfl rfl) (by rw [neI]; simp))) (ret_r (bnd (ofL_comp (q:=([],(xs.zip xs).map pairT)) (bnd rfl (bnd rfl rfl)) lz e) ?_))))
    show c1D .all (.loc (h ++ J).length) _=_
    unfold c1D
    dsimp only
    rw [rdx0]
    show (match (some ((List.replicate xs.length true).map D.bl)).bind blsOf with | some bs=>Res.ok (D.bl (bs.all id)) _ | none=>.no)=_
    rw [Option.bind_some,bls_map]
    simp
end
theorem sp1:Sp [32]:=fun c hc=>.inl (List.mem_singleton.mp hc)
theorem sp0:Sp []:=fun c hc=>by cases hc
theorem brO':Br [40]:=.inl rfl
theorem brC':Br [41]:=.inr rfl
theorem cs_o:cs ("(":Str)=[40]:=by decide
theorem cs_c:cs (")":Str)=[41]:=by decide
theorem wq_of {x:Str} (h:(decide (cs x ≠ []) && decide ((cs x).length<=30) && (cs x).all fun c=>decide (c ≠ 10 /\ c ≠ 32 /\ c ≠ 40 /\ c ≠ 41 /\ c < 1114112))=true):Wq (cs x):=by
  rw [Bool.and_eq_true,Bool.and_eq_true] at h
  exact ⟨of_decide_eq_true h.1.1,of_decide_eq_true h.1.2,fun c hc=>of_decide_eq_true (List.all_eq_true.mp h.2 c hc)⟩
theorem nm_wq {x:Str} (h:Nm x):Wq (cs x):=⟨h.ne,Nat.le_trans h.le (by decide),fun c hc=>by have:=h.lo c hc; omega⟩
theorem wq_tw {x:Str} (h:Wq (cs x)):Tw x:=⟨ok_cs fun c hc=>(h.ch c hc).2.2.2.2,Nat.le_trans h.le (by decide)⟩
theorem wq_pw {x:Str} (h:Wq (cs x)):Pw x:=by
  refine ⟨(wq_tw h).ok,str_ne fun e=>?_,str_ne fun e=>?_⟩
  · have:=h.ch 40 (by rw [e]; decide); omega
  · have:=h.ch 41 (by rw [e]; decide); omega
theorem fn_ok {f:Str} (hf:Nm f) {t:Th} (h:t.ok):(fnTh f t).ok:=by
  rw [fnTh,Th.ok,Th.oks,Th.oks,Th.oks,Th.oks,Th.oks,Th.ok,Th.ok,Th.ok,Th.oks]
  exact ⟨wq_pw (wq_of (by decide +kernel)),wq_pw (nm_wq hf),trivial,h,trivial⟩
theorem pl_tup {n:Nat} {xs:List D} (l:xs.length<=1000) (h:∀ x ∈ xs,Pl n x):Pl (n + 1) (.tup xs):=.tup n xs h (by omega)
theorem pl_1 {n:Nat} {a:D} {r:List D} (ha:Pl n a) (hr:∀ x ∈ r,Pl n x):∀ x ∈ a :: r,Pl n x:=fun x hx=>by
  rcases List.mem_cons.mp hx with rfl | hx
  · exact ha
  · exact hr x hx
theorem pl_0 {n:Nat}:∀ x ∈ ([]:List D),Pl n x:=fun x hx=>by cases hx
theorem pl_nm {n:Nat} {x:Str} (h:Nm x):Pl n (.str x):=.str n x (wq_tw (nm_wq h)).ok
theorem sn_le (T:List Nat):(Sn T).length<=3 * T.length:=by
  induction T with
  | nil=>decide
  | cons c r ih =>
    show (sg c ++ Sn r).length<=_
    have:(sg c).length<=3:=by unfold sg; split <;> (try split) <;> (try split) <;> simp
    rw [List.length_append,List.length_cons]
    omega
section
variable {cl:Nat->List D->Hh->Res D}
theorem add_s {x y:Str} {h:Hh} (l:x.length + y.length<=1000000):binD .Add (.str x) (.str y) h=.ok (.str (x ++ y)) h:=if_pos l
theorem try_n {b:Ss} {x:Str} {D0:Nat} {ups:List Nat} {cs:List (Str × Nat × List Nat)} {i:Nat} {v:Option Bool} {p0 p1 p2 p3 p4 p:Pos} {ρ ρ':En} {h h':Hh} {r:Ss} {o:RS} (hb:b.run cl ρ h=.nx ρ' h') (k:Ss.run cl r ρ' h'=o):Ss.run cl (.cons (.tryS b x D0 ups cs i v p0 p1 p2 p3 p4 p) r) ρ h=o:=by
  show seqS (match b.run cl ρ h with | .ex c ρ' h'=>if (cs.any fun q=>q.2.1 == c) then .nx (ρ'.set i (some (cnD v))) h' else .no | o=>o) _=_
  rw [hb]
  exact k
end
end K11
set_option Elab.async false
set_option linter.all false
set_option maxRecDepth 100000
set_option maxHeartbeats 4000000
namespace K11
open PySem L2 PI
noncomputable def opD:Option D->D
  | some d=>d
  | none=>.non
noncomputable def dueF (x:Str):Option D:=if (cs x).all (sgIn figS)=true then (if 18 < (cs x).length then none else if ((cs x)[0]? == some 48 && decide (1 < (cs x).length))=true then none else some (numT x)) else if 8 < (cs x).length then none else if (cs x).all (sgIn letS)=false then none else if resW.any (fun y=>y == x)=true then none else some (.tup [.str "var",.str x])
theorem fig_rng {c:Nat} (h:sgIn figS c=true):48<=c /\ c<=57:=by
  have:=sg_mem h
  rw [show cs figS=(List.range 10).map (· + 48) by decide] at this
  simp at this
  omega
theorem fig_let {c:Nat} (h:48<=c /\ c<=57):sgIn letS c=false:=by
  have:∀ k < 10,sgIn letS (48 + k)=false:=by decide +kernel
  have:=this (c - 48) (by omega)
  rwa [show 48 + (c - 48)=c by omega] at this
theorem ex_due (n:Nat) (x:Str) (ne:cs x ≠ []):exT n (.w x)=dueF x:=by
  obtain ⟨c,r,ec⟩:∃ c r,cs x=c :: r:=by cases e:cs x with | nil=>exact absurd e ne | cons c r=>exact ⟨c,r,rfl⟩
  have e0:(x == ("":Str))=false:=ne_e ne
  rw [exw]
  unfold dueF
  by_cases A:(cs x).all (sgIn figS)=true
  · rw [if_pos A]
    have fc:48<=c /\ c<=57:=fig_rng (List.all_eq_true.mp A c (by rw [ec]; exact List.mem_cons_self ..))
    have nl:nameT (.w x)=none:=by
      refine if_neg ?_
      unfold nameB
      split
      · decide
      · split
        · decide
        · split
          · decide
          · rw [ec,List.all_cons,fig_let fc,Bool.false_and]; decide
    by_cases l18:18 < (cs x).length
    · rw [if_pos l18,nl]
      have:numB x=false:=by unfold numB; rw [if_neg (by rw [e0]; decide),if_pos l18]
      rw [this]; rfl
    · rw [if_neg l18]
      have eb:((cs x)[0]? == some 48 && !(x == ("0":Str)))=((cs x)[0]? == some 48 && decide (1 < (cs x).length)):=by
        rw [ec]
        by_cases z:c=48
        · subst z
          congr 1
          cases r with
          | nil =>
            have:x="0":=cs_inj ec
            rw [this]; decide
          | cons d s=>rw [str_ne (x:=x) (y:="0") (by rw [ec,show cs ("0":Str)=[48] by decide]; intro q; cases q)]; simp
        · have:((c :: r)[0]? == some 48)=false:=by simpa using z
          rw [this,Bool.false_and,Bool.false_and]
      have nb:numB x=if ((cs x)[0]? == some 48 && decide (1 < (cs x).length))=true then false else true:=by
        unfold numB
        rw [e0,eb,A]
        exact (if_neg (by decide)).trans (if_neg l18)
      rw [nb]
      by_cases b:((cs x)[0]? == some 48 && decide (1 < (cs x).length))=true
      · rw [if_pos b,if_pos b,nl]; rfl
      · rw [if_neg b,if_neg b]; rfl
  · rw [if_neg A]
    have A:(cs x).all (sgIn figS)=false:=(Bool.not_eq_true _).mp A
    have:numB x=false:=by
      unfold numB
      split
      · rfl
      · split
        · rfl
        · split
          · rfl
          · exact A
    have nb:nameB x=if 8 < (cs x).length then false else if resW.any (fun y=>y == x)=true then false else (cs x).all (sgIn letS):=by
      unfold nameB
      rw [e0]
      exact if_neg (by decide)
    rw [this]
    show (if nameB x then some x else none).map _=_
    rw [nb]
    by_cases l8:8 < (cs x).length
    · rw [if_pos l8,if_pos l8]; rfl
    · rw [if_neg l8,if_neg l8]
      by_cases w:resW.any (fun y=>y == x)=true
      · rw [if_pos w,if_pos w]
        cases (cs x).all (sgIn letS) <;> rfl
      · rw [if_neg w,if_neg w]
        cases a:(cs x).all (sgIn letS) with
        | false=>rfl
        | true=>rfl
section
variable {cl:Nat->List D->Hh->Res D}
theorem all_lit {x z:Str} {ns:List Str} {sc:Scope} {p0 p1 p2 p3 p4 p5 p6 p7:Pos} {h:Hh} (hl:(cs x).length<=1000000) :
    E.evT cl (.c1 .all (.ofL (.comp (.cmp .In (.var 0 p0) (.str z p1) p2) (.one 0 p3) (.seq (.var 0 p4)) .nil ns [none] sc p5)) p6 p7) [some (.str x)] h=.ok ((cs x).all (sgIn z)) (h ++ [.lst (((cs x).map (sgIn z)).map D.bl)]):=by
  have e:=comp_sg (f:=compF (.one 0 p3) (capE [none] [some (.str x)]) (fun ρ' h2=>Es.nil.evC cl ρ' h2) (fun ρ' h2=>(E.cmp .In (.var 0 p0) (.str z p1) p2).ev cl ρ' h2)) (b:=sgIn z) (h:=h) (cs x) [] (fun c=>rfl)
  refine bnd (x:=.bl ((cs x).all (sgIn z))) (bnd (ofL_comp (q:=([],(cs x).map fun c=>.str ⟨#[c]⟩)) rfl (by simpa using hl) e) ?_) rfl
  show c1D .all (.loc h.length) _=_
  unfold c1D
  dsimp only
  rw [rdx0,List.nil_append]
  show (match (some (((cs x).map (sgIn z)).map D.bl)).bind blsOf with | some bs=>Res.ok (D.bl (bs.all id)) _ | none=>.no)=_
  rw [Option.bind_some,bls_map]
  simp only [List.all_map]
  rfl
theorem in_disp {i:Nat} {ws:List Str} {es:Es} {hd:Str} {b:Bool} {ρ:En} {h:Hh} {p p1 p2:Pos} (ei:ρ[i]?=some (some (.str hd))) (ee:es.ev cl ρ h=.ok (ws.map D.str) h) (lw:ws.length<=1000) (q:ws.any (fun y=>y == hd)=b):E.evT cl (.cmp .In (.var i p) (.ofL (.disp es p1)) p2) ρ h=.ok b (h ++ [.lst (ws.map D.str)]):=by
  have d:E.ev cl (.ofL (.disp es p1)) ρ h=.ok (.loc h.length) (h ++ [.lst (ws.map D.str)]):=by
    rw [vofL,ldisp,ee,bind_ok,if_pos (by rw [List.length_map]; exact lw)]; rfl
  refine t_cmp (x:=.str hd) (h':=h) (by rw [vvar,ei]) d ?_
  show inD false (.str hd) (.loc h.length) _=_
  rw [inL hd ws _ h.length (by rw [hx0]; rfl),q]
theorem gt_ev {x:Str} {k:Nat} {b:Bool} {h:Hh} {p p1 p2 p3 p4:Pos} (l:(cs x).length<=1000) (hb:decide (k < (cs x).length)=b):E.evT cl (.cmp .Gt (.len (.var 0 p) p1 p2) (.int (k:Nat) p3) p4) [some (.str x)] h=.ok b h:=t_cmp (bnd rfl (len_s' l)) rfl (by rw [cmp_gt,<- hb]; congr 2; simp)
noncomputable def fA (x:Str) (z:Str):O:=.lst (((cs x).map (sgIn z)).map D.bl)
theorem r_due {x:Str} (t:Wq (cs x)) (h:Hh):∃ J,d_law_due.run cl [.str x] h=.ok (opD (dueF x)) (h ++ J):=by
  have tw:=wq_tw t
  have l:(cs x).length<=1000:=tw.le
  obtain ⟨c,r,ec⟩:∃ c r,cs x=c :: r:=by cases e:cs x with | nil=>exact absurd e t.ne | cons c r=>exact ⟨c,r,rfl⟩
  have hc:c < 1114112:=(t.ch c (by rw [ec]; exact List.mem_cons_self ..)).2.2.2.2
  unfold dueF
  by_cases A:(cs x).all (sgIn figS)=true
  · rw [if_pos A]
    have a1:∀ {ns:List Str} {sc:Scope} {p0 p1 p2 p3 p4 p5 p6 p7:Pos},E.evT cl (.c1 .all (.ofL (.comp (.cmp .In (.var 0 p0) (.str "0123456789" p1) p2) (.one 0 p3) (.seq (.var 0 p4)) .nil ns [none] sc p5)) p6 p7) [some (.str x)] h=.ok true (h ++ [fA x figS]):=fun {ns sc p0 p1 p2 p3 p4 p5 p6 p7}=>by rw [<- A]; exact all_lit (by omega)
    by_cases l18:18 < (cs x).length
    · rw [if_pos l18]
      exact ⟨[fA x figS],out_rt (iff_r a1 (iff_r (t_orT (gt_ev (k:=18) l (decide_eq_true l18))) (ret_r rfl)))⟩
    · rw [if_neg l18]
      have g18:∀ {p p1 p2 p3 p4:Pos},E.evT cl (.cmp .Gt (.len (.var 0 p) p1 p2) (.int 18 p3) p4) [some (.str x)] (h ++ [fA x figS])=.ok false (h ++ [fA x figS]):=gt_ev (k:=18) l (decide_eq_false l18)
      have f0:∀ {p p1 p2 p3 p4:Pos},E.evT cl (.cmp .Eq (.sub (.var 0 p) (.int 0 p1) p2) (.str "0" p3) p4) [some (.str x)] (h ++ [fA x figS])=.ok (c == 48) (h ++ [fA x figS]):=t_cmp (bnd rfl (bnd rfl (sub0' (c:=c) (by rw [ec]; rfl) l))) rfl (by
        rw [eqS (so_1 hc) so_z]
        congr 2
        by_cases z:c=48
        · subst z; decide
        · rw [beq_false_of_ne z]; exact str_ne (fun q=>z (List.cons.inj (show [c]=[48] from q)).1))
      have b0:((cs x)[0]? == some 48)=(c == 48):=by rw [ec]; rfl
      have an:∀ {p p1 p2 p3 p4 q q1 q2 q3 q4 q5:Pos},E.evT cl (.and (.cmp .Eq (.sub (.var 0 p) (.int 0 p1) p2) (.str "0" p3) p4) (.cmp .Gt (.len (.var 0 q) q1 q2) (.int 1 q3) q4) .nil q5) [some (.str x)] (h ++ [fA x figS])=.ok ((cs x)[0]? == some 48 && decide (1 < (cs x).length)) (h ++ [fA x figS]):=by
        intros
        rw [b0]
        cases z:(c == 48) with
        | false=>rw [Bool.false_and]; exact t_andF (by rw [<- z]; exact f0)
        | true=>rw [Bool.true_and]; exact t_and (by rw [<- z]; exact f0) (gt_ev (k:=1) l rfl)
      by_cases b:((cs x)[0]? == some 48 && decide (1 < (cs x).length))=true
      · rw [if_pos b]
        rw [b] at an
        exact ⟨[fA x figS],out_rt (iff_r a1 (iff_r (t_or g18 an) (ret_r rfl)))⟩
      · rw [if_neg b]
        rw [(Bool.not_eq_true _).mp b] at an
        have ri:∃ n,PySem.intText? x=some n:=⟨_,PySem.intText_digits (x:=x) (fun d hd=>fig_rng (List.all_eq_true.mp A d hd)) t.ne (by rw [show x.length=(cs x).length from cs_len _]; omega)⟩
        obtain ⟨n,ri⟩:=ri
        have ci:c1D .int (.str x) (h ++ [fA x figS])=.ok (.int n) (h ++ [fA x figS]):=by
          unfold c1D
          dsimp only
          rw [ri]
          exact if_pos (by rw [cs_len]; omega)
        have nt:numT x=.tup [.str "num",.int n]:=by unfold numT; rw [ri]
        rw [nt]
        exact ⟨[fA x figS],out_rt (iff_r a1 (iff_f (t_or g18 an) (ret_r (tup_s (es_c rfl (es_c (bnd rfl ci) rfl)) (Nat.le_of_ble_eq_true rfl)))))⟩
  · rw [if_neg A]
    have A:(cs x).all (sgIn figS)=false:=(Bool.not_eq_true _).mp A
    have a1:∀ {ns:List Str} {sc:Scope} {p0 p1 p2 p3 p4 p5 p6 p7:Pos},E.evT cl (.c1 .all (.ofL (.comp (.cmp .In (.var 0 p0) (.str "0123456789" p1) p2) (.one 0 p3) (.seq (.var 0 p4)) .nil ns [none] sc p5)) p6 p7) [some (.str x)] h=.ok false (h ++ [fA x figS]):=fun {ns sc p0 p1 p2 p3 p4 p5 p6 p7}=>by rw [<- A]; exact all_lit (by omega)
    by_cases l8:8 < (cs x).length
    · rw [if_pos l8]
      exact ⟨[fA x figS],out_rt (iff_f a1 (iff_r (t_orT (gt_ev (k:=8) l (decide_eq_true l8))) (ret_r rfl)))⟩
    · rw [if_neg l8]
      have g8:∀ {p p1 p2 p3 p4:Pos},E.evT cl (.cmp .Gt (.len (.var 0 p) p1 p2) (.int 8 p3) p4) [some (.str x)] (h ++ [fA x figS])=.ok false (h ++ [fA x figS]):=gt_ev (k:=8) l (decide_eq_false l8)
      have a2:∀ {ns:List Str} {sc:Scope} {p0 p1 p2 p3 p4 p5 p6 p7:Pos},E.evT cl (.c1 .all (.ofL (.comp (.cmp .In (.var 0 p0) (.str "abcdefghijklmnopqrstuvwxyz" p1) p2) (.one 0 p3) (.seq (.var 0 p4)) .nil ns [none] sc p5)) p6 p7) [some (.str x)] (h ++ [fA x figS])=.ok ((cs x).all (sgIn letS)) (h ++ [fA x figS] ++ [fA x letS]):=all_lit (by omega)
      cases a:(cs x).all (sgIn letS) with
      | false =>
        rw [a] at a2
        rw [if_pos rfl]
        refine ⟨[fA x figS] ++ [fA x letS],?_⟩
        rw [<- List.append_assoc]
        exact out_rt (iff_f a1 (iff_r (t_or g8 (t_not (b:=false) a2)) (ret_r rfl)))
      | true =>
        rw [a] at a2
        rw [if_neg (by decide)]
        refine ⟨[fA x figS] ++ [fA x letS] ++ [.lst (resW.map D.str)],?_⟩
        rw [<- List.append_assoc,<- List.append_assoc]
        by_cases w:resW.any (fun y=>y == x)=true
        · rw [if_pos w]
          exact out_rt (iff_f a1 (iff_f (t_or g8 (t_not (b:=true) a2)) (iff_r (in_disp (ws:=resW) rfl rfl (Nat.le_of_ble_eq_true rfl) w) (ret_r rfl))))
        · rw [if_neg w]
          exact out_rt (iff_f a1 (iff_f (t_or g8 (t_not (b:=true) a2)) (iff_f (in_disp (ws:=resW) rfl rfl (Nat.le_of_ble_eq_true rfl) ((Bool.not_eq_true _).mp w)) (ret_r (tup_s (es_c rfl (es_c rfl rfl)) (Nat.le_of_ble_eq_true rfl))))))
end
end K11
set_option Elab.async false
set_option linter.all false
set_option maxRecDepth 100000
set_option maxHeartbeats 4000000
namespace K11
open PySem L2 PI
section
variable {cl:Nat->List D->Hh->Res D}
noncomputable def CellAt (cl:Nat->List D->Hh->Res D) (ns:List Int):Prop:=∀ (k:Int) h,0<=k /\ k < 1000->∃ v,cl 18 [scr ns,.int k] h=.ok (.int v) h /\ 0<=v /\ v < 2147483629
theorem sub_ch {z:Str} {i:Int} (h0:0<=i) (h1:i < ((cs z).length:Nat)) (hz:(cs z).length<=1000) (h:Hh):∃ c,c ∈ cs z /\ subD (.str z) (.int i) h=.ok (.str (mkS [c])) h:=by
  have lt:i.toNat < (cs z).length:=by omega
  refine ⟨(cs z)[i.toNat],List.getElem_mem lt,?_⟩
  rw [sub_str,if_pos (by rw [cs_len]; omega)]
  have:atI z.cps.toList i=some (cs z)[i.toNat]:=by
    rw [atI_pos h0]
    show (cs z)[i.toNat]?=_
    rw [List.getElem?_eq_getElem lt]
  rw [this]; rfl
theorem comp_ch {f:D->Hh->Res (Option D)} (P:Nat->Prop) (h:Hh):∀ (m k:Nat) (acc:List D),(∀ j:Nat,k<=j->j < k + m->∃ c,f (.int (j:Nat)) h=.ok (some (.str (mkS [c]))) h /\ P c) ->
    ∃ T:List Nat,compL [] f ((List.range' k m).map fun (j:Nat)=>D.int (j:Nat)) acc h=.ok (acc ++ (T.map fun c=>mkS [c]).map D.str) h /\ (∀ c ∈ T,P c) /\ T.length=m
  | 0,k,acc,_=>⟨[],by rw [List.range'_zero,List.map_nil,compL,if_pos stay_nil]; simp,fun c hc=>(by cases hc),rfl⟩
  | m + 1,k,acc,hf=>by
    obtain ⟨c,e,pc⟩:=hf k (Nat.le_refl _) (by omega)
    obtain ⟨T,e2,p2,l2⟩:=comp_ch P h m (k + 1) (acc ++ [.str (mkS [c])]) fun j h1 h2=>hf j (by omega) (by omega)
    refine ⟨c :: T,?_,fun x hx=>?_,by rw [List.length_cons,l2]⟩
    · rw [List.range'_succ,List.map_cons,compL,if_pos stay_nil,e,bind_ok,addO_some,e2,List.append_assoc]; rfl
    · rcases List.mem_cons.mp hx with rfl | hx
      · exact pc
      · exact p2 x hx
theorem sep_one:∀ T:List Nat,sepL [] (T.map fun c=>[c])=T
  | []=>by rw [List.map_nil,sepL]
  | [c]=>by rw [List.map_cons,List.map_nil,sepL]
  | c :: d :: r=>by
    have:=sep_one (d :: r)
    rw [List.map_cons] at this
    rw [List.map_cons,List.map_cons,sepL,this]; rfl
theorem join_ch (T:List Nat):Txt.join "" (T.map fun c=>mkS [c])=mkS T:=by
  refine cs_inj ?_
  rw [cs_join,cs_mk,List.map_map,show cs (Str.ofString "")=[] by decide]
  rw [show (cs ∘ fun c=>mkS [c])=fun c=>[c] from funext fun c=>by show cs (mkS [c])=_; rw [cs_mk]]
  exact sep_one T
theorem join_e {a:E} {ρ:En} {h h1:Hh} {n:Nat} {T:List Nat} {p p1 p2:Pos} (ea:a.ev cl ρ h=.ok (.loc n) h1) (g:h1[n]?=some (.lst ((T.map fun c=>mkS [c]).map D.str))) (l:T.length<=100):E.ev cl (.join (.str "" p) a p1 p2) ρ h=.ok (.str (mkS T)) h1:=by
  rw [vjoin]
  show ((a.ev cl ρ h).bind fun y h2=>joinD (.str "") y h2)=_
  rw [ea,bind_ok]
  unfold joinD
  dsimp only
  rw [rd_of g,Option.bind_some,strs_map]
  dsimp only
  rw [join_ch]
  refine if_pos ?_
  have:∀ T:List Nat,((T.map fun c=>mkS [c]).map (·.length)).sum=T.length:=by
    intro T
    induction T with
    | nil=>rfl
    | cons c r ih=>rw [List.map_cons,List.map_cons,List.sum_cons,ih,mk_len,List.length_cons]; simp; omega
  rw [this,show (Str.ofString "").length=0 by decide]
  omega
theorem r_letters {ns:List Int} (C:CellAt cl ns) (at_:Int) (size:Nat) (h0:0<=at_ /\ at_<=30) (hs:size<=20) (h:Hh):∃ T J,d_law_letters.run cl [scr ns,.int at_,.int (size:Nat)] h=.ok (.str (mkS T)) (h ++ J) /\ low T /\ T.length=size:=by
  obtain ⟨T,e,p,l⟩:=comp_ch (f:=compF t_law_letters_1 (capE [none,some 1,some 0] [some (scr ns),some (.int at_),some (.int (size:Nat))]) (fun ρ' h2=>c_law_letters_1.evC cl ρ' h2) (fun ρ' h2=>e_law_letters_1.ev cl ρ' h2)) (fun c=>97<=c /\ c<=122) h size 0 [] (fun j _ hj=>by
    obtain ⟨v,ev,v0,v1⟩:=C (at_ + (j:Int)) h (by omega)
    obtain ⟨c,hc,es⟩:=sub_ch (z:=azS) (i:=v % 26) (by omega) (by rw [show (cs azS).length=26 by decide]; omega) (by decide) h
    refine ⟨c,compF_t (ρ':=[some (.int (j:Nat)),some (.int at_),some (scr ns)]) rfl (h':=h) rfl (bnd rfl (bnd (bnd (call_2 rfl (bnd rfl (bnd rfl rfl)) ev) (bnd rfl (mdk (by decide)))) es)),?_⟩
    rw [az_cs] at hc
    simp at hc
    omega)
  rw [<- List.range_eq_range',List.nil_append] at e
  have rt:∀ {p1 p2 p3:Pos},I.ev cl (.rng (.var 2 p1) p2 p3) [some (scr ns),some (.int at_),some (.int (size:Nat))] h=.ok ([],(List.range size).map fun k=>.int (k:Nat)) h:=rng_s (j:=(size:Nat)) rfl (by omega)
  exact ⟨T,[.lst ((T.map fun c=>mkS [c]).map D.str)],out_rt (ret_r (join_e (ofL_comp (q:=([],(List.range size).map fun k=>.int (k:Nat))) rt (by rw [List.length_map,List.length_range]; omega) e) (by rw [hx0]; rfl) (by omega))),p,l⟩
noncomputable def LettersAt (cl:Nat->List D->Hh->Res D) (ns:List Int):Prop:=∀ (at_:Int) (size:Nat) h,0<=at_ /\ at_<=30->size<=20->∃ T J,cl 19 [scr ns,.int at_,.int (size:Nat)] h=.ok (.str (mkS T)) (h ++ J) /\ low T /\ T.length=size
noncomputable def oddS:Str:="AZ_!#$&',./:;=>?\x40[]^{}|~\t\"`+-*<7"
noncomputable def sgW:List Str:=["+","-","*","<","+1","-1","-0","1a","a1","--","<<","+a"]
noncomputable def okC (c:Nat):Prop:=c ≠ 10 /\ c ≠ 32 /\ c ≠ 40 /\ c ≠ 41 /\ c < 1114112
theorem wq_mk {T:List Nat} (h:∀ c ∈ T,okC c) (ne:T ≠ []) (l:T.length<=30):Wq (cs (mkS T)):=by rw [cs_mk]; exact ⟨ne,l,h⟩
theorem wq_list {l:List Str} (h:l.all (fun x=>decide (cs x ≠ []) && decide ((cs x).length<=30) && (cs x).all fun c=>decide (c ≠ 10 /\ c ≠ 32 /\ c ≠ 40 /\ c ≠ 41 /\ c < 1114112))=true) {x:Str} (hx:x ∈ l):Wq (cs x):=wq_of (List.all_eq_true.mp h x hx)
theorem sub_w {l:List Str} {n:Nat} {i:Int} {h:Hh} (g:h[n]?=some (.lst (l.map D.str))) (h0:0<=i) (h1:i < (l.length:Nat)):∃ x,x ∈ l /\ subD (.loc n) (.int i) h=.ok (.str x) h:=by
  have lt:i.toNat < l.length:=by omega
  refine ⟨l[i.toNat],List.getElem_mem lt,?_⟩
  have:=sub_l (k:=i.toNat) (d:=.str l[i.toNat]) g (by rw [List.getElem?_map,List.getElem?_eq_getElem lt]; rfl)
  rwa [show ((i.toNat:Nat):Int)=i by omega] at this
theorem r_word {ns:List Int} (C:CellAt cl ns) (L:LettersAt cl ns) (h:Hh):∃ x J,d_law_word.run cl [scr ns] h=.ok (.str x) (h ++ J) /\ Wq (cs x):=by
  obtain ⟨v,ev,v0,v1⟩:=C 0 h (by decide)
  obtain ⟨k1,hk1⟩:∃ k:Nat,(k:Int)=1 + v / 6 % 9:=⟨(1 + v / 6 % 9).toNat,by omega⟩
  obtain ⟨k2,hk2⟩:∃ k:Nat,(k:Int)=1 + v / 6 % 19:=⟨(1 + v / 6 % 19).toNat,by omega⟩
  obtain ⟨T1,J1,e1,p1,l1⟩:=L 2 k1 h (by decide) (by omega)
  obtain ⟨T2,e2,p2,l2⟩:=comp_ch (f:=compF t_law_word_1 (capE [none,some 0] [some (scr ns),some (.int v),some (.int (v % 6)),some (.str (mkS T1)),none,none,none,none,none]) (fun ρ' h2=>c_law_word_1.evC cl ρ' h2) (fun ρ' h2=>e_law_word_1.ev cl ρ' h2)) (fun c=>48<=c /\ c<=57) (h ++ J1) k2 0 [] (fun j _ hj=>by
    obtain ⟨w,ew,w0,w1⟩:=C (2 + (j:Int)) (h ++ J1) (by omega)
    obtain ⟨c,hc,es⟩:=sub_ch (z:=figS) (i:=w % 10) (by omega) (by rw [show (cs figS).length=10 by decide]; omega) (by decide) (h ++ J1)
    refine ⟨c,compF_t (ρ':=[some (.int (j:Nat)),some (scr ns)]) rfl (h':=h ++ J1) rfl (bnd rfl (bnd (bnd (call_2 rfl (bnd rfl (bnd rfl rfl)) ew) (bnd rfl (mdk (by decide)))) es)),?_⟩
    rw [show cs figS=(List.range 10).map (· + 48) by decide] at hc
    simp at hc
    omega)
  rw [<- List.range_eq_range',List.nil_append] at e2
  have q1:∀ c ∈ T1,okC c:=fun c hc=>by have:=p1 c hc; unfold okC; omega
  have q2:∀ c ∈ T2,okC c:=fun c hc=>by have:=p2 c hc; unfold okC; omega
  have n1:T1 ≠ []:=by intro z; rw [z] at l1; simp at l1; omega
  have n2:T2 ≠ []:=by intro z; rw [z] at l2; simp at l2; omega
  obtain ⟨H,hH⟩:∃ H,H=h ++ J1 ++ [O.lst ((T2.map fun c=>mkS [c]).map D.str)]:=⟨_,rfl⟩
  have rt:∀ {p p1 p2 p3 p4 p5 p6 p7 p8:Pos},I.ev cl (.rng (.bin .Add (.int 1 p) (.bin .Mod (.bin .FloorDiv (.var 1 p1) (.int 6 p2) p3) (.int 19 p4) p5) p6) p7 p8) [some (scr ns),some (.int v),some (.int (v % 6)),some (.str (mkS T1)),none,none,none,none,none] (h ++ J1)=.ok ([],(List.range k2).map fun k=>.int (k:Nat)) (h ++ J1):=by
    intros
    have:(k2:Nat)=(1 + v / 6 % 19).toNat:=by omega
    rw [this]
    exact rng_s (bnd rfl (bnd (md_ev rfl (by decide) (by decide)) rfl)) (by omega)
  have go:∀ {o:RS},Ss.run cl (dropS 4 d_law_word.body) [some (scr ns),some (.int v),some (.int (v % 6)),some (.str (mkS T1)),some (.str (mkS T2)),none,none,none,none] H=o->Ss.run cl d_law_word.body [some (scr ns),none,none,none,none,none,none,none,none] h=o:=fun k =>
    set_s (call_2 rfl rfl ev) (set_s (bnd rfl (bnd rfl (mdk (by decide)))) (set_s (call_3 rfl rfl (bnd rfl (bnd (md_ev rfl (by decide) (by decide)) rfl)) (by rw [hk1] at e1; exact e1)) (set_s (d:=.str (mkS T2)) (h':=H) (by rw [hH]; exact join_e (ofL_comp (q:=([],(List.range k2).map fun k=>.int (k:Nat))) rt (by rw [List.length_map,List.length_range]; omega) e2) (by rw [hx0]; rfl) (by omega)) k)))
  have ap:∀ K:Hh,H ++ K=h ++ (J1 ++ [O.lst ((T2.map fun c=>mkS [c]).map D.str)] ++ K):=fun K=>by rw [hH]; simp only [List.append_assoc]
  have ap0:H=h ++ (J1 ++ [O.lst ((T2.map fun c=>mkS [c]).map D.str)]):=by rw [hH]; simp only [List.append_assoc]
  have tp:∀ (k:Int) {b:Bool} {p p1 p2:Pos},((v % 6) == k)=b->E.evT cl (.cmp .Eq (.var 2 p) (.int k p1) p2) [some (scr ns),some (.int v),some (.int (v % 6)),some (.str (mkS T1)),some (.str (mkS T2)),none,none,none,none] H=.ok b H:=fun k {b p p1 p2} hb=>t_eqi rfl hb
  by_cases z1:v % 6=1
  · refine ⟨mkS T2,J1 ++ [O.lst ((T2.map fun c=>mkS [c]).map D.str)],?_,wq_mk q2 n2 (by omega)⟩
    rw [<- ap0]
    exact out_rt (go (iff_r (tp 1 (beq_t z1)) (ret_r rfl)))
  · by_cases z2:v % 6=2
    · have gr:(H ++ [O.lst (resW.map D.str)])[H.length]?=some (.lst (resW.map D.str)):=by rw [hx0]; rfl
      obtain ⟨x,hx,es⟩:=sub_w (i:=v / 6 % 12) gr (by omega) (by show _ < (12:Int); omega)
      refine ⟨x,J1 ++ [O.lst ((T2.map fun c=>mkS [c]).map D.str)] ++ [O.lst (resW.map D.str)],?_,wq_list (l:=resW) (by decide +kernel) hx⟩
      rw [<- ap]
      exact out_rt (go (iff_f (tp 1 (beq_f z1)) (iff_r (tp 2 (beq_t z2)) (set_s (d:=.loc H.length) (h':=H ++ [O.lst (resW.map D.str)]) rfl (ret_r (bnd rfl (bnd (md_ev rfl (by decide) (by decide)) es)))))))
    · by_cases z3:v % 6=3
      · have gr:(H ++ [O.lst (sgW.map D.str)])[H.length]?=some (.lst (sgW.map D.str)):=by rw [hx0]; rfl
        obtain ⟨x,hx,es⟩:=sub_w (i:=v / 6 % 12) gr (by omega) (by show _ < (12:Int); omega)
        refine ⟨x,J1 ++ [O.lst ((T2.map fun c=>mkS [c]).map D.str)] ++ [O.lst (sgW.map D.str)],?_,wq_list (l:=sgW) (by decide +kernel) hx⟩
        rw [<- ap]
        exact out_rt (go (iff_f (tp 1 (beq_f z1)) (iff_f (tp 2 (beq_f z2)) (iff_r (tp 3 (beq_t z3)) (ret_r (bnd (x:=.loc H.length) (h:=H ++ [O.lst (sgW.map D.str)]) rfl (bnd (md_ev rfl (by decide) (by decide)) es)))))))
      · by_cases z4:v % 6=4
        · obtain ⟨w,ew,w0,w1⟩:=C 1 H (by decide)
          obtain ⟨c,hc,es⟩:=sub_ch (z:=oddS) (i:=w % 32) (by omega) (by rw [show (cs oddS).length=32 by decide]; omega) (by decide) H
          have qc:okC c:=by
            have:(cs oddS).all (fun c=>decide (c ≠ 10 /\ c ≠ 32 /\ c ≠ 40 /\ c ≠ 41 /\ c < 1114112))=true:=by decide +kernel
            unfold okC
            exact of_decide_eq_true (List.all_eq_true.mp this c hc)
          have fin:∀ (T:List Nat),(∀ c ∈ T,okC c)->T.length<=19->(∀ {o:RS},Ss.run cl (dropS 3 (bodyOf (headS (dropS 7 d_law_word.body)))) [some (scr ns),some (.int v),some (.int (v % 6)),some (.str (mkS T1)),some (.str (mkS T2)),none,some (.str (mkS [c])),some (.str (mkS T)),none] H=o->Ss.run cl (dropS 2 (bodyOf (headS (dropS 7 d_law_word.body)))) [some (scr ns),some (.int v),some (.int (v % 6)),some (.str (mkS T1)),some (.str (mkS T2)),none,some (.str (mkS [c])),some (.str (mkS T1)),none] H=o) ->
              ∃ x J,d_law_word.run cl [scr ns] h=.ok (.str x) (h ++ J) /\ Wq (cs x):=fun T qT lT k=>by
            obtain ⟨m,hm⟩:∃ m:Nat,(m:Int)=w / 32 % ((T.length:Int) + 1):=⟨(w / 32 % ((T.length:Int) + 1)).toNat,by have:=Int.emod_nonneg (w / 32) (show (T.length:Int) + 1 ≠ 0 by omega); omega⟩
            have mlt:=Int.emod_lt_of_pos (w / 32) (show (0:Int) < (T.length:Int) + 1 by omega)
            have ml:m<=T.length:=by omega
            have ln:∀ H,lenD (.str (mkS T)) H=.ok (.int (T.length:Nat)) H:=fun H=>by
              unfold lenD; dsimp only; rw [if_pos (by rw [mk_len]; omega),mk_len]
            have c1:∀ H,cutD (.str (mkS T)) none (some (m:Int)) H=.ok (.str (mkS (T.take m))) H:=fun H=>by
              unfold cutD; dsimp only; rw [if_pos (by rw [mk_len]; omega),slice_to T m ml]
            have c2:∀ H,cutD (.str (mkS T)) (some (m:Int)) none H=.ok (.str (mkS (T.drop m))) H:=fun H=>by
              unfold cutD; dsimp only; rw [if_pos (by rw [mk_len]; omega),slice_from T m ml]
            have a1:(mkS (T.take m)).length + (mkS [c]).length<=1000000:=by rw [mk_len,mk_len]; simp; omega
            have a2:(mkS (T.take m ++ [c])).length + (mkS (T.drop m)).length<=1000000:=by rw [mk_len,mk_len]; simp; omega
            have s1:∀ {p p1 p2 p3 p4 p5 p6 p7 p8 p9 p10 p11:Pos},E.ev cl (.bin .Mod (.bin .FloorDiv (.call 18 (.var 0 p) (.cons (.int 1 p1) .nil) p2 p3) (.int 32 p4) p5) (.bin .Add (.len (.var 7 p6) p7 p8) (.int 1 p9) p10) p11) [some (scr ns),some (.int v),some (.int (v % 6)),some (.str (mkS T1)),some (.str (mkS T2)),none,some (.str (mkS [c])),some (.str (mkS T)),none] H=.ok (.int (m:Nat)) H:=by
              intros
              rw [hm]
              exact bnd (bnd (call_2 rfl rfl ew) (bnd rfl (fdk (by decide)))) (bnd (bnd (bnd rfl (ln H)) (bnd rfl rfl)) (mdk (by omega)))
            refine ⟨mkS (T.take m ++ [c] ++ T.drop m),J1 ++ [O.lst ((T2.map fun c=>mkS [c]).map D.str)],?_,wq_mk (fun x hx=>?_) (by simp) (by simp; omega)⟩
            · rw [<- ap0]
              have fin:Ss.run cl (dropS 3 (bodyOf (headS (dropS 7 d_law_word.body)))) [some (scr ns),some (.int v),some (.int (v % 6)),some (.str (mkS T1)),some (.str (mkS T2)),none,some (.str (mkS [c])),some (.str (mkS T)),none] H=.rt (.str (mkS (T.take m ++ [c] ++ T.drop m))) H:=by
                rw [<- mk_append,<- mk_append]
                exact set_s s1 (ret_r (bnd (bnd (bnd rfl (bnd rfl (bnd rfl (c1 H)))) (bnd rfl (add_s a1))) (bnd (bnd rfl (bnd (x:=some (m:Int)) rfl (bnd rfl (c2 H)))) (add_s (by rw [mk_append]; exact a2)))))
              exact out_rt (go (iff_f (tp 1 (beq_f z1)) (iff_f (tp 2 (beq_f z2)) (iff_f (tp 3 (beq_f z3)) (iff_r (tp 4 (beq_t z4)) (set_s (bnd rfl (bnd (bnd (call_2 rfl rfl ew) (bnd rfl (mdk (by decide)))) es)) (set_s rfl (k fin))))))))
            · rcases List.mem_append.mp hx with hx | hx
              · rcases List.mem_append.mp hx with hx | hx
                · exact qT x (List.mem_of_mem_take hx)
                · rw [List.mem_singleton.mp hx]; exact qc
              · exact qT x (List.mem_of_mem_drop hx)
          by_cases y:v / 54 % 2=1
          · exact fin T2 q2 (by omega) fun k=>iff_n (t_ei (md_ev rfl (by decide) (by decide)) (beq_t y)) (set_s rfl rfl) k
          · exact fin T1 q1 (by omega) fun k=>iff_f (t_ei (md_ev rfl (by decide) (by decide)) (beq_f y)) k
        · refine ⟨mkS T1,J1 ++ [O.lst ((T2.map fun c=>mkS [c]).map D.str)],?_,wq_mk q1 n1 (by omega)⟩
          rw [<- ap0]
          exact out_rt (go (iff_f (tp 1 (beq_f z1)) (iff_f (tp 2 (beq_f z2)) (iff_f (tp 3 (beq_f z3)) (iff_f (tp 4 (beq_f z4)) (ret_r rfl))))))
end
end K11
set_option Elab.async false
set_option linter.all false
set_option maxRecDepth 100000
set_option maxHeartbeats 4000000
namespace K11
open PySem L2 PI
section
variable {cl:Nat->List D->Hh->Res D} {ns:List Int}
noncomputable def DueAt (cl:Nat->List D->Hh->Res D):Prop:=∀ x h,Wq (cs x)->∃ J,cl 21 [.str x] h=.ok (opD (dueF x)) (h ++ J)
theorem due_low {T:List Nat} (hT:low T) (ne:T ≠ []) (l:T.length<=8):dueF (mkS T)=if resW.any (fun y=>y == mkS T)=true then none else some (.tup [.str "var",.str (mkS T)]):=by
  obtain ⟨c,r,ec⟩:∃ c r,T=c :: r:=by cases T with | nil=>exact absurd rfl ne | cons c r=>exact ⟨c,r,rfl⟩
  unfold dueF
  rw [cs_mk]
  have a:T.all (sgIn figS)=false:=by rw [ec,List.all_cons,out_fig (hT c (by rw [ec]; exact List.mem_cons_self ..)),Bool.false_and]
  have b:T.all (sgIn letS)=true:=List.all_eq_true.mpr fun c hc=>in_let (hT c hc)
  rw [a,b,if_neg (by decide),if_neg (by omega),if_neg (by decide)]
theorem r_name (C:CellAt cl ns) (L:LettersAt cl ns) (U:DueAt cl) (h:Hh):∃ x J,d_law_name.run cl [scr ns] h=.ok (.str x) (h ++ J) /\ Nm x:=by
  obtain ⟨v,ev,v0,v1⟩:=C 1 h (by decide)
  obtain ⟨k,hk⟩:∃ k:Nat,(k:Int)=1 + v / 1056 % 8:=⟨(1 + v / 1056 % 8).toNat,by omega⟩
  obtain ⟨T,J,e,p,l⟩:=L 22 k h (by decide) (by omega)
  have ne:T ≠ []:=by intro z; rw [z] at l; simp at l; omega
  have wq:Wq (cs (mkS T)):=wq_mk (fun c hc=>by have:=p c hc; unfold okC; omega) ne (by omega)
  obtain ⟨J2,e2⟩:=U (mkS T) (h ++ J) wq
  rw [due_low p ne (by omega)] at e2
  have go:∀ {o:RS},Ss.run cl (dropS 2 d_law_name.body) [some (scr ns),some (.int (v / 1056)),some (.str (mkS T))] (h ++ J)=o->Ss.run cl d_law_name.body [some (scr ns),none,none] h=o:=fun k=>set_s (bnd (call_2 rfl rfl ev) (bnd rfl (fdk (by decide)))) (set_s (call_3 rfl rfl (bnd rfl (bnd (bnd rfl (bnd rfl (mdk (by decide)))) rfl)) (by rw [hk] at e; exact e)) k)
  by_cases w:resW.any (fun y=>y == mkS T)=true
  · rw [if_pos w] at e2
    have az:mkS T ++ Str.ofString "z"=mkS (T ++ [122]):=cs_inj (by rw [cs_append,cs_mk,cs_mk,show cs (Str.ofString "z")=[122] by decide])
    have kz:(mkS T).length + (Str.ofString "z").length<=1000000:=by rw [mk_len,show (Str.ofString "z").length=1 by decide]; omega
    refine ⟨mkS (T ++ [122]),J ++ J2,?_,?_⟩
    · rw [<- az,<- List.append_assoc]
      exact out_rt (go (iff_r (t_cmp (call_1 rfl e2) rfl rfl) (ret_r (bnd rfl (bnd rfl (add_s kz))))))
    · obtain ⟨q1,q2⟩:=more_nm (z:="z") w (by decide)
      rw [az] at q1 q2
      rw [mk_len] at q2
      refine low_nm (fun z hz=>?_) (by simp) q2 q1
      rcases List.mem_append.mp hz with q | q
      · exact p z q
      · rw [List.mem_singleton.mp q]; decide
  · rw [if_neg w] at e2
    refine ⟨mkS T,J ++ J2,?_,low_nm p ne (by omega) ((Bool.not_eq_true _).mp w)⟩
    rw [<- List.append_assoc]
    exact out_rt (go (iff_f (t_cmp (call_1 rfl e2) rfl rfl) (ret_r rfl)))
noncomputable def spc4:List Str:=[""," ","\n","  \n "]
theorem spc_sp {s:Str} (h:s ∈ spc4):Sp (cs s) /\ (cs s).length<=4:=by
  have a:spc4.all (fun s=>decide ((cs s).length<=4) && (cs s).all fun c=>decide (c=32 \/ c=10))=true:=by decide +kernel
  have b:=List.all_eq_true.mp a s h
  rw [Bool.and_eq_true] at b
  exact ⟨fun c hc=>of_decide_eq_true (List.all_eq_true.mp b.2 c hc),of_decide_eq_true b.1⟩
noncomputable def txW (f s w:Str):Str:=("(def ":Str) ++ f ++ " ()" ++ s ++ " " ++ w ++ s ++ ")" ++ s
theorem cs_txW (f s w:Str):cs (txW f s w)=cs ("(def ":Str) ++ cs f ++ cs (" ()":Str) ++ cs s ++ [32] ++ cs w ++ cs s ++ [41] ++ cs s:=by
  unfold txW
  rw [cs_append,cs_append,cs_append,cs_append,cs_append,cs_append,cs_append,cs_append]
  rw [show cs (" ":Str)=[32] by decide,show cs (")":Str)=[41] by decide]
theorem sp_app {a b:List Nat} (ha:Sp a) (hb:Sp b):Sp (a ++ b):=fun c hc=>by
  rcases List.mem_append.mp hc with hc | hc
  · exact ha c hc
  · exact hb c hc
theorem tx_words {f s w:Str} (hf:Nm f) (hs:Sp (cs s)) (hw:Wq (cs w)):w1 [] (Sn (cs (txW f s w)))=(Th.wss [fnTh f (.w w)]).map cs:=by
  have i0:Inv [] [] []:=inv_start sp0
  have i1:=inv_br i0 brO' sp0
  have i2:=inv_w i1 (wq_of (x:="def") (by decide +kernel)) sp1
  rw [if_neg (by decide)] at i2
  have i3:=inv_w i2 (nm_wq hf) sp1
  rw [if_neg (by decide)] at i3
  have i4:=inv_br i3 brO' sp0
  have i5:=inv_br i4 brC' (sp_app hs sp1)
  have i6:=inv_w i5 hw hs
  have i7:=inv_br i6 brC' hs
  have e:cs (txW f s w)=[] ++ [40] ++ [] ++ cs ("def":Str) ++ [32] ++ cs f ++ [32] ++ [40] ++ [] ++ [41] ++ (cs s ++ [32]) ++ cs w ++ cs s ++ [41] ++ cs s:=by
    rw [cs_txW]
    simp [show cs ("(def ":Str)=[40,100,101,102,32] by decide,show cs (" ()":Str)=[32,40,41] by decide,show cs ("def":Str)=[100,101,102] by decide]
  rw [e,inv_end i7,Th.wss,Th.wss,fnTh,Th.ws,Th.wss,Th.wss,Th.wss,Th.wss,Th.wss,Th.ws,Th.ws,Th.ws,Th.ws,Th.wss]
  simp [cs_o,cs_c]
theorem tx_fine {f s w:Str} (hf:Nm f) (hs:Sp (cs s)) (ls:(cs s).length<=4) (hw:Wq (cs w)):(∀ c ∈ cs (txW f s w),c < 1114112) /\ (cs (txW f s w)).length<=100:=by
  rw [cs_txW]
  have lf:=hf.le
  have lw:=hw.le
  refine ⟨fun c hc=>?_,?_⟩
  · have a1:∀ c ∈ cs ("(def ":Str),c < 1114112:=by decide
    have a2:∀ c ∈ cs (" ()":Str),c < 1114112:=by decide
    have a3:∀ c ∈ cs s,c < 1114112:=fun c hc=>by rcases hs c hc with rfl | rfl <;> decide
    have a4:∀ c ∈ cs f,c < 1114112:=fun c hc=>by have:=hf.lo c hc; omega
    have a5:∀ c ∈ cs w,c < 1114112:=fun c hc=>(hw.ch c hc).2.2.2.2
    have a6:∀ c ∈ [32],c < 1114112:=by decide
    have a7:∀ c ∈ [41],c < 1114112:=by decide
    simp only [List.mem_append] at hc
    rcases hc with (((((((hc | hc) | hc) | hc) | hc) | hc) | hc) | hc) | hc
    · exact a1 c hc
    · exact a4 c hc
    · exact a2 c hc
    · exact a3 c hc
    · exact a6 c hc
    · exact a5 c hc
    · exact a3 c hc
    · exact a7 c hc
    · exact a3 c hc
  · simp only [List.length_append,show (cs ("(def ":Str)).length=5 by decide,show (cs (" ()":Str)).length=3 by decide,List.length_cons,List.length_nil]
    omega
structure LawC (cl:Nat->List D->Hh->Res D) (ns:List Int):Prop where
  ce:CellAt cl ns
  wo:∀ h,∃ x J,cl 20 [scr ns] h=.ok (.str x) (h ++ J) /\ Wq (cs x)
  na:∀ h,∃ x J,cl 23 [scr ns] h=.ok (.str x) (h ++ J) /\ Nm x
  du:DueAt cl
  re:∀ (f s w:Str) (h:Hh),Nm f->s ∈ spc4->Wq (cs w)->∃ J,cl 2 [.str (txW f s w)] h=rs ((dueF w).map fun e=>.tup [fnD f e]) (h ++ J)
  rx:∀ (f s w:Str) (h:Hh),Nm f->s ∈ spc4->Wq (cs w)->dueF w=none->∃ J,cl 24 [.str (txW f s w)] h=.ok (.bl true) (h ++ J)
  al:∀ d,Pl 4 d->AlikeAt cl d
theorem tryA_x {b:Ss} {x:Str} {D0:Nat} {ups:List Nat} {cs:List (Str × Nat × List Nat)} {j i:Nat} {v:Xv} {p0 p1 p3 p4 p:Pos} {ρ ρ':En} {h h':Hh} {c:Nat} {r:Ss} {o:RS} (hb:b.run cl ρ h=.ex c ρ' h') {q:Str × Nat × List Nat} (hc:cs.find? (fun q=>q.2.1 == c)=some q) (hj:j < ρ'.length) (k:Ss.run cl r ((ρ'.set i (some (v.run q.2.2 h').1)).set j none) (v.run q.2.2 h').2=o):Ss.run cl (.cons (.tryA b x D0 ups cs j i v p0 p1 p3 p4 p) r) ρ h=o:=by
  show seqS (match b.run cl ρ h with | .ex c ρ' h'=>tryR cs j i v c ρ' h' | o=>o) _=_
  rw [hb]
  dsimp only
  unfold tryR
  rw [hc]
  dsimp only
  rw [if_pos hj]
  exact k
theorem ex_x {e:E} {p:Pos} {r:Ss} {ρ:En} {h h':Hh} {c:Nat} (he:e.ev cl ρ h=.exc c h'):Ss.run cl (.cons (.ex e p) r) ρ h=.ex c ρ h':=by
  show seqS (andS ρ (e.ev cl ρ h) _) _=_
  rw [he]; rfl
theorem r_refused {x:Str} {h:Hh} {J:Hh} (e:cl 2 [.str x] h=.exc 1 (h ++ J)):d_law_refused.run cl [.str x] h=.ok (.bl true) (h ++ J) :=
  out_rt (set_s rfl (tryA_x (c:=1) (ex_x (call_1 rfl e)) rfl (Nat.le_of_ble_eq_true rfl) (ret_r rfl)))
theorem pl_due {x:Str} (w:Wq (cs x)) {e:D} (he:dueF x=some e):isN e=false /\ Pl 1 e:=by
  unfold dueF at he
  split at he
  · split at he
    · cases he
    · split at he
      · cases he
      · rename_i A _ _
        have ri:∃ n,PySem.intText? x=some n:=⟨_,PySem.intText_digits (x:=x) (fun d hd=>fig_rng (List.all_eq_true.mp A d hd)) w.ne (by rw [show x.length=(cs x).length from cs_len _]; omega)⟩
        obtain ⟨n,ri⟩:=ri
        have nt:numT x=.tup [.str "num",.int n]:=by unfold numT; rw [ri]
        rw [nt] at he
        cases he
        exact ⟨rfl,pl_tup (Nat.le_of_ble_eq_true rfl) (pl_1 (.str _ _ (by decide +kernel)) (pl_1 (.int _ _) pl_0))⟩
  · split at he
    · cases he
    · split at he
      · cases he
      · split at he
        · cases he
        · cases he
          exact ⟨rfl,pl_tup (Nat.le_of_ble_eq_true rfl) (pl_1 (.str _ _ (by decide +kernel)) (pl_1 (.str _ _ (wq_tw w).ok) pl_0))⟩
theorem r_law (C:LawC cl ns):∃ h',d_law.run cl [scr ns] []=.ok (.bl true) h':=by
  obtain ⟨w,J1,e1,hw⟩:=C.wo []
  obtain ⟨f,J2,e2,hf⟩:=C.na ([] ++ J1)
  obtain ⟨v,ev,v0,v1⟩:=C.ce 30 ([] ++ J1 ++ J2 ++ [.lst (spc4.map D.str)]) (by decide)
  obtain ⟨H,hH⟩:∃ H:Hh,H=[] ++ J1 ++ J2 ++ [.lst (spc4.map D.str)]:=⟨_,rfl⟩
  obtain ⟨s,hs,es⟩:=sub_w (l:=spc4) (n:=([] ++ J1 ++ J2:Hh).length) (i:=v % 4) (h:=H) (by rw [hH,hx0]; rfl) (by omega) (by show _ < (4:Int); omega)
  rw [<- hH] at ev
  obtain ⟨s1,s2⟩:=spc_sp hs
  obtain ⟨J3,e3⟩:=C.du w H hw
  obtain ⟨fc,fl⟩:=tx_fine hf s1 s2 hw
  have ll:(txW f s w).length<=100:=by rw [cs_len]; exact fl
  unfold txW at ll
  rw [Str.length_append,Str.length_append,Str.length_append,Str.length_append,Str.length_append,Str.length_append,Str.length_append,Str.length_append] at ll
  have tx:∀ {p p1 p2 p3 p4 p5 p6 p7 p8 p9 p10 p11 p12 p13 p14 p15 p16:Pos},E.ev cl (.bin .Add (.bin .Add (.bin .Add (.bin .Add (.bin .Add (.bin .Add (.bin .Add (.bin .Add (.str "(def " p) (.var 2 p1) p2) (.str " ()" p3) p4) (.var 3 p5) p6) (.str " " p7) p8) (.var 1 p9) p10) (.var 3 p11) p12) (.str ")" p13) p14) (.var 3 p15) p16) [some (scr ns),some (.str w),some (.str f),some (.str s),none,none,none] H=.ok (.str (txW f s w)) H:=by
    intros
    exact bnd (bnd (bnd (bnd (bnd (bnd (bnd (bnd rfl (bnd rfl (add_s (by omega)))) (bnd rfl (add_s (by rw [Str.length_append]; omega)))) (bnd rfl (add_s (by rw [Str.length_append,Str.length_append]; omega)))) (bnd rfl (add_s (by rw [Str.length_append,Str.length_append,Str.length_append]; omega)))) (bnd rfl (add_s (by rw [Str.length_append,Str.length_append,Str.length_append,Str.length_append]; omega)))) (bnd rfl (add_s (by rw [Str.length_append,Str.length_append,Str.length_append,Str.length_append,Str.length_append]; omega)))) (bnd rfl (add_s (by rw [Str.length_append,Str.length_append,Str.length_append,Str.length_append,Str.length_append,Str.length_append]; omega)))) (bnd rfl (add_s (by rw [Str.length_append,Str.length_append,Str.length_append,Str.length_append,Str.length_append,Str.length_append,Str.length_append]; omega)))
  have go:∀ {o:RS},Ss.run cl (dropS 5 d_law.body) [some (scr ns),some (.str w),some (.str f),some (.str s),some (.str (txW f s w)),some (opD (dueF w)),none] (H ++ J3)=o->Ss.run cl d_law.body [some (scr ns),none,none,none,none,none,none] []=o:=fun k =>
    set_s (call_1 rfl e1) (set_s (call_1 rfl e2) (set_s (d:=.str s) (h':=H) (bnd (x:=.loc ([] ++ J1 ++ J2:Hh).length) (h:=H) (by rw [hH]; rfl) (bnd (bnd (call_2 rfl rfl ev) (bnd rfl (mdk (by decide)))) es)) (set_s tx (set_s (call_1 rfl e3) k))))
  cases o:dueF w with
  | none =>
    rw [o] at go
    obtain ⟨J4,e4⟩:=C.rx f s w (H ++ J3) hf hs hw o
    exact ⟨_,out_rt (go (iff_r (t_cmp rfl rfl rfl) (ret_r (call_1 rfl e4))))⟩
  | some d =>
    rw [o] at go
    obtain ⟨p1,p2⟩:=pl_due hw o
    obtain ⟨J4,e4⟩:=C.re f s w (H ++ J3) hf hs hw
    rw [o] at e4
    have pl:Pl 4 (.tup [fnD f d]):=(pl_tup (n:=2) (Nat.le_of_ble_eq_true rfl) (pl_1 (pl_tup (n:=1) (Nat.le_of_ble_eq_true rfl) (pl_1 (.str _ _ (by decide +kernel)) (pl_1 (pl_nm hf) (pl_1 (pl_tup (n:=0) (Nat.le_of_ble_eq_true rfl) pl_0) (pl_1 (.non _) (pl_1 p2 pl_0)))))) pl_0)).up 4 (by omega)
    obtain ⟨J5,e5⟩:=C.al _ pl (H ++ J3 ++ J4)
    exact ⟨_,out_rt (go (iff_f (t_cmp (x:=d) (y:=.non) rfl rfl (by show Res.ok (D.bl (ngB false (isN d))) _=_; rw [p1]; rfl)) (set_s rfl (try_n (set_s (call_1 rfl e4) rfl) (ret_r (call_2 rfl rfl e5))))))⟩
end
theorem i_cell (k:Nat) (ns:List Int) (hb:∀ n ∈ ns,fits n=true):CellAt (callI defs (k + 1)) ns:=fun j h hj=>by
  obtain ⟨v,e,r⟩:=r_cell (callI defs k) h ns j hj hb
  exact ⟨v,(callI_succ (d:=d_law_cell) rfl rfl).trans e,r⟩
theorem i_letters (k:Nat) (ns:List Int) (hb:∀ n ∈ ns,fits n=true):LettersAt (callI defs (k + 2)) ns:=fun a s h h0 hs=>by
  obtain ⟨T,J,e,r⟩:=r_letters (cl:=callI defs (k + 1)) (i_cell k ns hb) a s h0 hs h
  exact ⟨T,J,(callI_succ (d:=d_law_letters) rfl rfl).trans e,r⟩
theorem i_due (k:Nat):DueAt (callI defs (k + 1)):=fun x h w=>by
  obtain ⟨J,e⟩:=r_due (cl:=callI defs k) w h
  exact ⟨J,(callI_succ (d:=d_law_due) rfl rfl).trans e⟩
theorem i_al (k:Nat):∀ n d,Pl n d->AlikeAt (callI defs (k + n + 1)) d
  | 0,d,q=>fun h=>by
    obtain ⟨J,e⟩:=r_alike (cl:=callI defs k) q (fun m hm=>by omega) h
    exact ⟨J,(callI_succ (d:=d_law_alike) rfl rfl).trans e⟩
  | n + 1,d,q=>fun h=>by
    obtain ⟨J,e⟩:=r_alike (cl:=callI defs (k + n + 1)) q (fun m hm x hx=>by
      have:m=n:=by omega
      subst this
      exact i_al k m x hx) h
    exact ⟨J,(callI_succ (d:=d_law_alike) rfl rfl).trans e⟩
theorem i_re (k:Nat) (f s w:Str) (h:Hh) (hf:Nm f) (hs:s ∈ spc4) (hw:Wq (cs w)):∃ J,callI defs (k + 6) 2 [.str (txW f s w)] h=rs ((dueF w).map fun e=>.tup [fnD f e]) (h ++ J):=by
  obtain ⟨s1,s2⟩:=spc_sp hs
  obtain ⟨fc,fl⟩:=tx_fine hf s1 s2 hw
  obtain ⟨J,e⟩:=i_readg k 0 (cs (txW f s w)) f (.w w) h hf (by rw [Th.tw]; exact wq_tw hw) (by rw [Th.dp]; omega) (by decide) fc (Nat.le_trans (sn_le _) (by omega)) (tx_words hf s1 hw) (fn_ok hf (by rw [Th.ok]; exact wq_pw hw))
  rw [mk_cs,ex_due 0 w hw.ne] at e
  exact ⟨J,e⟩
theorem calls (ns:List Int) (hb:∀ n ∈ ns,fits n=true):LawC (callI defs 8) ns where
  ce:=i_cell 7 ns hb
  wo h:=by
    obtain ⟨x,J,e,r⟩:=r_word (cl:=callI defs 7) (i_cell 6 ns hb) (i_letters 5 ns hb) h
    exact ⟨x,J,(callI_succ (d:=d_law_word) rfl rfl).trans e,r⟩
  na h:=by
    obtain ⟨x,J,e,r⟩:=r_name (cl:=callI defs 7) (i_cell 6 ns hb) (i_letters 5 ns hb) (i_due 6) h
    exact ⟨x,J,(callI_succ (d:=d_law_name) rfl rfl).trans e,r⟩
  du:=i_due 7
  re f s w h hf hs hw:=i_re 2 f s w h hf hs hw
  rx f s w h hf hs hw o:=by
    obtain ⟨J,e⟩:=i_re 1 f s w h hf hs hw
    rw [o] at e
    exact ⟨J,(callI_succ (d:=d_law_refused) rfl rfl).trans (r_refused e)⟩
  al d q:=i_al 3 4 d q
theorem law_true (ns:List Int) (hb:∀ n ∈ ns,fits n=true):∃ h',callI defs 9 25 [.fl (ns.map .int)] []=.ok (.bl true) h':=by
  obtain ⟨h',e⟩:=r_law (calls ns hb)
  exact ⟨h',(callI_succ (d:=d_law) rfl rfl).trans e⟩
end K11
set_option Elab.async false
set_option linter.all false
set_option maxRecDepth 100000
set_option maxHeartbeats 4000000
namespace K11
open PySem L2 PI
noncomputable def top (i:Nat):Stmt:=PySem.Challenge.pw_deedwright_k11_a_word.main.body.getD i (.Pass ⟨0,0,0,0⟩)
theorem o_is_name:DefOk (top 14) d_is_name (defs.map (·.name)) consts:=⟨rfl,⟨rfl,rfl,rfl,by decide +kernel,rfl,by decide +kernel,by decide +kernel⟩,by decide +kernel,by decide +kernel,fun _ _ _ _ _ _=>len1 fun _=>rfl⟩
theorem o_is_number:DefOk (top 15) d_is_number (defs.map (·.name)) consts:=⟨rfl,⟨rfl,rfl,rfl,by decide +kernel,rfl,by decide +kernel,by decide +kernel⟩,by decide +kernel,by decide +kernel,fun _ _ _ _ _ _=>len1 fun _=>rfl⟩
theorem o_read:DefOk (top 19) d_read (defs.map (·.name)) consts:=⟨rfl,⟨rfl,rfl,rfl,by decide +kernel,rfl,by decide +kernel,by decide +kernel⟩,by decide +kernel,by decide +kernel,fun _ _ _ _ _ _=>len1 fun _=>rfl⟩
theorem o_words_of:DefOk (top 20) d_words_of (defs.map (·.name)) consts:=⟨rfl,⟨rfl,rfl,rfl,by decide +kernel,rfl,by decide +kernel,by decide +kernel⟩,by decide +kernel,by decide +kernel,fun _ _ _ _ _ _=>len1 fun _=>rfl⟩
theorem o_nested:DefOk (top 21) d_nested (defs.map (·.name)) consts:=⟨rfl,⟨rfl,rfl,rfl,by decide +kernel,rfl,by decide +kernel,by decide +kernel⟩,by decide +kernel,by decide +kernel,fun _ _ _ _ _ _=>len1 fun _=>rfl⟩
theorem o_item_of:DefOk (top 22) d_item_of (defs.map (·.name)) consts:=⟨rfl,⟨rfl,rfl,rfl,by decide +kernel,rfl,by decide +kernel,by decide +kernel⟩,by decide +kernel,by decide +kernel,fun _ _ _ _ _ _=>len1 fun _=>rfl⟩
theorem o_function_of:DefOk (top 23) d_function_of (defs.map (·.name)) consts:=⟨rfl,⟨rfl,rfl,rfl,by decide +kernel,rfl,by decide +kernel,by decide +kernel⟩,by decide +kernel,by decide +kernel,fun _ _ _ _ _ _=>len1 fun _=>rfl⟩
theorem o_handler_of:DefOk (top 24) d_handler_of (defs.map (·.name)) consts:=⟨rfl,⟨rfl,rfl,rfl,by decide +kernel,rfl,by decide +kernel,by decide +kernel⟩,by decide +kernel,by decide +kernel,fun _ _ _ _ _ _=>len1 fun _=>rfl⟩
theorem o_headed:DefOk (top 25) d_headed (defs.map (·.name)) consts:=⟨rfl,⟨rfl,rfl,rfl,by decide +kernel,rfl,by decide +kernel,by decide +kernel⟩,by decide +kernel,by decide +kernel,fun _ _ _ _ _ _=>len3 fun _ _ _=>rfl⟩
theorem o_formed:DefOk (top 26) d_formed (defs.map (·.name)) consts:=⟨rfl,⟨rfl,rfl,rfl,by decide +kernel,rfl,by decide +kernel,by decide +kernel⟩,by decide +kernel,by decide +kernel,fun _ _ _ _ _ _=>len2 fun _ _=>rfl⟩
theorem o_read_as:DefOk (top 27) d_read_as (defs.map (·.name)) consts:=⟨rfl,⟨rfl,rfl,rfl,by decide +kernel,rfl,by decide +kernel,by decide +kernel⟩,by decide +kernel,by decide +kernel,fun _ _ _ _ _ _=>len2 fun _ _=>rfl⟩
theorem o_expression_of:DefOk (top 28) d_expression_of (defs.map (·.name)) consts:=⟨rfl,⟨rfl,rfl,rfl,by decide +kernel,rfl,by decide +kernel,by decide +kernel⟩,by decide +kernel,by decide +kernel,fun _ _ _ _ _ _=>len1 fun _=>rfl⟩
theorem o_call_of:DefOk (top 29) d_call_of (defs.map (·.name)) consts:=⟨rfl,⟨rfl,rfl,rfl,by decide +kernel,rfl,by decide +kernel,by decide +kernel⟩,by decide +kernel,by decide +kernel,fun _ _ _ _ _ _=>len1 fun _=>rfl⟩
theorem o_hand_of:DefOk (top 30) d_hand_of (defs.map (·.name)) consts:=⟨rfl,⟨rfl,rfl,rfl,by decide +kernel,rfl,by decide +kernel,by decide +kernel⟩,by decide +kernel,by decide +kernel,fun _ _ _ _ _ _=>len1 fun _=>rfl⟩
theorem o_expressions_of:DefOk (top 31) d_expressions_of (defs.map (·.name)) consts:=⟨rfl,⟨rfl,rfl,rfl,by decide +kernel,rfl,by decide +kernel,by decide +kernel⟩,by decide +kernel,by decide +kernel,fun _ _ _ _ _ _=>len1 fun _=>rfl⟩
theorem o_head_of:DefOk (top 32) d_head_of (defs.map (·.name)) consts:=⟨rfl,⟨rfl,rfl,rfl,by decide +kernel,rfl,by decide +kernel,by decide +kernel⟩,by decide +kernel,by decide +kernel,fun _ _ _ _ _ _=>len1 fun _=>rfl⟩
theorem o_names_of:DefOk (top 33) d_names_of (defs.map (·.name)) consts:=⟨rfl,⟨rfl,rfl,rfl,by decide +kernel,rfl,by decide +kernel,by decide +kernel⟩,by decide +kernel,by decide +kernel,fun _ _ _ _ _ _=>len1 fun _=>rfl⟩
theorem o_name_of:DefOk (top 34) d_name_of (defs.map (·.name)) consts:=⟨rfl,⟨rfl,rfl,rfl,by decide +kernel,rfl,by decide +kernel,by decide +kernel⟩,by decide +kernel,by decide +kernel,fun _ _ _ _ _ _=>len1 fun _=>rfl⟩
theorem o_law_cell:DefOk (top 36) d_law_cell (defs.map (·.name)) consts:=⟨rfl,⟨rfl,rfl,rfl,by decide +kernel,rfl,by decide +kernel,by decide +kernel⟩,by decide +kernel,by decide +kernel,fun _ _ _ _ _ _=>len2 fun _ _=>rfl⟩
theorem o_law_letters:DefOk (top 37) d_law_letters (defs.map (·.name)) consts:=⟨rfl,⟨rfl,rfl,rfl,by decide +kernel,rfl,by decide +kernel,by decide +kernel⟩,by decide +kernel,by decide +kernel,fun _ _ _ _ _ _=>len3 fun _ _ _=>rfl⟩
theorem o_law_word:DefOk (top 38) d_law_word (defs.map (·.name)) consts:=⟨rfl,⟨rfl,rfl,rfl,by decide +kernel,rfl,by decide +kernel,by decide +kernel⟩,by decide +kernel,by decide +kernel,fun _ _ _ _ _ _=>len1 fun _=>rfl⟩
theorem o_law_due:DefOk (top 39) d_law_due (defs.map (·.name)) consts:=⟨rfl,⟨rfl,rfl,rfl,by decide +kernel,rfl,by decide +kernel,by decide +kernel⟩,by decide +kernel,by decide +kernel,fun _ _ _ _ _ _=>len1 fun _=>rfl⟩
theorem o_law_alike:DefOk (top 40) d_law_alike (defs.map (·.name)) consts:=⟨rfl,⟨rfl,rfl,rfl,by decide +kernel,rfl,by decide +kernel,by decide +kernel⟩,by decide +kernel,by decide +kernel,fun _ _ _ _ _ _=>len2 fun _ _=>rfl⟩
theorem o_law_name:DefOk (top 41) d_law_name (defs.map (·.name)) consts:=⟨rfl,⟨rfl,rfl,rfl,by decide +kernel,rfl,by decide +kernel,by decide +kernel⟩,by decide +kernel,by decide +kernel,fun _ _ _ _ _ _=>len1 fun _=>rfl⟩
theorem o_law_refused:DefOk (top 42) d_law_refused (defs.map (·.name)) consts:=⟨rfl,⟨rfl,rfl,rfl,by decide +kernel,rfl,by decide +kernel,by decide +kernel⟩,by decide +kernel,by decide +kernel,fun _ _ _ _ _ _=>len1 fun _=>rfl⟩
theorem o_law:DefOk (top 43) d_law (defs.map (·.name)) consts:=⟨rfl,⟨rfl,rfl,rfl,by decide +kernel,rfl,by decide +kernel,by decide +kernel⟩,by decide +kernel,by decide +kernel,fun _ _ _ _ _ _=>len1 fun _=>rfl⟩
theorem all_mk {l:PySem.W.OpenLaw} {w:World} {K:PySem.W.Frag} {h:Heap} {mg:Str->Option Value} {fa f0 f1 f2 f3 f4 f5 f6 f7 f8 f9 f10 f11 f12 f13 f14 f15 f16 f17 f18 f19 f20 f21 f22 f23 f24 f25:Addr} (X:K.In h) (G:h.Ns mainGlobals mg) (hfa:mg "law"=some (.ref fa))
    {od0 an0:Option Addr} {sl0:Array (Option Value)} {oc0 kV0 dc0 pm0 cd0 ct0:Value}
    {od1 an1:Option Addr} {sl1:Array (Option Value)} {oc1 kV1 dc1 pm1 cd1 ct1:Value}
    {od2 an2:Option Addr} {sl2:Array (Option Value)} {oc2 kV2 dc2 pm2 cd2 ct2:Value}
    {od3 an3:Option Addr} {sl3:Array (Option Value)} {oc3 kV3 dc3 pm3 cd3 ct3:Value}
    {od4 an4:Option Addr} {sl4:Array (Option Value)} {oc4 kV4 dc4 pm4 cd4 ct4:Value}
    {od5 an5:Option Addr} {sl5:Array (Option Value)} {oc5 kV5 dc5 pm5 cd5 ct5:Value}
    {od6 an6:Option Addr} {sl6:Array (Option Value)} {oc6 kV6 dc6 pm6 cd6 ct6:Value}
    {od7 an7:Option Addr} {sl7:Array (Option Value)} {oc7 kV7 dc7 pm7 cd7 ct7:Value}
    {od8 an8:Option Addr} {sl8:Array (Option Value)} {oc8 kV8 dc8 pm8 cd8 ct8:Value}
    {od9 an9:Option Addr} {sl9:Array (Option Value)} {oc9 kV9 dc9 pm9 cd9 ct9:Value}
    {od10 an10:Option Addr} {sl10:Array (Option Value)} {oc10 kV10 dc10 pm10 cd10 ct10:Value}
    {od11 an11:Option Addr} {sl11:Array (Option Value)} {oc11 kV11 dc11 pm11 cd11 ct11:Value}
    {od12 an12:Option Addr} {sl12:Array (Option Value)} {oc12 kV12 dc12 pm12 cd12 ct12:Value}
    {od13 an13:Option Addr} {sl13:Array (Option Value)} {oc13 kV13 dc13 pm13 cd13 ct13:Value}
    {od14 an14:Option Addr} {sl14:Array (Option Value)} {oc14 kV14 dc14 pm14 cd14 ct14:Value}
    {od15 an15:Option Addr} {sl15:Array (Option Value)} {oc15 kV15 dc15 pm15 cd15 ct15:Value}
    {od16 an16:Option Addr} {sl16:Array (Option Value)} {oc16 kV16 dc16 pm16 cd16 ct16:Value}
    {od17 an17:Option Addr} {sl17:Array (Option Value)} {oc17 kV17 dc17 pm17 cd17 ct17:Value}
    {od18 an18:Option Addr} {sl18:Array (Option Value)} {oc18 kV18 dc18 pm18 cd18 ct18:Value}
    {od19 an19:Option Addr} {sl19:Array (Option Value)} {oc19 kV19 dc19 pm19 cd19 ct19:Value}
    {od20 an20:Option Addr} {sl20:Array (Option Value)} {oc20 kV20 dc20 pm20 cd20 ct20:Value}
    {od21 an21:Option Addr} {sl21:Array (Option Value)} {oc21 kV21 dc21 pm21 cd21 ct21:Value}
    {od22 an22:Option Addr} {sl22:Array (Option Value)} {oc22 kV22 dc22 pm22 cd22 ct22:Value}
    {od23 an23:Option Addr} {sl23:Array (Option Value)} {oc23 kV23 dc23 pm23 cd23 ct23:Value}
    {od24 an24:Option Addr} {sl24:Array (Option Value)} {oc24 kV24 dc24 pm24 cd24 ct24:Value}
    {od25 an25:Option Addr} {sl25:Array (Option Value)} {oc25 kV25 dc25 pm25 cd25 ct25:Value}
    (a0:PySem.W.nsIn K mainGlobals "is_name"=some (some (.ref f0))) (l0:K.lookup f0=some ⟨oc0,od0,.func (PySem.W.fnOf "is_name" "is_name" (defArgs (top 14)) (defBody (top 14)) (defScope (top 14)) .none kV0 dc0 pm0 an0 cd0 ct0),sl0⟩) (c0:PySem.W.codeIn K cd0 "is_name"=true) (k0:PySem.W.keepIn K (.ref f0)=true)
    (a1:PySem.W.nsIn K mainGlobals "is_number"=some (some (.ref f1))) (l1:K.lookup f1=some ⟨oc1,od1,.func (PySem.W.fnOf "is_number" "is_number" (defArgs (top 15)) (defBody (top 15)) (defScope (top 15)) .none kV1 dc1 pm1 an1 cd1 ct1),sl1⟩) (c1:PySem.W.codeIn K cd1 "is_number"=true) (k1:PySem.W.keepIn K (.ref f1)=true)
    (a2:PySem.W.nsIn K mainGlobals "read"=some (some (.ref f2))) (l2:K.lookup f2=some ⟨oc2,od2,.func (PySem.W.fnOf "read" "read" (defArgs (top 19)) (defBody (top 19)) (defScope (top 19)) .none kV2 dc2 pm2 an2 cd2 ct2),sl2⟩) (c2:PySem.W.codeIn K cd2 "read"=true) (k2:PySem.W.keepIn K (.ref f2)=true)
    (a3:PySem.W.nsIn K mainGlobals "words_of"=some (some (.ref f3))) (l3:K.lookup f3=some ⟨oc3,od3,.func (PySem.W.fnOf "words_of" "words_of" (defArgs (top 20)) (defBody (top 20)) (defScope (top 20)) .none kV3 dc3 pm3 an3 cd3 ct3),sl3⟩) (c3:PySem.W.codeIn K cd3 "words_of"=true) (k3:PySem.W.keepIn K (.ref f3)=true)
    (a4:PySem.W.nsIn K mainGlobals "nested"=some (some (.ref f4))) (l4:K.lookup f4=some ⟨oc4,od4,.func (PySem.W.fnOf "nested" "nested" (defArgs (top 21)) (defBody (top 21)) (defScope (top 21)) .none kV4 dc4 pm4 an4 cd4 ct4),sl4⟩) (c4:PySem.W.codeIn K cd4 "nested"=true) (k4:PySem.W.keepIn K (.ref f4)=true)
    (a5:PySem.W.nsIn K mainGlobals "item_of"=some (some (.ref f5))) (l5:K.lookup f5=some ⟨oc5,od5,.func (PySem.W.fnOf "item_of" "item_of" (defArgs (top 22)) (defBody (top 22)) (defScope (top 22)) .none kV5 dc5 pm5 an5 cd5 ct5),sl5⟩) (c5:PySem.W.codeIn K cd5 "item_of"=true) (k5:PySem.W.keepIn K (.ref f5)=true)
    (a6:PySem.W.nsIn K mainGlobals "function_of"=some (some (.ref f6))) (l6:K.lookup f6=some ⟨oc6,od6,.func (PySem.W.fnOf "function_of" "function_of" (defArgs (top 23)) (defBody (top 23)) (defScope (top 23)) .none kV6 dc6 pm6 an6 cd6 ct6),sl6⟩) (c6:PySem.W.codeIn K cd6 "function_of"=true) (k6:PySem.W.keepIn K (.ref f6)=true)
    (a7:PySem.W.nsIn K mainGlobals "handler_of"=some (some (.ref f7))) (l7:K.lookup f7=some ⟨oc7,od7,.func (PySem.W.fnOf "handler_of" "handler_of" (defArgs (top 24)) (defBody (top 24)) (defScope (top 24)) .none kV7 dc7 pm7 an7 cd7 ct7),sl7⟩) (c7:PySem.W.codeIn K cd7 "handler_of"=true) (k7:PySem.W.keepIn K (.ref f7)=true)
    (a8:PySem.W.nsIn K mainGlobals "headed"=some (some (.ref f8))) (l8:K.lookup f8=some ⟨oc8,od8,.func (PySem.W.fnOf "headed" "headed" (defArgs (top 25)) (defBody (top 25)) (defScope (top 25)) .none kV8 dc8 pm8 an8 cd8 ct8),sl8⟩) (c8:PySem.W.codeIn K cd8 "headed"=true) (k8:PySem.W.keepIn K (.ref f8)=true)
    (a9:PySem.W.nsIn K mainGlobals "formed"=some (some (.ref f9))) (l9:K.lookup f9=some ⟨oc9,od9,.func (PySem.W.fnOf "formed" "formed" (defArgs (top 26)) (defBody (top 26)) (defScope (top 26)) .none kV9 dc9 pm9 an9 cd9 ct9),sl9⟩) (c9:PySem.W.codeIn K cd9 "formed"=true) (k9:PySem.W.keepIn K (.ref f9)=true)
    (a10:PySem.W.nsIn K mainGlobals "read_as"=some (some (.ref f10))) (l10:K.lookup f10=some ⟨oc10,od10,.func (PySem.W.fnOf "read_as" "read_as" (defArgs (top 27)) (defBody (top 27)) (defScope (top 27)) .none kV10 dc10 pm10 an10 cd10 ct10),sl10⟩) (c10:PySem.W.codeIn K cd10 "read_as"=true) (k10:PySem.W.keepIn K (.ref f10)=true)
    (a11:PySem.W.nsIn K mainGlobals "expression_of"=some (some (.ref f11))) (l11:K.lookup f11=some ⟨oc11,od11,.func (PySem.W.fnOf "expression_of" "expression_of" (defArgs (top 28)) (defBody (top 28)) (defScope (top 28)) .none kV11 dc11 pm11 an11 cd11 ct11),sl11⟩) (c11:PySem.W.codeIn K cd11 "expression_of"=true) (k11:PySem.W.keepIn K (.ref f11)=true)
    (a12:PySem.W.nsIn K mainGlobals "call_of"=some (some (.ref f12))) (l12:K.lookup f12=some ⟨oc12,od12,.func (PySem.W.fnOf "call_of" "call_of" (defArgs (top 29)) (defBody (top 29)) (defScope (top 29)) .none kV12 dc12 pm12 an12 cd12 ct12),sl12⟩) (c12:PySem.W.codeIn K cd12 "call_of"=true) (k12:PySem.W.keepIn K (.ref f12)=true)
    (a13:PySem.W.nsIn K mainGlobals "hand_of"=some (some (.ref f13))) (l13:K.lookup f13=some ⟨oc13,od13,.func (PySem.W.fnOf "hand_of" "hand_of" (defArgs (top 30)) (defBody (top 30)) (defScope (top 30)) .none kV13 dc13 pm13 an13 cd13 ct13),sl13⟩) (c13:PySem.W.codeIn K cd13 "hand_of"=true) (k13:PySem.W.keepIn K (.ref f13)=true)
    (a14:PySem.W.nsIn K mainGlobals "expressions_of"=some (some (.ref f14))) (l14:K.lookup f14=some ⟨oc14,od14,.func (PySem.W.fnOf "expressions_of" "expressions_of" (defArgs (top 31)) (defBody (top 31)) (defScope (top 31)) .none kV14 dc14 pm14 an14 cd14 ct14),sl14⟩) (c14:PySem.W.codeIn K cd14 "expressions_of"=true) (k14:PySem.W.keepIn K (.ref f14)=true)
    (a15:PySem.W.nsIn K mainGlobals "head_of"=some (some (.ref f15))) (l15:K.lookup f15=some ⟨oc15,od15,.func (PySem.W.fnOf "head_of" "head_of" (defArgs (top 32)) (defBody (top 32)) (defScope (top 32)) .none kV15 dc15 pm15 an15 cd15 ct15),sl15⟩) (c15:PySem.W.codeIn K cd15 "head_of"=true) (k15:PySem.W.keepIn K (.ref f15)=true)
    (a16:PySem.W.nsIn K mainGlobals "names_of"=some (some (.ref f16))) (l16:K.lookup f16=some ⟨oc16,od16,.func (PySem.W.fnOf "names_of" "names_of" (defArgs (top 33)) (defBody (top 33)) (defScope (top 33)) .none kV16 dc16 pm16 an16 cd16 ct16),sl16⟩) (c16:PySem.W.codeIn K cd16 "names_of"=true) (k16:PySem.W.keepIn K (.ref f16)=true)
    (a17:PySem.W.nsIn K mainGlobals "name_of"=some (some (.ref f17))) (l17:K.lookup f17=some ⟨oc17,od17,.func (PySem.W.fnOf "name_of" "name_of" (defArgs (top 34)) (defBody (top 34)) (defScope (top 34)) .none kV17 dc17 pm17 an17 cd17 ct17),sl17⟩) (c17:PySem.W.codeIn K cd17 "name_of"=true) (k17:PySem.W.keepIn K (.ref f17)=true)
    (a18:PySem.W.nsIn K mainGlobals "_law_cell"=some (some (.ref f18))) (l18:K.lookup f18=some ⟨oc18,od18,.func (PySem.W.fnOf "_law_cell" "_law_cell" (defArgs (top 36)) (defBody (top 36)) (defScope (top 36)) .none kV18 dc18 pm18 an18 cd18 ct18),sl18⟩) (c18:PySem.W.codeIn K cd18 "_law_cell"=true) (k18:PySem.W.keepIn K (.ref f18)=true)
    (a19:PySem.W.nsIn K mainGlobals "_law_letters"=some (some (.ref f19))) (l19:K.lookup f19=some ⟨oc19,od19,.func (PySem.W.fnOf "_law_letters" "_law_letters" (defArgs (top 37)) (defBody (top 37)) (defScope (top 37)) .none kV19 dc19 pm19 an19 cd19 ct19),sl19⟩) (c19:PySem.W.codeIn K cd19 "_law_letters"=true) (k19:PySem.W.keepIn K (.ref f19)=true)
    (a20:PySem.W.nsIn K mainGlobals "_law_word"=some (some (.ref f20))) (l20:K.lookup f20=some ⟨oc20,od20,.func (PySem.W.fnOf "_law_word" "_law_word" (defArgs (top 38)) (defBody (top 38)) (defScope (top 38)) .none kV20 dc20 pm20 an20 cd20 ct20),sl20⟩) (c20:PySem.W.codeIn K cd20 "_law_word"=true) (k20:PySem.W.keepIn K (.ref f20)=true)
    (a21:PySem.W.nsIn K mainGlobals "_law_due"=some (some (.ref f21))) (l21:K.lookup f21=some ⟨oc21,od21,.func (PySem.W.fnOf "_law_due" "_law_due" (defArgs (top 39)) (defBody (top 39)) (defScope (top 39)) .none kV21 dc21 pm21 an21 cd21 ct21),sl21⟩) (c21:PySem.W.codeIn K cd21 "_law_due"=true) (k21:PySem.W.keepIn K (.ref f21)=true)
    (a22:PySem.W.nsIn K mainGlobals "_law_alike"=some (some (.ref f22))) (l22:K.lookup f22=some ⟨oc22,od22,.func (PySem.W.fnOf "_law_alike" "_law_alike" (defArgs (top 40)) (defBody (top 40)) (defScope (top 40)) .none kV22 dc22 pm22 an22 cd22 ct22),sl22⟩) (c22:PySem.W.codeIn K cd22 "_law_alike"=true) (k22:PySem.W.keepIn K (.ref f22)=true)
    (a23:PySem.W.nsIn K mainGlobals "_law_name"=some (some (.ref f23))) (l23:K.lookup f23=some ⟨oc23,od23,.func (PySem.W.fnOf "_law_name" "_law_name" (defArgs (top 41)) (defBody (top 41)) (defScope (top 41)) .none kV23 dc23 pm23 an23 cd23 ct23),sl23⟩) (c23:PySem.W.codeIn K cd23 "_law_name"=true) (k23:PySem.W.keepIn K (.ref f23)=true)
    (a24:PySem.W.nsIn K mainGlobals "_law_refused"=some (some (.ref f24))) (l24:K.lookup f24=some ⟨oc24,od24,.func (PySem.W.fnOf "_law_refused" "_law_refused" (defArgs (top 42)) (defBody (top 42)) (defScope (top 42)) .none kV24 dc24 pm24 an24 cd24 ct24),sl24⟩) (c24:PySem.W.codeIn K cd24 "_law_refused"=true) (k24:PySem.W.keepIn K (.ref f24)=true)
    (a25:PySem.W.nsIn K mainGlobals "law"=some (some (.ref f25))) (l25:K.lookup f25=some ⟨oc25,od25,.func (PySem.W.fnOf "law" "law" (defArgs (top 43)) (defBody (top 43)) (defScope (top 43)) .none kV25 dc25 pm25 an25 cd25 ct25),sl25⟩) (c25:PySem.W.codeIn K cd25 "law"=true) (k25:PySem.W.keepIn K (.ref f25)=true)
    (z0:PySem.W.nsIn K mainGlobals "len"=some none)
    (z1:PySem.W.nsIn K mainGlobals "isinstance"=some none)
    (z2:PySem.W.nsIn K mainGlobals "int"=some none)
    (z3:PySem.W.nsIn K mainGlobals "bool"=some none)
    (z4:PySem.W.nsIn K mainGlobals "str"=some none)
    (z5:PySem.W.nsIn K mainGlobals "tuple"=some none)
    (z6:PySem.W.nsIn K mainGlobals "list"=some none)
    (z7:PySem.W.nsIn K mainGlobals "range"=some none)
    (z8:PySem.W.nsIn K mainGlobals "max"=some none)
    (z9:PySem.W.nsIn K mainGlobals "min"=some none)
    (z10:PySem.W.nsIn K mainGlobals "sum"=some none)
    (z11:PySem.W.nsIn K mainGlobals "all"=some none)
    (z12:PySem.W.nsIn K mainGlobals "any"=some none)
    (z13:PySem.W.nsIn K mainGlobals "zip"=some none)
    (z14:PySem.W.nsIn K mainGlobals "reversed"=some none)
    (z15:PySem.W.nsIn K mainGlobals "sorted"=some none)
    (z16:PySem.W.nsIn K mainGlobals "set"=some none)
    (z17:PySem.W.nsIn K mainGlobals "enumerate"=some none)
    (z18:PySem.W.nsIn K mainGlobals "dict"=some none)
    (z19:PySem.W.nsIn K mainGlobals "abs"=some none)
    (z20:PySem.W.nsIn K mainGlobals "ValueError"=some none)
    {gc0:Addr} (ga0:PySem.W.nsIn K mainGlobals "WORDS"=some (some (.ref gc0))) (ge0:TupK K gc0 g_WORDS)
    {gc1:Addr} (ga1:PySem.W.nsIn K mainGlobals "SIGNS"=some (some (.ref gc1))) (ge1:TupK K gc1 g_SIGNS)
    {gt2:Tok} (ga2:PySem.W.nsIn K mainGlobals "LETTERS"=some (some (.str "abcdefghijklmnopqrstuvwxyz" gt2)))
    {gt3:Tok} (ga3:PySem.W.nsIn K mainGlobals "LONGEST_NAME"=some (some (.int (8) gt3)))
    {gt4:Tok} (ga4:PySem.W.nsIn K mainGlobals "FIGURES"=some (some (.str "0123456789" gt4)))
    {gt5:Tok} (ga5:PySem.W.nsIn K mainGlobals "MOST_FIGURES"=some (some (.int (18) gt5)))
    {gc6:Addr} {es6:Array DictEntry} {ep6:Nat} (ga6:PySem.W.nsIn K mainGlobals "FORMS"=some (some (.ref gc6))) (gl6:K.lookup gc6=some { cls:=.type "dict",data:=.dict es6 ep6 }) (ge6:EntsOk w K es6.toList g_FORMS)
    {gc7:Addr} (ga7:PySem.W.nsIn K mainGlobals "CLAUSE_FORM"=some (some (.ref gc7))) (ge7:TupK K gc7 g_CLAUSE_FORM)
    {gc8:Addr} (ga8:PySem.W.nsIn K mainGlobals "END_FORM"=some (some (.ref gc8))) (ge8:TupK K gc8 g_END_FORM)
    {gt9:Tok} (ga9:PySem.W.nsIn K mainGlobals "DEEPEST"=some (some (.int (24) gt9)))
    {gc10:Addr} (ga10:PySem.W.nsIn K mainGlobals "ALIKE"=some (some (.ref gc10))) (ge10:TupK K gc10 g_ALIKE)
    {xc0:Addr}
    {xc1:Addr}
    {xc2:Addr}
    {xo0:Value} {xd0:Option Addr} {xk0:ClassData} {xs0:Array (Option Value)} (xa0:PySem.W.nsIn K mainGlobals "WrightError"=some (some (.ref xc0))) (xl0:K.lookup xc0=some ⟨xo0,xd0,.cls xk0,xs0⟩) (xe0:PySem.W.excIn K xc0 [.type "ValueError",.type "Exception",.type "BaseException",.type "object"] "ValueError.__new__"=true)
    {xo1:Value} {xd1:Option Addr} {xk1:ClassData} {xs1:Array (Option Value)} (xa1:PySem.W.nsIn K mainGlobals "NoText"=some (some (.ref xc1))) (xl1:K.lookup xc1=some ⟨xo1,xd1,.cls xk1,xs1⟩) (xe1:PySem.W.excIn K xc1 [.type "ValueError",.type "Exception",.type "BaseException",.type "object"] "ValueError.__new__"=true)
    {xo2:Value} {xd2:Option Addr} {xk2:ClassData} {xs2:Array (Option Value)} (xa2:PySem.W.nsIn K mainGlobals "NoName"=some (some (.ref xc2))) (xl2:K.lookup xc2=some ⟨xo2,xd2,.cls xk2,xs2⟩) (xe2:PySem.W.excIn K xc2 [.type "ValueError",.type "Exception",.type "BaseException",.type "object"] "ValueError.__new__"=true)
    (xm0_0:xk0.mro.contains (.ref xc0)=true)
    (xm1_1:xk1.mro.contains (.ref xc1)=true)
    (xm1_0:xk1.mro.contains (.ref xc0)=true)
    (xm2_2:xk2.mro.contains (.ref xc2)=true)
    (xm2_0:xk2.mro.contains (.ref xc0)=true)
    (xga0:PySem.W.findIn K (.ref xc0) "__getattribute__"=some (some (.builtin "BaseException.__getattribute__")))
    (xgn0:PySem.W.findIn K (.ref xc0) "__getattr__"=some none)
    (xgk0:PySem.W.findIn K (.ref xc0) "__class__"=some (some (.builtin "object.__class__")))
    (xmb0:PySem.W.mroIn K xc0 (.type "BaseException")=some true)
    (xmo0:PySem.W.mroIn K xc0 (.type "object")=some true)
    (xmv0:PySem.W.mroIn K xc0 (.type "ValueError")=some true)
    (xty0:PySem.W.typeIn K (.ref xc0)=some (.type "type"))
    (xk0_0:PySem.W.mroIn K xc0 (.ref xc0)=some true)
    (xk0_1:PySem.W.mroIn K xc0 (.ref xc1)=some false) (xn0_1:xc0 ≠ xc1)
    (xk0_2:PySem.W.mroIn K xc0 (.ref xc2)=some false) (xn0_2:xc0 ≠ xc2)
    (xga1:PySem.W.findIn K (.ref xc1) "__getattribute__"=some (some (.builtin "BaseException.__getattribute__")))
    (xgn1:PySem.W.findIn K (.ref xc1) "__getattr__"=some none)
    (xgk1:PySem.W.findIn K (.ref xc1) "__class__"=some (some (.builtin "object.__class__")))
    (xmb1:PySem.W.mroIn K xc1 (.type "BaseException")=some true)
    (xmo1:PySem.W.mroIn K xc1 (.type "object")=some true)
    (xmv1:PySem.W.mroIn K xc1 (.type "ValueError")=some true)
    (xty1:PySem.W.typeIn K (.ref xc1)=some (.type "type"))
    (xk1_0:PySem.W.mroIn K xc1 (.ref xc0)=some true)
    (xk1_1:PySem.W.mroIn K xc1 (.ref xc1)=some true)
    (xk1_2:PySem.W.mroIn K xc1 (.ref xc2)=some false) (xn1_2:xc1 ≠ xc2)
    (xga2:PySem.W.findIn K (.ref xc2) "__getattribute__"=some (some (.builtin "BaseException.__getattribute__")))
    (xgn2:PySem.W.findIn K (.ref xc2) "__getattr__"=some none)
    (xgk2:PySem.W.findIn K (.ref xc2) "__class__"=some (some (.builtin "object.__class__")))
    (xmb2:PySem.W.mroIn K xc2 (.type "BaseException")=some true)
    (xmo2:PySem.W.mroIn K xc2 (.type "object")=some true)
    (xmv2:PySem.W.mroIn K xc2 (.type "ValueError")=some true)
    (xty2:PySem.W.typeIn K (.ref xc2)=some (.type "type"))
    (xk2_0:PySem.W.mroIn K xc2 (.ref xc0)=some true)
    (xk2_1:PySem.W.mroIn K xc2 (.ref xc1)=some false) (xn2_1:xc2 ≠ xc1)
    (xk2_2:PySem.W.mroIn K xc2 (.ref xc2)=some true)
   :∃ (cv:Nat->Value) (fd:FuncData),(∀ (s:Shared) (v:Value),BindsTo s fd ⟨[v],[]⟩ [("_law_script",v)]) /\ ∀ base:Heap,K.In base->base.Ns mainGlobals mg->FnOk l.prog w K mg base (CXs l.prog w) 9 fa fd ["_law_script"] (spLaw K cv (callI defs 9 25)):=by
  have e:=hfa.symm.trans (PySem.W.mg_of X G a25)
  cases e
  have T:Tab l.prog w K mg defs consts:=by
    refine ⟨fun x hx=>?_,fun x c hx=>?_,fun i d hd=>?_⟩
    · simp only [bnames,List.mem_cons,List.not_mem_nil,or_false] at hx
      rcases hx with rfl | rfl | rfl | rfl | rfl | rfl | rfl | rfl | rfl | rfl | rfl | rfl | rfl | rfl | rfl | rfl | rfl | rfl | rfl | rfl | rfl
      · exact PySem.W.mg_none_of X G z0
      · exact PySem.W.mg_none_of X G z1
      · exact PySem.W.mg_none_of X G z2
      · exact PySem.W.mg_none_of X G z3
      · exact PySem.W.mg_none_of X G z4
      · exact PySem.W.mg_none_of X G z5
      · exact PySem.W.mg_none_of X G z6
      · exact PySem.W.mg_none_of X G z7
      · exact PySem.W.mg_none_of X G z8
      · exact PySem.W.mg_none_of X G z9
      · exact PySem.W.mg_none_of X G z10
      · exact PySem.W.mg_none_of X G z11
      · exact PySem.W.mg_none_of X G z12
      · exact PySem.W.mg_none_of X G z13
      · exact PySem.W.mg_none_of X G z14
      · exact PySem.W.mg_none_of X G z15
      · exact PySem.W.mg_none_of X G z16
      · exact PySem.W.mg_none_of X G z17
      · exact PySem.W.mg_none_of X G z18
      · exact PySem.W.mg_none_of X G z19
      · exact PySem.W.mg_none_of X G z20
    · simp only [consts,List.mem_cons,List.not_mem_nil,or_false] at hx
      rcases hx with hq | hq | hq | hq | hq | hq | hq | hq | hq | hq | hq | hq | hq | hq
      · cases hq; exact ⟨by decide,_,PySem.W.mg_of X G ga0,⟨_,rfl,ge0⟩⟩
      · cases hq; exact ⟨by decide,_,PySem.W.mg_of X G ga1,⟨_,rfl,ge1⟩⟩
      · cases hq; exact ⟨by decide,_,PySem.W.mg_of X G ga2,⟨_,rfl⟩⟩
      · cases hq; exact ⟨by decide,_,PySem.W.mg_of X G ga3,⟨_,rfl⟩⟩
      · cases hq; exact ⟨by decide,_,PySem.W.mg_of X G ga4,⟨_,rfl⟩⟩
      · cases hq; exact ⟨by decide,_,PySem.W.mg_of X G ga5,⟨_,rfl⟩⟩
      · cases hq; exact ⟨by decide,_,PySem.W.mg_of X G ga6,cn_dic gl6 ge6 (by decide)⟩
      · cases hq; exact ⟨by decide,_,PySem.W.mg_of X G ga7,⟨_,rfl,ge7⟩⟩
      · cases hq; exact ⟨by decide,_,PySem.W.mg_of X G ga8,⟨_,rfl,ge8⟩⟩
      · cases hq; exact ⟨by decide,_,PySem.W.mg_of X G ga9,⟨_,rfl⟩⟩
      · cases hq; exact ⟨by decide,_,PySem.W.mg_of X G ga10,⟨_,rfl,ge10⟩⟩
      · cases hq; exact ⟨by decide,_,PySem.W.mg_of X G xa0,_,_,_,_,_,rfl,xe0,PySem.F.excBase_ValueError,by decide⟩
      · cases hq; exact ⟨by decide,_,PySem.W.mg_of X G xa1,_,_,_,_,_,rfl,xe1,PySem.F.excBase_ValueError,by decide⟩
      · cases hq; exact ⟨by decide,_,PySem.W.mg_of X G xa2,_,_,_,_,_,rfl,xe2,PySem.F.excBase_ValueError,by decide⟩
    · match i,hd with
      | 0,hd=>cases hd; exact ⟨by decide,_,_,_,PySem.W.mg_of X G a0,fun_mk (st:=top 14) l0 c0 k0,o_is_name⟩
      | 1,hd=>cases hd; exact ⟨by decide,_,_,_,PySem.W.mg_of X G a1,fun_mk (st:=top 15) l1 c1 k1,o_is_number⟩
      | 2,hd=>cases hd; exact ⟨by decide,_,_,_,PySem.W.mg_of X G a2,fun_mk (st:=top 19) l2 c2 k2,o_read⟩
      | 3,hd=>cases hd; exact ⟨by decide,_,_,_,PySem.W.mg_of X G a3,fun_mk (st:=top 20) l3 c3 k3,o_words_of⟩
      | 4,hd=>cases hd; exact ⟨by decide,_,_,_,PySem.W.mg_of X G a4,fun_mk (st:=top 21) l4 c4 k4,o_nested⟩
      | 5,hd=>cases hd; exact ⟨by decide,_,_,_,PySem.W.mg_of X G a5,fun_mk (st:=top 22) l5 c5 k5,o_item_of⟩
      | 6,hd=>cases hd; exact ⟨by decide,_,_,_,PySem.W.mg_of X G a6,fun_mk (st:=top 23) l6 c6 k6,o_function_of⟩
      | 7,hd=>cases hd; exact ⟨by decide,_,_,_,PySem.W.mg_of X G a7,fun_mk (st:=top 24) l7 c7 k7,o_handler_of⟩
      | 8,hd=>cases hd; exact ⟨by decide,_,_,_,PySem.W.mg_of X G a8,fun_mk (st:=top 25) l8 c8 k8,o_headed⟩
      | 9,hd=>cases hd; exact ⟨by decide,_,_,_,PySem.W.mg_of X G a9,fun_mk (st:=top 26) l9 c9 k9,o_formed⟩
      | 10,hd=>cases hd; exact ⟨by decide,_,_,_,PySem.W.mg_of X G a10,fun_mk (st:=top 27) l10 c10 k10,o_read_as⟩
      | 11,hd=>cases hd; exact ⟨by decide,_,_,_,PySem.W.mg_of X G a11,fun_mk (st:=top 28) l11 c11 k11,o_expression_of⟩
      | 12,hd=>cases hd; exact ⟨by decide,_,_,_,PySem.W.mg_of X G a12,fun_mk (st:=top 29) l12 c12 k12,o_call_of⟩
      | 13,hd=>cases hd; exact ⟨by decide,_,_,_,PySem.W.mg_of X G a13,fun_mk (st:=top 30) l13 c13 k13,o_hand_of⟩
      | 14,hd=>cases hd; exact ⟨by decide,_,_,_,PySem.W.mg_of X G a14,fun_mk (st:=top 31) l14 c14 k14,o_expressions_of⟩
      | 15,hd=>cases hd; exact ⟨by decide,_,_,_,PySem.W.mg_of X G a15,fun_mk (st:=top 32) l15 c15 k15,o_head_of⟩
      | 16,hd=>cases hd; exact ⟨by decide,_,_,_,PySem.W.mg_of X G a16,fun_mk (st:=top 33) l16 c16 k16,o_names_of⟩
      | 17,hd=>cases hd; exact ⟨by decide,_,_,_,PySem.W.mg_of X G a17,fun_mk (st:=top 34) l17 c17 k17,o_name_of⟩
      | 18,hd=>cases hd; exact ⟨by decide,_,_,_,PySem.W.mg_of X G a18,fun_mk (st:=top 36) l18 c18 k18,o_law_cell⟩
      | 19,hd=>cases hd; exact ⟨by decide,_,_,_,PySem.W.mg_of X G a19,fun_mk (st:=top 37) l19 c19 k19,o_law_letters⟩
      | 20,hd=>cases hd; exact ⟨by decide,_,_,_,PySem.W.mg_of X G a20,fun_mk (st:=top 38) l20 c20 k20,o_law_word⟩
      | 21,hd=>cases hd; exact ⟨by decide,_,_,_,PySem.W.mg_of X G a21,fun_mk (st:=top 39) l21 c21 k21,o_law_due⟩
      | 22,hd=>cases hd; exact ⟨by decide,_,_,_,PySem.W.mg_of X G a22,fun_mk (st:=top 40) l22 c22 k22,o_law_alike⟩
      | 23,hd=>cases hd; exact ⟨by decide,_,_,_,PySem.W.mg_of X G a23,fun_mk (st:=top 41) l23 c23 k23,o_law_name⟩
      | 24,hd=>cases hd; exact ⟨by decide,_,_,_,PySem.W.mg_of X G a24,fun_mk (st:=top 42) l24 c24 k24,o_law_refused⟩
      | 25,hd=>cases hd; exact ⟨by decide,_,_,_,PySem.W.mg_of X G a25,fun_mk (st:=top 43) l25 c25 k25,o_law⟩
      | n + 26,hd=>exact absurd hd (by simp [defs])
  have XC:ExcOk K mg (fun c=>([.ref xc0,.ref xc1,.ref xc2]:List Value).getD c .none) consts:=by
    intro x c u hx
    simp only [consts,List.mem_cons,List.not_mem_nil,or_false] at hx
    rcases hx with hq | hq | hq | hq | hq | hq | hq | hq | hq | hq | hq | hq | hq | hq
    · cases hq
    · cases hq
    · cases hq
    · cases hq
    · cases hq
    · cases hq
    · cases hq
    · cases hq
    · cases hq
    · cases hq
    · cases hq
    · cases hq
      refine ⟨PySem.W.mg_of X G xa0,fun D hD=>?_,_,rfl,exc_mk xl0 xga0 xgn0 xgk0 xmb0 xmo0,kit_ve xmv0,fun y d w hy=>?_⟩
      rotate_left
      · simp only [consts,List.mem_cons,List.not_mem_nil,or_false] at hy
        rcases hy with hq | hq | hq | hq | hq | hq | hq | hq | hq | hq | hq | hq | hq | hq
        · cases hq
        · cases hq
        · cases hq
        · cases hq
        · cases hq
        · cases hq
        · cases hq
        · cases hq
        · cases hq
        · cases hq
        · cases hq
        · cases hq; exact kit_own xl0 xty0 xk0_0 (.inl rfl)
        · cases hq; exact kit_own xl1 xty1 xk0_1 (.inr xn0_1)
        · cases hq; exact kit_own xl2 xty2 xk0_2 (.inr xn0_2)
      simp only [List.mem_cons,List.not_mem_nil,or_false] at hD
      rcases hD with rfl
      · exact ⟨_,_,rfl,rfl,⟨_,_,xe0⟩,_,_,_,_,xl0,xm0_0⟩
    · cases hq
      refine ⟨PySem.W.mg_of X G xa1,fun D hD=>?_,_,rfl,exc_mk xl1 xga1 xgn1 xgk1 xmb1 xmo1,kit_ve xmv1,fun y d w hy=>?_⟩
      rotate_left
      · simp only [consts,List.mem_cons,List.not_mem_nil,or_false] at hy
        rcases hy with hq | hq | hq | hq | hq | hq | hq | hq | hq | hq | hq | hq | hq | hq
        · cases hq
        · cases hq
        · cases hq
        · cases hq
        · cases hq
        · cases hq
        · cases hq
        · cases hq
        · cases hq
        · cases hq
        · cases hq
        · cases hq; exact kit_own xl0 xty0 xk1_0 (.inl rfl)
        · cases hq; exact kit_own xl1 xty1 xk1_1 (.inl rfl)
        · cases hq; exact kit_own xl2 xty2 xk1_2 (.inr xn1_2)
      simp only [List.mem_cons,List.not_mem_nil,or_false] at hD
      rcases hD with rfl | rfl
      · exact ⟨_,_,rfl,rfl,⟨_,_,xe1⟩,_,_,_,_,xl1,xm1_1⟩
      · exact ⟨_,_,rfl,rfl,⟨_,_,xe1⟩,_,_,_,_,xl1,xm1_0⟩
    · cases hq
      refine ⟨PySem.W.mg_of X G xa2,fun D hD=>?_,_,rfl,exc_mk xl2 xga2 xgn2 xgk2 xmb2 xmo2,kit_ve xmv2,fun y d w hy=>?_⟩
      rotate_left
      · simp only [consts,List.mem_cons,List.not_mem_nil,or_false] at hy
        rcases hy with hq | hq | hq | hq | hq | hq | hq | hq | hq | hq | hq | hq | hq | hq
        · cases hq
        · cases hq
        · cases hq
        · cases hq
        · cases hq
        · cases hq
        · cases hq
        · cases hq
        · cases hq
        · cases hq
        · cases hq
        · cases hq; exact kit_own xl0 xty0 xk2_0 (.inl rfl)
        · cases hq; exact kit_own xl1 xty1 xk2_1 (.inr xn2_1)
        · cases hq; exact kit_own xl2 xty2 xk2_2 (.inl rfl)
      simp only [List.mem_cons,List.not_mem_nil,or_false] at hD
      rcases hD with rfl | rfl
      · exact ⟨_,_,rfl,rfl,⟨_,_,xe2⟩,_,_,_,_,xl2,xm2_2⟩
      · exact ⟨_,_,rfl,rfl,⟨_,_,xe2⟩,_,_,_,_,xl2,xm2_0⟩
  refine ⟨fun c=>([.ref xc0,.ref xc1,.ref xc2]:List Value).getD c .none,PySem.W.fnOf "law" "law" (defArgs (top 43)) (defBody (top 43)) (defScope (top 43)) .none kV25 dc25 pm25 an25 cd25 ct25,fun s v=>.of_eq rfl,fun base _ _=>?_⟩
  exact all_fn T XC 9 25 d_law (top 43) _ _ rfl (PySem.W.mg_of X G a25) (fun_mk (st:=top 43) l25 c25 k25) o_law
end K11
namespace PySem.W.Fast
end PySem.W.Fast
open PySem PySem.W
set_option maxRecDepth 100000 in
set_option maxHeartbeats 0 in
theorem PySem.Challenge.cw_deedwright_k11_a_word_holds : PySem.Challenge.rw_deedwright_k11_a_word.Holds := by
  w_on; o_law; k_head; (case hw=>w_witness2)
  k_fill
  refine PI.walk_ofB (l:=PySem.Challenge.rw_deedwright_k11_a_word) (k:=9) (c:=PI.callI K11.defs 9 25) (x:="_law_script") rfl rfl ⟨rfl,by decide,by decide⟩ (fun w h Y=>PySem.W.kIn_of Y) ?F ?S
  case F =>
    intro w mg fa h KX G hmg
    refine' K11.all_mk (l:=PySem.Challenge.rw_deedwright_k11_a_word) (w:=w) KX G hmg ?a0 ?l0 ?c0 ?k0 ?a1 ?l1 ?c1 ?k1 ?a2 ?l2 ?c2 ?k2 ?a3 ?l3 ?c3 ?k3 ?a4 ?l4 ?c4 ?k4 ?a5 ?l5 ?c5 ?k5 ?a6 ?l6 ?c6 ?k6 ?a7 ?l7 ?c7 ?k7 ?a8 ?l8 ?c8 ?k8 ?a9 ?l9 ?c9 ?k9 ?a10 ?l10 ?c10 ?k10 ?a11 ?l11 ?c11 ?k11 ?a12 ?l12 ?c12 ?k12 ?a13 ?l13 ?c13 ?k13 ?a14 ?l14 ?c14 ?k14 ?a15 ?l15 ?c15 ?k15 ?a16 ?l16 ?c16 ?k16 ?a17 ?l17 ?c17 ?k17 ?a18 ?l18 ?c18 ?k18 ?a19 ?l19 ?c19 ?k19 ?a20 ?l20 ?c20 ?k20 ?a21 ?l21 ?c21 ?k21 ?a22 ?l22 ?c22 ?k22 ?a23 ?l23 ?c23 ?k23 ?a24 ?l24 ?c24 ?k24 ?a25 ?l25 ?c25 ?k25 ?z0 ?z1 ?z2 ?z3 ?z4 ?z5 ?z6 ?z7 ?z8 ?z9 ?z10 ?z11 ?z12 ?z13 ?z14 ?z15 ?z16 ?z17 ?z18 ?z19 ?z20 ?ga0 ?ge0 ?ga1 ?ge1 ?ga2 ?ga3 ?ga4 ?ga5 ?ga6 ?gl6 ?ge6 ?ga7 ?ge7 ?ga8 ?ge8 ?ga9 ?ga10 ?ge10 ?xa0 ?xl0 ?xe0 ?xa1 ?xl1 ?xe1 ?xa2 ?xl2 ?xe2 ?xm0_0 ?xm1_1 ?xm1_0 ?xm2_2 ?xm2_0 ?xga0 ?xgn0 ?xgk0 ?xmb0 ?xmo0 ?xmv0 ?xty0 ?xk0_0 ?xk0_1 ?xn0_1 ?xk0_2 ?xn0_2 ?xga1 ?xgn1 ?xgk1 ?xmb1 ?xmo1 ?xmv1 ?xty1 ?xk1_0 ?xk1_1 ?xk1_2 ?xn1_2 ?xga2 ?xgn2 ?xgk2 ?xmb2 ?xmo2 ?xmv2 ?xty2 ?xk2_0 ?xk2_1 ?xn2_1 ?xk2_2
    (case a0=>k_is)
    (case l0=>k_is)
    (case c0=>k_is)
    (case k0=>k_is)
    (case a1=>k_is)
    (case l1=>k_is)
    (case c1=>k_is)
    (case k1=>k_is)
    (case a2=>k_is)
    (case l2=>k_is)
    (case c2=>k_is)
    (case k2=>k_is)
    (case a3=>k_is)
    (case l3=>k_is)
    (case c3=>k_is)
    (case k3=>k_is)
    (case a4=>k_is)
    (case l4=>k_is)
    (case c4=>k_is)
    (case k4=>k_is)
    (case a5=>k_is)
    (case l5=>k_is)
    (case c5=>k_is)
    (case k5=>k_is)
    (case a6=>k_is)
    (case l6=>k_is)
    (case c6=>k_is)
    (case k6=>k_is)
    (case a7=>k_is)
    (case l7=>k_is)
    (case c7=>k_is)
    (case k7=>k_is)
    (case a8=>k_is)
    (case l8=>k_is)
    (case c8=>k_is)
    (case k8=>k_is)
    (case a9=>k_is)
    (case l9=>k_is)
    (case c9=>k_is)
    (case k9=>k_is)
    (case a10=>k_is)
    (case l10=>k_is)
    (case c10=>k_is)
    (case k10=>k_is)
    (case a11=>k_is)
    (case l11=>k_is)
    (case c11=>k_is)
    (case k11=>k_is)
    (case a12=>k_is)
    (case l12=>k_is)
    (case c12=>k_is)
    (case k12=>k_is)
    (case a13=>k_is)
    (case l13=>k_is)
    (case c13=>k_is)
    (case k13=>k_is)
    (case a14=>k_is)
    (case l14=>k_is)
    (case c14=>k_is)
    (case k14=>k_is)
    (case a15=>k_is)
    (case l15=>k_is)
    (case c15=>k_is)
    (case k15=>k_is)
    (case a16=>k_is)
    (case l16=>k_is)
    (case c16=>k_is)
    (case k16=>k_is)
    (case a17=>k_is)
    (case l17=>k_is)
    (case c17=>k_is)
    (case k17=>k_is)
    (case a18=>k_is)
    (case l18=>k_is)
    (case c18=>k_is)
    (case k18=>k_is)
    (case a19=>k_is)
    (case l19=>k_is)
    (case c19=>k_is)
    (case k19=>k_is)
    (case a20=>k_is)
    (case l20=>k_is)
    (case c20=>k_is)
    (case k20=>k_is)
    (case a21=>k_is)
    (case l21=>k_is)
    (case c21=>k_is)
    (case k21=>k_is)
    (case a22=>k_is)
    (case l22=>k_is)
    (case c22=>k_is)
    (case k22=>k_is)
    (case a23=>k_is)
    (case l23=>k_is)
    (case c23=>k_is)
    (case k23=>k_is)
    (case a24=>k_is)
    (case l24=>k_is)
    (case c24=>k_is)
    (case k24=>k_is)
    (case a25=>k_is)
    (case l25=>k_is)
    (case c25=>k_is)
    (case k25=>k_is)
    (case z0=>k_is)
    (case z1=>k_is)
    (case z2=>k_is)
    (case z3=>k_is)
    (case z4=>k_is)
    (case z5=>k_is)
    (case z6=>k_is)
    (case z7=>k_is)
    (case z8=>k_is)
    (case z9=>k_is)
    (case z10=>k_is)
    (case z11=>k_is)
    (case z12=>k_is)
    (case z13=>k_is)
    (case z14=>k_is)
    (case z15=>k_is)
    (case z16=>k_is)
    (case z17=>k_is)
    (case z18=>k_is)
    (case z19=>k_is)
    (case z20=>k_is)
    (case ga0=>k_is)
    (case ge0=>(refine' PI.tupK_mk ?hk ?h4 ?h5; (case hk=>k_is); (case h4=>decide); (case h5=>(show L2.Vals _ (List.toArray _).toList; exact .cons ⟨_,rfl⟩ (.cons ⟨_,rfl⟩ (.cons ⟨_,rfl⟩ (.cons ⟨_,rfl⟩ (.cons ⟨_,rfl⟩ (.cons ⟨_,rfl⟩ (.cons ⟨_,rfl⟩ (.cons ⟨_,rfl⟩ (.cons ⟨_,rfl⟩ (.cons ⟨_,rfl⟩ (.cons ⟨_,rfl⟩ (.cons ⟨_,rfl⟩ (.nil))))))))))))))))
    (case ga1=>k_is)
    (case ge1=>(refine' PI.tupK_mk ?hk ?h4 ?h5; (case hk=>k_is); (case h4=>decide); (case h5=>(show L2.Vals _ (List.toArray _).toList; exact .cons ⟨_,rfl⟩ (.cons ⟨_,rfl⟩ (.cons ⟨_,rfl⟩ (.cons ⟨_,rfl⟩ (.nil))))))))
    (case ga2=>k_is)
    (case ga3=>k_is)
    (case ga4=>k_is)
    (case ga5=>k_is)
    (case ga6=>k_is)
    (case gl6=>k_is)
    (case ge6=>(refine ⟨⟨rfl,⟨_,rfl⟩,?hx⟩,?hr⟩; (case hx=>(refine ⟨_,rfl,?ht⟩; (case ht=>(refine' PI.tupK_mk ?hk ?h4 ?h5; (case hk=>k_is); (case h4=>decide); (case h5=>(show L2.Vals _ (List.toArray _).toList; exact .cons ⟨_,rfl⟩ (.nil))))))); (case hr=>(refine ⟨⟨rfl,⟨_,rfl⟩,?hx⟩,?hr⟩; (case hx=>(refine ⟨_,rfl,?ht⟩; (case ht=>(refine' PI.tupK_mk ?hk ?h4 ?h5; (case hk=>k_is); (case h4=>decide); (case h5=>(show L2.Vals _ (List.toArray _).toList; exact .cons ⟨_,rfl⟩ (.nil))))))); (case hr=>(refine ⟨⟨rfl,⟨_,rfl⟩,?hx⟩,?hr⟩; (case hx=>(refine ⟨_,rfl,?ht⟩; (case ht=>(refine' PI.tupK_mk ?hk ?h4 ?h5; (case hk=>k_is); (case h4=>decide); (case h5=>(show L2.Vals _ (List.toArray _).toList; exact .cons ⟨_,rfl⟩ (.cons ⟨_,rfl⟩ (.cons ⟨_,rfl⟩ (.nil))))))))); (case hr=>(refine ⟨⟨rfl,⟨_,rfl⟩,?hx⟩,?hr⟩; (case hx=>(refine ⟨_,rfl,?ht⟩; (case ht=>(refine' PI.tupK_mk ?hk ?h4 ?h5; (case hk=>k_is); (case h4=>decide); (case h5=>(show L2.Vals _ (List.toArray _).toList; exact .cons ⟨_,rfl⟩ (.cons ⟨_,rfl⟩ (.cons ⟨_,rfl⟩ (.nil))))))))); (case hr=>(refine ⟨⟨rfl,⟨_,rfl⟩,?hx⟩,?hr⟩; (case hx=>(refine ⟨_,rfl,?ht⟩; (case ht=>(refine' PI.tupK_mk ?hk ?h4 ?h5; (case hk=>k_is); (case h4=>decide); (case h5=>(show L2.Vals _ (List.toArray _).toList; exact .cons ⟨_,rfl⟩ (.cons ⟨_,rfl⟩ (.cons ⟨_,rfl⟩ (.nil))))))))); (case hr=>(refine ⟨⟨rfl,⟨_,rfl⟩,?hx⟩,?hr⟩; (case hx=>(refine ⟨_,rfl,?ht⟩; (case ht=>(refine' PI.tupK_mk ?hk ?h4 ?h5; (case hk=>k_is); (case h4=>decide); (case h5=>(show L2.Vals _ (List.toArray _).toList; exact .cons ⟨_,rfl⟩ (.cons ⟨_,rfl⟩ (.cons ⟨_,rfl⟩ (.nil))))))))); (case hr=>(refine ⟨⟨rfl,⟨_,rfl⟩,?hx⟩,?hr⟩; (case hx=>(refine ⟨_,rfl,?ht⟩; (case ht=>(refine' PI.tupK_mk ?hk ?h4 ?h5; (case hk=>k_is); (case h4=>decide); (case h5=>(show L2.Vals _ (List.toArray _).toList; exact .cons ⟨_,rfl⟩ (.cons ⟨_,rfl⟩ (.nil)))))))); (case hr=>(refine ⟨⟨rfl,⟨_,rfl⟩,?hx⟩,?hr⟩; (case hx=>(refine ⟨_,rfl,?ht⟩; (case ht=>(refine' PI.tupK_mk ?hk ?h4 ?h5; (case hk=>k_is); (case h4=>decide); (case h5=>(show L2.Vals _ (List.toArray _).toList; exact .cons ⟨_,rfl⟩ (.cons ⟨_,rfl⟩ (.cons ⟨_,rfl⟩ (.nil))))))))); (case hr=>(refine ⟨⟨rfl,⟨_,rfl⟩,?hx⟩,?hr⟩; (case hx=>(refine ⟨_,rfl,?ht⟩; (case ht=>(refine' PI.tupK_mk ?hk ?h4 ?h5; (case hk=>k_is); (case h4=>decide); (case h5=>(show L2.Vals _ (List.toArray _).toList; exact .cons ⟨_,rfl⟩ (.cons ⟨_,rfl⟩ (.nil)))))))); (case hr=>(refine ⟨⟨rfl,⟨_,rfl⟩,?hx⟩,?hr⟩; (case hx=>(refine ⟨_,rfl,?ht⟩; (case ht=>(refine' PI.tupK_mk ?hk ?h4 ?h5; (case hk=>k_is); (case h4=>decide); (case h5=>(show L2.Vals _ (List.toArray _).toList; exact .cons ⟨_,rfl⟩ (.cons ⟨_,rfl⟩ (.nil)))))))); (case hr=>exact trivial)))))))))))))))))))))
    (case ga7=>k_is)
    (case ge7=>(refine' PI.tupK_mk ?hk ?h4 ?h5; (case hk=>k_is); (case h4=>decide); (case h5=>(show L2.Vals _ (List.toArray _).toList; exact .cons ⟨_,rfl⟩ (.cons ⟨_,rfl⟩ (.cons ⟨_,rfl⟩ (.cons ⟨_,rfl⟩ (.nil))))))))
    (case ga8=>k_is)
    (case ge8=>(refine' PI.tupK_mk ?hk ?h4 ?h5; (case hk=>k_is); (case h4=>decide); (case h5=>(show L2.Vals _ (List.toArray _).toList; exact .cons ⟨_,rfl⟩ (.cons ⟨_,rfl⟩ (.cons ⟨_,rfl⟩ (.nil)))))))
    (case ga9=>k_is)
    (case ga10=>k_is)
    (case ge10=>(refine' PI.tupK_mk ?hk ?h4 ?h5; (case hk=>k_is); (case h4=>decide); (case h5=>(show L2.Vals _ (List.toArray _).toList; exact .cons ⟨_,rfl⟩ (.cons ⟨_,rfl⟩ (.cons ⟨_,rfl⟩ (.cons ⟨_,rfl⟩ (.cons ⟨_,rfl⟩ (.cons ⟨_,rfl⟩ (.nil))))))))))
    (case xa0=>k_is)
    (case xl0=>k_is)
    (case xe0=>k_exc)
    (case xa1=>k_is)
    (case xl1=>k_is)
    (case xe1=>k_exc)
    (case xa2=>k_is)
    (case xl2=>k_is)
    (case xe2=>k_exc)
    (case xm0_0=>rfl)
    (case xm1_1=>rfl)
    (case xm1_0=>rfl)
    (case xm2_2=>rfl)
    (case xm2_0=>rfl)
    (case xga0=>k_is)
    (case xgn0=>k_is)
    (case xgk0=>k_is)
    (case xmb0=>k_is)
    (case xmo0=>k_is)
    (case xmv0=>k_is)
    (case xty0=>k_is)
    (case xk0_0=>k_is)
    (case xk0_1=>k_is)
    (case xn0_1=>decide)
    (case xk0_2=>k_is)
    (case xn0_2=>decide)
    (case xga1=>k_is)
    (case xgn1=>k_is)
    (case xgk1=>k_is)
    (case xmb1=>k_is)
    (case xmo1=>k_is)
    (case xmv1=>k_is)
    (case xty1=>k_is)
    (case xk1_0=>k_is)
    (case xk1_1=>k_is)
    (case xk1_2=>k_is)
    (case xn1_2=>decide)
    (case xga2=>k_is)
    (case xgn2=>k_is)
    (case xgk2=>k_is)
    (case xmb2=>k_is)
    (case xmo2=>k_is)
    (case xmv2=>k_is)
    (case xty2=>k_is)
    (case xk2_0=>k_is)
    (case xk2_1=>k_is)
    (case xn2_1=>decide)
    (case xk2_2=>k_is)
  case S =>
    exact fun ns _ hb=>K11.law_true ns fun n hn=>decide_eq_true (hb n hn)
#print axioms PySem.Challenge.cw_deedwright_k11_a_word_holds
