import PyProof.Rows.All
import Wide.All
import OpenK.AllK
import Wide.FinOn
import Lean
import PyProof.EqAt
import PyProof.EqKinds
import PyProof.TupleCall
import KE.KIntText
import PyProof.NeKinds
import PyProof.FString4
import PyProof.StrLawsRepr
import PyProof.ZipIter
import PyProof.TupleIter
import KE.KRevIter
import KE.KDictOf
import PyProof.AttrMissHeap
import PyProof.StrLawsTight
import PySem.Challenge.RW_deedwright_k17_good_programs
set_option Elab.async false
set_option linter.all false
set_option maxRecDepth 100000
namespace L2
open PySem PySem.Spec PyProof.Rows
noncomputable abbrev Key := Sum Int Str
noncomputable def keyIs : Key -> Value -> Bool
  | .inl k, v => Value.isInt k v
  | .inr x, v => Value.isStrOf x v
noncomputable def keyH (w : World) : Key -> Int
  | .inl k => hashInt k
  | .inr x => hashStr w x
theorem keyIs_shape : ∀ {k : Key} {v : Value}, keyIs k v = true -> (∃ i t, k = Sum.inl i /\ v = Value.int i t) \/ (∃ x t, k = Sum.inr x /\ v = Value.str x t)
  | .inl i, v, h => by
    obtain ⟨t, e⟩ := Value.isInt_shape (k := i) (v := v) h
    exact .inl ⟨i, t, rfl, e⟩
  | .inr x, v, h => by
    obtain ⟨t, e⟩ := Value.isStrOf_shape (x := x) (v := v) h
    exact .inr ⟨x, t, rfl, e⟩
theorem keyIs_int (i : Int) (t : Tok) : keyIs (.inl i) (.int i t) = true := by simp [keyIs, Value.isInt]
theorem keyIs_str (x : Str) (t : Tok) : keyIs (.inr x) (.str x t) = true := by simp [keyIs, Value.isStrOf]
theorem key_ll (a b : Int) : decide ((Sum.inl a : Key) = Sum.inl b) = (a == b) := by
  by_cases e : a = b
  · subst e; simp
  · have h : ¬ (Sum.inl a : Key) = Sum.inl b := fun q => e (Sum.inl.inj q)
    rw [decide_eq_false h]
    exact (beq_eq_false_iff_ne.mpr e).symm
theorem key_rr (a b : Str) : decide ((Sum.inr a : Key) = Sum.inr b) = decide (a = b) := by
  by_cases e : a = b
  · subst e; simp
  · have h : ¬ (Sum.inr a : Key) = Sum.inr b := fun q => e (Sum.inr.inj q)
    rw [decide_eq_false h, decide_eq_false e]
theorem key_lr (a : Int) (b : Str) : decide ((Sum.inl a : Key) = Sum.inr b) = false := decide_eq_false (fun q => nomatch q)
theorem key_rl (a : Str) (b : Int) : decide ((Sum.inr a : Key) = Sum.inl b) = false := decide_eq_false (fun q => nomatch q)
noncomputable def mixKind (prog : Program) (w : World) : PySem.KeyKind prog w Key where
  is := keyIs
  hash := keyH w
  inj := fun v a b ha hb => by
    rcases keyIs_shape ha with ⟨i, t, rfl, rfl⟩ | ⟨x, t, rfl, rfl⟩
    · rcases keyIs_shape hb with ⟨j, u, rfl, e⟩ | ⟨y, u, rfl, e⟩
      · injection e with e1 _; rw [e1]
      · exact nomatch e
    · rcases keyIs_shape hb with ⟨j, u, rfl, e⟩ | ⟨y, u, rfl, e⟩
      · exact nomatch e
      · injection e with e1 _; rw [e1]
  byValue := fun k v h => by
    rcases keyIs_shape h with ⟨i, t, rfl, rfl⟩ | ⟨x, t, rfl, rfl⟩ <;> rfl
  pyHash := fun hv h => by
    rcases keyIs_shape hv with ⟨i, t, rfl, rfl⟩ | ⟨x, t, rfl, rfl⟩
    · exact wpAny_pyHash_int h
    · exact wpAny_pyHash_str h
  eqBool := fun hu hv h => by
    rcases keyIs_shape hu with ⟨i, t, rfl, rfl⟩ | ⟨x, t, rfl, rfl⟩
    · rcases keyIs_shape hv with ⟨j, u, rfl, rfl⟩ | ⟨y, u, rfl, rfl⟩
      · rw [key_ll] at h; exact wpAny_eqBool_int h
      · rw [key_lr] at h; exact SeqAt.EqAt.int_str i t y u _ _ _ _ h
    · rcases keyIs_shape hv with ⟨j, u, rfl, rfl⟩ | ⟨y, u, rfl, rfl⟩
      · rw [key_rl] at h; exact SeqAt.EqAt.str_int x t j u _ _ _ _ h
      · rw [key_rr] at h; exact wpAny_eqBool_str h
  «strs» := fun k x t v h => by
    rcases keyIs_shape h with ⟨i, u, rfl, e⟩ | ⟨y, u, rfl, e⟩
    · exact nomatch e
    · injection e with e1 _
      subst e1
      cases v <;> rfl
theorem mixKind_int (prog : Program) (w : World) (i : Int) (t : Tok) : (mixKind prog w).is (.inl i) (.int i t) = true := keyIs_int i t
theorem mixKind_str (prog : Program) (w : World) (x : Str) (t : Tok) : (mixKind prog w).is (.inr x) (.str x t) = true := keyIs_str x t
end L2
namespace L2
open PySem PySem.Spec PyProof.Rows
inductive V where
  | non | bl (b : Bool) | int (i : Int) | str (x : Str) | byt (b : Array UInt8) | flt (b : UInt64) | ref (a : Addr) | ty (n : String)
  deriving DecidableEq
noncomputable def RelV : V -> Value -> Prop
  | .non, u => u = Value.none
  | .bl b, u => u = Value.bool b
  | .int i, u => ∃ t, u = Value.int i t
  | .str x, u => ∃ t, u = Value.str x t
  | .byt b, u => ∃ t, u = Value.bytes b t
  | .flt b, u => ∃ t, u = Value.float b t
  | .ref a, u => u = Value.ref a
  | .ty n, u => u = Value.type n
noncomputable abbrev Vals : List V -> List Value -> Prop := Paired RelV
theorem Vals.length {xs : List V} {us : List Value} (r : Vals xs us) : xs.length = us.length := Paired.length r
theorem Vals.get : ∀ {xs : List V} {us : List Value} {i : Nat} {x : V}, Vals xs us -> xs[i]? = some x -> ∃ u, us[i]? = some u /\ RelV x u
  | _, _, _, _, .nil, e => by simp at e
  | _, _, 0, _, .cons r _, e => by simp at e; subst e; exact ⟨_, rfl, r⟩
  | _, _, i + 1, x, .cons _ t, e => by
    obtain ⟨u, h1, h2⟩ := Vals.get (i := i) (x := x) t (by simpa using e)
    exact ⟨u, by simpa using h1, h2⟩
theorem Vals.set {x : V} {u : Value} (r : RelV x u) : ∀ {xs : List V} {us : List Value} (i : Nat), Vals xs us -> Vals (xs.set i x) (us.set i u)
  | _, _, _, .nil => .nil
  | _, _, 0, .cons _ t => .cons r t
  | _, _, i + 1, .cons q t => .cons q (Vals.set r i t)
theorem Vals.append : ∀ {xs ys : List V} {us ws : List Value}, Vals xs us -> Vals ys ws -> Vals (xs ++ ys) (us ++ ws)
  | _, _, _, _, .nil, s => s
  | _, _, _, _, .cons r t, s => .cons r (Vals.append t s)
theorem Vals.take : ∀ {xs : List V} {us : List Value} (n : Nat), Vals xs us -> Vals (xs.take n) (us.take n)
  | _, _, 0, _ => .nil
  | _, _, _ + 1, .nil => .nil
  | _, _, n + 1, .cons r t => .cons r (Vals.take n t)
theorem Vals.drop : ∀ {xs : List V} {us : List Value} (n : Nat), Vals xs us -> Vals (xs.drop n) (us.drop n)
  | _, _, 0, r => r
  | _, _, _ + 1, .nil => .nil
  | _, _, n + 1, .cons _ t => Vals.drop n t
noncomputable def RelO : Option V -> Option Value -> Prop
  | some v, some u => RelV v u
  | none, none => True
  | _, _ => False
noncomputable def KV {κ : Type} : List (κ × V) -> List (κ × Value) -> Prop := Paired fun (p : κ × V) (q : κ × Value) => p.1 = q.1 /\ RelV p.2 q.2
noncomputable def kV : Key -> V
  | .inl i => .int i
  | .inr x => .str x
inductive HO where
  | lst (xs : List V)
  | tup (xs : List V)
  | dK (kvs : List (Key × V)) | dT (kvs : List (List Key × V))
  | set (S : Int -> Bool) (n : Nat)
  | ins (C dx : Addr) (fs : List (Str × V))
  | own (x : Addr)
  | xd (fs : List (Str × V))
  | met (f x : Addr)
  | rng (lo hi : Int)
  | frz (o : Obj) (u : HO)
  | tbl (ps : Array Value)
  | ext (φ : Heap -> Prop)
noncomputable abbrev Hp := Addr -> Option HO
noncomputable def upd (H : Hp) (a : Addr) (o : HO) : Hp := fun b => if b = a then some o else H b
theorem upd_same {H : Hp} {a : Addr} {o : HO} : upd H a o a = some o := by unfold upd; rw [if_pos rfl]
theorem upd_ne {H : Hp} {a b : Addr} {o : HO} (h : b ≠ a) : upd H a o b = H b := by unfold upd; rw [if_neg h]
theorem ne_of {H : Hp} {a b : Addr} {o u : HO} (h : H a = some o) (h' : H b = some u) (d : o ≠ u) : a ≠ b := by
  intro e; subst e; rw [h] at h'; exact d (Option.some.inj h')
theorem ne_of_none {H : Hp} {a b : Addr} {o : HO} (h : H a = some o) (h' : H b = none) : a ≠ b := by
  intro e; subst e; rw [h] at h'; cases h'
section
variable (P : Program) (w : World)
noncomputable def ObjOk (H : Hp) (h : Heap) (a : Addr) : HO -> Prop
  | .lst xs => xs.length <= sizeLine /\ ∃ (its : List Value) (n : Nat), Vals xs its /\ h.get? a = some { cls := .type "list", data := .seq its.toArray n }
  | .tup xs => xs.length <= sizeLine /\ ∃ its : List Value, Vals xs its /\ IsTup h a its.toArray
  | .dK kvs => kvs.length <= sizeLine /\ (a == sysModules) = false /\ ∃ vs, KV kvs vs /\ h.DictOf (mixKind P w) a vs
  | .dT kvs => kvs.length <= sizeLine /\ (a == sysModules) = false /\ ∃ xs : List (List Key × Addr × Value),
      Paired (fun (p : List Key × V) (q : List Key × Addr × Value) => p.1 = q.1 /\ H q.2.1 = some (.tup (p.1.map kV)) /\ RelV p.2 q.2.2) kvs xs /\
      ∃ o es ep, h.get? a = some o /\ o.ExactDict /\ o.data = .dict es ep /\ es.toList = xs.map (entryOfKey (tupleKind (mixKind P w))) /\ (xs.map (·.1)).Nodup
  | .set S n => h.SetOf (intKind P w) a S n
  | .ins C dx fs => H dx = some (.own a) /\ fs.length <= 1000 /\ dx ≠ a /\ h.get? a = some (PySem.W.instObj C dx) /\
      ∃ mA, h.Ns1 dx mA /\ (∀ f, RelO (fs.lookup f) (mA f)) /\ PySem.Within mA (fs.map (·.1))
  | .own _ => ∃ o, h.get? a = some o
  | .xd fs => ∃ mA, h.Ns1 a mA /\ ∀ f, RelO (fs.lookup f) (mA f)
  | .rng lo hi => ∃ t u v, h.get? a = some { cls := .type "range", data := .fields #[.int lo t, .int hi u, .int 1 v] }
  | .frz o u => h.get? a = some o /\ ObjOk H h a u
  | .tbl ps => h.get? a = some { cls := .none, data := .fields ps }
  | .met f x => h.get? a = some (PySem.W.methodObj (.ref f) (.ref x))
  | .ext φ => φ h /\ (∃ o, h.get? a = some o) /\ ∀ h1 h2 : Heap, φ h1 -> (∀ o, h1.get? a = some o -> h2.get? a = some o) -> φ h2
noncomputable def HOk (H : Hp) (h : Heap) : Prop := ∀ a o, H a = some o -> ObjOk P w H h a o
end
section
variable {P : Program} {w : World} {H H' : Hp} {h h' : Heap} {a : Addr} {o : HO}
theorem ObjOk.lt (x : ObjOk P w H h a o) : a < h.objs.size := by
  cases o with
  | lst xs => obtain ⟨_, _, _, _, e⟩ := x; exact Heap.lt_size e
  | tup xs => obtain ⟨_, _, _, p⟩ := x; exact p.lt
  | dK kvs => obtain ⟨_, _, _, _, o, _, _, e, _⟩ := x; exact Heap.lt_size e
  | dT kvs => obtain ⟨_, _, _, _, o, _, _, e, _⟩ := x; exact Heap.lt_size e
  | set S n => obtain ⟨o, _, _, _, e, _⟩ := x; exact Heap.lt_size e
  | ins C dx fs => obtain ⟨_, _, _, e, _⟩ := x; exact Heap.lt_size e
  | own y => obtain ⟨_, e⟩ := x; exact Heap.lt_size e
  | xd fs => obtain ⟨_, ⟨_, _, _, e, _⟩, _⟩ := x; exact Heap.lt_size e
  | rng lo hi => obtain ⟨_, _, _, e⟩ := x; exact Heap.lt_size e
  | frz ob u => obtain ⟨e, _⟩ := x; exact Heap.lt_size e
  | tbl ps => exact Heap.lt_size (show h.get? a = some _ from x)
  | met f y => exact Heap.lt_size (show h.get? a = some _ from x)
  | ext φ => obtain ⟨_, ⟨_, e⟩, _⟩ := x; exact Heap.lt_size e
theorem Paired.mapP {α β : Type} {F G : α -> β -> Prop} : ∀ {l₁ : List α} {l₂ : List β}, Paired F l₁ l₂ -> (∀ a b, F a b -> G a b) -> Paired G l₁ l₂
  | _, _, .nil, _ => .nil
  | _, _, .cons r t, f => .cons (f _ _ r) (Paired.mapP t f)
theorem ObjOk.stay (x : ObjOk P w H h a o) (k : ∀ b u, (b = a \/ H b = some (.own a)) -> h.get? b = some u -> h'.get? b = some u)
    (ho : ∀ b, H b = some (.own a) -> H' b = some (.own a)) (ht : ∀ b xs, H b = some (.tup xs) -> H' b = some (.tup xs)) : ObjOk P w H' h' a o := by
  induction o with
  | lst xs => obtain ⟨z, its, n, r, e⟩ := x; exact ⟨z, its, n, r, k _ _ (.inl rfl) e⟩
  | tup xs => obtain ⟨z, its, r, ob, e, c⟩ := x; exact ⟨z, its, r, ob, k _ _ (.inl rfl) e, c⟩
  | dK kvs => obtain ⟨z, y, vs, r, ob, es, ep, e, c⟩ := x; exact ⟨z, y, vs, r, ob, es, ep, k _ _ (.inl rfl) e, c⟩
  | dT kvs =>
    obtain ⟨z, y, xs, r, ob, es, ep, e, c⟩ := x
    exact ⟨z, y, xs, Paired.mapP r fun p q z => ⟨z.1, ht _ _ z.2.1, z.2.2⟩, ob, es, ep, k _ _ (.inl rfl) e, c⟩
  | set S n => obtain ⟨ob, es, ep, t, e, c⟩ := x; exact ⟨ob, es, ep, t, k _ _ (.inl rfl) e, c⟩
  | ins C dx fs =>
    obtain ⟨d, z, ne, e, mA, ⟨od, es, ep, e2, c⟩, r⟩ := x
    exact ⟨ho _ d, z, ne, k _ _ (.inl rfl) e, mA, ⟨od, es, ep, k _ _ (.inr d) e2, c⟩, r⟩
  | own y => obtain ⟨ob, e⟩ := x; exact ⟨ob, k _ _ (.inl rfl) e⟩
  | xd fs => obtain ⟨mA, ⟨od, es, ep, e, c⟩, r⟩ := x; exact ⟨mA, ⟨od, es, ep, k _ _ (.inl rfl) e, c⟩, r⟩
  | rng lo hi => obtain ⟨t, u, v, e⟩ := x; exact ⟨t, u, v, k _ _ (.inl rfl) e⟩
  | frz ob u ih => obtain ⟨e, q⟩ := x; exact ⟨k _ _ (.inl rfl) e, ih q⟩
  | tbl ps =>
    have e : h.get? a = some { cls := .none, data := .fields ps } := x
    show h'.get? a = some { cls := .none, data := .fields ps }
    exact k a _ (.inl rfl) e
  | met f y =>
    have e : h.get? a = some (PySem.W.methodObj (.ref f) (.ref y)) := x
    show h'.get? a = some (PySem.W.methodObj (.ref f) (.ref y))
    exact k a _ (.inl rfl) e
  | ext φ => obtain ⟨p, ⟨o, e⟩, st⟩ := x; exact ⟨st _ _ p fun o q => k _ _ (.inl rfl) q, ⟨o, k _ _ (.inl rfl) e⟩, st⟩
theorem HOk.lt (x : HOk P w H h) (e : H a = some o) : a < h.objs.size := (x a o e).lt
theorem HOk.fresh (x : HOk P w H h) (e : h.objs.size <= a) : H a = none := by
  cases q : H a with
  | none => rfl
  | some u => exact absurd (Nat.lt_of_lt_of_le (x.lt q) e) (Nat.lt_irrefl _)
theorem HOk.kept (x : HOk P w H h) (k : ∀ b u, h.get? b = some u -> h'.get? b = some u) : HOk P w H h' := fun a o e =>
  (x a o e).stay (fun b u _ q => k b u q) (fun _ q => q) fun _ _ q => q
theorem HOk.laid (x : HOk P w H h) (k : ∀ b u, h.get? b = some u -> h'.get? b = some u) (hp : h.objs.size <= a) (new : ObjOk P w (upd H a o) h' a o) : HOk P w (upd H a o) h' := fun b u e => by
  have hn := x.fresh hp
  by_cases hb : b = a
  · subst hb; rw [upd_same] at e; cases e; exact new
  · rw [upd_ne hb] at e
    exact (x b u e).stay (fun c v _ q => k c v q) (fun c q => by rw [upd_ne (ne_of_none q hn)]; exact q) fun c xs q => by rw [upd_ne (ne_of_none q hn)]; exact q
end
noncomputable def Rd (H : Hp) (a : Addr) (u : HO) : Prop := H a = some u \/ ∃ o, H a = some (.frz o u)
theorem Rd.of {H : Hp} {a : Addr} {u : HO} (h : H a = some u) : Rd H a u := .inl h
theorem Rd.ok {P : Program} {w : World} {H : Hp} {h : Heap} {a : Addr} {u : HO} (r : Rd H a u) (x : HOk P w H h) : ObjOk P w H h a u := by
  rcases r with r | ⟨o, r⟩
  · exact x a u r
  · obtain ⟨_, q⟩ := x a _ r
    exact q
noncomputable def Mut : Option HO -> Prop
  | some (.lst _) => True
  | some (.dK _) => True
  | some (.dT _) => True
  | some (.set _ _) => True
  | some (.ins _ _ _) => True
  | some (.ext _) => True
  | _ => False
section
variable {P : Program} {w : World} {H : Hp} {h h' : Heap} {x e : Addr} {o' : HO}
theorem HOk.write (ok : HOk P w H h) (mu : Mut (H x)) (he : e = x \/ H e = some (.own x)) (k : ∀ b u, b ≠ e -> h.get? b = some u -> h'.get? b = some u) (heo : ∃ u, h'.get? e = some u)
    (new : ObjOk P w (upd H x o') h' x o') : HOk P w (upd H x o') h' := fun b u q => by
  have nown : ∀ c y, H c = some (.own y) -> c ≠ x := fun c y r z => by subst z; rw [r] at mu; exact mu
  have ntup : ∀ c xs, H c = some (.tup xs) -> c ≠ x := fun c xs r z => by subst z; rw [r] at mu; exact mu
  by_cases hb : b = x
  · subst hb; rw [upd_same] at q; cases q; exact new
  · rw [upd_ne hb] at q
    by_cases hbe : b = e
    · have q' : H b = some (.own x) := by
        rcases he with z | z
        · exact absurd (hbe.trans z) hb
        · rw [hbe]; exact z
      rw [q] at q'; cases q'
      obtain ⟨v, hv⟩ := heo
      exact ⟨v, by rw [hbe]; exact hv⟩
    · refine (ok b u q).stay (fun c v hc r => k c v ?_ r) (fun c r => by rw [upd_ne (nown c b r)]; exact r) fun c xs r => by rw [upd_ne (ntup c xs r)]; exact r
      rcases hc with rfl | hc
      · exact hbe
      · rintro rfl
        rcases he with z | z
        · exact nown c b hc z
        · rw [hc] at z; cases z; exact hb rfl
end
structure Un (fs ex : List Addr) (H H' : Hp) (h h' : Heap) : Prop where
  keep : ∀ b o, h.get? b = some o -> H b = none -> b ∉ fs -> b ∉ ex -> h'.get? b = some o
  slot : ∀ b o, h.get? b = some o -> H b = none -> b ∈ fs -> b ∉ ex -> ∃ sl, h'.get? b = some { o with slots := sl }
  free : ∀ b o, h.get? b = some o -> H b = none -> b ∉ ex -> H' b = none
  there : ∀ b o, h.get? b = some o -> b ∉ ex -> ∃ o', h'.get? b = some o'
  tups : ∀ b xs, H b = some (.tup xs) -> H' b = some (.tup xs)
  frzs : ∀ b o u, H b = some (.frz o u) -> H' b = some (.frz o u)
  tbls : ∀ b ps, H b = some (.tbl ps) -> ∃ more, H' b = some (.tbl (ps ++ more))
section
variable {fs fs' ex ex' : List Addr} {H H1 H2 : Hp} {h h1 h2 h' : Heap} {a x e : Addr} {o : HO}
theorem Un.any (u : Un fs ex H H1 h h1) {b : Addr} {ob : Obj} (q : h.get? b = some ob) (n : H b = none) (hx : b ∉ ex) : ∃ sl, h1.get? b = some { ob with slots := sl } := by
  by_cases hb : b ∈ fs
  · exact u.slot b ob q n hb hx
  · exact ⟨ob.slots, u.keep b ob q n hb hx⟩
theorem Un.trans (a : Un fs ex H H1 h h1) (b : Un fs ex H1 H2 h1 h2) : Un fs ex H H2 h h2 where
  keep := fun c ob q n hc hx => b.keep c ob (a.keep c ob q n hc hx) (a.free c ob q n hx) hc hx
  slot := fun c ob q n hc hx => by
    obtain ⟨sl, e1⟩ := a.slot c ob q n hc hx
    obtain ⟨sl', e2⟩ := b.slot c _ e1 (a.free c ob q n hx) hc hx
    exact ⟨sl', e2⟩
  free := fun c ob q n hx => by
    obtain ⟨o', e1⟩ := a.there c ob q hx
    exact b.free c o' e1 (a.free c ob q n hx) hx
  there := fun c ob q hx => by
    obtain ⟨o', e1⟩ := a.there c ob q hx
    exact b.there c o' e1 hx
  tups := fun c xs q => b.tups c xs (a.tups c xs q)
  frzs := fun c ob xs q => b.frzs c ob xs (a.frzs c ob xs q)
  tbls := fun c ps q => by
    obtain ⟨m1, e1⟩ := a.tbls c ps q
    obtain ⟨m2, e2⟩ := b.tbls c _ e1
    exact ⟨m1 ++ m2, by rw [e2, Array.append_assoc]⟩
theorem Un.kept (k : ∀ b u, h.get? b = some u -> h'.get? b = some u) : Un fs ex H H h h' :=
  ⟨fun b ob q _ _ _ => k b ob q, fun b ob q _ _ _ => ⟨ob.slots, k b ob q⟩, fun _ _ _ n _ => n, fun b ob q _ => ⟨ob, k b ob q⟩, fun _ _ q => q, fun _ _ _ q => q, fun _ ps q => ⟨#[], by rw [q]; simp⟩⟩
theorem Un.refl : Un fs ex H H h h := Un.kept fun _ _ q => q
theorem Un.laid (k : ∀ b u, h.get? b = some u -> h'.get? b = some u) (hp : h.objs.size <= a) (hn : H a = none) : Un fs ex H (upd H a o) h h' where
  keep := fun b u q _ _ _ => k b u q
  slot := fun b u q _ _ _ => ⟨u.slots, k b u q⟩
  free := fun b u q n _ => by rw [upd_ne (Nat.ne_of_lt (Nat.lt_of_lt_of_le (Heap.lt_size q) hp))]; exact n
  there := fun b u q _ => ⟨u, k b u q⟩
  tups := fun b xs q => by rw [upd_ne (ne_of_none q hn)]; exact q
  frzs := fun b u xs q => by rw [upd_ne (ne_of_none q hn)]; exact q
  tbls := fun b ps q => ⟨#[], by rw [upd_ne (ne_of_none q hn), q]; simp⟩
theorem Un.write (mu : Mut (H x)) (he : e = x \/ H e = some (.own x)) (k : ∀ b u, b ≠ e -> h.get? b = some u -> h'.get? b = some u) (heo : ∃ u, h'.get? e = some u) : Un fs ex H (upd H x o) h h' := by
  have hx : ∀ b, H b = none -> b ≠ x := fun b n z => by subst z; rw [n] at mu; exact mu
  have hb : ∀ b, H b = none -> b ≠ e := fun b n z => by
    subst z
    rcases he with r | r
    · exact hx b n r
    · rw [n] at r; cases r
  have hm : ∀ b u, H b = some u -> ¬ Mut (some u) -> b ≠ x := fun b u q nm z => by subst z; rw [q] at mu; exact nm mu
  refine ⟨fun b u q n _ _ => k b u (hb b n) q, fun b u q n _ _ => ⟨u.slots, k b u (hb b n) q⟩, fun b u q n _ => by rw [upd_ne (hx b n)]; exact n, fun b u q _ => ?_,
    fun b xs q => by rw [upd_ne (hm b _ q fun z => z)]; exact q, fun b u xs q => by rw [upd_ne (hm b _ q fun z => z)]; exact q, fun b ps q => ⟨#[], by rw [upd_ne (hm b _ q fun z => z), q]; simp⟩⟩
  by_cases hbe : b = e
  · subst hbe; exact heo
  · exact ⟨u, k b u hbe q⟩
theorem Un.mono (u : Un fs ex H H1 h h1) (hs : ∀ b ∈ fs, b ∈ fs') (hx : ∀ b ∈ ex, b ∈ ex') : Un fs' ex' H H1 h h1 :=
  ⟨fun b ob q n hb he => u.keep b ob q n (fun z => hb (hs b z)) fun z => he (hx b z), fun _ _ q n _ he => u.any q n fun z => he (hx _ z), fun b ob q n he => u.free b ob q n fun z => he (hx b z), fun b ob q he => u.there b ob q fun z => he (hx b z), u.tups, u.frzs, u.tbls⟩
end
noncomputable def trk (h : Heap) (H : Hp) : List Addr := (List.range h.objs.size).filter fun a => (H a).isSome
noncomputable def hidT (h : Heap) (H : Hp) : Heap := PySem.W.hideAll h (trk h H)
theorem hidT_size (h : Heap) (H : Hp) : (hidT h H).objs.size = h.objs.size := PySem.W.hideAll_size _ _
theorem hidT_get {h : Heap} {H : Hp} {b : Addr} {o : Obj} (e : h.get? b = some o) (n : H b = none) : (hidT h H).get? b = some o :=
  PySem.W.hideAll_get _ e fun hm => by
    have q : (H b).isSome = true := (List.mem_filter.mp hm).2
    rw [n] at q; simp at q
theorem of_hidT {h : Heap} {H : Hp} {b : Addr} {o : Obj} (e : (hidT h H).get? b = some o) : h.get? b = some o /\ H b = none := by
  have e' : h.get? b = some o := PySem.W.of_hideAll (trk h H) e
  refine ⟨e', ?_⟩
  cases q : H b with
  | none => rfl
  | some x =>
    have hm : b ∈ trk h H := List.mem_filter.mpr ⟨List.mem_range.mpr (Heap.lt_size e'), by simp [q]⟩
    have z : (hidT h H).get? b = none := PySem.W.hideAll_none (trk h H) hm
    rw [z] at e; cases e
noncomputable def allNews (g h : Heap) (L : Addr) : List (Addr × Obj) := (List.range h.objs.size).filterMap fun a => if a = L \/ (g.get? a).isSome = true then none else (h.get? a).map fun o => (a, o)
noncomputable def rest (g h : Heap) (L d : Addr) : List (Addr × Obj) := (allNews g h L).filter fun p => decide (p.1 ≠ d)
end L2
namespace L2
open PySem PySem.Spec PyProof.Rows
structure Mod (K : PySem.W.Frag) (mg : Str -> Option Value) (base : Heap) : Prop where
  kin : K.In base
  glob : base.Ns mainGlobals mg
  blt : ∃ mb, base.Ns builtinsNs mb /\ ∀ x : Str, x ≠ "__name__" -> mb x = bootBuiltins x
  nolimit : base.NoLimit
structure Cx where
  prog : Program
  w : World
  K : PySem.W.Frag
  mg : Str -> Option Value
  base : Heap
  A : Around
  N : List Str
  s₀ : Shared
  H₀ : Hp
  env : Env
  outer : List Env
  stack : List Env
  ex : List Addr
  fn : Str -> Bool
  calm : Bool
  pn : List (Addr × Obj)
  xe : Value -> Shared -> Prop
noncomputable def frs (l : List Env) : List Addr := l.filterMap (·.frame)
noncomputable abbrev Cx.fs (X : Cx) : List Addr := frs X.outer
noncomputable def Vis (sc : Scope) (x : Str) : Prop := sc.names.lookup x = some .local \/ sc.names.lookup x = some .cell \/ sc.names.lookup x = some .free
noncomputable def Loc (sc : Scope) (x : Str) : Prop := sc.names.lookup x = some .local \/ sc.names.lookup x = some .cell
noncomputable def Look (env : Env) (h : Heap) (m : Str -> Option Value) (x : Str) (u : Value) : Prop :=
  (env.kindOf x = some .local /\ m x = some u) \/ ((env.kindOf x = some .cell \/ env.kindOf x = some .free) /\ ∃ c, env.cells.lookup x = some c /\ h.IsCell c (some u))
structure Cx.Ok (X : Cx) : Prop where
  mod : Mod X.K X.mg X.base
  kind : X.env.scope.kind = .function
  glob : X.env.globals = mainGlobals
  blt : X.env.builtins = builtinsNs
  above : X.s₀.heap.objs.size <= X.env.locals
  inj : ∀ x y c, X.env.cells.lookup x = some c -> X.env.cells.lookup y = some c -> x = y
  has : ∀ x, (X.env.kindOf x = some .cell \/ X.env.kindOf x = some .free) -> ∃ c, X.env.cells.lookup x = some c
  cab : ∀ x c, X.fn x = true -> X.env.cells.lookup x = some c -> X.s₀.heap.objs.size <= c
  hd : X.calm = true -> X.A.handled = none
  frames : X.A.frames = some X.stack
  stk : X.stack = X.outer \/ (X.stack = X.env :: X.outer /\ X.env.frame = some X.env.locals)
  exf : ∀ b ∈ X.ex, b ≠ X.env.locals /\ ∀ x c, X.env.cells.lookup x = some c -> c ≠ b
  bs : ∀ b o, X.base.get? b = some o -> X.s₀.heap.get? b = some o /\ X.H₀ b = none
  bsz : X.base.objs.size <= X.s₀.heap.objs.size
  noex : ∀ b o, X.base.get? b = some o -> b ∉ X.ex
  exfs : ∀ b ∈ X.ex, b ∉ X.fs
  funs : X.s₀.heap.FunFrames X.base X.outer
  frf : ∀ b ∈ X.fs, X.H₀ b = none
structure Inv (X : Cx) (pins : List (Addr × Obj)) (σ : List (Option V)) (H : Hp) (s : Shared) : Prop where
  ok : X.Ok
  os : s.os = X.s₀.os
  bare : AllBare s.gens
  base : Un X.fs X.ex X.H₀ H X.s₀.heap s.heap
  loc : ∃ m, s.heap.Ns X.env.locals m /\ ∀ (i : Nat) (x : Str) (v : V), X.N[i]? = some x -> σ[i]? = some (some v) -> Vis X.env.scope x -> ∃ u, RelV v u /\ Look X.env s.heap m x u
  cell : ∀ x c, X.env.cells.lookup x = some c -> ∃ v, s.heap.IsCell c v
  free : H X.env.locals = none
  freeC : ∀ x c, X.env.cells.lookup x = some c -> H c = none
  pin : ∀ p ∈ X.pn ++ pins, s.heap.get? p.1 = some p.2 /\ H p.1 = none /\ p.1 ≠ X.env.locals /\ p.1 ∉ X.fs /\ ∀ v, p.2.data ≠ .cell v
  hok : HOk X.prog X.w H s.heap
  len : σ.length = X.N.length
section
variable {X : Cx} {pins : List (Addr × Obj)} {σ : List (Option V)} {H H' : Hp} {s : Shared} {h' : Heap}
theorem Cx.Ok.nofr (ok : X.Ok) {b : Addr} {o : Obj} (e : X.base.get? b = some o) : b ∉ X.fs := fun hb => by
  have := (ok.funs.mem hb).1
  rw [e] at this; cases this
theorem Inv.bs (I : Inv X pins σ H s) : ∀ b o, X.base.get? b = some o -> s.heap.get? b = some o /\ H b = none := fun b o e =>
  ⟨I.base.keep b o (I.ok.bs b o e).1 (I.ok.bs b o e).2 (I.ok.nofr e) (I.ok.noex b o e), I.base.free b o (I.ok.bs b o e).1 (I.ok.bs b o e).2 (I.ok.noex b o e)⟩
theorem Inv.bk (I : Inv X pins σ H s) : ∀ b o, X.base.get? b = some o -> s.heap.get? b = some o := fun b o e => (I.bs b o e).1
theorem Inv.mod (I : Inv X pins σ H s) : Mod X.K X.mg X.base := I.ok.mod
theorem Inv.kIn (I : Inv X pins σ H s) : X.K.In s.heap := I.ok.mod.kin.keeps I.bk
theorem Inv.nolimit (I : Inv X pins σ H s) : s.heap.NoLimit := I.ok.mod.nolimit.keeps I.bk
theorem Inv.fr (I : Inv X pins σ H s) : ∃ m, Fr X.base X.env.locals s.heap m :=
  let ⟨m, hn, _⟩ := I.loc
  ⟨m, hn, I.bk, Nat.le_trans I.ok.bsz I.ok.above⟩
theorem Inv.lt (I : Inv X pins σ H s) : X.env.locals < s.heap.objs.size := let ⟨_, hn, _⟩ := I.loc; hn.lt
theorem Inv.sz (I : Inv X pins σ H s) : X.s₀.heap.objs.size <= s.heap.objs.size := Nat.le_trans I.ok.above (Nat.le_of_lt I.lt)
theorem Inv.nofs (I : Inv X pins σ H s) {a : Addr} (h : s.heap.objs.size <= a) : a ∉ X.fs := fun hb => by
  obtain ⟨_, o, ho, _⟩ := I.ok.funs.mem hb
  exact absurd (Nat.lt_of_lt_of_le (Heap.lt_size ho) (Nat.le_trans I.sz h)) (Nat.lt_irrefl _)
theorem Inv.cne (I : Inv X pins σ H s) : ∀ x c, X.env.cells.lookup x = some c -> c ≠ X.env.locals := fun x c e z => by
  obtain ⟨v, o, ho, hd⟩ := I.cell x c e
  obtain ⟨m, ⟨o', es, ep, ho', hd', _⟩, _⟩ := I.loc
  rw [z, ho'] at ho; cases ho; rw [hd'] at hd; cases hd
theorem Inv.funs (I : Inv X pins σ H s) : s.heap.FunFrames X.base X.outer := by
  have all : ∀ (l : List Env), (∀ b ∈ frs l, b ∈ X.fs) -> X.s₀.heap.FunFrames X.base l -> s.heap.FunFrames X.base l := by
    intro l
    induction l with
    | nil => intro _ _; trivial
    | cons env r ih =>
      intro hs hl
      obtain ⟨hk, ⟨L, o, hf, hn, ho, hd⟩, hr⟩ := hl
      have hL : L ∈ X.fs := hs L (by unfold frs; rw [List.filterMap_cons, hf]; exact List.mem_cons_self)
      obtain ⟨sl, e⟩ := I.base.slot L o ho (I.ok.frf L hL) hL fun z => I.ok.exfs L z hL
      exact ⟨hk, ⟨L, _, hf, hn, e, hd⟩, ih (fun b hb => hs b (by unfold frs; rw [List.filterMap_cons, hf]; exact List.mem_cons_of_mem _ hb)) hr⟩
  exact all X.outer (fun _ hb => hb) I.ok.funs
theorem Inv.stack (I : Inv X pins σ H s) : s.heap.FunFrames X.base X.stack := by
  rcases I.ok.stk with e | ⟨e, hf⟩
  · rw [e]; exact I.funs
  · rw [e]
    obtain ⟨m, hn, _⟩ := I.loc
    refine .cons (by rw [I.ok.kind]; decide) hf hn ?_ I.funs
    exact Heap.get?_none_of_le (Nat.le_trans I.ok.bsz I.ok.above)
theorem Inv.stkSub (I : Inv X pins σ H s) : ∀ b ∈ frs X.stack, b ∈ X.env.locals :: X.fs := fun b hb => by
  rcases I.ok.stk with e | ⟨e, hf⟩
  · rw [e] at hb; exact List.mem_cons_of_mem _ hb
  · rw [e] at hb
    unfold frs at hb
    rw [List.filterMap_cons, hf] at hb
    exact hb
theorem Inv.stkFree (I : Inv X pins σ H s) : ∀ b ∈ frs X.stack, H b = none := fun b hb => by
  rcases List.mem_cons.mp (I.stkSub b hb) with e | hb
  · rw [e]; exact I.free
  · obtain ⟨_, o, ho, _⟩ := I.ok.funs.mem hb
    exact I.base.free b o ho (I.ok.frf b hb) fun z => I.ok.exfs b z hb
theorem Inv.step {g' : Array GenState} {t' : Nat} {d' : Drawn} {ch : List Addr} (I : Inv X pins σ H s)
    (hch : ∀ b ∈ ch, (b ∈ X.ex \/ X.s₀.heap.objs.size <= b) /\ b ≠ X.env.locals /\ (∀ x c, X.env.cells.lookup x = some c -> c ≠ b) /\ ∀ p ∈ X.pn ++ pins, p.1 ≠ b)
    (keep : ∀ b o, b ≠ X.env.locals -> b ∉ X.fs -> b ∉ ch -> s.heap.get? b = some o -> H b = none -> h'.get? b = some o)
    (slot : ∀ b o, b ≠ X.env.locals -> b ∈ X.fs -> b ∉ ch -> s.heap.get? b = some o -> H b = none -> ∃ sl, h'.get? b = some { o with slots := sl }) (free : ∀ b o, b ∉ ch -> s.heap.get? b = some o -> H b = none -> H' b = none)
    (there : ∀ b o, b ∉ ch -> s.heap.get? b = some o -> ∃ o', h'.get? b = some o')
    (tups : ∀ b xs, H b = some (.tup xs) -> H' b = some (.tup xs)) (frzs : ∀ b o u, H b = some (.frz o u) -> H' b = some (.frz o u)) (tbls : ∀ b ps, H b = some (.tbl ps) -> ∃ more, H' b = some (.tbl (ps ++ more)))
    (ns : ∀ m, s.heap.Ns X.env.locals m -> h'.Ns X.env.locals m) (hok : HOk X.prog X.w H' h') (hg : AllBare g') :
    Inv X pins σ H' { s with heap := h', gens := g', drawn := d', toks := t' } := by
  have neL : ∀ b o, X.s₀.heap.get? b = some o -> b ≠ X.env.locals := fun b o e => Nat.ne_of_lt (Nat.lt_of_lt_of_le (Heap.lt_size e) I.ok.above)
  have neC : ∀ b o, X.s₀.heap.get? b = some o -> b ∉ X.ex -> b ∉ ch := fun b o e hx hb => by
    rcases (hch b hb).1 with z | z
    · exact hx z
    · exact absurd (Nat.lt_of_lt_of_le (Heap.lt_size e) z) (Nat.lt_irrefl _)
  have cellK : ∀ x c, X.env.cells.lookup x = some c -> ∀ v, s.heap.IsCell c v -> h'.IsCell c v := fun x c e v ⟨o, ho, hd⟩ => by
    have nch : c ∉ ch := fun z => (hch c z).2.2.1 x c e rfl
    by_cases hc : c ∈ X.fs
    · obtain ⟨sl, q⟩ := slot c o (I.cne x c e) hc nch ho (I.freeC x c e)
      exact ⟨_, q, hd⟩
    · exact ⟨o, keep c o (I.cne x c e) hc nch ho (I.freeC x c e), hd⟩
  refine ⟨I.ok, I.os, hg, ⟨fun b o e n hb hx => ?_, fun b o e n hb hx => ?_, fun b o e n hx => ?_, fun b o e hx => ?_, fun b xs e => tups b xs (I.base.tups b xs e), fun b o xs e => frzs b o xs (I.base.frzs b o xs e), fun b ps e => ?_⟩, ?_, fun x c e => ?_, ?_, fun x c e => ?_, fun p hp => ?_, hok, I.len⟩
  · exact keep b o (neL b o e) hb (neC b o e hx) (I.base.keep b o e n hb hx) (I.base.free b o e n hx)
  · obtain ⟨sl, e1⟩ := I.base.slot b o e n hb hx
    obtain ⟨sl', e2⟩ := slot b _ (neL b o e) hb (neC b o e hx) e1 (I.base.free b o e n hx)
    exact ⟨sl', e2⟩
  · obtain ⟨o', e1⟩ := I.base.there b o e hx
    exact free b o' (neC b o e hx) e1 (I.base.free b o e n hx)
  · obtain ⟨o', e1⟩ := I.base.there b o e hx
    exact there b o' (neC b o e hx) e1
  · obtain ⟨m1, e1⟩ := I.base.tbls b ps e
    obtain ⟨m2, e2⟩ := tbls b _ e1
    exact ⟨m1 ++ m2, by rw [e2, Array.append_assoc]⟩
  · obtain ⟨m, hn, hl⟩ := I.loc
    refine ⟨m, ns m hn, fun i x v e1 e2 e3 => ?_⟩
    obtain ⟨u, r, l⟩ := hl i x v e1 e2 e3
    refine ⟨u, r, ?_⟩
    rcases l with l | ⟨k, c, e, z⟩
    · exact .inl l
    · exact .inr ⟨k, c, e, cellK x c e _ z⟩
  · obtain ⟨v, z⟩ := I.cell x c e
    exact ⟨v, cellK x c e v z⟩
  · obtain ⟨m, ⟨o, _, _, ho, _⟩, _⟩ := I.loc
    exact free _ o (fun z => (hch _ z).2.1 rfl) ho I.free
  · obtain ⟨v, o, ho, hd⟩ := I.cell x c e
    exact free c o (fun z => (hch c z).2.2.1 x c e rfl) ho (I.freeC x c e)
  · obtain ⟨e, n, ne, nf, d⟩ := I.pin p hp
    have nch : p.1 ∉ ch := fun z => (hch p.1 z).2.2.2 p hp rfl
    exact ⟨keep p.1 p.2 ne nf nch e n, free p.1 p.2 nch e n, ne, nf, d⟩
theorem Inv.un {t' : Nat} (I : Inv X pins σ H s) (u : Un X.fs [] H H' s.heap h') (hok : HOk X.prog X.w H' h') : Inv X pins σ H' { s with heap := h', toks := t' } := by
  obtain ⟨m, ⟨o, es, ep, ho, r⟩, _⟩ := id I.loc
  obtain ⟨sl, hL⟩ := u.any ho I.free (by simp)
  exact I.step (g' := s.gens) (d' := s.drawn) (ch := []) (fun _ z => nomatch z) (fun b o _ hb _ e n => u.keep b o e n hb (by simp)) (fun b o _ hb _ e n => u.slot b o e n hb (by simp)) (fun b o _ e n => u.free b o e n (by simp)) (fun b o _ e => u.there b o e (by simp)) u.tups u.frzs u.tbls (fun m' hm => by
    obtain ⟨o', es', ep', ho', r'⟩ := hm
    rw [ho] at ho'; cases ho'
    exact ⟨_, es', ep', hL, r'⟩) hok I.bare
theorem Inv.call {g' : Array GenState} {t' : Nat} {d' : Drawn} {ch : List Addr} (I : Inv X pins σ H s) (u : Un (frs X.stack) ch H H' s.heap h') (hok : HOk X.prog X.w H' h') (hg : AllBare g')
    (hch : ∀ b ∈ ch, (b ∈ X.ex \/ X.s₀.heap.objs.size <= b) /\ b ≠ X.env.locals /\ (∀ x c, X.env.cells.lookup x = some c -> c ≠ b) /\ ∀ p ∈ X.pn ++ pins, p.1 ≠ b) :
    Inv X pins σ H' { s with heap := h', gens := g', drawn := d', toks := t' } := by
  obtain ⟨m, ⟨o, es, ep, ho, r⟩, _⟩ := id I.loc
  obtain ⟨sl, hL⟩ := u.any ho I.free fun z => (hch _ z).2.1 rfl
  exact I.step (ch := ch) hch (fun b o hL hb hc e n => u.keep b o e n (fun z => (List.mem_cons.mp (I.stkSub b z)).elim hL hb) hc) (fun b o _ _ hc e n => u.any e n hc) (fun b o hc e n => u.free b o e n hc) (fun b o hc e => u.there b o e hc) u.tups u.frzs u.tbls (fun m' hm => by
    obtain ⟨o', es', ep', ho', r'⟩ := hm
    rw [ho] at ho'; cases ho'
    exact ⟨_, es', ep', hL, r'⟩) hok hg
theorem Inv.turned {t' : Nat} {it : Addr} (I : Inv X pins σ H s) (k : ∀ b o, b ≠ it -> s.heap.get? b = some o -> h'.get? b = some o) (hn : H it = none) (hL : it ≠ X.env.locals)
    (h1 : it ∈ X.ex \/ X.s₀.heap.objs.size <= it) (h2 : ∀ x c, X.env.cells.lookup x = some c -> c ≠ it) (h3 : ∀ p ∈ X.pn ++ pins, p.1 ≠ it) : Inv X pins σ H { s with heap := h', toks := t' } := by
  have nit : ∀ b u, H b = some u -> b ≠ it := fun b u e z => by rw [z, hn] at e; cases e
  refine I.step (g' := s.gens) (d' := s.drawn) (ch := [it]) (fun b hb => ?_) (fun b o _ _ hc e _ => k b o (fun z => hc (by simp [z])) e) (fun b o _ _ hc e _ => ⟨o.slots, k b o (fun z => hc (by simp [z])) e⟩) (fun _ _ _ _ n => n)
    (fun b o hc e => ⟨o, k b o (fun z => hc (by simp [z])) e⟩) (fun _ _ e => e) (fun _ _ _ e => e) (fun b ps e => ⟨#[], by rw [e]; simp⟩) (fun m hm => ?_) (fun b u e => ?_) I.bare
  · have e : b = it := by simpa using hb
    subst e
    exact ⟨h1, hL, h2, h3⟩
  · obtain ⟨o, es, ep, ho, r⟩ := hm
    exact ⟨o, es, ep, k _ o (Ne.symm hL) ho, r⟩
  · refine (I.hok b u e).stay (fun c v hc q => k c v ?_ q) (fun _ q => q) fun _ _ q => q
    rcases hc with z | z
    · rw [z]; exact nit b u e
    · exact nit c _ z
theorem Inv.tok (I : Inv X pins σ H s) (t : Nat) : Inv X pins σ H { s with toks := t } := I.un (h' := s.heap) (t' := t) Un.refl I.hok
theorem Inv.kept {t' : Nat} (I : Inv X pins σ H s) (k : ∀ b u, s.heap.get? b = some u -> h'.get? b = some u) : Inv X pins σ H { s with heap := h', toks := t' } := I.un (Un.kept k) (I.hok.kept k)
theorem Inv.laid {a : Addr} {o : HO} {t' : Nat} (I : Inv X pins σ H s) (k : ∀ b u, s.heap.get? b = some u -> h'.get? b = some u) (hp : s.heap.objs.size <= a) (new : ObjOk X.prog X.w (upd H a o) h' a o) :
    Inv X pins σ (upd H a o) { s with heap := h', toks := t' } := I.un (Un.laid k hp (I.hok.fresh hp)) (I.hok.laid k hp new)
theorem Inv.write {x e : Addr} {o : HO} {t' : Nat} (I : Inv X pins σ H s) (mu : Mut (H x)) (he : e = x \/ H e = some (.own x)) (k : ∀ b u, b ≠ e -> s.heap.get? b = some u -> h'.get? b = some u) (heo : ∃ u, h'.get? e = some u)
    (new : ObjOk X.prog X.w (upd H x o) h' x o) : Inv X pins σ (upd H x o) { s with heap := h', toks := t' } := I.un (Un.write mu he k heo) (I.hok.write mu he k heo new)
theorem Inv.weak {σ' : List (Option V)} (I : Inv X pins σ H s) (hl : σ'.length = σ.length) (w : ∀ (i : Nat) v, σ'[i]? = some (some v) -> σ[i]? = some (some v)) : Inv X pins σ' H s :=
  ⟨I.ok, I.os, I.bare, I.base, let ⟨m, hn, hl'⟩ := I.loc; ⟨m, hn, fun i x v e1 e2 e3 => hl' i x v e1 (w i v e2) e3⟩, I.cell, I.free, I.freeC, I.pin, I.hok, hl.trans I.len⟩
theorem Inv.pins_of {pins' : List (Addr × Obj)} (I : Inv X pins σ H s) (h : ∀ p ∈ pins', s.heap.get? p.1 = some p.2 /\ H p.1 = none /\ p.1 ≠ X.env.locals /\ p.1 ∉ X.fs /\ ∀ v, p.2.data ≠ .cell v) : Inv X pins' σ H s :=
  ⟨I.ok, I.os, I.bare, I.base, I.loc, I.cell, I.free, I.freeC, fun p hp => (List.mem_append.mp hp).elim (fun z => I.pin p (List.mem_append_left _ z)) (h p), I.hok, I.len⟩
theorem nodup_ix {N : List Str} (hN : N.Nodup) {i j : Nat} {x : Str} (a : N[i]? = some x) (b : N[j]? = some x) : i = j := by
  obtain ⟨h1, e1⟩ := List.getElem?_eq_some_iff.mp a
  obtain ⟨h2, e2⟩ := List.getElem?_eq_some_iff.mp b
  exact (List.getElem_inj hN).mp (e1.trans e2.symm)
theorem store_ok2 {M : Model} {A : Around} {E : Value -> Shared -> Prop} {i : Nat} {x : Str} {v : V} {u : Value} {Q : Unit -> Shared -> Prop} (I : Inv X pins σ H s) (hN : X.N.Nodup) (hi : X.N[i]? = some x) (hx : Loc X.env.scope x) (r : RelV v u)
    (h : ∀ s', Inv X pins (σ.set i (some v)) H s' -> (∃ a, Heap.SameBut a s.heap s'.heap /\ (a = X.env.locals \/ X.env.cells.lookup x = some a)) -> Q () s') (hf : X.fn x = true \/ X.env.scope.names.lookup x = some .local := by first | exact .inl rfl | exact .inr rfl | assumption) : wpAny M A (storeName X.env x u) Q E s := by
  obtain ⟨m, hn, hl⟩ := id I.loc
  have hcls : (X.env.scope.kind == .class || (X.env.scope.kind == .module && X.env.locals != X.env.globals)) = false := by rw [I.ok.kind]; rfl
  have hiσ : i < σ.length := by rw [I.len]; exact (List.getElem?_eq_some_iff.mp hi).1
  have cne := I.cne
  have tracked : ∀ {a : Addr} {h' : Heap}, (∃ o, s.heap.get? a = some o /\ H a = none) -> Heap.SameBut a s.heap h' -> HOk X.prog X.w H h' := fun {a h'} ha hs b ob e => by
    obtain ⟨_, _, hfree⟩ := ha
    refine (I.hok b ob e).stay (fun c w' hc q => (hs.2 c ?_).trans q) (fun _ q => q) fun _ _ q => q
    rintro rfl
    rcases hc with rfl | hc
    · rw [hfree] at e; cases e
    · rw [hfree] at hc; cases hc
  rcases hx with hk | hk
  · refine wpAny_storeName_local hk hn (fun h' hn' hs => ?_) hcls
    obtain ⟨oL, _, _, hoL, _⟩ := id hn
    refine h _ ⟨I.ok, I.os, I.bare, ⟨fun b o e n hb hx => ?_, fun b o e n hb hx => ?_, I.base.free, fun b o e hx => ?_, I.base.tups, I.base.frzs, I.base.tbls⟩, ⟨_, hn', fun j y v' e1 e2 e3 => ?_⟩, fun y c e => ?_, I.free, I.freeC, fun p hp => ?_, tracked ⟨oL, hoL, I.free⟩ hs, by simpa using I.len⟩ ⟨_, hs, .inl rfl⟩
    · exact (hs.2 b (Nat.ne_of_lt (Nat.lt_of_lt_of_le (Heap.lt_size e) I.ok.above))).trans (I.base.keep b o e n hb hx)
    · obtain ⟨sl, e1⟩ := I.base.slot b o e n hb hx
      exact ⟨sl, (hs.2 b (Nat.ne_of_lt (Nat.lt_of_lt_of_le (Heap.lt_size e) I.ok.above))).trans e1⟩
    · obtain ⟨o', e1⟩ := I.base.there b o e hx
      exact ⟨o', (hs.2 b (Nat.ne_of_lt (Nat.lt_of_lt_of_le (Heap.lt_size e) I.ok.above))).trans e1⟩
    · by_cases hj : j = i
      · subst hj
        rw [hi] at e1; cases e1
        rw [List.getElem?_set_self hiσ] at e2
        cases e2
        exact ⟨u, r, .inl ⟨hk, by simp⟩⟩
      · rw [List.getElem?_set_ne (Ne.symm hj)] at e2
        obtain ⟨u', r', q⟩ := hl j y v' e1 e2 e3
        refine ⟨u', r', ?_⟩
        rcases q with ⟨k, e⟩ | ⟨k, c, e, z⟩
        · refine .inl ⟨k, ?_⟩
          have : y ≠ x := fun e => hj (nodup_ix hN e1 (e ▸ hi))
          simp [this, e]
        · exact .inr ⟨k, c, e, z.sameBut hs (cne y c e)⟩
    · obtain ⟨w', z⟩ := I.cell y c e
      exact ⟨w', z.sameBut hs (cne y c e)⟩
    · obtain ⟨e, n, ne, nf, d⟩ := I.pin p hp
      exact ⟨(hs.2 p.1 ne).trans e, n, ne, nf, d⟩
  · have hfn : X.fn x = true := by
      rcases hf with z | z
      · exact z
      · rw [z] at hk; cases hk
    obtain ⟨c, hc⟩ := I.ok.has x (.inl hk)
    obtain ⟨w', z⟩ := I.cell x c hc
    refine wpAny_storeName_cell I.ok.kind hk hc z (fun h' hc' hs => ?_)
    obtain ⟨oc, hoc, hocd⟩ := id z
    refine h { s with heap := h' } ⟨I.ok, I.os, I.bare, ⟨fun b o e n hb hx => ?_, fun b o e n hb hx => ?_, I.base.free, fun b o e hx => ?_, I.base.tups, I.base.frzs, I.base.tbls⟩, ⟨m, hn.sameBut hs (Ne.symm (cne x c hc)), fun j y v' e1 e2 e3 => ?_⟩, fun y c' e => ?_, I.free, I.freeC, fun p hp => ?_, tracked ⟨oc, hoc, I.freeC x c hc⟩ hs, by simpa using I.len⟩ ⟨c, hs, .inr hc⟩
    · exact (hs.2 b (Nat.ne_of_lt (Nat.lt_of_lt_of_le (Heap.lt_size e) (I.ok.cab x c hfn hc)))).trans (I.base.keep b o e n hb hx)
    · obtain ⟨sl, e1⟩ := I.base.slot b o e n hb hx
      exact ⟨sl, (hs.2 b (Nat.ne_of_lt (Nat.lt_of_lt_of_le (Heap.lt_size e) (I.ok.cab x c hfn hc)))).trans e1⟩
    · obtain ⟨o', e1⟩ := I.base.there b o e hx
      exact ⟨o', (hs.2 b (Nat.ne_of_lt (Nat.lt_of_lt_of_le (Heap.lt_size e) (I.ok.cab x c hfn hc)))).trans e1⟩
    · by_cases hj : j = i
      · subst hj
        rw [hi] at e1; cases e1
        rw [List.getElem?_set_self hiσ] at e2
        cases e2
        exact ⟨u, r, .inr ⟨.inl hk, c, hc, hc'⟩⟩
      · rw [List.getElem?_set_ne (Ne.symm hj)] at e2
        obtain ⟨u', r', q⟩ := hl j y v' e1 e2 e3
        refine ⟨u', r', ?_⟩
        rcases q with q | ⟨k, c', e, z'⟩
        · exact .inl q
        · refine .inr ⟨k, c', e, z'.sameBut hs ?_⟩
          rintro rfl
          exact hj (nodup_ix hN e1 (I.ok.inj _ _ _ e hc ▸ hi))
    · by_cases hcc : c' = c
      · subst hcc; exact ⟨_, hc'⟩
      · obtain ⟨w2, z2⟩ := I.cell y c' e
        exact ⟨w2, z2.sameBut hs hcc⟩
    · obtain ⟨e, n, ne, nf, d⟩ := I.pin p hp
      refine ⟨(hs.2 p.1 ?_).trans e, n, ne, nf, d⟩
      intro q
      rw [q, hoc] at e
      have q' : oc = p.2 := Option.some.inj e
      exact d w' (by rw [<- q']; exact hocd)
theorem store_ok {M : Model} {A : Around} {E : Value -> Shared -> Prop} {i : Nat} {x : Str} {v : V} {u : Value} {Q : Unit -> Shared -> Prop} (I : Inv X pins σ H s) (hN : X.N.Nodup) (hi : X.N[i]? = some x) (hx : Loc X.env.scope x) (r : RelV v u)
    (h : ∀ s', Inv X pins (σ.set i (some v)) H s' -> Q () s') (hf : X.fn x = true \/ X.env.scope.names.lookup x = some .local := by first | exact .inl rfl | exact .inr rfl | assumption) : wpAny M A (storeName X.env x u) Q E s :=
  store_ok2 I hN hi hx r (fun s' I' _ => h s' I') hf
theorem Inv.call' {s' : Shared} {ch : List Addr} (I : Inv X pins σ H s) (ho : s'.os = s.os) (u : Un (frs X.stack) ch H H' s.heap s'.heap) (hok : HOk X.prog X.w H' s'.heap) (hg : AllBare s'.gens)
    (hch : ∀ b ∈ ch, (b ∈ X.ex \/ X.s₀.heap.objs.size <= b) /\ b ≠ X.env.locals /\ (∀ x c, X.env.cells.lookup x = some c -> c ≠ b) /\ ∀ p ∈ X.pn ++ pins, p.1 ≠ b) : Inv X pins σ H' s' := by
  obtain ⟨h', g', d', t', o'⟩ := s'
  have e : o' = s.os := ho
  subst e
  exact I.call (g' := g') (t' := t') (d' := d') u hok hg hch
end
noncomputable abbrev XK := Value -> Option Addr -> Hp -> Prop
noncomputable abbrev St := List (Option V)
noncomputable abbrev VK := V -> Hp -> Prop
noncomputable abbrev TE := St -> Hp -> VK -> Prop
noncomputable abbrev TT := St -> Hp -> (Bool -> Hp -> Prop) -> Prop
noncomputable abbrev TA := St -> Hp -> (List V -> Hp -> Prop) -> Prop
structure Ends where
  nx : St -> Hp -> Prop
  rt : VK
  bk : St -> Hp -> Prop := fun _ _ => False
  ct : St -> Hp -> Prop := fun _ _ => False
noncomputable abbrev TS := Ends -> St -> Hp -> Prop
noncomputable def EP (X : Cx) (pins : List (Addr × Obj)) (σ : St) (Q : VK) (u : Value) (s' : Shared) : Prop := ∃ v H', Inv X pins σ H' s' /\ RelV v u /\ Q v H'
noncomputable def TP (X : Cx) (pins : List (Addr × Obj)) (σ : St) (Q : Bool -> Hp -> Prop) (b : Bool) (s' : Shared) : Prop := ∃ H', Inv X pins σ H' s' /\ Q b H'
noncomputable def AP (X : Cx) (pins : List (Addr × Obj)) (σ : St) (Q : List V -> Hp -> Prop) (us : List Value) (s' : Shared) : Prop := ∃ vs H', Inv X pins σ H' s' /\ Vals vs us /\ Q vs H'
noncomputable def SP (X : Cx) (pins : List (Addr × Obj)) (D : Ends) (f : Flow) (s' : Shared) : Prop :=
  match f with
  | .next => ∃ σ' H', Inv X pins σ' H' s' /\ D.nx σ' H'
  | .brk => ∃ σ' H', Inv X pins σ' H' s' /\ D.bk σ' H'
  | .cont => ∃ σ' H', Inv X pins σ' H' s' /\ D.ct σ' H'
  | .ret u => ∃ v σ' H', Inv X pins σ' H' s' /\ RelV v u /\ D.rt v H'
noncomputable def PE (X : Cx) (e : Expr) (t : TE) : Prop :=
  ∀ (pins : List (Addr × Obj)) (s : Shared) (σ : St) (H : Hp) (Q : VK), Inv X pins σ H s -> t σ H Q -> wpAny (model X.prog X.w) X.A (eval e X.env) (EP X pins σ Q) X.xe s
noncomputable def PT (X : Cx) (e : Expr) (t : TT) : Prop :=
  ∀ (pins : List (Addr × Obj)) (s : Shared) (σ : St) (H : Hp) (Q : Bool -> Hp -> Prop), Inv X pins σ H s -> t σ H Q -> wpAny (model X.prog X.w) X.A (isTrue e X.env (eval e X.env)) (TP X pins σ Q) X.xe s
noncomputable def PW (X : Cx) (e : Expr) (t : TT) : Prop :=
  ∀ (whole : Sem Value) (pins : List (Addr × Obj)) (s : Shared) (σ : St) (H : Hp) (Q : Bool -> Hp -> Prop), Inv X pins σ H s -> t σ H Q -> wpAny (model X.prog X.w) X.A (isTrue e X.env whole) (TP X pins σ Q) X.xe s
theorem PW.pt {X : Cx} {e : Expr} {t : TT} (h : PW X e t) : PT X e t := h _
noncomputable def PA (X : Cx) (es : List Expr) (t : TA) : Prop :=
  ∀ (pos : Pos) (pins : List (Addr × Obj)) (s : Shared) (σ : St) (H : Hp) (Q : List V -> Hp -> Prop), Inv X pins σ H s -> t σ H Q -> wpAny (model X.prog X.w) X.A (spliced (backTo pos (starEach es X.env))) (AP X pins σ Q) X.xe s
noncomputable def PS (X : Cx) (st : Stmt) (t : TS) : Prop :=
  ∀ (pins : List (Addr × Obj)) (s : Shared) (σ : St) (H : Hp) (D : Ends), Inv X pins σ H s -> t D σ H -> wpAny (model X.prog X.w) X.A (exec st X.env) (SP X pins D) X.xe s
noncomputable def PSs (X : Cx) (st : List Stmt) (t : TS) : Prop :=
  ∀ (pins : List (Addr × Obj)) (s : Shared) (σ : St) (H : Hp) (D : Ends), Inv X pins σ H s -> t D σ H -> wpAny (model X.prog X.w) X.A (execs st X.env) (SP X pins D) X.xe s
theorem thn {α : Type} {t : Sem α} {Q Q' : α -> Shared -> Prop} {M : Model} {A : Around} {E : Value -> Shared -> Prop} {s : Shared} (h : wpAny M A t Q E s) (hQ : ∀ a s, Q a s -> Q' a s) : wpAny M A t Q' E s := wpAny_mono h hQ fun _ _ x => x
end L2
namespace L2
open PySem PySem.Spec PyProof.Rows
section
variable {X : Cx}
theorem bin {a b : Expr} {ta tb : TE} (ha : PE X a ta) (hb : PE X b tb) {pins : List (Addr × Obj)} {s : Shared} {σ : St} {H : Hp} {R : V -> V -> Hp -> Prop} (I : Inv X pins σ H s) (h : ta σ H fun x H1 => tb σ H1 fun y H2 => R x y H2)
    {α : Type} {Q : α -> Shared -> Prop} {f : Value -> Value -> Sem α}
    (hf : ∀ v u s2 x y H2, Inv X pins σ H2 s2 -> RelV x v -> RelV y u -> R x y H2 -> wpAny (model X.prog X.w) X.A (f v u) Q X.xe s2) :
    wpAny (model X.prog X.w) X.A (eval a X.env) (fun v s₁ => wpAny (model X.prog X.w) X.A (eval b X.env) (fun u s₂ => wpAny (model X.prog X.w) X.A (f v u) Q X.xe s₂) X.xe s₁) X.xe s := by
  refine thn (ha pins s σ H _ I h) fun v s1 ⟨x, H1, I1, r1, q1⟩ => ?_
  refine thn (hb pins s1 σ H1 _ I1 q1) fun u s2 ⟨y, H2, I2, r2, q2⟩ => ?_
  exact hf v u s2 x y H2 I2 r1 r2 q2
noncomputable def tVar (i : Nat) : TE := fun σ H Q => ∃ v, σ[i]? = some (some v) /\ Q v H
noncomputable def tC (v : V) : TE := fun _ H Q => Q v H
theorem pe_var {i : Nat} {x : Str} {pos : Pos} (hN : X.N[i]? = some x) (hv : Vis X.env.scope x) (hd : (x == ("__debug__" : Str)) = false := by decide) (hcd : (x == ("__classdict__" : Str)) = false := by decide) : PE X (.Name x pos) (tVar i) := by
  intro pins s σ H Q I h
  obtain ⟨v, e, h⟩ := h
  obtain ⟨m, hn, hl⟩ := I.loc
  obtain ⟨u, r, l⟩ := hl i x v hN e hv
  have fin : EP X pins σ Q u s := ⟨v, H, I, r, h⟩
  rcases l with ⟨hk, hm⟩ | ⟨hk, c, hc, hcell⟩
  · exact wpAny_Name (wpAny_loadName_local I.ok.kind hk hn hm fin) hd
  · rcases hk with hk | hk
    · exact wpAny_Name (wpAny_loadName_cell I.ok.kind hk hc hcell fin) hd
    · exact wpAny_Name (wpAny_loadName_free I.ok.kind hk hc hcell fin hcd) hd
theorem pe_int {i j pos} : PE X (.Constant (.int i) j pos) (tC (.int i)) := fun _ _ _ H _ I h => wpAny_Constant_int ⟨.int i, H, I.tok _, ⟨_, rfl⟩, h⟩
theorem pe_bl {b j pos} : PE X (.Constant (.bool b) j pos) (tC (.bl b)) := fun _ _ _ H _ I h => Constant_bool ⟨.bl b, H, I, rfl, h⟩
theorem pe_non {j pos} : PE X (.Constant .none j pos) (tC .non) := fun _ _ _ H _ I h => Constant_none ⟨.non, H, I, rfl, h⟩
theorem pe_str {x j pos} : PE X (.Constant (.str x) j pos) (tC (.str x)) := fun _ _ _ H _ I h => Calls.Constant_str ⟨.str x, H, I.tok _, ⟨_, rfl⟩, h⟩
noncomputable def Gl (X : Cx) (x : Str) : Prop := X.env.kindOf x = some .globalImplicit
theorem ld_glob {E : Value -> Shared -> Prop} {pins : List (Addr × Obj)} {s : Shared} {σ : St} {H : Hp} {x : Str} {u : Value} {pos : Pos} {Q : Value -> Shared -> Prop} (I : Inv X pins σ H s) (hg : Gl X x) (hm : X.mg x = some u) (h : Q u s)
    (hd : (x == ("__debug__" : Str)) = false := by decide) : wpAny (model X.prog X.w) X.A (eval (.Name x pos) X.env) Q E s :=
  Calls.Name_function_global I.ok.kind hg (Calls.loadGlobal_global (by rw [I.ok.glob]; exact I.mod.glob.keeps I.bk) hm h) hd
theorem ld_blt {E : Value -> Shared -> Prop} {pins : List (Addr × Obj)} {s : Shared} {σ : St} {H : Hp} {x : Str} {u : Value} {pos : Pos} {Q : Value -> Shared -> Prop} (I : Inv X pins σ H s) (hg : Gl X x) (hm : X.mg x = none) (hv : bootBuiltins x = some u) (h : Q u s)
    (hn : x ≠ "__name__" := by decide) (hd : (x == ("__debug__" : Str)) = false := by decide) : wpAny (model X.prog X.w) X.A (eval (.Name x pos) X.env) Q E s := by
  obtain ⟨mb, h1, h2⟩ := I.mod.blt
  exact Calls.Name_function_global I.ok.kind hg (Calls.loadGlobal_builtin (by rw [I.ok.glob]; exact I.mod.glob.keeps I.bk) hm (by rw [I.ok.blt]; exact h1.keeps I.bk) ((h2 x hn).trans hv) h) hd
theorem pe_glob {x : Str} {v : V} {u : Value} {pos : Pos} (hg : Gl X x) (hm : X.mg x = some u) (r : RelV v u) (hd : (x == ("__debug__" : Str)) = false := by decide) : PE X (.Name x pos) (tC v) :=
  fun _ _ _ H _ I h => ld_glob I hg hm ⟨v, H, I, r, h⟩ hd
variable {a b : Expr} {ta tb : TE} {pos : Pos}
noncomputable def tB (t : TE) : TT := fun σ H Q => t σ H fun x H1 => ∃ c, x = .bl c /\ Q c H1
theorem pt_val {e : Expr} {t : TE} (h : PE X e t) (he : ∀ whole, isTrue e X.env whole = (do let v <- whole; standAt e.pos; holding [v] (truthy v)) := by intro _; rfl) : PT X e (tB t) := by
  intro pins s σ H Q I hw
  refine isTrue_plain (thn (h pins s σ H _ I hw) fun v s1 ⟨x, H1, I1, r1, q1⟩ => ?_) (he _)
  obtain ⟨d, rfl, q⟩ := q1
  cases r1
  exact wpAny_truthy_bool ⟨H1, I1, q⟩
variable {tA tB' : TT} {rest : List Expr}
noncomputable def tAnd (t u : TT) : TT := fun σ H Q => t σ H fun c H1 => if c = true then u σ H1 Q else Q false H1
noncomputable def tOr (t u : TT) : TT := fun σ H Q => t σ H fun c H1 => if c = true then Q true H1 else u σ H1 Q
noncomputable def tNot (t : TT) : TT := fun σ H Q => t σ H fun c H1 => Q (!c) H1
theorem pw_and1 (ha : PT X a tA) : PW X (.BoolOp .And [a] pos) tA := by
  intro wh pins s σ H Q I h
  refine isTrue_and (thn (ha pins s σ H Q I h) fun c s1 e => ?_)
  cases c with
  | true => exact isTrue_and_nil e
  | false => exact e
theorem pw_or1 (ha : PT X a tA) : PW X (.BoolOp .Or [a] pos) tA := by
  intro wh pins s σ H Q I h
  refine isTrue_or (thn (ha pins s σ H Q I h) fun c s1 e => ?_)
  cases c with
  | false => exact isTrue_or_nil e
  | true => exact e
theorem pw_and (ha : PT X a tA) (hb : PW X (.BoolOp .And (b :: rest) pos) tB') : PW X (.BoolOp .And (a :: b :: rest) pos) (tAnd tA tB') := by
  intro wh pins s σ H Q I h
  refine isTrue_and (thn (ha pins s σ H _ I h) fun c s1 ⟨H1, I1, q1⟩ => ?_)
  cases c with
  | true => exact hb wh pins s1 σ H1 Q I1 q1
  | false => exact ⟨H1, I1, q1⟩
theorem pw_or (ha : PT X a tA) (hb : PW X (.BoolOp .Or (b :: rest) pos) tB') : PW X (.BoolOp .Or (a :: b :: rest) pos) (tOr tA tB') := by
  intro wh pins s σ H Q I h
  refine isTrue_or (thn (ha pins s σ H _ I h) fun c s1 ⟨H1, I1, q1⟩ => ?_)
  cases c with
  | true => exact ⟨H1, I1, q1⟩
  | false => exact hb wh pins s1 σ H1 Q I1 q1
theorem pt_not (ha : PT X a tA) : PT X (.UnaryOp .Not a pos) (tNot tA) := by
  intro pins s σ H Q I h
  exact isTrue_not (ha pins s σ H (fun c H1 => Q (!c) H1) I h)
noncomputable def tAndV (ta tb : TE) : TE := fun σ H Q => ta σ H fun x H1 => ∃ c, x = .bl c /\ if c = true then tb σ H1 Q else Q (.bl false) H1
noncomputable def tOrV (ta tb : TE) : TE := fun σ H Q => ta σ H fun x H1 => ∃ c, x = .bl c /\ if c = true then Q (.bl true) H1 else tb σ H1 Q
noncomputable def tNotV (ta : TE) : TE := fun σ H Q => ta σ H fun x H1 => ∃ c, x = .bl c /\ Q (.bl (!c)) H1
theorem pe_one {op} {t : TE} (h : PE X a t) : PE X (.BoolOp op [a] pos) t := fun pins s σ H Q I hw => BoolOp_one (h pins s σ H Q I hw)
theorem pe_and (ha : PE X a ta) (hb : PE X (.BoolOp .And (b :: rest) pos) tb) : PE X (.BoolOp .And (a :: b :: rest) pos) (tAndV ta tb) := by
  intro pins s σ H Q I h
  refine BoolOp_and (thn (ha pins s σ H _ I h) fun v s1 ⟨x, H1, I1, r1, q1⟩ => ?_)
  obtain ⟨c, rfl, q1⟩ := q1
  cases r1
  refine wpAny_truthy_bool ?_
  cases c with
  | true => exact hb pins s1 σ H1 Q I1 q1
  | false => exact ⟨.bl false, H1, I1, rfl, q1⟩
theorem pe_or (ha : PE X a ta) (hb : PE X (.BoolOp .Or (b :: rest) pos) tb) : PE X (.BoolOp .Or (a :: b :: rest) pos) (tOrV ta tb) := by
  intro pins s σ H Q I h
  refine BoolOp_or (thn (ha pins s σ H _ I h) fun v s1 ⟨x, H1, I1, r1, q1⟩ => ?_)
  obtain ⟨c, rfl, q1⟩ := q1
  cases r1
  refine wpAny_truthy_bool ?_
  cases c with
  | false => exact hb pins s1 σ H1 Q I1 q1
  | true => exact ⟨.bl true, H1, I1, rfl, q1⟩
theorem pe_not (ha : PE X a ta) : PE X (.UnaryOp .Not a pos) (tNotV ta) := by
  intro pins s σ H Q I h
  refine UnaryOp_ (thn (ha pins s σ H _ I h) fun v s1 ⟨x, H1, I1, r1, q1⟩ => ?_)
  obtain ⟨c, rfl, q1⟩ := q1
  cases r1
  exact not_of (wpAny_truthy_bool ⟨.bl (!c), H1, I1, rfl, q1⟩)
noncomputable def tIf (t : TT) (ta tb : TE) : TE := fun σ H Q => t σ H fun c H1 => if c = true then ta σ H1 Q else tb σ H1 Q
theorem pe_ifExp {c : Expr} (hc : PT X c tA) (ha : PE X a ta) (hb : PE X b tb) : PE X (.IfExp c a b pos) (tIf tA ta tb) := by
  intro pins s σ H Q I h
  refine wpAny_IfExp (thn (hc pins s σ H _ I h) fun d s1 ⟨H1, I1, q1⟩ => ?_)
  cases d with
  | true => exact ha pins s1 σ H1 Q I1 q1
  | false => exact hb pins s1 σ H1 Q I1 q1
end
end L2
namespace L2
open PySem PySem.Spec PyProof.Rows
noncomputable def SqL (K : PySem.W.Frag) (H : Hp) (a : Addr) (xs : List V) : Prop :=
  Rd H a (.lst xs) \/
    ∃ (o : Obj) (its : Array Value) (n : Nat), K.lookup a = some o /\ o.cls = .type "list" /\ o.dict = none /\ o.data = .seq its n /\ its.size <= sizeLine /\ Vals xs its.toList
noncomputable def SqT (K : PySem.W.Frag) (H : Hp) (a : Addr) (xs : List V) : Prop :=
  Rd H a (.tup xs) \/
    ∃ (o : Obj) (its : Array Value) (n : Nat), K.lookup a = some o /\ o.cls = .type "tuple" /\ o.data = .seq its n /\ its.size <= sizeLine /\ Vals xs its.toList
noncomputable def absV : Value -> Option V
  | .none => some .non
  | .bool b => some (.bl b)
  | .int i _ => some (.int i)
  | .str x _ => some (.str x)
  | .bytes b _ => some (.byt b)
  | .float b _ => some (.flt b)
  | .ref a => some (.ref a)
  | .type n => some (.ty n)
  | _ => none
theorem RelV.abs {x : V} {u : Value} (r : RelV x u) : absV u = some x := by
  cases x with
  | non => cases r; rfl
  | bl _ => cases r; rfl
  | int _ => obtain ⟨t, rfl⟩ := r; rfl
  | str _ => obtain ⟨t, rfl⟩ := r; rfl
  | byt _ => obtain ⟨t, rfl⟩ := r; rfl
  | flt _ => obtain ⟨t, rfl⟩ := r; rfl
  | ref _ => cases r; rfl
  | ty _ => cases r; rfl
theorem RelV.inj {x y : V} {u : Value} (r : RelV x u) (q : RelV y u) : x = y := Option.some.inj (r.abs.symm.trans q.abs)
theorem Vals.inj : ∀ {xs ys : List V} {us : List Value}, Vals xs us -> Vals ys us -> xs = ys
  | _, _, _, .nil, .nil => rfl
  | _, _, _, .cons r t, .cons r' t' => by rw [r.inj r', Vals.inj t t']
section
variable {X : Cx} {pins : List (Addr × Obj)} {σ : St} {H : Hp} {s : Shared} {a : Addr} {xs ys : List V}
theorem SqL.of {K : PySem.W.Frag} (h : H a = some (.lst xs)) : SqL K H a xs := .inl (.inl h)
theorem SqT.of {K : PySem.W.Frag} (h : H a = some (.tup xs)) : SqT K H a xs := .inl (.inl h)
theorem Inv.list (I : Inv X pins σ H s) (h : SqL X.K H a xs) : ∃ its : List Value, Vals xs its /\ PlainL s.heap a its.toArray /\ xs.length <= sizeLine := by
  rcases h with h | ⟨o, its, n, hk, hc, hd, hs, hz, r⟩
  · obtain ⟨z, its, n, r, e⟩ := h.ok I.hok
    exact ⟨its, r, ⟨_, n, e, rfl, rfl, rfl⟩, z⟩
  · refine ⟨its.toList, r, ⟨o, n, I.kIn a o hk, hc, hd, by simpa using hs⟩, ?_⟩
    have e := r.length
    simp only [Array.length_toList] at e
    omega
theorem Inv.tuple (I : Inv X pins σ H s) (h : SqT X.K H a xs) : ∃ its : List Value, Vals xs its /\ IsTup s.heap a its.toArray /\ xs.length <= sizeLine := by
  rcases h with h | ⟨o, its, n, hk, hc, hs, hz, r⟩
  · obtain ⟨z, its, r, p⟩ := h.ok I.hok
    exact ⟨its, r, p, z⟩
  · refine ⟨its.toList, r, ⟨o, I.kIn a o hk, hc, n, by simpa using hs⟩, ?_⟩
    have e := r.length
    simp only [Array.length_toList] at e
    omega
theorem Inv.list_inj (I : Inv X pins σ H s) (h : SqL X.K H a xs) (h' : SqL X.K H a ys) : xs = ys := by
  obtain ⟨its, r, ⟨o, n, e, _, _, d⟩, _⟩ := I.list h
  obtain ⟨its', r', ⟨o', n', e', _, _, d'⟩, _⟩ := I.list h'
  rw [e] at e'; cases e'
  rw [d] at d'
  injection d' with d1 _
  have : its = its' := by simpa using congrArg Array.toList d1
  subst this
  exact r.inj r'
theorem Inv.tuple_inj (I : Inv X pins σ H s) (h : SqT X.K H a xs) (h' : SqT X.K H a ys) : xs = ys := by
  obtain ⟨its, r, ⟨o, e, _, n, d⟩, _⟩ := I.tuple h
  obtain ⟨its', r', ⟨o', e', _, n', d'⟩, _⟩ := I.tuple h'
  rw [e] at e'; cases e'
  rw [d] at d'
  injection d' with d1 _
  have : its = its' := by simpa using congrArg Array.toList d1
  subst this
  exact r.inj r'
end
noncomputable abbrev Cx.wish (X : Cx) (E : Value -> Shared -> Prop) : Cx := { X with xe := E }
noncomputable abbrev Cx.nox (X : Cx) : Cx := X.wish fun _ _ => False
theorem Cx.Ok.wish {X : Cx} (ok : X.Ok) (E : Value -> Shared -> Prop) : (X.wish E).Ok :=
  ⟨ok.mod, ok.kind, ok.glob, ok.blt, ok.above, ok.inj, ok.has, ok.cab, ok.hd, ok.frames, ok.stk, ok.exf, ok.bs, ok.bsz, ok.noex, ok.exfs, ok.funs, ok.frf⟩
theorem Cx.Ok.unwish {X : Cx} {E : Value -> Shared -> Prop} (ok : (X.wish E).Ok) : X.Ok :=
  ⟨ok.mod, ok.kind, ok.glob, ok.blt, ok.above, ok.inj, ok.has, ok.cab, ok.hd, ok.frames, ok.stk, ok.exf, ok.bs, ok.bsz, ok.noex, ok.exfs, ok.funs, ok.frf⟩
section
variable {X : Cx} {pins : List (Addr × Obj)} {σ : St} {H : Hp} {s : Shared} {E : Value -> Shared -> Prop}
theorem Inv.wish (I : Inv X pins σ H s) (E : Value -> Shared -> Prop) : Inv (X.wish E) pins σ H s := ⟨I.ok.wish E, I.os, I.bare, I.base, I.loc, I.cell, I.free, I.freeC, I.pin, I.hok, I.len⟩
theorem Inv.unwish (I : Inv (X.wish E) pins σ H s) : Inv X pins σ H s := ⟨I.ok.unwish, I.os, I.bare, I.base, I.loc, I.cell, I.free, I.freeC, I.pin, I.hok, I.len⟩
theorem SP.unwish {D : Ends} {f : Flow} {s' : Shared} (h : SP (X.wish E) pins D f s') : SP X pins D f s' := by
  cases f with
  | next => obtain ⟨σ', H', I, q⟩ := h; exact ⟨σ', H', I.unwish, q⟩
  | brk => obtain ⟨σ', H', I, q⟩ := h; exact ⟨σ', H', I.unwish, q⟩
  | cont => obtain ⟨σ', H', I, q⟩ := h; exact ⟨σ', H', I.unwish, q⟩
  | ret u => obtain ⟨v, σ', H', I, r, q⟩ := h; exact ⟨v, σ', H', I.unwish, r, q⟩
theorem PE.nox {e : Expr} {t : TE} (h : PE X.nox e t) : PE X e t := fun pins s σ H Q I hw =>
  wpAny_mono (h pins s σ H Q (I.wish _) hw) (fun _ _ ⟨v, H', I', r, q⟩ => ⟨v, H', I'.unwish, r, q⟩) fun _ _ z => False.elim z
theorem PT.nox {e : Expr} {t : TT} (h : PT X.nox e t) : PT X e t := fun pins s σ H Q I hw =>
  wpAny_mono (h pins s σ H Q (I.wish _) hw) (fun _ _ ⟨H', I', q⟩ => ⟨H', I'.unwish, q⟩) fun _ _ z => False.elim z
theorem PSs.nox {st : List Stmt} {t : TS} (h : PSs X.nox st t) : PSs X st t := fun pins s σ H D I hw =>
  wpAny_mono (h pins s σ H D (I.wish _) hw) (fun _ _ q => q.unwish) fun _ _ z => False.elim z
end
section
variable {X : Cx} {st : Stmt} {rest : List Stmt} {t u : TS} {e : Expr} {te : TE} {pos : Pos}
noncomputable def tNext : TS := fun D σ H => D.nx σ H
noncomputable def tSeq (t u : TS) : TS := fun D σ H => t { D with nx := u D } σ H
theorem pss_nil : PSs X [] tNext := fun _ _ σ H _ I h => wpAny_execs_nil ⟨σ, H, I, h⟩
theorem pss_cons (h1 : PS X st t) (h2 : PSs X rest u) : PSs X (st :: rest) (tSeq t u) := by
  intro pins s σ H D I h
  refine wpAny_execs_cons (thn (h1 pins s σ H { D with nx := u D } I h) fun f s1 q => ?_)
  cases f with
  | next =>
    obtain ⟨σ', H', I', q⟩ := q
    exact h2 pins s1 σ' H' D I' q
  | ret v => exact q
  | brk => exact q
  | cont => exact q
noncomputable def tBreak : TS := fun D σ H => D.bk σ H
noncomputable def tCont : TS := fun D σ H => D.ct σ H
theorem ps_pass : PS X (.Pass pos) tNext := fun _ _ σ H _ I h => wpAny_Pass ⟨σ, H, I, h⟩
theorem ps_break : PS X (.Break pos) tBreak := fun _ _ σ H _ I h => wpAny_Break ⟨σ, H, I, h⟩
theorem ps_continue : PS X (.Continue pos) tCont := fun _ _ σ H _ I h => wpAny_Continue ⟨σ, H, I, h⟩
theorem Inv.quiet {pins : List (Addr × Obj)} {σ : St} {H : Hp} {s : Shared} (I : Inv X pins σ H s) : interactive X.env = false := by simp [interactive, I.ok.kind]
noncomputable def tDrop (te : TE) : TS := fun D σ H => te σ H fun _ H1 => D.nx σ H1
theorem ps_expr (he : PE X e te) (hs : swapsWith e none pos.line X.env = pure false := by rfl) : PS X (.Expr e pos) (tDrop te) := by
  intro pins s σ H D I h
  exact wpAny_Expr_any (thn (he pins s σ H _ I h) fun v s1 ⟨x, H1, I1, r1, q1⟩ => ⟨σ, H1, I1, q1⟩) I.quiet hs
noncomputable def tRet (te : TE) : TS := fun D σ H => te σ H D.rt
theorem ps_ret (he : PE X e te) : PS X (.Return (some e) pos) (tRet te) := by
  intro pins s σ H D I h
  exact wpAny_Return_some (thn (he pins s σ H _ I h) fun v s1 ⟨x, H1, I1, r1, q1⟩ => ⟨x, σ, H1, I1, r1, q1⟩)
noncomputable def tIfS (c : TT) (t u : TS) : TS := fun D σ H => c σ H fun b H1 => if b = true then t D σ H1 else u D σ H1
theorem ps_if {c : Expr} {a b : List Stmt} {tc : TT} (hc : PT X c tc) (ha : PSs X a t) (hb : PSs X b u) : PS X (.If c a b pos) (tIfS tc t u) := by
  intro pins s σ H D I h
  refine wpAny_If (thn (hc pins s σ H _ I h) fun d s1 ⟨H1, I1, q1⟩ => ?_)
  cases d with
  | true => exact ha pins s1 σ H1 D I1 q1
  | false => exact hb pins s1 σ H1 D I1 q1
end
noncomputable abbrev TG := V -> St -> Hp -> (St -> Hp -> Prop) -> Prop
noncomputable abbrev TGs := List V -> St -> Hp -> (St -> Hp -> Prop) -> Prop
noncomputable def PG (X : Cx) (target : Expr) (t : TG) : Prop :=
  ∀ (pins : List (Addr × Obj)) (s : Shared) (σ : St) (H : Hp) (v : V) (u : Value) (Q : St -> Hp -> Prop), Inv X pins σ H s -> RelV v u -> t v σ H Q ->
    wpAny (model X.prog X.w) X.A (assign target X.env u) (fun _ s' => ∃ σ' H', Inv X pins σ' H' s' /\ Q σ' H') X.xe s
noncomputable def PGs (X : Cx) (ts : List Expr) (t : TGs) : Prop :=
  ∀ (pins : List (Addr × Obj)) (s : Shared) (σ : St) (H : Hp) (vs : List V) (us : List Value) (Q : St -> Hp -> Prop), Inv X pins σ H s -> Vals vs us -> t vs σ H Q ->
    wpAny (model X.prog X.w) X.A (assignInOrder ((assignEach ts X.env).map (·.2)) us) (fun _ s' => ∃ σ' H', Inv X pins σ' H' s' /\ Q σ' H') X.xe s
noncomputable abbrev TSet := V -> V -> V -> Hp -> (Hp -> Prop) -> Prop
noncomputable def PSet (X : Cx) (t : TSet) : Prop :=
  ∀ (pins : List (Addr × Obj)) (s : Shared) (σ : St) (H : Hp) (o i v : V) (ov iv u : Value) (Q : Hp -> Prop), Inv X pins σ H s -> RelV o ov -> RelV i iv -> RelV v u -> t o i v H Q ->
    wpAny (model X.prog X.w) X.A (setItem ov iv u) (fun _ s' => ∃ H', Inv X pins σ H' s' /\ Q H') X.xe s
section
variable {X : Cx} {pos : Pos}
noncomputable def gName (i : Nat) : TG := fun v σ H Q => Q (σ.set i (some v)) H
theorem pg_name {i : Nat} {x : Str} (hN : X.N.Nodup) (hi : X.N[i]? = some x) (hx : Loc X.env.scope x) (hf : X.fn x = true \/ X.env.scope.names.lookup x = some .local := by first | exact .inl rfl | exact .inr rfl | assumption) : PG X (.Name x pos) (gName i) := by
  intro pins s σ H v u Q I r h
  exact wpAny_assign_Name (store_ok I hN hi hx r (fun s' I' => ⟨_, H, I', h⟩) hf)
noncomputable def gNil : TGs := fun vs σ H Q => vs = [] /\ Q σ H
noncomputable def gCons (t : TG) (u : TGs) : TGs := fun vs σ H Q => ∃ v r, vs = v :: r /\ t v σ H fun σ' H' => u r σ' H' Q
theorem pgs_nil : PGs X [] gNil := by
  intro pins s σ H vs us Q I r h
  obtain ⟨e, h⟩ := h
  subst e
  cases r
  exact assignInOrder_nil ⟨σ, H, I, h⟩
theorem pgs_cons {e : Expr} {es : List Expr} {t : TG} {u : TGs} (h1 : PG X e t) (h2 : PGs X es u)
    (hs : (assignEach (e :: es) X.env).map (·.2) = assign e X.env :: (assignEach es X.env).map (·.2) := by rfl) : PGs X (e :: es) (gCons t u) := by
  intro pins s σ H vs us Q I r h
  obtain ⟨v, vr, e1, h⟩ := h
  subst e1
  cases r with
  | cons r rr =>
    rw [hs]
    refine assignInOrder_cons (thn (h1 pins s σ H _ _ _ I r h) fun _ s1 ⟨σ1, H1, I1, q1⟩ => ?_)
    exact h2 pins s1 σ1 H1 _ _ Q I1 rr q1
noncomputable def gTup (K : PySem.W.Frag) (n : Nat) (t : TGs) : TG := fun v σ H Q => ∃ a xs, v = .ref a /\ SqT K H a xs /\ xs.length = n /\ t xs σ H Q
theorem pg_tup {es : List Expr} {k : Nat} {t : TGs} {n : Nat} (hc : X.calm = true) (h : PGs X es t)
    (hn : (assignEach es X.env).length = n := by rfl) (hst : (assignEach es X.env).findIdx? (·.1) = none := by rfl) : PG X (.Tuple es k pos) (gTup X.K n t) := by
  intro pins s σ H v u Q I r hw
  obtain ⟨a, xs, e1, hq, hl, hw⟩ := hw
  subst e1
  cases r
  obtain ⟨its, rv, ht, hz⟩ := I.tuple hq
  refine assign_Tuple_tuple (I.ok.hd hc) ht (by simp [hn, <- hl, rv.length]) hst fun h' hx => ?_
  have I1 : Inv X pins σ H { s with heap := h' } := I.kept (t' := s.toks) fun b o e => hx b o (Nat.ne_of_lt (Heap.lt_size e)) e
  exact h pins _ σ H xs _ Q I1 (by simpa using rv) hw
noncomputable def gSub (to ti : TE) (t : TSet) : TG := fun v σ H Q => to σ H fun o H1 => ti σ H1 fun i H2 => t o i v H2 fun H3 => Q σ H3
theorem pg_sub {o i : Expr} {to ti : TE} {t : TSet} (ho : PE X o to) (hi : PE X i ti) (hs : PSet X t)
    (ha : ∀ v, assign (.Subscript o i pos) X.env v = (do
      let ov <- holding [v] (eval o X.env)
      let iv <- holding [v, ov] (eval i X.env)
      standAt pos
      holding [v, ov, iv] (setItem ov iv v)
      release [v, ov, iv] []) := by intro _; rfl) : PG X (.Subscript o i pos) (gSub to ti t) := by
  intro pins s σ H v u Q I r h
  rw [ha]
  refine wpAny_bind (wpAny_holding (thn (ho pins s σ H _ I h) fun ov s1 ⟨x, H1, I1, r1, q1⟩ => ?_))
  refine wpAny_bind (wpAny_holding (thn (hi pins s1 σ H1 _ I1 q1) fun iv s2 ⟨y, H2, I2, r2, q2⟩ => ?_))
  refine wpAny_bind (wpAny_standAt (wpAny_bind (wpAny_holding (thn (hs pins s2 σ H2 x y v ov iv u _ I2 r1 r2 r q2) fun _ s3 ⟨H3, I3, q3⟩ => ?_))))
  exact wpAny_release ⟨σ, H3, I3, q3⟩
noncomputable def tAsg (te : TE) (g : TG) : TS := fun D σ H => te σ H fun x H1 => g x σ H1 D.nx
theorem ps_asg {tg e : Expr} {te : TE} {g : TG} (he : PE X e te) (hg : PG X tg g) (hs : swapsWithSole [tg] e pos.line X.env = pure false := by rfl) (hw : swappedStores [tg] e X.env = pure none := by rfl)
    (h1 : (assignEach [tg] X.env).map (·.2) = [assign tg X.env] := by rfl) : PS X (.Assign [tg] e pos) (tAsg te g) := by
  intro pins s σ H D I h
  refine wpAny_Assign_stores (thn (he pins s σ H _ I h) fun v s1 ⟨x, H1, I1, r1, q1⟩ => ?_) hs hw
  rw [h1]
  exact thn (hg pins s1 σ H1 x v _ I1 r1 q1) fun _ s2 q => q
theorem ps_set {i : Nat} {x : Str} {e : Expr} {te : TE} {pos' : Pos} (hN : X.N.Nodup) (hi : X.N[i]? = some x) (hx : Loc X.env.scope x) (he : PE X e te) (hs : swapsWith e (some (.Name x pos')) pos.line X.env = pure false := by rfl) (hf : X.fn x = true \/ X.env.scope.names.lookup x = some .local := by first | exact .inl rfl | exact .inr rfl | assumption) :
    PS X (.Assign [.Name x pos'] e pos) (tAsg te (gName i)) := by
  intro pins s σ H D I h
  refine wpAny_Assign_Name (thn (he pins s σ H _ I h) fun v s1 ⟨y, H1, I1, r1, q1⟩ => ?_) hs
  exact store_ok I1 hN hi hx r1 (fun s2 I2 => ⟨_, H1, I2, q1⟩) hf
end
section
variable {X : Cx} {pos : Pos}
noncomputable def tWhile (c : TT) (tb : TS) : TS := fun D σ H => ∃ W : Nat -> St -> Hp -> Prop, (∃ m, W m σ H) /\ ∀ m σ H, W m σ H ->
  c σ H fun b H1 => if b = true then ∃ N : St -> Hp -> Prop, (∀ σ' H', N σ' H' -> ∃ m', m' < m /\ W m' σ' H') /\ tb { D with nx := N, ct := N, bk := D.nx } σ H1 else D.nx σ H1
theorem ps_while {c : Expr} {body : List Stmt} {tc : TT} {tb : TS} (hp : PassesOwn (model X.prog X.w) X.A X.env X.xe) (hc : PT X c tc) (hb : PSs X body tb) : PS X (.While c body [] pos) (tWhile tc tb) := by
  intro pins s σ H D I h
  obtain ⟨W, ⟨m0, w0⟩, turn⟩ := h
  refine wpAny_While (codeAny_whileLoop (fun n s' => ∃ σ' H', Inv X pins σ' H' s' /\ W n σ' H') ?_ m0 ⟨σ, H, I, w0⟩)
  rintro n s1 ⟨σ1, H1, I1, w1⟩
  refine wpAny_passesOwn hp (thn (hc pins s1 σ1 H1 _ I1 (turn n σ1 H1 w1)) fun b s2 ⟨H2, I2, q2⟩ => ?_)
  cases b with
  | true =>
    obtain ⟨N, hN, q2⟩ := q2
    rw [if_pos rfl]
    refine wpAny_passesOwn hp (thn (hb pins s2 σ1 H2 _ I2 q2) fun f s3 q3 => ?_)
    cases f with
    | next =>
      obtain ⟨σ3, H3, I3, n3⟩ := q3
      obtain ⟨m', hm, w3⟩ := hN σ3 H3 n3
      exact ⟨m', hm, σ3, H3, I3, w3⟩
    | cont =>
      obtain ⟨σ3, H3, I3, n3⟩ := q3
      obtain ⟨m', hm, w3⟩ := hN σ3 H3 n3
      exact ⟨m', hm, σ3, H3, I3, w3⟩
    | brk => exact q3
    | ret v => exact q3
  | false =>
    rw [if_neg Bool.false_ne_true]
    exact wpAny_execs_nil ⟨σ1, H2, I2, q2⟩
end
structure It where
  go : Nat -> Hp -> Prop
  yld : Nat -> Hp -> V -> Hp -> Prop
  stop : Nat -> Hp -> Prop
noncomputable def FpOk (X : Cx) (pins : List (Addr × Obj)) (H : Hp) (b : Addr) : Prop :=
  H b = none /\ b ≠ X.env.locals /\ b ∉ X.fs /\ (b ∈ X.ex \/ X.s₀.heap.objs.size <= b) /\ (∀ x c, X.env.cells.lookup x = some c -> c ≠ b) /\ ∀ p ∈ X.pn ++ pins, p.1 ≠ b
theorem Inv.fpOk {X : Cx} {pins : List (Addr × Obj)} {σ : St} {H H' : Hp} {s : Shared} {b : Addr} (I : Inv X pins σ H s) (hb : s.heap.objs.size <= b) (hn : H' b = none) : FpOk X pins H' b := by
  refine ⟨hn, Nat.ne_of_gt (Nat.lt_of_lt_of_le I.lt hb), I.nofs hb, .inr (Nat.le_trans I.sz hb), fun x c e z => ?_, fun p hp z => ?_⟩
  · obtain ⟨v, q⟩ := I.cell x c e
    exact absurd (Nat.lt_of_lt_of_le q.lt (by rw [z]; exact hb)) (Nat.lt_irrefl _)
  · exact absurd (Nat.lt_of_lt_of_le (Heap.lt_size (I.pin p hp).1) (by rw [z]; exact hb)) (Nat.lt_irrefl _)
structure Turn (P : Program) (w : World) (K : PySem.W.Frag) (tg : Expr) (J : It) (fp : List Addr) (it : Addr) (tn : Nat -> Heap -> Prop) : Prop where
  mem : it ∈ fp
  obj : ∀ i h, tn i h -> ∀ b ∈ fp, ∃ o, h.get? b = some o /\ ∀ v, o.data ≠ .cell v
  keep : ∀ i h h', tn i h -> (∀ b ∈ fp, ∀ o, h.get? b = some o -> h'.get? b = some o) -> tn i h'
  item : ∀ (X : Cx), X.prog = P -> X.w = w -> X.K = K -> X.calm = true -> ∀ (i : Nat) (pins : List (Addr × Obj)) (s : Shared) (σ : St) (H : Hp) (E : Value -> Shared -> Prop), Inv X pins σ H s -> (∀ b ∈ fp, FpOk X pins H b) -> tn i s.heap -> J.go i H ->
    wpAny (model P w) X.A (pyNext (.ref it)) (fun r s1 => ∃ u, r = some u /\
      wpAny (model P w) X.A (letOwnedTupleGo tg (.ref it) u) (fun _ s2 => ∃ x H', Inv X pins σ H' s2 /\ RelV x u /\ J.yld i H x H' /\ tn (i + 1) s2.heap /\ ∀ b ∈ fp, H' b = none) E s1) E s
  done : ∀ (X : Cx), X.prog = P -> X.w = w -> X.K = K -> X.calm = true -> ∀ (i : Nat) (pins : List (Addr × Obj)) (s : Shared) (σ : St) (H : Hp) (E : Value -> Shared -> Prop), Inv X pins σ H s -> (∀ b ∈ fp, FpOk X pins H b) -> tn i s.heap -> J.stop i H ->
    wpAny (model P w) X.A (pyNext (.ref it)) (fun r s1 => r = none /\ Inv X pins σ H s1) E s
  self : ∀ (A : Around) (i : Nat) (s : Shared) (Q : Value -> Shared -> Prop) (E : Value -> Shared -> Prop), tn i s.heap -> Q (.ref it) s -> wpAny (model P w) A (pyIter (.ref it)) Q E s
noncomputable abbrev TI := St -> Hp -> (It -> Hp -> Prop) -> Prop
noncomputable def PIE (X : Cx) (pins : List (Addr × Obj)) (σ : St) (tg : Expr) (R : It -> Hp -> Prop) (itv : Value) (s2 : Shared) : Prop :=
  ∃ (it : Addr) (fp : List Addr) (tn : Nat -> Heap -> Prop) (J : It) (H' : Hp), itv = .ref it /\ Inv X pins σ H' s2 /\ Turn X.prog X.w X.K tg J fp it tn /\ tn 0 s2.heap /\ (∀ b ∈ fp, FpOk X pins H' b) /\ R J H'
noncomputable def PI (X : Cx) (tg iter : Expr) (wi : TI) : Prop :=
  ∀ (pins : List (Addr × Obj)) (s : Shared) (σ : St) (H : Hp) (R : It -> Hp -> Prop), Inv X pins σ H s -> wi σ H R ->
    wpAny (model X.prog X.w) X.A (eval iter X.env) (fun v s1 => wpAny (model X.prog X.w) X.A (pyIter v) (PIE X pins σ tg R) X.xe s1) X.xe s
theorem go_of {M : Model} {A : Around} {E : Value -> Shared -> Prop} {s : Shared} {tg : Expr} {it : Addr} {u : Value} {o : Obj} {n : String} {vs : Array Value} {Q : Unit -> Shared -> Prop} (ho : s.heap.get? it = some o) (hc : o.cls = .type n) (hd : o.data = .fields vs)
    (hn : ["enumerate", "zip", "dict_itemiterator", "dict_reverseitemiterator", "odict_iterator", "itertools.zip_longest", "itertools.pairwise"].contains n = false) (hQ : Q () s) : wpAny M A (letOwnedTupleGo tg (.ref it) u) Q E s := by
  unfold letOwnedTupleGo
  cases tg <;> first
    | exact wpAny_pure hQ
    | (cases u <;> first
        | exact wpAny_pure hQ
        | (refine wpAny_bind (wpAny_load ho ?_)
           rw [hc, hd]
           show wpAny M A (if (["enumerate", "zip", "dict_itemiterator", "dict_reverseitemiterator", "odict_iterator", "itertools.zip_longest", "itertools.pairwise"].contains n && vs[0]? == some (rawInt _)) = true then _ else _) Q E s
           rw [if_neg (by intro h; rw [hn, Bool.false_and] at h; cases h)]
           exact wpAny_pure hQ))
noncomputable def Itl (K : PySem.W.Frag) (a : Addr) : It :=
  ⟨fun i H => ∃ xs x, SqL K H a xs /\ xs[i]? = some x, fun i H x H' => H' = H /\ ∀ xs, SqL K H a xs -> xs[i]? = some x, fun i H => ∃ xs, SqL K H a xs /\ xs.length <= i⟩
noncomputable def Itt (K : PySem.W.Frag) (a : Addr) : It :=
  ⟨fun i H => ∃ xs x, SqT K H a xs /\ xs[i]? = some x, fun i H x H' => H' = H /\ ∀ xs, SqT K H a xs -> xs[i]? = some x, fun i H => ∃ xs, SqT K H a xs /\ xs.length <= i⟩
noncomputable def Itr (lo : Int) (n : Nat) : It := ⟨fun i _ => i < n, fun i H x H' => H' = H /\ x = .int (lo + i), fun i _ => n <= i⟩
theorem turn_list {P : Program} {w : World} {K : PySem.W.Frag} {tg : Expr} (a it : Addr) : Turn P w K tg (Itl K a) [it] it (fun i h => h.IsListIter it a i) where
  mem := by simp
  obj := fun i h st b hb => by
    have e : b = it := by simpa using hb
    subst e
    obtain ⟨o, e, c, d⟩ := st
    exact ⟨o, e, fun v z => by rw [d] at z; cases z⟩
  keep := fun i h h' st k => st.at fun o e => k it (by simp) o e
  item := by
    intro X hP hw hK hc i pins s σ H E I hf st hg
    subst hP hw hK
    obtain ⟨xs, x, hq, hx⟩ := hg
    obtain ⟨its, rv, p, hz⟩ := I.list hq
    obtain ⟨u, hu, ru⟩ := rv.get hx
    obtain ⟨f0, f1, f2, f3, f4, f5⟩ := hf it (by simp)
    refine wpAny_pyNext_list_item st p.isList (x := u) (by simpa using hu) fun h' st' sb => ?_
    have I1 : Inv X pins σ H { s with heap := h' } := I.turned (t' := s.toks) (fun b o hb e => (sb.2 b hb).trans e) f0 f1 f3 f4 f5
    obtain ⟨o, e, c, d⟩ := id st'
    exact ⟨u, rfl, go_of (s := { s with heap := h' }) e c d (by decide) ⟨x, H, I1, ru, ⟨rfl, fun ys hy => by rw [I.list_inj hy hq]; exact hx⟩, st', fun b hb => (hf b hb).1⟩⟩
  done := by
    intro X hP hw hK hc i pins s σ H E I hf st hg
    subst hP hw hK
    obtain ⟨xs, hq, hx⟩ := hg
    obtain ⟨its, rv, p, hz⟩ := I.list hq
    obtain ⟨f0, f1, f2, f3, f4, f5⟩ := hf it (by simp)
    have hl := rv.length
    exact wpAny_pyNext_list_end (I.ok.hd hc) st p.isList (by simp; omega) fun h' eb => ⟨rfl, I.turned (t' := s.toks) (fun b o hb e => eb b o hb e) f0 f1 f3 f4 f5⟩
  self := fun _ _ _ _ _ st h => wpAny_pyIter_listiter st h
theorem turn_tuple {P : Program} {w : World} {K : PySem.W.Frag} {tg : Expr} (a it : Addr) : Turn P w K tg (Itt K a) [it] it (fun i h => h.IsTupleIter it a i) where
  mem := by simp
  obj := fun i h st b hb => by
    have e : b = it := by simpa using hb
    subst e
    obtain ⟨o, e, c, d⟩ := st
    exact ⟨o, e, fun v z => by rw [d] at z; cases z⟩
  keep := fun i h h' st k => st.at fun o e => k it (by simp) o e
  item := by
    intro X hP hw hK hc i pins s σ H E I hf st hg
    subst hP hw hK
    obtain ⟨xs, x, hq, hx⟩ := hg
    obtain ⟨its, rv, p, hz⟩ := I.tuple hq
    obtain ⟨u, hu, ru⟩ := rv.get hx
    obtain ⟨f0, f1, f2, f3, f4, f5⟩ := hf it (by simp)
    refine wpAny_pyNext_tuple_item st (show s.heap.IsTuple a its.toArray from p) (x := u) (by simpa using hu) fun h' st' sb => ?_
    have I1 : Inv X pins σ H { s with heap := h' } := I.turned (t' := s.toks) (fun b o hb e => (sb.2 b hb).trans e) f0 f1 f3 f4 f5
    obtain ⟨o, e, c, d⟩ := id st'
    exact ⟨u, rfl, go_of (s := { s with heap := h' }) e c d (by decide) ⟨x, H, I1, ru, ⟨rfl, fun ys hy => by rw [I.tuple_inj hy hq]; exact hx⟩, st', fun b hb => (hf b hb).1⟩⟩
  done := by
    intro X hP hw hK hc i pins s σ H E I hf st hg
    subst hP hw hK
    obtain ⟨xs, hq, hx⟩ := hg
    obtain ⟨its, rv, p, hz⟩ := I.tuple hq
    obtain ⟨f0, f1, f2, f3, f4, f5⟩ := hf it (by simp)
    have hl := rv.length
    exact wpAny_pyNext_tuple_end (I.ok.hd hc) st (show s.heap.IsTuple a its.toArray from p) (by simp; omega) fun h' eb => ⟨rfl, I.turned (t' := s.toks) (fun b o hb e => eb b o hb e) f0 f1 f3 f4 f5⟩
  self := fun _ _ _ _ _ st h => wpAny_pyIter_tupleiter st h
theorem turn_range {P : Program} {w : World} {K : PySem.W.Frag} {tg : Expr} (it : Addr) (lo : Int) (n : Nat) : Turn P w K tg (Itr lo n) [it] it (fun i h => IsRangeIter h it (lo + (i : Nat) * 1) ((n : Int) - (i : Nat)) 1) where
  mem := by simp
  obj := fun i h st b hb => by
    have e : b = it := by simpa using hb
    subst e
    exact ⟨_, st, fun v z => by
      have z' : Data.fields _ = Data.cell v := z
      cases z'⟩
  keep := fun i h h' st k => k it (by simp) _ st
  item := by
    intro X hP hw hK hc i pins s σ H E I hf st hg
    subst hP hw hK
    obtain ⟨f0, f1, f2, f3, f4, f5⟩ := hf it (by simp)
    have W := Walks.range (prog := X.prog) (w := X.w) (I.ok.hd hc) it lo 1 n
    refine W.item i s _ _ hg st fun v h' tk hv st' kk => ?_
    obtain ⟨t, rfl⟩ := hv
    have I1 : Inv X pins σ H { s with heap := h', toks := tk } := I.turned (fun b o hb e => kk b o (by simpa using hb) e) f0 f1 f3 f4 f5
    refine ⟨_, rfl, go_of (s := { s with heap := h', toks := tk }) (n := "range_iterator") st' rfl rfl (by decide) ⟨.int (lo + i), H, I1, ⟨t, ?_⟩, ⟨rfl, rfl⟩, st', fun b hb => (hf b hb).1⟩⟩
    rw [Int.mul_one]
  done := by
    intro X hP hw hK hc i pins s σ H E I hf st hg
    subst hP hw hK
    obtain ⟨f0, f1, f2, f3, f4, f5⟩ := hf it (by simp)
    exact wpAny_pyNext_range_end (I.ok.hd hc) st (by have : n <= i := hg; omega) fun h' eb => ⟨rfl, I.turned (t' := s.toks) (fun b o hb e => eb b o hb e) f0 f1 f3 f4 f5⟩
  self := fun _ _ _ _ _ st h => wpAny_pyIter_rangeiter st h
end L2
namespace L2
open PySem PySem.Spec PyProof.Rows
section
variable {X : Cx} {tg : Expr}
noncomputable def iList (K : PySem.W.Frag) (tl : TE) : TI := fun σ H R => tl σ H fun x H1 => ∃ a, x = .ref a /\ (∃ xs, SqL K H1 a xs) /\ R (Itl K a) H1
theorem pi_list {l : Expr} {tl : TE} (hl : PE X l tl) : PI X tg l (iList X.K tl) := by
  intro pins s σ H R I h
  refine thn (hl pins s σ H _ I h) fun v s1 ⟨x, H1, I1, r1, q1⟩ => ?_
  obtain ⟨a, e, ⟨xs, hq⟩, q⟩ := q1
  subst e
  cases r1
  obtain ⟨its, rv, p, hz⟩ := I1.list hq
  refine wpAny_pyIter_list p.isList ?_
  refine ⟨s1.heap.objs.size, [s1.heap.objs.size], _, _, H1, rfl, I1.kept (t' := s1.toks) fun b o e => Heap.get?_push_of_some _ e, turn_list a _, ⟨_, Heap.get?_push_size _ rfl, rfl, rfl⟩, fun b hb => ?_, q⟩
  have e : b = s1.heap.objs.size := by simpa using hb
  subst e
  exact I1.fpOk (Nat.le_refl _) (I1.hok.fresh (Nat.le_refl _))
theorem range_it {pins : List (Addr × Obj)} {σ : St} {H : Hp} {s : Shared} {R : It -> Hp -> Prop} {E : Value -> Shared -> Prop} {lo hi : Int} {t u v : Tok} {tk : Nat} (I : Inv X pins σ H s) (h1 : -(2 ^ 62) <= lo) (h2 : lo < 2 ^ 62) (h3 : -(2 ^ 62) <= hi) (h4 : hi < 2 ^ 62)
    (q : R (Itr lo (hi - lo).toNat) H) : wpAny (model X.prog X.w) X.A (pyIter (.ref s.heap.objs.size)) (PIE X pins σ tg R) E { s with heap := s.heap.push { cls := .type "range", data := .fields #[.int lo t, .int hi u, .int 1 v] }, toks := tk } := by
  refine wpAny_pyIter_range (IsRange.new ..) (small_one h1 h2 h3 h4) ?_
  have I1 : Inv X pins σ H { s with heap := s.heap.push { cls := .type "range", data := .fields #[.int lo t, .int hi u, .int 1 v] }, toks := tk } := I.kept fun b o e => Heap.get?_push_of_some _ e
  refine ⟨(s.heap.push { cls := .type "range", data := .fields #[.int lo t, .int hi u, .int 1 v] }).objs.size, [(s.heap.push { cls := .type "range", data := .fields #[.int lo t, .int hi u, .int 1 v] }).objs.size], _, _, H, rfl,
    I1.kept (t' := tk) fun b o e => Heap.get?_push_of_some _ e, turn_range _ lo (hi - lo).toNat, ?_, fun b hb => ?_, q⟩
  · have e1 : lo + ((0 : Nat) : Int) * 1 = lo := by simp
    have e2 : (((hi - lo).toNat : Nat) : Int) - ((0 : Nat) : Int) = Builtin.Range.rangeSize lo hi 1 := by rw [rangeSize_one]; split <;> omega
    show IsRangeIter _ _ (lo + ((0 : Nat) : Int) * 1) ((((hi - lo).toNat : Nat) : Int) - ((0 : Nat) : Int)) 1
    rw [e1, e2]
    exact Heap.get?_push_size _ rfl
  · have e : b = (s.heap.push { cls := .type "range", data := .fields #[.int lo t, .int hi u, .int 1 v] }).objs.size := by simpa using hb
    subst e
    exact I1.fpOk (Nat.le_refl _) (I1.hok.fresh (Nat.le_refl _))
noncomputable def iRng1 (ta : TA) : TI := fun σ H R => ta σ H fun vs H1 => ∃ j : Int, vs = [.int j] /\ -(2 ^ 62) <= j /\ j < 2 ^ 62 /\ R (Itr 0 j.toNat) H1
noncomputable def iRng2 (ta : TA) : TI := fun σ H R => ta σ H fun vs H1 => ∃ i j : Int, vs = [.int i, .int j] /\ (-(2 ^ 62) <= i /\ i < 2 ^ 62 /\ -(2 ^ 62) <= j /\ j < 2 ^ 62) /\ R (Itr i (j - i).toNat) H1
theorem pi_range1 {a : Expr} {ta : TA} {p pos : Pos} (hg : Gl X "range") (hm : X.mg "range" = none) (ha : PA X [a] ta) (hs : starEach [a] X.env = [(false, eval a X.env)] := by rfl) : PI X tg (.Call (.Name "range" p) [a] [] pos) (iRng1 ta) := by
  intro pins s σ H R I h
  refine Call_ (ld_blt I hg hm boot_range (PyProof.Rows.callWith_type1 (thn (ha pos pins s σ H _ I h) fun us s1 ⟨vs, H1, I1, r1, q1⟩ => ?_) hs rfl))
  obtain ⟨j, e, q1, q2, q⟩ := q1
  subst e
  cases r1 with
  | cons r rr =>
    cases rr
    obtain ⟨t, rfl⟩ := r
    exact call_range_1 (range_it I1 (by omega) (by omega) q1 q2 (by simpa using q))
theorem pi_range2 {a b : Expr} {ta : TA} {p pos : Pos} (hg : Gl X "range") (hm : X.mg "range" = none) (ha : PA X [a, b] ta) (hs : starEach [a, b] X.env = [(false, eval a X.env), (false, eval b X.env)] := by rfl) (hs2 : starEach [b] X.env = [(false, eval b X.env)] := by rfl) :
    PI X tg (.Call (.Name "range" p) [a, b] [] pos) (iRng2 ta) := by
  intro pins s σ H R I h
  refine Call_ (ld_blt I hg hm boot_range (PyProof.Rows.callWith_type1 (thn (ha pos pins s σ H _ I h) fun us s1 ⟨vs, H1, I1, r1, q1⟩ => ?_) (by rw [hs, hs2]) (by rw [hs2]; rfl)))
  obtain ⟨i, j, e, ⟨q1, q2, q3, q4⟩, q⟩ := q1
  subst e
  cases r1 with
  | cons r rr =>
    cases rr with
    | cons r' rr =>
      cases rr
      obtain ⟨t, rfl⟩ := r
      obtain ⟨t', rfl⟩ := r'
      exact call_range_2 (range_it I1 q1 q2 q3 q4 q)
noncomputable def tFor (wi : TI) (g : TG) (tb : TS) : TS := fun D σ H => wi σ H fun J H1 => ∃ W : Nat -> Nat -> St -> Hp -> Prop, (∃ m, W 0 m σ H1) /\ ∀ i m σ H, W i m σ H ->
  (J.stop i H /\ D.nx σ H) \/ (J.go i H /\ ∃ N : St -> Hp -> Prop, (∀ σ' H', N σ' H' -> ∃ m', m' < m /\ W (i + 1) m' σ' H') /\ ∀ x H', J.yld i H x H' -> g x σ H' fun σ2 H2 => tb { D with nx := N, ct := N, bk := D.nx } σ2 H2)
noncomputable def pinsAt (fp : List Addr) (h : Heap) : List (Addr × Obj) := fp.filterMap fun b => (h.get? b).map fun o => (b, o)
theorem mem_pinsAt {fp : List Addr} {h : Heap} {b : Addr} {o : Obj} (hb : b ∈ fp) (e : h.get? b = some o) : (b, o) ∈ pinsAt fp h := List.mem_filterMap.mpr ⟨b, hb, by rw [e]; rfl⟩
theorem of_pinsAt {fp : List Addr} {h : Heap} {p : Addr × Obj} (hp : p ∈ pinsAt fp h) : p.1 ∈ fp /\ h.get? p.1 = some p.2 := by
  obtain ⟨b, hb, e⟩ := List.mem_filterMap.mp hp
  cases q : h.get? b with
  | none => rw [q] at e; cases e
  | some o =>
    rw [q] at e
    have e' : (b, o) = p := Option.some.inj e
    subst e'
    exact ⟨hb, q⟩
theorem Inv.pinned {pins : List (Addr × Obj)} {σ : St} {H : Hp} {s : Shared} {fp : List Addr} (I : Inv X pins σ H s) (hf : ∀ b ∈ fp, FpOk X pins H b) (ho : ∀ b ∈ fp, ∃ o, s.heap.get? b = some o /\ ∀ v, o.data ≠ .cell v) : Inv X (pins ++ pinsAt fp s.heap) σ H s :=
  I.pins_of fun p hp => (List.mem_append.mp hp).elim (fun z => I.pin p (List.mem_append_right _ z)) fun z => by
    obtain ⟨hb, e⟩ := of_pinsAt z
    obtain ⟨f0, f1, f2, _⟩ := hf p.1 hb
    obtain ⟨o, e', d⟩ := ho p.1 hb
    rw [e] at e'; cases e'
    exact ⟨e, f0, f1, f2, d⟩
theorem Inv.unpinned {pins pl : List (Addr × Obj)} {σ : St} {H : Hp} {s : Shared} (I : Inv X (pins ++ pl) σ H s) : Inv X pins σ H s := I.pins_of fun p hp => I.pin p (List.mem_append_right _ (List.mem_append_left _ hp))
theorem ps_for {iter : Expr} {body : List Stmt} {wi : TI} {g : TG} {tb : TS} {pos : Pos} (hp : PassesOwn (model X.prog X.w) X.A X.env X.xe) (hc : X.calm = true) (hi : PI X tg iter wi) (hg : PG X tg g) (hb : PSs X body tb)
    (hs : ∀ x, foldedSetIterable iter X.env x = pure x := by intro _; rfl) : PS X (.For tg iter body [] pos) (tFor wi g tb) := by
  intro pins s σ H D I h
  refine wpAny_For (thn (hi pins s σ H _ I h) fun v s1 h1 => thn h1 fun itv s2 h2 => ?_) hs
  obtain ⟨it, fp, tn, J, H2, e, I2, T, st2, f2, W, ⟨m0, w0⟩, turn⟩ := h2
  subst e
  have stat : ∀ {H' : Hp}, (∀ b ∈ fp, H' b = none) -> ∀ b ∈ fp, FpOk X pins H' b := fun hn b hb => ⟨hn b hb, (f2 b hb).2⟩
  refine codeAny_forLoop_any (fun n s' => ∃ i σ' H', Inv X pins σ' H' s' /\ tn i s'.heap /\ (∀ b ∈ fp, H' b = none) /\ W i n σ' H') ?_ m0 ⟨0, σ, H2, I2, st2, fun b hb => (f2 b hb).1, w0⟩
  rintro n s3 ⟨i, σ3, H3, I3, st3, fr3, w3⟩
  rcases turn i n σ3 H3 w3 with ⟨stop, qn⟩ | ⟨go, N, hN, step⟩
  · refine wpAny_passesOwn hp (thn (T.done X rfl rfl rfl hc i pins s3 σ3 H3 X.xe I3 (stat fr3) st3 stop) fun r s4 ⟨hr, I4⟩ => ?_)
    subst hr
    exact wpAny_execs_nil ⟨σ3, H3, I4, qn⟩
  · refine wpAny_passesOwn hp (thn (T.item X rfl rfl rfl hc i pins s3 σ3 H3 X.xe I3 (stat fr3) st3 go) fun r s4 ⟨u, hr, h4⟩ => ?_)
    subst hr
    refine wpAny_passesOwn hp (thn h4 fun _ s5 ⟨x, H5, I5, r5, y5, st5, fr5⟩ => ?_)
    have I5' := I5.pinned (stat fr5) (T.obj _ _ st5)
    refine wpAny_passesOwn hp (thn (hg _ s5 σ3 H5 x u _ I5' r5 (step x H5 y5)) fun _ s6 ⟨σ6, H6, I6, q6⟩ => ?_)
    refine wpAny_passesOwn hp (thn (hb _ s6 σ6 H6 _ I6 q6) fun f s7 q7 => ?_)
    have again : ∀ {σ7 : St} {H7 : Hp}, Inv X (pins ++ pinsAt fp s5.heap) σ7 H7 s7 -> N σ7 H7 -> ∃ m, m < n /\ ∃ i σ' H', Inv X pins σ' H' s7 /\ tn i s7.heap /\ (∀ b ∈ fp, H' b = none) /\ W i m σ' H' := fun {σ7 H7} I7 n7 => by
      obtain ⟨m', hm, w7⟩ := hN σ7 H7 n7
      refine ⟨m', hm, i + 1, σ7, H7, I7.unpinned, T.keep _ _ _ st5 fun b hb o e => (I7.pin (b, o) (List.mem_append_right _ (List.mem_append_right _ (mem_pinsAt hb e)))).1, fun b hb => ?_, w7⟩
      obtain ⟨o, e, d⟩ := T.obj _ _ st5 b hb
      exact (I7.pin (b, o) (List.mem_append_right _ (List.mem_append_right _ (mem_pinsAt hb e)))).2.1
    cases f with
    | next => obtain ⟨σ7, H7, I7, n7⟩ := q7; exact again I7 n7
    | cont => obtain ⟨σ7, H7, I7, n7⟩ := q7; exact again I7 n7
    | brk => obtain ⟨σ7, H7, I7, q7⟩ := q7; exact ⟨σ7, H7, I7.unpinned, q7⟩
    | ret v => obtain ⟨x7, σ7, H7, I7, r7, q7⟩ := q7; exact ⟨x7, σ7, H7, I7.unpinned, r7, q7⟩
end
end L2
namespace L2
open PySem PySem.Spec PyProof.Rows
noncomputable abbrev R2 := V -> V -> Hp -> VK -> Prop
noncomputable def OpR (X : Cx) (f : Value -> Value -> Sem Value) (r : R2) : Prop :=
  ∀ (pins : List (Addr × Obj)) (s : Shared) (σ : St) (H : Hp) (x y : V) (v u : Value) (Q : VK), Inv X pins σ H s -> RelV x v -> RelV y u -> r x y H Q ->
    wpAny (model X.prog X.w) X.A (f v u) (EP X pins σ Q) X.xe s
noncomputable def UnR (X : Cx) (f : Value -> Sem Value) (r : V -> Hp -> VK -> Prop) : Prop :=
  ∀ (pins : List (Addr × Obj)) (s : Shared) (σ : St) (H : Hp) (x : V) (v : Value) (Q : VK), Inv X pins σ H s -> RelV x v -> r x H Q ->
    wpAny (model X.prog X.w) X.A (f v) (EP X pins σ Q) X.xe s
noncomputable def CallR (X : Cx) (f : Value) (r : List V -> Hp -> VK -> Prop) : Prop :=
  ∀ (pins : List (Addr × Obj)) (s : Shared) (σ : St) (H : Hp) (xs : List V) (us : List Value) (Q : VK), Inv X pins σ H s -> Vals xs us -> r xs H Q ->
    wpAny (model X.prog X.w) X.A (call f us) (EP X pins σ Q) X.xe s
noncomputable def tOp (r : R2) (ta tb : TE) : TE := fun σ H Q => ta σ H fun x H1 => tb σ H1 fun y H2 => r x y H2 Q
noncomputable def tUn (r : V -> Hp -> VK -> Prop) (ta : TE) : TE := fun σ H Q => ta σ H fun x H1 => r x H1 Q
noncomputable def rI (C : Int -> Int -> Prop) (g : Int -> Int -> V) : R2 := fun x y H Q => ∃ i j, x = .int i /\ y = .int j /\ C i j /\ Q (g i j) H
noncomputable def rI0 (g : Int -> Int -> V) : R2 := fun x y H Q => ∃ i j, x = .int i /\ y = .int j /\ Q (g i j) H
noncomputable def rU (g : Int -> V) : V -> Hp -> VK -> Prop := fun x H Q => ∃ i, x = .int i /\ Q (g i) H
section
variable {X : Cx} {a b c : Expr} {ta tb tc : TE} {pos : Pos}
theorem binT (ha : PE X a ta) (hb : PE X b tb) {pins : List (Addr × Obj)} {s : Shared} {σ : St} {H : Hp} {R : V -> V -> Hp -> Prop} (I : Inv X pins σ H s)
    (h : ta σ H fun x H1 => tb σ H1 fun y H2 => R x y H2) {Q : Value -> Shared -> Prop} {f : Value -> Value -> Sem Value}
    (hf : ∀ v u s2 x y H2, Inv X pins σ H2 s2 -> RelV x v -> RelV y u -> R x y H2 -> wpAny (model X.prog X.w) X.A (f v u) Q X.xe s2) :
    wpAny (model X.prog X.w) X.A (eval a X.env) (fun v s₁ => wpAny (model X.prog X.w) X.A (eval b X.env) (fun u s₂ => wpAny (model X.prog X.w) X.A (f v u) Q X.xe s₂) X.xe s₁) X.xe s := by
  refine thn (ha pins s σ H _ I h) fun v s1 ⟨x, H1, I1, r1, q1⟩ => ?_
  refine thn (hb pins s1 σ H1 _ I1 q1) fun u s2 ⟨y, H2, I2, r2, q2⟩ => ?_
  exact hf v u s2 x y H2 I2 r1 r2 q2
theorem pe_op {op : Operator} {r : R2} (ho : OpR X (binaryOp op) r) (ha : PE X a ta) (hb : PE X b tb) : PE X (.BinOp a op b pos) (tOp r ta tb) := by
  intro pins s σ H Q I h
  exact wpAny_BinOp (binT ha hb I h fun v u s2 x y H2 I2 rx ry q => ho pins s2 σ H2 x y v u Q I2 rx ry q)
theorem pe_un {op : UnaryOp} {r : V -> Hp -> VK -> Prop} (ho : UnR X (unaryOp op) r) (ha : PE X a ta) : PE X (.UnaryOp op a pos) (tUn r ta) := by
  intro pins s σ H Q I h
  exact UnaryOp_ (thn (ha pins s σ H _ I h) fun v s1 ⟨x, H1, I1, r1, q1⟩ => ho pins s1 σ H1 x v Q I1 r1 q1)
theorem opI {f : Value -> Value -> Sem Value} {C : Int -> Int -> Prop} {g : Int -> Int -> Int}
    (rule : ∀ (i j : Int) (t u : Tok) (s : Shared) (Q : Value -> Shared -> Prop) (E : Value -> Shared -> Prop), C i j -> Q (.int (g i j) s.toks) { s with toks := s.toks + 1 } -> wpAny (model X.prog X.w) X.A (f (.int i t) (.int j u)) Q E s) :
    OpR X f (rI C fun i j => .int (g i j)) := by
  intro pins s σ H x y v u Q I rx ry h
  obtain ⟨i, j, rfl, rfl, hc, q⟩ := h
  obtain ⟨t, rfl⟩ := rx
  obtain ⟨t', rfl⟩ := ry
  exact rule i j t t' s _ _ hc ⟨.int (g i j), H, I.tok _, ⟨_, rfl⟩, q⟩
theorem opI0 {f : Value -> Value -> Sem Value} {g : Int -> Int -> Int}
    (rule : ∀ (i j : Int) (t u : Tok) (s : Shared) (Q : Value -> Shared -> Prop) (E : Value -> Shared -> Prop), Q (.int (g i j) s.toks) { s with toks := s.toks + 1 } -> wpAny (model X.prog X.w) X.A (f (.int i t) (.int j u)) Q E s) :
    OpR X f (rI0 fun i j => .int (g i j)) := by
  intro pins s σ H x y v u Q I rx ry h
  obtain ⟨i, j, rfl, rfl, q⟩ := h
  obtain ⟨t, rfl⟩ := rx
  obtain ⟨t', rfl⟩ := ry
  exact rule i j t t' s _ _ ⟨.int (g i j), H, I.tok _, ⟨_, rfl⟩, q⟩
theorem opB0 {f : Value -> Value -> Sem Value} {g : Int -> Int -> Bool}
    (rule : ∀ (i j : Int) (t u : Tok) (s : Shared) (Q : Value -> Shared -> Prop) (E : Value -> Shared -> Prop), Q (.bool (g i j)) s -> wpAny (model X.prog X.w) X.A (f (.int i t) (.int j u)) Q E s) :
    OpR X f (rI0 fun i j => .bl (g i j)) := by
  intro pins s σ H x y v u Q I rx ry h
  obtain ⟨i, j, rfl, rfl, q⟩ := h
  obtain ⟨t, rfl⟩ := rx
  obtain ⟨t', rfl⟩ := ry
  exact rule i j t t' s _ _ ⟨.bl (g i j), H, I, rfl, q⟩
noncomputable def CDiv (i j : Int) : Prop := 0 < j /\ j < 1073741824
noncomputable def CPow (i j : Int) : Prop := 0 <= j /\ j <= 1000000 /\ i.natAbs < 2 ^ 64
noncomputable def CMul (i j : Int) : Prop := (-(2 ^ 64) < i /\ i < 2 ^ 64) \/ (-(2 ^ 64) < j /\ j < 2 ^ 64)
theorem CMul.ok {i j : Int} (h : CMul i j) : IntMulOk i j := by
  rcases h with ⟨h1, h2⟩ | ⟨h1, h2⟩
  · exact .of_left (intBits_le_64 h1 h2)
  · exact .of_right (intBits_le_64 h1 h2)
theorem two_pow_nn (k : Nat) : (0 : Int) <= 2 ^ k := by
  rw [two_pow_cast]
  exact Int.natCast_nonneg _
theorem op_add : OpR X (binaryOp .Add) (rI0 fun i j => .int (i + j)) := opI0 fun _ _ _ _ _ _ _ q => add_int q
theorem op_sub : OpR X (binaryOp .Sub) (rI0 fun i j => .int (i - j)) := opI0 fun _ _ _ _ _ _ _ q => sub_int q
theorem op_fdiv : OpR X (binaryOp .FloorDiv) (rI CDiv fun i j => .int (i / j)) := opI fun i j _ _ _ _ _ hc q => by
  have h1 : (0 : Int) < j := hc.1
  have h2 : j < 1073741824 := hc.2
  exact floordiv_int (by omega) (by rw [Int.fdiv_eq_ediv_of_nonneg i (by omega)]; exact q) (.inl (PyProof.noPylong_small (by omega)))
theorem op_mod : OpR X (binaryOp .Mod) (rI (fun _ j => 0 < j) fun i j => .int (i % j)) := opI fun i j _ _ _ _ _ hc q => by
  have h1 : (0 : Int) < j := hc
  exact mod_int' (by omega) (by rw [Int.fmod_eq_emod_of_nonneg i (by omega)]; exact q)
theorem op_pow : OpR X (binaryOp .Pow) (rI CPow fun i j => .int (i ^ j.toNat)) := opI fun _ _ _ _ _ _ _ hc q => pow_int_small hc.1 hc.2.1 hc.2.2 q
theorem op_shr : OpR X (binaryOp .RShift) (rI (fun _ j => 0 <= j) fun i j => .int (i / 2 ^ j.toNat)) := opI fun i j _ _ _ _ _ hc q =>
  rshift_int hc (by rw [Int.fdiv_eq_ediv_of_nonneg i (two_pow_nn _)]; exact q)
theorem op_and : OpR X (binaryOp .BitAnd) (rI0 fun i j => .int (Builtin.bitAnd i j)) := opI0 fun _ _ _ _ _ _ _ q => and_int q
theorem op_or : OpR X (binaryOp .BitOr) (rI0 fun i j => .int (Builtin.bitOr i j)) := opI0 fun _ _ _ _ _ _ _ q => or_int q
theorem unI {f : Value -> Sem Value} {g : Int -> Int}
    (rule : ∀ (i : Int) (t : Tok) (s : Shared) (Q : Value -> Shared -> Prop) (E : Value -> Shared -> Prop), Q (.int (g i) s.toks) { s with toks := s.toks + 1 } -> wpAny (model X.prog X.w) X.A (f (.int i t)) Q E s) :
    UnR X f (rU fun i => .int (g i)) := by
  intro pins s σ H x v Q I rx h
  obtain ⟨i, rfl, q⟩ := h
  obtain ⟨t, rfl⟩ := rx
  exact rule i t s _ _ ⟨.int (g i), H, I.tok _, ⟨_, rfl⟩, q⟩
theorem un_neg : UnR X (unaryOp .USub) (rU fun i => .int (-i)) := unI fun _ _ _ _ _ q => neg_int q
theorem un_inv : UnR X (unaryOp .Invert) (rU fun i => .int (Builtin.bitNot i)) := unI fun _ _ _ _ _ q => invert_int q
end
section
variable {X : Cx} {a b c : Expr} {ta tb tc : TE} {pos : Pos}
theorem fin_bl {pins : List (Addr × Obj)} {σ : St} {H : Hp} {s : Shared} {Q : VK} {k k' : Bool} (I : Inv X pins σ H s) (q : Q (.bl k) H) (e : k = k') : EP X pins σ Q (.bool k') s := by
  subst e
  exact ⟨.bl k, H, I, rfl, q⟩
theorem op_lt : OpR X (compareOp .Lt) (rI0 fun i j => .bl (decide (i < j))) := opB0 fun _ _ _ _ _ _ _ q => lt_int q
theorem op_le : OpR X (compareOp .LtE) (rI0 fun i j => .bl (decide (i <= j))) := opB0 fun _ _ _ _ _ _ _ q => le_int q
theorem op_gt : OpR X (compareOp .Gt) (rI0 fun i j => .bl (decide (j < i))) := opB0 fun _ _ _ _ _ _ _ q => gt_int q
theorem op_ge : OpR X (compareOp .GtE) (rI0 fun i j => .bl (decide (j <= i))) := opB0 fun _ _ _ _ _ _ _ q => ge_int q
theorem op_in_str : OpR X (compareOp .In) (fun x y H Q => ∃ i j, x = .str i /\ y = .str j /\ Q (.bl (!(Builtin.Str.occurrences j i 0 j.length 1).isEmpty)) H) := by
  intro pins s σ H x y v u Q I rx ry h
  obtain ⟨i, j, rfl, rfl, q⟩ := h
  obtain ⟨t, rfl⟩ := rx
  obtain ⟨t', rfl⟩ := ry
  exact in_str (fin_bl I q rfl)
theorem OpR.or {f : Value -> Value -> Sem Value} {r r' : R2} (h : OpR X f r) (h' : OpR X f r') : OpR X f (fun x y H Q => r x y H Q \/ r' x y H Q) := by
  intro pins s σ H x y v u Q I rx ry q
  rcases q with q | q
  · exact h pins s σ H x y v u Q I rx ry q
  · exact h' pins s σ H x y v u Q I rx ry q
theorem nomark (b : Expr) {op : CmpOp} (h : op ≠ .In := by decide) (h2 : op ≠ .NotIn := by decide) : behindInMarks op b = false := by
  have e1 : (op == CmpOp.In) = false := by cases op <;> first | rfl | exact absurd rfl h
  have e2 : (op == CmpOp.NotIn) = false := by cases op <;> first | rfl | exact absurd rfl h2
  cases b <;> simp [behindInMarks, e1, e2]
theorem pe_cmpR {op : CmpOp} {r : R2} (ho : OpR X (compareOp op) r) (ha : PE X a ta) (hb : PE X b tb) (hm : behindInMarks op b = false) : PE X (.Compare a [op] [b] pos) (tOp r ta tb) := by
  intro pins s σ H Q I h
  exact wpAny_Compare1 (binT ha hb I h fun v u s2 x y H2 I2 rx ry q => ho pins s2 σ H2 x y v u Q I2 rx ry q) hm
noncomputable def tTest (t : TE) : TT := fun σ H Q => t σ H fun x H' => ∃ k, x = .bl k /\ Q k H'
theorem pt_cmpR {op : CmpOp} {r : R2} (ho : OpR X (compareOp op) r) (ha : PE X a ta) (hb : PE X b tb) (hm : behindInMarks op b = false) : PT X (.Compare a [op] [b] pos) (tTest (tOp r ta tb)) := by
  intro pins s σ H Q I h
  refine wpAny_isTrue_Compare1 (thn (ha pins s σ H _ I h) fun v s1 ⟨x, H1, I1, r1, q1⟩ => thn (hb pins s1 σ H1 _ I1 q1) fun u s2 ⟨y, H2, I2, r2, q2⟩ =>
    thn (ho pins s2 σ H2 x y v u _ I2 r1 r2 q2) fun c s3 ⟨z, H3, I3, r3, k, e, q3⟩ => ?_) hm
  subst e
  cases r3
  exact wpAny_truthy_bool ⟨H3, I3, q3⟩
theorem line63 : (sizeLine : Nat) < 2 ^ 63 := by rw [sizeLine_eq]; decide
theorem op_add_str : OpR X (binaryOp .Add) (fun x y H Q => ∃ i j, x = .str i /\ y = .str j /\ i.length + j.length <= sizeLine /\ Q (.str (i ++ j)) H) := by
  intro pins s σ H x y v u Q I rx ry h
  obtain ⟨i, j, rfl, rfl, hz, q⟩ := h
  obtain ⟨t, rfl⟩ := rx
  obtain ⟨t', rfl⟩ := ry
  exact add_str (fun t' tk => ⟨.str (i ++ j), H, I.tok _, ⟨_, rfl⟩, q⟩) hz
theorem vals1 {x : V} {us : List Value} (r : Vals [x] us) : ∃ u, us = [u] /\ RelV x u := by
  cases r with
  | cons r1 r2 => cases r2; exact ⟨_, rfl, r1⟩
noncomputable def LenV (K : PySem.W.Frag) (x : V) (H : Hp) (n : Nat) : Prop :=
  match x with
  | .str y => y.length <= sizeLine /\ n = y.length
  | .byt y => y.size <= sizeLine /\ n = y.size
  | .ref p => (∃ xs, SqL K H p xs /\ n = xs.length) \/ ∃ xs, SqT K H p xs /\ n = xs.length
  | _ => False
theorem call_len : CallR X (.builtin "len") (fun xs H Q => ∃ x n, xs = [x] /\ LenV X.K x H n /\ Q (.int n) H) := by
  intro pins s σ H xs us Q I r h
  obtain ⟨x, n, rfl, e, q⟩ := h
  obtain ⟨u, rfl, rx⟩ := vals1 r
  have hl := line63
  have hs : sizeLine = 16777216 := sizeLine_eq
  cases x with
  | str y =>
    obtain ⟨t, rfl⟩ := rx
    obtain ⟨hy, e'⟩ : y.length <= sizeLine /\ n = y.length := e
    subst e'
    exact len_str (by omega) ⟨.int _, H, I.tok _, ⟨_, rfl⟩, q⟩
  | byt y =>
    obtain ⟨t, rfl⟩ := rx
    obtain ⟨hy, e'⟩ : y.size <= sizeLine /\ n = y.size := e
    subst e'
    exact PySem.W.len_bytes (by omega) ⟨.int _, H, I.tok _, ⟨_, rfl⟩, q⟩
  | ref p =>
    cases rx
    have e' : (∃ xs, SqL X.K H p xs /\ n = xs.length) \/ ∃ xs, SqT X.K H p xs /\ n = xs.length := e
    rcases e' with ⟨xs, hx, e'⟩ | ⟨xs, hx, e'⟩
    · subst e'
      obtain ⟨its, r', pl, hz⟩ := I.list hx
      have hlen := r'.length
      exact Calls.call_len_list pl.isList (by simp only [List.size_toArray]; omega) ⟨.int xs.length, H, I.tok _, ⟨_, by simp only [List.size_toArray]; rw [hlen]⟩, q⟩
    · subst e'
      obtain ⟨its, r', pl, hz⟩ := I.tuple hx
      have hlen := r'.length
      exact len_tuple pl (by simp only [List.size_toArray]; omega) ⟨.int xs.length, H, I.tok _, ⟨_, by simp only [List.size_toArray]; rw [hlen]⟩, q⟩
  | _ => exact (show False from e).elim
end
end L2
namespace L2
open PySem PySem.Spec PyProof.Rows
structure ObjM (h : Heap) (x dx C : Addr) (mA : Str -> Option Value) : Prop where
  obj : h.get? x = some (PySem.W.instObj C dx)
  ns : h.Ns1 dx mA
  ne : dx ≠ x
section
variable {prog : Program} {w : World} {A : Around} {E : Value -> Shared -> Prop} {s : Shared} {K : PySem.W.Frag} {x dx C f : Addr} {mA : Str -> Option Value} {name : Str} {v : Value}
end
theorem RelO.some_of {v : V} {o : Option Value} (r : RelO (some v) o) : ∃ u, o = some u /\ RelV v u := by
  cases o with
  | none => exact (show False from r).elim
  | some u => exact ⟨u, rfl, r⟩
section
variable {P : Program} {w : World} {H H' : Hp} {h h' : Heap} {a C dx : Addr} {fs fs' : List (Str × V)}
end
structure Cls (K : PySem.W.Frag) (C : Addr) : Prop where
  pg : PySem.W.plainGet K C Str.empty = true
  hd : PySem.W.hasDictIn K C = true
  po : PySem.W.plainOver K C = true
  sa : PySem.W.findIn K (.ref C) "__setattr__" = some (some (.builtin "object.__setattr__"))
theorem Cls.get {K : PySem.W.Frag} {C : Addr} (c : Cls K C) (f : Str) : PySem.W.plainGet K C f = true := c.pg
structure Con (K : PySem.W.Frag) (C : Addr) (f : Str) (v : V) (u : Value) : Prop where
  at_ : PySem.W.findIn K (.ref C) f = some (some u)
  rel : RelV v u
  get : PySem.W.specialIn K u "__get__" = some none
  cp : PySem.W.copiedNames.contains f = false
structure Meth (K : PySem.W.Frag) (C : Addr) (m : Str) (f : Addr) : Prop where
  at_ : PySem.W.findIn K (.ref C) m = some (some (.ref f))
  fn : PySem.W.isFn K (.ref f) = true
  kp : PySem.W.keepIn K (.ref f) = true
section
variable {X : Cx} {pins : List (Addr × Obj)} {σ : St} {H : Hp} {s : Shared} {a C dx : Addr} {fs : List (Str × V)} {f : Str} {v : V} {A : Around} {E : Value -> Shared -> Prop}
theorem Inv.made (I : Inv X pins σ H s) : Inv X pins σ (upd (upd H s.heap.objs.size (.own (s.heap.objs.size + 1))) (s.heap.objs.size + 1) (.ins C s.heap.objs.size []))
    { s with heap := (s.heap.push PySem.W.emptyDict).push (PySem.W.instObj C s.heap.objs.size) } := by
  have e1 : (s.heap.push PySem.W.emptyDict).get? s.heap.objs.size = some PySem.W.emptyDict := Heap.get?_push_size s.heap rfl
  have e2 : ((s.heap.push PySem.W.emptyDict).push (PySem.W.instObj C s.heap.objs.size)).get? (s.heap.objs.size + 1) = some (PySem.W.instObj C s.heap.objs.size) := by
    have := Heap.get?_push_size (s.heap.push PySem.W.emptyDict) (o := PySem.W.instObj C s.heap.objs.size) rfl
    rwa [Heap.size_push] at this
  have e3 : (s.heap.push PySem.W.emptyDict).Ns s.heap.objs.size (fun _ => none) := ⟨PySem.W.emptyDict, #[], _, e1, rfl, (fun e he => absurd he (by simp)), fun _ => rfl⟩
  have I1 := I.laid (a := s.heap.objs.size) (o := .own (s.heap.objs.size + 1)) (h' := s.heap.push PySem.W.emptyDict) (t' := s.toks) (fun b u q => Heap.get?_push_of_some _ q) (Nat.le_refl _) ⟨_, e1⟩
  refine I1.laid (a := s.heap.objs.size + 1) (o := .ins C s.heap.objs.size []) (t' := s.toks) (fun b u q => Heap.get?_push_of_some _ q) (Nat.le_of_eq (Heap.size_push _ _)) ?_
  have ne : s.heap.objs.size ≠ s.heap.objs.size + 1 := Nat.ne_of_lt (Nat.lt_succ_self _)
  refine ⟨by rw [upd_ne ne, upd_same], Nat.zero_le _, ne, e2, fun _ => none, (Heap.Ns1.of_empty e3).at fun o q => Heap.get?_push_of_some _ q, fun _ => True.intro, fun y hy => absurd rfl hy⟩
end
section
variable {X : Cx} {o e value : Expr} {f : Str} {pos pos' tpos : Pos} {ta tv : TE}
end
section
variable {X : Cx} {pins : List (Addr × Obj)} {σ : St} {H : Hp} {s : Shared} {A : Around} {E : Value -> Shared -> Prop} {Q : Value -> Shared -> Prop} {c : Value} {b : Bool}
inductive TyOf (K : PySem.W.Frag) (H : Hp) : V -> Value -> Prop where
  | non : TyOf K H .non (.type "NoneType")
  | bl (x : Bool) : TyOf K H (.bl x) (.type "bool")
  | int (i : Int) : TyOf K H (.int i) (.type "int")
  | str (x : Str) : TyOf K H (.str x) (.type "str")
  | flt (x : UInt64) : TyOf K H (.flt x) (.type "float")
  | lst {a : Addr} {xs : List V} (e : H a = some (.lst xs)) : TyOf K H (.ref a) (.type "list")
  | frz {a : Addr} {o : Obj} {xs : List V} (e : H a = some (.frz o (.lst xs))) : TyOf K H (.ref a) (.type "list")
  | tup {a : Addr} {xs : List V} (e : H a = some (.tup xs)) : TyOf K H (.ref a) (.type "tuple")
  | dK {a : Addr} {kvs : List (Key × V)} (e : H a = some (.dK kvs)) : TyOf K H (.ref a) (.type "dict")
  | dT {a : Addr} {kvs : List (List Key × V)} (e : H a = some (.dT kvs)) : TyOf K H (.ref a) (.type "dict")
  | ins {a C dx : Addr} {fs : List (Str × V)} (e : H a = some (.ins C dx fs)) (cl : Cls K C) (ha : PySem.W.findIn K (.ref C) "__class__" = some (some (.builtin "object.__class__")))
      (hn : PySem.W.specialIn K (.builtin "object.__class__") "__get__" = some (some (.builtin "getset_descriptor.__get__"))) (htk : PySem.W.takesIn K (.builtin "object.__class__") = some true)
      (hm : PySem.W.mroIn K C (.type "object") = some true) : TyOf K H (.ref a) (.ref C)
end
end L2
namespace L2
open PySem PySem.Spec PyProof.Rows
structure Room (k : Nat) (A : Around) : Prop where
  hd : A.handled = none
  dp : A.depth + 3 * k + 5 < recursionLimit
  un : A.units + 16 * k + 200 < cLine
theorem Room.mono {j k : Nat} {A : Around} (r : Room k A) (h : j <= k) : Room j A := ⟨r.hd, by have := r.dp; omega, by have := r.un; omega⟩
theorem Room.deeper {k : Nat} {A : Around} (r : Room (k + 1) A) (env : Env) : Room k (A.deeper env) :=
  ⟨r.hd, by have := r.dp; show A.depth + 1 + 3 * k + 5 < _; omega, by have := r.un; show A.units + 3 + 16 * k + 200 < _; omega⟩
theorem Room.in1 {k : Nat} {A : Around} (r : Room (k + 1) A) : Room k A.in1 :=
  ⟨r.hd, by have := r.dp; show A.depth + 3 * k + 5 < _; omega, by have := r.un; show A.units + 1 + 16 * k + 200 < _; omega⟩
theorem Room.depth {k : Nat} {A : Around} (r : Room k A) : A.depth < recursionLimit := by have := r.dp; omega
theorem Room.units {k : Nat} {A : Around} (r : Room k A) : A.units + 64 < cLine := by have := r.un; omega
noncomputable def tNil : TA := fun _ H Q => Q [] H
noncomputable def tCons (ta : TE) (tr : TA) : TA := fun σ H Q => ta σ H fun x H1 => tr σ H1 fun xs H2 => Q (x :: xs) H2
section
variable {X : Cx} {e : Expr} {es : List Expr} {te : TE} {t : TA} {pos : Pos}
theorem pa_nil : PA X [] tNil := fun _ _ _ _ H Q I h => Calls.spliced_nil ⟨[], H, I, .nil, h⟩
theorem pa_cons (ha : PE X e te) (hr : PA X es t) (hs : starEach (e :: es) X.env = (false, eval e X.env) :: starEach es X.env := by rfl) : PA X (e :: es) (tCons te t) := by
  intro pos pins s σ H Q I h
  rw [hs]
  show wpAny _ _ (spliced ((false, eval e X.env) :: backTo pos (starEach es X.env))) _ _ s
  refine Calls.spliced_cons (thn (ha pins s σ H _ I h) fun u s1 ⟨x, H1, I1, r1, q1⟩ => ?_)
  exact thn (hr pos pins s1 σ H1 _ I1 q1) fun us s2 ⟨xs, H2, I2, r2, q2⟩ => ⟨x :: xs, H2, I2, .cons r1 r2, q2⟩
noncomputable def tTup (t : TA) : TE := fun σ H Q => t σ H fun xs H1 => xs.length <= sizeLine /\ ∀ p, H1 p = none -> Q (.ref p) (upd H1 p (.tup xs))
noncomputable def tLst (t : TA) : TE := fun σ H Q => t σ H fun xs H1 => xs.length <= sizeLine /\ ∀ p, H1 p = none -> Q (.ref p) (upd H1 p (.lst xs))
theorem pe_tup {x1} (h : PA X es t) : PE X (.Tuple es x1 pos) (tTup t) := by
  intro pins s σ H Q I hq
  refine wpAny_Tuple_spliced (thn (h pos pins s σ H _ I hq) fun us s1 ⟨xs, H1, I1, r, z, q⟩ => ⟨by rw [<- r.length]; exact z, ?_⟩)
  have hf : H1 s1.heap.objs.size = none := I1.hok.fresh (Nat.le_refl _)
  refine ⟨.ref s1.heap.objs.size, upd H1 s1.heap.objs.size (.tup xs), I1.laid (t' := s1.toks) (fun b u e => Heap.get?_push_of_some _ e) (Nat.le_refl _) ?_, rfl, q _ hf⟩
  exact ⟨z, us, r, ⟨_, Heap.get?_push_size _ rfl, rfl, _, rfl⟩⟩
theorem pe_lst (h : PA X es t) : PE X (.List es pos) (tLst t) := by
  intro pins s σ H Q I hq
  refine wpAny_List_spliced (thn (h pos pins s σ H _ I hq) fun us s1 ⟨xs, H1, I1, r, z, q⟩ => ⟨by rw [<- r.length]; exact z, ?_⟩)
  have hf : H1 s1.heap.objs.size = none := I1.hok.fresh (Nat.le_refl _)
  refine ⟨.ref s1.heap.objs.size, upd H1 s1.heap.objs.size (.lst xs), I1.laid (t' := s1.toks) (fun b u e => Heap.get?_push_of_some _ e) (Nat.le_refl _) ?_, rfl, q _ hf⟩
  exact ⟨z, us, 0, r, Heap.get?_push_size _ rfl⟩
end
noncomputable abbrev Sp := List V -> Hp -> VK -> XK -> Prop
noncomputable abbrev CXT := List Env -> Hp -> Shared -> XK -> Value -> Shared -> Prop
structure Env0 (P : Program) (w : World) (K : PySem.W.Frag) (mg : Str -> Option Value) (base : Heap) (A : Around) (outer : List Env) (s : Shared) (H : Hp) : Prop where
  frames : A.frames = some outer
  mod : Mod K mg base
  bs : ∀ b o, base.get? b = some o -> s.heap.get? b = some o /\ H b = none
  bsz : base.objs.size <= s.heap.objs.size
  funs : s.heap.FunFrames base outer
  frf : ∀ b ∈ frs outer, H b = none
  hok : HOk P w H s.heap
  bare : AllBare s.gens
noncomputable def CE (outer : List Env) (P : Program) (w : World) (H : Hp) (s : Shared) (Q : VK) (u : Value) (s' : Shared) : Prop :=
  ∃ v H', s'.os = s.os /\ AllBare s'.gens /\ Un (frs outer) [] H H' s.heap s'.heap /\ HOk P w H' s'.heap /\ RelV v u /\ Q v H'
noncomputable def CR (CX : CXT) (outer : List Env) (P : Program) (w : World) (H : Hp) (s : Shared) (Q : VK) (E : XK) (r : Result) (s' : Shared) : Prop :=
  match r with
  | .ok (.ret u) => CE outer P w H s Q u s'
  | .ok _ => False
  | .error e => CX outer H s E e s'
structure FnOk (P : Program) (w : World) (K : PySem.W.Frag) (mg : Str -> Option Value) (base : Heap) (CX : CXT) (k : Nat) (f : Addr) (fd : FuncData) (ps : List Str) (sp : Sp) : Prop where
  len : ∀ vs H Q E, sp vs H Q E -> vs.length = ps.length
  run : ∀ (A : Around) (outer : List Env) (s : Shared) (H : Hp) (args : Args) (us : List Value) (vs : List V) (Q : VK) (E : XK), Room k A -> Env0 P w K mg base A outer s H -> BindsTo s fd args (ps.zip us) -> Vals vs us -> sp vs H Q E ->
    codeAny (model P w) A (.call (.ref f) args) (CR CX outer P w H s Q E) s
theorem FnOk.mono {P : Program} {w : World} {K : PySem.W.Frag} {mg : Str -> Option Value} {base : Heap} {CX : CXT} {j k : Nat} {f : Addr} {fd : FuncData} {ps : List Str} {sp : Sp} (F : FnOk P w K mg base CX j f fd ps sp) (h : j <= k) :
    FnOk P w K mg base CX k f fd ps sp := ⟨F.len, fun A outer s H args us vs Q E hr => F.run A outer s H args us vs Q E (hr.mono h)⟩
theorem FnOk.imp {P : Program} {w : World} {K : PySem.W.Frag} {mg : Str -> Option Value} {base : Heap} {CX : CXT} {k : Nat} {f : Addr} {fd : FuncData} {ps : List Str} {sp sp' : Sp} (F : FnOk P w K mg base CX k f fd ps sp)
    (h : ∀ vs H Q E, sp' vs H Q E -> sp vs H Q E) : FnOk P w K mg base CX k f fd ps sp' :=
  ⟨fun vs H Q E q => F.len vs H Q E (h _ _ _ _ q), fun A outer s H args us vs Q E hr he hb hv hs => F.run A outer s H args us vs Q E hr he hb hv (h _ _ _ _ hs)⟩
theorem Env0.in1 {P : Program} {w : World} {K : PySem.W.Frag} {mg : Str -> Option Value} {base : Heap} {A : Around} {outer : List Env} {s : Shared} {H : Hp} (e : Env0 P w K mg base A outer s H) :
    Env0 P w K mg base A.in1 outer s H := ⟨e.frames, e.mod, e.bs, e.bsz, e.funs, e.frf, e.hok, e.bare⟩
section
variable {X : Cx} {pins : List (Addr × Obj)} {σ : St} {H : Hp} {s s' : Shared}
theorem Inv.env0 (I : Inv X pins σ H s) : Env0 X.prog X.w X.K X.mg X.base X.A X.stack s H :=
  ⟨I.ok.frames, I.ok.mod, I.bs, Nat.le_trans I.ok.bsz I.sz, I.stack, I.stkFree, I.hok, I.bare⟩
theorem Inv.after {Q : VK} {u : Value} (I : Inv X pins σ H s) (h : CE X.stack X.prog X.w H s Q u s') : EP X pins σ Q u s' := by
  obtain ⟨v, H', os, bare, un, hok, r, q⟩ := h
  obtain ⟨hh, g, d, t, os'⟩ := s'
  obtain rfl : os' = s.os := os
  exact ⟨v, H', I.call (h' := hh) (g' := g) (d' := d) (t' := t) (ch := []) un hok bare (fun b z => absurd z (by simp)), r, q⟩
end
noncomputable def Binds (K : PySem.W.Frag) (fd : FuncData) (ps : List Str) (ds : List Value) : Prop :=
  ∀ (s : Shared) (us : List Value), K.In s.heap -> (us ++ ds).length = ps.length -> BindsTo s fd ⟨us, []⟩ (ps.zip (us ++ ds))
theorem Binds.all {K : PySem.W.Frag} {fd : FuncData} {ps : List Str} (h : ∀ us : List Value, us.length = ps.length -> bindArgs fd ⟨us, []⟩ = pure (ps.zip us)) : Binds K fd ps [] := fun s us _ hl => by
  rw [List.append_nil] at hl ⊢
  exact .of_eq (h us hl)
section
variable {X : Cx} {CX : CXT} {k : Nat} {f C : Addr} {fd : FuncData} {ps : List Str} {sp : Sp} {dvs : List V} {ds : List Value} {E : XK} {x m : Str} {p pos apos : Pos} {e o : Expr} {es : List Expr} {ta : TE} {t : TA}
structure Mk (K : PySem.W.Frag) (C f : Addr) : Prop where
  makes : PySem.W.makesIn K C = true
  init : PySem.W.findIn K (.ref C) "__init__" = some (some (.ref f))
  fn : PySem.W.isFn K (.ref f) = true
  kp : PySem.W.keepIn K (.ref C) = true
end
section
variable {X : Cx} {CX : CXT} {k : Nat} {f C : Addr} {fd : FuncData} {ps ks : List Str} {sp : Sp} {E : XK} {x m : Str} {p pos apos kpos : Pos} {e o : Expr} {es : List Expr} {kws : List Keyword} {te ta : TE} {t tk : TA} {nm : Option Str}
structure KBinds (K : PySem.W.Frag) (fd : FuncData) (ps ks : List Str) (g : List Value -> List Value -> List Value) (gV : List V -> List V -> List V) : Prop where
  to : ∀ (s : Shared) (us ws : List Value), K.In s.heap -> (g us ws).length = ps.length -> BindsTo s fd ⟨us, ks.zip ws⟩ (ps.zip (g us ws))
  rel : ∀ {vs : List V} {us : List Value} {zs : List V} {ws : List Value}, Vals vs us -> Vals zs ws -> Vals (gV vs zs) (g us ws)
variable {g : List Value -> List Value -> List Value} {gV : List V -> List V -> List V}
end
structure FnScope (N P : List Str) (sc : Scope) : Prop where
  kind : sc.kind = .function
  co : sc.isCoroutine = false
  gen : sc.isGenerator = false
  nd : N.Nodup
  pre : N.take P.length = P
  par : ∀ x ∈ P, sc.names.lookup x = some .local \/ sc.names.lookup x = some .cell
  nofree : ∀ y ∈ sc.names, y.2 ≠ .free
theorem bindL_out {kindOf : Str -> Option NameKind} {x : Str} : ∀ {binds : List (Str × Value)} {m : Str -> Option Value}, (∀ v, (x, v) ∉ binds) -> bindL kindOf binds m x = m x
  | [], _, _ => rfl
  | (n, v) :: r, m, h => by
    unfold bindL
    rw [bindL_out fun w hw => h w (List.mem_cons_of_mem _ hw)]
    split
    · have : x ≠ n := by rintro rfl; exact h v List.mem_cons_self
      simp [this]
    · rfl
theorem bindC_out {kindOf : Str -> Option NameKind} {x : Str} : ∀ {binds : List (Str × Value)} {m : Str -> Option Value}, (∀ v, (x, v) ∉ binds) -> bindC kindOf binds m x = m x
  | [], _, _ => rfl
  | (n, v) :: r, m, h => by
    unfold bindC
    rw [bindC_out fun w hw => h w (List.mem_cons_of_mem _ hw)]
    split
    · rfl
    · have : x ≠ n := by rintro rfl; exact h v List.mem_cons_self
      simp [this]
theorem bindL_get {kindOf : Str -> Option NameKind} {x : Str} {v : Value} : ∀ {P : List Str} {vs : List Value} {i : Nat} {m : Str -> Option Value}, P.Nodup -> P[i]? = some x -> vs[i]? = some v -> kindOf x = some .local ->
    bindL kindOf (P.zip vs) m x = some v
  | [], _, _, _, _, h, _, _ => by simp at h
  | _ :: _, [], _, _, _, _, h, _ => by simp at h
  | p :: P, w :: vs, 0, m, nd, h1, h2, hk => by
    simp at h1 h2; subst h1; subst h2
    show bindL kindOf ((p, w) :: P.zip vs) m p = _
    unfold bindL
    rw [bindL_out fun v hv => (List.nodup_cons.mp nd).1 (List.of_mem_zip hv).1, if_pos hk]
    simp
  | p :: P, w :: vs, i + 1, m, nd, h1, h2, hk => by
    show bindL kindOf ((p, w) :: P.zip vs) m x = _
    unfold bindL
    exact bindL_get (i := i) (List.nodup_cons.mp nd).2 (by simpa using h1) (by simpa using h2) hk
theorem bindC_get {kindOf : Str -> Option NameKind} {x : Str} {v : Value} : ∀ {P : List Str} {vs : List Value} {i : Nat} {m : Str -> Option Value}, P.Nodup -> P[i]? = some x -> vs[i]? = some v -> kindOf x ≠ some .local ->
    bindC kindOf (P.zip vs) m x = some v
  | [], _, _, _, _, h, _, _ => by simp at h
  | _ :: _, [], _, _, _, _, h, _ => by simp at h
  | p :: P, w :: vs, 0, m, nd, h1, h2, hk => by
    simp at h1 h2; subst h1; subst h2
    show bindC kindOf ((p, w) :: P.zip vs) m p = _
    unfold bindC
    rw [bindC_out fun v hv => (List.nodup_cons.mp nd).1 (List.of_mem_zip hv).1, if_neg hk]
    simp
  | p :: P, w :: vs, i + 1, m, nd, h1, h2, hk => by
    show bindC kindOf ((p, w) :: P.zip vs) m x = _
    unfold bindC
    exact bindC_get (i := i) (List.nodup_cons.mp nd).2 (by simpa using h1) (by simpa using h2) hk
noncomputable def start (N : List Str) (vs : List V) : St := vs.map some ++ List.replicate (N.length - vs.length) none
noncomputable def cxOf (CX : CXT) (P : Program) (w : World) (K : PySem.W.Frag) (mg : Str -> Option Value) (base : Heap) (N : List Str) (qual : Str) (scope : Scope) (f : Addr) (cd : Value) (A : Around) (outer : List Env) (s : Shared) (H : Hp) (E : XK) : Cx where
  prog := P
  w := w
  K := K
  mg := mg
  base := base
  A := A.deeper (envOfC qual scope s.heap.objs.size f cd)
  N := N
  s₀ := s
  H₀ := H
  env := envOfC qual scope s.heap.objs.size f cd
  outer := outer
  stack := envOfC qual scope s.heap.objs.size f cd :: outer
  ex := []
  calm := true
  fn := fun _ => true
  pn := []
  xe := fun e s' => wpAny (model P w) (A.deeper (envOfC qual scope s.heap.objs.size f cd)) (leaving (envOfC qual scope s.heap.objs.size f cd) e) (fun _ s'' => CX outer H s E e s'') (fun e' s'' => CX outer H s E e' s'') s'
theorem cell_has {sc : Scope} {n : Nat} {x : Str} (h : sc.names.lookup x = some .cell) : ∃ c, (cellsFrom n sc.names []).lookup x = some c := by
  have q := PySem.W.cellsFrom_some sc.names n [] (.inl h)
  exact Option.isSome_iff_exists.mp q
theorem inv_start {CX : CXT} {P : Program} {w : World} {K : PySem.W.Frag} {mg : Str -> Option Value} {base : Heap} {N ps : List Str} {qual : Str} {scope : Scope} {f : Addr} {cd : Value} {A : Around} {outer : List Env} {s s1 : Shared} {H : Hp} {E : XK} {us : List Value} {vs : List V}
    (S : FnScope N ps scope) (hd : A.handled = none) (e0 : Env0 P w K mg base A outer s H) (hl : vs.length = ps.length) (r : Vals vs us)
    (x : InCallC s s.heap.objs.size (bindL (envOfC qual scope s.heap.objs.size f cd).kindOf (ps.zip us) fun _ => none) (cellsFrom (s.heap.objs.size + 1) scope.names []) (bindC (envOfC qual scope s.heap.objs.size f cd).kindOf (ps.zip us) fun _ => none) s1) :
    Inv (cxOf CX P w K mg base N qual scope f cd A outer s H E) [] (start N vs) H s1 := by
  have hpl : ps.length <= N.length := by have := congrArg List.length S.pre; rw [List.length_take] at this; omega
  obtain ⟨h1, tk, rfl, hk⟩ := x.done
  have noA : ∀ b : Addr, b ∉ (cxOf CX P w K mg base N qual scope f cd A outer s H E).ex := fun b z => absurd (show b ∈ ([] : List Addr) from z) (by simp)
  refine ⟨⟨e0.mod, S.kind, rfl, rfl, Nat.le_refl _, fun y z c h1 h2 => ?_, fun y hy => ?_, fun y c _ h => ?_, fun _ => hd, Around.frames_deeper e0.frames, .inr ⟨rfl, rfl⟩, fun b z => absurd z (noA b), e0.bs, e0.bsz, fun b _ _ => noA b, fun b z => absurd z (noA b), e0.funs, e0.frf⟩,
    rfl, e0.bare, Un.kept hk, ⟨_, x.toInCall.ns, fun i y v h1 h2 h3 => ?_⟩, fun y c h => ⟨_, x.cell y c h⟩, e0.hok.fresh (Nat.le_refl _), fun y c h => ?_, fun p hp => absurd (show p ∈ ([] : List (Addr × Obj)) from hp) (by simp), e0.hok.kept hk, ?_⟩
  · exact name_of_addr x.apart (PySem.mem_of_lookup h1) (PySem.mem_of_lookup h2)
  · have hy : scope.names.lookup y = some .cell \/ scope.names.lookup y = some .free := hy
    rcases hy with hy | hy
    · exact cell_has hy
    · exact absurd rfl (S.nofree _ (PySem.mem_of_lookup hy))
  · exact Nat.le_of_lt (x.above y c (PySem.mem_of_lookup h))
  · have hi : i < vs.length := by
      unfold start at h2
      by_cases hi : i < vs.length
      · exact hi
      · rw [List.getElem?_append_right (by simpa using hi)] at h2
        rw [List.getElem?_replicate] at h2
        split at h2 <;> cases h2
    have ha : vs[i]? = some v := by
      unfold start at h2
      rw [List.getElem?_append_left (by simpa using hi), List.getElem?_map] at h2
      cases e : vs[i]? with
      | none => rw [e] at h2; cases h2
      | some a => rw [e] at h2; cases h2; rfl
    obtain ⟨u, hu, rv⟩ := r.get ha
    have hp : ps[i]? = some y := by
      rw [<- S.pre, List.getElem?_take_of_lt (by omega)]; exact h1
    have ndP : ps.Nodup := by rw [<- S.pre]; exact S.nd.sublist (List.take_sublist _ _)
    refine ⟨u, rv, ?_⟩
    rcases S.par y (List.mem_of_getElem? hp) with k | k
    · exact .inl ⟨k, bindL_get ndP hp hu k⟩
    · obtain ⟨c, e⟩ := cell_has (n := s.heap.objs.size + 1) k
      refine .inr ⟨.inl k, c, e, ?_⟩
      have q := x.cell y c e
      rw [bindC_get ndP hp hu (by show scope.names.lookup y ≠ _; rw [k]; decide)] at q
      exact q
  · exact e0.hok.fresh (Nat.le_of_lt (x.above y c (PySem.mem_of_lookup h)))
  · unfold start
    show _ = N.length
    rw [List.length_append, List.length_map, List.length_replicate]
    omega
theorem fn_of {CX : CXT} {P : Program} {w : World} {K : PySem.W.Frag} {mg : Str -> Option Value} {base : Heap} {k : Nat} {f : Addr} {name qual : Str} {params : Arguments} {body : List Stmt} {scope : Scope} {dV kV doc pm cdv ct oc : Value} {an od : Option Addr}
    {osl : Array (Option Value)} {N ps : List Str} {sp : Sp} (lk : K.lookup f = some ⟨oc, od, .func (PySem.W.fnOf name qual params body scope dV kV doc pm an cdv ct), osl⟩) (hcd : PySem.W.codeIn K cdv qual = true) (S : FnScope N ps scope)
    (len : ∀ vs H Q E, sp vs H Q E -> vs.length = ps.length)
    (hbody : ∀ (A : Around) (outer : List Env) (s : Shared) (H : Hp) (vs : List V) (Q : VK) (E : XK), Room k (A.deeper (envOfC qual scope s.heap.objs.size f cdv)) -> sp vs H Q E ->
      ∃ t, PSs (cxOf CX P w K mg base N qual scope f cdv A outer s H E) body t /\ t { nx := fun _ H' => Q .non H', rt := Q } (start N vs) H) :
    FnOk P w K mg base CX (k + 1) f (PySem.W.fnOf name qual params body scope dV kV doc pm an cdv ct) ps sp := by
  refine ⟨len, fun A outer s H args us vs Q E hr e0 hb r hsp => ?_⟩
  have hl := len _ _ _ _ hsp
  have KX : K.In s.heap := e0.mod.kin.keeps fun b o e => (e0.bs b o e).1
  have lim : s.heap.NoLimit := e0.mod.nolimit.keeps fun b o e => (e0.bs b o e).1
  have hkind : ∀ y ∈ ps.zip us, scope.names.lookup y.1 = some .local \/ (scope.names.lookup y.1 = some .cell /\ ((cellsFrom (s.heap.objs.size + 1) scope.names []).lookup y.1).isSome = true) := fun ⟨n, v⟩ hy => by
    rcases S.par n (List.of_mem_zip hy).1 with q | q
    · exact .inl q
    · exact .inr ⟨q, PySem.W.cellsFrom_some _ _ _ (.inl q)⟩
  refine codeAny_call_function hr.depth (KX _ _ lk) rfl S.co S.gen rfl (PySem.W.codeRec_of KX hcd) (hb _ _ _ _ ?_)
  refine wpAny_newFunctionEnv_cells S.kind hkind fun env he s1 x => ?_
  subst he
  refine ⟨lim.keeps x.toInCall.keep, codeAny_func ?_⟩
  obtain ⟨t, ht, hq⟩ := hbody A outer s H vs Q E (hr.deeper _) hsp
  have I : Inv (cxOf CX P w K mg base N qual scope f cdv A outer s H E) [] (start N vs) H s1 := inv_start S hr.hd e0 hl r x
  refine wpAny_mono (ht [] s1 (start N vs) H _ I hq) (fun fl s' hs => ?_) fun e s' hs => hs
  have fin : ∀ {σ' : St} {H' : Hp} {v : V} {u : Value}, Inv (cxOf CX P w K mg base N qual scope f cdv A outer s H E) [] σ' H' s' -> RelV v u -> Q v H' -> CE outer P w H s Q u s' :=
    fun {σ' H' v u} J rv q => ⟨v, H', J.os, J.bare, J.base, J.hok, rv, q⟩
  cases fl with
  | ret u =>
    obtain ⟨v, σ', H', J, rv, q⟩ := hs
    exact fin J rv q
  | next =>
    obtain ⟨σ', H', J, q⟩ := hs
    exact fin (v := V.non) (u := Value.none) J rfl q
  | brk =>
    obtain ⟨_, _, _, q⟩ := hs
    exact False.elim q
  | cont =>
    obtain ⟨_, _, _, q⟩ := hs
    exact False.elim q
end L2
namespace L2
open PySem PySem.Spec PyProof.Rows
section
variable {X : Cx} {x : Str} {p pos : Pos} {e : Expr} {es : List Expr} {t : TA} {id T : String} {r : List V -> Hp -> VK -> Prop}
noncomputable def tCB (r : List V -> Hp -> VK -> Prop) (t : TA) : TE := fun σ H Q => t σ H fun vs H1 => r vs H1 Q
theorem pe_callB (hc : CallR X (.builtin id) r) (hg : Gl X x) (hm : X.mg x = none) (hv : bootBuiltins x = some (.builtin id)) (ha : PA X (e :: es) t) (hn : x ≠ "__name__" := by decide) (hdb : (x == ("__debug__" : Str)) = false := by decide)
    (he : starEach (e :: es) X.env = (false, eval e X.env) :: starEach es X.env := by rfl) (hpl : (backTo pos (starEach es X.env)).any (·.1) = false := by rfl) : PE X (.Call (.Name x p) (e :: es) [] pos) (tCB r t) := by
  intro pins s σ H Q I h
  refine wpAny_Call_Name_kw (ld_blt I hg hm hv ?_ hn hdb)
  exact PyProof.Rows.callWith_builtin1 (thn (ha pos pins s σ H _ I h) fun us s1 ⟨vs, H1, I1, r1, q1⟩ => hc pins s1 σ H1 vs us Q I1 r1 q1) he hpl
theorem pe_callTy (hc : CallR X (.type T) r) (hg : Gl X x) (hm : X.mg x = none) (hv : bootBuiltins x = some (.type T)) (ha : PA X (e :: es) t) (hn : x ≠ "__name__" := by decide) (hdb : (x == ("__debug__" : Str)) = false := by decide)
    (he : starEach (e :: es) X.env = (false, eval e X.env) :: starEach es X.env := by rfl) (hpl : (backTo pos (starEach es X.env)).any (·.1) = false := by rfl) : PE X (.Call (.Name x p) (e :: es) [] pos) (tCB r t) := by
  intro pins s σ H Q I h
  refine wpAny_Call_Name_kw (ld_blt I hg hm hv ?_ hn hdb)
  exact PyProof.Rows.callWith_type1 (thn (ha pos pins s σ H _ I h) fun us s1 ⟨vs, H1, I1, r1, q1⟩ => hc pins s1 σ H1 vs us Q I1 r1 q1) he hpl
end
end L2
namespace HT
open PySem PyProof.Rows
section
open PySem.SeqAt
open PySem.AutoSeq1 (wpAny_loadPart')
open PySem.MeetsSeq PySem.MeetsSeq2 PySem.MeetsSeq3
end
section
variable {prog : Program} {w : World} {A : Around} {E : Value -> Shared -> Prop} {s : Shared}
theorem cat_tup {t b : Addr} {vs ws : List Value} {Q : Value -> Shared -> Prop} (ht : IsTup s.heap t vs.toArray) (hb : IsTup s.heap b ws.toArray) (hv : vs ≠ [])
    (h1 : ws = [] -> Q (.ref t) s) (h2 : ws ≠ [] -> Q (.ref s.heap.objs.size) { s with heap := s.heap.push { cls := .type "tuple", data := .seq (vs ++ ws).toArray } })
    (hsz : vs.length + ws.length <= sizeLine) : wpAny (model prog w) A (binaryOp .Add (.ref t) (.ref b)) Q E s := by
  obtain ⟨⟨cls, dd, data, sl⟩, ho, hc, n, hd⟩ := id ht
  obtain ⟨⟨cls2, dd2, data2, sl2⟩, ho2, hc2, n2, hd2⟩ := id hb
  simp only at hc hd hc2 hd2
  subst hc hd hc2 hd2
  have e : vs.toArray ++ ws.toArray = (vs ++ ws).toArray := by simp
  by_cases hw : ws = []
  · exact concat_meets ⟨_, ho, rfl⟩ ⟨_, ho2, rfl⟩ noFill_tuple_add seq_tuple_add PySem.F.slot_tuple_add PySem.F.entry_tuple_add (PySem.F.args_tuple_add_2 _ _)
      (tuple_addW1 t b vs.toArray ws.toArray n n2 dd dd2 sl sl2 (by simpa using hv) (by simp [hw])) ⟨ho, ho2, h1 hw⟩
  · refine concat_meets ⟨_, ho, rfl⟩ ⟨_, ho2, rfl⟩ noFill_tuple_add seq_tuple_add PySem.F.slot_tuple_add PySem.F.entry_tuple_add (PySem.F.args_tuple_add_2 _ _)
      (tuple_addW2 t b vs.toArray ws.toArray n n2 dd dd2 sl sl2 (by simpa using hv) (by simpa using hw) (by rw [List.size_toArray, List.size_toArray]; exact hsz)) ⟨ho, ho2, ?_⟩
    rw [e]
    exact h2 hw
noncomputable def sIx (n d : Nat) : Option Int -> Nat
  | none => d
  | some v => if v < 0 then (v + (n : Int)).toNat else min v.toNat n
theorem sIx_none (n d : Nat) : sIx n d none = d := rfl
theorem sIx_le (n d : Nat) (hd : d <= n) (o : Option Int) : sIx n d o <= n := by
  cases o with
  | none => exact hd
  | some v =>
    show (if v < 0 then (v + (n : Int)).toNat else min v.toNat n) <= n
    by_cases hv : v < 0
    · rw [if_pos hv]; omega
    · rw [if_neg hv]; exact Nat.min_le_right _ _
theorem clip_eq (v : Int) (n d : Nat) : (if v < 0 then max (v + (n : Int)) 0 else min v (n : Int)) = ((sIx n d (some v) : Nat) : Int) := by
  show (if v < 0 then max (v + (n : Int)) 0 else min v (n : Int)) = (((if v < 0 then (v + (n : Int)).toNat else min v.toNat n) : Nat) : Int)
  by_cases hv : v < 0
  · simp only [if_pos hv]; omega
  · simp only [if_neg hv]; omega
theorem adjust_gen (lo hi : Option Int) (n : Nat) : Builtin.Slice.sliceAdjust lo hi 1 (n : Int) = (((sIx n 0 lo : Nat) : Int), ((sIx n n hi : Nat) : Int)) := by
  have h1 : ¬ ((1 : Int) < 0) := by omega
  unfold Builtin.Slice.sliceAdjust
  simp only [h1, if_false]
  refine Prod.ext ?_ ?_
  · cases lo with
    | none => rfl
    | some v => exact clip_eq v n 0
  · cases hi with
    | none => rfl
    | some v => exact clip_eq v n n
theorem places_gen (i j : Nat) : Builtin.Slice.slicePlaces (i : Int) (j : Int) 1 = j - i := by
  unfold Builtin.Slice.slicePlaces
  have h1 : (1 : Int) > 0 := by omega
  simp only [h1, if_true, Int.ediv_one]
  split <;> omega
theorem slicePart_ {v : Value} {o : Option Int} {Q : Option Int -> Shared -> Prop} (p : IsPart v o) (h : Q o s) : wpAny (model prog w) A (Builtin.Slice.slicePartIndex v) Q E s := by
  cases p with
  | none => exact slicePart_none h
  | int i t => exact slicePart_int h
theorem sliceApplied_gen {sl : Addr} {vl vu : Value} {lo hi : Option Int} {n : Nat} {Q : Int × Int × Nat -> Shared -> Prop} (hs : s.heap.IsSliceOf sl vl vu .none) (pl : IsPart vl lo) (pu : IsPart vu hi)
    (h : Q (((sIx n 0 lo : Nat) : Int), 1, sIx n n hi - sIx n 0 lo) s) : wpAny (model prog w) A (Builtin.Slice.sliceApplied (.ref sl) (pure (n : Int))) Q E s := by
  obtain ⟨os, hos, hcs, hds⟩ := id hs
  unfold Builtin.Slice.sliceApplied Builtin.Slice.sliceFields
  refine wpAny_bind (wpAny_bind (wpAny_field hos hds (x := vl) rfl (wpAny_bind (wpAny_field hos hds (x := vu) rfl (wpAny_bind (wpAny_field hos hds (x := .none) rfl (wpAny_pure ?_)))))))
  refine wpAny_bind (slicePart_none ?_)
  show wpAny _ _ (if ((1 : Int) == 0) = true then _ else _) _ _ s
  rw [if_neg (by decide)]
  refine wpAny_bind (slicePart_ pl (wpAny_bind (slicePart_ pu (wpAny_bind (wpAny_pure ?_)))))
  show wpAny _ _ (match Builtin.Slice.sliceAdjust lo hi 1 (n : Int) with | (lo, hi) => pure (lo, (1 : Int), Builtin.Slice.slicePlaces lo hi 1)) _ _ s
  rw [adjust_gen lo hi n]
  show wpAny _ _ (pure (((sIx n 0 lo : Nat) : Int), (1 : Int), Builtin.Slice.slicePlaces ((sIx n 0 lo : Nat) : Int) ((sIx n n hi : Nat) : Int) 1)) _ _ s
  rw [places_gen]
  exact wpAny_pure h
theorem pick_gen (xs : Array Value) (i k : Nat) : ((List.range k).filterMap fun (m : Nat) => xs[((i : Int) + (m : Int) * 1).toNat]?).toArray = ((xs.toList.drop i).take k).toArray := by
  have e : (fun (m : Nat) => xs[((i : Int) + (m : Int) * 1).toNat]?) = fun m => xs[i + m]? := by
    funext m
    have : ((i : Int) + (m : Int) * 1).toNat = i + m := by omega
    rw [this]
  rw [e]
  have := pick_run xs i k
  rw [List.filterMap_map] at this
  have e2 : ((fun x => xs[x]?) ∘ fun x => i + x) = fun m => xs[i + m]? := rfl
  rw [e2] at this
  rw [this]
theorem getItem_tuple_cut {t sl : Addr} {items : Array Value} {vl vu : Value} {lo hi : Option Int} {Q : Value -> Shared -> Prop} (ht : IsTup s.heap t items) (hs : s.heap.IsSliceOf sl vl vu .none) (pl : IsPart vl lo) (pu : IsPart vu hi)
    (hw : ¬ (sIx items.size 0 lo = 0 /\ sIx items.size items.size hi = items.size))
    (h : Q (.ref s.heap.objs.size) { s with heap := s.heap.push { cls := .type "tuple", data := .seq ((items.toList.drop (sIx items.size 0 lo)).take (sIx items.size items.size hi - sIx items.size 0 lo)).toArray } })
    (hsz : items.size <= sizeLine) : wpAny (model prog w) A (getItem (.ref t) (.ref sl)) Q E s := by
  have htake : sizeOk (.seq ((items.toList.drop (sIx items.size 0 lo)).take (sIx items.size items.size hi - sIx items.size 0 lo)).toArray) := by
    show ((items.toList.drop (sIx items.size 0 lo)).take (sIx items.size items.size hi - sIx items.size 0 lo)).toArray.size <= sizeLine
    rw [List.size_toArray, List.length_take, List.length_drop, Array.length_toList]
    omega
  have hj : sIx items.size items.size hi <= items.size := sIx_le _ _ (Nat.le_refl _) hi
  obtain ⟨os, hos, hcs, hds⟩ := id hs
  have hTs : s.TypeIs (.ref sl) "slice" := ⟨os, hos, hcs⟩
  unfold getItem
  try with_reducible refine wpAny_holding ?_
  first | refine wpAny_bind (wpAny_pure ?_) | skip
  refine wpAny_bind (wpAny_sequenceKey ht.typeIs (by decide) ?_)
  refine wpAny_bind (wpAny_callSpecial?_slot (name := Str.ofString "__getitem__") ht.typeIs PyProof.Rows.slot_tuple_getitem
    (wpAny_call_entry PyProof.Rows.slot_tuple_getitem ht.typeIs entry_tuple_getitem ?_ (args_tuple_getitem _ _)))
  show wpAny _ _ (Builtin.Tuple.tupleItemsOf (.ref t) >>= _) _ _ s
  refine wpAny_bind (tupleItemsOf_ ht ?_)
  refine wpAny_bind (wpAny_typeOf hTs ?_)
  rw [if_pos (by decide)]
  refine wpAny_bind (sliceApplied_gen hs pl pu ?_)
  have hno : ¬ ((((sIx items.size 0 lo : Nat) : Int) == 0 && (1 : Int) == 1 && (sIx items.size items.size hi - sIx items.size 0 lo) == items.size) = true) := by
    intro q
    rw [Bool.and_eq_true, Bool.and_eq_true] at q
    have q1 : ((sIx items.size 0 lo : Nat) : Int) = 0 := eq_of_beq q.1.1
    have q2 : sIx items.size items.size hi - sIx items.size 0 lo = items.size := eq_of_beq q.2
    exact hw ⟨by omega, by omega⟩
  show wpAny _ _ (if (((sIx items.size 0 lo : Nat) : Int) == 0 && (1 : Int) == 1 && (sIx items.size items.size hi - sIx items.size 0 lo) == items.size) = true then _ else _) _ _ s
  rw [if_neg hno, pick_gen]
  first
    | exact wpAny_bind (m := Builtin.Tuple.tupleExact _) (wpAny_newObj_type (wpAny_pure ⟨_, rfl, wpAny_pure h⟩) htake)
    | exact wpAny_bind (m := Builtin.Tuple.tupleExact _) (wpAny_newObj_type (wpAny_bind (wpAny_pure (wpAny_pure ⟨_, rfl, wpAny_pure h⟩))) htake)
    | exact wpAny_bind (wpAny_bind (m := Builtin.Tuple.tupleExact _) (wpAny_newObj_type (wpAny_pure (wpAny_pure ⟨_, rfl, wpAny_pure h⟩)) htake))
    | exact wpAny_bind (wpAny_bind (m := Builtin.Tuple.tupleExact _) (wpAny_newObj_type (wpAny_pure ⟨_, rfl, wpAny_pure h⟩) htake))
end
end HT
namespace L2
open PySem PySem.Spec PyProof.Rows
noncomputable abbrev TO := St -> Hp -> (Option Int -> Hp -> Prop) -> Prop
noncomputable def PO (X : Cx) (e : Option Expr) (t : TO) : Prop :=
  ∀ (pins : List (Addr × Obj)) (s : Shared) (σ : St) (H : Hp) (Q : Option Int -> Hp -> Prop), Inv X pins σ H s -> t σ H Q ->
    wpAny (model X.prog X.w) X.A (evalPart e X.env) (fun u s' => ∃ o H', Inv X pins σ H' s' /\ IsPart u o /\ Q o H') X.xe s
noncomputable def tNoPart : TO := fun _ H Q => Q none H
noncomputable def tPart (t : TE) : TO := fun σ H Q => t σ H fun x H1 => ∃ i, x = .int i /\ Q (some i) H1
section
variable {X : Cx} {e : Expr} {te : TE} {lo hi : Option Expr} {tl th : TO} {pos p2 : Pos}
theorem po_none : PO X none tNoPart := by
  intro pins s σ H Q I h
  rw [evalPart_none]
  exact wpAny_pure ⟨none, H, I, .none, h⟩
theorem po_some (h : PE X e te) : PO X (some e) (tPart te) := by
  intro pins s σ H Q I hw
  rw [evalPart_some]
  refine thn (h pins s σ H _ I hw) fun u s1 ⟨x, H1, I1, r1, q1⟩ => ?_
  obtain ⟨i, rfl, q⟩ := q1
  obtain ⟨t, rfl⟩ := r1
  exact ⟨some i, H1, I1, .int i t, q⟩
noncomputable def SlR (X : Cx) (r : V -> Option Int -> Option Int -> Hp -> VK -> Prop) : Prop :=
  ∀ (pins : List (Addr × Obj)) (s : Shared) (σ : St) (H : Hp) (x : V) (v vl vu : Value) (lo hi : Option Int) (sl : Addr) (Q : VK), Inv X pins σ H s -> RelV x v -> s.heap.IsSliceOf sl vl vu .none -> IsPart vl lo -> IsPart vu hi -> r x lo hi H Q ->
    ∃ T id, typeLookup (.type T) "__getitem__" = pure (some (.builtin id)) /\ s.TypeIs v T /\ wpAny (model X.prog X.w) X.A (getItem v (.ref sl)) (EP X pins σ Q) X.xe s
theorem SlR.or {r r' : V -> Option Int -> Option Int -> Hp -> VK -> Prop} (h : SlR X r) (h' : SlR X r') : SlR X (fun x lo hi H Q => r x lo hi H Q \/ r' x lo hi H Q) := by
  intro pins s σ H x v vl vu lo hi sl Q I rx hs pl pu q
  rcases q with q | q
  · exact h pins s σ H x v vl vu lo hi sl Q I rx hs pl pu q
  · exact h' pins s σ H x v vl vu lo hi sl Q I rx hs pl pu q
noncomputable def tSl (r : V -> Option Int -> Option Int -> Hp -> VK -> Prop) (te : TE) (tl th : TO) : TE := fun σ H Q => te σ H fun x H1 => tl σ H1 fun l H2 => th σ H2 fun u H3 => r x l u H3 Q
theorem pe_slice {r : V -> Option Int -> Option Int -> Hp -> VK -> Prop} (hr : SlR X r) (he : PE X e te) (hl : PO X lo tl) (hu : PO X hi th) : PE X (.Subscript e (.Slice lo hi none p2) pos) (tSl r te tl th) := by
  intro pins s σ H Q I h
  refine Subscript_ (thn (he pins s σ H _ I h) fun v s1 ⟨x, H1, I1, r1, q1⟩ => ?_)
  refine wpAny_Slice (thn (hl pins s1 σ H1 _ I1 q1) fun vl s2 ⟨l, H2, I2, pl, q2⟩ => thn (hu pins s2 σ H2 _ I2 q2) fun vu s3 ⟨u, H3, I3, pu, q3⟩ => ?_)
  rw [evalPart_none]
  refine wpAny_pure ?_
  have I4 : Inv X pins σ H3 { s3 with heap := s3.heap.push { cls := .type "slice", data := .fields #[vl, vu, .none] } } := I3.kept (t' := s3.toks) fun b ob q => Heap.get?_push_of_some _ q
  obtain ⟨T, id, hT, ht, hg⟩ := hr pins { s3 with heap := s3.heap.push { cls := .type "slice", data := .fields #[vl, vu, .none] } } σ H3 x v vl vu l u s3.heap.objs.size Q I4 r1 (Heap.IsSliceOf.new ..) pl pu q3
  show wpAny (model X.prog X.w) X.A (subscriptTail e (.Slice lo hi none p2) v (.ref s3.heap.objs.size)) (EP X pins σ Q) X.xe { s3 with heap := s3.heap.push { cls := .type "slice", data := .fields #[vl, vu, .none] } }
  exact tail_any (ops := [.ref s3.heap.objs.size, v]) ht hT hg (by with_unfolding_all rfl)
noncomputable def cutV (xs : List V) (lo hi : Option Int) : List V := (xs.drop (HT.sIx xs.length 0 lo)).take (HT.sIx xs.length xs.length hi - HT.sIx xs.length 0 lo)
theorem cutV_length (xs : List V) (lo hi : Option Int) : (cutV xs lo hi).length <= xs.length := by
  unfold cutV
  rw [List.length_take, List.length_drop]
  omega
noncomputable def rSlT (K : PySem.W.Frag) : V -> Option Int -> Option Int -> Hp -> VK -> Prop := fun x lo hi H Q => ∃ a xs, x = .ref a /\ SqT K H a xs /\
  ¬ (HT.sIx xs.length 0 lo = 0 /\ HT.sIx xs.length xs.length hi = xs.length) /\ ∀ p, H p = none -> Q (.ref p) (upd H p (.tup (cutV xs lo hi)))
theorem sl_tup : SlR X (rSlT X.K) := by
  intro pins s σ H x v vl vu lo hi sl Q I rx hs pl pu h
  obtain ⟨a, xs, rfl, hx, hw, q⟩ := h
  cases rx
  obtain ⟨its, r, ht, hz⟩ := I.tuple hx
  have hlen : its.toArray.size = xs.length := by rw [List.size_toArray]; exact r.length.symm
  refine ⟨"tuple", _, PyProof.Rows.slot_tuple_getitem.lookup, ht.typeIs, ?_⟩
  refine HT.getItem_tuple_cut ht hs pl pu (by rw [hlen]; exact hw) ?_ (by rw [hlen]; exact hz)
  rw [hlen]
  refine ⟨.ref s.heap.objs.size, _, I.laid (t' := s.toks) (o := .tup (cutV xs lo hi)) (fun b ob q => Heap.get?_push_of_some _ q) (Nat.le_refl _) ?_, rfl, q _ (I.hok.fresh (Nat.le_refl _))⟩
  exact ⟨Nat.le_trans (cutV_length xs lo hi) hz, _, (r.drop (HT.sIx xs.length 0 lo)).take (HT.sIx xs.length xs.length hi - HT.sIx xs.length 0 lo), IsTup.new _ _⟩
noncomputable def rCatT (K : PySem.W.Frag) : R2 := fun x y H Q => ∃ a b xs ys, x = .ref a /\ y = .ref b /\ SqT K H a xs /\ SqT K H b ys /\ xs ≠ [] /\ xs.length + ys.length <= sizeLine /\
  (ys = [] -> Q (.ref a) H) /\ (ys ≠ [] -> ∀ p, H p = none -> Q (.ref p) (upd H p (.tup (xs ++ ys))))
theorem Vals.nil_iff {xs : List V} {us : List Value} (r : Vals xs us) : us = [] ↔ xs = [] := by
  cases r with
  | nil => simp
  | cons _ _ => simp
theorem op_catT : OpR X (binaryOp .Add) (rCatT X.K) := by
  intro pins s σ H x y v u Q I rx ry h
  obtain ⟨a, b, xs, ys, rfl, rfl, ha, hb, hx, hz, q1, q2⟩ := h
  cases rx
  cases ry
  obtain ⟨its, r1, p1, _⟩ := I.tuple ha
  obtain ⟨its2, r2, p2, _⟩ := I.tuple hb
  refine HT.cat_tup p1 p2 (fun z => hx (r1.nil_iff.mp z)) (fun z => ⟨.ref a, H, I, rfl, q1 (r2.nil_iff.mp z)⟩) (fun z => ?_) (by rw [<- r1.length, <- r2.length]; exact hz)
  refine ⟨.ref s.heap.objs.size, _, I.laid (t' := s.toks) (o := .tup (xs ++ ys)) (fun b ob q => Heap.get?_push_of_some _ q) (Nat.le_refl _) ?_, rfl, q2 (fun w => z (r2.nil_iff.mpr w)) _ (I.hok.fresh (Nat.le_refl _))⟩
  exact ⟨by rw [List.length_append]; exact hz, _, r1.append r2, IsTup.new _ _⟩
end
end L2
namespace L2
open PySem PySem.Spec PyProof.Rows
noncomputable def ixN (n : Nat) (i : Int) : Option Nat := if 0 <= i then (if i < n then some i.toNat else none) else if -(n : Int) <= i then some (i + n).toNat else none
noncomputable def atI {α : Type} (xs : List α) (i : Int) : Option α := (ixN xs.length i).bind fun j => xs[j]?
theorem ixN_seq {n : Nat} {i : Int} {j : Nat} (h : ixN n i = some j) : seqIndex? i n = some j /\ j < n /\ -(n : Int) <= i /\ i < n := by
  unfold ixN at h
  by_cases h0 : 0 <= i
  · rw [if_pos h0] at h
    by_cases h1 : i < n
    · rw [if_pos h1] at h
      have e : i.toNat = j := Option.some.inj h
      exact ⟨by rw [seqIndex_of h0 h1, e], by omega, by omega, h1⟩
    · rw [if_neg h1] at h; cases h
  · rw [if_neg h0] at h
    by_cases h1 : -(n : Int) <= i
    · rw [if_pos h1] at h
      have e : (i + n).toNat = j := Option.some.inj h
      exact ⟨by rw [seqIndex_neg (by omega) h1, e], by omega, h1, by omega⟩
    · rw [if_neg h1] at h; cases h
theorem atI_get {α : Type} {xs : List α} {i : Int} {v : α} (h : atI xs i = some v) : ∃ j, seqIndex? i xs.length = some j /\ xs[j]? = some v /\ j < xs.length /\ -(xs.length : Int) <= i /\ i < xs.length := by
  unfold atI at h
  cases e : ixN xs.length i with
  | none => rw [e] at h; cases h
  | some j =>
    rw [e] at h
    obtain ⟨h1, h2, h3, h4⟩ := ixN_seq e
    exact ⟨j, h1, h, h2, h3, h4⟩
theorem atI_nat {α : Type} {xs : List α} {j : Nat} {v : α} (h : xs[j]? = some v) : atI xs (j : Int) = some v := by
  have hj : j < xs.length := (List.getElem?_eq_some_iff.mp h).1
  have e : ixN xs.length (j : Int) = some j := by
    unfold ixN
    rw [if_pos (by omega), if_pos (by omega)]; simp
  unfold atI; rw [e]; exact h
noncomputable def PlainIx (b : Expr) : Prop := ∀ o i, subscripted b false o i = operate [o, i] (getItem o i)
noncomputable def IxR (X : Cx) (r : R2) : Prop :=
  ∀ (value slice : Expr) (pins : List (Addr × Obj)) (s : Shared) (σ : St) (H : Hp) (x y : V) (v u : Value) (Q : VK), Inv X pins σ H s -> RelV x v -> RelV y u -> r x y H Q ->
    subscripted slice false v u = operate [v, u] (getItem v u) -> wpAny (model X.prog X.w) X.A (subscriptTail value slice v u) (EP X pins σ Q) X.xe s
noncomputable def MtR (X : Cx) (id : String) (r : V -> List V -> Hp -> VK -> Prop) : Prop :=
  ∀ (pins : List (Addr × Obj)) (s : Shared) (σ : St) (H : Hp) (x : V) (xs : List V) (v : Value) (us : List Value) (Q : VK), Inv X pins σ H s -> RelV x v -> Vals xs us -> r x xs H Q ->
    wpAny (model X.prog X.w) X.A (call (.builtin id) (v :: us)) (EP X pins σ Q) X.xe s
section
variable {X : Cx} {a b : Expr} {ta tb : TE} {pos : Pos}
theorem IxR.or {r r' : R2} (h : IxR X r) (h' : IxR X r') : IxR X (fun x y H Q => r x y H Q \/ r' x y H Q) := by
  intro value slice pins s σ H x y v u Q I rx ry q hs
  rcases q with q | q
  · exact h value slice pins s σ H x y v u Q I rx ry q hs
  · exact h' value slice pins s σ H x y v u Q I rx ry q hs
theorem MtR.or {id : String} {r r' : V -> List V -> Hp -> VK -> Prop} (h : MtR X id r) (h' : MtR X id r') : MtR X id (fun x xs H Q => r x xs H Q \/ r' x xs H Q) := by
  intro pins s σ H x xs v us Q I rx rs q
  rcases q with q | q
  · exact h pins s σ H x xs v us Q I rx rs q
  · exact h' pins s σ H x xs v us Q I rx rs q
theorem pe_ix {r : R2} (hr : IxR X r) (ha : PE X a ta) (hb : PE X b tb) (hs : PlainIx b) : PE X (.Subscript a b pos) (tOp r ta tb) := by
  intro pins s σ H Q I h
  exact Subscript_ (binT ha hb I h fun v u s2 x y H2 I2 rx ry q => hr a b pins s2 σ H2 x y v u Q I2 rx ry q (hs _ _))
noncomputable def rIxL (K : PySem.W.Frag) : R2 := fun x y H Q => ∃ p xs i v, x = .ref p /\ y = .int i /\ SqL K H p xs /\ atI xs i = some v /\ Q v H
noncomputable def rIxT (K : PySem.W.Frag) : R2 := fun x y H Q => ∃ p xs i v, x = .ref p /\ y = .int i /\ SqT K H p xs /\ atI xs i = some v /\ Q v H
noncomputable def rIxS : R2 := fun x y H Q => ∃ z i c, x = .str z /\ y = .int i /\ z.length <= sizeLine /\ atI z.cps.toList i = some c /\ Q (.str ⟨#[c]⟩) H
theorem ix_list : IxR X (rIxL X.K) := by
  intro value slice pins s σ H x y v u Q I rx ry h hs
  obtain ⟨p, xs, i, z, rfl, rfl, hq, he, q⟩ := h
  cases rx
  obtain ⟨t, rfl⟩ := ry
  obtain ⟨its, r, pl, hz⟩ := I.list hq
  obtain ⟨j, h1, h2, h3, h4, h5⟩ := atI_get he
  obtain ⟨w, ew, rw'⟩ := r.get h2
  have hl := r.length
  have hn := line63
  have fin : EP X pins σ Q w s := ⟨z, H, I, rw', q⟩
  by_cases h0 : 0 <= i
  · have hj : i.toNat = j := by
      rw [seqIndex_of h0 h5] at h1
      exact Option.some.inj h1
    exact item_listR pl.isList h0 (by omega) (by rw [hj]; simpa using ew) fin hs
  · have hj : (i + (its.toArray.size : Int)).toNat = j := by
      rw [seqIndex_neg (by omega) h4] at h1
      rw [List.size_toArray, <- hl]
      exact Option.some.inj h1
    exact subscriptTail_builtinR (x := w) pl.isList.typeIs slot_list_getitem.lookup
      (wpAny_getItem_list_neg (Q := fun r s' => r = w /\ EP X pins σ Q r s') pl.isList (by omega) (by rw [List.size_toArray] <;> omega) (by omega) (by rw [hj]; simpa using ew) ⟨rfl, fin⟩) hs
theorem ix_tup : IxR X (rIxT X.K) := by
  intro value slice pins s σ H x y v u Q I rx ry h hs
  obtain ⟨p, xs, i, z, rfl, rfl, hq, he, q⟩ := h
  cases rx
  obtain ⟨t, rfl⟩ := ry
  obtain ⟨its, r, pl, hz⟩ := I.tuple hq
  obtain ⟨j, h1, h2, h3, h4, h5⟩ := atI_get he
  obtain ⟨w, ew, rw'⟩ := r.get h2
  have hl := r.length
  have hn := line63
  have fin : EP X pins σ Q w s := ⟨z, H, I, rw', q⟩
  exact subscriptTail_builtinR (x := w) pl.typeIs slot_tuple_getitem.lookup
    (getItem_tuple (j := j) (Q := fun r s' => r = w /\ EP X pins σ Q r s') pl (by omega) (by omega) (by rw [List.size_toArray, <- hl]; exact h1) (by simpa using ew) ⟨rfl, fin⟩) hs
theorem ix_str : IxR X rIxS := by
  intro value slice pins s σ H x y v u Q I rx ry h hs
  obtain ⟨z, i, c, rfl, rfl, hz, he, q⟩ := h
  obtain ⟨t, rfl⟩ := rx
  obtain ⟨t', rfl⟩ := ry
  obtain ⟨j, h1, h2, h3, h4, h5⟩ := atI_get he
  have hl : z.cps.toList.length = z.length := by simp [Str.length]
  rw [hl] at h1 h4 h5
  have hn := line63
  exact tail_any (typeIs_str s z t) slot_str_getitem.lookup (getItem_str (c := c) (by
    have e1 : decide (i < -(2 ^ 63 : Int)) = false := decide_eq_false (by omega)
    have e2 : decide (i >= 2 ^ 63) = false := decide_eq_false (by omega)
    rw [e1, e2, Bool.or_false]) (by rw [h1]; simpa using h2) ⟨.str ⟨#[c]⟩, H, I.tok _, ⟨_, rfl⟩, q⟩) hs
theorem mapSeq_set (its : List Value) (n j : Nat) (u : Value) : Obj.mapSeq (·.setIfInBounds j u) { cls := .type "list", data := .seq its.toArray n } = { cls := .type "list", data := .seq (its.set j u).toArray n } := by
  simp [Obj.mapSeq]
theorem Inv.lst {pins : List (Addr × Obj)} {σ : St} {H : Hp} {s : Shared} {p : Addr} {xs : List V} (I : Inv X pins σ H s) (h : H p = some (.lst xs)) :
    ∃ (its : List Value) (n : Nat), Vals xs its /\ s.heap.get? p = some { cls := .type "list", data := .seq its.toArray n } /\ xs.length <= sizeLine := by
  obtain ⟨z, its, n, r, e⟩ := I.hok p _ h
  exact ⟨its, n, r, e, z⟩
theorem Inv.lstUpd {pins : List (Addr × Obj)} {σ : St} {H : Hp} {s : Shared} {p : Addr} {xs ys : List V} {its its' : List Value} {n n' : Nat} {f : Obj -> Obj} (I : Inv X pins σ H s) (h : H p = some (.lst xs))
    (ho : s.heap.get? p = some { cls := .type "list", data := .seq its.toArray n }) (hf : f { cls := .type "list", data := .seq its.toArray n } = { cls := .type "list", data := .seq its'.toArray n' }) (r : Vals ys its') (hz : ys.length <= sizeLine) (t : Nat) :
    Inv X pins σ (upd H p (.lst ys)) { s with heap := s.heap.update p f, toks := t } := by
  have e : (s.heap.update p f).get? p = some { cls := .type "list", data := .seq its'.toArray n' } := by
    rw [Heap.get?_update_self f ho (by rw [hf] <;> rfl), hf]
  refine I.write (x := p) (e := p) (by rw [h]; trivial) (.inl rfl) (fun b u hb q => (Heap.get?_update_other _ _ (Ne.symm hb)).trans q) ⟨_, e⟩ ?_
  exact ⟨hz, its', n', r, e⟩
noncomputable def rSetL : V -> V -> V -> Hp -> (Hp -> Prop) -> Prop := fun o i v H Q => ∃ p xs k j, o = .ref p /\ i = .int k /\ H p = some (.lst xs) /\ ixN xs.length k = some j /\ Q (upd H p (.lst (xs.set j v)))
theorem set_list : PSet X rSetL := by
  intro pins s σ H o i v ov iv u Q I ro ri rv h
  obtain ⟨p, xs, k, j, rfl, rfl, hp, hj, q⟩ := h
  cases ro
  obtain ⟨t, rfl⟩ := ri
  obtain ⟨its, n, r, ho, hz⟩ := I.lst hp
  obtain ⟨h1, h2, h3, h4⟩ := ixN_seq hj
  have hl := r.length
  have hn := line63
  have I' : Inv X pins σ (upd H p (.lst (xs.set j v))) { s with heap := s.heap.update p (Obj.mapSeq (·.setIfInBounds j u)) } :=
    I.lstUpd hp ho (mapSeq_set its n j u) (r.set rv j) (by rw [List.length_set]; exact hz) s.toks
  by_cases h0 : 0 <= k
  · have hk : k.toNat = j := by
      rw [seqIndex_of h0 h4] at h1
      exact Option.some.inj h1
    exact PySem.W.ki_setAt ho h0 (by omega) (by rw [List.size_toArray, <- hl]; exact h4) (by rw [hk]; exact ⟨_, I', q⟩)
  · have hk : (k + (its.toArray.size : Int)).toNat = j := by
      rw [seqIndex_neg (by omega) h3] at h1
      rw [List.size_toArray, <- hl]
      exact Option.some.inj h1
    exact PySem.W.ki_setBack ho (by omega) (by rw [List.size_toArray, <- hl]; exact h3) (by omega) (by rw [hk]; exact ⟨_, I', q⟩)
theorem slice_bounds (lo hi : Option Int) (n : Nat) : (sliceBounds lo hi none n).1 = ((HT.sIx n 0 lo : Nat) : Int) /\ (sliceBounds lo hi none n).2.1 = ((HT.sIx n n hi : Nat) : Int) /\ (sliceBounds lo hi none n).2.2 = 1 := by
  refine ⟨?_, ?_, rfl⟩
  · cases lo with
    | none => simp [sliceBounds, HT.sIx]
    | some i =>
      simp only [sliceBounds, HT.sIx, Option.getD_none, show (1 : Int) > 0 by decide, if_true]
      by_cases h : i < 0
      · simp only [h, if_true] <;> omega
      · simp only [h, if_false] <;> omega
  · cases hi with
    | none => simp [sliceBounds, HT.sIx]
    | some i =>
      simp only [sliceBounds, HT.sIx, Option.getD_none, show (1 : Int) > 0 by decide, if_true]
      by_cases h : i < 0
      · simp only [h, if_true] <;> omega
      · simp only [h, if_false] <;> omega
theorem slicePick_cut (its : List Value) (lo hi : Option Int) : slicePick its.toArray lo hi none = ((its.drop (HT.sIx its.length 0 lo)).take (HT.sIx its.length its.length hi - HT.sIx its.length 0 lo)).toArray := by
  obtain ⟨h1, h2, h3⟩ := slice_bounds lo hi its.toArray.size
  unfold slicePick
  rw [h1, h2, h3]
  simp only [sliceRange_one, pick_run, List.size_toArray] <;> rfl
noncomputable def rSlL (K : PySem.W.Frag) : V -> Option Int -> Option Int -> Hp -> VK -> Prop := fun x lo hi H Q => ∃ a xs, x = .ref a /\ SqL K H a xs /\ ∀ p, H p = none -> Q (.ref p) (upd H p (.lst (cutV xs lo hi)))
theorem sl_list : SlR X (rSlL X.K) := by
  intro pins s σ H x v vl vu lo hi sl Q I rx hs pl pu h
  obtain ⟨a, xs, rfl, hx, q⟩ := h
  cases rx
  obtain ⟨its, r, ht, hz⟩ := I.list hx
  have hlen := r.length
  refine ⟨"list", _, slot_list_getitem.lookup, ht.isList.typeIs, ?_⟩
  refine wpAny_getItem_list_slice ht.isList hs pl pu .none (by simp) ?_ (by rw [List.size_toArray] <;> omega)
  rw [slicePick_cut, <- hlen]
  refine ⟨.ref s.heap.objs.size, _, I.laid (t' := s.toks) (o := .lst (cutV xs lo hi)) (fun b ob q => Heap.get?_push_of_some _ q) (Nat.le_refl _) ?_, rfl, q _ (I.hok.fresh (Nat.le_refl _))⟩
  exact ⟨Nat.le_trans (cutV_length xs lo hi) hz, _, 0, (r.drop (HT.sIx xs.length 0 lo)).take (HT.sIx xs.length xs.length hi - HT.sIx xs.length 0 lo), Heap.get?_push_size _ rfl⟩
noncomputable def flatV : V -> Bool
  | .non => true
  | .bl _ => true
  | .int _ => true
  | .str _ => true
  | _ => false
noncomputable def eqV : V -> V -> Bool
  | .non, .non => true
  | .bl a, .bl b => a == b
  | .bl a, .int b => (if a then 1 else 0) == b
  | .int a, .bl b => a == (if b then 1 else 0)
  | .int a, .int b => a == b
  | .str a, .str b => a == b
  | _, _ => false
theorem eqAt_V {A : Around} {s : Shared} {y x : V} {u v : Value} (ry : RelV y u) (rx : RelV x v) (fy : flatV y = true) (fx : flatV x = true) : SeqAt.EqAt A s u v (eqV y x) := by
  cases y with
  | non =>
    cases ry
    cases x with
    | non => cases rx; exact SeqAt.EqAt.same _
    | bl b => cases rx; exact SeqAt.EqAt.none_bool b
    | int b => obtain ⟨t, rfl⟩ := rx; exact SeqAt.EqAt.none_int b t
    | str b => obtain ⟨t, rfl⟩ := rx; exact SeqAt.EqAt.none_str b t
    | _ => exact absurd (show false = true from fx) Bool.false_ne_true
  | bl a =>
    cases ry
    cases x with
    | non => cases rx; exact SeqAt.EqAt.bool_none a
    | bl b => cases rx; exact SeqAt.EqAt.bool_bool a b
    | int b => obtain ⟨t, rfl⟩ := rx; exact SeqAt.EqAt.bool_int a b t
    | str b => obtain ⟨t, rfl⟩ := rx; exact SeqAt.EqAt.bool_str a b t
    | _ => exact absurd (show false = true from fx) Bool.false_ne_true
  | int a =>
    obtain ⟨t', rfl⟩ := ry
    cases x with
    | non => cases rx; exact SeqAt.EqAt.int_none a t'
    | bl b => cases rx; exact SeqAt.EqAt.int_bool a t' b
    | int b => obtain ⟨t, rfl⟩ := rx; exact SeqAt.EqAt.int_int a t' b t
    | str b => obtain ⟨t, rfl⟩ := rx; exact SeqAt.EqAt.int_str a t' b t
    | _ => exact absurd (show false = true from fx) Bool.false_ne_true
  | str a =>
    obtain ⟨t', rfl⟩ := ry
    cases x with
    | non => cases rx; exact SeqAt.EqAt.str_none a t'
    | bl b => cases rx; exact SeqAt.EqAt.str_bool a t' b
    | int b => obtain ⟨t, rfl⟩ := rx; exact SeqAt.EqAt.str_int a t' b t
    | str b => obtain ⟨t, rfl⟩ := rx; exact SeqAt.EqAt.str_str a t' b t
    | _ => exact absurd (show false = true from fx) Bool.false_ne_true
  | _ => exact absurd (show false = true from fy) Bool.false_ne_true
noncomputable def eqU (x : V) (u : Value) : Bool := match u with
  | .none => eqV .non x
  | .bool b => eqV (.bl b) x
  | .int i _ => eqV (.int i) x
  | .str z _ => eqV (.str z) x
  | _ => false
theorem eqU_of {x y : V} {u : Value} (r : RelV y u) (f : flatV y = true) : eqU x u = eqV y x := by
  cases y with
  | non => cases r; rfl
  | bl b => cases r; rfl
  | int i => obtain ⟨t, rfl⟩ := r; rfl
  | str z => obtain ⟨t, rfl⟩ := r; rfl
  | _ => exact absurd (show false = true from f) Bool.false_ne_true
theorem any_eqU {x : V} : ∀ {xs : List V} {us : List Value}, Vals xs us -> xs.all flatV = true -> us.any (eqU x) = xs.any fun y => eqV y x
  | _, _, .nil, _ => rfl
  | y :: xs, u :: us, .cons r t, f => by
    rw [List.all_cons, Bool.and_eq_true] at f
    rw [List.any_cons, List.any_cons, eqU_of r f.1, any_eqU t f.2]
theorem mem_eqAt {A : Around} {s : Shared} {x : V} {v : Value} (rx : RelV x v) (fx : flatV x = true) : ∀ {xs : List V} {us : List Value}, Vals xs us -> xs.all flatV = true -> ∀ u ∈ us, SeqAt.EqAt A s u v (eqU x u)
  | _, _, .nil, _ => fun u hu => by cases hu
  | y :: xs, u :: us, .cons r t, f => fun u' hu => by
    rw [List.all_cons, Bool.and_eq_true] at f
    rcases List.mem_cons.mp hu with rfl | hu
    · rw [eqU_of r f.1]; exact eqAt_V r rx f.1 fx
    · exact mem_eqAt rx fx t f.2 u' hu
noncomputable def inV (x : V) (xs : List V) : Bool := xs.any fun y => eqV y x
noncomputable def rIn (K : PySem.W.Frag) (neg : Bool) : R2 := fun x y H Q => ∃ p xs, y = .ref p /\ (SqL K H p xs \/ SqT K H p xs) /\ flatV x = true /\ xs.all flatV = true /\ Q (.bl (if neg then !inV x xs else inV x xs)) H
theorem op_in_seq : OpR X (compareOp .In) (rIn X.K false) := by
  intro pins s σ H x y v u Q I rx ry h
  obtain ⟨p, xs, rfl, hq, fx, fs, q⟩ := h
  cases ry
  rcases hq with hq | hq
  · obtain ⟨its, r, pl, hz⟩ := I.list hq
    refine SeqAt.in_listAt (eqU x) pl.isList (fun w hw => mem_eqAt rx fx r fs w (by simpa using hw)) ⟨.bl _, H, I, rfl, ?_⟩
    rw [show its.toArray.any (eqU x) = its.any (eqU x) by simp, any_eqU r fs]
    exact q
  · obtain ⟨its, r, pl, hz⟩ := I.tuple hq
    refine SeqAt.in_tupleAt (eqU x) pl (fun w hw => mem_eqAt rx fx r fs w (by simpa using hw)) ⟨.bl _, H, I, rfl, ?_⟩
    rw [show its.toArray.any (eqU x) = its.any (eqU x) by simp, any_eqU r fs]
    exact q
theorem op_notIn_seq : OpR X (compareOp .NotIn) (rIn X.K true) := by
  intro pins s σ H x y v u Q I rx ry h
  obtain ⟨p, xs, rfl, hq, fx, fs, q⟩ := h
  cases ry
  rcases hq with hq | hq
  · obtain ⟨its, r, pl, hz⟩ := I.list hq
    refine SeqAt.notIn_listAt (eqU x) pl.isList (fun w hw => mem_eqAt rx fx r fs w (by simpa using hw)) ⟨.bl _, H, I, rfl, ?_⟩
    rw [show its.toArray.any (eqU x) = its.any (eqU x) by simp, any_eqU r fs]
    exact q
  · obtain ⟨its, r, pl, hz⟩ := I.tuple hq
    refine SeqAt.notIn_tupleAt (eqU x) pl (fun w hw => mem_eqAt rx fx r fs w (by simpa using hw)) ⟨.bl _, H, I, rfl, ?_⟩
    rw [show its.toArray.any (eqU x) = its.any (eqU x) by simp, any_eqU r fs]
    exact q
theorem op_notIn_str : OpR X (compareOp .NotIn) (fun x y H Q => ∃ i j, x = .str i /\ y = .str j /\ Q (.bl (!(!(Builtin.Str.occurrences j i 0 j.length 1).isEmpty))) H) := by
  intro pins s σ H x y v u Q I rx ry h
  obtain ⟨i, j, rfl, rfl, q⟩ := h
  obtain ⟨t, rfl⟩ := rx
  obtain ⟨t', rfl⟩ := ry
  exact notIn_str ⟨.bl _, H, I, rfl, q⟩
theorem CallR.or {f : Value} {r r' : List V -> Hp -> VK -> Prop} (h : CallR X f r) (h' : CallR X f r') : CallR X f (fun xs H Q => r xs H Q \/ r' xs H Q) := by
  intro pins s σ H xs us Q I rs q
  rcases q with q | q
  · exact h pins s σ H xs us Q I rs q
  · exact h' pins s σ H xs us Q I rs q
theorem call_tuple_of : CallR X (.type "tuple") (fun xs H Q => ∃ p ys, xs = [.ref p] /\ ((SqL X.K H p ys /\ ∀ l, H l = none -> Q (.ref l) (upd H l (.tup ys))) \/ (SqT X.K H p ys /\ Q (.ref p) H))) := by
  intro pins s σ H xs us Q I r h
  obtain ⟨p, ys, rfl, h⟩ := h
  obtain ⟨u, rfl, rx⟩ := vals1 r
  cases rx
  rcases h with ⟨hq, q⟩ | ⟨hq, q⟩
  · obtain ⟨its, r', pl, hz⟩ := I.list hq
    have hlen := r'.length
    refine call_tuple_list pl.isList (fun h' kp => ?_) (by simp only [List.size_toArray] <;> omega)
    have I1 : Inv X pins σ H { s with heap := h' } := I.kept (t' := s.toks) kp
    have I2 : Inv X pins σ (upd H h'.objs.size (.tup ys)) { s with heap := h'.push { cls := .type "tuple", data := .seq its.toArray } } :=
      I1.laid (t' := s.toks) (fun b o e => Heap.get?_push_of_some _ e) (Nat.le_refl _) (show ObjOk X.prog X.w _ _ _ (.tup ys) from ⟨hz, its, r', IsTup.new _ _⟩)
    exact ⟨.ref h'.objs.size, _, I2, rfl, q _ (I1.hok.fresh (Nat.le_refl _))⟩
  · obtain ⟨its, r', pl, hz⟩ := I.tuple hq
    exact call_tuple_same pl ⟨.ref p, H, I, rfl, q⟩
noncomputable def tyV (K : PySem.W.Frag) (T : String) (x : V) (H : Hp) : Prop := match x with
  | .str _ => T = "str"
  | .int _ => T = "int"
  | .ref p => (T = "list" /\ ∃ xs, SqL K H p xs) \/ (T = "tuple" /\ ∃ o, K.lookup p = some o /\ o.cls = .type "tuple" /\ o.dict = none) \/
      (T = "dict" /\ ((∃ kvs, H p = some (.dK kvs)) \/ ∃ kvs, H p = some (.dT kvs))) \/ (T = "set" /\ ∃ S n, H p = some (.set S n))
  | _ => False
theorem tyV_is {pins : List (Addr × Obj)} {σ : St} {H : Hp} {s : Shared} {T : String} {x : V} {v : Value} (I : Inv X pins σ H s) (r : RelV x v) (ty : tyV X.K T x H) :
    s.TypeIs v T /\ ∀ a, v = .ref a -> ∃ ob, s.heap.get? a = some ob /\ ob.dict = none := by
  cases x with
  | str z =>
    obtain ⟨t, rfl⟩ := r
    cases (show T = "str" from ty)
    exact ⟨typeIs_str s z t, fun _ e => nomatch e⟩
  | int i =>
    obtain ⟨t, rfl⟩ := r
    cases (show T = "int" from ty)
    exact ⟨typeIs_int s i t, fun _ e => nomatch e⟩
  | ref p =>
    cases r
    rcases ty with ⟨rfl, xs, hq⟩ | ⟨rfl, o, hk, hc, hd⟩ | ⟨rfl, hk⟩ | ⟨rfl, S, n, hk⟩
    · obtain ⟨its, _, pl, _⟩ := I.list hq
      refine ⟨pl.isList.typeIs, fun a e => ?_⟩
      cases e
      obtain ⟨o, n, e, c, hd, _⟩ := pl
      exact ⟨o, e, hd⟩
    · refine ⟨⟨o, I.kIn p o hk, hc⟩, fun a e => ?_⟩
      cases e
      exact ⟨o, I.kIn _ o hk, hd⟩
    · have z : ∃ o, s.heap.get? p = some o /\ o.ExactDict := by
        rcases hk with ⟨kvs, hk⟩ | ⟨kvs, hk⟩
        · obtain ⟨_, _, _, _, o, _, _, e, ex, _⟩ := I.hok p _ hk
          exact ⟨o, e, ex⟩
        · obtain ⟨_, _, _, _, o, _, _, e, ex, _⟩ := I.hok p _ hk
          exact ⟨o, e, ex⟩
      obtain ⟨o, e, ex⟩ := z
      refine ⟨⟨o, e, ex.1⟩, fun a e2 => ?_⟩
      cases e2
      exact ⟨o, e, ex.2.1⟩
    · obtain ⟨o, _, _, _, e, ex, _⟩ := I.hok p _ hk
      refine ⟨⟨o, e, ex.1⟩, fun a e2 => ?_⟩
      cases e2
      exact ⟨o, e, ex.2.1⟩
  | _ => exact False.elim ty
noncomputable def tBM0 (K : PySem.W.Frag) (T : String) (r : V -> List V -> Hp -> VK -> Prop) (to : TE) : TE := fun σ H Q => to σ H fun x H1 => tyV K T x H1 /\ r x [] H1 Q
noncomputable def tBM (K : PySem.W.Frag) (T : String) (r : V -> List V -> Hp -> VK -> Prop) (to : TE) (t : TA) : TE := fun σ H Q => to σ H fun x H1 => tyV K T x H1 /\ t σ H1 fun xs H2 => r x xs H2 Q
variable {o e : Expr} {es : List Expr} {to : TE} {t : TA} {name : Str} {apos cpos : Pos} {T id : String} {r : V -> List V -> Hp -> VK -> Prop}
theorem pe_bm0 (pa : PlainAttrs T) (slot : Slot T name id) (hty : typeOf (.builtin id) = pure (.type "method_descriptor")) (hm : MtR X id r) (ho : PE X o to)
    (hbase : attributeBase o name X.env (eval o X.env) = eval o X.env := by rfl) (hline : (apos.endLine == cpos.line) = true := by rfl) : PE X (.Call (.Attribute o name apos) [] [] cpos) (tBM0 X.K T r to) := by
  intro pins s σ H Q I h
  refine wpAny_Call_method0_late hbase hline (thn (ho pins s σ H _ I h) fun v s1 ⟨x, H1, I1, r1, ty, q1⟩ => ?_)
  obtain ⟨h1, h2⟩ := tyV_is I1 r1 ty
  exact ⟨T, id, pa, slot, hty, h1, h2, Calls.callWith_builtin rfl (PySem.evalArgs_none (hm pins s1 σ H1 x [] v [] Q I1 r1 .nil q1))⟩
theorem pe_bm (pa : PlainAttrs T) (slot : Slot T name id) (hty : typeOf (.builtin id) = pure (.type "method_descriptor")) (hm : MtR X id r) (ho : PE X o to) (ha : PA X (e :: es) t)
    (hbase : attributeBase o name X.env (eval o X.env) = eval o X.env := by rfl)
    (hfew : ((backTo cpos (starEach (e :: es) X.env)).all (fun x => !x.1) && (backToKw cpos (keywordEach [] X.env)).all (fun x => x.1.isSome)
      && decide ((e :: es).length + ([] : List Keyword).length + (if ([] : List Keyword).isEmpty then 0 else 1) < 30)) = true := by rfl)
    (hline : (apos.endLine == cpos.line) = true := by rfl) (hs : starEach (e :: es) X.env = (false, eval e X.env) :: starEach es X.env := by rfl) (hplain : (backTo cpos (starEach es X.env)).any (·.1) = false := by rfl) :
    PE X (.Call (.Attribute o name apos) (e :: es) [] cpos) (tBM X.K T r to t) := by
  intro pins s σ H Q I h
  refine wpAny_Call_method_late hbase hfew hline rfl (thn (ho pins s σ H _ I h) fun v s1 ⟨x, H1, I1, r1, ty, q1⟩ => ?_)
  obtain ⟨h1, h2⟩ := tyV_is I1 r1 ty
  refine ⟨T, id, pa, slot, hty, h1, h2, ?_⟩
  have hA := ha cpos pins s1 σ H1 _ I1 q1
  rw [hs] at hA ⊢
  refine Calls.callWith_builtin (by show (false || (backTo cpos (starEach es X.env)).any (·.1)) = false; rw [hplain] <;> rfl) (Calls.evalArgs_plain ?_)
  exact thn hA fun us s2 ⟨vs, H2, I2, r2, q2⟩ => hm pins s2 σ H2 x vs v us Q I2 r1 r2 q2
end
end L2
namespace L2
open PySem PySem.Spec PyProof.Rows
noncomputable def MtM (X : Cx) (id : String) (r : V -> List V -> Hp -> VK -> Prop) : Prop :=
  ∀ (pins : List (Addr × Obj)) (s : Shared) (σ : St) (H : Hp) (x : V) (xs : List V) (v : Value) (us : List Value) (Q : VK), Inv X pins σ H s -> RelV x v -> Vals xs us -> r x xs H Q ->
    wpAny (model X.prog X.w) X.A (call (.builtin id) (v :: us)) (EP X pins σ Q) X.xe s
theorem Vals.one : ∀ {x : V} {us : List Value}, Vals [x] us -> ∃ u, us = [u] /\ RelV x u
  | _, _, .cons r .nil => ⟨_, rfl, r⟩
theorem Vals.two : ∀ {x y : V} {us : List Value}, Vals [x, y] us -> ∃ u v, us = [u, v] /\ RelV x u /\ RelV y v
  | _, _, _, .cons r (.cons q .nil) => ⟨_, _, rfl, r, q⟩
theorem Vals.zero : ∀ {us : List Value}, Vals [] us -> us = []
  | _, .nil => rfl
theorem Vals.dropLast {xs : List V} {us : List Value} (h : Vals xs us) : Vals xs.dropLast us.dropLast := by
  induction h with
  | nil => exact .nil
  | cons r t ih =>
    cases t with
    | nil => exact .nil
    | cons q t' => exact .cons r ih
theorem Vals.eraseIdx : ∀ {xs : List V} {us : List Value} (i : Nat), Vals xs us -> Vals (xs.eraseIdx i) (us.eraseIdx i)
  | _, _, _, .nil => .nil
  | _, _, 0, .cons _ t => t
  | _, _, i + 1, .cons r t => .cons r (Vals.eraseIdx i t)
theorem Vals.reverse {xs : List V} {us : List Value} (h : Vals xs us) : Vals xs.reverse us.reverse := by
  induction h with
  | nil => exact .nil
  | cons r t ih => rw [List.reverse_cons, List.reverse_cons]; exact Vals.append ih (.cons r .nil)
theorem Vals.rep {xs : List V} {us : List Value} (h : Vals xs us) : ∀ k : Nat, Vals (List.replicate k xs).flatten (List.replicate k us).flatten
  | 0 => .nil
  | k + 1 => by
    rw [List.replicate_succ, List.replicate_succ, List.flatten_cons, List.flatten_cons]
    exact Vals.append h (Vals.rep h k)
theorem erase_last {α : Type} (l : List α) : l.eraseIdx (l.length - 1) = l.dropLast := by
  induction l with
  | nil => rfl
  | cons a r ih =>
    cases r with
    | nil => rfl
    | cons b r =>
      have e : (a :: b :: r).length - 1 = ((b :: r).length - 1) + 1 := by
        have h1 : (a :: b :: r).length = r.length + 2 := rfl
        have h2 : (b :: r).length = r.length + 1 := rfl
        omega
      rw [e, List.eraseIdx_cons_succ, ih]
      all_goals rfl
theorem foldl_rep (its : List Value) : ∀ (k : Nat) (acc : List Value),
    List.foldl (fun x1 x2 => x1 ++ x2) acc.toArray (List.replicate k its.toArray) = (acc ++ (List.replicate k its).flatten).toArray
  | 0, acc => by simp
  | k + 1, acc => by
    have e : acc.toArray ++ its.toArray = (acc ++ its).toArray := by simp
    have e2 : (acc ++ its) ++ (List.replicate k its).flatten = acc ++ (List.replicate (k + 1) its).flatten := by
      rw [List.replicate_succ, List.flatten_cons, List.append_assoc]
    rw [<- e2, <- foldl_rep its k (acc ++ its), <- e, List.replicate_succ, List.foldl_cons]
section
variable {X : Cx} {pins : List (Addr × Obj)} {σ : St} {H : Hp} {s : Shared} {l b : Addr} {xs ys zs : List V}
theorem Inv.lset {its its' : List Value} {n : Nat} {f : Array Value -> Array Value} {t' : Nat} (I : Inv X pins σ H s) (hH : H l = some (.lst xs))
    (e : s.heap.get? l = some { cls := .type "list", data := .seq its.toArray n }) (hf : f its.toArray = its'.toArray) (hv : Vals ys its') (hz : ys.length <= sizeLine) :
    Inv X pins σ (upd H l (.lst ys)) { s with heap := s.heap.update l (Obj.mapSeq f), toks := t' } := by
  have q := PySem.IsL.update e f
  rw [hf] at q
  refine I.write (x := l) (e := l) (by rw [hH]; exact trivial) (.inl rfl) (fun b' u hb hu => (Heap.get?_update_other s.heap (Obj.mapSeq f) (Ne.symm hb)).trans hu) ⟨_, q⟩ ?_
  exact ⟨hz, its', _, hv, q⟩
theorem Inv.lnew {its : List Value} {t' : Nat} (I : Inv X pins σ H s) (hv : Vals ys its) (hz : ys.length <= sizeLine) :
    Inv X pins σ (upd H s.heap.objs.size (.lst ys)) { s with heap := s.heap.push { cls := .type "list", data := .seq its.toArray }, toks := t' } :=
  I.laid (fun _ _ q => Heap.get?_push_of_some _ q) (Nat.le_refl _) ⟨hz, its, 0, hv, Heap.get?_push_size _ rfl⟩
theorem Inv.fresh (I : Inv X pins σ H s) : H s.heap.objs.size = none := I.hok.fresh (Nat.le_refl _)
theorem Inv.lstM (I : Inv X pins σ H s) (hH : H l = some (.lst xs)) : xs.length <= sizeLine /\ ∃ (its : List Value) (n : Nat), Vals xs its /\ xs.length = its.length /\ s.heap.get? l = some { cls := .type "list", data := .seq its.toArray n } := by
  obtain ⟨z, its, n, r, e⟩ := I.hok l _ hH
  exact ⟨z, its, n, r, r.length, e⟩
theorem notLongL {n : Nat} (h : n <= sizeLine) : Builtin.List.listTooLong n = false := by
  unfold Builtin.List.listTooLong
  exact decide_eq_false (by omega)
end
section
variable {X : Cx}
noncomputable def rAppend : V -> List V -> Hp -> VK -> Prop := fun x vs H Q => ∃ l xs y, x = .ref l /\ vs = [y] /\ H l = some (.lst xs) /\ xs.length < sizeLine /\ Q .non (upd H l (.lst (xs ++ [y])))
theorem mt_append : MtM X "list.append" rAppend := by
  intro pins s σ H x vs v us Q I rx rv h
  obtain ⟨l, xs, y, rfl, rfl, hH, hz, q⟩ := h
  cases rx
  obtain ⟨u, rfl, ru⟩ := rv.one
  obtain ⟨z, its, n, r, hl, e⟩ := I.lstM hH
  refine call_meets F.slot_list_append ⟨_, e, rfl⟩ F.entry_list_append (F.args_list_append_2 _ _) (PySem.list_append l its.toArray n u (by rw [List.size_toArray]; omega)) ⟨e, ?_⟩
  refine ⟨.non, _, I.lset (its' := its ++ [u]) hH e (by simp) (r.append (.cons ru .nil)) ?_, rfl, q⟩
  rw [List.length_append, List.length_singleton]
  omega
noncomputable def rExtend : V -> List V -> Hp -> VK -> Prop := fun x vs H Q => ∃ l b xs zs, x = .ref l /\ vs = [.ref b] /\ H l = some (.lst xs) /\ H b = some (.lst zs) /\ xs.length + zs.length <= sizeLine /\ Q .non (upd H l (.lst (xs ++ zs)))
theorem mt_extend : MtM X "list.extend" rExtend := by
  intro pins s σ H x vs v us Q I rx rv h
  obtain ⟨l, b, xs, zs, rfl, rfl, hH, hB, hz, q⟩ := h
  cases rx
  obtain ⟨u, rfl, ru⟩ := rv.one
  cases ru
  obtain ⟨z, its, n, r, hl, e⟩ := I.lstM hH
  obtain ⟨z2, its2, n2, r2, hl2, e2⟩ := I.lstM hB
  have hsz : its.toArray.size + its2.toArray.size <= sizeLine := by rw [List.size_toArray, List.size_toArray]; omega
  have hlong : ¬ (!its.toArray.isEmpty && Builtin.List.listTooLong (its.toArray.size + its2.toArray.size)) = true := by
    rw [notLongL hsz, Bool.and_false]
    exact Bool.false_ne_true
  refine call_meets F.slot_list_extend ⟨_, e, rfl⟩ F.entry_list_extend (F.args_list_extend_2 _ _)
    (AutoSeq1.list_extend_list_list_0 l its.toArray n b its2.toArray n2 hlong (by rw [List.size_toArray]; omega) (by omega)) ⟨e, e2, ?_⟩
  refine ⟨.non, _, I.lset (its' := its ++ its2) hH e (by simp) (r.append r2) ?_, rfl, q⟩
  rw [List.length_append]
  omega
noncomputable def rPop : V -> List V -> Hp -> VK -> Prop := fun x vs H Q => ∃ l xs y, x = .ref l /\ vs = [] /\ H l = some (.lst xs) /\ xs[xs.length - 1]? = some y /\ Q y (upd H l (.lst xs.dropLast))
theorem mt_pop : MtM X "list.pop" rPop := by
  intro pins s σ H x vs v us Q I rx rv h
  obtain ⟨l, xs, y, rfl, rfl, hH, hy, q⟩ := h
  cases rx
  have hus := rv.zero
  subst hus
  obtain ⟨z, its, n, r, hl, e⟩ := I.lstM hH
  obtain ⟨u, hu, ru⟩ := r.get hy
  have hy' : its.toArray[its.toArray.size - 1]? = some u := by
    show its.toArray[its.length - 1]? = some u
    rw [<- Array.getElem?_toList, <- hl]
    exact hu
  refine call_meets F.slot_list_pop ⟨_, e, rfl⟩ F.entry_list_pop (F.args_list_pop_1 _) (MeetsSeq.list_pop_last l its.toArray n u hy' (by rw [List.size_toArray]; omega)) ⟨e, ?_⟩
  refine ⟨y, _, I.lset (its' := its.dropLast) hH e ?_ r.dropLast ?_, ru, q⟩
  · show its.toArray.eraseIdxIfInBounds (its.toArray.size - 1) = its.dropLast.toArray
    rw [List.size_toArray, List.eraseIdxIfInBounds_toArray, erase_last]
  · rw [List.length_dropLast]
    omega
noncomputable def rCat : R2 := fun x y H Q => ∃ l b xs zs, x = .ref l /\ y = .ref b /\ H l = some (.lst xs) /\ H b = some (.lst zs) /\ xs.length + zs.length <= sizeLine /\ ∀ p, H p = none -> Q (.ref p) (upd H p (.lst (xs ++ zs)))
theorem op_cat : OpR X (binaryOp .Add) rCat := by
  intro pins s σ H x y v u Q I rx ry h
  obtain ⟨l, b, xs, zs, rfl, rfl, hH, hB, hz, q⟩ := h
  cases rx
  cases ry
  obtain ⟨z, its, n, r, hl, e⟩ := I.lstM hH
  obtain ⟨z2, its2, n2, r2, hl2, e2⟩ := I.lstM hB
  refine PySem.P.add_list e e2 ?_ (by rw [List.size_toArray, List.size_toArray]; omega)
  have ea : its.toArray ++ its2.toArray = (its ++ its2).toArray := by simp
  rw [ea]
  exact ⟨.ref _, _, I.lnew (t' := s.toks) (r.append r2) (by rw [List.length_append]; omega), rfl, q _ I.fresh⟩
noncomputable def rRep : R2 := fun x y H Q => ∃ l k xs, x = .ref l /\ y = .int k /\ H l = some (.lst xs) /\ -(2 ^ 63) <= k /\ k < 2 ^ 63 /\ xs.length * k.toNat <= sizeLine /\
  ∀ p, H p = none -> Q (.ref p) (upd H p (.lst (List.replicate k.toNat xs).flatten))
theorem len_rep {α : Type} (xs : List α) (k : Nat) : (List.replicate k xs).flatten.length = k * xs.length := by
  induction k with
  | zero => simp
  | succ k ih => rw [List.replicate_succ, List.flatten_cons, List.length_append, ih, Nat.succ_mul, Nat.add_comm]
theorem op_rep : OpR X (binaryOp .Mult) rRep := by
  intro pins s σ H x y v u Q I rx ry h
  obtain ⟨l, k, xs, rfl, rfl, hH, h1, h2, hz, q⟩ := h
  cases rx
  obtain ⟨t, rfl⟩ := ry
  obtain ⟨z, its, n, r, hl, e⟩ := I.lstM hH
  have hlen : its.toArray.size * k.toNat <= sizeLine := by rw [List.size_toArray, <- hl]; exact hz
  have hcap : ¬ its.toArray.size * k.toNat > (2 ^ 63 - 1) / 8 := by
    have : (sizeLine : Nat) <= (2 ^ 63 - 1) / 8 := by decide
    omega
  have hfit : ¬ (!Builtin.List.listFitsIndex k) = true := by
    rw [fitsIndex_both h1 h2]
    exact Bool.false_ne_true
  have hlong : ¬ Builtin.List.listTooLong (its.toArray.size * k.toNat) = true := by
    rw [notLongL hlen]
    exact Bool.false_ne_true
  have hnew : List.foldl (fun x1 x2 => x1 ++ x2) #[] (List.replicate (if its.toArray.isEmpty = true then 0 else k.toNat) its.toArray) = (List.replicate k.toNat its).flatten.toArray := by
    have f0 : ∀ m : Nat, List.foldl (fun x1 x2 => x1 ++ x2) #[] (List.replicate m its.toArray) = (List.replicate m its).flatten.toArray := fun m => by
      have := foldl_rep its m []
      rw [List.nil_append] at this
      exact this
    rw [f0]
    cases its with
    | nil => simp
    | cons a r' => rw [if_neg (by simp)]
  refine wpAny_binaryOp_repeat_ref (T := "list") (U := "int") (by decide) ⟨_, e, rfl⟩ (fun s' => typeIs_int s' k t) noFill_list_mul F.fills_int_mul F.slot_int_rmul repeat_list F.slot_int_index.lookup
    (call_meets F.slot_int_rmul (typeIs_int s k t) F.entry_int_rmul (F.args_int_rmul_2 _ _) (int___rmul___int_list k t l its.toArray n)
      ⟨e, rfl, ⟨_, e, rfl⟩, call_meets F.slot_list_mul ⟨_, e, rfl⟩ F.entry_list_mul (F.args_list_mul_2 _ _) (AutoListH.list___mul___list_int_3 l its.toArray n k t hfit hcap hlong) ⟨e, ?_⟩⟩)
  rw [hnew]
  exact ⟨.ref _, _, I.lnew (t' := s.toks) (r.rep k.toNat) (by rw [len_rep, Nat.mul_comm]; exact hz), rfl, q _ I.fresh⟩
end
section
variable {prog : Program} {w : World} {A : Around} {E : Value -> Shared -> Prop} {s : Shared}
end
section
variable {X : Cx}
end
end L2
namespace Att
open PySem PySem.W PySem.Calls PyProof.Rows
theorem ints_of_wellAll {P : Params} {h : Heap} : ∀ (ns : List Int) (vs : List Value), WellAll P h vs (ns.map WData.int) -> IntsAre vs ns := by
  intro ns
  induction ns with
  | nil =>
    intro vs w
    rw [List.map_nil] at w
    cases w
    exact .nil
  | cons n ns ih =>
    intro vs w
    rw [List.map_cons] at w
    cases w with
    | cons a b =>
      cases a
      exact .cons _ _ (ih _ b)
theorem script_of {l : OpenLaw} {n : Nat} (hn : l.most = some n) {P : Params} {h : Heap} {args : List WData} {vals : List Value}
    (hpre : l.row.toRowW.claim.pre args = true) (hwl : WellAll P h vals args) :
    ∃ a vs ns, vals = [Value.ref a] /\ args = [WData.list (ns.map WData.int)] /\ h.get? a = some { cls := .type "list", data := .seq vs.toArray } /\ IntsAre vs ns /\ ns.length <= n := by
  have hsh : WShape.hasAll [] args [.list .int] = true := (pre_splitW hpre).1
  have hc : l.pre.holds [] { args := args } = true := (pre_splitW hpre).2
  obtain ⟨d, r, rfl, h1, h2⟩ := hasAllW_cons hsh
  obtain rfl := hasAllW_nil h2
  obtain ⟨xs, rfl, h3⟩ := hasW_list h1
  obtain ⟨ns, rfl⟩ := items_int h3
  have hlen : ns.length <= n := by
    unfold OpenLaw.pre at hc
    have h4 : (WTm.not (.lt (.lit (.int (n : Int))) (.len (.arg 0)))).holds [] { args := [.list (ns.map .int)] } = true := by
      have h4 := (holds_andW hc).1
      rw [hn] at h4
      exact h4
    have h5 := condW_of h4 (w_not (w_lt w_lit (w_len_list (w_arg rfl))))
    rw [List.length_map] at h5
    refine Nat.le_of_not_lt fun q => ?_
    have q' : (n : Int) < ((ns.length : Nat) : Int) := by omega
    first
      | (rw [decide_eq_true q'] at h5; exact absurd h5 (by decide))
      | (simp at h5; omega)
  cases hwl with
  | cons w1 w2 =>
    cases w2
    cases w1 with
    | list ho hall => exact ⟨_, _, ns, rfl, rfl, ho, ints_of_wellAll ns _ hall, hlen⟩
theorem post_true (l : OpenLaw) (args : List WData) : l.row.toRowW.claim.post args (.bool true) args = true :=
  postW_of (r := l.row.toRowW) (X := (true == true))
    (show WShape.has [] (.bool true) .bool = true by first | rfl | decide | simp [WShape.has, WShape.arms, WShape.armsAll])
    (show (WTm.eq .res (.lit (.bool true))).value [] { args := args, res := some (.bool true), after := args } = some (.bool (true == true)) from w_eq_bool (w_res rfl) w_lit) rfl
theorem attach_call {l : OpenLaw} {n : Nat} {q : Program} {loose : List Str} {XP : (Str -> Option Value) -> Heap -> Prop} {YP : World -> Heap -> Prop} {d : DefRec}
    (hn : l.most = some n) (hdf : d.params.defaults = [])
    (call : ∀ (w : World) (s₀ s₁ : Shared) (mg mb : Str -> Option Value) (fa : Addr) (o : Obj) (pm cd doc : Value) (a : Addr) (vs : List Value) (ns : List Int),
      Ground q loose [] XP w s₀ mg mb s₁.heap -> YP w s₁.heap ->
      s₁.heap.get? fa = some o -> o.data = .func (docDef d.name d.params d.body d.scope pm cd doc) -> s₁.heap.CodeRec cd d.name -> mg d.name = some (.ref fa) ->
      s₁.heap.get? a = some { cls := .type "list", data := .seq vs.toArray } -> IntsAre vs ns -> ns.length <= n -> s₁.gens = #[] ->
      codeAny (model l.prog w) callerA (.call (.ref fa) ⟨[.ref a], []⟩) (fun r s' => r = .ok (.ret (.bool true)) /\ OldK s₁.heap s'.heap /\ s'.os = s₁.os /\ AllBare s'.gens) s₁) :
    WalkO q loose XP YP l.row.toRowW d [] (fun f vs => PySem.call f vs) := by
  intro w s₀ s₁ mg mb G Y fa o pm cd doc dV kV ho hd hcd hD hmg hg args vals as hpre hlay hrd hwl hlo
  obtain rfl : dV = .none := Dflts.none hD hdf
  obtain rfl : kV = .none := Dflts.noKw hD
  obtain ⟨a, vs, ns, rfl, rfl, hobj, hints, hlen⟩ := script_of hn hpre hwl
  refine enter_call (codeAny_mono (call w s₀ s₁ mg mb fa o pm cd doc a vs ns G Y ho (fd_plain hd) hcd hmg hobj hints hlen hg) fun r s' hq => ?_)
  obtain ⟨rfl, h2, h3, h4⟩ := hq
  exact ⟨.inl ⟨.bool true, .bool true, [], rfl, fun _ => rfl, .bool true, post_true l _, fun _ => ⟨List.Pairwise.nil, fun _ hm => (nomatch hm)⟩⟩, h2, h3, h4⟩
section
variable {prog : Program} {w : World} {A : Around} {E : Value -> Shared -> Prop} {s : Shared} {K : Frag}
noncomputable def ledger (h : Heap) (L d : Addr) : List (Addr × Obj) := (List.range h.objs.size).filterMap fun a => if a = L \/ a = d then none else (h.get? a).map fun o => (a, o)
end
end Att
namespace L2
open PySem PySem.Spec PyProof.Rows
theorem vals_ints : ∀ {vs : List Value} {ns : List Int}, IntsAre vs ns -> Vals (ns.map V.int) vs
  | _, _, .nil => .nil
  | _, _, .cons n t h => .cons ⟨t, rfl⟩ (vals_ints h)
noncomputable def Only (H : Hp) : Prop := ∀ b, H b = none \/ ∃ o xs, H b = some (.frz o (.lst xs))
theorem law_call {P : Program} {w : World} {K : PySem.W.Frag} {mg mb : Str -> Option Value} {CX : CXT} {k : Nat} {fa a : Addr} {fd : FuncData} {x : Str} {sp : Sp} {s₁ : Shared} {vs : List Value} {ns : List Int}
    (KX : K.In s₁.heap) (hns : s₁.heap.Ns mainGlobals mg) (hb : s₁.heap.Ns builtinsNs mb) (hbb : ∀ x : Str, x ≠ "__name__" -> mb x = bootBuiltins x) (hlim : s₁.heap.NoLimit) (hg : s₁.gens = #[])
    (ha : s₁.heap.get? a = some { cls := .type "list", data := .seq vs.toArray }) (hi : IntsAre vs ns) (hl : ns.length <= sizeLine) (hr : Room k callerA)
    (F : ∀ base : Heap, K.In base -> base.Ns mainGlobals mg -> FnOk P w K mg base CX k fa fd [x] sp) (hbind : ∀ (s : Shared) (u : Value), BindsTo s fd ⟨[u], []⟩ [(x, u)])
    (hsp : ∀ H : Hp, Only H -> SqL K H a (ns.map V.int) -> sp [.ref a] H (fun v _ => v = .bl true) fun _ _ _ => False)
    (hCX : ∀ H e s', CX [] H s₁ (fun _ _ _ => False) e s' -> False) :
    codeAny (model P w) callerA (.call (.ref fa) ⟨[.ref a], []⟩) (fun r s' => r = .ok (.ret (.bool true)) /\ OldK s₁.heap s'.heap /\ s'.os = s₁.os /\ AllBare s'.gens) s₁ := by
  have rv := vals_ints hi
  have lenV := hi.length
  have core : ∀ H : Hp, Only H -> SqL K H a (ns.map V.int) -> HOk P w H s₁.heap -> (∀ b, H b ≠ none -> b = a) -> (H a ≠ none -> K.lookup a = none) ->
      codeAny (model P w) callerA (.call (.ref fa) ⟨[.ref a], []⟩) (fun r s' => r = .ok (.ret (.bool true)) /\ OldK s₁.heap s'.heap /\ s'.os = s₁.os /\ AllBare s'.gens) s₁ := by
    intro H hO hS hok hA hK
    have base_of : ∀ {b : Addr} {o : Obj}, s₁.heap.get? b = some o -> H b = none -> (hidT s₁.heap H).get? b = some o := fun e n => hidT_get e n
    have noA : ∀ {b : Addr} {o : Obj} {es : Array DictEntry} {ep : Nat}, s₁.heap.get? b = some o -> o.data = .dict es ep -> H b = none := fun {b o es ep} e d => by
      cases q : H b with
      | none => rfl
      | some u =>
        have e' : b = a := hA b (by rw [q]; simp)
        subst e'
        rw [ha] at e; cases e
        have d' : Data.seq vs.toArray _ = Data.dict es ep := d
        cases d'
    have nsK : ∀ {b : Addr} {m : Str -> Option Value}, s₁.heap.Ns b m -> (hidT s₁.heap H).Ns b m := fun {b m} ⟨o, es, ep, e, d, r⟩ => ⟨o, es, ep, base_of e (noA e d), d, r⟩
    have hKb : K.In (hidT s₁.heap H) := fun b o e => base_of (KX b o e) (by
      cases q : H b with
      | none => rfl
      | some u =>
        have e' : b = a := hA b (by rw [q]; simp)
        subst e'
        rw [hK (by rw [q]; simp)] at e; cases e)
    have hM : Mod K mg (hidT s₁.heap H) := ⟨hKb, nsK hns, ⟨mb, nsK hb, hbb⟩, let ⟨mc, h1, h2⟩ := hlim; ⟨mc, nsK h1, h2⟩⟩
    have e0 : Env0 P w K mg (hidT s₁.heap H) callerA [] s₁ H := ⟨rfl, hM, fun b o e => of_hidT e, Nat.le_of_eq (hidT_size _ _), trivial, fun b hb => absurd (show b ∈ ([] : List Addr) from hb) (by simp), hok, .of_eq hg⟩
    refine codeAny_mono ((F _ hKb (nsK hns)).run callerA [] s₁ H ⟨[.ref a], []⟩ [.ref a] [.ref a] _ _ hr e0 (hbind s₁ (.ref a)) (.cons rfl .nil) (hsp H hO hS)) fun r s' h => ?_
    cases r with
    | error e => exact (hCX H e s' h).elim
    | ok fl =>
      cases fl with
      | next => exact False.elim h
      | brk => exact False.elim h
      | cont => exact False.elim h
      | ret u =>
        obtain ⟨v, H', os, bare, un, hok', r', q⟩ := h
        have q' : v = .bl true := q
        subst q'
        obtain rfl : u = Value.bool true := r'
        refine ⟨rfl, OldK.of_keep fun b o e => ?_, os, bare⟩
        cases q : H b with
        | none => exact un.keep b o e q (by intro z; exact absurd (show b ∈ ([] : List Addr) from z) (by simp)) (by simp)
        | some u =>
          rcases hO b with z | ⟨ob, xs, z⟩
          · rw [q] at z; cases z
          · have z2 := un.frzs b ob _ z
            obtain ⟨e1, _⟩ := hok b _ z
            obtain ⟨e2, _⟩ := hok' b _ z2
            rw [e] at e1; cases e1
            exact e2
  cases hk : K.lookup a with
  | some o =>
    have e := KX a o hk
    rw [ha] at e
    cases e
    refine core (fun _ => none) (fun _ => .inl rfl) (.inr ⟨_, vs.toArray, _, hk, rfl, rfl, rfl, by rw [List.size_toArray, lenV]; exact hl, by simpa using rv⟩) (fun b u z => by have z' : (none : Option HO) = some u := z; cases z') (fun b z => absurd rfl z) fun z => absurd rfl z
  | none =>
    refine core (fun b => if b = a then some (.frz { cls := .type "list", data := .seq vs.toArray } (.lst (ns.map V.int))) else none) (fun b => ?_) (.inl (.inr ⟨{ cls := .type "list", data := .seq vs.toArray }, if_pos rfl⟩)) (fun b u z => ?_) (fun b z => ?_) fun _ => hk
    · by_cases hb : b = a
      · exact .inr ⟨_, _, if_pos hb⟩
      · exact .inl (if_neg hb)
    · by_cases hb : b = a
      · have z' := (if_pos hb).symm.trans z
        cases z'
        subst hb
        exact ⟨ha, by rw [List.length_map]; exact hl, vs, _, rv, ha⟩
      · have z' := (if_neg hb).symm.trans z
        cases z'
    · by_cases hb : b = a
      · exact hb
      · exact absurd (if_neg hb) z
end L2
namespace L2
open PySem PySem.Spec PyProof.Rows
noncomputable abbrev KOf {K : PySem.W.Frag} {h : Heap} (_ : K.In h) : PySem.W.Frag := K
theorem walk_of {l : PySem.W.OpenLaw} {n k : Nat} {q : Program} {loose : List Str} {XP : (Str -> Option Value) -> Heap -> Prop} {YP : World -> Heap -> Prop} {d : DefRec} {K : Params -> PySem.W.Frag} {CX : World -> CXT} {sp : World -> Sp} {x : Str}
    (hn : l.most = some n) (hn2 : n <= sizeLine) (hdf : d.params.defaults = []) (hr : Room k callerA)
    (hY : ∀ (w : World) (h : Heap), YP w h -> (K w.params).In h)
    (F : ∀ (w : World) (mg : Str -> Option Value) (fa : Addr) (h : Heap), (K w.params).In h -> h.Ns mainGlobals mg -> mg d.name = some (.ref fa) ->
      ∃ fd : FuncData, (∀ (s : Shared) (u : Value), BindsTo s fd ⟨[u], []⟩ [(x, u)]) /\
        ∀ base : Heap, (K w.params).In base -> base.Ns mainGlobals mg -> FnOk l.prog w (K w.params) mg base (CX w) k fa fd [x] (sp w))
    (hsp : ∀ (w : World) (H : Hp) (a : Addr) (ns : List Int), ns.length <= n -> Only H -> SqL (K w.params) H a (ns.map V.int) -> sp w [.ref a] H (fun v _ => v = .bl true) fun _ _ _ => False)
    (hCX : ∀ (w : World) (H : Hp) (s : Shared) (e : Value) (s' : Shared), CX w [] H s (fun _ _ _ => False) e s' -> False) :
    PySem.W.WalkO q loose XP YP l.row.toRowW d [] (fun f vs => PySem.call f vs) := by
  refine Att.attach_call hn hdf fun w s₀ s₁ mg mb fa o pm cd doc a vs ns G Y ho hd hcd hmg hobj hints hlen hg => ?_
  have KX := hY w _ Y
  obtain ⟨fd, hb, hF⟩ := F w mg fa _ KX G.T.g hmg
  exact law_call KX G.T.g G.T.b G.T.builtins G.T.nolimit hg hobj hints (Nat.le_trans hlen hn2) hr hF hb (fun H hO hS => hsp w H a ns hlen hO hS) fun H e s' => hCX w H s₁ e s'
end L2
namespace L2
open PySem PySem.Spec PyProof.Rows
noncomputable def defArgs (s : Stmt) : Arguments := match s with
  | .FunctionDef _ a _ _ _ _ _ _ _ _ => a
  | _ => { posonlyargs := [], args := [], vararg := none, kwonlyargs := [], kw_defaults := [], kwarg := none, defaults := [] }
noncomputable def defBody (s : Stmt) : List Stmt := match s with
  | .FunctionDef _ _ b _ _ _ _ _ _ _ => b
  | _ => []
noncomputable def defScope (s : Stmt) : Scope := match s with
  | .FunctionDef _ _ _ _ _ _ sc _ _ _ => sc
  | _ => { kind := .function, names := [], isGenerator := false, isCoroutine := false }
noncomputable abbrev CX0 : CXT := fun _ _ _ _ _ _ => False
structure Fun (K : PySem.W.Frag) (x qual : Str) (st : Stmt) (f : Addr) (fd : FuncData) : Prop where
  ex : ∃ (oc : Value) (od : Option Addr) (kV doc pm : Value) (an : Option Addr) (cdv ct : Value) (osl : Array (Option Value)),
    fd = PySem.W.fnOf x qual (defArgs st) (defBody st) (defScope st) .none kV doc pm an cdv ct /\ K.lookup f = some ⟨oc, od, .func fd, osl⟩ /\ PySem.W.codeIn K cdv qual = true
  kp : PySem.W.keepIn K (.ref f) = true
section
variable {P : Program} {w : World} {K : PySem.W.Frag} {mg : Str -> Option Value} {base : Heap}
theorem Fun.ok {x qual : Str} {st : Stmt} {f : Addr} {fd : FuncData} {N ps : List Str} {k : Nat} {sp : Sp} (F : Fun K x qual st f fd) (S : FnScope N ps (defScope st)) (len : ∀ vs H Q E, sp vs H Q E -> vs.length = ps.length)
    (hbody : ∀ (cdv : Value) (A : Around) (outer : List Env) (s : Shared) (H : Hp) (vs : List V) (Q : VK) (E : XK), Room k (A.deeper (envOfC qual (defScope st) s.heap.objs.size f cdv)) -> sp vs H Q E ->
      ∃ t, PSs (cxOf CX0 P w K mg base N qual (defScope st) f cdv A outer s H E).nox (defBody st) t /\ t { nx := fun _ H' => Q .non H', rt := Q } (start N vs) H) : FnOk P w K mg base CX0 (k + 1) f fd ps sp := by
  obtain ⟨oc, od, kV, doc, pm, an, cdv, ct, osl, rfl, lk, hcd⟩ := F.ex
  refine fn_of lk hcd S len fun A outer s H vs Q E hr hsp => ?_
  obtain ⟨t, h, q⟩ := hbody cdv A outer s H vs Q E hr hsp
  exact ⟨t, h.nox, q⟩
theorem Fun.binds {x qual : Str} {st : Stmt} {f : Addr} {fd : FuncData} {ps : List Str} (F : Fun K x qual st f fd)
    (h : ∀ (kV doc pm : Value) (an : Option Addr) (cdv ct : Value) (us : List Value), us.length = ps.length -> bindArgs (PySem.W.fnOf x qual (defArgs st) (defBody st) (defScope st) .none kV doc pm an cdv ct) ⟨us, []⟩ = pure (ps.zip us)) : Binds K fd ps [] := by
  obtain ⟨oc, od, kV, doc, pm, an, cdv, ct, osl, rfl, lk, hcd⟩ := F.ex
  exact .all (h kV doc pm an cdv ct)
theorem fun_mk {x qual : Str} {st : Stmt} {f : Addr} {oc : Value} {od an : Option Addr} {osl : Array (Option Value)} {kV doc pm cdv ct : Value} (l : K.lookup f = some ⟨oc, od, .func (PySem.W.fnOf x qual (defArgs st) (defBody st) (defScope st) .none kV doc pm an cdv ct), osl⟩)
    (c : PySem.W.codeIn K cdv qual = true) (k : PySem.W.keepIn K (.ref f) = true) : Fun K x qual st f (PySem.W.fnOf x qual (defArgs st) (defBody st) (defScope st) .none kV doc pm an cdv ct) := ⟨⟨oc, od, kV, doc, pm, an, cdv, ct, osl, rfl, l, c⟩, k⟩
end
theorem hu_of {A : Around} {k : Nat} (hr : Room k A) : A.units + 1 < cLine := Nat.lt_of_le_of_lt (Nat.add_le_add_left (by decide : 1 <= 64) _) hr.units
theorem small1000 {n : Nat} (h : n <= 1000) : n < sizeLine := Nat.lt_of_le_of_lt h (by decide)
section
variable {X : Cx}
theorem pv (i : Nat) {x : Str} {pos : Pos} (hN : X.N[i]? = some x := by rfl) (hv : Vis X.env.scope x := by first | exact Or.inl rfl | exact Or.inr (Or.inl rfl) | exact Or.inr (Or.inr rfl)) (hd : (x == ("__debug__" : Str)) = false := by decide)
    (hcd : (x == ("__classdict__" : Str)) = false := by decide) : PE X (.Name x pos) (tVar i) := pe_var hN hv hd hcd
end
theorem iteF {A B : Prop} (h : B) : if false = true then A else B := by
  rw [if_neg Bool.false_ne_true]
  exact h
theorem iteT {A B : Prop} (h : A) : if true = true then A else B := by
  rw [if_pos rfl]
  exact h
noncomputable def Same (H H' : Hp) : Prop := ∀ b o, H b = some o -> H' b = some o
theorem Same.refl (H : Hp) : Same H H := fun _ _ h => h
theorem Same.trans {H H1 H2 : Hp} (a : Same H H1) (b : Same H1 H2) : Same H H2 := fun c o h => b c o (a c o h)
theorem Same.free {H H' : Hp} (e : Same H H') {l : Addr} (h : H' l = Option.none) : H l = Option.none := by
  cases q : H l with
  | none => rfl
  | some o =>
    rw [e l o q] at h
    cases h
theorem Same.seq {K : PySem.W.Frag} {H H' : Hp} {a : Addr} {xs : List V} (e : Same H H') (h : SqL K H a xs) : SqL K H' a xs := by
  rcases h with (h | ⟨o, h⟩) | h
  · exact .inl (.inl (e _ _ h))
  · exact .inl (.inr ⟨o, e _ _ h⟩)
  · exact .inr h
end L2
set_option Elab.async false
set_option linter.all false
set_option maxRecDepth 100000
namespace L2
open PySem PySem.Spec PyProof.Rows
section
variable {κ : Type} [DecidableEq κ]
noncomputable def valV (kvs : List (κ × V)) (k : κ) : Option V := (kvs.find? fun kv => decide (kv.1 = k)).map (·.2)
noncomputable def putK (kvs : List (κ × V)) (k : κ) (v : V) : List (κ × V) :=
  if (kvs.any fun kv => decide (kv.1 = k)) = true then kvs.map (fun kv => if kv.1 = k then (kv.1, v) else kv) else kvs ++ [(k, v)]
noncomputable def dropK (kvs : List (κ × V)) (k : κ) : List (κ × V) := kvs.filter fun kv => decide (kv.1 ≠ k)
theorem valV_pos {p : κ × V} {r : List (κ × V)} {k : κ} (e : p.1 = k) : valV (p :: r) k = some p.2 := by simp [valV, List.find?_cons, e]
theorem valV_neg {p : κ × V} {r : List (κ × V)} {k : κ} (e : ¬ p.1 = k) : valV (p :: r) k = valV r k := by simp [valV, List.find?_cons, e]
theorem valV_any (k : κ) : ∀ kvs : List (κ × V), (kvs.any fun kv => decide (kv.1 = k)) = (valV kvs k).isSome
  | [] => rfl
  | p :: r => by
    rw [List.any_cons]
    by_cases e : p.1 = k
    · simp only [valV_pos e, decide_eq_true e, Bool.true_or, Option.isSome_some]
    · rw [valV_neg e, decide_eq_false e, Bool.false_or]; exact valV_any k r
theorem length_putK (kvs : List (κ × V)) (k : κ) (v : V) : (putK kvs k v).length <= kvs.length + 1 := by
  unfold putK
  split
  · rw [List.length_map]; omega
  · rw [List.length_append, List.length_cons, List.length_nil]; omega
theorem RelO.isSome_eq {o : Option V} {u : Option Value} (r : RelO o u) : o.isSome = u.isSome := by
  cases o with
  | none => cases u with
    | none => rfl
    | some _ => exact (show False from r).elim
  | some _ => cases u with
    | none => exact (show False from r).elim
    | some _ => rfl
theorem RelO.getD {o : Option V} {u : Option Value} {d : V} {d' : Value} (r : RelO o u) (rd : RelV d d') : RelV (o.getD d) (u.getD d') := by
  cases o with
  | none => cases u with
    | none => exact rd
    | some _ => exact (show False from r).elim
  | some _ => cases u with
    | none => exact (show False from r).elim
    | some _ => exact r
theorem KV.val {kvs : List (κ × V)} {vs : List (κ × Value)} (r : KV kvs vs) (k : κ) : RelO (valV kvs k) (valueAt vs k) := by
  unfold KV at r
  induction r with
  | nil => exact True.intro
  | @cons p q ps qs h t ih =>
    obtain ⟨h1, h2⟩ := h
    by_cases e : p.1 = k
    · have e' : q.1 = k := h1.symm.trans e
      have b : valueAt (q :: qs) k = some q.2 := by simp [valueAt, List.find?_cons, e']
      rw [valV_pos e, b]; exact h2
    · have e' : ¬ q.1 = k := fun z => e (h1.trans z)
      have b : valueAt (q :: qs) k = valueAt qs k := by simp [valueAt, List.find?_cons, e']
      rw [valV_neg e, b]; exact ih
theorem KV.any {kvs : List (κ × V)} {vs : List (κ × Value)} (r : KV kvs vs) (k : κ) : (kvs.any fun kv => decide (kv.1 = k)) = vs.any fun kv => decide (kv.1 = k) := by
  unfold KV at r
  induction r with
  | nil => rfl
  | cons h t ih => rw [List.any_cons, List.any_cons, ih, h.1]
theorem KV.repl {kvs : List (κ × V)} {vs : List (κ × Value)} (r : KV kvs vs) (k : κ) {y : V} {u : Value} (ry : RelV y u) :
    KV (kvs.map fun kv => if kv.1 = k then (kv.1, y) else kv) (vs.map fun kv => if kv.1 = k then (kv.1, u) else kv) := by
  unfold KV at r ⊢
  induction r with
  | nil => exact .nil
  | @cons p q ps qs h t ih =>
    rw [List.map_cons, List.map_cons]
    refine .cons ?_ ih
    obtain ⟨h1, h2⟩ := h
    by_cases e : p.1 = k
    · rw [if_pos e, if_pos (h1.symm.trans e)]; exact ⟨h1, ry⟩
    · rw [if_neg e, if_neg (fun z => e (h1.trans z))]; exact ⟨h1, h2⟩
theorem KV.put {kvs : List (κ × V)} {vs : List (κ × Value)} (r : KV kvs vs) (k : κ) {y : V} {u : Value} (ry : RelV y u) : KV (putK kvs k y) (stored vs k u) := by
  unfold putK stored
  rw [r.any k]
  by_cases e : (vs.any fun kv => decide (kv.1 = k)) = true
  · rw [if_pos e, if_pos e]; exact r.repl k ry
  · rw [if_neg e, if_neg e]; exact Paired.snoc r ⟨rfl, ry⟩
theorem KV.drop {kvs : List (κ × V)} {vs : List (κ × Value)} (r : KV kvs vs) (k : κ) : KV (dropK kvs k) (without vs k) := by
  unfold KV at r ⊢
  unfold dropK without
  induction r with
  | nil => exact .nil
  | @cons p q ps qs h t ih =>
    obtain ⟨h1, h2⟩ := h
    rw [List.filter_cons, List.filter_cons]
    by_cases e : p.1 = k
    · have a : ¬ decide (p.1 ≠ k) = true := by simp [e]
      have b : ¬ decide (q.1 ≠ k) = true := by simp [h1.symm.trans e]
      rw [if_neg a, if_neg b]; exact ih
    · have e' : ¬ q.1 = k := fun z => e (h1.trans z)
      have a : decide (p.1 ≠ k) = true := by simp [e]
      have b : decide (q.1 ≠ k) = true := by simp [e']
      rw [if_pos a, if_pos b]; exact .cons ⟨h1, h2⟩ ih
theorem KV.keys {kvs : List (κ × V)} {vs : List (κ × Value)} (r : KV kvs vs) : kvs.map (·.1) = vs.map (·.1) := by
  unfold KV at r
  induction r with
  | nil => rfl
  | cons h t ih => rw [List.map_cons, List.map_cons, ih, h.1]
theorem KV.length {kvs : List (κ × V)} {vs : List (κ × Value)} (r : KV kvs vs) : kvs.length = vs.length := Paired.length r
end
theorem kV_is {P : Program} {w : World} {k : Key} {u : Value} (r : RelV (kV k) u) : (mixKind P w).is k u = true := by
  cases k with
  | inl i => obtain ⟨t, e⟩ := (show ∃ t, u = Value.int i t from r); subst e; exact mixKind_int P w i t
  | inr x => obtain ⟨t, e⟩ := (show ∃ t, u = Value.str x t from r); subst e; exact mixKind_str P w x t
theorem items_are {P : Program} {w : World} : ∀ {ks : List Key} {us : List Value}, Vals (ks.map kV) us -> ItemsAre (mixKind P w) ks us
  | [], _, r => by rw [List.map_nil] at r; cases r; exact .nil
  | k :: ks, _, r => by
    rw [List.map_cons] at r
    cases r with
    | cons h t => exact .cons (kV_is h) (items_are t)
noncomputable abbrev KT (H : Hp) : List (List Key × V) -> List (List Key × Addr × Value) -> Prop := Paired fun p q => p.1 = q.1 /\ H q.2.1 = some (.tup (p.1.map kV)) /\ RelV p.2 q.2.2
theorem KT.val {H : Hp} {kvs : List (List Key × V)} {xs : List (List Key × Addr × Value)} (r : KT H kvs xs) (k : List Key) : RelO (valV kvs k) ((atKey xs k).map (·.2)) := by
  induction r with
  | nil => exact True.intro
  | @cons p q ps qs h t ih =>
    obtain ⟨h1, _, h2⟩ := h
    by_cases e : p.1 = k
    · have e' : q.1 = k := h1.symm.trans e
      have b : atKey (q :: qs) k = some q.2 := by simp [atKey, List.find?_cons, e']
      rw [valV_pos e, b]; exact h2
    · have e' : ¬ q.1 = k := fun z => e (h1.trans z)
      have b : atKey (q :: qs) k = atKey qs k := by simp [atKey, List.find?_cons, e']
      rw [valV_neg e, b]; exact ih
theorem KT.repl {H : Hp} {kvs : List (List Key × V)} {xs : List (List Key × Addr × Value)} (r : KT H kvs xs) (k : List Key) {y : V} {u : Value} (ry : RelV y u) :
    KT H (kvs.map fun kv => if kv.1 = k then (kv.1, y) else kv) (xs.map (putAt k u)) := by
  induction r with
  | nil => exact .nil
  | @cons p q ps qs h t ih =>
    rw [List.map_cons, List.map_cons]
    refine .cons ?_ ih
    obtain ⟨h1, h2, h3⟩ := h
    unfold putAt
    by_cases e : p.1 = k
    · rw [if_pos e, if_pos (h1.symm.trans e)]; exact ⟨h1, h2, ry⟩
    · rw [if_neg e, if_neg (fun z => e (h1.trans z))]; exact ⟨h1, h2, h3⟩
theorem KT.put {H : Hp} {kvs : List (List Key × V)} {xs : List (List Key × Addr × Value)} (r : KT H kvs xs) (k : List Key) {b : Addr} {y : V} {u : Value} (hb : H b = some (.tup (k.map kV))) (ry : RelV y u) :
    KT H (putK kvs k y) (storedH xs k b u) := by
  have e : (kvs.any fun kv => decide (kv.1 = k)) = (atKey xs k).isSome := by
    rw [valV_any, (r.val k).isSome_eq, Option.isSome_map]
  unfold putK storedH
  rw [e]
  by_cases q : (atKey xs k).isSome = true
  · rw [if_pos q, if_pos q]; exact r.repl k ry
  · rw [if_neg q, if_neg q]; exact Paired.snoc r ⟨rfl, hb, ry⟩
theorem KT.keeps {H H' : Hp} {kvs : List (List Key × V)} {xs : List (List Key × Addr × Value)} (r : KT H kvs xs) (ht : ∀ b ys, H b = some (.tup ys) -> H' b = some (.tup ys)) : KT H' kvs xs :=
  Paired.mapP r fun _ _ z => ⟨z.1, ht _ _ z.2.1, z.2.2⟩
section
variable {P : Program} {w : World} {H : Hp} {h : Heap} {a : Addr}
theorem rd_of {u : HO} (ok : HOk P w H h) (e : Rd H a u) : ObjOk P w H h a u := e.ok ok
theorem dk_rd {kvs : List (Key × V)} (ok : HOk P w H h) (e : Rd H a (.dK kvs)) : kvs.length <= sizeLine /\ (a == sysModules) = false /\ ∃ vs, KV kvs vs /\ h.DictOf (mixKind P w) a vs :=
  show ObjOk P w H h a (.dK kvs) from rd_of ok e
theorem dk_of {kvs : List (Key × V)} (ok : HOk P w H h) (e : H a = some (.dK kvs)) : kvs.length <= sizeLine /\ (a == sysModules) = false /\ ∃ vs, KV kvs vs /\ h.DictOf (mixKind P w) a vs := dk_rd ok (.inl e)
theorem key_of {ks : List Key} (ok : HOk P w H h) (e : H a = some (.tup (ks.map kV))) : (tupleKind (mixKind P w)).is h ks a := by
  obtain ⟨_, its, r, o, h1, h2, n, h3⟩ := (show ObjOk P w H h a (.tup (ks.map kV)) from ok a _ e)
  exact ⟨o, its.toArray, n, h1, h2, h3, by simpa using items_are r⟩
theorem dt_rd {kvs : List (List Key × V)} (ok : HOk P w H h) (e : Rd H a (.dT kvs)) : kvs.length <= sizeLine /\ (a == sysModules) = false /\
    ∃ xs, KT H kvs xs /\ h.DictOfH (tupleKind (mixKind P w)) a xs := by
  obtain ⟨z, y, xs, r, o, es, ep, h1, h2, h3, h4, h5⟩ := (show ObjOk P w H h a (.dT kvs) from rd_of ok e)
  refine ⟨z, y, xs, r, o, es, ep, h1, h2, h3, h4, fun x hx => ?_, h5⟩
  have all : ∀ {l : List (List Key × V)} {m : List (List Key × Addr × Value)}, KT H l m -> ∀ x ∈ m, (tupleKind (mixKind P w)).is h x.1 x.2.1 := by
    intro l m q
    induction q with
    | nil => intro x hx; exact nomatch hx
    | @cons p q ps qs hq t ih =>
      intro x hx
      rcases List.mem_cons.mp hx with e | hx
      · subst e
        exact key_of ok (by rw [<- hq.1]; exact hq.2.1)
      · exact ih x hx
  exact all r x hx
theorem dt_of {kvs : List (List Key × V)} (ok : HOk P w H h) (e : H a = some (.dT kvs)) : kvs.length <= sizeLine /\ (a == sysModules) = false /\
    ∃ xs, KT H kvs xs /\ h.DictOfH (tupleKind (mixKind P w)) a xs := dt_rd ok (.inl e)
end
noncomputable def DGet (H : Hp) (a : Addr) (y : V) (r : Option V) : Prop :=
  (∃ kvs k, Rd H a (.dK kvs) /\ y = kV k /\ r = valV kvs k) \/ ∃ kvs k b, Rd H a (.dT kvs) /\ y = .ref b /\ H b = some (.tup (k.map kV)) /\ r = valV kvs k
noncomputable def DPut (H : Hp) (a : Addr) (y v : V) (H' : Hp) : Prop :=
  (∃ kvs k, H a = some (.dK kvs) /\ y = kV k /\ kvs.length < sizeLine /\ H' = upd H a (.dK (putK kvs k v))) \/
  ∃ kvs k b, H a = some (.dT kvs) /\ y = .ref b /\ H b = some (.tup (k.map kV)) /\ kvs.length < sizeLine /\ H' = upd H a (.dT (putK kvs k v))
theorem DGet.k {H : Hp} {a : Addr} {kvs : List (Key × V)} {k : Key} (e : H a = some (.dK kvs)) : DGet H a (kV k) (valV kvs k) := .inl ⟨kvs, k, .inl e, rfl, rfl⟩
theorem DGet.t {H : Hp} {a b : Addr} {kvs : List (List Key × V)} {k : List Key} (e : H a = some (.dT kvs)) (eb : H b = some (.tup (k.map kV))) : DGet H a (.ref b) (valV kvs k) := .inr ⟨kvs, k, b, .inl e, rfl, eb, rfl⟩
theorem DPut.k {H : Hp} {a : Addr} {kvs : List (Key × V)} {k : Key} {v : V} (e : H a = some (.dK kvs)) (hl : kvs.length < sizeLine) : DPut H a (kV k) v (upd H a (.dK (putK kvs k v))) := .inl ⟨kvs, k, e, rfl, hl, rfl⟩
theorem DPut.t {H : Hp} {a b : Addr} {kvs : List (List Key × V)} {k : List Key} {v : V} (e : H a = some (.dT kvs)) (eb : H b = some (.tup (k.map kV))) (hl : kvs.length < sizeLine) :
    DPut H a (.ref b) v (upd H a (.dT (putK kvs k v))) := .inr ⟨kvs, k, b, e, rfl, eb, hl, rfl⟩
section
variable {X : Cx} {pins : List (Addr × Obj)} {σ : St} {H : Hp} {s : Shared} {a : Addr} {y v : V} {u r : Value} {o : Option V} {A : Around} {E : Value -> Shared -> Prop}
theorem Inv.big (I : Inv X pins σ H s) : sysModules < s.heap.objs.size := by
  have h : mainGlobals < s.heap.objs.size := (I.mod.glob.keeps I.bk).lt
  exact Nat.lt_trans (by decide) h
theorem d_getItem {Q : Value -> Shared -> Prop} (hu : A.units + 1 < cLine) (I : Inv X pins σ H s) (g : DGet H a y (some v)) (ry : RelV y u) (h : ∀ w' s', Inv X pins σ H s' -> RelV v w' -> Q w' s') :
    wpAny (model X.prog X.w) A (getItem (.ref a) u) Q E s := by
  rcases g with ⟨kvs, k, e, ey, l⟩ | ⟨kvs, k, b, e, ey, eb, l⟩
  · subst ey
    obtain ⟨z, hd, vs, rel, dd⟩ := dk_rd I.hok e
    obtain ⟨w', hw, rw'⟩ := RelO.some_of (v := v) (o := valueAt vs k) (by rw [l]; exact rel.val k)
    exact wpAny_getItem_of (kV_is ry) dd.mapOf hw (h w' _ (I.tok _) rw')
  · subst ey
    cases (show u = Value.ref b from ry)
    obtain ⟨z, hd, xs, rel, dd⟩ := dt_rd I.hok e
    obtain ⟨w', hw, rw'⟩ := RelO.some_of (v := v) (o := (atKey xs k).map (·.2)) (by rw [l]; exact rel.val k)
    obtain ⟨p, hp, hp2⟩ := Option.map_eq_some_iff.mp hw
    refine wpAny_getItem_heap (tupleKind_room_in1 hu) (key_of I.hok eb) dd hp ?_
    rw [hp2]
    exact h w' _ (I.tok _) rw'
theorem d_in {Q : Value -> Shared -> Prop} (hu : A.units + 1 < cLine) (I : Inv X pins σ H s) (g : DGet H a y o) (ry : RelV y u) (h : ∀ s', Inv X pins σ H s' -> Q (.bool o.isSome) s') :
    wpAny (model X.prog X.w) A (compareOp .In u (.ref a)) Q E s := by
  rcases g with ⟨kvs, k, e, ey, l⟩ | ⟨kvs, k, b, e, ey, eb, l⟩
  · subst ey
    obtain ⟨z, hd, vs, rel, dd⟩ := dk_rd I.hok e
    refine wpAny_in_of (kV_is ry) hd dd.mapOf ?_
    rw [<- (rel.val k).isSome_eq, <- l]
    exact h _ (I.tok _)
  · subst ey
    cases (show u = Value.ref b from ry)
    obtain ⟨z, hd, xs, rel, dd⟩ := dt_rd I.hok e
    refine wpAny_in_heap (tupleKind_room_in1 hu) (key_of I.hok eb) hd dd ?_
    have q := (rel.val k).isSome_eq
    rw [Option.isSome_map] at q
    rw [<- q, <- l]
    exact h _ (I.tok _)
theorem d_notIn {Q : Value -> Shared -> Prop} (hu : A.units + 1 < cLine) (I : Inv X pins σ H s) (g : DGet H a y o) (ry : RelV y u) (h : ∀ s', Inv X pins σ H s' -> Q (.bool (!o.isSome)) s') :
    wpAny (model X.prog X.w) A (compareOp .NotIn u (.ref a)) Q E s := by
  rcases g with ⟨kvs, k, e, ey, l⟩ | ⟨kvs, k, b, e, ey, eb, l⟩
  · subst ey
    obtain ⟨z, hd, vs, rel, dd⟩ := dk_rd I.hok e
    refine wpAny_notIn_of (kV_is ry) hd dd.mapOf ?_
    rw [<- (rel.val k).isSome_eq, <- l]
    exact h _ (I.tok _)
  · subst ey
    cases (show u = Value.ref b from ry)
    obtain ⟨z, hd, xs, rel, dd⟩ := dt_rd I.hok e
    refine wpAny_notIn_heap (tupleKind_room_in1 hu) (key_of I.hok eb) hd dd ?_
    have q := (rel.val k).isSome_eq
    rw [Option.isSome_map] at q
    rw [<- q, <- l]
    exact h _ (I.tok _)
theorem d_write {h' : Heap} {t' : Nat} {ob : HO} (I : Inv X pins σ H s) (mu : Mut (H a)) (hs : Heap.SameBut a s.heap h') (he : ∃ q, h'.get? a = some q) (new : ObjOk X.prog X.w (upd H a ob) h' a ob) :
    Inv X pins σ (upd H a ob) { s with heap := h', toks := t' } :=
  I.write (x := a) (e := a) mu (.inl rfl) (fun b q hb z => (hs.2 b hb).trans z) he new
theorem dk_new {P : Program} {w : World} {H' : Hp} {h' : Heap} {kvs : List (Key × V)} {vs : List (Key × Value)} (z : kvs.length <= sizeLine) (hd : (a == sysModules) = false) (rel : KV kvs vs) (dd : h'.DictOf (mixKind P w) a vs) :
    ObjOk P w H' h' a (.dK kvs) := ⟨z, hd, vs, rel, dd⟩
theorem d_setItem {H' : Hp} {Q : Unit -> Shared -> Prop} (hu : A.units + 1 < cLine) (I : Inv X pins σ H s) (g : DPut H a y v H') (ry : RelV y u) (rv : RelV v r) (h : ∀ s', Inv X pins σ H' s' -> Q () s') :
    wpAny (model X.prog X.w) A (setItem (.ref a) u r) Q E s := by
  rcases g with ⟨kvs, k, e, ey, l, eH⟩ | ⟨kvs, k, b, e, ey, eb, l, eH⟩
  · subst ey eH
    obtain ⟨z, hd, vs, rel, dd⟩ := dk_of I.hok e
    have hz : vs.length <= sizeLine := by rw [<- rel.length]; exact z
    have hl : (putK kvs k v).length <= sizeLine := by have := length_putK kvs k v; omega
    refine wpAny_setItem_pairs (hsz := hz) (kV_is ry) dd fun h' dd' hs => h _ ?_
    have he : ∃ q, h'.get? a = some q := let ⟨q, _, _, hq, _⟩ := dd'; ⟨q, hq⟩
    exact d_write I (by rw [e]; exact True.intro) hs he (dk_new hl hd (rel.put k rv) dd')
  · subst ey eH
    cases (show u = Value.ref b from ry)
    obtain ⟨z, hd, xs, rel, dd⟩ := dt_of I.hok e
    have hz : xs.length <= sizeLine := by rw [<- Paired.length rel]; exact z
    have hl : (putK kvs k v).length <= sizeLine := by have := length_putK kvs k v; omega
    refine wpAny_setItem_heap (hsz := hz) (tupleKind_room_in1 hu) (key_of I.hok eb) dd fun h' dd' hs => h _ ?_
    obtain ⟨q, es, ep, hq, h2, h3, h4, _, h5⟩ := dd'
    refine d_write I (by rw [e]; exact True.intro) hs ⟨q, hq⟩ ⟨hl, hd, _, (rel.put k eb rv).keeps fun c ys ec => ?_, q, es, ep, hq, h2, h3, h4, h5⟩
    rw [upd_ne (ne_of ec e (fun z => nomatch z))]
    exact ec
end
section
variable {X : Cx} {pins : List (Addr × Obj)} {σ : St} {H : Hp} {s : Shared} {a : Addr} {kvs : List (Key × V)} {k : Key} {u : Value} {A : Around} {E : Value -> Shared -> Prop}
end
section
variable {X : Cx} {o i e value : Expr} {pos pos' tpos : Pos} {td ty tv : TE}
end
theorem dk_empty {P : Program} {w : World} {H : Hp} (h : Heap) (hb : sysModules < h.objs.size) : ObjOk P w H (h.push { cls := .type "dict", data := .dict #[] }) h.objs.size (.dK []) :=
  ⟨Nat.zero_le _, beq_eq_false_iff_ne.mpr (Ne.symm (Nat.ne_of_lt hb)), [], .nil, Heap.DictOf.new h⟩
noncomputable def tDNewK : TE := fun _ H Q => ∀ p, H p = none -> Q (.ref p) (upd H p (.dK []))
section
variable {X : Cx} {pos : Pos}
theorem pe_dnewK : PE X (.Dict [] [] pos) tDNewK := fun pins s σ H Q I h =>
  wpAny_Dict_empty ⟨.ref s.heap.objs.size, _, I.laid (a := s.heap.objs.size) (o := .dK []) (t' := s.toks) (fun _ _ q => Heap.get?_push_of_some _ q) (Nat.le_refl _) (dk_empty s.heap I.big), rfl, h _ (I.hok.fresh (Nat.le_refl _))⟩
end
noncomputable def tPairs : List (TE × TE) -> St -> Hp -> (List (V × V) -> Hp -> Prop) -> Prop
  | [], _, H, Q => Q [] H
  | (tk, tv) :: r, σ, H, Q => tk σ H fun x H1 => tv σ H1 fun y H2 => tPairs r σ H2 fun ps H3 => Q ((x, y) :: ps) H3
noncomputable abbrev VV : List (V × V) -> List (Value × Value) -> Prop := Paired fun p q => RelV p.1 q.1 /\ RelV p.2 q.2
noncomputable def PPs (X : Cx) (pos : Pos) (keys : List (Option Expr)) (values : List Expr) (trs : List (TE × TE)) : Prop :=
  ∀ (pins : List (Addr × Obj)) (s : Shared) (σ : St) (H : Hp) (Q : List (V × V) -> Hp -> Prop), Inv X pins σ H s -> tPairs trs σ H Q ->
    wpAny (model X.prog X.w) X.A (evalPairs (pairTrees keys values X.env pos)) (fun vs s' => ∃ ps H', Inv X pins σ H' s' /\ VV ps vs /\ Q ps H') X.xe s
theorem pps_nil {X : Cx} {pos : Pos} : PPs X pos [] [] [] := fun pins s σ H Q I h => pairTrees_nil_walk ⟨[], H, I, .nil, h⟩
theorem pps_cons {X : Cx} {pos : Pos} {k v : Expr} {ks : List (Option Expr)} {vs : List Expr} {tk tv : TE} {trs : List (TE × TE)} (hk : PE X k tk) (hv : PE X v tv) (hr : PPs X pos ks vs trs) :
    PPs X pos (some k :: ks) (v :: vs) ((tk, tv) :: trs) := fun pins s σ H Q I h =>
  pairTrees_cons_walk (thn (hk pins s σ H _ I h) fun u s1 ⟨x, H1, I1, rx, q1⟩ => thn (hv pins s1 σ H1 _ I1 q1) fun w2 s2 ⟨y, H2, I2, ry, q2⟩ =>
    thn (hr pins s2 σ H2 _ I2 q2) fun ws s3 ⟨ps, H3, I3, rel, q3⟩ => ⟨(x, y) :: ps, H3, I3, .cons ⟨rx, ry⟩ rel, q3⟩)
noncomputable def mergeK (kvs more : List (Key × V)) : List (Key × V) := more.foldl (fun acc kv => putK acc kv.1 kv.2) kvs
theorem KV.merge : ∀ {more : List (Key × V)} {rs : List (Key × Value)} {kvs : List (Key × V)} {vs : List (Key × Value)}, KV more rs -> KV kvs vs -> KV (mergeK kvs more) (merged vs rs) := by
  intro more rs kvs vs r
  unfold KV at r
  induction r generalizing kvs vs with
  | nil => intro q; exact q
  | @cons p q ps qs h t ih =>
    intro r0
    have e : KV (putK kvs p.1 p.2) (stored vs q.1 q.2) := by
      have := r0.put p.1 h.2
      rw [<- h.1]; exact this
    exact ih e
theorem length_mergeK : ∀ (more kvs : List (Key × V)), (mergeK kvs more).length <= kvs.length + more.length
  | [], kvs => by show kvs.length <= kvs.length + 0; omega
  | p :: r, kvs => by
    have h1 := length_mergeK r (putK kvs p.1 p.2)
    have h2 := length_putK kvs p.1 p.2
    show (mergeK (putK kvs p.1 p.2) r).length <= _
    rw [List.length_cons]; omega
structure M1 (X : Cx) (o : Expr) (m : Str) (apos : Pos) (e : Expr) (cpos : Pos) : Prop where
  base : attributeBase o m X.env (eval o X.env) = eval o X.env
  few : ((backTo cpos (starEach [e] X.env)).all (fun x => !x.1) && (backToKw cpos (keywordEach [] X.env)).all (fun x => x.1.isSome)
    && decide (([e] : List Expr).length + ([] : List Keyword).length + (if ([] : List Keyword).isEmpty then 0 else 1) < 30)) = true
  line : (apos.endLine == cpos.line) = true
  trees : backTo cpos (starEach [e] X.env) = [(false, eval e X.env)]
structure M2 (X : Cx) (o : Expr) (m : Str) (apos : Pos) (e f : Expr) (cpos : Pos) : Prop where
  base : attributeBase o m X.env (eval o X.env) = eval o X.env
  few : ((backTo cpos (starEach [e, f] X.env)).all (fun x => !x.1) && (backToKw cpos (keywordEach [] X.env)).all (fun x => x.1.isSome)
    && decide (([e, f] : List Expr).length + ([] : List Keyword).length + (if ([] : List Keyword).isEmpty then 0 else 1) < 30)) = true
  line : (apos.endLine == cpos.line) = true
  trees : backTo cpos (starEach [e, f] X.env) = [(false, eval e X.env), (false, eval f X.env)]
noncomputable def IsD (H : Hp) (a : Addr) : Prop := (∃ kvs, Rd H a (.dK kvs)) \/ ∃ kvs, Rd H a (.dT kvs)
section
variable {X : Cx} {pins : List (Addr × Obj)} {σ : St} {H : Hp} {s : Shared} {a : Addr} {y d : V} {u r : Value} {o : Option V} {A : Around} {E : Value -> Shared -> Prop}
end
section
variable {X : Cx} {o e f : Expr} {apos cpos : Pos} {td ty tx : TE}
end
section
variable {X : Cx} {pins : List (Addr × Obj)} {σ : St} {H : Hp} {s : Shared} {a : Addr} {kvs : List (Key × V)} {A : Around} {E : Value -> Shared -> Prop}
end
section
variable {X : Cx} {pins : List (Addr × Obj)} {σ : St} {H : Hp} {s : Shared} {a : Addr} {y : V} {u : Value} {A : Around} {E : Value -> Shared -> Prop}
end
end L2
set_option Elab.async false
set_option linter.all false
set_option maxRecDepth 100000
namespace L2
open PySem PyProof.Rows
open Sem (wp)
end L2
set_option Elab.async false
set_option linter.all false
set_option maxRecDepth 100000
namespace L2
open PySem PyProof.Rows
open Sem (wp)
end L2
set_option Elab.async false
set_option linter.all false
set_option maxRecDepth 100000
namespace L2
open PySem PySem.Spec PyProof.Rows
noncomputable def Fl (h : Heap) (a : Addr) (C : Value) (T : Option Addr) : Prop :=
  ∃ oe vs a0, h.get? a = some oe /\ oe.cls = C /\ oe.data = .fields vs /\ vs[0]? = some a0 /\ 1 < vs.size /\
    (match T with
    | none => vs[1]? = some Value.none
    | some t => vs[1]? = some (Value.ref t) /\ t ≠ a /\ ∃ oT ts, h.get? t = some oT /\ oT.data = .fields ts /\ 3 < ts.size)
theorem frameOf_congr {e1 e2 : Env} (h : e1.frame = e2.frame) : PySem.frameOf e1 = PySem.frameOf e2 := by
  unfold PySem.frameOf; rw [h]
theorem noteFrame_congr {e : Value} {e1 e2 : Env} (h : e1.frame = e2.frame) : noteFrame e e1 = noteFrame e e2 := by
  unfold noteFrame; rw [h, frameOf_congr h]
structure Wr (l fs : List Addr) (h h' : Heap) : Prop where
  keep : ∀ b o, b ∉ l -> b ∉ fs -> h.get? b = some o -> h'.get? b = some o
  slot : ∀ b o, b ∉ l -> b ∈ fs -> h.get? b = some o -> ∃ sl, h'.get? b = some { o with slots := sl }
theorem Wr.any {l fs : List Addr} {h h' : Heap} (W : Wr l fs h h') {b : Addr} {o : Obj} (hb : b ∉ l) (e : h.get? b = some o) : ∃ sl, h'.get? b = some { o with slots := sl } := by
  by_cases hf : b ∈ fs
  · exact W.slot b o hb hf e
  · exact ⟨o.slots, W.keep b o hb hf e⟩
theorem ObjOk.there {P : Program} {w : World} {H : Hp} {h : Heap} {a : Addr} {o : HO} (x : ObjOk P w H h a o) : ∃ ob, h.get? a = some ob := by
  cases o with
  | lst xs => obtain ⟨_, _, _, _, e⟩ := x; exact ⟨_, e⟩
  | tup xs => obtain ⟨_, _, _, ob, e, _⟩ := x; exact ⟨_, e⟩
  | dK kvs => obtain ⟨_, _, _, _, o, _, _, e, _⟩ := x; exact ⟨_, e⟩
  | dT kvs => obtain ⟨_, _, _, _, o, _, _, e, _⟩ := x; exact ⟨_, e⟩
  | set S n => obtain ⟨o, _, _, _, e, _⟩ := x; exact ⟨_, e⟩
  | ins C dx fs => obtain ⟨_, _, _, e, _⟩ := x; exact ⟨_, e⟩
  | own y => obtain ⟨_, e⟩ := x; exact ⟨_, e⟩
  | xd fs => obtain ⟨_, ⟨_, _, _, e, _⟩, _⟩ := x; exact ⟨_, e⟩
  | rng lo hi => obtain ⟨_, _, _, e⟩ := x; exact ⟨_, e⟩
  | frz ob u => obtain ⟨e, _⟩ := x; exact ⟨_, e⟩
  | tbl ps => exact ⟨_, (show h.get? a = some _ from x)⟩
  | met f y => exact ⟨_, (show h.get? a = some _ from x)⟩
  | ext φ => obtain ⟨_, ⟨_, e⟩, _⟩ := x; exact ⟨_, e⟩
section
variable {M : Model} {A : Around} {E : Value -> Shared -> Prop} {s : Shared} {base : Heap} {env top : Env} {outer : List Env} {L a : Addr} {C : Value} {T : Option Addr}
theorem note_any {Q : Unit -> Shared -> Prop} (hfr : A.frames = some (top :: outer)) (ht : top.frame = some L) (hf : env.frame = some L) (hl : s.heap.FunFrames base (top :: outer)) (fl : Fl s.heap a C T)
    (h : ∀ h' T', Wr (a :: T.toList) (frs (top :: outer)) s.heap h' -> Fl h' a C (some T') -> (T = some T' \/ s.heap.get? T' = none) -> Q () { s with heap := h' }) :
    wpAny M A (noteFrame (.ref a) env) Q E s := by
  rw [noteFrame_congr (e1 := env) (e2 := top) (hf.trans ht.symm)]
  have fl0 := fl
  obtain ⟨oe, vs, a0, he, hc, hd, h0, hsz, hT⟩ := fl
  subst hc
  generalize hB : PySem.W.hideAll s.heap (a :: (T.toList ++ frs (top :: outer))) = B
  have hkb : B.StaysIn s.heap := fun b o e => by rw [<- hB] at e; exact PySem.W.of_hideAll _ e
  have hen : B.get? a = none := by rw [<- hB]; exact PySem.W.hideAll_none _ (List.mem_cons_self ..)
  have hl' : s.heap.FunFrames B (top :: outer) := by
    rw [<- hB]
    refine PySem.W.funFrames_hide hl fun env' he' b hb => ?_
    exact List.mem_cons_of_mem _ (List.mem_append_right _ (List.mem_filterMap.mpr ⟨env', he', hb⟩))
  have nf : ∀ b, b ∈ frs (top :: outer) -> ∀ o, s.heap.get? b = some o -> ∀ vs, o.data ≠ .fields vs := fun b hb o e => by
    obtain ⟨_, o', ho', hnf⟩ := hl.mem hb
    rw [e] at ho'; cases ho'; exact hnf
  have unhid : ∀ b o, b ∉ a :: T.toList -> b ∉ frs (top :: outer) -> s.heap.get? b = some o -> B.get? b = some o := fun b o hb hfb e => by
    rw [<- hB]
    refine PySem.W.hideAll_get _ e fun z => ?_
    rcases List.mem_cons.mp z with z | z
    · exact hb (z ▸ List.mem_cons_self ..)
    · rcases List.mem_append.mp z with z | z
      · exact hb (List.mem_cons_of_mem _ z)
      · exact hfb z
  have fin : ∀ h', Heap.NotedW B (top :: outer) a oe.cls a0 (rawInt L) s.heap h' -> Q () { s with heap := h' } := fun h' hN => by
    obtain ⟨n1, n2, ⟨oe', vs', T', oT', ts', g1, ⟨g2, g3⟩, g4, g5, g6, g7, g8, g9, g10⟩, n4⟩ := hN
    have slot : ∀ b o, b ∈ frs (top :: outer) -> s.heap.get? b = some o -> ∃ sl, h'.get? b = some { o with slots := sl } := fun b o hb e => n4 b o e (nf b hb o e)
    refine h h' T' ⟨fun b o hb hfb e => n1 b o (unhid b o hb hfb e), fun b o _ hb e => slot b o hb e⟩ ⟨oe', vs', a0, g1, g2, g4, g3, (Array.getElem?_eq_some_iff.mp g5).1, g5, g7, oT', ts', g8, g9, (Array.getElem?_eq_some_iff.mp g10).1⟩ ?_
    by_cases q1 : T' ∈ a :: T.toList
    · rcases List.mem_cons.mp q1 with z | z
      · exact absurd z g7
      · left
        cases T with
        | none => simp at z
        | some t => have z' : T' = t := by simpa using z
                    rw [z']
    · right
      cases e : s.heap.get? T' with
      | none => rfl
      | some o =>
        exfalso
        by_cases q2 : T' ∈ frs (top :: outer)
        · obtain ⟨sl, q⟩ := slot T' o q2 e
          rw [g8] at q
          have q' : oT' = { o with slots := sl } := Option.some.inj q
          rw [q'] at g9
          exact nf T' q2 o e _ g9
        · have := unhid T' o q1 q2 e
          rw [g6] at this; cases this
  cases T with
  | none =>
    unfold noteFrame
    simp only [ht]
    refine wpAny_bind (wpAny_field he hd hT ?_)
    rw [if_neg (by decide)]
    exact wpAny_entryW hfr hl' ht he hkb hen hd hsz h0 fin
  | some t =>
    obtain ⟨h1, hta, oT, ts, hoT, hdT, hs3⟩ := hT
    obtain ⟨fl3, h3⟩ : ∃ v, ts[3]? = some v := ⟨ts[3], by simp [hs3]⟩
    have hnT : B.get? t = none := by rw [<- hB]; exact PySem.W.hideAll_none _ (by simp)
    unfold noteFrame
    simp only [ht]
    refine wpAny_bind (wpAny_field he hd h1 ?_)
    rw [if_pos (show (Value.ref t != Value.none) = true from by simp)]
    refine wpAny_bind (wpAny_field hoT hdT h3 ?_)
    by_cases hfl : (fl3 == rawInt L) = true
    · rw [if_pos hfl]
      exact wpAny_pure (h s.heap t ⟨fun b o _ _ e => e, fun b o _ _ e => ⟨o.slots, e⟩⟩ fl0 (.inl rfl))
    · rw [if_neg hfl]
      refine wpAny_bind (wpAny_setField hoT hdT hs3 ?_)
      have other : ∀ b, b ≠ t -> (s.heap.update t (Obj.mapFields (·.setIfInBounds 3 Value.none))).get? b = s.heap.get? b := fun b hb => Heap.get?_update_other _ _ (Ne.symm hb)
      have noRecord : ∀ b o, s.heap.get? b = some o -> (∀ vs, o.data ≠ .fields vs) -> b ≠ t := fun b o hb hnf q => by
        rw [q, hoT] at hb; injection hb with hb; subst hb; exact hnf ts hdT
      refine wpAny_entryW hfr (hl'.of_keeps fun b o hb hnf => ⟨o, (other b (noRecord b o hb hnf)).trans hb, rfl⟩) ht ((other a (Ne.symm hta)).trans he)
        (fun b o hbo => (other b fun q => by rw [q, hnT] at hbo; cases hbo).trans (hkb b o hbo)) hen hd hsz h0 ?_
      rintro h' ⟨x1, x2, x3, x4⟩
      exact fin h' ⟨x1, x2, x3, fun b o hb hnf => x4 b o ((other b (noRecord b o hb hnf)).trans hb) hnf⟩
theorem flight_any {t : Addr} {f : Option Addr} {Q : Unit -> Shared -> Prop} (fl : Fl s.heap a C (some t))
    (h : ∀ h', Heap.SameBut t s.heap h' -> Fl h' a C (some t) -> Q () { s with heap := h' }) : wpAny M A (setFlight (.ref a) f) Q E s := by
  obtain ⟨oe, vs, a0, he, hc, hd, h0, hsz, h1, hta, oT, ts, hoT, hdT, hs3⟩ := fl
  unfold setFlight
  refine wpAny_bind (wpAny_field he hd h1 ?_)
  rw [if_pos (show (Value.ref t != Value.none) = true from by simp)]
  refine wpAny_setField hoT hdT hs3 (h _ (Heap.SameBut.update ..) ?_)
  have hdT' := Obj.data_mapFields hdT (·.setIfInBounds 3 (f.elim Value.none fun f => rawInt f))
  refine ⟨oe, vs, a0, (Heap.get?_update_other _ _ hta).trans he, hc, hd, h0, hsz, h1, hta, _, _, Heap.get?_update_self _ hoT (Obj.isFreed_of_fields hdT'), hdT', ?_⟩
  simpa using hs3
theorem traced_any {t : Addr} {Q : Value -> Shared -> Prop} (fl : Fl s.heap a C (some t)) (h : Q (.ref t) s) : wpAny M A (field (.ref a) 1) Q E s := by
  obtain ⟨oe, vs, a0, he, hc, hd, h0, hsz, h1, _⟩ := fl
  exact wpAny_field he hd h1 h
end
theorem Fl.at {h h' : Heap} {a : Addr} {C : Value} {T : Option Addr} (fl : Fl h a C T) (k : ∀ b ∈ a :: T.toList, ∀ o, h.get? b = some o -> h'.get? b = some o) : Fl h' a C T := by
  obtain ⟨oe, vs, a0, he, hc, hd, h0, hsz, hT⟩ := fl
  refine ⟨oe, vs, a0, k a (by simp) _ he, hc, hd, h0, hsz, ?_⟩
  cases T with
  | none => exact hT
  | some t =>
    obtain ⟨h1, hta, oT, ts, hoT, r⟩ := hT
    exact ⟨h1, hta, oT, ts, k t (by simp) _ hoT, r⟩
theorem Fl.rec {h : Heap} {a : Addr} {C : Value} {T : Option Addr} (fl : Fl h a C T) : ∀ b ∈ a :: T.toList, ∃ o vs, h.get? b = some o /\ o.data = .fields vs := by
  obtain ⟨oe, vs, a0, he, hc, hd, h0, hsz, hT⟩ := fl
  intro b hb
  rcases List.mem_cons.mp hb with rfl | hb
  · exact ⟨oe, vs, he, hd⟩
  · cases T with
    | none => simp at hb
    | some t =>
      have e : b = t := by simpa using hb
      subst e
      obtain ⟨h1, hta, oT, ts, hoT, hdT, _⟩ := hT
      exact ⟨oT, ts, hoT, hdT⟩
noncomputable def Ow (X : Cx) (pins : List (Addr × Obj)) (H : Hp) (b : Addr) : Prop := H b = none /\ X.s₀.heap.get? b = none /\ b ∉ X.ex /\ ∀ p ∈ X.pn ++ pins, p.1 ≠ b
structure XOk (X : Cx) : Prop where
  top : ∃ top outer L, X.stack = top :: outer /\ top.frame = some L /\ X.env.frame = some L
  ex : ∀ b ∈ X.ex, ∃ o, (b, o) ∈ X.pn
structure Fly (X : Cx) (pins : List (Addr × Obj)) (H : Hp) (h : Heap) (a : Addr) (C : Value) (T : Option Addr) : Prop where
  fl : Fl h a C T
  ow : ∀ b ∈ a :: T.toList, Ow X pins H b
section
variable {X : Cx} {pins : List (Addr × Obj)} {σ : List (Option V)} {H H' : Hp} {s : Shared} {h' : Heap}
theorem Inv.ow (ok : XOk X) (I : Inv X pins σ H s) (hH : H' = H \/ True) {b : Addr} (n : s.heap.get? b = none) (hn : H' b = none) : Ow X pins H' b := by
  have nx : b ∉ X.ex := fun z => by
    obtain ⟨o, ho⟩ := ok.ex b z
    have := (I.pin (b, o) (List.mem_append_left _ ho)).1
    rw [n] at this; cases this
  refine ⟨hn, ?_, nx, fun p hp e => ?_⟩
  · cases q : X.s₀.heap.get? b with
    | none => rfl
    | some o =>
      obtain ⟨o', e⟩ := I.base.there b o q nx
      rw [n] at e; cases e
  · have := (I.pin p hp).1
    rw [e, n] at this; cases this
theorem Inv.untracked (I : Inv X pins σ H s) {b : Addr} (n : s.heap.get? b = none) : H b = none := by
  cases q : H b with
  | none => rfl
  | some o =>
    obtain ⟨ob, e⟩ := (I.hok b o q).there
    rw [n] at e; cases e
theorem Inv.wrote {l : List Addr} (I : Inv X pins σ H s) (W : Wr l (frs X.stack) s.heap h') (ow : ∀ b ∈ l, Ow X pins H b) (rec : ∀ b ∈ l, ∃ o vs, s.heap.get? b = some o /\ o.data = .fields vs) :
    Inv X pins σ H { s with heap := h' } := by
  have lL : X.env.locals ∉ l := fun z => by
    obtain ⟨o, vs, e, d⟩ := rec _ z
    obtain ⟨m, ⟨o', es, ep, ho', hd', _⟩, _⟩ := I.loc
    rw [e] at ho'; cases ho'; rw [d] at hd'; cases hd'
  have cL : ∀ x c, X.env.cells.lookup x = some c -> c ∉ l := fun x c e z => by
    obtain ⟨o, vs, e1, d⟩ := rec _ z
    obtain ⟨v, o', ho', hd'⟩ := I.cell x c e
    rw [e1] at ho'; cases ho'; rw [d] at hd'; cases hd'
  have sL : ∀ b o, X.s₀.heap.get? b = some o -> b ∉ l := fun b o e z => by rw [(ow b z).2.1] at e; cases e
  have tL : ∀ b o, H b = some o -> b ∉ l := fun b o e z => by rw [(ow b z).1] at e; cases e
  have nL : ∀ m, s.heap.Ns X.env.locals m -> h'.Ns X.env.locals m := fun m hm => by
    obtain ⟨o, es, ep, ho, hd, r⟩ := hm
    obtain ⟨sl, q⟩ := W.any lL ho
    exact ⟨_, es, ep, q, hd, r⟩
  have cell : ∀ x c, X.env.cells.lookup x = some c -> ∀ v, s.heap.IsCell c v -> h'.IsCell c v := fun x c e v ⟨o, ho, hd⟩ => by
    obtain ⟨sl, q⟩ := W.any (cL x c e) ho
    exact ⟨_, q, hd⟩
  have fs0 : ∀ b, b ≠ X.env.locals -> b ∉ X.fs -> b ∉ frs X.stack := fun b h1 h2 z => (List.mem_cons.mp (I.stkSub b z)).elim h1 h2
  have old : ∀ b o, X.s₀.heap.get? b = some o -> b ≠ X.env.locals := fun b o e => Nat.ne_of_lt (Nat.lt_of_lt_of_le (Heap.lt_size e) I.ok.above)
  refine ⟨I.ok, I.os, I.bare, ⟨fun b o e n hb hx => ?_, fun b o e n hb hx => ?_, I.base.free, fun b o e hx => ?_, I.base.tups, I.base.frzs, I.base.tbls⟩, ?_, fun x c e => ?_, I.free, I.freeC, fun p hp => ?_, fun b u e => ?_, I.len⟩
  · exact W.keep b o (sL b o e) (fs0 b (old b o e) hb) (I.base.keep b o e n hb hx)
  · obtain ⟨sl, e1⟩ := I.base.slot b o e n hb hx
    obtain ⟨sl', e2⟩ := W.any (sL b o e) e1
    exact ⟨sl', e2⟩
  · obtain ⟨o', e1⟩ := I.base.there b o e hx
    obtain ⟨sl, e2⟩ := W.any (sL b o e) e1
    exact ⟨_, e2⟩
  · obtain ⟨m, hn, hl⟩ := I.loc
    refine ⟨m, nL m hn, fun i x v e1 e2 e3 => ?_⟩
    obtain ⟨u, r, q⟩ := hl i x v e1 e2 e3
    refine ⟨u, r, ?_⟩
    rcases q with q | ⟨k, c, e, z⟩
    · exact .inl q
    · exact .inr ⟨k, c, e, cell x c e _ z⟩
  · obtain ⟨v, z⟩ := I.cell x c e
    exact ⟨v, cell x c e v z⟩
  · obtain ⟨e, n, ne, nf, d⟩ := I.pin p hp
    exact ⟨W.keep p.1 p.2 (fun z => (ow p.1 z).2.2.2 p hp rfl) (fs0 p.1 ne nf) e, n, ne, nf, d⟩
  · refine (I.hok b u e).stay (fun c v hc q => ?_) (fun _ q => q) fun _ _ q => q
    have hc' : ∃ u, H c = some u := hc.elim (fun z => ⟨u, z ▸ e⟩) fun z => ⟨_, z⟩
    obtain ⟨u', e'⟩ := hc'
    exact W.keep c v (tL c u' e') (fun z => by rw [I.stkFree c z] at e'; cases e') q
variable {M : Model} {A : Around} {E : Value -> Shared -> Prop} {a : Addr} {C : Value} {T : Option Addr} {env : Env}
theorem Inv.note {Q : Unit -> Shared -> Prop} (ok : XOk X) (I : Inv X pins σ H s) (F : Fly X pins H s.heap a C T) (hfr : A.frames = some X.stack) (hen : env.frame = X.env.frame)
    (h : ∀ h' T', Inv X pins σ H { s with heap := h' } -> Fly X pins H h' a C (some T') -> Q () { s with heap := h' }) : wpAny M A (noteFrame (.ref a) env) Q E s := by
  obtain ⟨top, outer, L, e1, e2, e3⟩ := ok.top
  have hst := I.stack
  rw [e1] at hfr hst
  refine note_any hfr e2 (hen.trans e3) hst F.fl fun h' T' W fl' new => ?_
  rw [<- e1] at W
  refine h h' T' (I.wrote W F.ow F.fl.rec) ⟨fl', fun b hb => ?_⟩
  rcases List.mem_cons.mp hb with rfl | hb
  · exact F.ow _ (List.mem_cons_self ..)
  · have e : b = T' := by simpa using hb
    subst e
    rcases new with q | q
    · exact F.ow _ (by rw [q]; simp)
    · exact I.ow ok (.inr trivial) q (I.untracked q)
theorem Inv.flight {t : Addr} {f : Option Addr} {Q : Unit -> Shared -> Prop} (I : Inv X pins σ H s) (F : Fly X pins H s.heap a C (some t))
    (h : ∀ h', Inv X pins σ H { s with heap := h' } -> Fly X pins H h' a C (some t) -> Q () { s with heap := h' }) : wpAny M A (setFlight (.ref a) f) Q E s := by
  refine flight_any F.fl fun h' sb fl' => h h' (I.wrote (l := [a, t]) ⟨fun b o hb _ e => (sb.2 b fun z => hb (by simp [z])).trans e, fun b o hb _ e => ⟨o.slots, (sb.2 b fun z => hb (by simp [z])).trans e⟩⟩ (fun b hb => F.ow b (by simpa using hb)) fun b hb => F.fl.rec b (by simpa using hb)) ⟨fl', F.ow⟩
theorem Inv.passOn {α : Type} {t : Addr} {what : String} {Q : α -> Shared -> Prop} (I : Inv X pins σ H s) (F : Fly X pins H s.heap a C (some t))
    (h : ∀ h', Inv X pins σ H { s with heap := h' } -> Fly X pins H h' a C (some t) -> E (.ref a) { s with heap := h' }) : wpAny M A (passOn what (.ref a) env : Sem α) Q E s := by
  unfold PySem.passOn
  refine wpAny_bind (traced_any F.fl ?_)
  rw [if_neg (show ¬ ((Value.ref t == Value.none) = true) from by simp)]
  exact wpAny_bind (I.flight F fun h' I' F' => wpAny_throw (h h' I' F'))
theorem Inv.cameBack {t : Addr} (I : Inv X pins σ H s) (F : Fly X pins H s.heap a C (some t))
    (h : ∀ h', Inv X pins σ H { s with heap := h' } -> Fly X pins H h' a C (some t) -> E (.ref a) { s with heap := h' }) : cameBackBy M A env E (.ref a) s := by
  unfold cameBackBy
  refine wpAny_bind (traced_any F.fl ?_)
  rw [if_neg (show ¬ ((Value.ref t == Value.none) = true) from by simp)]
  exact I.flight F fun h' I' F' => h h' I' F'
end
noncomputable abbrev ZK := St -> Value -> Hp -> Prop
noncomputable def XE (X : Cx) (Z : ZK) (e : Value) (s' : Shared) : Prop := ∃ a C T σ' H', e = .ref a /\ Inv X [] σ' H' s' /\ Fly X [] H' s'.heap a C T /\ Z σ' C H'
structure Thr (X : Cx) (Z : ZK) : Prop extends XOk X where
  thr : ∀ e s', XE X Z e s' -> X.xe e s'
noncomputable def CXs (P : Program) (w : World) : CXT := fun outer H s E e s' => ∃ a C t H', e = .ref a /\ s'.os = s.os /\ AllBare s'.gens /\ Un (frs outer) [] H H' s.heap s'.heap /\ HOk P w H' s'.heap /\
  Fl s'.heap a C (some t) /\ (∀ b ∈ [a, t], H' b = none /\ s.heap.get? b = none) /\ E C none H'
theorem thr_def {P : Program} {w : World} {K : PySem.W.Frag} {mg : Str -> Option Value} {base : Heap} {N : List Str} {qual : Str} {scope : Scope} {f : Addr} {cd : Value} {A : Around} {outer : List Env} {s : Shared} {H : Hp} {E : XK} :
    Thr (cxOf (CXs P w) P w K mg base N qual scope f cd A outer s H E) (fun _ C H' => E C none H') where
  top := ⟨_, _, _, rfl, rfl, rfl⟩
  ex := fun b hb => absurd (show b ∈ ([] : List Addr) from hb) (by simp)
  thr := by
    rintro e s' ⟨a, C, T, σ', H', rfl, I, F, z⟩
    have ok : XOk (cxOf (CXs P w) P w K mg base N qual scope f cd A outer s H E) := ⟨⟨_, _, _, rfl, rfl, rfl⟩, fun b hb => absurd (show b ∈ ([] : List Addr) from hb) (by simp)⟩
    show wpAny (model P w) (A.deeper (envOfC qual scope s.heap.objs.size f cd)) (leaving (envOfC qual scope s.heap.objs.size f cd) (.ref a)) _ _ s'
    unfold leaving
    refine wpAny_bind (I.note ok F I.ok.frames rfl fun h1 t I1 F1 => ?_)
    refine I1.flight F1 fun h2 I2 F2 => ?_
    exact ⟨a, C, t, H', rfl, I2.os, I2.bare, I2.base, I2.hok, F2.fl, fun b hb => ⟨(F2.ow b (by simpa using hb)).1, (F2.ow b (by simpa using hb)).2.1⟩, z⟩
section
variable {X : Cx} {pins : List (Addr × Obj)} {σ : St} {H : Hp} {s s' : Shared}
theorem Inv.thrown {E : XK} {e : Value} (ok : XOk X) (I : Inv X pins σ H s) (h : CXs X.prog X.w X.stack H s E e s') : ∃ a C t H', e = .ref a /\ Inv X pins σ H' s' /\ Fly X pins H' s'.heap a C (some t) /\ E C none H' := by
  obtain ⟨a, C, t, H', rfl, ho, hg, u, hok, fl, ow, q⟩ := h
  have I' : Inv X pins σ H' s' := I.call' (ch := []) ho u hok hg fun b hb => absurd hb (by simp)
  refine ⟨a, C, t, H', rfl, I', ⟨fl, fun b hb => ?_⟩, q⟩
  obtain ⟨o1, o2⟩ := ow b (by simpa using hb)
  exact I.ow ok (.inr trivial) o2 o1
theorem Inv.nopins (I : Inv X pins σ H s) : Inv X [] σ H s := I.pins_of fun p hp => absurd hp (by simp)
theorem Fly.nopins {h : Heap} {a : Addr} {C : Value} {T : Option Addr} (F : Fly X pins H h a C T) : Fly X [] H h a C T :=
  ⟨F.fl, fun b hb => ⟨(F.ow b hb).1, (F.ow b hb).2.1, (F.ow b hb).2.2.1, fun p hp => (F.ow b hb).2.2.2 p (by simp at hp; exact List.mem_append_left _ hp)⟩⟩
theorem Thr.go {Z : ZK} (th : Thr X Z) {a : Addr} {C : Value} {T : Option Addr} (I : Inv X pins σ H s) (F : Fly X pins H s.heap a C T) (z : Z σ C H) : X.xe (.ref a) s :=
  th.thr _ _ ⟨a, C, T, σ, H, rfl, I.nopins, F.nopins, z⟩
end
noncomputable def tCallX (sp : Sp) (dvs : List V) (Z : ZK) (t : TA) : TE := fun σ H Q => t σ H fun vs H1 => sp (vs ++ dvs) H1 Q (fun C _ H' => Z σ C H')
section
variable {X : Cx} {k : Nat} {f C : Addr} {fd : FuncData} {ps : List Str} {sp : Sp} {dvs : List V} {ds : List Value} {Z : ZK} {x m : Str} {p pos apos : Pos} {e o : Expr} {es : List Expr} {ta : TE} {t : TA}
theorem run_fnX {pins : List (Addr × Obj)} {σ : St} {H : Hp} {s : Shared} {Q : VK} {us : List Value} {vs : List V} (F : FnOk X.prog X.w X.K X.mg X.base (CXs X.prog X.w) k f fd ps sp) (hr : Room k X.A) (hb : Binds X.K fd ps ds) (hd : Vals dvs ds) (th : Thr X Z)
    (I : Inv X pins σ H s) (r : Vals vs us) (h : sp (vs ++ dvs) H Q (fun C _ H' => Z σ C H')) : wpAny (model X.prog X.w) X.A (call (.ref f) us) (EP X pins σ Q) X.xe s := by
  have r2 : Vals (vs ++ dvs) (us ++ ds) := r.append hd
  have hl : (us ++ ds).length = ps.length := by rw [<- r2.length]; exact F.len _ _ _ _ h
  refine wpAny_call (codeAny_mono (F.run X.A X.stack s H ⟨us, []⟩ (us ++ ds) (vs ++ dvs) Q _ hr I.env0 (hb s us I.kIn hl) r2 h) fun r s' hq => ?_)
  cases r with
  | error e =>
    have hq' : CXs X.prog X.w X.stack H s (fun C _ H' => Z σ C H') e s' := hq
    obtain ⟨a, C, t, H', rfl, I', F', z⟩ := I.thrown th.toXOk hq'
    exact th.go I' F' z
  | ok fl =>
    cases fl with
    | ret u => exact I.after hq
    | next => exact False.elim hq
    | brk => exact False.elim hq
    | cont => exact False.elim hq
theorem pe_callX (F : FnOk X.prog X.w X.K X.mg X.base (CXs X.prog X.w) k f fd ps sp) (hr : Room k X.A) (hg : Gl X x) (hm : X.mg x = some (.ref f)) (hk : PySem.W.keepIn X.K (.ref f) = true) (hb : Binds X.K fd ps ds) (hd : Vals dvs ds) (th : Thr X Z)
    (ha : PA X (e :: es) t) (hdb : (x == ("__debug__" : Str)) = false := by decide) (he : starEach (e :: es) X.env = (false, eval e X.env) :: starEach es X.env := by rfl) (hpl : (backTo pos (starEach es X.env)).any (·.1) = false := by rfl) :
    PE X (.Call (.Name x p) (e :: es) [] pos) (tCallX sp dvs Z t) := by
  intro pins s σ H Q I h
  refine wpAny_Call_Name_kw (ld_glob I hg hm ?_ hdb)
  refine PySem.W.callWith_K (h₀ := X.base) I.ok.mod.kin hk (thn (ha pos pins s σ H _ I h) fun us s1 ⟨vs, H1, I1, r, q⟩ => ⟨I1.kIn, ?_⟩) he hpl
  exact run_fnX F hr hb hd th I1 r q
end
end L2
set_option Elab.async false
set_option linter.all false
set_option maxRecDepth 100000
namespace L2
open PySem PySem.Spec PyProof.Rows
noncomputable def clGo (env : Env) : List (Str × NameKind) -> List (Str × Addr) -> List (Str × Addr)
  | [], cs => cs
  | (n, k) :: r, cs => clGo env r (if k == .free then (n, (env.cells.lookup n).getD 0) :: cs else cs)
noncomputable def clOf (scope : Scope) (env : Env) : List (Str × Addr) := clGo env scope.names []
theorem closure_of {scope : Scope} {env : Env} (h : ∀ y ∈ scope.names, y.2 = .free -> ∃ c, env.cells.lookup y.1 = some c) : closureFor scope env = pure (clOf scope env) := by
  unfold closureFor clOf
  have go : ∀ (l : List (Str × NameKind)) (cs : List (Str × Addr)), (∀ y ∈ l, y.2 = .free -> ∃ c, env.cells.lookup y.1 = some c) ->
      (forIn l cs fun (x : Str × NameKind) (r : List (Str × Addr)) => (match x with
        | (name, kind) => if (kind == NameKind.free) = true then (do let a <- cellOf env name; pure (ForInStep.yield ((name, a) :: r))) else (pure (ForInStep.yield r)) : Sem (ForInStep (List (Str × Addr))))) = (pure (clGo env l cs) : Sem (List (Str × Addr))) := by
    intro l
    induction l with
    | nil => intro cs _; rfl
    | cons y r ih =>
      intro cs hl
      obtain ⟨n, k⟩ := y
      rw [List.forIn_cons]
      by_cases hk : (k == NameKind.free) = true
      · obtain ⟨c, hc⟩ := hl (n, k) (List.mem_cons_self ..) (by simpa using hk)
        have e : cellOf env n = pure c := by unfold cellOf; rw [hc]
        simp only [hk, if_true, e, pure_bind, clGo, hc, Option.getD_some]
        exact ih _ fun y hy => hl y (List.mem_cons_of_mem _ hy)
      · simp only [hk, if_false, pure_bind, clGo, Bool.false_eq_true]
        exact ih _ fun y hy => hl y (List.mem_cons_of_mem _ hy)
  have := go scope.names [] h
  first
    | (rw [this]; rfl)
    | (simp only [bind_pure_comp] at this ⊢; rw [this]; rfl)
    | (simp only [bind_pure_comp] at this ⊢; rw [this]; simp)
theorem clGo_mem {env : Env} : ∀ {l : List (Str × NameKind)} {cs : List (Str × Addr)} {x : Str} {c : Addr}, (∀ y ∈ l, y.2 = .free -> ∃ c, env.cells.lookup y.1 = some c) -> (x, c) ∈ clGo env l cs -> (x, c) ∈ cs \/ env.cells.lookup x = some c
  | [], _, _, _, _, h => .inl h
  | (n, k) :: r, cs, x, c, hl, h => by
    rcases clGo_mem (l := r) (fun y hy => hl y (List.mem_cons_of_mem _ hy)) h with h | h
    · by_cases hk : (k == NameKind.free) = true
      · rw [if_pos hk] at h
        rcases List.mem_cons.mp h with e | h
        · obtain ⟨c', hc⟩ := hl (n, k) (List.mem_cons_self ..) (by simpa using hk)
          rw [hc] at e
          cases e
          exact .inr hc
        · exact .inl h
      · rw [if_neg hk] at h
        exact .inl h
    · exact .inr h
theorem clGo_keep {env : Env} : ∀ {l : List (Str × NameKind)} {cs : List (Str × Addr)} {p : Str × Addr}, p ∈ cs -> p ∈ clGo env l cs
  | [], _, _, h => h
  | (n, k) :: r, cs, p, h => by
    unfold clGo
    refine clGo_keep ?_
    split
    · exact List.mem_cons_of_mem _ h
    · exact h
theorem clGo_has {env : Env} : ∀ {l : List (Str × NameKind)} {cs : List (Str × Addr)} {x : Str}, (x, NameKind.free) ∈ l -> ∃ c, (x, c) ∈ clGo env l cs
  | (n, k) :: r, cs, x, h => by
    unfold clGo
    rcases List.mem_cons.mp h with e | h
    · cases e
      exact ⟨(env.cells.lookup n).getD 0, clGo_keep (by rw [if_pos (by decide)]; exact List.mem_cons_self ..)⟩
    · exact clGo_has h
theorem lookup_some_of_mem {α β : Type} [BEq α] [LawfulBEq α] : ∀ {l : List (α × β)} {x : α} {c : β}, (x, c) ∈ l -> ∃ c', l.lookup x = some c'
  | (n, k) :: r, x, c, h => by
    rw [List.lookup_cons]
    cases e : x == n with
    | true => exact ⟨k, rfl⟩
    | false =>
      rcases List.mem_cons.mp h with q | q
      · cases q; simp at e
      · exact lookup_some_of_mem q
noncomputable def ccells (scope : Scope) (C : Addr) (env : Env) : List (Str × Addr) := cellsFrom (C + 1) scope.names (clOf scope env)
theorem cellsFrom_app : ∀ (l : List (Str × NameKind)) (n : Nat) (acc : List (Str × Addr)), cellsFrom n l acc = cellsFrom n l [] ++ acc
  | [], _, _ => rfl
  | (x, k) :: r, n, acc => by
    unfold cellsFrom
    by_cases hk : (k == NameKind.cell) = true
    · rw [if_pos hk, if_pos hk, cellsFrom_app r (n + 1) ((x, n) :: acc), cellsFrom_app r (n + 1) [(x, n)], List.append_assoc]; rfl
    · rw [if_neg hk, if_neg hk]; exact cellsFrom_app r n acc
theorem cellsFrom_mem : ∀ {l : List (Str × NameKind)} {n : Nat} {x : Str} {c : Addr}, (x, c) ∈ cellsFrom n l [] -> (x, NameKind.cell) ∈ l
  | (y, k) :: r, n, x, c, h => by
    unfold cellsFrom at h
    by_cases hk : (k == NameKind.cell) = true
    · rw [if_pos hk, cellsFrom_app] at h
      rcases List.mem_append.mp h with h | h
      · exact List.mem_cons_of_mem _ (cellsFrom_mem h)
      · have e : x = y := by simpa using (List.mem_singleton.mp h ▸ rfl : (x, c).1 = (y, n).1)
        have e2 : k = .cell := by simpa using hk
        rw [e, e2]; exact List.mem_cons_self ..
    · rw [if_neg hk] at h
      exact List.mem_cons_of_mem _ (cellsFrom_mem h)
theorem cc_cases {scope : Scope} {C : Addr} {env : Env} {x : Str} {c : Addr} (h : (ccells scope C env).lookup x = some c) : (cellsFrom (C + 1) scope.names []).lookup x = some c \/ ((cellsFrom (C + 1) scope.names []).lookup x = none /\ (clOf scope env).lookup x = some c) := by
  unfold ccells at h
  rw [cellsFrom_app, List.lookup_append] at h
  cases e : (cellsFrom (C + 1) scope.names []).lookup x with
  | none => rw [e] at h; exact .inr ⟨rfl, h⟩
  | some c' => rw [e] at h; exact .inl h
theorem cc_own {scope : Scope} {C : Addr} {env : Env} {x : Str} {c : Addr} (h : (cellsFrom (C + 1) scope.names []).lookup x = some c) : (ccells scope C env).lookup x = some c := by
  unfold ccells
  rw [cellsFrom_app, List.lookup_append, h]; rfl
theorem cc_clo {scope : Scope} {C : Addr} {env : Env} {x : Str} {c : Addr} (h : (clOf scope env).lookup x = some c) (h0 : (cellsFrom (C + 1) scope.names []).lookup x = none) : (ccells scope C env).lookup x = some c := by
  unfold ccells
  rw [cellsFrom_app, List.lookup_append, h0]; exact h
theorem wpAny_newBlock {M : Model} {A : Around} {E : Value -> Shared -> Prop} {s : Shared} {scope : Scope} {globals : Addr} {closure : List (Str × Addr)} {qual : Str} {func : Option Addr} {code : Value} {e : Env} {builtins : Addr} {Q : Env -> Shared -> Prop}
    (hQ : Q (newEnv scope s.heap.objs.size globals (cellsFrom (s.heap.objs.size + 1) scope.names closure) qual func code (some e) builtins) { s with heap := pushCells (s.heap.push { cls := .type "dict", data := .dict #[] }) scope.names }) :
    wpAny M A (newFunctionEnv scope globals closure [] qual func code (some e) builtins) Q E s := by
  simp only [newFunctionEnv, Option.isSome_some, if_true]
  refine wpAny_bind (wpAny_alloc ?_)
  refine wpAny_bind (wpAny_layCells _ (fun name kind cells => by cases hkc : kind == NameKind.cell <;> simp [hkc]) _ _ _ _ ?_)
  rw [show ({ s with heap := s.heap.push { cls := .type "dict", data := .dict #[] } } : Shared).heap.objs.size = s.heap.objs.size + 1 from Heap.size_push ..]
  refine wpAny_bind ?_
  rw [List.forIn_nil]
  exact wpAny_pure (wpAny_pure hQ)
noncomputable abbrev compCx (X : Cx) (NC : List Str) (scope : Scope) (C : Addr) (s : Shared) (H : Hp) (ex : List Addr) (pn : List (Addr × Obj)) (xe : Value -> Shared -> Prop) : Cx :=
  { X with N := NC, s₀ := s, H₀ := H, env := compEnvC scope (ccells scope C X.env) C X.env, outer := X.stack, stack := X.stack, ex := ex, fn := fun x => scope.names.lookup x == some .cell, calm := true, pn := pn, xe := xe }
noncomputable def compOk (osc scope : Scope) (N NC : List Str) (cap : List (Option Nat)) : Bool :=
  scope.kind == .function && scope.names.all (fun y => y.2 != .cell || scope.names.lookup y.1 == some .cell) &&
  scope.names.all (fun y => y.2 != .local || scope.names.lookup y.1 == some .local) &&
  scope.names.all (fun y => y.2 != .free || osc.names.lookup y.1 == some .cell) && cap.length == NC.length &&
  (List.range NC.length).all fun j => match cap[j]?, NC[j]? with
    | some (some i), some x => N[i]? == some x && scope.names.lookup x == some .free
    | some none, some x => scope.names.lookup x == some .local || scope.names.lookup x == some .cell
    | _, _ => false
noncomputable def capσ (cap : List (Option Nat)) (σ : St) : St := cap.map fun o => o.bind fun i => (σ[i]?).bind id
theorem kindOf_rel {scope : Scope} {env : Env} {x : Str} (hk : env.scope.kind = .function) : ∀ {names : List (Str × NameKind)}, (∀ y ∈ names, y.2 = .free -> env.kindOf y.1 = some .cell) ->
    (names.map fun (n, k) => if (k == NameKind.free && env.scope.kind == .function && env.kindOf n == some .cell) then (n, NameKind.cell) else (n, k)).lookup x = (names.lookup x).map fun k => if k = .free then .cell else k
  | [], _ => rfl
  | (n, k) :: r, h => by
    have ih := kindOf_rel (scope := scope) (x := x) hk (names := r) fun y hy => h y (List.mem_cons_of_mem _ hy)
    show List.lookup x ((if (k == NameKind.free && env.scope.kind == .function && env.kindOf n == some .cell) = true then (n, NameKind.cell) else (n, k)) :: _) = _
    by_cases hkf : k = .free
    · subst hkf
      rw [if_pos (by rw [hk, h (n, .free) (List.mem_cons_self ..) rfl]; decide)]
      rw [List.lookup_cons, List.lookup_cons]
      cases e : x == n with
      | true => rfl
      | false => exact ih
    · rw [if_neg (by intro z; simp only [Bool.and_eq_true, beq_iff_eq] at z; exact hkf z.1.1)]
      rw [List.lookup_cons, List.lookup_cons]
      cases e : x == n with
      | true => simp [hkf]
      | false => exact ih
section
variable {X : Cx} {pins : List (Addr × Obj)} {σ : St} {H H' : Hp} {s s' : Shared}
theorem Inv.repn {pn pins' : List (Addr × Obj)} {xe : Value -> Shared -> Prop} (I : Inv X pins σ H s) (h : ∀ p ∈ pn ++ pins', p ∈ X.pn ++ pins) : Inv { X with pn := pn, xe := xe } pins' σ H s :=
  ⟨⟨I.ok.mod, I.ok.kind, I.ok.glob, I.ok.blt, I.ok.above, I.ok.inj, I.ok.has, I.ok.cab, I.ok.hd, I.ok.frames, I.ok.stk, I.ok.exf, I.ok.bs, I.ok.bsz, I.ok.noex, I.ok.exfs, I.ok.funs, I.ok.frf⟩,
    I.os, I.bare, I.base, I.loc, I.cell, I.free, I.freeC, fun p hp => I.pin p (h p hp), I.hok, I.len⟩
theorem Inv.track {D : Addr} {o : HO} (I : Inv X pins σ H s) (hD : H D = none) (h0 : X.s₀.heap.get? D = none) (hL : D ≠ X.env.locals) (hC : ∀ x c, X.env.cells.lookup x = some c -> c ≠ D) (hp : ∀ p ∈ X.pn ++ pins, p.1 ≠ D)
    (new : ObjOk X.prog X.w (upd H D o) s.heap D o) : Inv X pins σ (upd H D o) s := by
  have up : ∀ b u, H b = some u -> upd H D o b = some u := fun b u e => by rw [upd_ne (ne_of_none e hD)]; exact e
  refine ⟨I.ok, I.os, I.bare, ⟨I.base.keep, I.base.slot, fun b u e n hx => ?_, I.base.there, fun b xs e => up _ _ (I.base.tups b xs e), fun b u xs e => up _ _ (I.base.frzs b u xs e), fun b ps e => ?_⟩, I.loc, I.cell, ?_, fun x c e => ?_, fun p hq => ?_, fun b u e => ?_, I.len⟩
  · rw [upd_ne (fun z => by rw [z, h0] at e; cases e)]
    exact I.base.free b u e n hx
  · obtain ⟨more, q⟩ := I.base.tbls b ps e
    exact ⟨more, up _ _ q⟩
  · rw [upd_ne (Ne.symm hL)]; exact I.free
  · rw [upd_ne (hC x c e)]; exact I.freeC x c e
  · obtain ⟨e, n, r⟩ := I.pin p hq
    exact ⟨e, by rw [upd_ne (hp p hq)]; exact n, r⟩
  · by_cases hb : b = D
    · subst hb
      rw [upd_same] at e
      cases e
      exact new
    · rw [upd_ne hb] at e
      exact (I.hok b u e).stay (fun _ _ _ q => q) (fun c q => up _ _ q) fun c xs q => up _ _ q
end
noncomputable def PF (X : Cx) (ifs : List Expr) (t : TT) : Prop :=
  ∀ (pins : List (Addr × Obj)) (s : Shared) (σ : St) (H : Hp) (Q : Bool -> Hp -> Prop), Inv X pins σ H s -> t σ H Q ->
    wpAny (model X.prog X.w) X.A (forIn ifs true fun c r => if r = true then do let ok <- isTrue c X.env (eval c X.env); pure (ForInStep.yield ok) else pure (ForInStep.yield r)) (TP X pins σ Q) X.xe s
noncomputable def tNoTest : TT := fun _ H Q => Q true H
theorem pf_nil {X : Cx} : PF X [] tNoTest := fun pins s σ H Q I h => wpAny_tests_nil ⟨H, I, h⟩
theorem pf_one {X : Cx} {c : Expr} {t : TT} (h : PT X c t) : PF X [c] t := fun pins s σ H Q I q => wpAny_tests_one (h pins s σ H Q I q)
theorem compOk_parts {osc scope : Scope} {N NC : List Str} {cap : List (Option Nat)} (h : compOk osc scope N NC cap = true) :
    scope.kind = .function /\ (∀ y ∈ scope.names, y.2 = .cell -> scope.names.lookup y.1 = some .cell) /\ (∀ y ∈ scope.names, y.2 = .local -> scope.names.lookup y.1 = some .local) /\ (∀ y ∈ scope.names, y.2 = .free -> osc.names.lookup y.1 = some .cell) /\ cap.length = NC.length /\
    (∀ (j i : Nat), cap[j]? = some (some i) -> ∃ x, NC[j]? = some x /\ N[i]? = some x /\ scope.names.lookup x = some .free) /\ ∀ (j : Nat) (x : Str), cap[j]? = some none -> NC[j]? = some x -> scope.names.lookup x = some .local \/ scope.names.lookup x = some .cell := by
  unfold compOk at h
  simp only [Bool.and_eq_true, List.all_eq_true, bne_iff_ne, ne_eq, Bool.or_eq_true, beq_iff_eq, List.mem_range] at h
  obtain ⟨⟨⟨⟨⟨h1, h2⟩, h3⟩, h4⟩, h5⟩, h6⟩ := h
  refine ⟨h1, fun y hy e => (h2 y hy).resolve_left fun z => z e, fun y hy e => (h3 y hy).resolve_left fun z => z e, fun y hy e => (h4 y hy).resolve_left fun z => z e, h5, fun j i e => ?_, fun j x e ex => ?_⟩
  · have hj : j < NC.length := by rw [<- h5]; exact (List.getElem?_eq_some_iff.mp e).1
    have q := h6 j hj
    rw [e] at q
    cases ex : NC[j]? with
    | none => rw [ex] at q; simp at q
    | some x =>
      rw [ex] at q
      simp only [Bool.and_eq_true, beq_iff_eq] at q
      exact ⟨x, rfl, q.1, q.2⟩
  · have hj : j < NC.length := (List.getElem?_eq_some_iff.mp ex).1
    have q := h6 j hj
    rw [e, ex] at q
    simpa using q
section
variable {X : Cx} {pins : List (Addr × Obj)} {σ : St} {H₂ : Hp} {s₂ : Shared} {scope : Scope} {NC : List Str} {cap : List (Option Nat)} {fp : List Addr}
theorem comp_start {C D : Addr} {h₁ : Heap} {tk : Nat} {o : Obj} {xe : Value -> Shared -> Prop} (I : Inv X pins σ H₂ s₂) (hc : X.calm = true) (cok : compOk X.env.scope scope X.N NC cap = true) (f2 : ∀ b ∈ fp, FpOk X pins H₂ b) (hfp : ∀ b ∈ fp, ∃ o, s₂.heap.get? b = some o)
    (hD : D = s₂.heap.objs.size) (hC : C = s₂.heap.objs.size + 1) (old : ∀ b o, s₂.heap.get? b = some o -> h₁.get? b = some o) (hacc : h₁.get? D = some o) (ho : ∀ v, o.data ≠ .cell v) {m : Str -> Option Value} (ns : h₁.Ns C m) (own : CellsOk h₁ (C + 1) (cellsFrom (C + 1) scope.names [])) :
    Inv (compCx X NC scope C s₂ H₂ fp [] xe) [(D, o)] (capσ cap σ) H₂ { s₂ with heap := h₁, toks := tk } := by
  obtain ⟨c1, c2, c3, c4, c5, c6, c7⟩ := compOk_parts cok
  have hfree : ∀ y ∈ scope.names, y.2 = .free -> ∃ c, X.env.cells.lookup y.1 = some c := fun y hy e => I.ok.has y.1 (.inl (c4 y hy e))
  have clx : ∀ x c, (clOf scope X.env).lookup x = some c -> X.env.cells.lookup x = some c := fun x c e => by
    rcases clGo_mem hfree (PySem.mem_of_lookup e) with z | z
    · simp at z
    · exact z
  have ccx : ∀ x c, (ccells scope C X.env).lookup x = some c -> (cellsFrom (C + 1) scope.names []).lookup x = some c \/ X.env.cells.lookup x = some c := fun x c e => (cc_cases e).imp id fun z => clx x c z.2
  have hrel : ∀ x, (compEnvC scope (ccells scope C X.env) C X.env).kindOf x = (scope.names.lookup x).map fun k => if k = .free then .cell else k := fun x => kindOf_rel (scope := scope) I.ok.kind fun y hy e => c4 y hy e
  have fresh : ∀ b, s₂.heap.objs.size <= b -> s₂.heap.get? b = none := fun b hb => Heap.get?_none_of_le hb
  have sz : s₂.heap.objs.size <= C := by rw [hC]; exact Nat.le_succ _
  have szD : s₂.heap.objs.size <= D := by rw [hD]; exact Nat.le_refl _
  have ownF : ∀ x c, (cellsFrom (C + 1) scope.names []).lookup x = some c -> s₂.heap.get? c = none /\ s₂.heap.objs.size <= c := fun x c e => by
    have q := (own.empty x c (PySem.mem_of_lookup e)).2
    have q2 : s₂.heap.objs.size <= c := by rw [hC] at q; omega
    exact ⟨fresh c q2, q2⟩
  have cloF : ∀ x c, X.env.cells.lookup x = some c -> c < s₂.heap.objs.size := fun x c e => by
    obtain ⟨v, q⟩ := I.cell x c e
    exact q.lt
  have inj : ∀ x y c, (ccells scope C X.env).lookup x = some c -> (ccells scope C X.env).lookup y = some c -> x = y := fun x y c e1 e2 => by
    rcases ccx x c e1 with z1 | z1 <;> rcases ccx y c e2 with z2 | z2
    · exact name_of_addr own.apart (PySem.mem_of_lookup z1) (PySem.mem_of_lookup z2)
    · exact absurd (cloF y c z2) (Nat.not_lt.mpr (ownF x c z1).2)
    · exact absurd (cloF x c z1) (Nat.not_lt.mpr (ownF y c z2).2)
    · exact I.ok.inj x y c z1 z2
  have exC : ∀ b ∈ fp, b ≠ C := fun b hb z => by
    obtain ⟨o, e⟩ := hfp b hb
    rw [z, fresh C sz] at e; cases e
  have exD : ∀ b ∈ fp, b ≠ D := fun b hb z => by
    obtain ⟨o, e⟩ := hfp b hb
    rw [z, fresh D szD] at e; cases e
  refine ⟨⟨I.ok.mod, c1, I.ok.glob, I.ok.blt, sz, inj, fun x hx => ?_, fun x c z e => ?_, fun _ => I.ok.hd hc, I.ok.frames, .inl rfl, fun b hb => ⟨exC b hb, fun x c e => ?_⟩,
    I.bs, Nat.le_trans I.ok.bsz I.sz, fun b o e z => ?_, fun b hb z => ?_, I.stack, I.stkFree⟩, rfl, I.bare, Un.kept old, ⟨m, ns, fun j x v e1 e2 e3 => ?_⟩, fun x c e => ?_, I.hok.fresh sz, fun x c e => ?_, fun p hp => ?_, I.hok.kept old, ?_⟩
  · rw [hrel] at hx
    have hxf : scope.names.lookup x = some .free \/ scope.names.lookup x = some .cell := by
      cases e : scope.names.lookup x with
      | none => rw [e] at hx; simp at hx
      | some k =>
        rw [e] at hx
        by_cases hk : k = .free
        · rw [hk]; exact .inl rfl
        · simp only [Option.map_some, if_neg hk, Option.some.injEq] at hx
          rcases hx with z | z
          · rw [z]; exact .inr rfl
          · exact absurd z hk
    rcases hxf with hxf | hxf
    · obtain ⟨c, hm⟩ := clGo_has (env := X.env) (cs := []) (PySem.mem_of_lookup hxf)
      obtain ⟨c', hl⟩ := lookup_some_of_mem hm
      exact Option.isSome_iff_exists.mp (PySem.W.cellsFrom_some _ _ _ (.inr (by rw [show (clOf scope X.env).lookup x = some c' from hl]; rfl)))
    · exact Option.isSome_iff_exists.mp (PySem.W.cellsFrom_some _ _ _ (.inl hxf))
  · have hx : scope.names.lookup x = some .cell := by simpa using z
    obtain ⟨c', hl⟩ := Option.isSome_iff_exists.mp (PySem.W.cellsFrom_some (x := x) scope.names (C + 1) [] (.inl hx))
    have e' : (ccells scope C X.env).lookup x = some c := e
    rw [cc_own hl] at e'
    cases e'
    exact (ownF x _ hl).2
  · rcases ccx x c e with z | z
    · intro q
      obtain ⟨o, eb⟩ := hfp b hb
      rw [<- q, (ownF x c z).1] at eb
      cases eb
    · exact (f2 b hb).2.2.2.2.1 x c z
  · obtain ⟨e1, e2⟩ := I.bs b o e
    have := (f2 b z).2.2.2.1
    rcases this with q | q
    · exact I.ok.noex b o e q
    · exact absurd (Nat.lt_of_lt_of_le (Heap.lt_size (I.ok.bs b o e).1) q) (Nat.lt_irrefl _)
  · rcases List.mem_cons.mp (I.stkSub b z) with q | q
    · exact (f2 b hb).2.1 q
    · exact (f2 b hb).2.2.1 q
  · have ej : cap[j]? = some ((some ((cap[j]?.bind id).getD 0) : Option Nat)) := by
      unfold capσ at e2
      rw [List.getElem?_map] at e2
      cases q : cap[j]? with
      | none => rw [q] at e2; simp at e2
      | some oo =>
        rw [q] at e2
        cases oo with
        | none => simp at e2
        | some i => simp
    generalize ((cap[j]?.bind id).getD 0) = i at ej
    obtain ⟨y, y1, y2, y3⟩ := c6 j i ej
    have : y = x := Option.some.inj (y1.symm.trans e1)
    subst this
    have ev : σ[i]? = some (some v) := by
      unfold capσ at e2
      rw [List.getElem?_map, ej] at e2
      simp only [Option.map_some, Option.bind_some, Option.some.injEq] at e2
      cases q : σ[i]? with
      | none => rw [q] at e2; simp at e2
      | some w => rw [q] at e2; simp at e2; rw [e2]
    have kc : X.env.scope.names.lookup y = some .cell := c4 (y, .free) (PySem.mem_of_lookup y3) rfl
    obtain ⟨m', hn', hl'⟩ := I.loc
    obtain ⟨u, r, q⟩ := hl' i y v y2 ev (.inr (.inl kc))
    refine ⟨u, r, .inr ⟨.inl (by rw [hrel, y3]; rfl), ?_⟩⟩
    rcases q with ⟨k, _⟩ | ⟨k, c, e, z⟩
    · rw [show X.env.kindOf y = some .cell from kc] at k; cases k
    · obtain ⟨c', hm⟩ := clGo_has (env := X.env) (cs := []) (PySem.mem_of_lookup y3)
      obtain ⟨c'', hl⟩ := lookup_some_of_mem hm
      have := clx y c'' hl
      rw [e] at this
      cases this
      obtain ⟨oc, h1, h2⟩ := z
      refine ⟨c, cc_clo hl ?_, oc, old c oc h1, h2⟩
      cases eo : (cellsFrom (C + 1) scope.names []).lookup y with
      | none => rfl
      | some c2' =>
        have q1 := c2 (y, .cell) (cellsFrom_mem (PySem.mem_of_lookup eo)) rfl
        rw [y3] at q1
        cases q1
  · rcases ccx x c e with z | z
    · exact ⟨none, (own.empty x c (PySem.mem_of_lookup z)).1⟩
    · obtain ⟨v, oc, h1, h2⟩ := I.cell x c z
      exact ⟨v, oc, old c oc h1, h2⟩
  · rcases ccx x c e with z | z
    · exact I.hok.fresh (ownF x c z).2
    · exact I.freeC x c z
  · have e : p = (D, o) := by simpa using hp
    subst e
    refine ⟨hacc, I.hok.fresh szD, fun z => by rw [hC, hD] at z; exact absurd z (Nat.ne_of_lt (Nat.lt_succ_self _)), fun z => ?_, ho⟩
    obtain ⟨_, ob, e, _⟩ := I.stack.mem z
    rw [fresh D szD] at e; cases e
  · unfold capσ
    rw [List.length_map]
    exact c5
theorem comp_leave {C : Addr} {pn pc : List (Addr × Obj)} {σ' : St} {H' : Hp} {s' : Shared} {h' : Heap} {xe : Value -> Shared -> Prop} (I : Inv X pins σ H₂ s₂) (f2 : ∀ b ∈ fp, FpOk X pins H₂ b) (hC : C = s₂.heap.objs.size + 1)
    (J : Inv (compCx X NC scope C s₂ H₂ fp pn xe) pc σ' H' s') (sb : Heap.SameBut C s'.heap h') : Inv X pins σ H' { s' with heap := h' } := by
  have fC : s₂.heap.get? C = none := Heap.get?_none_of_le (by rw [hC]; exact Nat.le_succ _)
  have nC : ∀ b o, s₂.heap.get? b = some o -> b ≠ C := fun b o e z => by rw [z, fC] at e; cases e
  have u : Un (frs X.stack) fp H₂ H' s₂.heap h' := by
    have v : Un (frs X.stack) fp H₂ H' s₂.heap s'.heap := J.base
    refine ⟨fun b o e n hb hx => (sb.2 b (nC b o e)).trans (v.keep b o e n hb hx), fun b o e n hb hx => ?_, v.free, fun b o e hx => ?_, v.tups, v.frzs, v.tbls⟩
    · obtain ⟨sl, q⟩ := v.slot b o e n hb hx
      exact ⟨sl, (sb.2 b (nC b o e)).trans q⟩
    · obtain ⟨o', q⟩ := v.there b o e hx
      exact ⟨o', (sb.2 b (nC b o e)).trans q⟩
  have hok : HOk X.prog X.w H' h' := fun b o e => by
    refine (J.hok b o e).stay (fun c w hc q => (sb.2 c fun z => ?_).trans q) (fun _ q => q) fun _ _ q => q
    have fr : H' C = none := J.free
    subst z
    rcases hc with rfl | hc
    · rw [fr] at e; cases e
    · rw [fr] at hc; cases hc
  exact I.call' (s' := { s' with heap := h' }) (ch := fp) J.os u hok J.bare fun b hb => ⟨(f2 b hb).2.2.2.1, (f2 b hb).2.1, (f2 b hb).2.2.2.2.1, (f2 b hb).2.2.2.2.2⟩
end
end L2
set_option Elab.async false
set_option linter.all false
set_option maxRecDepth 100000
namespace L2
open PySem PySem.Spec PyProof.Rows
noncomputable def Weak (σ σ' : St) : Prop := σ'.length = σ.length /\ ∀ (i : Nat) v, σ[i]? = some (some v) -> σ'[i]? = some (some v)
theorem Weak.refl (σ : St) : Weak σ σ := ⟨rfl, fun _ _ h => h⟩
theorem Weak.set {σ : St} {j : Nat} {v : Option V} (h : σ[j]? = some none) : Weak σ (σ.set j v) := by
  refine ⟨List.length_set .., fun i w e => ?_⟩
  by_cases q : j = i
  · subst q; rw [h] at e; cases e
  · rw [List.getElem?_set_ne q]; exact e
section
variable {prog : Program} {w : World} {A : Around} {R : Result -> Shared -> Prop} {s : Shared}
theorem compLoop_any {elt target iter : Expr} {ifs : List Expr} {scope : Scope} {pos : Pos} {it acc : Value} {env : Env} (I : Nat -> Shared -> Prop)
    (turn : ∀ n s, I n s -> wpAny (model prog w) A (pyNext it) (fun r s₁ => match r with
      | none => R (.ok .next) s₁
      | some v => wpAny (model prog w) A (letOwnedTupleGo target it v) (fun _ s₁' => wpAny (model prog w) A (assign target env v) (fun _ s₂ =>
          wpAny (model prog w) A (forIn ifs true fun c r => if r = true then do let ok <- isTrue c env (eval c env); pure (ForInStep.yield ok) else pure (ForInStep.yield r)) (fun ok s₃ =>
            if ok = true then wpAny (model prog w) A (eval elt env) (fun x s₄ =>
              wpAny (model prog w) A (call (.builtin "list.append") [acc, x]) (fun _ s₅ => ∃ m, m < n /\ I m s₅) (notedBy (model prog w) A env fun e s' => R (.error e) s') s₄) (notedBy (model prog w) A env fun e s' => R (.error e) s') s₃
            else ∃ m, m < n /\ I m s₃) (notedBy (model prog w) A env fun e s' => R (.error e) s') s₂) (notedBy (model prog w) A env fun e s' => R (.error e) s') s₁') (notedBy (model prog w) A env fun e s' => R (.error e) s') s₁) (notedBy (model prog w) A env fun e s' => R (.error e) s') s)
    (n : Nat) (h : I n s) : codeAny (model prog w) A (.compLoop (.ListComp elt [⟨target, iter, ifs, 0⟩] scope pos) 0 it acc env) R s := by
  refine codeAny_loop rfl I (fun n s hI => ?_) n h
  show wpAny _ A ((compTurn (.ListComp elt [⟨target, iter, ifs, 0⟩] scope pos) 0 it acc env).onRaise (fun x => do noteFrame x env; theTreesLotGoes x)) _ _ s
  refine wpAny_noted ?_
  rw [compTurn_list]
  refine wpAny_bind (wpAny_standAt (wpAny_bind (wpAny_mono (turn n s hI) (fun r s₁ h₁ => ?_) fun _ _ h' => h')))
  cases r with
  | none => exact wpAny_pure h₁
  | some v =>
    refine wpAny_bind (wpAny_mono h₁ (fun _ s₁' h₁' => ?_) fun _ _ h' => h')
    refine wpAny_bind (wpAny_mono h₁' (fun _ s₂ h₂ => wpAny_bind (wpAny_mono h₂ (fun ok s₃ h₃ => ?_) fun _ _ h' => h')) fun _ _ h' => h')
    cases ok with
    | false => exact wpAny_pure ⟨rfl, h₃⟩
    | true =>
      exact wpAny_bind (wpAny_bind (wpAny_mono h₃ (fun x s₄ h₄ => wpAny_bind (wpAny_mono h₄ (fun _ s₅ h₅ => wpAny_pure (wpAny_pure ⟨rfl, h₅⟩)) fun _ _ h' => h')) fun _ _ h' => h'))
end
section
variable {X : Cx} {σ : St} {H : Hp} {s : Shared}
theorem Inv.repin {D : Addr} {o o' : Obj} {h' : Heap} (I : Inv X [(D, o)] σ H s) (hpn : ∀ p ∈ X.pn, p.1 ≠ D) (h0 : X.s₀.heap.objs.size <= D) (ho' : ∀ v, o'.data ≠ .cell v) (sb : Heap.SameBut D s.heap h') (e' : h'.get? D = some o') :
    Inv X [(D, o')] σ H { s with heap := h' } := by
  obtain ⟨e, n, ne, nf, d⟩ := I.pin (D, o) (List.mem_append_right _ (by simp))
  have I0 : Inv X [] σ H s := I.pins_of fun p hp => absurd hp (by simp)
  have I1 : Inv X [] σ H { s with heap := h' } := I0.turned (t' := s.toks) (it := D) (fun b u hb q => (sb.2 b hb).trans q) n ne (.inr h0) (fun x c ec z => by
    obtain ⟨v, oc, h1, h2⟩ := I.cell x c ec
    subst z
    rw [e] at h1; cases h1
    exact d v h2) fun p hp => hpn p (by simpa using hp)
  refine I1.pins_of fun p hp => ?_
  have q : p = (D, o') := by simpa using hp
  subst q
  exact ⟨e', n, ne, nf, ho'⟩
end
section
variable {X : Cx} {pins : List (Addr × Obj)} {σ : St} {H₂ : Hp} {s₂ : Shared} {scope : Scope} {NC : List Str} {cap : List (Option Nat)} {fp : List Addr} {elt tg iter : Expr} {ifs : List Expr} {pos : Pos} {Z : ZK} {J : It} {it : Addr} {tn : Nat -> Heap -> Prop}
  {g : TG} {tf : TT} {te : TE} {use : Option (Value -> Sem Unit)} {Qv : Value -> Shared -> Prop}
theorem comp_core (hc : X.calm = true) (th : Thr X Z) (I : Inv X pins σ H₂ s₂) (T : Turn X.prog X.w X.K tg J fp it tn) (st2 : tn 0 s₂.heap) (f2 : ∀ b ∈ fp, FpOk X pins H₂ b) (cok : compOk X.env.scope scope X.N NC cap = true)
    (hg : ∀ C pn xe, PG (compCx X NC scope C s₂ H₂ fp pn xe) tg g)
    (hf : ∀ C pn xe, Thr (compCx X NC scope C s₂ H₂ fp pn xe) (fun _ C' H' => Z σ C' H') -> PF (compCx X NC scope C s₂ H₂ fp pn xe) ifs tf)
    (hb : ∀ C pn xe, Thr (compCx X NC scope C s₂ H₂ fp pn xe) (fun _ C' H' => Z σ C' H') -> PE (compCx X NC scope C s₂ H₂ fp pn xe) elt te)
    (W : Nat -> Nat -> List V -> Hp -> Prop) (m0 : Nat) (w0 : W 0 m0 [] H₂) {Fn : List V -> Hp -> Prop}
    (turn : ∀ i m ys H2, W i m ys H2 -> (J.stop i H2 /\ Fn ys H2) \/ (J.go i H2 /\ ys.length < sizeLine /\ ∀ x H3, J.yld i H2 x H3 -> g x (capσ cap σ) H3 fun σ4 H4 => Weak (capσ cap σ) σ4 /\ tf σ4 H4 fun b H5 =>
      if b = true then te σ4 H5 fun y H6 => ∃ m', m' < m /\ W (i + 1) m' (ys ++ [y]) H6 else ∃ m', m' < m /\ W (i + 1) m' ys H5))
    (fin : ∀ (C D : Addr) (s' : Shared) (H' : Hp) (ys : List V) (us : List Value) (n : Nat), Fn ys H' -> Vals ys us -> s'.heap.get? D = some { cls := .type "list", data := .seq us.toArray n } -> H' D = none -> H' C = none -> D = s₂.heap.objs.size -> C = s₂.heap.objs.size + 1 ->
      (∃ m, s'.heap.Ns C m) -> (∀ h', Heap.SameBut C s'.heap h' -> Inv X pins σ H' { s' with heap := h' }) -> compPost (model X.prog X.w) X.A X.xe use Qv (.ref D) C (.ok .next) s') :
    wpAny (model X.prog X.w) X.A (newList []) (fun acc s₃ => wpAny (model X.prog X.w) X.A (newFunctionEnv scope X.env.globals (clOf scope X.env) [] X.env.qual none .none (some X.env)) (fun cenv s₄ =>
      codeAny (model X.prog X.w) X.A (.compStart (.ListComp elt [⟨tg, iter, ifs, 0⟩] scope pos) 0 (.ref it) acc { cenv with scope := relabel scope X.env }) (compPost (model X.prog X.w) X.A X.xe use Qv acc cenv.locals) s₄) X.xe s₃) X.xe s₂ := by
  obtain ⟨c1, c2, c3, c4, c5, c6, c7⟩ := compOk_parts cok
  refine wpAny_newObj_type (wpAny_newBlock ?_)
  dsimp only
  generalize hH2 : s₂.heap.push { cls := .type "list", dict := none, data := .seq ([] : List Value).toArray } = H2
  generalize hh1 : pushCells (H2.push { cls := .type "dict", data := .dict #[] }) scope.names = h₁
  have hns₁ : h₁.Ns H2.objs.size (fun _ => none) := hh1 ▸ (Heap.Ns.new H2 (.type "dict")).keeps (pushCells_keeps _ _)
  have own₁ : CellsOk h₁ (H2.objs.size + 1) (cellsFrom (H2.objs.size + 1) scope.names []) := by
    have ok := cellsFrom_ok scope.names (H2.push { cls := .type "dict", data := .dict #[] }) (H2.objs.size + 1) [] ⟨fun _ _ hm => (nomatch hm), List.Pairwise.nil⟩ (by rw [Heap.size_push]; exact Nat.le_refl _)
    rw [Heap.size_push, hh1] at ok
    exact ok
  have hC : H2.objs.size = s₂.heap.objs.size + 1 := by rw [<- hH2, Heap.size_push]
  have hDC : s₂.heap.objs.size ≠ H2.objs.size := by rw [hC]; exact Nat.ne_of_lt (Nat.lt_succ_self _)
  have below : ∀ b, b < s₂.heap.objs.size -> b ≠ H2.objs.size := fun b hb => by rw [hC]; exact Nat.ne_of_lt (Nat.lt_succ_of_lt hb)
  have old : ∀ b o, s₂.heap.get? b = some o -> h₁.get? b = some o := fun b o e => hh1 ▸ pushCells_keeps _ _ _ _ (Heap.get?_push_of_some _ (hH2 ▸ Heap.get?_push_of_some _ e))
  have hacc : h₁.get? s₂.heap.objs.size = some { cls := .type "list", data := .seq ([] : List Value).toArray 0 } := hh1 ▸ pushCells_keeps _ _ _ _ (Heap.get?_push_of_some _ (hH2 ▸ Heap.get?_push_size _ rfl))
  have hfp : ∀ b ∈ fp, ∃ o, s₂.heap.get? b = some o := fun b hb => let ⟨o, e, _⟩ := T.obj _ _ st2 b hb; ⟨o, e⟩
  have nodata : ∀ (us : List Value) (n : Nat) v, ({ cls := .type "list", data := .seq us.toArray n } : Obj).data ≠ .cell v := fun us n v z => by cases z
  have fpD : ∀ b ∈ fp, b ≠ s₂.heap.objs.size := fun b hb z => by
    obtain ⟨o, e⟩ := hfp b hb
    exact absurd (Heap.lt_size e) (by rw [z]; exact Nat.lt_irrefl _)
  generalize hEn : (notedBy (model X.prog X.w) X.A (compEnvC scope (ccells scope H2.objs.size X.env) H2.objs.size X.env) fun e s' => compPost (model X.prog X.w) X.A X.xe use Qv (.ref s₂.heap.objs.size) H2.objs.size (.error e) s') = En
  have loop : ∀ s₃ : Shared, s₃ = { s₂ with heap := h₁, toks := s₂.toks } ->
      codeAny (model X.prog X.w) X.A (.compLoop (.ListComp elt [⟨tg, iter, ifs, 0⟩] scope pos) 0 (.ref it) (.ref s₂.heap.objs.size) (compEnvC scope (ccells scope H2.objs.size X.env) H2.objs.size X.env))
        (compPost (model X.prog X.w) X.A X.xe use Qv (.ref s₂.heap.objs.size) H2.objs.size) s₃ := by
    rintro s₃ rfl
    refine compLoop_any (fun k s' => ∃ i ys us n H', Vals ys us /\ W i k ys H' /\ tn i s'.heap /\ (∀ b ∈ fp, H' b = none) /\
      Inv (compCx X NC scope H2.objs.size s₂ H₂ fp [] En) [(s₂.heap.objs.size, { cls := .type "list", data := .seq us.toArray n })] (capσ cap σ) H' s') ?_ m0
      ⟨0, [], [], 0, H₂, .nil, w0, T.keep _ _ _ st2 fun b _ o e => old b o e, fun b hb => (f2 b hb).1, comp_start I hc cok f2 hfp rfl hC old hacc (nodata _ _) hns₁ own₁⟩
    rw [hEn]
    rintro k s' ⟨i, ys, us, n, H', rv, w, st, fr, Ic⟩
    have Fp : ∀ {H' : Hp} {us : List Value} {n : Nat}, (∀ b ∈ fp, H' b = none) -> ∀ b ∈ fp, FpOk (compCx X NC scope H2.objs.size s₂ H₂ fp [] En) [(s₂.heap.objs.size, ({ cls := .type "list", data := .seq us.toArray n } : Obj))] H' b := fun {H' us n} hn b hb => by
      have q := Ic.ok.exf b hb
      refine ⟨hn b hb, q.1, fun z => Ic.ok.exfs b hb z, .inl hb, q.2, fun p hp => ?_⟩
      have e : p = (s₂.heap.objs.size, ({ cls := .type "list", data := .seq us.toArray n } : Obj)) := by simpa using hp
      subst e
      exact (fpD b hb).symm
    rcases turn i k ys H' w with ⟨stop, q⟩ | ⟨go, hlen, step⟩
    · refine wpAny_mono (T.done (compCx X NC scope H2.objs.size s₂ H₂ fp [] En) rfl rfl rfl rfl i _ s' _ H' En Ic (Fp fr) st stop) (fun r s4 h4 => ?_) fun _ _ x => x
      obtain ⟨hr, I4⟩ := h4
      subst hr
      obtain ⟨m, ns, _⟩ := id I4.loc
      obtain ⟨p1, p2, _⟩ := I4.pin _ (List.mem_append_right _ (List.mem_singleton.mpr rfl))
      exact fin _ _ s4 H' ys us n q rv p1 p2 I4.free rfl hC ⟨m, ns⟩ fun h' sb => comp_leave I f2 hC I4 sb
    · refine wpAny_mono (T.item (compCx X NC scope H2.objs.size s₂ H₂ fp [] En) rfl rfl rfl rfl i _ s' _ H' En Ic (Fp fr) st go) (fun r s4 h4 => ?_) fun _ _ x => x
      obtain ⟨u, hr, h4⟩ := h4
      subst hr
      refine wpAny_mono h4 (fun _ s5 h5 => ?_) fun _ _ x => x
      obtain ⟨x, H5, I5, r5, y5, st5, fr5⟩ := h5
      have I5' : Inv (compCx X NC scope H2.objs.size s₂ H₂ fp (pinsAt fp s5.heap) En) [(s₂.heap.objs.size, { cls := .type "list", data := .seq us.toArray n })] (capσ cap σ) H5 s5 :=
        (I5.pinned (Fp fr5) (T.obj _ _ st5)).repn fun p hp => by
          rcases List.mem_append.mp hp with z | z
          · exact List.mem_append_right _ (List.mem_append_right _ z)
          · exact List.mem_append_right _ (List.mem_append_left _ z)
      have okx : XOk (compCx X NC scope H2.objs.size s₂ H₂ fp (pinsAt fp s5.heap) En) := by
        obtain ⟨top, outer, L, e1, e2, e3⟩ := th.top
        exact ⟨⟨top, outer, L, e1, e2, e3⟩, fun b hb => let ⟨o, e, _⟩ := T.obj _ _ st5 b hb; ⟨o, mem_pinsAt hb e⟩⟩
      have thx : Thr (compCx X NC scope H2.objs.size s₂ H₂ fp (pinsAt fp s5.heap) En) (fun _ C' H' => Z σ C' H') := by
        refine ⟨okx, ?_⟩
        rintro e s6 ⟨a, C', T', σ6, H6, rfl, I6, F6, z6⟩
        show En (.ref a) s6
        rw [<- hEn]
        unfold notedBy
        refine I6.note okx F6 I6.ok.frames rfl fun h7 t7 I7 F7 => ?_
        obtain ⟨m, ns, _⟩ := id I7.loc
        have fin7 : ∃ m, h7.Ns H2.objs.size m /\ ∀ h', Heap.SameBut H2.objs.size h7 h' -> ∀ cenv : Env, cenv.locals = H2.objs.size -> wpAny (model X.prog X.w) X.A (passOn "comprehension.variables-let-go" (.ref a) cenv : Sem Value) (fun _ _ => False) X.xe { s6 with heap := h' } := by
          refine ⟨m, ns, fun h' sb cenv _ => ?_⟩
          have I8 : Inv X pins σ H6 { s6 with heap := h' } := comp_leave (s' := { s6 with heap := h7 }) I f2 hC I7 sb
          have F8 : Fly X pins H6 h' a C' (some t7) := by
            refine ⟨F7.fl.at fun b hb o e => (sb.2 b fun z => ?_).trans e, fun b hb => ?_⟩
            · obtain ⟨o', vs, e1, e2⟩ := F7.fl.rec b hb
              obtain ⟨oC, es, ep, e3, e4, _⟩ := ns
              subst z
              have q : o' = oC := Option.some.inj (e1.symm.trans e3)
              rw [q] at e2
              have q2 := e2.symm.trans e4
              cases q2
            · obtain ⟨o1, o2, _⟩ := F7.ow b hb
              exact I.ow th.toXOk (.inr trivial) o2 o1
          exact I8.passOn F8 fun h9 I9 F9 => th.go I9 F9 z6
        show compPost _ _ _ _ _ _ _ (.error (.ref a)) _
        cases use <;> exact fin7
      refine wpAny_mono (hg _ _ En _ s5 _ H5 x u _ I5' r5 (step x H5 y5)) (fun _ s6 h6 => ?_) fun _ _ x => x
      obtain ⟨σ6, H6, I6, wk, q6⟩ := h6
      refine wpAny_mono (hf _ _ En thx _ s6 σ6 H6 _ I6 q6) (fun b s7 h7 => ?_) fun _ _ x => x
      obtain ⟨H7, I7, q7⟩ := h7
      have back : ∀ {s8 : Shared} {H8 : Hp} {ys' : List V} {us' : List Value} {n' m' : Nat}, Inv (compCx X NC scope H2.objs.size s₂ H₂ fp (pinsAt fp s5.heap) En) [(s₂.heap.objs.size, { cls := .type "list", data := .seq us'.toArray n' })] σ6 H8 s8 -> Vals ys' us' -> m' < k -> W (i + 1) m' ys' H8 ->
          ∃ m, m < k /\ ∃ i ys us n H', Vals ys us /\ W i m ys H' /\ tn i s8.heap /\ (∀ b ∈ fp, H' b = none) /\ Inv (compCx X NC scope H2.objs.size s₂ H₂ fp [] En) [(s₂.heap.objs.size, { cls := .type "list", data := .seq us.toArray n })] (capσ cap σ) H' s8 := by
        intro s8 H8 ys' us' n' m' I8 rv8 hm w8
        refine ⟨m', hm, i + 1, ys', us', n', H8, rv8, w8, T.keep _ _ _ st5 fun b hb o e => (I8.pin (b, o) (List.mem_append_left _ (mem_pinsAt hb e))).1, fun b hb => ?_, ?_⟩
        · obtain ⟨o, e, d⟩ := T.obj _ _ st5 b hb
          exact (I8.pin (b, o) (List.mem_append_left _ (mem_pinsAt hb e))).2.1
        · have I9 := I8.weak (σ' := capσ cap σ) wk.1.symm wk.2
          exact I9.repn fun p hp => List.mem_append_right _ (by simpa using hp)
      cases b with
      | false =>
        obtain ⟨m', hm, w8⟩ := q7
        exact back I7 rv hm w8
      | true =>
        refine wpAny_mono (hb _ _ En thx _ s7 σ6 H7 _ I7 q7) (fun y s8 h8 => ?_) fun _ _ x => x
        obtain ⟨v, H8, I8, rv8, m', hm, w8⟩ := h8
        obtain ⟨p1, p2, _⟩ := I8.pin _ (List.mem_append_right _ (List.mem_singleton.mpr rfl))
        have hlu : us.length = ys.length := rv.length.symm
        refine append_at p1 (hsz := by show us.toArray.size <= sizeLine; rw [List.size_toArray, hlu]; exact Nat.le_of_lt hlen) fun h9 sb9 e9 => ?_
        rw [List.push_toArray] at e9
        have I9 := I8.repin (fun p hp => by
          have q := (of_pinsAt hp).1
          exact fpD _ q) (Nat.le_refl _) (nodata _ _) sb9 e9
        exact back I9 (rv.append (.cons rv8 .nil)) hm w8
  exact codeAny_compStart_list (loop _ rfl) (T.self _ 0 _ _ _ (T.keep _ _ _ st2 fun b _ o e => old b o e) (loop _ rfl))
end
noncomputable def CompR (J : It) (H1 : Hp) (cap : List (Option Nat)) (σ : St) (g : TG) (tf : TT) (te : TE) (Q : VK) : Prop := ∃ W : Nat -> Nat -> List V -> Hp -> Prop, (∃ m, W 0 m [] H1) /\ ∀ i m ys H2, W i m ys H2 ->
  (J.stop i H2 /\ ys.length <= sizeLine /\ ∀ p, H2 p = none -> Q (.ref p) (upd H2 p (.lst ys))) \/
  (J.go i H2 /\ ys.length < sizeLine /\ ∀ x H3, J.yld i H2 x H3 -> g x (capσ cap σ) H3 fun σ4 H4 => Weak (capσ cap σ) σ4 /\ tf σ4 H4 fun b H5 =>
    if b = true then te σ4 H5 fun y H6 => ∃ m', m' < m /\ W (i + 1) m' (ys ++ [y]) H6 else ∃ m', m' < m /\ W (i + 1) m' ys H5)
noncomputable def tComp (Z : ZK) (cap : List (Option Nat)) (wi : TI) (g : TG) (tf : ZK -> TT) (te : ZK -> TE) : TE := fun σ H Q => wi σ H fun J H1 => CompR J H1 cap σ g (tf (fun _ C H' => Z σ C H')) (te (fun _ C H' => Z σ C H')) Q
section
variable {X : Cx} {scope : Scope} {NC : List Str} {cap : List (Option Nat)} {elt tg iter : Expr} {ifs : List Expr} {pos : Pos} {Z : ZK} {wi : TI} {g : TG} {tf : ZK -> TT} {te : ZK -> TE}
theorem pe_comp (hc : X.calm = true) (th : Thr X Z) (hi : PI X tg iter wi) (cok : compOk X.env.scope scope X.N NC cap = true)
    (hg : ∀ C s H fp pn xe, PG (compCx X NC scope C s H fp pn xe) tg g)
    (hf : ∀ C s H fp pn xe Zc, Thr (compCx X NC scope C s H fp pn xe) Zc -> PF (compCx X NC scope C s H fp pn xe) ifs (tf Zc))
    (hb : ∀ C s H fp pn xe Zc, Thr (compCx X NC scope C s H fp pn xe) Zc -> PE (compCx X NC scope C s H fp pn xe) elt (te Zc))
    (hs : ∀ x, foldedSetIterable iter X.env x = pure x := by intro _; rfl) : PE X (.ListComp elt [⟨tg, iter, ifs, 0⟩] scope pos) (tComp Z cap wi g tf te) := by
  intro pins s σ H Q I h
  obtain ⟨c1, c2, c3, c4, c5, c6, c7⟩ := compOk_parts cok
  rw [eval_ListComp]
  refine wpAny_comprehension_free (use := none) rfl hs (closure_of fun y hy e => I.ok.has y.1 (.inl (c4 y hy e))) c1 c3 (thn (hi pins s σ H _ I h) fun xv s₁ h₁ => thn h₁ fun itv s₂ h₂ => ?_)
  obtain ⟨it, fp, tn, J, H2, rfl, I2, T, st2, f2, W, ⟨m0, w0⟩, turn⟩ := h₂
  refine comp_core hc th I2 T st2 f2 cok (fun C pn xe => hg C s₂ H2 fp pn xe) (fun C pn xe t => hf C s₂ H2 fp pn xe _ t) (fun C pn xe t => hb C s₂ H2 fp pn xe _ t) W m0 w0 turn ?_
  rintro C D s' H' ys us n ⟨hlen, q⟩ rv e hn _ rfl rfl ⟨m, ns⟩ lv
  refine ⟨m, ns, fun h' sb => ?_⟩
  have I' := lv h' sb
  have eD : h'.get? s₂.heap.objs.size = some { cls := .type "list", data := .seq us.toArray n } := (sb.2 _ (Nat.ne_of_lt (Nat.lt_succ_self _))).trans e
  refine ⟨.ref s₂.heap.objs.size, _, I'.track (o := .lst ys) hn (Heap.get?_none_of_le I2.sz) (Nat.ne_of_gt I2.lt) (fun x c ec z => ?_) (fun p hp z => ?_) ⟨hlen, us, n, rv, eD⟩, rfl, q _ hn⟩
  · obtain ⟨v, q⟩ := I2.cell x c ec
    exact absurd q.lt (by rw [z]; exact Nat.lt_irrefl _)
  · exact absurd (Heap.lt_size (I2.pin p hp).1) (by rw [z]; exact Nat.lt_irrefl _)
end
end L2
set_option Elab.async false
set_option linter.all false
set_option maxRecDepth 100000
namespace L2
open PySem PySem.Spec PyProof.Rows
section
variable {X : Cx} {Z : ZK} {x : Str} {C : Addr} {bmB : List Value} {B newId initId : String} {e₀ : Expr} {rest : List Expr} {ta : TA} {np cpos pos : Pos}
end
noncomputable abbrev tryCx (X : Cx) (pins : List (Addr × Obj)) (xe : Value -> Shared -> Prop) : Cx := { X with pn := X.pn ++ pins, xe := xe }
section
variable {X : Cx} {pins : List (Addr × Obj)} {σ : St} {H : Hp} {s : Shared} {xe : Value -> Shared -> Prop} {a : Addr}
theorem Inv.toTry (I : Inv X pins σ H s) : Inv (tryCx X pins xe) [] σ H s := I.repn (by simp)
theorem Inv.ofTry (I : Inv (tryCx X pins xe) [] σ H s) : Inv X pins σ H s := I.repn (pn := X.pn) (pins' := pins) (xe := X.xe) (by simp)
end
section
variable {X : Cx} {Z : ZK} {x n : Str} {D : Addr} {bmB : List Value} {newId : String} {body suite : List Stmt} {b₀ : Stmt} {tb : ZK -> TS} {ts : TS} {np hpos pos : Pos} {j : Nat}
end
end L2
set_option Elab.async false
set_option linter.all false
set_option maxRecDepth 100000
namespace L2
open PySem PySem.Spec PyProof.Rows
noncomputable def Its (x : Str) : It := ⟨fun i _ => i < x.length, fun i H v H' => H' = H /\ ∃ c, x.cps.toList[i]? = some c /\ v = .str ⟨#[c]⟩, fun i _ => x.length <= i⟩
theorem turn_ascii {P : Program} {w : World} {K : PySem.W.Frag} {tg : Expr} (it : Addr) (x : Str) (t : Tok) : Turn P w K tg (Its x) [it] it (fun i h => h.IsStrIter it "str_ascii_iterator" x t i) where
  mem := by simp
  obj := fun i h st b hb => by
    have e : b = it := by simpa using hb
    subst e
    obtain ⟨o, e, c, d⟩ := st
    exact ⟨o, e, fun v z => by rw [d] at z; cases z⟩
  keep := fun i h h' st k => let ⟨o, e, r⟩ := st; ⟨o, k it (by simp) o e, r⟩
  item := by
    intro X hP hw hK hc i pins s σ H E I hf st hg
    subst hP hw hK
    obtain ⟨f0, f1, f2, f3, f4, f5⟩ := hf it (by simp)
    have hg' : i < x.cps.size := hg
    refine wpAny_pyNext_ascii_item st (c := x.cps[i]) (by simp [hg']) fun h' st' sb => ?_
    have I1 : Inv X pins σ H { s with heap := h', toks := s.toks + 1 } := I.turned (fun b o hb e => (sb.2 b hb).trans e) f0 f1 f3 f4 f5
    obtain ⟨o, e, c, d⟩ := id st'
    exact ⟨_, rfl, go_of (s := { s with heap := h', toks := s.toks + 1 }) e c d (by decide) ⟨.str ⟨#[x.cps[i]]⟩, H, I1, ⟨_, rfl⟩, ⟨rfl, x.cps[i], by simp [hg'], rfl⟩, st', fun b hb => (hf b hb).1⟩⟩
  done := by
    intro X hP hw hK hc i pins s σ H E I hf st hg
    subst hP hw hK
    obtain ⟨f0, f1, f2, f3, f4, f5⟩ := hf it (by simp)
    have hg' : x.cps.size <= i := hg
    exact wpAny_pyNext_ascii_end (I.ok.hd hc) st (by simp [hg']) fun h' eb => ⟨rfl, I.turned (t' := s.toks) (fun b o hb e => eb b o hb e) f0 f1 f3 f4 f5⟩
  self := fun _ _ _ _ _ st h => wpAny_pyIter_striter_ascii st h
theorem turn_wide {P : Program} {w : World} {K : PySem.W.Frag} {tg : Expr} (it : Addr) (x : Str) (t : Tok) : Turn P w K tg (Its x) [it] it (fun i h => h.IsStrIter it "str_iterator" x t i) where
  mem := by simp
  obj := fun i h st b hb => by
    have e : b = it := by simpa using hb
    subst e
    obtain ⟨o, e, c, d⟩ := st
    exact ⟨o, e, fun v z => by rw [d] at z; cases z⟩
  keep := fun i h h' st k => let ⟨o, e, r⟩ := st; ⟨o, k it (by simp) o e, r⟩
  item := by
    intro X hP hw hK hc i pins s σ H E I hf st hg
    subst hP hw hK
    obtain ⟨f0, f1, f2, f3, f4, f5⟩ := hf it (by simp)
    have hg' : i < x.cps.size := hg
    refine wpAny_pyNext_wide_item st (c := x.cps[i]) (by simp [hg']) fun h' st' sb => ?_
    have I1 : Inv X pins σ H { s with heap := h', toks := s.toks + 1 } := I.turned (fun b o hb e => (sb.2 b hb).trans e) f0 f1 f3 f4 f5
    obtain ⟨o, e, c, d⟩ := id st'
    exact ⟨_, rfl, go_of (s := { s with heap := h', toks := s.toks + 1 }) e c d (by decide) ⟨.str ⟨#[x.cps[i]]⟩, H, I1, ⟨_, rfl⟩, ⟨rfl, x.cps[i], by simp [hg'], rfl⟩, st', fun b hb => (hf b hb).1⟩⟩
  done := by
    intro X hP hw hK hc i pins s σ H E I hf st hg
    subst hP hw hK
    obtain ⟨f0, f1, f2, f3, f4, f5⟩ := hf it (by simp)
    have hg' : x.cps.size <= i := hg
    exact wpAny_pyNext_wide_end (I.ok.hd hc) st (by simp [hg']) fun h' eb => ⟨rfl, I.turned (t' := s.toks) (fun b o hb e => eb b o hb e) f0 f1 f3 f4 f5⟩
  self := fun _ _ _ _ _ st h => wpAny_pyIter_striter_wide st h
section
variable {X : Cx} {tg : Expr}
end
end L2
set_option Elab.async false
set_option linter.all false
set_option maxRecDepth 100000
namespace L2
open PySem PySem.Spec PyProof.Rows
noncomputable def PSsT (X : Cx) (st : List Stmt) (t : TS) : Prop :=
  ∀ (pins : List (Addr × Obj)) (s : Shared) (σ : St) (H : Hp) (D : Ends), Inv X pins σ H s -> 0 < s.toks -> t D σ H -> wpAny (model X.prog X.w) X.A (execs st X.env) (SP X pins D) X.xe s
section
variable {X : Cx} {e o : Expr} {t to : TE} {st : Stmt} {rest : List Stmt} {tS u : TS} {apos cpos pos p1 p2 : Pos} {c d : Str} {k1 k2 : Nat}
end
theorem cellsFrom_none : ∀ {names : List (Str × NameKind)} {n : Nat}, (∀ y ∈ names, y.2 ≠ .cell) -> cellsFrom n names [] = []
  | [], _, _ => rfl
  | (x, k) :: r, n, h => by
    have hk : k ≠ .cell := h (x, k) (List.mem_cons_self ..)
    have ih := cellsFrom_none (names := r) (n := n) fun y hy => h y (List.mem_cons_of_mem _ hy)
    unfold cellsFrom
    simp only [beq_iff_eq, hk, if_false]
    exact ih
theorem bindL_rev {kindOf : Str -> Option NameKind} {x : Str} : ∀ {binds : List (Str × Value)} {m : Str -> Option Value}, (∀ y ∈ binds, kindOf y.1 = some .local) -> bindL kindOf binds m x = (binds.reverse.lookup x).or (m x)
  | [], _, _ => by simp [bindL]
  | (n, v) :: r, m, h => by
    unfold bindL
    rw [bindL_rev fun y hy => h y (List.mem_cons_of_mem _ hy), if_pos (h (n, v) (List.mem_cons_self ..)), List.reverse_cons, List.lookup_append, Option.or_assoc]
    congr 1
    by_cases e : x = n
    · subst e; simp [List.lookup]
    · have : (x == n) = false := by simpa using e
      simp [List.lookup, this, e]
theorem fn_ofT {CX : CXT} {P : Program} {w : World} {K : PySem.W.Frag} {mg : Str -> Option Value} {base : Heap} {k : Nat} {f : Addr} {name qual : Str} {params : Arguments} {body : List Stmt} {scope : Scope} {dV kV doc pm cdv ct oc : Value} {an od : Option Addr}
    {osl : Array (Option Value)} {N ps : List Str} {sp : Sp} (lk : K.lookup f = some ⟨oc, od, .func (PySem.W.fnOf name qual params body scope dV kV doc pm an cdv ct), osl⟩) (hcd : PySem.W.codeIn K cdv qual = true) (S : FnScope N ps scope)
    (nocell : ∀ y ∈ scope.names, y.2 ≠ .cell) (hps : ps ≠ [])
    (len : ∀ vs H Q E, sp vs H Q E -> vs.length = ps.length)
    (hbody : ∀ (A : Around) (outer : List Env) (s : Shared) (H : Hp) (vs : List V) (Q : VK) (E : XK), Room k (A.deeper (envOfC qual scope s.heap.objs.size f cdv)) -> sp vs H Q E ->
      ∃ t, PSsT (cxOf CX P w K mg base N qual scope f cdv A outer s H E) body t /\ t { nx := fun _ H' => Q .non H', rt := Q } (start N vs) H) :
    FnOk P w K mg base CX (k + 1) f (PySem.W.fnOf name qual params body scope dV kV doc pm an cdv ct) ps sp := by
  refine ⟨len, fun A outer s H args us vs Q E hr e0 hb r hsp => ?_⟩
  have hl := len _ _ _ _ hsp
  have KX : K.In s.heap := e0.mod.kin.keeps fun b o e => (e0.bs b o e).1
  have lim : s.heap.NoLimit := e0.mod.nolimit.keeps fun b o e => (e0.bs b o e).1
  have hkind : ∀ y ∈ ps.zip us, scope.names.lookup y.1 = some .local := fun ⟨n, v⟩ hy => by
    rcases S.par n (List.of_mem_zip hy).1 with q | q
    · exact q
    · exact absurd rfl (nocell _ (PySem.mem_of_lookup q))
  have hkind' : ∀ y ∈ ps.zip us, scope.names.lookup y.1 = some .local \/ (scope.names.lookup y.1 = some .cell /\ ((cellsFrom (s.heap.objs.size + 1) scope.names []).lookup y.1).isSome = true) := fun y hy => .inl (hkind y hy)
  refine codeAny_call_function hr.depth (KX _ _ lk) rfl S.co S.gen rfl (PySem.W.codeRec_of KX hcd) (hb _ _ _ _ ?_)
  refine wpAny_newFunctionEnv nocell hkind (fun h1 hns hsb => ?_) S.kind
  have zl : (ps.zip us).length = ps.length := by
    rw [List.length_zip]
    have := r.length
    omega
  have h0 : 0 < ({ s with heap := h1, toks := s.toks + (ps.zip us).length } : Shared).toks := by
    have z2 : 0 < ps.length := List.length_pos_iff.mpr hps
    show 0 < s.toks + (ps.zip us).length
    omega
  have hcs : cellsFrom (s.heap.objs.size + 1) scope.names [] = [] := cellsFrom_none nocell
  have ef : (bindL (envOfC qual scope s.heap.objs.size f cdv).kindOf (ps.zip us) fun _ => none) = fun x => (ps.zip us).reverse.lookup x := by
    funext x
    rw [bindL_rev (fun y hy => hkind y hy)]
    cases (ps.zip us).reverse.lookup x <;> rfl
  have x : InCallC s s.heap.objs.size (bindL (envOfC qual scope s.heap.objs.size f cdv).kindOf (ps.zip us) fun _ => none) (cellsFrom (s.heap.objs.size + 1) scope.names []) (bindC (envOfC qual scope s.heap.objs.size f cdv).kindOf (ps.zip us) fun _ => none)
      { s with heap := h1, toks := s.toks + (ps.zip us).length } := by
    rw [hcs, ef]
    refine ⟨⟨⟨h1, _, rfl⟩, hns, fun b o e => ?_, Nat.le_refl _⟩, fun n c q => by simp at q, List.Pairwise.nil, fun n c q => by simp at q⟩
    exact (hsb.2 b (Nat.ne_of_lt (Heap.lt_size e))).trans (Heap.get?_push_of_some _ e)
  have eE : newEnv scope s.heap.objs.size mainGlobals [] (qual ++ ".<locals>.") (some f) cdv none builtinsNs = envOfC qual scope s.heap.objs.size f cdv := by
    unfold envOfC newEnv
    rw [hcs]
  generalize hfd : PySem.W.fnOf name qual params body scope dV kV doc pm an cdv ct = fd
  have eF : newEnv fd.scope s.heap.objs.size fd.globals fd.closure (fd.qualname ++ ".<locals>.") (some f) fd.code none fd.builtins = envOfC qual scope s.heap.objs.size f cdv := by
    rw [<- hfd]
    exact eE
  rw [eF]
  generalize hs1 : ({ s with heap := h1, toks := s.toks + (ps.zip us).length } : Shared) = s1 at h0 x ⊢
  refine ⟨lim.keeps x.toInCall.keep, codeAny_func ?_⟩
  obtain ⟨t, ht, hq⟩ := hbody A outer s H vs Q E (hr.deeper _) hsp
  have I : Inv (cxOf CX P w K mg base N qual scope f cdv A outer s H E) [] (start N vs) H s1 := inv_start S hr.hd e0 hl r x
  refine wpAny_mono (ht [] s1 (start N vs) H _ I h0 hq) (fun fl s' hs => ?_) fun e s' hs => hs
  have fin : ∀ {σ' : St} {H' : Hp} {v : V} {u : Value}, Inv (cxOf CX P w K mg base N qual scope f cdv A outer s H E) [] σ' H' s' -> RelV v u -> Q v H' -> CE outer P w H s Q u s' :=
    fun {σ' H' v u} J rv q => ⟨v, H', J.os, J.bare, J.base, J.hok, rv, q⟩
  cases fl with
  | ret u =>
    obtain ⟨v, σ', H', J, rv, q⟩ := hs
    exact fin J rv q
  | next =>
    obtain ⟨σ', H', J, q⟩ := hs
    exact fin (v := V.non) (u := Value.none) J rfl q
  | brk =>
    obtain ⟨_, _, _, q⟩ := hs
    exact False.elim q
  | cont =>
    obtain ⟨_, _, _, q⟩ := hs
    exact False.elim q
end L2
set_option Elab.async false
set_option linter.all false
set_option maxRecDepth 100000
namespace L2
open PySem PySem.Spec PyProof.Rows
structure Walk (J : It) (xs : List V) (Pv : Hp -> Prop) : Prop where
  stop : ∀ H, Pv H -> J.stop xs.length H
  go : ∀ i H, i < xs.length -> Pv H -> J.go i H
  yld : ∀ i H x H', i < xs.length -> Pv H -> J.yld i H x H' -> H' = H /\ xs[i]? = some x
section
variable {P : Program} {w : World} {K : PySem.W.Frag} {mg : Str -> Option Value} {base : Heap}
theorem Fun.okX {x qual : Str} {st : Stmt} {f : Addr} {fd : FuncData} {N ps : List Str} {k : Nat} {sp : Sp} (F : Fun K x qual st f fd) (S : FnScope N ps (defScope st)) (len : ∀ vs H Q E, sp vs H Q E -> vs.length = ps.length)
    (hbody : ∀ (cdv : Value) (A : Around) (outer : List Env) (s : Shared) (H : Hp) (vs : List V) (Q : VK) (E : XK), Room k (A.deeper (envOfC qual (defScope st) s.heap.objs.size f cdv)) -> sp vs H Q E ->
      ∃ t, PSs (cxOf (CXs P w) P w K mg base N qual (defScope st) f cdv A outer s H E) (defBody st) t /\ t { nx := fun _ H' => Q .non H', rt := Q } (start N vs) H) : FnOk P w K mg base (CXs P w) (k + 1) f fd ps sp := by
  obtain ⟨oc, od, kV, doc, pm, an, cdv, ct, osl, rfl, lk, hcd⟩ := F.ex
  exact fn_of lk hcd S len fun A outer s H vs Q E hr hsp => hbody cdv A outer s H vs Q E hr hsp
theorem Fun.okT {x qual : Str} {st : Stmt} {f : Addr} {fd : FuncData} {N ps : List Str} {k : Nat} {sp : Sp} (F : Fun K x qual st f fd) (S : FnScope N ps (defScope st)) (nocell : ∀ y ∈ (defScope st).names, y.2 ≠ .cell) (hps : ps ≠ []) (len : ∀ vs H Q E, sp vs H Q E -> vs.length = ps.length)
    (hbody : ∀ (cdv : Value) (A : Around) (outer : List Env) (s : Shared) (H : Hp) (vs : List V) (Q : VK) (E : XK), Room k (A.deeper (envOfC qual (defScope st) s.heap.objs.size f cdv)) -> sp vs H Q E ->
      ∃ t, PSsT (cxOf (CXs P w) P w K mg base N qual (defScope st) f cdv A outer s H E) (defBody st) t /\ t { nx := fun _ H' => Q .non H', rt := Q } (start N vs) H) : FnOk P w K mg base (CXs P w) (k + 1) f fd ps sp := by
  obtain ⟨oc, od, kV, doc, pm, an, cdv, ct, osl, rfl, lk, hcd⟩ := F.ex
  exact fn_ofT lk hcd S nocell hps len fun A outer s H vs Q E hr hsp => hbody cdv A outer s H vs Q E hr hsp
end
end L2
set_option Elab.async false
set_option linter.all false
set_option maxRecDepth 100000
namespace L2
open PySem PySem.Spec PyProof.Rows
noncomputable abbrev TJ := St -> Hp -> Str -> (Str -> Hp -> Prop) -> Prop
section
variable {X : Cx} {e v₁ v₂ : Expr} {es : List Expr} {te : TE} {t : TJ} {c : Str} {k : Nat} {pos p : Pos}
noncomputable def rNil (K : PySem.W.Frag) (neg : Bool) : R2 := fun x y H Q => ∃ p q xs, x = .ref p /\ y = .ref q /\ SqL K H p xs /\ SqL K H q [] /\ Q (.bl (if neg then !xs.isEmpty else xs.isEmpty)) H
theorem op_eqNil (hu : X.A.units < cLine) : OpR X (compareOp .Eq) (rNil X.K false) := by
  intro pins s σ H x y v u Q I rx ry h
  obtain ⟨p, q, xs, rfl, rfl, h1, h2, hq⟩ := h
  cases rx; cases ry
  obtain ⟨its, r, pl, hz⟩ := I.list h1
  obtain ⟨its2, r2, pl2, _⟩ := I.list h2
  cases r2
  cases xs with
  | nil =>
    cases r
    exact SeqAt.eq_listAt (e := fun _ => true) pl.isList pl2.isList rfl hu (fun j h1 _ => absurd h1 (by simp)) ⟨.bl true, H, I, rfl, hq⟩
  | cons a t =>
    cases r with
    | cons r1 r2 => exact SeqAt.eq_list_lengthsAt pl.isList pl2.isList (by simp) hu ⟨.bl false, H, I, rfl, hq⟩
theorem op_neNil (hu : X.A.units < cLine) : OpR X (compareOp .NotEq) (rNil X.K true) := by
  intro pins s σ H x y v u Q I rx ry h
  obtain ⟨p, q, xs, rfl, rfl, h1, h2, hq⟩ := h
  cases rx; cases ry
  obtain ⟨its, r, pl, hz⟩ := I.list h1
  obtain ⟨its2, r2, pl2, _⟩ := I.list h2
  cases r2
  cases xs with
  | nil =>
    cases r
    exact SeqAt.RcNeAt.lists (e := fun _ => true) pl.isList pl2.isList rfl hu (fun j h1 _ => absurd h1 (by simp)) _ _ _ _ ⟨.bl false, H, I, rfl, hq⟩
  | cons a t =>
    cases r with
    | cons r1 r2 => exact SeqAt.RcNeAt.lists_lengths pl.isList pl2.isList (by simp) hu _ _ _ _ ⟨.bl true, H, I, rfl, hq⟩
end
end L2
set_option Elab.async false
set_option linter.all false
set_option maxRecDepth 100000
namespace L2
open PySem PySem.Spec PyProof.Rows
noncomputable def SIt (h : Heap) (i a : Addr) (k : Nat) (xs : Array Value) : Prop := (h.IsListIter i a k /\ h.IsList a xs) \/ (h.IsTupleIter i a k /\ h.IsTuple a xs)
theorem SIt.move {h h' : Heap} {i a : Addr} {k : Nat} {xs : Array Value} (x : SIt h i a k xs) (hi : ∀ o, h.get? i = some o -> h'.get? i = some o) (ha : ∀ o, h.get? a = some o -> h'.get? a = some o) : SIt h' i a k xs := by
  rcases x with ⟨x, y⟩ | ⟨x, y⟩
  · exact .inl ⟨x.at hi, y.at ha⟩
  · exact .inr ⟨x.at hi, y.at ha⟩
theorem SIt.there {h : Heap} {i a : Addr} {k : Nat} {xs : Array Value} (x : SIt h i a k xs) : ∃ o, h.get? i = some o /\ ∀ v, o.data ≠ .cell v := by
  rcases x with ⟨⟨o, e, _, d⟩, _⟩ | ⟨⟨o, e, _, d⟩, _⟩ <;> exact ⟨o, e, fun v z => by rw [d] at z; cases z⟩
theorem SIt.src {h : Heap} {i a : Addr} {k : Nat} {xs : Array Value} (x : SIt h i a k xs) : ∃ o n, h.get? a = some o /\ o.data = .seq xs n := by
  rcases x with ⟨_, o, e, _, n, d⟩ | ⟨_, o, e, _, n, d⟩ <;> exact ⟨o, n, e, d⟩
section
variable {prog : Program} {w : World} {A : Around} {E : Value -> Shared -> Prop} {s : Shared}
theorem SIt.ext {h h' : Heap} {i a b : Addr} {k : Nat} {xs : Array Value} (x : SIt h i a k xs) (hs : Heap.ExtBut b h h') (h1 : i ≠ b) (h2 : a ≠ b) : SIt h' i a k xs := x.move (fun o e => hs i o h1 e) (fun o e => hs a o h2 e)
end
end L2
set_option Elab.async false
set_option linter.all false
set_option maxRecDepth 100000
namespace L2
open PySem PySem.Spec PyProof.Rows
section
variable {X : Cx} {Z : ZK} {tg iter : Expr} {body : List Stmt} {wi : TI} {g : TG} {tb : TS} {pos : Pos}
theorem passes_XE (ok : XOk X) : PassesOwn (model X.prog X.w) X.A X.env (XE X Z) := by
  rintro e s' ⟨a, C, T, σ', H', rfl, I, F, z⟩
  refine I.note ok F I.ok.frames rfl fun h1 t I1 F1 => ?_
  exact I1.cameBack F1 fun h2 I2 F2 => ⟨a, C, some t, σ', H', rfl, I2, F2, z⟩
theorem Thr.wished (th : Thr X Z) : Thr (X.wish (XE X Z)) Z := by
  refine ⟨⟨th.top, th.ex⟩, ?_⟩
  rintro e s' ⟨a, C, T, σ', H', rfl, I, F, z⟩
  exact ⟨a, C, T, σ', H', rfl, I.unwish, ⟨F.fl, F.ow⟩, z⟩
theorem ps_forX (th : Thr X Z) (hc : X.calm = true) (hi : PI (X.wish (XE X Z)) tg iter wi) (hg : PG (X.wish (XE X Z)) tg g) (hb : PSs (X.wish (XE X Z)) body tb)
    (hs : ∀ x, foldedSetIterable iter X.env x = pure x := by intro _; rfl) : PS X (.For tg iter body [] pos) (tFor wi g tb) := by
  intro pins s σ H D I h
  refine wpAny_mono (ps_for (X := X.wish (XE X Z)) (passes_XE th.toXOk) hc hi hg hb hs pins s σ H D (I.wish _) h) (fun f s' q => q.unwish) fun e s' x => th.thr e s' x
end
end L2
set_option Elab.async false
set_option linter.all false
set_option maxRecDepth 100000
namespace L2
open PySem PySem.Spec PyProof.Rows
section
variable {X : Cx} {scope : Scope} {NC : List Str} {cap : List (Option Nat)} {elt tg iter : Expr} {ifs : List Expr} {pos pos' spos : Pos} {Z : ZK} {wi : TI} {g : TG} {tf : ZK -> TT} {te : ZK -> TE} {i : Nat} {x : Str}
theorem ps_setC (hc : X.calm = true) (th : Thr X Z) (hi : PI X tg iter wi) (cok : compOk X.env.scope scope X.N NC cap = true)
    (hg : ∀ C s H fp pn xe, PG (compCx X NC scope C s H fp pn xe) tg g)
    (hf : ∀ C s H fp pn xe Zc, Thr (compCx X NC scope C s H fp pn xe) Zc -> PF (compCx X NC scope C s H fp pn xe) ifs (tf Zc))
    (hb : ∀ C s H fp pn xe Zc, Thr (compCx X NC scope C s H fp pn xe) Zc -> PE (compCx X NC scope C s H fp pn xe) elt (te Zc))
    (hs : ∀ x, foldedSetIterable iter X.env x = pure x) (hN : X.N.Nodup) (hx : X.N[i]? = some x) (hlo : X.env.scope.names.lookup x = some .local)
    (hsw : swapsWith (.ListComp elt [⟨tg, iter, ifs, 0⟩] scope pos) (some (.Name x pos')) spos.line X.env = pure true) :
    PS X (.Assign [.Name x pos'] (.ListComp elt [⟨tg, iter, ifs, 0⟩] scope pos) spos) (tAsg (tComp Z cap wi g tf te) (gName i)) := by
  intro pins s σ H D I h
  obtain ⟨c1, c2, c3, c4, c5, c6, c7⟩ := compOk_parts cok
  rw [exec_Assign_Name_used _ _ _ _ hsw]
  refine wpAny_bind (wpAny_standAt (wpAny_bind ?_))
  show wpAny _ X.A (do let _ <- comprehension (.ListComp elt [⟨tg, iter, ifs, 0⟩] scope pos) scope X.env _ (newList []) false (eval iter X.env) (some (assign (.Name x pos') X.env))) _ _ s
  refine wpAny_bind (wpAny_mono (wpAny_comprehension_free (use := some (assign (.Name x pos') X.env)) (Q := fun _ s' => SP X pins D .next s') rfl hs (closure_of fun y hy e => I.ok.has y.1 (.inl (c4 y hy e))) c1 c3
    (thn (hi pins s σ H _ I h) fun xv s₁ h₁ => thn h₁ fun itv s₂ h₂ => ?_)) (fun _ s' hq => wpAny_pure (wpAny_pure hq)) fun _ _ e => e)
  obtain ⟨it, fp, tn, J, H2, rfl, I2, T, st2, f2, W, ⟨m0, w0⟩, turn⟩ := h₂
  refine comp_core hc th I2 T st2 f2 cok (fun C pn xe => hg C s₂ H2 fp pn xe) (fun C pn xe t => hf C s₂ H2 fp pn xe _ t) (fun C pn xe t => hb C s₂ H2 fp pn xe _ t) W m0 w0 turn ?_
  rintro C D' s' H' ys us n ⟨hlen, q⟩ rv e hn hnC rfl rfl ⟨m, ns⟩ lv
  have I' : Inv X pins σ H' s' := lv s'.heap (Heap.SameBut.refl _ _)
  have I3 : Inv X pins σ (upd H' s₂.heap.objs.size (.lst ys)) s' := I'.track (o := .lst ys) hn (Heap.get?_none_of_le I2.sz) (Nat.ne_of_gt I2.lt) (fun y c ec z => by
    obtain ⟨v, q⟩ := I2.cell y c ec
    exact absurd q.lt (by rw [z]; exact Nat.lt_irrefl _)) (fun p hp z => absurd (Heap.lt_size (I2.pin p hp).1) (by rw [z]; exact Nat.lt_irrefl _)) ⟨hlen, us, n, rv, e⟩
  have fC : FpOk X pins (upd H' s₂.heap.objs.size (.lst ys)) (s₂.heap.objs.size + 1) := I2.fpOk (Nat.le_succ _) (by rw [upd_ne (Nat.succ_ne_self _)]; exact hnC)
  show wpAny _ X.A (assign (.Name x pos') X.env (.ref s₂.heap.objs.size)) _ _ _
  refine wpAny_assign_Name (store_ok2 I3 hN hx (.inl hlo) (v := .ref s₂.heap.objs.size) rfl (fun s'' I4 ⟨a, sb, ha⟩ => ?_) (.inr hlo))
  have nC : s₂.heap.objs.size + 1 ≠ a := by
    rcases ha with rfl | ha
    · exact fC.2.1
    · exact fun z => fC.2.2.2.2.1 x a ha z.symm
  refine ⟨m, ns.sameBut sb nC, fun h' sb' => ⟨_, _, I4.turned (t' := s''.toks) (fun b o hb e => (sb'.2 b hb).trans e) fC.1 fC.2.1 fC.2.2.2.1 fC.2.2.2.2.1 fC.2.2.2.2.2, q _ hn⟩⟩
end
end L2
set_option Elab.async false
set_option linter.all false
set_option maxRecDepth 100000
namespace L2
open PySem PySem.Spec PyProof.Rows
noncomputable def Itv (K : PySem.W.Frag) (a : Addr) (n : Nat) : It :=
  ⟨fun i H => i < n /\ ∃ xs, SqL K H a xs /\ xs.length = n, fun i H x H' => H' = H /\ ∀ xs, SqL K H a xs -> xs[n - 1 - i]? = some x, fun i _ => i = n⟩
theorem turn_rev {P : Program} {w : World} {K : PySem.W.Frag} {tg : Expr} (a it : Addr) (n : Nat) : Turn P w K tg (Itv K a n) [it] it (fun i h => h.IsRevIter it a ((n : Int) - 1 - (i : Int))) where
  mem := by simp
  obj := fun i h st b hb => by
    have e : b = it := by simpa using hb
    subst e
    obtain ⟨o, e, c, d⟩ := st
    exact ⟨o, e, fun v z => by rw [d] at z; cases z⟩
  keep := fun i h h' st k => st.at fun o e => k it (by simp) o e
  item := by
    intro X hP hw hK hc i pins s σ H E I hf st hg
    subst hP hw hK
    obtain ⟨hi, xs, hq, hn⟩ := hg
    obtain ⟨its, rv, p, hz⟩ := I.list hq
    have hx : xs[n - 1 - i]? = some (xs[n - 1 - i]'(by omega)) := List.getElem?_eq_getElem _
    obtain ⟨u, hu, ru⟩ := rv.get hx
    obtain ⟨f0, f1, f2, f3, f4, f5⟩ := hf it (by simp)
    have e1 : ((n : Int) - 1 - (i : Int)) = ((n - 1 - i : Nat) : Int) := by omega
    rw [e1] at st
    refine wpAny_pyNext_rev_item st p.isList (x := u) (by simpa using hu) fun h' st' sb => ?_
    have I1 : Inv X pins σ H { s with heap := h' } := I.turned (t' := s.toks) (fun b o hb e => (sb.2 b hb).trans e) f0 f1 f3 f4 f5
    have e2 : ((n - 1 - i : Nat) : Int) - 1 = (n : Int) - 1 - ((i + 1 : Nat) : Int) := by omega
    rw [e2] at st'
    obtain ⟨o, e, c, d⟩ := id st'
    exact ⟨u, rfl, go_of (s := { s with heap := h' }) e c d (by decide) ⟨_, H, I1, ru, ⟨rfl, fun ys hy => by rw [I.list_inj hy hq]; exact hx⟩, st', fun b hb => (hf b hb).1⟩⟩
  done := by
    intro X hP hw hK hc i pins s σ H E I hf st hg
    subst hP hw hK
    have hg' : i = n := hg
    subst hg'
    obtain ⟨f0, f1, f2, f3, f4, f5⟩ := hf it (by simp)
    have e1 : ((i : Int) - 1 - (i : Int)) = -1 := by omega
    rw [e1] at st
    exact wpAny_pyNext_rev_end (I.ok.hd hc) st fun h' eb => ⟨rfl, I.turned (t' := s.toks) (fun b o hb e => eb b o hb e) f0 f1 f3 f4 f5⟩
  self := fun _ _ _ _ _ st h => wpAny_pyIter_revIter st h
section
variable {X : Cx} {tg : Expr}
end
end L2
set_option Elab.async false
set_option linter.all false
set_option maxRecDepth 100000
namespace L2
open PySem PySem.Spec PyProof.Rows
theorem lri_nolen : typeLookup (.type "list_reverseiterator") "__len__" = pure none := by rw [typeLookup_type, builtinLookup_eq_fast]; kernel_rfl
theorem lri_hint : typeLookup (.type "list_reverseiterator") "__length_hint__" = pure (some (.builtin "list_reverseiterator.__length_hint__")) := by rw [typeLookup_type, builtinLookup_eq_fast]; kernel_rfl
section
variable {prog : Program} {w : World} {A : Around} {s : Shared} {R : Result -> Shared -> Prop}
variable {I : Addr} {fp wr : List Addr} {G : Array GenState -> Array GenState -> Prop} {n : Nat} {P : Nat -> Value -> Prop} {St : Nat -> Shared -> Prop}
theorem ext_rev (W : WalksS prog w A.in1 I fp wr G n P St) (hT : ∀ i s, St i s -> s.TypeIs (.ref I) "list_reverseiterator") (S : Addr) (res : Value) (c₀ : Nat) (hst : St 0 s) (hSf : S ∉ fp) (hI : I ∈ fp)
    (hS : s.heap.get? S = some { cls := .type "list", data := .seq #[] c₀ }) (hn : n <= sizeLine)
    (hR : ∀ s' acc' c', Moved (S :: wr) G s s' -> s'.heap.get? S = some { cls := .type "list", dict := none, data := .seq acc' c', slots := #[] } -> ItemsOf P acc' n -> R (.ok (.ret res)) s') :
    wpAny (model prog w) A.in1 (Builtin.List.listExtendWith (.ref S) (.ref I) res)
      (fun fin s' => match fin with | .done f => R (.ok f) s' | .again c' => c'.quiet = true /\ codeAny (model prog w) A c' R s') (fun e s' => R (.error e) s') s := by
  have hSI : S ≠ I := fun e => hSf (e ▸ hI)
  have h1 : Builtin.List.listSameRef (.ref S) (.ref I) = false := by simp [Builtin.List.listSameRef, hSI]
  unfold Builtin.List.listExtendWith
  refine wpAny_bind (wpAny_typeOf (hT 0 _ hst) ?_)
  rw [if_neg (by rw [h1]; decide)]
  refine wpAny_bind (W.self 0 _ _ _ hst ?_)
  refine wpAny_bind (wpAny_holding ?_)
  unfold Builtin.List.listLengthHint
  refine wpAny_bind (wpAny_specialOf (hT 0 _ hst) lri_nolen ?_)
  show wpAny _ A.in1 (specialOf (Value.ref I) (Str.ofString "__length_hint__") >>= _) _ _ _
  refine wpAny_bind (wpAny_specialOf (hT 0 _ hst) lri_hint ?_)
  generalize hid : ("list_reverseiterator.__length_hint__" : String) = id0
  wp_delta
  rw [show splitId id0 = some ("list_reverseiterator", "__length_hint__") from by subst hid; decide +kernel]
  subst hid
  refine wpAny_bind (wpAny_isInstance (b := true) (hT 0 _ hst) (by rw [isSubtype_type]; kernel_rfl) ?_)
  refine wpAny_pure ?_
  rw [if_neg (by decide)]
  exact wpAny_pure ⟨plainId_quiet F.plain_extend_loop _, codeAny_extend_loopS W hn _ hSf _ n 0 _ _ _ rfl (Nat.zero_le _) hst hS (ItemsOf.nil P) fun s' acc' c' hm hS' hacc => hR s' acc' c' hm hS' hacc⟩
theorem init_rev (W : WalksS prog w A.in1 I fp wr G n P St) (hT : ∀ i s, St i s -> s.TypeIs (.ref I) "list_reverseiterator") (S : Addr) (hst : St 0 s) (hSf : S ∉ fp) (hI : I ∈ fp)
    (hS : s.heap.get? S = some { cls := .type "list", data := .seq #[] }) (hn : n <= sizeLine)
    (hR : ∀ s' acc' c', Moved (S :: wr) G s s' -> s'.heap.get? S = some { cls := .type "list", dict := none, data := .seq acc' c', slots := #[] } -> ItemsOf P acc' n -> R (.ok (.ret .none)) s') :
    wpAny (model prog w) A.in1 (Builtin.«list.__init__» ⟨[.ref S, .ref I], []⟩)
      (fun fin s' => match fin with | .done f => R (.ok f) s' | .again c' => c'.quiet = true /\ codeAny (model prog w) A c' R s') (fun e s' => R (.error e) s') s := by
  show wpAny _ A.in1 (do let old <- Builtin.List.listItems (.ref S); Builtin.List.listUpdate (.ref S) (fun _ => #[]); letGo old.toList.reverse; Builtin.List.listExtendWith (.ref S) (.ref I) .none) _ _ s
  refine wpAny_bind ?_
  unfold Builtin.List.listItems
  refine wpAny_bind (wpAny_seqItems hS rfl (wpAny_pure ?_))
  show wpAny _ A.in1 (updateSeq S (fun _ => #[]) >>= fun _ => letGo (#[] : Array Value).toList.reverse >>= fun _ => Builtin.List.listExtendWith (.ref S) (.ref I) .none) _ _ s
  refine wpAny_bind (wpAny_updateSeq hS rfl ?_)
  have hS2 := Heap.get?_update_self (Obj.mapSeq (fun _ => (#[] : Array Value))) hS rfl
  have oth : ∀ b o, b ≠ S -> s.heap.get? b = some o -> (s.heap.update S (Obj.mapSeq (fun _ => (#[] : Array Value)))).get? b = some o := fun b o hb e => (Heap.get?_update_other _ _ (Ne.symm hb)).trans e
  refine wpAny_bind (wpAny_letGo ?_)
  refine ext_rev W hT S .none _ (W.frame 0 s _ s.toks hst (Nat.le_refl _) fun b hb o e => oth b o (fun h => hSf (h ▸ hb)) e) hSf hI hS2 hn fun s' acc' c' hm hS' hacc => ?_
  exact hR s' acc' c' (Moved.trans W.gtrans ((Moved.refl W.grefl).then_heap (Nat.le_refl _) fun b o hb e => oth b o (fun h => hb (h ▸ List.mem_cons_self)) e) hm) hS' hacc
end
section
variable {prog : Program} {w : World} {A : Around} {E : Value -> Shared -> Prop} {s : Shared}
theorem list_rev {I l : Addr} {items : Array Value} {Q : Value -> Shared -> Prop} (hh : A.handled = none) (hne : l ≠ I) (hI : I < s.heap.objs.size) (hit : s.heap.IsRevIter I l ((items.size : Int) - 1)) (hl : s.heap.IsList l items) (hn : items.size <= sizeLine)
    (hQ : ∀ s' acc c, (∀ b o, b ≠ I -> s.heap.get? b = some o -> s'.heap.get? b = some o) -> s'.gens = s.gens -> s'.drawn = s.drawn -> s'.os = s.os -> s.toks <= s'.toks ->
      s'.heap.get? s.heap.objs.size = some { cls := .type "list", data := .seq acc c } -> acc.toList = items.toList.reverse -> Q (.ref s.heap.objs.size) s') :
    wpAny (model prog w) A (call (.type "list") [.ref I]) Q E s := by
  have hll : l < s.heap.objs.size := by obtain ⟨_, e, _⟩ := hl; exact Heap.lt_size e
  have W := (Walks.listRev (prog := prog) (w := w) (A := A.in1.in1) hh I l hne items).toS
  have hfp : ∀ b ∈ [I, l], b < s.heap.objs.size := fun b hb => by simp at hb; rcases hb with rfl | rfl <;> assumption
  have hSf : s.heap.objs.size ∉ [I, l] := fun hm => Nat.lt_irrefl _ (hfp _ hm)
  refine callType_codes (Q₁ := fun obj s₁ => obj = .ref s.heap.objs.size /\ s₁ = { s with heap := s.heap.push { cls := .type "list", data := .seq #[] } }) F.called_list (F.typeCall_list_1 _) F.entry_list_init (code_list_new _ ⟨rfl, rfl⟩) fun obj s₁ h₁ => ?_
  obtain ⟨rfl, rfl⟩ := h₁
  have hS : (s.heap.push { cls := .type "list", data := .seq #[] }).get? s.heap.objs.size = some { cls := .type "list", data := .seq #[] } := Heap.get?_push_size _ rfl
  have st0 : 0 <= items.size /\ s.heap.IsRevIter I l ((items.size : Int) - 1 - ((0 : Nat) : Int)) /\ s.heap.IsList l items := ⟨Nat.zero_le _, by simpa using hit, hl⟩
  refine ⟨⟨_, hS, rfl⟩, F.args_list_init_2 _ _, init_rev W (fun i s x => x.2.1.typeIs) _ (W.frame 0 s _ s.toks st0 (Nat.le_refl _) fun b _ o e => Heap.get?_push_of_some _ e) hSf (by simp) hS hn fun s' acc' c' hm hS' hacc => ?_⟩
  refine ⟨rfl, hQ s' acc' c' (fun b o hb e => hm.heap b o ?_ (Heap.get?_push_of_some _ e)) hm.gens hm.drawn hm.os hm.toks hS' ?_⟩
  · have := Heap.lt_size e
    simp
    exact ⟨Nat.ne_of_lt this, hb⟩
  · obtain ⟨a1, a2⟩ := hacc
    apply List.ext_getElem?
    intro i
    rw [Array.getElem?_toList]
    by_cases hi : i < acc'.size
    · have e := a2 i _ (Array.getElem?_eq_getElem hi)
      rw [Array.getElem?_eq_getElem hi, List.getElem?_reverse (by rw [Array.length_toList]; omega), Array.length_toList, Array.getElem?_toList, e]
    · rw [Array.getElem?_eq_none (by omega), List.getElem?_eq_none (by rw [List.length_reverse, Array.length_toList]; omega)]
variable {X : Cx}
noncomputable def rLR (K : PySem.W.Frag) : List V -> Hp -> VK -> Prop := fun xs H Q => ∃ p ys, xs = [.ref p] /\ SqL K H p ys /\ ∀ l, H l = none -> Q (.ref l) (upd H l (.lst ys.reverse))
theorem Vals.rev : ∀ {xs : List V} {us : List Value}, Vals xs us -> Vals xs.reverse us.reverse
  | _, _, .nil => .nil
  | _, _, .cons r t => by rw [List.reverse_cons, List.reverse_cons]; exact (Vals.rev t).append (.cons r .nil)
theorem pe_listrev {a : Expr} {ta : TA} {p p' pos pos' : Pos} (hc : X.calm = true) (hg : Gl X "reversed") (hm : X.mg "reversed" = none) (hg2 : Gl X "list") (hm2 : X.mg "list" = none) (ha : PA X [a] ta) (hs : starEach [a] X.env = [(false, eval a X.env)]) :
    PE X (.Call (.Name "list" p) [.Call (.Name "reversed" p') [a] [] pos'] [] pos) (fun σ H Q => ta σ H fun vs H1 => rLR X.K vs H1 Q) := by
  intro pins s σ H Q I h
  refine wpAny_Call_Name_kw (ld_blt I hg2 hm2 boot_list ?_ (by decide) (by decide))
  refine PyProof.Rows.callWith_type1 ?_ rfl rfl
  show wpAny _ _ (spliced ((false, eval (.Call (.Name "reversed" p') [a] [] pos') X.env) :: [])) _ _ s
  refine Calls.spliced_cons (Call_ (ld_blt I hg hm boot_reversed (PyProof.Rows.callWith_type1 (thn (ha pos' pins s σ H _ I h) fun us s1 ⟨vs, H1, I1, r1, q1⟩ => ?_) hs rfl) (by decide) (by decide)))
  obtain ⟨b, xs, e, hq, q⟩ := q1
  subst e
  cases r1 with
  | cons r rr =>
    cases rr
    cases r
    obtain ⟨its, rv, pl, hz⟩ := I1.list hq
    have hl := rv.length
    have hb : b < s1.heap.objs.size := by obtain ⟨_, e, _⟩ := pl.isList; exact Heap.lt_size e
    refine call_reversed_list pl.isList ?_
    refine wpAny_pure ?_
    refine list_rev (s := { s1 with heap := s1.heap.push (revObj b ((its.toArray.size : Int) - 1)) }) (items := its.toArray) (I1.ok.hd hc) (Nat.ne_of_lt hb) (by simp) ⟨_, Heap.get?_push_size _ rfl, rfl, rfl⟩ (pl.isList.push _) (by simp only [List.size_toArray]; omega) fun s' acc c k1 k2 k3 k4 k5 k6 k7 => ?_
    obtain ⟨hp', g', d', tk', os'⟩ := s'
    simp only at k2 k3 k4
    subst k2 k3 k4
    have kp : ∀ b' o, s1.heap.get? b' = some o -> hp'.get? b' = some o := fun b' o e => k1 b' o (Nat.ne_of_lt (Heap.lt_size e)) (Heap.get?_push_of_some _ e)
    have sz : s1.heap.objs.size <= (s1.heap.push (revObj b ((its.toArray.size : Int) - 1))).objs.size := by simp
    refine ⟨.ref _, _, I1.laid (t' := tk') kp sz (show ObjOk X.prog X.w _ hp' _ (.lst xs.reverse) from ⟨by rw [List.length_reverse]; exact hz, its.reverse, c, rv.rev, ?_⟩), rfl, q _ (I1.hok.fresh sz)⟩
    have ea : acc = its.reverse.toArray := by
      have := congrArg List.toArray k7
      simpa using this
    rw [<- ea]
    exact k6
end
end L2
set_option Elab.async false
set_option linter.all false
set_option maxRecDepth 100000
namespace L2
open PySem PySem.Spec PyProof.Rows
theorem rvt_owner : Manifest.owners.lookup (String.ofList ['d', 'e', 's', 'r', 'e', 'v', 'e', 'r'].reverse) = some Manifest.sig_reversed := by kernel_rfl
theorem rvt_next : Slot "reversed" "__next__" "reversed.__next__" := .of (owner := "reversed") (n := "__next__") (by rw [typeLookup_type, builtinLookup_eq_fast]; kernel_rfl) (by decide +kernel) (by decide +kernel) (by decide +kernel) (by first | exact .inl (by decide +kernel) | exact .inr (by decide +kernel)) (by rw [isSubtype_type]; kernel_rfl)
theorem rvt_next_e : entryFor table "reversed.__next__" = some Builtin.«reversed.__next__» := entryFor_of_tree (by kernel_rfl)
theorem rvt_next_a (a : Value) : argsOk "reversed.__next__" ⟨[a], []⟩ := by unfold argsOk; rw [signature?_of (id := "reversed.__next__") (n := ['_', '_', 't', 'x', 'e', 'n', '_', '_']) (o := ['d', 'e', 's', 'r', 'e', 'v', 'e', 'r']) (by kernel_rfl) rvt_owner]; kernel_rfl
theorem rvt_iter : Slot "reversed" "__iter__" "reversed.__iter__" := .of (owner := "reversed") (n := "__iter__") (by rw [typeLookup_type, builtinLookup_eq_fast]; kernel_rfl) (by decide +kernel) (by decide +kernel) (by decide +kernel) (by first | exact .inl (by decide +kernel) | exact .inr (by decide +kernel)) (by rw [isSubtype_type]; kernel_rfl)
theorem rvt_iter_a (a : Value) : argsOk "reversed.__iter__" ⟨[a], []⟩ := by unfold argsOk; rw [signature?_of (id := "reversed.__iter__") (n := ['_', '_', 'r', 'e', 't', 'i', '_', '_']) (o := ['d', 'e', 's', 'r', 'e', 'v', 'e', 'r']) (by kernel_rfl) rvt_owner]; kernel_rfl
theorem rvt_iter_e : entryFor table "reversed.__iter__" = some Builtin.«dict_keyiterator.__iter__» := entryFor_alias (id' := "dict_keyiterator.__iter__") (by kernel_rfl) (by first | rfl | decide +kernel | (unfold String.splitOn; simp +decide [String.splitOnAux])) (by decide +kernel) (by kernel_rfl)
theorem rvt_init : Slot "reversed" "__init__" "object.__init__" := .of (owner := "object") (n := "__init__") (by rw [typeLookup_type, builtinLookup_eq_fast]; kernel_rfl) (by decide +kernel) (by decide +kernel) (by decide +kernel) (by first | exact .inl (by decide +kernel) | exact .inr (by decide +kernel)) (by rw [isSubtype_type]; kernel_rfl)
theorem rvt_called : TypeCalled "reversed" "reversed.__new__" "object.__init__" := ⟨by decide +kernel, by decide +kernel, ⟨_, _, PySem.F.mro_reversed⟩, PySem.F.made_reversed, by decide +kernel, by rw [isSubtype_type]; kernel_rfl, rvt_init⟩
theorem rvt_init_a (a b : Value) : argsOk "object.__init__" ⟨[a, b], []⟩ := by unfold argsOk; rw [signature?_of (id := "object.__init__") (n := ['_', '_', 't', 'i', 'n', 'i', '_', '_']) (o := ['t', 'c', 'e', 'j', 'b', 'o']) (by kernel_rfl) PySem.F.owner_object]; kernel_rfl
theorem tup_norev : typeLookup (.type "tuple") "__reversed__" = pure none := by rw [typeLookup_type, builtinLookup_eq_fast]; kernel_rfl
theorem tup_nodict : isSubtype (.type "tuple") (.type "dict") = pure false := by rw [isSubtype_type]; kernel_rfl
end L2
set_option Elab.async false
set_option linter.all false
set_option maxRecDepth 100000
namespace L2
open PySem PySem.Spec PyProof.Rows
noncomputable def rvtObj (l : Addr) (i : Int) : Obj := { cls := .type "reversed", data := .fields #[.ref l, rawInt i] }
noncomputable def IsRvt (h : Heap) (a l : Addr) (i : Int) : Prop := ∃ o, h.get? a = some o /\ o.cls = .type "reversed" /\ o.data = .fields #[.ref l, rawInt i]
theorem IsRvt.typeIs {s : Shared} {a l : Addr} {i : Int} (x : IsRvt s.heap a l i) : s.TypeIs (.ref a) "reversed" := let ⟨o, ho, hc, _⟩ := x; ⟨o, ho, hc⟩
theorem IsRvt.at {h h' : Heap} {a l : Addr} {i : Int} (x : IsRvt h a l i) (e : ∀ o, h.get? a = some o -> h'.get? a = some o) : IsRvt h' a l i := let ⟨o, ho, r⟩ := x; ⟨o, e _ ho, r⟩
theorem meets_rvt (t : Addr) (its : Array Value) (hz : (its.size : Int) < 2 ^ 63) : Meets (Builtin.«reversed.__new__» ⟨[.type "reversed", .ref t], []⟩) (fun _ R s => IsTup s.heap t its /\ ∀ tk, R (.ok (.ret (.ref s.heap.objs.size))) { s with heap := s.heap.push (rvtObj t ((its.size : Int) - 1)), toks := tk }) :=
  .of_wp fun prog w A R s h => by
    obtain ⟨ht, h⟩ := h
    unfold Builtin.«reversed.__new__»
    refine wpAny_bind (wpAny_of_eq (newClass_reversed _) ?_)
    try dsimp only
    refine wpAny_bind (wpAny_of_eq (a := ()) (by first | rfl | kernel_rfl) ?_)
    refine wpAny_bind (wpAny_of_eq (a := ()) (by first | rfl | kernel_rfl) ?_)
    try dsimp only
    refine wpAny_bind (wpAny_specialOf ht.typeIs tup_norev ?_)
    try dsimp only
    refine wpAny_bind (wpAny_mono (Q := fun b s' => b = true /\ s' = s) ?_ ?_ (fun _ _ e => e))
    · show wpAny _ _ (isInstance (.ref t) (.type "dict") >>= _) _ _ s
      refine wpAny_bind (wpAny_isInstance (T := "tuple") (b := false) ht.typeIs tup_nodict ?_)
      simp only [Bool.false_eq_true, if_false, pure_bind]
      refine wpAny_bind (wpAny_specialOf ht.typeIs slot_tuple_getitem.lookup ?_)
      simp only []
      rw [if_pos (by decide)]
      exact wpAny_pure ⟨rfl, rfl⟩
    · rintro b s' ⟨rfl, rfl⟩
      simp only [Bool.not_true, Bool.false_eq_true, if_false]
      refine wpAny_bind (len_tuple ht hz ?_)
      refine wpAny_bind (wpAny_of_eq (a := some (its.size : Int)) rfl ?_)
      simp only []
      refine wpAny_bind (m := Builtin.SmallTypes.newRecord (Value.type "reversed") [Value.ref t, rawInt ((its.size : Int) - 1)]) ?_
      show wpAny _ _ (newObj (.type "reversed") (.fields #[Value.ref t, rawInt ((its.size : Int) - 1)])) _ _ _
      refine wpAny_newObj_type ?_ (by size_fits)
      exact wpAny_pure ⟨_, rfl, h _⟩
section
variable {prog : Program} {w : World} {A : Around} {E : Value -> Shared -> Prop} {s : Shared}
theorem call_rvt {t : Addr} {its : Array Value} {Q : Value -> Shared -> Prop} (ht : IsTup s.heap t its) (hz : (its.size : Int) < 2 ^ 63)
    (h : ∀ tk, Q (.ref s.heap.objs.size) { s with heap := s.heap.push (rvtObj t ((its.size : Int) - 1)), toks := tk }) : wpAny (model prog w) A (call (.type "reversed") [.ref t]) Q E s := by
  refine callType_new rvt_called (by decide) (PySem.F.typeCall_reversed_1 _) (PySem.F.newCall_reversed_1 _) (fun obj => rvt_init_a obj _) PySem.F.entry_reversed_new (meets_rvt t its hz) ⟨ht, fun tk => ?_⟩
  exact ⟨⟨_, Heap.get?_push_size _ rfl, rfl⟩, h tk⟩
theorem rvt_item {it t : Addr} {i : Nat} {its : Array Value} {x : Value} {Q : Option Value -> Shared -> Prop} (hit : IsRvt s.heap it t (i : Int)) (ht : IsTup s.heap t its) (hx : its[i]? = some x) (hz : (its.size : Int) < 2 ^ 63)
    (hQ : ∀ h' tk, IsRvt h' it t ((i : Int) - 1) -> Heap.SameBut it s.heap h' -> Q (some x) { s with heap := h', toks := tk }) : wpAny (model prog w) A (pyNext (.ref it)) Q E s := by
  obtain ⟨o, ho, hc, hd⟩ := id hit
  have hi : i < its.size := by
    by_cases h : i < its.size
    · exact h
    · rw [Array.getElem?_eq_none (by omega)] at hx; cases hx
  unfold pyNext
  refine wpAny_bind (wpAny_attempt (wpAny_callSpecial?_slot (name := Str.ofString "__next__") hit.typeIs rvt_next (wpAny_call_entry rvt_next hit.typeIs rvt_next_e ?_ (rvt_next_a _))))
  unfold Builtin.«reversed.__next__»
  refine wpAny_bind (wpAny_of_eq (a := (Value.ref it, [])) rfl ?_)
  try dsimp only
  refine wpAny_bind (wpAny_field ho hd (x := .ref t) rfl ?_)
  refine wpAny_bind (wpAny_field ho hd (x := rawInt (i : Int)) rfl ?_)
  show wpAny _ _ (if (i : Int) < 0 then _ else _) _ _ s
  rw [if_neg (by omega)]
  show wpAny _ _ (specialOf (.ref t) "__getitem__" >>= _) _ _ s
  refine wpAny_bind (wpAny_specialOf ht.typeIs slot_tuple_getitem.lookup ?_)
  simp only [Option.isNone, Bool.false_eq_true, if_false]
  refine wpAny_bind (wpAny_mkInt ?_)
  refine wpAny_bind (wpAny_attempt (getItem_tuple (s := { s with toks := s.toks + 1 }) (j := i) (x := x) ht (by omega) (by omega) (by unfold seqIndex?; simp only []; split <;> simp_all <;> omega) hx ?_))
  simp only []
  refine wpAny_bind (wpAny_field (s := { s with toks := s.toks + 1 }) ho hd (x := rawInt (i : Int)) rfl ?_)
  show wpAny _ _ (setField (.ref it) 1 (rawInt ((i : Int) - 1)) >>= _) _ _ _
  refine wpAny_bind (wpAny_setField (s := { s with toks := s.toks + 1 }) ho hd (by simp) ?_)
  refine wpAny_pure ⟨x, rfl, wpAny_pure (hQ _ _ ?_ (Heap.SameBut.update ..))⟩
  exact ⟨_, Heap.get?_update_self _ ho (Obj.isFreed_of_fields (Obj.data_mapFields hd _)), (Obj.cls_mapFields ..).trans hc, by rw [Obj.data_mapFields hd]; simp⟩
theorem rvt_end {it t : Addr} {Q : Option Value -> Shared -> Prop} (hh : A.handled = none) (hit : IsRvt s.heap it t (-1))
    (hQ : ∀ h', Heap.ExtBut it s.heap h' -> Q none { s with heap := h' }) : wpAny (model prog w) A (pyNext (.ref it)) Q E s := by
  obtain ⟨o, ho, hc, hd⟩ := id hit
  unfold pyNext
  refine wpAny_bind (wpAny_attempt (wpAny_callSpecial?_slot (name := Str.ofString "__next__") hit.typeIs rvt_next (wpAny_call_entry rvt_next hit.typeIs rvt_next_e ?_ (rvt_next_a _))))
  unfold Builtin.«reversed.__next__»
  refine wpAny_bind (wpAny_of_eq (a := (Value.ref it, [])) rfl ?_)
  try dsimp only
  refine wpAny_bind (wpAny_field ho hd (x := .ref t) rfl ?_)
  refine wpAny_bind (wpAny_field ho hd (x := rawInt (-1)) rfl ?_)
  show wpAny _ _ (if (-1 : Int) < 0 then _ else _) _ _ s
  rw [if_pos (by decide)]
  refine wpAny_bind (wpAny_rule ?_)
  refine wpAny_bind (wpAny_mono (Q := fun _ s' => ∃ h', s' = { s with heap := h' } /\ Heap.SameBut it s.heap h') ?_ ?_ (fun _ _ e => e))
  · show wpAny _ _ (setField (.ref it) 1 (rawInt (-1)) >>= fun _ => setField (.ref it) 0 .none) _ _ s
    refine wpAny_bind (wpAny_setField ho hd (by simp) ?_)
    refine wpAny_setField (Heap.get?_update_self _ ho (Obj.isFreed_of_fields (Obj.data_mapFields hd _))) (Obj.data_mapFields hd _) (by simp) ?_
    exact ⟨_, rfl, (Heap.SameBut.update ..).trans (Heap.SameBut.update ..)⟩
  · rintro _ s' ⟨h1, rfl, sb⟩
    refine wpAny_bind ?_
    unfold Builtin.SmallTypes.stopIteration
    refine wpAny_bind ?_
    simp only [newExc, newTuple]
    refine wpAny_bind (wpAny_newObj_type ?_ (by size_fits))
    refine wpAny_bind (m := firstArgMember _ _) (wpAny_of_eq (a := Value.none) (by first | rfl | (simp only [firstArgMember]; rfl)) ?_)
    refine wpAny_newObj_type ?_ (by size_fits)
    simp only [raiseNew]
    refine wpAny_bind (wpAny_handled ?_)
    first | rw [show A.in1.handled = none from hh] | rw [hh]
    refine wpAny_bind (wpAny_pure (wpAny_throw ?_))
    refine wpAny_bind (wpAny_isInstance (T := "StopIteration") (b := true) ⟨_, Heap.get?_push_size _ rfl, rfl⟩ isSubtype_stop ?_)
    exact wpAny_pure (hQ _ ((sb.extBut.push _).push _))
theorem rvt_self {it t : Addr} {i : Int} {Q : Value -> Shared -> Prop} (hit : IsRvt s.heap it t i) (h : Q (.ref it) s) : wpAny (model prog w) A (pyIter (.ref it)) Q E s := by
  refine wpAny_pyIter_slot hit.typeIs rvt_iter (wpAny_call_entry rvt_iter hit.typeIs rvt_iter_e ?_ (rvt_iter_a _))
  show wpAny _ _ (ret (.ref it)) _ _ s
  exact wpAny_pure ⟨_, rfl, "reversed", _, hit.typeIs, rvt_next.lookup, h⟩
end
noncomputable def Itw (K : PySem.W.Frag) (a : Addr) (n : Nat) : It :=
  ⟨fun i H => i < n /\ ∃ xs, SqT K H a xs /\ xs.length = n, fun i H x H' => H' = H /\ ∀ xs, SqT K H a xs -> xs[n - 1 - i]? = some x, fun i _ => i = n⟩
theorem turn_rvt {P : Program} {w : World} {K : PySem.W.Frag} {tg : Expr} (a it : Addr) (n : Nat) : Turn P w K tg (Itw K a n) [it] it (fun i h => IsRvt h it a ((n : Int) - 1 - (i : Int))) where
  mem := by simp
  obj := fun i h st b hb => by
    have eb : b = it := by simpa using hb
    subst eb
    obtain ⟨o, e1, e2, e3⟩ := st
    exact ⟨o, e1, fun v z => by rw [e3] at z; cases z⟩
  keep := fun i h h' st k => st.at fun o e => k it (by simp) o e
  item := by
    intro X hP hw hK hc i pins s σ H E I hf st hg
    subst hP hw hK
    obtain ⟨hi, xs, hq, hn⟩ := hg
    obtain ⟨its, rv, p, hz⟩ := I.tuple hq
    have hl := rv.length
    have ln := line63
    have hx : xs[n - 1 - i]? = some (xs[n - 1 - i]'(by omega)) := List.getElem?_eq_getElem _
    obtain ⟨u, hu, ru⟩ := rv.get hx
    obtain ⟨f0, f1, f2, f3, f4, f5⟩ := hf it (by simp)
    have e1 : ((n : Int) - 1 - (i : Int)) = ((n - 1 - i : Nat) : Int) := by omega
    rw [e1] at st
    refine rvt_item st p (x := u) (by simpa using hu) (by rw [List.size_toArray]; omega) fun h' tk st' sb => ?_
    have I1 : Inv X pins σ H { s with heap := h', toks := tk } := I.turned (t' := tk) (fun b o hb e => (sb.2 b hb).trans e) f0 f1 f3 f4 f5
    have e2 : ((n - 1 - i : Nat) : Int) - 1 = (n : Int) - 1 - ((i + 1 : Nat) : Int) := by omega
    rw [e2] at st'
    obtain ⟨o, g1, g2, g3⟩ := id st'
    exact ⟨u, rfl, go_of (s := { s with heap := h', toks := tk }) g1 g2 g3 (by decide) ⟨_, H, I1, ru, ⟨rfl, fun ys hy => by rw [I.tuple_inj hy hq]; exact hx⟩, st', fun b hb => (hf b hb).1⟩⟩
  done := by
    intro X hP hw hK hc i pins s σ H E I hf st hg
    subst hP hw hK
    have hg' : i = n := hg
    subst hg'
    obtain ⟨f0, f1, f2, f3, f4, f5⟩ := hf it (by simp)
    have e1 : ((i : Int) - 1 - (i : Int)) = -1 := by omega
    rw [e1] at st
    exact rvt_end (I.ok.hd hc) st fun h' eb => ⟨rfl, I.turned (t' := s.toks) (fun b o hb e => eb b o hb e) f0 f1 f3 f4 f5⟩
  self := fun _ _ _ _ _ st h => rvt_self st h
section
variable {X : Cx} {tg : Expr}
noncomputable def iRev2 (K : PySem.W.Frag) (ta : TA) : TI := fun σ H R => ta σ H fun vs H1 => ∃ a xs, vs = [.ref a] /\ ((SqL K H1 a xs /\ R (Itv K a xs.length) H1) \/ (SqT K H1 a xs /\ R (Itw K a xs.length) H1))
theorem pi_rev2 {a : Expr} {ta : TA} {p pos : Pos} (hg : Gl X "reversed") (hm : X.mg "reversed" = none) (ha : PA X [a] ta) (hs : starEach [a] X.env = [(false, eval a X.env)]) : PI X tg (.Call (.Name "reversed" p) [a] [] pos) (iRev2 X.K ta) := by
  intro pins s σ H R I h
  refine Call_ (ld_blt I hg hm boot_reversed (PyProof.Rows.callWith_type1 (thn (ha pos pins s σ H _ I h) fun us s1 ⟨vs, H1, I1, r1, q1⟩ => ?_) hs rfl))
  obtain ⟨b, xs, e, hq⟩ := q1
  subst e
  cases r1 with
  | cons r rr =>
    cases rr
    cases r
    rcases hq with ⟨hq, q⟩ | ⟨hq, q⟩
    · obtain ⟨its, rv, pl, hz⟩ := I1.list hq
      refine call_reversed_list pl.isList ?_
      have hl : (its.toArray.size : Int) = (xs.length : Int) := by rw [List.size_toArray, rv.length]
      have it0 : (s1.heap.push (revObj b ((its.toArray.size : Int) - 1))).IsRevIter s1.heap.objs.size b ((xs.length : Int) - 1 - ((0 : Nat) : Int)) := ⟨_, Heap.get?_push_size _ rfl, rfl, by rw [hl]; simp [revObj]⟩
      refine wpAny_pyIter_revIter (s := { s1 with heap := s1.heap.push (revObj b ((its.toArray.size : Int) - 1)) }) it0 ?_
      refine ⟨s1.heap.objs.size, [s1.heap.objs.size], _, _, H1, rfl, I1.kept (t' := s1.toks) fun b' o e => Heap.get?_push_of_some _ e, turn_rev b _ xs.length, it0, fun b' hb => ?_, q⟩
      have e : b' = s1.heap.objs.size := by simpa using hb
      subst e
      exact I1.fpOk (Nat.le_refl _) (I1.hok.fresh (Nat.le_refl _))
    · obtain ⟨its, rv, pl, hz⟩ := I1.tuple hq
      have ln := line63
      have hl : (its.toArray.size : Int) = (xs.length : Int) := by rw [List.size_toArray, rv.length]
      refine call_rvt pl (by have := rv.length; rw [List.size_toArray]; omega) fun tk => ?_
      have it0 : IsRvt (s1.heap.push (rvtObj b ((its.toArray.size : Int) - 1))) s1.heap.objs.size b ((xs.length : Int) - 1 - ((0 : Nat) : Int)) := ⟨_, Heap.get?_push_size _ rfl, rfl, by rw [hl]; simp [rvtObj]⟩
      refine rvt_self (s := { s1 with heap := s1.heap.push (rvtObj b ((its.toArray.size : Int) - 1)), toks := tk }) it0 ?_
      refine ⟨s1.heap.objs.size, [s1.heap.objs.size], _, _, H1, rfl, I1.kept (t' := tk) fun b' o e => Heap.get?_push_of_some _ e, turn_rvt b _ xs.length, it0, fun b' hb => ?_, q⟩
      have e : b' = s1.heap.objs.size := by simpa using hb
      subst e
      exact I1.fpOk (Nat.le_refl _) (I1.hok.fresh (Nat.le_refl _))
end
end L2
set_option Elab.async false
set_option linter.all false
set_option maxRecDepth 100000
namespace L2
open PySem PySem.Spec PyProof.Rows
open HT in
theorem tup_all {prog : Program} {w : World} {A : Around} {E : Value -> Shared -> Prop} {s : Shared} {t sl : Addr} {items : Array Value} {vl vu : Value} {lo hi : Option Int} {Q : Value -> Shared -> Prop} (ht : IsTup s.heap t items) (hs : s.heap.IsSliceOf sl vl vu .none) (pl : IsPart vl lo) (pu : IsPart vu hi)
    (h1 : sIx items.size 0 lo = 0) (h2 : sIx items.size items.size hi = items.size) (h : Q (.ref t) s) : wpAny (model prog w) A (getItem (.ref t) (.ref sl)) Q E s := by
  obtain ⟨os, hos, hcs, hds⟩ := id hs
  have hTs : s.TypeIs (.ref sl) "slice" := ⟨os, hos, hcs⟩
  unfold getItem
  try with_reducible refine wpAny_holding ?_
  first | refine wpAny_bind (wpAny_pure ?_) | skip
  refine wpAny_bind (wpAny_sequenceKey ht.typeIs (by decide) ?_)
  refine wpAny_bind (wpAny_callSpecial?_slot (name := Str.ofString "__getitem__") ht.typeIs PyProof.Rows.slot_tuple_getitem (wpAny_call_entry PyProof.Rows.slot_tuple_getitem ht.typeIs entry_tuple_getitem ?_ (args_tuple_getitem _ _)))
  show wpAny _ _ (Builtin.Tuple.tupleItemsOf (.ref t) >>= _) _ _ s
  refine wpAny_bind (tupleItemsOf_ ht ?_)
  refine wpAny_bind (wpAny_typeOf hTs ?_)
  rw [if_pos (by decide)]
  refine wpAny_bind (sliceApplied_gen hs pl pu ?_)
  have hy : (((sIx items.size 0 lo : Nat) : Int) == 0 && (1 : Int) == 1 && (sIx items.size items.size hi - sIx items.size 0 lo) == items.size) = true := by rw [h1, h2]; simp
  show wpAny _ _ (if (((sIx items.size 0 lo : Nat) : Int) == 0 && (1 : Int) == 1 && (sIx items.size items.size hi - sIx items.size 0 lo) == items.size) = true then _ else _) _ _ s
  rw [if_pos hy]
  refine wpAny_bind ?_
  unfold Builtin.Tuple.tupleIsExact
  refine wpAny_bind (wpAny_typeOf ht.typeIs (wpAny_pure ?_))
  rw [if_pos (by decide)]
  refine wpAny_bind (wpAny_rule ?_)
  exact wpAny_pure ⟨_, rfl, wpAny_pure h⟩
noncomputable def rSlW (K : PySem.W.Frag) : V -> Option Int -> Option Int -> Hp -> VK -> Prop := fun x lo hi H Q => ∃ a xs, x = .ref a /\ SqT K H a xs /\ HT.sIx xs.length 0 lo = 0 /\ HT.sIx xs.length xs.length hi = xs.length /\ Q (.ref a) H
theorem sl_tupW {X : Cx} : SlR X (rSlW X.K) := by
  intro pins s σ H x v vl vu lo hi sl Q I rx hs pl pu h
  obtain ⟨a, xs, rfl, hx, w1, w2, q⟩ := h
  cases rx
  obtain ⟨its, r, ht, hz⟩ := I.tuple hx
  have hlen : its.toArray.size = xs.length := by rw [List.size_toArray]; exact r.length.symm
  exact ⟨"tuple", _, PyProof.Rows.slot_tuple_getitem.lookup, ht.typeIs, tup_all ht hs pl pu (by rw [hlen]; exact w1) (by rw [hlen]; exact w2) ⟨.ref a, H, I, rfl, q⟩⟩
end L2
set_option Elab.async false
set_option linter.all false
set_option maxRecDepth 100000
namespace L2
open PySem PySem.Spec PyProof.Rows
theorem entry_dict_update_loop : entryFor table "dict.update.loop" = some Builtin.«dict.update.loop» := entryFor_of_tree (by kernel_rfl)
theorem plain_dict_update_loop : plainId "dict.update.loop" = true := by decide +kernel
theorem list_nokeys : typeLookup (.type "list") "keys" = pure none := by rw [typeLookup_type, builtinLookup_eq_fast]; kernel_rfl
section
variable {prog : Program} {w : World} {A : Around} {E : Value -> Shared -> Prop} {s : Shared}
theorem getAttr?_keys {a : Addr} {xs : Array Value} {k : Nat} {sl : Array (Option Value)} {Q : Option Value -> Shared -> Prop} (hx : s.heap.get? a = some { cls := .type "list", dict := none, data := .seq xs k, slots := sl }) (hA : A.handled = none)
    (h : ∀ h' tk, (∀ b ob, s.heap.get? b = some ob -> h'.get? b = some ob) -> Q none { s with heap := h', toks := tk }) :
    wpAny (model prog w) A (getAttr? (.ref a) "keys") Q E s := by
  obtain ⟨hp, g, d, tk, os⟩ := s
  have hT : ∀ tk', (⟨hp, g, d, tk', os⟩ : Shared).TypeIs (.ref a) "list" := fun _ => ⟨_, hx, rfl⟩
  have f1 := sub_AttributeError
  have f3 := F.slot_list_getattribute.lookup
  have f4 := F.slot_list_getattribute.bind (.ref a)
  have f5 := am_list_getattr_none
  have hname : (["__module__", "__name__", "__qualname__", "__doc__", "__annotations__"] : List Str).contains "keys" = false := by decide +kernel
  have hsz : (Str.ofString "keys").length + 100 <= sizeLine := by decide +kernel
  unfold getAttr? getAttrBy? getAttrBy
  repeat (any_goals (first | assumption | exact hT _ | ((with_reducible show wpAny _ _ (call (Value.builtin "list.__getattribute__") _ _) _ _ _); refine call_meets F.slot_list_getattribute (hT _) am_entry_list_getattribute (F.args_list_getattribute_2 _ _) (meets_getattribute_miss_list a xs k sl "keys" _ list_nokeys hname hsz) ⟨hx, hA, fun h' tk' e hx' => ?_⟩) | wp_step))
  obtain ⟨t', u', he⟩ := hx'.there
  show wpAny _ _ (getattributeRaised _ _ _ _ _ _ _) _ _ _
  unfold getattributeRaised
  repeat (any_goals (first | assumption | wp_step))
  exact h _ _ hx'.keeps
end
section
variable {prog : Program} {w : World} {A : Around} {R : Result -> Shared -> Prop} {I : Addr} {fp wr : List Addr} {G : Array GenState -> Array GenState -> Prop} {n : Nat} {P : Nat -> Value -> Prop} {St : Nat -> Shared -> Prop} {K : Type} [DecidableEq K] {knd : KeyKind prog w K}
noncomputable def Two (h : Heap) (a : Addr) (x y : Value) : Prop := ∃ o n, h.get? a = some o /\ o.cls = .type "tuple" /\ o.data = .seq #[x, y] n
theorem merged_len (kvs : List (K × Value)) : ∀ (more : List (K × Value)), (merged kvs more).length <= kvs.length + more.length := by
  intro more
  induction more generalizing kvs with
  | nil => exact Nat.le_refl _
  | cons p r ih =>
    have h1 := ih (stored kvs p.1 p.2)
    have h2 : (stored kvs p.1 p.2).length <= kvs.length + 1 := by
      unfold stored
      split
      · rw [List.length_map]; exact Nat.le_succ _
      · rw [List.length_append]; exact Nat.le_refl _
    show (merged (stored kvs p.1 p.2) r).length <= _
    rw [List.length_cons]; omega
theorem dict_loop (W : WalksS prog w A.in1 I fp wr G n P St) (D : Addr) (hDf : D ∉ fp) (more : List (K × Value)) (hn : n <= 1000000) (hml : more.length = n) (s₀ : Shared)
    (hval : ∀ (i : Nat) (v : Value), P i v -> ∃ a kv vv k, v = .ref a /\ a ∉ D :: wr /\ Two s₀.heap a kv vv /\ more[i]? = some (k, vv) /\ knd.is k kv = true) :
    ∀ (k i : Nat) (s : Shared) (ti : Tok), n - i = k -> i <= n -> St i s -> Moved (D :: wr) G s₀ s -> s.heap.DictOf knd D (merged [] (more.take i)) ->
      (∀ s', Moved (D :: wr) G s₀ s' -> s'.heap.DictOf knd D (merged [] more) -> R (.ok (.ret .none)) s') ->
      codeAny (model prog w) A (.builtin "dict.update.loop" ⟨[.ref D, .ref I, .int (i : Nat) ti, .none], []⟩) R s := by
  have hDw : D ∉ wr := fun h => hDf (W.sub _ h)
  have hsub : ∀ b ∈ wr, b ∈ D :: wr := fun b hb => List.mem_cons_of_mem _ hb
  intro k
  induction k with
  | zero =>
    intro i s ti hk hi hst mv hS hR
    have hin : i = n := by omega
    subst hin
    refine codeAny_builtin entry_dict_update_loop ?_
    rw [Around.under_plainId plain_dict_update_loop _]
    show wpAny _ A.in1 (pyNext (.ref I) >>= _) _ _ s
    refine wpAny_bind (W.done s _ _ hst fun s' hm => ?_)
    show wpAny _ A.in1 (Builtin.Dict.addKeywords D [] >>= fun _ => ret Value.none) _ _ s'
    refine wpAny_bind (wpAny_pure (wpAny_pure (hR s' (mv.trans W.gtrans (hm.mono hsub)) ?_)))
    rw [<- hml, List.take_length] at hS
    obtain ⟨o, es, ep, ho, r⟩ := hS
    exact ⟨o, es, ep, hm.heap D _ hDw ho, r⟩
  | succ k ih =>
    intro i s ti hk hi hst mv hS hR
    have hlt : i < n := by omega
    refine codeAny_builtin entry_dict_update_loop ?_
    rw [Around.under_plainId plain_dict_update_loop _]
    show wpAny _ A.in1 (pyNext (.ref I) >>= _) _ _ s
    refine wpAny_bind (W.item i s _ _ hlt hst fun v s' hP hst' hm => ?_)
    obtain ⟨a, kv, vv, kk, rfl, ha, ⟨o, n', ho, hoc, hod⟩, hmi, hkk⟩ := hval i v hP
    have mv' := mv.trans W.gtrans (hm.mono hsub)
    have ho' := mv'.heap a o ha ho
    have hS' : s'.heap.DictOf knd D (merged [] (more.take i)) := by
      obtain ⟨o, es, ep, ho, r⟩ := hS
      exact ⟨o, es, ep, hm.heap D _ hDw ho, r⟩
    have hT : s'.TypeIs (.ref a) "tuple" := ⟨_, ho', hoc⟩
    refine wpAny_bind (wpAny_holding ?_)
    have pr : ∀ {Q : List Value -> Shared -> Prop} {E : Value -> Shared -> Prop}, Q [kv, vv] s' -> wpAny (model prog w) A.in1 (Builtin.Dict.pairItems (.ref a)) Q E s' := fun {Q E} q => by
      unfold Builtin.Dict.pairItems
      refine wpAny_bind (wpAny_typeOf hT ?_)
      rw [if_pos (by decide)]
      exact wpAny_bind (wpAny_seqItems ho' hod (wpAny_pure q))
    refine wpAny_bind (wpAny_tryCatch (pr ?_))
    show wpAny _ A.in1 (holding [kv, vv] (dictSet D kv vv)) _ _ s'
    refine wpAny_holding (wpAny_dictSet_pairs hkk hS' (fun h' hd' hsb => ?_) ?_)
    · refine wpAny_pure ⟨plainId_quiet plain_dict_update_loop _, ?_⟩
      have e : ((i : Int) + 1) = ((i + 1 : Nat) : Int) := rfl
      show codeAny _ A (.builtin "dict.update.loop" ⟨[.ref D, .ref I, .int ((i : Int) + 1) 0, .none], []⟩) R _
      rw [e]
      refine ih (i + 1) _ 0 (by omega) hlt (W.frame _ s' _ _ hst' (Nat.le_succ _) fun b hb o e => ?_) (mv'.then_heap (Nat.le_succ _) fun b o hb e => ?_) ?_ hR
      · exact (hsb.2 b (fun h : b = D => hDf (h ▸ hb))).trans e
      · exact (hsb.2 b (fun h : b = D => hb (h ▸ List.mem_cons_self))).trans e
      · rw [merged_take_succ _ _ _ _ hmi]; exact hd'
    · have h1 := merged_len ([] : List (K × Value)) (more.take i)
      rw [List.length_nil, List.length_take] at h1
      rw [sizeLine_eq]; omega
end
section
variable {prog : Program} {w : World} {A : Around} {E : Value -> Shared -> Prop} {s : Shared} {K : Type} [DecidableEq K] {knd : KeyKind prog w K}
theorem call_dict_pairs {l : Addr} {items : Array Value} {c : Nat} {sl : Array (Option Value)} {more : List (K × Value)} {Q : Value -> Shared -> Prop} (hh : A.handled = none) (hl : s.heap.get? l = some { cls := .type "list", dict := none, data := .seq items c, slots := sl }) (hn : items.size <= 1000000) (hml : more.length = items.size)
    (hval : ∀ (i : Nat) (v : Value), items[i]? = some v -> ∃ a kv vv k, v = .ref a /\ Two s.heap a kv vv /\ more[i]? = some (k, vv) /\ knd.is k kv = true)
    (h : ∀ h' tk, h'.DictOf knd s.heap.objs.size (merged [] more) -> (∀ b o, s.heap.get? b = some o -> h'.get? b = some o) -> Q (.ref s.heap.objs.size) { s with heap := h', toks := tk }) :
    wpAny (model prog w) A (call (.type "dict") [.ref l]) Q E s := by
  refine callType_codes (Q₁ := fun obj s₁ => obj = .ref s.heap.objs.size /\ s₁ = { s with heap := s.heap.push { cls := .type "dict", data := .dict #[] } }) F.kt_called_dict (F.kt_typeCall_dict_1 _) F.entry_dict_init (kt_code_dict_new _ ⟨rfl, rfl⟩) ?_
  rintro obj s₁ ⟨rfl, rfl⟩
  have hnew : (s.heap.push { cls := .type "dict", data := .dict #[] }).DictOf knd s.heap.objs.size [] := Heap.DictOf.new s.heap
  have hl1 : (s.heap.push { cls := .type "dict", data := .dict #[] }).get? l = some { cls := .type "list", dict := none, data := .seq items c, slots := sl } := Heap.get?_push_of_some _ hl
  have hT : Shared.TypeIs { s with heap := s.heap.push { cls := .type "dict", data := .dict #[] } } (.ref l) "list" := ⟨_, hl1, rfl⟩
  refine ⟨hnew.typeIs, F.args_dict_init_2 _ _, ?_⟩
  unfold Builtin.«dict.__init__»
  refine wpAny_bind ?_
  unfold Builtin.Dict.selfAndRest
  refine wpAny_bind (wpAny_notOrdered_dict hnew.typeIs ?_)
  show wpAny _ _ (pure (s.heap.objs.size, [Value.ref l])) _ _ _
  refine wpAny_pure ?_
  show wpAny _ _ (Builtin.Dict.updateFrom "dict.__init__" s.heap.objs.size (.ref l) [] .none) _ _ _
  unfold Builtin.Dict.updateFrom
  refine wpAny_bind (wpAny_typeOf hT ?_)
  rw [if_pos (by decide)]
  refine wpAny_bind (getAttr?_keys hl1 hh fun h1 t1 k1 => ?_)
  rw [if_pos (by decide)]
  refine wpAny_bind (wpAny_rule ?_)
  have hl2 : h1.IsList l items := ⟨_, k1 _ _ hl1, rfl, c, rfl⟩
  refine wpAny_bind (wpAny_pyIter_list hl2 ?_)
  have hlt : l < s.heap.objs.size := Heap.lt_size hl
  have sz1 : s.heap.objs.size < h1.objs.size := by
    obtain ⟨o, _, _, e, _⟩ := hnew
    exact Heap.lt_size (k1 _ _ e)
  have hne : l ≠ h1.objs.size := Nat.ne_of_lt (Nat.lt_trans hlt sz1)
  have old : ∀ b o, s.heap.get? b = some o -> h1.get? b = some o := fun b o e => k1 b o (Heap.get?_push_of_some _ e)
  refine wpAny_pure ⟨plainId_quiet plain_dict_update_loop _, ?_⟩
  have hDf : s.heap.objs.size ∉ [h1.objs.size, l] := by
    simp only [List.mem_cons, List.mem_singleton, List.not_mem_nil, or_false, not_or]
    exact ⟨Nat.ne_of_lt sz1, Nat.ne_of_gt hlt⟩
  refine dict_loop (knd := knd) ((Walks.list (prog := prog) (w := w) (A := A.in1.in1) hh h1.objs.size l hne items).toS) s.heap.objs.size hDf more hn hml _ (fun i v hv => ?_) items.size 0 _ 0 (by omega) (Nat.zero_le _) ⟨⟨_, Heap.get?_push_size _ rfl, rfl, rfl⟩, hl2.push _⟩ (Moved.refl fun _ => rfl) ?_ fun s' mv hd => ?_
  · obtain ⟨a, kv, vv, k, e, ⟨o, n', e1, e2, e3⟩, e4, e5⟩ := hval i v hv
    have hla := Heap.lt_size e1
    refine ⟨a, kv, vv, k, e, ?_, ⟨o, n', Heap.get?_push_of_some _ (old a o e1), e2, e3⟩, e4, e5⟩
    simp only [List.mem_cons, List.mem_singleton, List.not_mem_nil, or_false, not_or]
    exact ⟨Nat.ne_of_lt hla, Nat.ne_of_lt (Nat.lt_trans hla sz1)⟩
  · obtain ⟨o, es, ep, ho, r⟩ := hnew
    exact ⟨o, es, ep, Heap.get?_push_of_some _ (k1 _ _ ho), r⟩
  · obtain ⟨h', g', d', tk', os'⟩ := s'
    have eg : g' = s.gens := mv.gens
    have ed : d' = s.drawn := mv.drawn
    have eo : os' = s.os := mv.os
    subst eg; subst ed; subst eo
    refine ⟨rfl, h h' tk' hd fun b o e => mv.heap b o ?_ (Heap.get?_push_of_some _ (old b o e))⟩
    have hb := Heap.lt_size e
    simp only [List.mem_cons, List.mem_singleton, List.not_mem_nil, or_false, not_or]
    exact ⟨Nat.ne_of_lt hb, Nat.ne_of_lt (Nat.lt_trans hb sz1)⟩
end
section
variable {X : Cx}
theorem pairs_in {pins : List (Addr × Obj)} {σ : St} {H : Hp} {s : Shared} (I : Inv X pins σ H s) : ∀ {ys : List V} {kvs : List (Key × V)} {its : List Value}, Paired (fun (x : V) (kv : Key × V) => ∃ a, x = .ref a /\ SqT X.K H a [kV kv.1, kv.2]) ys kvs -> Vals ys its ->
    ∃ more : List (Key × Value), KV kvs more /\ more.length = its.length /\ ∀ (i : Nat) (v : Value), its[i]? = some v -> ∃ a kv vv k, v = .ref a /\ Two s.heap a kv vv /\ more[i]? = some (k, vv) /\ (mixKind X.prog X.w).is k kv = true
  | _, _, _, .nil, .nil => ⟨[], .nil, rfl, fun i v h => by simp at h⟩
  | _, _, _, @Paired.cons _ _ _ x kv ys kvs h t, .cons (b := u) (l₂ := us) r rr => by
    obtain ⟨more, m1, m2, m3⟩ := pairs_in I t rr
    obtain ⟨a, rfl, q⟩ := h
    have ru : u = .ref a := r
    subst ru
    obtain ⟨its2, r2, ⟨o, e1, e2, n, e3⟩, _⟩ := I.tuple q
    cases r2 with
    | @cons _ kvv _ _ ra rt =>
      cases rt with
      | @cons _ vv _ _ rb rn =>
        cases rn
        refine ⟨(kv.1, vv) :: more, .cons ⟨rfl, rb⟩ m1, by rw [List.length_cons, List.length_cons, m2], fun i v hv => ?_⟩
        cases i with
        | zero =>
          have : v = .ref a := by simpa using hv.symm
          subst this
          exact ⟨a, kvv, vv, kv.1, rfl, ⟨o, n, e1, e2, e3⟩, rfl, kV_is ra⟩
        | succ i => exact m3 i v (by simpa using hv)
noncomputable def rDP (K : PySem.W.Frag) : List V -> Hp -> VK -> Prop := fun xs H Q => ∃ p ys kvs, xs = [.ref p] /\ SqL K H p ys /\ ys.length <= 1000000 /\ Paired (fun (x : V) (kv : Key × V) => ∃ a, x = .ref a /\ SqT K H a [kV kv.1, kv.2]) ys kvs /\ ∀ l, H l = none -> Q (.ref l) (upd H l (.dK (mergeK [] kvs)))
theorem call_dictP (hc : X.calm = true) : CallR X (.type "dict") (rDP X.K) := by
  rintro pins s σ H xs us Q I r ⟨p, ys, kvs, rfl, hl, hn, hp, q⟩
  cases r with
  | cons r rr =>
    cases rr
    cases r
    obtain ⟨its, rv, ⟨o, n, e1, e2, e3, e4⟩, hz⟩ := I.list hl
    obtain ⟨c, dct, dat, sl⟩ := o
    simp only at e2 e3 e4
    subst e2 e3 e4
    obtain ⟨more, m1, m2, m3⟩ := pairs_in I hp rv
    have hle := rv.length
    have hkl : kvs.length = ys.length := hp.length.symm
    refine call_dict_pairs (knd := mixKind X.prog X.w) (more := more) (I.ok.hd hc) e1 (by simp only [List.size_toArray]; omega) (by simp only [List.size_toArray]; exact m2) (fun i v hv => m3 i v (by simpa using hv)) fun h' tk dd old => ?_
    have hz : (mergeK [] kvs).length <= sizeLine := by
      have h1 := length_mergeK kvs []
      rw [List.length_nil] at h1
      rw [sizeLine_eq]; omega
    exact ⟨.ref _, _, I.laid (t' := tk) old (Nat.le_refl _) (dk_new hz (beq_eq_false_iff_ne.mpr (Ne.symm (Nat.ne_of_lt I.big))) (m1.merge .nil) dd), rfl, q _ (I.hok.fresh (Nat.le_refl _))⟩
end
section
variable {prog : Program} {w : World} {A : Around} {E : Value -> Shared -> Prop} {s : Shared}
theorem draw_list {it t : Addr} {items : Array Value} (hne : t ≠ it) : ∀ (n i : Nat) (s : Shared) (Q : List Value -> Shared -> Prop), s.heap.IsListIter it t i -> s.heap.IsList t items -> i + n <= items.size ->
    (∀ h', h'.IsListIter it t (i + n) -> Heap.SameBut it s.heap h' -> Q ((items.toList.drop i).take n) { s with heap := h' }) -> wpAny (model prog w) A (draw (.ref it) n) Q E s
  | 0, i, s, Q, hit, _, _, hQ => by
    show wpAny _ _ (pure []) Q E s
    exact wpAny_pure (by simpa using hQ s.heap hit (Heap.SameBut.refl ..))
  | n + 1, i, s, Q, hit, ht, hle, hQ => by
    have hlt : i < items.size := by omega
    show wpAny _ _ (pyNext (.ref it) >>= _) Q E s
    refine wpAny_bind (wpAny_pyNext_list_item hit ht (x := items[i]) (by simp [hlt]) fun h₁ hit₁ hs₁ => ?_)
    refine wpAny_bind (wpAny_holding (draw_list hne n (i + 1) _ _ hit₁ (ht.extBut hs₁.extBut hne) (by omega) fun h₂ hit₂ hs₂ => wpAny_pure ?_))
    have hd : items.toList.drop i = items[i] :: items.toList.drop (i + 1) := by simp [List.drop_eq_getElem_cons, hlt]
    have := hQ h₂ (by rw [show i + (n + 1) = i + 1 + n by omega]; exact hit₂) (hs₁.trans hs₂)
    rw [hd, List.take_succ_cons] at this
    exact this
theorem unpackItems_list {t : Addr} {items : Array Value} {Q : List Value -> Shared -> Prop} (hh : A.handled = none) (ht : s.heap.IsList t items)
    (hQ : ∀ h', Heap.ExtBut s.heap.objs.size s.heap h' -> Q items.toList { s with heap := h' }) : wpAny (model prog w) A (unpackItems (.ref t) items.size none) Q E s := by
  have hlt : t ≠ s.heap.objs.size := by obtain ⟨o, ho, _⟩ := ht; exact Nat.ne_of_lt (Heap.lt_size ho)
  unfold unpackItems
  refine wpAny_bind ?_
  unfold notIterableAtAll
  refine wpAny_bind (wpAny_specialOf ht.typeIs slot_list_iter.lookup ?_)
  refine wpAny_pure ?_
  simp only [Bool.false_eq_true, if_false]
  refine wpAny_bind (wpAny_holding (wpAny_pyIter_list ht ?_))
  refine wpAny_bind (wpAny_holding (draw_list hlt items.size 0 _ _ ⟨_, Heap.get?_push_size _ rfl, rfl, rfl⟩ (ht.push _) (by omega) fun h₁ hit₁ hs₁ => ?_))
  have hall : List.take items.size (List.drop 0 items.toList) = items.toList := by
    rw [List.drop_zero]; exact List.take_of_length_le (by simp)
  rw [hall]
  rw [if_neg (by simp)]
  have ht₁ : h₁.IsList t items := (ht.push _).extBut hs₁.extBut hlt
  refine wpAny_bind (wpAny_holding (wpAny_pyNext_list_end hh hit₁ ht₁ (by simp) fun h₂ he₂ => ?_))
  simp only [Option.isSome_none, Bool.false_eq_true, if_false]
  exact wpAny_pure (hQ h₂ fun b o hb e => he₂ b o hb (hs₁.extBut b o hb (Heap.get?_push_of_some _ e)))
theorem assign_Tuple_list {env : Env} {elts : List Expr} {x1} {pos : Pos} {t : Addr} {items : Array Value} {Q : Unit -> Shared -> Prop} (hh : A.handled = none) (ht : s.heap.IsList t items)
    (hn : (assignEach elts env).length = items.size) (hstar : (assignEach elts env).findIdx? (·.1) = none)
    (h : ∀ h', Heap.ExtBut s.heap.objs.size s.heap h' -> wpAny (model prog w) A (assignInOrder ((assignEach elts env).map (·.2)) items.toList) Q E { s with heap := h' }) :
    wpAny (model prog w) A (assign (.Tuple elts x1 pos) env (.ref t)) Q E s := by
  rw [arm_assign_Tuple]
  refine wpAny_bind (wpAny_standAt ?_)
  unfold unpack
  rw [hn, hstar]
  exact wpAny_bind (wpAny_holding (unpackItems_list hh ht h))
end
section
variable {X : Cx} {pos : Pos}
noncomputable def gTL (K : PySem.W.Frag) (n : Nat) (t : TGs) : TG := fun v σ H Q => ∃ a xs, v = .ref a /\ (SqT K H a xs \/ SqL K H a xs) /\ xs.length = n /\ t xs σ H Q
theorem pg_tupL {es : List Expr} {k : Nat} {t : TGs} {n : Nat} (hc : X.calm = true) (h : PGs X es t)
    (hn : (assignEach es X.env).length = n := by rfl) (hst : (assignEach es X.env).findIdx? (·.1) = none := by rfl) : PG X (.Tuple es k pos) (gTL X.K n t) := by
  intro pins s σ H v u Q I r hw
  obtain ⟨a, xs, e1, hq, hl, hw⟩ := hw
  subst e1
  rcases hq with hq | hq
  · exact pg_tup hc h hn hst pins s σ H _ u Q I r ⟨a, xs, rfl, hq, hl, hw⟩
  cases r
  obtain ⟨its, rv, ⟨o, c, e1, e2, e3, e4⟩, hz⟩ := I.list hq
  refine assign_Tuple_list (I.ok.hd hc) (items := its.toArray) ⟨o, e1, e2, c, e4⟩ (by simp [hn, <- hl, rv.length]) hst fun h' hx => ?_
  have I1 : Inv X pins σ H { s with heap := h' } := I.kept (t' := s.toks) fun b o e => hx b o (Nat.ne_of_lt (Heap.lt_size e)) e
  exact h pins _ σ H xs _ Q I1 (by simpa using rv) hw
end
end L2
set_option Elab.async false
set_option linter.all false
set_option maxRecDepth 100000
namespace L2
open PySem PySem.Spec PyProof.Rows
section
variable {X : Cx}
theorem ps_tryN {body : List Stmt} {h₀ : ExceptHandler} {hs : List ExceptHandler} {pos : Pos} {Z : ZK} {tb : ZK -> TS} (th : Thr X Z)
    (hb : ∀ pins xe Zh, Thr (tryCx X pins xe) Zh -> PSs (tryCx X pins xe) body (tb Zh)) : PS X (.Try body (h₀ :: hs) [] [] pos) (fun En σ H => tb (fun _ _ _ => False) En σ H) := by
  intro pins s σ H En I h
  refine wpAny_Try_except ?_
  generalize hEh : (fun (e : Value) (s₁ : Shared) => wpAny (model X.prog X.w) X.A (noteFrame e X.env) (fun _ s₂ => wpAny (model X.prog X.w) X.A (setFlight e none) (fun _ s₃ => wpAny (model X.prog X.w) X.A (handleBy e X.env (h₀ :: hs)) (SP X pins En) X.xe s₃) X.xe s₂) X.xe s₁) = Eh
  have ok1 : XOk (tryCx X pins Eh) := ⟨th.top, fun b hb => let ⟨o, q⟩ := th.ex b hb; ⟨o, List.mem_append_left _ q⟩⟩
  have th1 : Thr (tryCx X pins Eh) (fun _ _ _ => False) := by
    refine ⟨ok1, ?_⟩
    rintro e s1 ⟨a, C, T, σ', H', rfl, I', F', z⟩
    exact z.elim
  refine wpAny_mono (hb pins Eh _ th1 [] s σ H En I.toTry h) (fun f s1 h1 => ?_) fun _ _ z => z
  cases f with
  | next => obtain ⟨σ5, H5, I5, q⟩ := h1; exact wpAny_execs_nil ⟨σ5, H5, I5.ofTry, q⟩
  | brk => obtain ⟨σ5, H5, I5, q⟩ := h1; exact ⟨σ5, H5, I5.ofTry, q⟩
  | cont => obtain ⟨σ5, H5, I5, q⟩ := h1; exact ⟨σ5, H5, I5.ofTry, q⟩
  | ret v => obtain ⟨v', σ5, H5, I5, r, q⟩ := h1; exact ⟨v', σ5, H5, I5.ofTry, r, q⟩
end
section
variable {prog : Program} {w : World} {A : Around} {E : Value -> Shared -> Prop} {s : Shared}
open HT in
theorem sliceApplied_rev {sl : Addr} {t : Tok} {n : Nat} {Q : Int × Int × Nat -> Shared -> Prop} (hs : s.heap.IsSliceOf sl .none .none (.int (-1) t)) (h : Q ((n : Int) - 1, -1, n) s) : wpAny (model prog w) A (Builtin.Slice.sliceApplied (.ref sl) (pure (n : Int))) Q E s := by
  obtain ⟨os, hos, hcs, hds⟩ := id hs
  unfold Builtin.Slice.sliceApplied Builtin.Slice.sliceFields
  refine wpAny_bind (wpAny_bind (wpAny_field hos hds (x := .none) rfl (wpAny_bind (wpAny_field hos hds (x := .none) rfl (wpAny_bind (wpAny_field hos hds (x := .int (-1) t) rfl (wpAny_pure ?_)))))))
  refine wpAny_bind (slicePart_int ?_)
  show wpAny _ _ (if ((-1 : Int) == 0) = true then _ else _) _ _ s
  rw [if_neg (by decide)]
  refine wpAny_bind (slicePart_none (wpAny_bind (slicePart_none (wpAny_bind (wpAny_pure ?_)))))
  show wpAny _ _ (pure ((n : Int) - 1, (-1 : Int), Builtin.Slice.slicePlaces ((n : Int) - 1) (-1) (-1))) _ _ s
  have e : Builtin.Slice.slicePlaces ((n : Int) - 1) (-1) (-1) = n := by
    unfold Builtin.Slice.slicePlaces
    rw [if_neg (by decide)]
    split
    · have : ((n : Int) - 1 - -1 - 1) / (- -1) = (n : Int) - 1 := by
        rw [show (- -1 : Int) = 1 by decide, Int.ediv_one]; omega
      rw [this]; omega
    · omega
  rw [e]
  exact wpAny_pure h
theorem fm_congr {α β : Type} {f g : α -> Option β} : ∀ (l : List α), (∀ x ∈ l, f x = g x) -> l.filterMap f = l.filterMap g
  | [], _ => rfl
  | x :: r, h => by rw [List.filterMap_cons, List.filterMap_cons, h x (List.mem_cons_self ..), fm_congr r fun y hy => h y (List.mem_cons_of_mem _ hy)]
theorem pick_rev (xs : Array Value) : ((List.range xs.size).filterMap fun (m : Nat) => xs[(((xs.size : Nat) : Int) - 1 + (m : Int) * (-1)).toNat]?).toArray = xs.toList.reverse.toArray := by
  congr 1
  have e : ∀ m ∈ List.range xs.size, xs[(((xs.size : Nat) : Int) - 1 + (m : Int) * (-1)).toNat]? = some (xs.toList.reverse.getD m .none) := by
    intro m hm
    have hm' := List.mem_range.mp hm
    have : (((xs.size : Nat) : Int) - 1 + (m : Int) * (-1)).toNat = xs.size - 1 - m := by omega
    rw [this, List.getD_eq_getElem?_getD, List.getElem?_reverse (by rw [Array.length_toList]; exact hm'), Array.length_toList]
    have hlt : xs.size - 1 - m < xs.size := by omega
    rw [Array.getElem?_eq_getElem hlt, List.getElem?_eq_getElem (by rw [Array.length_toList]; exact hlt)]
    simp
  have e2 : (List.range xs.size).filterMap (fun (m : Nat) => xs[(((xs.size : Nat) : Int) - 1 + (m : Int) * (-1)).toNat]?) = (List.range xs.size).map fun m => xs.toList.reverse.getD m .none := by
    rw [<- List.filterMap_eq_map]
    apply fm_congr
    intro m hm
    rw [e m hm]; rfl
  rw [e2]
  apply List.ext_getElem?
  intro i
  rw [List.getElem?_map]
  by_cases hi : i < xs.size
  · rw [List.getElem?_range hi]
    have : i < xs.toList.reverse.length := by rw [List.length_reverse, Array.length_toList]; exact hi
    rw [List.getElem?_eq_getElem this]
    simp [List.getD_eq_getElem?_getD, hi]
  · rw [List.getElem?_eq_none (by simp; omega), List.getElem?_eq_none (by simp; omega)]
    rfl
open HT in
theorem getItem_tuple_rev {t sl : Addr} {items : Array Value} {tk : Tok} {Q : Value -> Shared -> Prop} (ht : IsTup s.heap t items) (hs : s.heap.IsSliceOf sl .none .none (.int (-1) tk))
    (h : Q (.ref s.heap.objs.size) { s with heap := s.heap.push { cls := .type "tuple", data := .seq items.toList.reverse.toArray } }) (hsz : items.size <= sizeLine) : wpAny (model prog w) A (getItem (.ref t) (.ref sl)) Q E s := by
  have htake : sizeOk (.seq items.toList.reverse.toArray) := by
    show items.toList.reverse.toArray.size <= sizeLine
    rw [List.size_toArray, List.length_reverse, Array.length_toList]
    exact hsz
  obtain ⟨os, hos, hcs, hds⟩ := id hs
  have hTs : s.TypeIs (.ref sl) "slice" := ⟨os, hos, hcs⟩
  unfold getItem
  try with_reducible refine wpAny_holding ?_
  first | refine wpAny_bind (wpAny_pure ?_) | skip
  refine wpAny_bind (wpAny_sequenceKey ht.typeIs (by decide) ?_)
  refine wpAny_bind (wpAny_callSpecial?_slot (name := Str.ofString "__getitem__") ht.typeIs PyProof.Rows.slot_tuple_getitem
    (wpAny_call_entry PyProof.Rows.slot_tuple_getitem ht.typeIs entry_tuple_getitem ?_ (args_tuple_getitem _ _)))
  show wpAny _ _ (Builtin.Tuple.tupleItemsOf (.ref t) >>= _) _ _ s
  refine wpAny_bind (tupleItemsOf_ ht ?_)
  refine wpAny_bind (wpAny_typeOf hTs ?_)
  rw [if_pos (by decide)]
  refine wpAny_bind (sliceApplied_rev hs ?_)
  have hno : ¬ ((((items.size : Nat) : Int) - 1 == 0 && (-1 : Int) == 1 && items.size == items.size) = true) := by
    intro q
    rw [Bool.and_eq_true, Bool.and_eq_true] at q
    exact absurd q.1.2 (by decide)
  show wpAny _ _ (if (((items.size : Nat) : Int) - 1 == 0 && (-1 : Int) == 1 && items.size == items.size) = true then _ else _) _ _ s
  rw [if_neg hno, pick_rev]
  first
    | exact wpAny_bind (m := Builtin.Tuple.tupleExact _) (wpAny_newObj_type (wpAny_pure ⟨_, rfl, wpAny_pure h⟩) htake)
    | exact wpAny_bind (m := Builtin.Tuple.tupleExact _) (wpAny_newObj_type (wpAny_bind (wpAny_pure (wpAny_pure ⟨_, rfl, wpAny_pure h⟩))) htake)
    | exact wpAny_bind (wpAny_bind (m := Builtin.Tuple.tupleExact _) (wpAny_newObj_type (wpAny_pure (wpAny_pure ⟨_, rfl, wpAny_pure h⟩)) htake))
    | exact wpAny_bind (wpAny_bind (m := Builtin.Tuple.tupleExact _) (wpAny_newObj_type (wpAny_pure ⟨_, rfl, wpAny_pure h⟩) htake))
end
section
variable {X : Cx} {e st : Expr} {te ts : TE} {p2 pos : Pos}
noncomputable def tRevT (K : PySem.W.Frag) (te ts : TE) : TE := fun σ H Q => te σ H fun x H1 => ts σ H1 fun y H2 => y = .int (-1) /\ ∃ a xs, x = .ref a /\ SqT K H2 a xs /\ ∀ p, H2 p = none -> Q (.ref p) (upd H2 p (.tup xs.reverse))
theorem pe_revT (he : PE X e te) (hs : PE X st ts) : PE X (.Subscript e (.Slice none none (some st) p2) pos) (tRevT X.K te ts) := by
  intro pins s σ H Q I h
  refine Subscript_ (thn (he pins s σ H _ I h) fun v s1 ⟨x, H1, I1, r1, q1⟩ => ?_)
  refine wpAny_Slice ?_
  rw [evalPart_none]
  refine wpAny_pure (wpAny_pure ?_)
  show wpAny _ _ (eval st X.env) _ _ _
  refine thn (hs pins s1 σ H1 _ I1 q1) fun w s2 ⟨y, H2, I2, r2, q2⟩ => ?_
  obtain ⟨rfl, a, xs, rfl, hx, q⟩ := q2
  obtain ⟨tk, rfl⟩ := r2
  cases r1
  have I4 : Inv X pins σ H2 { s2 with heap := s2.heap.push { cls := .type "slice", data := .fields #[.none, .none, .int (-1) tk] } } := I2.kept (t' := s2.toks) fun b ob q => Heap.get?_push_of_some _ q
  obtain ⟨its, r, ht, hz⟩ := I4.tuple hx
  have hlen : its.toArray.size = xs.length := by rw [List.size_toArray]; exact r.length.symm
  show wpAny (model X.prog X.w) X.A (subscriptTail e (.Slice none none (some st) p2) (.ref a) (.ref s2.heap.objs.size)) (EP X pins σ Q) X.xe { s2 with heap := s2.heap.push { cls := .type "slice", data := .fields #[.none, .none, .int (-1) tk] } }
  refine tail_any (ops := [.ref a, .ref s2.heap.objs.size]) ht.typeIs PyProof.Rows.slot_tuple_getitem.lookup (getItem_tuple_rev ht (Heap.IsSliceOf.new ..) ?_ (by rw [hlen]; exact hz)) (by with_unfolding_all rfl)
  refine ⟨.ref _, _, I4.laid (t' := s2.toks) (o := .tup xs.reverse) (fun b ob q => Heap.get?_push_of_some _ q) (Nat.le_refl _) ?_, rfl, q _ (I4.hok.fresh (Nat.le_refl _))⟩
  exact ⟨by rw [List.length_reverse]; exact hz, _, r.reverse, IsTup.new _ _⟩
end
section
variable {X : Cx}
noncomputable def rSlS : V -> Option Int -> Option Int -> Hp -> VK -> Prop := fun x lo hi H Q => ∃ z, x = .str z /\ z.length <= sizeLine /\ Q (.str (Txt.slice z lo hi)) H
theorem sl_str : SlR X rSlS := by
  intro pins s σ H x v vl vu lo hi sl Q I rx hs pl pu h
  obtain ⟨z, rfl, hz, q⟩ := h
  obtain ⟨t, rfl⟩ := rx
  obtain ⟨os, hos, hcs, hds⟩ := hs
  refine ⟨"str", _, F.slot_str_getitem.lookup, typeIs_str _ _ _, ?_⟩
  cases pl with
  | none =>
    cases pu with
    | none => exact wpAny_getItem_str_slice (l := none) (u := none) (st := none) ⟨os, hos, hcs, hds⟩ rfl (post_val_or_str ⟨Nat.le_trans (Txt.slice_le z _ _) hz, fun t' k => ⟨.str _, H, I.tok k, ⟨t', rfl⟩, q⟩⟩)
    | int j uj => exact wpAny_getItem_str_slice (l := none) (u := some (j, uj)) (st := none) ⟨os, hos, hcs, hds⟩ rfl (post_val_or_str ⟨Nat.le_trans (Txt.slice_le z _ _) hz, fun t' k => ⟨.str _, H, I.tok k, ⟨t', rfl⟩, q⟩⟩)
  | int i ui =>
    cases pu with
    | none => exact wpAny_getItem_str_slice (l := some (i, ui)) (u := none) (st := none) ⟨os, hos, hcs, hds⟩ rfl (post_val_or_str ⟨Nat.le_trans (Txt.slice_le z _ _) hz, fun t' k => ⟨.str _, H, I.tok k, ⟨t', rfl⟩, q⟩⟩)
    | int j uj => exact wpAny_getItem_str_slice (l := some (i, ui)) (u := some (j, uj)) (st := none) ⟨os, hos, hcs, hds⟩ rfl (post_val_or_str ⟨Nat.le_trans (Txt.slice_le z _ _) hz, fun t' k => ⟨.str _, H, I.tok k, ⟨t', rfl⟩, q⟩⟩)
end
end L2
set_option Elab.async false
set_option linter.all false
set_option maxRecDepth 100000
namespace L2
open PySem PySem.Spec PyProof.Rows
noncomputable def ItrD (lo : Int) (n : Nat) : It := ⟨fun i _ => i < n, fun i H v H' => H' = H /\ v = .int (lo - i), fun i _ => n <= i⟩
theorem turn_rangeD {P : Program} {w : World} {K : PySem.W.Frag} {tg : Expr} (it : Addr) (lo : Int) (n : Nat) : Turn P w K tg (ItrD lo n) [it] it (fun i h => IsRangeIter h it (lo + (i : Nat) * (-1)) ((n : Int) - (i : Nat)) (-1)) where
  mem := by simp
  obj := fun i h st b hb => by
    have e : b = it := by simpa using hb
    subst e
    exact ⟨_, st, fun v z => by
      have z' : Data.fields _ = Data.cell v := z
      cases z'⟩
  keep := fun i h h' st k => k it (by simp) _ st
  item := by
    intro X hP hw hK hc i pins s σ H E I hf st hg
    subst hP hw hK
    obtain ⟨f0, f1, f2, f3, f4, f5⟩ := hf it (by simp)
    have W := Walks.range (prog := X.prog) (w := X.w) (I.ok.hd hc) it lo (-1) n
    refine W.item i s _ _ hg st fun v h' tk hv st' kk => ?_
    obtain ⟨t, rfl⟩ := hv
    have I1 : Inv X pins σ H { s with heap := h', toks := tk } := I.turned (fun b o hb e => kk b o (by simpa using hb) e) f0 f1 f3 f4 f5
    refine ⟨_, rfl, go_of (s := { s with heap := h', toks := tk }) (n := "range_iterator") st' rfl rfl (by decide) ⟨.int (lo - i), H, I1, ⟨t, ?_⟩, ⟨rfl, rfl⟩, st', fun b hb => (hf b hb).1⟩⟩
    have : lo + (i : Int) * (-1) = lo - i := by omega
    rw [this]
  done := by
    intro X hP hw hK hc i pins s σ H E I hf st hg
    subst hP hw hK
    obtain ⟨f0, f1, f2, f3, f4, f5⟩ := hf it (by simp)
    exact wpAny_pyNext_range_end (I.ok.hd hc) st (by have : n <= i := hg; omega) fun h' eb => ⟨rfl, I.turned (t' := s.toks) (fun b o hb e => eb b o hb e) f0 f1 f3 f4 f5⟩
  self := fun _ _ _ _ _ st h => wpAny_pyIter_rangeiter st h
theorem rangeSize_down (a b : Int) : Builtin.Range.rangeSize a b (-1) = if b < a then a - b else 0 := by
  unfold Builtin.Range.rangeSize
  simp
  try (split <;> omega)
section
variable {X : Cx} {tg : Expr}
theorem small_down {a b : Int} (ha : -(2 ^ 61) <= a) (ha' : a < 2 ^ 61) (hb : -(2 ^ 61) <= b) (hb' : b < 2 ^ 61) : Builtin.Range.small a b (-1) = true := by
  unfold Builtin.Range.small
  rw [rangeSize_down]
  simp only [Builtin.Range.rangeFitsLong, Bool.and_eq_true, Bool.or_eq_true, decide_eq_true_eq, beq_iff_eq]
  split <;> (try simp) <;> omega
theorem range_itD {pins : List (Addr × Obj)} {σ : St} {H : Hp} {s : Shared} {R : It -> Hp -> Prop} {E : Value -> Shared -> Prop} {lo hi : Int} {t u v : Tok} {tk : Nat} (I : Inv X pins σ H s) (h1 : -(2 ^ 61) <= lo) (h2 : lo < 2 ^ 61) (h3 : -(2 ^ 61) <= hi) (h4 : hi < 2 ^ 61)
    (q : R (ItrD lo (lo - hi).toNat) H) : wpAny (model X.prog X.w) X.A (pyIter (.ref s.heap.objs.size)) (PIE X pins σ tg R) E { s with heap := s.heap.push { cls := .type "range", data := .fields #[.int lo t, .int hi u, .int (-1) v] }, toks := tk } := by
  refine wpAny_pyIter_range (IsRange.new ..) (small_down h1 h2 h3 h4) ?_
  have I1 : Inv X pins σ H { s with heap := s.heap.push { cls := .type "range", data := .fields #[.int lo t, .int hi u, .int (-1) v] }, toks := tk } := I.kept fun b o e => Heap.get?_push_of_some _ e
  refine ⟨(s.heap.push { cls := .type "range", data := .fields #[.int lo t, .int hi u, .int (-1) v] }).objs.size, [(s.heap.push { cls := .type "range", data := .fields #[.int lo t, .int hi u, .int (-1) v] }).objs.size], _, _, H, rfl,
    I1.kept (t' := tk) fun b o e => Heap.get?_push_of_some _ e, turn_rangeD _ lo (lo - hi).toNat, ?_, fun b hb => ?_, q⟩
  · have e1 : lo + ((0 : Nat) : Int) * (-1) = lo := by simp
    have e2 : (((lo - hi).toNat : Nat) : Int) - ((0 : Nat) : Int) = Builtin.Range.rangeSize lo hi (-1) := by rw [rangeSize_down]; split <;> omega
    show IsRangeIter _ _ (lo + ((0 : Nat) : Int) * (-1)) ((((lo - hi).toNat : Nat) : Int) - ((0 : Nat) : Int)) (-1)
    rw [e1, e2]
    exact Heap.get?_push_size _ rfl
  · have e : b = (s.heap.push { cls := .type "range", data := .fields #[.int lo t, .int hi u, .int (-1) v] }).objs.size := by simpa using hb
    subst e
    exact I1.fpOk (Nat.le_refl _) (I1.hok.fresh (Nat.le_refl _))
noncomputable def iRngD (ta : TA) : TI := fun σ H R => ta σ H fun vs H1 => ∃ i j : Int, vs = [.int i, .int j, .int (-1)] /\ (-(2 ^ 30) <= i /\ i < 2 ^ 30 /\ -(2 ^ 30) <= j /\ j < 2 ^ 30) /\ R (ItrD i (i - j).toNat) H1
theorem pi_rangeD {a b c : Expr} {ta : TA} {p pos : Pos} (hg : Gl X "range") (hm : X.mg "range" = none) (ha : PA X [a, b, c] ta) (hs : starEach [a, b, c] X.env = [(false, eval a X.env), (false, eval b X.env), (false, eval c X.env)]) (hs2 : starEach [b, c] X.env = [(false, eval b X.env), (false, eval c X.env)]) :
    PI X tg (.Call (.Name "range" p) [a, b, c] [] pos) (iRngD ta) := by
  intro pins s σ H R I h
  refine Call_ (ld_blt I hg hm boot_range (PyProof.Rows.callWith_type1 (thn (ha pos pins s σ H _ I h) fun us s1 ⟨vs, H1, I1, r1, q1⟩ => ?_) (by rw [hs, hs2]) (by rw [hs2]; rfl)))
  obtain ⟨i, j, e, ⟨q1, q2, q3, q4⟩, q⟩ := q1
  subst e
  cases r1 with
  | cons r rr =>
    cases rr with
    | cons r' rr =>
      cases rr with
      | cons r'' rr =>
        cases rr
        obtain ⟨t, rfl⟩ := r
        obtain ⟨t', rfl⟩ := r'
        obtain ⟨t'', rfl⟩ := r''
        exact call_range_3 (by decide) (range_itD I1 (by omega) (by omega) (by omega) (by omega) q) (Or.inl (PyProof.noPylong_small (by omega)))
end
section
variable {X : Cx}
noncomputable def tBN (t : TE) : TT := fun σ H Q => t σ H fun x H1 => (∃ c, x = .bl c /\ Q c H1) \/ (x = .non /\ Q false H1)
theorem pt_valN {e : Expr} {t : TE} (h : PE X e t) (he : ∀ whole, isTrue e X.env whole = (do let v <- whole; standAt e.pos; holding [v] (truthy v)) := by intro _; rfl) : PT X e (tBN t) := by
  intro pins s σ H Q I hw
  refine isTrue_plain (thn (h pins s σ H _ I hw) fun v s1 ⟨x, H1, I1, r1, q1⟩ => ?_) (he _)
  rcases q1 with ⟨d, rfl, q⟩ | ⟨rfl, q⟩
  · cases r1
    exact wpAny_truthy_bool ⟨H1, I1, q⟩
  · cases r1
    exact PyProof.Rows.truthy_none ⟨H1, I1, q⟩
end
end L2
set_option Elab.async false
set_option linter.all false
set_option maxRecDepth 100000
namespace PI
open PySem L2
inductive D where
  | non | bl (b : Bool) | int (i : Int) | str (x : Str) | tup (xs : List D) | loc (n : Nat) | fl (xs : List D)
inductive O where
  | lst (xs : List D) | dK (kvs : List (Key × D))
noncomputable abbrev Hh := List O
noncomputable abbrev En := List (Option D)
inductive Res (α : Type) where
  | ok (a : α) (h : Hh) | exc (c : Nat) (h : Hh) | no
noncomputable def Res.bind {α β : Type} (r : Res α) (f : α -> Hh -> Res β) : Res β := match r with
  | .ok a h => f a h
  | .exc c h => .exc c h
  | .no => .no
@[simp] theorem bind_ok {α β : Type} {a : α} {h : Hh} {f : α -> Hh -> Res β} : (Res.ok a h).bind f = f a h := rfl
@[simp] theorem bind_exc {α β : Type} {c : Nat} {h : Hh} {f : α -> Hh -> Res β} : (Res.exc c h : Res α).bind f = .exc c h := rfl
@[simp] theorem bind_no {α β : Type} {f : α -> Hh -> Res β} : (Res.no : Res α).bind f = .no := rfl
inductive RS where
  | nx (ρ : En) (h : Hh) | rt (d : D) (h : Hh) | bk (ρ : En) (h : Hh) | ct (ρ : En) (h : Hh) | ex (c : Nat) (ρ : En) (h : Hh) | no
inductive Tg where
  | one (i : Nat) (p : Pos) | tup (is : List (Nat × Pos)) (p : Pos)
inductive M0 where
  | pop
inductive M1 where
  | append | extend
inductive F1 where
  | str | int | all | abs | any
noncomputable def F1.name : F1 -> Str
  | .str => "str" | .int => "int" | .all => "all" | .abs => "abs" | .any => "any"
inductive Cv where
  | tup (xs : List Str) | int (i : Int)
  deriving DecidableEq
inductive Cn where
  | int (i : Int) | str (x : Str) | tup (xs : List Str) | dic (kvs : List (Str × Cv))
  deriving DecidableEq
set_option genInjectivity false
set_option genSizeOf false
mutual
inductive E where
  | non (p : Pos) | bl (b : Bool) (p : Pos) | int (i : Int) (p : Pos) | str (x : Str) (p : Pos)
  | var (i : Nat) (p : Pos)
  | bin (op : Operator) (a b : E) (p : Pos)
  | un (op : UnaryOp) (a : E) (p : Pos)
  | cmp (op : CmpOp) (a b : E) (p : Pos)
  | and (a b : E) (r : Es) (p : Pos)
  | or (a b : E) (r : Es) (p : Pos)
  | ite (c a b : E) (p : Pos)
  | call (f : Nat) (a : E) (r : Es) (p0 p : Pos)
  | len (a : E) (p0 p : Pos)
  | sub (a i : E) (p : Pos)
  | tup (es : Es) (p : Pos)
  | ofL (l : L)
  | tupE (e : E) (p0 p : Pos)
  | dicP (e : E) (p0 p : Pos)
  | cut (a : E) (lo hi : Eo) (p2 p : Pos)
  | revT (a st : E) (p2 p : Pos)
  | dic (p : Pos)
  | m0 (m : M0) (o : E) (p1 p : Pos)
  | m1 (m : M1) (o a : E) (p1 p : Pos)
  | listR (e : E) (p0 p1 p2 p : Pos)
  | cmpN (neg : Bool) (a : E) (p1 p : Pos)
  | gcon (x : Str) (c : Cn) (p : Pos)
  | gsub (x : Str) (kvs : List (Str × Cv)) (i : E) (p0 p : Pos)
inductive Es where
  | nil | cons (e : E) (r : Es)
inductive Eo where
  | none | some (e : E)
inductive L where
  | disp (es : Es) (p : Pos)
  | comp (elt : E) (t : Tg) (it : I) (c : Es) (NC : List Str) (cap : List (Option Nat)) (sc : Scope) (p : Pos)
inductive I where
  | seq (e : E) | lst (l : L) | rng (a : E) (p0 p : Pos) | rng2 (a b : E) (p0 p : Pos) | rev (e : E) (p0 p : Pos) | rngD (a b c : E) (p0 p : Pos)
end
mutual
inductive S where
  | set (i : Nat) (e : E) (p1 p : Pos)
  | ret (e : E) (p : Pos)
  | iff (c : E) (a b : Ss) (p : Pos)
  | ex (e : E) (p : Pos)
  | put (o i v : E) (p1 p : Pos)
  | forr (t : Tg) (it : I) (b : Ss) (p : Pos)
  | whil (c : E) (b : Ss) (p : Pos)
  | pass (p : Pos) | brk (p : Pos) | cnt (p : Pos)
  | setT (is : List (Nat × Pos)) (e : E) (p1 p : Pos)
  | raw (st : Stmt)
  | iffN (a : E) (i : Nat) (pv p1 : Pos) (x y : Ss) (p : Pos)
  | tryN (b : Ss) (h0 : ExceptHandler) (hs : List ExceptHandler) (p : Pos)
inductive Ss where
  | nil | cons (s : S) (r : Ss)
end
set_option genInjectivity true
set_option genSizeOf true
structure Nm where
  N : List Str
  F : List Str
  G : List (Str × Cn) := []
noncomputable def Tg.py (N : List Str) : Tg -> Expr
  | .one i p => .Name (N.getD i "") p
  | .tup is p => .Tuple (is.map fun q => .Name (N.getD q.1 "") q.2) 0 p
mutual
noncomputable def E.py (n : Nm) : E -> Expr
  | .non p => .Constant .none 0 p
  | .bl b p => .Constant (.bool b) 0 p
  | .int i p => .Constant (.int i) 0 p
  | .str x p => .Constant (.str x) 0 p
  | .var i p => .Name (n.N.getD i "") p
  | .bin op a b p => .BinOp (a.py n) op (b.py n) p
  | .un op a p => .UnaryOp op (a.py n) p
  | .cmp op a b p => .Compare (a.py n) [op] [b.py n] p
  | .and a b r p => .BoolOp .And (a.py n :: b.py n :: r.py n) p
  | .or a b r p => .BoolOp .Or (a.py n :: b.py n :: r.py n) p
  | .ite c a b p => .IfExp (c.py n) (a.py n) (b.py n) p
  | .call f a r p0 p => .Call (.Name (n.F.getD f "") p0) (a.py n :: r.py n) [] p
  | .len a p0 p => .Call (.Name "len" p0) [a.py n] [] p
  | .sub a i p => .Subscript (a.py n) (i.py n) p
  | .tup es p => .Tuple (es.py n) 0 p
  | .ofL l => l.py n
  | .tupE e p0 p => .Call (.Name "tuple" p0) [e.py n] [] p
  | .dicP e p0 p => .Call (.Name "dict" p0) [e.py n] [] p
  | .cut a lo hi p2 p => .Subscript (a.py n) (.Slice (lo.py n) (hi.py n) .none p2) p
  | .revT a st p2 p => .Subscript (a.py n) (.Slice none none (some (st.py n)) p2) p
  | .dic p => .Dict [] [] p
  | .m0 m o p1 p => .Call (.Attribute (o.py n) (match m with | .pop => "pop") p1) [] [] p
  | .m1 m o a p1 p => .Call (.Attribute (o.py n) (match m with | .append => "append" | .extend => "extend") p1) [a.py n] [] p
  | .cmpN neg a p1 p => .Compare (a.py n) [if neg then .NotEq else .Eq] [.List [] p1] p
  | .listR e p0 p1 p2 p => .Call (.Name "list" p0) [.Call (.Name "reversed" p1) [e.py n] [] p2] [] p
  | .gcon x _ p => .Name x p
  | .gsub x _ i p0 p => .Subscript (.Name x p0) (i.py n) p
noncomputable def Eo.py (n : Nm) : Eo -> Option Expr
  | .none => .none
  | .some e => .some (e.py n)
noncomputable def L.py (n : Nm) : L -> Expr
  | .disp es p => .List (es.py n) p
  | .comp elt t it c NC cap sc p => .ListComp (elt.py ⟨NC, n.F, n.G⟩) [⟨t.py NC, it.py n, c.py ⟨NC, n.F, n.G⟩, 0⟩] sc p
noncomputable def I.py (n : Nm) : I -> Expr
  | .seq e => e.py n
  | .lst l => l.py n
  | .rng a p0 p => .Call (.Name "range" p0) [a.py n] [] p
  | .rng2 a b p0 p => .Call (.Name "range" p0) [a.py n, b.py n] [] p
  | .rngD a b c p0 p => .Call (.Name "range" p0) [a.py n, b.py n, c.py n] [] p
  | .rev e p0 p => .Call (.Name "reversed" p0) [e.py n] [] p
noncomputable def Es.py (n : Nm) : Es -> List Expr
  | .nil => []
  | .cons e r => e.py n :: r.py n
end
mutual
noncomputable def S.py (n : Nm) : S -> Stmt
  | .set i e p1 p => .Assign [.Name (n.N.getD i "") p1] (e.py n) p
  | .ret e p => .Return (some (e.py n)) p
  | .iff c a b p => .If (c.py n) (a.py n) (b.py n) p
  | .ex e p => .Expr (e.py n) p
  | .put o i v p1 p => .Assign [.Subscript (o.py n) (i.py n) p1] (v.py n) p
  | .forr t it b p => .For (t.py n.N) (it.py n) (b.py n) [] p
  | .whil c b p => .While (c.py n) (b.py n) [] p
  | .pass p => .Pass p
  | .brk p => .Break p
  | .cnt p => .Continue p
  | .setT is e p1 p => .Assign [(Tg.tup is p1).py n.N] (e.py n) p
  | .raw st => st
  | .iffN a i pv p1 x y p => .If (.BoolOp .And [a.py n, .Name (n.N.getD i "") pv] p1) (x.py n) (y.py n) p
  | .tryN b h0 hs p => .Try (b.py n) (h0 :: hs) [] [] p
noncomputable def Ss.py (n : Nm) : Ss -> List Stmt
  | .nil => []
  | .cons s r => s.py n :: r.py n
end
mutual
noncomputable def D.pd (h : Hh) : D -> Option PyData
  | .non => some .none
  | .bl b => some (.bool b)
  | .int i => some (.int i)
  | .str x => some (.str x)
  | .tup xs => (D.pds h xs).map .tuple
  | .loc _ => none
  | .fl xs => (D.pds h xs).map .list
noncomputable def D.pds (h : Hh) : List D -> Option (List PyData)
  | [] => some []
  | x :: r => match D.pd h x, D.pds h r with
    | some a, some b => some (a :: b)
    | _, _ => none
end
noncomputable def keyD : D -> Option Key
  | .int i => some (.inl i)
  | .str x => some (.inr x)
  | _ => none
noncomputable def valD (kvs : List (Key × D)) (k : Key) : Option D := (kvs.find? fun kv => decide (kv.1 = k)).map (·.2)
noncomputable def rd (h : Hh) (n : Nat) : Option (List D) := match h[n]? with
  | some (.lst xs) => some xs
  | _ => none
noncomputable def pdT (h : Hh) : D -> Option PyData
  | .loc n => (rd h n).bind fun xs => (D.pds h xs).map .list
  | d => D.pd h d
noncomputable def fits (i : Int) : Bool := decide (Builtin.Int.intBits i <= 2 ^ 20)
noncomputable def eqR (neg : Bool) (u v : Option PyData) (h : Hh) : Res D := match u, v with
  | some u, some v => if u.canLay0 = true /\ v.canLay0 = true /\ u.depth <= 60 then .ok (.bl (if neg then !PyData.eqv u v else PyData.eqv u v)) h else .no
  | _, _ => .no
noncomputable def i2 (a b : D) (f : Int -> Int -> Res D) : Res D := match a, b with
  | .int i, .int j => f i j
  | _, _ => .no
noncomputable def addD (a b : D) (h : Hh) : Res D := match a, b with
  | .int i, .int j => .ok (.int (i + j)) h
  | .str x, .str y => if x.length + y.length <= 1000000 then .ok (.str (x ++ y)) h else .no
  | .loc n, .loc m => match h[n]?, h[m]? with
    | some (.lst xs), some (.lst ys) => if xs.length + ys.length <= 1000000 then .ok (.loc h.length) (h ++ [.lst (xs ++ ys)]) else .no
    | _, _ => .no
  | .tup xs, .tup ys => if xs.length + ys.length <= 1000000 then .ok (.tup (xs ++ ys)) h else .no
  | _, _ => .no
noncomputable def mulD (a b : D) (h : Hh) : Res D := match b with
  | .int j => match a with
    | .int i => if fits i = true /\ fits j = true then .ok (.int (i * j)) h else .no
    | .str x => if 0 <= j /\ j <= 1000 /\ x.length <= 1000 then .ok (.str (Txt.mul x j)) h else .no
    | .loc n => match h[n]? with
      | some (.lst xs) => if 0 <= j /\ j <= 1000 /\ xs.length <= 1000 then .ok (.loc h.length) (h ++ [.lst (List.replicate j.toNat xs).flatten]) else .no
      | _ => .no
    | _ => .no
  | _ => .no
noncomputable def binD (op : Operator) (a b : D) (h : Hh) : Res D := match op with
  | .Add => addD a b h
  | .Mult => mulD a b h
  | .Sub => i2 a b fun i j => .ok (.int (i - j)) h
  | .FloorDiv => i2 a b fun i j => if 0 < j /\ j < 1073741824 then .ok (.int (i / j)) h else .no
  | .Mod => i2 a b fun i j => if 0 < j then .ok (.int (i % j)) h else .no
  | .Pow => i2 a b fun i j => if 0 <= j /\ j <= 1000000 /\ i.natAbs < 2 ^ 64 then .ok (.int (i ^ j.toNat)) h else .no
  | .LShift => i2 a b fun i j => if fits i = true /\ 0 <= j /\ j <= 1000000 then .ok (.int (i * 2 ^ j.toNat)) h else .no
  | .RShift => i2 a b fun i j => if 0 <= j then .ok (.int (i / 2 ^ j.toNat)) h else .no
  | .BitAnd => i2 a b fun i j => .ok (.int (Builtin.bitAnd i j)) h
  | .BitOr => i2 a b fun i j => .ok (.int (Builtin.bitOr i j)) h
  | _ => .no
noncomputable def vOf : D -> V
  | .bl b => .bl b
  | .int i => .int i
  | .str x => .str x
  | _ => .non
noncomputable def flatD : D -> Bool
  | .non | .bl _ | .int _ | .str _ => true
  | _ => false
noncomputable def ngB (neg b : Bool) : Bool := if neg then !b else b
@[simp] theorem ngB_f {b : Bool} : ngB false b = b := rfl
@[simp] theorem ngB_t {b : Bool} : ngB true b = !b := rfl
noncomputable def inXs (neg : Bool) (x : D) (ds : List D) (h : Hh) : Res D := if flatD x = true /\ ds.all flatD = true then .ok (.bl (ngB neg (ds.any fun y => eqV (vOf y) (vOf x)))) h else .no
noncomputable def inD (neg : Bool) (x y : D) (h : Hh) : Res D := match y with
  | .tup ds => inXs neg x ds h
  | .fl ds => inXs neg x ds h
  | .loc n => match h[n]? with
    | some (.lst ds) => inXs neg x ds h
    | some (.dK kvs) => (match keyD x with | some k => .ok (.bl (ngB neg (valD kvs k).isSome)) h | none => .no)
    | none => .no
  | .str z => (match x with | .str u => .ok (.bl (ngB neg (!(Builtin.Str.occurrences z u 0 z.length 1).isEmpty))) h | _ => .no)
  | _ => .no
noncomputable def isN : D -> Bool
  | .non => true
  | _ => false
noncomputable def isV (neg : Bool) (a b : D) (h : Hh) : Res D := match b with
  | .non => .ok (.bl (ngB neg (isN a))) h
  | .bl y => match a with
    | .bl x => .ok (.bl (ngB neg (x == y))) h
    | _ => .no
  | _ => .no
noncomputable def cmpD (op : CmpOp) (a b : D) (h : Hh) : Res D := match op with
  | .Lt => i2 a b fun i j => .ok (.bl (decide (i < j))) h
  | .LtE => i2 a b fun i j => .ok (.bl (decide (i <= j))) h
  | .Gt => i2 a b fun i j => .ok (.bl (decide (j < i))) h
  | .GtE => i2 a b fun i j => .ok (.bl (decide (j <= i))) h
  | .Eq => eqR false (pdT h a) (pdT h b) h
  | .NotEq => eqR true (pdT h a) (pdT h b) h
  | .In => inD false a b h
  | .NotIn => inD true a b h
  | .Is => isV false a b h
  | .IsNot => isV true a b h
noncomputable def unD (op : UnaryOp) (a : D) (h : Hh) : Res D := match op, a with
  | .Not, .bl b => .ok (.bl (!b)) h
  | .Invert, .int i => .ok (.int (Builtin.bitNot i)) h
  | .USub, .int i => .ok (.int (-i)) h
  | _, _ => .no
noncomputable def lenD (a : D) (h : Hh) : Res D := match a with
  | .tup xs => .ok (.int xs.length) h
  | .loc n => match rd h n with | some xs => .ok (.int xs.length) h | none => .no
  | .str x => if x.length <= 1000000 then .ok (.int x.length) h else .no
  | .fl xs => .ok (.int xs.length) h
  | _ => .no
noncomputable def subD (a i : D) (h : Hh) : Res D := match a, i with
  | .tup xs, .int k => match atI xs k with | some d => .ok d h | none => .no
  | .fl xs, .int k => match atI xs k with | some d => .ok d h | none => .no
  | .str x, .int k => if x.length <= 1000000 then (match atI x.cps.toList k with | some c => .ok (.str ⟨#[c]⟩) h | none => .no) else .no
  | .loc n, y => match h[n]? with
    | some (.dK kvs) => match (keyD y).bind (fun k => valD kvs k) with | some d => .ok d h | none => .no
    | some (.lst xs) => match y with
      | .int k => match atI xs k with | some d => .ok d h | none => .no
      | _ => .no
    | none => .no
  | _, _ => .no
noncomputable def new (o : O) (h : Hh) : Res D := .ok (.loc h.length) (h ++ [o])
noncomputable def putD (kvs : List (Key × D)) (k : Key) (v : D) : List (Key × D) := if (kvs.any fun kv => decide (kv.1 = k)) = true then kvs.map (fun kv => if kv.1 = k then (kv.1, v) else kv) else kvs ++ [(k, v)]
noncomputable def onL (x : D) (h : Hh) (r : Res D) : Res D := match x with
  | .loc n => match h[n]? with
    | some (.lst _) => r
    | _ => .no
  | _ => .no
noncomputable def m0D (m : M0) (o : D) (h : Hh) : Res D := match o with
  | .loc n => match h[n]? with
    | some (.lst xs) => match m with
      | .pop => match xs.getLast? with | some x => .ok x (h.set n (.lst xs.dropLast)) | none => .no
    | _ => .no
  | _ => .no
noncomputable def m1D (m : M1) (o a : D) (h : Hh) : Res D := match o with
  | .loc n => match h[n]? with
    | some (.lst xs) => match m with
      | .append => if xs.length < 1000000 then .ok .non (h.set n (.lst (xs ++ [a]))) else .no
      | .extend => match a with
        | .loc m => match h[m]? with
          | some (.lst ys) => if xs.length + ys.length <= 1000000 then .ok .non (h.set n (.lst (xs ++ ys))) else .no
          | _ => .no
        | .tup ys => if xs.length + ys.length <= 1000000 then .ok .non (h.set n (.lst (xs ++ ys))) else .no
        | _ => .no
    | _ => .no
  | _ => .no
noncomputable def putS (o i v : D) (h : Hh) : Option Hh := match o with
  | .loc n => match h[n]? with
    | some (.lst xs) => match i with
      | .int k => (ixN xs.length k).map fun j => h.set n (.lst (xs.set j v))
      | _ => none
    | some (.dK kvs) => (keyD i).bind fun k => if kvs.length < 1000000 then some (h.set n (.dK (putD kvs k v))) else none
    | _ => none
  | _ => none
noncomputable def cutXs (xs : List D) (lo hi : Option Int) : List D := (xs.drop (HT.sIx xs.length 0 lo)).take (HT.sIx xs.length xs.length hi - HT.sIx xs.length 0 lo)
noncomputable def cutD (a : D) (lo hi : Option Int) (h : Hh) : Res D := match a with
  | .loc n => match rd h n with
    | some xs => new (.lst (cutXs xs lo hi)) h
    | none => .no
  | .fl xs => new (.lst (cutXs xs lo hi)) h
  | .str x => if x.length <= 1000000 then .ok (.str (Txt.slice x lo hi)) h else .no
  | .tup xs => if HT.sIx xs.length 0 lo = 0 /\ HT.sIx xs.length xs.length hi = xs.length then .ok (.tup xs) h else .ok (.tup (cutXs xs lo hi)) h
  | _ => .no
noncomputable def intO (d : D) (h : Hh) : Res (Option Int) := match d with | .int i => .ok (some i) h | _ => .no
noncomputable def seqOf (d : D) (h : Hh) : Option (List D) := match d with
  | .tup xs => some xs
  | .fl xs => some xs
  | .loc n => rd h n
  | _ => none
noncomputable abbrev Ck := List (Nat × List D)
noncomputable def stay (c : Ck) (h : Hh) : Prop := ∀ p ∈ c, rd h p.1 = some p.2
noncomputable def bindT (t : Tg) (d : D) (ρ : En) : Option En := match t with
  | .one i _ => some (ρ.set i (some d))
  | .tup is _ => match d with
    | .tup xs => if xs.length = is.length then some ((is.zip xs).foldl (fun ρ q => ρ.set q.1.1 (some q.2)) ρ) else none
    | _ => none
noncomputable def capE (cap : List (Option Nat)) (ρ : En) : En := cap.map fun o => o.bind fun i => (ρ[i]?).bind id
noncomputable def compF (t : Tg) (ρ : En) (c : En -> Hh -> Res Bool) (e : En -> Hh -> Res D) (x : D) (h : Hh) : Res (Option D) := match bindT t x ρ with
  | some ρ' => (c ρ' h).bind fun b h1 => if b then (e ρ' h1).bind fun d h2 => .ok (some d) h2 else .ok none h1
  | none => .no
noncomputable def stepF (t : Tg) (b : En -> Hh -> RS) (x : D) (ρ : En) (h : Hh) : RS := match bindT t x ρ with
  | some ρ' => b ρ' h
  | none => .no
noncomputable def addO (acc : List D) : Option D -> List D
  | some d => acc ++ [d]
  | none => acc
@[simp] theorem addO_some {acc : List D} {d : D} : addO acc (some d) = acc ++ [d] := rfl
@[simp] theorem addO_none {acc : List D} : addO acc none = acc := rfl
open Classical in
noncomputable def compL (c : Ck) (f : D -> Hh -> Res (Option D)) : List D -> List D -> Hh -> Res (List D)
  | [], acc, h => if stay c h then .ok acc h else .no
  | x :: r, acc, h => if stay c h then (f x h).bind fun o h' => compL c f r (addO acc o) h' else .no
open Classical in
noncomputable def forL (c : Ck) (f : D -> En -> Hh -> RS) : List D -> En -> Hh -> RS
  | [], ρ, h => if stay c h then .nx ρ h else .no
  | x :: r, ρ, h => if stay c h then (match f x ρ h with
      | .nx ρ' h' => forL c f r ρ' h'
      | .ct ρ' h' => forL c f r ρ' h'
      | .bk ρ' h' => .nx ρ' h'
      | o => o) else .no
noncomputable def whL (c : En -> Hh -> Res Bool) (b : En -> Hh -> RS) : Nat -> En -> Hh -> RS
  | 0, _, _ => .no
  | n + 1, ρ, h => match c ρ h with
    | .ok true h1 => (match b ρ h1 with
      | .nx ρ' h' => whL c b n ρ' h'
      | .ct ρ' h' => whL c b n ρ' h'
      | .bk ρ' h' => .nx ρ' h'
      | o => o)
    | .ok false h1 => .nx ρ h1
    | .exc k h1 => .ex k ρ h1
    | .no => .no
theorem whL_more {c : En -> Hh -> Res Bool} {b : En -> Hh -> RS} : ∀ (n : Nat) (ρ : En) (h : Hh), whL c b n ρ h ≠ .no -> whL c b (n + 1) ρ h = whL c b n ρ h
  | 0, ρ, h, z => absurd rfl z
  | n + 1, ρ, h, z => by
    rw [whL] at z ⊢
    rw [whL]
    cases ec : c ρ h with
    | ok t h1 =>
      cases t with
      | true =>
        rw [ec] at z
        simp only at z ⊢
        cases eb : b ρ h1 with
        | nx ρ' h' => rw [eb] at z; exact whL_more n ρ' h' z
        | ct ρ' h' => rw [eb] at z; exact whL_more n ρ' h' z
        | _ => rfl
      | false => rfl
    | _ => rfl
theorem whL_le {c : En -> Hh -> Res Bool} {b : En -> Hh -> RS} {n m : Nat} {ρ : En} {h : Hh} (hl : n <= m) (z : whL c b n ρ h ≠ .no) : whL c b m ρ h = whL c b n ρ h := by
  induction hl with
  | refl => rfl
  | step _ ih => rw [whL_more _ _ _ (by rw [ih]; exact z), ih]
open Classical in
noncomputable def whR (c : En -> Hh -> Res Bool) (b : En -> Hh -> RS) (ρ : En) (h : Hh) : RS := if e : ∃ n, whL c b n ρ h ≠ .no then whL c b (Classical.choose e) ρ h else .no
theorem whR_eq {c : En -> Hh -> Res Bool} {b : En -> Hh -> RS} {n : Nat} {ρ : En} {h : Hh} {r : RS} (e : whL c b n ρ h = r) (z : r ≠ .no) : whR c b ρ h = r := by
  have ex : ∃ n, whL c b n ρ h ≠ .no := ⟨n, by rw [e]; exact z⟩
  unfold whR
  rw [dif_pos ex]
  have z2 := Classical.choose_spec ex
  rw [<- whL_le (Nat.le_max_left (Classical.choose ex) n) z2, whL_le (Nat.le_max_right (Classical.choose ex) n) (by rw [e]; exact z), e]
theorem whR_has {c : En -> Hh -> Res Bool} {b : En -> Hh -> RS} {ρ : En} {h : Hh} (z : whR c b ρ h ≠ .no) : ∃ n, whL c b n ρ h = whR c b ρ h := by
  unfold whR at z ⊢
  split at z
  · rename_i e
    exact ⟨_, by rw [dif_pos e]⟩
  · exact absurd rfl z
theorem whR_turn {c : En -> Hh -> Res Bool} {b : En -> Hh -> RS} {ρ ρ' : En} {h h1 h' : Hh} (ec : c ρ h = .ok true h1) (eb : b ρ h1 = .nx ρ' h') : whR c b ρ h = whR c b ρ' h' := by
  by_cases z : whR c b ρ' h' = .no
  · by_cases z2 : whR c b ρ h = .no
    · rw [z, z2]
    · obtain ⟨n, e⟩ := whR_has z2
      cases n with
      | zero => rw [<- e] at z2; exact absurd rfl z2
      | succ n =>
        rw [whL, ec] at e
        simp only [eb] at e
        rw [<- whR_eq e z2]
  · obtain ⟨n, e⟩ := whR_has z
    exact whR_eq (n := n + 1) (by rw [whL, ec]; simp only [eb]; exact e) z
theorem whR_done {c : En -> Hh -> Res Bool} {b : En -> Hh -> RS} {ρ : En} {h h1 : Hh} (ec : c ρ h = .ok false h1) : whR c b ρ h = .nx ρ h1 :=
  whR_eq (n := 1) (by rw [whL, ec]) (by simp)
noncomputable def tru (d : D) (h : Hh) (f : Bool -> Hh -> Res D) : Res D := match d with
  | .bl b => f b h
  | _ => .no
noncomputable def nilD (neg : Bool) (x : D) (h : Hh) : Res D := match x with
  | .fl xs => .ok (.bl (ngB neg xs.isEmpty)) h
  | .loc n => (match rd h n with | some xs => .ok (.bl (ngB neg xs.isEmpty)) h | none => .no)
  | _ => .no
noncomputable def lrD (x : D) (h : Hh) : Res D := match x with
  | .fl xs => new (.lst xs.reverse) h
  | .loc n => (match rd h n with | some xs => new (.lst xs.reverse) h | none => .no)
  | _ => .no
noncomputable def revD (x : D) (h : Hh) : Res (Ck × List D) := match x with
  | .fl xs => .ok ([], xs.reverse) h
  | .tup xs => .ok ([], xs.reverse) h
  | .loc n => (match rd h n with | some xs => .ok ([(n, xs)], xs.reverse) h | none => .no)
  | _ => .no
noncomputable def rngD (x y : D) (h : Hh) : Res (Ck × List D) := match x, y with
  | .int i, .int j => if -1000000 <= i /\ i <= 1000000 /\ -1000000 <= j /\ j <= 1000000 then .ok ([], (List.range (j - i).toNat).map fun k => .int (i + (k : Nat))) h else .no
  | _, _ => .no
noncomputable def Cv.d : Cv -> D
  | .tup xs => .tup (xs.map .str)
  | .int i => .int i
noncomputable def cstD (kvs : List (Str × Cv)) (y : D) (h : Hh) : Res D := match y with
  | .str k => (match kvs.lookup k with | some c => .ok c.d h | none => .no)
  | _ => .no
noncomputable def pairD : D -> Option (Key × D)
  | .tup [k, v] => (keyD k).map fun q => (q, v)
  | _ => none
noncomputable def pairsD : List D -> Option (List (Key × D))
  | [] => some []
  | x :: r => match pairD x, pairsD r with
    | some a, some b => some (a :: b)
    | _, _ => none
noncomputable def mergeD (kvs more : List (Key × D)) : List (Key × D) := more.foldl (fun acc kv => putD acc kv.1 kv.2) kvs
noncomputable def dicPD (x : D) (h : Hh) : Res D := match x with
  | .loc n => (match rd h n with
    | some xs => if xs.length <= 1000000 then (match pairsD xs with | some kvs => new (.dK (mergeD [] kvs)) h | none => .no) else .no
    | none => .no)
  | _ => .no
noncomputable def unpD (d : D) (h : Hh) : D := match d with
  | .loc n => (match rd h n with | some xs => .tup xs | none => .non)
  | d => d
@[simp] theorem unpD_tup {xs : List D} {h : Hh} : unpD (.tup xs) h = .tup xs := rfl
noncomputable def revTD (x y : D) (h : Hh) : Res D := match x with
  | .tup xs => (match y with | .int i => if i = -1 then .ok (.tup xs.reverse) h else .no | _ => .no)
  | _ => .no
noncomputable def downD (x y z : D) (h : Hh) : Res (Ck × List D) := match x with
  | .int i => (match y with
    | .int j => (match z with
      | .int k => if k = -1 /\ -1000000 <= i /\ i <= 1000000 /\ -1000000 <= j /\ j <= 1000000 then .ok ([], (List.range (i - j).toNat).map fun k => .int (i - (k : Nat))) h else .no
      | _ => .no)
    | _ => .no)
  | _ => .no
noncomputable section
variable (cl : Nat -> List D -> Hh -> Res D)
mutual
noncomputable def E.ev : E -> En -> Hh -> Res D
  | .non _, _, h => .ok .non h
  | .bl b _, _, h => .ok (.bl b) h
  | .int i _, _, h => .ok (.int i) h
  | .str x _, _, h => .ok (.str x) h
  | .var i _, ρ, h => match ρ[i]? with | some (some d) => .ok d h | _ => .no
  | .bin op a b _, ρ, h => (a.ev ρ h).bind fun x h1 => (b.ev ρ h1).bind fun y h2 => binD op x y h2
  | .un op a _, ρ, h => (a.ev ρ h).bind fun x h1 => unD op x h1
  | .cmp op a b _, ρ, h => (a.ev ρ h).bind fun x h1 => (b.ev ρ h1).bind fun y h2 => cmpD op x y h2
  | .and a b r _, ρ, h => (a.ev ρ h).bind fun x h1 => tru x h1 fun c h1 => if c then (b.ev ρ h1).bind fun y h2 => r.evAnd ρ y h2 else .ok (.bl false) h1
  | .or a b r _, ρ, h => (a.ev ρ h).bind fun x h1 => tru x h1 fun c h1 => if c then .ok (.bl true) h1 else (b.ev ρ h1).bind fun y h2 => r.evOr ρ y h2
  | .ite c a b _, ρ, h => (c.ev ρ h).bind fun x h1 => tru x h1 fun t h1 => if t then a.ev ρ h1 else b.ev ρ h1
  | .call f a r _ _, ρ, h => (a.ev ρ h).bind fun x h1 => (r.ev ρ h1).bind fun xs h2 => cl f (x :: xs) h2
  | .len a _ _, ρ, h => (a.ev ρ h).bind fun x h1 => lenD x h1
  | .sub a i _, ρ, h => (a.ev ρ h).bind fun x h1 => (i.ev ρ h1).bind fun y h2 => subD x y h2
  | .tup es _, ρ, h => (es.ev ρ h).bind fun xs h1 => if xs.length <= 1000 then .ok (.tup xs) h1 else .no
  | .ofL l, ρ, h => (l.ev ρ h).bind fun xs h1 => new (.lst xs) h1
  | .tupE e _ _, ρ, h => (e.ev ρ h).bind fun x h1 => match seqOf x h1 with | some xs => .ok (.tup xs) h1 | none => .no
  | .dicP e _ _, ρ, h => (e.ev ρ h).bind fun x h1 => dicPD x h1
  | .cut a lo hi _ _, ρ, h => (a.ev ρ h).bind fun x h1 => (lo.ev ρ h1).bind fun l h2 => (hi.ev ρ h2).bind fun u h3 => cutD x l u h3
  | .revT a st _ _, ρ, h => (a.ev ρ h).bind fun x h1 => (st.ev ρ h1).bind fun y h2 => revTD x y h2
  | .dic _, _, h => new (.dK []) h
  | .m0 m o _ _, ρ, h => (o.ev ρ h).bind fun x h1 => m0D m x h1
  | .m1 m o a _ _, ρ, h => (o.ev ρ h).bind fun x h1 => onL x h1 ((a.ev ρ h1).bind fun y h2 => m1D m x y h2)
  | .cmpN neg a _ _, ρ, h => (a.ev ρ h).bind fun x h1 => nilD neg x h1
  | .listR e _ _ _ _, ρ, h => (e.ev ρ h).bind fun x h1 => lrD x h1
  | .gcon _ c _, _, h => match c with | .int i => .ok (.int i) h | .str x => .ok (.str x) h | .tup xs => .ok (.tup (xs.map .str)) h | .dic _ => .no
  | .gsub _ kvs i _ _, ρ, h => (i.ev ρ h).bind fun y h1 => cstD kvs y h1
noncomputable def Eo.ev : Eo -> En -> Hh -> Res (Option Int)
  | .none, _, h => .ok none h
  | .some e, ρ, h => (e.ev ρ h).bind fun d h1 => intO d h1
noncomputable def L.ev : L -> En -> Hh -> Res (List D)
  | .disp es _, ρ, h => (es.ev ρ h).bind fun xs h1 => if xs.length <= 1000 then .ok xs h1 else .no
  | .comp elt t it c _ cap _ _, ρ, h => (it.ev ρ h).bind fun q h1 => if q.2.length <= 1000000 then compL q.1 (compF t (capE cap ρ) (fun ρ' h2 => c.evC ρ' h2) (fun ρ' h2 => elt.ev ρ' h2)) q.2 [] h1 else .no
noncomputable def I.ev : I -> En -> Hh -> Res (Ck × List D)
  | .seq e, ρ, h => (e.ev ρ h).bind fun x h1 => match x with
    | .tup xs => .ok ([], xs) h1
    | .fl xs => .ok ([], xs) h1
    | .loc n => match rd h1 n with | some xs => .ok ([(n, xs)], xs) h1 | none => .no
    | .str x => .ok ([], x.cps.toList.map fun c => .str ⟨#[c]⟩) h1
    | _ => .no
  | .lst l, ρ, h => (l.ev ρ h).bind fun xs h1 => .ok ([], xs) h1
  | .rng a _ _, ρ, h => (a.ev ρ h).bind fun x h1 => match x with
    | .int j => if -1000000 <= j /\ j <= 1000000 then .ok ([], (List.range j.toNat).map fun k => .int (k : Nat)) h1 else .no
    | _ => .no
  | .rng2 a b _ _, ρ, h => (a.ev ρ h).bind fun x h1 => (b.ev ρ h1).bind fun y h2 => rngD x y h2
  | .rngD a b c _ _, ρ, h => (a.ev ρ h).bind fun x h1 => (b.ev ρ h1).bind fun y h2 => (c.ev ρ h2).bind fun z h3 => downD x y z h3
  | .rev e _ _, ρ, h => (e.ev ρ h).bind fun x h1 => revD x h1
noncomputable def Es.evC : Es -> En -> Hh -> Res Bool
  | .nil, _, h => .ok true h
  | .cons e _, ρ, h => (e.ev ρ h).bind fun d h1 => match d with | .bl b => .ok b h1 | _ => .no
noncomputable def Es.ev : Es -> En -> Hh -> Res (List D)
  | .nil, _, h => .ok [] h
  | .cons e r, ρ, h => (e.ev ρ h).bind fun x h1 => (r.ev ρ h1).bind fun xs h2 => .ok (x :: xs) h2
noncomputable def Es.evAnd : Es -> En -> D -> Hh -> Res D
  | .nil, _, x, h => .ok x h
  | .cons e r, ρ, x, h => tru x h fun c h1 => if c then (e.ev ρ h1).bind fun y h2 => r.evAnd ρ y h2 else .ok (.bl false) h1
noncomputable def Es.evOr : Es -> En -> D -> Hh -> Res D
  | .nil, _, x, h => .ok x h
  | .cons e r, ρ, x, h => tru x h fun c h1 => if c then .ok (.bl true) h1 else (e.ev ρ h1).bind fun y h2 => r.evOr ρ y h2
end
noncomputable def E.evT (e : E) (ρ : En) (h : Hh) : Res Bool := (e.ev cl ρ h).bind fun d h1 => match d with | .bl b => .ok b h1 | _ => .no
noncomputable def andS {α : Type} (ρ : En) (r : Res α) (f : α -> Hh -> RS) : RS := match r with
  | .ok a h => f a h
  | .exc c h => .ex c ρ h
  | .no => .no
@[simp] theorem andS_ok {α : Type} {ρ : En} {a : α} {h : Hh} {f : α -> Hh -> RS} : andS ρ (.ok a h) f = f a h := rfl
@[simp] theorem andS_exc {α : Type} {ρ : En} {c : Nat} {h : Hh} {f : α -> Hh -> RS} : andS ρ (.exc c h) f = .ex c ρ h := rfl
noncomputable def seqS (o : RS) (f : En -> Hh -> RS) : RS := match o with
  | .nx ρ h => f ρ h
  | o => o
@[simp] theorem seqS_nx {ρ : En} {h : Hh} {f : En -> Hh -> RS} : seqS (.nx ρ h) f = f ρ h := rfl
@[simp] theorem seqS_rt {d : D} {h : Hh} {f : En -> Hh -> RS} : seqS (.rt d h) f = .rt d h := rfl
@[simp] theorem seqS_bk {ρ : En} {h : Hh} {f : En -> Hh -> RS} : seqS (.bk ρ h) f = .bk ρ h := rfl
@[simp] theorem seqS_ct {ρ : En} {h : Hh} {f : En -> Hh -> RS} : seqS (.ct ρ h) f = .ct ρ h := rfl
@[simp] theorem seqS_ex {c : Nat} {ρ : En} {h : Hh} {f : En -> Hh -> RS} : seqS (.ex c ρ h) f = .ex c ρ h := rfl
mutual
noncomputable def S.run : S -> En -> Hh -> RS
  | .set i e _ _, ρ, h => andS ρ (e.ev cl ρ h) fun d h1 => .nx (ρ.set i (some d)) h1
  | .ret e _, ρ, h => andS ρ (e.ev cl ρ h) fun d h1 => .rt d h1
  | .iff c a b _, ρ, h => andS ρ (c.evT cl ρ h) fun t h1 => if t then a.run ρ h1 else b.run ρ h1
  | .ex e _, ρ, h => andS ρ (e.ev cl ρ h) fun _ h1 => .nx ρ h1
  | .put o i v _ _, ρ, h => andS ρ (v.ev cl ρ h) fun z h1 => andS ρ (o.ev cl ρ h1) fun x h2 => andS ρ (i.ev cl ρ h2) fun y h3 => match putS x y z h3 with | some h4 => .nx ρ h4 | none => .no
  | .forr t it b _, ρ, h => andS ρ (it.ev cl ρ h) fun q h1 => forL q.1 (stepF t fun ρ' h' => b.run ρ' h') q.2 ρ h1
  | .whil c b _, ρ, h => whR (fun ρ' h' => c.evT cl ρ' h') (fun ρ' h' => b.run ρ' h') ρ h
  | .pass _, ρ, h => .nx ρ h
  | .brk _, ρ, h => .bk ρ h
  | .cnt _, ρ, h => .ct ρ h
  | .raw _, _, _ => .no
  | .iffN a i _ _ x y _, ρ, h => andS ρ (a.evT cl ρ h) fun c h1 => if c then (match ρ[i]? with | some (some (.bl c')) => if c' then x.run ρ h1 else y.run ρ h1 | some (some .non) => y.run ρ h1 | _ => .no) else y.run ρ h1
  | .tryN b _ _ _, ρ, h => (match b.run ρ h with | .ex _ _ _ => .no | o => o)
  | .setT is e p1 _, ρ, h => andS ρ (e.ev cl ρ h) fun d h1 => match bindT (.tup is p1) (unpD d h1) ρ with | some ρ' => .nx ρ' h1 | none => .no
noncomputable def Ss.run : Ss -> En -> Hh -> RS
  | .nil, ρ, h => .nx ρ h
  | .cons s r, ρ, h => seqS (s.run ρ h) fun ρ' h' => r.run ρ' h'
end
end
structure Df where
  name : Str
  ps : List Str
  N : List Str
  body : Ss
noncomputable def outR : RS -> Res D
  | .rt v h' => .ok v h'
  | .nx _ h' => .ok .non h'
  | .ex c _ h' => .exc c h'
  | _ => .no
noncomputable def Df.run (cl : Nat -> List D -> Hh -> Res D) (d : Df) (as : List D) (h : Hh) : Res D :=
  outR (d.body.run cl (as.map some ++ List.replicate (d.N.length - as.length) none) h)
noncomputable def callI (ds : List Df) : Nat -> Nat -> List D -> Hh -> Res D
  | 0, _, _, _ => .no
  | k + 1, f, as, h => match ds[f]? with
    | some d => if as.length = d.ps.length then d.run (callI ds k) as h else .no
    | none => .no
section
variable {i j : Int} {h : Hh} {x y : Str} {b c : Bool} {d e : D} {xs : List D}
@[simp] theorem bin_add : binD .Add (.int i) (.int j) h = .ok (.int (i + j)) h := rfl
@[simp] theorem bin_sub : binD .Sub (.int i) (.int j) h = .ok (.int (i - j)) h := rfl
@[simp] theorem bin_mul : binD .Mult (.int i) (.int j) h = if fits i = true /\ fits j = true then .ok (.int (i * j)) h else .no := rfl
@[simp] theorem bin_fdiv : binD .FloorDiv (.int i) (.int j) h = if 0 < j /\ j < 1073741824 then .ok (.int (i / j)) h else .no := rfl
@[simp] theorem bin_mod : binD .Mod (.int i) (.int j) h = if 0 < j then .ok (.int (i % j)) h else .no := rfl
@[simp] theorem bin_pow : binD .Pow (.int i) (.int j) h = if 0 <= j /\ j <= 1000000 /\ i.natAbs < 2 ^ 64 then .ok (.int (i ^ j.toNat)) h else .no := rfl
@[simp] theorem bin_shl : binD .LShift (.int i) (.int j) h = if fits i = true /\ 0 <= j /\ j <= 1000000 then .ok (.int (i * 2 ^ j.toNat)) h else .no := rfl
@[simp] theorem bin_shr : binD .RShift (.int i) (.int j) h = if 0 <= j then .ok (.int (i / 2 ^ j.toNat)) h else .no := rfl
@[simp] theorem bin_and : binD .BitAnd (.int i) (.int j) h = .ok (.int (Builtin.bitAnd i j)) h := rfl
@[simp] theorem bin_or : binD .BitOr (.int i) (.int j) h = .ok (.int (Builtin.bitOr i j)) h := rfl
@[simp] theorem bin_adds : binD .Add (.str x) (.str y) h = if x.length + y.length <= 1000000 then .ok (.str (x ++ y)) h else .no := rfl
@[simp] theorem cmp_lt : cmpD .Lt (.int i) (.int j) h = .ok (.bl (decide (i < j))) h := rfl
@[simp] theorem cmp_le : cmpD .LtE (.int i) (.int j) h = .ok (.bl (decide (i <= j))) h := rfl
@[simp] theorem cmp_gt : cmpD .Gt (.int i) (.int j) h = .ok (.bl (decide (j < i))) h := rfl
@[simp] theorem cmp_ge : cmpD .GtE (.int i) (.int j) h = .ok (.bl (decide (j <= i))) h := rfl
@[simp] theorem cmp_eq : cmpD .Eq d e h = eqR false (pdT h d) (pdT h e) h := rfl
@[simp] theorem cmp_ne : cmpD .NotEq d e h = eqR true (pdT h d) (pdT h e) h := rfl
@[simp] theorem cmp_in : cmpD .In d e h = inD false d e h := rfl
@[simp] theorem cmp_notin : cmpD .NotIn d e h = inD true d e h := rfl
@[simp] theorem cmp_isN : cmpD .Is d .non h = .ok (.bl (match d with | .non => true | _ => false)) h := by cases d <;> rfl
@[simp] theorem cmp_isnotN : cmpD .IsNot d .non h = .ok (.bl (match d with | .non => false | _ => true)) h := by cases d <;> rfl
@[simp] theorem cmp_is : cmpD .Is (.bl b) (.bl c) h = .ok (.bl (b == c)) h := rfl
@[simp] theorem cmp_isnot : cmpD .IsNot (.bl b) (.bl c) h = .ok (.bl (!(b == c))) h := rfl
@[simp] theorem eqR_some {neg : Bool} {u v : PyData} : eqR neg (some u) (some v) h = if u.canLay0 = true /\ v.canLay0 = true /\ u.depth <= 60 then .ok (.bl (if neg then !PyData.eqv u v else PyData.eqv u v)) h else .no := rfl
@[simp] theorem pdT_non : pdT h .non = some .none := by unfold pdT D.pd; rfl
@[simp] theorem pdT_bl : pdT h (.bl b) = some (.bool b) := by unfold pdT D.pd; rfl
@[simp] theorem pdT_int : pdT h (.int i) = some (.int i) := by unfold pdT D.pd; rfl
@[simp] theorem pdT_str : pdT h (.str x) = some (.str x) := by unfold pdT D.pd; rfl
@[simp] theorem pdT_tup : pdT h (.tup xs) = (D.pds h xs).map .tuple := by unfold pdT D.pd; rfl
@[simp] theorem pdT_loc {n : Nat} : pdT h (.loc n) = (rd h n).bind fun xs => (D.pds h xs).map .list := rfl
@[simp] theorem pds_nil : D.pds h [] = some [] := by unfold D.pds; rfl
@[simp] theorem un_not : unD .Not (.bl b) h = .ok (.bl (!b)) h := rfl
@[simp] theorem un_invert : unD .Invert (.int i) h = .ok (.int (Builtin.bitNot i)) h := rfl
@[simp] theorem un_usub : unD .USub (.int i) h = .ok (.int (-i)) h := rfl
@[simp] theorem pdT_fl : pdT h (.fl xs) = (D.pds h xs).map .list := by unfold pdT D.pd; rfl
@[simp] theorem len_fl : lenD (.fl xs) h = .ok (.int xs.length) h := rfl
@[simp] theorem sub_fl : subD (.fl xs) (.int i) h = match atI xs i with | some d => .ok d h | none => .no := rfl
@[simp] theorem len_tup : lenD (.tup xs) h = .ok (.int xs.length) h := rfl
@[simp] theorem len_loc {n : Nat} : lenD (.loc n) h = match rd h n with | some xs => .ok (.int xs.length) h | none => .no := rfl
@[simp] theorem len_str : lenD (.str x) h = if x.length <= 1000000 then .ok (.int x.length) h else .no := rfl
@[simp] theorem sub_tup : subD (.tup xs) (.int i) h = match atI xs i with | some d => .ok d h | none => .no := rfl
@[simp] theorem bin_muls : binD .Mult (.str x) (.int j) h = if 0 <= j /\ j <= 1000 /\ x.length <= 1000 then .ok (.str (Txt.mul x j)) h else .no := rfl
@[simp] theorem bin_addt {ys : List D} : binD .Add (.tup xs) (.tup ys) h = if xs.length + ys.length <= 1000000 then .ok (.tup (xs ++ ys)) h else .no := rfl
@[simp] theorem bin_addl {n m : Nat} : binD .Add (.loc n) (.loc m) h = (match h[n]?, h[m]? with
    | some (.lst xs), some (.lst ys) => if xs.length + ys.length <= 1000000 then .ok (.loc h.length) (h ++ [.lst (xs ++ ys)]) else .no
    | _, _ => .no) := rfl
theorem sub_str : subD (.str x) (.int i) h = if x.length <= 1000000 then (match atI x.cps.toList i with | some c => .ok (.str ⟨#[c]⟩) h | none => .no) else .no := rfl
theorem sub_loc {n : Nat} {y : D} : subD (.loc n) y h = (match h[n]? with
    | some (.dK kvs) => match (keyD y).bind (fun k => valD kvs k) with | some d => .ok d h | none => .no
    | some (.lst xs) => match y with
      | .int k => match atI xs k with | some d => .ok d h | none => .no
      | _ => .no
    | none => .no) := rfl
@[simp] theorem tru_bl {f : Bool -> Hh -> Res D} : tru (.bl b) h f = f b h := rfl
end
theorem callI_succ {ds : List Df} {k i : Nat} {d : Df} {as : List D} {h : Hh} (hd : ds[i]? = some d) (hl : as.length = d.ps.length) : callI ds (k + 1) i as h = d.run (callI ds k) as h := by
  unfold callI; rw [hd]; exact if_pos hl
theorem len0 {α : Type} {P : List α -> Prop} (f : P []) (us : List α) (hl : us.length = 0) : P us := by
  cases us with
  | nil => exact f
  | cons => cases hl
theorem lenS {α : Type} {n : Nat} {P : List α -> Prop} (f : ∀ a us, us.length = n -> P (a :: us)) (us : List α) (hl : us.length = n + 1) : P us := by
  cases us with
  | nil => cases hl
  | cons a r => exact f a r (Nat.succ.inj hl)
theorem len1 {α : Type} {P : List α -> Prop} (f : ∀ a, P [a]) : ∀ us : List α, us.length = 1 -> P us := lenS fun a => len0 (P := fun us => P (a :: us)) (f a)
theorem len2 {α : Type} {P : List α -> Prop} (f : ∀ a b, P [a, b]) : ∀ us : List α, us.length = 2 -> P us := lenS fun a => len1 (P := fun us => P (a :: us)) (f a)
theorem len3 {α : Type} {P : List α -> Prop} (f : ∀ a b c, P [a, b, c]) : ∀ us : List α, us.length = 3 -> P us := lenS fun a => len2 (P := fun us => P (a :: us)) (f a)
theorem len4 {α : Type} {P : List α -> Prop} (f : ∀ a b c d, P [a, b, c, d]) : ∀ us : List α, us.length = 4 -> P us := lenS fun a => len3 (P := fun us => P (a :: us)) (f a)
theorem len5 {α : Type} {P : List α -> Prop} (f : ∀ a b c d e, P [a, b, c, d, e]) : ∀ us : List α, us.length = 5 -> P us := lenS fun a => len4 (P := fun us => P (a :: us)) (f a)
theorem len6 {α : Type} {P : List α -> Prop} (f : ∀ a b c d e f, P [a, b, c, d, e, f]) : ∀ us : List α, us.length = 6 -> P us := lenS fun a => len5 (P := fun us => P (a :: us)) (f a)
theorem len7 {α : Type} {P : List α -> Prop} (f : ∀ a b c d e f g, P [a, b, c, d, e, f, g]) : ∀ us : List α, us.length = 7 -> P us := lenS fun a => len6 (P := fun us => P (a :: us)) (f a)
end PI
set_option Elab.async false
set_option linter.all false
set_option maxRecDepth 100000
namespace PI
open PySem L2
noncomputable def Fz (K : PySem.W.Frag) (H : Hp) (a : Addr) (vs : List V) : Prop := (∃ o, H a = some (.frz o (.lst vs))) \/ ∀ H', SqL K H' a vs
theorem Fz.sq {K : PySem.W.Frag} {H : Hp} {a : Addr} {vs : List V} (h : Fz K H a vs) : SqL K H a vs := h.elim (fun ⟨o, q⟩ => .inl (.inr ⟨o, q⟩)) fun q => q H
mutual
inductive Rep (K : PySem.W.Frag) (μ : List Addr) (H : Hp) : D -> V -> Prop
  | non : Rep K μ H .non .non
  | bl (b : Bool) : Rep K μ H (.bl b) (.bl b)
  | int (i : Int) : Rep K μ H (.int i) (.int i)
  | str (x : Str) : Rep K μ H (.str x) (.str x)
  | tup {ds : List D} {vs : List V} {a : Addr} : SqT K H a vs -> Reps K μ H ds vs -> Rep K μ H (.tup ds) (.ref a)
  | loc {n : Nat} {a : Addr} : μ[n]? = some a -> Rep K μ H (.loc n) (.ref a)
  | fl {ds : List D} {vs : List V} {a : Addr} : Fz K H a vs -> Reps K μ H ds vs -> Rep K μ H (.fl ds) (.ref a)
inductive Reps (K : PySem.W.Frag) (μ : List Addr) (H : Hp) : List D -> List V -> Prop
  | nil : Reps K μ H [] []
  | cons {d : D} {v : V} {ds : List D} {vs : List V} : Rep K μ H d v -> Reps K μ H ds vs -> Reps K μ H (d :: ds) (v :: vs)
end
structure Ext (K : PySem.W.Frag) (μ : List Addr) (H : Hp) (μ' : List Addr) (H' : Hp) : Prop where
  loc : ∀ (n : Nat) a, μ[n]? = some a -> μ'[n]? = some a
  tup : ∀ a xs, SqT K H a xs -> SqT K H' a xs
  fz : ∀ a xs, Fz K H a xs -> Fz K H' a xs
  oth : ∀ a o, H a = some o -> a ∉ μ -> H' a = some o
  new : ∀ a, a ∈ μ' -> a ∈ μ \/ H a = none
theorem Ext.refl {K : PySem.W.Frag} {μ : List Addr} {H : Hp} : Ext K μ H μ H := ⟨fun _ _ h => h, fun _ _ h => h, fun _ _ h => h, fun _ _ h _ => h, fun _ h => .inl h⟩
theorem Ext.sub {K : PySem.W.Frag} {μ μ1 : List Addr} {H H1 : Hp} (a : Ext K μ H μ1 H1) {x : Addr} (h : x ∈ μ) : x ∈ μ1 := by
  obtain ⟨n, hn⟩ := List.getElem?_of_mem h
  exact List.mem_of_getElem? (a.loc n x hn)
theorem Ext.apart {K : PySem.W.Frag} {μ μ1 : List Addr} {H H1 : Hp} (a : Ext K μ H μ1 H1) {x : Addr} {o : HO} (h : H x = some o) (n : x ∉ μ) : x ∉ μ1 := fun z => by
  rcases a.new x z with q | q
  · exact n q
  · rw [h] at q; cases q
theorem Ext.trans {K : PySem.W.Frag} {μ μ1 μ2 : List Addr} {H H1 H2 : Hp} (a : Ext K μ H μ1 H1) (b : Ext K μ1 H1 μ2 H2) : Ext K μ H μ2 H2 := by
  refine ⟨fun n x h => b.loc n x (a.loc n x h), fun x y h => b.tup x y (a.tup x y h), fun x y h => b.fz x y (a.fz x y h), fun x o h n => b.oth x o (a.oth x o h n) (a.apart h n), fun x h => ?_⟩
  rcases b.new x h with z | z
  · exact a.new x z
  · by_cases hx : x ∈ μ
    · exact .inl hx
    · right
      cases e : H x with
      | none => rfl
      | some o => rw [a.oth x o e hx] at z; cases z
mutual
theorem Rep.mono {K : PySem.W.Frag} {μ μ' : List Addr} {H H' : Hp} (e : Ext K μ H μ' H') : ∀ {d : D} {v : V}, Rep K μ H d v -> Rep K μ' H' d v
  | _, _, .non => .non
  | _, _, .bl b => .bl b
  | _, _, .int i => .int i
  | _, _, .str x => .str x
  | _, _, .tup h r => .tup (e.tup _ _ h) (Reps.mono e r)
  | _, _, .loc h => .loc (e.loc _ _ h)
  | _, _, .fl h r => .fl (e.fz _ _ h) (Reps.mono e r)
theorem Reps.mono {K : PySem.W.Frag} {μ μ' : List Addr} {H H' : Hp} (e : Ext K μ H μ' H') : ∀ {ds : List D} {vs : List V}, Reps K μ H ds vs -> Reps K μ' H' ds vs
  | _, _, .nil => .nil
  | _, _, .cons h r => .cons (Rep.mono e h) (Reps.mono e r)
end
mutual
theorem Rep.mono' {K : PySem.W.Frag} {μ μ' : List Addr} {H : Hp} (e : ∀ (n : Nat) a, μ[n]? = some a -> μ'[n]? = some a) : ∀ {d : D} {v : V}, Rep K μ H d v -> Rep K μ' H d v
  | _, _, .non => .non
  | _, _, .bl b => .bl b
  | _, _, .int i => .int i
  | _, _, .str x => .str x
  | _, _, .tup h r => .tup h (Reps.mono' e r)
  | _, _, .loc h => .loc (e _ _ h)
  | _, _, .fl h r => .fl h (Reps.mono' e r)
theorem Reps.mono' {K : PySem.W.Frag} {μ μ' : List Addr} {H : Hp} (e : ∀ (n : Nat) a, μ[n]? = some a -> μ'[n]? = some a) : ∀ {ds : List D} {vs : List V}, Reps K μ H ds vs -> Reps K μ' H ds vs
  | _, _, .nil => .nil
  | _, _, .cons h r => .cons (Rep.mono' e h) (Reps.mono' e r)
end
theorem Reps.length {K : PySem.W.Frag} {μ : List Addr} {H : Hp} : ∀ {ds : List D} {vs : List V}, Reps K μ H ds vs -> ds.length = vs.length
  | _, _, .nil => rfl
  | _, _, .cons _ r => by rw [List.length_cons, List.length_cons, r.length]
theorem Reps.get {K : PySem.W.Frag} {μ : List Addr} {H : Hp} : ∀ {ds : List D} {vs : List V} {i : Nat} {d : D}, Reps K μ H ds vs -> ds[i]? = some d -> ∃ v, vs[i]? = some v /\ Rep K μ H d v
  | _, _, _, _, .nil, e => by simp at e
  | _, _, 0, _, .cons h _, e => by simp at e; subst e; exact ⟨_, rfl, h⟩
  | _, _, i + 1, d, .cons _ r, e => by
    obtain ⟨v, h1, h2⟩ := Reps.get (i := i) (d := d) r (by simpa using e)
    exact ⟨v, by simpa using h1, h2⟩
theorem Reps.append {K : PySem.W.Frag} {μ : List Addr} {H : Hp} : ∀ {ds es : List D} {vs ws : List V}, Reps K μ H ds vs -> Reps K μ H es ws -> Reps K μ H (ds ++ es) (vs ++ ws)
  | _, _, _, _, .nil, r => r
  | _, _, _, _, .cons h t, r => .cons h (t.append r)
theorem Reps.atI {K : PySem.W.Frag} {μ : List Addr} {H : Hp} {ds : List D} {vs : List V} {k : Int} {d : D} (r : Reps K μ H ds vs) (e : L2.atI ds k = some d) : ∃ v, L2.atI vs k = some v /\ Rep K μ H d v := by
  unfold L2.atI at e ⊢
  rw [<- r.length]
  cases h : ixN ds.length k with
  | none => rw [h] at e; cases e
  | some j =>
    rw [h] at e
    exact r.get e
inductive RepKs (K : PySem.W.Frag) (μ : List Addr) (H : Hp) : List (Key × D) -> List (Key × V) -> Prop
  | nil : RepKs K μ H [] []
  | cons {k : Key} {d : D} {v : V} {ds : List (Key × D)} {vs : List (Key × V)} : Rep K μ H d v -> RepKs K μ H ds vs -> RepKs K μ H ((k, d) :: ds) ((k, v) :: vs)
theorem RepKs.mono {K : PySem.W.Frag} {μ μ' : List Addr} {H H' : Hp} (e : Ext K μ H μ' H') : ∀ {ds : List (Key × D)} {vs : List (Key × V)}, RepKs K μ H ds vs -> RepKs K μ' H' ds vs
  | _, _, .nil => .nil
  | _, _, .cons h r => .cons (h.mono e) (r.mono e)
theorem RepKs.length {K : PySem.W.Frag} {μ : List Addr} {H : Hp} : ∀ {ds : List (Key × D)} {vs : List (Key × V)}, RepKs K μ H ds vs -> ds.length = vs.length
  | _, _, .nil => rfl
  | _, _, .cons _ r => by rw [List.length_cons, List.length_cons, r.length]
noncomputable def RepO (K : PySem.W.Frag) (μ : List Addr) (H : Hp) (a : Addr) : O -> Prop
  | .lst ds => ∃ vs, H a = some (.lst vs) /\ Reps K μ H ds vs
  | .dK kvs => ∃ vs, H a = some (.dK vs) /\ RepKs K μ H kvs vs
theorem RepKs.mono' {K : PySem.W.Frag} {μ μ' : List Addr} {H : Hp} (e : ∀ (n : Nat) a, μ[n]? = some a -> μ'[n]? = some a) : ∀ {ds : List (Key × D)} {vs : List (Key × V)}, RepKs K μ H ds vs -> RepKs K μ' H ds vs
  | _, _, .nil => .nil
  | _, _, .cons h r => .cons (h.mono' e) (r.mono' e)
theorem RepO.mono' {K : PySem.W.Frag} {μ μ' : List Addr} {H : Hp} {a : Addr} {o : O} (e : ∀ (n : Nat) a, μ[n]? = some a -> μ'[n]? = some a) (r : RepO K μ H a o) : RepO K μ' H a o := by
  cases o with
  | lst ds => obtain ⟨vs, q, r⟩ := r; exact ⟨vs, q, r.mono' e⟩
  | dK ds => obtain ⟨vs, q, r⟩ := r; exact ⟨vs, q, r.mono' e⟩
structure HR (K : PySem.W.Frag) (μ : List Addr) (h : Hh) (H : Hp) : Prop where
  len : μ.length = h.length
  inj : ∀ (n m : Nat) (a : Addr), μ[n]? = some a -> μ[m]? = some a -> n = m
  obj : ∀ (n : Nat) (a : Addr) (o : O), μ[n]? = some a -> h[n]? = some o -> RepO K μ H a o
theorem HR.at {K : PySem.W.Frag} {μ : List Addr} {h : Hh} {H : Hp} (r : HR K μ h H) {n : Nat} {o : O} (e : h[n]? = some o) : ∃ a, μ[n]? = some a /\ RepO K μ H a o := by
  have hn : n < h.length := (List.getElem?_eq_some_iff.mp e).1
  have hm : n < μ.length := by rw [r.len]; exact hn
  exact ⟨μ[n], List.getElem?_eq_getElem hm, r.obj n _ o (List.getElem?_eq_getElem hm) e⟩
theorem HR.fresh {K : PySem.W.Frag} {μ : List Addr} {h : Hh} {H : Hp} (r : HR K μ h H) {p : Addr} (hp : H p = none) : p ∉ μ := fun z => by
  obtain ⟨n, hn⟩ := List.getElem?_of_mem z
  have hl : n < h.length := by rw [<- r.len]; exact (List.getElem?_eq_some_iff.mp hn).1
  have := r.obj n p h[n] hn (List.getElem?_eq_getElem hl)
  cases e : h[n] with
  | lst ds => rw [e] at this; obtain ⟨vs, q, _⟩ := this; rw [hp] at q; cases q
  | dK ds => rw [e] at this; obtain ⟨vs, q, _⟩ := this; rw [hp] at q; cases q
theorem ext_new {K : PySem.W.Frag} {μ : List Addr} {H : Hp} {p : Addr} {u : HO} (hp : H p = none) : Ext K μ H μ (upd H p u) :=
  ⟨fun _ _ h => h, fun a xs h => by
    rcases h with h | h
    · left
      rcases h with h | ⟨o, h⟩
      · exact .inl (by rw [upd_ne (fun z => by rw [z, hp] at h; cases h)]; exact h)
      · exact .inr ⟨o, by rw [upd_ne (fun z => by rw [z, hp] at h; cases h)]; exact h⟩
    · exact .inr h, fun a xs h => by
    rcases h with ⟨o, h⟩ | h
    · exact .inl ⟨o, by rw [upd_ne (fun z => by rw [z, hp] at h; cases h)]; exact h⟩
    · exact .inr h, fun a o h _ => by rw [upd_ne (fun z => by rw [z, hp] at h; cases h)]; exact h, fun _ h => .inl h⟩
theorem Ext.add {K : PySem.W.Frag} {μ μ' : List Addr} {H H' : Hp} {p : Addr} (e : Ext K μ H μ' H') (hp : H p = none) : Ext K μ H (μ' ++ [p]) H' :=
  ⟨fun n a h => by rw [List.getElem?_append_left (List.getElem?_eq_some_iff.mp (e.loc n a h)).1]; exact e.loc n a h, e.tup, e.fz, e.oth,
    fun a h => by
      rcases List.mem_append.mp h with h | h
      · exact e.new a h
      · rw [List.mem_singleton.mp h]; exact .inr hp⟩
theorem RepO.keep {K : PySem.W.Frag} {μ μ' : List Addr} {H H' : Hp} {a : Addr} {o : O} (e : Ext K μ H μ' H') (k : ∀ u, H a = some u -> H' a = some u) (r : RepO K μ H a o) : RepO K μ' H' a o := by
  cases o with
  | lst ds => obtain ⟨vs, q, r⟩ := r; exact ⟨vs, k _ q, r.mono e⟩
  | dK ds => obtain ⟨vs, q, r⟩ := r; exact ⟨vs, k _ q, r.mono e⟩
theorem keep_new {H : Hp} {p a : Addr} {u w : HO} (hp : H p = none) (h : H a = some w) : upd H p u a = some w := by
  rw [upd_ne (fun z => by rw [z, hp] at h; cases h)]; exact h
theorem HR.tup {K : PySem.W.Frag} {μ : List Addr} {h : Hh} {H : Hp} {p : Addr} {u : HO} (r : HR K μ h H) (hp : H p = none) : HR K μ h (upd H p u) :=
  ⟨r.len, r.inj, fun n a o e1 e2 => (r.obj n a o e1 e2).keep (ext_new hp) fun _ q => keep_new hp q⟩
theorem HR.add {K : PySem.W.Frag} {μ : List Addr} {h : Hh} {H : Hp} {p : Addr} {o : O} (r : HR K μ h H) (hp : p ∉ μ) (q : ∀ μ', (∀ (n : Nat) a, μ[n]? = some a -> μ'[n]? = some a) -> RepO K μ' H p o) : HR K (μ ++ [p]) (h ++ [o]) H := by
  have gr : ∀ (n : Nat) a, μ[n]? = some a -> (μ ++ [p])[n]? = some a := fun n a e => by rw [List.getElem?_append_left (List.getElem?_eq_some_iff.mp e).1]; exact e
  refine ⟨by rw [List.length_append, List.length_append, r.len]; rfl, fun n m a e1 e2 => ?_, fun n a o1 e1 e2 => ?_⟩
  · have key : ∀ (n : Nat) (a : Addr), (μ ++ [p])[n]? = some a -> (n < μ.length /\ μ[n]? = some a) \/ (n = μ.length /\ a = p) := fun n a e => by
      by_cases hn : n < μ.length
      · rw [List.getElem?_append_left hn] at e; exact .inl ⟨hn, e⟩
      · right
        rw [List.getElem?_append_right (by omega)] at e
        have : n - μ.length = 0 := by
          cases q : n - μ.length with
          | zero => rfl
          | succ z => rw [q] at e; simp at e
        rw [this] at e
        simp at e
        exact ⟨by omega, e.symm⟩
    rcases key n a e1 with ⟨hn, q1⟩ | ⟨hn, q1⟩ <;> rcases key m a e2 with ⟨hm, q2⟩ | ⟨hm, q2⟩
    · exact r.inj n m a q1 q2
    · exact absurd (List.mem_of_getElem? q1) (q2 ▸ hp)
    · exact absurd (List.mem_of_getElem? q2) (q1 ▸ hp)
    · omega
  · by_cases hn : n < μ.length
    · rw [List.getElem?_append_left hn] at e1
      rw [List.getElem?_append_left (by rw [<- r.len]; exact hn)] at e2
      exact (r.obj n a o1 e1 e2).mono' gr
    · rw [List.getElem?_append_right (by omega)] at e1
      have hz : n - μ.length = 0 := by
        cases z : n - μ.length with
        | zero => rfl
        | succ y => rw [z] at e1; simp at e1
      rw [hz] at e1
      simp at e1
      subst e1
      rw [List.getElem?_append_right (by rw [<- r.len]; omega), <- r.len, hz] at e2
      simp at e2
      subst e2
      exact q _ gr
theorem HR.alloc {K : PySem.W.Frag} {μ : List Addr} {h : Hh} {H : Hp} {p : Addr} {u : HO} {o : O} (r : HR K μ h H) (hp : H p = none) (hm : p ∉ μ) (q : ∀ μ', (∀ (n : Nat) a, μ[n]? = some a -> μ'[n]? = some a) -> RepO K μ' (upd H p u) p o) : HR K (μ ++ [p]) (h ++ [o]) (upd H p u) :=
  (r.tup hp).add hm q
theorem HR.chg {K : PySem.W.Frag} {μ : List Addr} {h : Hh} {H : Hp} {n : Nat} {a : Addr} {o o' : O} {u : HO} (r : HR K μ h H) (hn : h[n]? = some o) (ha : μ[n]? = some a)
    (q : ∀ H', Ext K μ H μ H' -> H' a = some u -> RepO K μ H' a o') : HR K μ (h.set n o') (upd H a u) /\ Ext K μ H μ (upd H a u) := by
  obtain ⟨w, hw, nt, nf⟩ : ∃ w, H a = some w /\ (∀ xs, w ≠ .tup xs) /\ ∀ o x, w ≠ .frz o x := by
    have z := r.obj n a o ha hn
    cases o with
    | lst ds => obtain ⟨vs, e, _⟩ := z; exact ⟨_, e, fun _ y => (nomatch y), fun _ _ y => (nomatch y)⟩
    | dK ds => obtain ⟨vs, e, _⟩ := z; exact ⟨_, e, fun _ y => (nomatch y), fun _ _ y => (nomatch y)⟩
  have ht : ∀ b xs, SqT K H b xs -> SqT K (upd H a u) b xs := fun b xs z => by
    rcases z with z | z
    · left
      rcases z with z | ⟨ob, z⟩
      · exact .inl (by rw [upd_ne (fun y => by rw [y, hw] at z; exact nt _ (Option.some.inj z))]; exact z)
      · exact .inr ⟨ob, by rw [upd_ne (fun y => by rw [y, hw] at z; exact nf _ _ (Option.some.inj z))]; exact z⟩
    · exact .inr z
  have hf : ∀ b xs, Fz K H b xs -> Fz K (upd H a u) b xs := fun b xs z => by
    rcases z with ⟨ob, z⟩ | z
    · exact .inl ⟨ob, by rw [upd_ne (fun y => by rw [y, hw] at z; exact nf _ _ (Option.some.inj z))]; exact z⟩
    · exact .inr z
  have ex : Ext K μ H μ (upd H a u) := ⟨fun _ _ z => z, ht, hf, fun b v e z => by rw [upd_ne (fun (y : b = a) => z (by rw [y]; exact List.mem_of_getElem? ha))]; exact e, fun _ z => .inl z⟩
  have hl : n < h.length := (List.getElem?_eq_some_iff.mp hn).1
  refine ⟨⟨by rw [List.length_set]; exact r.len, r.inj, fun m b v e1 e2 => ?_⟩, ex⟩
  by_cases hmn : m = n
  · subst hmn
    rw [List.getElem?_set_self hl] at e2
    cases e2
    rw [ha] at e1
    cases e1
    exact q _ ex upd_same
  · rw [List.getElem?_set_ne (Ne.symm hmn)] at e2
    have nb : b ≠ a := fun y => hmn (r.inj m n a (y ▸ e1) ha)
    exact (r.obj m b v e1 e2).keep ex fun _ g => by rw [upd_ne nb]; exact g
structure ER (K : PySem.W.Frag) (μ : List Addr) (ρ : En) (σ : St) (H : Hp) : Prop where
  len : ρ.length = σ.length
  val : ∀ (i : Nat) d, ρ[i]? = some (some d) -> ∃ v, σ[i]? = some (some v) /\ Rep K μ H d v
theorem ER.mono {K : PySem.W.Frag} {μ μ' : List Addr} {H H' : Hp} {ρ : En} {σ : St} (r : ER K μ ρ σ H) (e : Ext K μ H μ' H') : ER K μ' ρ σ H' :=
  ⟨r.len, fun i d h => let ⟨v, a, b⟩ := r.val i d h; ⟨v, a, b.mono e⟩⟩
theorem ER.set {K : PySem.W.Frag} {μ : List Addr} {H : Hp} {ρ : En} {σ : St} {d : D} {v : V} (r : ER K μ ρ σ H) (q : Rep K μ H d v) (i : Nat) : ER K μ (ρ.set i (some d)) (σ.set i (some v)) H := by
  refine ⟨by rw [List.length_set, List.length_set, r.len], fun j e hj => ?_⟩
  by_cases hij : i = j
  · subst hij
    rw [List.getElem?_set] at hj ⊢
    have hl : i < ρ.length := by
      by_cases hl : i < ρ.length
      · exact hl
      · rw [if_pos rfl, if_neg hl] at hj; cases hj
    rw [if_pos rfl, if_pos hl] at hj
    rw [if_pos rfl, if_pos (by rw [<- r.len]; exact hl)]
    cases hj
    exact ⟨v, rfl, q⟩
  · rw [List.getElem?_set_ne hij] at hj ⊢
    exact r.val j e hj
noncomputable def PostE {α β : Type} (K : PySem.W.Frag) (cv : Nat -> Value) (R : List Addr -> Hp -> α -> β -> Prop) (μ : List Addr) (H : Hp) (r : Res α) (Q : β -> Hp -> Prop) (Z : Value -> Hp -> Prop) : Prop :=
  match r with
  | .ok d h' => ∀ μ' H' v, Ext K μ H μ' H' -> HR K μ' h' H' -> R μ' H' d v -> Q v H'
  | .exc c h' => ∀ μ' H', Ext K μ H μ' H' -> HR K μ' h' H' -> Z (cv c) H'
  | .no => False
noncomputable def lift {α β : Type} (K : PySem.W.Frag) (cv : Nat -> Value) (R : List Addr -> Hp -> α -> β -> Prop) (Z : ZK) (m : En -> Hh -> Res α) : St -> Hp -> (β -> Hp -> Prop) -> Prop :=
  fun σ H Q => ∃ μ ρ h, HR K μ h H /\ ER K μ ρ σ H /\ PostE K cv R μ H (m ρ h) Q (Z σ)
theorem lift_elim {α β : Type} {K : PySem.W.Frag} {cv : Nat -> Value} {R : List Addr -> Hp -> α -> β -> Prop} {Z : ZK} {m : En -> Hh -> Res α} {σ : St} {H : Hp} {Q : β -> Hp -> Prop} {G : Prop} (f : ∀ μ ρ h, HR K μ h H -> ER K μ ρ σ H -> PostE K cv R μ H (m ρ h) Q (Z σ) -> G) (x : lift K cv R Z m σ H Q) : G := by
  obtain ⟨μ, ρ, h, hr, er, q⟩ := x
  exact f μ ρ h hr er q
theorem lift_bind {α β γ δ : Type} {K : PySem.W.Frag} {cv : Nat -> Value} {R : List Addr -> Hp -> α -> β -> Prop} {R' : List Addr -> Hp -> γ -> δ -> Prop} {μ : List Addr} {ρ : En} {h : Hh} {σ : St} {H : Hp} {Z : ZK} {m : En -> Hh -> Res α} {f : α -> Hh -> Res γ} {Q : δ -> Hp -> Prop} {Q' : β -> Hp -> Prop}
    (hr : HR K μ h H) (er : ER K μ ρ σ H) (p : PostE K cv R' μ H ((m ρ h).bind f) Q (Z σ))
    (go : ∀ a h1 μ1 H1 x, m ρ h = .ok a h1 -> Ext K μ H μ1 H1 -> HR K μ1 h1 H1 -> ER K μ1 ρ σ H1 -> R μ1 H1 a x -> PostE K cv R' μ1 H1 (f a h1) Q (Z σ) -> Q' x H1) :
    lift K cv R Z m σ H Q' := by
  refine ⟨μ, ρ, h, hr, er, ?_⟩
  cases e : m ρ h with
  | ok a h1 =>
    rw [e, bind_ok] at p
    intro μ1 H1 x e1 r1 q1
    refine go a h1 μ1 H1 x e e1 r1 (er.mono e1) q1 ?_
    unfold PostE at p ⊢
    cases e2 : f a h1 with
    | ok b h2 => rw [e2] at p; exact fun μ2 H2 v e3 r3 q3 => p μ2 H2 v (e1.trans e3) r3 q3
    | exc c h2 => rw [e2] at p; exact fun μ2 H2 e3 r3 => p μ2 H2 (e1.trans e3) r3
    | no => rw [e2] at p; exact p
  | exc c h1 => rw [e, bind_exc] at p; exact p
  | no => rw [e, bind_no] at p; exact p
theorem PostE.bnd {α β γ δ : Type} {K : PySem.W.Frag} {cv : Nat -> Value} {R : List Addr -> Hp -> α -> β -> Prop} {R' : List Addr -> Hp -> γ -> δ -> Prop} {μ : List Addr} {H : Hp} {Z : Value -> Hp -> Prop} {r : Res α} {f : α -> Hh -> Res γ} {Q : δ -> Hp -> Prop} {Q' : β -> Hp -> Prop}
    (p : PostE K cv R' μ H (r.bind f) Q Z) (go : ∀ a h1 μ1 H1 x, r = .ok a h1 -> Ext K μ H μ1 H1 -> HR K μ1 h1 H1 -> R μ1 H1 a x -> PostE K cv R' μ1 H1 (f a h1) Q Z -> Q' x H1) : PostE K cv R μ H r Q' Z := by
  cases e : r with
  | ok a h1 =>
    rw [e, bind_ok] at p
    intro μ1 H1 x e1 r1 q1
    refine go a h1 μ1 H1 x e e1 r1 q1 ?_
    unfold PostE at p ⊢
    cases e2 : f a h1 with
    | ok b h2 => rw [e2] at p; exact fun μ2 H2 v e3 r3 q3 => p μ2 H2 v (e1.trans e3) r3 q3
    | exc c h2 => rw [e2] at p; exact fun μ2 H2 e3 r3 => p μ2 H2 (e1.trans e3) r3
    | no => rw [e2] at p; exact p
  | exc c h1 => rw [e, bind_exc] at p; exact p
  | no => rw [e, bind_no] at p; exact p
theorem PostE.here {α β : Type} {K : PySem.W.Frag} {cv : Nat -> Value} {R : List Addr -> Hp -> α -> β -> Prop} {μ : List Addr} {H : Hp} {d : α} {h : Hh} {v : β} {Q : β -> Hp -> Prop} {Z : Value -> Hp -> Prop} (p : PostE K cv R μ H (.ok d h) Q Z) (hr : HR K μ h H) (r : R μ H d v) : Q v H :=
  p μ H v Ext.refl hr r
end PI
set_option Elab.async false
set_option linter.all false
set_option maxRecDepth 100000
namespace PI
open PySem L2 PySem.Spec
open PyProof.Rows hiding St
section
variable {X : Cx} {pins : List (Addr × Obj)} {σ : St} {H : Hp} {s : Shared} {μ : List Addr} {h : Hh}
mutual
theorem reads_of (I : Inv X pins σ H s) : ∀ {d : D} {v : V} {u : Value} {p : PyData}, Rep X.K μ H d v -> RelV v u -> D.pd h d = some p -> ∃ as, Reads s.heap u p as
  | .non, _, _, _, r, q, e => by cases r; cases q; cases e; exact ⟨_, .none⟩
  | .bl b, _, _, _, r, q, e => by cases r; cases q; cases e; exact ⟨_, .bool b⟩
  | .int i, _, _, _, r, q, e => by cases r; obtain ⟨t, rfl⟩ := q; cases e; exact ⟨_, .int i t⟩
  | .str x, _, _, _, r, q, e => by cases r; obtain ⟨t, rfl⟩ := q; cases e; exact ⟨_, .str x t⟩
  | .tup ds, _, _, _, r, q, e => by
    cases r with
    | tup hs rs =>
      cases q
      unfold D.pd at e
      cases e1 : D.pds h ds with
      | none => rw [e1] at e; cases e
      | some ps =>
        rw [e1] at e; cases e
        obtain ⟨its, rv, ⟨o, g1, g2, n, g3⟩, _⟩ := I.tuple hs
        obtain ⟨as, ra⟩ := readsAll_of I rs rv e1
        exact ⟨_, .tuple g1 g2 g3 (by simpa using ra)⟩
  | .loc n, _, _, _, r, q, e => by cases e
  | .fl ds, _, _, _, r, q, e => by
    cases r with
    | fl hs rs =>
      cases q
      unfold D.pd at e
      cases e1 : D.pds h ds with
      | none => rw [e1] at e; cases e
      | some ps =>
        rw [e1] at e; cases e
        obtain ⟨its, rv, ⟨o, n, g1, g2, _, g3⟩, _⟩ := I.list hs.sq
        obtain ⟨as, ra⟩ := readsAll_of I rs rv e1
        exact ⟨_, .list g1 g2 g3 (by simpa using ra)⟩
theorem readsAll_of (I : Inv X pins σ H s) : ∀ {ds : List D} {vs : List V} {us : List Value} {ps : List PyData}, Reps X.K μ H ds vs -> Vals vs us -> D.pds h ds = some ps -> ∃ as, ReadsAll s.heap us ps as
  | [], _, _, _, r, q, e => by cases r; cases q; cases e; exact ⟨_, .nil⟩
  | d :: ds, _, _, _, r, q, e => by
    cases r with
    | cons r1 r2 =>
      cases q with
      | cons q1 q2 =>
        unfold D.pds at e
        cases e1 : D.pd h d with
        | none => rw [e1] at e; cases e
        | some p =>
          cases e2 : D.pds h ds with
          | none => rw [e1, e2] at e; cases e
          | some ps =>
            rw [e1, e2] at e; cases e
            obtain ⟨as, ra⟩ := reads_of I r1 q1 e1
            obtain ⟨bs, rb⟩ := readsAll_of I r2 q2 e2
            exact ⟨_, .cons ra rb⟩
end
theorem HR.rd (hr : HR X.K μ h H) {n : Nat} {ds : List D} (e : rd h n = some ds) {a : Addr} (m : μ[n]? = some a) : ∃ vs, SqL X.K H a vs /\ Reps X.K μ H ds vs := by
  unfold PI.rd at e
  cases e1 : h[n]? with
  | none => rw [e1] at e; cases e
  | some o =>
    rw [e1] at e
    have q := hr.obj n a o m e1
    cases o with
    | lst xs => cases e; obtain ⟨vs, q1, q2⟩ := q; exact ⟨vs, SqL.of q1, q2⟩
    | dK xs => cases e
theorem readsT_of (I : Inv X pins σ H s) (hr : HR X.K μ h H) {d : D} {v : V} {u : Value} {p : PyData} (r : Rep X.K μ H d v) (q : RelV v u) (e : pdT h d = some p) : ∃ as, Reads s.heap u p as := by
  cases d with
  | loc n =>
    cases r with
    | loc m =>
      cases q
      rw [pdT_loc] at e
      cases e1 : rd h n with
      | none => rw [e1] at e; cases e
      | some ds =>
        rw [e1] at e
        cases e2 : D.pds h ds with
        | none => rw [show (some ds).bind (fun xs => (D.pds h xs).map PyData.list) = (D.pds h ds).map PyData.list from rfl, e2] at e; cases e
        | some ps =>
          rw [show (some ds).bind (fun xs => (D.pds h xs).map PyData.list) = (D.pds h ds).map PyData.list from rfl, e2] at e; cases e
          obtain ⟨vs, hs, rs⟩ := hr.rd e1 m
          obtain ⟨its, rv, ⟨o, n', g1, g2, _, g3⟩, _⟩ := I.list hs
          obtain ⟨as, ra⟩ := readsAll_of I rs rv e2
          exact ⟨_, .list g1 g2 g3 (by simpa using ra)⟩
  | non => exact reads_of (h := h) I r q e
  | bl b => exact reads_of (h := h) I r q e
  | int i => exact reads_of (h := h) I r q e
  | str x => exact reads_of (h := h) I r q e
  | tup ds => exact reads_of (h := h) I r q e
  | fl ds => exact reads_of (h := h) I r q e
end
theorem line_le {n : Nat} (h : n <= 1000000) : n <= sizeLine := by rw [sizeLine_eq]; omega
theorem line_lt {n : Nat} (h : n < 1000000) : n < sizeLine := by rw [sizeLine_eq]; omega
section
variable {X : Cx} {cv : Nat -> Value}
noncomputable def r2 (K : PySem.W.Frag) (cv : Nat -> Value) (f : D -> D -> Hh -> Res D) : R2 := fun x y H Q => ∃ μ h a b Z, HR K μ h H /\ Rep K μ H a x /\ Rep K μ H b y /\ PostE K cv (Rep K) μ H (f a b h) Q Z
noncomputable def r1 (K : PySem.W.Frag) (cv : Nat -> Value) (f : D -> Hh -> Res D) : V -> Hp -> VK -> Prop := fun x H Q => ∃ μ h a Z, HR K μ h H /\ Rep K μ H a x /\ PostE K cv (Rep K) μ H (f a h) Q Z
theorem op_mulB : OpR X (binaryOp .Mult) (rI (fun i j => Builtin.Int.intBits i <= 2 ^ 20 /\ Builtin.Int.intBits j <= 2 ^ 20) fun i j => .int (i * j)) := opI fun _ _ _ _ _ _ _ hc q => mul_int q (IntMulOk.of_bits hc.1 hc.2)
theorem op_shlB : OpR X (binaryOp .LShift) (rI (fun i j => Builtin.Int.intBits i <= 2 ^ 20 /\ 0 <= j /\ j <= 1000000) fun i j => .int (i * 2 ^ j.toNat)) := opI fun _ _ _ _ _ _ _ hc q => lshift_int hc.2.1 (by have := hc.1; have := hc.2.2; omega) q
theorem mul_ok {x : Str} {j : Int} (h : 0 <= j /\ j <= 1000 /\ x.length <= 1000) : MulOk x j := by
  obtain ⟨h0, h1, h2⟩ := h
  refine ⟨by simp; omega, fun a b c => ?_, fun a b => ?_⟩
  · have hj : 1 <= j := by omega
    have : (2 ^ 63 - 1) / 1000 <= (2 ^ 63 - 1 : Int) / j := Int.le_ediv_of_mul_le (by omega) (by
      have : ((2 ^ 63 - 1) / 1000 : Int) * j <= ((2 ^ 63 - 1) / 1000) * 1000 := Int.mul_le_mul_of_nonneg_left h1 (by decide)
      have e : (((2 ^ 63 - 1) / 1000 : Int) * 1000) <= 2 ^ 63 - 1 := by decide
      omega)
    have e : (1000 : Int) < (2 ^ 63 - 1) / 1000 := by decide
    omega
  · have hm : x.length * j.toNat <= 1000 * 1000 := Nat.mul_le_mul h2 (by omega)
    unfold PySem.Builtin.Str.tooLong
    exact decide_eq_false (by rw [sizeLine_eq]; omega)
theorem op_mulS : OpR X (binaryOp .Mult) (fun x y H Q => ∃ z j, x = .str z /\ y = .int j /\ (0 <= j /\ j <= 1000 /\ z.length <= 1000) /\ Q (.str (Txt.mul z j)) H) := by
  intro pins s σ H x y v u Q I rx ry h
  obtain ⟨z, j, rfl, rfl, hc, q⟩ := h
  obtain ⟨t, rfl⟩ := rx
  obtain ⟨t', rfl⟩ := ry
  exact SB.mul (mul_ok hc) fun t' k => ⟨.str _, H, I.tok _, ⟨_, rfl⟩, q⟩
theorem meets_catT0 (t b : Addr) (xs ys : Array Value) (n m : Nat) (d1 d2 : Option Addr) (s1 s2 : Array (Option Value)) (h0 : xs.isEmpty = true) :
    Meets (Builtin.«tuple.__add__» ⟨[.ref t, .ref b], []⟩) (fun _ R s =>
      s.heap.get? t = some ⟨.type "tuple", d1, .seq xs n, s1⟩ /\
      s.heap.get? b = some ⟨.type "tuple", d2, .seq ys m, s2⟩ /\
      R (.ok (.ret (Value.ref b))) s) :=
  .of_wp fun prog w A R s h => by
    obtain ⟨hp, g, d, tk, os⟩ := s
    obtain ⟨hl, hb, h⟩ := h
    have f1 := AutoSeq1.idx_int
    have f2 := AutoSeq1.sub_list_tuple
    have f3 := AutoSeq1.sub_tuple_list
    have f4 := AutoSeq1.sub_tuple_tuple
    have f5 := AutoSeq1.sub_list_list
    wp_walk using AutoSeq1.wpAny_loadPart' hl, AutoSeq1.wpAny_loadPart' hb
    exact ⟨_, rfl, h⟩
theorem cat_nil {A : Around} {E : Value -> Shared -> Prop} {prog : Program} {w : World} {s : Shared} {t b : Addr} {vs ws : List Value} {Q : Value -> Shared -> Prop} (ht : IsTup s.heap t vs.toArray) (hb : IsTup s.heap b ws.toArray) (hv : vs = []) (h1 : Q (.ref b) s) :
    wpAny (model prog w) A (binaryOp .Add (.ref t) (.ref b)) Q E s := by
  obtain ⟨⟨cls, dd, data, sl⟩, ho, hc, n, hd⟩ := id ht
  obtain ⟨⟨cls2, dd2, data2, sl2⟩, ho2, hc2, n2, hd2⟩ := id hb
  simp only at hc hd hc2 hd2
  subst hc hd hc2 hd2
  exact concat_meets ⟨_, ho, rfl⟩ ⟨_, ho2, rfl⟩ noFill_tuple_add seq_tuple_add PySem.F.slot_tuple_add PySem.F.entry_tuple_add (PySem.F.args_tuple_add_2 _ _) (meets_catT0 t b vs.toArray ws.toArray n n2 dd dd2 sl sl2 (by simp [hv])) ⟨ho, ho2, h1⟩
theorem Reps.rep {K : PySem.W.Frag} {μ : List Addr} {H : Hp} {ds : List D} {vs : List V} (r : Reps K μ H ds vs) : ∀ k : Nat, Reps K μ H (List.replicate k ds).flatten (List.replicate k vs).flatten
  | 0 => .nil
  | k + 1 => by rw [List.replicate_succ, List.replicate_succ, List.flatten_cons, List.flatten_cons]; exact r.append (Reps.rep r k)
section
variable {K : PySem.W.Frag} {μ : List Addr} {H : Hp} {Q : VK} {Z : Value -> Hp -> Prop}
theorem post_if {c : Prop} [Decidable c] {r : Res D} {G : Prop} (p : PostE K cv (Rep K) μ H (if c then r else .no) Q Z) (f : c -> PostE K cv (Rep K) μ H r Q Z -> G) : G := by
  by_cases hc : c
  · rw [if_pos hc] at p; exact f hc p
  · rw [if_neg hc] at p; exact p.elim
theorem i2_elim {a b : D} {x y : V} {g : Int -> Int -> Res D} {G : Prop} (ra : Rep K μ H a x) (rb : Rep K μ H b y) (p : PostE K cv (Rep K) μ H (i2 a b g) Q Z) (f : ∀ i j, x = .int i -> y = .int j -> PostE K cv (Rep K) μ H (g i j) Q Z -> G) : G := by
  cases a with
  | int i =>
    cases b with
    | int j => cases ra; cases rb; exact f i j rfl rfl p
    | _ => exact p.elim
  | _ => exact p.elim
theorem eqR_elim {neg : Bool} {u v : Option PyData} {h : Hh} {G : Prop} (p : PostE K cv (Rep K) μ H (eqR neg u v h) Q Z) (f : ∀ pu pv, u = some pu -> v = some pv -> pu.canLay0 = true -> pv.canLay0 = true -> pu.depth <= 60 -> PostE K cv (Rep K) μ H (.ok (.bl (if neg then !PyData.eqv pu pv else PyData.eqv pu pv)) h) Q Z -> G) : G := by
  cases u with
  | none => exact p.elim
  | some pu =>
    cases v with
    | none => exact p.elim
    | some pv => exact post_if p fun c q => f pu pv rfl rfl c.1 c.2.1 c.2.2 q
end
theorem op_addD : OpR X (binaryOp .Add) (r2 X.K cv addD) := by
  intro pins s σ H x y v u Q I rx ry hh
  obtain ⟨μ, h, a, b, Z, hr, ra, rb, p⟩ := hh
  cases a with
  | int i =>
    cases b with
    | int j => cases ra; cases rb; exact op_add pins s σ H _ _ v u Q I rx ry ⟨_, _, rfl, rfl, p.here hr (.int _)⟩
    | _ => exact p.elim
  | str i =>
    cases b with
    | str j => cases ra; cases rb; exact post_if p fun c p => op_add_str pins s σ H _ _ v u Q I rx ry ⟨_, _, rfl, rfl, line_le c, p.here hr (.str _)⟩
    | _ => exact p.elim
  | loc n =>
    cases b with
    | loc m =>
      cases ra with
      | loc ma =>
        cases rb with
        | loc mb =>
          have p : PostE X.K cv (Rep X.K) μ H (match h[n]?, h[m]? with
            | some (.lst xs), some (.lst ys) => if xs.length + ys.length <= 1000000 then .ok (.loc h.length) (h ++ [.lst (xs ++ ys)]) else .no
            | _, _ => .no) Q Z := p
          cases e1 : h[n]? with
          | none => rw [e1] at p; exact p.elim
          | some o1 =>
            cases e2 : h[m]? with
            | none => rw [e1, e2] at p; cases o1 <;> exact p.elim
            | some o2 =>
              rw [e1, e2] at p
              cases o1 with
              | dK k => exact p.elim
              | lst xs =>
                cases o2 with
                | dK k => exact p.elim
                | lst ys =>
                  refine post_if p fun c p => ?_
                  obtain ⟨va, ha, qa⟩ := hr.obj n _ _ ma e1
                  obtain ⟨vb, hb, qb⟩ := hr.obj m _ _ mb e2
                  refine op_cat pins s σ H _ _ v u Q I rx ry ⟨_, _, _, _, rfl, rfl, ha, hb, by rw [<- qa.length, <- qb.length]; exact line_le c, fun b hb => ?_⟩
                  have nb : b ∉ μ := hr.fresh hb
                  refine p _ _ _ ((ext_new hb).add hb) (hr.alloc hb nb fun μ' g => ⟨_, upd_same, ((qa.append qb).mono (ext_new hb)).mono' g⟩) (.loc ?_)
                  rw [<- hr.len, List.getElem?_append_right (Nat.le_refl _), Nat.sub_self]
                  rfl
    | _ => exact p.elim
  | tup ds =>
    cases b with
    | tup es =>
      refine post_if p fun c p => ?_
      cases ra with
      | @tup _ vs a h1 r1 =>
        cases rb with
        | @tup _ ws b h2 r2 =>
          by_cases hv : vs = []
          · subst hv
            cases r1
            cases rx
            cases ry
            obtain ⟨its, q1, p1, _⟩ := I.tuple h1
            obtain ⟨its2, q2, p2, _⟩ := I.tuple h2
            cases q1
            exact cat_nil p1 p2 rfl ⟨.ref b, H, I, rfl, p.here hr (.tup h2 r2)⟩
          · refine op_catT pins s σ H _ _ v u Q I rx ry ⟨a, b, vs, ws, rfl, rfl, h1, h2, hv, by rw [<- r1.length, <- r2.length]; exact line_le c, fun hz => ?_, fun _ l hl => ?_⟩
            · subst hz
              cases r2
              rw [List.append_nil] at p
              exact p.here hr (.tup h1 r1)
            · exact p μ _ _ (ext_new hl) (hr.tup hl) (.tup (SqT.of upd_same) ((r1.append r2).mono (ext_new hl)))
    | _ => exact p.elim
  | _ => exact p.elim
theorem op_mulD : OpR X (binaryOp .Mult) (r2 X.K cv mulD) := by
  intro pins s σ H x y v u Q I rx ry hh
  obtain ⟨μ, h, a, b, Z, hr, ra, rb, p⟩ := hh
  cases b with
  | int j =>
    cases rb
    cases a with
    | int i => cases ra; exact post_if p fun c p => op_mulB pins s σ H _ _ v u Q I rx ry ⟨_, _, rfl, rfl, ⟨of_decide_eq_true c.1, of_decide_eq_true c.2⟩, p.here hr (.int _)⟩
    | str z => cases ra; exact post_if p fun c p => op_mulS pins s σ H _ _ v u Q I rx ry ⟨_, _, rfl, rfl, c, p.here hr (.str _)⟩
    | loc n =>
      cases ra with
      | loc ma =>
        have p : PostE X.K cv (Rep X.K) μ H (match h[n]? with
          | some (.lst xs) => if 0 <= j /\ j <= 1000 /\ xs.length <= 1000 then .ok (.loc h.length) (h ++ [.lst (List.replicate j.toNat xs).flatten]) else .no
          | _ => .no) Q Z := p
        cases e1 : h[n]? with
        | none => rw [e1] at p; exact p.elim
        | some o1 =>
          rw [e1] at p
          cases o1 with
          | dK k => exact p.elim
          | lst xs =>
            refine post_if p fun c p => ?_
            obtain ⟨va, ha, qa⟩ := hr.obj n _ _ ma e1
            refine op_rep pins s σ H _ _ v u Q I rx ry ⟨_, _, va, rfl, rfl, ha, by omega, by omega, ?_, fun b hb => ?_⟩
            · have hm : va.length * j.toNat <= 1000 * 1000 := Nat.mul_le_mul (by rw [<- qa.length]; exact c.2.2) (by omega)
              rw [sizeLine_eq]; omega
            · have nb : b ∉ μ := hr.fresh hb
              refine p _ _ _ ((ext_new hb).add hb) (hr.alloc hb nb fun μ' g => ⟨_, upd_same, ((qa.rep j.toNat).mono (ext_new hb)).mono' g⟩) (.loc ?_)
              rw [<- hr.len, List.getElem?_append_right (Nat.le_refl _), Nat.sub_self]
              rfl
    | _ => exact p.elim
  | _ => exact p.elim
theorem op_bin (op : Operator) : OpR X (binaryOp op) (r2 X.K cv (binD op)) := by
  cases op with
  | Add => exact op_addD
  | Mult => exact op_mulD
  | Sub =>
    intro pins s σ H x y v u Q I rx ry ⟨μ, h, a, b, Z, hr, ra, rb, p⟩
    exact i2_elim ra rb p fun i j ex ey p => op_sub pins s σ H _ _ v u Q I rx ry ⟨i, j, ex, ey, p.here hr (.int _)⟩
  | FloorDiv =>
    intro pins s σ H x y v u Q I rx ry ⟨μ, h, a, b, Z, hr, ra, rb, p⟩
    exact i2_elim ra rb p fun i j ex ey p => post_if p fun c p => op_fdiv pins s σ H _ _ v u Q I rx ry ⟨i, j, ex, ey, c, p.here hr (.int _)⟩
  | Mod =>
    intro pins s σ H x y v u Q I rx ry ⟨μ, h, a, b, Z, hr, ra, rb, p⟩
    exact i2_elim ra rb p fun i j ex ey p => post_if p fun c p => op_mod pins s σ H _ _ v u Q I rx ry ⟨i, j, ex, ey, c, p.here hr (.int _)⟩
  | Pow =>
    intro pins s σ H x y v u Q I rx ry ⟨μ, h, a, b, Z, hr, ra, rb, p⟩
    exact i2_elim ra rb p fun i j ex ey p => post_if p fun c p => op_pow pins s σ H _ _ v u Q I rx ry ⟨i, j, ex, ey, c, p.here hr (.int _)⟩
  | LShift =>
    intro pins s σ H x y v u Q I rx ry ⟨μ, h, a, b, Z, hr, ra, rb, p⟩
    exact i2_elim ra rb p fun i j ex ey p => post_if p fun c p => op_shlB pins s σ H _ _ v u Q I rx ry ⟨i, j, ex, ey, ⟨of_decide_eq_true c.1, c.2⟩, p.here hr (.int _)⟩
  | RShift =>
    intro pins s σ H x y v u Q I rx ry ⟨μ, h, a, b, Z, hr, ra, rb, p⟩
    exact i2_elim ra rb p fun i j ex ey p => post_if p fun c p => op_shr pins s σ H _ _ v u Q I rx ry ⟨i, j, ex, ey, c, p.here hr (.int _)⟩
  | BitAnd =>
    intro pins s σ H x y v u Q I rx ry ⟨μ, h, a, b, Z, hr, ra, rb, p⟩
    exact i2_elim ra rb p fun i j ex ey p => op_and pins s σ H _ _ v u Q I rx ry ⟨i, j, ex, ey, p.here hr (.int _)⟩
  | BitOr =>
    intro pins s σ H x y v u Q I rx ry ⟨μ, h, a, b, Z, hr, ra, rb, p⟩
    exact i2_elim ra rb p fun i j ex ey p => op_or pins s σ H _ _ v u Q I rx ry ⟨i, j, ex, ey, p.here hr (.int _)⟩
  | _ =>
    intro pins s σ H x y v u Q I rx ry ⟨μ, h, a, b, Z, hr, ra, rb, p⟩
    exact p.elim
theorem flat_rep {K : PySem.W.Frag} {μ : List Addr} {H : Hp} {d : D} {v : V} (r : Rep K μ H d v) (f : flatD d = true) : v = vOf d /\ flatV v = true := by
  cases r with
  | non => exact ⟨rfl, rfl⟩
  | bl b => exact ⟨rfl, rfl⟩
  | int i => exact ⟨rfl, rfl⟩
  | str x => exact ⟨rfl, rfl⟩
  | _ => cases f
theorem flat_reps {K : PySem.W.Frag} {μ : List Addr} {H : Hp} : ∀ {ds : List D} {vs : List V}, Reps K μ H ds vs -> ds.all flatD = true -> vs = ds.map vOf /\ vs.all flatV = true
  | _, _, .nil, _ => ⟨rfl, rfl⟩
  | _, _, .cons r t, f => by
    rw [List.all_cons, Bool.and_eq_true] at f
    obtain ⟨rfl, f1⟩ := flat_rep r f.1
    obtain ⟨rfl, f2⟩ := flat_reps t f.2
    exact ⟨rfl, by rw [List.all_cons, f1, f2]; rfl⟩
theorem in_V (x : D) (ds : List D) : inV (vOf x) (ds.map vOf) = ds.any fun y => eqV (vOf y) (vOf x) := by unfold inV; rw [List.any_map]; rfl
theorem op_inXs {neg : Bool} {pins : List (Addr × Obj)} {s : Shared} {σ : St} {H : Hp} {v u : Value} {Q : VK} {μ : List Addr} {h : Hh} {a : D} {x : V} {Z' : Value -> Hp -> Prop} {ds : List D} {vs : List V} {p' : Addr} (op : CmpOp) (hop : OpR X (compareOp op) (rIn X.K neg))
    (I : Inv X pins σ H s) (rx : RelV x v) (ry : RelV (.ref p') u) (hr : HR X.K μ h H) (ra : Rep X.K μ H a x) (sq : SqL X.K H p' vs \/ SqT X.K H p' vs) (rs : Reps X.K μ H ds vs) (p : PostE X.K cv (Rep X.K) μ H (inXs neg a ds h) Q Z') :
    wpAny (model X.prog X.w) X.A (compareOp op v u) (EP X pins σ Q) X.xe s := by
  unfold inXs at p
  split at p
  · rename_i c
    obtain ⟨rfl, f1⟩ := flat_rep ra c.1
    obtain ⟨rfl, f2⟩ := flat_reps rs c.2
    refine hop pins s σ H _ _ v u Q I rx ry ⟨p', _, rfl, sq, f1, f2, ?_⟩
    rw [in_V]
    exact p.here hr (.bl _)
  · exact p.elim
theorem keyD_rep' {K : PySem.W.Frag} {μ : List Addr} {H : Hp} {d : D} {v : V} {k : Key} (r : Rep K μ H d v) (e : keyD d = some k) : v = kV k := by
  unfold keyD at e
  cases r <;> first | (cases e; rfl) | cases e
theorem RepKs.none {K : PySem.W.Frag} {μ : List Addr} {H : Hp} {k : Key} : ∀ {ds : List (Key × D)} {vs : List (Key × V)}, RepKs K μ H ds vs -> (valD ds k).isSome = (valV vs k).isSome
  | _, _, .nil => rfl
  | _, _, .cons (k := k') (d := d') (v := v') h r => by
    have ih := RepKs.none (k := k) r
    by_cases hk : k' = k
    · rw [valV_pos (p := (k', v')) hk]
      unfold valD
      rw [List.find?_cons_of_pos (by simpa using hk)]
      rfl
    · rw [valV_neg (p := (k', v')) hk, <- ih]
      unfold valD
      rw [List.find?_cons_of_neg (by simpa using hk)]
theorem op_inI (hu : X.A.units + 1 < cLine) (neg : Bool) : OpR X (compareOp (if neg then .NotIn else .In)) (r2 X.K cv (inD neg)) := by
  intro pins s σ H x y v u Q I rx ry hh
  obtain ⟨μ, h, a, b, Z', hr, ra, rb, p⟩ := hh
  have hop : OpR X (compareOp (if neg then .NotIn else .In)) (rIn X.K neg) := by cases neg with | true => exact op_notIn_seq | false => exact op_in_seq
  unfold inD at p
  cases rb with
  | tup h1 h2 => exact op_inXs _ hop I rx ry hr ra (.inr h1) h2 p
  | fl h1 h2 => exact op_inXs _ hop I rx ry hr ra (.inl h1.sq) h2 p
  | @loc nn b' m =>
    cases e1 : h[nn]? with
    | none => simp only [e1] at p; exact p.elim
    | some o =>
      have q := hr.obj nn b' o m e1
      cases o with
      | lst ds =>
        simp only [e1] at p
        obtain ⟨vs, q1, q2⟩ := q
        exact op_inXs _ hop I rx ry hr ra (.inl (SqL.of q1)) q2 p
      | dK kvs =>
        simp only [e1] at p
        obtain ⟨vs, q1, q2⟩ := q
        cases e2 : keyD a with
        | none => simp only [e2] at p; exact p.elim
        | some k =>
          simp only [e2] at p
          have ey := keyD_rep' ra e2
          subst ey
          cases ry
          have p' := p.here hr (.bl _)
          rw [q2.none] at p'
          cases neg with
          | true => exact d_notIn hu I (DGet.k q1) rx fun s' I' => ⟨.bl _, H, I', rfl, p'⟩
          | false => exact d_in hu I (DGet.k q1) rx fun s' I' => ⟨.bl _, H, I', rfl, p'⟩
  | str z =>
    cases ra with
    | str w =>
      cases neg with
      | true => exact op_notIn_str pins s σ H _ _ v u Q I rx ry ⟨w, z, rfl, rfl, p.here hr (.bl _)⟩
      | false => exact op_in_str pins s σ H _ _ v u Q I rx ry ⟨w, z, rfl, rfl, p.here hr (.bl _)⟩
    | _ => exact p.elim
  | _ => exact p.elim
theorem op_cmp (hu : X.A.units + 64 < cLine) (op : CmpOp) : OpR X (compareOp op) (r2 X.K cv (cmpD op)) := by
  intro pins s σ H x y v u Q I rx ry hh
  obtain ⟨μ, h, a, b, Z, hr, ra, rb, p⟩ := hh
  cases op with
  | Lt => exact i2_elim ra rb p fun i j ex ey p => op_lt pins s σ H _ _ v u Q I rx ry ⟨i, j, ex, ey, p.here hr (.bl _)⟩
  | LtE => exact i2_elim ra rb p fun i j ex ey p => op_le pins s σ H _ _ v u Q I rx ry ⟨i, j, ex, ey, p.here hr (.bl _)⟩
  | Gt => exact i2_elim ra rb p fun i j ex ey p => op_gt pins s σ H _ _ v u Q I rx ry ⟨i, j, ex, ey, p.here hr (.bl _)⟩
  | GtE => exact i2_elim ra rb p fun i j ex ey p => op_ge pins s σ H _ _ v u Q I rx ry ⟨i, j, ex, ey, p.here hr (.bl _)⟩
  | Eq =>
    refine eqR_elim p fun pu pv e1 e2 c1 c2 c3 p => ?_
    obtain ⟨as, q1⟩ := readsT_of I hr ra rx e1
    obtain ⟨bs, q2⟩ := readsT_of I hr rb ry e2
    exact SeqAt.compareEq_reads q1 q2 c1 c2 (by have := Nat.min_le_left pu.depth pv.depth; omega) ⟨.bl _, H, I, rfl, p.here hr (.bl _)⟩
  | NotEq =>
    refine eqR_elim p fun pu pv e1 e2 c1 c2 c3 p => ?_
    obtain ⟨as, q1⟩ := readsT_of I hr ra rx e1
    obtain ⟨bs, q2⟩ := readsT_of I hr rb ry e2
    exact SeqAt.compareNe_reads q1 q2 c1 c2 (by have := Nat.min_le_left pu.depth pv.depth; omega) ⟨.bl _, H, I, rfl, p.here hr (.bl _)⟩
  | In => exact op_inI (cv := cv) (by omega) false pins s σ H _ _ v u Q I rx ry ⟨μ, h, _, _, Z, hr, ra, rb, p⟩
  | NotIn => exact op_inI (cv := cv) (by omega) true pins s σ H _ _ v u Q I rx ry ⟨μ, h, _, _, Z, hr, ra, rb, p⟩
  | Is =>
    cases b with
    | non =>
      cases rb
      cases ry
      refine wpAny_is_plain (by cases ra <;> first | (cases rx; rfl) | (obtain ⟨t, rfl⟩ := rx; rfl)) (fin_bl I (p.here hr (.bl _)) ?_)
      cases ra <;> first | (cases rx; rfl) | (obtain ⟨t, rfl⟩ := rx; rfl)
    | bl y =>
      cases a with
      | bl x =>
        cases ra; cases rb; cases rx; cases ry
        exact wpAny_is_plain rfl (fin_bl I (p.here hr (.bl _)) (by cases x <;> cases y <;> rfl))
      | _ => exact p.elim
    | _ => exact p.elim
  | IsNot =>
    cases b with
    | non =>
      cases rb
      cases ry
      refine wpAny_isNot_plain (by cases ra <;> first | (cases rx; rfl) | (obtain ⟨t, rfl⟩ := rx; rfl)) (fin_bl I (p.here hr (.bl _)) ?_)
      cases ra <;> first | (cases rx; rfl) | (obtain ⟨t, rfl⟩ := rx; rfl)
    | bl y =>
      cases a with
      | bl x =>
        cases ra; cases rb; cases rx; cases ry
        exact wpAny_isNot_plain rfl (fin_bl I (p.here hr (.bl _)) (by cases x <;> cases y <;> rfl))
      | _ => exact p.elim
    | _ => exact p.elim
end
end PI
set_option Elab.async false
set_option linter.all false
set_option maxRecDepth 100000
namespace PI
open PySem L2 PySem.Spec
open PyProof.Rows hiding St
noncomputable def RB : List Addr -> Hp -> Bool -> Bool -> Prop := fun _ _ b c => b = c
noncomputable def spI (K : PySem.W.Frag) (cv : Nat -> Value) (np : Nat) (c : List D -> Hh -> Res D) : Sp := fun vs H Q E =>
  vs.length = np /\ ∃ μ h ds, HR K μ h H /\ Reps K μ H ds vs /\ PostE K cv (Rep K) μ H (c ds h) Q (fun C H' => E C none H')
noncomputable def bnames : List Str := ["len", "isinstance", "int", "bool", "str", "tuple", "list", "range", "max", "min", "sum", "all", "any", "zip", "reversed", "sorted", "set", "enumerate", "dict", "abs"]
noncomputable def gOf (sc : Scope) (x : Str) : Bool := decide (sc.names.lookup x = some .globalImplicit)
noncomputable def relab (scope osc : Scope) : Scope :=
  { scope with names := scope.names.map fun (n, k) => if (k == .free && osc.kind == .function && osc.names.lookup n == some .cell) then (n, .cell) else (n, k) }
noncomputable def Tg.idx : Tg -> List Nat
  | .one i _ => [i]
  | .tup is _ => is.map (·.1)
noncomputable def Tg.ok (sc : Scope) (N : List Str) (t : Tg) : Bool := t.idx.all fun i => decide (i < N.length) && decide (sc.names.lookup (N.getD i "") = some .local \/ sc.names.lookup (N.getD i "") = some .cell)
noncomputable def Tg.okS (N : List Str) (t : Tg) : Bool := t.idx.all fun i => decide (i < N.length)
noncomputable def goodN (x : Str) : Bool := !(x == ("__debug__" : Str)) && !(x == ("__classdict__" : Str))
mutual
noncomputable def E.ok (sc : Scope) (n : Nm) : E -> Bool
  | .non _ | .bl _ _ | .int _ _ | .str _ _ => true
  | .var i _ => decide (i < n.N.length)
  | .bin _ a b _ => a.ok sc n && b.ok sc n
  | .un op a _ => a.ok sc n && (match op with | .Not => a.okT | _ => true)
  | .cmp op a b _ => a.ok sc n && b.ok sc n && !behindInMarks op (b.py n)
  | .and a b r _ => a.ok sc n && b.ok sc n && r.ok sc n && a.okT && b.okT && r.okT
  | .or a b r _ => a.ok sc n && b.ok sc n && r.ok sc n && a.okT && b.okT && r.okT
  | .ite c a b _ => c.ok sc n && a.ok sc n && b.ok sc n && c.okT
  | .call f a r _ _ => decide (f < n.F.length) && gOf sc (n.F.getD f "") && a.ok sc n && r.ok sc n
  | .len a _ _ => gOf sc "len" && a.ok sc n
  | .sub a i _ => a.ok sc n && i.ok sc n
  | .tup es _ => es.ok sc n
  | .ofL l => l.ok sc n
  | .tupE e _ _ => gOf sc "tuple" && e.ok sc n
  | .dicP e _ _ => gOf sc "dict" && e.ok sc n
  | .cut a lo hi _ _ => a.ok sc n && lo.ok sc n && hi.ok sc n
  | .revT a st _ _ => a.ok sc n && st.ok sc n
  | .dic _ => true
  | .m0 _ o p1 p => o.ok sc n && decide (p1.endLine = p.line)
  | .m1 _ o a p1 p => o.ok sc n && a.ok sc n && decide (p1.endLine = p.line)
  | .cmpN _ a _ _ => a.ok sc n
  | .listR e _ _ _ _ => gOf sc "list" && gOf sc "reversed" && e.ok sc n
  | .gcon x c _ => gOf sc x && decide ((x, c) ∈ n.G)
  | .gsub x kvs i _ _ => gOf sc x && decide ((x, Cn.dic kvs) ∈ n.G) && i.ok sc n
noncomputable def Eo.ok (sc : Scope) (n : Nm) : Eo -> Bool
  | .none => true
  | .some e => e.ok sc n
noncomputable def L.ok (sc : Scope) (n : Nm) : L -> Bool
  | .disp es _ => es.ok sc n
  | .comp elt t it c NC cap csc _ => it.ok sc n && compOk sc csc n.N NC cap && decide NC.Nodup && NC.all goodN && t.ok csc NC && elt.ok (relab csc sc) ⟨NC, n.F, n.G⟩ && c.ok (relab csc sc) ⟨NC, n.F, n.G⟩ && c.okT && c.short
noncomputable def I.ok (sc : Scope) (n : Nm) : I -> Bool
  | .seq e => e.ok sc n
  | .lst l => l.ok sc n
  | .rng a _ _ => gOf sc "range" && a.ok sc n
  | .rng2 a b _ _ => gOf sc "range" && a.ok sc n && b.ok sc n
  | .rngD a b c _ _ => gOf sc "range" && a.ok sc n && b.ok sc n && c.ok sc n
  | .rev e _ _ => gOf sc "reversed" && e.ok sc n
noncomputable def Es.ok (sc : Scope) (n : Nm) : Es -> Bool
  | .nil => true
  | .cons e r => e.ok sc n && r.ok sc n
noncomputable def E.okT : E -> Bool
  | .non _ | .bl _ _ | .int _ _ | .str _ _ => false
  | .ite _ _ _ _ => false
  | .ofL _ => false
  | .dic _ => false
  | .gcon _ _ _ => false
  | .un op a _ => match op with | .Not => a.okT | _ => true
  | _ => true
noncomputable def Es.okT : Es -> Bool
  | .nil => true
  | .cons e r => e.okT && r.okT
noncomputable def Es.short : Es -> Bool
  | .nil => true
  | .cons _ .nil => true
  | .cons _ (.cons _ _) => false
end
noncomputable def TupK (K : PySem.W.Frag) (a : Addr) (xs : List Str) : Prop := ∃ (o : Obj) (its : Array Value) (n : Nat), K.lookup a = some o /\ o.cls = .type "tuple" /\ o.data = .seq its n /\ its.size <= sizeLine /\ Vals (xs.map V.str) its.toList
noncomputable def CvOk (K : PySem.W.Frag) (v : Value) : Cv -> Prop
  | .tup xs => ∃ a, v = .ref a /\ TupK K a xs
  | .int i => ∃ t, v = .int i t
noncomputable def DicV (K : PySem.W.Frag) : List (Str × Cv) -> List (Key × Value) -> Prop
  | [], [] => True
  | kx :: r, qv :: s => qv.1 = .inr kx.1 /\ CvOk K qv.2 kx.2 /\ DicV K r s
  | _, _ => False
noncomputable def CnOk (P : Program) (w : World) (K : PySem.W.Frag) (v : Value) : Cn -> Prop
  | .int i => ∃ t, v = .int i t
  | .str x => ∃ t, v = .str x t
  | .tup xs => ∃ a, v = .ref a /\ TupK K a xs
  | .dic kvs => ∃ a o es ep vs, v = .ref a /\ K.lookup a = some o /\ o.ExactDict /\ o.data = .dict es ep /\ KeysOf (mixKind P w) es /\ Pairs (mixKind P w) es.toList vs /\ (vs.map (·.1)).Nodup /\ DicV K kvs vs
structure Kx (X : Cx) (Z : ZK) (k : Nat) (n : Nm) (cv : Nat -> Value) (cl : Nat -> List D -> Hh -> Res D) : Prop where
  th : Thr X Z
  rm : Room k X.A
  nN : X.N = n.N
  nd : X.N.Nodup
  cm : X.calm = true
  kd : X.env.scope.kind = .function
  nm : ∀ x ∈ n.N, Vis X.env.scope x /\ goodN x = true
  bm : ∀ x, x ∈ bnames -> X.mg x = none
  gc : ∀ x c, (x, c) ∈ n.G -> (x == ("__debug__" : Str)) = false /\ ∃ v, X.mg x = some v /\ CnOk X.prog X.w X.K v c
  fn : ∀ i x, n.F[i]? = some x -> (x == ("__debug__" : Str)) = false /\ ∃ f fd ps, X.mg x = some (.ref f) /\ PySem.W.keepIn X.K (.ref f) = true /\ Binds X.K fd ps [] /\ (∀ ds h, cl i ds h ≠ .no -> ds.length = ps.length) /\
    FnOk X.prog X.w X.K X.mg X.base (CXs X.prog X.w) k f fd ps (spI X.K cv ps.length (cl i))
theorem Kx.gl {X : Cx} {Z : ZK} {k : Nat} {n : Nm} {cv : Nat -> Value} {cl : Nat -> List D -> Hh -> Res D} (C : Kx X Z k n cv cl) {x : Str} (h : gOf X.env.scope x = true) : Gl X x := show X.env.scope.names.lookup x = some .globalImplicit from of_decide_eq_true h
theorem goodN_of {x : Str} (h : goodN x = true) : (x == ("__debug__" : Str)) = false /\ (x == ("__classdict__" : Str)) = false := by unfold goodN at h; simpa using h
theorem bind_pure {α : Type} (r : Res α) : (r.bind fun a h => .ok a h) = r := by cases r <;> rfl
theorem bind_assoc {α β γ : Type} (r : Res α) (f : α -> Hh -> Res β) (q : β -> Hh -> Res γ) : (r.bind f).bind q = r.bind fun a h => (f a h).bind q := by cases r <;> rfl
theorem PE.mono {X : Cx} {e : Expr} {t t' : TE} (p : PE X e t) (h : ∀ σ H Q, t' σ H Q -> t σ H Q) : PE X e t' := fun pins s σ H Q I q => p pins s σ H Q I (h σ H Q q)
theorem PT.mono {X : Cx} {e : Expr} {t t' : TT} (p : PT X e t) (h : ∀ σ H Q, t' σ H Q -> t σ H Q) : PT X e t' := fun pins s σ H Q I q => p pins s σ H Q I (h σ H Q q)
theorem PW.mono {X : Cx} {e : Expr} {t t' : TT} (p : PW X e t) (h : ∀ σ H Q, t' σ H Q -> t σ H Q) : PW X e t' := fun wh pins s σ H Q I q => p wh pins s σ H Q I (h σ H Q q)
theorem PA.mono {X : Cx} {e : List Expr} {t t' : TA} (p : PA X e t) (h : ∀ σ H Q, t' σ H Q -> t σ H Q) : PA X e t' := fun ps pins s σ H Q I q => p ps pins s σ H Q I (h σ H Q q)
noncomputable def toB (d : D) (h : Hh) : Res Bool := match d with | .bl b => .ok b h | _ => .no
theorem evT_eq (cl : Nat -> List D -> Hh -> Res D) (e : E) (ρ : En) (h : Hh) : e.evT cl ρ h = (e.ev cl ρ h).bind toB := rfl
section
variable {X : Cx} {Z : ZK} {k : Nat} {n : Nm} {cv : Nat -> Value} {cl : Nat -> List D -> Hh -> Res D}
theorem L.py_star (l : L) (r : List Expr) (env : Env) : starEach (l.py n :: r) env = (false, eval (l.py n) env) :: starEach r env := by cases l <;> rfl
theorem star_cons (e : E) (r : List Expr) (env : Env) : starEach (e.py n :: r) env = (false, eval (e.py n) env) :: starEach r env := by
  cases e with
  | ofL l => exact L.py_star l r env
  | _ => rfl
theorem star_plain : ∀ (r : Es) (pos : Pos) (env : Env), (backTo pos (starEach (r.py n) env)).any (·.1) = false
  | .nil, _, _ => rfl
  | .cons e r, pos, env => by
    show (backTo pos (starEach (e.py n :: r.py n) env)).any (·.1) = false
    rw [star_cons]
    exact star_plain r pos env
theorem plain_ix (e : E) : PlainIx (e.py n) := by
  intro o i
  cases e with
  | ofL l => cases l <;> rfl
  | _ => rfl
theorem pt_lift {e : Expr} {m : En -> Hh -> Res D} (p : PE X e (lift X.K cv (Rep X.K) Z m)) (he : ∀ whole, isTrue e X.env whole = (do let v <- whole; standAt e.pos; holding [v] (truthy v))) :
    PT X e (lift X.K cv RB Z fun ρ h => (m ρ h).bind toB) := by
  refine PT.mono (pt_val p he) fun σ H Q => lift_elim fun μ ρ h hr er q => ?_
  refine lift_bind (m := m) hr er q fun a h1 μ1 H1 x _ e1 r1 er1 qa p1 => ?_
  unfold toB at p1
  cases qa with
  | bl b => exact ⟨b, rfl, p1.here r1 rfl⟩
  | _ => exact p1.elim
noncomputable def Es.evAndT (cl : Nat -> List D -> Hh -> Res D) : Es -> En -> Bool -> Hh -> Res Bool
  | .nil, _, c, h => .ok c h
  | .cons e r, ρ, c, h => if c then (e.evT cl ρ h).bind fun c' h2 => r.evAndT cl ρ c' h2 else .ok false h
noncomputable def Es.evOrT (cl : Nat -> List D -> Hh -> Res D) : Es -> En -> Bool -> Hh -> Res Bool
  | .nil, _, c, h => .ok c h
  | .cons e r, ρ, c, h => if c then .ok true h else (e.evT cl ρ h).bind fun c' h2 => r.evOrT cl ρ c' h2
theorem and_toB : ∀ (r : Es) (ρ : En) (d : D) (h : Hh), (r.evAnd cl ρ d h).bind toB = (toB d h).bind fun c h1 => r.evAndT cl ρ c h1
  | .nil, ρ, d, h => (bind_pure (r := toB d h)).symm
  | .cons e r, ρ, d, h => by
    cases d with
    | bl b =>
      cases b with
      | false => rfl
      | true =>
        show (((e.ev cl ρ h).bind fun y h2 => r.evAnd cl ρ y h2).bind toB) = ((e.ev cl ρ h).bind toB).bind fun c' h2 => r.evAndT cl ρ c' h2
        rw [bind_assoc, bind_assoc]
        congr 1
        funext y h2
        exact and_toB r ρ y h2
    | _ => rfl
theorem or_toB : ∀ (r : Es) (ρ : En) (d : D) (h : Hh), (r.evOr cl ρ d h).bind toB = (toB d h).bind fun c h1 => r.evOrT cl ρ c h1
  | .nil, ρ, d, h => (bind_pure (r := toB d h)).symm
  | .cons e r, ρ, d, h => by
    cases d with
    | bl b =>
      cases b with
      | true => rfl
      | false =>
        show (((e.ev cl ρ h).bind fun y h2 => r.evOr cl ρ y h2).bind toB) = ((e.ev cl ρ h).bind toB).bind fun c' h2 => r.evOrT cl ρ c' h2
        rw [bind_assoc, bind_assoc]
        congr 1
        funext y h2
        exact or_toB r ρ y h2
    | _ => rfl
end
end PI
set_option Elab.async false
set_option linter.all false
set_option maxRecDepth 100000
set_option maxHeartbeats 4000000
namespace PI
open PySem L2 PySem.Spec
open PyProof.Rows hiding St
section
variable {X : Cx} {Z : ZK} {k : Nat} {n : Nm} {cv : Nat -> Value} {cl : Nat -> List D -> Hh -> Res D}
structure SE (X : Cx) (Z : ZK) (n : Nm) (cv : Nat -> Value) (cl : Nat -> List D -> Hh -> Res D) (e : E) : Prop where
  pe : PE X (e.py n) (lift X.K cv (Rep X.K) Z (e.ev cl))
  pt : e.okT = true -> PT X (e.py n) (lift X.K cv RB Z (e.evT cl))
noncomputable def PsOk (X : Cx) (Z : ZK) (n : Nm) (cv : Nat -> Value) (cl : Nat -> List D -> Hh -> Res D) (r : Es) : Prop := ∀ (ks : List (Str × Pos)) (pos : Pos), ks.length = (r.py n).length ->
  ∃ trs, PPs X pos (ks.map fun q => some (.Constant (.str q.1) 0 q.2)) (r.py n) trs /\ ∀ σ H (Q : List (V × V) -> Hp -> Prop), lift X.K cv (Reps X.K) Z (r.ev cl) σ H (fun us H' => Q ((ks.map fun q => V.str q.1).zip us) H') -> tPairs trs σ H Q
structure SEs (X : Cx) (Z : ZK) (n : Nm) (cv : Nat -> Value) (cl : Nat -> List D -> Hh -> Res D) (r : Es) : Prop where
  pa : PA X (r.py n) (lift X.K cv (Reps X.K) Z (r.ev cl))
  an : ∀ (b : E) (p : Pos), SE X Z n cv cl b -> PE X (.BoolOp .And (b.py n :: r.py n) p) (lift X.K cv (Rep X.K) Z fun ρ h => (b.ev cl ρ h).bind fun y h2 => r.evAnd cl ρ y h2)
  anT : ∀ (b : E) (p : Pos), SE X Z n cv cl b -> b.okT = true -> r.okT = true -> PW X (.BoolOp .And (b.py n :: r.py n) p) (lift X.K cv RB Z fun ρ h => (b.evT cl ρ h).bind fun c h2 => r.evAndT cl ρ c h2)
  orr : ∀ (b : E) (p : Pos), SE X Z n cv cl b -> PE X (.BoolOp .Or (b.py n :: r.py n) p) (lift X.K cv (Rep X.K) Z fun ρ h => (b.ev cl ρ h).bind fun y h2 => r.evOr cl ρ y h2)
  orT : ∀ (b : E) (p : Pos), SE X Z n cv cl b -> b.okT = true -> r.okT = true -> PW X (.BoolOp .Or (b.py n :: r.py n) p) (lift X.K cv RB Z fun ρ h => (b.evT cl ρ h).bind fun c h2 => r.evOrT cl ρ c h2)
  ps : PsOk X Z n cv cl r
theorem lift_C {v : V} {d : D} {Q : VK} {σ : St} {H : Hp} (hv : ∀ K μ H, Rep K μ H d v) (p : lift X.K cv (Rep X.K) Z (fun _ h => .ok d h) σ H Q) : tC v σ H Q := by
  obtain ⟨μ, ρ, h, hr, er, q⟩ := p
  exact q.here hr (hv _ _ _)
theorem lift2 {f : D -> D -> Hh -> Res D} {a b : E} {σ : St} {H : Hp} {Q : VK} (p : lift X.K cv (Rep X.K) Z (fun ρ h => (a.ev cl ρ h).bind fun x h1 => (b.ev cl ρ h1).bind fun y h2 => f x y h2) σ H Q) :
    tOp (r2 X.K cv f) (lift X.K cv (Rep X.K) Z (a.ev cl)) (lift X.K cv (Rep X.K) Z (b.ev cl)) σ H Q := by
  obtain ⟨μ, ρ, h, hr, er, q⟩ := p
  refine lift_bind (m := a.ev cl) hr er q fun da h1 μ1 H1 x _ e1 r1 er1 qa p1 => ?_
  refine lift_bind (m := b.ev cl) r1 er1 p1 fun db h2 μ2 H2 y _ e2 r2 er2 qb p2 => ?_
  exact ⟨μ2, h2, da, db, _, r2, qa.mono e2, qb, p2⟩
theorem lift1 {f : D -> Hh -> Res D} {a : E} {σ : St} {H : Hp} {Q : VK} (p : lift X.K cv (Rep X.K) Z (fun ρ h => (a.ev cl ρ h).bind fun x h1 => f x h1) σ H Q) :
    tUn (r1 X.K cv f) (lift X.K cv (Rep X.K) Z (a.ev cl)) σ H Q := by
  obtain ⟨μ, ρ, h, hr, er, q⟩ := p
  refine lift_bind (m := a.ev cl) hr er q fun da h1 μ1 H1 x _ e1 r1 er1 qa p1 => ?_
  exact ⟨μ1, h1, da, _, r1, qa, p1⟩
theorem un_op (op : UnaryOp) (h : op = .Invert \/ op = .USub) : UnR X (unaryOp op) (r1 X.K cv (unD op)) := by
  intro pins s σ H x v Q I rx hh
  obtain ⟨μ, h', a, Z', hr, ra, p⟩ := hh
  rcases h with rfl | rfl
  · unfold unD at p
    cases ra with
    | int i => exact un_inv pins s σ H _ v Q I rx ⟨i, rfl, p.here hr (.int _)⟩
    | _ => exact p.elim
  · unfold unD at p
    cases ra with
    | int i => exact un_neg pins s σ H _ v Q I rx ⟨i, rfl, p.here hr (.int _)⟩
    | _ => exact p.elim
theorem ix_dict (hu : X.A.units + 1 < cLine) : IxR X (fun x y H Q => ∃ a v, x = .ref a /\ DGet H a y (some v) /\ Q v H) := by
  intro value slice pins s σ H x y v u Q I rx ry h hs
  obtain ⟨a, w, rfl, g, q⟩ := h
  cases rx
  have ty : s.TypeIs (.ref a) "dict" := by
    rcases g with ⟨kvs, k, e, ey, l⟩ | ⟨kvs, k, b, e, ey, eb, l⟩
    · obtain ⟨_, _, vs, _, o, es, ep, e1, ex, _⟩ := e.ok I.hok
      exact ⟨o, e1, ex.1⟩
    · obtain ⟨_, _, xs, _, o, es, ep, e1, ex, _⟩ := e.ok I.hok
      exact ⟨o, e1, ex.1⟩
  exact tail_any ty slot_dict_getitem.lookup (d_getItem hu I g ry fun w' s' I' r' => ⟨w, H, I', r', q⟩) hs
theorem RepKs.val {K : PySem.W.Frag} {μ : List Addr} {H : Hp} {k : Key} {d : D} : ∀ {ds : List (Key × D)} {vs : List (Key × V)}, RepKs K μ H ds vs -> valD ds k = some d -> ∃ v, valV vs k = some v /\ Rep K μ H d v
  | _, _, .nil, e => by unfold valD at e; simp at e
  | _, _, .cons (k := k') (d := d') (v := v') h r, e => by
    by_cases hk : k' = k
    · rw [valV_pos (p := (k', v')) hk]
      unfold valD at e
      rw [List.find?_cons_of_pos (by simpa using hk)] at e
      cases e
      exact ⟨_, rfl, h⟩
    · rw [valV_neg (p := (k', v')) hk]
      unfold valD at e
      rw [List.find?_cons_of_neg (by simpa using hk)] at e
      exact RepKs.val r e
theorem keyD_rep {K : PySem.W.Frag} {μ : List Addr} {H : Hp} {d : D} {v : V} {k : Key} (r : Rep K μ H d v) (e : keyD d = some k) : v = kV k := by
  unfold keyD at e
  cases r <;> first | (cases e; rfl) | cases e
theorem DicV.at {K : PySem.W.Frag} {k : Str} {c : Cv} : ∀ {kvs : List (Str × Cv)} {vs : List (Key × Value)}, DicV K kvs vs -> kvs.lookup k = some c -> ∃ v, valueAt vs (Sum.inr k : Key) = some v /\ CvOk K v c
  | [], [], _, e => by cases e
  | [], _ :: _, h, _ => h.elim
  | _ :: _, [], h, _ => h.elim
  | (k', ys) :: r, (q, v) :: s, ⟨h1, h2, h4⟩, e => by
    rw [List.lookup_cons] at e
    by_cases hk : k = k'
    · subst hk
      simp only [beq_self_eq_true] at e
      cases e
      refine ⟨v, ?_, h2⟩
      unfold valueAt
      rw [List.find?_cons_of_pos (by simpa using h1)]
      rfl
    · have hb : (k == k') = false := by simpa using hk
      rw [hb] at e
      obtain ⟨b, e1, e2⟩ := DicV.at h4 e
      refine ⟨b, ?_, e2⟩
      unfold valueAt at e1 ⊢
      rw [List.find?_cons_of_neg (by
        have h1' : q = Sum.inr k' := h1
        simp only [decide_eq_true_eq]
        intro z
        rw [h1'] at z
        exact hk (Sum.inr.inj z).symm)]
      exact e1
noncomputable def CvV (K : PySem.W.Frag) (u : V) : Cv -> Prop
  | .tup xs => ∃ a, u = .ref a /\ TupK K a xs
  | .int i => u = .int i
theorem CvOk.v {K : PySem.W.Frag} {v : Value} {c : Cv} (h : CvOk K v c) : ∃ u, RelV u v /\ CvV K u c := by
  cases c with
  | tup xs => obtain ⟨a, rfl, t⟩ := h; exact ⟨.ref a, rfl, a, rfl, t⟩
  | int i => obtain ⟨t, rfl⟩ := h; exact ⟨.int i, ⟨t, rfl⟩, rfl⟩
theorem ix_cst {kvs : List (Str × Cv)} : IxR X (fun x y H Q => ∃ a k c, x = .ref a /\ y = .str k /\ CnOk X.prog X.w X.K (.ref a) (.dic kvs) /\ kvs.lookup k = some c /\ ∀ u, CvV X.K u c -> Q u H) := by
  intro value slice pins s σ H x y v u Q I rx ry h hs
  obtain ⟨a, k, xs, rfl, rfl, ok, l, q⟩ := h
  cases rx
  obtain ⟨a', o, es, ep, vs, ea, e1, ex, ed, ks, ps, nd, dv⟩ := ok
  cases ea
  obtain ⟨b, e2, tk⟩ := dv.at l
  obtain ⟨bu, tr, tk⟩ := tk.v
  have eh := I.kIn a o e1
  have dd : s.heap.DictOf (mixKind X.prog X.w) a vs := ⟨o, es, ep, eh, ex, ed, ks, ps, nd⟩
  exact tail_any ⟨o, eh, ex.1⟩ slot_dict_getitem.lookup (wpAny_getItem_of (kV_is (k := .inr k) ry) dd.mapOf e2 ⟨bu, H, I.tok _, tr, q bu tk⟩) hs
theorem TupK.rep {K : PySem.W.Frag} {μ : List Addr} {H : Hp} {a : Addr} {xs : List Str} (h : TupK K a xs) : Rep K μ H (.tup (xs.map .str)) (.ref a) := by
  have rs : ∀ ys : List Str, Reps K μ H (ys.map D.str) (ys.map V.str) := fun ys => by
    induction ys with
    | nil => exact .nil
    | cons y r ih => exact .cons (.str y) ih
  exact .tup (.inr h) (rs xs)
theorem CvV.rep {K : PySem.W.Frag} {μ : List Addr} {H : Hp} {u : V} {c : Cv} (h : CvV K u c) : Rep K μ H c.d u := by
  cases c with
  | tup xs => obtain ⟨a, rfl, t⟩ := h; exact t.rep
  | int i => cases h; exact .int i
theorem ix_ours (hu : X.A.units + 1 < cLine) : IxR X (r2 X.K cv subD) := by
  intro value slice pins s σ H x y v u Q I rx ry hh hs
  obtain ⟨μ, h, a, b, Z', hr, ra, rb, p⟩ := hh
  cases ra with
  | tup h1 h2 =>
    cases rb with
    | int k =>
      rw [sub_tup] at p
      split at p
      · rename_i d e
        obtain ⟨w, e1, e2⟩ := h2.atI e
        exact ix_tup value slice pins s σ H _ _ v u Q I rx ry ⟨_, _, _, w, rfl, rfl, h1, e1, p.here hr e2⟩ hs
      · exact p.elim
    | _ => exact p.elim
  | fl h1 h2 =>
    cases rb with
    | int k =>
      rw [sub_fl] at p
      split at p
      · rename_i d e
        obtain ⟨w, e1, e2⟩ := h2.atI e
        exact ix_list value slice pins s σ H _ _ v u Q I rx ry ⟨_, _, _, w, rfl, rfl, h1.sq, e1, p.here hr e2⟩ hs
      · exact p.elim
    | _ => exact p.elim
  | str z =>
    cases rb with
    | int k =>
      rw [sub_str] at p
      split at p
      · rename_i c
        split at p
        · rename_i d e
          exact ix_str value slice pins s σ H _ _ v u Q I rx ry ⟨_, _, _, rfl, rfl, line_le c, e, p.here hr (.str _)⟩ hs
        · exact p.elim
      · exact p.elim
    | _ => exact p.elim
  | @loc nn a m =>
    rw [sub_loc] at p
    cases e1 : h[nn]? with
    | none => rw [e1] at p; exact p.elim
    | some o =>
      rw [e1] at p
      have q := hr.obj nn a o m e1
      cases o with
      | lst xs =>
        obtain ⟨vs, q1, q2⟩ := q
        cases rb with
        | int k =>
          cases e2 : atI xs k with
          | none => simp only [e2] at p; exact p.elim
          | some d =>
            simp only [e2] at p
            obtain ⟨w, e3, e4⟩ := q2.atI e2
            exact ix_list value slice pins s σ H _ _ v u Q I rx ry ⟨_, _, _, w, rfl, rfl, SqL.of q1, e3, p.here hr e4⟩ hs
        | _ => exact p.elim
      | dK kvs =>
        obtain ⟨vs, q1, q2⟩ := q
        cases e2 : keyD b with
        | none => simp only [e2, Option.bind_none] at p; exact p.elim
        | some k =>
          simp only [e2, Option.bind_some] at p
          cases e3 : valD kvs k with
          | none => simp only [e3] at p; exact p.elim
          | some d =>
            simp only [e3] at p
            obtain ⟨w, e4, e5⟩ := q2.val e3
            have ey := keyD_rep rb e2
            subst ey
            exact ix_dict hu value slice pins s σ H _ _ v u Q I rx ry ⟨_, w, rfl, e4 ▸ DGet.k q1, p.here hr e5⟩ hs
  | _ => exact p.elim
noncomputable def rLen (K : PySem.W.Frag) (cv : Nat -> Value) : List V -> Hp -> VK -> Prop := fun xs H Q => ∃ x, xs = [x] /\ r1 K cv lenD x H Q
theorem call_lenI : CallR X (.builtin "len") (rLen X.K cv) := by
  intro pins s σ H xs us Q I r hh
  obtain ⟨x, rfl, μ, h, a, Z', hr, ra, p⟩ := hh
  refine call_len pins s σ H _ us Q I r ⟨x, ?_⟩
  cases ra with
  | tup h1 h2 => exact ⟨_, rfl, .inr ⟨_, h1, h2.length⟩, p.here hr (.int _)⟩
  | @loc nn b m =>
    rw [len_loc] at p
    cases e1 : rd h nn with
    | none => rw [e1] at p; exact p.elim
    | some ys =>
      rw [e1] at p
      obtain ⟨vs, hs1, rs⟩ := hr.rd e1 m
      exact ⟨_, rfl, .inl ⟨_, hs1, rs.length⟩, p.here hr (.int _)⟩
  | fl h1 h2 => exact ⟨_, rfl, .inl ⟨_, h1.sq, h2.length⟩, p.here hr (.int _)⟩
  | str y =>
    rw [len_str] at p
    split at p
    · rename_i c; exact ⟨_, rfl, ⟨line_le c, rfl⟩, p.here hr (.int _)⟩
    · exact p.elim
  | _ => exact p.elim
end
end PI
set_option Elab.async false
set_option linter.all false
set_option maxRecDepth 100000
set_option maxHeartbeats 4000000
namespace PI
open PySem L2 PySem.Spec
open PyProof.Rows hiding St
section
variable {X : Cx} {Z : ZK} {k : Nat} {n : Nm} {cv : Nat -> Value} {cl : Nat -> List D -> Hh -> Res D}
noncomputable def rM0 (K : PySem.W.Frag) (cv : Nat -> Value) (m : M0) : V -> List V -> Hp -> VK -> Prop := fun x vs H Q => vs = [] /\ r1 K cv (m0D m) x H Q
noncomputable def rM1 (K : PySem.W.Frag) (cv : Nat -> Value) (m : M1) : V -> List V -> Hp -> VK -> Prop := fun x vs H Q => ∃ y, vs = [y] /\ r2 K cv (m1D m) x y H Q
theorem lst_of {K : PySem.W.Frag} {μ : List Addr} {H : Hp} {h : Hh} (hr : HR K μ h H) {n : Nat} {a : Addr} {xs : List D} (m : μ[n]? = some a) (e : h[n]? = some (.lst xs)) : ∃ vs, H a = some (.lst vs) /\ Reps K μ H xs vs := hr.obj n a _ m e
theorem Reps.reverse {K : PySem.W.Frag} {μ : List Addr} {H : Hp} : ∀ {ds : List D} {vs : List V}, Reps K μ H ds vs -> Reps K μ H ds.reverse vs.reverse
  | _, _, .nil => .nil
  | _, _, .cons h r => by rw [List.reverse_cons, List.reverse_cons]; exact r.reverse.append (.cons h .nil)
theorem Reps.dropLast {K : PySem.W.Frag} {μ : List Addr} {H : Hp} : ∀ {ds : List D} {vs : List V}, Reps K μ H ds vs -> Reps K μ H ds.dropLast vs.dropLast
  | _, _, .nil => .nil
  | _, _, .cons h .nil => .nil
  | _, _, .cons h (.cons h' r) => .cons h (Reps.dropLast (.cons h' r))
theorem Reps.set {K : PySem.W.Frag} {μ : List Addr} {H : Hp} {d : D} {v : V} (q : Rep K μ H d v) : ∀ {ds : List D} {vs : List V} (i : Nat), Reps K μ H ds vs -> Reps K μ H (ds.set i d) (vs.set i v)
  | _, _, _, .nil => .nil
  | _, _, 0, .cons _ r => .cons q r
  | _, _, i + 1, .cons h r => .cons h (Reps.set q i r)
theorem Reps.take {K : PySem.W.Frag} {μ : List Addr} {H : Hp} : ∀ {ds : List D} {vs : List V} (i : Nat), Reps K μ H ds vs -> Reps K μ H (ds.take i) (vs.take i)
  | _, _, 0, _ => .nil
  | _, _, _ + 1, .nil => .nil
  | _, _, i + 1, .cons h r => .cons h (Reps.take i r)
theorem Reps.drop {K : PySem.W.Frag} {μ : List Addr} {H : Hp} : ∀ {ds : List D} {vs : List V} (i : Nat), Reps K μ H ds vs -> Reps K μ H (ds.drop i) (vs.drop i)
  | _, _, 0, r => r
  | _, _, _ + 1, .nil => .nil
  | _, _, i + 1, .cons _ r => Reps.drop i r
theorem Reps.cut {K : PySem.W.Frag} {μ : List Addr} {H : Hp} {ds : List D} {vs : List V} (r : Reps K μ H ds vs) (lo hi : Option Int) : Reps K μ H (cutXs ds lo hi) (cutV vs lo hi) := by
  unfold cutXs cutV
  rw [<- r.length]
  exact (r.drop _).take _
theorem mt_pop0 : MtR X "list.pop" (rM0 X.K cv .pop) := by
  intro pins s σ H x xs v us Q I rx rs hh
  obtain ⟨rfl, μ, h, a, Z', hr, ra, p⟩ := hh
  unfold m0D at p
  cases ra with
  | @loc nn b m =>
    cases e1 : h[nn]? with
    | none => simp only [e1] at p; exact p.elim
    | some o =>
      cases o with
      | dK _ => simp only [e1] at p; exact p.elim
      | lst ds =>
        simp only [e1] at p
        obtain ⟨vs, q1, q2⟩ := lst_of hr m e1
        cases e2 : ds.getLast? with
        | none => simp only [e2] at p; exact p.elim
        | some d =>
          simp only [e2] at p
          rw [List.getLast?_eq_getElem?] at e2
          obtain ⟨w, e3, e4⟩ := q2.get e2
          rw [q2.length] at e3
          obtain ⟨hr', ex⟩ := hr.chg (u := .lst vs.dropLast) (o' := .lst ds.dropLast) e1 m fun H' ex e => ⟨_, e, (q2.mono ex).dropLast⟩
          exact mt_pop pins s σ H _ _ v us Q I rx rs ⟨b, vs, w, rfl, rfl, q1, e3, p μ _ w ex hr' (e4.mono ex)⟩
  | _ => exact p.elim
theorem mt_append1 : MtR X "list.append" (rM1 X.K cv .append) := by
  intro pins s σ H x xs v us Q I rx rs hh
  obtain ⟨y, rfl, μ, h, a, d, Z', hr, ra, rb, p⟩ := hh
  unfold m1D at p
  cases ra with
  | @loc nn b m =>
    cases e1 : h[nn]? with
    | none => simp only [e1] at p; exact p.elim
    | some o =>
      cases o with
      | dK _ => simp only [e1] at p; exact p.elim
      | lst ds =>
        simp only [e1] at p
        obtain ⟨vs, q1, q2⟩ := lst_of hr m e1
        split at p
        · rename_i c
          obtain ⟨hr', ex⟩ := hr.chg (u := .lst (vs ++ [y])) (o' := .lst (ds ++ [d])) e1 m fun H' ex e => ⟨_, e, (q2.mono ex).append (.cons (rb.mono ex) .nil)⟩
          exact mt_append pins s σ H _ _ v us Q I rx rs ⟨b, vs, y, rfl, rfl, q1, by rw [<- q2.length]; exact line_lt c, p μ _ .non ex hr' .non⟩
        · exact p.elim
  | _ => exact p.elim
theorem meets_extT (l b : Addr) (xs ys : Array Value) (n m : Nat) (dd : Option Addr) (ss : Array (Option Value)) (h0 : ¬(!xs.isEmpty && Builtin.List.listTooLong (xs.size + ys.size)) = true) (h1 : xs.size <= sizeLine) (h2 : xs.size + ys.size <= sizeLine + 1) :
    Meets (Builtin.«list.extend» ⟨[.ref l, .ref b], []⟩) (fun _ R s =>
      s.heap.get? l = some { cls := .type "list", data := .seq xs n } /\
      s.heap.get? b = some ⟨.type "tuple", dd, .seq ys m, ss⟩ /\
      R (.ok (.ret Value.none)) { s with heap := s.heap.update l (Obj.mapSeq fun x => x ++ ys), toks := s.toks }) :=
  .of_wp fun prog w A R s h => by
    obtain ⟨hp, g, d, tk, os⟩ := s
    obtain ⟨hl, hb, h⟩ := h
    have f1 := AutoSeq1.idx_int
    have f2 := AutoSeq1.sub_list_tuple
    have f3 := AutoSeq1.sub_tuple_list
    have f4 := AutoSeq1.sub_tuple_tuple
    have f5 := AutoSeq1.sub_list_list
    have hz : (xs ++ ys).size <= sizeLine + 1 := by rw [Array.size_append]; exact h2
    wp_walk using (wpAny_updateSeq hl rfl (hz := h1) (_hz' := hz)), AutoSeq1.wpAny_loadPart' hl, AutoSeq1.wpAny_loadPart' hb
    exact ⟨_, rfl, h⟩
noncomputable def rExtT (K : PySem.W.Frag) : V -> List V -> Hp -> VK -> Prop := fun x vs H Q => ∃ l b xs zs, x = .ref l /\ vs = [.ref b] /\ H l = some (.lst xs) /\ SqT K H b zs /\ xs.length + zs.length <= sizeLine /\ Q .non (upd H l (.lst (xs ++ zs)))
theorem mt_extT {X : Cx} : MtM X "list.extend" (rExtT X.K) := by
  intro pins s σ H x vs v us Q I rx rv h
  obtain ⟨l, b, xs, zs, rfl, rfl, hH, hB, hz, q⟩ := h
  cases rx
  obtain ⟨u, rfl, ru⟩ := rv.one
  cases ru
  obtain ⟨z, its, n, r, hl, e⟩ := I.lstM hH
  obtain ⟨its2, r2, ⟨o, e2, oc, m, od⟩, z2⟩ := I.tuple hB
  obtain ⟨oc', dd, od', ss⟩ := o
  cases oc
  cases od
  have hl2 := r2.length
  have hsz : its.toArray.size + its2.toArray.size <= sizeLine := by simp only [List.size_toArray]; omega
  have hlong : ¬ (!its.toArray.isEmpty && Builtin.List.listTooLong (its.toArray.size + its2.toArray.size)) = true := by rw [notLongL hsz, Bool.and_false]; exact Bool.false_ne_true
  refine call_meets F.slot_list_extend ⟨_, e, rfl⟩ F.entry_list_extend (F.args_list_extend_2 _ _) (meets_extT l b its.toArray its2.toArray n m dd ss hlong (by simp only [List.size_toArray]; omega) (by omega)) ⟨e, e2, ?_⟩
  refine ⟨.non, _, I.lset (its' := its ++ its2) hH e (by simp) (r.append r2) (by rw [List.length_append]; omega), rfl, q⟩
theorem mt_extend1 : MtR X "list.extend" (rM1 X.K cv .extend) := by
  intro pins s σ H x xs v us Q I rx rs hh
  obtain ⟨y, rfl, μ, h, a, d, Z', hr, ra, rb, p⟩ := hh
  unfold m1D at p
  cases ra with
  | @loc nn b m =>
    cases e1 : h[nn]? with
    | none => simp only [e1] at p; exact p.elim
    | some o =>
      cases o with
      | dK _ => simp only [e1] at p; exact p.elim
      | lst ds =>
        simp only [e1] at p
        obtain ⟨vs, q1, q2⟩ := lst_of hr m e1
        cases rb with
        | @loc nm b2 m2 =>
          cases e2 : h[nm]? with
          | none => simp only [e2] at p; exact p.elim
          | some o2 =>
            cases o2 with
            | dK _ => simp only [e2] at p; exact p.elim
            | lst ds2 =>
              simp only [e2] at p
              obtain ⟨vs2, q3, q4⟩ := lst_of hr m2 e2
              split at p
              · rename_i c
                obtain ⟨hr', ex⟩ := hr.chg (u := .lst (vs ++ vs2)) (o' := .lst (ds ++ ds2)) e1 m fun H' ex e => ⟨_, e, (q2.mono ex).append (q4.mono ex)⟩
                exact mt_extend pins s σ H _ _ v us Q I rx rs ⟨b, b2, vs, vs2, rfl, rfl, q1, q3, by rw [<- q2.length, <- q4.length]; exact line_le c, p μ _ .non ex hr' .non⟩
              · exact p.elim
        | @tup ds2 vs2 b2 q3 q4 =>
          simp only at p
          split at p
          · rename_i c
            obtain ⟨hr', ex⟩ := hr.chg (u := .lst (vs ++ vs2)) (o' := .lst (ds ++ ds2)) e1 m fun H' ex e => ⟨_, e, (q2.mono ex).append (q4.mono ex)⟩
            exact mt_extT pins s σ H _ _ v us Q I rx rs ⟨b, b2, vs, vs2, rfl, rfl, q1, q3, by rw [<- q2.length, <- q4.length]; exact line_le c, p μ _ .non ex hr' .non⟩
          · exact p.elim
        | _ => exact p.elim
  | _ => exact p.elim
noncomputable def rCut (K : PySem.W.Frag) (cv : Nat -> Value) : V -> Option Int -> Option Int -> Hp -> VK -> Prop := fun x lo hi H Q => ∃ μ h a Z, HR K μ h H /\ Rep K μ H a x /\ PostE K cv (Rep K) μ H (cutD a lo hi h) Q Z
theorem new_loc {K : PySem.W.Frag} {cv : Nat -> Value} {μ : List Addr} {H : Hp} {h : Hh} {ds : List D} {vs : List V} {Q : VK} {Z : Value -> Hp -> Prop} (hr : HR K μ h H) (r : Reps K μ H ds vs) (p : PostE K cv (Rep K) μ H (new (.lst ds) h) Q Z) :
    ∀ b, H b = none -> Q (.ref b) (upd H b (.lst vs)) := fun b hb => by
  refine p _ _ _ ((ext_new hb).add hb) (hr.alloc hb (hr.fresh hb) fun μ' g => ⟨_, upd_same, (r.mono (ext_new hb)).mono' g⟩) (.loc ?_)
  rw [<- hr.len, List.getElem?_append_right (Nat.le_refl _), Nat.sub_self]
  rfl
theorem cut_tup {xs : List D} {lo hi : Option Int} {h : Hh} : cutD (.tup xs) lo hi h = if HT.sIx xs.length 0 lo = 0 /\ HT.sIx xs.length xs.length hi = xs.length then .ok (.tup xs) h else .ok (.tup (cutXs xs lo hi)) h := rfl
theorem cut_loc {n : Nat} {lo hi : Option Int} {h : Hh} : cutD (.loc n) lo hi h = match rd h n with | some xs => new (.lst (cutXs xs lo hi)) h | none => .no := rfl
theorem sl_ours : SlR X (rCut X.K cv) := by
  intro pins s σ H x v vl vu lo hi sl Q I rx hs pl pu hh
  obtain ⟨μ, h, a, Z', hr, ra, p⟩ := hh
  cases ra with
  | tup h1 h2 =>
    rw [cut_tup] at p
    split at p
    · rename_i c
      rw [h2.length] at c
      exact sl_tupW pins s σ H _ v vl vu lo hi sl Q I rx hs pl pu ⟨_, _, rfl, h1, c.1, c.2, p.here hr (.tup h1 h2)⟩
    · rename_i c
      rw [h2.length] at c
      exact sl_tup pins s σ H _ v vl vu lo hi sl Q I rx hs pl pu ⟨_, _, rfl, h1, c, fun b hb => p μ _ _ (ext_new hb) (hr.tup hb) (.tup (SqT.of upd_same) ((h2.cut lo hi).mono (ext_new hb)))⟩
  | fl h1 h2 => exact sl_list pins s σ H _ v vl vu lo hi sl Q I rx hs pl pu ⟨_, _, rfl, h1.sq, new_loc hr (h2.cut lo hi) p⟩
  | str x =>
    simp only [cutD] at p
    split at p
    · rename_i c
      exact sl_str pins s σ H _ v vl vu lo hi sl Q I rx hs pl pu ⟨x, rfl, Nat.le_trans c (by decide), p.here hr (.str _)⟩
    · exact p.elim
  | @loc nn b m =>
    rw [cut_loc] at p
    cases e1 : rd h nn with
    | none => simp only [e1] at p; exact p.elim
    | some xs =>
      simp only [e1] at p
      obtain ⟨vs, hs1, rs⟩ := hr.rd e1 m
      exact sl_list pins s σ H _ v vl vu lo hi sl Q I rx hs pl pu ⟨_, _, rfl, hs1, new_loc hr (rs.cut lo hi) p⟩
  | _ => exact p.elim
theorem seqOf_rep {K : PySem.W.Frag} {μ : List Addr} {H : Hp} {h : Hh} {d : D} {v : V} {xs : List D} (hr : HR K μ h H) (r : Rep K μ H d v) (e : seqOf d h = some xs) : ∃ a vs, v = .ref a /\ ((SqL K H a vs /\ (∀ ys, d ≠ .tup ys)) \/ (SqT K H a vs /\ d = .tup xs)) /\ Reps K μ H xs vs := by
  unfold seqOf at e
  cases r with
  | tup h1 h2 => cases e; exact ⟨_, _, rfl, .inr ⟨h1, rfl⟩, h2⟩
  | fl h1 h2 => cases e; exact ⟨_, _, rfl, .inl ⟨h1.sq, fun _ z => nomatch z⟩, h2⟩
  | @loc nn b m =>
    unfold PI.rd at e
    cases e1 : h[nn]? with
    | none => simp only [e1] at e; cases e
    | some o =>
      cases o with
      | dK _ => simp only [e1] at e; cases e
      | lst ds =>
        simp only [e1] at e
        cases e
        obtain ⟨vs, q1, q2⟩ := lst_of hr m e1
        exact ⟨_, _, rfl, .inl ⟨SqL.of q1, fun _ z => nomatch z⟩, q2⟩
  | _ => cases e
noncomputable def tupD (d : D) (h : Hh) : Res D := match seqOf d h with | some xs => .ok (.tup xs) h | none => .no
theorem call_tupI : CallR X (.type "tuple") (fun xs H Q => ∃ x, xs = [x] /\ r1 X.K cv tupD x H Q) := by
  intro pins s σ H xs us Q I r hh
  obtain ⟨x, rfl, μ, h, a, Z', hr, ra, p⟩ := hh
  unfold tupD at p
  cases e : seqOf a h with
  | none => rw [e] at p; exact p.elim
  | some ds =>
    rw [e] at p
    obtain ⟨b, vs, rfl, q1, q2⟩ := seqOf_rep hr ra e
    refine call_tuple_of pins s σ H _ us Q I r ⟨b, vs, rfl, ?_⟩
    rcases q1 with ⟨q1, _⟩ | ⟨q1, rfl⟩
    · exact .inl ⟨q1, fun l hl => p μ _ _ (ext_new hl) (hr.tup hl) (.tup (SqT.of upd_same) (q2.mono (ext_new hl)))⟩
    · exact .inr ⟨q1, p.here hr ra⟩
theorem rd_reps {K : PySem.W.Frag} {μ : List Addr} {H : Hp} {h : Hh} {n : Nat} {a : Addr} {ds : List D} (hr : HR K μ h H) (m : μ[n]? = some a) (e : PI.rd h n = some ds) : ∃ vs, H a = some (.lst vs) /\ Reps K μ H ds vs := by
  unfold PI.rd at e
  cases e1 : h[n]? with
  | none => simp only [e1] at e; cases e
  | some o =>
    cases o with
    | dK _ => simp only [e1] at e; cases e
    | lst xs =>
      simp only [e1] at e
      cases e
      exact lst_of hr m e1
theorem Reps.eraseIdx {K : PySem.W.Frag} {μ : List Addr} {H : Hp} : ∀ {ds : List D} {vs : List V} (i : Nat), Reps K μ H ds vs -> Reps K μ H (ds.eraseIdx i) (vs.eraseIdx i)
  | _, _, _, .nil => .nil
  | _, _, 0, .cons _ r => r
  | _, _, i + 1, .cons h r => .cons h (Reps.eraseIdx i r)
noncomputable def rPut (K : PySem.W.Frag) : TSet := fun o i v H Q => ∃ μ h a b c h', HR K μ h H /\ Rep K μ H a o /\ Rep K μ H b i /\ Rep K μ H c v /\ putS a b c h = some h' /\ ∀ μ' H', Ext K μ H μ' H' -> HR K μ' h' H' -> Q H'
theorem RepKs.map {K : PySem.W.Frag} {μ : List Addr} {H : Hp} {k : Key} {d : D} {v : V} (q : Rep K μ H d v) : ∀ {ds : List (Key × D)} {vs : List (Key × V)}, RepKs K μ H ds vs ->
    RepKs K μ H (ds.map fun kv => if kv.1 = k then (kv.1, d) else kv) (vs.map fun kv => if kv.1 = k then (kv.1, v) else kv)
  | _, _, .nil => .nil
  | _, _, .cons (k := k') h r => by
    rw [List.map_cons, List.map_cons]
    by_cases e : k' = k
    · rw [if_pos e, if_pos e]; exact .cons q (RepKs.map q r)
    · rw [if_neg e, if_neg e]; exact .cons h (RepKs.map q r)
theorem RepKs.any {K : PySem.W.Frag} {μ : List Addr} {H : Hp} (k : Key) : ∀ {ds : List (Key × D)} {vs : List (Key × V)}, RepKs K μ H ds vs -> (ds.any fun kv => decide (kv.1 = k)) = (vs.any fun kv => decide (kv.1 = k))
  | _, _, .nil => rfl
  | _, _, .cons h r => by rw [List.any_cons, List.any_cons, RepKs.any k r]
theorem RepKs.snoc {K : PySem.W.Frag} {μ : List Addr} {H : Hp} {k : Key} {d : D} {v : V} (q : Rep K μ H d v) : ∀ {ds : List (Key × D)} {vs : List (Key × V)}, RepKs K μ H ds vs -> RepKs K μ H (ds ++ [(k, d)]) (vs ++ [(k, v)])
  | _, _, .nil => .cons q .nil
  | _, _, .cons h r => .cons h (RepKs.snoc q r)
theorem RepKs.put {K : PySem.W.Frag} {μ : List Addr} {H : Hp} {k : Key} {d : D} {v : V} {ds : List (Key × D)} {vs : List (Key × V)} (r : RepKs K μ H ds vs) (q : Rep K μ H d v) : RepKs K μ H (putD ds k d) (putK vs k v) := by
  unfold putD putK
  rw [<- r.any k]
  split
  · exact r.map q
  · exact r.snoc q
theorem set_ours (hu : X.A.units + 1 < cLine) : PSet X (rPut X.K) := by
  intro pins s σ H o i v ov iv u Q I ro ri rv hh
  obtain ⟨μ, h, a, b, c, h', hr, ra, rb, rc, e, q⟩ := hh
  unfold putS at e
  cases ra with
  | @loc nn p m =>
    cases e1 : h[nn]? with
    | none => simp only [e1] at e; cases e
    | some ob =>
      cases ob with
      | lst xs =>
        simp only [e1] at e
        obtain ⟨vs, q1, q2⟩ := lst_of hr m e1
        cases rb with
        | int k =>
          cases e2 : ixN xs.length k with
          | none => simp only [e2, Option.map_none] at e; cases e
          | some j =>
            simp only [e2, Option.map_some] at e
            cases e
            obtain ⟨hr', ex⟩ := hr.chg (u := .lst (vs.set j v)) (o' := .lst (xs.set j c)) e1 m fun H' ex e => ⟨_, e, (q2.mono ex).set (rc.mono ex) j⟩
            exact set_list pins s σ H _ _ v ov iv u Q I ro ri rv ⟨p, vs, k, j, rfl, rfl, q1, by rw [<- q2.length]; exact e2, q μ _ ex hr'⟩
        | _ => cases e
      | dK kvs =>
        simp only [e1] at e
        obtain ⟨vs, q1, q2⟩ := (hr.obj nn p _ m e1 : RepO X.K μ H p (.dK kvs))
        cases e2 : keyD b with
        | none => simp only [e2, Option.bind_none] at e; cases e
        | some k =>
          simp only [e2, Option.bind_some] at e
          split at e
          · rename_i hl
            cases e
            have ey := keyD_rep rb e2
            subst ey
            obtain ⟨hr', ex⟩ := hr.chg (u := .dK (putK vs k v)) (o' := .dK (putD kvs k c)) e1 m fun H' ex e => ⟨_, e, (q2.mono ex).put (rc.mono ex)⟩
            cases ro
            exact d_setItem hu I (DPut.k q1 (by rw [<- q2.length]; exact line_lt hl)) ri rv fun s' I' => ⟨_, I', q μ _ ex hr'⟩
          · cases e
  | _ => cases e
end
end PI
set_option Elab.async false
set_option linter.all false
set_option maxRecDepth 100000
set_option maxHeartbeats 4000000
namespace PI
open PySem L2 PySem.Spec
open PyProof.Rows hiding St
theorem lift_bind0 {α β γ δ : Type} {K : PySem.W.Frag} {cv : Nat -> Value} {R : List Addr -> Hp -> α -> β -> Prop} {R' : List Addr -> Hp -> γ -> δ -> Prop} {μ0 μ : List Addr} {ρ : En} {h : Hh} {σ : St} {H0 H : Hp} {Z : ZK} {Zz : Value -> Hp -> Prop} {m : En -> Hh -> Res α} {f : α -> Hh -> Res γ} {Q : δ -> Hp -> Prop} {Q' : β -> Hp -> Prop}
    (e0 : Ext K μ0 H0 μ H) (hr : HR K μ h H) (er : ER K μ ρ σ H) (p : PostE K cv R' μ0 H0 ((m ρ h).bind f) Q Zz) (hz : ∀ C H', Zz C H' -> Z σ C H')
    (go : ∀ a h1 μ1 H1 x, m ρ h = .ok a h1 -> Ext K μ H μ1 H1 -> HR K μ1 h1 H1 -> ER K μ1 ρ σ H1 -> R μ1 H1 a x -> PostE K cv R' μ0 H0 (f a h1) Q Zz -> Q' x H1) :
    lift K cv R Z m σ H Q' := by
  refine ⟨μ, ρ, h, hr, er, ?_⟩
  cases e : m ρ h with
  | ok a h1 =>
    rw [e, bind_ok] at p
    exact fun μ1 H1 x e1 r1 q1 => go a h1 μ1 H1 x e e1 r1 (er.mono e1) q1 p
  | exc c h1 =>
    rw [e, bind_exc] at p
    exact fun μ1 H1 e1 r1 => hz _ _ (p μ1 H1 (e0.trans e1) r1)
  | no => rw [e, bind_no] at p; exact p
noncomputable def Src (K : PySem.W.Frag) (μ0 : List Addr) (H0 : Hp) (c : Ck) (ds : List D) (J : It) : Prop := ∀ μ h H, Ext K μ0 H0 μ H -> HR K μ h H -> stay c h ->
  (∀ i d, ds[i]? = some d -> J.go i H /\ ∀ x H', J.yld i H x H' -> H' = H /\ Rep K μ H d x) /\ J.stop ds.length H
noncomputable def RJ (K : PySem.W.Frag) : List Addr -> Hp -> (Ck × List D) -> It -> Prop := fun μ H q J => Src K μ H q.1 q.2 J
noncomputable def RL (K : PySem.W.Frag) (H0 : Hp) : List Addr -> Hp -> List D -> V -> Prop := fun μ H ds v => ∃ p vs, v = .ref p /\ H p = some (.lst vs) /\ Reps K μ H ds vs /\ p ∉ μ /\ H0 p = none
noncomputable abbrev liftL (K : PySem.W.Frag) (cv : Nat -> Value) (Z : ZK) (m : En -> Hh -> Res (List D)) : TE := fun σ H Q => lift K cv (RL K H) Z m σ H Q
section
variable {K : PySem.W.Frag} {μ : List Addr} {H : Hp} {h : Hh} {ds : List D} {vs : List V} {a : Addr}
theorem src_sq {c : Ck} (k : ∀ μ1 h1 H1, Ext K μ H μ1 H1 -> HR K μ1 h1 H1 -> stay c h1 -> ∃ vs, SqL K H1 a vs /\ Reps K μ1 H1 ds vs) : Src K μ H c ds (Itl K a) := fun μ1 h1 H1 ex hr st => by
  obtain ⟨vs, q1, q2⟩ := k μ1 h1 H1 ex hr st
  refine ⟨fun i d e => ?_, ⟨vs, q1, by rw [<- q2.length]; exact Nat.le_refl _⟩⟩
  obtain ⟨w, e1, e2⟩ := q2.get e
  refine ⟨⟨vs, w, q1, e1⟩, fun x H' y => ⟨y.1, ?_⟩⟩
  have := y.2 vs q1
  rw [e1] at this
  cases this
  exact e2
theorem src_loc {n : Nat} (m : μ[n]? = some a) : Src K μ H [(n, ds)] ds (Itl K a) := src_sq fun μ1 h1 H1 ex hr st => by
  have e : rd h1 n = some ds := st (n, ds) (List.mem_singleton.mpr rfl)
  have m1 := ex.loc n a m
  unfold PI.rd at e
  cases e1 : h1[n]? with
  | none => simp only [e1] at e; cases e
  | some o =>
    cases o with
    | dK _ => simp only [e1] at e; cases e
    | lst xs =>
      simp only [e1] at e
      cases e
      obtain ⟨vs, q1, q2⟩ := lst_of hr m1 e1
      exact ⟨vs, SqL.of q1, q2⟩
theorem src_fl (f : Fz K H a vs) (r : Reps K μ H ds vs) : Src K μ H [] ds (Itl K a) := src_sq fun μ1 h1 H1 ex hr st => ⟨vs, (ex.fz _ _ f).sq, r.mono ex⟩
theorem src_new (e : H a = some (.lst vs)) (n : a ∉ μ) (r : Reps K μ H ds vs) : Src K μ H [] ds (Itl K a) := src_sq fun μ1 h1 H1 ex hr st => ⟨vs, SqL.of (ex.oth _ _ e n), r.mono ex⟩
theorem src_tup (f : SqT K H a vs) (r : Reps K μ H ds vs) : Src K μ H [] ds (Itt K a) := fun μ1 h1 H1 ex hr st => by
  have q1 := ex.tup _ _ f
  have q2 := r.mono ex
  refine ⟨fun i d e => ?_, ⟨vs, q1, by rw [<- q2.length]; exact Nat.le_refl _⟩⟩
  obtain ⟨w, e1, e2⟩ := q2.get e
  refine ⟨⟨vs, w, q1, e1⟩, fun x H' y => ⟨y.1, ?_⟩⟩
  have := y.2 vs q1
  rw [e1] at this
  cases this
  exact e2
theorem src_str (z : Str) : Src K μ H [] (z.cps.toList.map fun c => .str ⟨#[c]⟩) (Its z) := fun μ1 h1 H1 ex hr st => by
  refine ⟨fun i d e => ?_, by show z.length <= _; rw [List.length_map]; exact Nat.le_of_eq rfl⟩
  rw [List.getElem?_map] at e
  cases e1 : z.cps.toList[i]? with
  | none => rw [e1] at e; cases e
  | some c =>
    rw [e1] at e
    cases e
    refine ⟨?_, fun x H' y => ⟨y.1, ?_⟩⟩
    · have := (List.getElem?_eq_some_iff.mp e1).1
      exact (by simpa using this : i < z.cps.size)
    · obtain ⟨c', e2, rfl⟩ := y.2
      rw [e1] at e2
      cases e2
      exact .str _
theorem src_rv {c : Ck} (k : ∀ μ1 h1 H1, Ext K μ H μ1 H1 -> HR K μ1 h1 H1 -> stay c h1 -> ∃ vs, SqL K H1 a vs /\ Reps K μ1 H1 ds vs) : Src K μ H c ds.reverse (Itv K a ds.length) := fun μ1 h1 H1 ex hr st => by
  obtain ⟨vs, q1, q2⟩ := k μ1 h1 H1 ex hr st
  have hl := q2.length
  refine ⟨fun i d e => ?_, by show _ = _; rw [List.length_reverse]⟩
  have hi : i < ds.length := by have := (List.getElem?_eq_some_iff.mp e).1; rwa [List.length_reverse] at this
  rw [List.getElem?_reverse hi] at e
  obtain ⟨w, e1, e2⟩ := q2.get e
  refine ⟨⟨hi, vs, q1, hl.symm⟩, fun x H' y => ⟨y.1, ?_⟩⟩
  have := y.2 vs q1
  rw [e1] at this
  cases this
  exact e2
theorem src_rvt (f : SqT K H a vs) (r : Reps K μ H ds vs) : Src K μ H [] ds.reverse (Itw K a ds.length) := fun μ1 h1 H1 ex hr st => by
  have q1 := ex.tup _ _ f
  have q2 := r.mono ex
  have hl := q2.length
  refine ⟨fun i d e => ?_, by show _ = _; rw [List.length_reverse]⟩
  have hi : i < ds.length := by have := (List.getElem?_eq_some_iff.mp e).1; rwa [List.length_reverse] at this
  rw [List.getElem?_reverse hi] at e
  obtain ⟨w, e1, e2⟩ := q2.get e
  refine ⟨⟨hi, vs, q1, hl.symm⟩, fun x H' y => ⟨y.1, ?_⟩⟩
  have := y.2 vs q1
  rw [e1] at this
  cases this
  exact e2
theorem src_rvl {n : Nat} (m : μ[n]? = some a) : Src K μ H [(n, ds)] ds.reverse (Itv K a ds.length) := src_rv fun μ1 h1 H1 ex hr st => by
  have e : rd h1 n = some ds := st (n, ds) (List.mem_singleton.mpr rfl)
  obtain ⟨vs, q1, q2⟩ := rd_reps hr (ex.loc n a m) e
  exact ⟨vs, SqL.of q1, q2⟩
theorem src_rvf (f : Fz K H a vs) (r : Reps K μ H ds vs) : Src K μ H [] ds.reverse (Itv K a ds.length) := src_rv fun μ1 h1 H1 ex hr st => ⟨vs, (ex.fz _ _ f).sq, r.mono ex⟩
theorem src_rng2 (i : Int) (j : Nat) : Src K μ H [] ((List.range j).map fun (k : Nat) => .int (i + (k : Nat))) (Itr i j) := fun μ1 h1 H1 ex hr st => by
  refine ⟨fun m d e => ?_, by show j <= _; rw [List.length_map, List.length_range]; exact Nat.le_refl _⟩
  rw [List.getElem?_map] at e
  cases e1 : (List.range j)[m]? with
  | none => rw [e1] at e; cases e
  | some c =>
    rw [e1] at e
    cases e
    obtain ⟨hi, e2⟩ := List.getElem?_eq_some_iff.mp e1
    rw [List.length_range] at hi
    rw [List.getElem_range] at e2
    subst e2
    exact ⟨hi, fun x H' y => ⟨y.1, by rw [y.2]; exact .int _⟩⟩
theorem src_rngD (i : Int) (j : Nat) : Src K μ H [] ((List.range j).map fun (k : Nat) => .int (i - (k : Nat))) (ItrD i j) := fun μ1 h1 H1 ex hr st => by
  refine ⟨fun m d e => ?_, by show j <= _; rw [List.length_map, List.length_range]; exact Nat.le_refl _⟩
  rw [List.getElem?_map] at e
  cases e1 : (List.range j)[m]? with
  | none => rw [e1] at e; cases e
  | some c =>
    rw [e1] at e
    cases e
    obtain ⟨hi, e2⟩ := List.getElem?_eq_some_iff.mp e1
    rw [List.length_range] at hi
    rw [List.getElem_range] at e2
    subst e2
    exact ⟨hi, fun x H' y => ⟨y.1, by rw [y.2]; exact .int _⟩⟩
theorem src_rng (j : Nat) : Src K μ H [] ((List.range j).map fun (k : Nat) => .int (k : Nat)) (Itr 0 j) := fun μ1 h1 H1 ex hr st => by
  refine ⟨fun i d e => ?_, by show j <= _; rw [List.length_map, List.length_range]; exact Nat.le_refl _⟩
  rw [List.getElem?_map] at e
  cases e1 : (List.range j)[i]? with
  | none => rw [e1] at e; cases e
  | some c =>
    rw [e1] at e
    cases e
    obtain ⟨hi, e2⟩ := List.getElem?_eq_some_iff.mp e1
    rw [List.length_range] at hi
    rw [List.getElem_range] at e2
    subst e2
    refine ⟨hi, fun x H' y => ⟨y.1, ?_⟩⟩
    rw [y.2, Int.zero_add]
    exact .int _
end
section
variable {X : Cx} {Z : ZK} {k : Nat} {n : Nm} {cv : Nat -> Value} {cl : Nat -> List D -> Hh -> Res D} {tg : Expr}
theorem pi_any {l : Expr} {tl : TE} (hl : PE X l tl) : PI X tg l (fun σ H R => tl σ H fun x H1 => (∃ a, x = .ref a /\ (∃ xs, SqL X.K H1 a xs) /\ R (Itl X.K a) H1) \/ (∃ a, x = .ref a /\ (∃ xs, SqT X.K H1 a xs) /\ R (Itt X.K a) H1) \/ ∃ z, x = .str z /\ R (Its z) H1) := by
  intro pins s σ H R I h
  refine thn (hl pins s σ H _ I h) fun v s1 ⟨x, H1, I1, r1, q1⟩ => ?_
  rcases q1 with ⟨a, rfl, ⟨xs, hq⟩, q⟩ | ⟨a, rfl, ⟨xs, hq⟩, q⟩ | ⟨x, rfl, q⟩
  · cases r1
    obtain ⟨its, rv, p, hz⟩ := I1.list hq
    refine wpAny_pyIter_list p.isList ?_
    refine ⟨s1.heap.objs.size, [s1.heap.objs.size], _, _, H1, rfl, I1.kept (t' := s1.toks) fun b o e => Heap.get?_push_of_some _ e, turn_list a _, ⟨_, Heap.get?_push_size _ rfl, rfl, rfl⟩, fun b hb => ?_, q⟩
    have e : b = s1.heap.objs.size := by simpa using hb
    subst e
    exact I1.fpOk (Nat.le_refl _) (I1.hok.fresh (Nat.le_refl _))
  · cases r1
    obtain ⟨its, rv, p, hz⟩ := I1.tuple hq
    refine wpAny_pyIter_tuple (show s1.heap.IsTuple a its.toArray from p) ?_
    refine ⟨s1.heap.objs.size, [s1.heap.objs.size], _, _, H1, rfl, I1.kept (t' := s1.toks) fun b o e => Heap.get?_push_of_some _ e, turn_tuple a _, ⟨_, Heap.get?_push_size _ rfl, rfl, rfl⟩, fun b hb => ?_, q⟩
    have e : b = s1.heap.objs.size := by simpa using hb
    subst e
    exact I1.fpOk (Nat.le_refl _) (I1.hok.fresh (Nat.le_refl _))
  · obtain ⟨t, rfl⟩ := r1
    have fp : ∀ b ∈ [s1.heap.objs.size], FpOk X pins H1 b := fun b hb => by
      have e : b = s1.heap.objs.size := by simpa using hb
      subst e
      exact I1.fpOk (Nat.le_refl _) (I1.hok.fresh (Nat.le_refl _))
    cases ha : x.cps.all (· < 128) with
    | false =>
      refine wpAny_pyIter_wide ha ?_
      exact ⟨s1.heap.objs.size, [s1.heap.objs.size], _, _, H1, rfl, I1.kept (t' := s1.toks) fun b o e => Heap.get?_push_of_some _ e, turn_wide _ x t, ⟨_, Heap.get?_push_size _ rfl, rfl, rfl⟩, fp, q⟩
    | true =>
      refine wpAny_pyIter_ascii ha ?_
      exact ⟨s1.heap.objs.size, [s1.heap.objs.size], _, _, H1, rfl, I1.kept (t' := s1.toks) fun b o e => Heap.get?_push_of_some _ e, turn_ascii _ x t, ⟨_, Heap.get?_push_size _ rfl, rfl, rfl⟩, fp, q⟩
theorem PI.mono {iter : Expr} {t t' : TI} (p : L2.PI X tg iter t) (h : ∀ σ H R, t' σ H R -> t σ H R) : L2.PI X tg iter t' := fun pins s σ H R I q => p pins s σ H R I (h σ H R q)
noncomputable def gB (K : PySem.W.Frag) (t : Tg) : TG := fun v σ H Q => ∃ μ ρ d ρ' h, HR K μ h H /\ ER K μ ρ σ H /\ Rep K μ H d v /\ bindT t d ρ = some ρ' /\
  ∀ σ', ER K μ ρ' σ' H -> σ'.length = σ.length -> (∀ i, i ∉ t.idx -> σ'[i]? = σ[i]?) -> Q σ' H
theorem PG.mono {t t' : TG} (p : PG X tg t) (h : ∀ v σ H Q, t' v σ H Q -> t v σ H Q) : PG X tg t' := fun pins s σ H v u Q I r q => p pins s σ H v u Q I r (h v σ H Q q)
noncomputable def gNs : List (Nat × Pos) -> TGs
  | [] => gNil
  | q :: r => gCons (gName q.1) (gNs r)
theorem pgs_names (hN : X.N.Nodup) : ∀ (is : List (Nat × Pos)), (∀ q ∈ is, q.1 < X.N.length /\ Loc X.env.scope (X.N.getD q.1 "") /\ (X.fn (X.N.getD q.1 "") = true \/ X.env.scope.names.lookup (X.N.getD q.1 "") = some .local)) ->
    PGs X (is.map fun q => .Name (X.N.getD q.1 "") q.2) (gNs is)
  | [], _ => pgs_nil
  | q :: r, h => by
    have hq := h q (List.mem_cons_self ..)
    exact pgs_cons (pg_name (i := q.1) hN (by rw [List.getD_eq_getElem?_getD, List.getElem?_eq_getElem hq.1]; rfl) hq.2.1 hq.2.2) (pgs_names hN r fun z hz => h z (List.mem_cons_of_mem _ hz))
theorem names_len (N : List Str) (env : Env) : ∀ is : List (Nat × Pos), (assignEach (is.map fun q => .Name (N.getD q.1 "") q.2) env).length = is.length /\ (assignEach (is.map fun q => .Name (N.getD q.1 "") q.2) env).findIdx? (·.1) = none
  | [] => ⟨rfl, rfl⟩
  | q :: r => by
    have ih := names_len N env r
    rw [List.map_cons]
    refine ⟨?_, ?_⟩
    · show ((false, _) :: assignEach (r.map fun q => .Name (N.getD q.1 "") q.2) env).length = _
      rw [List.length_cons, ih.1, List.length_cons]
    · show ((false, _) :: assignEach (r.map fun q => .Name (N.getD q.1 "") q.2) env).findIdx? (·.1) = none
      rw [List.findIdx?_cons, ih.2]
      rfl
theorem fold_er {K : PySem.W.Frag} {μ : List Addr} {H : Hp} : ∀ (is : List (Nat × Pos)) {ds : List D} {vs : List V} {ρ : En} {σ : St} {Q : St -> Hp -> Prop}, Reps K μ H ds vs -> ds.length = is.length -> ER K μ ρ σ H ->
    (∀ σ', ER K μ ((is.zip ds).foldl (fun ρ q => ρ.set q.1.1 (some q.2)) ρ) σ' H -> σ'.length = σ.length -> (∀ i, i ∉ is.map (·.1) -> σ'[i]? = σ[i]?) -> Q σ' H) -> gNs is vs σ H Q
  | [], _, _, ρ, σ, Q, r, hl, er, q => by
    cases r with
    | nil => exact ⟨rfl, q σ er rfl fun _ _ => rfl⟩
    | cons _ _ => cases hl
  | p :: is, _, _, ρ, σ, Q, r, hl, er, q => by
    cases r with
    | nil => cases hl
    | cons r1 r2 =>
      refine ⟨_, _, rfl, ?_⟩
      refine fold_er is r2 (by simpa using hl) (er.set r1 p.1) fun σ' e1 e2 e3 => ?_
      refine q σ' e1 (e2.trans List.length_set) fun i hi => ?_
      rw [List.map_cons] at hi
      rw [e3 i fun z => hi (List.mem_cons_of_mem _ z), List.getElem?_set_ne fun z => hi (by rw [<- z]; exact List.mem_cons_self ..)]
theorem pg_T (hc : X.calm = true) (hN : X.N.Nodup) (t : Tg) (h : ∀ i ∈ t.idx, i < X.N.length /\ Loc X.env.scope (X.N.getD i "") /\ (X.fn (X.N.getD i "") = true \/ X.env.scope.names.lookup (X.N.getD i "") = some .local)) : PG X (t.py X.N) (gB X.K t) := by
  cases t with
  | one i p =>
    have hq := h i (List.mem_singleton.mpr rfl)
    refine PG.mono (pg_name (i := i) hN (by rw [List.getD_eq_getElem?_getD, List.getElem?_eq_getElem hq.1]; rfl) hq.2.1 hq.2.2) fun v σ H Q ⟨μ, ρ, d, ρ', h, hr, er, r, e, q⟩ => ?_
    cases e
    exact q _ (er.set r i) List.length_set fun j hj => List.getElem?_set_ne fun z => hj (by rw [<- z]; exact List.mem_singleton.mpr rfl)
  | tup is p =>
    refine PG.mono (pg_tup (k := 0) (pos := p) hc (pgs_names hN is fun q hq => h q.1 (List.mem_map.mpr ⟨q, hq, rfl⟩)) (names_len X.N X.env is).1 (names_len X.N X.env is).2) fun v σ H Q ⟨μ, ρ, d, ρ', h, hr, er, r, e, q⟩ => ?_
    unfold bindT at e
    cases r with
    | tup h1 h2 =>
      simp only at e
      split at e
      · rename_i c
        cases e
        exact ⟨_, _, rfl, h1, by rw [<- h2.length]; exact c, fold_er is h2 c er q⟩
      · cases e
    | _ => cases e
end
end PI
set_option Elab.async false
set_option linter.all false
set_option maxRecDepth 100000
set_option maxHeartbeats 4000000
namespace PI
open PySem L2 PySem.Spec
open PyProof.Rows hiding St
theorem line_ge : (1000000 : Nat) < sizeLine := by rw [sizeLine_eq]; decide
section
variable {X : Cx} {Z : ZK} {k : Nat} {n : Nm} {cv : Nat -> Value} {cl : Nat -> List D -> Hh -> Res D}
theorem capER {K : PySem.W.Frag} {μ : List Addr} {H : Hp} {ρ : En} {σ : St} (cap : List (Option Nat)) (er : ER K μ ρ σ H) : ER K μ (capE cap ρ) (capσ cap σ) H := by
  refine ⟨by unfold capE capσ; rw [List.length_map, List.length_map], fun j d e => ?_⟩
  unfold capE at e
  unfold capσ
  rw [List.getElem?_map] at e ⊢
  cases e1 : cap[j]? with
  | none => rw [e1] at e; cases e
  | some o =>
    rw [e1] at e
    cases o with
    | none => cases e
    | some i =>
      have e' : (ρ[i]?).bind id = some d := Option.some.inj e
      cases e2 : ρ[i]? with
      | none => rw [e2] at e'; cases e'
      | some o2 =>
        rw [e2] at e'
        have e3 : o2 = some d := e'
        subst e3
        obtain ⟨v, q1, q2⟩ := er.val i d e2
        exact ⟨v, by show some ((σ[i]?).bind id) = _; rw [q1]; rfl, q2⟩
theorem cap_none {osc scope : Scope} {N NC : List Str} {cap : List (Option Nat)} {t : Tg} (cok : compOk osc scope N NC cap = true) (ht : t.ok scope NC = true) (σ : St) : ∀ i ∈ t.idx, (capσ cap σ)[i]? = some none := by
  intro i hi
  unfold Tg.ok at ht
  have h1 := List.all_eq_true.mp ht i hi
  rw [Bool.and_eq_true] at h1
  have hl : i < NC.length := of_decide_eq_true h1.1
  have hloc : scope.names.lookup (NC.getD i "") = some .local \/ scope.names.lookup (NC.getD i "") = some .cell := of_decide_eq_true h1.2
  unfold compOk at cok
  simp only [Bool.and_eq_true] at cok
  obtain ⟨⟨⟨⟨⟨k1, k2⟩, k3⟩, k4⟩, k5⟩, k6⟩ := cok
  have hj := List.all_eq_true.mp k6 i (List.mem_range.mpr hl)
  have hN : NC[i]? = some (NC.getD i "") := by rw [List.getD_eq_getElem?_getD, List.getElem?_eq_getElem hl]; rfl
  have hc : i < cap.length := by rw [beq_iff_eq.mp k5]; exact hl
  unfold capσ
  rw [List.getElem?_map]
  cases e : cap[i]? with
  | none => rw [List.getElem?_eq_none_iff] at e; omega
  | some o =>
    cases o with
    | none => rfl
    | some m =>
      exfalso
      rw [e, hN] at hj
      simp only [Bool.and_eq_true, beq_iff_eq] at hj
      have hfree := hj.2
      rcases hloc with z | z <;> (rw [hfree] at z; cases z)
theorem read_comp {scope : Scope} {NC : List Str} {cap : List (Option Nat)} {t : Tg} {mi : En -> Hh -> Res (Ck × List D)} {mc : En -> Hh -> Res Bool} {me : En -> Hh -> Res D}
    (cok : compOk X.env.scope scope X.N NC cap = true) (ht : t.ok scope NC = true) {σ : St} {H : Hp} {Q : VK}
    (p : liftL X.K cv Z (fun ρ h => (mi ρ h).bind fun q h1 => if q.2.length <= 1000000 then compL q.1 (compF t (capE cap ρ) mc me) q.2 [] h1 else .no) σ H Q) :
    tComp Z cap (lift X.K cv (RJ X.K) Z mi) (gB X.K t) (fun Zc => lift X.K cv RB Zc mc) (fun Zc => lift X.K cv (Rep X.K) Zc me) σ H Q := by
  obtain ⟨μ, ρ, h, hr, er, p⟩ := p
  refine lift_bind0 (m := mi) Ext.refl hr er p (fun _ _ z => z) fun q h1 μ1 H1 J _ e1 r1 er1 src p1 => ?_
  split at p1
  rotate_left
  · exact p1.elim
  rename_i hlen
  obtain ⟨c, ds⟩ := q
  refine ⟨fun i m ys H2 => m = ds.length - i /\ i <= ds.length /\ ∃ μ2 h2 acc, Ext X.K μ1 H1 μ2 H2 /\ HR X.K μ2 h2 H2 /\ Reps X.K μ2 H2 acc ys /\ acc.length <= i /\ PostE X.K cv (RL X.K H) μ H (compL c (compF t (capE cap ρ) mc me) (ds.drop i) acc h2) Q (Z σ),
    ⟨ds.length, by simp, Nat.zero_le _, μ1, h1, [], Ext.refl, r1, .nil, Nat.le_refl _, p1⟩, ?_⟩
  rintro i m ys H2 ⟨rfl, hi', μ2, h2, acc, e2, r2, ry, ha, p2⟩
  have hyl : ys.length <= i := by rw [<- ry.length]; exact ha
  have hll : ds.length <= 1000000 := hlen
  by_cases hlt : i < ds.length
  · right
    rw [List.drop_eq_getElem_cons hlt] at p2
    unfold compL at p2
    split at p2
    rotate_left
    · exact p2.elim
    rename_i st
    obtain ⟨s1, s2⟩ := src μ2 h2 H2 e2 r2 st
    obtain ⟨g1, g2⟩ := s1 i ds[i] (List.getElem?_eq_getElem hlt)
    refine ⟨g1, by have := line_ge; omega, fun x H3 y => ?_⟩
    obtain ⟨rfl, rx⟩ := g2 x H3 y
    have er2 : ER X.K μ2 ρ σ H3 := er1.mono e2
    unfold compF at p2
    cases eb : bindT t ds[i] (capE cap ρ) with
    | none => rw [eb] at p2; exact p2.elim
    | some ρ' =>
      rw [eb] at p2
      refine ⟨μ2, capE cap ρ, ds[i], ρ', h2, r2, capER cap er2, rx, eb, fun σ4 er4 hl4 hs4 => ⟨⟨hl4, fun j v ej => ?_⟩, ?_⟩⟩
      · have nj : j ∉ t.idx := fun z => by rw [cap_none cok ht σ j z] at ej; cases ej
        rw [hs4 j nj]; exact ej
      have p3 : PostE X.K cv (RL X.K H) μ H ((mc ρ' h2).bind fun b h3 => (if b then (me ρ' h3).bind fun d h4 => Res.ok (some d) h4 else Res.ok none h3).bind fun o h' => compL c (compF t (capE cap ρ) mc me) (ds.drop (i + 1)) (addO acc o) h') Q (Z σ) := by
        have p2' := p2
        rw [bind_assoc] at p2'
        exact p2'
      refine lift_bind0 (m := mc) (R := RB) (e1.trans e2) r2 er4 p3 (fun _ _ z => z) fun b h3 μ3 H3' bb _ e3 r3 er5 qb p4 => ?_
      have qb' : b = bb := qb
      subst qb'
      cases b with
      | false =>
        refine iteF ⟨ds.length - (i + 1), by omega, rfl, hlt, μ3, h3, acc, e2.trans e3, r3, ry.mono e3, Nat.le_succ_of_le ha, p4⟩
      | true =>
        refine iteT ?_
        have p5 : PostE X.K cv (RL X.K H) μ H ((me ρ' h3).bind fun d h4 => compL c (compF t (capE cap ρ) mc me) (ds.drop (i + 1)) (acc ++ [d]) h4) Q (Z σ) := by
          have p4' := p4
          rw [if_pos rfl, bind_assoc] at p4'
          exact p4'
        refine lift_bind0 (m := me) ((e1.trans e2).trans e3) r3 er5 p5 (fun _ _ z => z) fun d h4 μ4 H4 v _ e4 r4 er6 qd p6 => ?_
        exact ⟨ds.length - (i + 1), by omega, rfl, hlt, μ4, h4, acc ++ [d], (e2.trans e3).trans e4, r4, ((ry.mono e3).mono e4).append (.cons qd .nil), by rw [List.length_append]; exact Nat.succ_le_succ ha, p6⟩
  · left
    have ei : i = ds.length := by omega
    subst ei
    rw [List.drop_length] at p2
    unfold compL at p2
    split at p2
    rotate_left
    · exact p2.elim
    rename_i st
    refine ⟨(src μ2 h2 H2 e2 r2 st).2, by have := line_ge; omega, fun a ha' => ?_⟩
    have ex := (e1.trans e2)
    have na := r2.fresh ha'
    have n0 : H a = none := by
      cases e : H a with
      | none => rfl
      | some o => rw [ex.oth a o e fun z => na (ex.sub z)] at ha'; cases ha'
    exact p2 μ2 _ _ (ex.trans (ext_new ha')) (r2.tup ha') ⟨a, ys, rfl, upd_same, ry.mono (ext_new ha'), na, n0⟩
theorem pe_compI {elt iter : Expr} {ifs : List Expr} {scope : Scope} {NC : List Str} {cap : List (Option Nat)} {t : Tg} {pos : Pos} {mi : En -> Hh -> Res (Ck × List D)} {mc : En -> Hh -> Res Bool} {me : En -> Hh -> Res D}
    (hc : X.calm = true) (th : Thr X Z) (hi : L2.PI X (t.py NC) iter (lift X.K cv (RJ X.K) Z mi)) (cok : compOk X.env.scope scope X.N NC cap = true) (ht : t.ok scope NC = true)
    (hg : ∀ C s H fp pn xe, PG (compCx X NC scope C s H fp pn xe) (t.py NC) (gB X.K t))
    (hf : ∀ C s H fp pn xe Zc, Thr (compCx X NC scope C s H fp pn xe) Zc -> PF (compCx X NC scope C s H fp pn xe) ifs (lift X.K cv RB Zc mc))
    (hb : ∀ C s H fp pn xe Zc, Thr (compCx X NC scope C s H fp pn xe) Zc -> PE (compCx X NC scope C s H fp pn xe) elt (lift X.K cv (Rep X.K) Zc me))
    (hs : ∀ x, foldedSetIterable iter X.env x = pure x) :
    PE X (.ListComp elt [⟨t.py NC, iter, ifs, 0⟩] scope pos) (liftL X.K cv Z fun ρ h => (mi ρ h).bind fun q h1 => if q.2.length <= 1000000 then compL q.1 (compF t (capE cap ρ) mc me) q.2 [] h1 else .no) :=
  PE.mono (pe_comp hc th hi cok hg (tf := fun Zc => lift X.K cv RB Zc mc) (te := fun Zc => lift X.K cv (Rep X.K) Zc me) hf hb hs) fun σ H Q p => read_comp cok ht p
theorem Kx.comp {scope : Scope} {NC : List Str} {cap : List (Option Nat)} (C : Kx X Z k n cv cl) (cok : compOk X.env.scope scope X.N NC cap = true) (hnd : NC.Nodup) (hgood : NC.all goodN = true) {Cc : Addr} {s : Shared} {H : Hp} {fp : List Addr} {pn : List (Addr × Obj)} {xe : Value -> Shared -> Prop} {Zc : ZK}
    (th : Thr (compCx X NC scope Cc s H fp pn xe) Zc) : Kx (compCx X NC scope Cc s H fp pn xe) Zc k ⟨NC, n.F, n.G⟩ cv cl := by
  obtain ⟨c1, c2, c3, c4, c5, c6, c7⟩ := compOk_parts cok
  refine ⟨th, C.rm, rfl, hnd, rfl, c1, fun x hx => ⟨?_, List.all_eq_true.mp hgood x hx⟩, C.bm, C.gc, C.fn⟩
  obtain ⟨j, hj⟩ := List.getElem?_of_mem hx
  have cok' := cok
  unfold compOk at cok'
  simp only [Bool.and_eq_true] at cok'
  obtain ⟨⟨⟨⟨⟨k1, k2⟩, k3⟩, k4⟩, k5⟩, k6⟩ := cok'
  have hl : j < NC.length := (List.getElem?_eq_some_iff.mp hj).1
  have hk := List.all_eq_true.mp k6 j (List.mem_range.mpr hl)
  have rel : (relabel scope X.env).names.lookup x = (scope.names.lookup x).map fun k => if k = .free then .cell else k := kindOf_rel (scope := scope) C.kd fun y hy e => c4 y hy e
  rw [hj] at hk
  show Vis (relabel scope X.env) x
  unfold Vis
  rw [rel]
  cases e : cap[j]? with
  | none => rw [e] at hk; cases hk
  | some o =>
    rw [e] at hk
    cases o with
    | none =>
      have hk' : scope.names.lookup x = some .local \/ scope.names.lookup x = some .cell := by simpa using hk
      rcases hk' with hk' | hk'
      · rw [hk']; exact .inl rfl
      · rw [hk']; exact .inr (.inl rfl)
    | some m =>
      simp only [Bool.and_eq_true, beq_iff_eq] at hk
      rw [hk.2]; exact .inr (.inl rfl)
end
end PI
set_option Elab.async false
set_option linter.all false
set_option maxRecDepth 100000
set_option maxHeartbeats 4000000
namespace PI
open PySem L2 PySem.Spec
open PyProof.Rows hiding St
theorem RepKs.merge {K : PySem.W.Frag} {μ : List Addr} {H : Hp} : ∀ {more : List (Key × D)} {mv : List (Key × V)} {ds : List (Key × D)} {vs : List (Key × V)}, RepKs K μ H more mv -> RepKs K μ H ds vs -> RepKs K μ H (mergeD ds more) (mergeK vs mv)
  | _, _, _, _, .nil, r => r
  | _, _, ds, vs, @RepKs.cons _ _ _ k d v ds' vs' h t, r => by
    have z := RepKs.merge (ds := putD ds k d) (vs := putK vs k v) t (r.put h)
    exact z
theorem RepKs.zip {K : PySem.W.Frag} {μ : List Addr} {H : Hp} : ∀ (ks : List (Str × Pos)) {ds : List D} {vs : List V}, Reps K μ H ds vs -> RepKs K μ H ((ks.map fun q => (Sum.inr q.1 : Key)).zip ds) ((ks.map fun q => (Sum.inr q.1 : Key)).zip vs)
  | [], _, _, _ => .nil
  | q :: ks, _, _, .nil => .nil
  | q :: ks, _, _, .cons h t => .cons h (RepKs.zip ks t)
theorem pairs_rep {K : PySem.W.Frag} {μ : List Addr} {H : Hp} : ∀ {ds : List D} {vs : List V} {kvs : List (Key × D)}, Reps K μ H ds vs -> pairsD ds = some kvs ->
    ∃ mv : List (Key × V), RepKs K μ H kvs mv /\ Paired (fun (x : V) (kv : Key × V) => ∃ a, x = .ref a /\ SqT K H a [kV kv.1, kv.2]) vs mv
  | _, _, _, .nil, e => by
    unfold pairsD at e
    cases e
    exact ⟨[], .nil, .nil⟩
  | _, _, kvs, @Reps.cons _ _ _ d v ds vs h t, e => by
    unfold pairsD at e
    cases e1 : pairD d with
    | none => rw [e1] at e; simp at e
    | some a =>
      cases e2 : pairsD ds with
      | none => rw [e1, e2] at e; simp at e
      | some b =>
        rw [e1, e2] at e
        simp only [Option.some.injEq] at e
        subst e
        obtain ⟨mv, m1, m2⟩ := pairs_rep t e2
        unfold pairD at e1
        split at e1
        · rename_i k x
          cases ek : keyD k with
          | none => rw [ek] at e1; simp at e1
          | some q =>
            rw [ek] at e1
            simp only [Option.map_some, Option.some.injEq] at e1
            subst e1
            cases h with
            | tup h1 h2 =>
              cases h2 with
              | cons hk ht =>
                cases ht with
                | cons hx hn =>
                  cases hn
                  have := keyD_rep hk ek
                  subst this
                  exact ⟨_, .cons hx m1, .cons ⟨_, rfl, h1⟩ m2⟩
        · cases e1
theorem ps_nil {X : Cx} {Z : ZK} {n : Nm} {cv : Nat -> Value} {cl : Nat -> List D -> Hh -> Res D} : PsOk X Z n cv cl .nil := by
  intro ks pos hl
  cases ks with
  | nil =>
    refine ⟨[], pps_nil, fun σ H Q => lift_elim fun μ ρ h hr er q => ?_⟩
    exact q.here hr .nil
  | cons _ _ => cases hl
theorem ps_cons {X : Cx} {Z : ZK} {n : Nm} {cv : Nat -> Value} {cl : Nat -> List D -> Hh -> Res D} {e : E} {r : Es} (se : PE X (e.py n) (lift X.K cv (Rep X.K) Z (e.ev cl))) (sr : PsOk X Z n cv cl r) : PsOk X Z n cv cl (.cons e r) := by
  intro ks pos hl
  have hl : ks.length = (e.py n :: r.py n).length := hl
  cases ks with
  | nil => cases hl
  | cons k ks =>
    obtain ⟨trs, p1, p2⟩ := sr ks pos (by simpa using hl)
    refine ⟨(tC (.str k.1), lift X.K cv (Rep X.K) Z (e.ev cl)) :: trs, pps_cons pe_str se p1, fun σ H Q => lift_elim fun μ ρ h hr er q => ?_⟩
    show lift X.K cv (Rep X.K) Z (e.ev cl) σ H _
    refine lift_bind (m := e.ev cl) hr er q fun da h1 μ1 H1 x _ e1 r1 er1 qa p3 => ?_
    refine p2 σ H1 _ (lift_bind (m := r.ev cl) r1 er1 p3 fun ds h2 μ2 H2 xs _ e2 r2 er2 qb p4 => ?_)
    exact p4.here r2 (.cons (qa.mono e2) qb)
section
variable {X : Cx} {cv : Nat -> Value}
theorem call_dictI (hc : X.calm = true) : CallR X (.type "dict") (fun xs H Q => ∃ x, xs = [x] /\ r1 X.K cv dicPD x H Q) := by
  intro pins s σ H xs us Q I r hh
  obtain ⟨x, rfl, μ, h, a, Z', hr, ra, p⟩ := hh
  unfold dicPD at p
  cases ra with
  | @loc nn b mm =>
    simp only at p
    cases e : rd h nn with
    | none => rw [e] at p; exact p.elim
    | some ds =>
      rw [e] at p
      simp only at p
      split at p
      · rename_i hl
        cases e2 : pairsD ds with
        | none => rw [e2] at p; exact p.elim
        | some kvs =>
          rw [e2] at p
          have e3 : h[nn]? = some (.lst ds) := by
            unfold rd at e
            cases e4 : h[nn]? with
            | none => rw [e4] at e; cases e
            | some o => cases o with
              | lst xs => rw [e4] at e; cases e; rfl
              | dK _ => rw [e4] at e; cases e
          obtain ⟨vs, q1, q2⟩ := lst_of hr mm e3
          obtain ⟨mv, m1, m2⟩ := pairs_rep q2 e2
          refine call_dictP hc pins s σ H _ us Q I r ⟨b, vs, mv, rfl, SqL.of q1, by rw [<- q2.length]; exact hl, m2, fun l hb => ?_⟩
          refine p _ _ _ ((ext_new hb).add hb) (hr.alloc hb (hr.fresh hb) fun μ' g => ⟨_, upd_same, ((RepKs.merge m1 .nil).mono (ext_new hb)).mono' g⟩) (.loc ?_)
          rw [<- hr.len, List.getElem?_append_right (Nat.le_refl _), Nat.sub_self]
          rfl
      · exact p.elim
  | _ => exact p.elim
theorem pg_TL (hc : X.calm = true) (hN : X.N.Nodup) (is : List (Nat × Pos)) (p1 : Pos) (h : ∀ i ∈ (Tg.tup is p1).idx, i < X.N.length /\ Loc X.env.scope (X.N.getD i "") /\ (X.fn (X.N.getD i "") = true \/ X.env.scope.names.lookup (X.N.getD i "") = some .local)) :
    PG X ((Tg.tup is p1).py X.N) (fun v σ H Q => ∃ μ ρ d ρ' h, HR X.K μ h H /\ ER X.K μ ρ σ H /\ Rep X.K μ H d v /\ bindT (.tup is p1) (unpD d h) ρ = some ρ' /\ ∀ σ', ER X.K μ ρ' σ' H -> Q σ' H) := by
  refine PG.mono (pg_tupL (k := 0) (pos := p1) hc (pgs_names hN is fun q hq => h q.1 (List.mem_map.mpr ⟨q, hq, rfl⟩)) (names_len X.N X.env is).1 (names_len X.N X.env is).2) fun v σ H Q ⟨μ, ρ, d, ρ', h, hr, er, r, e, q⟩ => ?_
  have fin : ∀ (ds : List D) (vs : List V), Reps X.K μ H ds vs -> bindT (.tup is p1) (.tup ds) ρ = some ρ' -> vs.length = is.length /\ gNs is vs σ H Q := fun ds vs h2 e => by
    unfold bindT at e
    simp only at e
    split at e
    · rename_i c
      cases e
      exact ⟨by rw [<- h2.length]; exact c, fold_er is h2 c er fun σ' e1 _ _ => q σ' e1⟩
    · cases e
  cases r with
  | tup h1 h2 =>
    obtain ⟨a, b⟩ := fin _ _ h2 e
    exact ⟨_, _, rfl, .inl h1, a, b⟩
  | @loc nn b mm =>
    unfold unpD at e
    simp only at e
    cases e1 : rd h nn with
    | none => rw [e1] at e; simp [bindT] at e
    | some ds =>
      rw [e1] at e
      obtain ⟨vs, hs1, rs⟩ := hr.rd e1 mm
      obtain ⟨a, b⟩ := fin _ _ rs e
      exact ⟨_, _, rfl, .inr hs1, a, b⟩
  | _ => simp [bindT, unpD] at e
end
end PI
set_option Elab.async false
set_option linter.all false
set_option maxRecDepth 100000
set_option maxHeartbeats 4000000
namespace PI
open PySem L2 PySem.Spec
open PyProof.Rows hiding St
section
variable {X : Cx} {Z : ZK} {k : Nat} {n : Nm} {cv : Nat -> Value} {cl : Nat -> List D -> Hh -> Res D}
theorem getD_some {α : Type} {xs : List α} {i : Nat} {d : α} (h : i < xs.length) : xs[i]? = some (xs.getD i d) := by
  rw [List.getD_eq_getElem?_getD, List.getElem?_eq_getElem h]; rfl
theorem getD_mem {α : Type} {xs : List α} {i : Nat} {d : α} (h : i < xs.length) : xs.getD i d ∈ xs := List.mem_of_getElem? (getD_some h)
theorem PO.mono {X : Cx} {e : Option Expr} {t t' : TO} (p : PO X e t) (h : ∀ σ H Q, t' σ H Q -> t σ H Q) : PO X e t' := fun pins s σ H Q I q => p pins s σ H Q I (h σ H Q q)
theorem base_plain (o : E) (x : Str) (env : Env) : attributeBase (o.py n) x env (eval (o.py n) env) = eval (o.py n) env := by
  cases o with
  | ofL l => cases l <;> (rfl)
  | _ => rfl
theorem few_one (a : E) (pos : Pos) (env : Env) : ((backTo pos (starEach [a.py n] env)).all (fun x => !x.1) && (backToKw pos (keywordEach [] env)).all (fun x => x.1.isSome)
      && decide (([a.py n] : List Expr).length + ([] : List Keyword).length + (if ([] : List Keyword).isEmpty then 0 else 1) < 30)) = true := by
  rw [star_cons]; rfl
theorem m0_ty {K : PySem.W.Frag} {μ : List Addr} {H : Hp} {h : Hh} {m : M0} {d : D} {v : V} (hr : HR K μ h H) (r : Rep K μ H d v) (e : m0D m d h ≠ .no) : tyV K "list" v H := by
  unfold m0D at e
  cases r with
  | @loc nn b mm =>
    cases e1 : h[nn]? with
    | none => simp only [e1] at e; exact absurd rfl e
    | some o =>
      cases o with
      | dK _ => simp only [e1] at e; exact absurd rfl e
      | lst ds => obtain ⟨vs, q1, q2⟩ := lst_of hr mm e1; exact .inl ⟨rfl, vs, SqL.of q1⟩
  | _ => exact absurd rfl e
theorem Reps.isEmpty {K : PySem.W.Frag} {μ : List Addr} {H : Hp} {ds : List D} {vs : List V} (r : Reps K μ H ds vs) : ds.isEmpty = vs.isEmpty := by cases r <;> rfl
theorem onL_ty {K : PySem.W.Frag} {cv : Nat -> Value} {R : List Addr -> Hp -> D -> V -> Prop} {μ : List Addr} {H : Hp} {h : Hh} {d : D} {v : V} {r : Res D} {Q : VK} {Z : Value -> Hp -> Prop} (hr : HR K μ h H) (q : Rep K μ H d v) (p : PostE K cv R μ H (onL d h r) Q Z) : tyV K "list" v H /\ PostE K cv R μ H r Q Z := by
  unfold onL at p
  cases q with
  | @loc nn b mm =>
    cases e1 : h[nn]? with
    | none => simp only [e1] at p; exact p.elim
    | some o =>
      cases o with
      | dK _ => simp only [e1] at p; exact p.elim
      | lst ds => simp only [e1] at p; obtain ⟨vs, q1, q2⟩ := lst_of hr mm e1; exact ⟨.inl ⟨rfl, vs, SqL.of q1⟩, p⟩
  | _ => exact p.elim
theorem fold_plain (it : I) {env : Env} : ∀ x, foldedSetIterable (it.py n) env x = pure x := by
  intro x
  cases it with
  | seq e =>
    cases e with
    | ofL l => cases l <;> (rfl)
    | _ => rfl
  | lst l => cases l <;> (rfl)
  | rng a p0 p => rfl
  | rng2 a b p0 p => rfl
  | rngD a b c p0 p => rfl
  | rev e p0 p => rfl
theorem comp_ok {elt : E} {t : Tg} {it : I} {c : Es} {NC : List Str} {cap : List (Option Nat)} {csc : Scope} {p : Pos} (C : Kx X Z k n cv cl) (h : (L.comp elt t it c NC cap csc p).ok X.env.scope n = true) :
    it.ok X.env.scope n = true /\ compOk X.env.scope csc X.N NC cap = true /\ NC.Nodup /\ NC.all goodN = true /\ t.ok csc NC = true /\ elt.ok (relab csc X.env.scope) ⟨NC, n.F, n.G⟩ = true /\ c.ok (relab csc X.env.scope) ⟨NC, n.F, n.G⟩ = true /\ c.okT = true /\ c.short = true := by
  have h : (_ && _) = true := h
  simp only [Bool.and_eq_true, decide_eq_true_eq] at h
  obtain ⟨⟨⟨⟨⟨⟨⟨⟨k1, k2⟩, k3⟩, k4⟩, k5⟩, k6⟩, k7⟩, k8⟩, k9⟩ := h
  exact ⟨k1, by rw [C.nN]; exact k2, k3, k4, k5, k6, k7, k8, k9⟩
theorem pf_none {Zc : ZK} {m : Nm} : PF X (Es.nil.py m) (lift X.K cv RB Zc (Es.nil.evC cl)) := by
  refine fun pins s σ H Q I q => pf_nil pins s σ H Q I ?_
  obtain ⟨μ, ρ, h, hr, er, q⟩ := q
  exact q.here hr rfl
theorem comp_pg {scope : Scope} {NC : List Str} {cap : List (Option Nat)} {t : Tg} (kd : X.env.scope.kind = .function) (cok : compOk X.env.scope scope X.N NC cap = true) (hnd : NC.Nodup) (ht : t.ok scope NC = true) {Cc : Addr} {s : Shared} {H : Hp} {fp : List Addr} {pn : List (Addr × Obj)} {xe : Value -> Shared -> Prop} :
    PG (compCx X NC scope Cc s H fp pn xe) (t.py NC) (gB X.K t) := by
  refine pg_T (X := compCx X NC scope Cc s H fp pn xe) rfl hnd t fun i hi => ?_
  unfold Tg.ok at ht
  have h1 := List.all_eq_true.mp ht i hi
  rw [Bool.and_eq_true] at h1
  have h2 : scope.names.lookup (NC.getD i "") = some .local \/ scope.names.lookup (NC.getD i "") = some .cell := of_decide_eq_true h1.2
  obtain ⟨c1, c2, c3, c4, c5, c6, c7⟩ := compOk_parts cok
  have rel : ∀ x, (relabel scope X.env).names.lookup x = (scope.names.lookup x).map fun k => if k = .free then .cell else k := fun x => kindOf_rel (scope := scope) kd fun y hy e => c4 y hy e
  refine ⟨of_decide_eq_true h1.1, ?_, ?_⟩
  · show Loc (relabel scope X.env) _
    unfold L2.Loc
    rw [rel]
    rcases h2 with h2 | h2
    · rw [h2]; exact .inl rfl
    · rw [h2]; exact .inr rfl
  · rcases h2 with h2 | h2
    · refine .inr ?_
      show (relabel scope X.env).names.lookup _ = _
      rw [rel, h2]; rfl
    · refine .inl ?_
      show (scope.names.lookup _ == some NameKind.cell) = true
      rw [h2]; rfl
mutual
theorem sE : ∀ (e : E) (X : Cx) (Z : ZK) (k : Nat) (n : Nm) (cv : Nat -> Value) (cl : Nat -> List D -> Hh -> Res D), Kx X Z k n cv cl -> e.ok X.env.scope n = true -> SE X Z n cv cl e
  | .non p, X, Z, k, n, cv, cl, C, _ => ⟨PE.mono pe_non fun σ H Q q => lift_C (fun _ _ _ => .non) q, fun z => nomatch z⟩
  | .bl b p, X, Z, k, n, cv, cl, C, _ => ⟨PE.mono pe_bl fun σ H Q q => lift_C (fun _ _ _ => .bl b) q, fun z => nomatch z⟩
  | .int i p, X, Z, k, n, cv, cl, C, _ => ⟨PE.mono pe_int fun σ H Q q => lift_C (fun _ _ _ => .int i) q, fun z => nomatch z⟩
  | .str x p, X, Z, k, n, cv, cl, C, _ => ⟨PE.mono pe_str fun σ H Q q => lift_C (fun _ _ _ => .str x) q, fun z => nomatch z⟩
  | .var i p, X, Z, k, n, cv, cl, C, h => by
    have hi : i < n.N.length := of_decide_eq_true h
    have hm := C.nm _ (getD_mem (d := ("" : Str)) hi)
    have hv := hm.1
    have hg := goodN_of hm.2
    have pe : PE X ((E.var i p).py n) (lift X.K cv (Rep X.K) Z ((E.var i p).ev cl)) := by
      refine PE.mono (pe_var (i := i) (by rw [C.nN]; exact getD_some hi) hv hg.1 hg.2) fun σ H Q => lift_elim fun μ ρ h hr er q => ?_
      have q : PostE X.K cv (Rep X.K) μ H (match ρ[i]? with | some (some d) => .ok d h | _ => .no) Q (Z σ) := q
      cases e : ρ[i]? with
      | none => rw [e] at q; exact q.elim
      | some o =>
        cases o with
        | none => rw [e] at q; exact q.elim
        | some d =>
          rw [e] at q
          obtain ⟨v, e1, r1⟩ := er.val i d e
          exact ⟨v, e1, q.here hr r1⟩
    exact ⟨pe, fun _ => by exact pt_lift pe fun _ => rfl⟩
  | .bin op a b p, X, Z, k, n, cv, cl, C, h => by
    have h' : a.ok X.env.scope n = true /\ b.ok X.env.scope n = true := by have h : (_ && _) = true := h; simpa using h
    have sa := sE a X Z k n cv cl C h'.1
    have sb := sE b X Z k n cv cl C h'.2
    have pe : PE X ((E.bin op a b p).py n) (lift X.K cv (Rep X.K) Z ((E.bin op a b p).ev cl)) := by
      refine PE.mono (pe_op (op_bin (cv := cv) op) sa.pe sb.pe) fun σ H Q q => ?_
      exact lift2 q
    exact ⟨pe, fun _ => by exact pt_lift pe fun _ => rfl⟩
  | .un op a p, X, Z, k, n, cv, cl, C, h => by
    have h' : a.ok X.env.scope n = true := by have h : (_ && _) = true := h; simp at h; exact h.1
    have sa := sE a X Z k n cv cl C h'
    cases op with
    | Not =>
      refine ⟨?_, fun z => ?_⟩
      · skip
        refine PE.mono (pe_not sa.pe) fun σ H Q => lift_elim fun μ ρ h hr er q => ?_
        refine lift_bind (m := a.ev cl) hr er q fun d h1 μ1 H1 x _ e1 r1 er1 qa p1 => ?_
        unfold unD at p1
        cases qa with
        | bl b => exact ⟨b, rfl, p1.here r1 (.bl _)⟩
        | _ => exact p1.elim
      · skip
        have z' : a.okT = true := by exact z
        refine PT.mono (pt_not (sa.pt z')) fun σ H Q => lift_elim fun μ ρ h hr er q => ?_
        refine ⟨μ, ρ, h, hr, er, ?_⟩
        have e1 : (E.un .Not a p).evT cl ρ h = (a.evT cl ρ h).bind fun b h1 => .ok (!b) h1 := by
          rw [evT_eq, evT_eq, bind_assoc]
          show ((a.ev cl ρ h).bind fun x h1 => unD .Not x h1).bind toB = _
          rw [bind_assoc]
          congr 1
          funext d h1
          unfold unD toB
          cases d <;> rfl
        rw [e1] at q
        cases e2 : a.evT cl ρ h with
        | ok b h1 =>
          rw [e2] at q
          intro μ1 H1 v x1 x2 x3
          have x3' : b = v := x3
          subst x3'
          exact q μ1 H1 (!b) x1 x2 rfl
        | exc c h1 => rw [e2] at q; exact q
        | no => rw [e2] at q; exact q
    | Invert =>
      have pe : PE X ((E.un .Invert a p).py n) (lift X.K cv (Rep X.K) Z ((E.un .Invert a p).ev cl)) := by
        refine PE.mono (pe_un (un_op (cv := cv) .Invert (.inl rfl)) sa.pe) fun σ H Q q => ?_
        exact lift1 q
      exact ⟨pe, fun _ => by exact pt_lift pe fun _ => rfl⟩
    | USub =>
      have pe : PE X ((E.un .USub a p).py n) (lift X.K cv (Rep X.K) Z ((E.un .USub a p).ev cl)) := by
        refine PE.mono (pe_un (un_op (cv := cv) .USub (.inr rfl)) sa.pe) fun σ H Q q => ?_
        exact lift1 q
      exact ⟨pe, fun _ => by exact pt_lift pe fun _ => rfl⟩
    | UAdd =>
      have no : ∀ {β : Type} {σ : St} {H : Hp} {R : List Addr -> Hp -> D -> β -> Prop} {Q : β -> Hp -> Prop}, lift X.K cv R Z ((E.un .UAdd a p).ev cl) σ H Q -> lift X.K cv (Rep X.K) Z (a.ev cl) σ H (fun _ _ => False) := by
        intro β σ H R Q ⟨μ, ρ, h, hr, er, q⟩
        refine lift_bind (m := a.ev cl) hr er q fun d h1 μ1 H1 x _ e1 r1 er1 qa p1 => ?_
        unfold unD at p1
        cases d <;> exact p1.elim
      have pe : PE X ((E.un .UAdd a p).py n) (lift X.K cv (Rep X.K) Z ((E.un .UAdd a p).ev cl)) := by
        refine PE.mono (pe_un (r := fun _ _ _ => False) (fun _ _ _ _ _ _ _ _ _ z => z.elim) sa.pe) fun σ H Q q => no q
      exact ⟨pe, fun _ => by exact pt_lift pe fun _ => rfl⟩
  | .cmp op a b p, X, Z, k, n, cv, cl, C, h => by
    have h' : (a.ok X.env.scope n = true /\ b.ok X.env.scope n = true) /\ behindInMarks op (b.py n) = false := by have h : (_ && _) = true := h; simpa using h
    have sa := sE a X Z k n cv cl C h'.1.1
    have sb := sE b X Z k n cv cl C h'.1.2
    refine ⟨?_, fun _ => ?_⟩
    · skip
      refine PE.mono (pe_cmpR (op_cmp (cv := cv) C.rm.units op) sa.pe sb.pe h'.2) fun σ H Q q => ?_
      exact lift2 q
    · skip
      refine PT.mono (pt_cmpR (op_cmp (cv := cv) C.rm.units op) sa.pe sb.pe h'.2) fun σ H Q => lift_elim fun μ ρ h hr er q => ?_
      have q : PostE X.K cv RB μ H (((a.ev cl ρ h).bind fun x h1 => (b.ev cl ρ h1).bind fun y h2 => cmpD op x y h2).bind toB) Q (Z σ) := q
      rw [bind_assoc] at q
      unfold tTest
      refine lift_bind (m := a.ev cl) hr er q fun da h1 μ1 H1 x _ e1 r1 er1 qa p1 => ?_
      rw [bind_assoc] at p1
      refine lift_bind (m := b.ev cl) r1 er1 p1 fun db h2 μ2 H2 y _ e2 r2 er2 qb p2 => ?_
      refine ⟨μ2, h2, da, db, Z σ, r2, qa.mono e2, qb, ?_⟩
      cases e3 : cmpD op da db h2 with
      | ok d h3 =>
        rw [e3] at p2
        intro μ3 H3 v x1 x2 x3
        unfold Res.bind toB at p2
        cases x3 with
        | bl c => exact ⟨c, rfl, p2 μ3 H3 c x1 x2 rfl⟩
        | _ => exact p2.elim
      | exc c h3 => rw [e3] at p2; exact p2
      | no => rw [e3] at p2; exact p2
  | .and a b r p, X, Z, k, n, cv, cl, C, h => by
    have h' : ((((a.ok X.env.scope n = true /\ b.ok X.env.scope n = true) /\ r.ok X.env.scope n = true) /\ a.okT = true) /\ b.okT = true) /\ r.okT = true := by have h : (_ && _) = true := h; simpa using h
    have sa := sE a X Z k n cv cl C h'.1.1.1.1.1
    have sb := sE b X Z k n cv cl C h'.1.1.1.1.2
    have sr := sEs r X Z k n cv cl C h'.1.1.1.2
    refine ⟨?_, fun _ => ?_⟩
    · skip
      refine PE.mono (pe_and sa.pe (sr.an b p sb)) fun σ H Q => lift_elim fun μ ρ h hr er q => ?_
      refine lift_bind (m := a.ev cl) hr er q fun d h1 μ1 H1 x _ e1 r1 er1 qa p1 => ?_
      unfold tru at p1
      cases qa with
      | bl c =>
        refine ⟨c, rfl, ?_⟩
        cases c with
        | true => exact iteT ⟨μ1, ρ, h1, r1, er1, p1⟩
        | false => exact iteF (p1.here r1 (.bl _))
      | _ => exact p1.elim
    · skip
      refine PT.mono (PW.pt (pw_and (sa.pt h'.1.1.2) (sr.anT b p sb h'.1.2 h'.2))) fun σ H Q => lift_elim fun μ ρ h hr er q => ?_
      have e0 : (E.and a b r p).evT cl ρ h = (a.evT cl ρ h).bind fun c h1 => if c then (b.evT cl ρ h1).bind fun c' h2 => r.evAndT cl ρ c' h2 else .ok false h1 := by
        rw [evT_eq, evT_eq, bind_assoc]
        show ((a.ev cl ρ h).bind fun x h1 => tru x h1 fun c h1 => if c then (b.ev cl ρ h1).bind fun y h2 => r.evAnd cl ρ y h2 else .ok (.bl false) h1).bind toB = _
        rw [bind_assoc]
        congr 1
        funext d h1
        unfold tru
        cases d with
        | bl c =>
          cases c with
          | false => rfl
          | true =>
            show ((b.ev cl ρ h1).bind fun y h2 => r.evAnd cl ρ y h2).bind toB = (b.evT cl ρ h1).bind fun c' h2 => r.evAndT cl ρ c' h2
            rw [evT_eq, bind_assoc, bind_assoc]
            congr 1
            funext y h2
            exact and_toB r ρ y h2
        | _ => rfl
      rw [e0] at q
      refine lift_bind (m := a.evT cl) (R := RB) hr er q fun c h1 μ1 H1 x _ e1 r1 er1 qa p1 => ?_
      have qa' : c = x := qa
      subst qa'
      cases c with
      | true => exact iteT ⟨μ1, ρ, h1, r1, er1, p1⟩
      | false => exact iteF (p1.here r1 rfl)
  | .or a b r p, X, Z, k, n, cv, cl, C, h => by
    have h' : ((((a.ok X.env.scope n = true /\ b.ok X.env.scope n = true) /\ r.ok X.env.scope n = true) /\ a.okT = true) /\ b.okT = true) /\ r.okT = true := by have h : (_ && _) = true := h; simpa using h
    have sa := sE a X Z k n cv cl C h'.1.1.1.1.1
    have sb := sE b X Z k n cv cl C h'.1.1.1.1.2
    have sr := sEs r X Z k n cv cl C h'.1.1.1.2
    refine ⟨?_, fun _ => ?_⟩
    · skip
      refine PE.mono (pe_or sa.pe (sr.orr b p sb)) fun σ H Q => lift_elim fun μ ρ h hr er q => ?_
      refine lift_bind (m := a.ev cl) hr er q fun d h1 μ1 H1 x _ e1 r1 er1 qa p1 => ?_
      unfold tru at p1
      cases qa with
      | bl c =>
        refine ⟨c, rfl, ?_⟩
        cases c with
        | true => exact iteT (p1.here r1 (.bl _))
        | false => exact iteF ⟨μ1, ρ, h1, r1, er1, p1⟩
      | _ => exact p1.elim
    · skip
      refine PT.mono (PW.pt (pw_or (sa.pt h'.1.1.2) (sr.orT b p sb h'.1.2 h'.2))) fun σ H Q => lift_elim fun μ ρ h hr er q => ?_
      have e0 : (E.or a b r p).evT cl ρ h = (a.evT cl ρ h).bind fun c h1 => if c then .ok true h1 else (b.evT cl ρ h1).bind fun c' h2 => r.evOrT cl ρ c' h2 := by
        rw [evT_eq, evT_eq, bind_assoc]
        show ((a.ev cl ρ h).bind fun x h1 => tru x h1 fun c h1 => if c then .ok (.bl true) h1 else (b.ev cl ρ h1).bind fun y h2 => r.evOr cl ρ y h2).bind toB = _
        rw [bind_assoc]
        congr 1
        funext d h1
        unfold tru
        cases d with
        | bl c =>
          cases c with
          | true => rfl
          | false =>
            show ((b.ev cl ρ h1).bind fun y h2 => r.evOr cl ρ y h2).bind toB = (b.evT cl ρ h1).bind fun c' h2 => r.evOrT cl ρ c' h2
            rw [evT_eq, bind_assoc, bind_assoc]
            congr 1
            funext y h2
            exact or_toB r ρ y h2
        | _ => rfl
      rw [e0] at q
      refine lift_bind (m := a.evT cl) (R := RB) hr er q fun c h1 μ1 H1 x _ e1 r1 er1 qa p1 => ?_
      have qa' : c = x := qa
      subst qa'
      cases c with
      | true => exact iteT (p1.here r1 rfl)
      | false => exact iteF ⟨μ1, ρ, h1, r1, er1, p1⟩
  | .ite c a b p, X, Z, k, n, cv, cl, C, h => by
    have h' : ((c.ok X.env.scope n = true /\ a.ok X.env.scope n = true) /\ b.ok X.env.scope n = true) /\ c.okT = true := by have h : (_ && _) = true := h; simpa using h
    have sc := sE c X Z k n cv cl C h'.1.1.1
    have sa := sE a X Z k n cv cl C h'.1.1.2
    have sb := sE b X Z k n cv cl C h'.1.2
    refine ⟨?_, fun z => nomatch z⟩
    refine PE.mono (pe_ifExp (sc.pt h'.2) sa.pe sb.pe) fun σ H Q => lift_elim fun μ ρ h hr er q => ?_
    have e0 : ((c.ev cl ρ h).bind fun x h1 => tru x h1 fun t h1 => if t then a.ev cl ρ h1 else b.ev cl ρ h1) = (c.evT cl ρ h).bind fun t h1 => if t then a.ev cl ρ h1 else b.ev cl ρ h1 := by
      rw [evT_eq, bind_assoc]
      congr 1
      funext d h1
      unfold tru toB
      cases d <;> rfl
    have q : PostE X.K cv (Rep X.K) μ H ((c.ev cl ρ h).bind fun x h1 => tru x h1 fun t h1 => if t then a.ev cl ρ h1 else b.ev cl ρ h1) Q (Z σ) := q
    rw [e0] at q
    refine lift_bind (m := c.evT cl) (R := RB) hr er q fun t h1 μ1 H1 x _ e1 r1 er1 qa p1 => ?_
    have qa' : t = x := qa
    subst qa'
    cases t with
    | true => exact iteT ⟨μ1, ρ, h1, r1, er1, p1⟩
    | false => exact iteF ⟨μ1, ρ, h1, r1, er1, p1⟩
  | .call f a r p0 p, X, Z, k, n, cv, cl, C, h => by
    have h' : ((f < n.F.length /\ gOf X.env.scope (n.F.getD f "") = true) /\ a.ok X.env.scope n = true) /\ r.ok X.env.scope n = true := by have h : (_ && _) = true := h; simpa using h
    have sa := sE a X Z k n cv cl C h'.1.2
    have sr := sEs r X Z k n cv cl C h'.2
    obtain ⟨hdb, fa, fd, ps, hm, hk, hb, hl, F⟩ := C.fn f _ (getD_some (d := ("" : Str)) h'.1.1.1)
    have pe : PE X ((E.call f a r p0 p).py n) (lift X.K cv (Rep X.K) Z ((E.call f a r p0 p).ev cl)) := by
      refine PE.mono (pe_callX F C.rm (C.gl h'.1.1.2) hm hk hb .nil C.th (pa_cons sa.pe sr.pa (star_cons a _ _)) hdb (star_cons a _ _) (star_plain r p X.env)) fun σ H Q => lift_elim fun μ ρ h hr er q => ?_
      unfold tCallX tCons
      refine lift_bind (m := a.ev cl) hr er q fun da h1 μ1 H1 x _ e1 r1 er1 qa p1 => ?_
      refine lift_bind (m := r.ev cl) r1 er1 p1 fun ds h2 μ2 H2 xs _ e2 r2 er2 qb p2 => ?_
      show spI X.K cv ps.length (cl f) ((x :: xs) ++ []) H2 Q fun C _ H' => Z σ C H'
      rw [List.append_nil]
      have z := hl (da :: ds) h2 fun z => by rw [z] at p2; exact p2
      exact ⟨by rw [List.length_cons, <- qb.length, <- List.length_cons (a := da)]; exact z, μ2, h2, da :: ds, r2, .cons (qa.mono e2) qb, p2⟩
    exact ⟨pe, fun _ => by exact pt_lift pe fun _ => rfl⟩
  | .len a p0 p, X, Z, k, n, cv, cl, C, h => by
    have h' : gOf X.env.scope "len" = true /\ a.ok X.env.scope n = true := by have h : (_ && _) = true := h; simpa using h
    have sa := sE a X Z k n cv cl C h'.2
    have pe : PE X ((E.len a p0 p).py n) (lift X.K cv (Rep X.K) Z ((E.len a p0 p).ev cl)) := by
      refine PE.mono (pe_callB (call_lenI (cv := cv)) (C.gl h'.1) (C.bm _ (by decide)) PySem.boot_len (pa_cons sa.pe pa_nil (star_cons a _ _)) (by decide) (by decide) (star_cons a _ _) rfl) fun σ H Q => lift_elim fun μ ρ h hr er q => ?_
      refine lift_bind (m := a.ev cl) hr er q fun da h1 μ1 H1 x _ e1 r1 er1 qa p1 => ?_
      exact ⟨x, rfl, μ1, h1, da, _, r1, qa, p1⟩
    exact ⟨pe, fun _ => by exact pt_lift pe fun _ => rfl⟩
  | .sub a i p, X, Z, k, n, cv, cl, C, h => by
    have h' : a.ok X.env.scope n = true /\ i.ok X.env.scope n = true := by have h : (_ && _) = true := h; simpa using h
    have sa := sE a X Z k n cv cl C h'.1
    have sb := sE i X Z k n cv cl C h'.2
    have pe : PE X ((E.sub a i p).py n) (lift X.K cv (Rep X.K) Z ((E.sub a i p).ev cl)) := by
      refine PE.mono (pe_ix (ix_ours (cv := cv) (hu_of C.rm)) sa.pe sb.pe (plain_ix i)) fun σ H Q q => ?_
      exact lift2 q
    exact ⟨pe, fun _ => by exact pt_lift pe fun _ => rfl⟩
  | .tup es p, X, Z, k, n, cv, cl, C, h => by
    have h' : es.ok X.env.scope n = true := by exact h
    have sr := sEs es X Z k n cv cl C h'
    have pe : PE X ((E.tup es p).py n) (lift X.K cv (Rep X.K) Z ((E.tup es p).ev cl)) := by
      refine PE.mono (pe_tup sr.pa) fun σ H Q => lift_elim fun μ ρ h hr er q => ?_
      refine lift_bind (m := es.ev cl) hr er q fun ds h1 μ1 H1 xs _ e1 r1 er1 qa p1 => ?_
      split at p1
      · rename_i c
        refine ⟨by rw [<- qa.length]; exact Nat.le_of_lt (small1000 c), fun a ha => ?_⟩
        exact p1 μ1 _ (.ref a) (ext_new ha) (r1.tup ha) (.tup (SqT.of upd_same) (qa.mono (ext_new ha)))
      · exact p1.elim
    exact ⟨pe, fun _ => by exact pt_lift pe fun _ => rfl⟩
  | .ofL l, X, Z, k, n, cv, cl, C, h => by
    have sl := sL l X Z k n cv cl C (by exact h)
    refine ⟨?_, fun z => nomatch z⟩
    refine PE.mono sl fun σ H Q => lift_elim fun μ ρ h hr er q => ?_
    refine lift_bind0 (m := l.ev cl) Ext.refl hr er q (fun _ _ z => z) fun ds h1 μ1 H1 x _ e1 r1 er1 qa p1 => ?_
    obtain ⟨p, vs, rfl, g1, g2, g3, g4⟩ := qa
    refine p1 (μ1 ++ [p]) H1 _ (e1.add g4) (r1.add g3 fun μ' gr => ⟨vs, g1, g2.mono' gr⟩) (.loc ?_)
    rw [<- r1.len, List.getElem?_append_right (Nat.le_refl _), Nat.sub_self]
    rfl
  | .tupE e p0 p, X, Z, k, n, cv, cl, C, h => by
    have h' : gOf X.env.scope "tuple" = true /\ e.ok X.env.scope n = true := by have h : (_ && _) = true := h; simpa using h
    have se := sE e X Z k n cv cl C h'.2
    have pe : PE X ((E.tupE e p0 p).py n) (lift X.K cv (Rep X.K) Z ((E.tupE e p0 p).ev cl)) := by
      refine PE.mono (pe_callTy (call_tupI (cv := cv)) (C.gl h'.1) (C.bm _ (by decide)) PyProof.Rows.boot_tuple (pa_cons se.pe pa_nil (star_cons e _ _)) (by decide) (by decide) (star_cons e _ _) rfl) fun σ H Q => lift_elim fun μ ρ h hr er q => ?_
      refine lift_bind (m := e.ev cl) hr er q fun da h1 μ1 H1 x _ e1 r1 er1 qa p1 => ?_
      exact ⟨x, rfl, μ1, h1, da, _, r1, qa, p1⟩
    exact ⟨pe, fun _ => by exact pt_lift pe fun _ => rfl⟩
  | .dicP e p0 p, X, Z, k, n, cv, cl, C, h => by
    have h' : gOf X.env.scope "dict" = true /\ e.ok X.env.scope n = true := by have h : (_ && _) = true := h; simpa using h
    have se := sE e X Z k n cv cl C h'.2
    have pe : PE X ((E.dicP e p0 p).py n) (lift X.K cv (Rep X.K) Z ((E.dicP e p0 p).ev cl)) := by
      refine PE.mono (pe_callTy (call_dictI (cv := cv) C.cm) (C.gl h'.1) (C.bm _ (by decide)) rfl (pa_cons se.pe pa_nil (star_cons e _ _)) (by decide) (by decide) (star_cons e _ _) rfl) fun σ H Q => lift_elim fun μ ρ h hr er q => ?_
      refine lift_bind (m := e.ev cl) hr er q fun da h1 μ1 H1 x _ e1 r1 er1 qa p1 => ?_
      exact ⟨x, rfl, μ1, h1, da, _, r1, qa, p1⟩
    exact ⟨pe, fun _ => by exact pt_lift pe fun _ => rfl⟩
  | .cut a lo hi p2 p, X, Z, k, n, cv, cl, C, h => by
    have h' : (a.ok X.env.scope n = true /\ lo.ok X.env.scope n = true) /\ hi.ok X.env.scope n = true := by have h : (_ && _) = true := h; simpa using h
    have sa := sE a X Z k n cv cl C h'.1.1
    have sl := sEo lo X Z k n cv cl C h'.1.2
    have sh := sEo hi X Z k n cv cl C h'.2
    have pe : PE X ((E.cut a lo hi p2 p).py n) (lift X.K cv (Rep X.K) Z ((E.cut a lo hi p2 p).ev cl)) := by
      refine PE.mono (pe_slice (sl_ours (cv := cv)) sa.pe sl sh) fun σ H Q => lift_elim fun μ ρ h hr er q => ?_
      refine lift_bind (m := a.ev cl) hr er q fun da h1 μ1 H1 x _ e1 r1 er1 qa p1 => ?_
      refine lift_bind (m := lo.ev cl) (R := fun _ _ a b => a = b) r1 er1 p1 fun l h2 μ2 H2 l' _ e2 r2 er2 ql p2 => ?_
      have ql' : l = l' := ql
      subst ql'
      refine lift_bind (m := hi.ev cl) (R := fun _ _ a b => a = b) r2 er2 p2 fun u h3 μ3 H3 u' _ e3 r3 er3 qu p3 => ?_
      have qu' : u = u' := qu
      subst qu'
      exact ⟨μ3, h3, da, _, r3, (qa.mono e2).mono e3, p3⟩
    exact ⟨pe, fun _ => by exact pt_lift pe fun _ => rfl⟩
  | .revT a st p2 p, X, Z, k, n, cv, cl, C, h => by
    have h' : a.ok X.env.scope n = true /\ st.ok X.env.scope n = true := by have h : (_ && _) = true := h; simpa using h
    have sa := sE a X Z k n cv cl C h'.1
    have ss := sE st X Z k n cv cl C h'.2
    have pe : PE X ((E.revT a st p2 p).py n) (lift X.K cv (Rep X.K) Z ((E.revT a st p2 p).ev cl)) := by
      refine PE.mono (pe_revT sa.pe ss.pe) fun σ H Q => lift_elim fun μ ρ h hr er q => ?_
      refine lift_bind (m := a.ev cl) hr er q fun da h1 μ1 H1 x _ e1 r1 er1 qa p1 => ?_
      refine lift_bind (m := st.ev cl) r1 er1 p1 fun db h2 μ2 H2 y _ e2 r2 er2 qb p2 => ?_
      have qa' := qa.mono e2
      unfold revTD at p2
      cases qa' with
      | tup t1 t2 =>
        cases qb with
        | int i =>
          simp only at p2
          split at p2
          · rename_i c
            subst c
            exact ⟨rfl, _, _, rfl, t1, fun b hb => p2 μ2 _ _ (ext_new hb) (r2.tup hb) (.tup (SqT.of upd_same) (t2.reverse.mono (ext_new hb)))⟩
          · exact p2.elim
        | _ => exact p2.elim
      | _ => exact p2.elim
    exact ⟨pe, fun _ => by exact pt_lift pe fun _ => rfl⟩
  | .dic p, X, Z, k, n, cv, cl, C, h => by
    refine ⟨?_, fun z => nomatch z⟩
    refine PE.mono pe_dnewK fun σ H Q => lift_elim fun μ ρ h hr er q => ?_
    intro b hb
    refine q _ _ _ ((ext_new hb).add hb) (hr.alloc hb (hr.fresh hb) fun μ' g => ⟨_, upd_same, .nil⟩) (.loc ?_)
    rw [<- hr.len, List.getElem?_append_right (Nat.le_refl _), Nat.sub_self]
    rfl
  | .m0 m o p1 p, X, Z, k, n, cv, cl, C, h => by
    have h' : o.ok X.env.scope n = true /\ p1.endLine = p.line := by have h : (_ && _) = true := h; simpa using h
    have so := sE o X Z k n cv cl C h'.1
    have hl : (p1.endLine == p.line) = true := beq_iff_eq.mpr h'.2
    have pe : PE X ((E.m0 m o p1 p).py n) (lift X.K cv (Rep X.K) Z ((E.m0 m o p1 p).ev cl)) := by
      cases m with
      | pop =>
        refine PE.mono (pe_bm0 PySem.F.plainAttrs_list PySem.F.slot_list_pop PySem.F.type_list_pop (mt_pop0 (cv := cv)) so.pe (base_plain o _ _) hl) fun σ H Q => lift_elim fun μ ρ h hr er q => ?_
        refine lift_bind (m := o.ev cl) hr er q fun da h1 μ1 H1 x _ e1 r1 er1 qa p1 => ?_
        exact ⟨m0_ty r1 qa fun z => by rw [z] at p1; exact p1, rfl, μ1, h1, da, _, r1, qa, p1⟩
    exact ⟨pe, fun _ => by exact pt_lift pe fun _ => rfl⟩
  | .m1 m o a p1 p, X, Z, k, n, cv, cl, C, h => by
    have h' : (o.ok X.env.scope n = true /\ a.ok X.env.scope n = true) /\ p1.endLine = p.line := by have h : (_ && _) = true := h; simpa using h
    have so := sE o X Z k n cv cl C h'.1.1
    have sa := sE a X Z k n cv cl C h'.1.2
    have hl : (p1.endLine == p.line) = true := beq_iff_eq.mpr h'.2
    have pe : PE X ((E.m1 m o a p1 p).py n) (lift X.K cv (Rep X.K) Z ((E.m1 m o a p1 p).ev cl)) := by
      cases m with
      | append =>
        refine PE.mono (pe_bm PySem.F.plainAttrs_list PySem.F.slot_list_append PySem.F.type_list_append (mt_append1 (cv := cv)) so.pe (pa_cons sa.pe pa_nil (star_cons a _ _)) (base_plain o _ _) (few_one a _ _) hl (star_cons a _ _) rfl) fun σ H Q => lift_elim fun μ ρ h hr er q => ?_
        refine lift_bind (m := o.ev cl) hr er q fun da h1 μ1 H1 x _ e1 r1 er1 qa p1 => ?_
        obtain ⟨ty, p1⟩ := onL_ty r1 qa p1
        refine ⟨ty, ?_⟩
        refine lift_bind (m := a.ev cl) r1 er1 p1 fun db h2 μ2 H2 y _ e2 r2 er2 qb p2 => ?_
        exact ⟨y, rfl, μ2, h2, da, db, _, r2, qa.mono e2, qb, p2⟩
      | extend =>
        refine PE.mono (pe_bm PySem.F.plainAttrs_list PySem.F.slot_list_extend PySem.F.type_list_extend (mt_extend1 (cv := cv)) so.pe (pa_cons sa.pe pa_nil (star_cons a _ _)) (base_plain o _ _) (few_one a _ _) hl (star_cons a _ _) rfl) fun σ H Q => lift_elim fun μ ρ h hr er q => ?_
        refine lift_bind (m := o.ev cl) hr er q fun da h1 μ1 H1 x _ e1 r1 er1 qa p1 => ?_
        obtain ⟨ty, p1⟩ := onL_ty r1 qa p1
        refine ⟨ty, ?_⟩
        refine lift_bind (m := a.ev cl) r1 er1 p1 fun db h2 μ2 H2 y _ e2 r2 er2 qb p2 => ?_
        exact ⟨y, rfl, μ2, h2, da, db, _, r2, qa.mono e2, qb, p2⟩
    exact ⟨pe, fun _ => by exact pt_lift pe fun _ => rfl⟩
  | .gcon x c p, X, Z, k, n, cv, cl, C, h => by
    have h' : gOf X.env.scope x = true /\ (x, c) ∈ n.G := by have h : (_ && _) = true := h; simpa using h
    obtain ⟨hd, v, hm, ok⟩ := C.gc x c h'.2
    have pe : PE X ((E.gcon x c p).py n) (lift X.K cv (Rep X.K) Z ((E.gcon x c p).ev cl)) := by
      cases c with
      | int i =>
        obtain ⟨t, rfl⟩ := ok
        refine PE.mono (pe_glob (v := .int i) (C.gl h'.1) hm ⟨t, rfl⟩ hd) fun σ H Q => lift_elim fun μ ρ h hr er q => ?_
        exact q.here hr (.int i)
      | str z =>
        obtain ⟨t, rfl⟩ := ok
        refine PE.mono (pe_glob (v := .str z) (C.gl h'.1) hm ⟨t, rfl⟩ hd) fun σ H Q => lift_elim fun μ ρ h hr er q => ?_
        exact q.here hr (.str z)
      | tup xs =>
        obtain ⟨a, rfl, tk⟩ := ok
        refine PE.mono (pe_glob (v := .ref a) (C.gl h'.1) hm rfl hd) fun σ H Q => lift_elim fun μ ρ h hr er q => ?_
        exact q.here hr tk.rep
      | dic kvs =>
        obtain ⟨a, o, es, ep, vs, rfl, _⟩ := ok
        refine PE.mono (pe_glob (v := .ref a) (C.gl h'.1) hm rfl hd) fun σ H Q => lift_elim fun μ ρ h hr er q => ?_
        exact q.elim
    exact ⟨pe, fun z => by cases z⟩
  | .gsub x kvs i p0 p, X, Z, k, n, cv, cl, C, h => by
    have h' : (gOf X.env.scope x = true /\ (x, Cn.dic kvs) ∈ n.G) /\ i.ok X.env.scope n = true := by have h : (_ && _) = true := h; simpa using h
    obtain ⟨hd, v, hm, ok⟩ := C.gc x _ h'.1.2
    have si := sE i X Z k n cv cl C h'.2
    have pe : PE X ((E.gsub x kvs i p0 p).py n) (lift X.K cv (Rep X.K) Z ((E.gsub x kvs i p0 p).ev cl)) := by
      have ok' := ok
      obtain ⟨a, o, es, ep, vs, rfl, _⟩ := ok'
      refine PE.mono (pe_ix (ix_cst (kvs := kvs)) (pe_glob (v := .ref a) (C.gl h'.1.1) hm rfl hd) si.pe (plain_ix i)) fun σ H Q => lift_elim fun μ ρ h hr er q => ?_
      refine lift_bind (m := i.ev cl) hr er q fun d h1 μ1 H1 y _ e1 r1 er1 qa p1 => ?_
      unfold cstD at p1
      cases qa with
      | str kk =>
        simp only at p1
        split at p1
        · rename_i xs l
          exact ⟨a, kk, xs, rfl, rfl, ok, l, fun b tk => p1.here r1 tk.rep⟩
        · exact p1.elim
      | _ => exact p1.elim
    exact ⟨pe, fun _ => by exact pt_lift pe fun _ => rfl⟩
  | .listR e p0 p1 p2 p, X, Z, k, n, cv, cl, C, h => by
    have h' : (gOf X.env.scope "list" = true /\ gOf X.env.scope "reversed" = true) /\ e.ok X.env.scope n = true := by have h : (_ && _) = true := h; simpa using h
    have se := sE e X Z k n cv cl C h'.2
    have pe : PE X ((E.listR e p0 p1 p2 p).py n) (lift X.K cv (Rep X.K) Z ((E.listR e p0 p1 p2 p).ev cl)) := by
      refine PE.mono (pe_listrev C.cm (C.gl h'.1.2) (C.bm _ (by decide)) (C.gl h'.1.1) (C.bm _ (by decide)) (pa_cons se.pe pa_nil (star_cons e _ _)) (star_cons e _ _)) fun σ H Q => lift_elim fun μ ρ h hr er q => ?_
      refine lift_bind (m := e.ev cl) hr er q fun d h1 μ1 H1 x _ e1 r1 er1 qa p1 => ?_
      unfold lrD at p1
      cases qa with
      | @fl ds vs a f r => exact ⟨a, vs, rfl, f.sq, new_loc r1 r.reverse p1⟩
      | @loc nn b m =>
        cases e2 : PI.rd h1 nn with
        | none => simp only [e2] at p1; exact p1.elim
        | some ds =>
          simp only [e2] at p1
          obtain ⟨vs, q1, q2⟩ := rd_reps r1 m e2
          exact ⟨b, vs, rfl, SqL.of q1, new_loc r1 q2.reverse p1⟩
      | _ => exact p1.elim
    exact ⟨pe, fun _ => by exact pt_lift pe fun _ => rfl⟩
  | .cmpN neg a p1 p, X, Z, k, n, cv, cl, C, h => by
    have h' : a.ok X.env.scope n = true := by exact h
    have sa := sE a X Z k n cv cl C h'
    have hu : X.A.units < cLine := by have := C.rm.units; omega
    have hop : OpR X (compareOp (if neg then .NotEq else .Eq)) (rNil X.K neg) := by cases neg with | true => exact op_neNil hu | false => exact op_eqNil hu
    have hb : behindInMarks (if neg then .NotEq else .Eq) (.List [] p1) = false := by cases neg <;> rfl
    have fin : ∀ {μ1 : List Addr} {h1 : Hh} {H1 : Hp} {x : V} {da : D} {Q : VK} {Z1 : Value -> Hp -> Prop}, HR X.K μ1 h1 H1 -> Rep X.K μ1 H1 da x -> PostE X.K cv (Rep X.K) μ1 H1 (nilD neg da h1) Q Z1 -> ∀ b, H1 b = none -> rNil X.K neg x (.ref b) (upd H1 b (.lst [])) Q := fun {μ1 h1 H1 x da Q Z1} r1 qa p1 b hb' => by
      unfold nilD at p1
      have q2 := SqL.of (K := X.K) (upd_same (H := H1) (a := b) (o := .lst []))
      cases qa with
      | @fl ds vs a f r =>
        refine ⟨a, b, vs, rfl, rfl, ((ext_new (μ := μ1) hb').fz _ _ f).sq, q2, ?_⟩
        have z := p1 μ1 (upd H1 b (.lst [])) _ (ext_new hb') (r1.tup hb') (.bl _)
        rw [r.isEmpty] at z
        exact z
      | @loc nn a m =>
        cases e2 : PI.rd h1 nn with
        | none => simp only [e2] at p1; exact p1.elim
        | some ds =>
          simp only [e2] at p1
          obtain ⟨vs, q1, r⟩ := rd_reps r1 m e2
          refine ⟨a, b, vs, rfl, rfl, SqL.of (by rw [upd_ne (by intro z; rw [z, hb'] at q1; cases q1)]; exact q1), q2, ?_⟩
          have z := p1 μ1 (upd H1 b (.lst [])) _ (ext_new hb') (r1.tup hb') (.bl _)
          rw [r.isEmpty] at z
          exact z
      | _ => exact p1.elim
    have pe : PE X ((E.cmpN neg a p1 p).py n) (lift X.K cv (Rep X.K) Z ((E.cmpN neg a p1 p).ev cl)) := by
      refine PE.mono (pe_cmpR hop sa.pe (pe_lst pa_nil) hb) fun σ H Q => lift_elim fun μ ρ h hr er q => ?_
      refine lift_bind (m := a.ev cl) hr er q fun da h1 μ1 H1 x _ e1 r1 er1 qa p1 => ?_
      exact ⟨Nat.zero_le _, fun b hb' => fin r1 qa p1 b hb'⟩
    refine ⟨pe, fun _ => ?_⟩
    refine PT.mono (pt_cmpR hop sa.pe (pe_lst pa_nil) hb) fun σ H Q => lift_elim fun μ ρ h hr er q => ?_
    have q : PostE X.K cv RB μ H (((a.ev cl ρ h).bind fun x h1 => nilD neg x h1).bind toB) Q (Z σ) := q
    rw [bind_assoc] at q
    unfold tTest
    refine lift_bind (m := a.ev cl) hr er q fun da h1 μ1 H1 x _ e1 r1 er1 qa p1 => ?_
    refine ⟨Nat.zero_le _, fun b hb' => fin (Z1 := Z σ) r1 qa ?_ b hb'⟩
    cases e3 : nilD neg da h1 with
    | ok d h3 =>
      rw [e3] at p1
      intro μ3 H3 v x1 x2 x3
      unfold Res.bind toB at p1
      cases x3 with
      | bl c => exact ⟨c, rfl, p1 μ3 H3 c x1 x2 rfl⟩
      | _ => exact p1.elim
    | exc c h3 => rw [e3] at p1; exact p1
    | no => rw [e3] at p1; exact p1
theorem sEo : ∀ (e : Eo) (X : Cx) (Z : ZK) (k : Nat) (n : Nm) (cv : Nat -> Value) (cl : Nat -> List D -> Hh -> Res D), Kx X Z k n cv cl -> e.ok X.env.scope n = true -> PO X (e.py n) (lift X.K cv (fun _ _ a b => a = b) Z (e.ev cl))
  | .none, X, Z, k, n, cv, cl, C, h => by
    refine PO.mono po_none fun σ H Q => lift_elim fun μ ρ h hr er q => ?_
    exact q.here hr rfl
  | .some e, X, Z, k, n, cv, cl, C, h => by
    have se := sE e X Z k n cv cl C (by exact h)
    refine PO.mono (po_some se.pe) fun σ H Q => lift_elim fun μ ρ h hr er q => ?_
    refine lift_bind (m := e.ev cl) hr er q fun d h1 μ1 H1 x _ e1 r1 er1 qa p1 => ?_
    unfold intO at p1
    cases qa with
    | int i => exact ⟨i, rfl, p1.here r1 rfl⟩
    | _ => exact p1.elim
theorem sL : ∀ (l : L) (X : Cx) (Z : ZK) (k : Nat) (n : Nm) (cv : Nat -> Value) (cl : Nat -> List D -> Hh -> Res D), Kx X Z k n cv cl -> l.ok X.env.scope n = true -> PE X (l.py n) (liftL X.K cv Z (l.ev cl))
  | .disp es p, X, Z, k, n, cv, cl, C, h => by
    have sr := sEs es X Z k n cv cl C (by exact h)
    refine PE.mono (pe_lst sr.pa) fun σ H Q => lift_elim fun μ ρ h hr er q => ?_
    refine lift_bind0 (m := es.ev cl) Ext.refl hr er q (fun _ _ z => z) fun ds h1 μ1 H1 xs _ e1 r1 er1 qa p1 => ?_
    split at p1
    · rename_i c
      refine ⟨by rw [<- qa.length]; exact Nat.le_of_lt (small1000 c), fun a ha => ?_⟩
      have na := r1.fresh ha
      have n0 : H a = none := by
        cases e : H a with
        | none => rfl
        | some o => rw [e1.oth a o e fun z => na (e1.sub z)] at ha; cases ha
      exact p1 μ1 _ _ (e1.trans (ext_new ha)) (r1.tup ha) ⟨a, xs, rfl, upd_same, qa.mono (ext_new ha), na, n0⟩
    · exact p1.elim
  | .comp elt t it c NC cap csc p, X, Z, k, n, cv, cl, C, h => by
    obtain ⟨k1, k2', k3, k4, k5, k6, k7, k8, k9⟩ := comp_ok C h
    have hit := sI it X Z k n cv cl C k1 (t.py NC)
    exact pe_compI (X := X) (Z := Z) (cv := cv) (mi := it.ev cl) (mc := c.evC cl) (me := elt.ev cl) (pos := p) (elt := elt.py ⟨NC, n.F, n.G⟩) (iter := it.py n) (ifs := c.py ⟨NC, n.F, n.G⟩) C.cm C.th hit k2' k5
      (fun Cc s H fp pn xe => comp_pg C.kd k2' k3 k5)
      (fun Cc s H fp pn xe Zc th => by
        have Cc' := C.comp k2' k3 k4 th
        cases c with
        | nil => exact pf_none
        | cons e r =>
          cases r with
          | cons _ _ => cases k9
          | nil =>
            have se := sE e _ Zc k ⟨NC, n.F, n.G⟩ cv cl Cc' (by have k7 : (_ && _) = true := k7; simp at k7; exact k7.1)
            have ht := se.pt (by have k8 : (_ && _) = true := k8; simp at k8; exact k8.1)
            exact pf_one ht)
      (fun Cc s H fp pn xe Zc th => (sE elt _ Zc k ⟨NC, n.F, n.G⟩ cv cl (C.comp k2' k3 k4 th) k6).pe) (fold_plain it)
theorem sI : ∀ (it : I) (X : Cx) (Z : ZK) (k : Nat) (n : Nm) (cv : Nat -> Value) (cl : Nat -> List D -> Hh -> Res D), Kx X Z k n cv cl -> it.ok X.env.scope n = true -> ∀ tg, L2.PI X tg (it.py n) (lift X.K cv (RJ X.K) Z (it.ev cl))
  | .seq e, X, Z, k, n, cv, cl, C, h => fun tg => by
    have se := sE e X Z k n cv cl C (by exact h)
    refine PI.mono (pi_any se.pe) fun σ H Q => lift_elim fun μ ρ h hr er q => ?_
    refine lift_bind (m := e.ev cl) hr er q fun d h1 μ1 H1 x _ e1 r1 er1 qa p1 => ?_
    cases qa with
    | tup g1 g2 => exact .inr (.inl ⟨_, rfl, ⟨_, g1⟩, p1.here r1 (src_tup g1 g2)⟩)
    | fl g1 g2 => exact .inl ⟨_, rfl, ⟨_, g1.sq⟩, p1.here r1 (src_fl g1 g2)⟩
    | str z => exact .inr (.inr ⟨_, rfl, p1.here r1 (src_str z)⟩)
    | @loc nn a m =>
      cases e2 : rd h1 nn with
      | none => simp only [e2] at p1; exact p1.elim
      | some xs =>
        simp only [e2] at p1
        obtain ⟨vs, hs1, rs⟩ := r1.rd e2 m
        exact .inl ⟨_, rfl, ⟨_, hs1⟩, p1.here r1 (src_loc m)⟩
    | _ => exact p1.elim
  | .lst l, X, Z, k, n, cv, cl, C, h => fun tg => by
    have sl := sL l X Z k n cv cl C (by exact h)
    refine PI.mono (pi_list sl) fun σ H Q => lift_elim fun μ ρ h hr er q => ?_
    refine lift_bind0 (m := l.ev cl) Ext.refl hr er q (fun _ _ z => z) fun ds h1 μ1 H1 x _ e1 r1 er1 qa p1 => ?_
    obtain ⟨p, vs, rfl, g1, g2, g3, g4⟩ := qa
    exact ⟨p, rfl, ⟨vs, SqL.of g1⟩, p1 μ1 H1 _ e1 r1 (src_new g1 g3 g2)⟩
  | .rng a p0 p, X, Z, k, n, cv, cl, C, h => fun tg => by
    have h' : gOf X.env.scope "range" = true /\ a.ok X.env.scope n = true := by have h : (_ && _) = true := h; simpa using h
    have sa := sE a X Z k n cv cl C h'.2
    refine PI.mono (pi_range1 (C.gl h'.1) (C.bm _ (by decide)) (pa_cons sa.pe pa_nil (star_cons a _ _)) (star_cons a _ _)) fun σ H Q => lift_elim fun μ ρ h hr er q => ?_
    refine lift_bind (m := a.ev cl) hr er q fun d h1 μ1 H1 x _ e1 r1 er1 qa p1 => ?_
    cases qa with
    | int j =>
      simp only at p1
      split at p1
      · rename_i c
        exact ⟨j, rfl, by have := c.1; omega, by have := c.2; omega, p1.here r1 (src_rng j.toNat)⟩
      · exact p1.elim
    | _ => exact p1.elim
  | .rng2 a b p0 p, X, Z, k, n, cv, cl, C, h => fun tg => by
    have h' : (gOf X.env.scope "range" = true /\ a.ok X.env.scope n = true) /\ b.ok X.env.scope n = true := by have h : (_ && _) = true := h; simpa using h
    have sa := sE a X Z k n cv cl C h'.1.2
    have sb := sE b X Z k n cv cl C h'.2
    refine PI.mono (pi_range2 (C.gl h'.1.1) (C.bm _ (by decide)) (pa_cons sa.pe (pa_cons sb.pe pa_nil (star_cons b _ _)) (star_cons a _ _)) (by rw [star_cons, star_cons]; rfl) (star_cons b _ _)) fun σ H Q => lift_elim fun μ ρ h hr er q => ?_
    refine lift_bind (m := a.ev cl) hr er q fun d h1 μ1 H1 x _ e1 r1 er1 qa p1 => ?_
    refine lift_bind (m := b.ev cl) r1 er1 p1 fun d2 h2 μ2 H2 y _ e2 r2 er2 qb p2 => ?_
    unfold rngD at p2
    cases qa with
    | int i =>
      cases qb with
      | int j =>
        simp only at p2
        split at p2
        · rename_i c
          exact ⟨i, j, rfl, ⟨by omega, by omega, by omega, by omega⟩, p2.here r2 (src_rng2 i (j - i).toNat)⟩
        · exact p2.elim
      | _ => exact p2.elim
    | _ => exact p2.elim
  | .rngD a b c p0 p, X, Z, k, n, cv, cl, C, h => fun tg => by
    have h' : ((gOf X.env.scope "range" = true /\ a.ok X.env.scope n = true) /\ b.ok X.env.scope n = true) /\ c.ok X.env.scope n = true := by have h : (_ && _) = true := h; simpa using h
    have sa := sE a X Z k n cv cl C h'.1.1.2
    have sb := sE b X Z k n cv cl C h'.1.2
    have sc := sE c X Z k n cv cl C h'.2
    refine PI.mono (pi_rangeD (C.gl h'.1.1.1) (C.bm _ (by decide)) (pa_cons sa.pe (pa_cons sb.pe (pa_cons sc.pe pa_nil (star_cons c _ _)) (star_cons b _ _)) (star_cons a _ _)) (by rw [star_cons, star_cons, star_cons]; rfl) (by rw [star_cons, star_cons]; rfl)) fun σ H Q => lift_elim fun μ ρ h hr er q => ?_
    refine lift_bind (m := a.ev cl) hr er q fun d h1 μ1 H1 x _ e1 r1 er1 qa p1 => ?_
    refine lift_bind (m := b.ev cl) r1 er1 p1 fun d2 h2 μ2 H2 y _ e2 r2 er2 qb p2 => ?_
    refine lift_bind (m := c.ev cl) r2 er2 p2 fun d3 h3 μ3 H3 z _ e3 r3 er3 qc p3 => ?_
    unfold downD at p3
    cases qa with
    | int i =>
      cases qb with
      | int j =>
        cases qc with
        | int l =>
          simp only at p3
          split at p3
          · rename_i c
            obtain ⟨rfl, c1, c2, c3, c4⟩ := c
            exact ⟨i, j, rfl, ⟨by omega, by omega, by omega, by omega⟩, p3.here r3 (src_rngD i (i - j).toNat)⟩
          · exact p3.elim
        | _ => exact p3.elim
      | _ => exact p3.elim
    | _ => exact p3.elim
  | .rev e p0 p, X, Z, k, n, cv, cl, C, h => fun tg => by
    have h' : gOf X.env.scope "reversed" = true /\ e.ok X.env.scope n = true := by have h : (_ && _) = true := h; simpa using h
    have sa := sE e X Z k n cv cl C h'.2
    refine PI.mono (pi_rev2 (C.gl h'.1) (C.bm _ (by decide)) (pa_cons sa.pe pa_nil (star_cons e _ _)) (star_cons e _ _)) fun σ H Q => lift_elim fun μ ρ h hr er q => ?_
    refine lift_bind (m := e.ev cl) hr er q fun d h1 μ1 H1 x _ e1 r1 er1 qa p1 => ?_
    unfold revD at p1
    cases qa with
    | @fl ds vs a f r =>
      simp only at p1
      refine ⟨a, vs, rfl, .inl ⟨f.sq, ?_⟩⟩
      rw [<- r.length]
      exact p1.here r1 (src_rvf f r)
    | @tup ds vs a f r =>
      simp only at p1
      refine ⟨a, vs, rfl, .inr ⟨f, ?_⟩⟩
      rw [<- r.length]
      exact p1.here r1 (src_rvt f r)
    | @loc nn b m =>
      cases e2 : PI.rd h1 nn with
      | none => simp only [e2] at p1; exact p1.elim
      | some ds =>
        simp only [e2] at p1
        obtain ⟨vs, q1, q2⟩ := rd_reps r1 m e2
        refine ⟨b, vs, rfl, .inl ⟨SqL.of q1, ?_⟩⟩
        rw [<- q2.length]
        exact p1.here r1 (src_rvl m)
    | _ => exact p1.elim
theorem sEs : ∀ (r : Es) (X : Cx) (Z : ZK) (k : Nat) (n : Nm) (cv : Nat -> Value) (cl : Nat -> List D -> Hh -> Res D), Kx X Z k n cv cl -> r.ok X.env.scope n = true -> SEs X Z n cv cl r
  | .nil, X, Z, k, n, cv, cl, C, _ => by
    refine ⟨?_, fun b p sb => ?_, fun b p sb hb _ => ?_, fun b p sb => ?_, fun b p sb hb _ => ?_, ps_nil⟩
    · skip
      refine PA.mono pa_nil fun σ H Q => lift_elim fun μ ρ h hr er q => ?_
      exact q.here hr .nil
    · skip
      refine PE.mono (pe_one sb.pe) fun σ H Q => lift_elim fun μ ρ h hr er q => ⟨μ, ρ, h, hr, er, ?_⟩
      have q : PostE X.K cv (Rep X.K) μ H ((b.ev cl ρ h).bind fun a h1 => .ok a h1) Q (Z σ) := q
      rwa [bind_pure] at q
    · skip
      refine PW.mono (pw_and1 (sb.pt hb)) fun σ H Q => lift_elim fun μ ρ h hr er q => ⟨μ, ρ, h, hr, er, ?_⟩
      have q : PostE X.K cv RB μ H ((b.evT cl ρ h).bind fun a h1 => .ok a h1) Q (Z σ) := q
      rwa [bind_pure] at q
    · skip
      refine PE.mono (pe_one sb.pe) fun σ H Q => lift_elim fun μ ρ h hr er q => ⟨μ, ρ, h, hr, er, ?_⟩
      have q : PostE X.K cv (Rep X.K) μ H ((b.ev cl ρ h).bind fun a h1 => .ok a h1) Q (Z σ) := q
      rwa [bind_pure] at q
    · skip
      refine PW.mono (pw_or1 (sb.pt hb)) fun σ H Q => lift_elim fun μ ρ h hr er q => ⟨μ, ρ, h, hr, er, ?_⟩
      have q : PostE X.K cv RB μ H ((b.evT cl ρ h).bind fun a h1 => .ok a h1) Q (Z σ) := q
      rwa [bind_pure] at q
  | .cons e r, X, Z, k, n, cv, cl, C, h => by
    have h' : e.ok X.env.scope n = true /\ r.ok X.env.scope n = true := by have h : (_ && _) = true := h; simpa using h
    have se := sE e X Z k n cv cl C h'.1
    have sr := sEs r X Z k n cv cl C h'.2
    refine ⟨?_, fun b p sb => ?_, fun b p sb hb hr' => ?_, fun b p sb => ?_, fun b p sb hb hr' => ?_, ps_cons se.pe sr.ps⟩
    · skip
      refine PA.mono (pa_cons se.pe sr.pa (star_cons e _ _)) fun σ H Q => lift_elim fun μ ρ h hr er q => ?_
      refine lift_bind (m := e.ev cl) hr er q fun da h1 μ1 H1 x _ e1 r1 er1 qa p1 => ?_
      refine lift_bind (m := r.ev cl) r1 er1 p1 fun ds h2 μ2 H2 xs _ e2 r2 er2 qb p2 => ?_
      exact p2.here r2 (.cons (qa.mono e2) qb)
    · skip
      refine PE.mono (pe_and sb.pe (sr.an e p se)) fun σ H Q => lift_elim fun μ ρ h hr er q => ?_
      refine lift_bind (m := b.ev cl) hr er q fun d h1 μ1 H1 x _ e1 r1 er1 qa p1 => ?_
      cases qa with
      | bl c =>
        refine ⟨c, rfl, ?_⟩
        cases c with
        | true => exact iteT ⟨μ1, ρ, h1, r1, er1, p1⟩
        | false => exact iteF (p1.here r1 (.bl _))
      | _ => exact p1.elim
    · skip
      have hr2 : e.okT = true /\ r.okT = true := by have hr' : (_ && _) = true := hr'; simpa using hr'
      refine PW.mono (pw_and (sb.pt hb) (sr.anT e p se hr2.1 hr2.2)) fun σ H Q => lift_elim fun μ ρ h hr er q => ?_
      refine lift_bind (m := b.evT cl) (R := RB) hr er q fun c h1 μ1 H1 x _ e1 r1 er1 qa p1 => ?_
      have qa' : c = x := qa
      subst qa'
      cases c with
      | true => exact iteT ⟨μ1, ρ, h1, r1, er1, p1⟩
      | false => exact iteF (p1.here r1 rfl)
    · skip
      refine PE.mono (pe_or sb.pe (sr.orr e p se)) fun σ H Q => lift_elim fun μ ρ h hr er q => ?_
      refine lift_bind (m := b.ev cl) hr er q fun d h1 μ1 H1 x _ e1 r1 er1 qa p1 => ?_
      cases qa with
      | bl c =>
        refine ⟨c, rfl, ?_⟩
        cases c with
        | true => exact iteT (p1.here r1 (.bl _))
        | false => exact iteF ⟨μ1, ρ, h1, r1, er1, p1⟩
      | _ => exact p1.elim
    · skip
      have hr2 : e.okT = true /\ r.okT = true := by have hr' : (_ && _) = true := hr'; simpa using hr'
      refine PW.mono (pw_or (sb.pt hb) (sr.orT e p se hr2.1 hr2.2)) fun σ H Q => lift_elim fun μ ρ h hr er q => ?_
      refine lift_bind (m := b.evT cl) (R := RB) hr er q fun c h1 μ1 H1 x _ e1 r1 er1 qa p1 => ?_
      have qa' : c = x := qa
      subst qa'
      cases c with
      | true => exact iteT (p1.here r1 rfl)
      | false => exact iteF ⟨μ1, ρ, h1, r1, er1, p1⟩
end
end
end PI
set_option Elab.async false
set_option linter.all false
set_option maxRecDepth 100000
set_option maxHeartbeats 4000000
namespace PI
open PySem L2 PySem.Spec
open PyProof.Rows hiding St
noncomputable def PostS (K : PySem.W.Frag) (cv : Nat -> Value) (μ : List Addr) (H : Hp) (r : RS) (En : Ends) (Z : ZK) : Prop :=
  match r with
  | .nx ρ h' => ∀ μ' H' σ', Ext K μ H μ' H' -> HR K μ' h' H' -> ER K μ' ρ σ' H' -> En.nx σ' H'
  | .bk ρ h' => ∀ μ' H' σ', Ext K μ H μ' H' -> HR K μ' h' H' -> ER K μ' ρ σ' H' -> En.bk σ' H'
  | .ct ρ h' => ∀ μ' H' σ', Ext K μ H μ' H' -> HR K μ' h' H' -> ER K μ' ρ σ' H' -> En.ct σ' H'
  | .rt d h' => ∀ μ' H' v, Ext K μ H μ' H' -> HR K μ' h' H' -> Rep K μ' H' d v -> En.rt v H'
  | .ex c ρ h' => ∀ μ' H' σ', Ext K μ H μ' H' -> HR K μ' h' H' -> ER K μ' ρ σ' H' -> Z σ' (cv c) H'
  | .no => False
noncomputable def liftS (K : PySem.W.Frag) (cv : Nat -> Value) (Z : ZK) (m : En -> Hh -> RS) : TS := fun En σ H => ∃ μ ρ h, HR K μ h H /\ ER K μ ρ σ H /\ PostS K cv μ H (m ρ h) En Z
theorem liftS_elim {K : PySem.W.Frag} {cv : Nat -> Value} {Z : ZK} {m : En -> Hh -> RS} {En : Ends} {σ : St} {H : Hp} {G : Prop} (f : ∀ μ ρ h, HR K μ h H -> ER K μ ρ σ H -> PostS K cv μ H (m ρ h) En Z -> G) (x : liftS K cv Z m En σ H) : G := by
  obtain ⟨μ, ρ, h, hr, er, q⟩ := x
  exact f μ ρ h hr er q
theorem PostS.ext {K : PySem.W.Frag} {cv : Nat -> Value} {μ μ1 : List Addr} {H H1 : Hp} {r : RS} {En : Ends} {Z : ZK} (p : PostS K cv μ H r En Z) (e : Ext K μ H μ1 H1) : PostS K cv μ1 H1 r En Z := by
  unfold PostS at p ⊢
  cases r with
  | nx ρ h => exact fun μ' H' σ' e1 r1 q1 => p μ' H' σ' (e.trans e1) r1 q1
  | bk ρ h => exact fun μ' H' σ' e1 r1 q1 => p μ' H' σ' (e.trans e1) r1 q1
  | ct ρ h => exact fun μ' H' σ' e1 r1 q1 => p μ' H' σ' (e.trans e1) r1 q1
  | rt d h => exact fun μ' H' σ' e1 r1 q1 => p μ' H' σ' (e.trans e1) r1 q1
  | ex c ρ h => exact fun μ' H' σ' e1 r1 q1 => p μ' H' σ' (e.trans e1) r1 q1
  | no => exact p
theorem liftS_bind {α β : Type} {K : PySem.W.Frag} {cv : Nat -> Value} {R : List Addr -> Hp -> α -> β -> Prop} {μ : List Addr} {ρ : En} {h : Hh} {σ : St} {H : Hp} {Z : ZK} {m : En -> Hh -> Res α} {f : α -> Hh -> RS} {En : Ends} {Q' : β -> Hp -> Prop}
    (hr : HR K μ h H) (er : ER K μ ρ σ H) (p : PostS K cv μ H (andS ρ (m ρ h) f) En Z)
    (go : ∀ a h1 μ1 H1 x, m ρ h = .ok a h1 -> Ext K μ H μ1 H1 -> HR K μ1 h1 H1 -> ER K μ1 ρ σ H1 -> R μ1 H1 a x -> PostS K cv μ1 H1 (f a h1) En Z -> Q' x H1) :
    lift K cv R Z m σ H Q' := by
  refine ⟨μ, ρ, h, hr, er, ?_⟩
  unfold andS at p
  cases e : m ρ h with
  | ok a h1 =>
    rw [e] at p
    exact fun μ1 H1 x e1 r1 q1 => go a h1 μ1 H1 x e e1 r1 (er.mono e1) q1 (PostS.ext p e1)
  | exc c h1 =>
    rw [e] at p
    exact fun μ1 H1 e1 r1 => p μ1 H1 σ e1 r1 (er.mono e1)
  | no => rw [e] at p; exact p
noncomputable def E.noT : E -> Bool
  | .tup _ _ => false
  | .ofL _ => false
  | _ => true
noncomputable def E.noC : E -> Bool
  | .ofL (.comp _ _ _ _ _ _ _ _) => false
  | _ => true
mutual
noncomputable def S.ok (sc : Scope) (n : Nm) : S -> Bool
  | .set i e _ _ => decide (i < n.N.length) && e.ok sc n
  | .ret e _ => e.ok sc n
  | .iff c a b _ => c.ok sc n && c.okT && a.ok sc n && b.ok sc n
  | .ex e _ => e.ok sc n && e.noC
  | .put o i v _ _ => o.ok sc n && i.ok sc n && v.ok sc n
  | .forr t it b _ => t.okS n.N && it.ok sc n && b.ok sc n
  | .whil c b _ => c.ok sc n && c.okT && b.ok sc n
  | .pass _ | .brk _ | .cnt _ => true
  | .raw _ => true
  | .iffN a i _ _ x y _ => a.ok sc n && a.okT && decide (i < n.N.length) && x.ok sc n && y.ok sc n
  | .tryN b _ _ _ => b.ok sc n
  | .setT is e p1 _ => (Tg.tup is p1).okS n.N && e.ok sc n && e.noT
noncomputable def Ss.ok (sc : Scope) (n : Nm) : Ss -> Bool
  | .nil => true
  | .cons s r => s.ok sc n && r.ok sc n
end
theorem PS.mono {X : Cx} {e : Stmt} {t t' : TS} (p : PS X e t) (h : ∀ En σ H, t' En σ H -> t En σ H) : PS X e t' := fun pins s σ H En I q => p pins s σ H En I (h En σ H q)
theorem PSs.mono {X : Cx} {e : List Stmt} {t t' : TS} (p : PSs X e t) (h : ∀ En σ H, t' En σ H -> t En σ H) : PSs X e t' := fun pins s σ H En I q => p pins s σ H En I (h En σ H q)
structure KxS (X : Cx) (Z : ZK) (k : Nat) (n : Nm) (cv : Nat -> Value) (cl : Nat -> List D -> Hh -> Res D) : Prop extends Kx X Z k n cv cl where
  lo : ∀ x ∈ n.N, Loc X.env.scope x /\ (X.fn x = true \/ X.env.scope.names.lookup x = some .local)
theorem KxS.wish {X : Cx} {Z : ZK} {k : Nat} {n : Nm} {cv : Nat -> Value} {cl : Nat -> List D -> Hh -> Res D} (C : KxS X Z k n cv cl) : KxS (X.wish (XE X Z)) Z k n cv cl :=
  ⟨⟨C.th.wished, C.rm, C.nN, C.nd, C.cm, C.kd, C.nm, C.bm, C.gc, C.fn⟩, C.lo⟩
section
variable {X : Cx} {Z : ZK} {k : Nat} {n : Nm} {cv : Nat -> Value} {cl : Nat -> List D -> Hh -> Res D}
theorem swaps_plain (e : E) (h : e.noC = true) (t : Option Expr) (l : Nat) (env : Env) : swapsWith (e.py n) t l env = pure false := by
  cases e with
  | ofL l =>
    cases l with
    | disp es p => rfl
    | comp => cases h
  | _ => rfl
theorem assign_sub (o i : E) (p1 : Pos) (env : Env) : ∀ v, assign (.Subscript (o.py n) (i.py n) p1) env v = (do
      let ov <- holding [v] (eval (o.py n) env)
      let iv <- holding [v, ov] (eval (i.py n) env)
      standAt p1
      holding [v, ov, iv] (setItem ov iv v)
      release [v, ov, iv] []) := by
  intro v
  generalize o.py n = oo
  cases i with
  | ofL l => cases l <;> (rfl)
  | _ => rfl
theorem swaps_sole (o i e : E) (p1 : Pos) (l : Nat) (env : Env) : swapsWithSole [.Subscript (o.py n) (i.py n) p1] (e.py n) l env = pure false := by
  generalize o.py n = oo
  generalize i.py n = ii
  cases e with
  | ofL l => cases l <;> (rfl)
  | _ => rfl
theorem swapped_none (o i e : E) (p1 : Pos) (env : Env) : swappedStores [.Subscript (o.py n) (i.py n) p1] (e.py n) env = pure none := by
  generalize o.py n = oo
  generalize i.py n = ii
  cases e with
  | ofL l => cases l <;> (rfl)
  | _ => rfl
theorem swaps_T (ts : List Expr) (e : E) (h : e.noT = true) (k : Nat) (p1 : Pos) (l : Nat) (env : Env) : swapsWithSole [.Tuple ts k p1] (e.py n) l env = pure false := by
  cases e with
  | ofL l => cases h
  | tup es p => cases h
  | _ => rfl
theorem swapped_T (ts : List Expr) (e : E) (h : e.noT = true) (k : Nat) (p1 : Pos) (env : Env) : swappedStores [.Tuple ts k p1] (e.py n) env = pure none := by
  cases e with
  | ofL l => cases h
  | tup es p => cases h
  | _ => rfl
theorem while_ours {c : E} {b : Ss} {p : Pos} {En : Ends} {σ : St} {H : Hp} {μ : List Addr} {ρ : PI.En} {h : Hh} (hr : HR X.K μ h H) (er : ER X.K μ ρ σ H) (q : PostS X.K cv μ H ((S.whil c b p).run cl ρ h) En Z) :
    tWhile (lift X.K cv RB Z (c.evT cl)) (liftS X.K cv Z (b.run cl)) En σ H := by
  have q : PostS X.K cv μ H (whR (fun ρ' h' => c.evT cl ρ' h') (fun ρ' h' => b.run cl ρ' h') ρ h) En Z := q
  have nz : whR (fun ρ' h' => c.evT cl ρ' h') (fun ρ' h' => b.run cl ρ' h') ρ h ≠ .no := fun z => by rw [z] at q; exact q
  obtain ⟨n0, e0⟩ := whR_has nz
  rw [<- e0] at q
  refine ⟨fun m σ H => ∃ μ ρ h, HR X.K μ h H /\ ER X.K μ ρ σ H /\ PostS X.K cv μ H (whL (fun ρ' h' => c.evT cl ρ' h') (fun ρ' h' => b.run cl ρ' h') m ρ h) En Z, ⟨n0, μ, ρ, h, hr, er, q⟩, ?_⟩
  rintro m σ1 H1 ⟨μ1, ρ1, h1, hr1, er1, q1⟩
  cases m with
  | zero => exact q1.elim
  | succ m =>
    rw [whL] at q1
    refine ⟨μ1, ρ1, h1, hr1, er1, ?_⟩
    cases ec : c.evT cl ρ1 h1 with
    | ok t h2 =>
      rw [ec] at q1
      intro μ2 H2 x e2 r2 hx
      have hx' : t = x := hx
      subst hx'
      cases t with
      | false => exact iteF (q1 μ2 H2 σ1 e2 r2 (er1.mono e2))
      | true =>
        refine iteT ⟨fun σ' H' => ∃ μ ρ h, HR X.K μ h H' /\ ER X.K μ ρ σ' H' /\ PostS X.K cv μ H' (whL (fun ρ' h' => c.evT cl ρ' h') (fun ρ' h' => b.run cl ρ' h') m ρ h) En Z, fun σ' H' z => ⟨m, Nat.lt_succ_self m, z⟩, μ2, ρ1, h2, r2, er1.mono e2, ?_⟩
        simp only at q1
        have q2 := PostS.ext q1 e2
        cases eb : b.run cl ρ1 h2 with
        | nx ρ4 h4 => simp only [eb] at q2; exact fun μ4 H4 σ4 e4 r4 er4 => ⟨μ4, ρ4, h4, r4, er4, PostS.ext q2 e4⟩
        | ct ρ4 h4 => simp only [eb] at q2; exact fun μ4 H4 σ4 e4 r4 er4 => ⟨μ4, ρ4, h4, r4, er4, PostS.ext q2 e4⟩
        | bk ρ4 h4 => simp only [eb] at q2; exact q2
        | rt d h4 => simp only [eb] at q2; exact q2
        | ex c' ρ4 h4 => simp only [eb] at q2; exact q2
        | no => simp only [eb] at q2; exact q2
    | exc k h2 =>
      rw [ec] at q1
      exact fun μ2 H2 e2 r2 => q1 μ2 H2 σ1 e2 r2 (er1.mono e2)
    | no => rw [ec] at q1; exact q1
theorem ps_whileX {c : Expr} {body : List Stmt} {tc : TT} {tb : TS} {pos : Pos} (th : Thr X Z) (hc : PT (X.wish (XE X Z)) c tc) (hb : PSs (X.wish (XE X Z)) body tb) : PS X (.While c body [] pos) (tWhile tc tb) := by
  intro pins s σ H D I h
  refine wpAny_mono (ps_while (X := X.wish (XE X Z)) (passes_XE th.toXOk) hc hb pins s σ H D (I.wish _) h) (fun f s' q => q.unwish) fun e s' x => th.thr e s' x
theorem for_ours {t : Tg} {it : I} {b : Ss} {En : Ends} {σ : St} {H : Hp} {μ : List Addr} {ρ : PI.En} {h : Hh} (hr : HR X.K μ h H) (er : ER X.K μ ρ σ H) (q : PostS X.K cv μ H ((S.forr t it b p).run cl ρ h) En Z) :
    tFor (lift X.K cv (RJ X.K) Z (it.ev cl)) (gB X.K t) (liftS X.K cv Z (b.run cl)) En σ H := by
  refine liftS_bind (m := it.ev cl) hr er q fun qq h1 μ1 H1 J _ e1 r1 er1 src p1 => ?_
  obtain ⟨c, ds⟩ := qq
  refine ⟨fun i m σ' H' => m = ds.length - i /\ i <= ds.length /\ ∃ μ2 ρ2 h2, Ext X.K μ1 H1 μ2 H' /\ HR X.K μ2 h2 H' /\ ER X.K μ2 ρ2 σ' H' /\ PostS X.K cv μ2 H' (forL c (stepF t fun ρ' h' => b.run cl ρ' h') (ds.drop i) ρ2 h2) En Z,
    ⟨ds.length, by simp, Nat.zero_le _, μ1, ρ, h1, Ext.refl, r1, er1, p1⟩, ?_⟩
  rintro i m σ' H' ⟨rfl, hi, μ2, ρ2, h2, e2, r2, er2, p2⟩
  by_cases hlt : i < ds.length
  · right
    rw [List.drop_eq_getElem_cons hlt] at p2
    unfold forL at p2
    split at p2
    rotate_left
    · exact p2.elim
    rename_i st
    obtain ⟨s1, s2⟩ := src μ2 h2 H' e2 r2 st
    obtain ⟨g1, g2⟩ := s1 i ds[i] (List.getElem?_eq_getElem hlt)
    refine ⟨g1, fun σ3 H3 => ds.length - (i + 1) = ds.length - (i + 1) /\ i + 1 <= ds.length /\ ∃ μ3 ρ3 h3, Ext X.K μ1 H1 μ3 H3 /\ HR X.K μ3 h3 H3 /\ ER X.K μ3 ρ3 σ3 H3 /\ PostS X.K cv μ3 H3 (forL c (stepF t fun ρ' h' => b.run cl ρ' h') (ds.drop (i + 1)) ρ3 h3) En Z,
      fun σ3 H3 z => ⟨ds.length - (i + 1), by omega, z⟩, fun x H3 y => ?_⟩
    obtain ⟨rfl, rx⟩ := g2 x H3 y
    unfold stepF at p2
    cases eb : bindT t ds[i] ρ2 with
    | none => rw [eb] at p2; exact p2.elim
    | some ρ3 =>
      rw [eb] at p2
      refine ⟨μ2, ρ2, ds[i], ρ3, h2, r2, er2, rx, eb, fun σ3 er3 _ _ => ⟨μ2, ρ3, h2, r2, er3, ?_⟩⟩
      cases eo : b.run cl ρ3 h2 with
      | nx ρ4 h4 =>
        simp only [eo] at p2
        exact fun μ4 H4 σ4 e4 r4 er4 => ⟨rfl, hlt, μ4, ρ4, h4, e2.trans e4, r4, er4, PostS.ext p2 e4⟩
      | ct ρ4 h4 =>
        simp only [eo] at p2
        exact fun μ4 H4 σ4 e4 r4 er4 => ⟨rfl, hlt, μ4, ρ4, h4, e2.trans e4, r4, er4, PostS.ext p2 e4⟩
      | bk ρ4 h4 => simp only [eo] at p2; exact p2
      | rt d h4 => simp only [eo] at p2; exact p2
      | ex c' ρ4 h4 => simp only [eo] at p2; exact p2
      | no => simp only [eo] at p2; exact p2
  · left
    have ei : i = ds.length := by omega
    subst ei
    rw [List.drop_length] at p2
    unfold forL at p2
    split at p2
    rotate_left
    · exact p2.elim
    rename_i st
    exact ⟨(src μ2 h2 H' e2 r2 st).2, p2 μ2 H' σ' Ext.refl r2 er2⟩
mutual
theorem sS : ∀ (s : S) (X : Cx) (Z : ZK) (k : Nat) (n : Nm) (cv : Nat -> Value) (cl : Nat -> List D -> Hh -> Res D), KxS X Z k n cv cl -> s.ok X.env.scope n = true -> PS X (s.py n) (liftS X.K cv Z (s.run cl))
  | .set i e p1 p, X, Z, k, n, cv, cl, C, h => by
    have h' : i < n.N.length /\ e.ok X.env.scope n = true := by have h : (_ && _) = true := h; simpa using h
    have hm := C.lo _ (getD_mem (d := ("" : Str)) h'.1)
    have hN : X.N[i]? = some (n.N.getD i "") := by rw [C.nN]; exact getD_some h'.1
    have plain : swapsWith (e.py n) (some (.Name (n.N.getD i "") p1)) p.line X.env = pure false -> PS X ((S.set i e p1 p).py n) (liftS X.K cv Z ((S.set i e p1 p).run cl)) := fun hs => by
      have se := sE e X Z k n cv cl C.toKx h'.2
      refine PS.mono (ps_set (i := i) C.nd hN hm.1 se.pe hs hm.2) fun En σ H => liftS_elim fun μ ρ h hr er q => ?_
      refine liftS_bind (m := e.ev cl) hr er q fun d h1 μ1 H1 x _ e1 r1 er1 qa p1 => ?_
      exact p1 μ1 H1 _ Ext.refl r1 (er1.set qa i)
    cases hn : e.noC with
    | true => exact plain (swaps_plain e hn _ _ _)
    | false =>
      cases e with
      | ofL l =>
        cases l with
        | disp es pp => cases hn
        | comp elt t it c NC cap csc pp =>
          have hL : (L.comp elt t it c NC cap csc pp).ok X.env.scope n = true := by exact h'.2
          obtain ⟨b, eb, hb⟩ : ∃ b, swapsWith ((E.ofL (.comp elt t it c NC cap csc pp)).py n) (some (.Name (n.N.getD i "") p1)) p.line X.env = pure b /\ (b = true -> X.env.scope.names.lookup (n.N.getD i "") = some .local) := by
            refine ⟨_, by rfl, fun z => ?_⟩
            simp only [Bool.and_eq_true, beq_iff_eq] at z
            exact z.1.1.2
          cases b with
          | false => exact plain eb
          | true =>
            obtain ⟨k1, k2, k3, k4, k5, k6, k7, k8, k9⟩ := comp_ok C.toKx hL
            have hit := sI it X Z k n cv cl C.toKx k1 (t.py NC)
            have hff : ∀ Cc s H fp pn xe Zc, Thr (compCx X NC csc Cc s H fp pn xe) Zc -> PF (compCx X NC csc Cc s H fp pn xe) (c.py ⟨NC, n.F, n.G⟩) (lift X.K cv RB Zc (c.evC cl)) := fun Cc s H fp pn xe Zc th => by
              have Cc' := C.toKx.comp k2 k3 k4 th
              cases c with
              | nil => exact pf_none
              | cons e r =>
                cases r with
                | cons _ _ => cases k9
                | nil =>
                  have se := sE e _ Zc k ⟨NC, n.F, n.G⟩ cv cl Cc' (by have k7 : (_ && _) = true := k7; simp at k7; exact k7.1)
                  have ht := se.pt (by have k8 : (_ && _) = true := k8; simp at k8; exact k8.1)
                  exact pf_one ht
            have key := ps_setC (X := X) (i := i) (cap := cap) (pos := pp) (pos' := p1) (spos := p) (g := gB X.K t) (tf := fun Zc => lift X.K cv RB Zc (c.evC cl)) (te := fun Zc => lift X.K cv (Rep X.K) Zc (elt.ev cl)) C.cm C.th hit k2 (fun Cc s H fp pn xe => comp_pg C.kd k2 k3 k5) hff
              (fun Cc s H fp pn xe Zc th => (sE elt _ Zc k ⟨NC, n.F, n.G⟩ cv cl (C.toKx.comp k2 k3 k4 th) k6).pe) (fold_plain it) C.nd hN (hb rfl) eb
            refine PS.mono key fun En σ H => liftS_elim fun μ ρ h hr er q => read_comp k2 k5 ⟨μ, ρ, h, hr, er, ?_⟩
            have q : PostS X.K cv μ H (andS ρ (((L.comp elt t it c NC cap csc pp).ev cl ρ h).bind fun xs h1 => new (.lst xs) h1) fun d h1 => .nx (ρ.set i (some d)) h1) En Z := q
            show PostE X.K cv (RL X.K H) μ H ((L.comp elt t it c NC cap csc pp).ev cl ρ h) _ (Z σ)
            cases el : (L.comp elt t it c NC cap csc pp).ev cl ρ h with
            | ok ds h1 =>
              rw [el] at q
              intro μ1 H1 x e1 r1 ⟨pa, vs, ex, g1, g2, g3, g4⟩
              subst ex
              have er1 : ER X.K (μ1 ++ [pa]) ρ σ H1 := er.mono (e1.add g4)
              refine q (μ1 ++ [pa]) H1 _ (e1.add g4) (r1.add g3 fun μ' gr => ⟨vs, g1, g2.mono' gr⟩) (er1.set (.loc ?_) i)
              rw [<- r1.len, List.getElem?_append_right (Nat.le_refl _), Nat.sub_self]
              rfl
            | exc cc h1 => rw [el] at q; exact fun μ1 H1 e1 r1 => q μ1 H1 σ e1 r1 (er.mono e1)
            | no => rw [el] at q; exact q
      | _ => cases hn
  | .ret e p, X, Z, k, n, cv, cl, C, h => by
    have se := sE e X Z k n cv cl C.toKx (by exact h)
    refine PS.mono (ps_ret se.pe) fun En σ H => liftS_elim fun μ ρ h hr er q => ?_
    refine liftS_bind (m := e.ev cl) hr er q fun d h1 μ1 H1 x _ e1 r1 er1 qa p1 => ?_
    exact p1 μ1 H1 x Ext.refl r1 qa
  | .iff c a b p, X, Z, k, n, cv, cl, C, h => by
    have h' : ((c.ok X.env.scope n = true /\ c.okT = true) /\ a.ok X.env.scope n = true) /\ b.ok X.env.scope n = true := by have h : (_ && _) = true := h; simpa using h
    have sc := sE c X Z k n cv cl C.toKx h'.1.1.1
    have sa := sSs a X Z k n cv cl C h'.1.2
    have sb := sSs b X Z k n cv cl C h'.2
    refine PS.mono (ps_if (sc.pt h'.1.1.2) sa sb) fun En σ H => liftS_elim fun μ ρ h hr er q => ?_
    refine liftS_bind (m := c.evT cl) (R := RB) hr er q fun t h1 μ1 H1 x _ e1 r1 er1 qa p1 => ?_
    have qa' : t = x := qa
    subst qa'
    cases t with
    | true => exact iteT ⟨μ1, ρ, h1, r1, er1, p1⟩
    | false => exact iteF ⟨μ1, ρ, h1, r1, er1, p1⟩
  | .ex e p, X, Z, k, n, cv, cl, C, h => by
    have h' : e.ok X.env.scope n = true /\ e.noC = true := by have h : (_ && _) = true := h; simpa using h
    have se := sE e X Z k n cv cl C.toKx h'.1
    refine PS.mono (ps_expr se.pe (swaps_plain e h'.2 _ _ _)) fun En σ H => liftS_elim fun μ ρ h hr er q => ?_
    refine liftS_bind (m := e.ev cl) hr er q fun d h1 μ1 H1 x _ e1 r1 er1 qa p1 => ?_
    exact p1 μ1 H1 _ Ext.refl r1 er1
  | .put o i v p1 p, X, Z, k, n, cv, cl, C, h => by
    have h' : (o.ok X.env.scope n = true /\ i.ok X.env.scope n = true) /\ v.ok X.env.scope n = true := by have h : (_ && _) = true := h; simpa using h
    have so := sE o X Z k n cv cl C.toKx h'.1.1
    have si := sE i X Z k n cv cl C.toKx h'.1.2
    have sv := sE v X Z k n cv cl C.toKx h'.2
    refine PS.mono (ps_asg sv.pe (pg_sub so.pe si.pe (set_ours (hu_of C.rm)) (assign_sub o i p1 _)) (swaps_sole o i v p1 _ _) (swapped_none o i v p1 _) rfl) fun En σ H => liftS_elim fun μ ρ h hr er q => ?_
    refine liftS_bind (m := v.ev cl) hr er q fun z h1 μ1 H1 x _ e1 r1 er1 qz p1 => ?_
    refine liftS_bind (m := o.ev cl) r1 er1 p1 fun a h2 μ2 H2 y _ e2 r2 er2 qa p2 => ?_
    refine liftS_bind (m := i.ev cl) r2 er2 p2 fun b h3 μ3 H3 w _ e3 r3 er3 qb p3 => ?_
    cases e : putS a b z h3 with
    | none => rw [e] at p3; exact p3.elim
    | some h4 =>
      rw [e] at p3
      exact ⟨μ3, h3, a, b, z, h4, r3, qa.mono e3, qb, (qz.mono e2).mono e3, e, fun μ4 H4 e4 r4 => p3 μ4 H4 σ e4 r4 (er3.mono e4)⟩
  | .forr t it b p, X, Z, k, n, cv, cl, C, h => by
    have h' : (t.okS n.N = true /\ it.ok X.env.scope n = true) /\ b.ok X.env.scope n = true := by have h : (_ && _) = true := h; simpa using h
    have hi := sI it _ Z k n cv cl C.wish.toKx h'.1.2 (t.py n.N)
    have hb := sSs b _ Z k n cv cl C.wish h'.2
    have hg : PG (X.wish (XE X Z)) (t.py n.N) (gB X.K t) := by
      have z := pg_T (X := X.wish (XE X Z)) C.cm C.nd t fun i hi => by
        have h1 := List.all_eq_true.mp h'.1.1 i hi
        have hl : i < n.N.length := of_decide_eq_true h1
        have hm := C.lo _ (getD_mem (d := ("" : Str)) hl)
        have eN : (X.wish (XE X Z)).N = n.N := C.nN
        rw [eN]
        exact ⟨hl, hm⟩
      rw [show (X.wish (XE X Z)).N = n.N from C.nN] at z
      exact z
    exact PS.mono (ps_forX C.th C.cm hi hg hb (fold_plain it)) fun En σ H => liftS_elim fun μ ρ h hr er q => for_ours (p := p) hr er q
  | .whil c b p, X, Z, k, n, cv, cl, C, h => by
    have h' : (c.ok X.env.scope n = true /\ c.okT = true) /\ b.ok X.env.scope n = true := by have h : (_ && _) = true := h; simpa using h
    have sc := sE c _ Z k n cv cl C.wish.toKx h'.1.1
    have hb := sSs b _ Z k n cv cl C.wish h'.2
    exact PS.mono (ps_whileX C.th (sc.pt h'.1.2) hb) fun En σ H => liftS_elim fun μ ρ h hr er q => while_ours (p := p) hr er q
  | .iffN a i pv p1 x y p, X, Z, k, n, cv, cl, C, h => by
    have h' : (((a.ok X.env.scope n = true /\ a.okT = true) /\ i < n.N.length) /\ x.ok X.env.scope n = true) /\ y.ok X.env.scope n = true := by have h : (_ && _) = true := h; simpa using h
    have sa := sE a X Z k n cv cl C.toKx h'.1.1.1.1
    have sv := sE (.var i pv) X Z k n cv cl C.toKx (decide_eq_true h'.1.1.2)
    have sx := sSs x X Z k n cv cl C h'.1.2
    have sy := sSs y X Z k n cv cl C h'.2
    have pv' : PE X (.Name (n.N.getD i "") pv) (lift X.K cv (Rep X.K) Z ((E.var i pv).ev cl)) := sv.pe
    refine PS.mono (ps_if (PW.pt (pw_and (sa.pt h'.1.1.1.2) (pw_and1 (pt_valN pv')))) sx sy) fun En σ H => liftS_elim fun μ ρ h hr er q => ?_
    refine liftS_bind (m := a.evT cl) (R := RB) hr er q fun t h1 μ1 H1 z _ e1 r1 er1 qa p1 => ?_
    have qa' : t = z := qa
    subst qa'
    cases t with
    | false => exact iteF (iteF ⟨μ1, ρ, h1, r1, er1, p1⟩)
    | true =>
      refine iteT ?_
      rw [if_pos rfl] at p1
      refine ⟨μ1, ρ, h1, r1, er1, ?_⟩
      show PostE X.K cv (Rep X.K) μ1 H1 (match ρ[i]? with | some (some d) => .ok d h1 | _ => .no) _ _
      cases e : ρ[i]? with
      | none => rw [e] at p1; exact p1.elim
      | some o =>
        cases o with
        | none => rw [e] at p1; exact p1.elim
        | some d =>
          rw [e] at p1
          intro μ2 H2 w e2 r2 qw
          cases qw with
          | bl c =>
            refine .inl ⟨c, rfl, ?_⟩
            cases c with
            | true => exact iteT ⟨μ2, ρ, h1, r2, er1.mono e2, p1.ext e2⟩
            | false => exact iteF ⟨μ2, ρ, h1, r2, er1.mono e2, p1.ext e2⟩
          | non => exact .inr ⟨rfl, iteF ⟨μ2, ρ, h1, r2, er1.mono e2, p1.ext e2⟩⟩
          | _ => exact p1.elim
  | .raw st, X, Z, k, n, cv, cl, C, h => by
    refine fun pins s σ H En I q => ?_
    obtain ⟨μ, ρ, h, hr, er, q⟩ := q
    exact q.elim
  | .tryN b h0 hs p, X, Z, k, n, cv, cl, C, h => by
    have h' : b.ok X.env.scope n = true := h
    refine PS.mono (ps_tryN (tb := fun Zh => liftS X.K cv Zh (b.run cl)) C.th fun pins xe Zh th => ?_) fun En σ H => liftS_elim fun μ ρ h hr er q => ⟨μ, ρ, h, hr, er, ?_⟩
    · exact sSs b (tryCx X pins xe) Zh k n cv cl ⟨⟨th, C.rm, C.nN, C.nd, C.cm, C.kd, C.nm, C.bm, C.gc, C.fn⟩, C.lo⟩ h'
    · have q : PostS X.K cv μ H (match b.run cl ρ h with | .ex _ _ _ => .no | o => o) En Z := q
      cases e : b.run cl ρ h with
      | ex c ρ' h2 => rw [e] at q; exact q.elim
      | nx ρ' h2 => rw [e] at q; exact q
      | bk ρ' h2 => rw [e] at q; exact q
      | ct ρ' h2 => rw [e] at q; exact q
      | rt d h2 => rw [e] at q; exact q
      | no => rw [e] at q; exact q
  | .pass p, X, Z, k, n, cv, cl, C, h => by
    refine PS.mono ps_pass fun En σ H => liftS_elim fun μ ρ h hr er q => ?_
    exact q μ H σ Ext.refl hr er
  | .brk p, X, Z, k, n, cv, cl, C, h => by
    refine PS.mono ps_break fun En σ H => liftS_elim fun μ ρ h hr er q => ?_
    exact q μ H σ Ext.refl hr er
  | .cnt p, X, Z, k, n, cv, cl, C, h => by
    refine PS.mono ps_continue fun En σ H => liftS_elim fun μ ρ h hr er q => ?_
    exact q μ H σ Ext.refl hr er
  | .setT is e p1 p, X, Z, k, n, cv, cl, C, h => by
    have h' : ((Tg.tup is p1).okS n.N = true /\ e.ok X.env.scope n = true) /\ e.noT = true := by have h : (_ && _) = true := h; simpa using h
    have se := sE e X Z k n cv cl C.toKx h'.1.2
    have hg : PG X ((Tg.tup is p1).py n.N) (fun v σ H Q => ∃ μ ρ d ρ' h, HR X.K μ h H /\ ER X.K μ ρ σ H /\ Rep X.K μ H d v /\ bindT (.tup is p1) (unpD d h) ρ = some ρ' /\ ∀ σ', ER X.K μ ρ' σ' H -> Q σ' H) := by
      have z := pg_TL (X := X) C.cm C.nd is p1 fun i hi => by
        have h1 := List.all_eq_true.mp h'.1.1 i hi
        have hl : i < n.N.length := of_decide_eq_true h1
        have hm := C.lo _ (getD_mem (d := ("" : Str)) hl)
        rw [C.nN]
        exact ⟨hl, hm⟩
      rw [C.nN] at z
      exact z
    refine PS.mono (ps_asg se.pe hg (swaps_T _ e h'.2 _ _ _ _) (swapped_T _ e h'.2 _ _ _) rfl) fun En σ H => liftS_elim fun μ ρ h hr er q => ?_
    refine liftS_bind (m := e.ev cl) hr er q fun d h1 μ1 H1 x _ e1 r1 er1 qa q1 => ?_
    cases eb : bindT (.tup is p1) (unpD d h1) ρ with
    | none => rw [eb] at q1; exact q1.elim
    | some ρ' =>
      rw [eb] at q1
      exact ⟨μ1, ρ, d, ρ', h1, r1, er1, qa, eb, fun σ' er' => q1 μ1 H1 σ' Ext.refl r1 er'⟩
theorem sSs : ∀ (s : Ss) (X : Cx) (Z : ZK) (k : Nat) (n : Nm) (cv : Nat -> Value) (cl : Nat -> List D -> Hh -> Res D), KxS X Z k n cv cl -> s.ok X.env.scope n = true -> PSs X (s.py n) (liftS X.K cv Z (s.run cl))
  | .nil, X, Z, k, n, cv, cl, C, _ => by
    refine PSs.mono pss_nil fun En σ H => liftS_elim fun μ ρ h hr er q => ?_
    exact q μ H σ Ext.refl hr er
  | .cons s r, X, Z, k, n, cv, cl, C, h => by
    have h' : s.ok X.env.scope n = true /\ r.ok X.env.scope n = true := by have h : (_ && _) = true := h; simpa using h
    have ss := sS s X Z k n cv cl C h'.1
    have sr := sSs r X Z k n cv cl C h'.2
    refine PSs.mono (pss_cons ss sr) fun En σ H => liftS_elim fun μ ρ h hr er q => ?_
    have q : PostS X.K cv μ H (seqS (s.run cl ρ h) fun ρ' h' => r.run cl ρ' h') En Z := q
    refine ⟨μ, ρ, h, hr, er, ?_⟩
    cases e : s.run cl ρ h with
    | nx ρ' h1 =>
      rw [e] at q
      exact fun μ1 H1 σ1 e1 r1 er1 => ⟨μ1, ρ', h1, r1, er1, PostS.ext q e1⟩
    | bk ρ' h1 => rw [e] at q; exact q
    | ct ρ' h1 => rw [e] at q; exact q
    | rt d h1 => rw [e] at q; exact q
    | ex c ρ' h1 => rw [e] at q; exact q
    | no => rw [e] at q; exact q
end
end
end PI
set_option Elab.async false
set_option linter.all false
set_option maxRecDepth 100000
set_option maxHeartbeats 4000000
namespace PI
open PySem L2 PySem.Spec
open PyProof.Rows hiding St
structure DefOk (st : Stmt) (d : Df) (F : List Str) (G : List (Str × Cn)) : Prop where
  body : defBody st = d.body.py ⟨d.N, F, G⟩
  sc : FnScope d.N d.ps (defScope st)
  ok : d.body.ok (defScope st) ⟨d.N, F, G⟩ = true
  nm : ∀ x ∈ d.N, ((defScope st).names.lookup x = some .local \/ (defScope st).names.lookup x = some .cell) /\ goodN x = true
  bd : ∀ (kV doc pm : Value) (an : Option Addr) (cdv ct : Value) (us : List Value), us.length = d.ps.length ->
    bindArgs (PySem.W.fnOf d.name d.name (defArgs st) (defBody st) (defScope st) .none kV doc pm an cdv ct) ⟨us, []⟩ = pure (d.ps.zip us)
structure Tab (P : Program) (w : World) (K : PySem.W.Frag) (mg : Str -> Option Value) (ds : List Df) (G : List (Str × Cn)) : Prop where
  bm : ∀ x, x ∈ bnames -> mg x = none
  gc : ∀ x c, (x, c) ∈ G -> (x == ("__debug__" : Str)) = false /\ ∃ v, mg x = some v /\ CnOk P w K v c
  fn : ∀ (i : Nat) d, ds[i]? = some d -> (d.name == ("__debug__" : Str)) = false /\ ∃ st f fd, mg d.name = some (.ref f) /\ Fun K d.name d.name st f fd /\ DefOk st d (ds.map (·.name)) G
theorem er_start {K : PySem.W.Frag} {μ : List Addr} {H : Hp} {as : List D} {vs : List V} (N : List Str) (r : Reps K μ H as vs) : ER K μ (as.map some ++ List.replicate (N.length - as.length) none) (L2.start N vs) H := by
  unfold L2.start
  refine ⟨by simp [r.length], fun i d h => ?_⟩
  rw [List.getElem?_append] at h ⊢
  rw [List.length_map] at h ⊢
  rw [<- r.length]
  split at h
  · rename_i c
    rw [if_pos c]
    rw [List.getElem?_map] at h ⊢
    cases e : as[i]? with
    | none => rw [e] at h; cases h
    | some a =>
      rw [e] at h
      cases h
      obtain ⟨v, e1, e2⟩ := r.get e
      rw [e1]
      exact ⟨v, rfl, e2⟩
  · exfalso
    rw [List.getElem?_replicate] at h
    split at h <;> cases h
theorem callI_len {ds : List Df} {k i : Nat} {d : Df} (hd : ds[i]? = some d) : ∀ as h, callI ds k i as h ≠ .no -> as.length = d.ps.length := by
  intro as h q
  cases k with
  | zero => exact absurd rfl q
  | succ k =>
    unfold callI at q
    rw [hd] at q
    by_cases c : as.length = d.ps.length
    · exact c
    · exact absurd (if_neg c) q
section
variable {P : Program} {w : World} {K : PySem.W.Frag} {mg : Str -> Option Value} {base : Heap} {ds : List Df} {G : List (Str × Cn)} {cv : Nat -> Value}
theorem all_fn (T : Tab P w K mg ds G) : ∀ (k i : Nat) (d : Df) (st : Stmt) (f : Addr) (fd : FuncData), ds[i]? = some d -> mg d.name = some (.ref f) -> Fun K d.name d.name st f fd -> DefOk st d (ds.map (·.name)) G ->
    FnOk P w K mg base (CXs P w) k f fd d.ps (spI K cv d.ps.length (callI ds k i))
  | 0, i, d, st, f, fd, hd, hm, F, o => by
    have no : ∀ vs H Q E, ¬ spI K cv d.ps.length (callI ds 0 i) vs H Q E := fun vs H Q E ⟨_, _, _, _, _, _, z⟩ => z
    exact ⟨fun vs H Q E h => absurd h (no vs H Q E), fun A outer s H args us vs Q E _ _ _ _ h => absurd h (no vs H Q E)⟩
  | k + 1, i, d, st, f, fd, hd, hm, F, o => by
    refine F.okX o.sc (fun vs H Q E h => h.1) fun cdv A outer s H vs Q E hr h => ?_
    obtain ⟨hl, μ, h, as, hH, hv, p⟩ := h
    have C : KxS (cxOf (CXs P w) P w K mg base d.N d.name (defScope st) f cdv A outer s H E) (fun _ C H' => E C none H') k ⟨d.N, ds.map (·.name), G⟩ cv (callI ds k) := by
      refine ⟨⟨thr_def, hr, rfl, o.sc.nd, rfl, o.sc.kind, fun x hx => ⟨(o.nm x hx).1.elim .inl fun z => .inr (.inl z), (o.nm x hx).2⟩, T.bm, T.gc, fun j x hj => ?_⟩, fun x hx => ⟨(o.nm x hx).1, .inl rfl⟩⟩
      have hj' : (ds.map (·.name))[j]? = some x := hj
      rw [List.getElem?_map] at hj'
      cases e : ds[j]? with
      | none => rw [e] at hj'; cases hj'
      | some d' =>
        rw [e] at hj'
        cases hj'
        obtain ⟨h1, st', f', fd', m', F', o'⟩ := T.fn j d' e
        exact ⟨h1, f', fd', d'.ps, m', F'.kp, F'.binds o'.bd, callI_len e, all_fn T k j d' st' f' fd' e m' F' o'⟩
    refine ⟨liftS K cv (fun _ C H' => E C none H') (d.body.run (callI ds k)), by rw [o.body]; exact sSs d.body _ _ _ _ _ _ C o.ok, μ, _, h, hH, er_start d.N hv, ?_⟩
    have c : as.length = d.ps.length := by rw [hv.length]; exact hl
    rw [callI_succ hd c] at p
    have p1 := p
    unfold Df.run outR at p1
    cases e : d.body.run (callI ds k) (as.map some ++ List.replicate (d.N.length - as.length) none) h with
    | nx ρ h1 => rw [e] at p1; exact fun μ1 H1 σ1 e1 r1 er1 => p1 μ1 H1 .non e1 r1 .non
    | rt v h1 => rw [e] at p1; exact p1
    | ex c ρ h1 => rw [e] at p1; exact fun μ1 H1 σ1 e1 r1 er1 => p1 μ1 H1 e1 r1
    | bk ρ h1 => rw [e] at p1; exact p1.elim
    | ct ρ h1 => rw [e] at p1; exact p1.elim
    | no => rw [e] at p1; exact p1.elim
end
noncomputable def EntsOk (w : World) (K : PySem.W.Frag) : List DictEntry -> List (Str × Cv) -> Prop
  | [], [] => True
  | e :: r, kx :: s => (e.hash = hashStr w kx.1 /\ (∃ t, e.key = .str kx.1 t) /\ CvOk K e.val kx.2) /\ EntsOk w K r s
  | _, _ => False
theorem ents_pairs {P : Program} {w : World} {K : PySem.W.Frag} : ∀ {es : List DictEntry} {kvs : List (Str × Cv)}, EntsOk w K es kvs -> ∃ vs, Pairs (mixKind P w) es vs /\ DicV K kvs vs /\ vs.map (·.1) = kvs.map (fun kx => (Sum.inr kx.1 : Key)) /\ ∀ e ∈ es, ∃ k, (mixKind P w).is k e.key = true /\ e.hash = (mixKind P w).hash k
  | [], [], _ => ⟨[], .nil, trivial, rfl, fun e h => absurd h (by simp)⟩
  | [], _ :: _, h => h.elim
  | _ :: _, [], h => h.elim
  | e :: r, (k, xs) :: s, ⟨⟨h1, ⟨t, h2⟩, h4⟩, h5⟩ => by
    obtain ⟨vs, p, d, n, ks⟩ := ents_pairs (P := P) h5
    have ik : (mixKind P w).is (.inr k) e.key = true := kV_is (k := .inr k) ⟨t, h2⟩
    refine ⟨(.inr k, e.val) :: vs, .cons ik rfl p, ⟨rfl, h4, d⟩, by simp [n], fun e' he => ?_⟩
    rcases List.mem_cons.mp he with rfl | he
    · exact ⟨_, ik, h1⟩
    · exact ks e' he
theorem cn_dic {P : Program} {w : World} {K : PySem.W.Frag} {a : Addr} {es : Array DictEntry} {ep : Nat} {kvs : List (Str × Cv)} (l : K.lookup a = some { cls := .type "dict", data := .dict es ep }) (h : EntsOk w K es.toList kvs) (nd : (kvs.map (·.1)).Nodup) :
    CnOk P w K (.ref a) (.dic kvs) := by
  obtain ⟨vs, p, d, n, ks⟩ := ents_pairs (P := P) h
  refine ⟨a, _, es, ep, vs, rfl, l, ⟨rfl, rfl, rfl⟩, rfl, fun e he => ks e (by simpa using he), p, ?_, d⟩
  rw [n]
  have e : kvs.map (fun kx => (Sum.inr kx.1 : Key)) = (kvs.map (·.1)).map fun k => (Sum.inr k : Key) := by simp
  rw [e]
  exact List.Pairwise.map _ (fun x y hxy z => hxy (Sum.inr.inj z)) nd
theorem bits_of_W : ∀ {ns : List Int}, PySem.W.WData.weightAll (ns.map PySem.W.WData.int) <= 2 ^ 20 -> ∀ n ∈ ns, Builtin.Int.intBits n <= 2 ^ 20
  | [], _, n, hn => absurd hn (by simp)
  | m :: r, h, n, hn => by
    rw [List.map_cons, PySem.W.WData.weightAll] at h
    rcases List.mem_cons.mp hn with rfl | hn
    · have e : PySem.W.WData.weight (.int n) = Builtin.Int.intBits n := by rw [PySem.W.WData.weight]; rfl
      omega
    · exact bits_of_W (by omega) n hn
noncomputable def spLaw (K : PySem.W.Frag) (c : List D -> Hh -> Res D) : Sp := spI K (fun _ => .none) 1 c
theorem law_sp {K : PySem.W.Frag} {c : List D -> Hh -> Res D} {H : Hp} {a : Addr} {ns : List Int} {h' : Hh} (hO : Only H) (hS : SqL K H a (ns.map V.int)) (e : c [.fl (ns.map D.int)] [] = .ok (.bl true) h') :
    spLaw K c [.ref a] H (fun v _ => v = .bl true) (fun _ _ _ => False) := by
  have rp : ∀ ms : List Int, Reps K [] H (ms.map D.int) (ms.map V.int) := fun ms => by
    induction ms with
    | nil => exact .nil
    | cons m r ih => exact .cons (.int m) ih
  have fz : Fz K H a (ns.map V.int) := by
    rcases hS with h | h
    · left
      rcases h with h | h
      · rcases hO a with z | ⟨o, xs, z⟩
        · rw [h] at z; cases z
        · rw [h] at z; cases z
      · exact h
    · exact .inr fun H' => .inr h
  refine ⟨rfl, [], [], [.fl (ns.map D.int)], ⟨rfl, fun n m b e1 => by simp at e1, fun n b o e1 => by simp at e1⟩, .cons (.fl fz (rp ns)) .nil, ?_⟩
  · rw [e]
    intro μ1 H1 v e1 r1 q1
    cases q1
    rfl
theorem walk_ofB {l : PySem.W.OpenLaw} {k : Nat} {q : Program} {loose : List Str} {XP : (Str -> Option Value) -> Heap -> Prop} {YP : World -> Heap -> Prop} {d : DefRec} {K : Params -> PySem.W.Frag} {c : List D -> Hh -> Res D} {x : Str}
    (hn : l.most = some 63) (hdf : d.params.defaults = []) (hr : Room k callerA)
    (hY : ∀ (w : World) (h : Heap), YP w h -> (K w.params).In h)
    (F : ∀ (w : World) (mg : Str -> Option Value) (fa : Addr) (h : Heap), (K w.params).In h -> h.Ns mainGlobals mg -> mg d.name = some (.ref fa) ->
      ∃ fd : FuncData, (∀ (s : Shared) (u : Value), BindsTo s fd ⟨[u], []⟩ [(x, u)]) /\
        ∀ base : Heap, (K w.params).In base -> base.Ns mainGlobals mg -> FnOk l.prog w (K w.params) mg base (CXs l.prog w) k fa fd [x] (spLaw (K w.params) c))
    (hc : ∀ ns : List Int, ns.length <= 63 -> (∀ n ∈ ns, Builtin.Int.intBits n <= 2 ^ 20) -> ∃ h', c [.fl (ns.map D.int)] [] = .ok (.bl true) h') :
    PySem.W.WalkO q loose XP YP l.row.toRowW d [] (fun f vs => PySem.call f vs) := by
  intro w s₀ s₁ mg mb G Y fa o pm cd doc dV kV ho hd hcd hD hmg hg args vals as hpre hlay hrd hwl hlo
  obtain rfl : dV = .none := PySem.W.Dflts.none hD hdf
  obtain rfl : kV = .none := PySem.W.Dflts.noKw hD
  obtain ⟨a, vs, ns, rfl, rfl, hobj, hints, hlen⟩ := Att.script_of hn hpre hwl
  have hbits : ∀ n ∈ ns, Builtin.Int.intBits n <= 2 ^ 20 := by
    have h1 : PySem.W.WData.layable (.list (ns.map .int)) = true := by
      have := hlay
      unfold PySem.W.WData.layableAll at this
      simpa using this
    have h2 := (PySem.W.layableW_iff.mp h1).2.2
    exact bits_of_W (by simpa [PySem.W.WData.weight] using h2)
  have KX := hY w _ Y
  obtain ⟨fd, hb, hF⟩ := F w mg fa _ KX G.T.g hmg
  obtain ⟨h', e⟩ := hc ns hlen hbits
  refine PySem.W.enter_call (codeAny_mono (law_call KX G.T.g G.T.b G.T.builtins G.T.nolimit hg hobj hints (Nat.le_trans hlen (by decide)) hr hF hb (fun H hO hS => law_sp hO hS e) (fun H e' s' z => by
    obtain ⟨_, _, _, _, _, _, _, _, _, _, _, z⟩ := z
    exact z)) fun r s' hq => ?_)
  obtain ⟨rfl, h2, h3, h4⟩ := hq
  exact ⟨.inl ⟨.bool true, .bool true, [], rfl, fun _ => rfl, .bool true, Att.post_true l _, fun _ => ⟨List.Pairwise.nil, fun _ hm => (nomatch hm)⟩⟩, h2, h3, h4⟩
end PI
set_option Elab.async false
set_option linter.all false
set_option maxRecDepth 100000
namespace PI
open PySem L2
section
variable {cl : Nat -> List D -> Hh -> Res D}
theorem vnon {z0 z1 h} : E.ev cl (.non z0) z1 h = .ok .non h := rfl
theorem vint {i z0 z1 h} : E.ev cl (.int i z0) z1 h = .ok (.int i) h := rfl
theorem vstr {x z0 z1 h} : E.ev cl (.str x z0) z1 h = .ok (.str x) h := rfl
theorem vvar {i z0 ρ h} : E.ev cl (.var i z0) ρ h = match ρ[i]? with | some (some d) => .ok d h | _ => .no := rfl
theorem vbin {op a b z0 ρ h} : E.ev cl (.bin op a b z0) ρ h = (a.ev cl ρ h).bind fun x h1 => (b.ev cl ρ h1).bind fun y h2 => binD op x y h2 := rfl
theorem vcmp {op a b z0 ρ h} : E.ev cl (.cmp op a b z0) ρ h = (a.ev cl ρ h).bind fun x h1 => (b.ev cl ρ h1).bind fun y h2 => cmpD op x y h2 := rfl
theorem vcall {f a r z0 z1 ρ h} : E.ev cl (.call f a r z0 z1) ρ h = (a.ev cl ρ h).bind fun x h1 => (r.ev cl ρ h1).bind fun xs h2 => cl f (x :: xs) h2 := rfl
theorem vlen {a z0 z1 ρ h} : E.ev cl (.len a z0 z1) ρ h = (a.ev cl ρ h).bind fun x h1 => lenD x h1 := rfl
theorem vsub {a i z0 ρ h} : E.ev cl (.sub a i z0) ρ h = (a.ev cl ρ h).bind fun x h1 => (i.ev cl ρ h1).bind fun y h2 => subD x y h2 := rfl
theorem vtup {es z0 ρ h} : E.ev cl (.tup es z0) ρ h = (es.ev cl ρ h).bind fun xs h1 => if xs.length <= 1000 then .ok (.tup xs) h1 else .no := rfl
theorem vofL {l ρ h} : E.ev cl (.ofL l) ρ h = (l.ev cl ρ h).bind fun xs h1 => new (.lst xs) h1 := rfl
theorem vcut {a lo hi z0 z1 ρ h} : E.ev cl (.cut a lo hi z0 z1) ρ h = (a.ev cl ρ h).bind fun x h1 => (lo.ev cl ρ h1).bind fun l h2 => (hi.ev cl ρ h2).bind fun u h3 => cutD x l u h3 := rfl
theorem vcmpN {neg a z0 z1 ρ h} : E.ev cl (.cmpN neg a z0 z1) ρ h = (a.ev cl ρ h).bind fun x h1 => nilD neg x h1 := rfl
theorem vgsub {z0 kvs i z1 z2 ρ h} : E.ev cl (.gsub z0 kvs i z1 z2) ρ h = (i.ev cl ρ h).bind fun y h1 => cstD kvs y h1 := rfl
theorem onone {z0 h} : Eo.ev cl .none z0 h = .ok none h := rfl
theorem osome {e ρ h} : Eo.ev cl (.some e) ρ h = (e.ev cl ρ h).bind fun d h1 => intO d h1 := rfl
theorem ldisp {es z0 ρ h} : L.ev cl (.disp es z0) ρ h = (es.ev cl ρ h).bind fun xs h1 => if xs.length <= 1000 then .ok xs h1 else .no := rfl
theorem irng {a z0 z1 ρ h} : I.ev cl (.rng a z0 z1) ρ h = (a.ev cl ρ h).bind fun x h1 => match x with
    | .int j => if -1000000 <= j /\ j <= 1000000 then .ok ([], (List.range j.toNat).map fun k => .int (k : Nat)) h1 else .no
    | _ => .no := rfl
theorem cnil {z0 h} : Es.evC cl .nil z0 h = .ok true h := rfl
theorem enil {z0 h} : Es.ev cl .nil z0 h = .ok [] h := rfl
theorem econs {e r ρ h} : Es.ev cl (.cons e r) ρ h = (e.ev cl ρ h).bind fun x h1 => (r.ev cl ρ h1).bind fun xs h2 => .ok (x :: xs) h2 := rfl
theorem yset {i e z0 z1 ρ h} : S.run cl (.set i e z0 z1) ρ h = andS ρ (e.ev cl ρ h) fun d h1 => .nx (ρ.set i (some d)) h1 := rfl
theorem yret {e z0 ρ h} : S.run cl (.ret e z0) ρ h = andS ρ (e.ev cl ρ h) fun d h1 => .rt d h1 := rfl
theorem yiff {c a b z0 ρ h} : S.run cl (.iff c a b z0) ρ h = andS ρ (c.evT cl ρ h) fun t h1 => if t then a.run cl ρ h1 else b.run cl ρ h1 := rfl
theorem yforr {t it b z0 ρ h} : S.run cl (.forr t it b z0) ρ h = andS ρ (it.ev cl ρ h) fun q h1 => forL q.1 (stepF t fun ρ' h' => b.run cl ρ' h') q.2 ρ h1 := rfl
theorem ywhil {c b z0 ρ h} : S.run cl (.whil c b z0) ρ h = whR (fun ρ' h' => c.evT cl ρ' h') (fun ρ' h' => b.run cl ρ' h') ρ h := rfl
theorem ytryN {b z0 z1 z2 ρ h} : S.run cl (.tryN b z0 z1 z2) ρ h = (match b.run cl ρ h with | .ex _ _ _ => .no | o => o) := rfl
theorem znil {ρ h} : Ss.run cl .nil ρ h = .nx ρ h := rfl
theorem zcons {s r ρ h} : Ss.run cl (.cons s r) ρ h = seqS (s.run cl ρ h) fun ρ' h' => r.run cl ρ' h' := rfl
end
end PI
set_option Elab.async false
set_option linter.all false
set_option maxRecDepth 100000
set_option maxHeartbeats 4000000
namespace PI
open PySem L2
section
variable {h l : Hh} {o u : O} {n k : Nat} {xs : List D}
theorem hx (h l : Hh) (k : Nat) : (h ++ l)[h.length + k]? = l[k]? := by
  rw [List.getElem?_append_right (by omega)]; congr 1; omega
theorem hx0 (h l : Hh) : (h ++ l)[h.length]? = l[0]? := hx h l 0
theorem hset (h l : Hh) (k : Nat) (o : O) : (h ++ l).set (h.length + k) o = h ++ l.set k o := by
  rw [List.set_append_right _ _ (by omega)]; congr 2; omega
theorem hset0 (h l : Hh) (o : O) : (h ++ l).set h.length o = h ++ l.set 0 o := hset h l 0 o
theorem rdx (h l : Hh) (k : Nat) : rd (h ++ l) (h.length + k) = rd l k := by unfold rd; rw [hx]
theorem rdx0 (h l : Hh) : rd (h ++ l) h.length = rd l 0 := rdx h l 0
theorem rd_of (e : h[n]? = some (.lst xs)) : rd h n = some xs := by unfold rd; rw [e]
theorem get_old (e : h[n]? = some o) : (h ++ l)[n]? = some o := by rw [List.getElem?_append_left (List.getElem?_eq_some_iff.mp e).1]; exact e
theorem stay_nil : stay [] h := by unfold stay; simp
theorem stay_one {n : Nat} {ds : List D} {h : Hh} : stay [(n, ds)] h ↔ rd h n = some ds := by unfold stay; simp
end
theorem compL_pure {c : Ck} {f : D -> Hh -> Res (Option D)} {h : Hh} (st : stay c h) (g : D -> Option D) : ∀ (xs acc : List D), (∀ x ∈ xs, f x h = .ok (g x) h) -> compL c f xs acc h = .ok (acc ++ xs.filterMap g) h
  | [], acc, _ => by simp [compL, st]
  | x :: r, acc, e => by
    have e1 := e x (List.mem_cons_self ..)
    have ih := compL_pure st g r (addO acc (g x)) fun y hy => e y (List.mem_cons_of_mem _ hy)
    unfold compL
    rw [if_pos st, e1, bind_ok, ih, List.filterMap_cons]
    cases g x <;> simp
theorem sIx_some (n d : Nat) (i : Int) (h : 0 <= i) : HT.sIx n d (some i) = min i.toNat n := by
  unfold HT.sIx
  exact if_neg (by omega)
theorem sIx_none (n d : Nat) : HT.sIx n d none = d := rfl
theorem atI_nat {α : Type} {xs : List α} {k : Nat} : atI xs (k : Int) = xs[k]? := by
  unfold atI ixN
  rw [if_pos (by omega)]
  by_cases h : k < xs.length
  · rw [if_pos (by omega)]; simp
  · rw [if_neg (by omega), List.getElem?_eq_none (by omega)]; rfl
theorem atI_pos {α : Type} {xs : List α} {i : Int} (h : 0 <= i) : atI xs i = xs[i.toNat]? := by
  have : i = (i.toNat : Int) := by omega
  rw [this, atI_nat]; rfl
theorem eqS {a b : Str} {h : Hh} (ha : PyData.strOk a = true) (hb : PyData.strOk b = true) : cmpD .Eq (.str a) (.str b) h = .ok (.bl (a == b)) h := if_pos ⟨ha, hb, Nat.zero_le _⟩
theorem neS {a b : Str} {h : Hh} (ha : PyData.strOk a = true) (hb : PyData.strOk b = true) : cmpD .NotEq (.str a) (.str b) h = .ok (.bl (!(a == b))) h := if_pos ⟨ha, hb, Nat.zero_le _⟩
theorem eqI {a b : Int} {h : Hh} : cmpD .Eq (.int a) (.int b) h = .ok (.bl (a == b)) h := rfl
theorem neI {a b : Int} {h : Hh} : cmpD .NotEq (.int a) (.int b) h = .ok (.bl (!(a == b))) h := rfl
noncomputable def takeS : Nat -> Ss -> Ss
  | 0, _ => .nil
  | _ + 1, .nil => .nil
  | n + 1, .cons s r => .cons s (takeS n r)
noncomputable def dropS : Nat -> Ss -> Ss
  | 0, b => b
  | _ + 1, .nil => .nil
  | n + 1, .cons _ r => dropS n r
theorem run_at (cl : Nat -> List D -> Hh -> Res D) : ∀ (n : Nat) (b : Ss) (ρ : En) (h : Hh), Ss.run cl b ρ h = seqS (Ss.run cl (takeS n b) ρ h) fun ρ' h' => Ss.run cl (dropS n b) ρ' h'
  | 0, b, ρ, h => by simp [takeS, dropS, znil, zcons]
  | n + 1, .nil, ρ, h => by simp [takeS, dropS, znil, zcons]
  | n + 1, .cons s r, ρ, h => by
    simp only [takeS, dropS, znil, zcons]
    cases S.run cl s ρ h with
    | nx ρ' h' => simp only [seqS_nx]; exact run_at cl n r ρ' h'
    | _ => rfl
noncomputable def cellv (ns : List Int) (i : Int) : Int := ns.getD i.toNat 0
theorem at_map (ns : List Int) (i : Int) (hi : 0 <= i) (h : i < (ns.length : Int)) : atI (ns.map D.int) i = some (.int (cellv ns i)) := by
  rw [atI_pos hi, cellv, List.getElem?_map, List.getD_eq_getElem?_getD, List.getElem?_eq_getElem (by omega)]
  rfl
theorem cell_fits {ns : List Int} (hb : ∀ n ∈ ns, fits n = true) (i : Int) : fits (cellv ns i) = true := by
  unfold cellv
  rw [List.getD_eq_getElem?_getD]
  cases e : ns[i.toNat]? with
  | none => decide
  | some v => exact hb v (List.mem_of_getElem? e)
end PI
set_option Elab.async false
set_option linter.all false
set_option maxRecDepth 100000
set_option maxHeartbeats 4000000
namespace PI
open PySem L2
noncomputable def cs (x : Str) : List Nat := x.cps.toList
noncomputable def mkS (l : List Nat) : Str := ⟨l.toArray⟩
theorem cs_mk (l : List Nat) : cs (mkS l) = l := by simp [cs, mkS]
theorem mk_cs (x : Str) : mkS (cs x) = x := by cases x; simp [cs, mkS]
theorem cs_inj {x y : Str} (h : cs x = cs y) : x = y := by rw [<- mk_cs x, <- mk_cs y, h]
theorem mk_inj {a b : List Nat} (h : mkS a = mkS b) : a = b := by rw [<- cs_mk a, <- cs_mk b, h]
theorem cs_append (x y : Str) : cs (x ++ y) = cs x ++ cs y := by
  show (x.cps ++ y.cps).toList = _
  simp [cs]
theorem mk_append (a b : List Nat) : mkS a ++ mkS b = mkS (a ++ b) := cs_inj (by rw [cs_append, cs_mk, cs_mk, cs_mk])
theorem cs_len (x : Str) : x.length = (cs x).length := by simp [cs, Str.length]
theorem mk_len (l : List Nat) : (mkS l).length = l.length := by rw [cs_len, cs_mk]
theorem ok_mk {l : List Nat} (h : ∀ c ∈ l, c < 1114112) : PyData.strOk (mkS l) = true := by
  unfold PyData.strOk mkS
  simpa using h
theorem ok_cs {x : Str} (h : ∀ c ∈ cs x, c < 1114112) : PyData.strOk x = true := by rw [<- mk_cs x]; exact ok_mk h
theorem fits_lt {i : Int} (h : i.natAbs < 18446744073709551616) : fits i = true := by
  unfold fits Builtin.Int.intBits
  refine decide_eq_true ?_
  split
  · decide
  · rename_i z
    have hz : i.natAbs ≠ 0 := by simpa using z
    have : i.natAbs.log2 < 64 := by
      rw [Nat.log2_lt hz]
      exact h
    omega
structure Wd (x : Str) : Prop where
  ne : cs x ≠ []
  len : (cs x).length <= 20
  ch : ∀ c ∈ cs x, c ≠ 40 /\ c ≠ 41 /\ c ≠ 10 /\ c < 1114112
theorem Wd.ok {x : Str} (h : Wd x) : PyData.strOk x = true := ok_cs fun c hc => (h.ch c hc).2.2.2
end PI
set_option Elab.async false
set_option linter.all false
set_option maxRecDepth 100000
namespace PI
open PySem L2
section
variable {cl : Nat -> List D -> Hh -> Res D} {ρ ρ' : En} {h h' h2 h3 : Hh} {c e : E} {a b r : Ss} {p p0 p1 p2 p3 : Pos} {d x : D} {i : Nat}
theorem iff_f {o : RS} (hc : c.evT cl ρ h = .ok false h') (k : Ss.run cl r ρ h' = o) : Ss.run cl (.cons (.iff c a .nil p) r) ρ h = o := by
  rw [<- k]
  show seqS (andS ρ (c.evT cl ρ h) fun t h1 => if t then a.run cl ρ h1 else Ss.nil.run cl ρ h1) (fun ρ' h' => r.run cl ρ' h') = _
  rw [hc]; rfl
theorem iff_t (hc : c.evT cl ρ h = .ok true h') : Ss.run cl (.cons (.iff c a b p) r) ρ h = seqS (a.run cl ρ h') fun ρ' h' => r.run cl ρ' h' := by
  show seqS (andS ρ (c.evT cl ρ h) fun t h1 => if t then a.run cl ρ h1 else b.run cl ρ h1) (fun ρ' h' => r.run cl ρ' h') = _
  rw [hc]; rfl
theorem iff_r (hc : c.evT cl ρ h = .ok true h') (ha : a.run cl ρ h' = .rt d h2) : Ss.run cl (.cons (.iff c a b p) r) ρ h = .rt d h2 := by rw [iff_t hc, ha]; rfl
theorem iff_n {o : RS} (hc : c.evT cl ρ h = .ok true h') (ha : a.run cl ρ h' = .nx ρ' h2) (k : Ss.run cl r ρ' h2 = o) : Ss.run cl (.cons (.iff c a b p) r) ρ h = o := by rw [<- k, iff_t hc, ha]; rfl
theorem ret_r (he : e.ev cl ρ h = .ok d h') : Ss.run cl (.cons (.ret e p) r) ρ h = .rt d h' := by
  show seqS (andS ρ (e.ev cl ρ h) fun d h1 => .rt d h1) (fun ρ' h' => r.run cl ρ' h') = _
  rw [he]; rfl
theorem set_s {o : RS} (he : e.ev cl ρ h = .ok d h') (k : Ss.run cl r (ρ.set i (some d)) h' = o) : Ss.run cl (.cons (.set i e p1 p) r) ρ h = o := by
  rw [<- k]
  show seqS (andS ρ (e.ev cl ρ h) fun d h1 => .nx (ρ.set i (some d)) h1) (fun ρ' h' => r.run cl ρ' h') = _
  rw [he]; rfl
theorem ex_s {o : RS} (he : e.ev cl ρ h = .ok d h') (k : Ss.run cl r ρ h' = o) : Ss.run cl (.cons (.ex e p) r) ρ h = o := by
  rw [<- k]
  show seqS (andS ρ (e.ev cl ρ h) fun d h1 => .nx ρ h1) (fun ρ' h' => r.run cl ρ' h') = _
  rw [he]; rfl
theorem setT_s {o : RS} {is : List (Nat × Pos)} (he : e.ev cl ρ h = .ok d h') (hb : bindT (.tup is p1) (unpD d h') ρ = some ρ') (k : Ss.run cl r ρ' h' = o) : Ss.run cl (.cons (.setT is e p1 p) r) ρ h = o := by
  rw [<- k]
  show seqS (andS ρ (e.ev cl ρ h) fun d h1 => match bindT (.tup is p1) (unpD d h1) ρ with | some ρ' => .nx ρ' h1 | none => .no) (fun ρ' h' => r.run cl ρ' h') = _
  rw [he, andS_ok, hb]; rfl
theorem out_rt {o : RS} (q : o = .rt d h) : outR o = .ok d h := by rw [q]; rfl
theorem out_nx {o : RS} (q : o = .nx ρ h) : outR o = .ok .non h := by rw [q]; rfl
theorem t_eqi {x k : Int} {b : Bool} (q : ρ[i]? = some (some (.int x))) (hb : (x == k) = b) : E.evT cl (.cmp .Eq (.var i p1) (.int k p2) p3) ρ h = .ok b h := by
  show ((match ρ[i]? with | some (some d) => Res.ok d h | _ => .no).bind fun x h1 => cmpD .Eq x (.int k) h1).bind _ = _
  rw [q, <- hb]
  show (cmpD .Eq (.int x) (.int k) h).bind _ = _
  rw [eqI]; rfl
theorem t_lti {x k : Int} {b : Bool} (q : ρ[i]? = some (some (.int x))) (hb : decide (x < k) = b) : E.evT cl (.cmp .Lt (.var i p1) (.int k p2) p3) ρ h = .ok b h := by
  show ((match ρ[i]? with | some (some d) => Res.ok d h | _ => .no).bind fun x h1 => cmpD .Lt x (.int k) h1).bind _ = _
  rw [q, <- hb]; rfl
theorem bnd {α β : Type} {m : Res α} {f : α -> Hh -> Res β} {x : α} {y : Res β} (q : m = .ok x h) (g : f x h = y) : m.bind f = y := by rw [q]; exact g
theorem evT_bl {b : Bool} (q : e.evT cl ρ h = .ok b h') : e.ev cl ρ h = .ok (.bl b) h' := by
  have q : ((e.ev cl ρ h).bind fun d h1 => match d with | .bl b => .ok b h1 | _ => .no) = Res.ok b h' := q
  cases m : e.ev cl ρ h with
  | ok d h1 =>
    rw [m] at q
    cases d with
    | bl b' => cases q; rfl
    | _ => cases q
  | exc c h1 => rw [m] at q; cases q
  | no => rw [m] at q; cases q
theorem t_andF {e' : E} {r : Es} (ha : e.evT cl ρ h = .ok false h') : (E.and e e' r p).evT cl ρ h = .ok false h' := bnd (bnd (evT_bl ha) rfl) rfl
theorem t_and {e' : E} {t : Bool} (ha : e.evT cl ρ h = .ok true h') (hb : e'.evT cl ρ h' = .ok t h2) : (E.and e e' .nil p).evT cl ρ h = .ok t h2 := bnd (bnd (evT_bl ha) (bnd (evT_bl hb) rfl)) rfl
theorem iffN_f {o : RS} (hc : c.evT cl ρ h = .ok false h') (k : Ss.run cl r ρ h' = o) : Ss.run cl (.cons (.iffN c i p0 p1 a .nil p) r) ρ h = o := by
  rw [<- k]
  show seqS (andS ρ (c.evT cl ρ h) _) (fun ρ' h' => r.run cl ρ' h') = _
  rw [hc]; rfl
theorem iffN_n {o : RS} (hc : c.evT cl ρ h = .ok true h') (hv : ρ[i]? = some (some .non) \/ ρ[i]? = some (some (.bl false))) (k : Ss.run cl r ρ h' = o) : Ss.run cl (.cons (.iffN c i p0 p1 a .nil p) r) ρ h = o := by
  rw [<- k]
  show seqS (andS ρ (c.evT cl ρ h) fun t h1 => if t then (match ρ[i]? with | some (some (.bl c')) => if c' then a.run cl ρ h1 else Ss.nil.run cl ρ h1 | some (some .non) => Ss.nil.run cl ρ h1 | _ => .no) else Ss.nil.run cl ρ h1) (fun ρ' h' => r.run cl ρ' h') = _
  rw [hc]
  rcases hv with hv | hv <;> rw [hv] <;> rfl
theorem iffN_r (hc : c.evT cl ρ h = .ok true h') (hv : ρ[i]? = some (some (.bl true))) (ha : a.run cl ρ h' = .rt d h2) : Ss.run cl (.cons (.iffN c i p0 p1 a b p) r) ρ h = .rt d h2 := by
  show seqS (andS ρ (c.evT cl ρ h) fun t h1 => if t then (match ρ[i]? with | some (some (.bl c')) => if c' then a.run cl ρ h1 else b.run cl ρ h1 | some (some .non) => b.run cl ρ h1 | _ => .no) else b.run cl ρ h1) (fun ρ' h' => r.run cl ρ' h') = _
  rw [hc, hv, andS_ok]
  show seqS (a.run cl ρ h') _ = _
  rw [ha]; rfl
theorem t_cmp {a' b' : E} {x y : D} {op : CmpOp} {t : Bool} (ha : a'.ev cl ρ h = .ok x h') (hb : b'.ev cl ρ h' = .ok y h2) (hc : cmpD op x y h2 = .ok (.bl t) h3) : E.evT cl (.cmp op a' b' p) ρ h = .ok t h3 := bnd (bnd ha (bnd hb hc)) rfl
theorem t_and2 {e' : E} {r : Es} (ha : e.evT cl ρ h = .ok true h') (hb : e'.evT cl ρ h' = .ok false h2) : (E.and e e' (.cons c r) p).evT cl ρ h = .ok false h2 := bnd (bnd (evT_bl ha) (bnd (evT_bl hb) rfl)) rfl
theorem t_and3 {e' : E} {t : Bool} (ha : e.evT cl ρ h = .ok true h') (hb : e'.evT cl ρ h' = .ok true h2) (hc : c.evT cl ρ h2 = .ok t h3) : (E.and e e' (.cons c .nil) p).evT cl ρ h = .ok t h3 := bnd (bnd (evT_bl ha) (bnd (evT_bl hb) (bnd (evT_bl hc) rfl))) rfl
theorem forr_s {o : RS} {tg : Tg} {it : I} {q : Ck × List D} (hi : it.ev cl ρ h = .ok q h') (hf : forL q.1 (stepF tg fun ρ' h' => a.run cl ρ' h') q.2 ρ h' = .nx ρ' h2) (k : Ss.run cl r ρ' h2 = o) : Ss.run cl (.cons (.forr tg it a p) r) ρ h = o := by
  rw [<- k]
  show seqS (andS ρ (it.ev cl ρ h) fun q h1 => forL q.1 (stepF tg fun ρ' h' => a.run cl ρ' h') q.2 ρ h1) (fun ρ' h' => r.run cl ρ' h') = _
  rw [hi, andS_ok, hf]; rfl
theorem put_s {o : RS} {oe ie ve : E} {x y z : D} {h4 : Hh} (hv : ve.ev cl ρ h = .ok z h') (ho : oe.ev cl ρ h' = .ok x h2) (hi : ie.ev cl ρ h2 = .ok y h3) (hp : putS x y z h3 = some h4) (k : Ss.run cl r ρ h4 = o) : Ss.run cl (.cons (.put oe ie ve p1 p) r) ρ h = o := by
  rw [<- k]
  show seqS (andS ρ (ve.ev cl ρ h) fun z h1 => andS ρ (oe.ev cl ρ h1) fun x h2 => andS ρ (ie.ev cl ρ h2) fun y h3 => match putS x y z h3 with | some h4 => .nx ρ h4 | none => .no) (fun ρ' h' => r.run cl ρ' h') = _
  rw [hv, andS_ok, ho, andS_ok, hi, andS_ok, hp]; rfl
theorem for_n {o : RS} {ck : Ck} {f : D -> En -> Hh -> RS} {l : List D} (hs : stay ck h) (hf : f x ρ h = .nx ρ' h') (k : forL ck f l ρ' h' = o) : forL ck f (x :: l) ρ h = o := by
  rw [forL, if_pos hs, hf]; exact k
theorem on_lst {n : Nat} {l : List D} (g : h[n]? = some (.lst l)) (m : Res D) : onL (.loc n) h m = m := by
  show (match h[n]? with | some (.lst _) => m | _ => .no) = m
  rw [g]
theorem fdk {i k : Int} (hk : 0 < k /\ k < 1073741824) : binD .FloorDiv (.int i) (.int k) h = .ok (.int (i / k)) h := if_pos hk
theorem mdk {i k : Int} (hk : 0 < k) : binD .Mod (.int i) (.int k) h = .ok (.int (i % k)) h := if_pos hk
theorem rng_s {j : Int} (ha : e.ev cl ρ h = .ok (.int j) h') (hj : -1000000 <= j /\ j <= 1000000) : I.ev cl (.rng e p1 p2) ρ h = .ok ([], (List.range j.toNat).map fun k => .int (k : Nat)) h' := bnd ha (if_pos hj)
theorem t_or {e' : E} {t : Bool} (ha : e.evT cl ρ h = .ok false h') (hb : e'.evT cl ρ h' = .ok t h2) : (E.or e e' .nil p).evT cl ρ h = .ok t h2 := bnd (bnd (evT_bl ha) (bnd (evT_bl hb) rfl)) rfl
theorem t_orT {e' : E} {r : Es} (ha : e.evT cl ρ h = .ok true h') : (E.or e e' r p).evT cl ρ h = .ok true h' := bnd (bnd (evT_bl ha) rfl) rfl
theorem t_or3 {e' : E} {t : Bool} (ha : e.evT cl ρ h = .ok false h') (hb : e'.evT cl ρ h' = .ok false h2) (hc : c.evT cl ρ h2 = .ok t h3) : (E.or e e' (.cons c .nil) p).evT cl ρ h = .ok t h3 := bnd (bnd (evT_bl ha) (bnd (evT_bl hb) (bnd (evT_bl hc) rfl))) rfl
theorem tupE_s {xs : List D} (he : e.ev cl ρ h = .ok x h') (hs : seqOf x h' = some xs) : E.ev cl (.tupE e p p1) ρ h = .ok (.tup xs) h' := bnd he (by
  show (match seqOf x h' with | some xs => Res.ok (D.tup xs) h' | none => .no) = _
  rw [hs])
theorem compF_t {tg : Tg} {ct : En -> Hh -> Res Bool} {ce : En -> Hh -> Res D} (hb : bindT tg x ρ = some ρ') (hc : ct ρ' h = .ok true h') (he : ce ρ' h' = .ok d h2) : compF tg ρ ct ce x h = .ok (some d) h2 := by
  show (match bindT tg x ρ with | some ρ' => (ct ρ' h).bind fun b h1 => if b then (ce ρ' h1).bind fun d h2 => .ok (some d) h2 else .ok none h1 | none => .no) = _
  rw [hb]; exact bnd hc (bnd he rfl)
theorem seq_loc {n : Nat} {xs : List D} (he : e.ev cl ρ h = .ok (.loc n) h') (hr : rd h' n = some xs) : I.ev cl (.seq e) ρ h = .ok ([(n, xs)], xs) h' := bnd he (by
  show (match rd h' n with | some xs => Res.ok (([(n, xs)], xs) : Ck × List D) h' | none => .no) = _
  rw [hr])
theorem ofL_comp {elt : E} {tg : Tg} {it : I} {ct : Es} {ns : List Str} {cap : List (Option Nat)} {sc : Scope} {q : Ck × List D} {xs : List D} (hi : it.ev cl ρ h = .ok q h') (hl : q.2.length <= 1000000) (hc : compL q.1 (compF tg (capE cap ρ) (fun ρ' h2 => ct.evC cl ρ' h2) (fun ρ' h2 => elt.ev cl ρ' h2)) q.2 [] h' = .ok xs h2) : E.ev cl (.ofL (.comp elt tg it ct ns cap sc p)) ρ h = .ok (.loc h2.length) (h2 ++ [.lst xs]) := bnd (bnd hi ((if_pos hl).trans hc)) rfl
theorem some_s {i : Int} (he : e.ev cl ρ h = .ok (.int i) h') : Eo.ev cl (.some e) ρ h = .ok (some i) h' := bnd he rfl
theorem at_nx (n : Nat) {s : Ss} {o : RS} (q : Ss.run cl (takeS n s) ρ h = .nx ρ' h') (k : Ss.run cl (dropS n s) ρ' h' = o) : Ss.run cl s ρ h = o := by rw [run_at cl n, q]; exact k
theorem t_or2 {e' : E} {r : Es} (ha : e.evT cl ρ h = .ok false h') (hb : e'.evT cl ρ h' = .ok true h2) : (E.or e e' (.cons c r) p).evT cl ρ h = .ok true h2 := bnd (bnd (evT_bl ha) (bnd (evT_bl hb) rfl)) rfl
theorem mlk {i j : Int} (hi : fits i = true) (hj : fits j = true) : binD .Mult (.int i) (.int j) h = .ok (.int (i * j)) h := if_pos ⟨hi, hj⟩
theorem iff_e {o : RS} (hc : c.evT cl ρ h = .ok false h') (hb : b.run cl ρ h' = .nx ρ' h2) (k : Ss.run cl r ρ' h2 = o) : Ss.run cl (.cons (.iff c a b p) r) ρ h = o := by
  rw [<- k]
  show seqS (andS ρ (c.evT cl ρ h) fun t h1 => if t then a.run cl ρ h1 else b.run cl ρ h1) (fun ρ' h' => r.run cl ρ' h') = _
  rw [hc]
  show seqS (b.run cl ρ h') _ = _
  rw [hb]; rfl
end
end PI
set_option Elab.async false
set_option linter.all false
set_option maxRecDepth 100000
set_option maxHeartbeats 4000000
namespace K17
open PySem L2 PI
noncomputable abbrev qQ (l a b : Nat) : PySem.Pos := ⟨l, a, l, b⟩
noncomputable def g_FIRST_PART : List (Str × Cv) := [("num", .int 2), ("var", .int 2), ("op", .int 2), ("let", .int 2), ("if", .int 1), ("do", .int 2), ("handle", .int 2), ("go", .int 1), ("guard", .int 1)]
noncomputable def consts : List (Str × Cn) := [("FIRST_PART", (.dic g_FIRST_PART)), ("CLAUSE", (.str "clause")), ("END", (.str "end")), ("FREE", (.str "free"))]
noncomputable def d_parts_of : Df := ⟨"parts_of", ["tree"], ["tree"], (.cons (.iff (.cmp .Eq (.sub (.var 0 (qQ 13 7 11)) (.int 0 (qQ 13 12 13)) (qQ 13 7 14)) (.str "call" (qQ 13 18 24)) (qQ 13 7 24)) (.cons (.ret (.sub (.var 0 (qQ 14 15 19)) (.int 3 (qQ 14 20 21)) (qQ 14 15 22)) (qQ 14 8 22)) .nil) .nil ⟨13, 4, 14, 22⟩) (.cons (.ret (.cut (.var 0 (qQ 15 11 15)) (.some (.gsub "FIRST_PART" g_FIRST_PART (.sub (.var 0 (qQ 15 27 31)) (.int 0 (qQ 15 32 33)) (qQ 15 27 34)) (qQ 15 16 26) (qQ 15 16 35))) .none (qQ 15 16 36) (qQ 15 11 37)) (qQ 15 4 37)) .nil))⟩
noncomputable def e_items_by_name_1 : E := (.tup (.cons (.sub (.var 0 (qQ 17 18 22)) (.int 1 (qQ 17 23 24)) (qQ 17 18 25)) (.cons (.var 0 (qQ 17 27 31)) .nil)) (qQ 17 17 32))
noncomputable def c_items_by_name_1 : Es := .nil
noncomputable def t_items_by_name_1 : Tg := (.one 0 (qQ 17 37 41))
noncomputable def s_items_by_name_1 : Scope := { kind := PySem.ScopeKind.function, names := [(PySem.Str.ofString ".0", PySem.NameKind.local), (PySem.Str.ofString "item", PySem.NameKind.local)], isGenerator := false, isCoroutine := false, more := [] : PySem.Scope }
noncomputable def d_items_by_name : Df := ⟨"items_by_name", ["program"], ["program"], (.cons (.ret (.dicP (.ofL (.comp e_items_by_name_1 t_items_by_name_1 (.seq (.var 0 (qQ 17 45 52))) c_items_by_name_1 ["item"] [none] s_items_by_name_1 (qQ 17 16 53))) (qQ 17 11 15) (qQ 17 11 54)) (qQ 17 4 54)) .nil)⟩
noncomputable def t_check_1 : Tg := (.one 2 (qQ 25 8 12))
noncomputable def b_check_1 : Ss := (.cons (.iff (.cmp .Eq (.sub (.var 2 (qQ 26 11 15)) (.int 0 (qQ 26 16 17)) (qQ 26 11 18)) (.str "def" (qQ 26 22 27)) (qQ 26 11 27)) (.cons (.ex (.call 4 (.var 2 (qQ 27 27 31)) (.cons (.var 1 (qQ 27 33 38)) .nil) (qQ 27 12 26) (qQ 27 12 39)) (qQ 27 12 39)) .nil) (.cons (.ex (.call 5 (.var 2 (qQ 29 26 30)) (.cons (.var 1 (qQ 29 32 37)) .nil) (qQ 29 12 25) (qQ 29 12 38)) (qQ 29 12 38)) .nil) ⟨26, 8, 29, 38⟩) .nil)
noncomputable def e_check_2 : E := (.sub (.var 0 (qQ 23 18 22)) (.int 1 (qQ 23 23 24)) (qQ 23 18 25))
noncomputable def c_check_2 : Es := .nil
noncomputable def t_check_2 : Tg := (.one 0 (qQ 23 30 34))
noncomputable def s_check_2 : Scope := { kind := PySem.ScopeKind.function, names := [(PySem.Str.ofString ".0", PySem.NameKind.local), (PySem.Str.ofString "item", PySem.NameKind.local)], isGenerator := false, isCoroutine := false, more := [] : PySem.Scope }
noncomputable def d_check : Df := ⟨"check", ["program"], ["program", "items", "item"], (.cons (.ex (.call 3 (.ofL (.comp e_check_2 t_check_2 (.seq (.var 0 (qQ 23 38 45))) c_check_2 ["item"] [none] s_check_2 (qQ 23 17 46))) .nil (qQ 23 4 16) (qQ 23 4 47)) (qQ 23 4 47)) (.cons (.set 1 (.call 1 (.var 0 (qQ 24 26 33)) .nil (qQ 24 12 25) (qQ 24 12 34)) (qQ 24 4 9) (qQ 24 4 34)) (.cons (.forr t_check_1 (.seq (.var 0 (qQ 25 16 23))) b_check_1 ⟨25, 4, 29, 38⟩) .nil)))⟩
noncomputable def t_refuse_twice_1 : Tg := (.one 2 (qQ 32 8 12))
noncomputable def b_refuse_twice_1 : Ss := (.cons (.iff (.cmp .In (.var 2 (qQ 33 11 15)) (.var 1 (qQ 33 19 23)) (qQ 33 11 23)) (.cons (.raw (.Raise (some (.Call (.Name "NoName" (qQ 34 18 24)) [(.JoinedStr [(.FormattedValue (.Name "name" (qQ 34 28 32)) (-1) none (qQ 34 27 33)), (.Constant (.str " is told twice") 0 (qQ 34 33 47))] (qQ 34 25 48))] [] (qQ 34 18 49))) none (qQ 34 12 49))) .nil) .nil ⟨33, 8, 34, 49⟩) (.cons (.put (.var 1 (qQ 35 8 12)) (.var 2 (qQ 35 13 17)) (.bl true (qQ 35 21 25)) (qQ 35 8 18) (qQ 35 8 25)) .nil))
noncomputable def d_refuse_twice : Df := ⟨"refuse_twice", ["names"], ["names", "told", "name"], (.cons (.set 1 (.dic (qQ 31 11 13)) (qQ 31 4 8) (qQ 31 4 13)) (.cons (.forr t_refuse_twice_1 (.seq (.var 0 (qQ 32 16 21))) b_refuse_twice_1 ⟨32, 4, 35, 25⟩) .nil))⟩
noncomputable def d_check_function : Df := ⟨"check_function", ["item", "items"], ["item", "items", "params", "block"], (.cons (.set 2 (.sub (.var 0 (qQ 37 13 17)) (.int 2 (qQ 37 18 19)) (qQ 37 13 20)) (qQ 37 4 10) (qQ 37 4 20)) (.cons (.set 3 (.sub (.var 0 (qQ 38 12 16)) (.int 3 (qQ 38 17 18)) (qQ 38 12 19)) (qQ 38 4 9) (qQ 38 4 19)) (.cons (.iff (.cmp .Is (.var 3 (qQ 39 7 12)) (.non (qQ 39 16 20)) (qQ 39 7 20)) (.cons (.ex (.call 3 (.var 2 (qQ 40 21 27)) .nil (qQ 40 8 20) (qQ 40 8 28)) (qQ 40 8 28)) .nil) (.cons (.ex (.call 3 (.bin .Add (.var 2 (qQ 42 21 27)) (.tup (.cons (.var 3 (qQ 42 31 36)) .nil) (qQ 42 30 38)) (qQ 42 21 38)) .nil (qQ 42 8 20) (qQ 42 8 39)) (qQ 42 8 39)) (.cons (.iff (.cmp .In (.var 3 (qQ 43 11 16)) (.var 1 (qQ 43 20 25)) (qQ 43 11 25)) (.cons (.raw (.Raise (some (.Call (.Name "NoName" (qQ 44 18 24)) [(.JoinedStr [(.Constant (.str "the block ") 0 (qQ 44 27 37)), (.FormattedValue (.Name "block" (qQ 44 38 43)) (-1) none (qQ 44 37 44)), (.Constant (.str " has the name of an item") 0 (qQ 44 44 68))] (qQ 44 25 69))] [] (qQ 44 18 70))) none (qQ 44 12 70))) .nil) .nil ⟨43, 8, 44, 70⟩) .nil)) ⟨39, 4, 44, 70⟩) (.cons (.ex (.call 7 (.sub (.var 0 (qQ 45 15 19)) (.int 4 (qQ 45 20 21)) (qQ 45 15 22)) (.cons (.var 2 (qQ 45 24 30)) (.cons (.gcon "FREE" (.str "free") (qQ 45 32 36)) (.cons (.var 3 (qQ 45 38 43)) (.cons (.var 1 (qQ 45 45 50)) .nil)))) (qQ 45 4 14) (qQ 45 4 51)) (qQ 45 4 51)) .nil))))⟩
noncomputable def t_check_handler_1 : Tg := (.one 2 (qQ 48 8 14))
noncomputable def b_check_handler_1 : Ss := (.cons (.ex (.call 6 (.cut (.var 2 (qQ 49 21 27)) (.some (.int 1 (qQ 49 28 29))) .none (qQ 49 28 30) (qQ 49 21 31)) (.cons (.gcon "CLAUSE" (.str "clause") (qQ 49 33 39)) (.cons (.var 1 (qQ 49 41 46)) .nil)) (qQ 49 8 20) (qQ 49 8 47)) (qQ 49 8 47)) .nil)
noncomputable def e_check_handler_2 : E := (.sub (.var 0 (qQ 47 18 24)) (.int 0 (qQ 47 25 26)) (qQ 47 18 27))
noncomputable def c_check_handler_2 : Es := .nil
noncomputable def t_check_handler_2 : Tg := (.one 0 (qQ 47 32 38))
noncomputable def s_check_handler_2 : Scope := { kind := PySem.ScopeKind.function, names := [(PySem.Str.ofString ".0", PySem.NameKind.local), (PySem.Str.ofString "clause", PySem.NameKind.local)], isGenerator := false, isCoroutine := false, more := [] : PySem.Scope }
noncomputable def d_check_handler : Df := ⟨"check_handler", ["item", "items"], ["item", "items", "clause"], (.cons (.ex (.call 3 (.ofL (.comp e_check_handler_2 t_check_handler_2 (.seq (.sub (.var 0 (qQ 47 42 46)) (.int 2 (qQ 47 47 48)) (qQ 47 42 49))) c_check_handler_2 ["clause"] [none] s_check_handler_2 (qQ 47 17 50))) .nil (qQ 47 4 16) (qQ 47 4 51)) (qQ 47 4 51)) (.cons (.forr t_check_handler_1 (.seq (.sub (.var 0 (qQ 48 18 22)) (.int 2 (qQ 48 23 24)) (qQ 48 18 25))) b_check_handler_1 ⟨48, 4, 49, 47⟩) (.cons (.ex (.call 6 (.sub (.var 0 (qQ 50 17 21)) (.int 3 (qQ 50 22 23)) (qQ 50 17 24)) (.cons (.gcon "END" (.str "end") (qQ 50 26 29)) (.cons (.var 1 (qQ 50 31 36)) .nil)) (qQ 50 4 16) (qQ 50 4 37)) (qQ 50 4 37)) .nil)))⟩
noncomputable def d_check_answer : Df := ⟨"check_answer", ["answer", "place", "items"], ["answer", "place", "items", "known"], (.cons (.set 3 (.cut (.var 0 (qQ 52 12 18)) .none (.some (.int 2 (qQ 52 20 21))) (qQ 52 19 21) (qQ 52 12 22)) (qQ 52 4 9) (qQ 52 4 22)) (.cons (.ex (.call 3 (.var 3 (qQ 53 17 22)) .nil (qQ 53 4 16) (qQ 53 4 23)) (qQ 53 4 23)) (.cons (.ex (.call 7 (.sub (.var 0 (qQ 54 15 21)) (.int 2 (qQ 54 22 23)) (qQ 54 15 24)) (.cons (.var 3 (qQ 54 26 31)) (.cons (.var 1 (qQ 54 33 38)) (.cons (.non (qQ 54 40 44)) (.cons (.var 2 (qQ 54 46 51)) .nil)))) (qQ 54 4 14) (qQ 54 4 52)) (qQ 54 4 52)) .nil)))⟩
noncomputable def w_check_body_1 : E := (.cmpN true (.var 5 (qQ 57 10 17)) (qQ 57 21 23) (qQ 57 10 23))
noncomputable def b_check_body_1 : Ss := (.cons (.set 6 (.m0 .pop (.var 5 (qQ 58 17 24)) (qQ 58 17 28) (qQ 58 17 30)) (qQ 58 8 14) (qQ 58 8 30)) (.cons (.ex (.call 9 (.sub (.var 6 (qQ 59 25 31)) (.int 0 (qQ 59 32 33)) (qQ 59 25 34)) (.cons (.sub (.var 6 (qQ 59 36 42)) (.int 1 (qQ 59 43 44)) (qQ 59 36 45)) (.cons (.sub (.var 6 (qQ 59 47 53)) (.int 2 (qQ 59 54 55)) (qQ 59 47 56)) (.cons (.var 3 (qQ 59 58 63)) (.cons (.var 4 (qQ 59 65 70)) .nil)))) (qQ 59 8 24) (qQ 59 8 71)) (qQ 59 8 71)) (.cons (.ex (.m1 .extend (.var 5 (qQ 60 8 15)) (.listR (.call 8 (.sub (.var 6 (qQ 60 43 49)) (.int 0 (qQ 60 50 51)) (qQ 60 43 52)) (.cons (.sub (.var 6 (qQ 60 54 60)) (.int 1 (qQ 60 61 62)) (qQ 60 54 63)) (.cons (.sub (.var 6 (qQ 60 65 71)) (.int 2 (qQ 60 72 73)) (qQ 60 65 74)) .nil)) (qQ 60 37 42) (qQ 60 37 75)) (qQ 60 23 27) (qQ 60 28 36) (qQ 60 28 76) (qQ 60 23 77)) (qQ 60 8 22) (qQ 60 8 78)) (qQ 60 8 78)) .nil)))
noncomputable def d_check_body : Df := ⟨"check_body", ["body", "known", "place", "block", "items"], ["body", "known", "place", "block", "items", "waiting", "looked"], (.cons (.set 5 (.ofL (.disp (.cons (.tup (.cons (.var 0 (qQ 56 16 20)) (.cons (.var 1 (qQ 56 22 27)) (.cons (.var 2 (qQ 56 29 34)) .nil))) (qQ 56 15 35)) .nil) (qQ 56 14 36))) (qQ 56 4 11) (qQ 56 4 36)) (.cons (.whil w_check_body_1 b_check_body_1 ⟨57, 4, 60, 78⟩) .nil))⟩
noncomputable def e_inner_1 : E := (.tup (.cons (.var 0 (qQ 66 13 17)) (.cons (.var 1 (qQ 66 19 24)) (.cons (.var 2 (qQ 66 26 31)) .nil))) (qQ 66 12 32))
noncomputable def c_inner_1 : Es := .nil
noncomputable def t_inner_1 : Tg := (.one 0 (qQ 66 37 41))
noncomputable def s_inner_1 : Scope := { kind := PySem.ScopeKind.function, names := [ (PySem.Str.ofString ".0", PySem.NameKind.local), (PySem.Str.ofString "part", PySem.NameKind.local), (PySem.Str.ofString "known", PySem.NameKind.free), (PySem.Str.ofString "place", PySem.NameKind.free)], isGenerator := false, isCoroutine := false, more := [] : PySem.Scope }
noncomputable def d_inner : Df := ⟨"inner", ["tree", "known", "place"], ["tree", "known", "place"], (.cons (.iff (.cmp .Eq (.sub (.var 0 (qQ 62 7 11)) (.int 0 (qQ 62 12 13)) (qQ 62 7 14)) (.str "let" (qQ 62 18 23)) (qQ 62 7 23)) (.cons (.ret (.ofL (.disp (.cons (.tup (.cons (.sub (.var 0 (qQ 63 17 21)) (.int 2 (qQ 63 22 23)) (qQ 63 17 24)) (.cons (.var 1 (qQ 63 26 31)) (.cons (.var 2 (qQ 63 33 38)) .nil))) (qQ 63 16 39)) (.cons (.tup (.cons (.sub (.var 0 (qQ 63 42 46)) (.int 3 (qQ 63 47 48)) (qQ 63 42 49)) (.cons (.bin .Add (.var 1 (qQ 63 51 56)) (.tup (.cons (.sub (.var 0 (qQ 63 60 64)) (.int 1 (qQ 63 65 66)) (qQ 63 60 67)) .nil) (qQ 63 59 69)) (qQ 63 51 69)) (.cons (.var 2 (qQ 63 71 76)) .nil))) (qQ 63 41 77)) .nil)) (qQ 63 15 78))) (qQ 63 8 78)) .nil) .nil ⟨62, 4, 63, 78⟩) (.cons (.iff (.cmp .Eq (.sub (.var 0 (qQ 64 7 11)) (.int 0 (qQ 64 12 13)) (qQ 64 7 14)) (.str "handle" (qQ 64 18 26)) (qQ 64 7 26)) (.cons (.ret (.ofL (.disp (.cons (.tup (.cons (.sub (.var 0 (qQ 65 17 21)) (.int 2 (qQ 65 22 23)) (qQ 65 17 24)) (.cons (.var 1 (qQ 65 26 31)) (.cons (.var 2 (qQ 65 33 38)) .nil))) (qQ 65 16 39)) (.cons (.tup (.cons (.sub (.var 0 (qQ 65 42 46)) (.int 3 (qQ 65 47 48)) (qQ 65 42 49)) (.cons (.var 1 (qQ 65 51 56)) (.cons (.gcon "FREE" (.str "free") (qQ 65 58 62)) .nil))) (qQ 65 41 63)) .nil)) (qQ 65 15 64))) (qQ 65 8 64)) .nil) .nil ⟨64, 4, 65, 64⟩) (.cons (.ret (.ofL (.comp e_inner_1 t_inner_1 (.seq (.call 0 (.var 0 (qQ 66 54 58)) .nil (qQ 66 45 53) (qQ 66 45 59))) c_inner_1 ["part", "known", "place"] [none, some 1, some 2] s_inner_1 (qQ 66 11 60))) (qQ 66 4 60)) .nil)))⟩
noncomputable def d_check_expression : Df := ⟨"check_expression", ["tree", "known", "place", "block", "items"], ["tree", "known", "place", "block", "items"], (.cons (.iff (.cmp .Eq (.sub (.var 0 (qQ 68 7 11)) (.int 0 (qQ 68 12 13)) (qQ 68 7 14)) (.str "var" (qQ 68 18 23)) (qQ 68 7 23)) (.cons (.ex (.call 10 (.sub (.var 0 (qQ 69 23 27)) (.int 1 (qQ 69 28 29)) (qQ 69 23 30)) (.cons (.var 1 (qQ 69 32 37)) .nil) (qQ 69 8 22) (qQ 69 8 38)) (qQ 69 8 38)) .nil) .nil ⟨68, 4, 69, 38⟩) (.cons (.iff (.cmp .Eq (.sub (.var 0 (qQ 70 7 11)) (.int 0 (qQ 70 12 13)) (qQ 70 7 14)) (.str "call" (qQ 70 18 24)) (qQ 70 7 24)) (.cons (.ex (.call 12 (.var 0 (qQ 71 19 23)) (.cons (.var 3 (qQ 71 25 30)) (.cons (.var 4 (qQ 71 32 37)) .nil)) (qQ 71 8 18) (qQ 71 8 38)) (qQ 71 8 38)) .nil) .nil ⟨70, 4, 71, 38⟩) (.cons (.iff (.cmp .Eq (.sub (.var 0 (qQ 72 7 11)) (.int 0 (qQ 72 12 13)) (qQ 72 7 14)) (.str "handle" (qQ 72 18 26)) (qQ 72 7 26)) (.cons (.ex (.call 11 (.var 0 (qQ 73 21 25)) (.cons (.var 2 (qQ 73 27 32)) (.cons (.var 4 (qQ 73 34 39)) .nil)) (qQ 73 8 20) (qQ 73 8 40)) (qQ 73 8 40)) .nil) .nil ⟨72, 4, 73, 40⟩) (.cons (.iff (.and (.cmp .Eq (.sub (.var 0 (qQ 74 7 11)) (.int 0 (qQ 74 12 13)) (qQ 74 7 14)) (.str "go" (qQ 74 18 22)) (qQ 74 7 22)) (.cmp .NotEq (.var 2 (qQ 74 27 32)) (.gcon "CLAUSE" (.str "clause") (qQ 74 36 42)) (qQ 74 27 42)) .nil (qQ 74 7 42)) (.cons (.raw (.Raise (some (.Call (.Name "NoGo" (qQ 75 14 18)) [(.Constant (.str "a go stands where none may") 0 (qQ 75 19 47))] [] (qQ 75 14 48))) none (qQ 75 8 48))) .nil) .nil ⟨74, 4, 75, 48⟩) .nil))))⟩
noncomputable def d_check_variable : Df := ⟨"check_variable", ["name", "known"], ["name", "known"], (.cons (.iff (.cmp .NotIn (.var 0 (qQ 77 7 11)) (.var 1 (qQ 77 19 24)) (qQ 77 7 24)) (.cons (.raw (.Raise (some (.Call (.Name "NoName" (qQ 78 14 20)) [(.JoinedStr [(.FormattedValue (.Name "name" (qQ 78 24 28)) (-1) none (qQ 78 23 29)), (.Constant (.str " is no variable here") 0 (qQ 78 29 49))] (qQ 78 21 50))] [] (qQ 78 14 51))) none (qQ 78 8 51))) .nil) .nil ⟨77, 4, 78, 51⟩) .nil)⟩
noncomputable def d_check_handle : Df := ⟨"check_handle", ["tree", "place", "items"], ["tree", "place", "items", "name"], (.cons (.set 3 (.sub (.var 0 (qQ 80 11 15)) (.int 1 (qQ 80 16 17)) (qQ 80 11 18)) (qQ 80 4 8) (qQ 80 4 18)) (.cons (.iff (.or (.cmp .NotIn (.var 3 (qQ 81 7 11)) (.var 2 (qQ 81 19 24)) (qQ 81 7 24)) (.cmp .NotEq (.sub (.sub (.var 2 (qQ 81 28 33)) (.var 3 (qQ 81 34 38)) (qQ 81 28 39)) (.int 0 (qQ 81 40 41)) (qQ 81 28 42)) (.str "handler" (qQ 81 46 55)) (qQ 81 28 55)) .nil (qQ 81 7 55)) (.cons (.raw (.Raise (some (.Call (.Name "NoName" (qQ 82 14 20)) [(.JoinedStr [(.FormattedValue (.Name "name" (qQ 82 24 28)) (-1) none (qQ 82 23 29)), (.Constant (.str " is no handler") 0 (qQ 82 29 43))] (qQ 82 21 44))] [] (qQ 82 14 45))) none (qQ 82 8 45))) .nil) .nil ⟨81, 4, 82, 45⟩) (.cons (.iff (.cmp .Eq (.var 1 (qQ 83 7 12)) (.gcon "END" (.str "end") (qQ 83 16 19)) (qQ 83 7 19)) (.cons (.raw (.Raise (some (.Call (.Name "NoGo" (qQ 84 14 18)) [(.Constant (.str "a handle stands in an end") 0 (qQ 84 19 46))] [] (qQ 84 14 47))) none (qQ 84 8 47))) .nil) .nil ⟨83, 4, 84, 47⟩) .nil)))⟩
noncomputable def d_check_call : Df := ⟨"check_call", ["tree", "block", "items"], ["tree", "block", "items", "called", "handed", "count", "takes_block"], (.cons (.set 3 (.sub (.var 0 (qQ 86 13 17)) (.int 1 (qQ 86 18 19)) (qQ 86 13 20)) (qQ 86 4 10) (qQ 86 4 20)) (.cons (.set 4 (.sub (.var 0 (qQ 87 13 17)) (.int 2 (qQ 87 18 19)) (qQ 87 13 20)) (qQ 87 4 10) (qQ 87 4 20)) (.cons (.iff (.and (.cmp .NotEq (.var 3 (qQ 88 7 13)) (.var 1 (qQ 88 17 22)) (qQ 88 7 22)) (.un .Not (.call 13 (.var 3 (qQ 88 44 50)) (.cons (.var 2 (qQ 88 52 57)) .nil) (qQ 88 32 43) (qQ 88 32 58)) (qQ 88 28 58)) .nil (qQ 88 7 59)) (.cons (.raw (.Raise (some (.Call (.Name "NoName" (qQ 89 14 20)) [(.JoinedStr [(.FormattedValue (.Name "called" (qQ 89 24 30)) (-1) none (qQ 89 23 31)), (.Constant (.str " can't be called") 0 (qQ 89 31 47))] (qQ 89 21 48))] [] (qQ 89 14 49))) none (qQ 89 8 49))) .nil) .nil ⟨88, 4, 89, 49⟩) (.cons (.iff (.and (.cmp .IsNot (.var 4 (qQ 90 7 13)) (.non (qQ 90 21 25)) (qQ 90 7 25)) (.cmp .NotEq (.var 4 (qQ 90 30 36)) (.var 1 (qQ 90 40 45)) (qQ 90 30 45)) (.cons (.un .Not (.call 14 (.var 4 (qQ 90 69 75)) (.cons (.var 2 (qQ 90 77 82)) .nil) (qQ 90 55 68) (qQ 90 55 83)) (qQ 90 51 83)) .nil) (qQ 90 7 84)) (.cons (.raw (.Raise (some (.Call (.Name "NoName" (qQ 91 14 20)) [(.JoinedStr [(.FormattedValue (.Name "handed" (qQ 91 24 30)) (-1) none (qQ 91 23 31)), (.Constant (.str " can't be handed on") 0 (qQ 91 31 50))] (qQ 91 21 51))] [] (qQ 91 14 52))) none (qQ 91 8 52))) .nil) .nil ⟨90, 4, 91, 52⟩) (.cons (.set 5 (.ite (.cmp .Eq (.var 3 (qQ 92 17 23)) (.var 1 (qQ 92 27 32)) (qQ 92 17 32)) (.int 1 (qQ 92 12 13)) (.len (.sub (.sub (.var 2 (qQ 92 42 47)) (.var 3 (qQ 92 48 54)) (qQ 92 42 55)) (.int 2 (qQ 92 56 57)) (qQ 92 42 58)) (qQ 92 38 41) (qQ 92 38 59)) (qQ 92 12 59)) (qQ 92 4 9) (qQ 92 4 59)) (.cons (.set 6 (.and (.cmp .NotEq (.var 3 (qQ 93 18 24)) (.var 1 (qQ 93 28 33)) (qQ 93 18 33)) (.cmp .IsNot (.sub (.sub (.var 2 (qQ 93 38 43)) (.var 3 (qQ 93 44 50)) (qQ 93 38 51)) (.int 3 (qQ 93 52 53)) (qQ 93 38 54)) (.non (qQ 93 62 66)) (qQ 93 38 66)) .nil (qQ 93 18 66)) (qQ 93 4 15) (qQ 93 4 66)) (.cons (.iff (.cmp .NotEq (.cmp .IsNot (.var 4 (qQ 94 8 14)) (.non (qQ 94 22 26)) (qQ 94 8 26)) (.var 6 (qQ 94 31 42)) (qQ 94 7 42)) (.cons (.raw (.Raise (some (.Call (.Name "NoCount" (qQ 95 14 21)) [(.JoinedStr [(.Constant (.str "a block is handed to ") 0 (qQ 95 24 45)), (.FormattedValue (.Name "called" (qQ 95 46 52)) (-1) none (qQ 95 45 53)), (.Constant (.str ", which takes none, or lacks") 0 (qQ 95 53 81))] (qQ 95 22 82))] [] (qQ 95 14 83))) none (qQ 95 8 83))) .nil) .nil ⟨94, 4, 95, 83⟩) (.cons (.iff (.cmp .NotEq (.len (.sub (.var 0 (qQ 96 11 15)) (.int 3 (qQ 96 16 17)) (qQ 96 11 18)) (qQ 96 7 10) (qQ 96 7 19)) (.var 5 (qQ 96 23 28)) (qQ 96 7 28)) (.cons (.raw (.Raise (some (.Call (.Name "NoCount" (qQ 97 14 21)) [(.JoinedStr [(.FormattedValue (.Name "called" (qQ 97 25 31)) (-1) none (qQ 97 24 32)), (.Constant (.str " is called with too few or too many numbers") 0 (qQ 97 32 75))] (qQ 97 22 76))] [] (qQ 97 14 77))) none (qQ 97 8 77))) .nil) .nil ⟨96, 4, 97, 77⟩) .nil))))))))⟩
noncomputable def d_is_function : Df := ⟨"is_function", ["name", "items"], ["name", "items"], (.cons (.ret (.and (.cmp .In (.var 0 (qQ 99 11 15)) (.var 1 (qQ 99 19 24)) (qQ 99 11 24)) (.cmp .Eq (.sub (.sub (.var 1 (qQ 99 29 34)) (.var 0 (qQ 99 35 39)) (qQ 99 29 40)) (.int 0 (qQ 99 41 42)) (qQ 99 29 43)) (.str "def" (qQ 99 47 52)) (qQ 99 29 52)) .nil (qQ 99 11 52)) (qQ 99 4 52)) .nil)⟩
noncomputable def d_may_be_handed : Df := ⟨"may_be_handed", ["name", "items"], ["name", "items"], (.cons (.ret (.and (.call 13 (.var 0 (qQ 101 23 27)) (.cons (.var 1 (qQ 101 29 34)) .nil) (qQ 101 11 22) (qQ 101 11 35)) (.cmp .Eq (.len (.sub (.sub (.var 1 (qQ 101 44 49)) (.var 0 (qQ 101 50 54)) (qQ 101 44 55)) (.int 2 (qQ 101 56 57)) (qQ 101 44 58)) (qQ 101 40 43) (qQ 101 40 59)) (.int 1 (qQ 101 63 64)) (qQ 101 40 64)) (.cons (.cmp .Is (.sub (.sub (.var 1 (qQ 101 70 75)) (.var 0 (qQ 101 76 80)) (qQ 101 70 81)) (.int 3 (qQ 101 82 83)) (qQ 101 70 84)) (.non (qQ 101 88 92)) (qQ 101 70 92)) .nil) (qQ 101 11 93)) (qQ 101 4 93)) .nil)⟩
noncomputable def d_law_cell : Df := ⟨"_law_cell", ["_law_script", "_law_k"], ["_law_script", "_law_k", "_law_number"], (.cons (.set 2 (.bin .Add (.bin .Mult (.int 7919 (qQ 104 18 22)) (.var 1 (qQ 104 25 31)) (qQ 104 18 31)) (.int 5 (qQ 104 34 35)) (qQ 104 18 35)) (qQ 104 4 15) (qQ 104 4 35)) (.cons (.iff (.cmp .Gt (.len (.var 0 (qQ 105 11 22)) (qQ 105 7 10) (qQ 105 7 23)) (.int 0 (qQ 105 26 27)) (qQ 105 7 27)) (.cons (.set 2 (.bin .Add (.bin .Mult (.sub (.var 0 (qQ 106 22 33)) (.bin .Mod (.var 1 (qQ 106 34 40)) (.len (.var 0 (qQ 106 47 58)) (qQ 106 43 46) (qQ 106 43 59)) (qQ 106 34 59)) (qQ 106 22 60)) (.int 48271 (qQ 106 63 68)) (qQ 106 22 68)) (.bin .Mult (.int 7919 (qQ 106 71 75)) (.var 1 (qQ 106 78 84)) (qQ 106 71 84)) (qQ 106 22 84)) (qQ 106 8 19) (qQ 106 8 84)) .nil) .nil ⟨105, 4, 106, 84⟩) (.cons (.set 2 (.bin .Mod (.var 2 (qQ 107 18 29)) (.int 2147483647 (qQ 107 32 42)) (qQ 107 18 42)) (qQ 107 4 15) (qQ 107 4 42)) (.cons (.ret (.bin .Mod (.bin .Mult (.var 2 (qQ 108 11 22)) (.var 2 (qQ 108 25 36)) (qQ 108 11 36)) (.int 2147483629 (qQ 108 39 49)) (qQ 108 11 49)) (qQ 108 4 49)) .nil))))⟩
noncomputable def d_law_next : Df := ⟨"_law_next", ["_law_feed"], ["_law_feed"], (.cons (.iff (.cmp .Gt (.len (.var 0 (qQ 110 11 20)) (qQ 110 7 10) (qQ 110 7 21)) (.int 0 (qQ 110 24 25)) (qQ 110 7 25)) (.cons (.ret (.bin .Mod (.bin .Add (.bin .Mult (.m0 .pop (.var 0 (qQ 111 16 25)) (qQ 111 16 29) (qQ 111 16 31)) (.int 48271 (qQ 111 34 39)) (qQ 111 16 39)) (.bin .Mult (.int 7919 (qQ 111 42 46)) (.len (.var 0 (qQ 111 53 62)) (qQ 111 49 52) (qQ 111 49 63)) (qQ 111 42 63)) (qQ 111 16 63)) (.int 2147483647 (qQ 111 67 77)) (qQ 111 15 77)) (qQ 111 8 77)) .nil) .nil ⟨110, 4, 111, 77⟩) (.cons (.ret (.int 0 (qQ 112 11 12)) (qQ 112 4 12)) .nil))⟩
noncomputable def t_law_names_2 : Tg := (.one 9 (qQ 123 12 18))
noncomputable def b_law_names_2 : Ss := (.cons (.set 8 (.bin .Add (.var 8 (qQ 124 27 39)) (.sub (.var 3 (qQ 124 42 51)) (.bin .Mod (.var 7 (qQ 124 52 61)) (.len (.var 3 (qQ 124 68 77)) (qQ 124 64 67) (qQ 124 64 78)) (qQ 124 52 78)) (qQ 124 42 79)) (qQ 124 27 79)) (qQ 124 12 24) (qQ 124 12 79)) (.cons (.set 7 (.bin .FloorDiv (.var 7 (qQ 125 24 33)) (.len (.var 3 (qQ 125 41 50)) (qQ 125 37 40) (qQ 125 37 51)) (qQ 125 24 51)) (qQ 125 12 21) (qQ 125 12 51)) .nil))
noncomputable def t_law_names_1 : Tg := (.one 6 (qQ 120 8 14))
noncomputable def b_law_names_1 : Ss := (.cons (.set 7 (.bin .Add (.bin .Mod (.bin .FloorDiv (.var 0 (qQ 121 20 34)) (.int 32 (qQ 121 38 40)) (qQ 121 20 40)) (.int 1000003 (qQ 121 43 50)) (qQ 121 20 50)) (.var 6 (qQ 121 53 59)) (qQ 121 20 59)) (qQ 121 8 17) (qQ 121 8 59)) (.cons (.set 8 (.str "" (qQ 122 23 25)) (qQ 122 8 20) (qQ 122 8 25)) (.cons (.forr t_law_names_2 (.rng (.var 2 (qQ 123 28 37)) (qQ 123 22 27) (qQ 123 22 38)) b_law_names_2 ⟨123, 8, 125, 51⟩) (.cons (.ex (.m1 .append (.var 5 (qQ 126 8 23)) (.bin .Add (.cut (.var 8 (qQ 126 31 43)) (.some (.var 4 (qQ 126 44 54))) .none (qQ 126 44 55) (qQ 126 31 56)) (.cut (.var 8 (qQ 126 59 71)) .none (.some (.var 4 (qQ 126 73 83))) (qQ 126 72 83) (qQ 126 59 84)) (qQ 126 31 84)) (qQ 126 8 30) (qQ 126 8 85)) (qQ 126 8 85)) (.cons (.iff (.and (.cmp .Eq (.bin .Mod (.bin .FloorDiv (.var 0 (qQ 127 11 25)) (.int 64 (qQ 127 29 31)) (qQ 127 11 31)) (.int 3 (qQ 127 34 35)) (qQ 127 11 35)) (.int 1 (qQ 127 39 40)) (qQ 127 11 40)) (.cmp .Eq (.bin .Mod (.var 6 (qQ 127 45 51)) (.int 2 (qQ 127 54 55)) (qQ 127 45 55)) (.int 1 (qQ 127 59 60)) (qQ 127 45 60)) (.cons (.cmp .Lt (.var 2 (qQ 127 66 75)) (.int 8 (qQ 127 78 79)) (qQ 127 66 79)) .nil) (qQ 127 11 80)) (.cons (.put (.var 5 (qQ 128 12 27)) (.var 6 (qQ 128 28 34)) (.bin .Add (.sub (.var 5 (qQ 128 38 53)) (.var 6 (qQ 128 54 60)) (qQ 128 38 61)) (.str "q" (qQ 128 64 67)) (qQ 128 38 67)) (qQ 128 12 35) (qQ 128 12 67)) .nil) .nil ⟨127, 8, 128, 67⟩) .nil)))))
noncomputable def d_law_names : Df := ⟨"_law_names", ["_law_cell_here", "_law_count"], ["_law_cell_here", "_law_count", "_law_size", "_law_pool", "_law_place", "_law_names_here", "_law_k", "_law_rest", "_law_letters", "_law_j"], (.cons (.set 2 (.sub (.ofL (.disp (.cons (.int 1 (qQ 114 17 18)) (.cons (.int 8 (qQ 114 20 21)) (.cons (.int 2 (qQ 114 23 24)) (.cons (.int 5 (qQ 114 26 27)) .nil)))) (qQ 114 16 28))) (.bin .Mod (.var 0 (qQ 114 29 43)) (.int 4 (qQ 114 46 47)) (qQ 114 29 47)) (qQ 114 16 48)) (qQ 114 4 13) (qQ 114 4 48)) (.cons (.set 3 (.str "abcdefghijklmnopqrstuvwxyz" (qQ 115 16 44)) (qQ 115 4 13) (qQ 115 4 44)) (.cons (.iff (.cmp .In (.var 2 (qQ 116 7 16)) (.ofL (.disp (.cons (.int 2 (qQ 116 21 22)) (.cons (.int 5 (qQ 116 24 25)) .nil)) (qQ 116 20 26))) (qQ 116 7 26)) (.cons (.set 3 (.str "bcdfghjklmnpqrstuvwxyz" (qQ 117 20 44)) (qQ 117 8 17) (qQ 117 8 44)) .nil) .nil ⟨116, 4, 117, 44⟩) (.cons (.set 4 (.bin .Mod (.bin .FloorDiv (.var 0 (qQ 118 17 31)) (.int 4 (qQ 118 35 36)) (qQ 118 17 36)) (.var 2 (qQ 118 39 48)) (qQ 118 17 48)) (qQ 118 4 14) (qQ 118 4 48)) (.cons (.set 5 (.ofL (.disp .nil (qQ 119 22 24))) (qQ 119 4 19) (qQ 119 4 24)) (.cons (.forr t_law_names_1 (.rng (.var 1 (qQ 120 24 34)) (qQ 120 18 23) (qQ 120 18 35)) b_law_names_1 ⟨120, 4, 128, 67⟩) (.cons (.ret (.var 5 (qQ 129 11 26)) (qQ 129 4 26)) .nil)))))))⟩
noncomputable def e_law_some_1 : E := (.call 21 (.var 3 (qQ 131 22 31)) (.cons (.bin .Sub (.var 2 (qQ 131 33 42)) (.int 1 (qQ 131 45 46)) (qQ 131 33 46)) (.cons (.var 6 (qQ 131 48 57)) (.cons (.var 5 (qQ 131 59 69)) (.cons (.var 1 (qQ 131 71 81)) (.cons (.var 4 (qQ 131 83 92)) .nil))))) (qQ 131 12 21) (qQ 131 12 93))
noncomputable def c_law_some_1 : Es := .nil
noncomputable def t_law_some_1 : Tg := (.one 0 (qQ 131 98 104))
noncomputable def s_law_some_1 : Scope := { kind := PySem.ScopeKind.function, names := [ (PySem.Str.ofString ".0", PySem.NameKind.local), (PySem.Str.ofString "_law_k", PySem.NameKind.local), (PySem.Str.ofString "_law_good", PySem.NameKind.globalImplicit), (PySem.Str.ofString "_law_block", PySem.NameKind.free), (PySem.Str.ofString "_law_deep", PySem.NameKind.free), (PySem.Str.ofString "_law_feed", PySem.NameKind.free), (PySem.Str.ofString "_law_goes", PySem.NameKind.free), (PySem.Str.ofString "_law_known", PySem.NameKind.free), (PySem.Str.ofString "_law_plan", PySem.NameKind.free)], isGenerator := false, isCoroutine := false, more := [] : PySem.Scope }
noncomputable def d_law_some : Df := ⟨"_law_some", ["_law_feed", "_law_deep", "_law_plan", "_law_known", "_law_block", "_law_goes", "_law_many"], ["_law_feed", "_law_deep", "_law_plan", "_law_known", "_law_block", "_law_goes", "_law_many"], (.cons (.ret (.ofL (.comp e_law_some_1 t_law_some_1 (.rng (.var 6 (qQ 131 114 123)) (qQ 131 108 113) (qQ 131 108 124)) c_law_some_1 ["_law_k", "_law_block", "_law_deep", "_law_feed", "_law_goes", "_law_known", "_law_plan"] [none, some 4, some 1, some 0, some 5, some 3, some 2] s_law_some_1 (qQ 131 11 125))) (qQ 131 4 125)) .nil)⟩
noncomputable def d_law_leaf : Df := ⟨"_law_leaf", ["_law_cell_here", "_law_known"], ["_law_cell_here", "_law_known"], (.cons (.iff (.and (.cmp .Gt (.len (.var 1 (qQ 133 11 21)) (qQ 133 7 10) (qQ 133 7 22)) (.int 0 (qQ 133 25 26)) (qQ 133 7 26)) (.cmp .Eq (.bin .Mod (.var 0 (qQ 133 31 45)) (.int 2 (qQ 133 48 49)) (qQ 133 31 49)) (.int 1 (qQ 133 53 54)) (qQ 133 31 54)) .nil (qQ 133 7 54)) (.cons (.ret (.tup (.cons (.str "var" (qQ 134 16 21)) (.cons (.sub (.var 1 (qQ 134 23 33)) (.bin .Mod (.bin .FloorDiv (.var 0 (qQ 134 34 48)) (.int 2 (qQ 134 52 53)) (qQ 134 34 53)) (.len (.var 1 (qQ 134 60 70)) (qQ 134 56 59) (qQ 134 56 71)) (qQ 134 34 71)) (qQ 134 23 72)) .nil)) (qQ 134 15 73)) (qQ 134 8 73)) .nil) .nil ⟨133, 4, 134, 73⟩) (.cons (.iff (.cmp .Eq (.bin .Mod (.bin .FloorDiv (.var 0 (qQ 135 7 21)) (.int 2 (qQ 135 25 26)) (qQ 135 7 26)) (.int 4 (qQ 135 29 30)) (qQ 135 7 30)) (.int 1 (qQ 135 34 35)) (qQ 135 7 35)) (.cons (.ret (.tup (.cons (.str "num" (qQ 136 16 21)) (.cons (.bin .Mod (.bin .Mult (.bin .FloorDiv (.var 0 (qQ 136 23 37)) (.int 8 (qQ 136 41 42)) (qQ 136 23 42)) (.int 1000000007000003 (qQ 136 45 61)) (qQ 136 23 61)) (.bin .Pow (.int 10 (qQ 136 64 66)) (.int 18 (qQ 136 70 72)) (qQ 136 64 72)) (qQ 136 23 72)) .nil)) (qQ 136 15 73)) (qQ 136 8 73)) .nil) .nil ⟨135, 4, 136, 73⟩) (.cons (.ret (.tup (.cons (.str "num" (qQ 137 12 17)) (.cons (.bin .Mod (.bin .FloorDiv (.var 0 (qQ 137 19 33)) (.int 8 (qQ 137 37 38)) (qQ 137 19 38)) (.int 10 (qQ 137 41 43)) (qQ 137 19 43)) .nil)) (qQ 137 11 44)) (qQ 137 4 44)) .nil)))⟩
noncomputable def d_law_call : Df := ⟨"_law_call", ["_law_feed", "_law_deep", "_law_plan", "_law_known", "_law_block", "_law_goes", "_law_cell_here"], ["_law_feed", "_law_deep", "_law_plan", "_law_known", "_law_block", "_law_goes", "_law_cell_here", "_law_names_here", "_law_handed"], (.cons (.set 7 (.sub (.var 2 (qQ 139 22 31)) (.int 0 (qQ 139 32 33)) (qQ 139 22 34)) (qQ 139 4 19) (qQ 139 4 34)) (.cons (.iff (.cmp .Eq (.bin .Mod (.var 6 (qQ 140 7 21)) (.int 4 (qQ 140 24 25)) (qQ 140 7 25)) (.int 0 (qQ 140 29 30)) (qQ 140 7 30)) (.cons (.ret (.tup (.cons (.str "call" (qQ 141 16 22)) (.cons (.sub (.var 7 (qQ 141 24 39)) (.int 0 (qQ 141 40 41)) (qQ 141 24 42)) (.cons (.non (qQ 141 44 48)) (.cons (.tupE (.call 18 (.var 0 (qQ 141 66 75)) (.cons (.var 1 (qQ 141 77 86)) (.cons (.var 2 (qQ 141 88 97)) (.cons (.var 3 (qQ 141 99 109)) (.cons (.var 4 (qQ 141 111 121)) (.cons (.var 5 (qQ 141 123 132)) (.cons (.sub (.var 2 (qQ 141 134 143)) (.int 1 (qQ 141 144 145)) (qQ 141 134 146)) .nil)))))) (qQ 141 56 65) (qQ 141 56 147)) (qQ 141 50 55) (qQ 141 50 148)) .nil)))) (qQ 141 15 149)) (qQ 141 8 149)) .nil) .nil ⟨140, 4, 141, 149⟩) (.cons (.set 8 (.sub (.var 7 (qQ 142 18 33)) (.int 1 (qQ 142 34 35)) (qQ 142 18 36)) (qQ 142 4 15) (qQ 142 4 36)) (.cons (.iff (.and (.cmp .IsNot (.var 4 (qQ 143 7 17)) (.non (qQ 143 25 29)) (qQ 143 7 29)) (.cmp .Eq (.bin .Mod (.bin .FloorDiv (.var 6 (qQ 143 34 48)) (.int 4 (qQ 143 52 53)) (qQ 143 34 53)) (.int 2 (qQ 143 56 57)) (qQ 143 34 57)) (.int 1 (qQ 143 61 62)) (qQ 143 34 62)) .nil (qQ 143 7 62)) (.cons (.set 8 (.var 4 (qQ 144 22 32)) (qQ 144 8 19) (qQ 144 8 32)) .nil) .nil ⟨143, 4, 144, 32⟩) (.cons (.iff (.cmp .Eq (.bin .Mod (.var 6 (qQ 145 7 21)) (.int 4 (qQ 145 24 25)) (qQ 145 7 25)) (.int 1 (qQ 145 29 30)) (qQ 145 7 30)) (.cons (.ret (.tup (.cons (.str "call" (qQ 146 16 22)) (.cons (.var 8 (qQ 146 24 35)) (.cons (.non (qQ 146 37 41)) (.cons (.tupE (.call 18 (.var 0 (qQ 146 59 68)) (.cons (.var 1 (qQ 146 70 79)) (.cons (.var 2 (qQ 146 81 90)) (.cons (.var 3 (qQ 146 92 102)) (.cons (.var 4 (qQ 146 104 114)) (.cons (.var 5 (qQ 146 116 125)) (.cons (.int 1 (qQ 146 127 128)) .nil)))))) (qQ 146 49 58) (qQ 146 49 129)) (qQ 146 43 48) (qQ 146 43 130)) .nil)))) (qQ 146 15 131)) (qQ 146 8 131)) .nil) .nil ⟨145, 4, 146, 131⟩) (.cons (.ret (.tup (.cons (.str "call" (qQ 147 12 18)) (.cons (.sub (.var 7 (qQ 147 20 35)) (.int 2 (qQ 147 36 37)) (qQ 147 20 38)) (.cons (.var 8 (qQ 147 40 51)) (.cons (.tupE (.call 18 (.var 0 (qQ 147 69 78)) (.cons (.var 1 (qQ 147 80 89)) (.cons (.var 2 (qQ 147 91 100)) (.cons (.var 3 (qQ 147 102 112)) (.cons (.var 4 (qQ 147 114 124)) (.cons (.var 5 (qQ 147 126 135)) (.cons (.sub (.var 2 (qQ 147 137 146)) (.int 2 (qQ 147 147 148)) (qQ 147 137 149)) .nil)))))) (qQ 147 59 68) (qQ 147 59 150)) (qQ 147 53 58) (qQ 147 53 151)) .nil)))) (qQ 147 11 152)) (qQ 147 4 152)) .nil))))))⟩
noncomputable def d_law_good : Df := ⟨"_law_good", ["_law_feed", "_law_deep", "_law_plan", "_law_known", "_law_block", "_law_goes"], ["_law_feed", "_law_deep", "_law_plan", "_law_known", "_law_block", "_law_goes", "_law_cell_here", "_law_pick", "_law_names_here", "_law_a", "_law_b", "_law_name", "_law_s"], (.cons (.set 6 (.call 16 (.var 0 (qQ 149 31 40)) .nil (qQ 149 21 30) (qQ 149 21 41)) (qQ 149 4 18) (qQ 149 4 41)) (.cons (.set 7 (.bin .Mod (.var 6 (qQ 150 16 30)) (.int 12 (qQ 150 33 35)) (qQ 150 16 35)) (qQ 150 4 13) (qQ 150 4 35)) (.cons (.set 8 (.sub (.var 2 (qQ 151 22 31)) (.int 0 (qQ 151 32 33)) (qQ 151 22 34)) (qQ 151 4 19) (qQ 151 4 34)) (.cons (.iff (.or (.cmp .Eq (.var 1 (qQ 152 7 16)) (.int 0 (qQ 152 20 21)) (qQ 152 7 21)) (.cmp .Eq (.len (.var 0 (qQ 152 29 38)) (qQ 152 25 28) (qQ 152 25 39)) (.int 0 (qQ 152 43 44)) (qQ 152 25 44)) (.cons (.cmp .Lt (.var 7 (qQ 152 48 57)) (.int 2 (qQ 152 60 61)) (qQ 152 48 61)) .nil) (qQ 152 7 61)) (.cons (.ret (.call 19 (.bin .FloorDiv (.var 6 (qQ 153 25 39)) (.int 12 (qQ 153 43 45)) (qQ 153 25 45)) (.cons (.var 3 (qQ 153 47 57)) .nil) (qQ 153 15 24) (qQ 153 15 58)) (qQ 153 8 58)) .nil) .nil ⟨152, 4, 153, 58⟩) (.cons (.iff (.cmp .Eq (.var 7 (qQ 154 7 16)) (.int 2 (qQ 154 20 21)) (qQ 154 7 21)) (.cons (.setT [(9, (qQ 155 8 14)), (10, (qQ 155 16 22))] (.call 18 (.var 0 (qQ 155 35 44)) (.cons (.var 1 (qQ 155 46 55)) (.cons (.var 2 (qQ 155 57 66)) (.cons (.var 3 (qQ 155 68 78)) (.cons (.var 4 (qQ 155 80 90)) (.cons (.var 5 (qQ 155 92 101)) (.cons (.int 2 (qQ 155 103 104)) .nil)))))) (qQ 155 25 34) (qQ 155 25 105)) (qQ 155 8 22) (qQ 155 8 105)) (.cons (.ret (.tup (.cons (.str "op" (qQ 156 16 20)) (.cons (.sub (.str "+-*<" (qQ 156 22 28)) (.bin .Mod (.bin .FloorDiv (.var 6 (qQ 156 29 43)) (.int 12 (qQ 156 47 49)) (qQ 156 29 49)) (.int 4 (qQ 156 52 53)) (qQ 156 29 53)) (qQ 156 22 54)) (.cons (.var 9 (qQ 156 56 62)) (.cons (.var 10 (qQ 156 64 70)) .nil)))) (qQ 156 15 71)) (qQ 156 8 71)) .nil)) .nil ⟨154, 4, 156, 71⟩) (.cons (.iff (.cmp .Eq (.var 7 (qQ 157 7 16)) (.int 3 (qQ 157 20 21)) (qQ 157 7 21)) (.cons (.set 9 (.call 21 (.var 0 (qQ 158 27 36)) (.cons (.bin .Sub (.var 1 (qQ 158 38 47)) (.int 1 (qQ 158 50 51)) (qQ 158 38 51)) (.cons (.var 2 (qQ 158 53 62)) (.cons (.var 3 (qQ 158 64 74)) (.cons (.var 4 (qQ 158 76 86)) (.cons (.var 5 (qQ 158 88 97)) .nil))))) (qQ 158 17 26) (qQ 158 17 98)) (qQ 158 8 14) (qQ 158 8 98)) (.cons (.set 11 (.sub (.var 8 (qQ 159 20 35)) (.bin .Mod (.bin .FloorDiv (.var 6 (qQ 159 36 50)) (.int 12 (qQ 159 54 56)) (qQ 159 36 56)) (.int 12 (qQ 159 59 61)) (qQ 159 36 61)) (qQ 159 20 62)) (qQ 159 8 17) (qQ 159 8 62)) (.cons (.ret (.tup (.cons (.str "let" (qQ 160 16 21)) (.cons (.var 11 (qQ 160 23 32)) (.cons (.var 9 (qQ 160 34 40)) (.cons (.call 21 (.var 0 (qQ 160 52 61)) (.cons (.bin .Sub (.var 1 (qQ 160 63 72)) (.int 1 (qQ 160 75 76)) (qQ 160 63 76)) (.cons (.var 2 (qQ 160 78 87)) (.cons (.bin .Add (.var 3 (qQ 160 89 99)) (.ofL (.disp (.cons (.var 11 (qQ 160 103 112)) .nil) (qQ 160 102 113))) (qQ 160 89 113)) (.cons (.var 4 (qQ 160 115 125)) (.cons (.var 5 (qQ 160 127 136)) .nil))))) (qQ 160 42 51) (qQ 160 42 137)) .nil)))) (qQ 160 15 138)) (qQ 160 8 138)) .nil))) .nil ⟨157, 4, 160, 138⟩) (.cons (.iff (.cmp .Eq (.var 7 (qQ 161 7 16)) (.int 4 (qQ 161 20 21)) (qQ 161 7 21)) (.cons (.ret (.tupE (.bin .Add (.ofL (.disp (.cons (.str "if" (qQ 162 22 26)) .nil) (qQ 162 21 27))) (.call 18 (.var 0 (qQ 162 40 49)) (.cons (.var 1 (qQ 162 51 60)) (.cons (.var 2 (qQ 162 62 71)) (.cons (.var 3 (qQ 162 73 83)) (.cons (.var 4 (qQ 162 85 95)) (.cons (.var 5 (qQ 162 97 106)) (.cons (.int 3 (qQ 162 108 109)) .nil)))))) (qQ 162 30 39) (qQ 162 30 110)) (qQ 162 21 110)) (qQ 162 15 20) (qQ 162 15 111)) (qQ 162 8 111)) .nil) .nil ⟨161, 4, 162, 111⟩) (.cons (.iff (.cmp .Lt (.var 7 (qQ 163 7 16)) (.int 7 (qQ 163 19 20)) (qQ 163 7 20)) (.cons (.ret (.call 20 (.var 0 (qQ 164 25 34)) (.cons (.var 1 (qQ 164 36 45)) (.cons (.var 2 (qQ 164 47 56)) (.cons (.var 3 (qQ 164 58 68)) (.cons (.var 4 (qQ 164 70 80)) (.cons (.var 5 (qQ 164 82 91)) (.cons (.bin .FloorDiv (.var 6 (qQ 164 93 107)) (.int 12 (qQ 164 111 113)) (qQ 164 93 113)) .nil)))))) (qQ 164 15 24) (qQ 164 15 114)) (qQ 164 8 114)) .nil) .nil ⟨163, 4, 164, 114⟩) (.cons (.iff (.cmp .Lt (.var 7 (qQ 165 7 16)) (.int 9 (qQ 165 19 20)) (qQ 165 7 20)) (.cons (.ret (.tup (.cons (.str "do" (qQ 166 16 20)) (.cons (.sub (.var 8 (qQ 166 22 37)) (.bin .Add (.int 6 (qQ 166 38 39)) (.bin .Mod (.bin .FloorDiv (.var 6 (qQ 166 42 56)) (.int 12 (qQ 166 60 62)) (qQ 166 42 62)) (.int 3 (qQ 166 65 66)) (qQ 166 42 66)) (qQ 166 38 66)) (qQ 166 22 67)) (.cons (.call 21 (.var 0 (qQ 166 79 88)) (.cons (.bin .Sub (.var 1 (qQ 166 90 99)) (.int 1 (qQ 166 102 103)) (qQ 166 90 103)) (.cons (.var 2 (qQ 166 105 114)) (.cons (.var 3 (qQ 166 116 126)) (.cons (.var 4 (qQ 166 128 138)) (.cons (.var 5 (qQ 166 140 149)) .nil))))) (qQ 166 69 78) (qQ 166 69 150)) .nil))) (qQ 166 15 151)) (qQ 166 8 151)) .nil) .nil ⟨165, 4, 166, 151⟩) (.cons (.iff (.and (.cmp .Eq (.var 7 (qQ 167 7 16)) (.int 9 (qQ 167 20 21)) (qQ 167 7 21)) (.cmp .IsNot (.var 5 (qQ 167 26 35)) (.non (qQ 167 43 47)) (qQ 167 26 47)) .nil (qQ 167 7 47)) (.cons (.set 12 (.call 21 (.var 0 (qQ 168 27 36)) (.cons (.bin .Sub (.var 1 (qQ 168 38 47)) (.int 1 (qQ 168 50 51)) (qQ 168 38 51)) (.cons (.var 2 (qQ 168 53 62)) (.cons (.var 3 (qQ 168 64 74)) (.cons (.var 4 (qQ 168 76 86)) (.cons (.var 5 (qQ 168 88 97)) .nil))))) (qQ 168 17 26) (qQ 168 17 98)) (qQ 168 8 14) (qQ 168 8 98)) (.cons (.ret (.tup (.cons (.str "handle" (qQ 169 16 24)) (.cons (.sub (.var 8 (qQ 169 26 41)) (.bin .Add (.int 3 (qQ 169 42 43)) (.bin .Mod (.bin .FloorDiv (.var 6 (qQ 169 46 60)) (.int 12 (qQ 169 64 66)) (qQ 169 46 66)) (.int 2 (qQ 169 69 70)) (qQ 169 46 70)) (qQ 169 42 70)) (qQ 169 26 71)) (.cons (.var 12 (qQ 169 73 79)) (.cons (.call 21 (.var 0 (qQ 169 91 100)) (.cons (.bin .Sub (.var 1 (qQ 169 102 111)) (.int 1 (qQ 169 114 115)) (qQ 169 102 115)) (.cons (.var 2 (qQ 169 117 126)) (.cons (.var 3 (qQ 169 128 138)) (.cons (.var 4 (qQ 169 140 150)) (.cons (.bl false (qQ 169 152 157)) .nil))))) (qQ 169 81 90) (qQ 169 81 158)) .nil)))) (qQ 169 15 159)) (qQ 169 8 159)) .nil)) .nil ⟨167, 4, 169, 159⟩) (.cons (.iffN (.cmp .Eq (.var 7 (qQ 170 7 16)) (.int 10 (qQ 170 20 22)) (qQ 170 7 22)) 5 (qQ 170 27 36) (qQ 170 7 36) (.cons (.ret (.tupE (.bin .Add (.ofL (.disp (.cons (.str "go" (qQ 171 22 26)) .nil) (qQ 171 21 27))) (.call 18 (.var 0 (qQ 171 40 49)) (.cons (.var 1 (qQ 171 51 60)) (.cons (.var 2 (qQ 171 62 71)) (.cons (.var 3 (qQ 171 73 83)) (.cons (.var 4 (qQ 171 85 95)) (.cons (.var 5 (qQ 171 97 106)) (.cons (.int 2 (qQ 171 108 109)) .nil)))))) (qQ 171 30 39) (qQ 171 30 110)) (qQ 171 21 110)) (qQ 171 15 20) (qQ 171 15 111)) (qQ 171 8 111)) .nil) .nil ⟨170, 4, 171, 111⟩) (.cons (.ret (.tupE (.bin .Add (.ofL (.disp (.cons (.str "guard" (qQ 172 18 25)) .nil) (qQ 172 17 26))) (.call 18 (.var 0 (qQ 172 39 48)) (.cons (.var 1 (qQ 172 50 59)) (.cons (.var 2 (qQ 172 61 70)) (.cons (.var 3 (qQ 172 72 82)) (.cons (.var 4 (qQ 172 84 94)) (.cons (.var 5 (qQ 172 96 105)) (.cons (.int 2 (qQ 172 107 108)) .nil)))))) (qQ 172 29 38) (qQ 172 29 109)) (qQ 172 17 109)) (qQ 172 11 16) (qQ 172 11 110)) (qQ 172 4 110)) .nil))))))))))))⟩
noncomputable def e_law_handler_1 : E := (.tup (.cons (.var 0 (qQ 177 21 30)) (.cons (.var 4 (qQ 177 32 38)) (.cons (.var 3 (qQ 177 40 46)) (.cons (.call 21 (.var 1 (qQ 177 58 67)) (.cons (.int 4 (qQ 177 69 70)) (.cons (.var 2 (qQ 177 72 81)) (.cons (.ofL (.disp (.cons (.var 4 (qQ 177 84 90)) (.cons (.var 3 (qQ 177 92 98)) .nil)) (qQ 177 83 99))) (.cons (.non (qQ 177 101 105)) (.cons (.bl true (qQ 177 107 111)) .nil))))) (qQ 177 48 57) (qQ 177 48 112)) .nil)))) (qQ 177 20 113))
noncomputable def c_law_handler_1 : Es := .nil
noncomputable def t_law_handler_1 : Tg := (.one 0 (qQ 177 118 127))
noncomputable def s_law_handler_1 : Scope := { kind := PySem.ScopeKind.function, names := [ (PySem.Str.ofString ".0", PySem.NameKind.local), (PySem.Str.ofString "_law_deed", PySem.NameKind.local), (PySem.Str.ofString "_law_good", PySem.NameKind.globalImplicit), (PySem.Str.ofString "_law_feed", PySem.NameKind.free), (PySem.Str.ofString "_law_plan", PySem.NameKind.free), (PySem.Str.ofString "_law_s", PySem.NameKind.free), (PySem.Str.ofString "_law_x", PySem.NameKind.free)], isGenerator := false, isCoroutine := false, more := [] : PySem.Scope }
noncomputable def d_law_handler : Df := ⟨"_law_handler", ["_law_feed", "_law_plan", "_law_name", "_law_deeds", "_law_cell_here"], ["_law_feed", "_law_plan", "_law_name", "_law_deeds", "_law_cell_here", "_law_names_here", "_law_x", "_law_s", "_law_clauses", "_law_end"], (.cons (.set 5 (.sub (.var 1 (qQ 174 22 31)) (.int 0 (qQ 174 32 33)) (qQ 174 22 34)) (qQ 174 4 19) (qQ 174 4 34)) (.cons (.set 6 (.sub (.var 5 (qQ 175 13 28)) (.bin .Mod (.var 4 (qQ 175 29 43)) (.int 12 (qQ 175 46 48)) (qQ 175 29 48)) (qQ 175 13 49)) (qQ 175 4 10) (qQ 175 4 49)) (.cons (.set 7 (.sub (.var 5 (qQ 176 13 28)) (.bin .Mod (.bin .Add (.bin .Add (.var 4 (qQ 176 30 44)) (.int 1 (qQ 176 47 48)) (qQ 176 30 48)) (.bin .Mod (.bin .FloorDiv (.var 4 (qQ 176 51 65)) (.int 12 (qQ 176 69 71)) (qQ 176 51 71)) (.int 11 (qQ 176 74 76)) (qQ 176 51 76)) (qQ 176 30 76)) (.int 12 (qQ 176 80 82)) (qQ 176 29 82)) (qQ 176 13 83)) (qQ 176 4 10) (qQ 176 4 83)) (.cons (.set 8 (.ofL (.comp e_law_handler_1 t_law_handler_1 (.seq (.var 3 (qQ 177 131 141))) c_law_handler_1 ["_law_deed", "_law_feed", "_law_plan", "_law_s", "_law_x"] [none, some 0, some 1, some 7, some 6] s_law_handler_1 (qQ 177 19 142))) (qQ 177 4 16) (qQ 177 4 142)) (.cons (.set 9 (.tup (.cons (.str "op" (qQ 178 16 20)) (.cons (.str "-" (qQ 178 22 25)) (.cons (.tup (.cons (.str "var" (qQ 178 28 33)) (.cons (.var 7 (qQ 178 35 41)) .nil)) (qQ 178 27 42)) (.cons (.call 21 (.var 0 (qQ 178 54 63)) (.cons (.int 3 (qQ 178 65 66)) (.cons (.var 1 (qQ 178 68 77)) (.cons (.ofL (.disp (.cons (.var 7 (qQ 178 80 86)) (.cons (.var 6 (qQ 178 88 94)) .nil)) (qQ 178 79 95))) (.cons (.non (qQ 178 97 101)) (.cons (.non (qQ 178 103 107)) .nil))))) (qQ 178 44 53) (qQ 178 44 108)) .nil)))) (qQ 178 15 109)) (qQ 178 4 12) (qQ 178 4 109)) (.cons (.ret (.tup (.cons (.str "handler" (qQ 179 12 21)) (.cons (.var 2 (qQ 179 23 32)) (.cons (.tupE (.var 8 (qQ 179 40 52)) (qQ 179 34 39) (qQ 179 34 53)) (.cons (.tup (.cons (.var 7 (qQ 179 56 62)) (.cons (.var 6 (qQ 179 64 70)) (.cons (.var 9 (qQ 179 72 80)) .nil))) (qQ 179 55 81)) .nil)))) (qQ 179 11 82)) (qQ 179 4 82)) .nil))))))⟩
noncomputable def e_law_items_1 : E := (.sub (.var 2 (qQ 183 19 34)) (.bin .Mod (.bin .Add (.bin .FloorDiv (.var 1 (qQ 183 36 50)) (.int 9 (qQ 183 54 55)) (qQ 183 36 55)) (.bin .Mult (.int 2 (qQ 183 58 59)) (.var 0 (qQ 183 62 68)) (qQ 183 58 68)) (qQ 183 36 68)) (.int 9 (qQ 183 72 73)) (qQ 183 35 73)) (qQ 183 19 74))
noncomputable def c_law_items_1 : Es := .nil
noncomputable def t_law_items_1 : Tg := (.one 0 (qQ 183 79 85))
noncomputable def s_law_items_1 : Scope := { kind := PySem.ScopeKind.function, names := [ (PySem.Str.ofString ".0", PySem.NameKind.local), (PySem.Str.ofString "_law_k", PySem.NameKind.local), (PySem.Str.ofString "_law_cell_here", PySem.NameKind.free), (PySem.Str.ofString "_law_names_here", PySem.NameKind.free)], isGenerator := false, isCoroutine := false, more := [] : PySem.Scope }
noncomputable def e_law_items_2 : E := (.sub (.var 2 (qQ 182 17 32)) (.bin .Mod (.bin .Add (.var 1 (qQ 182 34 48)) (.var 0 (qQ 182 51 57)) (qQ 182 34 57)) (.int 9 (qQ 182 61 62)) (qQ 182 33 62)) (qQ 182 17 63))
noncomputable def c_law_items_2 : Es := .nil
noncomputable def t_law_items_2 : Tg := (.one 0 (qQ 182 68 74))
noncomputable def s_law_items_2 : Scope := { kind := PySem.ScopeKind.function, names := [ (PySem.Str.ofString ".0", PySem.NameKind.local), (PySem.Str.ofString "_law_k", PySem.NameKind.local), (PySem.Str.ofString "_law_cell_here", PySem.NameKind.free), (PySem.Str.ofString "_law_names_here", PySem.NameKind.free)], isGenerator := false, isCoroutine := false, more := [] : PySem.Scope }
noncomputable def d_law_items : Df := ⟨"_law_items", ["_law_feed", "_law_plan", "_law_cell_here"], ["_law_feed", "_law_plan", "_law_cell_here", "_law_names_here", "_law_ones", "_law_others", "_law_items_here", "_law_at"], (.cons (.set 3 (.sub (.var 1 (qQ 181 22 31)) (.int 0 (qQ 181 32 33)) (qQ 181 22 34)) (qQ 181 4 19) (qQ 181 4 34)) (.cons (.set 4 (.ofL (.comp e_law_items_2 t_law_items_2 (.rng (.sub (.var 1 (qQ 182 84 93)) (.int 1 (qQ 182 94 95)) (qQ 182 84 96)) (qQ 182 78 83) (qQ 182 78 97)) c_law_items_2 ["_law_k", "_law_cell_here", "_law_names_here"] [none, some 2, some 3] s_law_items_2 (qQ 182 16 98))) (qQ 182 4 13) (qQ 182 4 98)) (.cons (.set 5 (.ofL (.comp e_law_items_1 t_law_items_1 (.rng (.sub (.var 1 (qQ 183 95 104)) (.int 2 (qQ 183 105 106)) (qQ 183 95 107)) (qQ 183 89 94) (qQ 183 89 108)) c_law_items_1 ["_law_k", "_law_cell_here", "_law_names_here"] [none, some 2, some 3] s_law_items_1 (qQ 183 18 109))) (qQ 183 4 15) (qQ 183 4 109)) (.cons (.set 6 (.ofL (.disp (.cons (.tup (.cons (.str "def" (qQ 184 24 29)) (.cons (.sub (.var 3 (qQ 184 31 46)) (.int 0 (qQ 184 47 48)) (qQ 184 31 49)) (.cons (.tupE (.var 4 (qQ 184 57 66)) (qQ 184 51 56) (qQ 184 51 67)) (.cons (.non (qQ 184 69 73)) (.cons (.call 21 (.var 0 (qQ 184 85 94)) (.cons (.int 5 (qQ 184 96 97)) (.cons (.var 1 (qQ 184 99 108)) (.cons (.var 4 (qQ 184 110 119)) (.cons (.non (qQ 184 121 125)) (.cons (.bl false (qQ 184 127 132)) .nil))))) (qQ 184 75 84) (qQ 184 75 133)) .nil))))) (qQ 184 23 134)) .nil) (qQ 184 22 135))) (qQ 184 4 19) (qQ 184 4 135)) (.cons (.ex (.m1 .append (.var 6 (qQ 185 4 19)) (.tup (.cons (.str "def" (qQ 185 28 33)) (.cons (.sub (.var 3 (qQ 185 35 50)) (.int 1 (qQ 185 51 52)) (qQ 185 35 53)) (.cons (.tup (.cons (.sub (.var 3 (qQ 185 56 71)) (.int 11 (qQ 185 72 74)) (qQ 185 56 75)) .nil) (qQ 185 55 77)) (.cons (.non (qQ 185 79 83)) (.cons (.call 21 (.var 0 (qQ 185 95 104)) (.cons (.int 3 (qQ 185 106 107)) (.cons (.var 1 (qQ 185 109 118)) (.cons (.ofL (.disp (.cons (.sub (.var 3 (qQ 185 121 136)) (.int 11 (qQ 185 137 139)) (qQ 185 121 140)) .nil) (qQ 185 120 141))) (.cons (.non (qQ 185 143 147)) (.cons (.bl false (qQ 185 149 154)) .nil))))) (qQ 185 85 94) (qQ 185 85 155)) .nil))))) (qQ 185 27 156)) (qQ 185 4 26) (qQ 185 4 157)) (qQ 185 4 157)) (.cons (.ex (.m1 .append (.var 6 (qQ 186 4 19)) (.tup (.cons (.str "def" (qQ 186 28 33)) (.cons (.sub (.var 3 (qQ 186 35 50)) (.int 2 (qQ 186 51 52)) (qQ 186 35 53)) (.cons (.tupE (.var 5 (qQ 186 61 72)) (qQ 186 55 60) (qQ 186 55 73)) (.cons (.sub (.var 3 (qQ 186 75 90)) (.int 9 (qQ 186 91 92)) (qQ 186 75 93)) (.cons (.call 21 (.var 0 (qQ 186 105 114)) (.cons (.int 4 (qQ 186 116 117)) (.cons (.var 1 (qQ 186 119 128)) (.cons (.var 5 (qQ 186 130 141)) (.cons (.sub (.var 3 (qQ 186 143 158)) (.int 9 (qQ 186 159 160)) (qQ 186 143 161)) (.cons (.bl false (qQ 186 163 168)) .nil))))) (qQ 186 95 104) (qQ 186 95 169)) .nil))))) (qQ 186 27 170)) (qQ 186 4 26) (qQ 186 4 171)) (qQ 186 4 171)) (.cons (.ex (.m1 .append (.var 6 (qQ 187 4 19)) (.call 22 (.var 0 (qQ 187 40 49)) (.cons (.var 1 (qQ 187 51 60)) (.cons (.sub (.var 3 (qQ 187 62 77)) (.int 3 (qQ 187 78 79)) (qQ 187 62 80)) (.cons (.cut (.var 3 (qQ 187 82 97)) (.some (.int 6 (qQ 187 98 99))) (.some (.bin .Add (.int 6 (qQ 187 100 101)) (.bin .Mod (.var 2 (qQ 187 104 118)) (.int 3 (qQ 187 121 122)) (qQ 187 104 122)) (qQ 187 100 122))) (qQ 187 98 122) (qQ 187 82 123)) (.cons (.bin .FloorDiv (.var 2 (qQ 187 125 139)) (.int 3 (qQ 187 143 144)) (qQ 187 125 144)) .nil)))) (qQ 187 27 39) (qQ 187 27 145)) (qQ 187 4 26) (qQ 187 4 146)) (qQ 187 4 146)) (.cons (.ex (.m1 .append (.var 6 (qQ 188 4 19)) (.call 22 (.var 0 (qQ 188 40 49)) (.cons (.var 1 (qQ 188 51 60)) (.cons (.sub (.var 3 (qQ 188 62 77)) (.int 4 (qQ 188 78 79)) (qQ 188 62 80)) (.cons (.cut (.ofL (.disp (.cons (.sub (.var 3 (qQ 188 83 98)) (.int 8 (qQ 188 99 100)) (qQ 188 83 101)) (.cons (.sub (.var 3 (qQ 188 103 118)) (.int 7 (qQ 188 119 120)) (qQ 188 103 121)) .nil)) (qQ 188 82 122))) .none (.some (.bin .Mod (.bin .FloorDiv (.var 2 (qQ 188 124 138)) (.int 5 (qQ 188 142 143)) (qQ 188 124 143)) (.int 3 (qQ 188 146 147)) (qQ 188 124 147))) (qQ 188 123 147) (qQ 188 82 148)) (.cons (.bin .FloorDiv (.var 2 (qQ 188 150 164)) (.int 7 (qQ 188 168 169)) (qQ 188 150 169)) .nil)))) (qQ 188 27 39) (qQ 188 27 170)) (qQ 188 4 26) (qQ 188 4 171)) (qQ 188 4 171)) (.cons (.set 7 (.bin .Mod (.bin .FloorDiv (.var 2 (qQ 189 14 28)) (.int 11 (qQ 189 32 34)) (qQ 189 14 34)) (.int 5 (qQ 189 37 38)) (qQ 189 14 38)) (qQ 189 4 11) (qQ 189 4 38)) (.cons (.ret (.bin .Add (.cut (.var 6 (qQ 190 11 26)) (.some (.var 7 (qQ 190 27 34))) .none (qQ 190 27 35) (qQ 190 11 36)) (.cut (.var 6 (qQ 190 39 54)) .none (.some (.var 7 (qQ 190 56 63))) (qQ 190 55 63) (qQ 190 39 64)) (qQ 190 11 64)) (qQ 190 4 64)) .nil))))))))))⟩
noncomputable def e_law_program_1 : E := (.call 15 (.var 1 (qQ 194 39 50)) (.cons (.var 0 (qQ 194 52 58)) .nil) (qQ 194 29 38) (qQ 194 29 59))
noncomputable def c_law_program_1 : Es := .nil
noncomputable def t_law_program_1 : Tg := (.one 0 (qQ 194 64 70))
noncomputable def s_law_program_1 : Scope := { kind := PySem.ScopeKind.function, names := [ (PySem.Str.ofString ".0", PySem.NameKind.local), (PySem.Str.ofString "_law_k", PySem.NameKind.local), (PySem.Str.ofString "_law_cell", PySem.NameKind.globalImplicit), (PySem.Str.ofString "_law_script", PySem.NameKind.free)], isGenerator := false, isCoroutine := false, more := [] : PySem.Scope }
noncomputable def d_law_program : Df := ⟨"_law_program", ["_law_script"], ["_law_script", "_law_cell_here", "_law_plan"], (.cons (.set 1 (.call 15 (.var 0 (qQ 192 31 42)) (.cons (.int 1 (qQ 192 44 45)) .nil) (qQ 192 21 30) (qQ 192 21 46)) (qQ 192 4 18) (qQ 192 4 46)) (.cons (.set 2 (.tup (.cons (.call 17 (.call 15 (.var 0 (qQ 193 38 49)) (.cons (.int 0 (qQ 193 51 52)) .nil) (qQ 193 28 37) (qQ 193 28 53)) (.cons (.int 12 (qQ 193 55 57)) .nil) (qQ 193 17 27) (qQ 193 17 58)) (.cons (.bin .Mod (.var 1 (qQ 193 60 74)) (.int 3 (qQ 193 77 78)) (qQ 193 60 78)) (.cons (.bin .Mod (.bin .FloorDiv (.var 1 (qQ 193 80 94)) (.int 3 (qQ 193 98 99)) (qQ 193 80 99)) (.int 3 (qQ 193 102 103)) (qQ 193 80 103)) .nil))) (qQ 193 16 104)) (qQ 193 4 13) (qQ 193 4 104)) (.cons (.ret (.tupE (.call 23 (.ofL (.comp e_law_program_1 t_law_program_1 (.rngD (.int 41 (qQ 194 80 82)) (.int 1 (qQ 194 84 85)) (.un .USub (.int 1 (qQ 194 88 89)) (qQ 194 87 89)) (qQ 194 74 79) (qQ 194 74 90)) c_law_program_1 ["_law_k", "_law_script"] [none, some 0] s_law_program_1 (qQ 194 28 91))) (.cons (.var 2 (qQ 194 93 102)) (.cons (.bin .FloorDiv (.var 1 (qQ 194 104 118)) (.int 9 (qQ 194 122 123)) (qQ 194 104 123)) .nil)) (qQ 194 17 27) (qQ 194 17 124)) (qQ 194 11 16) (qQ 194 11 125)) (qQ 194 4 125)) .nil)))⟩
noncomputable def d_law_let_by : Df := ⟨"_law_let_by", ["_law_program_here"], ["_law_program_here", "_law_found"], (.cons (.set 1 (.int 0 (qQ 196 17 18)) (qQ 196 4 14) (qQ 196 4 18)) (.cons (.tryN (.cons (.set 1 (.call 2 (.var 0 (qQ 198 27 44)) .nil (qQ 198 21 26) (qQ 198 21 45)) (qQ 198 8 18) (qQ 198 8 45)) .nil) (.ExceptHandler (some (.Name "WrightError" (qQ 199 11 22))) none [(.Assign [(.Name "_law_found" (qQ 200 8 18))] (.Constant (.int 1) 0 (qQ 200 21 22)) (qQ 200 8 22))] ⟨199, 4, 200, 22⟩) [] ⟨197, 4, 200, 22⟩) (.cons (.ret (.cmp .Is (.var 1 (qQ 201 11 21)) (.non (qQ 201 25 29)) (qQ 201 11 29)) (qQ 201 4 29)) .nil)))⟩
noncomputable def d_law : Df := ⟨"law", ["_law_script"], ["_law_script", "_law_program_here", "_law_names_here", "_law_inner", "_law_outer", "_law_more"], (.cons (.set 1 (.call 24 (.var 0 (qQ 203 37 48)) .nil (qQ 203 24 36) (qQ 203 24 49)) (qQ 203 4 21) (qQ 203 4 49)) (.cons (.iff (.un .Not (.call 25 (.var 1 (qQ 204 23 40)) .nil (qQ 204 11 22) (qQ 204 11 41)) (qQ 204 7 41)) (.cons (.ret (.bl false (qQ 205 15 20)) (qQ 205 8 20)) .nil) .nil ⟨204, 4, 205, 20⟩) (.cons (.set 2 (.call 17 (.call 15 (.var 0 (qQ 206 43 54)) (.cons (.int 0 (qQ 206 56 57)) .nil) (qQ 206 33 42) (qQ 206 33 58)) (.cons (.int 12 (qQ 206 60 62)) .nil) (qQ 206 22 32) (qQ 206 22 63)) (qQ 206 4 19) (qQ 206 4 63)) (.cons (.set 3 (.tup (.cons (.str "go" (qQ 207 18 22)) (.cons (.tup (.cons (.str "var" (qQ 207 25 30)) (.cons (.sub (.var 2 (qQ 207 32 47)) (.int 0 (qQ 207 48 49)) (qQ 207 32 50)) .nil)) (qQ 207 24 51)) (.cons (.tup (.cons (.str "num" (qQ 207 54 59)) (.cons (.int 1 (qQ 207 61 62)) .nil)) (qQ 207 53 63)) .nil))) (qQ 207 17 64)) (qQ 207 4 14) (qQ 207 4 64)) (.cons (.set 4 (.tup (.cons (.str "go" (qQ 208 18 22)) (.cons (.var 3 (qQ 208 24 34)) (.cons (.tup (.cons (.str "handle" (qQ 208 37 45)) (.cons (.sub (.var 2 (qQ 208 47 62)) (.int 10 (qQ 208 63 65)) (qQ 208 47 66)) (.cons (.var 3 (qQ 208 68 78)) (.cons (.tup (.cons (.str "num" (qQ 208 81 86)) (.cons (.bin .Mod (.call 15 (.var 0 (qQ 208 98 109)) (.cons (.int 1 (qQ 208 111 112)) .nil) (qQ 208 88 97) (qQ 208 88 113)) (.bin .Pow (.int 10 (qQ 208 116 118)) (.int 18 (qQ 208 122 124)) (qQ 208 116 124)) (qQ 208 88 124)) .nil)) (qQ 208 80 125)) .nil)))) (qQ 208 36 126)) .nil))) (qQ 208 17 127)) (qQ 208 4 14) (qQ 208 4 127)) (.cons (.set 5 (.tup (.cons (.str "handler" (qQ 209 17 26)) (.cons (.sub (.var 2 (qQ 209 28 43)) (.int 10 (qQ 209 44 46)) (qQ 209 28 47)) (.cons (.tup (.cons (.tup (.cons (.sub (.var 2 (qQ 209 51 66)) (.int 6 (qQ 209 67 68)) (qQ 209 51 69)) (.cons (.sub (.var 2 (qQ 209 71 86)) (.int 0 (qQ 209 87 88)) (qQ 209 71 89)) (.cons (.sub (.var 2 (qQ 209 91 106)) (.int 1 (qQ 209 107 108)) (qQ 209 91 109)) (.cons (.var 4 (qQ 209 111 121)) .nil)))) (qQ 209 50 122)) .nil) (qQ 209 49 124)) (.cons (.tup (.cons (.sub (.var 2 (qQ 209 127 142)) (.int 0 (qQ 209 143 144)) (qQ 209 127 145)) (.cons (.sub (.var 2 (qQ 209 147 162)) (.int 1 (qQ 209 163 164)) (qQ 209 147 165)) (.cons (.tup (.cons (.str "var" (qQ 209 168 173)) (.cons (.sub (.var 2 (qQ 209 175 190)) (.int 1 (qQ 209 191 192)) (qQ 209 175 193)) .nil)) (qQ 209 167 194)) .nil))) (qQ 209 126 195)) .nil)))) (qQ 209 16 196)) (qQ 209 4 13) (qQ 209 4 196)) (.cons (.ret (.and (.call 25 (.revT (.var 1 (qQ 210 23 40)) (.un .USub (.int 1 (qQ 210 44 45)) (qQ 210 43 45)) (qQ 210 41 45) (qQ 210 23 46)) .nil (qQ 210 11 22) (qQ 210 11 47)) (.call 25 (.bin .Add (.tup (.cons (.var 5 (qQ 210 65 74)) .nil) (qQ 210 64 76)) (.var 1 (qQ 210 79 96)) (qQ 210 64 96)) .nil (qQ 210 52 63) (qQ 210 52 97)) (.cons (.call 25 (.tup .nil (qQ 210 114 116)) .nil (qQ 210 102 113) (qQ 210 102 117)) .nil) (qQ 210 11 117)) (qQ 210 4 117)) .nil)))))))⟩
noncomputable def defs : List Df := [d_parts_of, d_items_by_name, d_check, d_refuse_twice, d_check_function, d_check_handler, d_check_answer, d_check_body, d_inner, d_check_expression, d_check_variable, d_check_handle, d_check_call, d_is_function, d_may_be_handed, d_law_cell, d_law_next, d_law_names, d_law_some, d_law_leaf, d_law_call, d_law_good, d_law_handler, d_law_items, d_law_program, d_law_let_by, d_law]
end K17
set_option Elab.async false
set_option linter.all false
set_option maxRecDepth 100000
set_option maxHeartbeats 4000000
namespace K17
open PySem L2 PI
inductive Kd where
  | num (n : Int) | var (x : Str) | op (s : Str) | lett (x : Str) | ite | call (f : Str) (g : Option Str) | doo (d : Str) | handle (h : Str) | go | guard
inductive G where
  | nd (k : Kd) (ps : List G)
noncomputable def Kd.tag : Kd -> Str
  | .num _ => "num" | .var _ => "var" | .op _ => "op" | .lett _ => "let" | .ite => "if" | .call _ _ => "call" | .doo _ => "do" | .handle _ => "handle" | .go => "go" | .guard => "guard"
noncomputable def Kd.isGo : Kd -> Bool
  | .go => true
  | _ => false
noncomputable def Kd.isIf : Kd -> Bool
  | .ite => true
  | _ => false
noncomputable def optD : Option Str -> D
  | none => .non
  | some g => .str g
noncomputable def Kd.enc : Kd -> List D -> D
  | .num n, ps => .tup (.str "num" :: .int n :: ps)
  | .var x, ps => .tup (.str "var" :: .str x :: ps)
  | .op s, ps => .tup (.str "op" :: .str s :: ps)
  | .lett x, ps => .tup (.str "let" :: .str x :: ps)
  | .ite, ps => .tup (.str "if" :: ps)
  | .call f g, ps => .tup [.str "call", .str f, optD g, .tup ps]
  | .doo d, ps => .tup (.str "do" :: .str d :: ps)
  | .handle h, ps => .tup (.str "handle" :: .str h :: ps)
  | .go, ps => .tup (.str "go" :: ps)
  | .guard, ps => .tup (.str "guard" :: ps)
mutual
noncomputable def G.d : G -> D
  | .nd k ps => k.enc (G.ds ps)
noncomputable def G.ds : List G -> List D
  | [] => []
  | g :: r => g.d :: G.ds r
end
mutual
noncomputable def G.size : G -> Nat
  | .nd _ ps => 1 + G.sizes ps
noncomputable def G.sizes : List G -> Nat
  | [] => 0
  | g :: r => g.size + G.sizes r
end
mutual
noncomputable def G.hg : G -> Bool
  | .nd k ps => k.isGo || G.hgs ps
noncomputable def G.hgs : List G -> Bool
  | [] => false
  | g :: r => g.hg || G.hgs r
end
mutual
noncomputable def G.pre : G -> List G
  | .nd k ps => .nd k ps :: G.pres ps
noncomputable def G.pres : List G -> List G
  | [] => []
  | g :: r => G.pres r ++ g.pre
end
noncomputable def Kd.ok (k : Kd) (n : Nat) : Bool := match k with
  | .num _ | .var _ => n == 0
  | .op _ | .lett _ | .handle _ | .go | .guard => n == 2
  | .ite => n == 3
  | .doo _ => n == 1
  | .call _ _ => true
mutual
noncomputable def G.ok : G -> Bool
  | .nd k ps => k.ok ps.length && G.oks ps
noncomputable def G.oks : List G -> Bool
  | [] => true
  | g :: r => g.ok && G.oks r
end
noncomputable def fol (i b : Bool) (r : List G) : Bool := b || (if i && r.length == 1 then false else G.hgs r)
mutual
noncomputable def G.lst (f : Bool) : G -> List Bool
  | .nd k ps => G.lstP k.isIf (f || k.isGo) ps ++ (if k.isGo then [!f] else [])
noncomputable def G.lstP (i b : Bool) : List G -> List Bool
  | [] => []
  | g :: r => g.lst (fol i b r) ++ G.lstP i b r
end
theorem ds_map : ∀ gs : List G, G.ds gs = gs.map G.d
  | [] => by rw [G.ds]; rfl
  | g :: r => by rw [G.ds, ds_map r]; rfl
theorem ds_len (a : List G) : (G.ds a).length = a.length := by simp [ds_map]
theorem sizes_append : ∀ (a b : List G), G.sizes (a ++ b) = G.sizes a + G.sizes b
  | [], b => by rw [List.nil_append]; simp [G.sizes]
  | g :: r, b => by rw [List.cons_append, G.sizes, G.sizes, sizes_append r b]; omega
noncomputable def G.isGo : G -> Bool
  | .nd k _ => k.isGo
mutual
theorem pre_any : ∀ g : G, g.pre.any G.isGo = g.hg
  | .nd k ps => by rw [G.pre, G.hg, List.any_cons, pres_any ps]; rfl
theorem pres_any : ∀ gs : List G, (G.pres gs).any G.isGo = G.hgs gs
  | [] => by rw [G.pres, G.hgs]; rfl
  | g :: r => by rw [G.pres, G.hgs, List.any_append, pre_any g, pres_any r, Bool.or_comm]
end
mutual
theorem pre_len : ∀ g : G, g.pre.length = g.size
  | .nd k ps => by rw [G.pre, G.size, List.length_cons, pres_len ps]; omega
theorem pres_len : ∀ gs : List G, (G.pres gs).length = G.sizes gs
  | [] => by rw [G.pres, G.sizes]; rfl
  | g :: r => by rw [G.pres, G.sizes, List.length_append, pre_len g, pres_len r]; omega
end
mutual
theorem lst_hg : ∀ (g : G) (f : Bool), (g.lst f).isEmpty = !g.hg
  | .nd k ps, f => by
    rw [G.lst, G.hg]
    have := lstP_hg ps k.isIf (f || k.isGo)
    cases hk : k.isGo <;> simp_all
theorem lstP_hg : ∀ (gs : List G) (i b : Bool), (G.lstP i b gs).isEmpty = !G.hgs gs
  | [], i, b => by rw [G.lstP, G.hgs]; rfl
  | g :: r, i, b => by
    rw [G.lstP, G.hgs]
    have h1 := lst_hg g (fol i b r)
    have h2 := lstP_hg r i b
    cases x : g.lst (fol i b r) with
    | nil => rw [x] at h1; rw [List.nil_append, h2]; cases e : g.hg <;> simp_all
    | cons y z => rw [x] at h1; cases e : g.hg <;> simp_all
end
theorem size_pos (g : G) : 0 < g.size := by cases g; rw [G.size]; omega
mutual
theorem lst_len : ∀ (g : G) (f : Bool), (g.lst f).length <= g.size
  | .nd k ps, f => by
    rw [G.lst, G.size]
    have := lstP_len ps k.isIf (f || k.isGo)
    cases hk : k.isGo <;> simp_all <;> omega
theorem lstP_len : ∀ (gs : List G) (i b : Bool), (G.lstP i b gs).length <= G.sizes gs
  | [], i, b => by rw [G.lstP, G.sizes]; simp
  | g :: r, i, b => by
    rw [G.lstP, G.sizes]
    have h1 := lst_len g (fol i b r)
    have h2 := lstP_len r i b
    simp; omega
end
theorem so : ∀ x ∈ (["num", "var", "op", "let", "if", "call", "do", "handle", "go", "guard", "never", "jump", "once", "many"] : List Str), PyData.strOk x = true := by decide +kernel
theorem so_call : PyData.strOk "call" = true := so _ (by simp)
theorem so_go : PyData.strOk "go" = true := so _ (by simp)
theorem so_let : PyData.strOk "let" = true := so _ (by simp)
theorem tag_ok (k : Kd) : PyData.strOk k.tag = true := by cases k <;> exact so _ (by simp [Kd.tag])
noncomputable def Kd.isCall : Kd -> Bool
  | .call _ _ => true
  | _ => false
noncomputable def Kd.isLet : Kd -> Bool
  | .lett _ => true
  | _ => false
noncomputable def Kd.isGuard : Kd -> Bool
  | .guard => true
  | _ => false
theorem tag_call (k : Kd) : (k.tag == ("call" : Str)) = k.isCall := by cases k <;> rfl
theorem tag_go (k : Kd) : (k.tag == ("go" : Str)) = k.isGo := by cases k <;> rfl
theorem tag_let (k : Kd) : (k.tag == ("let" : Str)) = k.isLet := by cases k <;> rfl
theorem g_lookup (k : Kd) (hk : ∀ f g, k ≠ .call f g) : g_FIRST_PART.lookup k.tag = some (.int (if k.isIf || k.isGo || k.isGuard then 1 else 2)) := by
  cases k <;> first | (exact absurd rfl (hk _ _)) | rfl
theorem enc_0 (k : Kd) (ps : List D) : ∃ r, k.enc ps = .tup (.str k.tag :: r) := by cases k <;> exact ⟨_, rfl⟩
theorem sub_0 (k : Kd) (ps : List D) (h : Hh) : subD (k.enc ps) (.int 0) h = .ok (.str k.tag) h := by
  obtain ⟨r, e⟩ := enc_0 k ps
  rw [e, sub_tup, atI_pos (by decide)]
  rfl
theorem cut_2 (a b : D) (ps : List D) (h : Hh) : cutD (.tup (a :: b :: ps)) (some 2) none h = .ok (.tup ps) h := by
  simp only [cutD, cutXs]
  rw [sIx_some _ _ _ (by decide), sIx_none]
  have e : min (2 : Int).toNat (a :: b :: ps).length = 2 := by simp
  rw [e, if_neg (by simp)]
  simp
theorem cut_1 (a : D) (ps : List D) (h : Hh) : cutD (.tup (a :: ps)) (some 1) none h = .ok (.tup ps) h := by
  simp only [cutD, cutXs]
  rw [sIx_some _ _ _ (by decide), sIx_none]
  have e : min (1 : Int).toNat (a :: ps).length = 1 := by simp
  rw [e, if_neg (by simp)]
  simp
theorem r_parts (cl : Nat -> List D -> Hh -> Res D) (k : Kd) (ps : List G) (h : Hh) : d_parts_of.run cl [(G.nd k ps).d] h = .ok (.tup (G.ds ps)) h := by
  have e0 := sub_0 k (G.ds ps) h
  have e1 := eqS (h := h) (tag_ok k) so_call
  rw [G.d]
  by_cases hk : ∃ f g, k = .call f g
  · obtain ⟨f, g, rfl⟩ := hk
    rw [tag_call] at e1
    unfold d_parts_of
    simp only [Df.run, znil, zcons, yret, yiff, E.evT, vint, vstr, vvar, vcmp, vsub, vcut, List.map_cons, List.map_nil, List.length_cons, List.length_nil, List.cons_append, List.nil_append, List.getElem?_cons_zero, bind_ok, e0, e1, andS_ok, Kd.isCall, if_true]
    simp only [Kd.enc, sub_tup, atI_pos (show (0 : Int) <= 3 by decide)]
    rfl
  · have hk' : ∀ f g, k ≠ .call f g := fun f g z => hk ⟨f, g, z⟩
    have lk := g_lookup k hk'
    have ht : k.isCall = false := by cases k <;> first | exact absurd rfl (hk' _ _) | rfl
    rw [tag_call, ht] at e1
    unfold d_parts_of
    simp only [Df.run, znil, zcons, yret, yiff, E.evT, vint, vstr, vvar, vcmp, vsub, vcut, vgsub, List.map_cons, List.map_nil, List.length_cons, List.length_nil, List.cons_append, List.nil_append, List.getElem?_cons_zero, bind_ok, e0, e1, andS_ok, Bool.false_eq_true, if_false, seqS_nx, onone, osome, cstD, lk, Cv.d, intO]
    cases k <;> first | (exact absurd rfl (hk' _ _)) | (simp [Kd.isIf, Kd.isGo, Kd.isGuard, Kd.enc, cut_1, cut_2, outR])
end K17
set_option Elab.async false
set_option linter.all false
set_option maxRecDepth 100000
set_option maxHeartbeats 4000000
namespace K17
open PySem L2 PI
theorem compL_fn {α : Type} {c : Ck} {f : D -> Hh -> Res (Option D)} (en out : α -> D) (P : Hh -> Prop) (R : Hh -> Hh -> Prop) (rr : ∀ h, R h h) (rt : ∀ a b d, R a b -> R b d -> R a d) (st : ∀ h, P h -> stay c h) : ∀ (xs : List α) (acc : List D) (h : Hh), P h -> (∀ x ∈ xs, ∀ h, P h -> ∃ h', f (en x) h = .ok (some (out x)) h' /\ P h' /\ R h h') ->
    ∃ h', compL c f (xs.map en) acc h = .ok (acc ++ xs.map out) h' /\ P h' /\ R h h'
  | [], acc, h, hp, _ => ⟨h, by simp [compL, st h hp], hp, rr h⟩
  | x :: r, acc, h, hp, hf => by
    obtain ⟨h1, e1, p1, r1⟩ := hf x (List.mem_cons_self ..) h hp
    obtain ⟨h2, e2, p2, r2⟩ := compL_fn en out P R rr rt st r (acc ++ [out x]) h1 p1 fun y hy => hf y (List.mem_cons_of_mem _ hy)
    refine ⟨h2, ?_, p2, rt _ _ _ r1 r2⟩
    rw [List.map_cons]
    unfold compL
    rw [if_pos (st h hp), e1, bind_ok, addO_some, e2]
    simp
noncomputable def Gr (h h' : Hh) : Prop := ∃ J, h' = h ++ J
theorem Gr.refl (h : Hh) : Gr h h := ⟨[], by simp⟩
theorem Gr.trans (a b d : Hh) (x : Gr a b) (y : Gr b d) : Gr a d := by obtain ⟨J, rfl⟩ := x; obtain ⟨K, rfl⟩ := y; exact ⟨J ++ K, by simp⟩
noncomputable def tab (qs : List (Str × D)) : List (Key × D) := mergeD [] (qs.map fun q => ((Sum.inr q.1 : Key), q.2))
theorem merge_key : ∀ (qs : List (Str × D)) (acc : List (Key × D)), (qs.map (·.1)).Nodup -> (∀ q ∈ qs, (acc.any fun kv => decide (kv.1 = Sum.inr q.1)) = false) -> mergeD acc (qs.map fun q => ((Sum.inr q.1 : Key), q.2)) = acc ++ qs.map fun q => ((Sum.inr q.1 : Key), q.2) := by
  intro qs
  induction qs with
  | nil => intro acc _ _; simp [mergeD]
  | cons q r ih =>
    intro acc hn ha
    rw [List.map_cons, List.nodup_cons] at hn
    have e1 : putD acc (Sum.inr q.1) q.2 = acc ++ [(Sum.inr q.1, q.2)] := by
      unfold putD
      rw [if_neg (by rw [ha q (List.mem_cons_self ..)]; decide)]
    have := ih (acc ++ [(Sum.inr q.1, q.2)]) hn.2 (fun z hz => by
      rw [List.any_append, ha z (List.mem_cons_of_mem _ hz)]
      have : q.1 ≠ z.1 := fun e => hn.1 (List.mem_map.mpr ⟨z, hz, e.symm⟩)
      simp [this])
    show mergeD (putD acc (Sum.inr q.1) q.2) (r.map fun q => ((Sum.inr q.1 : Key), q.2)) = _
    rw [e1, this]
    simp
theorem tab_eq {qs : List (Str × D)} (hn : (qs.map (·.1)).Nodup) : tab qs = qs.map fun q => ((Sum.inr q.1 : Key), q.2) := by
  unfold tab
  rw [merge_key qs [] hn (by simp), List.nil_append]
theorem tab_some {qs : List (Str × D)} {n : Str} {d : D} (hn : (qs.map (·.1)).Nodup) (hm : (n, d) ∈ qs) : valD (tab qs) (Sum.inr n) = some d := by
  rw [tab_eq hn]
  unfold valD
  induction qs with
  | nil => cases hm
  | cons q r ih =>
    rw [List.map_cons, List.nodup_cons] at hn
    rw [List.map_cons, List.find?_cons]
    rcases List.mem_cons.mp hm with e | e
    · subst e; simp
    · have : q.1 ≠ n := fun z => hn.1 (List.mem_map.mpr ⟨(n, d), e, z.symm⟩)
      have z : decide ((Sum.inr q.1 : Key) = Sum.inr n) = false := by simp [this]
      simp only [z]
      exact ih hn.2 e
theorem tab_none {qs : List (Str × D)} {n : Str} (hn : (qs.map (·.1)).Nodup) (hm : n ∉ qs.map (·.1)) : valD (tab qs) (Sum.inr n) = none := by
  rw [tab_eq hn]
  unfold valD
  have : (qs.map fun q => ((Sum.inr q.1 : Key), q.2)).find? (fun kv => decide (kv.1 = Sum.inr n)) = none := by
    rw [List.find?_eq_none]
    intro kv hk
    obtain ⟨q, hq, rfl⟩ := List.mem_map.mp hk
    have : q.1 ≠ n := fun z => hm (List.mem_map.mpr ⟨q, hq, z⟩)
    simp [this]
  rw [this]; rfl
structure Tb (qs : List (Str × D)) (it : Nat) (h : Hh) : Prop where
  nd : (qs.map (·.1)).Nodup
  st : h[it]? = some (.dK (tab qs))
theorem Tb.grow {qs : List (Str × D)} {it : Nat} {h J : Hh} (t : Tb qs it h) : Tb qs it (h ++ J) := ⟨t.nd, get_old t.st⟩
theorem Tb.sub {qs : List (Str × D)} {it : Nat} {h : Hh} {n : Str} {d : D} (t : Tb qs it h) (hm : (n, d) ∈ qs) : subD (.loc it) (.str n) h = .ok d h := by
  simp only [subD, t.st, keyD, Option.bind, tab_some t.nd hm]
theorem Tb.inn {qs : List (Str × D)} {it : Nat} {h : Hh} {n : Str} {d : D} (t : Tb qs it h) (hm : (n, d) ∈ qs) : cmpD .In (.str n) (.loc it) h = .ok (.bl true) h := by
  simp only [cmp_in, inD, t.st, keyD, tab_some t.nd hm]; rfl
theorem Tb.nin {qs : List (Str × D)} {it : Nat} {h : Hh} {n : Str} {d : D} (t : Tb qs it h) (hm : (n, d) ∈ qs) : cmpD .NotIn (.str n) (.loc it) h = .ok (.bl false) h := by
  simp only [cmp_notin, inD, t.st, keyD, tab_some t.nd hm]; rfl
theorem Tb.out {qs : List (Str × D)} {it : Nat} {h : Hh} {n : Str} (t : Tb qs it h) (hm : n ∉ qs.map (·.1)) : cmpD .In (.str n) (.loc it) h = .ok (.bl false) h := by
  simp only [cmp_in, inD, t.st, keyD, tab_none t.nd hm]; rfl
noncomputable def dfD (f : Str) (ps : List D) (bd bo : D) : D := .tup [.str "def", .str f, .tup ps, bd, bo]
noncomputable def IsD (qs : List (Str × D)) (f : Str) (n : Nat) (b : Bool) : Prop := ∃ ps bd bo, (f, dfD f ps bd bo) ∈ qs /\ ps.length = n /\ ((b = false /\ bd = .non) \/ (b = true /\ ∃ x, bd = .str x))
noncomputable def IsH (qs : List (Str × D)) (f : Str) : Prop := ∃ r, (f, .tup (.str "handler" :: r)) ∈ qs
noncomputable def optS : Option Str -> Prop
  | none => True
  | some x => PyData.strOk x = true
theorem so2 : ∀ x ∈ (["def", "handler", "clause", "end", "free", "handle", "do"] : List Str), PyData.strOk x = true := by decide +kernel
theorem so_def : PyData.strOk "def" = true := so2 _ (by simp)
theorem so_hd : PyData.strOk "handler" = true := so2 _ (by simp)
theorem so_cl : PyData.strOk "clause" = true := so2 _ (by simp)
theorem so_end : PyData.strOk "end" = true := so2 _ (by simp)
theorem so_free : PyData.strOk "free" = true := so2 _ (by simp)
theorem so_handle : PyData.strOk "handle" = true := so2 _ (by simp)
theorem so_var : PyData.strOk "var" = true := so _ (by simp)
theorem neSN {a : Str} {h : Hh} (ha : PyData.strOk a = true) : cmpD .NotEq (.str a) .non h = .ok (.bl true) h := if_pos ⟨ha, rfl, Nat.zero_le _⟩
theorem eqSN {a : Str} {h : Hh} (ha : PyData.strOk a = true) : cmpD .Eq (.str a) .non h = .ok (.bl false) h := if_pos ⟨ha, rfl, Nat.zero_le _⟩
theorem neBB {a b : Bool} {h : Hh} : cmpD .NotEq (.bl a) (.bl b) h = .ok (.bl (!(a == b))) h := rfl
theorem neB {a : Str} {b : Option Str} {h : Hh} (ha : PyData.strOk a = true) (hb : optS b) : cmpD .NotEq (.str a) (optD b) h = .ok (.bl (!decide (b = some a))) h := by
  cases b with
  | none => rw [optD, neSN ha]; simp
  | some x =>
    rw [optD, neS ha hb]
    by_cases z : a = x
    · subst z; simp
    · have z' : ¬ (x = a) := fun q => z q.symm
      simp [z, z']
theorem eqB {a : Str} {b : Option Str} {h : Hh} (ha : PyData.strOk a = true) (hb : optS b) : cmpD .Eq (.str a) (optD b) h = .ok (.bl (decide (b = some a))) h := by
  cases b with
  | none => rw [optD, eqSN ha]; simp
  | some x =>
    rw [optD, eqS ha hb]
    by_cases z : a = x
    · subst z; simp
    · have z' : ¬ (x = a) := fun q => z q.symm
      simp [z, z']
section
variable {qs : List (Str × D)} {it : Nat} {h : Hh}
theorem r_isfn (cl : Nat -> List D -> Hh -> Res D) (t : Tb qs it h) {f : Str} {n : Nat} {b : Bool} (hf : IsD qs f n b) : d_is_function.run cl [.str f, .loc it] h = .ok (.bl true) h := by
  obtain ⟨ps, bd, bo, hm, _, _⟩ := hf
  have e1 := eqS (h := h) so_def so_def
  rw [beq_self_eq_true] at e1
  exact out_rt (ret_r (evT_bl (t_and (t_cmp rfl rfl (t.inn hm)) (t_cmp (bnd (bnd rfl (bnd rfl (t.sub hm))) (bnd rfl rfl)) rfl e1))))
noncomputable def C13 (cl : Nat -> List D -> Hh -> Res D) : Prop := ∀ {qs : List (Str × D)} {it : Nat} {h : Hh}, Tb qs it h -> ∀ {f : Str} {n : Nat} {b : Bool}, IsD qs f n b -> cl 13 [.str f, .loc it] h = .ok (.bl true) h
theorem r_handed (cl : Nat -> List D -> Hh -> Res D) (c13 : C13 cl) (t : Tb qs it h) {f : Str} (hf : IsD qs f 1 false) : d_may_be_handed.run cl [.str f, .loc it] h = .ok (.bl true) h := by
  have k := c13 t hf
  obtain ⟨ps, bd, bo, hm, hl, hb⟩ := hf
  have hbd : bd = .non := by rcases hb with ⟨_, z⟩ | ⟨z, _⟩; exact z; cases z
  subst hbd
  have e1 : cmpD .Eq (.int (ps.length : Nat)) (.int 1) h = .ok (.bl true) h := by rw [eqI, hl]; rfl
  exact out_rt (ret_r (evT_bl (t_and3 (bnd (bnd rfl (bnd rfl k)) rfl) (t_cmp (bnd (bnd (bnd rfl (bnd rfl (t.sub hm))) (bnd rfl rfl)) rfl) rfl e1) (t_cmp (bnd (bnd rfl (bnd rfl (t.sub hm))) (bnd rfl rfl)) rfl rfl))))
noncomputable def C14 (cl : Nat -> List D -> Hh -> Res D) : Prop := ∀ {qs : List (Str × D)} {it : Nat} {h : Hh}, Tb qs it h -> ∀ {f : Str}, IsD qs f 1 false -> cl 14 [.str f, .loc it] h = .ok (.bl true) h
noncomputable def CallOk (qs : List (Str × D)) (blk : Option Str) (f : Str) (o : Option Str) (n : Nat) : Prop := PyData.strOk f = true /\ optS o /\
  ((blk = some f /\ o = none /\ n = 1) \/ (blk ≠ some f /\ ∃ b, IsD qs f n b /\ match o with | none => b = false | some x => b = true /\ (blk = some x \/ IsD qs x 1 false)))
theorem r_ccall (cl : Nat -> List D -> Hh -> Res D) (c13 : C13 cl) (c14 : C14 cl) (t : Tb qs it h) (f : Str) (o blk : Option Str) (ps : List D) (hb : optS blk) (hc : CallOk qs blk f o ps.length) :
    d_check_call.run cl [.tup [.str "call", .str f, optD o, .tup ps], optD blk, .loc it] h = .ok .non h := by
  obtain ⟨sf, so', hc⟩ := hc
  have b1 := neB (h := h) sf hb
  have b2 := eqB (h := h) sf hb
  rcases hc with ⟨rfl, rfl, hn⟩ | ⟨hne, b, hd, ho⟩
  · have e3 : cmpD .NotEq (.int (ps.length : Nat)) (.int 1) h = .ok (.bl false) h := by rw [neI, hn]; rfl
    rw [decide_eq_true rfl] at b1 b2
    exact out_nx (set_s rfl (set_s rfl (iff_f (t_andF (t_cmp rfl rfl b1)) (iff_f (t_andF (t_cmp rfl rfl rfl)) (set_s (bnd (evT_bl (t_cmp rfl rfl b2)) rfl) (set_s (evT_bl (t_andF (t_cmp rfl rfl b1))) (iff_f (t_cmp (evT_bl (t_cmp rfl rfl rfl)) rfl neBB) (iff_f (t_cmp rfl rfl e3) rfl))))))))
  · have k13 := c13 t hd
    obtain ⟨qp, bd, bo, hm, hl, hbd⟩ := hd
    rw [decide_eq_false hne] at b1 b2
    have e3 : cmpD .NotEq (.int (ps.length : Nat)) (.int (qp.length : Nat)) h = .ok (.bl false) h := by rw [neI, hl, beq_self_eq_true]; rfl
    cases o with
    | none =>
      have hbd' : bd = .non := by rcases hbd with ⟨_, z⟩ | ⟨z, _⟩; exact z; rw [show b = false from ho] at z; cases z
      subst hbd'
      exact out_nx (set_s rfl (set_s rfl (iff_f (t_and (t_cmp rfl rfl b1) (bnd (bnd (bnd rfl (bnd rfl k13)) rfl) rfl)) (iff_f (t_andF (t_cmp rfl rfl rfl)) (set_s (bnd (evT_bl (t_cmp rfl rfl b2)) (bnd (bnd (bnd rfl (bnd rfl (t.sub hm))) (bnd rfl rfl)) rfl)) (set_s (evT_bl (t_and (t_cmp rfl rfl b1) (t_cmp (bnd (bnd rfl (bnd rfl (t.sub hm))) (bnd rfl rfl)) rfl rfl))) (iff_f (t_cmp (evT_bl (t_cmp rfl rfl rfl)) rfl neBB) (iff_f (t_cmp rfl rfl e3) rfl))))))))
    | some x =>
      obtain ⟨hb1, hx⟩ := ho
      obtain ⟨y, hy⟩ : ∃ y, bd = .str y := by rcases hbd with ⟨z, _⟩ | ⟨_, z⟩; rw [hb1] at z; cases z; exact z
      subst hy
      have b3 := neB (h := h) (a := x) so' hb
      by_cases z : blk = some x
      · rw [decide_eq_true z] at b3
        exact out_nx (set_s rfl (set_s rfl (iff_f (t_and (t_cmp rfl rfl b1) (bnd (bnd (bnd rfl (bnd rfl k13)) rfl) rfl)) (iff_f (t_and2 (t_cmp rfl rfl rfl) (t_cmp rfl rfl b3)) (set_s (bnd (evT_bl (t_cmp rfl rfl b2)) (bnd (bnd (bnd rfl (bnd rfl (t.sub hm))) (bnd rfl rfl)) rfl)) (set_s (evT_bl (t_and (t_cmp rfl rfl b1) (t_cmp (bnd (bnd rfl (bnd rfl (t.sub hm))) (bnd rfl rfl)) rfl rfl))) (iff_f (t_cmp (evT_bl (t_cmp rfl rfl rfl)) rfl neBB) (iff_f (t_cmp rfl rfl e3) rfl))))))))
      · rw [decide_eq_false z] at b3
        have k14 := c14 t (hx.resolve_left z)
        exact out_nx (set_s rfl (set_s rfl (iff_f (t_and (t_cmp rfl rfl b1) (bnd (bnd (bnd rfl (bnd rfl k13)) rfl) rfl)) (iff_f (t_and3 (t_cmp rfl rfl rfl) (t_cmp rfl rfl b3) (bnd (bnd (bnd rfl (bnd rfl k14)) rfl) rfl)) (set_s (bnd (evT_bl (t_cmp rfl rfl b2)) (bnd (bnd (bnd rfl (bnd rfl (t.sub hm))) (bnd rfl rfl)) rfl)) (set_s (evT_bl (t_and (t_cmp rfl rfl b1) (t_cmp (bnd (bnd rfl (bnd rfl (t.sub hm))) (bnd rfl rfl)) rfl rfl))) (iff_f (t_cmp (evT_bl (t_cmp rfl rfl rfl)) rfl neBB) (iff_f (t_cmp rfl rfl e3) rfl))))))))
end
end K17
set_option Elab.async false
set_option linter.all false
set_option maxRecDepth 100000
set_option maxHeartbeats 4000000
namespace K17
open PySem L2 PI
inductive Pl where
  | cl | en | fr
  deriving DecidableEq
noncomputable def Pl.s : Pl -> Str
  | .cl => "clause" | .en => "end" | .fr => "free"
theorem Pl.ok (p : Pl) : PyData.strOk p.s = true := by cases p; exact so_cl; exact so_end; exact so_free
structure Ct where
  kn : List Str
  pl : Pl
noncomputable def kids (c : Ct) : Kd -> List G -> List (G × Ct)
  | .lett x, [a, b] => [(a, c), (b, ⟨c.kn ++ [x], c.pl⟩)]
  | .handle _, [a, b] => [(a, c), (b, ⟨c.kn, .fr⟩)]
  | _, ps => ps.map fun g => (g, c)
noncomputable def locOk (qs : List (Str × D)) (blk : Option Str) (c : Ct) : Kd -> Nat -> Prop
  | .var x, _ => x ∈ c.kn
  | .call f o, n => CallOk qs blk f o n
  | .handle x, _ => IsH qs x /\ c.pl ≠ .en
  | .go, _ => c.pl = .cl
  | _, _ => True
inductive Gd (qs : List (Str × D)) (blk : Option Str) : Ct -> G -> Prop
  | mk (c : Ct) (k : Kd) (ps : List G) : k.ok ps.length = true -> locOk qs blk c k ps.length -> (∀ q ∈ kids c k ps, Gd qs blk q.2 q.1) -> Gd qs blk c (.nd k ps)
noncomputable def knD (c : Ct) : D := .tup (c.kn.map .str)
noncomputable def encW (q : G × Ct) : D := .tup [q.1.d, knD q.2, .str q.2.pl.s]
theorem kids_fst (c : Ct) (k : Kd) (ps : List G) (hk : k.ok ps.length = true) : (kids c k ps).map (·.1) = ps := by
  unfold kids
  split
  · rfl
  · rfl
  · rw [List.map_map]
    exact List.map_id' _
theorem kids_kn (c : Ct) (k : Kd) (ps : List G) : ∀ q ∈ kids c k ps, q.2.kn.length <= c.kn.length + 1 := by
  unfold kids
  split
  · intro q hq; simp at hq; rcases hq with rfl | rfl <;> simp
  · intro q hq; simp at hq; rcases hq with rfl | rfl <;> simp
  · intro q hq
    obtain ⟨g, _, rfl⟩ := List.mem_map.mp hq
    simp
section
variable {qs : List (Str × D)} {it : Nat} {blk : Option Str}
theorem in_kn {x : Str} {kn : List Str} {h : Hh} (hx : x ∈ kn) : cmpD .NotIn (.str x) (.tup (kn.map .str)) h = .ok (.bl false) h := by
  have fl : (kn.map D.str).all flatD = true := by
    rw [List.all_eq_true]
    intro d hd
    obtain ⟨y, _, rfl⟩ := List.mem_map.mp hd
    rfl
  have an : ((kn.map D.str).any fun y => eqV (vOf y) (vOf (.str x))) = true := by
    rw [List.any_eq_true]
    exact ⟨.str x, List.mem_map.mpr ⟨x, hx, rfl⟩, by simp [vOf, eqV]⟩
  simp only [cmp_notin, inD, inXs]
  rw [if_pos ⟨rfl, fl⟩, an]
  rfl
theorem r_cvar (cl : Nat -> List D -> Hh -> Res D) {x : Str} {kn : List Str} {h : Hh} (hx : x ∈ kn) : d_check_variable.run cl [.str x, .tup (kn.map .str)] h = .ok .non h := by
  exact out_nx (iff_f (t_cmp rfl rfl (in_kn hx)) rfl)
theorem r_chandle (cl : Nat -> List D -> Hh -> Res D) {h : Hh} (t : Tb qs it h) {x : Str} {p : Pl} {a b : D} (hx : IsH qs x) (hp : p ≠ .en) : d_check_handle.run cl [.tup [.str "handle", .str x, a, b], .str p.s, .loc it] h = .ok .non h := by
  obtain ⟨r, hm⟩ := hx
  have a1 : ∀ h, subD (.tup [.str "handle", .str x, a, b]) (.int 1) h = .ok (.str x) h := fun _ => rfl
  have a0 : ∀ h, subD (.tup (.str "handler" :: r)) (.int 0) h = .ok (.str "handler") h := fun h => by rw [sub_tup, atI_pos (by decide)]; rfl
  have e1 := neS (h := h) so_hd so_hd
  rw [beq_self_eq_true, Bool.not_true] at e1
  have e2 := eqS (h := h) p.ok so_end
  have e3 : (p.s == ("end" : Str)) = false := by cases p <;> first | rfl | exact absurd rfl hp
  rw [e3] at e2
  exact out_nx (set_s (bnd rfl (bnd rfl (a1 _))) (iff_f (t_or (t_cmp rfl rfl (t.nin hm)) (t_cmp (bnd (bnd rfl (bnd rfl (t.sub hm))) (bnd rfl (a0 _))) rfl e1)) (iff_f (t_cmp rfl rfl e2) rfl)))
noncomputable def C10 (cl : Nat -> List D -> Hh -> Res D) : Prop := ∀ {x : Str} {kn : List Str} {h : Hh}, x ∈ kn -> cl 10 [.str x, .tup (kn.map .str)] h = .ok .non h
noncomputable def C11 (cl : Nat -> List D -> Hh -> Res D) : Prop := ∀ {qs : List (Str × D)} {it : Nat} {h : Hh}, Tb qs it h -> ∀ {x : Str} {p : Pl} {a b : D}, IsH qs x -> p ≠ .en -> cl 11 [.tup [.str "handle", .str x, a, b], .str p.s, .loc it] h = .ok .non h
noncomputable def C12 (cl : Nat -> List D -> Hh -> Res D) : Prop := ∀ {qs : List (Str × D)} {it : Nat} {h : Hh}, Tb qs it h -> ∀ (f : Str) (o blk : Option Str) (ps : List D), optS blk -> CallOk qs blk f o ps.length -> cl 12 [.tup [.str "call", .str f, optD o, .tup ps], optD blk, .loc it] h = .ok .non h
theorem tag_var (k : Kd) : (k.tag == ("var" : Str)) = (match k with | .var _ => true | _ => false) := by cases k <;> rfl
noncomputable def Kd.isHd : Kd -> Bool
  | .handle _ => true
  | _ => false
theorem tag_handle (k : Kd) : (k.tag == ("handle" : Str)) = k.isHd := by cases k <;> rfl
theorem pair_of {α : Type} : ∀ {l : List α}, l.length = 2 -> ∃ a b, l = [a, b]
  | [a, b], _ => ⟨a, b, rfl⟩
theorem r_cexpr (cl : Nat -> List D -> Hh -> Res D) (c10 : C10 cl) (c11 : C11 cl) (c12 : C12 cl) {h : Hh} (t : Tb qs it h) (hb : optS blk) {c : Ct} {k : Kd} {ps : List G} (hk : k.ok ps.length = true) (hl : locOk qs blk c k ps.length) :
    d_check_expression.run cl [(G.nd k ps).d, knD c, .str c.pl.s, optD blk, .loc it] h = .ok .non h := by
  have e0 := fun h => sub_0 k (G.ds ps) h
  rw [<- G.d] at e0
  have e1 := fun h => eqS (h := h) (tag_ok k) so_var
  have e2 := fun h => eqS (h := h) (tag_ok k) so_call
  have e3 := fun h => eqS (h := h) (tag_ok k) so_handle
  have e4 := fun h => eqS (h := h) (tag_ok k) so_go
  have e5 := fun h => neS (h := h) c.pl.ok so_cl
  rw [tag_var] at e1
  rw [tag_call] at e2
  rw [tag_handle] at e3
  rw [tag_go] at e4
  cases k with
  | var x =>
    have a1 : ∀ h, subD (G.nd (.var x) ps).d (.int 1) h = .ok (.str x) h := fun h => by rw [G.d]; simp only [Kd.enc]; rw [sub_tup, atI_pos (by decide)]; rfl
    exact out_nx (iff_n (t_cmp (bnd rfl (bnd rfl (e0 _))) rfl (e1 _)) (ex_s (bnd (bnd rfl (bnd rfl (a1 _))) (bnd rfl (c10 hl))) rfl) (iff_f (t_cmp (bnd rfl (bnd rfl (e0 _))) rfl (e2 _)) (iff_f (t_cmp (bnd rfl (bnd rfl (e0 _))) rfl (e3 _)) (iff_f (t_andF (t_cmp (bnd rfl (bnd rfl (e0 _))) rfl (e4 _))) rfl))))
  | call f o =>
    have k1 := c12 t f o blk (G.ds ps) hb (by rw [ds_len]; exact hl)
    exact out_nx (iff_f (t_cmp (bnd rfl (bnd rfl (e0 _))) rfl (e1 _)) (iff_n (t_cmp (bnd rfl (bnd rfl (e0 _))) rfl (e2 _)) (ex_s (bnd rfl (bnd rfl k1)) rfl) (iff_f (t_cmp (bnd rfl (bnd rfl (e0 _))) rfl (e3 _)) (iff_f (t_andF (t_cmp (bnd rfl (bnd rfl (e0 _))) rfl (e4 _))) rfl))))
  | handle x =>
    obtain ⟨a, b, rfl⟩ := pair_of (of_decide_eq_true hk)
    exact out_nx (iff_f (t_cmp (bnd rfl (bnd rfl (e0 _))) rfl (e1 _)) (iff_f (t_cmp (bnd rfl (bnd rfl (e0 _))) rfl (e2 _)) (iff_n (t_cmp (bnd rfl (bnd rfl (e0 _))) rfl (e3 _)) (ex_s (bnd rfl (bnd rfl (c11 t (a := a.d) (b := b.d) hl.1 hl.2))) rfl) (iff_f (t_andF (t_cmp (bnd rfl (bnd rfl (e0 _))) rfl (e4 _))) rfl))))
  | go =>
    have hp : c.pl = .cl := hl
    rw [hp] at e5
    rw [hp]
    exact out_nx (iff_f (t_cmp (bnd rfl (bnd rfl (e0 _))) rfl (e1 _)) (iff_f (t_cmp (bnd rfl (bnd rfl (e0 _))) rfl (e2 _)) (iff_f (t_cmp (bnd rfl (bnd rfl (e0 _))) rfl (e3 _)) (iff_f (t_and (t_cmp (bnd rfl (bnd rfl (e0 _))) rfl (e4 _)) (t_cmp rfl rfl (e5 _))) rfl))))
  | _ => exact out_nx (iff_f (t_cmp (bnd rfl (bnd rfl (e0 _))) rfl (e1 _)) (iff_f (t_cmp (bnd rfl (bnd rfl (e0 _))) rfl (e2 _)) (iff_f (t_cmp (bnd rfl (bnd rfl (e0 _))) rfl (e3 _)) (iff_f (t_andF (t_cmp (bnd rfl (bnd rfl (e0 _))) rfl (e4 _))) rfl))))
end
end K17
set_option Elab.async false
set_option linter.all false
set_option maxRecDepth 100000
set_option maxHeartbeats 4000000
namespace K17
open PySem L2 PI
noncomputable def PartsOk (cl : Nat -> List D -> Hh -> Res D) : Prop := ∀ k ps h, cl 0 [(G.nd k ps).d] h = .ok (.tup (G.ds ps)) h
theorem sizes_mem : ∀ {gs : List G} {g : G}, g ∈ gs -> g.size <= G.sizes gs
  | q :: r, g, hm => by
    rw [G.sizes]
    rcases List.mem_cons.mp hm with rfl | hm
    · omega
    · have := sizes_mem hm; omega
theorem wl : ∀ W : List G, W.length <= G.sizes W
  | [] => by simp
  | g :: r => by have := size_pos g; have := wl r; rw [G.sizes, List.length_cons]; omega
theorem r_inner (cl : Nat -> List D -> Hh -> Res D) (C0 : PartsOk cl) (c : Ct) (k : Kd) (ps : List G) (h : Hh) (hk : k.ok ps.length = true) (hs : c.kn.length + (G.nd k ps).size <= 1000000) :
    ∃ J n, d_inner.run cl [(G.nd k ps).d, knD c, .str c.pl.s] h = .ok (.loc n) (h ++ J) /\ (h ++ J)[n]? = some (.lst ((kids c k ps).map encW)) := by
  have e0 := fun h => sub_0 k (G.ds ps) h
  rw [<- G.d] at e0
  have e1 := fun h => eqS (h := h) (tag_ok k) so_let
  have e2 := fun h => eqS (h := h) (tag_ok k) so_handle
  rw [tag_let] at e1
  rw [tag_handle] at e2
  have c0 := C0 k ps h
  have hl : ps.length <= 1000000 := by have := wl ps; rw [G.size] at hs; omega
  have gen : k.isLet = false -> k.isHd = false -> kids c k ps = ps.map (fun g => (g, c)) -> ∃ J n, d_inner.run cl [(G.nd k ps).d, knD c, .str c.pl.s] h = .ok (.loc n) (h ++ J) /\ (h ++ J)[n]? = some (.lst ((kids c k ps).map encW)) := by
    intro z1 z2 z3
    rw [z1] at e1
    rw [z2] at e2
    have key := compL_fn (c := []) (f := compF t_inner_1 [none, some (knD c), some (.str c.pl.s)] (fun ρ' h2 => c_inner_1.evC cl ρ' h2) (fun ρ' h2 => e_inner_1.ev cl ρ' h2)) G.d (fun g => encW (g, c)) (fun h' => h' = h) (fun a b => b = a) (fun _ => rfl) (fun a b d z w => w.trans z) (fun _ _ => stay_nil) ps [] h rfl (by
      rintro g hg h' rfl
      refine ⟨h', ?_, rfl, rfl⟩
      simp [compF, t_inner_1, bindT, c_inner_1, e_inner_1, cnil, vvar, vtup, enil, econs, encW])
    obtain ⟨h', k1, k2, _⟩ := key
    rw [k2, List.nil_append, <- ds_map] at k1
    refine ⟨[.lst ((kids c k ps).map encW)], h.length, ?_, by rw [hx0]; rfl⟩
    rw [z3, List.map_map]
    exact out_rt (iff_f (t_cmp (bnd rfl (bnd rfl (e0 _))) rfl (e1 _)) (iff_f (t_cmp (bnd rfl (bnd rfl (e0 _))) rfl (e2 _)) (ret_r (bnd (bnd (bnd (bnd rfl (bnd rfl c0)) rfl) ((if_pos (by rw [ds_len]; exact hl)).trans k1)) rfl))))
  cases k with
  | lett x =>
    obtain ⟨a, b, rfl⟩ := pair_of (of_decide_eq_true hk)
    have hk1 : (c.kn.map D.str).length + 1 <= 1000000 := by rw [List.length_map]; exact Nat.le_trans (Nat.add_le_add_left (size_pos _) _) hs
    refine ⟨[.lst ((kids c (.lett x) [a, b]).map encW)], h.length, ?_, by rw [hx0]; rfl⟩
    have ek : (kids c (.lett x) [a, b]).map encW = [encW (a, c), .tup [b.d, .tup (c.kn.map .str ++ [.str x]), .str c.pl.s]] := by
      show [encW (a, c), .tup [b.d, .tup ((c.kn ++ [x]).map .str), .str c.pl.s]] = _
      rw [List.map_append]; rfl
    rw [ek]
    exact out_rt (iff_r (t_cmp (bnd rfl (bnd rfl (e0 _))) rfl (e1 _)) (ret_r (bnd (bnd (bnd rfl (bnd (bnd (bnd (bnd rfl (bnd (bnd (bnd rfl (bnd rfl (if_pos hk1))) (bnd rfl rfl)) rfl)) rfl) (bnd rfl rfl)) rfl)) rfl) rfl)))
  | handle x =>
    obtain ⟨a, b, rfl⟩ := pair_of (of_decide_eq_true hk)
    refine ⟨[.lst ((kids c (.handle x) [a, b]).map encW)], h.length, ?_, by rw [hx0]; rfl⟩
    exact out_rt (iff_f (t_cmp (bnd rfl (bnd rfl (e0 _))) rfl (e1 _)) (iff_r (t_cmp (bnd rfl (bnd rfl (e0 _))) rfl (e2 _)) (ret_r rfl)))
  | _ => exact gen rfl rfl rfl
noncomputable def InnerOk (cl : Nat -> List D -> Hh -> Res D) : Prop := ∀ (c : Ct) (k : Kd) (ps : List G) (h : Hh), k.ok ps.length = true -> c.kn.length + (G.nd k ps).size <= 1000000 ->
  ∃ J n, cl 8 [(G.nd k ps).d, knD c, .str c.pl.s] h = .ok (.loc n) (h ++ J) /\ (h ++ J)[n]? = some (.lst ((kids c k ps).map encW))
noncomputable def ExprOk (cl : Nat -> List D -> Hh -> Res D) : Prop := ∀ {qs : List (Str × D)} {it : Nat} {blk : Option Str} {h : Hh}, Tb qs it h -> optS blk -> ∀ {c : Ct} {k : Kd} {ps : List G}, k.ok ps.length = true -> locOk qs blk c k ps.length -> cl 9 [(G.nd k ps).d, knD c, .str c.pl.s, optD blk, .loc it] h = .ok .non h
noncomputable def wsz (W : List (G × Ct)) : Nat := G.sizes (W.map (·.1))
theorem body_loop (cl : Nat -> List D -> Hh -> Res D) (C8 : InnerOk cl) (C9 : ExprOk cl) {qs : List (Str × D)} {it : Nat} {blk : Option Str} {h : Hh} (t : Tb qs it h) (hb : optS blk) (d0 d1 d2 : D) :
    ∀ (n : Nat) (W : List (G × Ct)) (J : Hh) (one : Option D), wsz W <= n -> (∀ q ∈ W, Gd qs blk q.2 q.1 /\ q.2.kn.length + q.1.size <= 1000000) -> wsz W <= 1000000 ->
    ∃ one' J', whR (fun ρ h => w_check_body_1.evT cl ρ h) (fun ρ h => b_check_body_1.run cl ρ h) [some d0, some d1, some d2, some (optD blk), some (.loc it), some (.loc h.length), one] (h ++ .lst (W.map encW) :: J) = .nx [some d0, some d1, some d2, some (optD blk), some (.loc it), some (.loc h.length), one'] (h ++ J') := by
  intro n
  induction n with
  | zero =>
    intro W J one hn hg hl
    have : W = [] := by
      cases W with
      | nil => rfl
      | cons g r => have := size_pos g.1; rw [wsz, List.map_cons, G.sizes] at hn; omega
    subst this
    refine ⟨one, .lst [] :: J, ?_⟩
    rw [whR_done (h1 := h ++ .lst [] :: J)]
    simp [w_check_body_1, E.evT, vvar, vcmpN, nilD, rdx0, rd, hx0]
  | succ n ih =>
    intro W J one hn hg hl
    rcases List.eq_nil_or_concat W with rfl | ⟨W', q, rfl⟩
    · refine ⟨one, .lst [] :: J, ?_⟩
      rw [whR_done (h1 := h ++ .lst [] :: J)]
      simp [w_check_body_1, E.evT, vvar, vcmpN, nilD, rdx0, rd, hx0]
    · rw [List.concat_eq_append] at *
      obtain ⟨g, c⟩ := q
      have hq := hg (g, c) (by simp)
      obtain ⟨gd, hz⟩ := hq
      cases gd with
      | mk c' k ps hk hl1 hkids =>
        have hz' : c.kn.length + (G.nd k ps).size <= 1000000 := hz
        have es : wsz (W' ++ [(G.nd k ps, c)]) = wsz W' + 1 + G.sizes ps := by
          unfold wsz
          rw [List.map_append, sizes_append, List.map_cons, List.map_nil, G.sizes, G.sizes, G.size]; omega
        have kf := kids_fst c k ps hk
        have es2 : wsz (W' ++ (kids c k ps).reverse) = wsz W' + G.sizes ps := by
          unfold wsz
          rw [List.map_append, sizes_append, List.map_reverse, kf]
          have : ∀ l : List G, G.sizes l.reverse = G.sizes l := fun l => by
            induction l with
            | nil => rfl
            | cons g r ih => rw [List.reverse_cons, sizes_append, ih, G.sizes, G.sizes, G.sizes]; omega
          rw [this]
        have klen : (kids c k ps).length = ps.length := by
          have := congrArg List.length kf
          simpa using this
        have k9 := C9 (h := h ++ .lst (W'.map encW) :: J) (t.grow) hb hk hl1
        obtain ⟨J1, m, k8, a8⟩ := C8 c k ps (h ++ .lst (W'.map encW) :: J) hk hz'
        have wl1 : W'.length <= wsz W' := by have := wl (W'.map (·.1)); simpa [wsz] using this
        have wl2 := wl ps
        have f2 : W'.length + (kids c k ps).length <= 1000000 := by rw [klen]; omega
        obtain ⟨one', J', e⟩ := ih (W' ++ (kids c k ps).reverse) (J ++ (J1 ++ [.lst ((kids c k ps).map encW).reverse])) (some (encW (G.nd k ps, c))) (by omega) (fun q hq => by
          rcases List.mem_append.mp hq with hq | hq
          · exact hg q (by simp [hq])
          · have hq' := List.mem_reverse.mp hq
            refine ⟨hkids q hq', ?_⟩
            have s1 := kids_kn c k ps q hq'
            have s2 : q.1.size <= G.sizes ps := sizes_mem (by rw [<- kf]; exact List.mem_map.mpr ⟨q, hq', rfl⟩)
            rw [G.size] at hz'
            omega) (by omega)
        refine ⟨one', J', ?_⟩
        have ec : w_check_body_1.evT cl [some d0, some d1, some d2, some (optD blk), some (.loc it), some (.loc h.length), one] (h ++ .lst ((W' ++ [(G.nd k ps, c)]).map encW) :: J) = .ok true (h ++ .lst ((W' ++ [(G.nd k ps, c)]).map encW) :: J) := by
          simp [w_check_body_1, E.evT, vvar, vcmpN, nilD, rdx0, rd, hx0]
        rw [whR_turn ec (ρ' := [some d0, some d1, some d2, some (optD blk), some (.loc it), some (.loc h.length), some (encW (G.nd k ps, c))]) (h' := h ++ .lst ((W' ++ (kids c k ps).reverse).map encW) :: (J ++ (J1 ++ [.lst ((kids c k ps).map encW).reverse]))), e]
        have r8 : rd (h ++ O.lst (W'.map encW) :: (J ++ J1)) m = some ((kids c k ps).map encW) := rd_of (by simpa using a8)
        simp only [List.append_assoc, List.cons_append] at k8
        generalize hE : (kids c k ps).map encW = Kd1 at r8 ⊢
        have lK : Kd1.length = (kids c k ps).length := by rw [<- hE]; simp
        have mp : m0D .pop (.loc h.length) (h ++ .lst ((W' ++ [(G.nd k ps, c)]).map encW) :: J) = .ok (encW (G.nd k ps, c)) (h ++ .lst (W'.map encW) :: J) := by
          simp [m0D, hx0, hset0]
        have gN : (h ++ O.lst (W'.map encW) :: (J ++ J1) ++ [O.lst Kd1.reverse])[(h ++ O.lst (W'.map encW) :: (J ++ J1)).length]? = some (.lst Kd1.reverse) := by rw [hx0]; rfl
        have oL : ∀ (J : Hh) (r : Res D), onL (.loc h.length) (h ++ O.lst (W'.map encW) :: J) r = r := fun J r => by simp only [onL, hx0]; rfl
        have me : m1D .extend (.loc h.length) (.loc (h ++ O.lst (W'.map encW) :: (J ++ J1)).length) (h ++ O.lst (W'.map encW) :: (J ++ J1) ++ [O.lst Kd1.reverse]) = .ok .non (h ++ .lst (W'.map encW ++ Kd1.reverse) :: (J ++ (J1 ++ [.lst Kd1.reverse]))) := by
          have g0 : (h ++ O.lst (W'.map encW) :: (J ++ J1) ++ [O.lst Kd1.reverse])[h.length]? = some (.lst (W'.map encW)) := by rw [List.append_assoc, hx0]; rfl
          simp only [m1D, g0, gN]
          rw [if_pos (by simp [lK]; exact f2)]
          rw [List.append_assoc, hset0]
          simp
        have mr : (W' ++ (kids c k ps).reverse).map encW = W'.map encW ++ Kd1.reverse := by rw [List.map_append, List.map_reverse, hE]
        rw [mr]
        have lr : lrD (.loc m) (h ++ O.lst (W'.map encW) :: (J ++ J1)) = .ok (.loc (h ++ O.lst (W'.map encW) :: (J ++ J1)).length) (h ++ O.lst (W'.map encW) :: (J ++ J1) ++ [O.lst Kd1.reverse]) := by simp only [lrD, r8]; rfl
        exact set_s (bnd rfl mp) (ex_s (bnd rfl (bnd rfl k9)) (ex_s (bnd rfl ((oL _ _).trans (bnd (bnd (bnd rfl (bnd rfl k8)) lr) me))) rfl))
theorem r_cbody (cl : Nat -> List D -> Hh -> Res D) (C8 : InnerOk cl) (C9 : ExprOk cl) {qs : List (Str × D)} {it : Nat} {blk : Option Str} {h : Hh} (t : Tb qs it h) (hb : optS blk) {c : Ct} {g : G} (hg : Gd qs blk c g) (hz : c.kn.length + g.size <= 1000000) :
    ∃ J, d_check_body.run cl [g.d, knD c, .str c.pl.s, optD blk, .loc it] h = .ok .non (h ++ J) := by
  obtain ⟨o, J', e⟩ := body_loop cl C8 C9 t hb g.d (knD c) (.str c.pl.s) g.size [(g, c)] [] none (by simp [wsz, G.sizes]) (by simp; exact ⟨hg, hz⟩) (by simp [wsz, G.sizes]; omega)
  refine ⟨J', ?_⟩
  simp [encW] at e
  simp [d_check_body, Df.run, znil, zcons, yset, ywhil, vvar, vtup, vofL, enil, econs, ldisp, new, e, outR]
end K17
set_option Elab.async false
set_option linter.all false
set_option maxRecDepth 100000
set_option maxHeartbeats 4000000
namespace K17
open PySem L2 PI
noncomputable def kv (xs : List Str) : List (Key × D) := xs.map fun x => ((Sum.inr x : Key), D.bl true)
theorem kv_none {xs : List Str} {x : Str} (hx : x ∉ xs) : valD (kv xs) (Sum.inr x) = none /\ putD (kv xs) (Sum.inr x) (.bl true) = kv (xs ++ [x]) := by
  have h1 : ∀ k ∈ kv xs, decide (k.1 = (Sum.inr x : Key)) = false := by
    intro k hk
    obtain ⟨y, hy, rfl⟩ := List.mem_map.mp hk
    have : y ≠ x := fun z => hx (z ▸ hy)
    simp [this]
  constructor
  · unfold valD
    have : (kv xs).find? (fun kv => decide (kv.1 = Sum.inr x)) = none := by
      rw [List.find?_eq_none]
      intro k hk
      rw [h1 k hk]; decide
    rw [this]; rfl
  · unfold putD
    have : ((kv xs).any fun kv => decide (kv.1 = Sum.inr x)) = false := by
      rw [List.any_eq_false]
      intro k hk
      rw [h1 k hk]; decide
    rw [if_neg (by rw [this]; decide)]
    simp [kv]
theorem tw_loop (cl : Nat -> List D -> Hh -> Res D) (c : Ck) (h : Hh) (hc : ∀ o, stay c (h ++ [o])) (d0 : D) : ∀ (xs seen : List Str) (nm : Option D), (seen ++ xs).Nodup -> (seen ++ xs).length <= 1000 ->
    ∃ nm', forL c (stepF t_refuse_twice_1 fun ρ' h' => b_refuse_twice_1.run cl ρ' h') (xs.map .str) [some d0, some (.loc h.length), nm] (h ++ [.dK (kv seen)]) = .nx [some d0, some (.loc h.length), nm'] (h ++ [.dK (kv (seen ++ xs))])
  | [], seen, nm, _, _ => ⟨nm, by simp [forL, hc]⟩
  | x :: r, seen, nm, hn, hl => by
    have hx : x ∉ seen := by
      intro z
      rw [List.nodup_append] at hn
      exact hn.2.2 x z x (List.mem_cons_self ..) rfl
    obtain ⟨k1, k2⟩ := kv_none hx
    obtain ⟨nm', e⟩ := tw_loop cl c h hc d0 r (seen ++ [x]) (some (.str x)) (by simpa using hn) (by simpa using hl)
    refine ⟨nm', ?_⟩
    have g0 : (h ++ [O.dK (kv seen)])[h.length]? = some (.dK (kv seen)) := by rw [hx0]; rfl
    have hl1 : (kv seen).length < 1000000 := by
      simp only [kv, List.length_map]
      simp at hl; omega
    have i1 : cmpD .In (.str x) (.loc h.length) (h ++ [O.dK (kv seen)]) = .ok (.bl false) (h ++ [O.dK (kv seen)]) := by
      simp only [cmp_in, inD, g0, keyD, k1]; rfl
    have p1 : putS (.loc h.length) (.str x) (.bl true) (h ++ [O.dK (kv seen)]) = some (h ++ [.dK (kv (seen ++ [x]))]) := by
      simp only [putS, g0, keyD, Option.bind]
      rw [if_pos hl1, k2, hset0]
      rfl
    have step : stepF t_refuse_twice_1 (fun ρ' h' => b_refuse_twice_1.run cl ρ' h') (.str x) [some d0, some (.loc h.length), nm] (h ++ [.dK (kv seen)]) = .nx [some d0, some (.loc h.length), some (.str x)] (h ++ [.dK (kv (seen ++ [x]))]) := by
      exact iff_f (t_cmp rfl rfl i1) (put_s rfl rfl rfl p1 rfl)
    rw [List.append_assoc] at e
    exact for_n (hc _) step e
noncomputable def TwOk (cl : Nat -> List D -> Hh -> Res D) : Prop := ∀ (xs : List Str) (h : Hh), xs.Nodup -> xs.length <= 1000 -> (∃ J, cl 3 [.tup (xs.map .str)] h = .ok .non (h ++ J)) /\ (∀ n, h[n]? = some (.lst (xs.map .str)) -> ∃ J, cl 3 [.loc n] h = .ok .non (h ++ J))
theorem r_twice (cl : Nat -> List D -> Hh -> Res D) (xs : List Str) (h : Hh) (hn : xs.Nodup) (hl : xs.length <= 1000) : (∃ J, d_refuse_twice.run cl [.tup (xs.map .str)] h = .ok .non (h ++ J)) /\ (∀ n, h[n]? = some (.lst (xs.map .str)) -> ∃ J, d_refuse_twice.run cl [.loc n] h = .ok .non (h ++ J)) := by
  constructor
  · obtain ⟨nm', e⟩ := tw_loop cl [] h (fun _ => stay_nil) (.tup (xs.map .str)) xs [] none (by simpa using hn) (by simpa using hl)
    refine ⟨[.dK (kv xs)], ?_⟩
    rw [List.nil_append, show kv [] = [] from rfl] at e
    exact out_nx (set_s rfl (forr_s rfl e rfl))
  · intro n en
    have rr : ∀ o, rd (h ++ [o]) n = some (xs.map .str) := fun o => rd_of (get_old en)
    obtain ⟨nm', e⟩ := tw_loop cl [(n, xs.map .str)] h (fun o => stay_one.mpr (rr o)) (.loc n) xs [] none (by simpa using hn) (by simpa using hl)
    refine ⟨[.dK (kv xs)], ?_⟩
    rw [List.nil_append, show kv [] = [] from rfl] at e
    exact out_nx (set_s rfl (forr_s (seq_loc rfl (rr _)) e rfl))
noncomputable def BodyOk (cl : Nat -> List D -> Hh -> Res D) : Prop := ∀ {qs : List (Str × D)} {it : Nat} {blk : Option Str} {h : Hh}, Tb qs it h -> optS blk -> ∀ {c : Ct} {g : G}, Gd qs blk c g -> c.kn.length + g.size <= 1000000 -> ∃ J, cl 7 [g.d, knD c, .str c.pl.s, optD blk, .loc it] h = .ok .non (h ++ J)
noncomputable def ansD (x s : Str) (g : G) : D := .tup [.str x, .str s, g.d]
structure AnsG (qs : List (Str × D)) (p : Pl) (x s : Str) (g : G) : Prop where
  ne : x ≠ s
  gd : Gd qs none ⟨[x, s], p⟩ g
  sz : g.size <= 900000
theorem r_answer (cl : Nat -> List D -> Hh -> Res D) (c3 : TwOk cl) (c7 : BodyOk cl) {qs : List (Str × D)} {it : Nat} {h : Hh} (t : Tb qs it h) {p : Pl} {x s : Str} {g : G} (ha : AnsG qs p x s g) :
    ∃ J, d_check_answer.run cl [ansD x s g, .str p.s, .loc it] h = .ok .non (h ++ J) := by
  obtain ⟨J1, k1⟩ := (c3 [x, s] h (by simp [ha.ne]) (by simp)).1
  obtain ⟨J2, k2⟩ := c7 (t.grow (J := J1)) (blk := none) trivial ha.gd (by have := ha.sz; simp; omega)
  refine ⟨J1 ++ J2, ?_⟩
  have ct : cutD (ansD x s g) none (some 2) h = .ok (.tup [.str x, .str s]) h := by
    unfold ansD
    simp only [cutD]
    rw [if_neg]
    · rfl
    · intro q
      have := q.2
      rw [sIx_some _ _ _ (by decide)] at this
      simp at this
  rw [<- List.append_assoc]
  exact out_nx (set_s (bnd rfl (bnd rfl (bnd rfl ct))) (ex_s (bnd rfl (bnd rfl k1)) (ex_s (bnd rfl (bnd rfl k2)) rfl)))
structure Cl where
  d : Str
  x : Str
  s : Str
  g : G
noncomputable def Cl.D (q : Cl) : D := .tup [.str q.d, .str q.x, .str q.s, q.g.d]
inductive Itm where
  | fn (f : Str) (ps : List Str) (b : Option Str) (g : G)
  | hd (n : Str) (cs : List Cl) (x s : Str) (e : G)
noncomputable def Itm.nm : Itm -> Str
  | .fn f _ _ _ => f
  | .hd n _ _ _ _ => n
noncomputable def Itm.d : Itm -> D
  | .fn f ps b g => dfD f (ps.map .str) (optD b) g.d
  | .hd n cs x s e => .tup [.str "handler", .str n, .tup (cs.map Cl.D), ansD x s e]
noncomputable def Itm.good (qs : List (Str × D)) : Itm -> Prop
  | .fn f ps b g => (ps ++ b.toList).Nodup /\ ps.length <= 900 /\ optS b /\ (∀ x, b = some x -> x ∉ qs.map (·.1)) /\ Gd qs b ⟨ps, .fr⟩ g /\ g.size <= 900000
  | .hd n cs x s e => (cs.map Cl.d).Nodup /\ cs.length <= 900 /\ (∀ q ∈ cs, AnsG qs .cl q.x q.s q.g) /\ AnsG qs .en x s e
noncomputable def AnsOk (cl : Nat -> List D -> Hh -> Res D) : Prop := ∀ {qs : List (Str × D)} {it : Nat} {h : Hh}, Tb qs it h -> ∀ {p : Pl} {x s : Str} {g : G}, AnsG qs p x s g -> ∃ J, cl 6 [ansD x s g, .str p.s, .loc it] h = .ok .non (h ++ J)
theorem r_cfun (cl : Nat -> List D -> Hh -> Res D) (c3 : TwOk cl) (c7 : BodyOk cl) {qs : List (Str × D)} {it : Nat} {h : Hh} (t : Tb qs it h) {f : Str} {ps : List Str} {b : Option Str} {g : G} (hg : (Itm.fn f ps b g).good qs) :
    ∃ J, d_check_function.run cl [(Itm.fn f ps b g).d, .loc it] h = .ok .non (h ++ J) := by
  obtain ⟨g1, g2, g3, g4, g5, g6⟩ := hg
  cases b with
  | none =>
    obtain ⟨J1, k1⟩ := (c3 ps h (by simpa using g1) (by omega)).1
    obtain ⟨J2, k2⟩ := c7 (t.grow (J := J1)) (blk := none) trivial g5 (by show ps.length + g.size <= _; omega)
    refine ⟨J1 ++ J2, ?_⟩
    rw [<- List.append_assoc]
    exact out_nx (set_s rfl (set_s rfl (iff_n (t_cmp rfl rfl rfl) (ex_s (bnd rfl (bnd rfl k1)) rfl) (ex_s (bnd rfl (bnd rfl k2)) rfl))))
  | some x =>
    obtain ⟨J1, k1⟩ := (c3 (ps ++ [x]) h (by simpa using g1) (by simp; omega)).1
    obtain ⟨J2, k2⟩ := c7 (t.grow (J := J1)) (blk := some x) g3 g5 (by show ps.length + g.size <= _; omega)
    have ot := (t.grow (J := J1)).out (g4 x rfl)
    refine ⟨J1 ++ J2, ?_⟩
    rw [List.map_append] at k1
    have ad : ∀ h, binD .Add (.tup (ps.map .str)) (.tup [.str x]) h = .ok (.tup (ps.map .str ++ [.str x])) h := fun h => by rw [bin_addt, if_pos (by simp; omega)]
    rw [<- List.append_assoc]
    exact out_nx (set_s rfl (set_s rfl (iff_e (t_cmp rfl rfl rfl) (ex_s (bnd (bnd rfl (bnd rfl (ad _))) (bnd rfl k1)) (iff_f (t_cmp rfl rfl ot) rfl)) (ex_s (bnd rfl (bnd rfl k2)) rfl))))
end K17
set_option Elab.async false
set_option linter.all false
set_option maxRecDepth 100000
set_option maxHeartbeats 4000000
namespace K17
open PySem L2 PI
theorem hd_loop (cl : Nat -> List D -> Hh -> Res D) (c6 : AnsOk cl) {qs : List (Str × D)} {it : Nat} (d0 : D) : ∀ (cs : List Cl) (nm : Option D) (h : Hh), Tb qs it h -> (∀ q ∈ cs, AnsG qs .cl q.x q.s q.g) ->
    ∃ nm' J, forL [] (stepF t_check_handler_1 fun ρ' h' => b_check_handler_1.run cl ρ' h') (cs.map Cl.D) [some d0, some (.loc it), nm] h = .nx [some d0, some (.loc it), nm'] (h ++ J)
  | [], nm, h, _, _ => ⟨nm, [], by simp [forL, stay_nil]⟩
  | q :: r, nm, h, t, hq => by
    obtain ⟨J1, k1⟩ := c6 t (hq q (List.mem_cons_self ..))
    obtain ⟨nm', J2, e⟩ := hd_loop cl c6 d0 r (some q.D) (h ++ J1) t.grow fun z hz => hq z (List.mem_cons_of_mem _ hz)
    refine ⟨nm', J1 ++ J2, ?_⟩
    have ct : cutD q.D (some 1) none h = .ok (ansD q.x q.s q.g) h := by unfold Cl.D; exact cut_1 _ _ _
    have step : stepF t_check_handler_1 (fun ρ' h' => b_check_handler_1.run cl ρ' h') q.D [some d0, some (.loc it), nm] h = .nx [some d0, some (.loc it), some q.D] (h ++ J1) := by
      exact ex_s (bnd (bnd rfl (bnd rfl (bnd rfl ct))) (bnd rfl k1)) rfl
    rw [List.append_assoc] at e
    exact for_n stay_nil step e
theorem r_chd (cl : Nat -> List D -> Hh -> Res D) (c3 : TwOk cl) (c6 : AnsOk cl) {qs : List (Str × D)} {it : Nat} {h : Hh} (t : Tb qs it h) {n : Str} {cs : List Cl} {x s : Str} {e : G} (hg : (Itm.hd n cs x s e).good qs) :
    ∃ J, d_check_handler.run cl [(Itm.hd n cs x s e).d, .loc it] h = .ok .non (h ++ J) := by
  obtain ⟨g1, g2, g3, g4⟩ := hg
  obtain ⟨h', k0, kk, _⟩ := compL_fn (c := []) (f := compF t_check_handler_2 [none] (fun ρ' h2 => c_check_handler_2.evC cl ρ' h2) (fun ρ' h2 => e_check_handler_2.ev cl ρ' h2)) Cl.D (fun q => D.str q.d) (fun h' => h' = h) (fun a b => b = a) (fun _ => rfl) (fun a b d z w => w.trans z) (fun _ _ => stay_nil) cs [] h rfl (by
    rintro q hq h' rfl
    refine ⟨h', ?_, rfl, rfl⟩
    exact compF_t rfl rfl rfl)
  rw [kk, List.nil_append] at k0
  have km : (cs.map fun q => D.str q.d) = (cs.map Cl.d).map .str := by rw [List.map_map]; rfl
  rw [km] at k0
  obtain ⟨J1, k1⟩ := (c3 (cs.map Cl.d) (h ++ [.lst ((cs.map Cl.d).map .str)]) g1 (by simp; omega)).2 h.length (by rw [hx0]; rfl)
  obtain ⟨nm', J2, k2⟩ := hd_loop cl c6 (Itm.hd n cs x s e).d cs none (h ++ [.lst ((cs.map Cl.d).map .str)] ++ J1) (t.grow.grow) g3
  obtain ⟨J3, k3⟩ := c6 (t.grow.grow.grow : Tb qs it (h ++ [.lst ((cs.map Cl.d).map .str)] ++ J1 ++ J2)) g4
  refine ⟨[.lst ((cs.map Cl.d).map .str)] ++ J1 ++ J2 ++ J3, ?_⟩
  rw [<- List.append_assoc, <- List.append_assoc, <- List.append_assoc]
  exact out_nx (ex_s (bnd (ofL_comp (q := ([], cs.map Cl.D)) rfl (by rw [List.length_map]; exact Nat.le_trans g2 (by decide)) k0) (bnd rfl k1)) (forr_s (q := ([], cs.map Cl.D)) rfl k2 (ex_s (bnd rfl (bnd rfl k3)) rfl)))
noncomputable def qsOf (is : List Itm) : List (Str × D) := is.map fun i => (i.nm, i.d)
noncomputable def pairOf (q : Str × D) : D := .tup [.str q.1, q.2]
theorem pairs_of : ∀ qs : List (Str × D), pairsD (qs.map pairOf) = some (qs.map fun q => (Sum.inr q.1, q.2))
  | [] => rfl
  | q :: r => by rw [List.map_cons, pairsD, pairs_of r]; rfl
theorem itm_1 (i : Itm) (h : Hh) : subD i.d (.int 1) h = .ok (.str i.nm) h := by cases i <;> rfl
theorem r_items (cl : Nat -> List D -> Hh -> Res D) (is : List Itm) (h : Hh) (hl : is.length <= 1000) :
    d_items_by_name.run cl [.tup (is.map Itm.d)] h = .ok (.loc (h.length + 1)) (h ++ [.lst ((qsOf is).map pairOf), .dK (tab (qsOf is))]) := by
  obtain ⟨h', k1, k2, _⟩ := compL_fn (c := []) (f := compF t_items_by_name_1 [none] (fun ρ' h2 => c_items_by_name_1.evC cl ρ' h2) (fun ρ' h2 => e_items_by_name_1.ev cl ρ' h2)) Itm.d (fun i => pairOf (i.nm, i.d)) (fun h' => h' = h) (fun a b => b = a) (fun _ => rfl) (fun a b d z w => w.trans z) (fun _ _ => stay_nil) is [] h rfl (by
    rintro i hm h2 rfl
    refine ⟨h2, ?_, rfl, rfl⟩
    exact compF_t rfl rfl (bnd (bnd (bnd rfl (bnd rfl (itm_1 i _))) (bnd rfl rfl)) rfl))
  rw [k2, List.nil_append] at k1
  have km : (is.map fun i => pairOf (i.nm, i.d)) = (qsOf is).map pairOf := by unfold qsOf; rw [List.map_map]; rfl
  rw [km] at k1
  have l1 : (is.map Itm.d).length <= 1000000 := by simp; omega
  have l2 : ((qsOf is).map pairOf).length <= 1000000 := by simp [qsOf]; omega
  have r1 : rd (h ++ [O.lst ((qsOf is).map pairOf)]) h.length = some ((qsOf is).map pairOf) := by rw [rdx0]; rfl
  have dp : dicPD (.loc h.length) (h ++ [O.lst ((qsOf is).map pairOf)]) = .ok (.loc (h.length + 1)) (h ++ [.lst ((qsOf is).map pairOf), .dK (tab (qsOf is))]) := by
    simp only [dicPD, r1]
    rw [if_pos l2, pairs_of]
    simp [new, tab]
  exact out_rt (ret_r (bnd (ofL_comp (q := ([], is.map Itm.d)) rfl l1 k1) dp))
noncomputable def C1 (cl : Nat -> List D -> Hh -> Res D) : Prop := ∀ (is : List Itm) (h : Hh), is.length <= 1000 -> cl 1 [.tup (is.map Itm.d)] h = .ok (.loc (h.length + 1)) (h ++ [.lst ((qsOf is).map pairOf), .dK (tab (qsOf is))])
noncomputable def C4 (cl : Nat -> List D -> Hh -> Res D) : Prop := ∀ {qs : List (Str × D)} {it : Nat} {h : Hh}, Tb qs it h -> ∀ {f : Str} {ps : List Str} {b : Option Str} {g : G}, (Itm.fn f ps b g).good qs -> ∃ J, cl 4 [(Itm.fn f ps b g).d, .loc it] h = .ok .non (h ++ J)
noncomputable def C5 (cl : Nat -> List D -> Hh -> Res D) : Prop := ∀ {qs : List (Str × D)} {it : Nat} {h : Hh}, Tb qs it h -> ∀ {n : Str} {cs : List Cl} {x s : Str} {e : G}, (Itm.hd n cs x s e).good qs -> ∃ J, cl 5 [(Itm.hd n cs x s e).d, .loc it] h = .ok .non (h ++ J)
theorem ck_loop (cl : Nat -> List D -> Hh -> Res D) (c4 : C4 cl) (c5 : C5 cl) {qs : List (Str × D)} {it : Nat} (d0 : D) : ∀ (is : List Itm) (nm : Option D) (h : Hh), Tb qs it h -> (∀ i ∈ is, i.good qs) ->
    ∃ nm' J, forL [] (stepF t_check_1 fun ρ' h' => b_check_1.run cl ρ' h') (is.map Itm.d) [some d0, some (.loc it), nm] h = .nx [some d0, some (.loc it), nm'] (h ++ J)
  | [], nm, h, _, _ => ⟨nm, [], by simp [forL, stay_nil]⟩
  | i :: r, nm, h, t, hq => by
    have st : ∃ J1, stepF t_check_1 (fun ρ' h' => b_check_1.run cl ρ' h') i.d [some d0, some (.loc it), nm] h = .nx [some d0, some (.loc it), some i.d] (h ++ J1) := by
      cases i with
      | fn f ps b g =>
        obtain ⟨J1, k1⟩ := c4 t (hq _ (List.mem_cons_self ..))
        refine ⟨J1, ?_⟩
        have e1 := eqS (h := h) so_def so_def
        rw [beq_self_eq_true] at e1
        exact iff_n (t_cmp rfl rfl e1) (ex_s (bnd rfl (bnd rfl k1)) rfl) rfl
      | hd n cs x s e =>
        obtain ⟨J1, k1⟩ := c5 t (hq _ (List.mem_cons_self ..))
        refine ⟨J1, ?_⟩
        have e1 := eqS (h := h) so_hd so_def
        rw [show (("handler" : Str) == ("def" : Str)) = false from rfl] at e1
        exact iff_e (t_cmp rfl rfl e1) (ex_s (bnd rfl (bnd rfl k1)) rfl) rfl
    obtain ⟨J1, step⟩ := st
    obtain ⟨nm', J2, e⟩ := ck_loop cl c4 c5 d0 r (some i.d) (h ++ J1) t.grow fun z hz => hq z (List.mem_cons_of_mem _ hz)
    refine ⟨nm', J1 ++ J2, ?_⟩
    rw [List.append_assoc] at e
    exact for_n stay_nil step e
theorem r_check (cl : Nat -> List D -> Hh -> Res D) (c1 : C1 cl) (c3 : TwOk cl) (c4 : C4 cl) (c5 : C5 cl) (is : List Itm) (h : Hh) (hn : (is.map Itm.nm).Nodup) (hl : is.length <= 900) (hg : ∀ i ∈ is, i.good (qsOf is)) :
    ∃ J, d_check.run cl [.tup (is.map Itm.d)] h = .ok .non (h ++ J) := by
  obtain ⟨h', k0, kk, _⟩ := compL_fn (c := []) (f := compF t_check_2 [none] (fun ρ' h2 => c_check_2.evC cl ρ' h2) (fun ρ' h2 => e_check_2.ev cl ρ' h2)) Itm.d (fun i => D.str i.nm) (fun h' => h' = h) (fun a b => b = a) (fun _ => rfl) (fun a b d z w => w.trans z) (fun _ _ => stay_nil) is [] h rfl (by
    rintro i hm h2 rfl
    refine ⟨h2, ?_, rfl, rfl⟩
    exact compF_t rfl rfl (bnd rfl (bnd rfl (itm_1 i _))))
  rw [kk, List.nil_append] at k0
  have km : (is.map fun i => D.str i.nm) = (is.map Itm.nm).map .str := by rw [List.map_map]; rfl
  rw [km] at k0
  obtain ⟨J1, k1⟩ := (c3 (is.map Itm.nm) (h ++ [.lst ((is.map Itm.nm).map .str)]) hn (by simp; omega)).2 h.length (by rw [hx0]; rfl)
  obtain ⟨H, hH⟩ : ∃ H, H = h ++ [.lst ((is.map Itm.nm).map .str)] ++ J1 := ⟨_, rfl⟩
  rw [<- hH] at k1
  have k2 := c1 is H (by omega)
  have nq : ((qsOf is).map (·.1)).Nodup := by unfold qsOf; rw [List.map_map]; exact hn
  obtain ⟨nm', J2, k3⟩ := ck_loop cl c4 c5 (it := H.length + 1) (.tup (is.map Itm.d)) is none (H ++ [.lst ((qsOf is).map pairOf), .dK (tab (qsOf is))]) ⟨nq, by rw [hx]; rfl⟩ hg
  refine ⟨[.lst ((is.map Itm.nm).map .str)] ++ J1 ++ [.lst ((qsOf is).map pairOf), .dK (tab (qsOf is))] ++ J2, ?_⟩
  rw [<- List.append_assoc, <- List.append_assoc, <- List.append_assoc, <- hH]
  exact out_nx (ex_s (bnd (ofL_comp (q := ([], is.map Itm.d)) rfl (by rw [List.length_map]; exact Nat.le_trans hl (by decide)) k0) (bnd rfl k1)) (set_s (bnd rfl (bnd rfl k2)) (forr_s (q := ([], is.map Itm.d)) rfl k3 rfl)))
end K17
set_option Elab.async false
set_option linter.all false
set_option maxRecDepth 100000
set_option maxHeartbeats 4000000
namespace K17
open PySem L2 PI
noncomputable def cellF (ns : List Int) (k : Int) : Int :=
  let w := if 0 < (ns.length : Int) then (cellv ns (k % (ns.length : Int)) * 48271 + 7919 * k) % 2147483647 else (7919 * k + 5) % 2147483647
  w * w % 2147483629
theorem cellF_lt (ns : List Int) (k : Int) : 0 <= cellF ns k /\ cellF ns k < 2147483629 := by unfold cellF; simp only; constructor <;> omega
theorem r_cell (cl : Nat -> List D -> Hh -> Res D) (h : Hh) (ns : List Int) (k : Int) (hk : 0 <= k /\ k < 1000) (hb : ∀ n ∈ ns, fits n = true) : d_law_cell.run cl [.fl (ns.map .int), .int k] h = .ok (.int (cellF ns k)) h := by
  have fk : fits k = true := fits_lt (by omega)
  have f1 : fits (7919 : Int) = true := by decide
  have f2 : fits (48271 : Int) = true := by decide
  have sq : ∀ n : Int, fits (n % 2147483647) = true := fun n => fits_lt (by omega)
  have ln : lenD (.fl (ns.map .int)) h = .ok (.int (ns.length : Nat)) h := by rw [len_fl, List.length_map]
  have fin : ∀ (w : Int) {a1 a2 a3 a4 a5 a6 a7 a8 a9 b1 b2 : Pos}, Ss.run cl (.cons (.set 2 (.bin .Mod (.var 2 a1) (.int 2147483647 a2) a3) a4 a5) (.cons (.ret (.bin .Mod (.bin .Mult (.var 2 a6) (.var 2 a7) a8) (.int 2147483629 a9) b1) b2) .nil)) [some (.fl (ns.map .int)), some (.int k), some (.int w)] h = .rt (.int (w % 2147483647 * (w % 2147483647) % 2147483629)) h := fun w => set_s (bnd rfl (bnd rfl (mdk (by decide)))) (ret_r (bnd (bnd rfl (bnd rfl (mlk (sq _) (sq _)))) (bnd rfl (mdk (by decide)))))
  unfold cellF
  by_cases hl : 0 < (ns.length : Int)
  · have am := at_map ns (k % (ns.length : Int)) (Int.emod_nonneg _ (Int.ne_of_gt hl)) (Int.emod_lt_of_pos _ hl)
    have fc := cell_fits hb (k % (ns.length : Int))
    have sb : subD (.fl (ns.map .int)) (.int (k % (ns.length : Int))) h = .ok (.int (cellv ns (k % (ns.length : Int)))) h := by rw [sub_fl, am]
    rw [if_pos hl]
    exact out_rt (set_s (bnd (bnd rfl (bnd rfl (mlk f1 fk))) (bnd rfl rfl)) (iff_n (t_cmp (bnd rfl ln) rfl (decide_eq_true hl ▸ rfl)) (set_s (bnd (bnd (bnd rfl (bnd (bnd rfl (bnd (bnd rfl ln) (mdk hl))) sb)) (bnd rfl (mlk fc f2))) (bnd (bnd rfl (bnd rfl (mlk f1 fk))) rfl)) rfl) (fin _)))
  · rw [if_neg hl]
    exact out_rt (set_s (bnd (bnd rfl (bnd rfl (mlk f1 fk))) (bnd rfl rfl)) (iff_f (t_cmp (bnd rfl ln) rfl (decide_eq_false hl ▸ rfl)) (fin _)))
noncomputable def Feed (nf : Nat) (h : Hh) : Prop := ∃ xs : List Int, h[nf]? = some (.lst (xs.map D.int)) /\ (∀ x ∈ xs, fits x = true) /\ xs.length <= 40
noncomputable def Mv (nf : Nat) (h h' : Hh) : Prop := h.length <= h'.length /\ ∀ n o, n ≠ nf -> h[n]? = some o -> h'[n]? = some o
theorem Mv.refl (nf : Nat) (h : Hh) : Mv nf h h := ⟨Nat.le_refl _, fun _ _ _ e => e⟩
theorem Mv.trans (nf : Nat) (a b d : Hh) (x : Mv nf a b) (y : Mv nf b d) : Mv nf a d := ⟨Nat.le_trans x.1 y.1, fun n o hn e => y.2 n o hn (x.2 n o hn e)⟩
theorem Mv.gr (nf : Nat) (h J : Hh) : Mv nf h (h ++ J) := ⟨by simp, fun n o _ e => get_old e⟩
theorem Feed.gr {nf : Nat} {h : Hh} (f : Feed nf h) (J : Hh) : Feed nf (h ++ J) := by obtain ⟨xs, e, r⟩ := f; exact ⟨xs, get_old e, r⟩
theorem r_next (cl : Nat -> List D -> Hh -> Res D) (nf : Nat) (h : Hh) (f : Feed nf h) : ∃ v h', d_law_next.run cl [.loc nf] h = .ok (.int v) h' /\ Feed nf h' /\ Mv nf h h' /\ 0 <= v /\ v < 2147483647 := by
  obtain ⟨xs, e, hf, hl⟩ := f
  have hn : nf < h.length := (List.getElem?_eq_some_iff.mp e).1
  have r1 := rd_of e
  rcases List.eq_nil_or_concat xs with rfl | ⟨ys, y, rfl⟩
  · refine ⟨0, h, ?_, ⟨[], e, by simp, by simp⟩, Mv.refl _ _, by omega, by omega⟩
    have ln : lenD (.loc nf) h = .ok (.int 0) h := by rw [len_loc, r1]; rfl
    exact out_rt (iff_f (t_cmp (bnd rfl ln) rfl rfl) (ret_r rfl))
  · rw [List.concat_eq_append] at *
    have fy : fits y = true := hf y (by simp)
    have f2 : fits (48271 : Int) = true := by decide
    have f1 : fits (7919 : Int) = true := by decide
    have hl2 : ys.length <= 40 := by simp at hl; omega
    have f3 : fits (ys.length : Int) = true := fits_lt (by omega)
    refine ⟨(y * 48271 + 7919 * (ys.length : Int)) % 2147483647, h.set nf (.lst (ys.map D.int)), ?_, ⟨ys, List.getElem?_set_self hn, fun x hx => hf x (by simp [hx]), hl2⟩, ⟨by simp, fun n o hne eo => by rw [List.getElem?_set_ne (Ne.symm hne)]; exact eo⟩, by omega, by omega⟩
    have r2 : rd (h.set nf (.lst (ys.map D.int))) nf = some (ys.map D.int) := rd_of (List.getElem?_set_self hn)
    have e' : h[nf]? = some (.lst (ys.map D.int ++ [.int y])) := by rw [e]; simp
    have ln : lenD (.loc nf) h = .ok (.int ((ys.length + 1 : Nat) : Int)) h := by rw [len_loc, rd_of e', <- List.length_map (as := ys) D.int]; simp only [List.length_append]; rfl
    have ln2 : lenD (.loc nf) (h.set nf (.lst (ys.map D.int))) = .ok (.int (ys.length : Nat)) (h.set nf (.lst (ys.map D.int))) := by rw [len_loc, r2]; simp only [List.length_map]
    have pp : m0D .pop (.loc nf) h = .ok (.int y) (h.set nf (.lst (ys.map D.int))) := by simp [m0D, e']
    have pos : decide ((0 : Int) < ((ys.length + 1 : Nat) : Int)) = true := decide_eq_true (Int.ofNat_lt.mpr (Nat.succ_pos _))
    exact out_rt (iff_r (t_cmp (bnd rfl ln) rfl (pos ▸ rfl)) (ret_r (bnd (bnd (bnd (bnd rfl pp) (bnd rfl (mlk fy f2))) (bnd (bnd rfl (bnd (bnd rfl ln2) (mlk f1 f3))) rfl)) (bnd rfl (mdk (by decide))))))
theorem idx_from (p n : Nat) (h : p <= n) : Builtin.Str.strSliceIndices (some (p : Int)) none 1 n = (List.range (n - p)).map (p + ·) := by
  unfold Builtin.Str.strSliceIndices
  simp only [show (1 : Int) > 0 by decide, if_true]
  rw [if_neg (by omega)]
  have : max 0 (min (p : Int) (n : Int)) = (p : Int) := by omega
  rw [this]
  exact sliceRange_one p n
theorem idx_to (p n : Nat) (h : p <= n) : Builtin.Str.strSliceIndices none (some (p : Int)) 1 n = (List.range p).map (0 + ·) := by
  unfold Builtin.Str.strSliceIndices
  simp only [show (1 : Int) > 0 by decide, if_true]
  rw [if_neg (by omega)]
  have : max 0 (min (p : Int) (n : Int)) = (p : Int) := by omega
  rw [this]
  exact sliceRange_one 0 p
theorem fm_cong {α β : Type} {f g : α -> Option β} : ∀ (l : List α), (∀ x ∈ l, f x = g x) -> l.filterMap f = l.filterMap g
  | [], _ => rfl
  | x :: r, h => by rw [List.filterMap_cons, List.filterMap_cons, h x (List.mem_cons_self ..), fm_cong r fun y hy => h y (List.mem_cons_of_mem _ hy)]
theorem pick_list (l : List Nat) (a k : Nat) (h : a + k <= l.length) : ((List.range k).map (a + ·)).filterMap (l.toArray[·]?) = (l.drop a).take k := by
  have e : ((List.range k).map (a + ·)).filterMap (l.toArray[·]?) = (List.range k).map fun i => l.getD (a + i) 0 := by
    rw [List.filterMap_map, <- List.filterMap_eq_map]
    apply fm_cong
    intro i hi
    have := List.mem_range.mp hi
    simp only [Function.comp, List.getElem?_toArray]
    rw [List.getElem?_eq_getElem (by omega), List.getD_eq_getElem?_getD, List.getElem?_eq_getElem (by omega)]
    rfl
  rw [e]
  apply List.ext_getElem?
  intro i
  rw [List.getElem?_map]
  by_cases hi : i < k
  · rw [List.getElem?_range hi, List.getElem?_take_of_lt hi, List.getElem?_drop]
    simp only [Option.map_some]
    rw [List.getD_eq_getElem?_getD, List.getElem?_eq_getElem (by omega)]
    rfl
  · rw [List.getElem?_eq_none (by simp; omega), List.getElem?_eq_none (by simp; omega)]
    rfl
theorem slice_from (l : List Nat) (p : Nat) (h : p <= l.length) : Txt.slice (mkS l) (some (p : Int)) none = mkS (l.drop p) := by
  unfold Txt.slice
  rw [mk_len, idx_from p _ h]
  split
  · rename_i c
    simp at c
    have : p = 0 \/ l.length = 0 := by omega
    rcases this with z | z
    · rw [z]; rfl
    · rw [List.length_eq_zero_iff.mp z]; simp
  · show mkS _ = _
    congr 1
    rw [show (mkS l).cps = l.toArray from rfl, pick_list l p (l.length - p) (by omega)]
    rw [List.take_of_length_le (by simp)]
theorem slice_to (l : List Nat) (p : Nat) (h : p <= l.length) : Txt.slice (mkS l) none (some (p : Int)) = mkS (l.take p) := by
  unfold Txt.slice
  rw [mk_len, idx_to p _ h]
  split
  · rename_i c
    simp at c
    rw [c, List.take_length]
  · show mkS _ = _
    congr 1
    rw [show (mkS l).cps = l.toArray from rfl, pick_list l 0 p (by omega)]
    rfl
end K17
set_option Elab.async false
set_option linter.all false
set_option maxRecDepth 100000
set_option maxHeartbeats 4000000
namespace K17
open PySem L2 PI
noncomputable def dig (pl : List Nat) : Nat -> Int -> List Nat
  | 0, _ => []
  | n + 1, r => pl.getD (r % (pl.length : Int)).toNat 0 :: dig pl n (r / (pl.length : Int))
theorem dig_len (pl : List Nat) : ∀ (n : Nat) (r : Int), (dig pl n r).length = n
  | 0, _ => rfl
  | n + 1, r => by rw [dig, List.length_cons, dig_len pl n]
structure Pool (ps : Str) : Prop where
  ge : 12 <= (cs ps).length
  le : (cs ps).length <= 30
  nd : (cs ps).Nodup
  ok : ∀ c ∈ cs ps, c < 1114112
theorem pool_at {ps : Str} (p : Pool ps) (r : Int) (h : Hh) : subD (.str ps) (.int (r % ((cs ps).length : Int))) h = .ok (.str (mkS [(cs ps).getD (r % ((cs ps).length : Int)).toNat 0])) h := by
  have h0 := p.ge
  have h1 := p.le
  have m0 : 0 <= r % ((cs ps).length : Int) := Int.emod_nonneg _ (by omega)
  have m1 : r % ((cs ps).length : Int) < ((cs ps).length : Int) := Int.emod_lt_of_pos _ (by omega)
  have lt : (r % ((cs ps).length : Int)).toNat < (cs ps).length := by omega
  have hl : ps.length <= 1000000 := by rw [cs_len]; omega
  simp only [subD]
  rw [if_pos hl, show ps.cps.toList = cs ps from rfl, atI_pos m0, List.getElem?_eq_getElem lt, List.getD_eq_getElem?_getD, List.getElem?_eq_getElem lt]
  rfl
theorem in_loop (cl : Nat -> List D -> Hh -> Res D) {ps : Str} (p : Pool ps) (d0 d1 d2 d4 d5 d6 : Option D) (h : Hh) : ∀ (n k : Nat) (r : Int) (acc : List Nat) (jv : Option D), acc.length + n <= 20 ->
    ∃ r' jv', forL [] (stepF t_law_names_2 fun ρ' h' => b_law_names_2.run cl ρ' h') ((List.range' k n).map fun i => D.int (i : Nat)) [d0, d1, d2, some (.str ps), d4, d5, d6, some (.int r), some (.str (mkS acc)), jv] h =
      .nx [d0, d1, d2, some (.str ps), d4, d5, d6, some (.int r'), some (.str (mkS (acc ++ dig (cs ps) n r))), jv'] h
  | 0, k, r, acc, jv, _ => ⟨r, jv, by simp [forL, stay_nil, dig]⟩
  | n + 1, k, r, acc, jv, hl => by
    have h0 := p.ge
    have h1 := p.le
    have e1 := fun h => pool_at p r h
    have hlen : lenD (.str ps) h = .ok (.int ((cs ps).length : Nat)) h := by
      rw [len_str, if_pos (by rw [cs_len]; omega), cs_len]
    have ad : binD .Add (.str (mkS acc)) (.str (mkS [(cs ps).getD (r % ((cs ps).length : Int)).toNat 0])) h = .ok (.str (mkS (acc ++ [(cs ps).getD (r % ((cs ps).length : Int)).toNat 0]))) h := by
      rw [bin_adds, if_pos (by rw [mk_len, mk_len]; simp; omega), mk_append]
    have md : binD .Mod (.int r) (.int ((cs ps).length : Nat)) h = .ok (.int (r % ((cs ps).length : Int))) h := by rw [bin_mod, if_pos (by omega)]
    have fd : binD .FloorDiv (.int r) (.int ((cs ps).length : Nat)) h = .ok (.int (r / ((cs ps).length : Int))) h := by rw [bin_fdiv, if_pos (by omega)]
    have step : stepF t_law_names_2 (fun ρ' h' => b_law_names_2.run cl ρ' h') (.int (k : Nat)) [d0, d1, d2, some (.str ps), d4, d5, d6, some (.int r), some (.str (mkS acc)), jv] h =
        .nx [d0, d1, d2, some (.str ps), d4, d5, d6, some (.int (r / ((cs ps).length : Int))), some (.str (mkS (acc ++ [(cs ps).getD (r % ((cs ps).length : Int)).toNat 0]))), some (.int (k : Nat))] h := by
      simp only [stepF, t_law_names_2, bindT, List.set_cons_zero, List.set_cons_succ, b_law_names_2, znil, zcons, yset, vvar, vbin, vlen, vsub, List.getElem?_cons_zero, List.getElem?_cons_succ, bind_ok, hlen, md, e1, ad, fd, andS_ok, seqS_nx]
    obtain ⟨r', jv', e⟩ := in_loop cl p d0 d1 d2 d4 d5 d6 h n (k + 1) (r / ((cs ps).length : Int)) (acc ++ [(cs ps).getD (r % ((cs ps).length : Int)).toNat 0]) (some (.int (k : Nat))) (by simp; omega)
    refine ⟨r', jv', ?_⟩
    rw [List.range'_succ, List.map_cons, forL, if_pos stay_nil, step]
    simp only []
    rw [e, dig]
    simp
noncomputable def nmL (pl : List Nat) (sz p : Nat) (q : Bool) (b : Int) (k : Nat) : List Nat :=
  (dig pl sz (b + k)).drop p ++ (dig pl sz (b + k)).take p ++ (if (q && (k % 2 == 1)) = true then [113] else [])
theorem nm_ne {ps : Str} (po : Pool ps) {sz p : Nat} (hp : p < sz) (q : Bool) (b : Int) {k k' : Nat} (h1 : k < 12) (h2 : k' < 12) (hk : k ≠ k') : nmL (cs ps) sz p q b k ≠ nmL (cs ps) sz p q b k' := by
  intro e
  have l0 := po.ge
  have ln : ∀ k : Nat, ((dig (cs ps) sz (b + k)).drop p ++ (dig (cs ps) sz (b + k)).take p).length = sz := fun k => by
    rw [List.length_append, List.length_drop, List.length_take, dig_len]; omega
  unfold nmL at e
  have e2 := List.append_inj e (by rw [ln, ln])
  have e3 := List.append_inj e2.1 (by rw [List.length_drop, List.length_drop, dig_len, dig_len])
  have e4 : dig (cs ps) sz (b + k) = dig (cs ps) sz (b + k') := by
    rw [<- List.take_append_drop p (dig (cs ps) sz (b + k)), <- List.take_append_drop p (dig (cs ps) sz (b + k')), e3.1, e3.2]
  obtain ⟨n, rfl⟩ : ∃ n, sz = n + 1 := ⟨sz - 1, by omega⟩
  rw [dig, dig] at e4
  have e5 := (List.cons.inj e4).1
  have m0 : ∀ k : Nat, 0 <= (b + k) % ((cs ps).length : Int) := fun k => Int.emod_nonneg _ (by omega)
  have m1 : ∀ k : Nat, (b + k) % ((cs ps).length : Int) < ((cs ps).length : Int) := fun k => Int.emod_lt_of_pos _ (by omega)
  have lt : ∀ k : Nat, ((b + k) % ((cs ps).length : Int)).toNat < (cs ps).length := fun k => by have := m0 k; have := m1 k; omega
  rw [List.getD_eq_getElem?_getD, List.getElem?_eq_getElem (lt k), List.getD_eq_getElem?_getD, List.getElem?_eq_getElem (lt k')] at e5
  have e6 : ((b + k) % ((cs ps).length : Int)).toNat = ((b + k') % ((cs ps).length : Int)).toNat := (List.getElem_inj po.nd).mp e5
  have e7 : (b + k) % ((cs ps).length : Int) = (b + k') % ((cs ps).length : Int) := by have := m0 k; have := m0 k'; omega
  have e8 : ((b + k) - (b + k')) % ((cs ps).length : Int) = 0 := by rw [Int.sub_emod, e7, Int.sub_self, Int.zero_emod]
  have e9 : ((cs ps).length : Int) ∣ ((b + k) - (b + k')) := Int.dvd_of_emod_eq_zero e8
  obtain ⟨z, hz⟩ := e9
  have l1 : (12 : Int) <= ((cs ps).length : Int) := by omega
  have d1 : (b + k) - (b + k') = (k : Int) - (k' : Int) := by omega
  rw [d1] at hz
  rcases Int.lt_trichotomy z 0 with hz0 | hz0 | hz0
  · have : ((cs ps).length : Int) * z <= ((cs ps).length : Int) * (-1) := Int.mul_le_mul_of_nonneg_left (by omega) (by omega)
    omega
  · rw [hz0] at hz; omega
  · have : ((cs ps).length : Int) * 1 <= ((cs ps).length : Int) * z := Int.mul_le_mul_of_nonneg_left (by omega) (by omega)
    omega
theorem dig_mem {ps : Str} (po : Pool ps) : ∀ (n : Nat) (r : Int), ∀ c ∈ dig (cs ps) n r, c ∈ cs ps
  | 0, r, c, h => by cases h
  | n + 1, r, c, h => by
    rw [dig] at h
    rcases List.mem_cons.mp h with z | z
    · have l0 := po.ge
      have m0 : 0 <= r % ((cs ps).length : Int) := Int.emod_nonneg _ (by omega)
      have m1 : r % ((cs ps).length : Int) < ((cs ps).length : Int) := Int.emod_lt_of_pos _ (by omega)
      have lt : (r % ((cs ps).length : Int)).toNat < (cs ps).length := by omega
      rw [z, List.getD_eq_getElem?_getD, List.getElem?_eq_getElem lt]
      exact List.getElem_mem lt
    · exact dig_mem po n _ c z
theorem nm_ok {ps : Str} (po : Pool ps) (sz p : Nat) (q : Bool) (b : Int) (k : Nat) : PyData.strOk (mkS (nmL (cs ps) sz p q b k)) = true := by
  refine ok_mk fun c hc => ?_
  unfold nmL at hc
  rcases List.mem_append.mp hc with hc | hc
  · rcases List.mem_append.mp hc with hc | hc
    · exact po.ok c (dig_mem po _ _ c (List.mem_of_mem_drop hc))
    · exact po.ok c (dig_mem po _ _ c (List.mem_of_mem_take hc))
  · split at hc
    · have := List.mem_singleton.mp hc
      omega
    · cases hc
theorem pool_a : Pool "abcdefghijklmnopqrstuvwxyz" := ⟨by decide, by decide, by decide, by decide⟩
theorem pool_b : Pool "bcdfghjklmnpqrstuvwxyz" := ⟨by decide, by decide, by decide, by decide⟩
end K17
set_option Elab.async false
set_option linter.all false
set_option maxRecDepth 100000
set_option maxHeartbeats 4000000
namespace K17
open PySem L2 PI
theorem mk_nil : ("" : Str) = mkS [] := rfl
theorem mk_q : ("q" : Str) = mkS [113] := by decide
noncomputable def nmD (pl : List Nat) (sz p : Nat) (q : Bool) (b : Int) (n : Nat) : List D := (List.range n).map fun k => D.str (mkS (nmL pl sz p q b k))
theorem nmD_succ (pl : List Nat) (sz p : Nat) (q : Bool) (b : Int) (n : Nat) : nmD pl sz p q b (n + 1) = nmD pl sz p q b n ++ [.str (mkS (nmL pl sz p q b n))] := by
  unfold nmD; rw [List.range_succ, List.map_append]; rfl
theorem nmD_len (pl : List Nat) (sz p : Nat) (q : Bool) (b : Int) (n : Nat) : (nmD pl sz p q b n).length = n := by simp [nmD]
theorem beqC (m n : Nat) : (((m : Nat) : Int) == ((n : Nat) : Int)) = (m == n) := by
  rw [Bool.eq_iff_iff, beq_iff_eq, beq_iff_eq]; exact Int.ofNat_inj
theorem out_step (cl : Nat -> List D -> Hh -> Res D) {ps : Str} (po : Pool ps) (c b : Int) (q : Bool) (d1 : Option D) (sz p : Nat) (hp : p < sz) (hs : sz <= 8) (h : Hh) (k : Nat) (hk : k < 12) (L : List D) (hL : L.length = k) (hb : c / 32 % 1000003 = b) (hq : ((c / 64 % 3 == 1) && decide (sz < 8)) = q) (x y z w : Option D) :
    ∃ y' z' w', stepF t_law_names_1 (fun ρ' h' => b_law_names_1.run cl ρ' h') (.int (k : Nat)) [some (.int c), d1, some (.int (sz : Nat)), some (.str ps), some (.int (p : Nat)), some (.loc h.length), x, y, z, w] (h ++ [.lst L]) =
      .nx [some (.int c), d1, some (.int (sz : Nat)), some (.str ps), some (.int (p : Nat)), some (.loc h.length), some (.int (k : Nat)), y', z', w'] (h ++ [.lst (L ++ [.str (mkS (nmL (cs ps) sz p q b k))])]) := by
  subst hb
  obtain ⟨r', jv', e⟩ := in_loop cl po (some (.int c)) d1 (some (.int (sz : Nat))) (some (.int (p : Nat))) (some (.loc h.length)) (some (.int (k : Nat))) (h ++ [.lst L]) sz 0 (c / 32 % 1000003 + k) [] w (Nat.le_trans (Nat.le_of_eq (Nat.zero_add _)) (Nat.le_trans hs (by decide)))
  rw [<- List.range_eq_range', List.nil_append, <- mk_nil] at e
  refine ⟨some (.int r'), some (.str (mkS (dig (cs ps) sz (c / 32 % 1000003 + k)))), jv', ?_⟩
  unfold nmL
  generalize hl : dig (cs ps) sz (c / 32 % 1000003 + k) = l at e ⊢
  have ll : l.length = sz := hl ▸ dig_len _ _ _
  have pl : p <= l.length := ll ▸ Nat.le_of_lt hp
  have lm : (mkS l).length <= 1000000 := by rw [mk_len, ll]; exact Nat.le_trans hs (by decide)
  have c1 : ∀ h, cutD (.str (mkS l)) (some (p : Int)) none h = .ok (.str (mkS (l.drop p))) h := fun h => (if_pos lm).trans (by rw [slice_from l p pl])
  have c2 : ∀ h, cutD (.str (mkS l)) none (some (p : Int)) h = .ok (.str (mkS (l.take p))) h := fun h => (if_pos lm).trans (by rw [slice_to l p pl])
  have lt : (l.drop p ++ l.take p).length <= 8 := by rw [List.length_append, List.length_drop, List.length_take, Nat.min_eq_left pl, Nat.sub_add_cancel pl, ll]; exact hs
  have ad : ∀ h, binD .Add (.str (mkS (l.drop p))) (.str (mkS (l.take p))) h = .ok (.str (mkS (l.drop p ++ l.take p))) h := fun h => by
    rw [bin_adds, if_pos (by rw [mk_len, mk_len, <- List.length_append]; exact Nat.le_trans lt (by decide)), mk_append]
  generalize l.drop p ++ l.take p = m at ad lt ⊢
  have g0 : ∀ o, (h ++ [o])[h.length]? = some o := fun o => by rw [hx0]; rfl
  have ap : m1D .append (.loc h.length) (.str (mkS m)) (h ++ [.lst L]) = .ok .non (h ++ [.lst (L ++ [.str (mkS m)])]) := by
    simp only [m1D, g0]
    rw [if_pos (hL ▸ Nat.lt_trans hk (by decide)), hset0]
    rfl
  have b1 : -1000000 <= (sz : Int) /\ (sz : Int) <= 1000000 := ⟨Int.le_trans (by decide) (Int.natCast_nonneg _), Int.ofNat_le.mpr (Nat.le_trans hs (by decide))⟩
  have fin : ∀ H, H = h ++ [.lst (L ++ [.str (mkS m)])] -> Ss.run cl (dropS 4 b_law_names_1) [some (.int c), d1, some (.int (sz : Nat)), some (.str ps), some (.int (p : Nat)), some (.loc h.length), some (.int (k : Nat)), some (.int r'), some (.str (mkS l)), jv'] H = .nx [some (.int c), d1, some (.int (sz : Nat)), some (.str ps), some (.int (p : Nat)), some (.loc h.length), some (.int (k : Nat)), some (.int r'), some (.str (mkS l)), jv'] (h ++ [.lst (L ++ [.str (mkS (m ++ if (q && (k % 2 == 1)) = true then [113] else []))])]) := by
    intro H hH
    have A : ∀ t, (c / 64 % 3 == 1) = t -> E.evT cl (.cmp .Eq (.bin .Mod (.bin .FloorDiv (.var 0 ⟨127, 11, 127, 25⟩) (.int 64 ⟨127, 29, 127, 31⟩) ⟨127, 11, 127, 31⟩) (.int 3 ⟨127, 34, 127, 35⟩) ⟨127, 11, 127, 35⟩) (.int 1 ⟨127, 39, 127, 40⟩) ⟨127, 11, 127, 40⟩) [some (.int c), d1, some (.int (sz : Nat)), some (.str ps), some (.int (p : Nat)), some (.loc h.length), some (.int (k : Nat)), some (.int r'), some (.str (mkS l)), jv'] H = .ok t H := fun t ht => t_cmp (bnd (bnd rfl (bnd rfl (fdk (by decide)))) (bnd rfl (mdk (by decide)))) rfl (ht ▸ eqI)
    have B : ∀ t, (k % 2 == 1) = t -> E.evT cl (.cmp .Eq (.bin .Mod (.var 6 ⟨127, 45, 127, 51⟩) (.int 2 ⟨127, 54, 127, 55⟩) ⟨127, 45, 127, 55⟩) (.int 1 ⟨127, 59, 127, 60⟩) ⟨127, 45, 127, 60⟩) [some (.int c), d1, some (.int (sz : Nat)), some (.str ps), some (.int (p : Nat)), some (.loc h.length), some (.int (k : Nat)), some (.int r'), some (.str (mkS l)), jv'] H = .ok t H := fun t ht => t_cmp (bnd rfl (bnd rfl (mdk (by decide)))) rfl ((eqI).trans (by rw [<- ht, <- beqC (k % 2) 1]; rfl))
    cases h1 : (c / 64 % 3 == 1) with
    | false =>
      rw [h1, Bool.false_and] at hq
      subst hq
      exact iff_f (t_andF (A _ h1)) (by rw [hH, Bool.false_and, if_neg Bool.false_ne_true, List.append_nil]; rfl)
    | true =>
      rw [h1, Bool.true_and] at hq
      cases h2 : (k % 2 == 1) with
      | false => exact iff_f (t_and2 (A _ h1) (B _ h2)) (by rw [hH, Bool.and_false, if_neg Bool.false_ne_true, List.append_nil]; rfl)
      | true =>
        have C : E.evT cl (.cmp .Lt (.var 2 ⟨127, 66, 127, 75⟩) (.int 8 ⟨127, 78, 127, 79⟩) ⟨127, 66, 127, 79⟩) [some (.int c), d1, some (.int (sz : Nat)), some (.str ps), some (.int (p : Nat)), some (.loc h.length), some (.int (k : Nat)), some (.int r'), some (.str (mkS l)), jv'] H = .ok q H := t_cmp rfl rfl (by rw [cmp_lt, <- hq]; exact congrArg (fun t => Res.ok (D.bl t) H) (decide_eq_decide.mpr Int.ofNat_lt))
        cases q with
        | false => exact iff_f (t_and3 (A _ h1) (B _ h2) C) (by rw [hH, Bool.false_and, if_neg Bool.false_ne_true, List.append_nil]; rfl)
        | true =>
          subst hH
          have sb : subD (.loc h.length) (.int (k : Nat)) (h ++ [.lst (L ++ [.str (mkS m)])]) = .ok (.str (mkS m)) (h ++ [.lst (L ++ [.str (mkS m)])]) := by
            simp only [subD, g0]
            rw [PI.atI_nat, List.getElem?_append_right (Nat.le_of_eq hL), hL, Nat.sub_self]
            rfl
          have aq : binD .Add (.str (mkS m)) (.str "q") (h ++ [.lst (L ++ [.str (mkS m)])]) = .ok (.str (mkS (m ++ [113]))) (h ++ [.lst (L ++ [.str (mkS m)])]) := by
            rw [mk_q, bin_adds, if_pos (by rw [mk_len, mk_len]; exact Nat.le_trans (Nat.add_le_add_right lt 1) (by decide)), mk_append]
          have ix : ixN (L ++ [D.str (mkS m)]).length (k : Int) = some k := by
            rw [List.length_append, hL]
            exact (if_pos (Int.natCast_nonneg _)).trans (if_pos (Int.ofNat_lt.mpr (Nat.lt_succ_self k)))
          have pt : putS (.loc h.length) (.int (k : Nat)) (.str (mkS (m ++ [113]))) (h ++ [.lst (L ++ [.str (mkS m)])]) = some (h ++ [.lst (L ++ [.str (mkS (m ++ [113]))])]) := by
            simp only [putS, g0, ix, Option.map_some]
            rw [hset0]
            simp only [List.set_cons_zero]
            rw [List.set_append_right _ _ (Nat.le_of_eq hL), hL, Nat.sub_self]
            rfl
          exact iff_n (t_and3 (A _ h1) (B _ h2) C) (put_s (bnd (bnd rfl (bnd rfl sb)) (bnd rfl aq)) rfl rfl pt rfl) rfl
  refine set_s (d := .int (c / 32 % 1000003 + k)) (h' := h ++ [O.lst L]) (bnd (bnd (bnd rfl (bnd rfl (fdk (by decide)))) (bnd rfl (mdk (by decide)))) (bnd rfl rfl)) (set_s rfl ?_)
  refine forr_s (h2 := h ++ [O.lst L]) (rng_s (j := (sz : Nat)) rfl b1) e (ex_s (bnd rfl ((on_lst (g0 _) _).trans (bnd (bnd (bnd rfl (bnd rfl (bnd rfl (c1 _)))) (bnd (bnd rfl (bnd rfl (bnd rfl (c2 _)))) (ad _))) ap))) (fin _ rfl))
theorem out_loop (cl : Nat -> List D -> Hh -> Res D) {ps : Str} (po : Pool ps) (c : Int) (d1 : Option D) (sz p : Nat) (hp : p < sz) (hs : sz <= 8) (h : Hh) : ∀ (n k : Nat) (x y z w : Option D), k + n <= 12 ->
    ∃ x' y' z' w', forL [] (stepF t_law_names_1 fun ρ' h' => b_law_names_1.run cl ρ' h') ((List.range' k n).map fun i => D.int (i : Nat)) [some (.int c), d1, some (.int (sz : Nat)), some (.str ps), some (.int (p : Nat)), some (.loc h.length), x, y, z, w]
      (h ++ [.lst (nmD (cs ps) sz p ((c / 64 % 3 == 1) && decide (sz < 8)) (c / 32 % 1000003) k)]) =
      .nx [some (.int c), d1, some (.int (sz : Nat)), some (.str ps), some (.int (p : Nat)), some (.loc h.length), x', y', z', w'] (h ++ [.lst (nmD (cs ps) sz p ((c / 64 % 3 == 1) && decide (sz < 8)) (c / 32 % 1000003) (k + n))])
  | 0, k, x, y, z, w, _ => ⟨x, y, z, w, if_pos stay_nil⟩
  | n + 1, k, x, y, z, w, hk => by
    obtain ⟨y1, z1, w1, st⟩ := out_step cl po c _ _ d1 sz p hp hs h k (Nat.lt_of_lt_of_le (Nat.lt_add_of_pos_right (Nat.succ_pos n)) hk) _ (nmD_len _ _ _ _ _ _) rfl rfl x y z w
    obtain ⟨x', y', z', w', e⟩ := out_loop cl po c d1 sz p hp hs h n (k + 1) (some (.int (k : Nat))) y1 z1 w1 (by rw [Nat.add_assoc, Nat.add_comm 1]; exact hk)
    rw [Nat.add_assoc, Nat.add_comm 1] at e
    exact ⟨x', y', z', w', for_n stay_nil (st.trans (by rw [nmD_succ])) e⟩
end K17
set_option Elab.async false
set_option linter.all false
set_option maxRecDepth 100000
set_option maxHeartbeats 4000000
namespace K17
open PySem L2 PI
noncomputable def szF (c : Int) : Nat := if c % 4 = 0 then 1 else if c % 4 = 1 then 8 else if c % 4 = 2 then 2 else 5
noncomputable def poF (c : Int) : Str := if c % 4 = 2 \/ c % 4 = 3 then "bcdfghjklmnpqrstuvwxyz" else "abcdefghijklmnopqrstuvwxyz"
noncomputable def plF (c : Int) : Nat := (c / 4 % (szF c : Int)).toNat
noncomputable def nmF (c : Int) (k : Nat) : Str := mkS (nmL (cs (poF c)) (szF c) (plF c) ((c / 64 % 3 == 1) && decide (szF c < 8)) (c / 32 % 1000003) k)
noncomputable def Nm (c : Int) : List Str := (List.range 12).map (nmF c)
theorem sz_cases (c : Int) : (c % 4 = 0 /\ szF c = 1 /\ poF c = "abcdefghijklmnopqrstuvwxyz") \/ (c % 4 = 1 /\ szF c = 8 /\ poF c = "abcdefghijklmnopqrstuvwxyz") \/ (c % 4 = 2 /\ szF c = 2 /\ poF c = "bcdfghjklmnpqrstuvwxyz") \/ (c % 4 = 3 /\ szF c = 5 /\ poF c = "bcdfghjklmnpqrstuvwxyz") := by
  unfold szF poF
  rcases (show c % 4 = 0 \/ c % 4 = 1 \/ c % 4 = 2 \/ c % 4 = 3 by omega) with z | z | z | z
  · exact .inl ⟨z, by rw [z]; rfl, by rw [z]; rfl⟩
  · exact .inr (.inl ⟨z, by rw [z]; rfl, by rw [z]; rfl⟩)
  · exact .inr (.inr (.inl ⟨z, by rw [z]; rfl, by rw [z]; rfl⟩))
  · exact .inr (.inr (.inr ⟨z, by rw [z]; rfl, by rw [z]; rfl⟩))
theorem po_ok (c : Int) : Pool (poF c) := by
  rcases sz_cases c with ⟨_, _, e⟩ | ⟨_, _, e⟩ | ⟨_, _, e⟩ | ⟨_, _, e⟩ <;> rw [e]
  · exact pool_a
  · exact pool_a
  · exact pool_b
  · exact pool_b
theorem sz_pos (c : Int) : 0 < szF c /\ szF c <= 8 := by
  rcases sz_cases c with ⟨_, e, _⟩ | ⟨_, e, _⟩ | ⟨_, e, _⟩ | ⟨_, e, _⟩ <;> rw [e] <;> omega
theorem pl_lt (c : Int) : plF c < szF c := by
  unfold plF
  have h := sz_pos c
  have m0 : 0 <= c / 4 % (szF c : Int) := Int.emod_nonneg _ (by omega)
  have m1 : c / 4 % (szF c : Int) < (szF c : Int) := Int.emod_lt_of_pos _ (by omega)
  omega
theorem Nm_len (c : Int) : (Nm c).length = 12 := by simp [Nm]
theorem nmF_ne (c : Int) {k k' : Nat} (h1 : k < 12) (h2 : k' < 12) (hk : k ≠ k') : nmF c k ≠ nmF c k' := fun e => nm_ne (po_ok c) (pl_lt c) _ _ h1 h2 hk (mk_inj e)
theorem nmF_ok (c : Int) (k : Nat) : PyData.strOk (nmF c k) = true := nm_ok (po_ok c) _ _ _ _ _
theorem Nm_D (c : Int) : (Nm c).map D.str = nmD (cs (poF c)) (szF c) (plF c) ((c / 64 % 3 == 1) && decide (szF c < 8)) (c / 32 % 1000003) 12 := by
  unfold Nm nmD
  rw [List.map_map]
  rfl
theorem r_names (cl : Nat -> List D -> Hh -> Res D) (c : Int) (h : Hh) : ∃ J, d_law_names.run cl [.int c, .int 12] h = .ok (.loc (h.length + J.length)) (h ++ (J ++ [.lst ((Nm c).map .str)])) := by
  refine ⟨[.lst [.int 1, .int 8, .int 2, .int 5], .lst [.int 2, .int 5]], ?_⟩
  obtain ⟨H, hH⟩ : ∃ H, H = h ++ [O.lst [.int 1, .int 8, .int 2, .int 5], .lst [.int 2, .int 5]] := ⟨_, rfl⟩
  obtain ⟨x', y', z', w', e⟩ := out_loop cl (po_ok c) c (some (.int 12)) (szF c) (plF c) (pl_lt c) (sz_pos c).2 H 12 0 none none none none (by decide)
  rw [<- List.range_eq_range', Nat.zero_add, <- Nm_D] at e
  have n0 : nmD (cs (poF c)) (szF c) (plF c) ((c / 64 % 3 == 1) && decide (szF c < 8)) (c / 32 % 1000003) 0 = [] := rfl
  rw [n0] at e
  have hsz := sz_pos c
  have s1 : subD (.loc h.length) (.int (c % 4)) (h ++ [O.lst [.int 1, .int 8, .int 2, .int 5]]) = .ok (.int (szF c : Nat)) (h ++ [O.lst [.int 1, .int 8, .int 2, .int 5]]) := by
    have g0 : (h ++ [O.lst [.int 1, .int 8, .int 2, .int 5]])[h.length]? = some (.lst [.int 1, .int 8, .int 2, .int 5]) := by rw [hx0]; rfl
    simp only [subD, g0]
    rcases sz_cases c with ⟨e1, e2, _⟩ | ⟨e1, e2, _⟩ | ⟨e1, e2, _⟩ | ⟨e1, e2, _⟩ <;> rw [e1, e2] <;> rfl
  have i1 : cmpD .In (.int (szF c : Nat)) (.loc (h.length + 1)) H = .ok (.bl (decide (c % 4 = 2 \/ c % 4 = 3))) H := by
    have g0 : H[h.length + 1]? = some (.lst [.int 2, .int 5]) := by rw [hH, hx]; rfl
    simp only [cmp_in, inD, g0]
    rcases sz_cases c with ⟨e1, e2, _⟩ | ⟨e1, e2, _⟩ | ⟨e1, e2, _⟩ | ⟨e1, e2, _⟩ <;> rw [e1, e2] <;> rfl
  have p1 : (c / 4 % (szF c : Int)) = (plF c : Int) := by
    unfold plF
    have m0 : 0 <= c / 4 % (szF c : Int) := Int.emod_nonneg _ (by omega)
    omega
  have md : ∀ h, binD .Mod (.int (c / 4)) (.int (szF c : Nat)) h = .ok (.int (plF c : Nat)) h := fun h => by rw [bin_mod, if_pos (by omega), p1]
  have fd4 : ∀ h, binD .FloorDiv (.int c) (.int 4) h = .ok (.int (c / 4)) h := fun h => by rw [bin_fdiv, if_pos (by decide)]
  have lh : H.length = h.length + 2 := by rw [hH]; simp
  have fin : h ++ ([O.lst [.int 1, .int 8, .int 2, .int 5], .lst [.int 2, .int 5]] ++ [.lst ((Nm c).map .str)]) = H ++ [.lst ((Nm c).map .str)] := by rw [hH]; simp
  rw [fin]
  have e0 : d_law_names.run cl [.int c, .int 12] h = outR (Ss.run cl d_law_names.body [some (.int c), some (.int 12), none, none, none, none, none, none, none, none] h) := rfl
  rw [e0, run_at cl 5]
  have hd : Ss.run cl (takeS 5 d_law_names.body) [some (.int c), some (.int 12), none, none, none, none, none, none, none, none] h = .nx [some (.int c), some (.int 12), some (.int (szF c : Nat)), some (.str (poF c)), some (.int (plF c : Nat)), some (.loc H.length), none, none, none, none] (H ++ [.lst []]) := by
    unfold d_law_names
    simp only [takeS, znil, zcons, yset, yiff, vint, vstr, vvar, vbin, vcmp, vsub, vofL, E.evT, enil, econs, ldisp, new, List.getElem?_cons_zero, List.getElem?_cons_succ, bind_ok, List.length_cons, List.length_nil]
    rw [if_pos (by decide), bind_ok, bind_ok]
    simp only [bind_ok, bin_mod, bin_fdiv, show ((0 : Int) < 4) = True by simp, if_true, s1, andS_ok, seqS_nx, List.set_cons_zero, List.set_cons_succ, List.getElem?_cons_zero, List.getElem?_cons_succ]
    rw [if_pos (by decide), bind_ok, bind_ok]
    have hh : h ++ [O.lst [.int 1, .int 8, .int 2, .int 5]] ++ [.lst [.int 2, .int 5]] = H := by rw [hH]; simp
    have hl : (h ++ [O.lst [.int 1, .int 8, .int 2, .int 5]]).length = h.length + 1 := by simp
    rw [hh, hl, i1]
    by_cases z : c % 4 = 2 \/ c % 4 = 3
    · have pz : poF c = "bcdfghjklmnpqrstuvwxyz" := by unfold poF; rw [if_pos z]
      rw [decide_eq_true z, pz]
      simp only [bind_ok, andS_ok, if_true, seqS_nx, List.getElem?_cons_zero, List.getElem?_cons_succ, fd4, md, List.set_cons_zero, List.set_cons_succ]
      rw [if_pos (by decide)]
      simp only [bind_ok, andS_ok, seqS_nx, List.set_cons_zero, List.set_cons_succ]
    · have pz : poF c = "abcdefghijklmnopqrstuvwxyz" := by unfold poF; rw [if_neg z]
      rw [decide_eq_false z, pz]
      simp only [bind_ok, andS_ok, Bool.false_eq_true, if_false, seqS_nx, List.getElem?_cons_zero, List.getElem?_cons_succ, fd4, md, List.set_cons_zero, List.set_cons_succ]
      rw [if_pos (by decide)]
      simp only [bind_ok, andS_ok, seqS_nx, List.set_cons_zero, List.set_cons_succ]
  rw [hd, seqS_nx]
  unfold d_law_names
  simp only [dropS, znil, zcons, yret, yforr, vvar, irng, List.getElem?_cons_zero, List.getElem?_cons_succ, bind_ok]
  rw [if_pos (by decide)]
  simp only [andS_ok, show (12 : Int).toNat = 12 from rfl]
  rw [e]
  simp only [seqS_nx, List.getElem?_cons_zero, List.getElem?_cons_succ, andS_ok, seqS_rt, outR, lh]
  rfl
end K17
set_option Elab.async false
set_option linter.all false
set_option maxRecDepth 100000
set_option maxHeartbeats 4000000
namespace K17
open PySem L2 PI
noncomputable def q0 (c : Int) (p1 p2 : Nat) : List (Str × D) := [(nmF c 0, dfD (nmF c 0) (List.replicate p1 .non) .non .non), (nmF c 1, dfD (nmF c 1) [.non] .non .non), (nmF c 2, dfD (nmF c 2) (List.replicate p2 .non) (.str (nmF c 9)) .non),
  (nmF c 3, .tup [.str "handler"]), (nmF c 4, .tup [.str "handler"])]
theorem call_mono {qs qs' : List (Str × D)} (hd : ∀ f n b, IsD qs f n b -> IsD qs' f n b) {blk : Option Str} {f : Str} {o : Option Str} {n : Nat} (h : CallOk qs blk f o n) : CallOk qs' blk f o n := by
  obtain ⟨h1, h2, h3⟩ := h
  refine ⟨h1, h2, ?_⟩
  rcases h3 with h3 | ⟨h3, b, h4, h5⟩
  · exact .inl h3
  · refine .inr ⟨h3, b, hd _ _ _ h4, ?_⟩
    cases o with
    | none => exact h5
    | some x => exact ⟨h5.1, h5.2.imp id (hd _ _ _)⟩
theorem gd_mono {qs qs' : List (Str × D)} (hd : ∀ f n b, IsD qs f n b -> IsD qs' f n b) (hh : ∀ x, IsH qs x -> IsH qs' x) {blk : Option Str} {c : Ct} {g : G} (h : Gd qs blk c g) : Gd qs' blk c g := by
  induction h with
  | mk c k ps hk hl _ ih =>
    refine .mk c k ps hk ?_ ih
    cases k with
    | call f o => exact call_mono hd hl
    | handle x => exact ⟨hh _ hl.1, hl.2⟩
    | _ => exact hl
theorem d0_0 (c : Int) (p1 p2 : Nat) : IsD (q0 c p1 p2) (nmF c 0) p1 false := ⟨List.replicate p1 .non, .non, .non, by simp [q0], by simp, .inl ⟨rfl, rfl⟩⟩
theorem d0_1 (c : Int) (p1 p2 : Nat) : IsD (q0 c p1 p2) (nmF c 1) 1 false := ⟨[.non], .non, .non, by simp [q0], rfl, .inl ⟨rfl, rfl⟩⟩
theorem d0_2 (c : Int) (p1 p2 : Nat) : IsD (q0 c p1 p2) (nmF c 2) p2 true := ⟨List.replicate p2 .non, .str (nmF c 9), .non, by simp [q0], by simp, .inr ⟨rfl, _, rfl⟩⟩
theorem h0_34 (c : Int) (p1 p2 : Nat) (i : Nat) (hi : i = 3 \/ i = 4) : IsH (q0 c p1 p2) (nmF c i) := by
  rcases hi with rfl | rfl
  · exact ⟨[], by simp [q0]⟩
  · exact ⟨[], by simp [q0]⟩
noncomputable def goD : Pl -> D
  | .cl => .bl true
  | .fr => .bl false
  | .en => .non
structure Sh (nf nn : Nat) (c : Int) (h : Hh) : Prop where
  fd : Feed nf h
  nm : h[nn]? = some (.lst ((Nm c).map .str))
  ne : nn ≠ nf
theorem Sh.mv {nf nn : Nat} {c : Int} {h h' : Hh} (s : Sh nf nn c h) (f : Feed nf h') (m : Mv nf h h') : Sh nf nn c h' := ⟨f, m.2 nn _ s.ne s.nm, s.ne⟩
theorem Sh.gr {nf nn : Nat} {c : Int} {h : Hh} (s : Sh nf nn c h) (J : Hh) : Sh nf nn c (h ++ J) := s.mv (s.fd.gr J) (Mv.gr nf h J)
theorem Sh.lt {nf nn : Nat} {c : Int} {h : Hh} (s : Sh nf nn c h) : nf < h.length := by obtain ⟨xs, e, _⟩ := s.fd; exact (List.getElem?_eq_some_iff.mp e).1
theorem nm_at {nn : Nat} {c : Int} {h : Hh} (e : h[nn]? = some (.lst ((Nm c).map .str))) (i : Int) (h0 : 0 <= i) (h1 : i < 12) : subD (.loc nn) (.int i) h = .ok (.str (nmF c i.toNat)) h := by
  simp only [subD, e]
  rw [atI_pos h0]
  have : i.toNat < 12 := by omega
  unfold Nm
  rw [List.getElem?_map, List.getElem?_map, List.getElem?_range this]
  rfl
noncomputable def knAt (nk : Nat) (kn : List Str) (h : Hh) : Prop := h[nk]? = some (.lst (kn.map .str))
noncomputable def plD (nn p1 p2 : Nat) : D := .tup [.loc nn, .int (p1 : Nat), .int (p2 : Nat)]
noncomputable def bd : Nat -> Nat
  | 0 => 1
  | d + 1 => 1 + 3 * bd d
theorem bd_pos (d : Nat) : 1 <= bd d := by cases d <;> simp [bd]
noncomputable def BlkOk (c : Int) (blk : Option Str) : Prop := blk = none \/ blk = some (nmF c 9)
theorem blk_ne {c : Int} {blk : Option Str} (h : BlkOk c blk) {k : Nat} (hk : k < 9) : blk ≠ some (nmF c k) := by
  rcases h with rfl | rfl
  · exact fun z => by cases z
  · exact fun z => nmF_ne c (by decide) (by omega) (by omega) (Option.some.inj z)
theorem gd_leaf {qs : List (Str × D)} {blk : Option Str} {c : Ct} {k : Kd} (hk : k.ok 0 = true) (hl : locOk qs blk c k 0) : Gd qs blk c (.nd k []) := by
  refine .mk c k [] hk hl ?_
  intro q hq
  unfold kids at hq
  split at hq
  · rename_i h; cases h
  · rename_i h; cases h
  · cases hq
theorem r_leaf (cl : Nat -> List D -> Hh -> Res D) {qs : List (Str × D)} {blk : Option Str} (p : Pl) (v : Int) (hv : 0 <= v /\ v < 2147483647) {nk : Nat} {kn : List Str} {h : Hh} (hk : knAt nk kn h) (hl : kn.length <= 1000) :
    ∃ g, d_law_leaf.run cl [.int v, .loc nk] h = .ok g.d h /\ Gd qs blk ⟨kn, p⟩ g /\ g.size <= 1 := by
  have rr : rd h nk = some (kn.map .str) := rd_of hk
  have ln : lenD (.loc nk) h = .ok (.int (kn.length : Nat)) h := by rw [len_loc, rr]; simp
  have pw : ∀ h, binD .Pow (.int 10) (.int 18) h = .ok (.int (10 ^ 18)) h := fun h => by rw [bin_pow, if_pos (by decide)]; rfl
  have num : ∃ g, Ss.run cl (dropS 1 d_law_leaf.body) [some (.int v), some (.loc nk)] h = .rt g.d h /\ Gd qs blk ⟨kn, p⟩ g /\ g.size <= 1 := by
    cases z : (v / 2 % 4 == 1) with
    | true =>
      have g1 : fits (v / 8) = true := fits_lt (by omega)
      exact ⟨.nd (.num (v / 8 * 1000000007000003 % 10 ^ 18)) [], iff_r (t_cmp (bnd (bnd rfl (bnd rfl (fdk (by decide)))) (bnd rfl (mdk (by decide)))) rfl (z ▸ eqI)) (ret_r (bnd (bnd rfl (bnd (bnd (bnd (bnd (bnd rfl (bnd rfl (fdk (by decide)))) (bnd rfl (if_pos ⟨g1, by decide⟩))) (bnd (bnd rfl (bnd rfl (pw _))) (mdk (by decide)))) (bnd rfl rfl)) rfl)) rfl)), gd_leaf rfl trivial, Nat.le_refl 1⟩
    | false => exact ⟨.nd (.num (v / 8 % 10)) [], iff_f (t_cmp (bnd (bnd rfl (bnd rfl (fdk (by decide)))) (bnd rfl (mdk (by decide)))) rfl (z ▸ eqI)) (ret_r (bnd (bnd rfl (bnd (bnd (bnd (bnd rfl (bnd rfl (fdk (by decide)))) (bnd rfl (mdk (by decide)))) (bnd rfl rfl)) rfl)) rfl)), gd_leaf rfl trivial, Nat.le_refl 1⟩
  obtain ⟨g, k1, k2, k3⟩ := num
  cases z1 : decide ((0 : Int) < (kn.length : Nat)) with
  | false => exact ⟨g, out_rt (iff_f (t_andF (t_cmp (bnd rfl ln) rfl (z1 ▸ rfl))) k1), k2, k3⟩
  | true =>
    cases z2 : (v % 2 == 1) with
    | false => exact ⟨g, out_rt (iff_f (t_and (t_cmp (bnd rfl ln) rfl (z1 ▸ rfl)) (t_cmp (bnd rfl (bnd rfl (mdk (by decide)))) rfl (z2 ▸ eqI))) k1), k2, k3⟩
    | true =>
      have hm0 : 0 <= v / 2 % (kn.length : Int) := Int.emod_nonneg _ (Int.ne_of_gt (of_decide_eq_true z1))
      have hm1 : v / 2 % (kn.length : Int) < (kn.length : Int) := Int.emod_lt_of_pos _ (of_decide_eq_true z1)
      have lt : (v / 2 % (kn.length : Int)).toNat < kn.length := (Int.toNat_lt hm0).mpr hm1
      have sb : subD (.loc nk) (.int (v / 2 % (kn.length : Int))) h = .ok (.str kn[(v / 2 % (kn.length : Int)).toNat]) h := by
        have hk' : h[nk]? = some (.lst (kn.map .str)) := hk
        simp only [subD, hk']
        rw [atI_pos hm0, List.getElem?_map, List.getElem?_eq_getElem lt]
        rfl
      exact ⟨.nd (.var kn[(v / 2 % (kn.length : Int)).toNat]) [], out_rt (iff_r (t_and (t_cmp (bnd rfl ln) rfl (z1 ▸ rfl)) (t_cmp (bnd rfl (bnd rfl (mdk (by decide)))) rfl (z2 ▸ eqI))) (ret_r (bnd (bnd rfl (bnd (bnd (bnd rfl (bnd (bnd (bnd rfl (bnd rfl (fdk (by decide)))) (bnd (bnd rfl ln) (mdk (of_decide_eq_true z1)))) sb)) (bnd rfl rfl)) rfl)) rfl))), gd_leaf rfl (List.getElem_mem lt), Nat.le_refl 1⟩
end K17
set_option Elab.async false
set_option linter.all false
set_option maxRecDepth 100000
set_option maxHeartbeats 4000000
namespace K17
open PySem L2 PI
theorem compL_ex {c : Ck} {f : D -> Hh -> Res (Option D)} (P : Hh -> Prop) (R : Hh -> Hh -> Prop) (rr : ∀ h, R h h) (rt : ∀ a b d, R a b -> R b d -> R a d) (st : ∀ h, P h -> stay c h) (Q : D -> Prop) : ∀ (xs acc : List D) (h : Hh), P h -> (∀ x ∈ xs, ∀ h, P h -> ∃ d h', f x h = .ok (some d) h' /\ P h' /\ R h h' /\ Q d) ->
    ∃ ds h', compL c f xs acc h = .ok (acc ++ ds) h' /\ P h' /\ R h h' /\ (∀ d ∈ ds, Q d) /\ ds.length = xs.length
  | [], acc, h, hp, _ => ⟨[], h, by simp [compL, st h hp], hp, rr h, by simp, rfl⟩
  | x :: r, acc, h, hp, hf => by
    obtain ⟨d, h1, e1, p1, r1, q1⟩ := hf x (List.mem_cons_self ..) h hp
    obtain ⟨ds, h2, e2, p2, r2, q2, q3⟩ := compL_ex P R rr rt st Q r (acc ++ [d]) h1 p1 fun y hy => hf y (List.mem_cons_of_mem _ hy)
    refine ⟨d :: ds, h2, ?_, p2, rt _ _ _ r1 r2, fun z hz => by rcases List.mem_cons.mp hz with rfl | hz; exact q1; exact q2 z hz, by simp [q3]⟩
    unfold compL
    rw [if_pos (st h hp), e1, bind_ok, addO_some, e2]
    simp
theorem ds_ex {P : G -> Prop} : ∀ (ds : List D), (∀ x ∈ ds, ∃ g : G, x = g.d /\ P g) -> ∃ gs : List G, ds = G.ds gs /\ (∀ g ∈ gs, P g) /\ gs.length = ds.length
  | [], _ => ⟨[], by rw [G.ds], by simp, rfl⟩
  | x :: r, h => by
    obtain ⟨g, e, w⟩ := h x (List.mem_cons_self ..)
    obtain ⟨gs, e2, w2, l2⟩ := ds_ex r fun y hy => h y (List.mem_cons_of_mem _ hy)
    refine ⟨g :: gs, by rw [G.ds, e, e2], fun q hq => ?_, by simp [l2]⟩
    rcases List.mem_cons.mp hq with rfl | hq
    · exact w
    · exact w2 q hq
noncomputable def GoodOk (nf nn : Nat) (c : Int) (p1 p2 : Nat) (cl : Nat -> List D -> Hh -> Res D) (d : Nat) : Prop := ∀ (p : Pl) (blk : Option Str) (kn : List Str) (nk : Nat) (h : Hh), BlkOk c blk -> Sh nf nn c h -> knAt nk kn h -> nk ≠ nf -> kn.length + d <= 100 ->
  ∃ g h', cl 21 [.loc nf, .int (d : Nat), plD nn p1 p2, .loc nk, optD blk, goD p] h = .ok g.d h' /\ Feed nf h' /\ Mv nf h h' /\ Gd (q0 c p1 p2) blk ⟨kn, p⟩ g /\ g.size <= bd d
noncomputable def SomeOk (nf nn : Nat) (c : Int) (p1 p2 : Nat) (cl : Nat -> List D -> Hh -> Res D) (d : Nat) : Prop := ∀ (p : Pl) (blk : Option Str) (kn : List Str) (nk m : Nat) (h : Hh), BlkOk c blk -> Sh nf nn c h -> knAt nk kn h -> nk ≠ nf -> kn.length + d <= 100 -> m <= 3 ->
  ∃ gs h', cl 18 [.loc nf, .int ((d : Int) + 1), plD nn p1 p2, .loc nk, optD blk, goD p, .int (m : Nat)] h = .ok (.loc h'.length) (h' ++ [.lst (G.ds gs)]) /\ Feed nf h' /\ Mv nf h h' /\ (∀ g ∈ gs, Gd (q0 c p1 p2) blk ⟨kn, p⟩ g /\ g.size <= bd d) /\ gs.length = m
theorem r_some {nf nn : Nat} {c : Int} {p1 p2 : Nat} (cl : Nat -> List D -> Hh -> Res D) (d : Nat) (C : GoodOk nf nn c p1 p2 cl d) (p : Pl) (blk : Option Str) (kn : List Str) (nk m : Nat) (h : Hh) (hb : BlkOk c blk) (s : Sh nf nn c h) (hk : knAt nk kn h) (hn : nk ≠ nf) (hl : kn.length + d <= 100) (hm : m <= 3) :
    ∃ gs h', d_law_some.run cl [.loc nf, .int ((d : Int) + 1), plD nn p1 p2, .loc nk, optD blk, goD p, .int (m : Nat)] h = .ok (.loc h'.length) (h' ++ [.lst (G.ds gs)]) /\ Feed nf h' /\ Mv nf h h' /\ (∀ g ∈ gs, Gd (q0 c p1 p2) blk ⟨kn, p⟩ g /\ g.size <= bd d) /\ gs.length = m := by
  obtain ⟨ds, h1, k1, ⟨s1, kn1⟩, r1, q1, q2⟩ := compL_ex (c := []) (f := compF t_law_some_1 [none, some (optD blk), some (.int ((d : Int) + 1)), some (.loc nf), some (goD p), some (.loc nk), some (plD nn p1 p2)] (fun ρ' h2 => c_law_some_1.evC cl ρ' h2) (fun ρ' h2 => e_law_some_1.ev cl ρ' h2))
    (fun h => Sh nf nn c h /\ knAt nk kn h) (Mv nf) (Mv.refl nf) (Mv.trans nf) (fun _ _ => stay_nil) (fun x => ∃ g : G, x = g.d /\ (Gd (q0 c p1 p2) blk ⟨kn, p⟩ g /\ g.size <= bd d)) ((List.range m).map fun k => D.int (k : Nat)) [] h ⟨s, hk⟩ (by
      rintro x hx h ⟨sh, kh⟩
      obtain ⟨i, _, rfl⟩ := List.mem_map.mp hx
      obtain ⟨g1, h1, k1, f1, m1, w1, w2⟩ := C p blk kn nk h hb sh kh hn hl
      refine ⟨g1.d, h1, ?_, ⟨sh.mv f1 m1, m1.2 nk _ hn kh⟩, m1, g1, rfl, w1, w2⟩
      have sb : binD .Sub (.int ((d : Int) + 1)) (.int 1) h = .ok (.int (d : Nat)) h := congrArg (fun i => Res.ok (D.int i) h) (Int.add_sub_cancel (d : Int) 1)
      exact compF_t rfl rfl (bnd rfl (bnd (bnd (bnd rfl (bnd rfl sb)) (bnd rfl rfl)) k1)))
  obtain ⟨gs, rfl, gw, gl⟩ := ds_ex ds q1
  refine ⟨gs, h1, ?_, s1.fd, r1, gw, by rw [gl, q2]; simp⟩
  rw [List.nil_append] at k1
  exact out_rt (ret_r (bnd (bnd (rng_s (j := (m : Nat)) rfl ⟨Int.le_trans (by decide) (Int.natCast_nonneg _), Int.ofNat_le.mpr (Nat.le_trans hm (by decide))⟩) ((if_pos (by rw [List.length_map, List.length_range]; exact Nat.le_trans hm (by decide))).trans k1)) rfl))
theorem gds_call {qs : List (Str × D)} {blk : Option Str} {c : Ct} {f : Str} {o : Option Str} {gs : List G} {d : Nat} (hc : CallOk qs blk f o gs.length) (hg : ∀ g ∈ gs, Gd qs blk c g /\ g.size <= bd d) (hl : gs.length <= 3) : Gd qs blk c (.nd (.call f o) gs) /\ (G.nd (.call f o) gs).size <= bd (d + 1) := by
  constructor
  · refine .mk c _ gs rfl hc ?_
    intro q hq
    have : kids c (.call f o) gs = gs.map fun g => (g, c) := by unfold kids; rfl
    rw [this] at hq
    obtain ⟨g, hm, rfl⟩ := List.mem_map.mp hq
    exact (hg g hm).1
  · rw [G.size, bd]
    have : ∀ gs : List G, (∀ g ∈ gs, g.size <= bd d) -> G.sizes gs <= gs.length * bd d := by
      intro gs
      induction gs with
      | nil => intro _; simp [G.sizes]
      | cons q r ih =>
        intro hq
        have h1 := hq q (List.mem_cons_self ..)
        have h2 := ih fun g hm => hq g (List.mem_cons_of_mem _ hm)
        rw [G.sizes, List.length_cons, Nat.add_mul]; omega
    have h1 := this gs fun g hm => (hg g hm).2
    have h2 := Nat.mul_le_mul_right (bd d) hl
    omega
noncomputable def CallsOk (nf nn : Nat) (c : Int) (p1 p2 : Nat) (cl : Nat -> List D -> Hh -> Res D) (d : Nat) : Prop := ∀ (p : Pl) (blk : Option Str) (kn : List Str) (nk : Nat) (v : Int) (h : Hh), BlkOk c blk -> Sh nf nn c h -> knAt nk kn h -> nk ≠ nf -> kn.length + d <= 100 ->
  ∃ g h', cl 20 [.loc nf, .int ((d : Int) + 1), plD nn p1 p2, .loc nk, optD blk, goD p, .int v] h = .ok g.d h' /\ Feed nf h' /\ Mv nf h h' /\ Gd (q0 c p1 p2) blk ⟨kn, p⟩ g /\ g.size <= bd (d + 1)
theorem r_call {nf nn : Nat} {c : Int} {p1 p2 : Nat} (h1 : p1 <= 2) (h2 : p2 <= 2) (cl : Nat -> List D -> Hh -> Res D) (d : Nat) (C : SomeOk nf nn c p1 p2 cl d) (p : Pl) (blk : Option Str) (kn : List Str) (nk : Nat) (v : Int) (h : Hh) (hb : BlkOk c blk) (s : Sh nf nn c h) (hk : knAt nk kn h) (hn : nk ≠ nf) (hl : kn.length + d <= 100) :
    ∃ g h', d_law_call.run cl [.loc nf, .int ((d : Int) + 1), plD nn p1 p2, .loc nk, optD blk, goD p, .int v] h = .ok g.d h' /\ Feed nf h' /\ Mv nf h h' /\ Gd (q0 c p1 p2) blk ⟨kn, p⟩ g /\ g.size <= bd (d + 1) := by
  have n0 := nm_at s.nm 0 (by decide) (by decide)
  have n1 := nm_at s.nm 1 (by decide) (by decide)
  have n2 := nm_at s.nm 2 (by decide) (by decide)
  have tu : ∀ (h' : Hh) (gs : List G), seqOf (.loc h'.length) (h' ++ [O.lst (G.ds gs)]) = some (G.ds gs) := fun h' gs => by simp only [seqOf]; rw [rdx0]; rfl
  have dc : ∀ (f : Str) (o : Option Str) (gs : List G), (G.nd (.call f o) gs).d = .tup [.str "call", .str f, optD o, .tup (G.ds gs)] := fun f o gs => by rw [G.d]; rfl
  cases z0 : (v % 4 == 0) with
  | true =>
    obtain ⟨gs, h', k1, F1, M1, w1, l1⟩ := C p blk kn nk p1 h hb s hk hn hl (by omega)
    obtain ⟨g1, g2⟩ := gds_call (f := nmF c 0) (o := none) (qs := q0 c p1 p2) (blk := blk) ⟨nmF_ok c 0, trivial, .inr ⟨blk_ne hb (by decide), false, by rw [l1]; exact d0_0 c p1 p2, rfl⟩⟩ w1 (by omega)
    refine ⟨_, h' ++ [.lst (G.ds gs)], ?_, F1.gr _, Mv.trans nf _ _ _ M1 (Mv.gr nf _ _), g1, g2⟩
    rw [dc]
    exact out_rt (set_s (d := .loc nn) rfl (iff_r (t_cmp (bnd rfl (bnd rfl (mdk (by decide)))) rfl (z0 ▸ eqI)) (ret_r (bnd (bnd rfl (bnd (bnd (bnd rfl (bnd rfl n0)) (bnd (bnd rfl (bnd (bnd (tupE_s (bnd rfl (bnd rfl k1)) (tu _ _)) (bnd rfl rfl)) rfl)) rfl)) rfl)) rfl))))
  | false =>
    obtain ⟨hx, hx1, hx2, hd⟩ : ∃ x : Str, PyData.strOk x = true /\ (blk = some x \/ (blk ≠ some x /\ IsD (q0 c p1 p2) x 1 false)) /\ ∀ o, Ss.run cl (dropS 4 d_law_call.body) [some (.loc nf), some (.int ((d : Int) + 1)), some (plD nn p1 p2), some (.loc nk), some (optD blk), some (goD p), some (.int v), some (.loc nn), some (.str x)] h = o -> Ss.run cl d_law_call.body [some (.loc nf), some (.int ((d : Int) + 1)), some (plD nn p1 p2), some (.loc nk), some (optD blk), some (goD p), some (.int v), none, none] h = o := by
      have T0 : ∀ {b1 b2 : Option D}, E.evT cl (.cmp .Eq (.bin .Mod (.var 6 ⟨140, 7, 140, 21⟩) (.int 4 ⟨140, 24, 140, 25⟩) ⟨140, 7, 140, 25⟩) (.int 0 ⟨140, 29, 140, 30⟩) ⟨140, 7, 140, 30⟩) [some (.loc nf), some (.int ((d : Int) + 1)), some (plD nn p1 p2), some (.loc nk), some (optD blk), some (goD p), some (.int v), b1, b2] h = .ok false h := (t_cmp (bnd rfl (bnd rfl (mdk (by decide)))) rfl (z0 ▸ eqI))
      have T2 : ∀ {t : Bool} {b1 b2 : Option D}, (v / 4 % 2 == 1) = t -> E.evT cl (.cmp .Eq (.bin .Mod (.bin .FloorDiv (.var 6 ⟨143, 34, 143, 48⟩) (.int 4 ⟨143, 52, 143, 53⟩) ⟨143, 34, 143, 53⟩) (.int 2 ⟨143, 56, 143, 57⟩) ⟨143, 34, 143, 57⟩) (.int 1 ⟨143, 61, 143, 62⟩) ⟨143, 34, 143, 62⟩) [some (.loc nf), some (.int ((d : Int) + 1)), some (plD nn p1 p2), some (.loc nk), some (optD blk), some (goD p), some (.int v), b1, b2] h = .ok t h := fun z => t_cmp (bnd (bnd rfl (bnd rfl (fdk (by decide)))) (bnd rfl (mdk (by decide)))) rfl (z ▸ eqI)
      rcases hb with rfl | rfl
      · exact ⟨nmF c 1, nmF_ok c 1, .inr ⟨(fun z => by cases z), d0_1 c p1 p2⟩, fun o k => set_s (d := .loc nn) rfl (iff_f T0 (set_s (bnd rfl (bnd rfl n1)) (iff_f (t_andF (t_cmp rfl rfl rfl)) k)))⟩
      · cases zz : (v / 4 % 2 == 1) with
        | true => exact ⟨nmF c 9, nmF_ok c 9, .inl rfl, fun o k => set_s (d := .loc nn) rfl (iff_f T0 (set_s (bnd rfl (bnd rfl n1)) (iff_n (t_and (t_cmp rfl rfl rfl) (T2 zz)) (set_s rfl rfl) k)))⟩
        | false => exact ⟨nmF c 1, nmF_ok c 1, .inr ⟨fun z => nmF_ne c (by decide) (by decide) (by decide) (Option.some.inj z), d0_1 c p1 p2⟩, fun o k => set_s (d := .loc nn) rfl (iff_f T0 (set_s (bnd rfl (bnd rfl n1)) (iff_f (t_and (t_cmp rfl rfl rfl) (T2 zz)) k)))⟩
    cases z1 : (v % 4 == 1) with
    | true =>
      obtain ⟨gs, h', k1, F1, M1, w1, l1⟩ := C p blk kn nk 1 h hb s hk hn hl (by decide)
      have co : CallOk (q0 c p1 p2) blk hx none gs.length := by
        rw [l1]
        refine ⟨hx1, trivial, ?_⟩
        rcases hx2 with z | ⟨z, w⟩
        · exact .inl ⟨z, rfl, rfl⟩
        · exact .inr ⟨z, false, w, rfl⟩
      obtain ⟨g1, g2⟩ := gds_call co w1 (by omega)
      refine ⟨_, h' ++ [.lst (G.ds gs)], ?_, F1.gr _, Mv.trans nf _ _ _ M1 (Mv.gr nf _ _), g1, g2⟩
      rw [dc]
      exact out_rt (hd _ (iff_r (t_cmp (bnd rfl (bnd rfl (mdk (by decide)))) rfl (z1 ▸ eqI)) (ret_r (bnd (bnd rfl (bnd (bnd rfl (bnd (bnd rfl (bnd (bnd (tupE_s (bnd rfl (bnd rfl k1)) (tu _ _)) (bnd rfl rfl)) rfl)) rfl)) rfl)) rfl))))
    | false =>
      obtain ⟨gs, h', k1, F1, M1, w1, l1⟩ := C p blk kn nk p2 h hb s hk hn hl (by omega)
      have co : CallOk (q0 c p1 p2) blk (nmF c 2) (some hx) gs.length := by
        rw [l1]
        refine ⟨nmF_ok c 2, hx1, .inr ⟨blk_ne hb (by decide), true, d0_2 c p1 p2, rfl, ?_⟩⟩
        rcases hx2 with z | ⟨z, w⟩
        · exact .inl z
        · exact .inr w
      obtain ⟨g1, g2⟩ := gds_call co w1 (by omega)
      refine ⟨_, h' ++ [.lst (G.ds gs)], ?_, F1.gr _, Mv.trans nf _ _ _ M1 (Mv.gr nf _ _), g1, g2⟩
      rw [dc]
      exact out_rt (hd _ (iff_f (t_cmp (bnd rfl (bnd rfl (mdk (by decide)))) rfl (z1 ▸ eqI)) (ret_r (bnd (bnd rfl (bnd (bnd (bnd rfl (bnd rfl n2)) (bnd (bnd rfl (bnd (bnd (tupE_s (bnd rfl (bnd rfl k1)) (tu _ _)) (bnd rfl rfl)) rfl)) rfl)) rfl)) rfl))))
end K17
set_option Elab.async false
set_option linter.all false
set_option maxRecDepth 100000
set_option maxHeartbeats 4000000
namespace K17
open PySem L2 PI
section
variable {qs : List (Str × D)} {blk : Option Str} {c : Ct}
theorem gd_same {k : Kd} {ps : List G} (hk : k.ok ps.length = true) (hl : locOk qs blk c k ps.length) (h1 : k.isLet = false) (h2 : k.isHd = false) (hg : ∀ g ∈ ps, Gd qs blk c g) : Gd qs blk c (.nd k ps) := by
  refine .mk c k ps hk hl ?_
  intro q hq
  have : kids c k ps = ps.map fun g => (g, c) := by cases k <;> first | rfl | (cases h1; done) | (cases h2; done)
  rw [this] at hq
  obtain ⟨g, hm, rfl⟩ := List.mem_map.mp hq
  exact hg g hm
theorem gd_let {x : Str} {a b : G} (ha : Gd qs blk c a) (hb : Gd qs blk ⟨c.kn ++ [x], c.pl⟩ b) : Gd qs blk c (.nd (.lett x) [a, b]) := by
  refine .mk c _ _ rfl trivial ?_
  intro q hq
  simp [kids] at hq
  rcases hq with rfl | rfl
  · exact ha
  · exact hb
theorem gd_hd {x : Str} {a b : G} (hx : IsH qs x) (hp : c.pl ≠ .en) (ha : Gd qs blk c a) (hb : Gd qs blk ⟨c.kn, .fr⟩ b) : Gd qs blk c (.nd (.handle x) [a, b]) := by
  refine .mk c _ _ rfl ⟨hx, hp⟩ ?_
  intro q hq
  simp [kids] at hq
  rcases hq with rfl | rfl
  · exact ha
  · exact hb
end
theorem sz_of {k : Kd} {gs : List G} {d : Nat} (hg : ∀ g ∈ gs, g.size <= bd d) (hl : gs.length <= 3) : (G.nd k gs).size <= bd (d + 1) := by
  rw [G.size, bd]
  have : ∀ gs : List G, (∀ g ∈ gs, g.size <= bd d) -> G.sizes gs <= gs.length * bd d := by
    intro gs
    induction gs with
    | nil => intro _; simp [G.sizes]
    | cons q r ih =>
      intro hq
      have h1 := hq q (List.mem_cons_self ..)
      have h2 := ih fun g hm => hq g (List.mem_cons_of_mem _ hm)
      rw [G.sizes, List.length_cons, Nat.add_mul]; omega
  have h1 := this gs hg
  have h2 := Nat.mul_le_mul_right (bd d) hl
  omega
noncomputable def C16 (nf : Nat) (cl : Nat -> List D -> Hh -> Res D) : Prop := ∀ h, Feed nf h -> ∃ v h', cl 16 [.loc nf] h = .ok (.int v) h' /\ Feed nf h' /\ Mv nf h h' /\ 0 <= v /\ v < 2147483647
noncomputable def C19 (cl : Nat -> List D -> Hh -> Res D) : Prop := ∀ {qs : List (Str × D)} {blk : Option Str} (p : Pl) (v : Int), 0 <= v /\ v < 2147483647 -> ∀ {nk : Nat} {kn : List Str} {h : Hh}, knAt nk kn h -> kn.length <= 1000 -> ∃ g, cl 19 [.int v, .loc nk] h = .ok g.d h /\ Gd qs blk ⟨kn, p⟩ g /\ g.size <= 1
theorem tagged {nf nn : Nat} {c : Int} {p1 p2 : Nat} {cl : Nat -> List D -> Hh -> Res D} {e : Nat} (C : SomeOk nf nn c p1 p2 cl e) (T : Str) (p : Pl) (blk : Option Str) (kn : List Str) (nk m : Nat) (h : Hh) (hb : BlkOk c blk) (s : Sh nf nn c h) (hk : knAt nk kn h) (hn : nk ≠ nf) (hl : kn.length + e <= 100) (hm : m <= 3) :
    ∃ gs h', cl 18 [.loc nf, .int ((e : Int) + 1), plD nn p1 p2, .loc nk, optD blk, goD p, .int (m : Nat)] (h ++ [.lst [.str T]]) = .ok (.loc h'.length) (h' ++ [.lst (G.ds gs)]) /\
      binD .Add (.loc h.length) (.loc h'.length) (h' ++ [.lst (G.ds gs)]) = .ok (.loc (h'.length + 1)) (h' ++ [.lst (G.ds gs), .lst (.str T :: G.ds gs)]) /\ seqOf (.loc (h'.length + 1)) (h' ++ [.lst (G.ds gs), .lst (.str T :: G.ds gs)]) = some (.str T :: G.ds gs) /\
      Feed nf (h' ++ [.lst (G.ds gs), .lst (.str T :: G.ds gs)]) /\ Mv nf h (h' ++ [.lst (G.ds gs), .lst (.str T :: G.ds gs)]) /\ (∀ g ∈ gs, Gd (q0 c p1 p2) blk ⟨kn, p⟩ g /\ g.size <= bd e) /\ gs.length = m := by
  obtain ⟨gs, h', k1, F1, M1, w1, l1⟩ := C p blk kn nk m (h ++ [.lst [.str T]]) hb (s.gr _) (get_old hk) hn hl hm
  have lt := s.lt
  have g1 : h'[h.length]? = some (.lst [.str T]) := M1.2 h.length _ (by omega) (by rw [hx0]; rfl)
  refine ⟨gs, h', k1, ?_, ?_, F1.gr _, Mv.trans nf _ _ _ (Mv.trans nf _ _ _ (Mv.gr nf h [.lst [.str T]]) M1) (Mv.gr nf _ _), w1, l1⟩
  · have g2 : (h' ++ [O.lst (G.ds gs)])[h.length]? = some (.lst [.str T]) := get_old g1
    have g3 : (h' ++ [O.lst (G.ds gs)])[h'.length]? = some (.lst (G.ds gs)) := by rw [hx0]; rfl
    rw [bin_addl]
    rw [g2, g3]
    simp only
    rw [if_pos (by simp [ds_len]; omega)]
    simp
  · simp only [seqOf]
    rw [rdx]
    rfl
end K17
set_option Elab.async false
set_option linter.all false
set_option maxRecDepth 100000
set_option maxHeartbeats 4000000
namespace K17
open PySem L2 PI
theorem sgn_at (i : Int) (h0 : 0 <= i) (h1 : i < 4) : ∃ w, ∀ h, subD (.str (Str.ofString "+-*<")) (.int i) h = .ok (.str w) h := by
  have hi : i = 0 \/ i = 1 \/ i = 2 \/ i = 3 := by omega
  have hl : (Str.ofString "+-*<").length <= 1000000 := by decide
  rcases hi with rfl | rfl | rfl | rfl
  · exact ⟨⟨#[43]⟩, fun h => by simp only [subD]; rw [if_pos hl]; rfl⟩
  · exact ⟨⟨#[45]⟩, fun h => by simp only [subD]; rw [if_pos hl]; rfl⟩
  · exact ⟨⟨#[42]⟩, fun h => by simp only [subD]; rw [if_pos hl]; rfl⟩
  · exact ⟨⟨#[60]⟩, fun h => by simp only [subD]; rw [if_pos hl]; rfl⟩
theorem g_tag (k : Kd) (gs : List G) (h : k = .ite \/ k = .go \/ k = .guard) : (G.nd k gs).d = .tup (.str k.tag :: G.ds gs) := by
  rw [G.d]; rcases h with rfl | rfl | rfl <;> rfl
section
variable {nf nn : Nat} {c : Int} {p1 p2 : Nat}
theorem good_head (cl : Nat -> List D -> Hh -> Res D) (d : Int) (PL K B GO : D) (v : Int) (h h1 : Hh) (k16 : cl 16 [.loc nf] h = .ok (.int v) h1) (a0 : ∀ h, subD PL (.int 0) h = .ok (.loc nn) h) :
    d_law_good.run cl [.loc nf, .int d, PL, K, B, GO] h = outR (Ss.run cl (dropS 3 d_law_good.body) [some (.loc nf), some (.int d), some PL, some K, some B, some GO, some (.int v), some (.int (v % 12)), some (.loc nn), none, none, none, none] h1) := by
  have e : d_law_good.run cl [.loc nf, .int d, PL, K, B, GO] h = outR (Ss.run cl d_law_good.body [some (.loc nf), some (.int d), some PL, some K, some B, some GO, none, none, none, none, none, none, none] h) := rfl
  rw [e, run_at cl 3]
  congr 1
  have m12 : ∀ h, binD .Mod (.int v) (.int 12) h = .ok (.int (v % 12)) h := fun h => by rw [bin_mod, if_pos (by decide)]
  unfold d_law_good
  simp only [takeS, znil, zcons, yset, vint, vvar, vbin, vcall, vsub, enil, List.getElem?_cons_zero, List.getElem?_cons_succ, bind_ok, k16, andS_ok, List.set_cons_zero, List.set_cons_succ, seqS_nx, m12, a0]
theorem r_goodL (cl : Nat -> List D -> Hh -> Res D) (d : Nat) (PL B GO : D) (v : Int) (hv : 0 <= v /\ v < 2147483647) (c19 : C19 cl) (p : Pl) (blk : Option Str) (kn : List Str) (nk : Nat) (h1 : Hh) (F1 : Feed nf h1) (hk : knAt nk kn h1) (hl : kn.length <= 1000)
    (hleaf : (d : Int) = 0 \/ (∃ xs : List Int, h1[nf]? = some (.lst (xs.map .int)) /\ xs.length = 0) \/ v % 12 < 2) :
    ∃ g, outR (Ss.run cl (dropS 3 d_law_good.body) [some (.loc nf), some (.int d), some PL, some (.loc nk), some B, some GO, some (.int v), some (.int (v % 12)), some (.loc nn), none, none, none, none] h1) = .ok g.d h1 /\ Gd (q0 c p1 p2) blk ⟨kn, p⟩ g /\ g.size <= 1 := by
  obtain ⟨g, k1, k2, k3⟩ := c19 (qs := q0 c p1 p2) (blk := blk) p (v / 12) (by omega) hk hl
  refine ⟨g, ?_, k2, k3⟩
  obtain ⟨xs, x1, _, _⟩ := F1
  have ln : lenD (.loc nf) h1 = .ok (.int (xs.length : Nat)) h1 := by rw [len_loc, rd_of x1]; simp
  have rt : ∀ {a b d' e f i : Pos}, Ss.run cl (.cons (.ret (.call 19 (.bin .FloorDiv (.var 6 a) (.int 12 b) d') (.cons (.var 3 e) .nil) f i) i) .nil) [some (.loc nf), some (.int d), some PL, some (.loc nk), some B, some GO, some (.int v), some (.int (v % 12)), some (.loc nn), none, none, none, none] h1 = .rt g.d h1 := ret_r (bnd (bnd rfl (bnd rfl (fdk (by decide)))) (bnd rfl k1))
  cases z1 : ((d : Int) == 0) with
  | true => exact out_rt (iff_r (t_orT (t_cmp rfl rfl (z1 ▸ eqI))) rt)
  | false =>
    cases z2 : ((xs.length : Int) == 0) with
    | true => exact out_rt (iff_r (t_or2 (t_cmp rfl rfl (z1 ▸ eqI)) (t_cmp (bnd rfl ln) rfl (z2 ▸ eqI))) rt)
    | false =>
      have z3 : v % 12 < 2 := by
        rcases hleaf with q | ⟨ys, y1, y2⟩ | q
        · rw [q] at z1; cases z1
        · rw [x1] at y1
          have : (xs.map D.int).length = (ys.map D.int).length := by rw [O.lst.inj (Option.some.inj y1)]
          rw [List.length_map, List.length_map] at this
          rw [this, y2] at z2
          cases z2
        · exact q
      exact out_rt (iff_r (t_or3 (t_cmp rfl rfl (z1 ▸ eqI)) (t_cmp (bnd rfl ln) rfl (z2 ▸ eqI)) (t_cmp rfl rfl (decide_eq_true z3 ▸ rfl))) rt)
theorem r_goodH (cl : Nat -> List D -> Hh -> Res D) (e : Nat) (PL K B GO : D) (v f : Int) (hf : v % 12 = f) (hf2 : 2 <= f) (h1 : Hh) (xs : List Int) (x1 : h1[nf]? = some (.lst (xs.map .int))) (x0 : xs.length ≠ 0) :
    Ss.run cl (dropS 3 d_law_good.body) [some (.loc nf), some (.int ((e : Int) + 1)), some PL, some K, some B, some GO, some (.int v), some (.int (v % 12)), some (.loc nn), none, none, none, none] h1 =
    Ss.run cl (dropS 4 d_law_good.body) [some (.loc nf), some (.int ((e : Int) + 1)), some PL, some K, some B, some GO, some (.int v), some (.int f), some (.loc nn), none, none, none, none] h1 := by
  have ln : lenD (.loc nf) h1 = .ok (.int (xs.length : Nat)) h1 := by rw [len_loc, rd_of x1]; simp
  have e1 : cmpD .Eq (.int ((e : Int) + 1)) (.int 0) h1 = .ok (.bl false) h1 := by
    rw [eqI]
    have : ((e : Int) + 1 == 0) = false := by simp; omega
    rw [this]
  have e2 : cmpD .Eq (.int (xs.length : Nat)) (.int 0) h1 = .ok (.bl false) h1 := by
    rw [eqI]
    have : ((xs.length : Int) == 0) = false := by simp; intro z; rw [z] at x0; exact x0 rfl
    rw [this]
  have lt : ∀ h, cmpD .Lt (.int f) (.int 2) h = .ok (.bl false) h := fun h => by
    rw [cmp_lt, decide_eq_false (by omega)]
  rw [hf]
  exact iff_f (t_or3 (t_cmp rfl rfl e1) (t_cmp (bnd rfl ln) rfl e2) (t_cmp rfl rfl (lt _))) rfl
end
end K17
set_option Elab.async false
set_option linter.all false
set_option maxRecDepth 100000
set_option maxHeartbeats 4000000
namespace K17
open PySem L2 PI
section
variable {nf nn : Nat} {c : Int} {p1 p2 : Nat}
theorem r_goodN (cl : Nat -> List D -> Hh -> Res D) (e : Nat) (CG : GoodOk nf nn c p1 p2 cl e) (CS : SomeOk nf nn c p1 p2 cl e) (CC : CallsOk nf nn c p1 p2 cl e) (p : Pl) (blk : Option Str) (kn : List Str) (nk : Nat) (h1 : Hh) (hb : BlkOk c blk) (s : Sh nf nn c h1) (hk : knAt nk kn h1) (hn : nk ≠ nf) (hl : kn.length + (e + 1) <= 100)
    (v f : Int) (hf : 2 <= f /\ f < 12) :
    ∃ g h', outR (Ss.run cl (dropS 4 d_law_good.body) [some (.loc nf), some (.int ((e : Int) + 1)), some (plD nn p1 p2), some (.loc nk), some (optD blk), some (goD p), some (.int v), some (.int f), some (.loc nn), none, none, none, none] h1) = .ok g.d h' /\ Feed nf h' /\ Mv nf h1 h' /\ Gd (q0 c p1 p2) blk ⟨kn, p⟩ g /\ g.size <= bd (e + 1) := by
  have hl' : kn.length + e <= 100 := Nat.le_trans (Nat.le_succ _) hl
  have hl1 : kn.length + 1 + e <= 100 := by rw [Nat.add_right_comm]; exact hl
  have f12 : ∀ h, binD .FloorDiv (.int v) (.int 12) h = .ok (.int (v / 12)) h := fun h => by rw [bin_fdiv, if_pos (by decide)]
  have sb : ∀ h, binD .Sub (.int ((e : Int) + 1)) (.int 1) h = .ok (.int (e : Nat)) h := fun h => by
    rw [bin_sub]
    have : (e : Int) + 1 - 1 = e := by omega
    rw [this]
  have d2 : ∀ (k : Kd) (a b : G), (G.nd k [a, b]).d = k.enc [a.d, b.d] := fun k a b => by simp [G.d, G.ds]
  have d1 : ∀ (k : Kd) (a : G), (G.nd k [a]).d = k.enc [a.d] := fun k a => by simp [G.d, G.ds]
  have tg : ∀ {ρ : En} {x : Str} {q0 q1 q2 q3 q4 : Pos} {e : E} {n : Nat} {l : List D} {t : D} {h2 h3 : Hh}, e.ev cl ρ (h1 ++ [.lst [.str x]]) = .ok (.loc n) h2 -> binD .Add (.loc h1.length) (.loc n) h2 = .ok t h3 -> seqOf t h3 = some l -> E.ev cl (.tupE (.bin .Add (.ofL (.disp (.cons (.str x q0) .nil) q1)) e q2) q3 q4) ρ h1 = .ok (.tup l) h3 := by
    intro ρ x q0 q1 q2 q3 q4 e n l t h2 h3 a1 a2 a3
    refine bnd (bnd rfl (bnd a1 a2)) ?_
    show (match seqOf t h3 with | some xs => Res.ok (D.tup xs) h3 | none => .no) = _
    rw [a3]
  have cs : f = 2 \/ f = 3 \/ f = 4 \/ (f = 5 \/ f = 6) \/ (f = 7 \/ f = 8) \/ f = 9 \/ f = 10 \/ f = 11 := by
    obtain ⟨m, rfl⟩ := Int.eq_ofNat_of_zero_le (Int.le_trans (by decide) hf.1)
    exact (by decide : ∀ m : Nat, m < 12 -> 2 <= m -> ((m : Int) = 2 \/ (m : Int) = 3 \/ (m : Int) = 4 \/ ((m : Int) = 5 \/ (m : Int) = 6) \/ ((m : Int) = 7 \/ (m : Int) = 8) \/ (m : Int) = 9 \/ (m : Int) = 10 \/ (m : Int) = 11)) m (Int.ofNat_lt.mp hf.2) (Int.ofNat_le.mp hf.1)
  have lst : ∀ {g : G} {a b : G}, g ∈ [a, b] -> g = a \/ g = b := fun hg => by simpa using hg
  rcases cs with q | q | q | q | q | q | q | q
  ·
    subst q
    obtain ⟨gs, h', k1, F1, M1, w1, l1⟩ := CS p blk kn nk 2 h1 hb s hk hn hl' (by decide)
    obtain ⟨a, b, rfl⟩ : ∃ a b, gs = [a, b] := len2 (P := fun gs => ∃ a b, gs = [a, b]) (fun a b => ⟨a, b, rfl⟩) gs l1
    obtain ⟨w, hw⟩ := sgn_at (v / 12 % 4) (Int.emod_nonneg _ (by decide)) (Int.emod_lt_of_pos _ (by decide))
    have r1 : rd (h' ++ [O.lst (G.ds [a, b])]) h'.length = some [a.d, b.d] := by rw [rdx0]; rfl
    have un : unpD (.loc h'.length) (h' ++ [O.lst (G.ds [a, b])]) = .tup [a.d, b.d] := by show (match rd (h' ++ [O.lst (G.ds [a, b])]) h'.length with | some xs => D.tup xs | none => _) = _; rw [r1]
    have m4 : ∀ h, binD .Mod (.int (v / 12)) (.int 4) h = .ok (.int (v / 12 % 4)) h := fun h => by rw [bin_mod, if_pos (by decide)]
    refine ⟨.nd (.op w) [a, b], h' ++ [.lst (G.ds [a, b])], out_rt ?_, F1.gr _, Mv.trans nf _ _ _ M1 (Mv.gr nf _ _), gd_same rfl trivial rfl rfl fun g hg => (w1 g hg).1, sz_of (fun g hg => (w1 g hg).2) (show 2 <= 3 by decide)⟩
    rw [d2]
    refine iff_r (t_eqi rfl rfl) ?_
    refine setT_s k1 (ρ' := [some (.loc nf), some (.int ((e : Int) + 1)), some (plD nn p1 p2), some (.loc nk), some (optD blk), some (goD p), some (.int v), some (.int 2), some (.loc nn), some a.d, some b.d, none, none]) (by rw [un]; rfl) (ret_r ?_)
    exact bnd (bnd rfl (bnd (bnd (bnd rfl (bnd (bnd (bnd rfl (bnd rfl (f12 _))) (bnd rfl (m4 _))) (hw _))) (bnd (rfl) rfl)) rfl)) rfl
  ·
    subst q
    obtain ⟨ga, h2, k2, F2, M2, wa, sa⟩ := CG p blk kn nk h1 hb s hk hn hl'
    have s2 := s.mv F2 M2
    obtain ⟨i, hi⟩ : ∃ i, i = v / 12 % 12 := ⟨_, rfl⟩
    have hk2 : knAt nk kn h2 := M2.2 nk _ hn hk
    have n1 := nm_at s2.nm i (hi ▸ Int.emod_nonneg _ (by decide)) (hi ▸ Int.emod_lt_of_pos _ (by decide))
    generalize hx : nmF c i.toNat = x at n1
    have lt2 := s2.lt
    obtain ⟨gb, h3, k3, F3, M3, wb, sbz⟩ := CG p blk (kn ++ [x]) (h2.length + 1) (h2 ++ [.lst [.str x], .lst ((kn ++ [x]).map .str)]) hb (s2.gr _) (by unfold knAt; rw [PI.hx]; rfl) (by omega) (by rw [List.length_append]; exact hl1)
    refine ⟨.nd (.lett x) [ga, gb], h3, out_rt ?_, F3, Mv.trans nf _ _ _ M2 (Mv.trans nf _ _ _ (Mv.gr nf _ _) M3), gd_let wa wb, sz_of (fun g hg => (lst hg).elim (fun z => z ▸ sa) (fun z => z ▸ sbz)) (show 2 <= 3 by decide)⟩
    have m12 : ∀ h, binD .Mod (.int (v / 12)) (.int 12) h = .ok (.int i) h := fun h => by rw [bin_mod, if_pos (by decide), hi]
    have ad : binD .Add (.loc nk) (.loc h2.length) (h2 ++ [.lst [.str x]]) = .ok (.loc (h2.length + 1)) (h2 ++ [.lst [.str x], .lst ((kn ++ [x]).map .str)]) := by
      have g2 : (h2 ++ [O.lst [.str x]])[nk]? = some (.lst (kn.map .str)) := get_old hk2
      have g3 : (h2 ++ [O.lst [.str x]])[h2.length]? = some (.lst [.str x]) := by rw [PI.hx0]; rfl
      rw [bin_addl]
      rw [g2, g3]
      simp only
      rw [if_pos (by rw [List.length_map]; exact Nat.le_trans (Nat.le_trans (Nat.le_add_right _ e) hl1) (by decide)), List.length_append, List.append_assoc, List.map_append]
      rfl
    rw [d2]
    refine iff_f (t_eqi rfl rfl) (iff_r (t_eqi rfl rfl) ?_)
    refine set_s (bnd rfl (bnd (bnd (bnd rfl (bnd rfl (sb _))) (bnd (rfl) rfl)) k2)) (set_s (bnd rfl (bnd (bnd (bnd rfl (bnd rfl (f12 _))) (bnd rfl (m12 _))) n1)) (ret_r ?_))
    exact bnd (bnd rfl (bnd (bnd rfl (bnd (bnd rfl (bnd (bnd (bnd rfl (bnd (bnd (bnd rfl (bnd rfl (sb _))) (bnd (bnd rfl (bnd (bnd (bnd rfl (bnd rfl ad)) (bnd (rfl) rfl)) rfl)) rfl)) k3)) (bnd (rfl) rfl)) rfl)) rfl)) rfl)) rfl
  ·
    subst q
    obtain ⟨gs, h', k1, k2, k3, F1, M1, w1, l1⟩ := tagged CS "if" p blk kn nk 3 h1 hb s hk hn hl' (by decide)
    refine ⟨.nd .ite gs, _, out_rt ?_, F1, M1, gd_same (by rw [l1]; rfl) trivial rfl rfl fun g hg => (w1 g hg).1, sz_of (fun g hg => (w1 g hg).2) (by rw [l1]; decide)⟩
    rw [g_tag .ite gs (.inl rfl)]
    exact iff_f (t_eqi rfl rfl) (iff_f (t_eqi rfl rfl) (iff_r (t_eqi rfl rfl) (ret_r (tg k1 k2 k3))))
  ·
    obtain ⟨g, h', k1, F1, M1, w1, w2⟩ := CC p blk kn nk (v / 12) h1 hb s hk hn hl'
    refine ⟨g, h', out_rt ?_, F1, M1, w1, w2⟩
    have c1 : (f == 2) = false /\ (f == 3) = false /\ (f == 4) = false /\ decide (f < 7) = true := by rcases q with rfl | rfl <;> decide
    refine iff_f (t_eqi rfl c1.1) (iff_f (t_eqi rfl c1.2.1) (iff_f (t_eqi rfl c1.2.2.1) (iff_r (t_lti rfl c1.2.2.2) (ret_r ?_))))
    exact bnd rfl (bnd (bnd rfl (bnd (bnd rfl (bnd (bnd rfl (bnd (bnd rfl (bnd (bnd rfl (bnd (bnd (bnd rfl (bnd rfl (f12 _))) (bnd (rfl) rfl)) rfl)) rfl)) rfl)) rfl)) rfl)) k1)
  ·
    obtain ⟨i, hi⟩ : ∃ i, i = 6 + v / 12 % 3 := ⟨_, rfl⟩
    have n1 := nm_at s.nm i (by omega) (by omega)
    obtain ⟨ga, h2, k2, F2, M2, wa, sa⟩ := CG p blk kn nk h1 hb s hk hn hl'
    refine ⟨.nd (.doo (nmF c i.toNat)) [ga], h2, out_rt ?_, F2, M2, gd_same rfl trivial rfl rfl (fun g hg => by rw [List.mem_singleton.mp hg]; exact wa), sz_of (fun g hg => by rw [List.mem_singleton.mp hg]; exact sa) (show 1 <= 3 by decide)⟩
    have c1 : (f == 2) = false /\ (f == 3) = false /\ (f == 4) = false /\ decide (f < 7) = false /\ decide (f < 9) = true := by rcases q with rfl | rfl <;> decide
    have m3 : ∀ h, binD .Mod (.int (v / 12)) (.int 3) h = .ok (.int (v / 12 % 3)) h := fun h => by rw [bin_mod, if_pos (by decide)]
    have a6 : ∀ h, binD .Add (.int 6) (.int (v / 12 % 3)) h = .ok (.int i) h := fun h => by rw [bin_add, hi]
    rw [d1]
    refine iff_f (t_eqi rfl c1.1) (iff_f (t_eqi rfl c1.2.1) (iff_f (t_eqi rfl c1.2.2.1) (iff_f (t_lti rfl c1.2.2.2.1) (iff_r (t_lti rfl c1.2.2.2.2) (ret_r ?_)))))
    exact bnd (bnd rfl (bnd (bnd (bnd rfl (bnd (bnd rfl (bnd (bnd (bnd rfl (bnd rfl (f12 _))) (bnd rfl (m3 _))) (a6 _))) n1)) (bnd (bnd (bnd rfl (bnd (bnd (bnd rfl (bnd rfl (sb _))) (bnd (rfl) rfl)) k2)) (bnd (rfl) rfl)) rfl)) rfl)) rfl
  ·
    subst q
    cases hp : p with
    | en =>
      obtain ⟨gs, h', k1, k2, k3, F1, M1, w1, l1⟩ := tagged CS "guard" p blk kn nk 2 h1 hb s hk hn hl' (by decide)
      rw [hp] at k1 w1
      refine ⟨.nd .guard gs, _, out_rt ?_, F1, M1, gd_same (by rw [l1]; rfl) trivial rfl rfl fun g hg => (w1 g hg).1, sz_of (fun g hg => (w1 g hg).2) (by rw [l1]; decide)⟩
      rw [g_tag .guard gs (.inr (.inr rfl))]
      exact iff_f (t_eqi rfl rfl) (iff_f (t_eqi rfl rfl) (iff_f (t_eqi rfl rfl) (iff_f (t_lti rfl rfl) (iff_f (t_lti rfl rfl) (iff_f (t_and (t_eqi rfl rfl) rfl) (iffN_f (t_eqi rfl rfl) (ret_r (tg k1 k2 k3)))) ))))
    | _ =>
      obtain ⟨i, hi⟩ : ∃ i, i = 3 + v / 12 % 2 := ⟨_, rfl⟩
      obtain ⟨ga, h2, k2, F2, M2, wa, sa⟩ := CG p blk kn nk h1 hb s hk hn hl'
      have s2 := s.mv F2 M2
      have n1 := nm_at s2.nm i (by omega) (by omega)
      obtain ⟨gb, h3, k3, F3, M3, wb, sbz⟩ := CG .fr blk kn nk h2 hb s2 (M2.2 nk _ hn hk) hn hl'
      rw [hp] at k2 wa
      have hi2 : i.toNat = 3 \/ i.toNat = 4 := by omega
      refine ⟨.nd (.handle (nmF c i.toNat)) [ga, gb], h3, out_rt ?_, F3, Mv.trans nf _ _ _ M2 M3, gd_hd (h0_34 c p1 p2 _ hi2) (by intro z; cases z) wa wb, sz_of (fun g hg => (lst hg).elim (fun z => z ▸ sa) (fun z => z ▸ sbz)) (show 2 <= 3 by decide)⟩
      have m2 : ∀ h, binD .Mod (.int (v / 12)) (.int 2) h = .ok (.int (v / 12 % 2)) h := fun h => by rw [bin_mod, if_pos (by decide)]
      have a3 : ∀ h, binD .Add (.int 3) (.int (v / 12 % 2)) h = .ok (.int i) h := fun h => by rw [bin_add, hi]
      rw [d2]
      refine iff_f (t_eqi rfl rfl) (iff_f (t_eqi rfl rfl) (iff_f (t_eqi rfl rfl) (iff_f (t_lti rfl rfl) (iff_f (t_lti rfl rfl) (iff_r (t_and (t_eqi rfl rfl) rfl) ?_)))))
      refine set_s (bnd rfl (bnd (bnd (bnd rfl (bnd rfl (sb _))) (bnd (rfl) rfl)) k2)) (ret_r ?_)
      exact bnd (bnd rfl (bnd (bnd (bnd rfl (bnd (bnd rfl (bnd (bnd (bnd rfl (bnd rfl (f12 _))) (bnd rfl (m2 _))) (a3 _))) n1)) (bnd (bnd rfl (bnd (bnd (bnd rfl (bnd (bnd (bnd rfl (bnd rfl (sb _))) (bnd (rfl) rfl)) k3)) (bnd (rfl) rfl)) rfl)) rfl)) rfl)) rfl
  ·
    subst q
    cases hp : p with
    | cl =>
      obtain ⟨gs, h', k1, k2, k3, F1, M1, w1, l1⟩ := tagged CS "go" p blk kn nk 2 h1 hb s hk hn hl' (by decide)
      rw [hp] at k1 w1
      refine ⟨.nd .go gs, _, out_rt ?_, F1, M1, gd_same (by rw [l1]; rfl) rfl rfl rfl fun g hg => (w1 g hg).1, sz_of (fun g hg => (w1 g hg).2) (by rw [l1]; decide)⟩
      rw [g_tag .go gs (.inr (.inl rfl))]
      exact iff_f (t_eqi rfl rfl) (iff_f (t_eqi rfl rfl) (iff_f (t_eqi rfl rfl) (iff_f (t_lti rfl rfl) (iff_f (t_lti rfl rfl) (iff_f (t_andF (t_eqi rfl rfl)) (iffN_r (t_eqi rfl rfl) rfl (ret_r (tg k1 k2 k3)))) ))))
    | _ =>
      obtain ⟨gs, h', k1, k2, k3, F1, M1, w1, l1⟩ := tagged CS "guard" p blk kn nk 2 h1 hb s hk hn hl' (by decide)
      rw [hp] at k1 w1
      refine ⟨.nd .guard gs, _, out_rt ?_, F1, M1, gd_same (by rw [l1]; rfl) trivial rfl rfl fun g hg => (w1 g hg).1, sz_of (fun g hg => (w1 g hg).2) (by rw [l1]; decide)⟩
      rw [g_tag .guard gs (.inr (.inr rfl))]
      exact iff_f (t_eqi rfl rfl) (iff_f (t_eqi rfl rfl) (iff_f (t_eqi rfl rfl) (iff_f (t_lti rfl rfl) (iff_f (t_lti rfl rfl) (iff_f (t_andF (t_eqi rfl rfl)) (iffN_n (t_eqi rfl rfl) (by first | exact .inl rfl | exact .inr rfl) (ret_r (tg k1 k2 k3)))) ))))
  ·
    subst q
    obtain ⟨gs, h', k1, k2, k3, F1, M1, w1, l1⟩ := tagged CS "guard" p blk kn nk 2 h1 hb s hk hn hl' (by decide)
    refine ⟨.nd .guard gs, _, out_rt ?_, F1, M1, gd_same (by rw [l1]; rfl) trivial rfl rfl fun g hg => (w1 g hg).1, sz_of (fun g hg => (w1 g hg).2) (by rw [l1]; decide)⟩
    rw [g_tag .guard gs (.inr (.inr rfl))]
    exact iff_f (t_eqi rfl rfl) (iff_f (t_eqi rfl rfl) (iff_f (t_eqi rfl rfl) (iff_f (t_lti rfl rfl) (iff_f (t_lti rfl rfl) (iff_f (t_andF (t_eqi rfl rfl)) (iffN_f (t_eqi rfl rfl) (ret_r (tg k1 k2 k3)))) ))))
end
end K17
set_option Elab.async false
set_option linter.all false
set_option maxRecDepth 100000
set_option maxHeartbeats 4000000
namespace K17
open PySem L2 PI
section
variable {nf nn : Nat} {c : Int} {p1 p2 : Nat}
theorem r_good (cl : Nat -> List D -> Hh -> Res D) (d : Nat) (c16 : C16 nf cl) (c19 : C19 cl) (hS : d = 0 \/ ∃ e, d = e + 1 /\ GoodOk nf nn c p1 p2 cl e /\ SomeOk nf nn c p1 p2 cl e /\ CallsOk nf nn c p1 p2 cl e) (p : Pl) (blk : Option Str) (kn : List Str) (nk : Nat) (h : Hh) (hb : BlkOk c blk) (s : Sh nf nn c h) (hk : knAt nk kn h) (hn : nk ≠ nf) (hl : kn.length + d <= 100) :
    ∃ g h', d_law_good.run cl [.loc nf, .int (d : Nat), plD nn p1 p2, .loc nk, optD blk, goD p] h = .ok g.d h' /\ Feed nf h' /\ Mv nf h h' /\ Gd (q0 c p1 p2) blk ⟨kn, p⟩ g /\ g.size <= bd d := by
  obtain ⟨v, h1, k16, F1, M1, v0, v1⟩ := c16 h s.fd
  have s1 := s.mv F1 M1
  have hk1 : knAt nk kn h1 := M1.2 nk _ hn hk
  have hd := good_head (nn := nn) cl (d : Nat) (plD nn p1 p2) (.loc nk) (optD blk) (goD p) v h h1 k16 (fun _ => rfl)
  obtain ⟨xs, x1, x2, x3⟩ := id F1
  by_cases hleaf : (d : Int) = 0 \/ (∃ xs : List Int, h1[nf]? = some (.lst (xs.map .int)) /\ xs.length = 0) \/ v % 12 < 2
  · obtain ⟨g, k1, k2, k3⟩ := r_goodL (c := c) (p1 := p1) (p2 := p2) (nn := nn) cl d (plD nn p1 p2) (optD blk) (goD p) v ⟨v0, v1⟩ c19 p blk kn nk h1 F1 hk1 (by omega) hleaf
    exact ⟨g, h1, hd.trans k1, F1, M1, k2, Nat.le_trans k3 (bd_pos d)⟩
  · have d0 : d ≠ 0 := fun z => hleaf (.inl (by omega))
    obtain ⟨e, rfl, CG, CS, CC⟩ := hS.resolve_left d0
    have x0 : xs.length ≠ 0 := fun z => hleaf (.inr (.inl ⟨xs, x1, z⟩))
    have f2 : 2 <= v % 12 := by
      rcases Int.lt_or_le (v % 12) 2 with z | z
      · exact absurd (.inr (.inr z)) hleaf
      · exact z
    have hh := r_goodH (nf := nf) (nn := nn) cl e (plD nn p1 p2) (.loc nk) (optD blk) (goD p) v (v % 12) rfl f2 h1 xs x1 x0
    obtain ⟨g, h', k1, F2, M2, w1, w2⟩ := r_goodN cl e CG CS CC p blk kn nk h1 hb s1 hk1 hn (by omega) v (v % 12) ⟨f2, by omega⟩
    refine ⟨g, h', ?_, F2, Mv.trans nf _ _ _ M1 M2, w1, w2⟩
    have e1 : ((e + 1 : Nat) : Int) = (e : Int) + 1 := by omega
    rw [e1] at hd ⊢
    rw [hd, hh]
    exact k1
theorem i_16 (k : Nat) : C16 nf (callI defs (k + 1)) := fun h f => by
  obtain ⟨v, h', e, r⟩ := r_next (callI defs k) nf h f
  exact ⟨v, h', (callI_succ (d := d_law_next) rfl rfl).trans e, r⟩
theorem i_19 (k : Nat) : C19 (callI defs (k + 1)) := fun {qs} {blk} p v hv {nk} {kn} {h} hk hl => by
  obtain ⟨g, e, r⟩ := r_leaf (qs := qs) (blk := blk) (callI defs k) p v hv hk hl
  exact ⟨g, (callI_succ (d := d_law_leaf) rfl rfl).trans e, r⟩
theorem i_some (k d : Nat) (C : GoodOk nf nn c p1 p2 (callI defs k) d) : SomeOk nf nn c p1 p2 (callI defs (k + 1)) d := fun p blk kn nk m h hb s hk hn hl hm => by
  obtain ⟨gs, h', e, r⟩ := r_some (callI defs k) d C p blk kn nk m h hb s hk hn hl hm
  exact ⟨gs, h', (callI_succ (d := d_law_some) rfl rfl).trans e, r⟩
theorem i_call (h1 : p1 <= 2) (h2 : p2 <= 2) (k d : Nat) (C : SomeOk nf nn c p1 p2 (callI defs k) d) : CallsOk nf nn c p1 p2 (callI defs (k + 1)) d := fun p blk kn nk v h hb s hk hn hl => by
  obtain ⟨g, h', e, r⟩ := r_call h1 h2 (callI defs k) d C p blk kn nk v h hb s hk hn hl
  exact ⟨g, h', (callI_succ (d := d_law_call) rfl rfl).trans e, r⟩
theorem i_good (h1 : p1 <= 2) (h2 : p2 <= 2) : ∀ (d j : Nat), GoodOk nf nn c p1 p2 (callI defs (3 * d + 3 + j)) d
  | 0, j => fun p blk kn nk h hb s hk hn hl => by
    have e1 : 3 * 0 + 3 + j = (j + 1 + 1) + 1 := by omega
    rw [e1]
    obtain ⟨g, h', e, r⟩ := r_good (p1 := p1) (p2 := p2) (callI defs (j + 1 + 1)) 0 (i_16 (j + 1)) (i_19 (j + 1)) (.inl rfl) p blk kn nk h hb s hk hn hl
    exact ⟨g, h', (callI_succ (d := d_law_good) rfl rfl).trans e, r⟩
  | d + 1, j => fun p blk kn nk h hb s hk hn hl => by
    have a1 := i_good h1 h2 d (j + 2)
    have a2 := i_good h1 h2 d (j + 1)
    have a3 := i_good h1 h2 d j
    have e1 : 3 * (d + 1) + 3 + j = (3 * d + 3 + (j + 1) + 1) + 1 := by omega
    have e2 : 3 * d + 3 + (j + 2) = 3 * d + 3 + (j + 1) + 1 := by omega
    rw [e2] at a1
    have b2 := i_some (3 * d + 3 + (j + 1)) d a2
    have b3 := i_some (3 * d + 3 + j) d a3
    have e3 : 3 * d + 3 + j + 1 = 3 * d + 3 + (j + 1) := by omega
    rw [e3] at b3
    have b4 := i_call h1 h2 (3 * d + 3 + (j + 1)) d b3
    rw [e1]
    obtain ⟨g, h', e, r⟩ := r_good (p1 := p1) (p2 := p2) (callI defs (3 * d + 3 + (j + 1) + 1)) (d + 1) (i_16 _) (i_19 _) (.inr ⟨d, rfl, a1, b2, b4⟩) p blk kn nk h hb s hk hn hl
    exact ⟨g, h', (callI_succ (d := d_law_good) rfl rfl).trans e, r⟩
end
end K17
set_option Elab.async false
set_option linter.all false
set_option maxRecDepth 100000
set_option maxHeartbeats 4000000
namespace K17
open PySem L2 PI
noncomputable def All2 {α β : Type} (Q : α -> β -> Prop) : List α -> List β -> Prop
  | [], [] => True
  | a :: r, b :: s => Q a b /\ All2 Q r s
  | _, _ => False
theorem compL_two {c : Ck} {f : D -> Hh -> Res (Option D)} (P : Hh -> Prop) (R : Hh -> Hh -> Prop) (rr : ∀ h, R h h) (rt : ∀ a b d, R a b -> R b d -> R a d) (st : ∀ h, P h -> stay c h) (Q : D -> D -> Prop) : ∀ (xs acc : List D) (h : Hh), P h -> (∀ x ∈ xs, ∀ h, P h -> ∃ d h', f x h = .ok (some d) h' /\ P h' /\ R h h' /\ Q x d) ->
    ∃ ds h', compL c f xs acc h = .ok (acc ++ ds) h' /\ P h' /\ R h h' /\ All2 Q xs ds
  | [], acc, h, hp, _ => ⟨[], h, by simp [compL, st h hp], hp, rr h, trivial⟩
  | x :: r, acc, h, hp, hf => by
    obtain ⟨d, h1, e1, p1, r1, q1⟩ := hf x (List.mem_cons_self ..) h hp
    obtain ⟨ds, h2, e2, p2, r2, q2⟩ := compL_two P R rr rt st Q r (acc ++ [d]) h1 p1 fun y hy => hf y (List.mem_cons_of_mem _ hy)
    refine ⟨d :: ds, h2, ?_, p2, rt _ _ _ r1 r2, q1, q2⟩
    unfold compL
    rw [if_pos (st h hp), e1, bind_ok, addO_some, e2]
    simp
theorem cls_of {qs : List (Str × D)} {x s : Str} : ∀ (dn : List Str) (ds : List D), All2 (fun a b => ∃ g : G, ∃ n : Str, a = D.str n /\ b = D.tup [.str n, .str x, .str s, g.d] /\ AnsG qs .cl x s g) (dn.map D.str) ds ->
    ∃ cs : List Cl, ds = cs.map Cl.D /\ cs.map Cl.d = dn /\ ∀ q ∈ cs, AnsG qs .cl q.x q.s q.g
  | [], [], _ => ⟨[], rfl, rfl, by simp⟩
  | n :: r, d :: ds, h => by
    obtain ⟨⟨g, n', e1, e2, e3⟩, h2⟩ := h
    obtain ⟨cs, c1, c2, c3⟩ := cls_of r ds h2
    have : n = n' := D.str.inj e1
    subst this
    refine ⟨⟨n, x, s, g⟩ :: cs, by rw [e2, c1]; rfl, by rw [<- c2]; rfl, fun q hq => ?_⟩
    rcases List.mem_cons.mp hq with rfl | hq
    · exact e3
    · exact c3 q hq
section
variable {nf nn : Nat} {c : Int} {p1 p2 : Nat}
noncomputable def HdG (c : Int) (p1 p2 : Nat) (nm : Str) (dn : List Str) (i : Itm) : Prop := ∃ cs x s e, i = .hd nm cs x s e /\ cs.map Cl.d = dn /\ (∀ q ∈ cs, AnsG (q0 c p1 p2) .cl q.x q.s q.g) /\ AnsG (q0 c p1 p2) .en x s e
theorem r_handler (cl : Nat -> List D -> Hh -> Res D) (C4 : GoodOk nf nn c p1 p2 cl 4) (C3 : GoodOk nf nn c p1 p2 cl 3) (nm : Str) (dn : List Str) (nd : Nat) (v : Int) (h : Hh) (s : Sh nf nn c h) (hd : h[nd]? = some (.lst (dn.map .str))) (hnd : nd ≠ nf) (hdl : dn.length <= 900) :
    ∃ i h', d_law_handler.run cl [.loc nf, plD nn p1 p2, .str nm, .loc nd, .int v] h = .ok i.d h' /\ Feed nf h' /\ Mv nf h h' /\ HdG c p1 p2 nm dn i := by
  obtain ⟨a, ha⟩ : ∃ a, a = v % 12 := ⟨_, rfl⟩
  obtain ⟨b, hb⟩ : ∃ b, b = (v + 1 + v / 12 % 11) % 12 := ⟨_, rfl⟩
  have ab : a ≠ b := by omega
  have na := nm_at s.nm a (by omega) (by omega)
  have nb := nm_at s.nm b (by omega) (by omega)
  have xs : nmF c a.toNat ≠ nmF c b.toNat := nmF_ne c (by omega) (by omega) (by omega)
  generalize hX : nmF c a.toNat = x at na xs
  generalize hS : nmF c b.toNat = y at nb xs
  obtain ⟨ds, h1, k1, ⟨s1, d1⟩, M1, q1⟩ := compL_two (c := [(nd, dn.map .str)]) (f := compF t_law_handler_1 [none, some (.loc nf), some (plD nn p1 p2), some (.str y), some (.str x)] (fun ρ' h2 => c_law_handler_1.evC cl ρ' h2) (fun ρ' h2 => e_law_handler_1.ev cl ρ' h2))
    (fun h => Sh nf nn c h /\ h[nd]? = some (.lst (dn.map .str))) (Mv nf) (Mv.refl nf) (Mv.trans nf) (fun h p => stay_one.mpr (rd_of p.2)) (fun a b => ∃ g : G, ∃ n : Str, a = D.str n /\ b = D.tup [.str n, .str x, .str y, g.d] /\ AnsG (q0 c p1 p2) .cl x y g) (dn.map .str) [] h ⟨s, hd⟩ (by
      rintro z hz h ⟨sh, dh⟩
      obtain ⟨n, _, rfl⟩ := List.mem_map.mp hz
      have lt := sh.lt
      obtain ⟨g, h2, k2, F2, M2, w1, w2⟩ := C4 .cl none [x, y] h.length (h ++ [.lst [.str x, .str y]]) (.inl rfl) (sh.gr _) (by unfold knAt; rw [hx0]; rfl) (by omega) (by simp)
      have M2' := Mv.trans nf _ _ _ (Mv.gr nf h [.lst [.str x, .str y]]) M2
      refine ⟨.tup [.str n, .str x, .str y, g.d], h2, ?_, ⟨sh.mv F2 M2', M2'.2 nd _ hnd dh⟩, M2', g, n, rfl, rfl, ⟨xs, w1, Nat.le_trans w2 (by decide)⟩⟩
      exact compF_t rfl rfl (bnd (bnd rfl (bnd (bnd rfl (bnd (bnd rfl (bnd (bnd (bnd rfl (bnd rfl k2)) (bnd rfl rfl)) rfl)) rfl)) rfl)) rfl))
  obtain ⟨cs, rfl, c2, c3⟩ := cls_of dn ds q1
  rw [List.nil_append] at k1
  have lt1 := s1.lt
  obtain ⟨ge, h2, k2, F2, M2, w1, w2⟩ := C3 .en none [y, x] (h1 ++ [O.lst (cs.map Cl.D)]).length (h1 ++ [.lst (cs.map Cl.D)] ++ [.lst [.str y, .str x]]) (.inl rfl) ((s1.gr _).gr _) (by unfold knAt; rw [hx0]; rfl) (by rw [List.length_append]; exact Nat.ne_of_gt (Nat.lt_of_lt_of_le lt1 (Nat.le_add_right _ _))) (show 5 <= 100 by decide)
  have M2' : Mv nf (h1 ++ [.lst (cs.map Cl.D)]) h2 := Mv.trans nf _ _ _ (Mv.gr nf _ _) M2
  have g2 : h2[h1.length]? = some (.lst (cs.map Cl.D)) := M2'.2 h1.length _ (by omega) (by rw [hx0]; rfl)
  have M3 : Mv nf h h2 := Mv.trans nf _ _ _ M1 (Mv.trans nf _ _ _ (Mv.gr nf _ _) M2')
  have gv : Gd (q0 c p1 p2) none ⟨[y, x], .en⟩ (.nd (.var y) []) := gd_leaf rfl (by show y ∈ [y, x]; simp)
  refine ⟨.hd nm cs y x (.nd (.op "-") [.nd (.var y) [], ge]), h2, ?_, F2, M3, cs, y, x, _, rfl, c2, c3, ⟨fun z => xs z.symm, gd_same rfl trivial rfl rfl (fun g hg => by simp at hg; rcases hg with rfl | rfl; exact gv; exact w1), ?_⟩⟩
  · have m12 : ∀ h, binD .Mod (.int v) (.int 12) h = .ok (.int a) h := fun h => ha ▸ mdk (by decide)
    have m12' : ∀ h, binD .Mod (.int (v + 1 + v / 12 % 11)) (.int 12) h = .ok (.int b) h := fun h => hb ▸ mdk (by decide)
    have rr : rd h nd = some (dn.map .str) := rd_of hd
    have l1 : (dn.map D.str).length <= 1000000 := by simp; omega
    have sq : seqOf (.loc h1.length) h2 = some (cs.map Cl.D) := by simp only [seqOf]; exact rd_of g2
    exact out_rt (set_s (d := .loc nn) rfl (set_s (bnd rfl (bnd (bnd rfl (bnd rfl (m12 _))) na)) (set_s (bnd rfl (bnd (bnd (bnd rfl (bnd (bnd (bnd rfl (bnd rfl (fdk (by decide)))) (bnd rfl (mdk (by decide)))) rfl)) (bnd rfl (m12' _))) nb)) (set_s (bnd (bnd (seq_loc rfl rr) ((if_pos l1).trans k1)) rfl) (set_s (bnd (bnd rfl (bnd (bnd rfl (bnd (bnd rfl (bnd (bnd (bnd rfl (bnd rfl k2)) (bnd rfl rfl)) rfl)) rfl)) rfl)) rfl) (ret_r (bnd (bnd rfl (bnd (bnd rfl (bnd (bnd (tupE_s rfl sq) (bnd rfl rfl)) rfl)) rfl)) rfl)))))))
  · have : (G.nd (.op "-") [.nd (.var y) [], ge]).size = 1 + (1 + (ge.size + 0)) := by simp [G.size, G.sizes]
    rw [this]
    have w3 : ge.size <= 40 := w2
    omega
end
end K17
set_option Elab.async false
set_option linter.all false
set_option maxRecDepth 100000
set_option maxHeartbeats 4000000
namespace K17
open PySem L2 PI
noncomputable def onesF (c v : Int) (p1 : Nat) : List Str := (List.range p1).map fun k : Nat => nmF c ((v + (k : Int)) % 9).toNat
noncomputable def othF (c v : Int) (p2 : Nat) : List Str := (List.range p2).map fun k : Nat => nmF c ((v / 9 + 2 * (k : Int)) % 9).toNat
theorem two_nd {f : Nat -> Str} {p : Nat} (hp : p <= 2) (h : f 0 ≠ f 1) : ((List.range p).map f).Nodup := by
  rcases (show p = 0 \/ p = 1 \/ p = 2 by omega) with rfl | rfl | rfl
  · simp
  · simp [List.range_succ]
  · simp [List.range_succ, h]
theorem ones_nd (c v : Int) (p1 : Nat) (hp : p1 <= 2) : (onesF c v p1).Nodup := two_nd (f := fun k : Nat => nmF c ((v + (k : Int)) % 9).toNat) hp (nmF_ne c (by omega) (by omega) (by omega))
theorem oth_nd (c v : Int) (p2 : Nat) (hp : p2 <= 2) : (othF c v p2 ++ [nmF c 9]).Nodup := by
  rw [List.nodup_append]
  refine ⟨two_nd (f := fun k : Nat => nmF c ((v / 9 + 2 * (k : Int)) % 9).toNat) hp (nmF_ne c (by omega) (by omega) (by omega)), by simp, ?_⟩
  intro a ha b hb
  rw [List.mem_singleton.mp hb]
  obtain ⟨k, _, rfl⟩ := List.mem_map.mp ha
  exact nmF_ne c (by omega) (by decide) (by omega)
structure Ih (nf nn no nt nl : Nat) (c : Int) (on ot : List Str) (its : List D) (h : Hh) : Prop where
  sh : Sh nf nn c h
  on : knAt no on h
  ot : knAt nt ot h
  it : h[nl]? = some (.lst its)
section
variable {nf nn no nt nl : Nat} {c : Int} {on ot : List Str} {its : List D}
theorem Ih.mv {h h' : Hh} (s : Ih nf nn no nt nl c on ot its h) (h1 : no ≠ nf) (h2 : nt ≠ nf) (h3 : nl ≠ nf) (F : Feed nf h') (m : Mv nf h h') : Ih nf nn no nt nl c on ot its h' :=
  ⟨s.sh.mv F m, m.2 no _ h1 s.on, m.2 nt _ h2 s.ot, m.2 nl _ h3 s.it⟩
theorem Ih.app {h : Hh} (s : Ih nf nn no nt nl c on ot its h) (h1 : nf ≠ nl) (h2 : nn ≠ nl) (h3 : no ≠ nl) (h4 : nt ≠ nl) (d : D) (hl : its.length < 1000) :
    m1D .append (.loc nl) d h = .ok .non (h.set nl (.lst (its ++ [d]))) /\ Ih nf nn no nt nl c on ot (its ++ [d]) (h.set nl (.lst (its ++ [d]))) := by
  have hn : nl < h.length := (List.getElem?_eq_some_iff.mp s.it).1
  constructor
  · simp only [m1D, s.it]
    rw [if_pos (by omega)]
  · refine ⟨⟨?_, ?_, s.sh.ne⟩, ?_, ?_, List.getElem?_set_self hn⟩
    · obtain ⟨xs, e, r⟩ := s.sh.fd
      exact ⟨xs, by rw [List.getElem?_set_ne (Ne.symm h1)]; exact e, r⟩
    · rw [List.getElem?_set_ne (Ne.symm h2)]; exact s.sh.nm
    · unfold knAt; rw [List.getElem?_set_ne (Ne.symm h3)]; exact s.on
    · unfold knAt; rw [List.getElem?_set_ne (Ne.symm h4)]; exact s.ot
theorem Ih.onL {h : Hh} (s : Ih nf nn no nt nl c on ot its h) (r : Res D) : onL (.loc nl) h r = r := by simp only [PI.onL, s.it]
end
theorem cut_nm {nn : Nat} {c : Int} {h : Hh} (e : h[nn]? = some (.lst ((Nm c).map .str))) (a b : Nat) (hb : b <= 12) (hab : a <= b) : cutD (.loc nn) (some (a : Int)) (some (b : Int)) h = .ok (.loc h.length) (h ++ [.lst ((((Nm c).drop a).take (b - a)).map .str)]) := by
  simp only [cutD, rd_of e, new, cutXs]
  rw [sIx_some _ _ _ (by omega), sIx_some _ _ _ (by omega), List.length_map, Nm_len]
  have e1 : min (a : Int).toNat 12 = a := by omega
  have e2 : min (b : Int).toNat 12 = b := by omega
  rw [e1, e2, List.map_take, List.map_drop]
section
variable {nf nn : Nat} {c : Int} {p1 p2 : Nat}
theorem it_A (cl : Nat -> List D -> Hh -> Res D) (hp1 : p1 <= 2) (hp2 : p2 <= 2) (v : Int) (h : Hh) (s : Sh nf nn c h) :
    Ss.run cl (takeS 3 d_law_items.body) [some (.loc nf), some (plD nn p1 p2), some (.int v), none, none, none, none, none] h = .nx [some (.loc nf), some (plD nn p1 p2), some (.int v), some (.loc nn), some (.loc h.length), some (.loc (h.length + 1)), none, none] (h ++ [.lst ((onesF c v p1).map .str), .lst ((othF c v p2).map .str)]) := by
  have k1 := compL_pure (c := []) (f := compF t_law_items_2 [none, some (.int v), some (.loc nn)] (fun ρ' h2 => c_law_items_2.evC cl ρ' h2) (fun ρ' h2 => e_law_items_2.ev cl ρ' h2)) (h := h) stay_nil
    (fun x => match x with | .int k => some (D.str (nmF c ((v + k) % 9).toNat)) | _ => none) ((List.range p1).map fun k => D.int (k : Nat)) [] (by
      intro x hx
      obtain ⟨i, hi, rfl⟩ := List.mem_map.mp hx
      have n1 := nm_at s.nm ((v + (i : Int)) % 9) (by omega) (by omega)
      exact compF_t rfl rfl (bnd rfl (bnd (bnd rfl (bnd rfl (mdk (by decide)))) n1)))
  have f1 : ((List.range p1).map fun k => D.int (k : Nat)).filterMap (fun x => match x with | .int k => some (D.str (nmF c ((v + k) % 9).toNat)) | _ => none) = (onesF c v p1).map .str := by
    unfold onesF
    rw [List.filterMap_map, List.map_map, <- List.filterMap_eq_map]
    rfl
  rw [f1, List.nil_append] at k1
  have k2 := compL_pure (c := []) (f := compF t_law_items_1 [none, some (.int v), some (.loc nn)] (fun ρ' h2 => c_law_items_1.evC cl ρ' h2) (fun ρ' h2 => e_law_items_1.ev cl ρ' h2)) (h := h ++ [.lst ((onesF c v p1).map .str)]) stay_nil
    (fun x => match x with | .int k => some (D.str (nmF c ((v / 9 + 2 * k) % 9).toNat)) | _ => none) ((List.range p2).map fun k => D.int (k : Nat)) [] (by
      intro x hx
      obtain ⟨i, hi, rfl⟩ := List.mem_map.mp hx
      have hi' := List.mem_range.mp hi
      have n1 := nm_at (s.gr [.lst ((onesF c v p1).map .str)]).nm ((v / 9 + 2 * (i : Int)) % 9) (by omega) (by omega)
      have fi : fits (i : Int) = true := fits_lt (by omega)
      have f2 : fits (2 : Int) = true := by decide
      exact compF_t rfl rfl (bnd rfl (bnd (bnd (bnd (bnd rfl (bnd rfl (fdk (by decide)))) (bnd (bnd rfl (bnd rfl (if_pos ⟨f2, fi⟩))) rfl)) (bnd rfl (mdk (by decide)))) n1)))
  have f2 : ((List.range p2).map fun k => D.int (k : Nat)).filterMap (fun x => match x with | .int k => some (D.str (nmF c ((v / 9 + 2 * k) % 9).toNat)) | _ => none) = (othF c v p2).map .str := by
    unfold othF
    rw [List.filterMap_map, List.map_map, <- List.filterMap_eq_map]
    rfl
  rw [f2, List.nil_append] at k2
  have b1 : -1000000 <= (p1 : Int) /\ (p1 : Int) <= 1000000 := by omega
  have b2 : -1000000 <= (p2 : Int) /\ (p2 : Int) <= 1000000 := by omega
  have l1 : ((List.range p1).map fun k => D.int (k : Nat)).length <= 1000000 := by simp; omega
  have l2 : ((List.range p2).map fun k => D.int (k : Nat)).length <= 1000000 := by simp; omega
  exact set_s (d := .loc nn) rfl (set_s (ofL_comp (rng_s (j := (p1 : Nat)) rfl b1) l1 k1) (set_s (ofL_comp (rng_s (j := (p2 : Nat)) rfl b2) l2 k2) (by rw [List.append_assoc, List.length_append]; rfl)))
end
end K17
set_option Elab.async false
set_option linter.all false
set_option maxRecDepth 100000
set_option maxHeartbeats 4000000
namespace K17
open PySem L2 PI
structure Ap (nf nn no nt nl : Nat) : Prop where
  a1 : no ≠ nf
  a2 : nt ≠ nf
  a3 : nl ≠ nf
  a4 : nn ≠ nl
  a5 : no ≠ nl
  a6 : nt ≠ nl
section
variable {nf nn no nt nl : Nat} {c : Int} {p1 p2 : Nat} {on ot : List Str} {its : List D}
theorem it_B (cl : Nat -> List D -> Hh -> Res D) (C5 : GoodOk nf nn c p1 p2 cl 5) (v : Int) (h : Hh) (s : Sh nf nn c h) (hon : knAt no on h) (hot : knAt nt ot h) (h1 : no ≠ nf) (h2 : nt ≠ nf) (hl : on.length <= 2) :
    ∃ g h', Ss.run cl (takeS 1 (dropS 3 d_law_items.body)) [some (.loc nf), some (plD nn p1 p2), some (.int v), some (.loc nn), some (.loc no), some (.loc nt), none, none] h = .nx [some (.loc nf), some (plD nn p1 p2), some (.int v), some (.loc nn), some (.loc no), some (.loc nt), some (.loc h'.length), none] (h' ++ [.lst [(Itm.fn (nmF c 0) on none g).d]]) /\
      Ih nf nn no nt h'.length c on ot [(Itm.fn (nmF c 0) on none g).d] (h' ++ [.lst [(Itm.fn (nmF c 0) on none g).d]]) /\ h.length <= h'.length /\ Gd (q0 c p1 p2) none ⟨on, .fr⟩ g /\ g.size <= 900000 := by
  obtain ⟨g, h', k1, F1, M1, w1, w2⟩ := C5 .fr none on no h (.inl rfl) s hon h1 (by omega)
  have n0 := nm_at s.nm 0 (by decide) (by decide)
  have sq : seqOf (.loc no) h = some (on.map .str) := by simp only [seqOf]; exact rd_of hon
  refine ⟨g, h', ?_, ⟨(s.mv F1 M1).gr _, get_old (M1.2 no _ h1 hon), get_old (M1.2 nt _ h2 hot), by rw [hx0]; rfl⟩, M1.1, w1, Nat.le_trans w2 (by decide)⟩
  exact set_s (bnd (bnd (bnd (bnd (bnd rfl (bnd (bnd (bnd rfl (bnd rfl n0)) (bnd (bnd (tupE_s rfl sq) (bnd (bnd rfl (bnd (bnd (bnd rfl (bnd rfl k1)) (bnd rfl rfl)) rfl)) rfl)) rfl)) rfl)) rfl) (bnd rfl rfl)) rfl) rfl) rfl
theorem it_C (cl : Nat -> List D -> Hh -> Res D) (C3 : GoodOk nf nn c p1 p2 cl 3) (v : Int) (x7 : Option D) (h : Hh) (ap : Ap nf nn no nt nl) (s : Ih nf nn no nt nl c on ot its h) (hl : its.length < 1000) :
    ∃ g h', Ss.run cl (takeS 1 (dropS 4 d_law_items.body)) [some (.loc nf), some (plD nn p1 p2), some (.int v), some (.loc nn), some (.loc no), some (.loc nt), some (.loc nl), x7] h = .nx [some (.loc nf), some (plD nn p1 p2), some (.int v), some (.loc nn), some (.loc no), some (.loc nt), some (.loc nl), x7] h' /\
      Ih nf nn no nt nl c on ot (its ++ [(Itm.fn (nmF c 1) [nmF c 11] none g).d]) h' /\ Gd (q0 c p1 p2) none ⟨[nmF c 11], .fr⟩ g /\ g.size <= 900000 := by
  have lt := s.sh.lt
  obtain ⟨g, h', k1, F1, M1, w1, w2⟩ := C3 .fr none [nmF c 11] h.length (h ++ [.lst [.str (nmF c 11)]]) (.inl rfl) (s.sh.gr _) (by unfold knAt; rw [hx0]; rfl) (by omega) (by simp)
  have n1 := nm_at s.sh.nm 1 (by decide) (by decide)
  have n11 := nm_at s.sh.nm 11 (by decide) (by decide)
  have s' := s.mv ap.a1 ap.a2 ap.a3 F1 (Mv.trans nf _ _ _ (Mv.gr nf h [.lst [.str (nmF c 11)]]) M1)
  obtain ⟨m1, m2⟩ := s'.app (Ne.symm ap.a3) ap.a4 ap.a5 ap.a6 (Itm.fn (nmF c 1) [nmF c 11] none g).d hl
  refine ⟨g, _, ?_, m2, w1, Nat.le_trans w2 (by decide)⟩
  exact ex_s (bnd rfl ((s.onL _).trans (bnd (bnd (bnd rfl (bnd (bnd (bnd rfl (bnd rfl n1)) (bnd (bnd (bnd (bnd (bnd rfl (bnd rfl n11)) (bnd rfl rfl)) rfl) (bnd (bnd rfl (bnd (bnd (bnd rfl (bnd (bnd rfl (bnd (bnd rfl (bnd (bnd (bnd (bnd (bnd (bnd rfl (bnd rfl n11)) (bnd rfl rfl)) rfl) rfl) (bnd rfl rfl)) rfl)) rfl)) k1)) (bnd rfl rfl)) rfl)) rfl)) rfl)) rfl)) rfl) m1))) rfl
theorem it_D (cl : Nat -> List D -> Hh -> Res D) (C4 : GoodOk nf nn c p1 p2 cl 4) (v : Int) (x7 : Option D) (h : Hh) (ap : Ap nf nn no nt nl) (s : Ih nf nn no nt nl c on ot its h) (hl : its.length < 1000) (hot : ot.length <= 2) :
    ∃ g h', Ss.run cl (takeS 1 (dropS 5 d_law_items.body)) [some (.loc nf), some (plD nn p1 p2), some (.int v), some (.loc nn), some (.loc no), some (.loc nt), some (.loc nl), x7] h = .nx [some (.loc nf), some (plD nn p1 p2), some (.int v), some (.loc nn), some (.loc no), some (.loc nt), some (.loc nl), x7] h' /\
      Ih nf nn no nt nl c on ot (its ++ [(Itm.fn (nmF c 2) ot (some (nmF c 9)) g).d]) h' /\ Gd (q0 c p1 p2) (some (nmF c 9)) ⟨ot, .fr⟩ g /\ g.size <= 900000 := by
  obtain ⟨g, h', k1, F1, M1, w1, w2⟩ := C4 .fr (some (nmF c 9)) ot nt h (.inr rfl) s.sh s.ot ap.a2 (by omega)
  have n2 := nm_at s.sh.nm 2 (by decide) (by decide)
  have n9 := nm_at s.sh.nm 9 (by decide) (by decide)
  have sq : seqOf (.loc nt) h = some (ot.map .str) := by simp only [seqOf]; exact rd_of s.ot
  have s' := s.mv ap.a1 ap.a2 ap.a3 F1 M1
  obtain ⟨m1, m2⟩ := s'.app (Ne.symm ap.a3) ap.a4 ap.a5 ap.a6 (Itm.fn (nmF c 2) ot (some (nmF c 9)) g).d hl
  refine ⟨g, _, ?_, m2, w1, Nat.le_trans w2 (by decide)⟩
  exact ex_s (bnd rfl ((s.onL _).trans (bnd (bnd (bnd rfl (bnd (bnd (bnd rfl (bnd rfl n2)) (bnd (bnd (tupE_s rfl sq) (bnd (bnd (bnd rfl (bnd rfl n9)) (bnd (bnd (bnd rfl (bnd (bnd rfl (bnd (bnd rfl (bnd (bnd rfl (bnd (bnd (bnd rfl (bnd rfl n9)) (bnd rfl rfl)) rfl)) rfl)) rfl)) k1)) (bnd rfl rfl)) rfl)) rfl)) rfl)) rfl)) rfl) m1))) rfl
noncomputable def HandOk (nf nn : Nat) (c : Int) (p1 p2 : Nat) (cl : Nat -> List D -> Hh -> Res D) : Prop := ∀ (nm : Str) (dn : List Str) (nd : Nat) (v : Int) (h : Hh), Sh nf nn c h -> h[nd]? = some (.lst (dn.map .str)) -> nd ≠ nf -> dn.length <= 900 ->
  ∃ i h', cl 22 [.loc nf, plD nn p1 p2, .str nm, .loc nd, .int v] h = .ok i.d h' /\ Feed nf h' /\ Mv nf h h' /\ HdG c p1 p2 nm dn i
theorem it_E (cl : Nat -> List D -> Hh -> Res D) (C22 : HandOk nf nn c p1 p2 cl) (v : Int) (x7 : Option D) (h : Hh) (ap : Ap nf nn no nt nl) (s : Ih nf nn no nt nl c on ot its h) (hl : its.length < 1000) :
    ∃ i h', Ss.run cl (takeS 1 (dropS 6 d_law_items.body)) [some (.loc nf), some (plD nn p1 p2), some (.int v), some (.loc nn), some (.loc no), some (.loc nt), some (.loc nl), x7] h = .nx [some (.loc nf), some (plD nn p1 p2), some (.int v), some (.loc nn), some (.loc no), some (.loc nt), some (.loc nl), x7] h' /\
      Ih nf nn no nt nl c on ot (its ++ [i.d]) h' /\ HdG c p1 p2 (nmF c 3) (((Nm c).drop 6).take (v % 3).toNat) i := by
  have lt := s.sh.lt
  obtain ⟨a, ha⟩ : ∃ a : Nat, (a : Int) = v % 3 /\ a <= 2 /\ a = (v % 3).toNat := ⟨(v % 3).toNat, by omega, by omega, rfl⟩
  have ct := cut_nm s.sh.nm 6 (6 + a) (by omega) (by omega)
  rw [show 6 + a - 6 = a by omega] at ct
  obtain ⟨i, h', k1, F1, M1, w1⟩ := C22 (nmF c 3) (((Nm c).drop 6).take a) h.length (v / 3) (h ++ [.lst ((((Nm c).drop 6).take a).map .str)]) (s.sh.gr _) (by rw [hx0]; rfl) (by omega) (by simp; omega)
  have n3 := nm_at s.sh.nm 3 (by decide) (by decide)
  have s' := s.mv ap.a1 ap.a2 ap.a3 F1 (Mv.trans nf _ _ _ (Mv.gr nf h [.lst ((((Nm c).drop 6).take a).map .str)]) M1)
  obtain ⟨m1, m2⟩ := s'.app (Ne.symm ap.a3) ap.a4 ap.a5 ap.a6 i.d hl
  refine ⟨i, _, ?_, m2, by rw [<- ha.2.2]; exact w1⟩
  have a6 : ∀ h, binD .Add (.int 6) (.int (v % 3)) h = .ok (.int ((6 + a : Nat) : Int)) h := fun h => by rw [bin_add, <- ha.1]; congr 2
  exact ex_s (bnd rfl ((s.onL _).trans (bnd (bnd rfl (bnd (bnd rfl (bnd (bnd (bnd rfl (bnd rfl n3)) (bnd (bnd (bnd rfl (bnd rfl (bnd (some_s (bnd rfl (bnd (bnd rfl (bnd rfl (mdk (by decide)))) (a6 _)))) ct))) (bnd (bnd (bnd rfl (bnd rfl (fdk (by decide)))) (bnd rfl rfl)) rfl)) rfl)) rfl)) k1)) m1))) rfl
theorem it_F (cl : Nat -> List D -> Hh -> Res D) (C22 : HandOk nf nn c p1 p2 cl) (v : Int) (x7 : Option D) (h : Hh) (ap : Ap nf nn no nt nl) (s : Ih nf nn no nt nl c on ot its h) (hl : its.length < 1000) :
    ∃ i h', Ss.run cl (takeS 1 (dropS 7 d_law_items.body)) [some (.loc nf), some (plD nn p1 p2), some (.int v), some (.loc nn), some (.loc no), some (.loc nt), some (.loc nl), x7] h = .nx [some (.loc nf), some (plD nn p1 p2), some (.int v), some (.loc nn), some (.loc no), some (.loc nt), some (.loc nl), x7] h' /\
      Ih nf nn no nt nl c on ot (its ++ [i.d]) h' /\ HdG c p1 p2 (nmF c 4) ([nmF c 8, nmF c 7].take (v / 5 % 3).toNat) i := by
  have lt := s.sh.lt
  obtain ⟨a, ha⟩ : ∃ a : Nat, (a : Int) = v / 5 % 3 /\ a <= 2 /\ a = (v / 5 % 3).toNat := ⟨(v / 5 % 3).toNat, by omega, by omega, rfl⟩
  have n4 := nm_at s.sh.nm 4 (by decide) (by decide)
  have n8 := nm_at s.sh.nm 8 (by decide) (by decide)
  have n7 := nm_at s.sh.nm 7 (by decide) (by decide)
  obtain ⟨H, hH⟩ : ∃ H, H = h ++ [O.lst [.str (nmF c 8), .str (nmF c 7)]] := ⟨_, rfl⟩
  have lH : H.length = h.length + 1 := by rw [hH]; simp
  have ct : cutD (.loc h.length) none (some (v / 5 % 3)) H = .ok (.loc H.length) (H ++ [.lst (([nmF c 8, nmF c 7].take a).map .str)]) := by
    have r1 : rd H h.length = some [.str (nmF c 8), .str (nmF c 7)] := by rw [hH, rdx0]; rfl
    simp only [cutD, r1, new, cutXs]
    rw [<- ha.1, sIx_some _ _ _ (by omega), sIx_none]
    have e2 : min (a : Int).toNat [D.str (nmF c 8), D.str (nmF c 7)].length = a := by simp; omega
    rw [e2, Nat.sub_zero, List.drop_zero, List.map_take]
    rfl
  have sH : Sh nf nn c H := by rw [hH]; exact s.sh.gr _
  obtain ⟨i, h', k1, F1, M1, w1⟩ := C22 (nmF c 4) ([nmF c 8, nmF c 7].take a) H.length (v / 7) (H ++ [.lst (([nmF c 8, nmF c 7].take a).map .str)]) (sH.gr _) (by rw [hx0]; rfl) (by omega) (by simp; omega)
  have s' := s.mv ap.a1 ap.a2 ap.a3 F1 (Mv.trans nf _ _ _ (by rw [hH]; exact Mv.gr nf h _) (Mv.trans nf _ _ _ (Mv.gr nf H [.lst (([nmF c 8, nmF c 7].take a).map .str)]) M1))
  obtain ⟨m1, m2⟩ := s'.app (Ne.symm ap.a3) ap.a4 ap.a5 ap.a6 i.d hl
  refine ⟨i, _, ?_, m2, by rw [<- ha.2.2]; exact w1⟩
  subst hH
  exact ex_s (bnd rfl ((s.onL _).trans (bnd (bnd rfl (bnd (bnd rfl (bnd (bnd (bnd rfl (bnd rfl n4)) (bnd (bnd (bnd (bnd (bnd (bnd (bnd rfl (bnd rfl n8)) (bnd (bnd (bnd rfl (bnd rfl n7)) (bnd rfl rfl)) rfl)) rfl) rfl) (bnd rfl (bnd (some_s (bnd (bnd rfl (bnd rfl (fdk (by decide)))) (bnd rfl (mdk (by decide))))) ct))) (bnd (bnd (bnd rfl (bnd rfl (fdk (by decide)))) (bnd rfl rfl)) rfl)) rfl)) rfl)) k1)) m1))) rfl
theorem it_G (cl : Nat -> List D -> Hh -> Res D) (PL : D) (v : Int) (h : Hh) (is : List Itm) (hi : h[nl]? = some (.lst (is.map Itm.d))) (hl : is.length = 5) :
    ∃ a J, a <= 4 /\ Ss.run cl (dropS 8 d_law_items.body) [some (.loc nf), some PL, some (.int v), some (.loc nn), some (.loc no), some (.loc nt), some (.loc nl), none] h = .rt (.loc (h.length + 2)) (h ++ J) /\ (h ++ J)[h.length + 2]? = some (.lst ((is.drop a ++ is.take a).map Itm.d)) := by
  obtain ⟨a, ha⟩ : ∃ a : Nat, (a : Int) = v / 11 % 5 /\ a <= 4 := ⟨(v / 11 % 5).toNat, by omega, by omega⟩
  have ll : (is.map Itm.d).length = 5 := by simp [hl]
  have c1 : cutD (.loc nl) (some (v / 11 % 5)) none h = .ok (.loc h.length) (h ++ [.lst ((is.drop a).map Itm.d)]) := by
    simp only [cutD, rd_of hi, new, cutXs]
    rw [<- ha.1, sIx_some _ _ _ (by omega), sIx_none, ll]
    have e2 : min (a : Int).toNat 5 = a := by omega
    rw [e2, List.map_drop, List.take_of_length_le (by rw [List.length_drop, ll]; exact Nat.le_refl _)]
  have c2 : cutD (.loc nl) none (some (v / 11 % 5)) (h ++ [.lst ((is.drop a).map Itm.d)]) = .ok (.loc (h.length + 1)) (h ++ [.lst ((is.drop a).map Itm.d), .lst ((is.take a).map Itm.d)]) := by
    simp only [cutD, rd_of (get_old hi), new, cutXs]
    rw [<- ha.1, sIx_some _ _ _ (by omega), sIx_none, ll]
    have e2 : min (a : Int).toNat 5 = a := by omega
    rw [e2, List.drop_zero, Nat.sub_zero, List.map_take]
    simp
  have ad : binD .Add (.loc h.length) (.loc (h.length + 1)) (h ++ [.lst ((is.drop a).map Itm.d), .lst ((is.take a).map Itm.d)]) = .ok (.loc (h.length + 2)) (h ++ [.lst ((is.drop a).map Itm.d), .lst ((is.take a).map Itm.d), .lst ((is.drop a ++ is.take a).map Itm.d)]) := by
    have g1 : (h ++ [O.lst ((is.drop a).map Itm.d), .lst ((is.take a).map Itm.d)])[h.length]? = some (.lst ((is.drop a).map Itm.d)) := by rw [hx0]; rfl
    have g2 : (h ++ [O.lst ((is.drop a).map Itm.d), .lst ((is.take a).map Itm.d)])[h.length + 1]? = some (.lst ((is.take a).map Itm.d)) := by rw [hx]; rfl
    rw [bin_addl]
    rw [g1, g2]
    simp only
    rw [if_pos (by simp; omega)]
    simp
  refine ⟨a, [.lst ((is.drop a).map Itm.d), .lst ((is.take a).map Itm.d), .lst ((is.drop a ++ is.take a).map Itm.d)], ha.2, ?_, by rw [hx]; rfl⟩
  exact set_s (bnd (bnd rfl (bnd rfl (fdk (by decide)))) (bnd rfl (mdk (by decide)))) (ret_r (bnd (bnd rfl (bnd rfl (bnd rfl c1))) (bnd (bnd rfl (bnd rfl (bnd rfl c2))) ad)))
end
end K17
set_option Elab.async false
set_option linter.all false
set_option maxRecDepth 100000
set_option maxHeartbeats 4000000
namespace K17
open PySem L2 PI
theorem i_13 (k : Nat) : C13 (callI defs (k + 1)) := fun t _ _ _ hf => (callI_succ (d := d_is_function) rfl rfl).trans (r_isfn _ t hf)
theorem i_14 (k : Nat) : C14 (callI defs (k + 2)) := fun t _ hf => (callI_succ (d := d_may_be_handed) rfl rfl).trans (r_handed _ (i_13 k) t hf)
theorem i_12 (k : Nat) : C12 (callI defs (k + 3)) := fun t f o blk ps hb hc => (callI_succ (d := d_check_call) rfl rfl).trans (r_ccall _ (i_13 (k + 1)) (i_14 k) t f o blk ps hb hc)
theorem i_10 (k : Nat) : C10 (callI defs (k + 1)) := fun hx => (callI_succ (d := d_check_variable) rfl rfl).trans (r_cvar _ hx)
theorem i_11 (k : Nat) : C11 (callI defs (k + 1)) := fun t _ _ _ _ hx hp => (callI_succ (d := d_check_handle) rfl rfl).trans (r_chandle _ t hx hp)
theorem i_expr (k : Nat) : ExprOk (callI defs (k + 4)) := fun t hb _ _ _ hk hl => (callI_succ (d := d_check_expression) rfl rfl).trans (r_cexpr _ (i_10 (k + 2)) (i_11 (k + 2)) (i_12 k) t hb hk hl)
theorem i_parts (k : Nat) : PartsOk (callI defs (k + 1)) := fun kd ps h => (callI_succ (d := d_parts_of) rfl rfl).trans (r_parts _ kd ps h)
theorem i_inner (k : Nat) : InnerOk (callI defs (k + 2)) := fun c kd ps h hk hs => by
  obtain ⟨J, n, e, q⟩ := r_inner (callI defs (k + 1)) (i_parts k) c kd ps h hk hs
  exact ⟨J, n, (callI_succ (d := d_inner) rfl rfl).trans e, q⟩
theorem i_body (k : Nat) : BodyOk (callI defs (k + 5)) := fun t hb _ _ hg hz => by
  obtain ⟨J, e⟩ := r_cbody (callI defs (k + 4)) (i_inner (k + 2)) (i_expr k) t hb hg hz
  exact ⟨J, (callI_succ (d := d_check_body) rfl rfl).trans e⟩
theorem i_twice (k : Nat) : TwOk (callI defs (k + 1)) := fun xs h hn hl => by
  obtain ⟨⟨J, e⟩, f⟩ := r_twice (callI defs k) xs h hn hl
  refine ⟨⟨J, (callI_succ (d := d_refuse_twice) rfl rfl).trans e⟩, fun n en => ?_⟩
  obtain ⟨J, e⟩ := f n en
  exact ⟨J, (callI_succ (d := d_refuse_twice) rfl rfl).trans e⟩
theorem i_ans (k : Nat) : AnsOk (callI defs (k + 6)) := fun t _ _ _ _ ha => by
  obtain ⟨J, e⟩ := r_answer (callI defs (k + 5)) (i_twice (k + 4)) (i_body k) t ha
  exact ⟨J, (callI_succ (d := d_check_answer) rfl rfl).trans e⟩
theorem i_4 (k : Nat) : C4 (callI defs (k + 6)) := fun t _ _ _ _ hg => by
  obtain ⟨J, e⟩ := r_cfun (callI defs (k + 5)) (i_twice (k + 4)) (i_body k) t hg
  exact ⟨J, (callI_succ (d := d_check_function) rfl rfl).trans e⟩
theorem i_5 (k : Nat) : C5 (callI defs (k + 7)) := fun t _ _ _ _ _ hg => by
  obtain ⟨J, e⟩ := r_chd (callI defs (k + 6)) (i_twice (k + 5)) (i_ans k) t hg
  exact ⟨J, (callI_succ (d := d_check_handler) rfl rfl).trans e⟩
theorem i_1 (k : Nat) : C1 (callI defs (k + 1)) := fun is h hl => (callI_succ (d := d_items_by_name) rfl rfl).trans (r_items _ is h hl)
noncomputable def ChkOk (cl : Nat -> List D -> Hh -> Res D) : Prop := ∀ (is : List Itm) (h : Hh), (is.map Itm.nm).Nodup -> is.length <= 900 -> (∀ i ∈ is, i.good (qsOf is)) -> ∃ J, cl 2 [.tup (is.map Itm.d)] h = .ok .non (h ++ J)
theorem i_check (k : Nat) : ChkOk (callI defs (k + 8)) := fun is h hn hl hg => by
  obtain ⟨J, e⟩ := r_check (callI defs (k + 7)) (i_1 (k + 6)) (i_twice (k + 6)) (i_4 (k + 1)) (i_5 k) is h hn hl hg
  exact ⟨J, (callI_succ (d := d_check) rfl rfl).trans e⟩
theorem r_letby (cl : Nat -> List D -> Hh -> Res D) (c2 : ChkOk cl) (is : List Itm) (h : Hh) (hn : (is.map Itm.nm).Nodup) (hl : is.length <= 900) (hg : ∀ i ∈ is, i.good (qsOf is)) : ∃ J, d_law_let_by.run cl [.tup (is.map Itm.d)] h = .ok (.bl true) (h ++ J) := by
  obtain ⟨J, e⟩ := c2 is h hn hl hg
  refine ⟨J, ?_⟩
  unfold d_law_let_by
  simp only [Df.run, znil, zcons, yset, yret, ytryN, vnon, vint, vvar, vcmp, vcall, enil, List.map_cons, List.map_nil, List.length_cons, List.length_nil, List.cons_append, List.nil_append, List.getElem?_cons_zero, List.getElem?_cons_succ, bind_ok, andS_ok, List.set_cons_zero, List.set_cons_succ, seqS_nx, e, Nat.sub_self, List.replicate, cmp_isN, seqS_rt, outR]
noncomputable def LetOk (cl : Nat -> List D -> Hh -> Res D) : Prop := ∀ (is : List Itm) (h : Hh), (is.map Itm.nm).Nodup -> is.length <= 900 -> (∀ i ∈ is, i.good (qsOf is)) -> ∃ J, cl 25 [.tup (is.map Itm.d)] h = .ok (.bl true) (h ++ J)
theorem i_let (k : Nat) : LetOk (callI defs (k + 9)) := fun is h hn hl hg => by
  obtain ⟨J, e⟩ := r_letby (callI defs (k + 8)) (i_check k) is h hn hl hg
  exact ⟨J, (callI_succ (d := d_law_let_by) rfl rfl).trans e⟩
structure Five (c : Int) (p1 p2 : Nat) (v : Int) (L : List Itm) : Prop where
  ex : ∃ g0 g1 g2 i3 i4, L = [.fn (nmF c 0) (onesF c v p1) none g0, .fn (nmF c 1) [nmF c 11] none g1, .fn (nmF c 2) (othF c v p2) (some (nmF c 9)) g2, i3, i4] /\
    (Gd (q0 c p1 p2) none ⟨onesF c v p1, .fr⟩ g0 /\ g0.size <= 900000) /\ (Gd (q0 c p1 p2) none ⟨[nmF c 11], .fr⟩ g1 /\ g1.size <= 900000) /\ (Gd (q0 c p1 p2) (some (nmF c 9)) ⟨othF c v p2, .fr⟩ g2 /\ g2.size <= 900000) /\
    HdG c p1 p2 (nmF c 3) (((Nm c).drop 6).take (v % 3).toNat) i3 /\ HdG c p1 p2 (nmF c 4) ([nmF c 8, nmF c 7].take (v / 5 % 3).toNat) i4
section
variable {nf nn : Nat} {c : Int} {p1 p2 : Nat}
theorem ones_len (c v : Int) (p : Nat) : (onesF c v p).length = p := by simp [onesF]
theorem oth_len (c v : Int) (p : Nat) : (othF c v p).length = p := by simp [othF]
theorem r_items5 (cl : Nat -> List D -> Hh -> Res D) (hp1 : p1 <= 2) (hp2 : p2 <= 2) (C5 : GoodOk nf nn c p1 p2 cl 5) (C4 : GoodOk nf nn c p1 p2 cl 4) (C3 : GoodOk nf nn c p1 p2 cl 3) (C22 : HandOk nf nn c p1 p2 cl) (v : Int) (h : Hh) (s : Sh nf nn c h) :
    ∃ L a n h', d_law_items.run cl [.loc nf, plD nn p1 p2, .int v] h = .ok (.loc n) h' /\ h'[n]? = some (.lst ((L.drop a ++ L.take a).map Itm.d)) /\ Five c p1 p2 v L := by
  have A := it_A (p1 := p1) (p2 := p2) cl hp1 hp2 v h s
  have lt := s.lt
  have ltn : nn < h.length := (List.getElem?_eq_some_iff.mp s.nm).1
  obtain ⟨g0, h1, B, I1, l1, w1, w1'⟩ := it_B (no := h.length) (nt := h.length + 1) (on := onesF c v p1) (ot := othF c v p2) cl C5 v (h ++ [.lst ((onesF c v p1).map .str), .lst ((othF c v p2).map .str)]) (s.gr _) (by unfold knAt; rw [hx0]; rfl) (by unfold knAt; rw [hx]; rfl) (by omega) (by omega) (by rw [ones_len]; exact hp1)
  simp at l1
  have ap : Ap nf nn h.length (h.length + 1) h1.length := ⟨by omega, by omega, by omega, by omega, by omega, by omega⟩
  obtain ⟨g1, h2, Cc, I2, w2, w2'⟩ := it_C cl C3 v none _ ap I1 (by simp)
  obtain ⟨g2, h3, Dd, I3, w3, w3'⟩ := it_D cl C4 v none _ ap I2 (by simp) (by rw [oth_len]; exact hp2)
  obtain ⟨i3, h4, Ee, I4, w4⟩ := it_E cl C22 v none _ ap I3 (by simp)
  obtain ⟨i4, h5, Ff, I5, w5⟩ := it_F cl C22 v none _ ap I4 (by simp)
  obtain ⟨a, J, _, Gg, g5⟩ := it_G (nf := nf) (nn := nn) (no := h.length) (nt := h.length + 1) (nl := h1.length) cl (plD nn p1 p2) v h5 [.fn (nmF c 0) (onesF c v p1) none g0, .fn (nmF c 1) [nmF c 11] none g1, .fn (nmF c 2) (othF c v p2) (some (nmF c 9)) g2, i3, i4] (by have := I5.it; simpa using this) rfl
  refine ⟨_, a, h5.length + 2, h5 ++ J, ?_, g5, ⟨g0, g1, g2, i3, i4, rfl, ⟨w1, w1'⟩, ⟨w2, w2'⟩, ⟨w3, w3'⟩, w4, w5⟩⟩
  exact out_rt (at_nx 3 A (at_nx 1 B (at_nx 1 Cc (at_nx 1 Dd (at_nx 1 Ee (at_nx 1 Ff Gg))))))
theorem i_hand (hp1 : p1 <= 2) (hp2 : p2 <= 2) (j : Nat) : HandOk nf nn c p1 p2 (callI defs (16 + j)) := fun nm dn nd v h s hd hnd hl => by
  have a4 := i_good (nf := nf) (nn := nn) (c := c) hp1 hp2 4 j
  have a3 := i_good (nf := nf) (nn := nn) (c := c) hp1 hp2 3 (j + 3)
  have e1 : 16 + j = (3 * 4 + 3 + j) + 1 := by omega
  have e2 : 3 * 3 + 3 + (j + 3) = 3 * 4 + 3 + j := by omega
  rw [e2] at a3
  rw [e1]
  obtain ⟨i, h', e, r⟩ := r_handler (callI defs (3 * 4 + 3 + j)) a4 a3 nm dn nd v h s hd hnd hl
  exact ⟨i, h', (callI_succ (d := d_law_handler) rfl rfl).trans e, r⟩
theorem i_items (hp1 : p1 <= 2) (hp2 : p2 <= 2) (v : Int) (h : Hh) (s : Sh nf nn c h) : ∃ L a n h', callI defs 29 23 [.loc nf, plD nn p1 p2, .int v] h = .ok (.loc n) h' /\ h'[n]? = some (.lst ((L.drop a ++ L.take a).map Itm.d)) /\ Five c p1 p2 v L := by
  obtain ⟨L, a, n, h', e, r⟩ := r_items5 (callI defs 28) hp1 hp2 (i_good hp1 hp2 5 10) (i_good hp1 hp2 4 13) (i_good hp1 hp2 3 16) (i_hand hp1 hp2 12) v h s
  exact ⟨L, a, n, h', (callI_succ (d := d_law_items) rfl rfl).trans e, r⟩
end
end K17
set_option Elab.async false
set_option linter.all false
set_option maxRecDepth 100000
set_option maxHeartbeats 4000000
namespace K17
open PySem L2 PI
theorem r_program (cl : Nat -> List D -> Hh -> Res D) (ns : List Int) (c15 : ∀ (k : Int) (h : Hh), 0 <= k /\ k < 1000 -> cl 15 [.fl (ns.map .int), .int k] h = .ok (.int (cellF ns k)) h) (c17 : ∀ (c : Int) (h : Hh), ∃ J, cl 17 [.int c, .int 12] h = .ok (.loc (h.length + J.length)) (h ++ (J ++ [.lst ((Nm c).map .str)])))
    (c23 : ∀ {nf nn : Nat} {c : Int} {p1 p2 : Nat}, p1 <= 2 -> p2 <= 2 -> ∀ (v : Int) (h : Hh), Sh nf nn c h -> ∃ L a n h', cl 23 [.loc nf, plD nn p1 p2, .int v] h = .ok (.loc n) h' /\ h'[n]? = some (.lst ((L.drop a ++ L.take a).map Itm.d)) /\ Five c p1 p2 v L) :
    ∃ (L : List Itm) (a p1 p2 : Nat) (v : Int) (h' : Hh), d_law_program.run cl [.fl (ns.map .int)] [] = .ok (.tup ((L.drop a ++ L.take a).map Itm.d)) h' /\ Five (cellF ns 0) p1 p2 v L /\ p1 <= 2 /\ p2 <= 2 := by
  obtain ⟨J, k17⟩ := c17 (cellF ns 0) []
  have q0' := fun h => c15 0 h (by decide)
  have q1' := fun h => c15 1 h (by decide)
  obtain ⟨c1, hc1⟩ : ∃ c1, c1 = cellF ns 1 := ⟨_, rfl⟩
  rw [<- hc1] at q1'
  obtain ⟨p1, hp1⟩ : ∃ p1 : Nat, (p1 : Int) = c1 % 3 /\ p1 <= 2 := ⟨(c1 % 3).toNat, by omega, by omega⟩
  obtain ⟨p2, hp2⟩ : ∃ p2 : Nat, (p2 : Int) = c1 / 3 % 3 /\ p2 <= 2 := ⟨(c1 / 3 % 3).toNat, by omega, by omega⟩
  rw [List.nil_append, List.length_nil, Nat.zero_add] at k17
  obtain ⟨H, hH⟩ : ∃ H, H = J ++ [O.lst ((Nm (cellF ns 0)).map .str)] := ⟨_, rfl⟩
  rw [<- hH] at k17
  have lH : H.length = J.length + 1 := by rw [hH]; simp
  have key := compL_pure (c := []) (f := compF t_law_program_1 [none, some (.fl (ns.map .int))] (fun ρ' h2 => c_law_program_1.evC cl ρ' h2) (fun ρ' h2 => e_law_program_1.ev cl ρ' h2)) (h := H) stay_nil
    (fun x => match x with | .int k => some (D.int (cellF ns k)) | _ => none) ((List.range 40).map fun k => D.int (41 - (k : Nat))) [] (by
      intro x hx
      obtain ⟨i, hi, rfl⟩ := List.mem_map.mp hx
      have hi' := List.mem_range.mp hi
      have q := c15 (41 - (i : Int)) H (by omega)
      exact compF_t rfl rfl (bnd rfl (bnd rfl q)))
  have fm : ((List.range 40).map fun k => D.int (41 - (k : Nat))).filterMap (fun x => match x with | .int k => some (D.int (cellF ns k)) | _ => none) = ((List.range 40).map fun k : Nat => cellF ns (41 - (k : Int))).map D.int := by
    rw [List.filterMap_map, List.map_map, <- List.filterMap_eq_map]
    rfl
  rw [fm, List.nil_append] at key
  obtain ⟨fs, hfs⟩ : ∃ fs, fs = (List.range 40).map fun k : Nat => cellF ns (41 - (k : Int)) := ⟨_, rfl⟩
  rw [<- hfs] at key
  have sh : Sh H.length J.length (cellF ns 0) (H ++ [.lst (fs.map .int)]) := by
    refine ⟨⟨fs, by rw [hx0]; rfl, fun x hx => ?_, by rw [hfs]; simp⟩, get_old (by rw [hH, hx0]; rfl), by omega⟩
    rw [hfs] at hx
    obtain ⟨k, _, rfl⟩ := List.mem_map.mp hx
    have := cellF_lt ns (41 - (k : Int))
    exact fits_lt (by omega)
  obtain ⟨L, a, n, h', k23, g23, five⟩ := c23 hp1.2 hp2.2 (c1 / 9) _ sh
  refine ⟨L, a, p1, p2, c1 / 9, h', ?_, five, hp1.2, hp2.2⟩
  have m3 : ∀ h, binD .Mod (.int c1) (.int 3) h = .ok (.int (p1 : Nat)) h := fun h => hp1.1 ▸ mdk (by decide)
  have m33 : ∀ h, binD .Mod (.int (c1 / 3)) (.int 3) h = .ok (.int (p2 : Nat)) h := fun h => hp2.1 ▸ mdk (by decide)
  have dn : ∀ h, downD (.int 41) (.int 1) (.int (-1)) h = .ok ([], (List.range 40).map fun k => D.int (41 - (k : Nat))) h := fun h => by
    simp only [downD]
    rw [if_pos (by decide)]
    rfl
  have l1 : ((List.range 40).map fun k => D.int (41 - (k : Nat))).length <= 1000000 := by simp
  have sq : seqOf (.loc n) h' = some ((L.drop a ++ L.take a).map Itm.d) := by simp only [seqOf]; exact rd_of g23
  exact out_rt (set_s (bnd rfl (bnd rfl (q1' _))) (set_s (d := plD J.length p1 p2) (bnd (bnd (bnd (bnd rfl (bnd rfl (q0' _))) (bnd rfl k17)) (bnd (bnd (bnd rfl (bnd rfl (m3 _))) (bnd (bnd (bnd (bnd rfl (bnd rfl (fdk (by decide)))) (bnd rfl (m33 _))) (bnd rfl rfl)) rfl)) rfl)) rfl) (ret_r (tupE_s (bnd (ofL_comp (q := ([], (List.range 40).map fun k => D.int (41 - (k : Nat)))) (h' := H) (bnd rfl (bnd rfl (bnd rfl (dn _)))) l1 key) (bnd (bnd rfl (bnd (bnd (bnd rfl (bnd rfl (fdk (by decide)))) (bnd rfl rfl)) rfl)) k23)) sq))))
end K17
set_option Elab.async false
set_option linter.all false
set_option maxRecDepth 100000
set_option maxHeartbeats 4000000
namespace K17
open PySem L2 PI
theorem qs_mem {pr : List Itm} {i : Itm} (h : i ∈ pr) : (i.nm, i.d) ∈ qsOf pr := List.mem_map.mpr ⟨i, h, rfl⟩
theorem qs_fst (pr : List Itm) : (qsOf pr).map (·.1) = pr.map Itm.nm := by unfold qsOf; rw [List.map_map]; rfl
section
variable {c : Int} {p1 p2 : Nat} {v : Int} {pr M : List Itm}
theorem up_d (F : Five c p1 p2 v M) (hs : ∀ i ∈ M, i ∈ pr) : ∀ f n b, IsD (q0 c p1 p2) f n b -> IsD (qsOf pr) f n b := by
  obtain ⟨g0, g1, g2, i3, i4, rfl, _⟩ := F.ex
  rintro f n b ⟨ps, bd, bo, hm, hl, hb⟩
  have m0 := qs_mem (hs (.fn (nmF c 0) (onesF c v p1) none g0) (by simp))
  have m1 := qs_mem (hs (.fn (nmF c 1) [nmF c 11] none g1) (by simp))
  have m2 := qs_mem (hs (.fn (nmF c 2) (othF c v p2) (some (nmF c 9)) g2) (by simp))
  simp only [q0, List.mem_cons, List.not_mem_nil, or_false, Prod.mk.injEq, dfD, D.tup.injEq, List.cons.injEq] at hm
  rcases hm with ⟨rfl, _, _, e1, e2, _⟩ | ⟨rfl, _, _, e1, e2, _⟩ | ⟨rfl, _, _, e1, e2, _⟩ | ⟨_, _, h⟩ | ⟨_, _, h⟩
  · have hb0 : b = false := by rcases hb with ⟨z, _⟩ | ⟨_, x, z⟩; exact z; rw [e2] at z; cases z
    subst hb0
    refine ⟨_, _, _, m0, ?_, .inl ⟨rfl, rfl⟩⟩
    rw [<- hl, e1]
    simp [ones_len]
  · have hb0 : b = false := by rcases hb with ⟨z, _⟩ | ⟨_, x, z⟩; exact z; rw [e2] at z; cases z
    subst hb0
    refine ⟨_, _, _, m1, ?_, .inl ⟨rfl, rfl⟩⟩
    rw [<- hl, e1]
    simp
  · have hb0 : b = true := by rcases hb with ⟨_, z⟩ | ⟨z, _⟩; rw [e2] at z; cases z; exact z
    subst hb0
    refine ⟨_, _, _, m2, ?_, .inr ⟨rfl, _, rfl⟩⟩
    rw [<- hl, e1]
    simp [oth_len]
  · cases h
  · cases h
theorem up_h (F : Five c p1 p2 v M) (hs : ∀ i ∈ M, i ∈ pr) : ∀ x, IsH (q0 c p1 p2) x -> IsH (qsOf pr) x := by
  obtain ⟨g0, g1, g2, i3, i4, rfl, _, _, _, h3, h4⟩ := F.ex
  rintro x ⟨r, hm⟩
  have sd : (("handler" : Str) = ("def" : Str)) = False := by simp; decide
  have m3 := qs_mem (hs i3 (by simp))
  have m4 := qs_mem (hs i4 (by simp))
  obtain ⟨cs3, x3, s3, e3, rfl, _⟩ := h3
  obtain ⟨cs4, x4, s4, e4, rfl, _⟩ := h4
  simp only [q0, List.mem_cons, List.not_mem_nil, or_false, Prod.mk.injEq, dfD, D.tup.injEq, List.cons.injEq, D.str.injEq, sd, false_and, and_false, false_or] at hm
  rcases hm with ⟨rfl, _⟩ | ⟨rfl, _⟩
  · exact ⟨_, m3⟩
  · exact ⟨_, m4⟩
theorem ans_up {qs qs' : List (Str × D)} (hd : ∀ f n b, IsD qs f n b -> IsD qs' f n b) (hh : ∀ x, IsH qs x -> IsH qs' x) {p : Pl} {x s : Str} {g : G} (a : AnsG qs p x s g) : AnsG qs' p x s g := ⟨a.ne, gd_mono hd hh a.gd, a.sz⟩
theorem hd_up {qs : List (Str × D)} (hd : ∀ f n b, IsD (q0 c p1 p2) f n b -> IsD qs f n b) (hh : ∀ x, IsH (q0 c p1 p2) x -> IsH qs x) {nm : Str} {dn : List Str} {i : Itm} (h : HdG c p1 p2 nm dn i) (hn : dn.Nodup) (hl : dn.length <= 900) : i.good qs := by
  obtain ⟨cs, x, s, e, rfl, e1, e2, e3⟩ := h
  refine ⟨by rw [e1]; exact hn, ?_, fun q hq => ans_up hd hh (e2 q hq), ans_up hd hh e3⟩
  have := congrArg List.length e1
  simp at this
  omega
theorem Nm_nd (c : Int) : (Nm c).Nodup := by
  unfold Nm
  rw [List.nodup_iff_pairwise_ne, List.pairwise_map]
  have : (List.range 12).Pairwise (fun a b => a ≠ b /\ a < 12 /\ b < 12) := by decide
  exact this.imp fun {a b} h => nmF_ne c h.2.1 h.2.2 h.1
theorem five_good (hp1 : p1 <= 2) (hp2 : p2 <= 2) (F : Five c p1 p2 v M) (hs : ∀ i ∈ M, i ∈ pr) (h9 : nmF c 9 ∉ pr.map Itm.nm) : ∀ i ∈ M, i.good (qsOf pr) := by
  have hd := up_d F hs
  have hh := up_h F hs
  obtain ⟨g0, g1, g2, i3, i4, rfl, ⟨a1, a2⟩, ⟨b1, b2⟩, ⟨c1, c2⟩, h3, h4⟩ := F.ex
  intro i hi
  simp only [List.mem_cons, List.not_mem_nil, or_false] at hi
  rcases hi with rfl | rfl | rfl | rfl | rfl
  · exact ⟨by simpa using ones_nd c v p1 hp1, by rw [ones_len]; omega, trivial, fun x z => (nomatch z), gd_mono hd hh a1, a2⟩
  · exact ⟨by simp, by simp, trivial, fun x z => (nomatch z), gd_mono hd hh b1, b2⟩
  · refine ⟨by simpa using oth_nd c v p2 hp2, by rw [oth_len]; omega, nmF_ok c 9, fun x z => ?_, gd_mono hd hh c1, c2⟩
    rw [<- Option.some.inj z, qs_fst]
    exact h9
  · refine hd_up hd hh h3 ?_ (by simp [Nm_len]; omega)
    exact (Nm_nd c).sublist ((List.take_sublist _ _).trans (List.drop_sublist _ _))
  · refine hd_up hd hh h4 ?_ (by simp; omega)
    have : [nmF c 8, nmF c 7].Nodup := by simp; exact nmF_ne c (by decide) (by decide) (by decide)
    exact this.sublist (List.take_sublist _ _)
theorem five_nm (F : Five c p1 p2 v M) : M.map Itm.nm = [nmF c 0, nmF c 1, nmF c 2, nmF c 3, nmF c 4] /\ M.length = 5 := by
  obtain ⟨g0, g1, g2, i3, i4, rfl, _, _, _, h3, h4⟩ := F.ex
  obtain ⟨cs3, x3, s3, e3, rfl, _⟩ := h3
  obtain ⟨cs4, x4, s4, e4, rfl, _⟩ := h4
  exact ⟨rfl, rfl⟩
end
end K17
set_option Elab.async false
set_option linter.all false
set_option maxRecDepth 100000
set_option maxHeartbeats 4000000
namespace K17
open PySem L2 PI
noncomputable def inG (c : Int) : G := .nd .go [.nd (.var (nmF c 0)) [], .nd (.num 1) []]
noncomputable def outG (c u : Int) : G := .nd .go [inG c, .nd (.handle (nmF c 10)) [inG c, .nd (.num u) []]]
noncomputable def moreI (c u : Int) : Itm := .hd (nmF c 10) [⟨nmF c 6, nmF c 0, nmF c 1, outG c u⟩] (nmF c 0) (nmF c 1) (.nd (.var (nmF c 1)) [])
theorem in_gd {qs : List (Str × D)} (c : Int) : Gd qs none ⟨[nmF c 0, nmF c 1], .cl⟩ (inG c) := by
  refine gd_same rfl rfl rfl rfl fun g hg => ?_
  simp at hg
  rcases hg with rfl | rfl
  · exact gd_leaf rfl (by show nmF c 0 ∈ [nmF c 0, nmF c 1]; simp)
  · exact gd_leaf rfl trivial
theorem more_good {qs : List (Str × D)} (c u : Int) (hh : IsH qs (nmF c 10)) : (moreI c u).good qs := by
  have ne : nmF c 0 ≠ nmF c 1 := nmF_ne c (by decide) (by decide) (by decide)
  refine ⟨by simp, by simp, ?_, ⟨ne, gd_leaf rfl (by show nmF c 1 ∈ [nmF c 0, nmF c 1]; simp), by simp [G.size, G.sizes]⟩⟩
  intro q hq
  have : q = ⟨nmF c 6, nmF c 0, nmF c 1, outG c u⟩ := by simpa using hq
  subst this
  refine ⟨ne, ?_, by simp [outG, inG, G.size, G.sizes]⟩
  refine gd_same rfl rfl rfl rfl fun g hg => ?_
  simp at hg
  rcases hg with rfl | rfl
  · exact in_gd c
  · exact gd_hd hh (by intro z; cases z) (in_gd c) (gd_leaf rfl trivial)
theorem law_run (cl : Nat -> List D -> Hh -> Res D) (ns : List Int) (c15 : ∀ (k : Int) (h : Hh), 0 <= k /\ k < 1000 -> cl 15 [.fl (ns.map .int), .int k] h = .ok (.int (cellF ns k)) h) (c17 : ∀ (c : Int) (h : Hh), ∃ J, cl 17 [.int c, .int 12] h = .ok (.loc (h.length + J.length)) (h ++ (J ++ [.lst ((Nm c).map .str)])))
    (c24 : ∃ (M : List Itm) (a p1 p2 : Nat) (v : Int) (h' : Hh), cl 24 [.fl (ns.map .int)] [] = .ok (.tup ((M.drop a ++ M.take a).map Itm.d)) h' /\ Five (cellF ns 0) p1 p2 v M /\ p1 <= 2 /\ p2 <= 2) (c25 : LetOk cl) : ∃ h', d_law.run cl [.fl (ns.map .int)] [] = .ok (.bl true) h' := by
  obtain ⟨M, a, p1, p2, v, h1, k24, F, hp1, hp2⟩ := c24
  obtain ⟨c, hc⟩ : ∃ c, c = cellF ns 0 := ⟨_, rfl⟩
  have q0' := fun h => c15 0 h (by decide)
  have q1' := fun h => c15 1 h (by decide)
  rw [<- hc] at F q0'
  obtain ⟨u, hu⟩ : ∃ u, u = cellF ns 1 % 10 ^ 18 := ⟨_, rfl⟩
  obtain ⟨nmM, lenM⟩ := five_nm F
  obtain ⟨is, his⟩ : ∃ is, is = M.drop a ++ M.take a := ⟨_, rfl⟩
  have pm : is.Perm M := by
    rw [his]
    have := List.perm_append_comm (l₁ := M.drop a) (l₂ := M.take a)
    rw [List.take_append_drop] at this
    exact this
  rw [<- his] at k24
  have memI : ∀ i ∈ M, i ∈ is := fun i hi => pm.mem_iff.mpr hi
  have lenI : is.length = 5 := pm.length_eq.trans lenM
  have nmP : (is.map Itm.nm).Perm [nmF c 0, nmF c 1, nmF c 2, nmF c 3, nmF c 4] := by rw [<- nmM]; exact pm.map _
  have nd6 : [nmF c 10, nmF c 0, nmF c 1, nmF c 2, nmF c 3, nmF c 4].Nodup := by
    have hh : ([10, 0, 1, 2, 3, 4].map (nmF c)).Nodup := by
      rw [List.nodup_iff_pairwise_ne, List.pairwise_map]
      have : [10, 0, 1, 2, 3, 4].Pairwise (fun a b => a ≠ b /\ a < 12 /\ b < 12) := by decide
      exact this.imp fun {a b} h => nmF_ne c h.2.1 h.2.2 h.1
    exact hh
  have nd5 : (is.map Itm.nm).Nodup := nmP.nodup_iff.mpr (List.nodup_cons.mp nd6).2
  have no9 : ∀ k : Nat, k ∈ [10, 0, 1, 2, 3, 4] -> nmF c 9 ≠ nmF c k := fun k hk => by
    simp at hk
    exact nmF_ne c (by decide) (by omega) (by omega)
  have h9 : nmF c 9 ∉ is.map Itm.nm := by
    rw [nmP.mem_iff]
    simp
    exact ⟨no9 0 (by simp), no9 1 (by simp), no9 2 (by simp), no9 3 (by simp), no9 4 (by simp)⟩
  have good1 : ∀ i ∈ is, i.good (qsOf is) := fun i hi => five_good hp1 hp2 F memI h9 i (pm.mem_iff.mp hi)
  obtain ⟨J1, k1⟩ := c25 is h1 nd5 (by omega) good1
  obtain ⟨J2, k2⟩ := c17 c (h1 ++ J1)
  obtain ⟨H, hH⟩ : ∃ H, H = h1 ++ J1 ++ (J2 ++ [O.lst ((Nm c).map .str)]) := ⟨_, rfl⟩
  obtain ⟨nn, hnn⟩ : ∃ nn, nn = (h1 ++ J1).length + J2.length := ⟨_, rfl⟩
  rw [<- hH, <- hnn] at k2
  have gn : H[nn]? = some (.lst ((Nm c).map .str)) := by rw [hH, hnn, hx, hx0]; rfl
  have n0 : subD (.loc nn) (.int 0) H = .ok (.str (nmF c 0)) H := nm_at gn 0 (by decide) (by decide)
  have n1 : subD (.loc nn) (.int 1) H = .ok (.str (nmF c 1)) H := nm_at gn 1 (by decide) (by decide)
  have n6 : subD (.loc nn) (.int 6) H = .ok (.str (nmF c 6)) H := nm_at gn 6 (by decide) (by decide)
  have n10 : subD (.loc nn) (.int 10) H = .ok (.str (nmF c 10)) H := nm_at gn 10 (by decide) (by decide)
  have ndr : (is.reverse.map Itm.nm).Nodup := by rw [List.map_reverse]; exact (List.reverse_perm _).nodup_iff.mpr nd5
  have h9r : nmF c 9 ∉ is.reverse.map Itm.nm := by rw [List.map_reverse, List.mem_reverse]; exact h9
  obtain ⟨J3, k3⟩ := c25 is.reverse H ndr (by rw [List.length_reverse]; omega) (fun i hi => five_good hp1 hp2 F (fun i hi => List.mem_reverse.mpr (memI i hi)) h9r i (pm.mem_iff.mp (List.mem_reverse.mp hi)))
  have nd7 : ((moreI c u :: is).map Itm.nm).Nodup := by
    rw [List.map_cons]
    have : (nmF c 10 :: is.map Itm.nm).Perm [nmF c 10, nmF c 0, nmF c 1, nmF c 2, nmF c 3, nmF c 4] := nmP.cons _
    exact this.nodup_iff.mpr nd6
  have h9m : nmF c 9 ∉ (moreI c u :: is).map Itm.nm := by
    rw [List.map_cons, List.mem_cons]
    intro z
    rcases z with z | z
    · exact no9 10 (by simp) z
    · exact h9 z
  have hM : IsH (qsOf (moreI c u :: is)) (nmF c 10) := ⟨_, qs_mem (List.mem_cons_self ..)⟩
  obtain ⟨J4, k4⟩ := c25 (moreI c u :: is) (H ++ J3) nd7 (by simp; omega) (fun i hi => by
    rcases List.mem_cons.mp hi with rfl | hi
    · exact more_good c u hM
    · exact five_good hp1 hp2 F (fun i hi => List.mem_cons_of_mem _ (memI i hi)) h9m i (pm.mem_iff.mp hi))
  obtain ⟨J5, k5⟩ := c25 [] (H ++ J3 ++ J4) (by simp) (by simp) (by simp)
  refine ⟨H ++ J3 ++ J4 ++ J5, ?_⟩
  rw [List.map_reverse] at k3
  rw [List.map_cons] at k4
  simp only [List.map_nil] at k5
  have rv : ∀ h, revTD (.tup (is.map Itm.d)) (.int (-1)) h = .ok (.tup (is.map Itm.d).reverse) h := fun h => by simp [revTD]
  have ad : ∀ h, binD .Add (.tup [(moreI c u).d]) (.tup (is.map Itm.d)) h = .ok (.tup ((moreI c u).d :: is.map Itm.d)) h := fun h => by
    rw [bin_addt, if_pos (by simp; omega)]; rfl
  have md : ∀ h, binD .Mod (.int (cellF ns 1)) (.int (10 ^ 18)) h = .ok (.int u) h := fun h => by rw [bin_mod, if_pos (by decide), hu]
  have pw : ∀ h, binD .Pow (.int 10) (.int 18) h = .ok (.int (10 ^ 18)) h := fun h => by rw [bin_pow, if_pos (by decide)]; rfl
  refine out_rt (set_s (bnd rfl (bnd rfl k24)) (iff_f (bnd (bnd (bnd rfl (bnd rfl k1)) rfl) rfl) (set_s (bnd (bnd rfl (bnd rfl (q0' _))) (bnd rfl k2)) ?_)))
  refine set_s (d := (inG c).d) (bnd (bnd rfl (bnd (bnd (bnd (bnd rfl (bnd (bnd (bnd rfl (bnd rfl n0)) (bnd rfl rfl)) rfl)) rfl) (bnd rfl rfl)) rfl)) rfl) (set_s (d := (outG c u).d) (bnd (bnd rfl (bnd (bnd rfl (bnd (bnd (bnd (bnd rfl (bnd (bnd (bnd rfl (bnd rfl n10)) (bnd (bnd rfl (bnd (bnd (bnd (bnd rfl (bnd (bnd (bnd (bnd rfl (bnd rfl (q1' _))) (bnd (bnd rfl (bnd rfl (pw _))) (md _))) (bnd rfl rfl)) rfl)) rfl) (bnd rfl rfl)) rfl)) rfl)) rfl)) rfl) (bnd rfl rfl)) rfl)) rfl)) rfl) (set_s (d := (moreI c u).d) (bnd (bnd rfl (bnd (bnd (bnd rfl (bnd rfl n10)) (bnd (bnd (bnd (bnd (bnd (bnd (bnd rfl (bnd rfl n6)) (bnd (bnd (bnd rfl (bnd rfl n0)) (bnd (bnd (bnd rfl (bnd rfl n1)) (bnd rfl rfl)) rfl)) rfl)) rfl) (bnd rfl rfl)) rfl) (bnd (bnd (bnd (bnd (bnd rfl (bnd rfl n0)) (bnd (bnd (bnd rfl (bnd rfl n1)) (bnd (bnd (bnd (bnd rfl (bnd (bnd (bnd rfl (bnd rfl n1)) (bnd rfl rfl)) rfl)) rfl) (bnd rfl rfl)) rfl)) rfl)) rfl) (bnd rfl rfl)) rfl)) rfl)) rfl)) rfl) (ret_r ?_)))
  exact bnd (bnd (bnd rfl (bnd rfl (rv _))) (bnd rfl k3)) (bnd (bnd (bnd rfl (bnd rfl (ad _))) (bnd rfl k4)) (bnd (bnd rfl (bnd rfl k5)) rfl))
theorem law_true (ns : List Int) (hb : ∀ n ∈ ns, fits n = true) : ∃ h', callI defs 31 26 [.fl (ns.map .int)] [] = .ok (.bl true) h' := by
  have c15 : ∀ (j : Nat) (k : Int) (h : Hh), 0 <= k /\ k < 1000 -> callI defs (j + 1) 15 [.fl (ns.map .int), .int k] h = .ok (.int (cellF ns k)) h := fun j k h hk => (callI_succ (d := d_law_cell) rfl rfl).trans (r_cell _ h ns k hk hb)
  have c17 : ∀ (j : Nat) (c : Int) (h : Hh), ∃ J, callI defs (j + 1) 17 [.int c, .int 12] h = .ok (.loc (h.length + J.length)) (h ++ (J ++ [.lst ((Nm c).map .str)])) := fun j c h => by
    obtain ⟨J, e⟩ := r_names (callI defs j) c h
    exact ⟨J, (callI_succ (d := d_law_names) rfl rfl).trans e⟩
  obtain ⟨h', e⟩ := law_run (callI defs 30) ns (c15 29) (c17 29) (by
    obtain ⟨M, a, p1, p2, v, h', e, r⟩ := r_program (callI defs 29) ns (c15 28) (c17 28) (fun h1 h2 v h s => i_items h1 h2 v h s)
    exact ⟨M, a, p1, p2, v, h', (callI_succ (d := d_law_program) rfl rfl).trans e, r⟩) (i_let 21)
  exact ⟨h', (callI_succ (d := d_law) rfl rfl).trans e⟩
end K17
set_option Elab.async false
set_option linter.all false
set_option maxRecDepth 100000
namespace K17
open PySem L2 PI
noncomputable def top (i : Nat) : Stmt := PySem.Challenge.pw_deedwright_k17_good_programs.main.body.getD i (.Pass ⟨0, 0, 0, 0⟩)
theorem o_parts_of : DefOk (top 7) d_parts_of (defs.map (·.name)) consts := ⟨rfl, ⟨rfl, rfl, rfl, by decide +kernel, rfl, by decide +kernel, by decide +kernel⟩, by decide +kernel, by decide +kernel, fun _ _ _ _ _ _ => len1 fun _ => rfl⟩
theorem o_items_by_name : DefOk (top 8) d_items_by_name (defs.map (·.name)) consts := ⟨rfl, ⟨rfl, rfl, rfl, by decide +kernel, rfl, by decide +kernel, by decide +kernel⟩, by decide +kernel, by decide +kernel, fun _ _ _ _ _ _ => len1 fun _ => rfl⟩
theorem o_check : DefOk (top 13) d_check (defs.map (·.name)) consts := ⟨rfl, ⟨rfl, rfl, rfl, by decide +kernel, rfl, by decide +kernel, by decide +kernel⟩, by decide +kernel, by decide +kernel, fun _ _ _ _ _ _ => len1 fun _ => rfl⟩
theorem o_refuse_twice : DefOk (top 14) d_refuse_twice (defs.map (·.name)) consts := ⟨rfl, ⟨rfl, rfl, rfl, by decide +kernel, rfl, by decide +kernel, by decide +kernel⟩, by decide +kernel, by decide +kernel, fun _ _ _ _ _ _ => len1 fun _ => rfl⟩
theorem o_check_function : DefOk (top 15) d_check_function (defs.map (·.name)) consts := ⟨rfl, ⟨rfl, rfl, rfl, by decide +kernel, rfl, by decide +kernel, by decide +kernel⟩, by decide +kernel, by decide +kernel, fun _ _ _ _ _ _ => len2 fun _ _ => rfl⟩
theorem o_check_handler : DefOk (top 16) d_check_handler (defs.map (·.name)) consts := ⟨rfl, ⟨rfl, rfl, rfl, by decide +kernel, rfl, by decide +kernel, by decide +kernel⟩, by decide +kernel, by decide +kernel, fun _ _ _ _ _ _ => len2 fun _ _ => rfl⟩
theorem o_check_answer : DefOk (top 17) d_check_answer (defs.map (·.name)) consts := ⟨rfl, ⟨rfl, rfl, rfl, by decide +kernel, rfl, by decide +kernel, by decide +kernel⟩, by decide +kernel, by decide +kernel, fun _ _ _ _ _ _ => len3 fun _ _ _ => rfl⟩
theorem o_check_body : DefOk (top 18) d_check_body (defs.map (·.name)) consts := ⟨rfl, ⟨rfl, rfl, rfl, by decide +kernel, rfl, by decide +kernel, by decide +kernel⟩, by decide +kernel, by decide +kernel, fun _ _ _ _ _ _ => len5 fun _ _ _ _ _ => rfl⟩
theorem o_inner : DefOk (top 19) d_inner (defs.map (·.name)) consts := ⟨rfl, ⟨rfl, rfl, rfl, by decide +kernel, rfl, by decide +kernel, by decide +kernel⟩, by decide +kernel, by decide +kernel, fun _ _ _ _ _ _ => len3 fun _ _ _ => rfl⟩
theorem o_check_expression : DefOk (top 20) d_check_expression (defs.map (·.name)) consts := ⟨rfl, ⟨rfl, rfl, rfl, by decide +kernel, rfl, by decide +kernel, by decide +kernel⟩, by decide +kernel, by decide +kernel, fun _ _ _ _ _ _ => len5 fun _ _ _ _ _ => rfl⟩
theorem o_check_variable : DefOk (top 21) d_check_variable (defs.map (·.name)) consts := ⟨rfl, ⟨rfl, rfl, rfl, by decide +kernel, rfl, by decide +kernel, by decide +kernel⟩, by decide +kernel, by decide +kernel, fun _ _ _ _ _ _ => len2 fun _ _ => rfl⟩
theorem o_check_handle : DefOk (top 22) d_check_handle (defs.map (·.name)) consts := ⟨rfl, ⟨rfl, rfl, rfl, by decide +kernel, rfl, by decide +kernel, by decide +kernel⟩, by decide +kernel, by decide +kernel, fun _ _ _ _ _ _ => len3 fun _ _ _ => rfl⟩
theorem o_check_call : DefOk (top 23) d_check_call (defs.map (·.name)) consts := ⟨rfl, ⟨rfl, rfl, rfl, by decide +kernel, rfl, by decide +kernel, by decide +kernel⟩, by decide +kernel, by decide +kernel, fun _ _ _ _ _ _ => len3 fun _ _ _ => rfl⟩
theorem o_is_function : DefOk (top 24) d_is_function (defs.map (·.name)) consts := ⟨rfl, ⟨rfl, rfl, rfl, by decide +kernel, rfl, by decide +kernel, by decide +kernel⟩, by decide +kernel, by decide +kernel, fun _ _ _ _ _ _ => len2 fun _ _ => rfl⟩
theorem o_may_be_handed : DefOk (top 25) d_may_be_handed (defs.map (·.name)) consts := ⟨rfl, ⟨rfl, rfl, rfl, by decide +kernel, rfl, by decide +kernel, by decide +kernel⟩, by decide +kernel, by decide +kernel, fun _ _ _ _ _ _ => len2 fun _ _ => rfl⟩
theorem o_law_cell : DefOk (top 27) d_law_cell (defs.map (·.name)) consts := ⟨rfl, ⟨rfl, rfl, rfl, by decide +kernel, rfl, by decide +kernel, by decide +kernel⟩, by decide +kernel, by decide +kernel, fun _ _ _ _ _ _ => len2 fun _ _ => rfl⟩
theorem o_law_next : DefOk (top 28) d_law_next (defs.map (·.name)) consts := ⟨rfl, ⟨rfl, rfl, rfl, by decide +kernel, rfl, by decide +kernel, by decide +kernel⟩, by decide +kernel, by decide +kernel, fun _ _ _ _ _ _ => len1 fun _ => rfl⟩
theorem o_law_names : DefOk (top 29) d_law_names (defs.map (·.name)) consts := ⟨rfl, ⟨rfl, rfl, rfl, by decide +kernel, rfl, by decide +kernel, by decide +kernel⟩, by decide +kernel, by decide +kernel, fun _ _ _ _ _ _ => len2 fun _ _ => rfl⟩
theorem o_law_some : DefOk (top 30) d_law_some (defs.map (·.name)) consts := ⟨rfl, ⟨rfl, rfl, rfl, by decide +kernel, rfl, by decide +kernel, by decide +kernel⟩, by decide +kernel, by decide +kernel, fun _ _ _ _ _ _ => len7 fun _ _ _ _ _ _ _ => rfl⟩
theorem o_law_leaf : DefOk (top 31) d_law_leaf (defs.map (·.name)) consts := ⟨rfl, ⟨rfl, rfl, rfl, by decide +kernel, rfl, by decide +kernel, by decide +kernel⟩, by decide +kernel, by decide +kernel, fun _ _ _ _ _ _ => len2 fun _ _ => rfl⟩
theorem o_law_call : DefOk (top 32) d_law_call (defs.map (·.name)) consts := ⟨rfl, ⟨rfl, rfl, rfl, by decide +kernel, rfl, by decide +kernel, by decide +kernel⟩, by decide +kernel, by decide +kernel, fun _ _ _ _ _ _ => len7 fun _ _ _ _ _ _ _ => rfl⟩
theorem o_law_good : DefOk (top 33) d_law_good (defs.map (·.name)) consts := ⟨rfl, ⟨rfl, rfl, rfl, by decide +kernel, rfl, by decide +kernel, by decide +kernel⟩, by decide +kernel, by decide +kernel, fun _ _ _ _ _ _ => len6 fun _ _ _ _ _ _ => rfl⟩
theorem o_law_handler : DefOk (top 34) d_law_handler (defs.map (·.name)) consts := ⟨rfl, ⟨rfl, rfl, rfl, by decide +kernel, rfl, by decide +kernel, by decide +kernel⟩, by decide +kernel, by decide +kernel, fun _ _ _ _ _ _ => len5 fun _ _ _ _ _ => rfl⟩
theorem o_law_items : DefOk (top 35) d_law_items (defs.map (·.name)) consts := ⟨rfl, ⟨rfl, rfl, rfl, by decide +kernel, rfl, by decide +kernel, by decide +kernel⟩, by decide +kernel, by decide +kernel, fun _ _ _ _ _ _ => len3 fun _ _ _ => rfl⟩
theorem o_law_program : DefOk (top 36) d_law_program (defs.map (·.name)) consts := ⟨rfl, ⟨rfl, rfl, rfl, by decide +kernel, rfl, by decide +kernel, by decide +kernel⟩, by decide +kernel, by decide +kernel, fun _ _ _ _ _ _ => len1 fun _ => rfl⟩
theorem o_law_let_by : DefOk (top 37) d_law_let_by (defs.map (·.name)) consts := ⟨rfl, ⟨rfl, rfl, rfl, by decide +kernel, rfl, by decide +kernel, by decide +kernel⟩, by decide +kernel, by decide +kernel, fun _ _ _ _ _ _ => len1 fun _ => rfl⟩
theorem o_law : DefOk (top 38) d_law (defs.map (·.name)) consts := ⟨rfl, ⟨rfl, rfl, rfl, by decide +kernel, rfl, by decide +kernel, by decide +kernel⟩, by decide +kernel, by decide +kernel, fun _ _ _ _ _ _ => len1 fun _ => rfl⟩
theorem all_mk {l : PySem.W.OpenLaw} {w : World} {K : PySem.W.Frag} {h : Heap} {mg : Str -> Option Value} {fa f0 f1 f2 f3 f4 f5 f6 f7 f8 f9 f10 f11 f12 f13 f14 f15 f16 f17 f18 f19 f20 f21 f22 f23 f24 f25 f26 : Addr} (X : K.In h) (G : h.Ns mainGlobals mg) (hfa : mg "law" = some (.ref fa))
    {od0 an0 : Option Addr} {sl0 : Array (Option Value)} {oc0 kV0 dc0 pm0 cd0 ct0 : Value}
    {od1 an1 : Option Addr} {sl1 : Array (Option Value)} {oc1 kV1 dc1 pm1 cd1 ct1 : Value}
    {od2 an2 : Option Addr} {sl2 : Array (Option Value)} {oc2 kV2 dc2 pm2 cd2 ct2 : Value}
    {od3 an3 : Option Addr} {sl3 : Array (Option Value)} {oc3 kV3 dc3 pm3 cd3 ct3 : Value}
    {od4 an4 : Option Addr} {sl4 : Array (Option Value)} {oc4 kV4 dc4 pm4 cd4 ct4 : Value}
    {od5 an5 : Option Addr} {sl5 : Array (Option Value)} {oc5 kV5 dc5 pm5 cd5 ct5 : Value}
    {od6 an6 : Option Addr} {sl6 : Array (Option Value)} {oc6 kV6 dc6 pm6 cd6 ct6 : Value}
    {od7 an7 : Option Addr} {sl7 : Array (Option Value)} {oc7 kV7 dc7 pm7 cd7 ct7 : Value}
    {od8 an8 : Option Addr} {sl8 : Array (Option Value)} {oc8 kV8 dc8 pm8 cd8 ct8 : Value}
    {od9 an9 : Option Addr} {sl9 : Array (Option Value)} {oc9 kV9 dc9 pm9 cd9 ct9 : Value}
    {od10 an10 : Option Addr} {sl10 : Array (Option Value)} {oc10 kV10 dc10 pm10 cd10 ct10 : Value}
    {od11 an11 : Option Addr} {sl11 : Array (Option Value)} {oc11 kV11 dc11 pm11 cd11 ct11 : Value}
    {od12 an12 : Option Addr} {sl12 : Array (Option Value)} {oc12 kV12 dc12 pm12 cd12 ct12 : Value}
    {od13 an13 : Option Addr} {sl13 : Array (Option Value)} {oc13 kV13 dc13 pm13 cd13 ct13 : Value}
    {od14 an14 : Option Addr} {sl14 : Array (Option Value)} {oc14 kV14 dc14 pm14 cd14 ct14 : Value}
    {od15 an15 : Option Addr} {sl15 : Array (Option Value)} {oc15 kV15 dc15 pm15 cd15 ct15 : Value}
    {od16 an16 : Option Addr} {sl16 : Array (Option Value)} {oc16 kV16 dc16 pm16 cd16 ct16 : Value}
    {od17 an17 : Option Addr} {sl17 : Array (Option Value)} {oc17 kV17 dc17 pm17 cd17 ct17 : Value}
    {od18 an18 : Option Addr} {sl18 : Array (Option Value)} {oc18 kV18 dc18 pm18 cd18 ct18 : Value}
    {od19 an19 : Option Addr} {sl19 : Array (Option Value)} {oc19 kV19 dc19 pm19 cd19 ct19 : Value}
    {od20 an20 : Option Addr} {sl20 : Array (Option Value)} {oc20 kV20 dc20 pm20 cd20 ct20 : Value}
    {od21 an21 : Option Addr} {sl21 : Array (Option Value)} {oc21 kV21 dc21 pm21 cd21 ct21 : Value}
    {od22 an22 : Option Addr} {sl22 : Array (Option Value)} {oc22 kV22 dc22 pm22 cd22 ct22 : Value}
    {od23 an23 : Option Addr} {sl23 : Array (Option Value)} {oc23 kV23 dc23 pm23 cd23 ct23 : Value}
    {od24 an24 : Option Addr} {sl24 : Array (Option Value)} {oc24 kV24 dc24 pm24 cd24 ct24 : Value}
    {od25 an25 : Option Addr} {sl25 : Array (Option Value)} {oc25 kV25 dc25 pm25 cd25 ct25 : Value}
    {od26 an26 : Option Addr} {sl26 : Array (Option Value)} {oc26 kV26 dc26 pm26 cd26 ct26 : Value}
    (a0 : PySem.W.nsIn K mainGlobals "parts_of" = some (some (.ref f0))) (l0 : K.lookup f0 = some ⟨oc0, od0, .func (PySem.W.fnOf "parts_of" "parts_of" (defArgs (top 7)) (defBody (top 7)) (defScope (top 7)) .none kV0 dc0 pm0 an0 cd0 ct0), sl0⟩) (c0 : PySem.W.codeIn K cd0 "parts_of" = true) (k0 : PySem.W.keepIn K (.ref f0) = true)
    (a1 : PySem.W.nsIn K mainGlobals "items_by_name" = some (some (.ref f1))) (l1 : K.lookup f1 = some ⟨oc1, od1, .func (PySem.W.fnOf "items_by_name" "items_by_name" (defArgs (top 8)) (defBody (top 8)) (defScope (top 8)) .none kV1 dc1 pm1 an1 cd1 ct1), sl1⟩) (c1 : PySem.W.codeIn K cd1 "items_by_name" = true) (k1 : PySem.W.keepIn K (.ref f1) = true)
    (a2 : PySem.W.nsIn K mainGlobals "check" = some (some (.ref f2))) (l2 : K.lookup f2 = some ⟨oc2, od2, .func (PySem.W.fnOf "check" "check" (defArgs (top 13)) (defBody (top 13)) (defScope (top 13)) .none kV2 dc2 pm2 an2 cd2 ct2), sl2⟩) (c2 : PySem.W.codeIn K cd2 "check" = true) (k2 : PySem.W.keepIn K (.ref f2) = true)
    (a3 : PySem.W.nsIn K mainGlobals "refuse_twice" = some (some (.ref f3))) (l3 : K.lookup f3 = some ⟨oc3, od3, .func (PySem.W.fnOf "refuse_twice" "refuse_twice" (defArgs (top 14)) (defBody (top 14)) (defScope (top 14)) .none kV3 dc3 pm3 an3 cd3 ct3), sl3⟩) (c3 : PySem.W.codeIn K cd3 "refuse_twice" = true) (k3 : PySem.W.keepIn K (.ref f3) = true)
    (a4 : PySem.W.nsIn K mainGlobals "check_function" = some (some (.ref f4))) (l4 : K.lookup f4 = some ⟨oc4, od4, .func (PySem.W.fnOf "check_function" "check_function" (defArgs (top 15)) (defBody (top 15)) (defScope (top 15)) .none kV4 dc4 pm4 an4 cd4 ct4), sl4⟩) (c4 : PySem.W.codeIn K cd4 "check_function" = true) (k4 : PySem.W.keepIn K (.ref f4) = true)
    (a5 : PySem.W.nsIn K mainGlobals "check_handler" = some (some (.ref f5))) (l5 : K.lookup f5 = some ⟨oc5, od5, .func (PySem.W.fnOf "check_handler" "check_handler" (defArgs (top 16)) (defBody (top 16)) (defScope (top 16)) .none kV5 dc5 pm5 an5 cd5 ct5), sl5⟩) (c5 : PySem.W.codeIn K cd5 "check_handler" = true) (k5 : PySem.W.keepIn K (.ref f5) = true)
    (a6 : PySem.W.nsIn K mainGlobals "check_answer" = some (some (.ref f6))) (l6 : K.lookup f6 = some ⟨oc6, od6, .func (PySem.W.fnOf "check_answer" "check_answer" (defArgs (top 17)) (defBody (top 17)) (defScope (top 17)) .none kV6 dc6 pm6 an6 cd6 ct6), sl6⟩) (c6 : PySem.W.codeIn K cd6 "check_answer" = true) (k6 : PySem.W.keepIn K (.ref f6) = true)
    (a7 : PySem.W.nsIn K mainGlobals "check_body" = some (some (.ref f7))) (l7 : K.lookup f7 = some ⟨oc7, od7, .func (PySem.W.fnOf "check_body" "check_body" (defArgs (top 18)) (defBody (top 18)) (defScope (top 18)) .none kV7 dc7 pm7 an7 cd7 ct7), sl7⟩) (c7 : PySem.W.codeIn K cd7 "check_body" = true) (k7 : PySem.W.keepIn K (.ref f7) = true)
    (a8 : PySem.W.nsIn K mainGlobals "inner" = some (some (.ref f8))) (l8 : K.lookup f8 = some ⟨oc8, od8, .func (PySem.W.fnOf "inner" "inner" (defArgs (top 19)) (defBody (top 19)) (defScope (top 19)) .none kV8 dc8 pm8 an8 cd8 ct8), sl8⟩) (c8 : PySem.W.codeIn K cd8 "inner" = true) (k8 : PySem.W.keepIn K (.ref f8) = true)
    (a9 : PySem.W.nsIn K mainGlobals "check_expression" = some (some (.ref f9))) (l9 : K.lookup f9 = some ⟨oc9, od9, .func (PySem.W.fnOf "check_expression" "check_expression" (defArgs (top 20)) (defBody (top 20)) (defScope (top 20)) .none kV9 dc9 pm9 an9 cd9 ct9), sl9⟩) (c9 : PySem.W.codeIn K cd9 "check_expression" = true) (k9 : PySem.W.keepIn K (.ref f9) = true)
    (a10 : PySem.W.nsIn K mainGlobals "check_variable" = some (some (.ref f10))) (l10 : K.lookup f10 = some ⟨oc10, od10, .func (PySem.W.fnOf "check_variable" "check_variable" (defArgs (top 21)) (defBody (top 21)) (defScope (top 21)) .none kV10 dc10 pm10 an10 cd10 ct10), sl10⟩) (c10 : PySem.W.codeIn K cd10 "check_variable" = true) (k10 : PySem.W.keepIn K (.ref f10) = true)
    (a11 : PySem.W.nsIn K mainGlobals "check_handle" = some (some (.ref f11))) (l11 : K.lookup f11 = some ⟨oc11, od11, .func (PySem.W.fnOf "check_handle" "check_handle" (defArgs (top 22)) (defBody (top 22)) (defScope (top 22)) .none kV11 dc11 pm11 an11 cd11 ct11), sl11⟩) (c11 : PySem.W.codeIn K cd11 "check_handle" = true) (k11 : PySem.W.keepIn K (.ref f11) = true)
    (a12 : PySem.W.nsIn K mainGlobals "check_call" = some (some (.ref f12))) (l12 : K.lookup f12 = some ⟨oc12, od12, .func (PySem.W.fnOf "check_call" "check_call" (defArgs (top 23)) (defBody (top 23)) (defScope (top 23)) .none kV12 dc12 pm12 an12 cd12 ct12), sl12⟩) (c12 : PySem.W.codeIn K cd12 "check_call" = true) (k12 : PySem.W.keepIn K (.ref f12) = true)
    (a13 : PySem.W.nsIn K mainGlobals "is_function" = some (some (.ref f13))) (l13 : K.lookup f13 = some ⟨oc13, od13, .func (PySem.W.fnOf "is_function" "is_function" (defArgs (top 24)) (defBody (top 24)) (defScope (top 24)) .none kV13 dc13 pm13 an13 cd13 ct13), sl13⟩) (c13 : PySem.W.codeIn K cd13 "is_function" = true) (k13 : PySem.W.keepIn K (.ref f13) = true)
    (a14 : PySem.W.nsIn K mainGlobals "may_be_handed" = some (some (.ref f14))) (l14 : K.lookup f14 = some ⟨oc14, od14, .func (PySem.W.fnOf "may_be_handed" "may_be_handed" (defArgs (top 25)) (defBody (top 25)) (defScope (top 25)) .none kV14 dc14 pm14 an14 cd14 ct14), sl14⟩) (c14 : PySem.W.codeIn K cd14 "may_be_handed" = true) (k14 : PySem.W.keepIn K (.ref f14) = true)
    (a15 : PySem.W.nsIn K mainGlobals "_law_cell" = some (some (.ref f15))) (l15 : K.lookup f15 = some ⟨oc15, od15, .func (PySem.W.fnOf "_law_cell" "_law_cell" (defArgs (top 27)) (defBody (top 27)) (defScope (top 27)) .none kV15 dc15 pm15 an15 cd15 ct15), sl15⟩) (c15 : PySem.W.codeIn K cd15 "_law_cell" = true) (k15 : PySem.W.keepIn K (.ref f15) = true)
    (a16 : PySem.W.nsIn K mainGlobals "_law_next" = some (some (.ref f16))) (l16 : K.lookup f16 = some ⟨oc16, od16, .func (PySem.W.fnOf "_law_next" "_law_next" (defArgs (top 28)) (defBody (top 28)) (defScope (top 28)) .none kV16 dc16 pm16 an16 cd16 ct16), sl16⟩) (c16 : PySem.W.codeIn K cd16 "_law_next" = true) (k16 : PySem.W.keepIn K (.ref f16) = true)
    (a17 : PySem.W.nsIn K mainGlobals "_law_names" = some (some (.ref f17))) (l17 : K.lookup f17 = some ⟨oc17, od17, .func (PySem.W.fnOf "_law_names" "_law_names" (defArgs (top 29)) (defBody (top 29)) (defScope (top 29)) .none kV17 dc17 pm17 an17 cd17 ct17), sl17⟩) (c17 : PySem.W.codeIn K cd17 "_law_names" = true) (k17 : PySem.W.keepIn K (.ref f17) = true)
    (a18 : PySem.W.nsIn K mainGlobals "_law_some" = some (some (.ref f18))) (l18 : K.lookup f18 = some ⟨oc18, od18, .func (PySem.W.fnOf "_law_some" "_law_some" (defArgs (top 30)) (defBody (top 30)) (defScope (top 30)) .none kV18 dc18 pm18 an18 cd18 ct18), sl18⟩) (c18 : PySem.W.codeIn K cd18 "_law_some" = true) (k18 : PySem.W.keepIn K (.ref f18) = true)
    (a19 : PySem.W.nsIn K mainGlobals "_law_leaf" = some (some (.ref f19))) (l19 : K.lookup f19 = some ⟨oc19, od19, .func (PySem.W.fnOf "_law_leaf" "_law_leaf" (defArgs (top 31)) (defBody (top 31)) (defScope (top 31)) .none kV19 dc19 pm19 an19 cd19 ct19), sl19⟩) (c19 : PySem.W.codeIn K cd19 "_law_leaf" = true) (k19 : PySem.W.keepIn K (.ref f19) = true)
    (a20 : PySem.W.nsIn K mainGlobals "_law_call" = some (some (.ref f20))) (l20 : K.lookup f20 = some ⟨oc20, od20, .func (PySem.W.fnOf "_law_call" "_law_call" (defArgs (top 32)) (defBody (top 32)) (defScope (top 32)) .none kV20 dc20 pm20 an20 cd20 ct20), sl20⟩) (c20 : PySem.W.codeIn K cd20 "_law_call" = true) (k20 : PySem.W.keepIn K (.ref f20) = true)
    (a21 : PySem.W.nsIn K mainGlobals "_law_good" = some (some (.ref f21))) (l21 : K.lookup f21 = some ⟨oc21, od21, .func (PySem.W.fnOf "_law_good" "_law_good" (defArgs (top 33)) (defBody (top 33)) (defScope (top 33)) .none kV21 dc21 pm21 an21 cd21 ct21), sl21⟩) (c21 : PySem.W.codeIn K cd21 "_law_good" = true) (k21 : PySem.W.keepIn K (.ref f21) = true)
    (a22 : PySem.W.nsIn K mainGlobals "_law_handler" = some (some (.ref f22))) (l22 : K.lookup f22 = some ⟨oc22, od22, .func (PySem.W.fnOf "_law_handler" "_law_handler" (defArgs (top 34)) (defBody (top 34)) (defScope (top 34)) .none kV22 dc22 pm22 an22 cd22 ct22), sl22⟩) (c22 : PySem.W.codeIn K cd22 "_law_handler" = true) (k22 : PySem.W.keepIn K (.ref f22) = true)
    (a23 : PySem.W.nsIn K mainGlobals "_law_items" = some (some (.ref f23))) (l23 : K.lookup f23 = some ⟨oc23, od23, .func (PySem.W.fnOf "_law_items" "_law_items" (defArgs (top 35)) (defBody (top 35)) (defScope (top 35)) .none kV23 dc23 pm23 an23 cd23 ct23), sl23⟩) (c23 : PySem.W.codeIn K cd23 "_law_items" = true) (k23 : PySem.W.keepIn K (.ref f23) = true)
    (a24 : PySem.W.nsIn K mainGlobals "_law_program" = some (some (.ref f24))) (l24 : K.lookup f24 = some ⟨oc24, od24, .func (PySem.W.fnOf "_law_program" "_law_program" (defArgs (top 36)) (defBody (top 36)) (defScope (top 36)) .none kV24 dc24 pm24 an24 cd24 ct24), sl24⟩) (c24 : PySem.W.codeIn K cd24 "_law_program" = true) (k24 : PySem.W.keepIn K (.ref f24) = true)
    (a25 : PySem.W.nsIn K mainGlobals "_law_let_by" = some (some (.ref f25))) (l25 : K.lookup f25 = some ⟨oc25, od25, .func (PySem.W.fnOf "_law_let_by" "_law_let_by" (defArgs (top 37)) (defBody (top 37)) (defScope (top 37)) .none kV25 dc25 pm25 an25 cd25 ct25), sl25⟩) (c25 : PySem.W.codeIn K cd25 "_law_let_by" = true) (k25 : PySem.W.keepIn K (.ref f25) = true)
    (a26 : PySem.W.nsIn K mainGlobals "law" = some (some (.ref f26))) (l26 : K.lookup f26 = some ⟨oc26, od26, .func (PySem.W.fnOf "law" "law" (defArgs (top 38)) (defBody (top 38)) (defScope (top 38)) .none kV26 dc26 pm26 an26 cd26 ct26), sl26⟩) (c26 : PySem.W.codeIn K cd26 "law" = true) (k26 : PySem.W.keepIn K (.ref f26) = true)
    (z0 : PySem.W.nsIn K mainGlobals "len" = some none)
    (z1 : PySem.W.nsIn K mainGlobals "isinstance" = some none)
    (z2 : PySem.W.nsIn K mainGlobals "int" = some none)
    (z3 : PySem.W.nsIn K mainGlobals "bool" = some none)
    (z4 : PySem.W.nsIn K mainGlobals "str" = some none)
    (z5 : PySem.W.nsIn K mainGlobals "tuple" = some none)
    (z6 : PySem.W.nsIn K mainGlobals "list" = some none)
    (z7 : PySem.W.nsIn K mainGlobals "range" = some none)
    (z8 : PySem.W.nsIn K mainGlobals "max" = some none)
    (z9 : PySem.W.nsIn K mainGlobals "min" = some none)
    (z10 : PySem.W.nsIn K mainGlobals "sum" = some none)
    (z11 : PySem.W.nsIn K mainGlobals "all" = some none)
    (z12 : PySem.W.nsIn K mainGlobals "any" = some none)
    (z13 : PySem.W.nsIn K mainGlobals "zip" = some none)
    (z14 : PySem.W.nsIn K mainGlobals "reversed" = some none)
    (z15 : PySem.W.nsIn K mainGlobals "sorted" = some none)
    (z16 : PySem.W.nsIn K mainGlobals "set" = some none)
    (z17 : PySem.W.nsIn K mainGlobals "enumerate" = some none)
    (z18 : PySem.W.nsIn K mainGlobals "dict" = some none)
    (z19 : PySem.W.nsIn K mainGlobals "abs" = some none)
    {gc0 : Addr} {es0 : Array DictEntry} {ep0 : Nat} (ga0 : PySem.W.nsIn K mainGlobals "FIRST_PART" = some (some (.ref gc0))) (gl0 : K.lookup gc0 = some { cls := .type "dict", data := .dict es0 ep0 }) (ge0 : EntsOk w K es0.toList g_FIRST_PART)
    {gt1 : Tok} (ga1 : PySem.W.nsIn K mainGlobals "CLAUSE" = some (some (.str "clause" gt1)))
    {gt2 : Tok} (ga2 : PySem.W.nsIn K mainGlobals "END" = some (some (.str "end" gt2)))
    {gt3 : Tok} (ga3 : PySem.W.nsIn K mainGlobals "FREE" = some (some (.str "free" gt3)))
    : ∃ fd : FuncData, (∀ (s : Shared) (v : Value), BindsTo s fd ⟨[v], []⟩ [("_law_script", v)]) /\ ∀ base : Heap, K.In base -> base.Ns mainGlobals mg -> FnOk l.prog w K mg base (CXs l.prog w) 31 fa fd ["_law_script"] (spLaw K (callI defs 31 26)) := by
  have e := hfa.symm.trans (PySem.W.mg_of X G a26)
  cases e
  have T : Tab l.prog w K mg defs consts := by
    refine ⟨fun x hx => ?_, fun x c hx => ?_, fun i d hd => ?_⟩
    · simp only [bnames, List.mem_cons, List.not_mem_nil, or_false] at hx
      rcases hx with rfl | rfl | rfl | rfl | rfl | rfl | rfl | rfl | rfl | rfl | rfl | rfl | rfl | rfl | rfl | rfl | rfl | rfl | rfl | rfl
      · exact PySem.W.mg_none_of X G z0
      · exact PySem.W.mg_none_of X G z1
      · exact PySem.W.mg_none_of X G z2
      · exact PySem.W.mg_none_of X G z3
      · exact PySem.W.mg_none_of X G z4
      · exact PySem.W.mg_none_of X G z5
      · exact PySem.W.mg_none_of X G z6
      · exact PySem.W.mg_none_of X G z7
      · exact PySem.W.mg_none_of X G z8
      · exact PySem.W.mg_none_of X G z9
      · exact PySem.W.mg_none_of X G z10
      · exact PySem.W.mg_none_of X G z11
      · exact PySem.W.mg_none_of X G z12
      · exact PySem.W.mg_none_of X G z13
      · exact PySem.W.mg_none_of X G z14
      · exact PySem.W.mg_none_of X G z15
      · exact PySem.W.mg_none_of X G z16
      · exact PySem.W.mg_none_of X G z17
      · exact PySem.W.mg_none_of X G z18
      · exact PySem.W.mg_none_of X G z19
    · simp only [consts, List.mem_cons, List.not_mem_nil, or_false] at hx
      rcases hx with hq | hq | hq | hq
      · cases hq; exact ⟨by decide, _, PySem.W.mg_of X G ga0, cn_dic gl0 ge0 (by decide)⟩
      · cases hq; exact ⟨by decide, _, PySem.W.mg_of X G ga1, ⟨_, rfl⟩⟩
      · cases hq; exact ⟨by decide, _, PySem.W.mg_of X G ga2, ⟨_, rfl⟩⟩
      · cases hq; exact ⟨by decide, _, PySem.W.mg_of X G ga3, ⟨_, rfl⟩⟩
    · match i, hd with
      | 0, hd => cases hd; exact ⟨by decide, _, _, _, PySem.W.mg_of X G a0, fun_mk (st := top 7) l0 c0 k0, o_parts_of⟩
      | 1, hd => cases hd; exact ⟨by decide, _, _, _, PySem.W.mg_of X G a1, fun_mk (st := top 8) l1 c1 k1, o_items_by_name⟩
      | 2, hd => cases hd; exact ⟨by decide, _, _, _, PySem.W.mg_of X G a2, fun_mk (st := top 13) l2 c2 k2, o_check⟩
      | 3, hd => cases hd; exact ⟨by decide, _, _, _, PySem.W.mg_of X G a3, fun_mk (st := top 14) l3 c3 k3, o_refuse_twice⟩
      | 4, hd => cases hd; exact ⟨by decide, _, _, _, PySem.W.mg_of X G a4, fun_mk (st := top 15) l4 c4 k4, o_check_function⟩
      | 5, hd => cases hd; exact ⟨by decide, _, _, _, PySem.W.mg_of X G a5, fun_mk (st := top 16) l5 c5 k5, o_check_handler⟩
      | 6, hd => cases hd; exact ⟨by decide, _, _, _, PySem.W.mg_of X G a6, fun_mk (st := top 17) l6 c6 k6, o_check_answer⟩
      | 7, hd => cases hd; exact ⟨by decide, _, _, _, PySem.W.mg_of X G a7, fun_mk (st := top 18) l7 c7 k7, o_check_body⟩
      | 8, hd => cases hd; exact ⟨by decide, _, _, _, PySem.W.mg_of X G a8, fun_mk (st := top 19) l8 c8 k8, o_inner⟩
      | 9, hd => cases hd; exact ⟨by decide, _, _, _, PySem.W.mg_of X G a9, fun_mk (st := top 20) l9 c9 k9, o_check_expression⟩
      | 10, hd => cases hd; exact ⟨by decide, _, _, _, PySem.W.mg_of X G a10, fun_mk (st := top 21) l10 c10 k10, o_check_variable⟩
      | 11, hd => cases hd; exact ⟨by decide, _, _, _, PySem.W.mg_of X G a11, fun_mk (st := top 22) l11 c11 k11, o_check_handle⟩
      | 12, hd => cases hd; exact ⟨by decide, _, _, _, PySem.W.mg_of X G a12, fun_mk (st := top 23) l12 c12 k12, o_check_call⟩
      | 13, hd => cases hd; exact ⟨by decide, _, _, _, PySem.W.mg_of X G a13, fun_mk (st := top 24) l13 c13 k13, o_is_function⟩
      | 14, hd => cases hd; exact ⟨by decide, _, _, _, PySem.W.mg_of X G a14, fun_mk (st := top 25) l14 c14 k14, o_may_be_handed⟩
      | 15, hd => cases hd; exact ⟨by decide, _, _, _, PySem.W.mg_of X G a15, fun_mk (st := top 27) l15 c15 k15, o_law_cell⟩
      | 16, hd => cases hd; exact ⟨by decide, _, _, _, PySem.W.mg_of X G a16, fun_mk (st := top 28) l16 c16 k16, o_law_next⟩
      | 17, hd => cases hd; exact ⟨by decide, _, _, _, PySem.W.mg_of X G a17, fun_mk (st := top 29) l17 c17 k17, o_law_names⟩
      | 18, hd => cases hd; exact ⟨by decide, _, _, _, PySem.W.mg_of X G a18, fun_mk (st := top 30) l18 c18 k18, o_law_some⟩
      | 19, hd => cases hd; exact ⟨by decide, _, _, _, PySem.W.mg_of X G a19, fun_mk (st := top 31) l19 c19 k19, o_law_leaf⟩
      | 20, hd => cases hd; exact ⟨by decide, _, _, _, PySem.W.mg_of X G a20, fun_mk (st := top 32) l20 c20 k20, o_law_call⟩
      | 21, hd => cases hd; exact ⟨by decide, _, _, _, PySem.W.mg_of X G a21, fun_mk (st := top 33) l21 c21 k21, o_law_good⟩
      | 22, hd => cases hd; exact ⟨by decide, _, _, _, PySem.W.mg_of X G a22, fun_mk (st := top 34) l22 c22 k22, o_law_handler⟩
      | 23, hd => cases hd; exact ⟨by decide, _, _, _, PySem.W.mg_of X G a23, fun_mk (st := top 35) l23 c23 k23, o_law_items⟩
      | 24, hd => cases hd; exact ⟨by decide, _, _, _, PySem.W.mg_of X G a24, fun_mk (st := top 36) l24 c24 k24, o_law_program⟩
      | 25, hd => cases hd; exact ⟨by decide, _, _, _, PySem.W.mg_of X G a25, fun_mk (st := top 37) l25 c25 k25, o_law_let_by⟩
      | 26, hd => cases hd; exact ⟨by decide, _, _, _, PySem.W.mg_of X G a26, fun_mk (st := top 38) l26 c26 k26, o_law⟩
      | n + 27, hd => exact absurd hd (by simp [defs])
  refine ⟨PySem.W.fnOf "law" "law" (defArgs (top 38)) (defBody (top 38)) (defScope (top 38)) .none kV26 dc26 pm26 an26 cd26 ct26, fun s v => .of_eq rfl, fun base _ _ => ?_⟩
  exact all_fn T 31 26 d_law (top 38) _ _ rfl (PySem.W.mg_of X G a26) (fun_mk (st := top 38) l26 c26 k26) o_law
end K17
open PySem PySem.W
set_option maxRecDepth 100000 in
set_option maxHeartbeats 0 in
theorem PySem.Challenge.cw_deedwright_k17_good_programs_holds : PySem.Challenge.rw_deedwright_k17_good_programs.Holds := by
  w_on; o_law; k_head; (case hw => w_witness2)
  k_fill
  refine PI.walk_ofB (l := PySem.Challenge.rw_deedwright_k17_good_programs) (k := 31) (c := PI.callI K17.defs 31 26) (x := "_law_script") rfl rfl ⟨rfl, by decide, by decide⟩ (fun w h Y => PySem.W.kIn_of Y) ?F ?S
  case F =>
    intro w mg fa h KX G hmg
    refine' K17.all_mk (l := PySem.Challenge.rw_deedwright_k17_good_programs) (w := w) KX G hmg ?a0 ?l0 ?c0 ?k0 ?a1 ?l1 ?c1 ?k1 ?a2 ?l2 ?c2 ?k2 ?a3 ?l3 ?c3 ?k3 ?a4 ?l4 ?c4 ?k4 ?a5 ?l5 ?c5 ?k5 ?a6 ?l6 ?c6 ?k6 ?a7 ?l7 ?c7 ?k7 ?a8 ?l8 ?c8 ?k8 ?a9 ?l9 ?c9 ?k9 ?a10 ?l10 ?c10 ?k10 ?a11 ?l11 ?c11 ?k11 ?a12 ?l12 ?c12 ?k12 ?a13 ?l13 ?c13 ?k13 ?a14 ?l14 ?c14 ?k14 ?a15 ?l15 ?c15 ?k15 ?a16 ?l16 ?c16 ?k16 ?a17 ?l17 ?c17 ?k17 ?a18 ?l18 ?c18 ?k18 ?a19 ?l19 ?c19 ?k19 ?a20 ?l20 ?c20 ?k20 ?a21 ?l21 ?c21 ?k21 ?a22 ?l22 ?c22 ?k22 ?a23 ?l23 ?c23 ?k23 ?a24 ?l24 ?c24 ?k24 ?a25 ?l25 ?c25 ?k25 ?a26 ?l26 ?c26 ?k26 ?z0 ?z1 ?z2 ?z3 ?z4 ?z5 ?z6 ?z7 ?z8 ?z9 ?z10 ?z11 ?z12 ?z13 ?z14 ?z15 ?z16 ?z17 ?z18 ?z19 ?ga0 ?gl0 ?ge0 ?ga1 ?ga2 ?ga3
    (case a0 => k_is)
    (case l0 => k_is)
    (case c0 => k_is)
    (case k0 => k_is)
    (case a1 => k_is)
    (case l1 => k_is)
    (case c1 => k_is)
    (case k1 => k_is)
    (case a2 => k_is)
    (case l2 => k_is)
    (case c2 => k_is)
    (case k2 => k_is)
    (case a3 => k_is)
    (case l3 => k_is)
    (case c3 => k_is)
    (case k3 => k_is)
    (case a4 => k_is)
    (case l4 => k_is)
    (case c4 => k_is)
    (case k4 => k_is)
    (case a5 => k_is)
    (case l5 => k_is)
    (case c5 => k_is)
    (case k5 => k_is)
    (case a6 => k_is)
    (case l6 => k_is)
    (case c6 => k_is)
    (case k6 => k_is)
    (case a7 => k_is)
    (case l7 => k_is)
    (case c7 => k_is)
    (case k7 => k_is)
    (case a8 => k_is)
    (case l8 => k_is)
    (case c8 => k_is)
    (case k8 => k_is)
    (case a9 => k_is)
    (case l9 => k_is)
    (case c9 => k_is)
    (case k9 => k_is)
    (case a10 => k_is)
    (case l10 => k_is)
    (case c10 => k_is)
    (case k10 => k_is)
    (case a11 => k_is)
    (case l11 => k_is)
    (case c11 => k_is)
    (case k11 => k_is)
    (case a12 => k_is)
    (case l12 => k_is)
    (case c12 => k_is)
    (case k12 => k_is)
    (case a13 => k_is)
    (case l13 => k_is)
    (case c13 => k_is)
    (case k13 => k_is)
    (case a14 => k_is)
    (case l14 => k_is)
    (case c14 => k_is)
    (case k14 => k_is)
    (case a15 => k_is)
    (case l15 => k_is)
    (case c15 => k_is)
    (case k15 => k_is)
    (case a16 => k_is)
    (case l16 => k_is)
    (case c16 => k_is)
    (case k16 => k_is)
    (case a17 => k_is)
    (case l17 => k_is)
    (case c17 => k_is)
    (case k17 => k_is)
    (case a18 => k_is)
    (case l18 => k_is)
    (case c18 => k_is)
    (case k18 => k_is)
    (case a19 => k_is)
    (case l19 => k_is)
    (case c19 => k_is)
    (case k19 => k_is)
    (case a20 => k_is)
    (case l20 => k_is)
    (case c20 => k_is)
    (case k20 => k_is)
    (case a21 => k_is)
    (case l21 => k_is)
    (case c21 => k_is)
    (case k21 => k_is)
    (case a22 => k_is)
    (case l22 => k_is)
    (case c22 => k_is)
    (case k22 => k_is)
    (case a23 => k_is)
    (case l23 => k_is)
    (case c23 => k_is)
    (case k23 => k_is)
    (case a24 => k_is)
    (case l24 => k_is)
    (case c24 => k_is)
    (case k24 => k_is)
    (case a25 => k_is)
    (case l25 => k_is)
    (case c25 => k_is)
    (case k25 => k_is)
    (case a26 => k_is)
    (case l26 => k_is)
    (case c26 => k_is)
    (case k26 => k_is)
    (case z0 => k_is)
    (case z1 => k_is)
    (case z2 => k_is)
    (case z3 => k_is)
    (case z4 => k_is)
    (case z5 => k_is)
    (case z6 => k_is)
    (case z7 => k_is)
    (case z8 => k_is)
    (case z9 => k_is)
    (case z10 => k_is)
    (case z11 => k_is)
    (case z12 => k_is)
    (case z13 => k_is)
    (case z14 => k_is)
    (case z15 => k_is)
    (case z16 => k_is)
    (case z17 => k_is)
    (case z18 => k_is)
    (case z19 => k_is)
    (case ga0 => k_is)
    (case gl0 => k_is)
    (case ge0 => (refine ⟨⟨rfl, ⟨_, rfl⟩, ?hx⟩, ?hr⟩; (case hx => exact ⟨_, rfl⟩); (case hr => (refine ⟨⟨rfl, ⟨_, rfl⟩, ?hx⟩, ?hr⟩; (case hx => exact ⟨_, rfl⟩); (case hr => (refine ⟨⟨rfl, ⟨_, rfl⟩, ?hx⟩, ?hr⟩; (case hx => exact ⟨_, rfl⟩); (case hr => (refine ⟨⟨rfl, ⟨_, rfl⟩, ?hx⟩, ?hr⟩; (case hx => exact ⟨_, rfl⟩); (case hr => (refine ⟨⟨rfl, ⟨_, rfl⟩, ?hx⟩, ?hr⟩; (case hx => exact ⟨_, rfl⟩); (case hr => (refine ⟨⟨rfl, ⟨_, rfl⟩, ?hx⟩, ?hr⟩; (case hx => exact ⟨_, rfl⟩); (case hr => (refine ⟨⟨rfl, ⟨_, rfl⟩, ?hx⟩, ?hr⟩; (case hx => exact ⟨_, rfl⟩); (case hr => (refine ⟨⟨rfl, ⟨_, rfl⟩, ?hx⟩, ?hr⟩; (case hx => exact ⟨_, rfl⟩); (case hr => (refine ⟨⟨rfl, ⟨_, rfl⟩, ?hx⟩, ?hr⟩; (case hx => exact ⟨_, rfl⟩); (case hr => exact trivial)))))))))))))))))))
    (case ga1 => k_is)
    (case ga2 => k_is)
    (case ga3 => k_is)
  case S =>
    exact fun ns _ hb => K17.law_true ns fun n hn => decide_eq_true (hb n hn)
#print axioms PySem.Challenge.cw_deedwright_k17_good_programs_holds
