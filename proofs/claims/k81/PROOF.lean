import PyProof.Rows.All
import Wide.All
import OpenK.AllK
import Wide.FinOn
import Lean
import PyProof.EqAt
import PyProof.EqKinds
import PyProof.TupleCall
import KE.KIntText
import PyProof.NeKinds
import PyProof.FString4
import PyProof.StrLawsRepr
import PyProof.ZipIter
import PyProof.TupleIter
import KE.KRevIter
import KE.KDictOf
import PyProof.AttrMissHeap
import PyProof.StrLawsTight
import PySem.Challenge.RW_deedwright_k81_steady_handlers
set_option Elab.async false
set_option linter.all false
set_option maxRecDepth 100000
namespace L2
open PySem PySem.Spec PyProof.Rows
noncomputable abbrev Key := Sum Int Str
noncomputable def keyIs : Key → Value → Bool
  | .inl k, v => Value.isInt k v
  | .inr x, v => Value.isStrOf x v
noncomputable def keyH (w : World) : Key → Int
  | .inl k => hashInt k
  | .inr x => hashStr w x
theorem keyIs_shape : ∀ {k : Key} {v : Value}, keyIs k v = true → (∃ i t, k = Sum.inl i ∧ v = Value.int i t) ∨ (∃ x t, k = Sum.inr x ∧ v = Value.str x t)
  | .inl i, v, h => by
    obtain ⟨t, e⟩ := Value.isInt_shape (k := i) (v := v) h
    exact .inl ⟨i, t, rfl, e⟩
  | .inr x, v, h => by
    obtain ⟨t, e⟩ := Value.isStrOf_shape (x := x) (v := v) h
    exact .inr ⟨x, t, rfl, e⟩
theorem keyIs_int (i : Int) (t : Tok) : keyIs (.inl i) (.int i t) = true := by simp [keyIs, Value.isInt]
theorem keyIs_str (x : Str) (t : Tok) : keyIs (.inr x) (.str x t) = true := by simp [keyIs, Value.isStrOf]
theorem key_ll (a b : Int) : decide ((Sum.inl a : Key) = Sum.inl b) = (a == b) := by
  by_cases e : a = b
  · subst e; simp
  · have h : ¬ (Sum.inl a : Key) = Sum.inl b := fun q => e (Sum.inl.inj q)
    rw [decide_eq_false h]
    exact (beq_eq_false_iff_ne.mpr e).symm
theorem key_rr (a b : Str) : decide ((Sum.inr a : Key) = Sum.inr b) = decide (a = b) := by
  by_cases e : a = b
  · subst e; simp
  · have h : ¬ (Sum.inr a : Key) = Sum.inr b := fun q => e (Sum.inr.inj q)
    rw [decide_eq_false h, decide_eq_false e]
theorem key_lr (a : Int) (b : Str) : decide ((Sum.inl a : Key) = Sum.inr b) = false := decide_eq_false (fun q => nomatch q)
theorem key_rl (a : Str) (b : Int) : decide ((Sum.inr a : Key) = Sum.inl b) = false := decide_eq_false (fun q => nomatch q)
noncomputable def mixKind (prog : Program) (w : World) : PySem.KeyKind prog w Key where
  is := keyIs
  hash := keyH w
  inj := fun v a b ha hb => by
    rcases keyIs_shape ha with ⟨i, t, rfl, rfl⟩ | ⟨x, t, rfl, rfl⟩
    · rcases keyIs_shape hb with ⟨j, u, rfl, e⟩ | ⟨y, u, rfl, e⟩
      · injection e with e1 _; rw [e1]
      · exact nomatch e
    · rcases keyIs_shape hb with ⟨j, u, rfl, e⟩ | ⟨y, u, rfl, e⟩
      · exact nomatch e
      · injection e with e1 _; rw [e1]
  byValue := fun k v h => by
    rcases keyIs_shape h with ⟨i, t, rfl, rfl⟩ | ⟨x, t, rfl, rfl⟩ <;> rfl
  pyHash := fun hv h => by
    rcases keyIs_shape hv with ⟨i, t, rfl, rfl⟩ | ⟨x, t, rfl, rfl⟩
    · exact wpAny_pyHash_int h
    · exact wpAny_pyHash_str h
  eqBool := fun hu hv h => by
    rcases keyIs_shape hu with ⟨i, t, rfl, rfl⟩ | ⟨x, t, rfl, rfl⟩
    · rcases keyIs_shape hv with ⟨j, u, rfl, rfl⟩ | ⟨y, u, rfl, rfl⟩
      · rw [key_ll] at h; exact wpAny_eqBool_int h
      · rw [key_lr] at h; exact SeqAt.EqAt.int_str i t y u _ _ _ _ h
    · rcases keyIs_shape hv with ⟨j, u, rfl, rfl⟩ | ⟨y, u, rfl, rfl⟩
      · rw [key_rl] at h; exact SeqAt.EqAt.str_int x t j u _ _ _ _ h
      · rw [key_rr] at h; exact wpAny_eqBool_str h
  «strs» := fun k x t v h => by
    rcases keyIs_shape h with ⟨i, u, rfl, e⟩ | ⟨y, u, rfl, e⟩
    · exact nomatch e
    · injection e with e1 _
      subst e1
      cases v <;> rfl
theorem mixKind_int (prog : Program) (w : World) (i : Int) (t : Tok) : (mixKind prog w).is (.inl i) (.int i t) = true := keyIs_int i t
theorem mixKind_str (prog : Program) (w : World) (x : Str) (t : Tok) : (mixKind prog w).is (.inr x) (.str x t) = true := keyIs_str x t
end L2
namespace L2
open PySem PySem.Spec PyProof.Rows
inductive V where
  | non | bl (b : Bool) | int (i : Int) | str (x : Str) | byt (b : Array UInt8) | flt (b : UInt64) | ref (a : Addr) | ty (n : String)
  deriving DecidableEq
noncomputable def RelV : V → Value → Prop
  | .non, u => u = Value.none
  | .bl b, u => u = Value.bool b
  | .int i, u => ∃ t, u = Value.int i t
  | .str x, u => ∃ t, u = Value.str x t
  | .byt b, u => ∃ t, u = Value.bytes b t
  | .flt b, u => ∃ t, u = Value.float b t
  | .ref a, u => u = Value.ref a
  | .ty n, u => u = Value.type n
noncomputable abbrev Vals : List V → List Value → Prop := Paired RelV
theorem Vals.length {xs : List V} {us : List Value} (r : Vals xs us) : xs.length = us.length := Paired.length r
theorem Vals.get : ∀ {xs : List V} {us : List Value} {i : Nat} {x : V}, Vals xs us → xs[i]? = some x → ∃ u, us[i]? = some u ∧ RelV x u
  | _, _, _, _, .nil, e => by simp at e
  | _, _, 0, _, .cons r _, e => by simp at e; subst e; exact ⟨_, rfl, r⟩
  | _, _, i + 1, x, .cons _ t, e => by
    obtain ⟨u, h1, h2⟩ := Vals.get (i := i) (x := x) t (by simpa using e)
    exact ⟨u, by simpa using h1, h2⟩
theorem Vals.set {x : V} {u : Value} (r : RelV x u) : ∀ {xs : List V} {us : List Value} (i : Nat), Vals xs us → Vals (xs.set i x) (us.set i u)
  | _, _, _, .nil => .nil
  | _, _, 0, .cons _ t => .cons r t
  | _, _, i + 1, .cons q t => .cons q (Vals.set r i t)
theorem Vals.append : ∀ {xs ys : List V} {us ws : List Value}, Vals xs us → Vals ys ws → Vals (xs ++ ys) (us ++ ws)
  | _, _, _, _, .nil, s => s
  | _, _, _, _, .cons r t, s => .cons r (Vals.append t s)
theorem Vals.take : ∀ {xs : List V} {us : List Value} (n : Nat), Vals xs us → Vals (xs.take n) (us.take n)
  | _, _, 0, _ => .nil
  | _, _, _ + 1, .nil => .nil
  | _, _, n + 1, .cons r t => .cons r (Vals.take n t)
theorem Vals.drop : ∀ {xs : List V} {us : List Value} (n : Nat), Vals xs us → Vals (xs.drop n) (us.drop n)
  | _, _, 0, r => r
  | _, _, _ + 1, .nil => .nil
  | _, _, n + 1, .cons _ t => Vals.drop n t
noncomputable def RelO : Option V → Option Value → Prop
  | some v, some u => RelV v u
  | none, none => True
  | _, _ => False
noncomputable def KV {κ : Type} : List (κ × V) → List (κ × Value) → Prop := Paired fun (p : κ × V) (q : κ × Value) => p.1 = q.1 ∧ RelV p.2 q.2
noncomputable def kV : Key → V
  | .inl i => .int i
  | .inr x => .str x
inductive HO where
  | lst (xs : List V)
  | tup (xs : List V)
  | dK (kvs : List (Key × V)) | dT (kvs : List (List Key × V))
  | set (S : Int → Bool) (n : Nat)
  | ins (C dx : Addr) (fs : List (Str × V))
  | own (x : Addr)
  | xd (fs : List (Str × V))
  | met (f x : Addr)
  | rng (lo hi : Int)
  | frz (o : Obj) (u : HO)
  | tbl (ps : Array Value)
  | ext (φ : Heap → Prop)
noncomputable abbrev Hp := Addr → Option HO
noncomputable def upd (H : Hp) (a : Addr) (o : HO) : Hp := fun b => if b = a then some o else H b
theorem upd_same {H : Hp} {a : Addr} {o : HO} : upd H a o a = some o := by unfold upd; rw [if_pos rfl]
theorem upd_ne {H : Hp} {a b : Addr} {o : HO} (h : b ≠ a) : upd H a o b = H b := by unfold upd; rw [if_neg h]
theorem ne_of {H : Hp} {a b : Addr} {o u : HO} (h : H a = some o) (h' : H b = some u) (d : o ≠ u) : a ≠ b := by
  intro e; subst e; rw [h] at h'; exact d (Option.some.inj h')
theorem ne_of_none {H : Hp} {a b : Addr} {o : HO} (h : H a = some o) (h' : H b = none) : a ≠ b := by
  intro e; subst e; rw [h] at h'; cases h'
section
variable (P : Program) (w : World)
noncomputable def ObjOk (H : Hp) (h : Heap) (a : Addr) : HO → Prop
  | .lst xs => xs.length ≤ sizeLine ∧ ∃ (its : List Value) (n : Nat), Vals xs its ∧ h.get? a = some { cls := .type "list", data := .seq its.toArray n }
  | .tup xs => xs.length ≤ sizeLine ∧ ∃ its : List Value, Vals xs its ∧ IsTup h a its.toArray
  | .dK kvs => kvs.length ≤ sizeLine ∧ (a == sysModules) = false ∧ ∃ vs, KV kvs vs ∧ h.DictOf (mixKind P w) a vs
  | .dT kvs => kvs.length ≤ sizeLine ∧ (a == sysModules) = false ∧ ∃ xs : List (List Key × Addr × Value),
      Paired (fun (p : List Key × V) (q : List Key × Addr × Value) => p.1 = q.1 ∧ H q.2.1 = some (.tup (p.1.map kV)) ∧ RelV p.2 q.2.2) kvs xs ∧
      ∃ o es ep, h.get? a = some o ∧ o.ExactDict ∧ o.data = .dict es ep ∧ es.toList = xs.map (entryOfKey (tupleKind (mixKind P w))) ∧ (xs.map (·.1)).Nodup
  | .set S n => h.SetOf (intKind P w) a S n
  | .ins C dx fs => H dx = some (.own a) ∧ fs.length ≤ 1000 ∧ dx ≠ a ∧ h.get? a = some (PySem.W.instObj C dx) ∧
      ∃ mA, h.Ns1 dx mA ∧ (∀ f, RelO (fs.lookup f) (mA f)) ∧ PySem.Within mA (fs.map (·.1))
  | .own _ => ∃ o, h.get? a = some o
  | .xd fs => ∃ mA, h.Ns1 a mA ∧ ∀ f, RelO (fs.lookup f) (mA f)
  | .rng lo hi => ∃ t u v, h.get? a = some { cls := .type "range", data := .fields #[.int lo t, .int hi u, .int 1 v] }
  | .frz o u => h.get? a = some o ∧ ObjOk H h a u
  | .tbl ps => h.get? a = some { cls := .none, data := .fields ps }
  | .met f x => h.get? a = some (PySem.W.methodObj (.ref f) (.ref x))
  | .ext φ => φ h ∧ (∃ o, h.get? a = some o) ∧ ∀ h1 h2 : Heap, φ h1 → (∀ o, h1.get? a = some o → h2.get? a = some o) → φ h2
noncomputable def HOk (H : Hp) (h : Heap) : Prop := ∀ a o, H a = some o → ObjOk P w H h a o
end
section
variable {P : Program} {w : World} {H H' : Hp} {h h' : Heap} {a : Addr} {o : HO}
theorem ObjOk.lt (x : ObjOk P w H h a o) : a < h.objs.size := by
  cases o with
  | lst xs => obtain ⟨_, _, _, _, e⟩ := x; exact Heap.lt_size e
  | tup xs => obtain ⟨_, _, _, p⟩ := x; exact p.lt
  | dK kvs => obtain ⟨_, _, _, _, o, _, _, e, _⟩ := x; exact Heap.lt_size e
  | dT kvs => obtain ⟨_, _, _, _, o, _, _, e, _⟩ := x; exact Heap.lt_size e
  | set S n => obtain ⟨o, _, _, _, e, _⟩ := x; exact Heap.lt_size e
  | ins C dx fs => obtain ⟨_, _, _, e, _⟩ := x; exact Heap.lt_size e
  | own y => obtain ⟨_, e⟩ := x; exact Heap.lt_size e
  | xd fs => obtain ⟨_, ⟨_, _, _, e, _⟩, _⟩ := x; exact Heap.lt_size e
  | rng lo hi => obtain ⟨_, _, _, e⟩ := x; exact Heap.lt_size e
  | frz ob u => obtain ⟨e, _⟩ := x; exact Heap.lt_size e
  | tbl ps => exact Heap.lt_size (show h.get? a = some _ from x)
  | met f y => exact Heap.lt_size (show h.get? a = some _ from x)
  | ext φ => obtain ⟨_, ⟨_, e⟩, _⟩ := x; exact Heap.lt_size e
theorem Paired.mapP {α β : Type} {F G : α → β → Prop} : ∀ {l₁ : List α} {l₂ : List β}, Paired F l₁ l₂ → (∀ a b, F a b → G a b) → Paired G l₁ l₂
  | _, _, .nil, _ => .nil
  | _, _, .cons r t, f => .cons (f _ _ r) (Paired.mapP t f)
theorem ObjOk.stay (x : ObjOk P w H h a o) (k : ∀ b u, (b = a ∨ H b = some (.own a)) → h.get? b = some u → h'.get? b = some u)
    (ho : ∀ b, H b = some (.own a) → H' b = some (.own a)) (ht : ∀ b xs, H b = some (.tup xs) → H' b = some (.tup xs)) : ObjOk P w H' h' a o := by
  induction o with
  | lst xs => obtain ⟨z, its, n, r, e⟩ := x; exact ⟨z, its, n, r, k _ _ (.inl rfl) e⟩
  | tup xs => obtain ⟨z, its, r, ob, e, c⟩ := x; exact ⟨z, its, r, ob, k _ _ (.inl rfl) e, c⟩
  | dK kvs => obtain ⟨z, y, vs, r, ob, es, ep, e, c⟩ := x; exact ⟨z, y, vs, r, ob, es, ep, k _ _ (.inl rfl) e, c⟩
  | dT kvs =>
    obtain ⟨z, y, xs, r, ob, es, ep, e, c⟩ := x
    exact ⟨z, y, xs, Paired.mapP r fun p q z => ⟨z.1, ht _ _ z.2.1, z.2.2⟩, ob, es, ep, k _ _ (.inl rfl) e, c⟩
  | set S n => obtain ⟨ob, es, ep, t, e, c⟩ := x; exact ⟨ob, es, ep, t, k _ _ (.inl rfl) e, c⟩
  | ins C dx fs =>
    obtain ⟨d, z, ne, e, mA, ⟨od, es, ep, e2, c⟩, r⟩ := x
    exact ⟨ho _ d, z, ne, k _ _ (.inl rfl) e, mA, ⟨od, es, ep, k _ _ (.inr d) e2, c⟩, r⟩
  | own y => obtain ⟨ob, e⟩ := x; exact ⟨ob, k _ _ (.inl rfl) e⟩
  | xd fs => obtain ⟨mA, ⟨od, es, ep, e, c⟩, r⟩ := x; exact ⟨mA, ⟨od, es, ep, k _ _ (.inl rfl) e, c⟩, r⟩
  | rng lo hi => obtain ⟨t, u, v, e⟩ := x; exact ⟨t, u, v, k _ _ (.inl rfl) e⟩
  | frz ob u ih => obtain ⟨e, q⟩ := x; exact ⟨k _ _ (.inl rfl) e, ih q⟩
  | tbl ps =>
    have e : h.get? a = some { cls := .none, data := .fields ps } := x
    show h'.get? a = some { cls := .none, data := .fields ps }
    exact k a _ (.inl rfl) e
  | met f y =>
    have e : h.get? a = some (PySem.W.methodObj (.ref f) (.ref y)) := x
    show h'.get? a = some (PySem.W.methodObj (.ref f) (.ref y))
    exact k a _ (.inl rfl) e
  | ext φ => obtain ⟨p, ⟨o, e⟩, st⟩ := x; exact ⟨st _ _ p fun o q => k _ _ (.inl rfl) q, ⟨o, k _ _ (.inl rfl) e⟩, st⟩
theorem HOk.lt (x : HOk P w H h) (e : H a = some o) : a < h.objs.size := (x a o e).lt
theorem HOk.fresh (x : HOk P w H h) (e : h.objs.size ≤ a) : H a = none := by
  cases q : H a with
  | none => rfl
  | some u => exact absurd (Nat.lt_of_lt_of_le (x.lt q) e) (Nat.lt_irrefl _)
theorem HOk.kept (x : HOk P w H h) (k : ∀ b u, h.get? b = some u → h'.get? b = some u) : HOk P w H h' := fun a o e =>
  (x a o e).stay (fun b u _ q => k b u q) (fun _ q => q) fun _ _ q => q
theorem HOk.laid (x : HOk P w H h) (k : ∀ b u, h.get? b = some u → h'.get? b = some u) (hp : h.objs.size ≤ a) (new : ObjOk P w (upd H a o) h' a o) : HOk P w (upd H a o) h' := fun b u e => by
  have hn := x.fresh hp
  by_cases hb : b = a
  · subst hb; rw [upd_same] at e; cases e; exact new
  · rw [upd_ne hb] at e
    exact (x b u e).stay (fun c v _ q => k c v q) (fun c q => by rw [upd_ne (ne_of_none q hn)]; exact q) fun c xs q => by rw [upd_ne (ne_of_none q hn)]; exact q
end
noncomputable def Rd (H : Hp) (a : Addr) (u : HO) : Prop := H a = some u ∨ ∃ o, H a = some (.frz o u)
theorem Rd.ok {P : Program} {w : World} {H : Hp} {h : Heap} {a : Addr} {u : HO} (r : Rd H a u) (x : HOk P w H h) : ObjOk P w H h a u := by
  rcases r with r | ⟨o, r⟩
  · exact x a u r
  · obtain ⟨_, q⟩ := x a _ r
    exact q
noncomputable def Mut : Option HO → Prop
  | some (.lst _) => True
  | some (.dK _) => True
  | some (.dT _) => True
  | some (.set _ _) => True
  | some (.ins _ _ _) => True
  | some (.ext _) => True
  | _ => False
section
variable {P : Program} {w : World} {H : Hp} {h h' : Heap} {x e : Addr} {o' : HO}
theorem HOk.write (ok : HOk P w H h) (mu : Mut (H x)) (he : e = x ∨ H e = some (.own x)) (k : ∀ b u, b ≠ e → h.get? b = some u → h'.get? b = some u) (heo : ∃ u, h'.get? e = some u)
    (new : ObjOk P w (upd H x o') h' x o') : HOk P w (upd H x o') h' := fun b u q => by
  have nown : ∀ c y, H c = some (.own y) → c ≠ x := fun c y r z => by subst z; rw [r] at mu; exact mu
  have ntup : ∀ c xs, H c = some (.tup xs) → c ≠ x := fun c xs r z => by subst z; rw [r] at mu; exact mu
  by_cases hb : b = x
  · subst hb; rw [upd_same] at q; cases q; exact new
  · rw [upd_ne hb] at q
    by_cases hbe : b = e
    · have q' : H b = some (.own x) := by
        rcases he with z | z
        · exact absurd (hbe.trans z) hb
        · rw [hbe]; exact z
      rw [q] at q'; cases q'
      obtain ⟨v, hv⟩ := heo
      exact ⟨v, by rw [hbe]; exact hv⟩
    · refine (ok b u q).stay (fun c v hc r => k c v ?_ r) (fun c r => by rw [upd_ne (nown c b r)]; exact r) fun c xs r => by rw [upd_ne (ntup c xs r)]; exact r
      rcases hc with rfl | hc
      · exact hbe
      · rintro rfl
        rcases he with z | z
        · exact nown c b hc z
        · rw [hc] at z; cases z; exact hb rfl
end
structure Un (fs ex : List Addr) (H H' : Hp) (h h' : Heap) : Prop where
  keep : ∀ b o, h.get? b = some o → H b = none → b ∉ fs → b ∉ ex → h'.get? b = some o
  slot : ∀ b o, h.get? b = some o → H b = none → b ∈ fs → b ∉ ex → ∃ sl, h'.get? b = some { o with slots := sl }
  free : ∀ b o, h.get? b = some o → H b = none → b ∉ ex → H' b = none
  there : ∀ b o, h.get? b = some o → b ∉ ex → ∃ o', h'.get? b = some o'
  tups : ∀ b xs, H b = some (.tup xs) → H' b = some (.tup xs)
  frzs : ∀ b o u, H b = some (.frz o u) → H' b = some (.frz o u)
  tbls : ∀ b ps, H b = some (.tbl ps) → ∃ more, H' b = some (.tbl (ps ++ more))
section
variable {fs fs' ex ex' : List Addr} {H H1 H2 : Hp} {h h1 h2 h' : Heap} {a x e : Addr} {o : HO}
theorem Un.any (u : Un fs ex H H1 h h1) {b : Addr} {ob : Obj} (q : h.get? b = some ob) (n : H b = none) (hx : b ∉ ex) : ∃ sl, h1.get? b = some { ob with slots := sl } := by
  by_cases hb : b ∈ fs
  · exact u.slot b ob q n hb hx
  · exact ⟨ob.slots, u.keep b ob q n hb hx⟩
theorem Un.kept (k : ∀ b u, h.get? b = some u → h'.get? b = some u) : Un fs ex H H h h' :=
  ⟨fun b ob q _ _ _ => k b ob q, fun b ob q _ _ _ => ⟨ob.slots, k b ob q⟩, fun _ _ _ n _ => n, fun b ob q _ => ⟨ob, k b ob q⟩, fun _ _ q => q, fun _ _ _ q => q, fun _ ps q => ⟨#[], by rw [q]; simp⟩⟩
theorem Un.refl : Un fs ex H H h h := Un.kept fun _ _ q => q
theorem Un.laid (k : ∀ b u, h.get? b = some u → h'.get? b = some u) (hp : h.objs.size ≤ a) (hn : H a = none) : Un fs ex H (upd H a o) h h' where
  keep := fun b u q _ _ _ => k b u q
  slot := fun b u q _ _ _ => ⟨u.slots, k b u q⟩
  free := fun b u q n _ => by rw [upd_ne (Nat.ne_of_lt (Nat.lt_of_lt_of_le (Heap.lt_size q) hp))]; exact n
  there := fun b u q _ => ⟨u, k b u q⟩
  tups := fun b xs q => by rw [upd_ne (ne_of_none q hn)]; exact q
  frzs := fun b u xs q => by rw [upd_ne (ne_of_none q hn)]; exact q
  tbls := fun b ps q => ⟨#[], by rw [upd_ne (ne_of_none q hn), q]; simp⟩
theorem Un.write (mu : Mut (H x)) (he : e = x ∨ H e = some (.own x)) (k : ∀ b u, b ≠ e → h.get? b = some u → h'.get? b = some u) (heo : ∃ u, h'.get? e = some u) : Un fs ex H (upd H x o) h h' := by
  have hx : ∀ b, H b = none → b ≠ x := fun b n z => by subst z; rw [n] at mu; exact mu
  have hb : ∀ b, H b = none → b ≠ e := fun b n z => by
    subst z
    rcases he with r | r
    · exact hx b n r
    · rw [n] at r; cases r
  have hm : ∀ b u, H b = some u → ¬ Mut (some u) → b ≠ x := fun b u q nm z => by subst z; rw [q] at mu; exact nm mu
  refine ⟨fun b u q n _ _ => k b u (hb b n) q, fun b u q n _ _ => ⟨u.slots, k b u (hb b n) q⟩, fun b u q n _ => by rw [upd_ne (hx b n)]; exact n, fun b u q _ => ?_,
    fun b xs q => by rw [upd_ne (hm b _ q fun z => z)]; exact q, fun b u xs q => by rw [upd_ne (hm b _ q fun z => z)]; exact q, fun b ps q => ⟨#[], by rw [upd_ne (hm b _ q fun z => z), q]; simp⟩⟩
  by_cases hbe : b = e
  · subst hbe; exact heo
  · exact ⟨u, k b u hbe q⟩
end
noncomputable def trk (h : Heap) (H : Hp) : List Addr := (List.range h.objs.size).filter fun a => (H a).isSome
noncomputable def hidT (h : Heap) (H : Hp) : Heap := PySem.W.hideAll h (trk h H)
theorem hidT_size (h : Heap) (H : Hp) : (hidT h H).objs.size = h.objs.size := PySem.W.hideAll_size _ _
theorem hidT_get {h : Heap} {H : Hp} {b : Addr} {o : Obj} (e : h.get? b = some o) (n : H b = none) : (hidT h H).get? b = some o :=
  PySem.W.hideAll_get _ e fun hm => by
    have q : (H b).isSome = true := (List.mem_filter.mp hm).2
    rw [n] at q; simp at q
theorem of_hidT {h : Heap} {H : Hp} {b : Addr} {o : Obj} (e : (hidT h H).get? b = some o) : h.get? b = some o ∧ H b = none := by
  have e' : h.get? b = some o := PySem.W.of_hideAll (trk h H) e
  refine ⟨e', ?_⟩
  cases q : H b with
  | none => rfl
  | some x =>
    have hm : b ∈ trk h H := List.mem_filter.mpr ⟨List.mem_range.mpr (Heap.lt_size e'), by simp [q]⟩
    have z : (hidT h H).get? b = none := PySem.W.hideAll_none (trk h H) hm
    rw [z] at e; cases e
noncomputable def allNews (g h : Heap) (L : Addr) : List (Addr × Obj) := (List.range h.objs.size).filterMap fun a => if a = L ∨ (g.get? a).isSome = true then none else (h.get? a).map fun o => (a, o)
noncomputable def rest (g h : Heap) (L d : Addr) : List (Addr × Obj) := (allNews g h L).filter fun p => decide (p.1 ≠ d)
end L2
namespace L2
open PySem PySem.Spec PyProof.Rows
structure Mod (K : PySem.W.Frag) (mg : Str → Option Value) (base : Heap) : Prop where
  kin : K.In base
  glob : base.Ns mainGlobals mg
  blt : ∃ mb, base.Ns builtinsNs mb ∧ ∀ x : Str, x ≠ "__name__" → mb x = bootBuiltins x
  nolimit : base.NoLimit
structure Cx where
  prog : Program
  w : World
  K : PySem.W.Frag
  mg : Str → Option Value
  base : Heap
  A : Around
  N : List Str
  s₀ : Shared
  H₀ : Hp
  env : Env
  outer : List Env
  stack : List Env
  ex : List Addr
  fn : Str → Bool
  calm : Bool
  pn : List (Addr × Obj)
  xe : Value → Shared → Prop
noncomputable def frs (l : List Env) : List Addr := l.filterMap (·.frame)
noncomputable abbrev Cx.fs (X : Cx) : List Addr := frs X.outer
noncomputable def Vis (sc : Scope) (x : Str) : Prop := sc.names.lookup x = some .local ∨ sc.names.lookup x = some .cell ∨ sc.names.lookup x = some .free
noncomputable def Loc (sc : Scope) (x : Str) : Prop := sc.names.lookup x = some .local ∨ sc.names.lookup x = some .cell
noncomputable def Look (env : Env) (h : Heap) (m : Str → Option Value) (x : Str) (u : Value) : Prop :=
  (env.kindOf x = some .local ∧ m x = some u) ∨ ((env.kindOf x = some .cell ∨ env.kindOf x = some .free) ∧ ∃ c, env.cells.lookup x = some c ∧ h.IsCell c (some u))
structure Cx.Ok (X : Cx) : Prop where
  mod : Mod X.K X.mg X.base
  kind : X.env.scope.kind = .function
  glob : X.env.globals = mainGlobals
  blt : X.env.builtins = builtinsNs
  above : X.s₀.heap.objs.size ≤ X.env.locals
  inj : ∀ x y c, X.env.cells.lookup x = some c → X.env.cells.lookup y = some c → x = y
  has : ∀ x, (X.env.kindOf x = some .cell ∨ X.env.kindOf x = some .free) → ∃ c, X.env.cells.lookup x = some c
  cab : ∀ x c, X.fn x = true → X.env.cells.lookup x = some c → X.s₀.heap.objs.size ≤ c
  hd : X.calm = true → X.A.handled = none
  frames : X.A.frames = some X.stack
  stk : X.stack = X.outer ∨ (X.stack = X.env :: X.outer ∧ X.env.frame = some X.env.locals)
  exf : ∀ b ∈ X.ex, b ≠ X.env.locals ∧ ∀ x c, X.env.cells.lookup x = some c → c ≠ b
  bs : ∀ b o, X.base.get? b = some o → X.s₀.heap.get? b = some o ∧ X.H₀ b = none
  bsz : X.base.objs.size ≤ X.s₀.heap.objs.size
  noex : ∀ b o, X.base.get? b = some o → b ∉ X.ex
  exfs : ∀ b ∈ X.ex, b ∉ X.fs
  funs : X.s₀.heap.FunFrames X.base X.outer
  frf : ∀ b ∈ X.fs, X.H₀ b = none
structure Inv (X : Cx) (pins : List (Addr × Obj)) (σ : List (Option V)) (H : Hp) (s : Shared) : Prop where
  ok : X.Ok
  os : s.os = X.s₀.os
  bare : AllBare s.gens
  base : Un X.fs X.ex X.H₀ H X.s₀.heap s.heap
  loc : ∃ m, s.heap.Ns X.env.locals m ∧ ∀ (i : Nat) (x : Str) (v : V), X.N[i]? = some x → σ[i]? = some (some v) → Vis X.env.scope x → ∃ u, RelV v u ∧ Look X.env s.heap m x u
  cell : ∀ x c, X.env.cells.lookup x = some c → ∃ v, s.heap.IsCell c v
  free : H X.env.locals = none
  freeC : ∀ x c, X.env.cells.lookup x = some c → H c = none
  pin : ∀ p ∈ X.pn ++ pins, s.heap.get? p.1 = some p.2 ∧ H p.1 = none ∧ p.1 ≠ X.env.locals ∧ p.1 ∉ X.fs ∧ ∀ v, p.2.data ≠ .cell v
  hok : HOk X.prog X.w H s.heap
  len : σ.length = X.N.length
section
variable {X : Cx} {pins : List (Addr × Obj)} {σ : List (Option V)} {H H' : Hp} {s : Shared} {h' : Heap}
theorem Cx.Ok.nofr (ok : X.Ok) {b : Addr} {o : Obj} (e : X.base.get? b = some o) : b ∉ X.fs := fun hb => by
  have := (ok.funs.mem hb).1
  rw [e] at this; cases this
theorem Inv.bs (I : Inv X pins σ H s) : ∀ b o, X.base.get? b = some o → s.heap.get? b = some o ∧ H b = none := fun b o e =>
  ⟨I.base.keep b o (I.ok.bs b o e).1 (I.ok.bs b o e).2 (I.ok.nofr e) (I.ok.noex b o e), I.base.free b o (I.ok.bs b o e).1 (I.ok.bs b o e).2 (I.ok.noex b o e)⟩
theorem Inv.bk (I : Inv X pins σ H s) : ∀ b o, X.base.get? b = some o → s.heap.get? b = some o := fun b o e => (I.bs b o e).1
theorem Inv.mod (I : Inv X pins σ H s) : Mod X.K X.mg X.base := I.ok.mod
theorem Inv.kIn (I : Inv X pins σ H s) : X.K.In s.heap := I.ok.mod.kin.keeps I.bk
theorem Inv.lt (I : Inv X pins σ H s) : X.env.locals < s.heap.objs.size := let ⟨_, hn, _⟩ := I.loc; hn.lt
theorem Inv.sz (I : Inv X pins σ H s) : X.s₀.heap.objs.size ≤ s.heap.objs.size := Nat.le_trans I.ok.above (Nat.le_of_lt I.lt)
theorem Inv.nofs (I : Inv X pins σ H s) {a : Addr} (h : s.heap.objs.size ≤ a) : a ∉ X.fs := fun hb => by
  obtain ⟨_, o, ho, _⟩ := I.ok.funs.mem hb
  exact absurd (Nat.lt_of_lt_of_le (Heap.lt_size ho) (Nat.le_trans I.sz h)) (Nat.lt_irrefl _)
theorem Inv.cne (I : Inv X pins σ H s) : ∀ x c, X.env.cells.lookup x = some c → c ≠ X.env.locals := fun x c e z => by
  obtain ⟨v, o, ho, hd⟩ := I.cell x c e
  obtain ⟨m, ⟨o', es, ep, ho', hd', _⟩, _⟩ := I.loc
  rw [z, ho'] at ho; cases ho; rw [hd'] at hd; cases hd
theorem Inv.funs (I : Inv X pins σ H s) : s.heap.FunFrames X.base X.outer := by
  have all : ∀ (l : List Env), (∀ b ∈ frs l, b ∈ X.fs) → X.s₀.heap.FunFrames X.base l → s.heap.FunFrames X.base l := by
    intro l
    induction l with
    | nil => intro _ _; trivial
    | cons env r ih =>
      intro hs hl
      obtain ⟨hk, ⟨L, o, hf, hn, ho, hd⟩, hr⟩ := hl
      have hL : L ∈ X.fs := hs L (by unfold frs; rw [List.filterMap_cons, hf]; exact List.mem_cons_self)
      obtain ⟨sl, e⟩ := I.base.slot L o ho (I.ok.frf L hL) hL fun z => I.ok.exfs L z hL
      exact ⟨hk, ⟨L, _, hf, hn, e, hd⟩, ih (fun b hb => hs b (by unfold frs; rw [List.filterMap_cons, hf]; exact List.mem_cons_of_mem _ hb)) hr⟩
  exact all X.outer (fun _ hb => hb) I.ok.funs
theorem Inv.stack (I : Inv X pins σ H s) : s.heap.FunFrames X.base X.stack := by
  rcases I.ok.stk with e | ⟨e, hf⟩
  · rw [e]; exact I.funs
  · rw [e]
    obtain ⟨m, hn, _⟩ := I.loc
    refine .cons (by rw [I.ok.kind]; decide) hf hn ?_ I.funs
    exact Heap.get?_none_of_le (Nat.le_trans I.ok.bsz I.ok.above)
theorem Inv.stkSub (I : Inv X pins σ H s) : ∀ b ∈ frs X.stack, b ∈ X.env.locals :: X.fs := fun b hb => by
  rcases I.ok.stk with e | ⟨e, hf⟩
  · rw [e] at hb; exact List.mem_cons_of_mem _ hb
  · rw [e] at hb
    unfold frs at hb
    rw [List.filterMap_cons, hf] at hb
    exact hb
theorem Inv.stkFree (I : Inv X pins σ H s) : ∀ b ∈ frs X.stack, H b = none := fun b hb => by
  rcases List.mem_cons.mp (I.stkSub b hb) with e | hb
  · rw [e]; exact I.free
  · obtain ⟨_, o, ho, _⟩ := I.ok.funs.mem hb
    exact I.base.free b o ho (I.ok.frf b hb) fun z => I.ok.exfs b z hb
theorem Inv.step {g' : Array GenState} {t' : Nat} {d' : Drawn} {ch : List Addr} (I : Inv X pins σ H s)
    (hch : ∀ b ∈ ch, (b ∈ X.ex ∨ X.s₀.heap.objs.size ≤ b) ∧ b ≠ X.env.locals ∧ (∀ x c, X.env.cells.lookup x = some c → c ≠ b) ∧ ∀ p ∈ X.pn ++ pins, p.1 ≠ b)
    (keep : ∀ b o, b ≠ X.env.locals → b ∉ X.fs → b ∉ ch → s.heap.get? b = some o → H b = none → h'.get? b = some o)
    (slot : ∀ b o, b ≠ X.env.locals → b ∈ X.fs → b ∉ ch → s.heap.get? b = some o → H b = none → ∃ sl, h'.get? b = some { o with slots := sl }) (free : ∀ b o, b ∉ ch → s.heap.get? b = some o → H b = none → H' b = none)
    (there : ∀ b o, b ∉ ch → s.heap.get? b = some o → ∃ o', h'.get? b = some o')
    (tups : ∀ b xs, H b = some (.tup xs) → H' b = some (.tup xs)) (frzs : ∀ b o u, H b = some (.frz o u) → H' b = some (.frz o u)) (tbls : ∀ b ps, H b = some (.tbl ps) → ∃ more, H' b = some (.tbl (ps ++ more)))
    (ns : ∀ m, s.heap.Ns X.env.locals m → h'.Ns X.env.locals m) (hok : HOk X.prog X.w H' h') (hg : AllBare g') :
    Inv X pins σ H' { s with heap := h', gens := g', drawn := d', toks := t' } := by
  have neL : ∀ b o, X.s₀.heap.get? b = some o → b ≠ X.env.locals := fun b o e => Nat.ne_of_lt (Nat.lt_of_lt_of_le (Heap.lt_size e) I.ok.above)
  have neC : ∀ b o, X.s₀.heap.get? b = some o → b ∉ X.ex → b ∉ ch := fun b o e hx hb => by
    rcases (hch b hb).1 with z | z
    · exact hx z
    · exact absurd (Nat.lt_of_lt_of_le (Heap.lt_size e) z) (Nat.lt_irrefl _)
  have cellK : ∀ x c, X.env.cells.lookup x = some c → ∀ v, s.heap.IsCell c v → h'.IsCell c v := fun x c e v ⟨o, ho, hd⟩ => by
    have nch : c ∉ ch := fun z => (hch c z).2.2.1 x c e rfl
    by_cases hc : c ∈ X.fs
    · obtain ⟨sl, q⟩ := slot c o (I.cne x c e) hc nch ho (I.freeC x c e)
      exact ⟨_, q, hd⟩
    · exact ⟨o, keep c o (I.cne x c e) hc nch ho (I.freeC x c e), hd⟩
  refine ⟨I.ok, I.os, hg, ⟨fun b o e n hb hx => ?_, fun b o e n hb hx => ?_, fun b o e n hx => ?_, fun b o e hx => ?_, fun b xs e => tups b xs (I.base.tups b xs e), fun b o xs e => frzs b o xs (I.base.frzs b o xs e), fun b ps e => ?_⟩, ?_, fun x c e => ?_, ?_, fun x c e => ?_, fun p hp => ?_, hok, I.len⟩
  · exact keep b o (neL b o e) hb (neC b o e hx) (I.base.keep b o e n hb hx) (I.base.free b o e n hx)
  · obtain ⟨sl, e1⟩ := I.base.slot b o e n hb hx
    obtain ⟨sl', e2⟩ := slot b _ (neL b o e) hb (neC b o e hx) e1 (I.base.free b o e n hx)
    exact ⟨sl', e2⟩
  · obtain ⟨o', e1⟩ := I.base.there b o e hx
    exact free b o' (neC b o e hx) e1 (I.base.free b o e n hx)
  · obtain ⟨o', e1⟩ := I.base.there b o e hx
    exact there b o' (neC b o e hx) e1
  · obtain ⟨m1, e1⟩ := I.base.tbls b ps e
    obtain ⟨m2, e2⟩ := tbls b _ e1
    exact ⟨m1 ++ m2, by rw [e2, Array.append_assoc]⟩
  · obtain ⟨m, hn, hl⟩ := I.loc
    refine ⟨m, ns m hn, fun i x v e1 e2 e3 => ?_⟩
    obtain ⟨u, r, l⟩ := hl i x v e1 e2 e3
    refine ⟨u, r, ?_⟩
    rcases l with l | ⟨k, c, e, z⟩
    · exact .inl l
    · exact .inr ⟨k, c, e, cellK x c e _ z⟩
  · obtain ⟨v, z⟩ := I.cell x c e
    exact ⟨v, cellK x c e v z⟩
  · obtain ⟨m, ⟨o, _, _, ho, _⟩, _⟩ := I.loc
    exact free _ o (fun z => (hch _ z).2.1 rfl) ho I.free
  · obtain ⟨v, o, ho, hd⟩ := I.cell x c e
    exact free c o (fun z => (hch c z).2.2.1 x c e rfl) ho (I.freeC x c e)
  · obtain ⟨e, n, ne, nf, d⟩ := I.pin p hp
    have nch : p.1 ∉ ch := fun z => (hch p.1 z).2.2.2 p hp rfl
    exact ⟨keep p.1 p.2 ne nf nch e n, free p.1 p.2 nch e n, ne, nf, d⟩
theorem Inv.un {t' : Nat} (I : Inv X pins σ H s) (u : Un X.fs [] H H' s.heap h') (hok : HOk X.prog X.w H' h') : Inv X pins σ H' { s with heap := h', toks := t' } := by
  obtain ⟨m, ⟨o, es, ep, ho, r⟩, _⟩ := id I.loc
  obtain ⟨sl, hL⟩ := u.any ho I.free (by simp)
  exact I.step (g' := s.gens) (d' := s.drawn) (ch := []) (fun _ z => nomatch z) (fun b o _ hb _ e n => u.keep b o e n hb (by simp)) (fun b o _ hb _ e n => u.slot b o e n hb (by simp)) (fun b o _ e n => u.free b o e n (by simp)) (fun b o _ e => u.there b o e (by simp)) u.tups u.frzs u.tbls (fun m' hm => by
    obtain ⟨o', es', ep', ho', r'⟩ := hm
    rw [ho] at ho'; cases ho'
    exact ⟨_, es', ep', hL, r'⟩) hok I.bare
theorem Inv.call {g' : Array GenState} {t' : Nat} {d' : Drawn} {ch : List Addr} (I : Inv X pins σ H s) (u : Un (frs X.stack) ch H H' s.heap h') (hok : HOk X.prog X.w H' h') (hg : AllBare g')
    (hch : ∀ b ∈ ch, (b ∈ X.ex ∨ X.s₀.heap.objs.size ≤ b) ∧ b ≠ X.env.locals ∧ (∀ x c, X.env.cells.lookup x = some c → c ≠ b) ∧ ∀ p ∈ X.pn ++ pins, p.1 ≠ b) :
    Inv X pins σ H' { s with heap := h', gens := g', drawn := d', toks := t' } := by
  obtain ⟨m, ⟨o, es, ep, ho, r⟩, _⟩ := id I.loc
  obtain ⟨sl, hL⟩ := u.any ho I.free fun z => (hch _ z).2.1 rfl
  exact I.step (ch := ch) hch (fun b o hL hb hc e n => u.keep b o e n (fun z => (List.mem_cons.mp (I.stkSub b z)).elim hL hb) hc) (fun b o _ _ hc e n => u.any e n hc) (fun b o hc e n => u.free b o e n hc) (fun b o hc e => u.there b o e hc) u.tups u.frzs u.tbls (fun m' hm => by
    obtain ⟨o', es', ep', ho', r'⟩ := hm
    rw [ho] at ho'; cases ho'
    exact ⟨_, es', ep', hL, r'⟩) hok hg
theorem Inv.turned {t' : Nat} {it : Addr} (I : Inv X pins σ H s) (k : ∀ b o, b ≠ it → s.heap.get? b = some o → h'.get? b = some o) (hn : H it = none) (hL : it ≠ X.env.locals)
    (h1 : it ∈ X.ex ∨ X.s₀.heap.objs.size ≤ it) (h2 : ∀ x c, X.env.cells.lookup x = some c → c ≠ it) (h3 : ∀ p ∈ X.pn ++ pins, p.1 ≠ it) : Inv X pins σ H { s with heap := h', toks := t' } := by
  have nit : ∀ b u, H b = some u → b ≠ it := fun b u e z => by rw [z, hn] at e; cases e
  refine I.step (g' := s.gens) (d' := s.drawn) (ch := [it]) (fun b hb => ?_) (fun b o _ _ hc e _ => k b o (fun z => hc (by simp [z])) e) (fun b o _ _ hc e _ => ⟨o.slots, k b o (fun z => hc (by simp [z])) e⟩) (fun _ _ _ _ n => n)
    (fun b o hc e => ⟨o, k b o (fun z => hc (by simp [z])) e⟩) (fun _ _ e => e) (fun _ _ _ e => e) (fun b ps e => ⟨#[], by rw [e]; simp⟩) (fun m hm => ?_) (fun b u e => ?_) I.bare
  · have e : b = it := by simpa using hb
    subst e
    exact ⟨h1, hL, h2, h3⟩
  · obtain ⟨o, es, ep, ho, r⟩ := hm
    exact ⟨o, es, ep, k _ o (Ne.symm hL) ho, r⟩
  · refine (I.hok b u e).stay (fun c v hc q => k c v ?_ q) (fun _ q => q) fun _ _ q => q
    rcases hc with z | z
    · rw [z]; exact nit b u e
    · exact nit c _ z
theorem Inv.tok (I : Inv X pins σ H s) (t : Nat) : Inv X pins σ H { s with toks := t } := I.un (h' := s.heap) (t' := t) Un.refl I.hok
theorem Inv.kept {t' : Nat} (I : Inv X pins σ H s) (k : ∀ b u, s.heap.get? b = some u → h'.get? b = some u) : Inv X pins σ H { s with heap := h', toks := t' } := I.un (Un.kept k) (I.hok.kept k)
theorem Inv.laid {a : Addr} {o : HO} {t' : Nat} (I : Inv X pins σ H s) (k : ∀ b u, s.heap.get? b = some u → h'.get? b = some u) (hp : s.heap.objs.size ≤ a) (new : ObjOk X.prog X.w (upd H a o) h' a o) :
    Inv X pins σ (upd H a o) { s with heap := h', toks := t' } := I.un (Un.laid k hp (I.hok.fresh hp)) (I.hok.laid k hp new)
theorem Inv.write {x e : Addr} {o : HO} {t' : Nat} (I : Inv X pins σ H s) (mu : Mut (H x)) (he : e = x ∨ H e = some (.own x)) (k : ∀ b u, b ≠ e → s.heap.get? b = some u → h'.get? b = some u) (heo : ∃ u, h'.get? e = some u)
    (new : ObjOk X.prog X.w (upd H x o) h' x o) : Inv X pins σ (upd H x o) { s with heap := h', toks := t' } := I.un (Un.write mu he k heo) (I.hok.write mu he k heo new)
theorem Inv.weak {σ' : List (Option V)} (I : Inv X pins σ H s) (hl : σ'.length = σ.length) (w : ∀ (i : Nat) v, σ'[i]? = some (some v) → σ[i]? = some (some v)) : Inv X pins σ' H s :=
  ⟨I.ok, I.os, I.bare, I.base, let ⟨m, hn, hl'⟩ := I.loc; ⟨m, hn, fun i x v e1 e2 e3 => hl' i x v e1 (w i v e2) e3⟩, I.cell, I.free, I.freeC, I.pin, I.hok, hl.trans I.len⟩
theorem Inv.pins_of {pins' : List (Addr × Obj)} (I : Inv X pins σ H s) (h : ∀ p ∈ pins', s.heap.get? p.1 = some p.2 ∧ H p.1 = none ∧ p.1 ≠ X.env.locals ∧ p.1 ∉ X.fs ∧ ∀ v, p.2.data ≠ .cell v) : Inv X pins' σ H s :=
  ⟨I.ok, I.os, I.bare, I.base, I.loc, I.cell, I.free, I.freeC, fun p hp => (List.mem_append.mp hp).elim (fun z => I.pin p (List.mem_append_left _ z)) (h p), I.hok, I.len⟩
theorem nodup_ix {N : List Str} (hN : N.Nodup) {i j : Nat} {x : Str} (a : N[i]? = some x) (b : N[j]? = some x) : i = j := by
  obtain ⟨h1, e1⟩ := List.getElem?_eq_some_iff.mp a
  obtain ⟨h2, e2⟩ := List.getElem?_eq_some_iff.mp b
  exact (List.getElem_inj hN).mp (e1.trans e2.symm)
theorem store_ok2 {M : Model} {A : Around} {E : Value → Shared → Prop} {i : Nat} {x : Str} {v : V} {u : Value} {Q : Unit → Shared → Prop} (I : Inv X pins σ H s) (hN : X.N.Nodup) (hi : X.N[i]? = some x) (hx : Loc X.env.scope x) (r : RelV v u)
    (h : ∀ s', Inv X pins (σ.set i (some v)) H s' → (∃ a, Heap.SameBut a s.heap s'.heap ∧ (a = X.env.locals ∨ X.env.cells.lookup x = some a)) → Q () s') (hf : X.fn x = true ∨ X.env.scope.names.lookup x = some .local := by first | exact .inl rfl | exact .inr rfl | assumption) : wpAny M A (storeName X.env x u) Q E s := by
  obtain ⟨m, hn, hl⟩ := id I.loc
  have hcls : (X.env.scope.kind == .class || (X.env.scope.kind == .module && X.env.locals != X.env.globals)) = false := by rw [I.ok.kind]; rfl
  have hiσ : i < σ.length := by rw [I.len]; exact (List.getElem?_eq_some_iff.mp hi).1
  have cne := I.cne
  have tracked : ∀ {a : Addr} {h' : Heap}, (∃ o, s.heap.get? a = some o ∧ H a = none) → Heap.SameBut a s.heap h' → HOk X.prog X.w H h' := fun {a h'} ha hs b ob e => by
    obtain ⟨_, _, hfree⟩ := ha
    refine (I.hok b ob e).stay (fun c w' hc q => (hs.2 c ?_).trans q) (fun _ q => q) fun _ _ q => q
    rintro rfl
    rcases hc with rfl | hc
    · rw [hfree] at e; cases e
    · rw [hfree] at hc; cases hc
  rcases hx with hk | hk
  · refine wpAny_storeName_local hk hn (fun h' hn' hs => ?_) hcls
    obtain ⟨oL, _, _, hoL, _⟩ := id hn
    refine h _ ⟨I.ok, I.os, I.bare, ⟨fun b o e n hb hx => ?_, fun b o e n hb hx => ?_, I.base.free, fun b o e hx => ?_, I.base.tups, I.base.frzs, I.base.tbls⟩, ⟨_, hn', fun j y v' e1 e2 e3 => ?_⟩, fun y c e => ?_, I.free, I.freeC, fun p hp => ?_, tracked ⟨oL, hoL, I.free⟩ hs, by simpa using I.len⟩ ⟨_, hs, .inl rfl⟩
    · exact (hs.2 b (Nat.ne_of_lt (Nat.lt_of_lt_of_le (Heap.lt_size e) I.ok.above))).trans (I.base.keep b o e n hb hx)
    · obtain ⟨sl, e1⟩ := I.base.slot b o e n hb hx
      exact ⟨sl, (hs.2 b (Nat.ne_of_lt (Nat.lt_of_lt_of_le (Heap.lt_size e) I.ok.above))).trans e1⟩
    · obtain ⟨o', e1⟩ := I.base.there b o e hx
      exact ⟨o', (hs.2 b (Nat.ne_of_lt (Nat.lt_of_lt_of_le (Heap.lt_size e) I.ok.above))).trans e1⟩
    · by_cases hj : j = i
      · subst hj
        rw [hi] at e1; cases e1
        rw [List.getElem?_set_self hiσ] at e2
        cases e2
        exact ⟨u, r, .inl ⟨hk, by simp⟩⟩
      · rw [List.getElem?_set_ne (Ne.symm hj)] at e2
        obtain ⟨u', r', q⟩ := hl j y v' e1 e2 e3
        refine ⟨u', r', ?_⟩
        rcases q with ⟨k, e⟩ | ⟨k, c, e, z⟩
        · refine .inl ⟨k, ?_⟩
          have : y ≠ x := fun e => hj (nodup_ix hN e1 (e ▸ hi))
          simp [this, e]
        · exact .inr ⟨k, c, e, z.sameBut hs (cne y c e)⟩
    · obtain ⟨w', z⟩ := I.cell y c e
      exact ⟨w', z.sameBut hs (cne y c e)⟩
    · obtain ⟨e, n, ne, nf, d⟩ := I.pin p hp
      exact ⟨(hs.2 p.1 ne).trans e, n, ne, nf, d⟩
  · have hfn : X.fn x = true := by
      rcases hf with z | z
      · exact z
      · rw [z] at hk; cases hk
    obtain ⟨c, hc⟩ := I.ok.has x (.inl hk)
    obtain ⟨w', z⟩ := I.cell x c hc
    refine wpAny_storeName_cell I.ok.kind hk hc z (fun h' hc' hs => ?_)
    obtain ⟨oc, hoc, hocd⟩ := id z
    refine h { s with heap := h' } ⟨I.ok, I.os, I.bare, ⟨fun b o e n hb hx => ?_, fun b o e n hb hx => ?_, I.base.free, fun b o e hx => ?_, I.base.tups, I.base.frzs, I.base.tbls⟩, ⟨m, hn.sameBut hs (Ne.symm (cne x c hc)), fun j y v' e1 e2 e3 => ?_⟩, fun y c' e => ?_, I.free, I.freeC, fun p hp => ?_, tracked ⟨oc, hoc, I.freeC x c hc⟩ hs, by simpa using I.len⟩ ⟨c, hs, .inr hc⟩
    · exact (hs.2 b (Nat.ne_of_lt (Nat.lt_of_lt_of_le (Heap.lt_size e) (I.ok.cab x c hfn hc)))).trans (I.base.keep b o e n hb hx)
    · obtain ⟨sl, e1⟩ := I.base.slot b o e n hb hx
      exact ⟨sl, (hs.2 b (Nat.ne_of_lt (Nat.lt_of_lt_of_le (Heap.lt_size e) (I.ok.cab x c hfn hc)))).trans e1⟩
    · obtain ⟨o', e1⟩ := I.base.there b o e hx
      exact ⟨o', (hs.2 b (Nat.ne_of_lt (Nat.lt_of_lt_of_le (Heap.lt_size e) (I.ok.cab x c hfn hc)))).trans e1⟩
    · by_cases hj : j = i
      · subst hj
        rw [hi] at e1; cases e1
        rw [List.getElem?_set_self hiσ] at e2
        cases e2
        exact ⟨u, r, .inr ⟨.inl hk, c, hc, hc'⟩⟩
      · rw [List.getElem?_set_ne (Ne.symm hj)] at e2
        obtain ⟨u', r', q⟩ := hl j y v' e1 e2 e3
        refine ⟨u', r', ?_⟩
        rcases q with q | ⟨k, c', e, z'⟩
        · exact .inl q
        · refine .inr ⟨k, c', e, z'.sameBut hs ?_⟩
          rintro rfl
          exact hj (nodup_ix hN e1 (I.ok.inj _ _ _ e hc ▸ hi))
    · by_cases hcc : c' = c
      · subst hcc; exact ⟨_, hc'⟩
      · obtain ⟨w2, z2⟩ := I.cell y c' e
        exact ⟨w2, z2.sameBut hs hcc⟩
    · obtain ⟨e, n, ne, nf, d⟩ := I.pin p hp
      refine ⟨(hs.2 p.1 ?_).trans e, n, ne, nf, d⟩
      intro q
      rw [q, hoc] at e
      have q' : oc = p.2 := Option.some.inj e
      exact d w' (by rw [← q']; exact hocd)
theorem store_ok {M : Model} {A : Around} {E : Value → Shared → Prop} {i : Nat} {x : Str} {v : V} {u : Value} {Q : Unit → Shared → Prop} (I : Inv X pins σ H s) (hN : X.N.Nodup) (hi : X.N[i]? = some x) (hx : Loc X.env.scope x) (r : RelV v u)
    (h : ∀ s', Inv X pins (σ.set i (some v)) H s' → Q () s') (hf : X.fn x = true ∨ X.env.scope.names.lookup x = some .local := by first | exact .inl rfl | exact .inr rfl | assumption) : wpAny M A (storeName X.env x u) Q E s :=
  store_ok2 I hN hi hx r (fun s' I' _ => h s' I') hf
theorem Inv.call' {s' : Shared} {ch : List Addr} (I : Inv X pins σ H s) (ho : s'.os = s.os) (u : Un (frs X.stack) ch H H' s.heap s'.heap) (hok : HOk X.prog X.w H' s'.heap) (hg : AllBare s'.gens)
    (hch : ∀ b ∈ ch, (b ∈ X.ex ∨ X.s₀.heap.objs.size ≤ b) ∧ b ≠ X.env.locals ∧ (∀ x c, X.env.cells.lookup x = some c → c ≠ b) ∧ ∀ p ∈ X.pn ++ pins, p.1 ≠ b) : Inv X pins σ H' s' := by
  obtain ⟨h', g', d', t', o'⟩ := s'
  have e : o' = s.os := ho
  subst e
  exact I.call (g' := g') (t' := t') (d' := d') u hok hg hch
end
noncomputable abbrev XK := Value → Option Addr → Hp → Prop
noncomputable abbrev St := List (Option V)
noncomputable abbrev VK := V → Hp → Prop
noncomputable abbrev TE := St → Hp → VK → Prop
noncomputable abbrev TT := St → Hp → (Bool → Hp → Prop) → Prop
noncomputable abbrev TA := St → Hp → (List V → Hp → Prop) → Prop
structure Ends where
  nx : St → Hp → Prop
  rt : VK
  bk : St → Hp → Prop := fun _ _ => False
  ct : St → Hp → Prop := fun _ _ => False
noncomputable abbrev TS := Ends → St → Hp → Prop
noncomputable def EP (X : Cx) (pins : List (Addr × Obj)) (σ : St) (Q : VK) (u : Value) (s' : Shared) : Prop := ∃ v H', Inv X pins σ H' s' ∧ RelV v u ∧ Q v H'
noncomputable def TP (X : Cx) (pins : List (Addr × Obj)) (σ : St) (Q : Bool → Hp → Prop) (b : Bool) (s' : Shared) : Prop := ∃ H', Inv X pins σ H' s' ∧ Q b H'
noncomputable def AP (X : Cx) (pins : List (Addr × Obj)) (σ : St) (Q : List V → Hp → Prop) (us : List Value) (s' : Shared) : Prop := ∃ vs H', Inv X pins σ H' s' ∧ Vals vs us ∧ Q vs H'
noncomputable def SP (X : Cx) (pins : List (Addr × Obj)) (D : Ends) (f : Flow) (s' : Shared) : Prop :=
  match f with
  | .next => ∃ σ' H', Inv X pins σ' H' s' ∧ D.nx σ' H'
  | .brk => ∃ σ' H', Inv X pins σ' H' s' ∧ D.bk σ' H'
  | .cont => ∃ σ' H', Inv X pins σ' H' s' ∧ D.ct σ' H'
  | .ret u => ∃ v σ' H', Inv X pins σ' H' s' ∧ RelV v u ∧ D.rt v H'
noncomputable def PE (X : Cx) (e : Expr) (t : TE) : Prop :=
  ∀ (pins : List (Addr × Obj)) (s : Shared) (σ : St) (H : Hp) (Q : VK), Inv X pins σ H s → t σ H Q → wpAny (model X.prog X.w) X.A (eval e X.env) (EP X pins σ Q) X.xe s
noncomputable def PT (X : Cx) (e : Expr) (t : TT) : Prop :=
  ∀ (pins : List (Addr × Obj)) (s : Shared) (σ : St) (H : Hp) (Q : Bool → Hp → Prop), Inv X pins σ H s → t σ H Q → wpAny (model X.prog X.w) X.A (isTrue e X.env (eval e X.env)) (TP X pins σ Q) X.xe s
noncomputable def PW (X : Cx) (e : Expr) (t : TT) : Prop :=
  ∀ (whole : Sem Value) (pins : List (Addr × Obj)) (s : Shared) (σ : St) (H : Hp) (Q : Bool → Hp → Prop), Inv X pins σ H s → t σ H Q → wpAny (model X.prog X.w) X.A (isTrue e X.env whole) (TP X pins σ Q) X.xe s
theorem PW.pt {X : Cx} {e : Expr} {t : TT} (h : PW X e t) : PT X e t := h _
noncomputable def PA (X : Cx) (es : List Expr) (t : TA) : Prop :=
  ∀ (pos : Pos) (pins : List (Addr × Obj)) (s : Shared) (σ : St) (H : Hp) (Q : List V → Hp → Prop), Inv X pins σ H s → t σ H Q → wpAny (model X.prog X.w) X.A (spliced (backTo pos (starEach es X.env))) (AP X pins σ Q) X.xe s
noncomputable def PS (X : Cx) (st : Stmt) (t : TS) : Prop :=
  ∀ (pins : List (Addr × Obj)) (s : Shared) (σ : St) (H : Hp) (D : Ends), Inv X pins σ H s → t D σ H → wpAny (model X.prog X.w) X.A (exec st X.env) (SP X pins D) X.xe s
noncomputable def PSs (X : Cx) (st : List Stmt) (t : TS) : Prop :=
  ∀ (pins : List (Addr × Obj)) (s : Shared) (σ : St) (H : Hp) (D : Ends), Inv X pins σ H s → t D σ H → wpAny (model X.prog X.w) X.A (execs st X.env) (SP X pins D) X.xe s
theorem thn {α : Type} {t : Sem α} {Q Q' : α → Shared → Prop} {M : Model} {A : Around} {E : Value → Shared → Prop} {s : Shared} (h : wpAny M A t Q E s) (hQ : ∀ a s, Q a s → Q' a s) : wpAny M A t Q' E s := wpAny_mono h hQ fun _ _ x => x
end L2
namespace L2
open PySem PySem.Spec PyProof.Rows
section
variable {X : Cx}
noncomputable def tVar (i : Nat) : TE := fun σ H Q => ∃ v, σ[i]? = some (some v) ∧ Q v H
noncomputable def tC (v : V) : TE := fun _ H Q => Q v H
theorem pe_var {i : Nat} {x : Str} {pos : Pos} (hN : X.N[i]? = some x) (hv : Vis X.env.scope x) (hd : (x == ("__debug__" : Str)) = false := by decide) (hcd : (x == ("__classdict__" : Str)) = false := by decide) : PE X (.Name x pos) (tVar i) := by
  intro pins s σ H Q I h
  obtain ⟨v, e, h⟩ := h
  obtain ⟨m, hn, hl⟩ := I.loc
  obtain ⟨u, r, l⟩ := hl i x v hN e hv
  have fin : EP X pins σ Q u s := ⟨v, H, I, r, h⟩
  rcases l with ⟨hk, hm⟩ | ⟨hk, c, hc, hcell⟩
  · exact wpAny_Name (wpAny_loadName_local I.ok.kind hk hn hm fin) hd
  · rcases hk with hk | hk
    · exact wpAny_Name (wpAny_loadName_cell I.ok.kind hk hc hcell fin) hd
    · exact wpAny_Name (wpAny_loadName_free I.ok.kind hk hc hcell fin hcd) hd
theorem pe_int {i j pos} : PE X (.Constant (.int i) j pos) (tC (.int i)) := fun _ _ _ H _ I h => wpAny_Constant_int ⟨.int i, H, I.tok _, ⟨_, rfl⟩, h⟩
theorem pe_bl {b j pos} : PE X (.Constant (.bool b) j pos) (tC (.bl b)) := fun _ _ _ H _ I h => Constant_bool ⟨.bl b, H, I, rfl, h⟩
theorem pe_non {j pos} : PE X (.Constant .none j pos) (tC .non) := fun _ _ _ H _ I h => Constant_none ⟨.non, H, I, rfl, h⟩
theorem pe_str {x j pos} : PE X (.Constant (.str x) j pos) (tC (.str x)) := fun _ _ _ H _ I h => Calls.Constant_str ⟨.str x, H, I.tok _, ⟨_, rfl⟩, h⟩
noncomputable def Gl (X : Cx) (x : Str) : Prop := X.env.kindOf x = some .globalImplicit
theorem ld_glob {E : Value → Shared → Prop} {pins : List (Addr × Obj)} {s : Shared} {σ : St} {H : Hp} {x : Str} {u : Value} {pos : Pos} {Q : Value → Shared → Prop} (I : Inv X pins σ H s) (hg : Gl X x) (hm : X.mg x = some u) (h : Q u s)
    (hd : (x == ("__debug__" : Str)) = false := by decide) : wpAny (model X.prog X.w) X.A (eval (.Name x pos) X.env) Q E s :=
  Calls.Name_function_global I.ok.kind hg (Calls.loadGlobal_global (by rw [I.ok.glob]; exact I.mod.glob.keeps I.bk) hm h) hd
theorem ld_blt {E : Value → Shared → Prop} {pins : List (Addr × Obj)} {s : Shared} {σ : St} {H : Hp} {x : Str} {u : Value} {pos : Pos} {Q : Value → Shared → Prop} (I : Inv X pins σ H s) (hg : Gl X x) (hm : X.mg x = none) (hv : bootBuiltins x = some u) (h : Q u s)
    (hn : x ≠ "__name__" := by decide) (hd : (x == ("__debug__" : Str)) = false := by decide) : wpAny (model X.prog X.w) X.A (eval (.Name x pos) X.env) Q E s := by
  obtain ⟨mb, h1, h2⟩ := I.mod.blt
  exact Calls.Name_function_global I.ok.kind hg (Calls.loadGlobal_builtin (by rw [I.ok.glob]; exact I.mod.glob.keeps I.bk) hm (by rw [I.ok.blt]; exact h1.keeps I.bk) ((h2 x hn).trans hv) h) hd
theorem pe_glob {x : Str} {v : V} {u : Value} {pos : Pos} (hg : Gl X x) (hm : X.mg x = some u) (r : RelV v u) (hd : (x == ("__debug__" : Str)) = false := by decide) : PE X (.Name x pos) (tC v) :=
  fun _ _ _ H _ I h => ld_glob I hg hm ⟨v, H, I, r, h⟩ hd
theorem pe_bltn {x : Str} {v : V} {u : Value} {pos : Pos} (hg : Gl X x) (hm : X.mg x = none) (hv : bootBuiltins x = some u) (r : RelV v u) (hn : x ≠ "__name__" := by decide) (hd : (x == ("__debug__" : Str)) = false := by decide) : PE X (.Name x pos) (tC v) :=
  fun _ _ _ H _ I h => ld_blt I hg hm hv ⟨v, H, I, r, h⟩ hn hd
variable {a b : Expr} {ta tb : TE} {pos : Pos}
noncomputable def tB (t : TE) : TT := fun σ H Q => t σ H fun x H1 => ∃ c, x = .bl c ∧ Q c H1
theorem pt_val {e : Expr} {t : TE} (h : PE X e t) (he : ∀ whole, isTrue e X.env whole = (do let v ← whole; standAt e.pos; holding [v] (truthy v)) := by intro _; rfl) : PT X e (tB t) := by
  intro pins s σ H Q I hw
  refine isTrue_plain (thn (h pins s σ H _ I hw) fun v s1 ⟨x, H1, I1, r1, q1⟩ => ?_) (he _)
  obtain ⟨d, rfl, q⟩ := q1
  cases r1
  exact wpAny_truthy_bool ⟨H1, I1, q⟩
variable {tA tB' : TT} {rest : List Expr}
noncomputable def tAnd (t u : TT) : TT := fun σ H Q => t σ H fun c H1 => if c = true then u σ H1 Q else Q false H1
noncomputable def tOr (t u : TT) : TT := fun σ H Q => t σ H fun c H1 => if c = true then Q true H1 else u σ H1 Q
noncomputable def tNot (t : TT) : TT := fun σ H Q => t σ H fun c H1 => Q (!c) H1
theorem pw_and1 (ha : PT X a tA) : PW X (.BoolOp .And [a] pos) tA := by
  intro wh pins s σ H Q I h
  refine isTrue_and (thn (ha pins s σ H Q I h) fun c s1 e => ?_)
  cases c with
  | true => exact isTrue_and_nil e
  | false => exact e
theorem pw_or1 (ha : PT X a tA) : PW X (.BoolOp .Or [a] pos) tA := by
  intro wh pins s σ H Q I h
  refine isTrue_or (thn (ha pins s σ H Q I h) fun c s1 e => ?_)
  cases c with
  | false => exact isTrue_or_nil e
  | true => exact e
theorem pw_and (ha : PT X a tA) (hb : PW X (.BoolOp .And (b :: rest) pos) tB') : PW X (.BoolOp .And (a :: b :: rest) pos) (tAnd tA tB') := by
  intro wh pins s σ H Q I h
  refine isTrue_and (thn (ha pins s σ H _ I h) fun c s1 ⟨H1, I1, q1⟩ => ?_)
  cases c with
  | true => exact hb wh pins s1 σ H1 Q I1 q1
  | false => exact ⟨H1, I1, q1⟩
theorem pw_or (ha : PT X a tA) (hb : PW X (.BoolOp .Or (b :: rest) pos) tB') : PW X (.BoolOp .Or (a :: b :: rest) pos) (tOr tA tB') := by
  intro wh pins s σ H Q I h
  refine isTrue_or (thn (ha pins s σ H _ I h) fun c s1 ⟨H1, I1, q1⟩ => ?_)
  cases c with
  | true => exact ⟨H1, I1, q1⟩
  | false => exact hb wh pins s1 σ H1 Q I1 q1
theorem pt_not (ha : PT X a tA) : PT X (.UnaryOp .Not a pos) (tNot tA) := by
  intro pins s σ H Q I h
  exact isTrue_not (ha pins s σ H (fun c H1 => Q (!c) H1) I h)
noncomputable def tAndV (ta tb : TE) : TE := fun σ H Q => ta σ H fun x H1 => ∃ c, x = .bl c ∧ if c = true then tb σ H1 Q else Q (.bl false) H1
noncomputable def tOrV (ta tb : TE) : TE := fun σ H Q => ta σ H fun x H1 => ∃ c, x = .bl c ∧ if c = true then Q (.bl true) H1 else tb σ H1 Q
noncomputable def tNotV (ta : TE) : TE := fun σ H Q => ta σ H fun x H1 => ∃ c, x = .bl c ∧ Q (.bl (!c)) H1
theorem pe_one {op} {t : TE} (h : PE X a t) : PE X (.BoolOp op [a] pos) t := fun pins s σ H Q I hw => BoolOp_one (h pins s σ H Q I hw)
theorem pe_and (ha : PE X a ta) (hb : PE X (.BoolOp .And (b :: rest) pos) tb) : PE X (.BoolOp .And (a :: b :: rest) pos) (tAndV ta tb) := by
  intro pins s σ H Q I h
  refine BoolOp_and (thn (ha pins s σ H _ I h) fun v s1 ⟨x, H1, I1, r1, q1⟩ => ?_)
  obtain ⟨c, rfl, q1⟩ := q1
  cases r1
  refine wpAny_truthy_bool ?_
  cases c with
  | true => exact hb pins s1 σ H1 Q I1 q1
  | false => exact ⟨.bl false, H1, I1, rfl, q1⟩
theorem pe_or (ha : PE X a ta) (hb : PE X (.BoolOp .Or (b :: rest) pos) tb) : PE X (.BoolOp .Or (a :: b :: rest) pos) (tOrV ta tb) := by
  intro pins s σ H Q I h
  refine BoolOp_or (thn (ha pins s σ H _ I h) fun v s1 ⟨x, H1, I1, r1, q1⟩ => ?_)
  obtain ⟨c, rfl, q1⟩ := q1
  cases r1
  refine wpAny_truthy_bool ?_
  cases c with
  | false => exact hb pins s1 σ H1 Q I1 q1
  | true => exact ⟨.bl true, H1, I1, rfl, q1⟩
theorem pe_not (ha : PE X a ta) : PE X (.UnaryOp .Not a pos) (tNotV ta) := by
  intro pins s σ H Q I h
  refine UnaryOp_ (thn (ha pins s σ H _ I h) fun v s1 ⟨x, H1, I1, r1, q1⟩ => ?_)
  obtain ⟨c, rfl, q1⟩ := q1
  cases r1
  exact not_of (wpAny_truthy_bool ⟨.bl (!c), H1, I1, rfl, q1⟩)
noncomputable def tIf (t : TT) (ta tb : TE) : TE := fun σ H Q => t σ H fun c H1 => if c = true then ta σ H1 Q else tb σ H1 Q
theorem pe_ifExp {c : Expr} (hc : PT X c tA) (ha : PE X a ta) (hb : PE X b tb) : PE X (.IfExp c a b pos) (tIf tA ta tb) := by
  intro pins s σ H Q I h
  refine wpAny_IfExp (thn (hc pins s σ H _ I h) fun d s1 ⟨H1, I1, q1⟩ => ?_)
  cases d with
  | true => exact ha pins s1 σ H1 Q I1 q1
  | false => exact hb pins s1 σ H1 Q I1 q1
end
end L2
namespace L2
open PySem PySem.Spec PyProof.Rows
noncomputable def SqL (K : PySem.W.Frag) (H : Hp) (a : Addr) (xs : List V) : Prop :=
  Rd H a (.lst xs) ∨
    ∃ (o : Obj) (its : Array Value) (n : Nat), K.lookup a = some o ∧ o.cls = .type "list" ∧ o.dict = none ∧ o.data = .seq its n ∧ its.size ≤ sizeLine ∧ Vals xs its.toList
noncomputable def SqT (K : PySem.W.Frag) (H : Hp) (a : Addr) (xs : List V) : Prop :=
  Rd H a (.tup xs) ∨
    ∃ (o : Obj) (its : Array Value) (n : Nat), K.lookup a = some o ∧ o.cls = .type "tuple" ∧ o.data = .seq its n ∧ its.size ≤ sizeLine ∧ Vals xs its.toList
noncomputable def absV : Value → Option V
  | .none => some .non
  | .bool b => some (.bl b)
  | .int i _ => some (.int i)
  | .str x _ => some (.str x)
  | .bytes b _ => some (.byt b)
  | .float b _ => some (.flt b)
  | .ref a => some (.ref a)
  | .type n => some (.ty n)
  | _ => none
theorem RelV.abs {x : V} {u : Value} (r : RelV x u) : absV u = some x := by
  cases x with
  | non => cases r; rfl
  | bl _ => cases r; rfl
  | int _ => obtain ⟨t, rfl⟩ := r; rfl
  | str _ => obtain ⟨t, rfl⟩ := r; rfl
  | byt _ => obtain ⟨t, rfl⟩ := r; rfl
  | flt _ => obtain ⟨t, rfl⟩ := r; rfl
  | ref _ => cases r; rfl
  | ty _ => cases r; rfl
theorem RelV.inj {x y : V} {u : Value} (r : RelV x u) (q : RelV y u) : x = y := Option.some.inj (r.abs.symm.trans q.abs)
theorem Vals.inj : ∀ {xs ys : List V} {us : List Value}, Vals xs us → Vals ys us → xs = ys
  | _, _, _, .nil, .nil => rfl
  | _, _, _, .cons r t, .cons r' t' => by rw [r.inj r', Vals.inj t t']
section
variable {X : Cx} {pins : List (Addr × Obj)} {σ : St} {H : Hp} {s : Shared} {a : Addr} {xs ys : List V}
theorem SqL.of {K : PySem.W.Frag} (h : H a = some (.lst xs)) : SqL K H a xs := .inl (.inl h)
theorem SqT.of {K : PySem.W.Frag} (h : H a = some (.tup xs)) : SqT K H a xs := .inl (.inl h)
theorem Inv.list (I : Inv X pins σ H s) (h : SqL X.K H a xs) : ∃ its : List Value, Vals xs its ∧ PlainL s.heap a its.toArray ∧ xs.length ≤ sizeLine := by
  rcases h with h | ⟨o, its, n, hk, hc, hd, hs, hz, r⟩
  · obtain ⟨z, its, n, r, e⟩ := h.ok I.hok
    exact ⟨its, r, ⟨_, n, e, rfl, rfl, rfl⟩, z⟩
  · refine ⟨its.toList, r, ⟨o, n, I.kIn a o hk, hc, hd, by simpa using hs⟩, ?_⟩
    have e := r.length
    simp only [Array.length_toList] at e
    omega
theorem Inv.tuple (I : Inv X pins σ H s) (h : SqT X.K H a xs) : ∃ its : List Value, Vals xs its ∧ IsTup s.heap a its.toArray ∧ xs.length ≤ sizeLine := by
  rcases h with h | ⟨o, its, n, hk, hc, hs, hz, r⟩
  · obtain ⟨z, its, r, p⟩ := h.ok I.hok
    exact ⟨its, r, p, z⟩
  · refine ⟨its.toList, r, ⟨o, I.kIn a o hk, hc, n, by simpa using hs⟩, ?_⟩
    have e := r.length
    simp only [Array.length_toList] at e
    omega
theorem Inv.list_inj (I : Inv X pins σ H s) (h : SqL X.K H a xs) (h' : SqL X.K H a ys) : xs = ys := by
  obtain ⟨its, r, ⟨o, n, e, _, _, d⟩, _⟩ := I.list h
  obtain ⟨its', r', ⟨o', n', e', _, _, d'⟩, _⟩ := I.list h'
  rw [e] at e'; cases e'
  rw [d] at d'
  injection d' with d1 _
  have : its = its' := by simpa using congrArg Array.toList d1
  subst this
  exact r.inj r'
theorem Inv.tuple_inj (I : Inv X pins σ H s) (h : SqT X.K H a xs) (h' : SqT X.K H a ys) : xs = ys := by
  obtain ⟨its, r, ⟨o, e, _, n, d⟩, _⟩ := I.tuple h
  obtain ⟨its', r', ⟨o', e', _, n', d'⟩, _⟩ := I.tuple h'
  rw [e] at e'; cases e'
  rw [d] at d'
  injection d' with d1 _
  have : its = its' := by simpa using congrArg Array.toList d1
  subst this
  exact r.inj r'
end
noncomputable abbrev Cx.wish (X : Cx) (E : Value → Shared → Prop) : Cx := { X with xe := E }
noncomputable abbrev Cx.nox (X : Cx) : Cx := X.wish fun _ _ => False
theorem Cx.Ok.wish {X : Cx} (ok : X.Ok) (E : Value → Shared → Prop) : (X.wish E).Ok :=
  ⟨ok.mod, ok.kind, ok.glob, ok.blt, ok.above, ok.inj, ok.has, ok.cab, ok.hd, ok.frames, ok.stk, ok.exf, ok.bs, ok.bsz, ok.noex, ok.exfs, ok.funs, ok.frf⟩
theorem Cx.Ok.unwish {X : Cx} {E : Value → Shared → Prop} (ok : (X.wish E).Ok) : X.Ok :=
  ⟨ok.mod, ok.kind, ok.glob, ok.blt, ok.above, ok.inj, ok.has, ok.cab, ok.hd, ok.frames, ok.stk, ok.exf, ok.bs, ok.bsz, ok.noex, ok.exfs, ok.funs, ok.frf⟩
section
variable {X : Cx} {pins : List (Addr × Obj)} {σ : St} {H : Hp} {s : Shared} {E : Value → Shared → Prop}
theorem Inv.wish (I : Inv X pins σ H s) (E : Value → Shared → Prop) : Inv (X.wish E) pins σ H s := ⟨I.ok.wish E, I.os, I.bare, I.base, I.loc, I.cell, I.free, I.freeC, I.pin, I.hok, I.len⟩
theorem Inv.unwish (I : Inv (X.wish E) pins σ H s) : Inv X pins σ H s := ⟨I.ok.unwish, I.os, I.bare, I.base, I.loc, I.cell, I.free, I.freeC, I.pin, I.hok, I.len⟩
theorem SP.unwish {D : Ends} {f : Flow} {s' : Shared} (h : SP (X.wish E) pins D f s') : SP X pins D f s' := by
  cases f with
  | next => obtain ⟨σ', H', I, q⟩ := h; exact ⟨σ', H', I.unwish, q⟩
  | brk => obtain ⟨σ', H', I, q⟩ := h; exact ⟨σ', H', I.unwish, q⟩
  | cont => obtain ⟨σ', H', I, q⟩ := h; exact ⟨σ', H', I.unwish, q⟩
  | ret u => obtain ⟨v, σ', H', I, r, q⟩ := h; exact ⟨v, σ', H', I.unwish, r, q⟩
end
section
variable {X : Cx} {st : Stmt} {rest : List Stmt} {t u : TS} {e : Expr} {te : TE} {pos : Pos}
noncomputable def tNext : TS := fun D σ H => D.nx σ H
noncomputable def tSeq (t u : TS) : TS := fun D σ H => t { D with nx := u D } σ H
theorem pss_nil : PSs X [] tNext := fun _ _ σ H _ I h => wpAny_execs_nil ⟨σ, H, I, h⟩
theorem pss_cons (h1 : PS X st t) (h2 : PSs X rest u) : PSs X (st :: rest) (tSeq t u) := by
  intro pins s σ H D I h
  refine wpAny_execs_cons (thn (h1 pins s σ H { D with nx := u D } I h) fun f s1 q => ?_)
  cases f with
  | next =>
    obtain ⟨σ', H', I', q⟩ := q
    exact h2 pins s1 σ' H' D I' q
  | ret v => exact q
  | brk => exact q
  | cont => exact q
noncomputable def tBreak : TS := fun D σ H => D.bk σ H
noncomputable def tCont : TS := fun D σ H => D.ct σ H
theorem ps_pass : PS X (.Pass pos) tNext := fun _ _ σ H _ I h => wpAny_Pass ⟨σ, H, I, h⟩
theorem ps_break : PS X (.Break pos) tBreak := fun _ _ σ H _ I h => wpAny_Break ⟨σ, H, I, h⟩
theorem ps_continue : PS X (.Continue pos) tCont := fun _ _ σ H _ I h => wpAny_Continue ⟨σ, H, I, h⟩
theorem Inv.quiet {pins : List (Addr × Obj)} {σ : St} {H : Hp} {s : Shared} (I : Inv X pins σ H s) : interactive X.env = false := by simp [interactive, I.ok.kind]
noncomputable def tDrop (te : TE) : TS := fun D σ H => te σ H fun _ H1 => D.nx σ H1
theorem ps_expr (he : PE X e te) (hs : swapsWith e none pos.line X.env = pure false := by rfl) : PS X (.Expr e pos) (tDrop te) := by
  intro pins s σ H D I h
  exact wpAny_Expr_any (thn (he pins s σ H _ I h) fun v s1 ⟨x, H1, I1, r1, q1⟩ => ⟨σ, H1, I1, q1⟩) I.quiet hs
noncomputable def tRet (te : TE) : TS := fun D σ H => te σ H D.rt
theorem ps_ret (he : PE X e te) : PS X (.Return (some e) pos) (tRet te) := by
  intro pins s σ H D I h
  exact wpAny_Return_some (thn (he pins s σ H _ I h) fun v s1 ⟨x, H1, I1, r1, q1⟩ => ⟨x, σ, H1, I1, r1, q1⟩)
noncomputable def tIfS (c : TT) (t u : TS) : TS := fun D σ H => c σ H fun b H1 => if b = true then t D σ H1 else u D σ H1
theorem ps_if {c : Expr} {a b : List Stmt} {tc : TT} (hc : PT X c tc) (ha : PSs X a t) (hb : PSs X b u) : PS X (.If c a b pos) (tIfS tc t u) := by
  intro pins s σ H D I h
  refine wpAny_If (thn (hc pins s σ H _ I h) fun d s1 ⟨H1, I1, q1⟩ => ?_)
  cases d with
  | true => exact ha pins s1 σ H1 D I1 q1
  | false => exact hb pins s1 σ H1 D I1 q1
end
noncomputable abbrev TG := V → St → Hp → (St → Hp → Prop) → Prop
noncomputable abbrev TGs := List V → St → Hp → (St → Hp → Prop) → Prop
noncomputable def PG (X : Cx) (target : Expr) (t : TG) : Prop :=
  ∀ (pins : List (Addr × Obj)) (s : Shared) (σ : St) (H : Hp) (v : V) (u : Value) (Q : St → Hp → Prop), Inv X pins σ H s → RelV v u → t v σ H Q →
    wpAny (model X.prog X.w) X.A (assign target X.env u) (fun _ s' => ∃ σ' H', Inv X pins σ' H' s' ∧ Q σ' H') X.xe s
noncomputable def PGs (X : Cx) (ts : List Expr) (t : TGs) : Prop :=
  ∀ (pins : List (Addr × Obj)) (s : Shared) (σ : St) (H : Hp) (vs : List V) (us : List Value) (Q : St → Hp → Prop), Inv X pins σ H s → Vals vs us → t vs σ H Q →
    wpAny (model X.prog X.w) X.A (assignInOrder ((assignEach ts X.env).map (·.2)) us) (fun _ s' => ∃ σ' H', Inv X pins σ' H' s' ∧ Q σ' H') X.xe s
noncomputable abbrev TSet := V → V → V → Hp → (Hp → Prop) → Prop
noncomputable def PSet (X : Cx) (t : TSet) : Prop :=
  ∀ (pins : List (Addr × Obj)) (s : Shared) (σ : St) (H : Hp) (o i v : V) (ov iv u : Value) (Q : Hp → Prop), Inv X pins σ H s → RelV o ov → RelV i iv → RelV v u → t o i v H Q →
    wpAny (model X.prog X.w) X.A (setItem ov iv u) (fun _ s' => ∃ H', Inv X pins σ H' s' ∧ Q H') X.xe s
section
variable {X : Cx} {pos : Pos}
noncomputable def gName (i : Nat) : TG := fun v σ H Q => Q (σ.set i (some v)) H
theorem pg_name {i : Nat} {x : Str} (hN : X.N.Nodup) (hi : X.N[i]? = some x) (hx : Loc X.env.scope x) (hf : X.fn x = true ∨ X.env.scope.names.lookup x = some .local := by first | exact .inl rfl | exact .inr rfl | assumption) : PG X (.Name x pos) (gName i) := by
  intro pins s σ H v u Q I r h
  exact wpAny_assign_Name (store_ok I hN hi hx r (fun s' I' => ⟨_, H, I', h⟩) hf)
noncomputable def gNil : TGs := fun vs σ H Q => vs = [] ∧ Q σ H
noncomputable def gCons (t : TG) (u : TGs) : TGs := fun vs σ H Q => ∃ v r, vs = v :: r ∧ t v σ H fun σ' H' => u r σ' H' Q
theorem pgs_nil : PGs X [] gNil := by
  intro pins s σ H vs us Q I r h
  obtain ⟨e, h⟩ := h
  subst e
  cases r
  exact assignInOrder_nil ⟨σ, H, I, h⟩
theorem pgs_cons {e : Expr} {es : List Expr} {t : TG} {u : TGs} (h1 : PG X e t) (h2 : PGs X es u)
    (hs : (assignEach (e :: es) X.env).map (·.2) = assign e X.env :: (assignEach es X.env).map (·.2) := by rfl) : PGs X (e :: es) (gCons t u) := by
  intro pins s σ H vs us Q I r h
  obtain ⟨v, vr, e1, h⟩ := h
  subst e1
  cases r with
  | cons r rr =>
    rw [hs]
    refine assignInOrder_cons (thn (h1 pins s σ H _ _ _ I r h) fun _ s1 ⟨σ1, H1, I1, q1⟩ => ?_)
    exact h2 pins s1 σ1 H1 _ _ Q I1 rr q1
noncomputable def gTup (K : PySem.W.Frag) (n : Nat) (t : TGs) : TG := fun v σ H Q => ∃ a xs, v = .ref a ∧ SqT K H a xs ∧ xs.length = n ∧ t xs σ H Q
theorem pg_tup {es : List Expr} {k : Nat} {t : TGs} {n : Nat} (hc : X.calm = true) (h : PGs X es t)
    (hn : (assignEach es X.env).length = n := by rfl) (hst : (assignEach es X.env).findIdx? (·.1) = none := by rfl) : PG X (.Tuple es k pos) (gTup X.K n t) := by
  intro pins s σ H v u Q I r hw
  obtain ⟨a, xs, e1, hq, hl, hw⟩ := hw
  subst e1
  cases r
  obtain ⟨its, rv, ht, hz⟩ := I.tuple hq
  refine assign_Tuple_tuple (I.ok.hd hc) ht (by simp [hn, ← hl, rv.length]) hst fun h' hx => ?_
  have I1 : Inv X pins σ H { s with heap := h' } := I.kept (t' := s.toks) fun b o e => hx b o (Nat.ne_of_lt (Heap.lt_size e)) e
  exact h pins _ σ H xs _ Q I1 (by simpa using rv) hw
noncomputable def gSub (to ti : TE) (t : TSet) : TG := fun v σ H Q => to σ H fun o H1 => ti σ H1 fun i H2 => t o i v H2 fun H3 => Q σ H3
theorem pg_sub {o i : Expr} {to ti : TE} {t : TSet} (ho : PE X o to) (hi : PE X i ti) (hs : PSet X t)
    (ha : ∀ v, assign (.Subscript o i pos) X.env v = (do
      let ov ← holding [v] (eval o X.env)
      let iv ← holding [v, ov] (eval i X.env)
      standAt pos
      holding [v, ov, iv] (setItem ov iv v)
      release [v, ov, iv] []) := by intro _; rfl) : PG X (.Subscript o i pos) (gSub to ti t) := by
  intro pins s σ H v u Q I r h
  rw [ha]
  refine wpAny_bind (wpAny_holding (thn (ho pins s σ H _ I h) fun ov s1 ⟨x, H1, I1, r1, q1⟩ => ?_))
  refine wpAny_bind (wpAny_holding (thn (hi pins s1 σ H1 _ I1 q1) fun iv s2 ⟨y, H2, I2, r2, q2⟩ => ?_))
  refine wpAny_bind (wpAny_standAt (wpAny_bind (wpAny_holding (thn (hs pins s2 σ H2 x y v ov iv u _ I2 r1 r2 r q2) fun _ s3 ⟨H3, I3, q3⟩ => ?_))))
  exact wpAny_release ⟨σ, H3, I3, q3⟩
noncomputable def tAsg (te : TE) (g : TG) : TS := fun D σ H => te σ H fun x H1 => g x σ H1 D.nx
theorem ps_asg {tg e : Expr} {te : TE} {g : TG} (he : PE X e te) (hg : PG X tg g) (hs : swapsWithSole [tg] e pos.line X.env = pure false := by rfl) (hw : swappedStores [tg] e X.env = pure none := by rfl)
    (h1 : (assignEach [tg] X.env).map (·.2) = [assign tg X.env] := by rfl) : PS X (.Assign [tg] e pos) (tAsg te g) := by
  intro pins s σ H D I h
  refine wpAny_Assign_stores (thn (he pins s σ H _ I h) fun v s1 ⟨x, H1, I1, r1, q1⟩ => ?_) hs hw
  rw [h1]
  exact thn (hg pins s1 σ H1 x v _ I1 r1 q1) fun _ s2 q => q
theorem ps_set {i : Nat} {x : Str} {e : Expr} {te : TE} {pos' : Pos} (hN : X.N.Nodup) (hi : X.N[i]? = some x) (hx : Loc X.env.scope x) (he : PE X e te) (hs : swapsWith e (some (.Name x pos')) pos.line X.env = pure false := by rfl) (hf : X.fn x = true ∨ X.env.scope.names.lookup x = some .local := by first | exact .inl rfl | exact .inr rfl | assumption) :
    PS X (.Assign [.Name x pos'] e pos) (tAsg te (gName i)) := by
  intro pins s σ H D I h
  refine wpAny_Assign_Name (thn (he pins s σ H _ I h) fun v s1 ⟨y, H1, I1, r1, q1⟩ => ?_) hs
  exact store_ok I1 hN hi hx r1 (fun s2 I2 => ⟨_, H1, I2, q1⟩) hf
end
section
variable {X : Cx} {pos : Pos}
noncomputable def tWhile (c : TT) (tb : TS) : TS := fun D σ H => ∃ W : Nat → St → Hp → Prop, (∃ m, W m σ H) ∧ ∀ m σ H, W m σ H →
  c σ H fun b H1 => if b = true then ∃ N : St → Hp → Prop, (∀ σ' H', N σ' H' → ∃ m', m' < m ∧ W m' σ' H') ∧ tb { D with nx := N, ct := N, bk := D.nx } σ H1 else D.nx σ H1
theorem ps_while {c : Expr} {body : List Stmt} {tc : TT} {tb : TS} (hp : PassesOwn (model X.prog X.w) X.A X.env X.xe) (hc : PT X c tc) (hb : PSs X body tb) : PS X (.While c body [] pos) (tWhile tc tb) := by
  intro pins s σ H D I h
  obtain ⟨W, ⟨m0, w0⟩, turn⟩ := h
  refine wpAny_While (codeAny_whileLoop (fun n s' => ∃ σ' H', Inv X pins σ' H' s' ∧ W n σ' H') ?_ m0 ⟨σ, H, I, w0⟩)
  rintro n s1 ⟨σ1, H1, I1, w1⟩
  refine wpAny_passesOwn hp (thn (hc pins s1 σ1 H1 _ I1 (turn n σ1 H1 w1)) fun b s2 ⟨H2, I2, q2⟩ => ?_)
  cases b with
  | true =>
    obtain ⟨N, hN, q2⟩ := q2
    rw [if_pos rfl]
    refine wpAny_passesOwn hp (thn (hb pins s2 σ1 H2 _ I2 q2) fun f s3 q3 => ?_)
    cases f with
    | next =>
      obtain ⟨σ3, H3, I3, n3⟩ := q3
      obtain ⟨m', hm, w3⟩ := hN σ3 H3 n3
      exact ⟨m', hm, σ3, H3, I3, w3⟩
    | cont =>
      obtain ⟨σ3, H3, I3, n3⟩ := q3
      obtain ⟨m', hm, w3⟩ := hN σ3 H3 n3
      exact ⟨m', hm, σ3, H3, I3, w3⟩
    | brk => exact q3
    | ret v => exact q3
  | false =>
    rw [if_neg Bool.false_ne_true]
    exact wpAny_execs_nil ⟨σ1, H2, I2, q2⟩
end
structure It where
  go : Nat → Hp → Prop
  yld : Nat → Hp → V → Hp → Prop
  stop : Nat → Hp → Prop
noncomputable def FpOk (X : Cx) (pins : List (Addr × Obj)) (H : Hp) (b : Addr) : Prop :=
  H b = none ∧ b ≠ X.env.locals ∧ b ∉ X.fs ∧ (b ∈ X.ex ∨ X.s₀.heap.objs.size ≤ b) ∧ (∀ x c, X.env.cells.lookup x = some c → c ≠ b) ∧ ∀ p ∈ X.pn ++ pins, p.1 ≠ b
theorem Inv.fpOk {X : Cx} {pins : List (Addr × Obj)} {σ : St} {H H' : Hp} {s : Shared} {b : Addr} (I : Inv X pins σ H s) (hb : s.heap.objs.size ≤ b) (hn : H' b = none) : FpOk X pins H' b := by
  refine ⟨hn, Nat.ne_of_gt (Nat.lt_of_lt_of_le I.lt hb), I.nofs hb, .inr (Nat.le_trans I.sz hb), fun x c e z => ?_, fun p hp z => ?_⟩
  · obtain ⟨v, q⟩ := I.cell x c e
    exact absurd (Nat.lt_of_lt_of_le q.lt (by rw [z]; exact hb)) (Nat.lt_irrefl _)
  · exact absurd (Nat.lt_of_lt_of_le (Heap.lt_size (I.pin p hp).1) (by rw [z]; exact hb)) (Nat.lt_irrefl _)
structure Turn (P : Program) (w : World) (K : PySem.W.Frag) (tg : Expr) (J : It) (fp : List Addr) (it : Addr) (tn : Nat → Heap → Prop) : Prop where
  mem : it ∈ fp
  obj : ∀ i h, tn i h → ∀ b ∈ fp, ∃ o, h.get? b = some o ∧ ∀ v, o.data ≠ .cell v
  keep : ∀ i h h', tn i h → (∀ b ∈ fp, ∀ o, h.get? b = some o → h'.get? b = some o) → tn i h'
  item : ∀ (X : Cx), X.prog = P → X.w = w → X.K = K → X.calm = true → ∀ (i : Nat) (pins : List (Addr × Obj)) (s : Shared) (σ : St) (H : Hp) (E : Value → Shared → Prop), Inv X pins σ H s → (∀ b ∈ fp, FpOk X pins H b) → tn i s.heap → J.go i H →
    wpAny (model P w) X.A (pyNext (.ref it)) (fun r s1 => ∃ u, r = some u ∧
      wpAny (model P w) X.A (letOwnedTupleGo tg (.ref it) u) (fun _ s2 => ∃ x H', Inv X pins σ H' s2 ∧ RelV x u ∧ J.yld i H x H' ∧ tn (i + 1) s2.heap ∧ ∀ b ∈ fp, H' b = none) E s1) E s
  done : ∀ (X : Cx), X.prog = P → X.w = w → X.K = K → X.calm = true → ∀ (i : Nat) (pins : List (Addr × Obj)) (s : Shared) (σ : St) (H : Hp) (E : Value → Shared → Prop), Inv X pins σ H s → (∀ b ∈ fp, FpOk X pins H b) → tn i s.heap → J.stop i H →
    wpAny (model P w) X.A (pyNext (.ref it)) (fun r s1 => r = none ∧ Inv X pins σ H s1) E s
  self : ∀ (A : Around) (i : Nat) (s : Shared) (Q : Value → Shared → Prop) (E : Value → Shared → Prop), tn i s.heap → Q (.ref it) s → wpAny (model P w) A (pyIter (.ref it)) Q E s
noncomputable abbrev TI := St → Hp → (It → Hp → Prop) → Prop
noncomputable def PIE (X : Cx) (pins : List (Addr × Obj)) (σ : St) (tg : Expr) (R : It → Hp → Prop) (itv : Value) (s2 : Shared) : Prop :=
  ∃ (it : Addr) (fp : List Addr) (tn : Nat → Heap → Prop) (J : It) (H' : Hp), itv = .ref it ∧ Inv X pins σ H' s2 ∧ Turn X.prog X.w X.K tg J fp it tn ∧ tn 0 s2.heap ∧ (∀ b ∈ fp, FpOk X pins H' b) ∧ R J H'
noncomputable def PI (X : Cx) (tg iter : Expr) (wi : TI) : Prop :=
  ∀ (pins : List (Addr × Obj)) (s : Shared) (σ : St) (H : Hp) (R : It → Hp → Prop), Inv X pins σ H s → wi σ H R →
    wpAny (model X.prog X.w) X.A (eval iter X.env) (fun v s1 => wpAny (model X.prog X.w) X.A (pyIter v) (PIE X pins σ tg R) X.xe s1) X.xe s
theorem go_of {M : Model} {A : Around} {E : Value → Shared → Prop} {s : Shared} {tg : Expr} {it : Addr} {u : Value} {o : Obj} {n : String} {vs : Array Value} {Q : Unit → Shared → Prop} (ho : s.heap.get? it = some o) (hc : o.cls = .type n) (hd : o.data = .fields vs)
    (hn : ["enumerate", "zip", "dict_itemiterator", "dict_reverseitemiterator", "odict_iterator", "itertools.zip_longest", "itertools.pairwise"].contains n = false) (hQ : Q () s) : wpAny M A (letOwnedTupleGo tg (.ref it) u) Q E s := by
  unfold letOwnedTupleGo
  cases tg <;> first
    | exact wpAny_pure hQ
    | (cases u <;> first
        | exact wpAny_pure hQ
        | (refine wpAny_bind (wpAny_load ho ?_)
           rw [hc, hd]
           show wpAny M A (if (["enumerate", "zip", "dict_itemiterator", "dict_reverseitemiterator", "odict_iterator", "itertools.zip_longest", "itertools.pairwise"].contains n && vs[0]? == some (rawInt _)) = true then _ else _) Q E s
           rw [if_neg (by intro h; rw [hn, Bool.false_and] at h; cases h)]
           exact wpAny_pure hQ))
noncomputable def Itl (K : PySem.W.Frag) (a : Addr) : It :=
  ⟨fun i H => ∃ xs x, SqL K H a xs ∧ xs[i]? = some x, fun i H x H' => H' = H ∧ ∀ xs, SqL K H a xs → xs[i]? = some x, fun i H => ∃ xs, SqL K H a xs ∧ xs.length ≤ i⟩
noncomputable def Itt (K : PySem.W.Frag) (a : Addr) : It :=
  ⟨fun i H => ∃ xs x, SqT K H a xs ∧ xs[i]? = some x, fun i H x H' => H' = H ∧ ∀ xs, SqT K H a xs → xs[i]? = some x, fun i H => ∃ xs, SqT K H a xs ∧ xs.length ≤ i⟩
noncomputable def Itr (lo : Int) (n : Nat) : It := ⟨fun i _ => i < n, fun i H x H' => H' = H ∧ x = .int (lo + i), fun i _ => n ≤ i⟩
theorem turn_list {P : Program} {w : World} {K : PySem.W.Frag} {tg : Expr} (a it : Addr) : Turn P w K tg (Itl K a) [it] it (fun i h => h.IsListIter it a i) where
  mem := by simp
  obj := fun i h st b hb => by
    have e : b = it := by simpa using hb
    subst e
    obtain ⟨o, e, c, d⟩ := st
    exact ⟨o, e, fun v z => by rw [d] at z; cases z⟩
  keep := fun i h h' st k => st.at fun o e => k it (by simp) o e
  item := by
    intro X hP hw hK hc i pins s σ H E I hf st hg
    subst hP hw hK
    obtain ⟨xs, x, hq, hx⟩ := hg
    obtain ⟨its, rv, p, hz⟩ := I.list hq
    obtain ⟨u, hu, ru⟩ := rv.get hx
    obtain ⟨f0, f1, f2, f3, f4, f5⟩ := hf it (by simp)
    refine wpAny_pyNext_list_item st p.isList (x := u) (by simpa using hu) fun h' st' sb => ?_
    have I1 : Inv X pins σ H { s with heap := h' } := I.turned (t' := s.toks) (fun b o hb e => (sb.2 b hb).trans e) f0 f1 f3 f4 f5
    obtain ⟨o, e, c, d⟩ := id st'
    exact ⟨u, rfl, go_of (s := { s with heap := h' }) e c d (by decide) ⟨x, H, I1, ru, ⟨rfl, fun ys hy => by rw [I.list_inj hy hq]; exact hx⟩, st', fun b hb => (hf b hb).1⟩⟩
  done := by
    intro X hP hw hK hc i pins s σ H E I hf st hg
    subst hP hw hK
    obtain ⟨xs, hq, hx⟩ := hg
    obtain ⟨its, rv, p, hz⟩ := I.list hq
    obtain ⟨f0, f1, f2, f3, f4, f5⟩ := hf it (by simp)
    have hl := rv.length
    exact wpAny_pyNext_list_end (I.ok.hd hc) st p.isList (by simp; omega) fun h' eb => ⟨rfl, I.turned (t' := s.toks) (fun b o hb e => eb b o hb e) f0 f1 f3 f4 f5⟩
  self := fun _ _ _ _ _ st h => wpAny_pyIter_listiter st h
theorem turn_tuple {P : Program} {w : World} {K : PySem.W.Frag} {tg : Expr} (a it : Addr) : Turn P w K tg (Itt K a) [it] it (fun i h => h.IsTupleIter it a i) where
  mem := by simp
  obj := fun i h st b hb => by
    have e : b = it := by simpa using hb
    subst e
    obtain ⟨o, e, c, d⟩ := st
    exact ⟨o, e, fun v z => by rw [d] at z; cases z⟩
  keep := fun i h h' st k => st.at fun o e => k it (by simp) o e
  item := by
    intro X hP hw hK hc i pins s σ H E I hf st hg
    subst hP hw hK
    obtain ⟨xs, x, hq, hx⟩ := hg
    obtain ⟨its, rv, p, hz⟩ := I.tuple hq
    obtain ⟨u, hu, ru⟩ := rv.get hx
    obtain ⟨f0, f1, f2, f3, f4, f5⟩ := hf it (by simp)
    refine wpAny_pyNext_tuple_item st (show s.heap.IsTuple a its.toArray from p) (x := u) (by simpa using hu) fun h' st' sb => ?_
    have I1 : Inv X pins σ H { s with heap := h' } := I.turned (t' := s.toks) (fun b o hb e => (sb.2 b hb).trans e) f0 f1 f3 f4 f5
    obtain ⟨o, e, c, d⟩ := id st'
    exact ⟨u, rfl, go_of (s := { s with heap := h' }) e c d (by decide) ⟨x, H, I1, ru, ⟨rfl, fun ys hy => by rw [I.tuple_inj hy hq]; exact hx⟩, st', fun b hb => (hf b hb).1⟩⟩
  done := by
    intro X hP hw hK hc i pins s σ H E I hf st hg
    subst hP hw hK
    obtain ⟨xs, hq, hx⟩ := hg
    obtain ⟨its, rv, p, hz⟩ := I.tuple hq
    obtain ⟨f0, f1, f2, f3, f4, f5⟩ := hf it (by simp)
    have hl := rv.length
    exact wpAny_pyNext_tuple_end (I.ok.hd hc) st (show s.heap.IsTuple a its.toArray from p) (by simp; omega) fun h' eb => ⟨rfl, I.turned (t' := s.toks) (fun b o hb e => eb b o hb e) f0 f1 f3 f4 f5⟩
  self := fun _ _ _ _ _ st h => wpAny_pyIter_tupleiter st h
theorem turn_range {P : Program} {w : World} {K : PySem.W.Frag} {tg : Expr} (it : Addr) (lo : Int) (n : Nat) : Turn P w K tg (Itr lo n) [it] it (fun i h => IsRangeIter h it (lo + (i : Nat) * 1) ((n : Int) - (i : Nat)) 1) where
  mem := by simp
  obj := fun i h st b hb => by
    have e : b = it := by simpa using hb
    subst e
    exact ⟨_, st, fun v z => by
      have z' : Data.fields _ = Data.cell v := z
      cases z'⟩
  keep := fun i h h' st k => k it (by simp) _ st
  item := by
    intro X hP hw hK hc i pins s σ H E I hf st hg
    subst hP hw hK
    obtain ⟨f0, f1, f2, f3, f4, f5⟩ := hf it (by simp)
    have W := Walks.range (prog := X.prog) (w := X.w) (I.ok.hd hc) it lo 1 n
    refine W.item i s _ _ hg st fun v h' tk hv st' kk => ?_
    obtain ⟨t, rfl⟩ := hv
    have I1 : Inv X pins σ H { s with heap := h', toks := tk } := I.turned (fun b o hb e => kk b o (by simpa using hb) e) f0 f1 f3 f4 f5
    refine ⟨_, rfl, go_of (s := { s with heap := h', toks := tk }) (n := "range_iterator") st' rfl rfl (by decide) ⟨.int (lo + i), H, I1, ⟨t, ?_⟩, ⟨rfl, rfl⟩, st', fun b hb => (hf b hb).1⟩⟩
    rw [Int.mul_one]
  done := by
    intro X hP hw hK hc i pins s σ H E I hf st hg
    subst hP hw hK
    obtain ⟨f0, f1, f2, f3, f4, f5⟩ := hf it (by simp)
    exact wpAny_pyNext_range_end (I.ok.hd hc) st (by have : n ≤ i := hg; omega) fun h' eb => ⟨rfl, I.turned (t' := s.toks) (fun b o hb e => eb b o hb e) f0 f1 f3 f4 f5⟩
  self := fun _ _ _ _ _ st h => wpAny_pyIter_rangeiter st h
end L2
namespace L2
open PySem PySem.Spec PyProof.Rows
section
variable {X : Cx} {tg : Expr}
noncomputable def iList (K : PySem.W.Frag) (tl : TE) : TI := fun σ H R => tl σ H fun x H1 => ∃ a, x = .ref a ∧ (∃ xs, SqL K H1 a xs) ∧ R (Itl K a) H1
theorem pi_list {l : Expr} {tl : TE} (hl : PE X l tl) : PI X tg l (iList X.K tl) := by
  intro pins s σ H R I h
  refine thn (hl pins s σ H _ I h) fun v s1 ⟨x, H1, I1, r1, q1⟩ => ?_
  obtain ⟨a, e, ⟨xs, hq⟩, q⟩ := q1
  subst e
  cases r1
  obtain ⟨its, rv, p, hz⟩ := I1.list hq
  refine wpAny_pyIter_list p.isList ?_
  refine ⟨s1.heap.objs.size, [s1.heap.objs.size], _, _, H1, rfl, I1.kept (t' := s1.toks) fun b o e => Heap.get?_push_of_some _ e, turn_list a _, ⟨_, Heap.get?_push_size _ rfl, rfl, rfl⟩, fun b hb => ?_, q⟩
  have e : b = s1.heap.objs.size := by simpa using hb
  subst e
  exact I1.fpOk (Nat.le_refl _) (I1.hok.fresh (Nat.le_refl _))
theorem range_it {pins : List (Addr × Obj)} {σ : St} {H : Hp} {s : Shared} {R : It → Hp → Prop} {E : Value → Shared → Prop} {lo hi : Int} {t u v : Tok} {tk : Nat} (I : Inv X pins σ H s) (h1 : -(2 ^ 62) ≤ lo) (h2 : lo < 2 ^ 62) (h3 : -(2 ^ 62) ≤ hi) (h4 : hi < 2 ^ 62)
    (q : R (Itr lo (hi - lo).toNat) H) : wpAny (model X.prog X.w) X.A (pyIter (.ref s.heap.objs.size)) (PIE X pins σ tg R) E { s with heap := s.heap.push { cls := .type "range", data := .fields #[.int lo t, .int hi u, .int 1 v] }, toks := tk } := by
  refine wpAny_pyIter_range (IsRange.new ..) (small_one h1 h2 h3 h4) ?_
  have I1 : Inv X pins σ H { s with heap := s.heap.push { cls := .type "range", data := .fields #[.int lo t, .int hi u, .int 1 v] }, toks := tk } := I.kept fun b o e => Heap.get?_push_of_some _ e
  refine ⟨(s.heap.push { cls := .type "range", data := .fields #[.int lo t, .int hi u, .int 1 v] }).objs.size, [(s.heap.push { cls := .type "range", data := .fields #[.int lo t, .int hi u, .int 1 v] }).objs.size], _, _, H, rfl,
    I1.kept (t' := tk) fun b o e => Heap.get?_push_of_some _ e, turn_range _ lo (hi - lo).toNat, ?_, fun b hb => ?_, q⟩
  · have e1 : lo + ((0 : Nat) : Int) * 1 = lo := by simp
    have e2 : (((hi - lo).toNat : Nat) : Int) - ((0 : Nat) : Int) = Builtin.Range.rangeSize lo hi 1 := by rw [rangeSize_one]; split <;> omega
    show IsRangeIter _ _ (lo + ((0 : Nat) : Int) * 1) ((((hi - lo).toNat : Nat) : Int) - ((0 : Nat) : Int)) 1
    rw [e1, e2]
    exact Heap.get?_push_size _ rfl
  · have e : b = (s.heap.push { cls := .type "range", data := .fields #[.int lo t, .int hi u, .int 1 v] }).objs.size := by simpa using hb
    subst e
    exact I1.fpOk (Nat.le_refl _) (I1.hok.fresh (Nat.le_refl _))
noncomputable def iRng1 (ta : TA) : TI := fun σ H R => ta σ H fun vs H1 => ∃ j : Int, vs = [.int j] ∧ -(2 ^ 62) ≤ j ∧ j < 2 ^ 62 ∧ R (Itr 0 j.toNat) H1
noncomputable def iRng2 (ta : TA) : TI := fun σ H R => ta σ H fun vs H1 => ∃ i j : Int, vs = [.int i, .int j] ∧ (-(2 ^ 62) ≤ i ∧ i < 2 ^ 62 ∧ -(2 ^ 62) ≤ j ∧ j < 2 ^ 62) ∧ R (Itr i (j - i).toNat) H1
theorem pi_range1 {a : Expr} {ta : TA} {p pos : Pos} (hg : Gl X "range") (hm : X.mg "range" = none) (ha : PA X [a] ta) (hs : starEach [a] X.env = [(false, eval a X.env)] := by rfl) : PI X tg (.Call (.Name "range" p) [a] [] pos) (iRng1 ta) := by
  intro pins s σ H R I h
  refine Call_ (ld_blt I hg hm boot_range (PyProof.Rows.callWith_type1 (thn (ha pos pins s σ H _ I h) fun us s1 ⟨vs, H1, I1, r1, q1⟩ => ?_) hs rfl))
  obtain ⟨j, e, q1, q2, q⟩ := q1
  subst e
  cases r1 with
  | cons r rr =>
    cases rr
    obtain ⟨t, rfl⟩ := r
    exact call_range_1 (range_it I1 (by omega) (by omega) q1 q2 (by simpa using q))
theorem pi_range2 {a b : Expr} {ta : TA} {p pos : Pos} (hg : Gl X "range") (hm : X.mg "range" = none) (ha : PA X [a, b] ta) (hs : starEach [a, b] X.env = [(false, eval a X.env), (false, eval b X.env)] := by rfl) (hs2 : starEach [b] X.env = [(false, eval b X.env)] := by rfl) :
    PI X tg (.Call (.Name "range" p) [a, b] [] pos) (iRng2 ta) := by
  intro pins s σ H R I h
  refine Call_ (ld_blt I hg hm boot_range (PyProof.Rows.callWith_type1 (thn (ha pos pins s σ H _ I h) fun us s1 ⟨vs, H1, I1, r1, q1⟩ => ?_) (by rw [hs, hs2]) (by rw [hs2]; rfl)))
  obtain ⟨i, j, e, ⟨q1, q2, q3, q4⟩, q⟩ := q1
  subst e
  cases r1 with
  | cons r rr =>
    cases rr with
    | cons r' rr =>
      cases rr
      obtain ⟨t, rfl⟩ := r
      obtain ⟨t', rfl⟩ := r'
      exact call_range_2 (range_it I1 q1 q2 q3 q4 q)
noncomputable def tFor (wi : TI) (g : TG) (tb : TS) : TS := fun D σ H => wi σ H fun J H1 => ∃ W : Nat → Nat → St → Hp → Prop, (∃ m, W 0 m σ H1) ∧ ∀ i m σ H, W i m σ H →
  (J.stop i H ∧ D.nx σ H) ∨ (J.go i H ∧ ∃ N : St → Hp → Prop, (∀ σ' H', N σ' H' → ∃ m', m' < m ∧ W (i + 1) m' σ' H') ∧ ∀ x H', J.yld i H x H' → g x σ H' fun σ2 H2 => tb { D with nx := N, ct := N, bk := D.nx } σ2 H2)
noncomputable def pinsAt (fp : List Addr) (h : Heap) : List (Addr × Obj) := fp.filterMap fun b => (h.get? b).map fun o => (b, o)
theorem mem_pinsAt {fp : List Addr} {h : Heap} {b : Addr} {o : Obj} (hb : b ∈ fp) (e : h.get? b = some o) : (b, o) ∈ pinsAt fp h := List.mem_filterMap.mpr ⟨b, hb, by rw [e]; rfl⟩
theorem of_pinsAt {fp : List Addr} {h : Heap} {p : Addr × Obj} (hp : p ∈ pinsAt fp h) : p.1 ∈ fp ∧ h.get? p.1 = some p.2 := by
  obtain ⟨b, hb, e⟩ := List.mem_filterMap.mp hp
  cases q : h.get? b with
  | none => rw [q] at e; cases e
  | some o =>
    rw [q] at e
    have e' : (b, o) = p := Option.some.inj e
    subst e'
    exact ⟨hb, q⟩
theorem Inv.pinned {pins : List (Addr × Obj)} {σ : St} {H : Hp} {s : Shared} {fp : List Addr} (I : Inv X pins σ H s) (hf : ∀ b ∈ fp, FpOk X pins H b) (ho : ∀ b ∈ fp, ∃ o, s.heap.get? b = some o ∧ ∀ v, o.data ≠ .cell v) : Inv X (pins ++ pinsAt fp s.heap) σ H s :=
  I.pins_of fun p hp => (List.mem_append.mp hp).elim (fun z => I.pin p (List.mem_append_right _ z)) fun z => by
    obtain ⟨hb, e⟩ := of_pinsAt z
    obtain ⟨f0, f1, f2, _⟩ := hf p.1 hb
    obtain ⟨o, e', d⟩ := ho p.1 hb
    rw [e] at e'; cases e'
    exact ⟨e, f0, f1, f2, d⟩
theorem Inv.unpinned {pins pl : List (Addr × Obj)} {σ : St} {H : Hp} {s : Shared} (I : Inv X (pins ++ pl) σ H s) : Inv X pins σ H s := I.pins_of fun p hp => I.pin p (List.mem_append_right _ (List.mem_append_left _ hp))
theorem ps_for {iter : Expr} {body : List Stmt} {wi : TI} {g : TG} {tb : TS} {pos : Pos} (hp : PassesOwn (model X.prog X.w) X.A X.env X.xe) (hc : X.calm = true) (hi : PI X tg iter wi) (hg : PG X tg g) (hb : PSs X body tb)
    (hs : ∀ x, foldedSetIterable iter X.env x = pure x := by intro _; rfl) : PS X (.For tg iter body [] pos) (tFor wi g tb) := by
  intro pins s σ H D I h
  refine wpAny_For (thn (hi pins s σ H _ I h) fun v s1 h1 => thn h1 fun itv s2 h2 => ?_) hs
  obtain ⟨it, fp, tn, J, H2, e, I2, T, st2, f2, W, ⟨m0, w0⟩, turn⟩ := h2
  subst e
  have stat : ∀ {H' : Hp}, (∀ b ∈ fp, H' b = none) → ∀ b ∈ fp, FpOk X pins H' b := fun hn b hb => ⟨hn b hb, (f2 b hb).2⟩
  refine codeAny_forLoop_any (fun n s' => ∃ i σ' H', Inv X pins σ' H' s' ∧ tn i s'.heap ∧ (∀ b ∈ fp, H' b = none) ∧ W i n σ' H') ?_ m0 ⟨0, σ, H2, I2, st2, fun b hb => (f2 b hb).1, w0⟩
  rintro n s3 ⟨i, σ3, H3, I3, st3, fr3, w3⟩
  rcases turn i n σ3 H3 w3 with ⟨stop, qn⟩ | ⟨go, N, hN, step⟩
  · refine wpAny_passesOwn hp (thn (T.done X rfl rfl rfl hc i pins s3 σ3 H3 X.xe I3 (stat fr3) st3 stop) fun r s4 ⟨hr, I4⟩ => ?_)
    subst hr
    exact wpAny_execs_nil ⟨σ3, H3, I4, qn⟩
  · refine wpAny_passesOwn hp (thn (T.item X rfl rfl rfl hc i pins s3 σ3 H3 X.xe I3 (stat fr3) st3 go) fun r s4 ⟨u, hr, h4⟩ => ?_)
    subst hr
    refine wpAny_passesOwn hp (thn h4 fun _ s5 ⟨x, H5, I5, r5, y5, st5, fr5⟩ => ?_)
    have I5' := I5.pinned (stat fr5) (T.obj _ _ st5)
    refine wpAny_passesOwn hp (thn (hg _ s5 σ3 H5 x u _ I5' r5 (step x H5 y5)) fun _ s6 ⟨σ6, H6, I6, q6⟩ => ?_)
    refine wpAny_passesOwn hp (thn (hb _ s6 σ6 H6 _ I6 q6) fun f s7 q7 => ?_)
    have again : ∀ {σ7 : St} {H7 : Hp}, Inv X (pins ++ pinsAt fp s5.heap) σ7 H7 s7 → N σ7 H7 → ∃ m, m < n ∧ ∃ i σ' H', Inv X pins σ' H' s7 ∧ tn i s7.heap ∧ (∀ b ∈ fp, H' b = none) ∧ W i m σ' H' := fun {σ7 H7} I7 n7 => by
      obtain ⟨m', hm, w7⟩ := hN σ7 H7 n7
      refine ⟨m', hm, i + 1, σ7, H7, I7.unpinned, T.keep _ _ _ st5 fun b hb o e => (I7.pin (b, o) (List.mem_append_right _ (List.mem_append_right _ (mem_pinsAt hb e)))).1, fun b hb => ?_, w7⟩
      obtain ⟨o, e, d⟩ := T.obj _ _ st5 b hb
      exact (I7.pin (b, o) (List.mem_append_right _ (List.mem_append_right _ (mem_pinsAt hb e)))).2.1
    cases f with
    | next => obtain ⟨σ7, H7, I7, n7⟩ := q7; exact again I7 n7
    | cont => obtain ⟨σ7, H7, I7, n7⟩ := q7; exact again I7 n7
    | brk => obtain ⟨σ7, H7, I7, q7⟩ := q7; exact ⟨σ7, H7, I7.unpinned, q7⟩
    | ret v => obtain ⟨x7, σ7, H7, I7, r7, q7⟩ := q7; exact ⟨x7, σ7, H7, I7.unpinned, r7, q7⟩
end
end L2
namespace L2
open PySem PySem.Spec PyProof.Rows
noncomputable abbrev R2 := V → V → Hp → VK → Prop
noncomputable def OpR (X : Cx) (f : Value → Value → Sem Value) (r : R2) : Prop :=
  ∀ (pins : List (Addr × Obj)) (s : Shared) (σ : St) (H : Hp) (x y : V) (v u : Value) (Q : VK), Inv X pins σ H s → RelV x v → RelV y u → r x y H Q →
    wpAny (model X.prog X.w) X.A (f v u) (EP X pins σ Q) X.xe s
noncomputable def UnR (X : Cx) (f : Value → Sem Value) (r : V → Hp → VK → Prop) : Prop :=
  ∀ (pins : List (Addr × Obj)) (s : Shared) (σ : St) (H : Hp) (x : V) (v : Value) (Q : VK), Inv X pins σ H s → RelV x v → r x H Q →
    wpAny (model X.prog X.w) X.A (f v) (EP X pins σ Q) X.xe s
noncomputable def CallR (X : Cx) (f : Value) (r : List V → Hp → VK → Prop) : Prop :=
  ∀ (pins : List (Addr × Obj)) (s : Shared) (σ : St) (H : Hp) (xs : List V) (us : List Value) (Q : VK), Inv X pins σ H s → Vals xs us → r xs H Q →
    wpAny (model X.prog X.w) X.A (call f us) (EP X pins σ Q) X.xe s
noncomputable def tOp (r : R2) (ta tb : TE) : TE := fun σ H Q => ta σ H fun x H1 => tb σ H1 fun y H2 => r x y H2 Q
noncomputable def tUn (r : V → Hp → VK → Prop) (ta : TE) : TE := fun σ H Q => ta σ H fun x H1 => r x H1 Q
noncomputable def rI (C : Int → Int → Prop) (g : Int → Int → V) : R2 := fun x y H Q => ∃ i j, x = .int i ∧ y = .int j ∧ C i j ∧ Q (g i j) H
noncomputable def rI0 (g : Int → Int → V) : R2 := fun x y H Q => ∃ i j, x = .int i ∧ y = .int j ∧ Q (g i j) H
noncomputable def rU (g : Int → V) : V → Hp → VK → Prop := fun x H Q => ∃ i, x = .int i ∧ Q (g i) H
section
variable {X : Cx} {a b c : Expr} {ta tb tc : TE} {pos : Pos}
theorem binT (ha : PE X a ta) (hb : PE X b tb) {pins : List (Addr × Obj)} {s : Shared} {σ : St} {H : Hp} {R : V → V → Hp → Prop} (I : Inv X pins σ H s)
    (h : ta σ H fun x H1 => tb σ H1 fun y H2 => R x y H2) {Q : Value → Shared → Prop} {f : Value → Value → Sem Value}
    (hf : ∀ v u s2 x y H2, Inv X pins σ H2 s2 → RelV x v → RelV y u → R x y H2 → wpAny (model X.prog X.w) X.A (f v u) Q X.xe s2) :
    wpAny (model X.prog X.w) X.A (eval a X.env) (fun v s₁ => wpAny (model X.prog X.w) X.A (eval b X.env) (fun u s₂ => wpAny (model X.prog X.w) X.A (f v u) Q X.xe s₂) X.xe s₁) X.xe s := by
  refine thn (ha pins s σ H _ I h) fun v s1 ⟨x, H1, I1, r1, q1⟩ => ?_
  refine thn (hb pins s1 σ H1 _ I1 q1) fun u s2 ⟨y, H2, I2, r2, q2⟩ => ?_
  exact hf v u s2 x y H2 I2 r1 r2 q2
theorem pe_op {op : Operator} {r : R2} (ho : OpR X (binaryOp op) r) (ha : PE X a ta) (hb : PE X b tb) : PE X (.BinOp a op b pos) (tOp r ta tb) := by
  intro pins s σ H Q I h
  exact wpAny_BinOp (binT ha hb I h fun v u s2 x y H2 I2 rx ry q => ho pins s2 σ H2 x y v u Q I2 rx ry q)
theorem pe_un {op : UnaryOp} {r : V → Hp → VK → Prop} (ho : UnR X (unaryOp op) r) (ha : PE X a ta) : PE X (.UnaryOp op a pos) (tUn r ta) := by
  intro pins s σ H Q I h
  exact UnaryOp_ (thn (ha pins s σ H _ I h) fun v s1 ⟨x, H1, I1, r1, q1⟩ => ho pins s1 σ H1 x v Q I1 r1 q1)
theorem opI {f : Value → Value → Sem Value} {C : Int → Int → Prop} {g : Int → Int → Int}
    (rule : ∀ (i j : Int) (t u : Tok) (s : Shared) (Q : Value → Shared → Prop) (E : Value → Shared → Prop), C i j → Q (.int (g i j) s.toks) { s with toks := s.toks + 1 } → wpAny (model X.prog X.w) X.A (f (.int i t) (.int j u)) Q E s) :
    OpR X f (rI C fun i j => .int (g i j)) := by
  intro pins s σ H x y v u Q I rx ry h
  obtain ⟨i, j, rfl, rfl, hc, q⟩ := h
  obtain ⟨t, rfl⟩ := rx
  obtain ⟨t', rfl⟩ := ry
  exact rule i j t t' s _ _ hc ⟨.int (g i j), H, I.tok _, ⟨_, rfl⟩, q⟩
theorem opI0 {f : Value → Value → Sem Value} {g : Int → Int → Int}
    (rule : ∀ (i j : Int) (t u : Tok) (s : Shared) (Q : Value → Shared → Prop) (E : Value → Shared → Prop), Q (.int (g i j) s.toks) { s with toks := s.toks + 1 } → wpAny (model X.prog X.w) X.A (f (.int i t) (.int j u)) Q E s) :
    OpR X f (rI0 fun i j => .int (g i j)) := by
  intro pins s σ H x y v u Q I rx ry h
  obtain ⟨i, j, rfl, rfl, q⟩ := h
  obtain ⟨t, rfl⟩ := rx
  obtain ⟨t', rfl⟩ := ry
  exact rule i j t t' s _ _ ⟨.int (g i j), H, I.tok _, ⟨_, rfl⟩, q⟩
theorem opB0 {f : Value → Value → Sem Value} {g : Int → Int → Bool}
    (rule : ∀ (i j : Int) (t u : Tok) (s : Shared) (Q : Value → Shared → Prop) (E : Value → Shared → Prop), Q (.bool (g i j)) s → wpAny (model X.prog X.w) X.A (f (.int i t) (.int j u)) Q E s) :
    OpR X f (rI0 fun i j => .bl (g i j)) := by
  intro pins s σ H x y v u Q I rx ry h
  obtain ⟨i, j, rfl, rfl, q⟩ := h
  obtain ⟨t, rfl⟩ := rx
  obtain ⟨t', rfl⟩ := ry
  exact rule i j t t' s _ _ ⟨.bl (g i j), H, I, rfl, q⟩
noncomputable def CDiv (i j : Int) : Prop := 0 < j ∧ j < 1073741824
noncomputable def CPow (i j : Int) : Prop := 0 ≤ j ∧ j ≤ 1000000 ∧ i.natAbs < 2 ^ 64
noncomputable def CMul (i j : Int) : Prop := (-(2 ^ 64) < i ∧ i < 2 ^ 64) ∨ (-(2 ^ 64) < j ∧ j < 2 ^ 64)
theorem two_pow_nn (k : Nat) : (0 : Int) ≤ 2 ^ k := by
  rw [two_pow_cast]
  exact Int.natCast_nonneg _
theorem op_add : OpR X (binaryOp .Add) (rI0 fun i j => .int (i + j)) := opI0 fun _ _ _ _ _ _ _ q => add_int q
theorem op_sub : OpR X (binaryOp .Sub) (rI0 fun i j => .int (i - j)) := opI0 fun _ _ _ _ _ _ _ q => sub_int q
theorem op_fdiv : OpR X (binaryOp .FloorDiv) (rI CDiv fun i j => .int (i / j)) := opI fun i j _ _ _ _ _ hc q => by
  have h1 : (0 : Int) < j := hc.1
  have h2 : j < 1073741824 := hc.2
  exact floordiv_int (by omega) (by rw [Int.fdiv_eq_ediv_of_nonneg i (by omega)]; exact q) (.inl (PyProof.noPylong_small (by omega)))
theorem op_mod : OpR X (binaryOp .Mod) (rI (fun _ j => 0 < j) fun i j => .int (i % j)) := opI fun i j _ _ _ _ _ hc q => by
  have h1 : (0 : Int) < j := hc
  exact mod_int' (by omega) (by rw [Int.fmod_eq_emod_of_nonneg i (by omega)]; exact q)
theorem op_pow : OpR X (binaryOp .Pow) (rI CPow fun i j => .int (i ^ j.toNat)) := opI fun _ _ _ _ _ _ _ hc q => pow_int_small hc.1 hc.2.1 hc.2.2 q
theorem op_shr : OpR X (binaryOp .RShift) (rI (fun _ j => 0 ≤ j) fun i j => .int (i / 2 ^ j.toNat)) := opI fun i j _ _ _ _ _ hc q =>
  rshift_int hc (by rw [Int.fdiv_eq_ediv_of_nonneg i (two_pow_nn _)]; exact q)
theorem op_and : OpR X (binaryOp .BitAnd) (rI0 fun i j => .int (Builtin.bitAnd i j)) := opI0 fun _ _ _ _ _ _ _ q => and_int q
theorem op_or : OpR X (binaryOp .BitOr) (rI0 fun i j => .int (Builtin.bitOr i j)) := opI0 fun _ _ _ _ _ _ _ q => or_int q
theorem unI {f : Value → Sem Value} {g : Int → Int}
    (rule : ∀ (i : Int) (t : Tok) (s : Shared) (Q : Value → Shared → Prop) (E : Value → Shared → Prop), Q (.int (g i) s.toks) { s with toks := s.toks + 1 } → wpAny (model X.prog X.w) X.A (f (.int i t)) Q E s) :
    UnR X f (rU fun i => .int (g i)) := by
  intro pins s σ H x v Q I rx h
  obtain ⟨i, rfl, q⟩ := h
  obtain ⟨t, rfl⟩ := rx
  exact rule i t s _ _ ⟨.int (g i), H, I.tok _, ⟨_, rfl⟩, q⟩
theorem un_neg : UnR X (unaryOp .USub) (rU fun i => .int (-i)) := unI fun _ _ _ _ _ q => neg_int q
theorem un_inv : UnR X (unaryOp .Invert) (rU fun i => .int (Builtin.bitNot i)) := unI fun _ _ _ _ _ q => invert_int q
end
section
variable {X : Cx} {a b c : Expr} {ta tb tc : TE} {pos : Pos}
theorem fin_bl {pins : List (Addr × Obj)} {σ : St} {H : Hp} {s : Shared} {Q : VK} {k k' : Bool} (I : Inv X pins σ H s) (q : Q (.bl k) H) (e : k = k') : EP X pins σ Q (.bool k') s := by
  subst e
  exact ⟨.bl k, H, I, rfl, q⟩
theorem op_lt : OpR X (compareOp .Lt) (rI0 fun i j => .bl (decide (i < j))) := opB0 fun _ _ _ _ _ _ _ q => lt_int q
theorem op_le : OpR X (compareOp .LtE) (rI0 fun i j => .bl (decide (i ≤ j))) := opB0 fun _ _ _ _ _ _ _ q => le_int q
theorem op_gt : OpR X (compareOp .Gt) (rI0 fun i j => .bl (decide (j < i))) := opB0 fun _ _ _ _ _ _ _ q => gt_int q
theorem op_ge : OpR X (compareOp .GtE) (rI0 fun i j => .bl (decide (j ≤ i))) := opB0 fun _ _ _ _ _ _ _ q => ge_int q
theorem op_in_str : OpR X (compareOp .In) (fun x y H Q => ∃ i j, x = .str i ∧ y = .str j ∧ Q (.bl (!(Builtin.Str.occurrences j i 0 j.length 1).isEmpty)) H) := by
  intro pins s σ H x y v u Q I rx ry h
  obtain ⟨i, j, rfl, rfl, q⟩ := h
  obtain ⟨t, rfl⟩ := rx
  obtain ⟨t', rfl⟩ := ry
  exact in_str (fin_bl I q rfl)
theorem pe_cmpR {op : CmpOp} {r : R2} (ho : OpR X (compareOp op) r) (ha : PE X a ta) (hb : PE X b tb) (hm : behindInMarks op b = false) : PE X (.Compare a [op] [b] pos) (tOp r ta tb) := by
  intro pins s σ H Q I h
  exact wpAny_Compare1 (binT ha hb I h fun v u s2 x y H2 I2 rx ry q => ho pins s2 σ H2 x y v u Q I2 rx ry q) hm
noncomputable def tTest (t : TE) : TT := fun σ H Q => t σ H fun x H' => ∃ k, x = .bl k ∧ Q k H'
theorem pt_cmpR {op : CmpOp} {r : R2} (ho : OpR X (compareOp op) r) (ha : PE X a ta) (hb : PE X b tb) (hm : behindInMarks op b = false) : PT X (.Compare a [op] [b] pos) (tTest (tOp r ta tb)) := by
  intro pins s σ H Q I h
  refine wpAny_isTrue_Compare1 (thn (ha pins s σ H _ I h) fun v s1 ⟨x, H1, I1, r1, q1⟩ => thn (hb pins s1 σ H1 _ I1 q1) fun u s2 ⟨y, H2, I2, r2, q2⟩ =>
    thn (ho pins s2 σ H2 x y v u _ I2 r1 r2 q2) fun c s3 ⟨z, H3, I3, r3, k, e, q3⟩ => ?_) hm
  subst e
  cases r3
  exact wpAny_truthy_bool ⟨H3, I3, q3⟩
theorem line63 : (sizeLine : Nat) < 2 ^ 63 := by rw [sizeLine_eq]; decide
theorem op_add_str : OpR X (binaryOp .Add) (fun x y H Q => ∃ i j, x = .str i ∧ y = .str j ∧ i.length + j.length ≤ sizeLine ∧ Q (.str (i ++ j)) H) := by
  intro pins s σ H x y v u Q I rx ry h
  obtain ⟨i, j, rfl, rfl, hz, q⟩ := h
  obtain ⟨t, rfl⟩ := rx
  obtain ⟨t', rfl⟩ := ry
  exact add_str (fun t' tk => ⟨.str (i ++ j), H, I.tok _, ⟨_, rfl⟩, q⟩) hz
theorem vals1 {x : V} {us : List Value} (r : Vals [x] us) : ∃ u, us = [u] ∧ RelV x u := by
  cases r with
  | cons r1 r2 => cases r2; exact ⟨_, rfl, r1⟩
theorem vals2 {x y : V} {us : List Value} (r : Vals [x, y] us) : ∃ u w', us = [u, w'] ∧ RelV x u ∧ RelV y w' := by
  cases r with
  | cons r1 r2 =>
    cases r2 with
    | cons r3 r4 => cases r4; exact ⟨_, _, rfl, r1, r3⟩
theorem call_abs : CallR X (.builtin "abs") (fun xs H Q => ∃ i, xs = [.int i] ∧ Q (.int (if i < 0 then -i else i)) H) := by
  intro pins s σ H xs us Q I r h
  obtain ⟨i, rfl, q⟩ := h
  obtain ⟨u, rfl, t, rfl⟩ := vals1 r
  exact call_abs_int fun u tk => ⟨.int (if i < 0 then -i else i), H, I.tok _, ⟨_, rfl⟩, q⟩
theorem call_max2 (hc : X.calm = true) : CallR X (.builtin "max") (fun xs H Q => ∃ i j, xs = [.int i, .int j] ∧ Q (.int (if j > i then j else i)) H) := by
  intro pins s σ H xs us Q I r h
  obtain ⟨i, j, rfl, q⟩ := h
  obtain ⟨u, w', rfl, ⟨t, rfl⟩, ⟨t', rfl⟩⟩ := vals2 r
  refine max_two_ints (I.ok.hd hc) fun h' tk k => ⟨_, H, I.kept k, ?_, q⟩
  by_cases hj : j > i
  · rw [if_pos hj, if_pos hj]; exact ⟨_, rfl⟩
  · rw [if_neg hj, if_neg hj]; exact ⟨_, rfl⟩
theorem call_int1 : CallR X (.type "int") (fun xs H Q => (∃ i, xs = [.int i] ∧ Q (.int i) H) ∨ ∃ k, xs = [.bl k] ∧ Q (.int (if k then 1 else 0)) H) := by
  intro pins s σ H xs us Q I r h
  rcases h with ⟨i, rfl, q⟩ | ⟨k, rfl, q⟩
  · obtain ⟨u, rfl, t, rfl⟩ := vals1 r
    exact call_int_int ⟨.int i, H, I, ⟨_, rfl⟩, q⟩
  · obtain ⟨u, rfl, r1⟩ := vals1 r
    cases r1
    exact call_int_bool ⟨.int (if k then 1 else 0), H, I.tok _, ⟨_, rfl⟩, q⟩
theorem call_str_int : CallR X (.type "str") (fun xs H Q => ∃ i, xs = [.int i] ∧ i.natAbs.log2 < 1920 ∧ Q (.str (toString i)) H) := by
  intro pins s σ H xs us Q I r h
  obtain ⟨i, rfl, hz, q⟩ := h
  obtain ⟨u, rfl, t, rfl⟩ := vals1 r
  exact PySem.P.str_of_int hz ⟨.str _, H, I.tok _, ⟨_, rfl⟩, q⟩
noncomputable def LenV (K : PySem.W.Frag) (x : V) (H : Hp) (n : Nat) : Prop :=
  match x with
  | .str y => y.length ≤ sizeLine ∧ n = y.length
  | .byt y => y.size ≤ sizeLine ∧ n = y.size
  | .ref p => (∃ xs, SqL K H p xs ∧ n = xs.length) ∨ ∃ xs, SqT K H p xs ∧ n = xs.length
  | _ => False
theorem call_len : CallR X (.builtin "len") (fun xs H Q => ∃ x n, xs = [x] ∧ LenV X.K x H n ∧ Q (.int n) H) := by
  intro pins s σ H xs us Q I r h
  obtain ⟨x, n, rfl, e, q⟩ := h
  obtain ⟨u, rfl, rx⟩ := vals1 r
  have hl := line63
  have hs : sizeLine = 16777216 := sizeLine_eq
  cases x with
  | str y =>
    obtain ⟨t, rfl⟩ := rx
    obtain ⟨hy, e'⟩ : y.length ≤ sizeLine ∧ n = y.length := e
    subst e'
    exact len_str (by omega) ⟨.int _, H, I.tok _, ⟨_, rfl⟩, q⟩
  | byt y =>
    obtain ⟨t, rfl⟩ := rx
    obtain ⟨hy, e'⟩ : y.size ≤ sizeLine ∧ n = y.size := e
    subst e'
    exact PySem.W.len_bytes (by omega) ⟨.int _, H, I.tok _, ⟨_, rfl⟩, q⟩
  | ref p =>
    cases rx
    have e' : (∃ xs, SqL X.K H p xs ∧ n = xs.length) ∨ ∃ xs, SqT X.K H p xs ∧ n = xs.length := e
    rcases e' with ⟨xs, hx, e'⟩ | ⟨xs, hx, e'⟩
    · subst e'
      obtain ⟨its, r', pl, hz⟩ := I.list hx
      have hlen := r'.length
      exact Calls.call_len_list pl.isList (by simp only [List.size_toArray]; omega) ⟨.int xs.length, H, I.tok _, ⟨_, by simp only [List.size_toArray]; rw [hlen]⟩, q⟩
    · subst e'
      obtain ⟨its, r', pl, hz⟩ := I.tuple hx
      have hlen := r'.length
      exact len_tuple pl (by simp only [List.size_toArray]; omega) ⟨.int xs.length, H, I.tok _, ⟨_, by simp only [List.size_toArray]; rw [hlen]⟩, q⟩
  | _ => exact (show False from e).elim
end
end L2
namespace L2
open PySem PySem.Spec PyProof.Rows
structure ObjM (h : Heap) (x dx C : Addr) (mA : Str → Option Value) : Prop where
  obj : h.get? x = some (PySem.W.instObj C dx)
  ns : h.Ns1 dx mA
  ne : dx ≠ x
theorem lookIn_ns {h : Heap} {dx : Addr} {mA : Str → Option Value} (n : h.Ns1 dx mA) : ∃ od, h.get? dx = some od ∧ ∀ name, PySem.W.lookIn name od = some (mA name) := by
  obtain ⟨o, es, ep, ho, hd, hk, _, hm⟩ := n
  refine ⟨o, ho, fun name => ?_⟩
  have e := hm name
  unfold nsFind findBy at e
  rw [← Array.find?_toList] at e
  unfold PySem.W.lookIn
  rw [hd]
  dsimp only
  split
  · rename_i y q
    rw [q] at e
    exact congrArg some e
  · rename_i q
    rw [q] at e
    have a : es.toList.any (·.refKey) = false := by
      rw [List.any_eq_false]
      intro y hy
      obtain ⟨z, t, hkey⟩ := hk y (Array.mem_toList_iff.mp hy)
      simp [DictEntry.refKey, hkey]
    have a' : ¬ es.toList.any (·.refKey) = true := by rw [a]; exact Bool.false_ne_true
    rw [if_neg a']
    exact congrArg some e
theorem ObjM.look {h : Heap} {x dx C : Addr} {mA : Str → Option Value} (I : ObjM h x dx C mA) : ∃ od, PySem.W.InstAt h x (PySem.W.instObj C dx) C (some od) ∧ ∀ name, PySem.W.lookIn name od = some (mA name) :=
  let ⟨od, ho, hl⟩ := lookIn_ns I.ns
  ⟨od, ⟨I.obj, rfl, rfl, ho⟩, hl⟩
section
variable {prog : Program} {w : World} {A : Around} {E : Value → Shared → Prop} {s : Shared} {K : PySem.W.Frag} {x dx C f : Addr} {mA : Str → Option Value} {name : Str} {v : Value}
end
theorem RelO.some_of {v : V} {o : Option Value} (r : RelO (some v) o) : ∃ u, o = some u ∧ RelV v u := by
  cases o with
  | none => exact (show False from r).elim
  | some u => exact ⟨u, rfl, r⟩
section
variable {P : Program} {w : World} {H H' : Hp} {h h' : Heap} {a C dx : Addr} {fs fs' : List (Str × V)}
theorem ins_get (hok : HOk P w H h) (e : H a = some (.ins C dx fs)) : ∃ mA, ObjM h a dx C mA ∧ (∀ f, RelO (fs.lookup f) (mA f)) ∧ PySem.Within mA (fs.map (·.1)) ∧ fs.length ≤ 1000 ∧ H dx = some (.own a) := by
  obtain ⟨d, z, ne, ob, mA, n, r, q⟩ := (show ObjOk P w H h a (.ins C dx fs) from hok a _ e)
  exact ⟨mA, ⟨ob, n, ne⟩, r, q, z, d⟩
end
structure Cls (K : PySem.W.Frag) (C : Addr) : Prop where
  pg : PySem.W.plainGet K C Str.empty = true
  hd : PySem.W.hasDictIn K C = true
  po : PySem.W.plainOver K C = true
  sa : PySem.W.findIn K (.ref C) "__setattr__" = some (some (.builtin "object.__setattr__"))
theorem Cls.get {K : PySem.W.Frag} {C : Addr} (c : Cls K C) (f : Str) : PySem.W.plainGet K C f = true := c.pg
structure Con (K : PySem.W.Frag) (C : Addr) (f : Str) (v : V) (u : Value) : Prop where
  at_ : PySem.W.findIn K (.ref C) f = some (some u)
  rel : RelV v u
  get : PySem.W.specialIn K u "__get__" = some none
  cp : PySem.W.copiedNames.contains f = false
structure Meth (K : PySem.W.Frag) (C : Addr) (m : Str) (f : Addr) : Prop where
  at_ : PySem.W.findIn K (.ref C) m = some (some (.ref f))
  fn : PySem.W.isFn K (.ref f) = true
  kp : PySem.W.keepIn K (.ref f) = true
section
variable {X : Cx} {pins : List (Addr × Obj)} {σ : St} {H : Hp} {s : Shared} {a C dx : Addr} {fs : List (Str × V)} {f : Str} {v : V} {A : Around} {E : Value → Shared → Prop}
end
section
variable {X : Cx} {o e value : Expr} {f : Str} {pos pos' tpos : Pos} {ta tv : TE}
end
section
variable {X : Cx} {pins : List (Addr × Obj)} {σ : St} {H : Hp} {s : Shared} {A : Around} {E : Value → Shared → Prop} {Q : Value → Shared → Prop} {c : Value} {b : Bool}
inductive TyOf (K : PySem.W.Frag) (H : Hp) : V → Value → Prop where
  | non : TyOf K H .non (.type "NoneType")
  | bl (x : Bool) : TyOf K H (.bl x) (.type "bool")
  | int (i : Int) : TyOf K H (.int i) (.type "int")
  | str (x : Str) : TyOf K H (.str x) (.type "str")
  | flt (x : UInt64) : TyOf K H (.flt x) (.type "float")
  | lst {a : Addr} {xs : List V} (e : H a = some (.lst xs)) : TyOf K H (.ref a) (.type "list")
  | frz {a : Addr} {o : Obj} {xs : List V} (e : H a = some (.frz o (.lst xs))) : TyOf K H (.ref a) (.type "list")
  | tup {a : Addr} {xs : List V} (e : H a = some (.tup xs)) : TyOf K H (.ref a) (.type "tuple")
  | dK {a : Addr} {kvs : List (Key × V)} (e : H a = some (.dK kvs)) : TyOf K H (.ref a) (.type "dict")
  | dT {a : Addr} {kvs : List (List Key × V)} (e : H a = some (.dT kvs)) : TyOf K H (.ref a) (.type "dict")
  | ins {a C dx : Addr} {fs : List (Str × V)} (e : H a = some (.ins C dx fs)) (cl : Cls K C) (ha : PySem.W.findIn K (.ref C) "__class__" = some (some (.builtin "object.__class__")))
      (hn : PySem.W.specialIn K (.builtin "object.__class__") "__get__" = some (some (.builtin "getset_descriptor.__get__"))) (htk : PySem.W.takesIn K (.builtin "object.__class__") = some true)
      (hm : PySem.W.mroIn K C (.type "object") = some true) : TyOf K H (.ref a) (.ref C)
theorem isinst_ok {x : V} {u t : Value} (I : Inv X pins σ H s) (rx : RelV x u) (ty : TyOf X.K H x t) (e : PySem.W.kitOne X.K t c = some b) (h : ∀ tk, Q (.bool b) { s with toks := tk }) :
    wpAny (model X.prog X.w) A (call (.builtin "isinstance") [u, c]) Q E s := by
  cases ty with
  | non => cases (show u = Value.none from rx); exact PySem.W.kia_one PySem.W.kitx_none I.kIn True.intro e (fun z => nomatch z) h
  | bl y => cases (show u = Value.bool y from rx); exact PySem.W.kia_one PySem.W.kitx_bool I.kIn True.intro e (fun z => nomatch z) h
  | int i => obtain ⟨t, q⟩ := (show ∃ t, u = Value.int i t from rx); cases q; exact PySem.W.kia_one PySem.W.kitx_int I.kIn True.intro e (fun z => nomatch z) h
  | str y => obtain ⟨t, q⟩ := (show ∃ t, u = Value.str y t from rx); cases q; exact PySem.W.kia_one PySem.W.kitx_str I.kIn True.intro e (fun z => nomatch z) h
  | flt y => obtain ⟨t, q⟩ := (show ∃ t, u = Value.float y t from rx); cases q; exact PySem.W.kia_one PySem.W.kitx_float I.kIn True.intro e (fun z => nomatch z) h
  | @lst a xs ea =>
    cases (show u = Value.ref a from rx)
    obtain ⟨_, _, n, _, h1⟩ := (show ObjOk X.prog X.w H s.heap a (.lst xs) from I.hok a _ ea)
    exact PySem.W.kia_one PySem.W.kitx_list I.kIn ⟨_, h1, rfl⟩ e (fun z => nomatch z) h
  | @frz a ob xs ea =>
    cases (show u = Value.ref a from rx)
    obtain ⟨_, _, _, n, _, h1⟩ := (show ObjOk X.prog X.w H s.heap a (.frz ob (.lst xs)) from I.hok a _ ea)
    exact PySem.W.kia_one PySem.W.kitx_list I.kIn ⟨_, h1, rfl⟩ e (fun z => nomatch z) h
  | @tup a xs ea =>
    cases (show u = Value.ref a from rx)
    obtain ⟨_, _, _, p⟩ := (show ObjOk X.prog X.w H s.heap a (.tup xs) from I.hok a _ ea)
    obtain ⟨o, h1, h2, _⟩ := p
    exact PySem.W.kia_one PySem.W.kitx_tuple I.kIn ⟨o, h1, h2⟩ e (fun z => nomatch z) h
  | @dK a kvs ea =>
    cases (show u = Value.ref a from rx)
    obtain ⟨_, _, vs, _, p⟩ := (show ObjOk X.prog X.w H s.heap a (.dK kvs) from I.hok a _ ea)
    obtain ⟨o, es, ep, h1, h2, _⟩ := p
    exact PySem.W.kia_one PySem.W.kitx_dict I.kIn ⟨o, h1, h2.1⟩ e (fun z => nomatch z) h
  | @dT a kvs ea =>
    cases (show u = Value.ref a from rx)
    obtain ⟨_, _, xs, _, o, es, ep, h1, h2, _⟩ := (show ObjOk X.prog X.w H s.heap a (.dT kvs) from I.hok a _ ea)
    exact PySem.W.kia_one PySem.W.kitx_dict I.kIn ⟨o, h1, h2.1⟩ e (fun z => nomatch z) h
  | @ins a C dx fs ea cl ha hn htk hm =>
    cases (show u = Value.ref a from rx)
    obtain ⟨mA, O, _⟩ := ins_get I.hok ea
    obtain ⟨od, J, _⟩ := O.look
    exact PySem.W.kia_one (PySem.W.kitx_own (cl.get _) cl.hd ha hn htk hm) I.kIn J e (fun z => nomatch z) h
end
end L2
namespace L2
open PySem PySem.Spec PyProof.Rows
structure Room (k : Nat) (A : Around) : Prop where
  hd : A.handled = none
  dp : A.depth + 3 * k + 5 < recursionLimit
  un : A.units + 16 * k + 200 < cLine
theorem Room.deeper {k : Nat} {A : Around} (r : Room (k + 1) A) (env : Env) : Room k (A.deeper env) :=
  ⟨r.hd, by have := r.dp; show A.depth + 1 + 3 * k + 5 < _; omega, by have := r.un; show A.units + 3 + 16 * k + 200 < _; omega⟩
theorem Room.depth {k : Nat} {A : Around} (r : Room k A) : A.depth < recursionLimit := by have := r.dp; omega
theorem Room.units {k : Nat} {A : Around} (r : Room k A) : A.units + 64 < cLine := by have := r.un; omega
noncomputable def tNil : TA := fun _ H Q => Q [] H
noncomputable def tCons (ta : TE) (tr : TA) : TA := fun σ H Q => ta σ H fun x H1 => tr σ H1 fun xs H2 => Q (x :: xs) H2
section
variable {X : Cx} {e : Expr} {es : List Expr} {te : TE} {t : TA} {pos : Pos}
theorem pa_nil : PA X [] tNil := fun _ _ _ _ H Q I h => Calls.spliced_nil ⟨[], H, I, .nil, h⟩
theorem pa_cons (ha : PE X e te) (hr : PA X es t) (hs : starEach (e :: es) X.env = (false, eval e X.env) :: starEach es X.env := by rfl) : PA X (e :: es) (tCons te t) := by
  intro pos pins s σ H Q I h
  rw [hs]
  show wpAny _ _ (spliced ((false, eval e X.env) :: backTo pos (starEach es X.env))) _ _ s
  refine Calls.spliced_cons (thn (ha pins s σ H _ I h) fun u s1 ⟨x, H1, I1, r1, q1⟩ => ?_)
  exact thn (hr pos pins s1 σ H1 _ I1 q1) fun us s2 ⟨xs, H2, I2, r2, q2⟩ => ⟨x :: xs, H2, I2, .cons r1 r2, q2⟩
noncomputable def tTup (t : TA) : TE := fun σ H Q => t σ H fun xs H1 => xs.length ≤ sizeLine ∧ ∀ p, H1 p = none → Q (.ref p) (upd H1 p (.tup xs))
noncomputable def tLst (t : TA) : TE := fun σ H Q => t σ H fun xs H1 => xs.length ≤ sizeLine ∧ ∀ p, H1 p = none → Q (.ref p) (upd H1 p (.lst xs))
theorem pe_tup {x1} (h : PA X es t) : PE X (.Tuple es x1 pos) (tTup t) := by
  intro pins s σ H Q I hq
  refine wpAny_Tuple_spliced (thn (h pos pins s σ H _ I hq) fun us s1 ⟨xs, H1, I1, r, z, q⟩ => ⟨by rw [← r.length]; exact z, ?_⟩)
  have hf : H1 s1.heap.objs.size = none := I1.hok.fresh (Nat.le_refl _)
  refine ⟨.ref s1.heap.objs.size, upd H1 s1.heap.objs.size (.tup xs), I1.laid (t' := s1.toks) (fun b u e => Heap.get?_push_of_some _ e) (Nat.le_refl _) ?_, rfl, q _ hf⟩
  exact ⟨z, us, r, ⟨_, Heap.get?_push_size _ rfl, rfl, _, rfl⟩⟩
theorem pe_lst (h : PA X es t) : PE X (.List es pos) (tLst t) := by
  intro pins s σ H Q I hq
  refine wpAny_List_spliced (thn (h pos pins s σ H _ I hq) fun us s1 ⟨xs, H1, I1, r, z, q⟩ => ⟨by rw [← r.length]; exact z, ?_⟩)
  have hf : H1 s1.heap.objs.size = none := I1.hok.fresh (Nat.le_refl _)
  refine ⟨.ref s1.heap.objs.size, upd H1 s1.heap.objs.size (.lst xs), I1.laid (t' := s1.toks) (fun b u e => Heap.get?_push_of_some _ e) (Nat.le_refl _) ?_, rfl, q _ hf⟩
  exact ⟨z, us, 0, r, Heap.get?_push_size _ rfl⟩
end
noncomputable abbrev Sp := List V → Hp → VK → XK → Prop
noncomputable abbrev CXT := List Env → Hp → Shared → XK → Value → Shared → Prop
structure Env0 (P : Program) (w : World) (K : PySem.W.Frag) (mg : Str → Option Value) (base : Heap) (A : Around) (outer : List Env) (s : Shared) (H : Hp) : Prop where
  frames : A.frames = some outer
  mod : Mod K mg base
  bs : ∀ b o, base.get? b = some o → s.heap.get? b = some o ∧ H b = none
  bsz : base.objs.size ≤ s.heap.objs.size
  funs : s.heap.FunFrames base outer
  frf : ∀ b ∈ frs outer, H b = none
  hok : HOk P w H s.heap
  bare : AllBare s.gens
noncomputable def CE (outer : List Env) (P : Program) (w : World) (H : Hp) (s : Shared) (Q : VK) (u : Value) (s' : Shared) : Prop :=
  ∃ v H', s'.os = s.os ∧ AllBare s'.gens ∧ Un (frs outer) [] H H' s.heap s'.heap ∧ HOk P w H' s'.heap ∧ RelV v u ∧ Q v H'
noncomputable def CR (CX : CXT) (outer : List Env) (P : Program) (w : World) (H : Hp) (s : Shared) (Q : VK) (E : XK) (r : Result) (s' : Shared) : Prop :=
  match r with
  | .ok (.ret u) => CE outer P w H s Q u s'
  | .ok _ => False
  | .error e => CX outer H s E e s'
structure FnOk (P : Program) (w : World) (K : PySem.W.Frag) (mg : Str → Option Value) (base : Heap) (CX : CXT) (k : Nat) (f : Addr) (fd : FuncData) (ps : List Str) (sp : Sp) : Prop where
  len : ∀ vs H Q E, sp vs H Q E → vs.length = ps.length
  run : ∀ (A : Around) (outer : List Env) (s : Shared) (H : Hp) (args : Args) (us : List Value) (vs : List V) (Q : VK) (E : XK), Room k A → Env0 P w K mg base A outer s H → BindsTo s fd args (ps.zip us) → Vals vs us → sp vs H Q E →
    codeAny (model P w) A (.call (.ref f) args) (CR CX outer P w H s Q E) s
section
variable {X : Cx} {pins : List (Addr × Obj)} {σ : St} {H : Hp} {s s' : Shared}
theorem Inv.env0 (I : Inv X pins σ H s) : Env0 X.prog X.w X.K X.mg X.base X.A X.stack s H :=
  ⟨I.ok.frames, I.ok.mod, I.bs, Nat.le_trans I.ok.bsz I.sz, I.stack, I.stkFree, I.hok, I.bare⟩
theorem Inv.after {Q : VK} {u : Value} (I : Inv X pins σ H s) (h : CE X.stack X.prog X.w H s Q u s') : EP X pins σ Q u s' := by
  obtain ⟨v, H', os, bare, un, hok, r, q⟩ := h
  obtain ⟨hh, g, d, t, os'⟩ := s'
  obtain rfl : os' = s.os := os
  exact ⟨v, H', I.call (h' := hh) (g' := g) (d' := d) (t' := t) (ch := []) un hok bare (fun b z => absurd z (by simp)), r, q⟩
end
noncomputable def Binds (K : PySem.W.Frag) (fd : FuncData) (ps : List Str) (ds : List Value) : Prop :=
  ∀ (s : Shared) (us : List Value), K.In s.heap → (us ++ ds).length = ps.length → BindsTo s fd ⟨us, []⟩ (ps.zip (us ++ ds))
theorem Binds.all {K : PySem.W.Frag} {fd : FuncData} {ps : List Str} (h : ∀ us : List Value, us.length = ps.length → bindArgs fd ⟨us, []⟩ = pure (ps.zip us)) : Binds K fd ps [] := fun s us _ hl => by
  rw [List.append_nil] at hl ⊢
  exact .of_eq (h us hl)
section
variable {X : Cx} {CX : CXT} {k : Nat} {f C : Addr} {fd : FuncData} {ps : List Str} {sp : Sp} {dvs : List V} {ds : List Value} {E : XK} {x m : Str} {p pos apos : Pos} {e o : Expr} {es : List Expr} {ta : TE} {t : TA}
structure Mk (K : PySem.W.Frag) (C f : Addr) : Prop where
  makes : PySem.W.makesIn K C = true
  init : PySem.W.findIn K (.ref C) "__init__" = some (some (.ref f))
  fn : PySem.W.isFn K (.ref f) = true
  kp : PySem.W.keepIn K (.ref C) = true
end
section
variable {X : Cx} {CX : CXT} {k : Nat} {f C : Addr} {fd : FuncData} {ps ks : List Str} {sp : Sp} {E : XK} {x m : Str} {p pos apos kpos : Pos} {e o : Expr} {es : List Expr} {kws : List Keyword} {te ta : TE} {t tk : TA} {nm : Option Str}
structure KBinds (K : PySem.W.Frag) (fd : FuncData) (ps ks : List Str) (g : List Value → List Value → List Value) (gV : List V → List V → List V) : Prop where
  to : ∀ (s : Shared) (us ws : List Value), K.In s.heap → (g us ws).length = ps.length → BindsTo s fd ⟨us, ks.zip ws⟩ (ps.zip (g us ws))
  rel : ∀ {vs : List V} {us : List Value} {zs : List V} {ws : List Value}, Vals vs us → Vals zs ws → Vals (gV vs zs) (g us ws)
variable {g : List Value → List Value → List Value} {gV : List V → List V → List V}
end
structure FnScope (N P : List Str) (sc : Scope) : Prop where
  kind : sc.kind = .function
  co : sc.isCoroutine = false
  gen : sc.isGenerator = false
  nd : N.Nodup
  pre : N.take P.length = P
  par : ∀ x ∈ P, sc.names.lookup x = some .local ∨ sc.names.lookup x = some .cell
  nofree : ∀ y ∈ sc.names, y.2 ≠ .free
theorem bindL_out {kindOf : Str → Option NameKind} {x : Str} : ∀ {binds : List (Str × Value)} {m : Str → Option Value}, (∀ v, (x, v) ∉ binds) → bindL kindOf binds m x = m x
  | [], _, _ => rfl
  | (n, v) :: r, m, h => by
    unfold bindL
    rw [bindL_out fun w hw => h w (List.mem_cons_of_mem _ hw)]
    split
    · have : x ≠ n := by rintro rfl; exact h v List.mem_cons_self
      simp [this]
    · rfl
theorem bindC_out {kindOf : Str → Option NameKind} {x : Str} : ∀ {binds : List (Str × Value)} {m : Str → Option Value}, (∀ v, (x, v) ∉ binds) → bindC kindOf binds m x = m x
  | [], _, _ => rfl
  | (n, v) :: r, m, h => by
    unfold bindC
    rw [bindC_out fun w hw => h w (List.mem_cons_of_mem _ hw)]
    split
    · rfl
    · have : x ≠ n := by rintro rfl; exact h v List.mem_cons_self
      simp [this]
theorem bindL_get {kindOf : Str → Option NameKind} {x : Str} {v : Value} : ∀ {P : List Str} {vs : List Value} {i : Nat} {m : Str → Option Value}, P.Nodup → P[i]? = some x → vs[i]? = some v → kindOf x = some .local →
    bindL kindOf (P.zip vs) m x = some v
  | [], _, _, _, _, h, _, _ => by simp at h
  | _ :: _, [], _, _, _, _, h, _ => by simp at h
  | p :: P, w :: vs, 0, m, nd, h1, h2, hk => by
    simp at h1 h2; subst h1; subst h2
    show bindL kindOf ((p, w) :: P.zip vs) m p = _
    unfold bindL
    rw [bindL_out fun v hv => (List.nodup_cons.mp nd).1 (List.of_mem_zip hv).1, if_pos hk]
    simp
  | p :: P, w :: vs, i + 1, m, nd, h1, h2, hk => by
    show bindL kindOf ((p, w) :: P.zip vs) m x = _
    unfold bindL
    exact bindL_get (i := i) (List.nodup_cons.mp nd).2 (by simpa using h1) (by simpa using h2) hk
theorem bindC_get {kindOf : Str → Option NameKind} {x : Str} {v : Value} : ∀ {P : List Str} {vs : List Value} {i : Nat} {m : Str → Option Value}, P.Nodup → P[i]? = some x → vs[i]? = some v → kindOf x ≠ some .local →
    bindC kindOf (P.zip vs) m x = some v
  | [], _, _, _, _, h, _, _ => by simp at h
  | _ :: _, [], _, _, _, _, h, _ => by simp at h
  | p :: P, w :: vs, 0, m, nd, h1, h2, hk => by
    simp at h1 h2; subst h1; subst h2
    show bindC kindOf ((p, w) :: P.zip vs) m p = _
    unfold bindC
    rw [bindC_out fun v hv => (List.nodup_cons.mp nd).1 (List.of_mem_zip hv).1, if_neg hk]
    simp
  | p :: P, w :: vs, i + 1, m, nd, h1, h2, hk => by
    show bindC kindOf ((p, w) :: P.zip vs) m x = _
    unfold bindC
    exact bindC_get (i := i) (List.nodup_cons.mp nd).2 (by simpa using h1) (by simpa using h2) hk
noncomputable def start (N : List Str) (vs : List V) : St := vs.map some ++ List.replicate (N.length - vs.length) none
noncomputable def cxOf (CX : CXT) (P : Program) (w : World) (K : PySem.W.Frag) (mg : Str → Option Value) (base : Heap) (N : List Str) (qual : Str) (scope : Scope) (f : Addr) (cd : Value) (A : Around) (outer : List Env) (s : Shared) (H : Hp) (E : XK) : Cx where
  prog := P
  w := w
  K := K
  mg := mg
  base := base
  A := A.deeper (envOfC qual scope s.heap.objs.size f cd)
  N := N
  s₀ := s
  H₀ := H
  env := envOfC qual scope s.heap.objs.size f cd
  outer := outer
  stack := envOfC qual scope s.heap.objs.size f cd :: outer
  ex := []
  calm := true
  fn := fun _ => true
  pn := []
  xe := fun e s' => wpAny (model P w) (A.deeper (envOfC qual scope s.heap.objs.size f cd)) (leaving (envOfC qual scope s.heap.objs.size f cd) e) (fun _ s'' => CX outer H s E e s'') (fun e' s'' => CX outer H s E e' s'') s'
theorem cell_has {sc : Scope} {n : Nat} {x : Str} (h : sc.names.lookup x = some .cell) : ∃ c, (cellsFrom n sc.names []).lookup x = some c := by
  have q := PySem.W.cellsFrom_some sc.names n [] (.inl h)
  exact Option.isSome_iff_exists.mp q
theorem inv_start {CX : CXT} {P : Program} {w : World} {K : PySem.W.Frag} {mg : Str → Option Value} {base : Heap} {N ps : List Str} {qual : Str} {scope : Scope} {f : Addr} {cd : Value} {A : Around} {outer : List Env} {s s1 : Shared} {H : Hp} {E : XK} {us : List Value} {vs : List V}
    (S : FnScope N ps scope) (hd : A.handled = none) (e0 : Env0 P w K mg base A outer s H) (hl : vs.length = ps.length) (r : Vals vs us)
    (x : InCallC s s.heap.objs.size (bindL (envOfC qual scope s.heap.objs.size f cd).kindOf (ps.zip us) fun _ => none) (cellsFrom (s.heap.objs.size + 1) scope.names []) (bindC (envOfC qual scope s.heap.objs.size f cd).kindOf (ps.zip us) fun _ => none) s1) :
    Inv (cxOf CX P w K mg base N qual scope f cd A outer s H E) [] (start N vs) H s1 := by
  have hpl : ps.length ≤ N.length := by have := congrArg List.length S.pre; rw [List.length_take] at this; omega
  obtain ⟨h1, tk, rfl, hk⟩ := x.done
  have noA : ∀ b : Addr, b ∉ (cxOf CX P w K mg base N qual scope f cd A outer s H E).ex := fun b z => absurd (show b ∈ ([] : List Addr) from z) (by simp)
  refine ⟨⟨e0.mod, S.kind, rfl, rfl, Nat.le_refl _, fun y z c h1 h2 => ?_, fun y hy => ?_, fun y c _ h => ?_, fun _ => hd, Around.frames_deeper e0.frames, .inr ⟨rfl, rfl⟩, fun b z => absurd z (noA b), e0.bs, e0.bsz, fun b _ _ => noA b, fun b z => absurd z (noA b), e0.funs, e0.frf⟩,
    rfl, e0.bare, Un.kept hk, ⟨_, x.toInCall.ns, fun i y v h1 h2 h3 => ?_⟩, fun y c h => ⟨_, x.cell y c h⟩, e0.hok.fresh (Nat.le_refl _), fun y c h => ?_, fun p hp => absurd (show p ∈ ([] : List (Addr × Obj)) from hp) (by simp), e0.hok.kept hk, ?_⟩
  · exact name_of_addr x.apart (PySem.mem_of_lookup h1) (PySem.mem_of_lookup h2)
  · have hy : scope.names.lookup y = some .cell ∨ scope.names.lookup y = some .free := hy
    rcases hy with hy | hy
    · exact cell_has hy
    · exact absurd rfl (S.nofree _ (PySem.mem_of_lookup hy))
  · exact Nat.le_of_lt (x.above y c (PySem.mem_of_lookup h))
  · have hi : i < vs.length := by
      unfold start at h2
      by_cases hi : i < vs.length
      · exact hi
      · rw [List.getElem?_append_right (by simpa using hi)] at h2
        rw [List.getElem?_replicate] at h2
        split at h2 <;> cases h2
    have ha : vs[i]? = some v := by
      unfold start at h2
      rw [List.getElem?_append_left (by simpa using hi), List.getElem?_map] at h2
      cases e : vs[i]? with
      | none => rw [e] at h2; cases h2
      | some a => rw [e] at h2; cases h2; rfl
    obtain ⟨u, hu, rv⟩ := r.get ha
    have hp : ps[i]? = some y := by
      rw [← S.pre, List.getElem?_take_of_lt (by omega)]; exact h1
    have ndP : ps.Nodup := by rw [← S.pre]; exact S.nd.sublist (List.take_sublist _ _)
    refine ⟨u, rv, ?_⟩
    rcases S.par y (List.mem_of_getElem? hp) with k | k
    · exact .inl ⟨k, bindL_get ndP hp hu k⟩
    · obtain ⟨c, e⟩ := cell_has (n := s.heap.objs.size + 1) k
      refine .inr ⟨.inl k, c, e, ?_⟩
      have q := x.cell y c e
      rw [bindC_get ndP hp hu (by show scope.names.lookup y ≠ _; rw [k]; decide)] at q
      exact q
  · exact e0.hok.fresh (Nat.le_of_lt (x.above y c (PySem.mem_of_lookup h)))
  · unfold start
    show _ = N.length
    rw [List.length_append, List.length_map, List.length_replicate]
    omega
theorem fn_of {CX : CXT} {P : Program} {w : World} {K : PySem.W.Frag} {mg : Str → Option Value} {base : Heap} {k : Nat} {f : Addr} {name qual : Str} {params : Arguments} {body : List Stmt} {scope : Scope} {dV kV doc pm cdv ct oc : Value} {an od : Option Addr}
    {osl : Array (Option Value)} {N ps : List Str} {sp : Sp} (lk : K.lookup f = some ⟨oc, od, .func (PySem.W.fnOf name qual params body scope dV kV doc pm an cdv ct), osl⟩) (hcd : PySem.W.codeIn K cdv qual = true) (S : FnScope N ps scope)
    (len : ∀ vs H Q E, sp vs H Q E → vs.length = ps.length)
    (hbody : ∀ (A : Around) (outer : List Env) (s : Shared) (H : Hp) (vs : List V) (Q : VK) (E : XK), Room k (A.deeper (envOfC qual scope s.heap.objs.size f cdv)) → sp vs H Q E →
      ∃ t, PSs (cxOf CX P w K mg base N qual scope f cdv A outer s H E) body t ∧ t { nx := fun _ H' => Q .non H', rt := Q } (start N vs) H) :
    FnOk P w K mg base CX (k + 1) f (PySem.W.fnOf name qual params body scope dV kV doc pm an cdv ct) ps sp := by
  refine ⟨len, fun A outer s H args us vs Q E hr e0 hb r hsp => ?_⟩
  have hl := len _ _ _ _ hsp
  have KX : K.In s.heap := e0.mod.kin.keeps fun b o e => (e0.bs b o e).1
  have lim : s.heap.NoLimit := e0.mod.nolimit.keeps fun b o e => (e0.bs b o e).1
  have hkind : ∀ y ∈ ps.zip us, scope.names.lookup y.1 = some .local ∨ (scope.names.lookup y.1 = some .cell ∧ ((cellsFrom (s.heap.objs.size + 1) scope.names []).lookup y.1).isSome = true) := fun ⟨n, v⟩ hy => by
    rcases S.par n (List.of_mem_zip hy).1 with q | q
    · exact .inl q
    · exact .inr ⟨q, PySem.W.cellsFrom_some _ _ _ (.inl q)⟩
  refine codeAny_call_function hr.depth (KX _ _ lk) rfl S.co S.gen rfl (PySem.W.codeRec_of KX hcd) (hb _ _ _ _ ?_)
  refine wpAny_newFunctionEnv_cells S.kind hkind fun env he s1 x => ?_
  subst he
  refine ⟨lim.keeps x.toInCall.keep, codeAny_func ?_⟩
  obtain ⟨t, ht, hq⟩ := hbody A outer s H vs Q E (hr.deeper _) hsp
  have I : Inv (cxOf CX P w K mg base N qual scope f cdv A outer s H E) [] (start N vs) H s1 := inv_start S hr.hd e0 hl r x
  refine wpAny_mono (ht [] s1 (start N vs) H _ I hq) (fun fl s' hs => ?_) fun e s' hs => hs
  have fin : ∀ {σ' : St} {H' : Hp} {v : V} {u : Value}, Inv (cxOf CX P w K mg base N qual scope f cdv A outer s H E) [] σ' H' s' → RelV v u → Q v H' → CE outer P w H s Q u s' :=
    fun {σ' H' v u} J rv q => ⟨v, H', J.os, J.bare, J.base, J.hok, rv, q⟩
  cases fl with
  | ret u =>
    obtain ⟨v, σ', H', J, rv, q⟩ := hs
    exact fin J rv q
  | next =>
    obtain ⟨σ', H', J, q⟩ := hs
    exact fin (v := V.non) (u := Value.none) J rfl q
  | brk =>
    obtain ⟨_, _, _, q⟩ := hs
    exact False.elim q
  | cont =>
    obtain ⟨_, _, _, q⟩ := hs
    exact False.elim q
end L2
namespace L2
open PySem PySem.Spec PyProof.Rows
section
variable {X : Cx} {x : Str} {p pos : Pos} {e : Expr} {es : List Expr} {t : TA} {id T : String} {r : List V → Hp → VK → Prop}
noncomputable def tCB (r : List V → Hp → VK → Prop) (t : TA) : TE := fun σ H Q => t σ H fun vs H1 => r vs H1 Q
theorem pe_callB (hc : CallR X (.builtin id) r) (hg : Gl X x) (hm : X.mg x = none) (hv : bootBuiltins x = some (.builtin id)) (ha : PA X (e :: es) t) (hn : x ≠ "__name__" := by decide) (hdb : (x == ("__debug__" : Str)) = false := by decide)
    (he : starEach (e :: es) X.env = (false, eval e X.env) :: starEach es X.env := by rfl) (hpl : (backTo pos (starEach es X.env)).any (·.1) = false := by rfl) : PE X (.Call (.Name x p) (e :: es) [] pos) (tCB r t) := by
  intro pins s σ H Q I h
  refine wpAny_Call_Name_kw (ld_blt I hg hm hv ?_ hn hdb)
  exact PyProof.Rows.callWith_builtin1 (thn (ha pos pins s σ H _ I h) fun us s1 ⟨vs, H1, I1, r1, q1⟩ => hc pins s1 σ H1 vs us Q I1 r1 q1) he hpl
theorem pe_callTy (hc : CallR X (.type T) r) (hg : Gl X x) (hm : X.mg x = none) (hv : bootBuiltins x = some (.type T)) (ha : PA X (e :: es) t) (hn : x ≠ "__name__" := by decide) (hdb : (x == ("__debug__" : Str)) = false := by decide)
    (he : starEach (e :: es) X.env = (false, eval e X.env) :: starEach es X.env := by rfl) (hpl : (backTo pos (starEach es X.env)).any (·.1) = false := by rfl) : PE X (.Call (.Name x p) (e :: es) [] pos) (tCB r t) := by
  intro pins s σ H Q I h
  refine wpAny_Call_Name_kw (ld_blt I hg hm hv ?_ hn hdb)
  exact PyProof.Rows.callWith_type1 (thn (ha pos pins s σ H _ I h) fun us s1 ⟨vs, H1, I1, r1, q1⟩ => hc pins s1 σ H1 vs us Q I1 r1 q1) he hpl
end
end L2
namespace HT
open PySem PyProof.Rows
section
open PySem.SeqAt
open PySem.AutoSeq1 (wpAny_loadPart')
open PySem.MeetsSeq PySem.MeetsSeq2 PySem.MeetsSeq3
end
section
variable {prog : Program} {w : World} {A : Around} {E : Value → Shared → Prop} {s : Shared}
theorem cat_tup {t b : Addr} {vs ws : List Value} {Q : Value → Shared → Prop} (ht : IsTup s.heap t vs.toArray) (hb : IsTup s.heap b ws.toArray) (hv : vs ≠ [])
    (h1 : ws = [] → Q (.ref t) s) (h2 : ws ≠ [] → Q (.ref s.heap.objs.size) { s with heap := s.heap.push { cls := .type "tuple", data := .seq (vs ++ ws).toArray } })
    (hsz : vs.length + ws.length ≤ sizeLine) : wpAny (model prog w) A (binaryOp .Add (.ref t) (.ref b)) Q E s := by
  obtain ⟨⟨cls, dd, data, sl⟩, ho, hc, n, hd⟩ := id ht
  obtain ⟨⟨cls2, dd2, data2, sl2⟩, ho2, hc2, n2, hd2⟩ := id hb
  simp only at hc hd hc2 hd2
  subst hc hd hc2 hd2
  have e : vs.toArray ++ ws.toArray = (vs ++ ws).toArray := by simp
  by_cases hw : ws = []
  · exact concat_meets ⟨_, ho, rfl⟩ ⟨_, ho2, rfl⟩ noFill_tuple_add seq_tuple_add PySem.F.slot_tuple_add PySem.F.entry_tuple_add (PySem.F.args_tuple_add_2 _ _)
      (tuple_addW1 t b vs.toArray ws.toArray n n2 dd dd2 sl sl2 (by simpa using hv) (by simp [hw])) ⟨ho, ho2, h1 hw⟩
  · refine concat_meets ⟨_, ho, rfl⟩ ⟨_, ho2, rfl⟩ noFill_tuple_add seq_tuple_add PySem.F.slot_tuple_add PySem.F.entry_tuple_add (PySem.F.args_tuple_add_2 _ _)
      (tuple_addW2 t b vs.toArray ws.toArray n n2 dd dd2 sl sl2 (by simpa using hv) (by simpa using hw) (by rw [List.size_toArray, List.size_toArray]; exact hsz)) ⟨ho, ho2, ?_⟩
    rw [e]
    exact h2 hw
noncomputable def sIx (n d : Nat) : Option Int → Nat
  | none => d
  | some v => if v < 0 then (v + (n : Int)).toNat else min v.toNat n
theorem sIx_le (n d : Nat) (hd : d ≤ n) (o : Option Int) : sIx n d o ≤ n := by
  cases o with
  | none => exact hd
  | some v =>
    show (if v < 0 then (v + (n : Int)).toNat else min v.toNat n) ≤ n
    by_cases hv : v < 0
    · rw [if_pos hv]; omega
    · rw [if_neg hv]; exact Nat.min_le_right _ _
theorem clip_eq (v : Int) (n d : Nat) : (if v < 0 then max (v + (n : Int)) 0 else min v (n : Int)) = ((sIx n d (some v) : Nat) : Int) := by
  show (if v < 0 then max (v + (n : Int)) 0 else min v (n : Int)) = (((if v < 0 then (v + (n : Int)).toNat else min v.toNat n) : Nat) : Int)
  by_cases hv : v < 0
  · simp only [if_pos hv]; omega
  · simp only [if_neg hv]; omega
theorem adjust_gen (lo hi : Option Int) (n : Nat) : Builtin.Slice.sliceAdjust lo hi 1 (n : Int) = (((sIx n 0 lo : Nat) : Int), ((sIx n n hi : Nat) : Int)) := by
  have h1 : ¬ ((1 : Int) < 0) := by omega
  unfold Builtin.Slice.sliceAdjust
  simp only [h1, if_false]
  refine Prod.ext ?_ ?_
  · cases lo with
    | none => rfl
    | some v => exact clip_eq v n 0
  · cases hi with
    | none => rfl
    | some v => exact clip_eq v n n
theorem places_gen (i j : Nat) : Builtin.Slice.slicePlaces (i : Int) (j : Int) 1 = j - i := by
  unfold Builtin.Slice.slicePlaces
  have h1 : (1 : Int) > 0 := by omega
  simp only [h1, if_true, Int.ediv_one]
  split <;> omega
theorem slicePart_ {v : Value} {o : Option Int} {Q : Option Int → Shared → Prop} (p : IsPart v o) (h : Q o s) : wpAny (model prog w) A (Builtin.Slice.slicePartIndex v) Q E s := by
  cases p with
  | none => exact slicePart_none h
  | int i t => exact slicePart_int h
theorem sliceApplied_gen {sl : Addr} {vl vu : Value} {lo hi : Option Int} {n : Nat} {Q : Int × Int × Nat → Shared → Prop} (hs : s.heap.IsSliceOf sl vl vu .none) (pl : IsPart vl lo) (pu : IsPart vu hi)
    (h : Q (((sIx n 0 lo : Nat) : Int), 1, sIx n n hi - sIx n 0 lo) s) : wpAny (model prog w) A (Builtin.Slice.sliceApplied (.ref sl) (pure (n : Int))) Q E s := by
  obtain ⟨os, hos, hcs, hds⟩ := id hs
  unfold Builtin.Slice.sliceApplied Builtin.Slice.sliceFields
  refine wpAny_bind (wpAny_bind (wpAny_field hos hds (x := vl) rfl (wpAny_bind (wpAny_field hos hds (x := vu) rfl (wpAny_bind (wpAny_field hos hds (x := .none) rfl (wpAny_pure ?_)))))))
  refine wpAny_bind (slicePart_none ?_)
  show wpAny _ _ (if ((1 : Int) == 0) = true then _ else _) _ _ s
  rw [if_neg (by decide)]
  refine wpAny_bind (slicePart_ pl (wpAny_bind (slicePart_ pu (wpAny_bind (wpAny_pure ?_)))))
  show wpAny _ _ (match Builtin.Slice.sliceAdjust lo hi 1 (n : Int) with | (lo, hi) => pure (lo, (1 : Int), Builtin.Slice.slicePlaces lo hi 1)) _ _ s
  rw [adjust_gen lo hi n]
  show wpAny _ _ (pure (((sIx n 0 lo : Nat) : Int), (1 : Int), Builtin.Slice.slicePlaces ((sIx n 0 lo : Nat) : Int) ((sIx n n hi : Nat) : Int) 1)) _ _ s
  rw [places_gen]
  exact wpAny_pure h
theorem pick_gen (xs : Array Value) (i k : Nat) : ((List.range k).filterMap fun (m : Nat) => xs[((i : Int) + (m : Int) * 1).toNat]?).toArray = ((xs.toList.drop i).take k).toArray := by
  have e : (fun (m : Nat) => xs[((i : Int) + (m : Int) * 1).toNat]?) = fun m => xs[i + m]? := by
    funext m
    have : ((i : Int) + (m : Int) * 1).toNat = i + m := by omega
    rw [this]
  rw [e]
  have := pick_run xs i k
  rw [List.filterMap_map] at this
  have e2 : ((fun x => xs[x]?) ∘ fun x => i + x) = fun m => xs[i + m]? := rfl
  rw [e2] at this
  rw [this]
theorem getItem_tuple_cut {t sl : Addr} {items : Array Value} {vl vu : Value} {lo hi : Option Int} {Q : Value → Shared → Prop} (ht : IsTup s.heap t items) (hs : s.heap.IsSliceOf sl vl vu .none) (pl : IsPart vl lo) (pu : IsPart vu hi)
    (hw : ¬ (sIx items.size 0 lo = 0 ∧ sIx items.size items.size hi = items.size))
    (h : Q (.ref s.heap.objs.size) { s with heap := s.heap.push { cls := .type "tuple", data := .seq ((items.toList.drop (sIx items.size 0 lo)).take (sIx items.size items.size hi - sIx items.size 0 lo)).toArray } })
    (hsz : items.size ≤ sizeLine) : wpAny (model prog w) A (getItem (.ref t) (.ref sl)) Q E s := by
  have htake : sizeOk (.seq ((items.toList.drop (sIx items.size 0 lo)).take (sIx items.size items.size hi - sIx items.size 0 lo)).toArray) := by
    show ((items.toList.drop (sIx items.size 0 lo)).take (sIx items.size items.size hi - sIx items.size 0 lo)).toArray.size ≤ sizeLine
    rw [List.size_toArray, List.length_take, List.length_drop, Array.length_toList]
    omega
  have hj : sIx items.size items.size hi ≤ items.size := sIx_le _ _ (Nat.le_refl _) hi
  obtain ⟨os, hos, hcs, hds⟩ := id hs
  have hTs : s.TypeIs (.ref sl) "slice" := ⟨os, hos, hcs⟩
  unfold getItem
  try with_reducible refine wpAny_holding ?_
  first | refine wpAny_bind (wpAny_pure ?_) | skip
  refine wpAny_bind (wpAny_sequenceKey ht.typeIs (by decide) ?_)
  refine wpAny_bind (wpAny_callSpecial?_slot (name := Str.ofString "__getitem__") ht.typeIs PyProof.Rows.slot_tuple_getitem
    (wpAny_call_entry PyProof.Rows.slot_tuple_getitem ht.typeIs entry_tuple_getitem ?_ (args_tuple_getitem _ _)))
  show wpAny _ _ (Builtin.Tuple.tupleItemsOf (.ref t) >>= _) _ _ s
  refine wpAny_bind (tupleItemsOf_ ht ?_)
  refine wpAny_bind (wpAny_typeOf hTs ?_)
  rw [if_pos (by decide)]
  refine wpAny_bind (sliceApplied_gen hs pl pu ?_)
  have hno : ¬ ((((sIx items.size 0 lo : Nat) : Int) == 0 && (1 : Int) == 1 && (sIx items.size items.size hi - sIx items.size 0 lo) == items.size) = true) := by
    intro q
    rw [Bool.and_eq_true, Bool.and_eq_true] at q
    have q1 : ((sIx items.size 0 lo : Nat) : Int) = 0 := eq_of_beq q.1.1
    have q2 : sIx items.size items.size hi - sIx items.size 0 lo = items.size := eq_of_beq q.2
    exact hw ⟨by omega, by omega⟩
  show wpAny _ _ (if (((sIx items.size 0 lo : Nat) : Int) == 0 && (1 : Int) == 1 && (sIx items.size items.size hi - sIx items.size 0 lo) == items.size) = true then _ else _) _ _ s
  rw [if_neg hno, pick_gen]
  first
    | exact wpAny_bind (m := Builtin.Tuple.tupleExact _) (wpAny_newObj_type (wpAny_pure ⟨_, rfl, wpAny_pure h⟩) htake)
    | exact wpAny_bind (m := Builtin.Tuple.tupleExact _) (wpAny_newObj_type (wpAny_bind (wpAny_pure (wpAny_pure ⟨_, rfl, wpAny_pure h⟩))) htake)
    | exact wpAny_bind (wpAny_bind (m := Builtin.Tuple.tupleExact _) (wpAny_newObj_type (wpAny_pure (wpAny_pure ⟨_, rfl, wpAny_pure h⟩)) htake))
    | exact wpAny_bind (wpAny_bind (m := Builtin.Tuple.tupleExact _) (wpAny_newObj_type (wpAny_pure ⟨_, rfl, wpAny_pure h⟩) htake))
end
end HT
namespace L2
open PySem PySem.Spec PyProof.Rows
noncomputable abbrev TO := St → Hp → (Option Int → Hp → Prop) → Prop
noncomputable def PO (X : Cx) (e : Option Expr) (t : TO) : Prop :=
  ∀ (pins : List (Addr × Obj)) (s : Shared) (σ : St) (H : Hp) (Q : Option Int → Hp → Prop), Inv X pins σ H s → t σ H Q →
    wpAny (model X.prog X.w) X.A (evalPart e X.env) (fun u s' => ∃ o H', Inv X pins σ H' s' ∧ IsPart u o ∧ Q o H') X.xe s
noncomputable def tNoPart : TO := fun _ H Q => Q none H
noncomputable def tPart (t : TE) : TO := fun σ H Q => t σ H fun x H1 => ∃ i, x = .int i ∧ Q (some i) H1
section
variable {X : Cx} {e : Expr} {te : TE} {lo hi : Option Expr} {tl th : TO} {pos p2 : Pos}
theorem po_none : PO X none tNoPart := by
  intro pins s σ H Q I h
  rw [evalPart_none]
  exact wpAny_pure ⟨none, H, I, .none, h⟩
theorem po_some (h : PE X e te) : PO X (some e) (tPart te) := by
  intro pins s σ H Q I hw
  rw [evalPart_some]
  refine thn (h pins s σ H _ I hw) fun u s1 ⟨x, H1, I1, r1, q1⟩ => ?_
  obtain ⟨i, rfl, q⟩ := q1
  obtain ⟨t, rfl⟩ := r1
  exact ⟨some i, H1, I1, .int i t, q⟩
noncomputable def SlR (X : Cx) (r : V → Option Int → Option Int → Hp → VK → Prop) : Prop :=
  ∀ (pins : List (Addr × Obj)) (s : Shared) (σ : St) (H : Hp) (x : V) (v vl vu : Value) (lo hi : Option Int) (sl : Addr) (Q : VK), Inv X pins σ H s → RelV x v → s.heap.IsSliceOf sl vl vu .none → IsPart vl lo → IsPart vu hi → r x lo hi H Q →
    ∃ T id, typeLookup (.type T) "__getitem__" = pure (some (.builtin id)) ∧ s.TypeIs v T ∧ wpAny (model X.prog X.w) X.A (getItem v (.ref sl)) (EP X pins σ Q) X.xe s
noncomputable def tSl (r : V → Option Int → Option Int → Hp → VK → Prop) (te : TE) (tl th : TO) : TE := fun σ H Q => te σ H fun x H1 => tl σ H1 fun l H2 => th σ H2 fun u H3 => r x l u H3 Q
theorem pe_slice {r : V → Option Int → Option Int → Hp → VK → Prop} (hr : SlR X r) (he : PE X e te) (hl : PO X lo tl) (hu : PO X hi th) : PE X (.Subscript e (.Slice lo hi none p2) pos) (tSl r te tl th) := by
  intro pins s σ H Q I h
  refine Subscript_ (thn (he pins s σ H _ I h) fun v s1 ⟨x, H1, I1, r1, q1⟩ => ?_)
  refine wpAny_Slice (thn (hl pins s1 σ H1 _ I1 q1) fun vl s2 ⟨l, H2, I2, pl, q2⟩ => thn (hu pins s2 σ H2 _ I2 q2) fun vu s3 ⟨u, H3, I3, pu, q3⟩ => ?_)
  rw [evalPart_none]
  refine wpAny_pure ?_
  have I4 : Inv X pins σ H3 { s3 with heap := s3.heap.push { cls := .type "slice", data := .fields #[vl, vu, .none] } } := I3.kept (t' := s3.toks) fun b ob q => Heap.get?_push_of_some _ q
  obtain ⟨T, id, hT, ht, hg⟩ := hr pins { s3 with heap := s3.heap.push { cls := .type "slice", data := .fields #[vl, vu, .none] } } σ H3 x v vl vu l u s3.heap.objs.size Q I4 r1 (Heap.IsSliceOf.new ..) pl pu q3
  show wpAny (model X.prog X.w) X.A (subscriptTail e (.Slice lo hi none p2) v (.ref s3.heap.objs.size)) (EP X pins σ Q) X.xe { s3 with heap := s3.heap.push { cls := .type "slice", data := .fields #[vl, vu, .none] } }
  exact tail_any (ops := [.ref s3.heap.objs.size, v]) ht hT hg (by with_unfolding_all rfl)
noncomputable def cutV (xs : List V) (lo hi : Option Int) : List V := (xs.drop (HT.sIx xs.length 0 lo)).take (HT.sIx xs.length xs.length hi - HT.sIx xs.length 0 lo)
theorem cutV_length (xs : List V) (lo hi : Option Int) : (cutV xs lo hi).length ≤ xs.length := by
  unfold cutV
  rw [List.length_take, List.length_drop]
  omega
noncomputable def rSlT (K : PySem.W.Frag) : V → Option Int → Option Int → Hp → VK → Prop := fun x lo hi H Q => ∃ a xs, x = .ref a ∧ SqT K H a xs ∧
  ¬ (HT.sIx xs.length 0 lo = 0 ∧ HT.sIx xs.length xs.length hi = xs.length) ∧ ∀ p, H p = none → Q (.ref p) (upd H p (.tup (cutV xs lo hi)))
theorem sl_tup : SlR X (rSlT X.K) := by
  intro pins s σ H x v vl vu lo hi sl Q I rx hs pl pu h
  obtain ⟨a, xs, rfl, hx, hw, q⟩ := h
  cases rx
  obtain ⟨its, r, ht, hz⟩ := I.tuple hx
  have hlen : its.toArray.size = xs.length := by rw [List.size_toArray]; exact r.length.symm
  refine ⟨"tuple", _, PyProof.Rows.slot_tuple_getitem.lookup, ht.typeIs, ?_⟩
  refine HT.getItem_tuple_cut ht hs pl pu (by rw [hlen]; exact hw) ?_ (by rw [hlen]; exact hz)
  rw [hlen]
  refine ⟨.ref s.heap.objs.size, _, I.laid (t' := s.toks) (o := .tup (cutV xs lo hi)) (fun b ob q => Heap.get?_push_of_some _ q) (Nat.le_refl _) ?_, rfl, q _ (I.hok.fresh (Nat.le_refl _))⟩
  exact ⟨Nat.le_trans (cutV_length xs lo hi) hz, _, (r.drop (HT.sIx xs.length 0 lo)).take (HT.sIx xs.length xs.length hi - HT.sIx xs.length 0 lo), IsTup.new _ _⟩
noncomputable def rCatT (K : PySem.W.Frag) : R2 := fun x y H Q => ∃ a b xs ys, x = .ref a ∧ y = .ref b ∧ SqT K H a xs ∧ SqT K H b ys ∧ xs ≠ [] ∧ xs.length + ys.length ≤ sizeLine ∧
  (ys = [] → Q (.ref a) H) ∧ (ys ≠ [] → ∀ p, H p = none → Q (.ref p) (upd H p (.tup (xs ++ ys))))
theorem Vals.nil_iff {xs : List V} {us : List Value} (r : Vals xs us) : us = [] ↔ xs = [] := by
  cases r with
  | nil => simp
  | cons _ _ => simp
theorem op_catT : OpR X (binaryOp .Add) (rCatT X.K) := by
  intro pins s σ H x y v u Q I rx ry h
  obtain ⟨a, b, xs, ys, rfl, rfl, ha, hb, hx, hz, q1, q2⟩ := h
  cases rx
  cases ry
  obtain ⟨its, r1, p1, _⟩ := I.tuple ha
  obtain ⟨its2, r2, p2, _⟩ := I.tuple hb
  refine HT.cat_tup p1 p2 (fun z => hx (r1.nil_iff.mp z)) (fun z => ⟨.ref a, H, I, rfl, q1 (r2.nil_iff.mp z)⟩) (fun z => ?_) (by rw [← r1.length, ← r2.length]; exact hz)
  refine ⟨.ref s.heap.objs.size, _, I.laid (t' := s.toks) (o := .tup (xs ++ ys)) (fun b ob q => Heap.get?_push_of_some _ q) (Nat.le_refl _) ?_, rfl, q2 (fun w => z (r2.nil_iff.mpr w)) _ (I.hok.fresh (Nat.le_refl _))⟩
  exact ⟨by rw [List.length_append]; exact hz, _, r1.append r2, IsTup.new _ _⟩
end
end L2
namespace L2
open PySem PySem.Spec PyProof.Rows
noncomputable def ixN (n : Nat) (i : Int) : Option Nat := if 0 ≤ i then (if i < n then some i.toNat else none) else if -(n : Int) ≤ i then some (i + n).toNat else none
noncomputable def atI {α : Type} (xs : List α) (i : Int) : Option α := (ixN xs.length i).bind fun j => xs[j]?
theorem ixN_seq {n : Nat} {i : Int} {j : Nat} (h : ixN n i = some j) : seqIndex? i n = some j ∧ j < n ∧ -(n : Int) ≤ i ∧ i < n := by
  unfold ixN at h
  by_cases h0 : 0 ≤ i
  · rw [if_pos h0] at h
    by_cases h1 : i < n
    · rw [if_pos h1] at h
      have e : i.toNat = j := Option.some.inj h
      exact ⟨by rw [seqIndex_of h0 h1, e], by omega, by omega, h1⟩
    · rw [if_neg h1] at h; cases h
  · rw [if_neg h0] at h
    by_cases h1 : -(n : Int) ≤ i
    · rw [if_pos h1] at h
      have e : (i + n).toNat = j := Option.some.inj h
      exact ⟨by rw [seqIndex_neg (by omega) h1, e], by omega, h1, by omega⟩
    · rw [if_neg h1] at h; cases h
theorem atI_get {α : Type} {xs : List α} {i : Int} {v : α} (h : atI xs i = some v) : ∃ j, seqIndex? i xs.length = some j ∧ xs[j]? = some v ∧ j < xs.length ∧ -(xs.length : Int) ≤ i ∧ i < xs.length := by
  unfold atI at h
  cases e : ixN xs.length i with
  | none => rw [e] at h; cases h
  | some j =>
    rw [e] at h
    obtain ⟨h1, h2, h3, h4⟩ := ixN_seq e
    exact ⟨j, h1, h, h2, h3, h4⟩
noncomputable def PlainIx (b : Expr) : Prop := ∀ o i, subscripted b false o i = operate [o, i] (getItem o i)
noncomputable def IxR (X : Cx) (r : R2) : Prop :=
  ∀ (value slice : Expr) (pins : List (Addr × Obj)) (s : Shared) (σ : St) (H : Hp) (x y : V) (v u : Value) (Q : VK), Inv X pins σ H s → RelV x v → RelV y u → r x y H Q →
    subscripted slice false v u = operate [v, u] (getItem v u) → wpAny (model X.prog X.w) X.A (subscriptTail value slice v u) (EP X pins σ Q) X.xe s
noncomputable def MtR (X : Cx) (id : String) (r : V → List V → Hp → VK → Prop) : Prop :=
  ∀ (pins : List (Addr × Obj)) (s : Shared) (σ : St) (H : Hp) (x : V) (xs : List V) (v : Value) (us : List Value) (Q : VK), Inv X pins σ H s → RelV x v → Vals xs us → r x xs H Q →
    wpAny (model X.prog X.w) X.A (call (.builtin id) (v :: us)) (EP X pins σ Q) X.xe s
section
variable {X : Cx} {a b : Expr} {ta tb : TE} {pos : Pos}
theorem pe_ix {r : R2} (hr : IxR X r) (ha : PE X a ta) (hb : PE X b tb) (hs : PlainIx b) : PE X (.Subscript a b pos) (tOp r ta tb) := by
  intro pins s σ H Q I h
  exact Subscript_ (binT ha hb I h fun v u s2 x y H2 I2 rx ry q => hr a b pins s2 σ H2 x y v u Q I2 rx ry q (hs _ _))
noncomputable def rIxL (K : PySem.W.Frag) : R2 := fun x y H Q => ∃ p xs i v, x = .ref p ∧ y = .int i ∧ SqL K H p xs ∧ atI xs i = some v ∧ Q v H
noncomputable def rIxT (K : PySem.W.Frag) : R2 := fun x y H Q => ∃ p xs i v, x = .ref p ∧ y = .int i ∧ SqT K H p xs ∧ atI xs i = some v ∧ Q v H
noncomputable def rIxS : R2 := fun x y H Q => ∃ z i c, x = .str z ∧ y = .int i ∧ z.length ≤ sizeLine ∧ atI z.cps.toList i = some c ∧ Q (.str ⟨#[c]⟩) H
theorem ix_list : IxR X (rIxL X.K) := by
  intro value slice pins s σ H x y v u Q I rx ry h hs
  obtain ⟨p, xs, i, z, rfl, rfl, hq, he, q⟩ := h
  cases rx
  obtain ⟨t, rfl⟩ := ry
  obtain ⟨its, r, pl, hz⟩ := I.list hq
  obtain ⟨j, h1, h2, h3, h4, h5⟩ := atI_get he
  obtain ⟨w, ew, rw'⟩ := r.get h2
  have hl := r.length
  have hn := line63
  have fin : EP X pins σ Q w s := ⟨z, H, I, rw', q⟩
  by_cases h0 : 0 ≤ i
  · have hj : i.toNat = j := by
      rw [seqIndex_of h0 h5] at h1
      exact Option.some.inj h1
    exact item_listR pl.isList h0 (by omega) (by rw [hj]; simpa using ew) fin hs
  · have hj : (i + (its.toArray.size : Int)).toNat = j := by
      rw [seqIndex_neg (by omega) h4] at h1
      rw [List.size_toArray, ← hl]
      exact Option.some.inj h1
    exact subscriptTail_builtinR (x := w) pl.isList.typeIs slot_list_getitem.lookup
      (wpAny_getItem_list_neg (Q := fun r s' => r = w ∧ EP X pins σ Q r s') pl.isList (by omega) (by rw [List.size_toArray] <;> omega) (by omega) (by rw [hj]; simpa using ew) ⟨rfl, fin⟩) hs
theorem ix_tup : IxR X (rIxT X.K) := by
  intro value slice pins s σ H x y v u Q I rx ry h hs
  obtain ⟨p, xs, i, z, rfl, rfl, hq, he, q⟩ := h
  cases rx
  obtain ⟨t, rfl⟩ := ry
  obtain ⟨its, r, pl, hz⟩ := I.tuple hq
  obtain ⟨j, h1, h2, h3, h4, h5⟩ := atI_get he
  obtain ⟨w, ew, rw'⟩ := r.get h2
  have hl := r.length
  have hn := line63
  have fin : EP X pins σ Q w s := ⟨z, H, I, rw', q⟩
  exact subscriptTail_builtinR (x := w) pl.typeIs slot_tuple_getitem.lookup
    (getItem_tuple (j := j) (Q := fun r s' => r = w ∧ EP X pins σ Q r s') pl (by omega) (by omega) (by rw [List.size_toArray, ← hl]; exact h1) (by simpa using ew) ⟨rfl, fin⟩) hs
theorem ix_str : IxR X rIxS := by
  intro value slice pins s σ H x y v u Q I rx ry h hs
  obtain ⟨z, i, c, rfl, rfl, hz, he, q⟩ := h
  obtain ⟨t, rfl⟩ := rx
  obtain ⟨t', rfl⟩ := ry
  obtain ⟨j, h1, h2, h3, h4, h5⟩ := atI_get he
  have hl : z.cps.toList.length = z.length := by simp [Str.length]
  rw [hl] at h1 h4 h5
  have hn := line63
  exact tail_any (typeIs_str s z t) slot_str_getitem.lookup (getItem_str (c := c) (by
    have e1 : decide (i < -(2 ^ 63 : Int)) = false := decide_eq_false (by omega)
    have e2 : decide (i ≥ 2 ^ 63) = false := decide_eq_false (by omega)
    rw [e1, e2, Bool.or_false]) (by rw [h1]; simpa using h2) ⟨.str ⟨#[c]⟩, H, I.tok _, ⟨_, rfl⟩, q⟩) hs
theorem mapSeq_set (its : List Value) (n j : Nat) (u : Value) : Obj.mapSeq (·.setIfInBounds j u) { cls := .type "list", data := .seq its.toArray n } = { cls := .type "list", data := .seq (its.set j u).toArray n } := by
  simp [Obj.mapSeq]
theorem Inv.lst {pins : List (Addr × Obj)} {σ : St} {H : Hp} {s : Shared} {p : Addr} {xs : List V} (I : Inv X pins σ H s) (h : H p = some (.lst xs)) :
    ∃ (its : List Value) (n : Nat), Vals xs its ∧ s.heap.get? p = some { cls := .type "list", data := .seq its.toArray n } ∧ xs.length ≤ sizeLine := by
  obtain ⟨z, its, n, r, e⟩ := I.hok p _ h
  exact ⟨its, n, r, e, z⟩
theorem Inv.lstUpd {pins : List (Addr × Obj)} {σ : St} {H : Hp} {s : Shared} {p : Addr} {xs ys : List V} {its its' : List Value} {n n' : Nat} {f : Obj → Obj} (I : Inv X pins σ H s) (h : H p = some (.lst xs))
    (ho : s.heap.get? p = some { cls := .type "list", data := .seq its.toArray n }) (hf : f { cls := .type "list", data := .seq its.toArray n } = { cls := .type "list", data := .seq its'.toArray n' }) (r : Vals ys its') (hz : ys.length ≤ sizeLine) (t : Nat) :
    Inv X pins σ (upd H p (.lst ys)) { s with heap := s.heap.update p f, toks := t } := by
  have e : (s.heap.update p f).get? p = some { cls := .type "list", data := .seq its'.toArray n' } := by
    rw [Heap.get?_update_self f ho (by rw [hf] <;> rfl), hf]
  refine I.write (x := p) (e := p) (by rw [h]; trivial) (.inl rfl) (fun b u hb q => (Heap.get?_update_other _ _ (Ne.symm hb)).trans q) ⟨_, e⟩ ?_
  exact ⟨hz, its', n', r, e⟩
noncomputable def rSetL : V → V → V → Hp → (Hp → Prop) → Prop := fun o i v H Q => ∃ p xs k j, o = .ref p ∧ i = .int k ∧ H p = some (.lst xs) ∧ ixN xs.length k = some j ∧ Q (upd H p (.lst (xs.set j v)))
theorem set_list : PSet X rSetL := by
  intro pins s σ H o i v ov iv u Q I ro ri rv h
  obtain ⟨p, xs, k, j, rfl, rfl, hp, hj, q⟩ := h
  cases ro
  obtain ⟨t, rfl⟩ := ri
  obtain ⟨its, n, r, ho, hz⟩ := I.lst hp
  obtain ⟨h1, h2, h3, h4⟩ := ixN_seq hj
  have hl := r.length
  have hn := line63
  have I' : Inv X pins σ (upd H p (.lst (xs.set j v))) { s with heap := s.heap.update p (Obj.mapSeq (·.setIfInBounds j u)) } :=
    I.lstUpd hp ho (mapSeq_set its n j u) (r.set rv j) (by rw [List.length_set]; exact hz) s.toks
  by_cases h0 : 0 ≤ k
  · have hk : k.toNat = j := by
      rw [seqIndex_of h0 h4] at h1
      exact Option.some.inj h1
    exact PySem.W.ki_setAt ho h0 (by omega) (by rw [List.size_toArray, ← hl]; exact h4) (by rw [hk]; exact ⟨_, I', q⟩)
  · have hk : (k + (its.toArray.size : Int)).toNat = j := by
      rw [seqIndex_neg (by omega) h3] at h1
      rw [List.size_toArray, ← hl]
      exact Option.some.inj h1
    exact PySem.W.ki_setBack ho (by omega) (by rw [List.size_toArray, ← hl]; exact h3) (by omega) (by rw [hk]; exact ⟨_, I', q⟩)
theorem slice_bounds (lo hi : Option Int) (n : Nat) : (sliceBounds lo hi none n).1 = ((HT.sIx n 0 lo : Nat) : Int) ∧ (sliceBounds lo hi none n).2.1 = ((HT.sIx n n hi : Nat) : Int) ∧ (sliceBounds lo hi none n).2.2 = 1 := by
  refine ⟨?_, ?_, rfl⟩
  · cases lo with
    | none => simp [sliceBounds, HT.sIx]
    | some i =>
      simp only [sliceBounds, HT.sIx, Option.getD_none, show (1 : Int) > 0 by decide, if_true]
      by_cases h : i < 0
      · simp only [h, if_true] <;> omega
      · simp only [h, if_false] <;> omega
  · cases hi with
    | none => simp [sliceBounds, HT.sIx]
    | some i =>
      simp only [sliceBounds, HT.sIx, Option.getD_none, show (1 : Int) > 0 by decide, if_true]
      by_cases h : i < 0
      · simp only [h, if_true] <;> omega
      · simp only [h, if_false] <;> omega
theorem slicePick_cut (its : List Value) (lo hi : Option Int) : slicePick its.toArray lo hi none = ((its.drop (HT.sIx its.length 0 lo)).take (HT.sIx its.length its.length hi - HT.sIx its.length 0 lo)).toArray := by
  obtain ⟨h1, h2, h3⟩ := slice_bounds lo hi its.toArray.size
  unfold slicePick
  rw [h1, h2, h3]
  simp only [sliceRange_one, pick_run, List.size_toArray] <;> rfl
noncomputable def rSlL (K : PySem.W.Frag) : V → Option Int → Option Int → Hp → VK → Prop := fun x lo hi H Q => ∃ a xs, x = .ref a ∧ SqL K H a xs ∧ ∀ p, H p = none → Q (.ref p) (upd H p (.lst (cutV xs lo hi)))
theorem sl_list : SlR X (rSlL X.K) := by
  intro pins s σ H x v vl vu lo hi sl Q I rx hs pl pu h
  obtain ⟨a, xs, rfl, hx, q⟩ := h
  cases rx
  obtain ⟨its, r, ht, hz⟩ := I.list hx
  have hlen := r.length
  refine ⟨"list", _, slot_list_getitem.lookup, ht.isList.typeIs, ?_⟩
  refine wpAny_getItem_list_slice ht.isList hs pl pu .none (by simp) ?_ (by rw [List.size_toArray] <;> omega)
  rw [slicePick_cut, ← hlen]
  refine ⟨.ref s.heap.objs.size, _, I.laid (t' := s.toks) (o := .lst (cutV xs lo hi)) (fun b ob q => Heap.get?_push_of_some _ q) (Nat.le_refl _) ?_, rfl, q _ (I.hok.fresh (Nat.le_refl _))⟩
  exact ⟨Nat.le_trans (cutV_length xs lo hi) hz, _, 0, (r.drop (HT.sIx xs.length 0 lo)).take (HT.sIx xs.length xs.length hi - HT.sIx xs.length 0 lo), Heap.get?_push_size _ rfl⟩
noncomputable def flatV : V → Bool
  | .non => true
  | .bl _ => true
  | .int _ => true
  | .str _ => true
  | _ => false
noncomputable def eqV : V → V → Bool
  | .non, .non => true
  | .bl a, .bl b => a == b
  | .bl a, .int b => (if a then 1 else 0) == b
  | .int a, .bl b => a == (if b then 1 else 0)
  | .int a, .int b => a == b
  | .str a, .str b => a == b
  | _, _ => false
theorem eqAt_V {A : Around} {s : Shared} {y x : V} {u v : Value} (ry : RelV y u) (rx : RelV x v) (fy : flatV y = true) (fx : flatV x = true) : SeqAt.EqAt A s u v (eqV y x) := by
  cases y with
  | non =>
    cases ry
    cases x with
    | non => cases rx; exact SeqAt.EqAt.same _
    | bl b => cases rx; exact SeqAt.EqAt.none_bool b
    | int b => obtain ⟨t, rfl⟩ := rx; exact SeqAt.EqAt.none_int b t
    | str b => obtain ⟨t, rfl⟩ := rx; exact SeqAt.EqAt.none_str b t
    | _ => exact absurd (show false = true from fx) Bool.false_ne_true
  | bl a =>
    cases ry
    cases x with
    | non => cases rx; exact SeqAt.EqAt.bool_none a
    | bl b => cases rx; exact SeqAt.EqAt.bool_bool a b
    | int b => obtain ⟨t, rfl⟩ := rx; exact SeqAt.EqAt.bool_int a b t
    | str b => obtain ⟨t, rfl⟩ := rx; exact SeqAt.EqAt.bool_str a b t
    | _ => exact absurd (show false = true from fx) Bool.false_ne_true
  | int a =>
    obtain ⟨t', rfl⟩ := ry
    cases x with
    | non => cases rx; exact SeqAt.EqAt.int_none a t'
    | bl b => cases rx; exact SeqAt.EqAt.int_bool a t' b
    | int b => obtain ⟨t, rfl⟩ := rx; exact SeqAt.EqAt.int_int a t' b t
    | str b => obtain ⟨t, rfl⟩ := rx; exact SeqAt.EqAt.int_str a t' b t
    | _ => exact absurd (show false = true from fx) Bool.false_ne_true
  | str a =>
    obtain ⟨t', rfl⟩ := ry
    cases x with
    | non => cases rx; exact SeqAt.EqAt.str_none a t'
    | bl b => cases rx; exact SeqAt.EqAt.str_bool a t' b
    | int b => obtain ⟨t, rfl⟩ := rx; exact SeqAt.EqAt.str_int a t' b t
    | str b => obtain ⟨t, rfl⟩ := rx; exact SeqAt.EqAt.str_str a t' b t
    | _ => exact absurd (show false = true from fx) Bool.false_ne_true
  | _ => exact absurd (show false = true from fy) Bool.false_ne_true
noncomputable def eqU (x : V) (u : Value) : Bool := match u with
  | .none => eqV .non x
  | .bool b => eqV (.bl b) x
  | .int i _ => eqV (.int i) x
  | .str z _ => eqV (.str z) x
  | _ => false
theorem eqU_of {x y : V} {u : Value} (r : RelV y u) (f : flatV y = true) : eqU x u = eqV y x := by
  cases y with
  | non => cases r; rfl
  | bl b => cases r; rfl
  | int i => obtain ⟨t, rfl⟩ := r; rfl
  | str z => obtain ⟨t, rfl⟩ := r; rfl
  | _ => exact absurd (show false = true from f) Bool.false_ne_true
theorem any_eqU {x : V} : ∀ {xs : List V} {us : List Value}, Vals xs us → xs.all flatV = true → us.any (eqU x) = xs.any fun y => eqV y x
  | _, _, .nil, _ => rfl
  | y :: xs, u :: us, .cons r t, f => by
    rw [List.all_cons, Bool.and_eq_true] at f
    rw [List.any_cons, List.any_cons, eqU_of r f.1, any_eqU t f.2]
theorem mem_eqAt {A : Around} {s : Shared} {x : V} {v : Value} (rx : RelV x v) (fx : flatV x = true) : ∀ {xs : List V} {us : List Value}, Vals xs us → xs.all flatV = true → ∀ u ∈ us, SeqAt.EqAt A s u v (eqU x u)
  | _, _, .nil, _ => fun u hu => by cases hu
  | y :: xs, u :: us, .cons r t, f => fun u' hu => by
    rw [List.all_cons, Bool.and_eq_true] at f
    rcases List.mem_cons.mp hu with rfl | hu
    · rw [eqU_of r f.1]; exact eqAt_V r rx f.1 fx
    · exact mem_eqAt rx fx t f.2 u' hu
noncomputable def inV (x : V) (xs : List V) : Bool := xs.any fun y => eqV y x
noncomputable def rIn (K : PySem.W.Frag) (neg : Bool) : R2 := fun x y H Q => ∃ p xs, y = .ref p ∧ (SqL K H p xs ∨ SqT K H p xs) ∧ flatV x = true ∧ xs.all flatV = true ∧ Q (.bl (if neg then !inV x xs else inV x xs)) H
theorem op_in_seq : OpR X (compareOp .In) (rIn X.K false) := by
  intro pins s σ H x y v u Q I rx ry h
  obtain ⟨p, xs, rfl, hq, fx, fs, q⟩ := h
  cases ry
  rcases hq with hq | hq
  · obtain ⟨its, r, pl, hz⟩ := I.list hq
    refine SeqAt.in_listAt (eqU x) pl.isList (fun w hw => mem_eqAt rx fx r fs w (by simpa using hw)) ⟨.bl _, H, I, rfl, ?_⟩
    rw [show its.toArray.any (eqU x) = its.any (eqU x) by simp, any_eqU r fs]
    exact q
  · obtain ⟨its, r, pl, hz⟩ := I.tuple hq
    refine SeqAt.in_tupleAt (eqU x) pl (fun w hw => mem_eqAt rx fx r fs w (by simpa using hw)) ⟨.bl _, H, I, rfl, ?_⟩
    rw [show its.toArray.any (eqU x) = its.any (eqU x) by simp, any_eqU r fs]
    exact q
theorem op_notIn_seq : OpR X (compareOp .NotIn) (rIn X.K true) := by
  intro pins s σ H x y v u Q I rx ry h
  obtain ⟨p, xs, rfl, hq, fx, fs, q⟩ := h
  cases ry
  rcases hq with hq | hq
  · obtain ⟨its, r, pl, hz⟩ := I.list hq
    refine SeqAt.notIn_listAt (eqU x) pl.isList (fun w hw => mem_eqAt rx fx r fs w (by simpa using hw)) ⟨.bl _, H, I, rfl, ?_⟩
    rw [show its.toArray.any (eqU x) = its.any (eqU x) by simp, any_eqU r fs]
    exact q
  · obtain ⟨its, r, pl, hz⟩ := I.tuple hq
    refine SeqAt.notIn_tupleAt (eqU x) pl (fun w hw => mem_eqAt rx fx r fs w (by simpa using hw)) ⟨.bl _, H, I, rfl, ?_⟩
    rw [show its.toArray.any (eqU x) = its.any (eqU x) by simp, any_eqU r fs]
    exact q
theorem op_notIn_str : OpR X (compareOp .NotIn) (fun x y H Q => ∃ i j, x = .str i ∧ y = .str j ∧ Q (.bl (!(!(Builtin.Str.occurrences j i 0 j.length 1).isEmpty))) H) := by
  intro pins s σ H x y v u Q I rx ry h
  obtain ⟨i, j, rfl, rfl, q⟩ := h
  obtain ⟨t, rfl⟩ := rx
  obtain ⟨t', rfl⟩ := ry
  exact notIn_str ⟨.bl _, H, I, rfl, q⟩
theorem call_tuple_of : CallR X (.type "tuple") (fun xs H Q => ∃ p ys, xs = [.ref p] ∧ ((SqL X.K H p ys ∧ ∀ l, H l = none → Q (.ref l) (upd H l (.tup ys))) ∨ (SqT X.K H p ys ∧ Q (.ref p) H))) := by
  intro pins s σ H xs us Q I r h
  obtain ⟨p, ys, rfl, h⟩ := h
  obtain ⟨u, rfl, rx⟩ := vals1 r
  cases rx
  rcases h with ⟨hq, q⟩ | ⟨hq, q⟩
  · obtain ⟨its, r', pl, hz⟩ := I.list hq
    have hlen := r'.length
    refine call_tuple_list pl.isList (fun h' kp => ?_) (by simp only [List.size_toArray] <;> omega)
    have I1 : Inv X pins σ H { s with heap := h' } := I.kept (t' := s.toks) kp
    have I2 : Inv X pins σ (upd H h'.objs.size (.tup ys)) { s with heap := h'.push { cls := .type "tuple", data := .seq its.toArray } } :=
      I1.laid (t' := s.toks) (fun b o e => Heap.get?_push_of_some _ e) (Nat.le_refl _) (show ObjOk X.prog X.w _ _ _ (.tup ys) from ⟨hz, its, r', IsTup.new _ _⟩)
    exact ⟨.ref h'.objs.size, _, I2, rfl, q _ (I1.hok.fresh (Nat.le_refl _))⟩
  · obtain ⟨its, r', pl, hz⟩ := I.tuple hq
    exact call_tuple_same pl ⟨.ref p, H, I, rfl, q⟩
noncomputable def tyV (K : PySem.W.Frag) (T : String) (x : V) (H : Hp) : Prop := match x with
  | .str _ => T = "str"
  | .int _ => T = "int"
  | .ref p => (T = "list" ∧ ∃ xs, SqL K H p xs) ∨ (T = "tuple" ∧ ∃ o, K.lookup p = some o ∧ o.cls = .type "tuple" ∧ o.dict = none) ∨
      (T = "dict" ∧ ((∃ kvs, H p = some (.dK kvs)) ∨ ∃ kvs, H p = some (.dT kvs))) ∨ (T = "set" ∧ ∃ S n, H p = some (.set S n))
  | _ => False
theorem tyV_is {pins : List (Addr × Obj)} {σ : St} {H : Hp} {s : Shared} {T : String} {x : V} {v : Value} (I : Inv X pins σ H s) (r : RelV x v) (ty : tyV X.K T x H) :
    s.TypeIs v T ∧ ∀ a, v = .ref a → ∃ ob, s.heap.get? a = some ob ∧ ob.dict = none := by
  cases x with
  | str z =>
    obtain ⟨t, rfl⟩ := r
    cases (show T = "str" from ty)
    exact ⟨typeIs_str s z t, fun _ e => nomatch e⟩
  | int i =>
    obtain ⟨t, rfl⟩ := r
    cases (show T = "int" from ty)
    exact ⟨typeIs_int s i t, fun _ e => nomatch e⟩
  | ref p =>
    cases r
    rcases ty with ⟨rfl, xs, hq⟩ | ⟨rfl, o, hk, hc, hd⟩ | ⟨rfl, hk⟩ | ⟨rfl, S, n, hk⟩
    · obtain ⟨its, _, pl, _⟩ := I.list hq
      refine ⟨pl.isList.typeIs, fun a e => ?_⟩
      cases e
      obtain ⟨o, n, e, c, hd, _⟩ := pl
      exact ⟨o, e, hd⟩
    · refine ⟨⟨o, I.kIn p o hk, hc⟩, fun a e => ?_⟩
      cases e
      exact ⟨o, I.kIn _ o hk, hd⟩
    · have z : ∃ o, s.heap.get? p = some o ∧ o.ExactDict := by
        rcases hk with ⟨kvs, hk⟩ | ⟨kvs, hk⟩
        · obtain ⟨_, _, _, _, o, _, _, e, ex, _⟩ := I.hok p _ hk
          exact ⟨o, e, ex⟩
        · obtain ⟨_, _, _, _, o, _, _, e, ex, _⟩ := I.hok p _ hk
          exact ⟨o, e, ex⟩
      obtain ⟨o, e, ex⟩ := z
      refine ⟨⟨o, e, ex.1⟩, fun a e2 => ?_⟩
      cases e2
      exact ⟨o, e, ex.2.1⟩
    · obtain ⟨o, _, _, _, e, ex, _⟩ := I.hok p _ hk
      refine ⟨⟨o, e, ex.1⟩, fun a e2 => ?_⟩
      cases e2
      exact ⟨o, e, ex.2.1⟩
  | _ => exact False.elim ty
noncomputable def tBM0 (K : PySem.W.Frag) (T : String) (r : V → List V → Hp → VK → Prop) (to : TE) : TE := fun σ H Q => to σ H fun x H1 => tyV K T x H1 ∧ r x [] H1 Q
noncomputable def tBM (K : PySem.W.Frag) (T : String) (r : V → List V → Hp → VK → Prop) (to : TE) (t : TA) : TE := fun σ H Q => to σ H fun x H1 => tyV K T x H1 ∧ t σ H1 fun xs H2 => r x xs H2 Q
variable {o e : Expr} {es : List Expr} {to : TE} {t : TA} {name : Str} {apos cpos : Pos} {T id : String} {r : V → List V → Hp → VK → Prop}
theorem pe_bm0 (pa : PlainAttrs T) (slot : Slot T name id) (hty : typeOf (.builtin id) = pure (.type "method_descriptor")) (hm : MtR X id r) (ho : PE X o to)
    (hbase : attributeBase o name X.env (eval o X.env) = eval o X.env := by rfl) (hline : (apos.endLine == cpos.line) = true := by rfl) : PE X (.Call (.Attribute o name apos) [] [] cpos) (tBM0 X.K T r to) := by
  intro pins s σ H Q I h
  refine wpAny_Call_method0_late hbase hline (thn (ho pins s σ H _ I h) fun v s1 ⟨x, H1, I1, r1, ty, q1⟩ => ?_)
  obtain ⟨h1, h2⟩ := tyV_is I1 r1 ty
  exact ⟨T, id, pa, slot, hty, h1, h2, Calls.callWith_builtin rfl (PySem.evalArgs_none (hm pins s1 σ H1 x [] v [] Q I1 r1 .nil q1))⟩
theorem pe_bm (pa : PlainAttrs T) (slot : Slot T name id) (hty : typeOf (.builtin id) = pure (.type "method_descriptor")) (hm : MtR X id r) (ho : PE X o to) (ha : PA X (e :: es) t)
    (hbase : attributeBase o name X.env (eval o X.env) = eval o X.env := by rfl)
    (hfew : ((backTo cpos (starEach (e :: es) X.env)).all (fun x => !x.1) && (backToKw cpos (keywordEach [] X.env)).all (fun x => x.1.isSome)
      && decide ((e :: es).length + ([] : List Keyword).length + (if ([] : List Keyword).isEmpty then 0 else 1) < 30)) = true := by rfl)
    (hline : (apos.endLine == cpos.line) = true := by rfl) (hs : starEach (e :: es) X.env = (false, eval e X.env) :: starEach es X.env := by rfl) (hplain : (backTo cpos (starEach es X.env)).any (·.1) = false := by rfl) :
    PE X (.Call (.Attribute o name apos) (e :: es) [] cpos) (tBM X.K T r to t) := by
  intro pins s σ H Q I h
  refine wpAny_Call_method_late hbase hfew hline rfl (thn (ho pins s σ H _ I h) fun v s1 ⟨x, H1, I1, r1, ty, q1⟩ => ?_)
  obtain ⟨h1, h2⟩ := tyV_is I1 r1 ty
  refine ⟨T, id, pa, slot, hty, h1, h2, ?_⟩
  have hA := ha cpos pins s1 σ H1 _ I1 q1
  rw [hs] at hA ⊢
  refine Calls.callWith_builtin (by show (false || (backTo cpos (starEach es X.env)).any (·.1)) = false; rw [hplain] <;> rfl) (Calls.evalArgs_plain ?_)
  exact thn hA fun us s2 ⟨vs, H2, I2, r2, q2⟩ => hm pins s2 σ H2 x vs v us Q I2 r1 r2 q2
end
end L2
namespace L2
open PySem PySem.Spec PyProof.Rows
noncomputable def MtM (X : Cx) (id : String) (r : V → List V → Hp → VK → Prop) : Prop :=
  ∀ (pins : List (Addr × Obj)) (s : Shared) (σ : St) (H : Hp) (x : V) (xs : List V) (v : Value) (us : List Value) (Q : VK), Inv X pins σ H s → RelV x v → Vals xs us → r x xs H Q →
    wpAny (model X.prog X.w) X.A (call (.builtin id) (v :: us)) (EP X pins σ Q) X.xe s
theorem Vals.one : ∀ {x : V} {us : List Value}, Vals [x] us → ∃ u, us = [u] ∧ RelV x u
  | _, _, .cons r .nil => ⟨_, rfl, r⟩
theorem Vals.zero : ∀ {us : List Value}, Vals [] us → us = []
  | _, .nil => rfl
theorem Vals.dropLast {xs : List V} {us : List Value} (h : Vals xs us) : Vals xs.dropLast us.dropLast := by
  induction h with
  | nil => exact .nil
  | cons r t ih =>
    cases t with
    | nil => exact .nil
    | cons q t' => exact .cons r ih
theorem Vals.eraseIdx : ∀ {xs : List V} {us : List Value} (i : Nat), Vals xs us → Vals (xs.eraseIdx i) (us.eraseIdx i)
  | _, _, _, .nil => .nil
  | _, _, 0, .cons _ t => t
  | _, _, i + 1, .cons r t => .cons r (Vals.eraseIdx i t)
theorem Vals.reverse {xs : List V} {us : List Value} (h : Vals xs us) : Vals xs.reverse us.reverse := by
  induction h with
  | nil => exact .nil
  | cons r t ih => rw [List.reverse_cons, List.reverse_cons]; exact Vals.append ih (.cons r .nil)
theorem Vals.rep {xs : List V} {us : List Value} (h : Vals xs us) : ∀ k : Nat, Vals (List.replicate k xs).flatten (List.replicate k us).flatten
  | 0 => .nil
  | k + 1 => by
    rw [List.replicate_succ, List.replicate_succ, List.flatten_cons, List.flatten_cons]
    exact Vals.append h (Vals.rep h k)
theorem erase_last {α : Type} (l : List α) : l.eraseIdx (l.length - 1) = l.dropLast := by
  induction l with
  | nil => rfl
  | cons a r ih =>
    cases r with
    | nil => rfl
    | cons b r =>
      have e : (a :: b :: r).length - 1 = ((b :: r).length - 1) + 1 := by
        have h1 : (a :: b :: r).length = r.length + 2 := rfl
        have h2 : (b :: r).length = r.length + 1 := rfl
        omega
      rw [e, List.eraseIdx_cons_succ, ih]
      all_goals rfl
theorem foldl_rep (its : List Value) : ∀ (k : Nat) (acc : List Value),
    List.foldl (fun x1 x2 => x1 ++ x2) acc.toArray (List.replicate k its.toArray) = (acc ++ (List.replicate k its).flatten).toArray
  | 0, acc => by simp
  | k + 1, acc => by
    have e : acc.toArray ++ its.toArray = (acc ++ its).toArray := by simp
    have e2 : (acc ++ its) ++ (List.replicate k its).flatten = acc ++ (List.replicate (k + 1) its).flatten := by
      rw [List.replicate_succ, List.flatten_cons, List.append_assoc]
    rw [← e2, ← foldl_rep its k (acc ++ its), ← e, List.replicate_succ, List.foldl_cons]
section
variable {X : Cx} {pins : List (Addr × Obj)} {σ : St} {H : Hp} {s : Shared} {l b : Addr} {xs ys zs : List V}
theorem Inv.lset {its its' : List Value} {n : Nat} {f : Array Value → Array Value} {t' : Nat} (I : Inv X pins σ H s) (hH : H l = some (.lst xs))
    (e : s.heap.get? l = some { cls := .type "list", data := .seq its.toArray n }) (hf : f its.toArray = its'.toArray) (hv : Vals ys its') (hz : ys.length ≤ sizeLine) :
    Inv X pins σ (upd H l (.lst ys)) { s with heap := s.heap.update l (Obj.mapSeq f), toks := t' } := by
  have q := PySem.IsL.update e f
  rw [hf] at q
  refine I.write (x := l) (e := l) (by rw [hH]; exact trivial) (.inl rfl) (fun b' u hb hu => (Heap.get?_update_other s.heap (Obj.mapSeq f) (Ne.symm hb)).trans hu) ⟨_, q⟩ ?_
  exact ⟨hz, its', _, hv, q⟩
theorem Inv.lnew {its : List Value} {t' : Nat} (I : Inv X pins σ H s) (hv : Vals ys its) (hz : ys.length ≤ sizeLine) :
    Inv X pins σ (upd H s.heap.objs.size (.lst ys)) { s with heap := s.heap.push { cls := .type "list", data := .seq its.toArray }, toks := t' } :=
  I.laid (fun _ _ q => Heap.get?_push_of_some _ q) (Nat.le_refl _) ⟨hz, its, 0, hv, Heap.get?_push_size _ rfl⟩
theorem Inv.fresh (I : Inv X pins σ H s) : H s.heap.objs.size = none := I.hok.fresh (Nat.le_refl _)
theorem Inv.lstM (I : Inv X pins σ H s) (hH : H l = some (.lst xs)) : xs.length ≤ sizeLine ∧ ∃ (its : List Value) (n : Nat), Vals xs its ∧ xs.length = its.length ∧ s.heap.get? l = some { cls := .type "list", data := .seq its.toArray n } := by
  obtain ⟨z, its, n, r, e⟩ := I.hok l _ hH
  exact ⟨z, its, n, r, r.length, e⟩
theorem notLongL {n : Nat} (h : n ≤ sizeLine) : Builtin.List.listTooLong n = false := by
  unfold Builtin.List.listTooLong
  exact decide_eq_false (by omega)
end
section
variable {X : Cx}
noncomputable def rAppend : V → List V → Hp → VK → Prop := fun x vs H Q => ∃ l xs y, x = .ref l ∧ vs = [y] ∧ H l = some (.lst xs) ∧ xs.length < sizeLine ∧ Q .non (upd H l (.lst (xs ++ [y])))
theorem mt_append : MtM X "list.append" rAppend := by
  intro pins s σ H x vs v us Q I rx rv h
  obtain ⟨l, xs, y, rfl, rfl, hH, hz, q⟩ := h
  cases rx
  obtain ⟨u, rfl, ru⟩ := rv.one
  obtain ⟨z, its, n, r, hl, e⟩ := I.lstM hH
  refine call_meets F.slot_list_append ⟨_, e, rfl⟩ F.entry_list_append (F.args_list_append_2 _ _) (PySem.list_append l its.toArray n u (by rw [List.size_toArray]; omega)) ⟨e, ?_⟩
  refine ⟨.non, _, I.lset (its' := its ++ [u]) hH e (by simp) (r.append (.cons ru .nil)) ?_, rfl, q⟩
  rw [List.length_append, List.length_singleton]
  omega
noncomputable def rExtend : V → List V → Hp → VK → Prop := fun x vs H Q => ∃ l b xs zs, x = .ref l ∧ vs = [.ref b] ∧ H l = some (.lst xs) ∧ H b = some (.lst zs) ∧ xs.length + zs.length ≤ sizeLine ∧ Q .non (upd H l (.lst (xs ++ zs)))
theorem mt_extend : MtM X "list.extend" rExtend := by
  intro pins s σ H x vs v us Q I rx rv h
  obtain ⟨l, b, xs, zs, rfl, rfl, hH, hB, hz, q⟩ := h
  cases rx
  obtain ⟨u, rfl, ru⟩ := rv.one
  cases ru
  obtain ⟨z, its, n, r, hl, e⟩ := I.lstM hH
  obtain ⟨z2, its2, n2, r2, hl2, e2⟩ := I.lstM hB
  have hsz : its.toArray.size + its2.toArray.size ≤ sizeLine := by rw [List.size_toArray, List.size_toArray]; omega
  have hlong : ¬ (!its.toArray.isEmpty && Builtin.List.listTooLong (its.toArray.size + its2.toArray.size)) = true := by
    rw [notLongL hsz, Bool.and_false]
    exact Bool.false_ne_true
  refine call_meets F.slot_list_extend ⟨_, e, rfl⟩ F.entry_list_extend (F.args_list_extend_2 _ _)
    (AutoSeq1.list_extend_list_list_0 l its.toArray n b its2.toArray n2 hlong (by rw [List.size_toArray]; omega) (by omega)) ⟨e, e2, ?_⟩
  refine ⟨.non, _, I.lset (its' := its ++ its2) hH e (by simp) (r.append r2) ?_, rfl, q⟩
  rw [List.length_append]
  omega
noncomputable def rPop : V → List V → Hp → VK → Prop := fun x vs H Q => ∃ l xs y, x = .ref l ∧ vs = [] ∧ H l = some (.lst xs) ∧ xs[xs.length - 1]? = some y ∧ Q y (upd H l (.lst xs.dropLast))
theorem mt_pop : MtM X "list.pop" rPop := by
  intro pins s σ H x vs v us Q I rx rv h
  obtain ⟨l, xs, y, rfl, rfl, hH, hy, q⟩ := h
  cases rx
  have hus := rv.zero
  subst hus
  obtain ⟨z, its, n, r, hl, e⟩ := I.lstM hH
  obtain ⟨u, hu, ru⟩ := r.get hy
  have hy' : its.toArray[its.toArray.size - 1]? = some u := by
    show its.toArray[its.length - 1]? = some u
    rw [← Array.getElem?_toList, ← hl]
    exact hu
  refine call_meets F.slot_list_pop ⟨_, e, rfl⟩ F.entry_list_pop (F.args_list_pop_1 _) (MeetsSeq.list_pop_last l its.toArray n u hy' (by rw [List.size_toArray]; omega)) ⟨e, ?_⟩
  refine ⟨y, _, I.lset (its' := its.dropLast) hH e ?_ r.dropLast ?_, ru, q⟩
  · show its.toArray.eraseIdxIfInBounds (its.toArray.size - 1) = its.dropLast.toArray
    rw [List.size_toArray, List.eraseIdxIfInBounds_toArray, erase_last]
  · rw [List.length_dropLast]
    omega
noncomputable def rCat : R2 := fun x y H Q => ∃ l b xs zs, x = .ref l ∧ y = .ref b ∧ H l = some (.lst xs) ∧ H b = some (.lst zs) ∧ xs.length + zs.length ≤ sizeLine ∧ ∀ p, H p = none → Q (.ref p) (upd H p (.lst (xs ++ zs)))
theorem op_cat : OpR X (binaryOp .Add) rCat := by
  intro pins s σ H x y v u Q I rx ry h
  obtain ⟨l, b, xs, zs, rfl, rfl, hH, hB, hz, q⟩ := h
  cases rx
  cases ry
  obtain ⟨z, its, n, r, hl, e⟩ := I.lstM hH
  obtain ⟨z2, its2, n2, r2, hl2, e2⟩ := I.lstM hB
  refine PySem.P.add_list e e2 ?_ (by rw [List.size_toArray, List.size_toArray]; omega)
  have ea : its.toArray ++ its2.toArray = (its ++ its2).toArray := by simp
  rw [ea]
  exact ⟨.ref _, _, I.lnew (t' := s.toks) (r.append r2) (by rw [List.length_append]; omega), rfl, q _ I.fresh⟩
noncomputable def rRep : R2 := fun x y H Q => ∃ l k xs, x = .ref l ∧ y = .int k ∧ H l = some (.lst xs) ∧ -(2 ^ 63) ≤ k ∧ k < 2 ^ 63 ∧ xs.length * k.toNat ≤ sizeLine ∧
  ∀ p, H p = none → Q (.ref p) (upd H p (.lst (List.replicate k.toNat xs).flatten))
theorem len_rep {α : Type} (xs : List α) (k : Nat) : (List.replicate k xs).flatten.length = k * xs.length := by
  induction k with
  | zero => simp
  | succ k ih => rw [List.replicate_succ, List.flatten_cons, List.length_append, ih, Nat.succ_mul, Nat.add_comm]
theorem op_rep : OpR X (binaryOp .Mult) rRep := by
  intro pins s σ H x y v u Q I rx ry h
  obtain ⟨l, k, xs, rfl, rfl, hH, h1, h2, hz, q⟩ := h
  cases rx
  obtain ⟨t, rfl⟩ := ry
  obtain ⟨z, its, n, r, hl, e⟩ := I.lstM hH
  have hlen : its.toArray.size * k.toNat ≤ sizeLine := by rw [List.size_toArray, ← hl]; exact hz
  have hcap : ¬ its.toArray.size * k.toNat > (2 ^ 63 - 1) / 8 := by
    have : (sizeLine : Nat) ≤ (2 ^ 63 - 1) / 8 := by decide
    omega
  have hfit : ¬ (!Builtin.List.listFitsIndex k) = true := by
    rw [fitsIndex_both h1 h2]
    exact Bool.false_ne_true
  have hlong : ¬ Builtin.List.listTooLong (its.toArray.size * k.toNat) = true := by
    rw [notLongL hlen]
    exact Bool.false_ne_true
  have hnew : List.foldl (fun x1 x2 => x1 ++ x2) #[] (List.replicate (if its.toArray.isEmpty = true then 0 else k.toNat) its.toArray) = (List.replicate k.toNat its).flatten.toArray := by
    have f0 : ∀ m : Nat, List.foldl (fun x1 x2 => x1 ++ x2) #[] (List.replicate m its.toArray) = (List.replicate m its).flatten.toArray := fun m => by
      have := foldl_rep its m []
      rw [List.nil_append] at this
      exact this
    rw [f0]
    cases its with
    | nil => simp
    | cons a r' => rw [if_neg (by simp)]
  refine wpAny_binaryOp_repeat_ref (T := "list") (U := "int") (by decide) ⟨_, e, rfl⟩ (fun s' => typeIs_int s' k t) noFill_list_mul F.fills_int_mul F.slot_int_rmul repeat_list F.slot_int_index.lookup
    (call_meets F.slot_int_rmul (typeIs_int s k t) F.entry_int_rmul (F.args_int_rmul_2 _ _) (int___rmul___int_list k t l its.toArray n)
      ⟨e, rfl, ⟨_, e, rfl⟩, call_meets F.slot_list_mul ⟨_, e, rfl⟩ F.entry_list_mul (F.args_list_mul_2 _ _) (AutoListH.list___mul___list_int_3 l its.toArray n k t hfit hcap hlong) ⟨e, ?_⟩⟩)
  rw [hnew]
  exact ⟨.ref _, _, I.lnew (t' := s.toks) (r.rep k.toNat) (by rw [len_rep, Nat.mul_comm]; exact hz), rfl, q _ I.fresh⟩
end
section
variable {prog : Program} {w : World} {A : Around} {E : Value → Shared → Prop} {s : Shared}
end
section
variable {X : Cx}
end
end L2
namespace Att
open PySem PySem.W PySem.Calls PyProof.Rows
theorem ints_of_wellAll {P : Params} {h : Heap} : ∀ (ns : List Int) (vs : List Value), WellAll P h vs (ns.map WData.int) → IntsAre vs ns := by
  intro ns
  induction ns with
  | nil =>
    intro vs w
    rw [List.map_nil] at w
    cases w
    exact .nil
  | cons n ns ih =>
    intro vs w
    rw [List.map_cons] at w
    cases w with
    | cons a b =>
      cases a
      exact .cons _ _ (ih _ b)
theorem script_of {l : OpenLaw} {n : Nat} (hn : l.most = some n) {P : Params} {h : Heap} {args : List WData} {vals : List Value}
    (hpre : l.row.toRowW.claim.pre args = true) (hwl : WellAll P h vals args) :
    ∃ a vs ns, vals = [Value.ref a] ∧ args = [WData.list (ns.map WData.int)] ∧ h.get? a = some { cls := .type "list", data := .seq vs.toArray } ∧ IntsAre vs ns ∧ ns.length ≤ n := by
  have hsh : WShape.hasAll [] args [.list .int] = true := (pre_splitW hpre).1
  have hc : l.pre.holds [] { args := args } = true := (pre_splitW hpre).2
  obtain ⟨d, r, rfl, h1, h2⟩ := hasAllW_cons hsh
  obtain rfl := hasAllW_nil h2
  obtain ⟨xs, rfl, h3⟩ := hasW_list h1
  obtain ⟨ns, rfl⟩ := items_int h3
  have hlen : ns.length ≤ n := by
    unfold OpenLaw.pre at hc
    have h4 : (WTm.not (.lt (.lit (.int (n : Int))) (.len (.arg 0)))).holds [] { args := [.list (ns.map .int)] } = true := by
      have h4 := (holds_andW hc).1
      rw [hn] at h4
      exact h4
    have h5 := condW_of h4 (w_not (w_lt w_lit (w_len_list (w_arg rfl))))
    rw [List.length_map] at h5
    refine Nat.le_of_not_lt fun q => ?_
    have q' : (n : Int) < ((ns.length : Nat) : Int) := by omega
    first
      | (rw [decide_eq_true q'] at h5; exact absurd h5 (by decide))
      | (simp at h5; omega)
  cases hwl with
  | cons w1 w2 =>
    cases w2
    cases w1 with
    | list ho hall => exact ⟨_, _, ns, rfl, rfl, ho, ints_of_wellAll ns _ hall, hlen⟩
theorem post_true (l : OpenLaw) (args : List WData) : l.row.toRowW.claim.post args (.bool true) args = true :=
  postW_of (r := l.row.toRowW) (X := (true == true))
    (show WShape.has [] (.bool true) .bool = true by first | rfl | decide | simp [WShape.has, WShape.arms, WShape.armsAll])
    (show (WTm.eq .res (.lit (.bool true))).value [] { args := args, res := some (.bool true), after := args } = some (.bool (true == true)) from w_eq_bool (w_res rfl) w_lit) rfl
section
variable {prog : Program} {w : World} {A : Around} {E : Value → Shared → Prop} {s : Shared} {K : Frag}
noncomputable def ledger (h : Heap) (L d : Addr) : List (Addr × Obj) := (List.range h.objs.size).filterMap fun a => if a = L ∨ a = d then none else (h.get? a).map fun o => (a, o)
end
end Att
namespace L2
open PySem PySem.Spec PyProof.Rows
theorem vals_ints : ∀ {vs : List Value} {ns : List Int}, IntsAre vs ns → Vals (ns.map V.int) vs
  | _, _, .nil => .nil
  | _, _, .cons n t h => .cons ⟨t, rfl⟩ (vals_ints h)
noncomputable def Only (H : Hp) : Prop := ∀ b, H b = none ∨ ∃ o xs, H b = some (.frz o (.lst xs))
theorem law_call {P : Program} {w : World} {K : PySem.W.Frag} {mg mb : Str → Option Value} {CX : CXT} {k : Nat} {fa a : Addr} {fd : FuncData} {x : Str} {sp : Sp} {s₁ : Shared} {vs : List Value} {ns : List Int}
    (KX : K.In s₁.heap) (hns : s₁.heap.Ns mainGlobals mg) (hb : s₁.heap.Ns builtinsNs mb) (hbb : ∀ x : Str, x ≠ "__name__" → mb x = bootBuiltins x) (hlim : s₁.heap.NoLimit) (hg : s₁.gens = #[])
    (ha : s₁.heap.get? a = some { cls := .type "list", data := .seq vs.toArray }) (hi : IntsAre vs ns) (hl : ns.length ≤ sizeLine) (hr : Room k callerA)
    (F : ∀ base : Heap, K.In base → base.Ns mainGlobals mg → FnOk P w K mg base CX k fa fd [x] sp) (hbind : ∀ (s : Shared) (u : Value), BindsTo s fd ⟨[u], []⟩ [(x, u)])
    (hsp : ∀ H : Hp, Only H → SqL K H a (ns.map V.int) → sp [.ref a] H (fun v _ => v = .bl true) fun _ _ _ => False)
    (hCX : ∀ H e s', CX [] H s₁ (fun _ _ _ => False) e s' → False) :
    codeAny (model P w) callerA (.call (.ref fa) ⟨[.ref a], []⟩) (fun r s' => r = .ok (.ret (.bool true)) ∧ OldK s₁.heap s'.heap ∧ s'.os = s₁.os ∧ AllBare s'.gens) s₁ := by
  have rv := vals_ints hi
  have lenV := hi.length
  have core : ∀ H : Hp, Only H → SqL K H a (ns.map V.int) → HOk P w H s₁.heap → (∀ b, H b ≠ none → b = a) → (H a ≠ none → K.lookup a = none) →
      codeAny (model P w) callerA (.call (.ref fa) ⟨[.ref a], []⟩) (fun r s' => r = .ok (.ret (.bool true)) ∧ OldK s₁.heap s'.heap ∧ s'.os = s₁.os ∧ AllBare s'.gens) s₁ := by
    intro H hO hS hok hA hK
    have base_of : ∀ {b : Addr} {o : Obj}, s₁.heap.get? b = some o → H b = none → (hidT s₁.heap H).get? b = some o := fun e n => hidT_get e n
    have noA : ∀ {b : Addr} {o : Obj} {es : Array DictEntry} {ep : Nat}, s₁.heap.get? b = some o → o.data = .dict es ep → H b = none := fun {b o es ep} e d => by
      cases q : H b with
      | none => rfl
      | some u =>
        have e' : b = a := hA b (by rw [q]; simp)
        subst e'
        rw [ha] at e; cases e
        have d' : Data.seq vs.toArray _ = Data.dict es ep := d
        cases d'
    have nsK : ∀ {b : Addr} {m : Str → Option Value}, s₁.heap.Ns b m → (hidT s₁.heap H).Ns b m := fun {b m} ⟨o, es, ep, e, d, r⟩ => ⟨o, es, ep, base_of e (noA e d), d, r⟩
    have hKb : K.In (hidT s₁.heap H) := fun b o e => base_of (KX b o e) (by
      cases q : H b with
      | none => rfl
      | some u =>
        have e' : b = a := hA b (by rw [q]; simp)
        subst e'
        rw [hK (by rw [q]; simp)] at e; cases e)
    have hM : Mod K mg (hidT s₁.heap H) := ⟨hKb, nsK hns, ⟨mb, nsK hb, hbb⟩, let ⟨mc, h1, h2⟩ := hlim; ⟨mc, nsK h1, h2⟩⟩
    have e0 : Env0 P w K mg (hidT s₁.heap H) callerA [] s₁ H := ⟨rfl, hM, fun b o e => of_hidT e, Nat.le_of_eq (hidT_size _ _), trivial, fun b hb => absurd (show b ∈ ([] : List Addr) from hb) (by simp), hok, .of_eq hg⟩
    refine codeAny_mono ((F _ hKb (nsK hns)).run callerA [] s₁ H ⟨[.ref a], []⟩ [.ref a] [.ref a] _ _ hr e0 (hbind s₁ (.ref a)) (.cons rfl .nil) (hsp H hO hS)) fun r s' h => ?_
    cases r with
    | error e => exact (hCX H e s' h).elim
    | ok fl =>
      cases fl with
      | next => exact False.elim h
      | brk => exact False.elim h
      | cont => exact False.elim h
      | ret u =>
        obtain ⟨v, H', os, bare, un, hok', r', q⟩ := h
        have q' : v = .bl true := q
        subst q'
        obtain rfl : u = Value.bool true := r'
        refine ⟨rfl, OldK.of_keep fun b o e => ?_, os, bare⟩
        cases q : H b with
        | none => exact un.keep b o e q (by intro z; exact absurd (show b ∈ ([] : List Addr) from z) (by simp)) (by simp)
        | some u =>
          rcases hO b with z | ⟨ob, xs, z⟩
          · rw [q] at z; cases z
          · have z2 := un.frzs b ob _ z
            obtain ⟨e1, _⟩ := hok b _ z
            obtain ⟨e2, _⟩ := hok' b _ z2
            rw [e] at e1; cases e1
            exact e2
  cases hk : K.lookup a with
  | some o =>
    have e := KX a o hk
    rw [ha] at e
    cases e
    refine core (fun _ => none) (fun _ => .inl rfl) (.inr ⟨_, vs.toArray, _, hk, rfl, rfl, rfl, by rw [List.size_toArray, lenV]; exact hl, by simpa using rv⟩) (fun b u z => by have z' : (none : Option HO) = some u := z; cases z') (fun b z => absurd rfl z) fun z => absurd rfl z
  | none =>
    refine core (fun b => if b = a then some (.frz { cls := .type "list", data := .seq vs.toArray } (.lst (ns.map V.int))) else none) (fun b => ?_) (.inl (.inr ⟨{ cls := .type "list", data := .seq vs.toArray }, if_pos rfl⟩)) (fun b u z => ?_) (fun b z => ?_) fun _ => hk
    · by_cases hb : b = a
      · exact .inr ⟨_, _, if_pos hb⟩
      · exact .inl (if_neg hb)
    · by_cases hb : b = a
      · have z' := (if_pos hb).symm.trans z
        cases z'
        subst hb
        exact ⟨ha, by rw [List.length_map]; exact hl, vs, _, rv, ha⟩
      · have z' := (if_neg hb).symm.trans z
        cases z'
    · by_cases hb : b = a
      · exact hb
      · exact absurd (if_neg hb) z
end L2
namespace L2
open PySem PySem.Spec PyProof.Rows
noncomputable abbrev KOf {K : PySem.W.Frag} {h : Heap} (_ : K.In h) : PySem.W.Frag := K
end L2
namespace L2
open PySem PySem.Spec PyProof.Rows
noncomputable def defArgs (s : Stmt) : Arguments := match s with
  | .FunctionDef _ a _ _ _ _ _ _ _ _ => a
  | _ => { posonlyargs := [], args := [], vararg := none, kwonlyargs := [], kw_defaults := [], kwarg := none, defaults := [] }
noncomputable def defBody (s : Stmt) : List Stmt := match s with
  | .FunctionDef _ _ b _ _ _ _ _ _ _ => b
  | _ => []
noncomputable def defScope (s : Stmt) : Scope := match s with
  | .FunctionDef _ _ _ _ _ _ sc _ _ _ => sc
  | _ => { kind := .function, names := [], isGenerator := false, isCoroutine := false }
noncomputable abbrev CX0 : CXT := fun _ _ _ _ _ _ => False
structure Fun (K : PySem.W.Frag) (x qual : Str) (st : Stmt) (f : Addr) (fd : FuncData) : Prop where
  ex : ∃ (oc : Value) (od : Option Addr) (kV doc pm : Value) (an : Option Addr) (cdv ct : Value) (osl : Array (Option Value)),
    fd = PySem.W.fnOf x qual (defArgs st) (defBody st) (defScope st) .none kV doc pm an cdv ct ∧ K.lookup f = some ⟨oc, od, .func fd, osl⟩ ∧ PySem.W.codeIn K cdv qual = true
  kp : PySem.W.keepIn K (.ref f) = true
section
variable {P : Program} {w : World} {K : PySem.W.Frag} {mg : Str → Option Value} {base : Heap}
theorem Fun.binds {x qual : Str} {st : Stmt} {f : Addr} {fd : FuncData} {ps : List Str} (F : Fun K x qual st f fd)
    (h : ∀ (kV doc pm : Value) (an : Option Addr) (cdv ct : Value) (us : List Value), us.length = ps.length → bindArgs (PySem.W.fnOf x qual (defArgs st) (defBody st) (defScope st) .none kV doc pm an cdv ct) ⟨us, []⟩ = pure (ps.zip us)) : Binds K fd ps [] := by
  obtain ⟨oc, od, kV, doc, pm, an, cdv, ct, osl, rfl, lk, hcd⟩ := F.ex
  exact .all (h kV doc pm an cdv ct)
theorem fun_mk {x qual : Str} {st : Stmt} {f : Addr} {oc : Value} {od an : Option Addr} {osl : Array (Option Value)} {kV doc pm cdv ct : Value} (l : K.lookup f = some ⟨oc, od, .func (PySem.W.fnOf x qual (defArgs st) (defBody st) (defScope st) .none kV doc pm an cdv ct), osl⟩)
    (c : PySem.W.codeIn K cdv qual = true) (k : PySem.W.keepIn K (.ref f) = true) : Fun K x qual st f (PySem.W.fnOf x qual (defArgs st) (defBody st) (defScope st) .none kV doc pm an cdv ct) := ⟨⟨oc, od, kV, doc, pm, an, cdv, ct, osl, rfl, l, c⟩, k⟩
end
theorem hu_of {A : Around} {k : Nat} (hr : Room k A) : A.units + 1 < cLine := Nat.lt_of_le_of_lt (Nat.add_le_add_left (by decide : 1 ≤ 64) _) hr.units
theorem small1000 {n : Nat} (h : n ≤ 1000) : n < sizeLine := Nat.lt_of_le_of_lt h (by decide)
section
variable {X : Cx}
end
theorem iteF {A B : Prop} (h : B) : if false = true then A else B := by
  rw [if_neg Bool.false_ne_true]
  exact h
theorem iteT {A B : Prop} (h : A) : if true = true then A else B := by
  rw [if_pos rfl]
  exact h
noncomputable def Same (H H' : Hp) : Prop := ∀ b o, H b = some o → H' b = some o
end L2
set_option Elab.async false
set_option linter.all false
set_option maxRecDepth 100000
namespace L2
open PySem PySem.Spec PyProof.Rows
section
variable {κ : Type} [DecidableEq κ]
noncomputable def valV (kvs : List (κ × V)) (k : κ) : Option V := (kvs.find? fun kv => decide (kv.1 = k)).map (·.2)
noncomputable def putK (kvs : List (κ × V)) (k : κ) (v : V) : List (κ × V) :=
  if (kvs.any fun kv => decide (kv.1 = k)) = true then kvs.map (fun kv => if kv.1 = k then (kv.1, v) else kv) else kvs ++ [(k, v)]
noncomputable def dropK (kvs : List (κ × V)) (k : κ) : List (κ × V) := kvs.filter fun kv => decide (kv.1 ≠ k)
theorem valV_pos {p : κ × V} {r : List (κ × V)} {k : κ} (e : p.1 = k) : valV (p :: r) k = some p.2 := by simp [valV, List.find?_cons, e]
theorem valV_neg {p : κ × V} {r : List (κ × V)} {k : κ} (e : ¬ p.1 = k) : valV (p :: r) k = valV r k := by simp [valV, List.find?_cons, e]
theorem valV_any (k : κ) : ∀ kvs : List (κ × V), (kvs.any fun kv => decide (kv.1 = k)) = (valV kvs k).isSome
  | [] => rfl
  | p :: r => by
    rw [List.any_cons]
    by_cases e : p.1 = k
    · simp only [valV_pos e, decide_eq_true e, Bool.true_or, Option.isSome_some]
    · rw [valV_neg e, decide_eq_false e, Bool.false_or]; exact valV_any k r
theorem length_putK (kvs : List (κ × V)) (k : κ) (v : V) : (putK kvs k v).length ≤ kvs.length + 1 := by
  unfold putK
  split
  · rw [List.length_map]; omega
  · rw [List.length_append, List.length_cons, List.length_nil]; omega
theorem RelO.isSome_eq {o : Option V} {u : Option Value} (r : RelO o u) : o.isSome = u.isSome := by
  cases o with
  | none => cases u with
    | none => rfl
    | some _ => exact (show False from r).elim
  | some _ => cases u with
    | none => exact (show False from r).elim
    | some _ => rfl
theorem KV.val {kvs : List (κ × V)} {vs : List (κ × Value)} (r : KV kvs vs) (k : κ) : RelO (valV kvs k) (valueAt vs k) := by
  unfold KV at r
  induction r with
  | nil => exact True.intro
  | @cons p q ps qs h t ih =>
    obtain ⟨h1, h2⟩ := h
    by_cases e : p.1 = k
    · have e' : q.1 = k := h1.symm.trans e
      have b : valueAt (q :: qs) k = some q.2 := by simp [valueAt, List.find?_cons, e']
      rw [valV_pos e, b]; exact h2
    · have e' : ¬ q.1 = k := fun z => e (h1.trans z)
      have b : valueAt (q :: qs) k = valueAt qs k := by simp [valueAt, List.find?_cons, e']
      rw [valV_neg e, b]; exact ih
theorem KV.any {kvs : List (κ × V)} {vs : List (κ × Value)} (r : KV kvs vs) (k : κ) : (kvs.any fun kv => decide (kv.1 = k)) = vs.any fun kv => decide (kv.1 = k) := by
  unfold KV at r
  induction r with
  | nil => rfl
  | cons h t ih => rw [List.any_cons, List.any_cons, ih, h.1]
theorem KV.repl {kvs : List (κ × V)} {vs : List (κ × Value)} (r : KV kvs vs) (k : κ) {y : V} {u : Value} (ry : RelV y u) :
    KV (kvs.map fun kv => if kv.1 = k then (kv.1, y) else kv) (vs.map fun kv => if kv.1 = k then (kv.1, u) else kv) := by
  unfold KV at r ⊢
  induction r with
  | nil => exact .nil
  | @cons p q ps qs h t ih =>
    rw [List.map_cons, List.map_cons]
    refine .cons ?_ ih
    obtain ⟨h1, h2⟩ := h
    by_cases e : p.1 = k
    · rw [if_pos e, if_pos (h1.symm.trans e)]; exact ⟨h1, ry⟩
    · rw [if_neg e, if_neg (fun z => e (h1.trans z))]; exact ⟨h1, h2⟩
theorem KV.put {kvs : List (κ × V)} {vs : List (κ × Value)} (r : KV kvs vs) (k : κ) {y : V} {u : Value} (ry : RelV y u) : KV (putK kvs k y) (stored vs k u) := by
  unfold putK stored
  rw [r.any k]
  by_cases e : (vs.any fun kv => decide (kv.1 = k)) = true
  · rw [if_pos e, if_pos e]; exact r.repl k ry
  · rw [if_neg e, if_neg e]; exact Paired.snoc r ⟨rfl, ry⟩
theorem KV.length {kvs : List (κ × V)} {vs : List (κ × Value)} (r : KV kvs vs) : kvs.length = vs.length := Paired.length r
end
theorem kV_is {P : Program} {w : World} {k : Key} {u : Value} (r : RelV (kV k) u) : (mixKind P w).is k u = true := by
  cases k with
  | inl i => obtain ⟨t, e⟩ := (show ∃ t, u = Value.int i t from r); subst e; exact mixKind_int P w i t
  | inr x => obtain ⟨t, e⟩ := (show ∃ t, u = Value.str x t from r); subst e; exact mixKind_str P w x t
theorem items_are {P : Program} {w : World} : ∀ {ks : List Key} {us : List Value}, Vals (ks.map kV) us → ItemsAre (mixKind P w) ks us
  | [], _, r => by rw [List.map_nil] at r; cases r; exact .nil
  | k :: ks, _, r => by
    rw [List.map_cons] at r
    cases r with
    | cons h t => exact .cons (kV_is h) (items_are t)
noncomputable abbrev KT (H : Hp) : List (List Key × V) → List (List Key × Addr × Value) → Prop := Paired fun p q => p.1 = q.1 ∧ H q.2.1 = some (.tup (p.1.map kV)) ∧ RelV p.2 q.2.2
theorem KT.val {H : Hp} {kvs : List (List Key × V)} {xs : List (List Key × Addr × Value)} (r : KT H kvs xs) (k : List Key) : RelO (valV kvs k) ((atKey xs k).map (·.2)) := by
  induction r with
  | nil => exact True.intro
  | @cons p q ps qs h t ih =>
    obtain ⟨h1, _, h2⟩ := h
    by_cases e : p.1 = k
    · have e' : q.1 = k := h1.symm.trans e
      have b : atKey (q :: qs) k = some q.2 := by simp [atKey, List.find?_cons, e']
      rw [valV_pos e, b]; exact h2
    · have e' : ¬ q.1 = k := fun z => e (h1.trans z)
      have b : atKey (q :: qs) k = atKey qs k := by simp [atKey, List.find?_cons, e']
      rw [valV_neg e, b]; exact ih
theorem KT.repl {H : Hp} {kvs : List (List Key × V)} {xs : List (List Key × Addr × Value)} (r : KT H kvs xs) (k : List Key) {y : V} {u : Value} (ry : RelV y u) :
    KT H (kvs.map fun kv => if kv.1 = k then (kv.1, y) else kv) (xs.map (putAt k u)) := by
  induction r with
  | nil => exact .nil
  | @cons p q ps qs h t ih =>
    rw [List.map_cons, List.map_cons]
    refine .cons ?_ ih
    obtain ⟨h1, h2, h3⟩ := h
    unfold putAt
    by_cases e : p.1 = k
    · rw [if_pos e, if_pos (h1.symm.trans e)]; exact ⟨h1, h2, ry⟩
    · rw [if_neg e, if_neg (fun z => e (h1.trans z))]; exact ⟨h1, h2, h3⟩
theorem KT.put {H : Hp} {kvs : List (List Key × V)} {xs : List (List Key × Addr × Value)} (r : KT H kvs xs) (k : List Key) {b : Addr} {y : V} {u : Value} (hb : H b = some (.tup (k.map kV))) (ry : RelV y u) :
    KT H (putK kvs k y) (storedH xs k b u) := by
  have e : (kvs.any fun kv => decide (kv.1 = k)) = (atKey xs k).isSome := by
    rw [valV_any, (r.val k).isSome_eq, Option.isSome_map]
  unfold putK storedH
  rw [e]
  by_cases q : (atKey xs k).isSome = true
  · rw [if_pos q, if_pos q]; exact r.repl k ry
  · rw [if_neg q, if_neg q]; exact Paired.snoc r ⟨rfl, hb, ry⟩
theorem KT.keeps {H H' : Hp} {kvs : List (List Key × V)} {xs : List (List Key × Addr × Value)} (r : KT H kvs xs) (ht : ∀ b ys, H b = some (.tup ys) → H' b = some (.tup ys)) : KT H' kvs xs :=
  Paired.mapP r fun _ _ z => ⟨z.1, ht _ _ z.2.1, z.2.2⟩
section
variable {P : Program} {w : World} {H : Hp} {h : Heap} {a : Addr}
theorem rd_of {u : HO} (ok : HOk P w H h) (e : Rd H a u) : ObjOk P w H h a u := e.ok ok
theorem dk_rd {kvs : List (Key × V)} (ok : HOk P w H h) (e : Rd H a (.dK kvs)) : kvs.length ≤ sizeLine ∧ (a == sysModules) = false ∧ ∃ vs, KV kvs vs ∧ h.DictOf (mixKind P w) a vs :=
  show ObjOk P w H h a (.dK kvs) from rd_of ok e
theorem dk_of {kvs : List (Key × V)} (ok : HOk P w H h) (e : H a = some (.dK kvs)) : kvs.length ≤ sizeLine ∧ (a == sysModules) = false ∧ ∃ vs, KV kvs vs ∧ h.DictOf (mixKind P w) a vs := dk_rd ok (.inl e)
theorem key_of {ks : List Key} (ok : HOk P w H h) (e : H a = some (.tup (ks.map kV))) : (tupleKind (mixKind P w)).is h ks a := by
  obtain ⟨_, its, r, o, h1, h2, n, h3⟩ := (show ObjOk P w H h a (.tup (ks.map kV)) from ok a _ e)
  exact ⟨o, its.toArray, n, h1, h2, h3, by simpa using items_are r⟩
theorem dt_rd {kvs : List (List Key × V)} (ok : HOk P w H h) (e : Rd H a (.dT kvs)) : kvs.length ≤ sizeLine ∧ (a == sysModules) = false ∧
    ∃ xs, KT H kvs xs ∧ h.DictOfH (tupleKind (mixKind P w)) a xs := by
  obtain ⟨z, y, xs, r, o, es, ep, h1, h2, h3, h4, h5⟩ := (show ObjOk P w H h a (.dT kvs) from rd_of ok e)
  refine ⟨z, y, xs, r, o, es, ep, h1, h2, h3, h4, fun x hx => ?_, h5⟩
  have all : ∀ {l : List (List Key × V)} {m : List (List Key × Addr × Value)}, KT H l m → ∀ x ∈ m, (tupleKind (mixKind P w)).is h x.1 x.2.1 := by
    intro l m q
    induction q with
    | nil => intro x hx; exact nomatch hx
    | @cons p q ps qs hq t ih =>
      intro x hx
      rcases List.mem_cons.mp hx with e | hx
      · subst e
        exact key_of ok (by rw [← hq.1]; exact hq.2.1)
      · exact ih x hx
  exact all r x hx
theorem dt_of {kvs : List (List Key × V)} (ok : HOk P w H h) (e : H a = some (.dT kvs)) : kvs.length ≤ sizeLine ∧ (a == sysModules) = false ∧
    ∃ xs, KT H kvs xs ∧ h.DictOfH (tupleKind (mixKind P w)) a xs := dt_rd ok (.inl e)
end
noncomputable def DGet (H : Hp) (a : Addr) (y : V) (r : Option V) : Prop :=
  (∃ kvs k, Rd H a (.dK kvs) ∧ y = kV k ∧ r = valV kvs k) ∨ ∃ kvs k b, Rd H a (.dT kvs) ∧ y = .ref b ∧ H b = some (.tup (k.map kV)) ∧ r = valV kvs k
noncomputable def DPut (H : Hp) (a : Addr) (y v : V) (H' : Hp) : Prop :=
  (∃ kvs k, H a = some (.dK kvs) ∧ y = kV k ∧ kvs.length < sizeLine ∧ H' = upd H a (.dK (putK kvs k v))) ∨
  ∃ kvs k b, H a = some (.dT kvs) ∧ y = .ref b ∧ H b = some (.tup (k.map kV)) ∧ kvs.length < sizeLine ∧ H' = upd H a (.dT (putK kvs k v))
theorem DGet.k {H : Hp} {a : Addr} {kvs : List (Key × V)} {k : Key} (e : H a = some (.dK kvs)) : DGet H a (kV k) (valV kvs k) := .inl ⟨kvs, k, .inl e, rfl, rfl⟩
theorem DPut.k {H : Hp} {a : Addr} {kvs : List (Key × V)} {k : Key} {v : V} (e : H a = some (.dK kvs)) (hl : kvs.length < sizeLine) : DPut H a (kV k) v (upd H a (.dK (putK kvs k v))) := .inl ⟨kvs, k, e, rfl, hl, rfl⟩
section
variable {X : Cx} {pins : List (Addr × Obj)} {σ : St} {H : Hp} {s : Shared} {a : Addr} {y v : V} {u r : Value} {o : Option V} {A : Around} {E : Value → Shared → Prop}
theorem Inv.big (I : Inv X pins σ H s) : sysModules < s.heap.objs.size := by
  have h : mainGlobals < s.heap.objs.size := (I.mod.glob.keeps I.bk).lt
  exact Nat.lt_trans (by decide) h
theorem d_getItem {Q : Value → Shared → Prop} (hu : A.units + 1 < cLine) (I : Inv X pins σ H s) (g : DGet H a y (some v)) (ry : RelV y u) (h : ∀ w' s', Inv X pins σ H s' → RelV v w' → Q w' s') :
    wpAny (model X.prog X.w) A (getItem (.ref a) u) Q E s := by
  rcases g with ⟨kvs, k, e, ey, l⟩ | ⟨kvs, k, b, e, ey, eb, l⟩
  · subst ey
    obtain ⟨z, hd, vs, rel, dd⟩ := dk_rd I.hok e
    obtain ⟨w', hw, rw'⟩ := RelO.some_of (v := v) (o := valueAt vs k) (by rw [l]; exact rel.val k)
    exact wpAny_getItem_of (kV_is ry) dd.mapOf hw (h w' _ (I.tok _) rw')
  · subst ey
    cases (show u = Value.ref b from ry)
    obtain ⟨z, hd, xs, rel, dd⟩ := dt_rd I.hok e
    obtain ⟨w', hw, rw'⟩ := RelO.some_of (v := v) (o := (atKey xs k).map (·.2)) (by rw [l]; exact rel.val k)
    obtain ⟨p, hp, hp2⟩ := Option.map_eq_some_iff.mp hw
    refine wpAny_getItem_heap (tupleKind_room_in1 hu) (key_of I.hok eb) dd hp ?_
    rw [hp2]
    exact h w' _ (I.tok _) rw'
theorem d_in {Q : Value → Shared → Prop} (hu : A.units + 1 < cLine) (I : Inv X pins σ H s) (g : DGet H a y o) (ry : RelV y u) (h : ∀ s', Inv X pins σ H s' → Q (.bool o.isSome) s') :
    wpAny (model X.prog X.w) A (compareOp .In u (.ref a)) Q E s := by
  rcases g with ⟨kvs, k, e, ey, l⟩ | ⟨kvs, k, b, e, ey, eb, l⟩
  · subst ey
    obtain ⟨z, hd, vs, rel, dd⟩ := dk_rd I.hok e
    refine wpAny_in_of (kV_is ry) hd dd.mapOf ?_
    rw [← (rel.val k).isSome_eq, ← l]
    exact h _ (I.tok _)
  · subst ey
    cases (show u = Value.ref b from ry)
    obtain ⟨z, hd, xs, rel, dd⟩ := dt_rd I.hok e
    refine wpAny_in_heap (tupleKind_room_in1 hu) (key_of I.hok eb) hd dd ?_
    have q := (rel.val k).isSome_eq
    rw [Option.isSome_map] at q
    rw [← q, ← l]
    exact h _ (I.tok _)
theorem d_notIn {Q : Value → Shared → Prop} (hu : A.units + 1 < cLine) (I : Inv X pins σ H s) (g : DGet H a y o) (ry : RelV y u) (h : ∀ s', Inv X pins σ H s' → Q (.bool (!o.isSome)) s') :
    wpAny (model X.prog X.w) A (compareOp .NotIn u (.ref a)) Q E s := by
  rcases g with ⟨kvs, k, e, ey, l⟩ | ⟨kvs, k, b, e, ey, eb, l⟩
  · subst ey
    obtain ⟨z, hd, vs, rel, dd⟩ := dk_rd I.hok e
    refine wpAny_notIn_of (kV_is ry) hd dd.mapOf ?_
    rw [← (rel.val k).isSome_eq, ← l]
    exact h _ (I.tok _)
  · subst ey
    cases (show u = Value.ref b from ry)
    obtain ⟨z, hd, xs, rel, dd⟩ := dt_rd I.hok e
    refine wpAny_notIn_heap (tupleKind_room_in1 hu) (key_of I.hok eb) hd dd ?_
    have q := (rel.val k).isSome_eq
    rw [Option.isSome_map] at q
    rw [← q, ← l]
    exact h _ (I.tok _)
theorem d_write {h' : Heap} {t' : Nat} {ob : HO} (I : Inv X pins σ H s) (mu : Mut (H a)) (hs : Heap.SameBut a s.heap h') (he : ∃ q, h'.get? a = some q) (new : ObjOk X.prog X.w (upd H a ob) h' a ob) :
    Inv X pins σ (upd H a ob) { s with heap := h', toks := t' } :=
  I.write (x := a) (e := a) mu (.inl rfl) (fun b q hb z => (hs.2 b hb).trans z) he new
theorem dk_new {P : Program} {w : World} {H' : Hp} {h' : Heap} {kvs : List (Key × V)} {vs : List (Key × Value)} (z : kvs.length ≤ sizeLine) (hd : (a == sysModules) = false) (rel : KV kvs vs) (dd : h'.DictOf (mixKind P w) a vs) :
    ObjOk P w H' h' a (.dK kvs) := ⟨z, hd, vs, rel, dd⟩
theorem d_setItem {H' : Hp} {Q : Unit → Shared → Prop} (hu : A.units + 1 < cLine) (I : Inv X pins σ H s) (g : DPut H a y v H') (ry : RelV y u) (rv : RelV v r) (h : ∀ s', Inv X pins σ H' s' → Q () s') :
    wpAny (model X.prog X.w) A (setItem (.ref a) u r) Q E s := by
  rcases g with ⟨kvs, k, e, ey, l, eH⟩ | ⟨kvs, k, b, e, ey, eb, l, eH⟩
  · subst ey eH
    obtain ⟨z, hd, vs, rel, dd⟩ := dk_of I.hok e
    have hz : vs.length ≤ sizeLine := by rw [← rel.length]; exact z
    have hl : (putK kvs k v).length ≤ sizeLine := by have := length_putK kvs k v; omega
    refine wpAny_setItem_pairs (hsz := hz) (kV_is ry) dd fun h' dd' hs => h _ ?_
    have he : ∃ q, h'.get? a = some q := let ⟨q, _, _, hq, _⟩ := dd'; ⟨q, hq⟩
    exact d_write I (by rw [e]; exact True.intro) hs he (dk_new hl hd (rel.put k rv) dd')
  · subst ey eH
    cases (show u = Value.ref b from ry)
    obtain ⟨z, hd, xs, rel, dd⟩ := dt_of I.hok e
    have hz : xs.length ≤ sizeLine := by rw [← Paired.length rel]; exact z
    have hl : (putK kvs k v).length ≤ sizeLine := by have := length_putK kvs k v; omega
    refine wpAny_setItem_heap (hsz := hz) (tupleKind_room_in1 hu) (key_of I.hok eb) dd fun h' dd' hs => h _ ?_
    obtain ⟨q, es, ep, hq, h2, h3, h4, _, h5⟩ := dd'
    refine d_write I (by rw [e]; exact True.intro) hs ⟨q, hq⟩ ⟨hl, hd, _, (rel.put k eb rv).keeps fun c ys ec => ?_, q, es, ep, hq, h2, h3, h4, h5⟩
    rw [upd_ne (ne_of ec e (fun z => nomatch z))]
    exact ec
end
section
variable {X : Cx} {pins : List (Addr × Obj)} {σ : St} {H : Hp} {s : Shared} {a : Addr} {kvs : List (Key × V)} {k : Key} {u : Value} {A : Around} {E : Value → Shared → Prop}
end
section
variable {X : Cx} {o i e value : Expr} {pos pos' tpos : Pos} {td ty tv : TE}
end
theorem dk_empty {P : Program} {w : World} {H : Hp} (h : Heap) (hb : sysModules < h.objs.size) : ObjOk P w H (h.push { cls := .type "dict", data := .dict #[] }) h.objs.size (.dK []) :=
  ⟨Nat.zero_le _, beq_eq_false_iff_ne.mpr (Ne.symm (Nat.ne_of_lt hb)), [], .nil, Heap.DictOf.new h⟩
section
variable {X : Cx} {pos : Pos}
end
noncomputable def tPairs : List (TE × TE) → St → Hp → (List (V × V) → Hp → Prop) → Prop
  | [], _, H, Q => Q [] H
  | (tk, tv) :: r, σ, H, Q => tk σ H fun x H1 => tv σ H1 fun y H2 => tPairs r σ H2 fun ps H3 => Q ((x, y) :: ps) H3
noncomputable abbrev VV : List (V × V) → List (Value × Value) → Prop := Paired fun p q => RelV p.1 q.1 ∧ RelV p.2 q.2
noncomputable def PPs (X : Cx) (pos : Pos) (keys : List (Option Expr)) (values : List Expr) (trs : List (TE × TE)) : Prop :=
  ∀ (pins : List (Addr × Obj)) (s : Shared) (σ : St) (H : Hp) (Q : List (V × V) → Hp → Prop), Inv X pins σ H s → tPairs trs σ H Q →
    wpAny (model X.prog X.w) X.A (evalPairs (pairTrees keys values X.env pos)) (fun vs s' => ∃ ps H', Inv X pins σ H' s' ∧ VV ps vs ∧ Q ps H') X.xe s
theorem pps_nil {X : Cx} {pos : Pos} : PPs X pos [] [] [] := fun pins s σ H Q I h => pairTrees_nil_walk ⟨[], H, I, .nil, h⟩
theorem pps_cons {X : Cx} {pos : Pos} {k v : Expr} {ks : List (Option Expr)} {vs : List Expr} {tk tv : TE} {trs : List (TE × TE)} (hk : PE X k tk) (hv : PE X v tv) (hr : PPs X pos ks vs trs) :
    PPs X pos (some k :: ks) (v :: vs) ((tk, tv) :: trs) := fun pins s σ H Q I h =>
  pairTrees_cons_walk (thn (hk pins s σ H _ I h) fun u s1 ⟨x, H1, I1, rx, q1⟩ => thn (hv pins s1 σ H1 _ I1 q1) fun w2 s2 ⟨y, H2, I2, ry, q2⟩ =>
    thn (hr pins s2 σ H2 _ I2 q2) fun ws s3 ⟨ps, H3, I3, rel, q3⟩ => ⟨(x, y) :: ps, H3, I3, .cons ⟨rx, ry⟩ rel, q3⟩)
noncomputable def mergeK (kvs more : List (Key × V)) : List (Key × V) := more.foldl (fun acc kv => putK acc kv.1 kv.2) kvs
theorem KV.merge : ∀ {more : List (Key × V)} {rs : List (Key × Value)} {kvs : List (Key × V)} {vs : List (Key × Value)}, KV more rs → KV kvs vs → KV (mergeK kvs more) (merged vs rs) := by
  intro more rs kvs vs r
  unfold KV at r
  induction r generalizing kvs vs with
  | nil => intro q; exact q
  | @cons p q ps qs h t ih =>
    intro r0
    have e : KV (putK kvs p.1 p.2) (stored vs q.1 q.2) := by
      have := r0.put p.1 h.2
      rw [← h.1]; exact this
    exact ih e
theorem length_mergeK : ∀ (more kvs : List (Key × V)), (mergeK kvs more).length ≤ kvs.length + more.length
  | [], kvs => by show kvs.length ≤ kvs.length + 0; omega
  | p :: r, kvs => by
    have h1 := length_mergeK r (putK kvs p.1 p.2)
    have h2 := length_putK kvs p.1 p.2
    show (mergeK (putK kvs p.1 p.2) r).length ≤ _
    rw [List.length_cons]; omega
theorem carries_of {P : Program} {w : World} : ∀ {kvs : List (Key × V)} {ws : List (Value × Value)}, VV (kvs.map fun kv => (kV kv.1, kv.2)) ws → ∃ rs, Carries (mixKind P w) ws rs ∧ KV kvs rs
  | [], _, r => by rw [List.map_nil] at r; cases r; exact ⟨[], True.intro, .nil⟩
  | p :: kvs, _, r => by
    rw [List.map_cons] at r
    cases r with
    | @cons a b as bs h t =>
      obtain ⟨rs, c, q⟩ := carries_of (P := P) (w := w) t
      obtain ⟨b1, b2⟩ := b
      exact ⟨(p.1, b2) :: rs, ⟨kV_is h.1, rfl, c⟩, .cons ⟨rfl, h.2⟩ q⟩
noncomputable def tDisp (trs : List (TE × TE)) : TE := fun σ H Q => ∀ p, H p = none → tPairs trs σ (upd H p (.dK [])) fun ps H2 => H2 p = some (.dK []) ∧ ∃ kvs : List (Key × V), ps = kvs.map (fun kv => (kV kv.1, kv.2)) ∧ kvs.length ≤ 15 ∧ Q (.ref p) (upd H2 p (.dK (mergeK [] kvs)))
theorem pe_disp {X : Cx} {pos : Pos} {keys : List (Option Expr)} {values : List Expr} {trs : List (TE × TE)} (h : PPs X pos keys values trs) (hall : keys.all (·.isSome) = true) (hl : keys.length = values.length) (h0 : keys ≠ [])
    (h15 : keys.length ≤ 15) : PE X (.Dict keys values pos) (tDisp trs) := by
  intro pins s σ H Q I q
  have hn := I.hok.fresh (Nat.le_refl s.heap.objs.size)
  have I1 := I.laid (a := s.heap.objs.size) (o := .dK []) (h' := s.heap.push { cls := .type "dict", data := .dict #[] }) (t' := s.toks) (fun _ _ q => Heap.get?_push_of_some _ q) (Nat.le_refl _) (dk_empty s.heap I.big)
  refine wpAny_Dict_walk (knd := mixKind X.prog X.w) hall hl h0 h15 (thn (h pins _ σ _ _ I1 (q _ hn)) fun ws s2 ⟨ps, H2, I2, rel, e, kvs, ep, lk, q2⟩ => ?_)
  subst ep
  obtain ⟨rs, c, rk⟩ := carries_of (P := X.prog) (w := X.w) rel
  obtain ⟨z, hd, vs0, r0, dd⟩ := dk_of I2.hok e
  cases r0
  refine ⟨rs, c, dd, fun h' dd' hs => ⟨.ref s.heap.objs.size, _, ?_, rfl, q2⟩⟩
  have hz : (mergeK [] kvs).length ≤ sizeLine := by
    have h1 := length_mergeK kvs []
    rw [List.length_nil] at h1
    rw [sizeLine_eq]; omega
  have he : ∃ q, h'.get? s.heap.objs.size = some q := let ⟨q, _, _, hq, _⟩ := dd'; ⟨q, hq⟩
  exact d_write I2 (by rw [e]; exact True.intro) hs he (dk_new hz hd (rk.merge .nil) dd')
structure M1 (X : Cx) (o : Expr) (m : Str) (apos : Pos) (e : Expr) (cpos : Pos) : Prop where
  base : attributeBase o m X.env (eval o X.env) = eval o X.env
  few : ((backTo cpos (starEach [e] X.env)).all (fun x => !x.1) && (backToKw cpos (keywordEach [] X.env)).all (fun x => x.1.isSome)
    && decide (([e] : List Expr).length + ([] : List Keyword).length + (if ([] : List Keyword).isEmpty then 0 else 1) < 30)) = true
  line : (apos.endLine == cpos.line) = true
  trees : backTo cpos (starEach [e] X.env) = [(false, eval e X.env)]
structure M2 (X : Cx) (o : Expr) (m : Str) (apos : Pos) (e f : Expr) (cpos : Pos) : Prop where
  base : attributeBase o m X.env (eval o X.env) = eval o X.env
  few : ((backTo cpos (starEach [e, f] X.env)).all (fun x => !x.1) && (backToKw cpos (keywordEach [] X.env)).all (fun x => x.1.isSome)
    && decide (([e, f] : List Expr).length + ([] : List Keyword).length + (if ([] : List Keyword).isEmpty then 0 else 1) < 30)) = true
  line : (apos.endLine == cpos.line) = true
  trees : backTo cpos (starEach [e, f] X.env) = [(false, eval e X.env), (false, eval f X.env)]
section
variable {X : Cx} {pins : List (Addr × Obj)} {σ : St} {H : Hp} {s : Shared} {a : Addr} {y d : V} {u r : Value} {o : Option V} {A : Around} {E : Value → Shared → Prop}
end
section
variable {X : Cx} {o e f : Expr} {apos cpos : Pos} {td ty tx : TE}
end
section
variable {X : Cx} {pins : List (Addr × Obj)} {σ : St} {H : Hp} {s : Shared} {a : Addr} {kvs : List (Key × V)} {A : Around} {E : Value → Shared → Prop}
end
section
variable {X : Cx} {pins : List (Addr × Obj)} {σ : St} {H : Hp} {s : Shared} {a : Addr} {y : V} {u : Value} {A : Around} {E : Value → Shared → Prop}
end
end L2
set_option Elab.async false
set_option linter.all false
set_option maxRecDepth 100000
namespace L2
open PySem PyProof.Rows
open Sem (wp)
end L2
set_option Elab.async false
set_option linter.all false
set_option maxRecDepth 100000
namespace L2
open PySem PyProof.Rows
open Sem (wp)
end L2
set_option Elab.async false
set_option linter.all false
set_option maxRecDepth 100000
namespace L2
open PySem PySem.Spec PyProof.Rows
noncomputable def Fl (h : Heap) (a : Addr) (C : Value) (T : Option Addr) : Prop :=
  ∃ oe vs a0, h.get? a = some oe ∧ oe.cls = C ∧ oe.data = .fields vs ∧ vs[0]? = some a0 ∧ 1 < vs.size ∧
    (match T with
    | none => vs[1]? = some Value.none
    | some t => vs[1]? = some (Value.ref t) ∧ t ≠ a ∧ ∃ oT ts, h.get? t = some oT ∧ oT.data = .fields ts ∧ 3 < ts.size)
theorem frameOf_congr {e1 e2 : Env} (h : e1.frame = e2.frame) : PySem.frameOf e1 = PySem.frameOf e2 := by
  unfold PySem.frameOf; rw [h]
theorem noteFrame_congr {e : Value} {e1 e2 : Env} (h : e1.frame = e2.frame) : noteFrame e e1 = noteFrame e e2 := by
  unfold noteFrame; rw [h, frameOf_congr h]
structure Wr (l fs : List Addr) (h h' : Heap) : Prop where
  keep : ∀ b o, b ∉ l → b ∉ fs → h.get? b = some o → h'.get? b = some o
  slot : ∀ b o, b ∉ l → b ∈ fs → h.get? b = some o → ∃ sl, h'.get? b = some { o with slots := sl }
theorem Wr.any {l fs : List Addr} {h h' : Heap} (W : Wr l fs h h') {b : Addr} {o : Obj} (hb : b ∉ l) (e : h.get? b = some o) : ∃ sl, h'.get? b = some { o with slots := sl } := by
  by_cases hf : b ∈ fs
  · exact W.slot b o hb hf e
  · exact ⟨o.slots, W.keep b o hb hf e⟩
theorem ObjOk.there {P : Program} {w : World} {H : Hp} {h : Heap} {a : Addr} {o : HO} (x : ObjOk P w H h a o) : ∃ ob, h.get? a = some ob := by
  cases o with
  | lst xs => obtain ⟨_, _, _, _, e⟩ := x; exact ⟨_, e⟩
  | tup xs => obtain ⟨_, _, _, ob, e, _⟩ := x; exact ⟨_, e⟩
  | dK kvs => obtain ⟨_, _, _, _, o, _, _, e, _⟩ := x; exact ⟨_, e⟩
  | dT kvs => obtain ⟨_, _, _, _, o, _, _, e, _⟩ := x; exact ⟨_, e⟩
  | set S n => obtain ⟨o, _, _, _, e, _⟩ := x; exact ⟨_, e⟩
  | ins C dx fs => obtain ⟨_, _, _, e, _⟩ := x; exact ⟨_, e⟩
  | own y => obtain ⟨_, e⟩ := x; exact ⟨_, e⟩
  | xd fs => obtain ⟨_, ⟨_, _, _, e, _⟩, _⟩ := x; exact ⟨_, e⟩
  | rng lo hi => obtain ⟨_, _, _, e⟩ := x; exact ⟨_, e⟩
  | frz ob u => obtain ⟨e, _⟩ := x; exact ⟨_, e⟩
  | tbl ps => exact ⟨_, (show h.get? a = some _ from x)⟩
  | met f y => exact ⟨_, (show h.get? a = some _ from x)⟩
  | ext φ => obtain ⟨_, ⟨_, e⟩, _⟩ := x; exact ⟨_, e⟩
section
variable {M : Model} {A : Around} {E : Value → Shared → Prop} {s : Shared} {base : Heap} {env top : Env} {outer : List Env} {L a : Addr} {C : Value} {T : Option Addr}
theorem note_any {Q : Unit → Shared → Prop} (hfr : A.frames = some (top :: outer)) (ht : top.frame = some L) (hf : env.frame = some L) (hl : s.heap.FunFrames base (top :: outer)) (fl : Fl s.heap a C T)
    (h : ∀ h' T', Wr (a :: T.toList) (frs (top :: outer)) s.heap h' → Fl h' a C (some T') → (T = some T' ∨ s.heap.get? T' = none) → Q () { s with heap := h' }) :
    wpAny M A (noteFrame (.ref a) env) Q E s := by
  rw [noteFrame_congr (e1 := env) (e2 := top) (hf.trans ht.symm)]
  have fl0 := fl
  obtain ⟨oe, vs, a0, he, hc, hd, h0, hsz, hT⟩ := fl
  subst hc
  generalize hB : PySem.W.hideAll s.heap (a :: (T.toList ++ frs (top :: outer))) = B
  have hkb : B.StaysIn s.heap := fun b o e => by rw [← hB] at e; exact PySem.W.of_hideAll _ e
  have hen : B.get? a = none := by rw [← hB]; exact PySem.W.hideAll_none _ (List.mem_cons_self ..)
  have hl' : s.heap.FunFrames B (top :: outer) := by
    rw [← hB]
    refine PySem.W.funFrames_hide hl fun env' he' b hb => ?_
    exact List.mem_cons_of_mem _ (List.mem_append_right _ (List.mem_filterMap.mpr ⟨env', he', hb⟩))
  have nf : ∀ b, b ∈ frs (top :: outer) → ∀ o, s.heap.get? b = some o → ∀ vs, o.data ≠ .fields vs := fun b hb o e => by
    obtain ⟨_, o', ho', hnf⟩ := hl.mem hb
    rw [e] at ho'; cases ho'; exact hnf
  have unhid : ∀ b o, b ∉ a :: T.toList → b ∉ frs (top :: outer) → s.heap.get? b = some o → B.get? b = some o := fun b o hb hfb e => by
    rw [← hB]
    refine PySem.W.hideAll_get _ e fun z => ?_
    rcases List.mem_cons.mp z with z | z
    · exact hb (z ▸ List.mem_cons_self ..)
    · rcases List.mem_append.mp z with z | z
      · exact hb (List.mem_cons_of_mem _ z)
      · exact hfb z
  have fin : ∀ h', Heap.NotedW B (top :: outer) a oe.cls a0 (rawInt L) s.heap h' → Q () { s with heap := h' } := fun h' hN => by
    obtain ⟨n1, n2, ⟨oe', vs', T', oT', ts', g1, ⟨g2, g3⟩, g4, g5, g6, g7, g8, g9, g10⟩, n4⟩ := hN
    have slot : ∀ b o, b ∈ frs (top :: outer) → s.heap.get? b = some o → ∃ sl, h'.get? b = some { o with slots := sl } := fun b o hb e => n4 b o e (nf b hb o e)
    refine h h' T' ⟨fun b o hb hfb e => n1 b o (unhid b o hb hfb e), fun b o _ hb e => slot b o hb e⟩ ⟨oe', vs', a0, g1, g2, g4, g3, (Array.getElem?_eq_some_iff.mp g5).1, g5, g7, oT', ts', g8, g9, (Array.getElem?_eq_some_iff.mp g10).1⟩ ?_
    by_cases q1 : T' ∈ a :: T.toList
    · rcases List.mem_cons.mp q1 with z | z
      · exact absurd z g7
      · left
        cases T with
        | none => simp at z
        | some t => have z' : T' = t := by simpa using z
                    rw [z']
    · right
      cases e : s.heap.get? T' with
      | none => rfl
      | some o =>
        exfalso
        by_cases q2 : T' ∈ frs (top :: outer)
        · obtain ⟨sl, q⟩ := slot T' o q2 e
          rw [g8] at q
          have q' : oT' = { o with slots := sl } := Option.some.inj q
          rw [q'] at g9
          exact nf T' q2 o e _ g9
        · have := unhid T' o q1 q2 e
          rw [g6] at this; cases this
  cases T with
  | none =>
    unfold noteFrame
    simp only [ht]
    refine wpAny_bind (wpAny_field he hd hT ?_)
    rw [if_neg (by decide)]
    exact wpAny_entryW hfr hl' ht he hkb hen hd hsz h0 fin
  | some t =>
    obtain ⟨h1, hta, oT, ts, hoT, hdT, hs3⟩ := hT
    obtain ⟨fl3, h3⟩ : ∃ v, ts[3]? = some v := ⟨ts[3], by simp [hs3]⟩
    have hnT : B.get? t = none := by rw [← hB]; exact PySem.W.hideAll_none _ (by simp)
    unfold noteFrame
    simp only [ht]
    refine wpAny_bind (wpAny_field he hd h1 ?_)
    rw [if_pos (show (Value.ref t != Value.none) = true from by simp)]
    refine wpAny_bind (wpAny_field hoT hdT h3 ?_)
    by_cases hfl : (fl3 == rawInt L) = true
    · rw [if_pos hfl]
      exact wpAny_pure (h s.heap t ⟨fun b o _ _ e => e, fun b o _ _ e => ⟨o.slots, e⟩⟩ fl0 (.inl rfl))
    · rw [if_neg hfl]
      refine wpAny_bind (wpAny_setField hoT hdT hs3 ?_)
      have other : ∀ b, b ≠ t → (s.heap.update t (Obj.mapFields (·.setIfInBounds 3 Value.none))).get? b = s.heap.get? b := fun b hb => Heap.get?_update_other _ _ (Ne.symm hb)
      have noRecord : ∀ b o, s.heap.get? b = some o → (∀ vs, o.data ≠ .fields vs) → b ≠ t := fun b o hb hnf q => by
        rw [q, hoT] at hb; injection hb with hb; subst hb; exact hnf ts hdT
      refine wpAny_entryW hfr (hl'.of_keeps fun b o hb hnf => ⟨o, (other b (noRecord b o hb hnf)).trans hb, rfl⟩) ht ((other a (Ne.symm hta)).trans he)
        (fun b o hbo => (other b fun q => by rw [q, hnT] at hbo; cases hbo).trans (hkb b o hbo)) hen hd hsz h0 ?_
      rintro h' ⟨x1, x2, x3, x4⟩
      exact fin h' ⟨x1, x2, x3, fun b o hb hnf => x4 b o ((other b (noRecord b o hb hnf)).trans hb) hnf⟩
theorem flight_any {t : Addr} {f : Option Addr} {Q : Unit → Shared → Prop} (fl : Fl s.heap a C (some t))
    (h : ∀ h', Heap.SameBut t s.heap h' → Fl h' a C (some t) → Q () { s with heap := h' }) : wpAny M A (setFlight (.ref a) f) Q E s := by
  obtain ⟨oe, vs, a0, he, hc, hd, h0, hsz, h1, hta, oT, ts, hoT, hdT, hs3⟩ := fl
  unfold setFlight
  refine wpAny_bind (wpAny_field he hd h1 ?_)
  rw [if_pos (show (Value.ref t != Value.none) = true from by simp)]
  refine wpAny_setField hoT hdT hs3 (h _ (Heap.SameBut.update ..) ?_)
  have hdT' := Obj.data_mapFields hdT (·.setIfInBounds 3 (f.elim Value.none fun f => rawInt f))
  refine ⟨oe, vs, a0, (Heap.get?_update_other _ _ hta).trans he, hc, hd, h0, hsz, h1, hta, _, _, Heap.get?_update_self _ hoT (Obj.isFreed_of_fields hdT'), hdT', ?_⟩
  simpa using hs3
theorem traced_any {t : Addr} {Q : Value → Shared → Prop} (fl : Fl s.heap a C (some t)) (h : Q (.ref t) s) : wpAny M A (field (.ref a) 1) Q E s := by
  obtain ⟨oe, vs, a0, he, hc, hd, h0, hsz, h1, _⟩ := fl
  exact wpAny_field he hd h1 h
end
theorem Fl.at {h h' : Heap} {a : Addr} {C : Value} {T : Option Addr} (fl : Fl h a C T) (k : ∀ b ∈ a :: T.toList, ∀ o, h.get? b = some o → h'.get? b = some o) : Fl h' a C T := by
  obtain ⟨oe, vs, a0, he, hc, hd, h0, hsz, hT⟩ := fl
  refine ⟨oe, vs, a0, k a (by simp) _ he, hc, hd, h0, hsz, ?_⟩
  cases T with
  | none => exact hT
  | some t =>
    obtain ⟨h1, hta, oT, ts, hoT, r⟩ := hT
    exact ⟨h1, hta, oT, ts, k t (by simp) _ hoT, r⟩
theorem Fl.rec {h : Heap} {a : Addr} {C : Value} {T : Option Addr} (fl : Fl h a C T) : ∀ b ∈ a :: T.toList, ∃ o vs, h.get? b = some o ∧ o.data = .fields vs := by
  obtain ⟨oe, vs, a0, he, hc, hd, h0, hsz, hT⟩ := fl
  intro b hb
  rcases List.mem_cons.mp hb with rfl | hb
  · exact ⟨oe, vs, he, hd⟩
  · cases T with
    | none => simp at hb
    | some t =>
      have e : b = t := by simpa using hb
      subst e
      obtain ⟨h1, hta, oT, ts, hoT, hdT, _⟩ := hT
      exact ⟨oT, ts, hoT, hdT⟩
noncomputable def Ow (X : Cx) (pins : List (Addr × Obj)) (H : Hp) (b : Addr) : Prop := H b = none ∧ X.s₀.heap.get? b = none ∧ b ∉ X.ex ∧ ∀ p ∈ X.pn ++ pins, p.1 ≠ b
structure XOk (X : Cx) : Prop where
  top : ∃ top outer L, X.stack = top :: outer ∧ top.frame = some L ∧ X.env.frame = some L
  ex : ∀ b ∈ X.ex, ∃ o, (b, o) ∈ X.pn
structure Fly (X : Cx) (pins : List (Addr × Obj)) (H : Hp) (h : Heap) (a : Addr) (C : Value) (T : Option Addr) : Prop where
  fl : Fl h a C T
  ow : ∀ b ∈ a :: T.toList, Ow X pins H b
section
variable {X : Cx} {pins : List (Addr × Obj)} {σ : List (Option V)} {H H' : Hp} {s : Shared} {h' : Heap}
theorem Inv.ow (ok : XOk X) (I : Inv X pins σ H s) (hH : H' = H ∨ True) {b : Addr} (n : s.heap.get? b = none) (hn : H' b = none) : Ow X pins H' b := by
  have nx : b ∉ X.ex := fun z => by
    obtain ⟨o, ho⟩ := ok.ex b z
    have := (I.pin (b, o) (List.mem_append_left _ ho)).1
    rw [n] at this; cases this
  refine ⟨hn, ?_, nx, fun p hp e => ?_⟩
  · cases q : X.s₀.heap.get? b with
    | none => rfl
    | some o =>
      obtain ⟨o', e⟩ := I.base.there b o q nx
      rw [n] at e; cases e
  · have := (I.pin p hp).1
    rw [e, n] at this; cases this
theorem Inv.untracked (I : Inv X pins σ H s) {b : Addr} (n : s.heap.get? b = none) : H b = none := by
  cases q : H b with
  | none => rfl
  | some o =>
    obtain ⟨ob, e⟩ := (I.hok b o q).there
    rw [n] at e; cases e
theorem Inv.wrote {l : List Addr} (I : Inv X pins σ H s) (W : Wr l (frs X.stack) s.heap h') (ow : ∀ b ∈ l, Ow X pins H b) (rec : ∀ b ∈ l, ∃ o vs, s.heap.get? b = some o ∧ o.data = .fields vs) :
    Inv X pins σ H { s with heap := h' } := by
  have lL : X.env.locals ∉ l := fun z => by
    obtain ⟨o, vs, e, d⟩ := rec _ z
    obtain ⟨m, ⟨o', es, ep, ho', hd', _⟩, _⟩ := I.loc
    rw [e] at ho'; cases ho'; rw [d] at hd'; cases hd'
  have cL : ∀ x c, X.env.cells.lookup x = some c → c ∉ l := fun x c e z => by
    obtain ⟨o, vs, e1, d⟩ := rec _ z
    obtain ⟨v, o', ho', hd'⟩ := I.cell x c e
    rw [e1] at ho'; cases ho'; rw [d] at hd'; cases hd'
  have sL : ∀ b o, X.s₀.heap.get? b = some o → b ∉ l := fun b o e z => by rw [(ow b z).2.1] at e; cases e
  have tL : ∀ b o, H b = some o → b ∉ l := fun b o e z => by rw [(ow b z).1] at e; cases e
  have nL : ∀ m, s.heap.Ns X.env.locals m → h'.Ns X.env.locals m := fun m hm => by
    obtain ⟨o, es, ep, ho, hd, r⟩ := hm
    obtain ⟨sl, q⟩ := W.any lL ho
    exact ⟨_, es, ep, q, hd, r⟩
  have cell : ∀ x c, X.env.cells.lookup x = some c → ∀ v, s.heap.IsCell c v → h'.IsCell c v := fun x c e v ⟨o, ho, hd⟩ => by
    obtain ⟨sl, q⟩ := W.any (cL x c e) ho
    exact ⟨_, q, hd⟩
  have fs0 : ∀ b, b ≠ X.env.locals → b ∉ X.fs → b ∉ frs X.stack := fun b h1 h2 z => (List.mem_cons.mp (I.stkSub b z)).elim h1 h2
  have old : ∀ b o, X.s₀.heap.get? b = some o → b ≠ X.env.locals := fun b o e => Nat.ne_of_lt (Nat.lt_of_lt_of_le (Heap.lt_size e) I.ok.above)
  refine ⟨I.ok, I.os, I.bare, ⟨fun b o e n hb hx => ?_, fun b o e n hb hx => ?_, I.base.free, fun b o e hx => ?_, I.base.tups, I.base.frzs, I.base.tbls⟩, ?_, fun x c e => ?_, I.free, I.freeC, fun p hp => ?_, fun b u e => ?_, I.len⟩
  · exact W.keep b o (sL b o e) (fs0 b (old b o e) hb) (I.base.keep b o e n hb hx)
  · obtain ⟨sl, e1⟩ := I.base.slot b o e n hb hx
    obtain ⟨sl', e2⟩ := W.any (sL b o e) e1
    exact ⟨sl', e2⟩
  · obtain ⟨o', e1⟩ := I.base.there b o e hx
    obtain ⟨sl, e2⟩ := W.any (sL b o e) e1
    exact ⟨_, e2⟩
  · obtain ⟨m, hn, hl⟩ := I.loc
    refine ⟨m, nL m hn, fun i x v e1 e2 e3 => ?_⟩
    obtain ⟨u, r, q⟩ := hl i x v e1 e2 e3
    refine ⟨u, r, ?_⟩
    rcases q with q | ⟨k, c, e, z⟩
    · exact .inl q
    · exact .inr ⟨k, c, e, cell x c e _ z⟩
  · obtain ⟨v, z⟩ := I.cell x c e
    exact ⟨v, cell x c e v z⟩
  · obtain ⟨e, n, ne, nf, d⟩ := I.pin p hp
    exact ⟨W.keep p.1 p.2 (fun z => (ow p.1 z).2.2.2 p hp rfl) (fs0 p.1 ne nf) e, n, ne, nf, d⟩
  · refine (I.hok b u e).stay (fun c v hc q => ?_) (fun _ q => q) fun _ _ q => q
    have hc' : ∃ u, H c = some u := hc.elim (fun z => ⟨u, z ▸ e⟩) fun z => ⟨_, z⟩
    obtain ⟨u', e'⟩ := hc'
    exact W.keep c v (tL c u' e') (fun z => by rw [I.stkFree c z] at e'; cases e') q
variable {M : Model} {A : Around} {E : Value → Shared → Prop} {a : Addr} {C : Value} {T : Option Addr} {env : Env}
theorem Inv.note {Q : Unit → Shared → Prop} (ok : XOk X) (I : Inv X pins σ H s) (F : Fly X pins H s.heap a C T) (hfr : A.frames = some X.stack) (hen : env.frame = X.env.frame)
    (h : ∀ h' T', Inv X pins σ H { s with heap := h' } → Fly X pins H h' a C (some T') → Q () { s with heap := h' }) : wpAny M A (noteFrame (.ref a) env) Q E s := by
  obtain ⟨top, outer, L, e1, e2, e3⟩ := ok.top
  have hst := I.stack
  rw [e1] at hfr hst
  refine note_any hfr e2 (hen.trans e3) hst F.fl fun h' T' W fl' new => ?_
  rw [← e1] at W
  refine h h' T' (I.wrote W F.ow F.fl.rec) ⟨fl', fun b hb => ?_⟩
  rcases List.mem_cons.mp hb with rfl | hb
  · exact F.ow _ (List.mem_cons_self ..)
  · have e : b = T' := by simpa using hb
    subst e
    rcases new with q | q
    · exact F.ow _ (by rw [q]; simp)
    · exact I.ow ok (.inr trivial) q (I.untracked q)
theorem Inv.flight {t : Addr} {f : Option Addr} {Q : Unit → Shared → Prop} (I : Inv X pins σ H s) (F : Fly X pins H s.heap a C (some t))
    (h : ∀ h', Inv X pins σ H { s with heap := h' } → Fly X pins H h' a C (some t) → Q () { s with heap := h' }) : wpAny M A (setFlight (.ref a) f) Q E s := by
  refine flight_any F.fl fun h' sb fl' => h h' (I.wrote (l := [a, t]) ⟨fun b o hb _ e => (sb.2 b fun z => hb (by simp [z])).trans e, fun b o hb _ e => ⟨o.slots, (sb.2 b fun z => hb (by simp [z])).trans e⟩⟩ (fun b hb => F.ow b (by simpa using hb)) fun b hb => F.fl.rec b (by simpa using hb)) ⟨fl', F.ow⟩
theorem Inv.passOn {α : Type} {t : Addr} {what : String} {Q : α → Shared → Prop} (I : Inv X pins σ H s) (F : Fly X pins H s.heap a C (some t))
    (h : ∀ h', Inv X pins σ H { s with heap := h' } → Fly X pins H h' a C (some t) → E (.ref a) { s with heap := h' }) : wpAny M A (passOn what (.ref a) env : Sem α) Q E s := by
  unfold PySem.passOn
  refine wpAny_bind (traced_any F.fl ?_)
  rw [if_neg (show ¬ ((Value.ref t == Value.none) = true) from by simp)]
  exact wpAny_bind (I.flight F fun h' I' F' => wpAny_throw (h h' I' F'))
theorem Inv.cameBack {t : Addr} (I : Inv X pins σ H s) (F : Fly X pins H s.heap a C (some t))
    (h : ∀ h', Inv X pins σ H { s with heap := h' } → Fly X pins H h' a C (some t) → E (.ref a) { s with heap := h' }) : cameBackBy M A env E (.ref a) s := by
  unfold cameBackBy
  refine wpAny_bind (traced_any F.fl ?_)
  rw [if_neg (show ¬ ((Value.ref t == Value.none) = true) from by simp)]
  exact I.flight F fun h' I' F' => h h' I' F'
end
noncomputable abbrev ZK := St → Value → Hp → Prop
noncomputable def XE (X : Cx) (Z : ZK) (e : Value) (s' : Shared) : Prop := ∃ a C T σ' H', e = .ref a ∧ Inv X [] σ' H' s' ∧ Fly X [] H' s'.heap a C T ∧ Z σ' C H'
structure Thr (X : Cx) (Z : ZK) : Prop extends XOk X where
  thr : ∀ e s', XE X Z e s' → X.xe e s'
noncomputable def CXs (P : Program) (w : World) : CXT := fun outer H s E e s' => ∃ a C t H', e = .ref a ∧ s'.os = s.os ∧ AllBare s'.gens ∧ Un (frs outer) [] H H' s.heap s'.heap ∧ HOk P w H' s'.heap ∧
  Fl s'.heap a C (some t) ∧ (∀ b ∈ [a, t], H' b = none ∧ s.heap.get? b = none) ∧ E C none H'
theorem thr_def {P : Program} {w : World} {K : PySem.W.Frag} {mg : Str → Option Value} {base : Heap} {N : List Str} {qual : Str} {scope : Scope} {f : Addr} {cd : Value} {A : Around} {outer : List Env} {s : Shared} {H : Hp} {E : XK} :
    Thr (cxOf (CXs P w) P w K mg base N qual scope f cd A outer s H E) (fun _ C H' => E C none H') where
  top := ⟨_, _, _, rfl, rfl, rfl⟩
  ex := fun b hb => absurd (show b ∈ ([] : List Addr) from hb) (by simp)
  thr := by
    rintro e s' ⟨a, C, T, σ', H', rfl, I, F, z⟩
    have ok : XOk (cxOf (CXs P w) P w K mg base N qual scope f cd A outer s H E) := ⟨⟨_, _, _, rfl, rfl, rfl⟩, fun b hb => absurd (show b ∈ ([] : List Addr) from hb) (by simp)⟩
    show wpAny (model P w) (A.deeper (envOfC qual scope s.heap.objs.size f cd)) (leaving (envOfC qual scope s.heap.objs.size f cd) (.ref a)) _ _ s'
    unfold leaving
    refine wpAny_bind (I.note ok F I.ok.frames rfl fun h1 t I1 F1 => ?_)
    refine I1.flight F1 fun h2 I2 F2 => ?_
    exact ⟨a, C, t, H', rfl, I2.os, I2.bare, I2.base, I2.hok, F2.fl, fun b hb => ⟨(F2.ow b (by simpa using hb)).1, (F2.ow b (by simpa using hb)).2.1⟩, z⟩
section
variable {X : Cx} {pins : List (Addr × Obj)} {σ : St} {H : Hp} {s s' : Shared}
theorem Inv.thrown {E : XK} {e : Value} (ok : XOk X) (I : Inv X pins σ H s) (h : CXs X.prog X.w X.stack H s E e s') : ∃ a C t H', e = .ref a ∧ Inv X pins σ H' s' ∧ Fly X pins H' s'.heap a C (some t) ∧ E C none H' := by
  obtain ⟨a, C, t, H', rfl, ho, hg, u, hok, fl, ow, q⟩ := h
  have I' : Inv X pins σ H' s' := I.call' (ch := []) ho u hok hg fun b hb => absurd hb (by simp)
  refine ⟨a, C, t, H', rfl, I', ⟨fl, fun b hb => ?_⟩, q⟩
  obtain ⟨o1, o2⟩ := ow b (by simpa using hb)
  exact I.ow ok (.inr trivial) o2 o1
theorem Inv.nopins (I : Inv X pins σ H s) : Inv X [] σ H s := I.pins_of fun p hp => absurd hp (by simp)
theorem Fly.nopins {h : Heap} {a : Addr} {C : Value} {T : Option Addr} (F : Fly X pins H h a C T) : Fly X [] H h a C T :=
  ⟨F.fl, fun b hb => ⟨(F.ow b hb).1, (F.ow b hb).2.1, (F.ow b hb).2.2.1, fun p hp => (F.ow b hb).2.2.2 p (by simp at hp; exact List.mem_append_left _ hp)⟩⟩
theorem Thr.go {Z : ZK} (th : Thr X Z) {a : Addr} {C : Value} {T : Option Addr} (I : Inv X pins σ H s) (F : Fly X pins H s.heap a C T) (z : Z σ C H) : X.xe (.ref a) s :=
  th.thr _ _ ⟨a, C, T, σ, H, rfl, I.nopins, F.nopins, z⟩
end
noncomputable def tCallX (sp : Sp) (dvs : List V) (Z : ZK) (t : TA) : TE := fun σ H Q => t σ H fun vs H1 => sp (vs ++ dvs) H1 Q (fun C _ H' => Z σ C H')
section
variable {X : Cx} {k : Nat} {f C : Addr} {fd : FuncData} {ps : List Str} {sp : Sp} {dvs : List V} {ds : List Value} {Z : ZK} {x m : Str} {p pos apos : Pos} {e o : Expr} {es : List Expr} {ta : TE} {t : TA}
theorem run_fnX {pins : List (Addr × Obj)} {σ : St} {H : Hp} {s : Shared} {Q : VK} {us : List Value} {vs : List V} (F : FnOk X.prog X.w X.K X.mg X.base (CXs X.prog X.w) k f fd ps sp) (hr : Room k X.A) (hb : Binds X.K fd ps ds) (hd : Vals dvs ds) (th : Thr X Z)
    (I : Inv X pins σ H s) (r : Vals vs us) (h : sp (vs ++ dvs) H Q (fun C _ H' => Z σ C H')) : wpAny (model X.prog X.w) X.A (call (.ref f) us) (EP X pins σ Q) X.xe s := by
  have r2 : Vals (vs ++ dvs) (us ++ ds) := r.append hd
  have hl : (us ++ ds).length = ps.length := by rw [← r2.length]; exact F.len _ _ _ _ h
  refine wpAny_call (codeAny_mono (F.run X.A X.stack s H ⟨us, []⟩ (us ++ ds) (vs ++ dvs) Q _ hr I.env0 (hb s us I.kIn hl) r2 h) fun r s' hq => ?_)
  cases r with
  | error e =>
    have hq' : CXs X.prog X.w X.stack H s (fun C _ H' => Z σ C H') e s' := hq
    obtain ⟨a, C, t, H', rfl, I', F', z⟩ := I.thrown th.toXOk hq'
    exact th.go I' F' z
  | ok fl =>
    cases fl with
    | ret u => exact I.after hq
    | next => exact False.elim hq
    | brk => exact False.elim hq
    | cont => exact False.elim hq
theorem pe_callX (F : FnOk X.prog X.w X.K X.mg X.base (CXs X.prog X.w) k f fd ps sp) (hr : Room k X.A) (hg : Gl X x) (hm : X.mg x = some (.ref f)) (hk : PySem.W.keepIn X.K (.ref f) = true) (hb : Binds X.K fd ps ds) (hd : Vals dvs ds) (th : Thr X Z)
    (ha : PA X (e :: es) t) (hdb : (x == ("__debug__" : Str)) = false := by decide) (he : starEach (e :: es) X.env = (false, eval e X.env) :: starEach es X.env := by rfl) (hpl : (backTo pos (starEach es X.env)).any (·.1) = false := by rfl) :
    PE X (.Call (.Name x p) (e :: es) [] pos) (tCallX sp dvs Z t) := by
  intro pins s σ H Q I h
  refine wpAny_Call_Name_kw (ld_glob I hg hm ?_ hdb)
  refine PySem.W.callWith_K (h₀ := X.base) I.ok.mod.kin hk (thn (ha pos pins s σ H _ I h) fun us s1 ⟨vs, H1, I1, r, q⟩ => ⟨I1.kIn, ?_⟩) he hpl
  exact run_fnX F hr hb hd th I1 r q
end
end L2
set_option Elab.async false
set_option linter.all false
set_option maxRecDepth 100000
namespace L2
open PySem PySem.Spec PyProof.Rows
noncomputable def clGo (env : Env) : List (Str × NameKind) → List (Str × Addr) → List (Str × Addr)
  | [], cs => cs
  | (n, k) :: r, cs => clGo env r (if k == .free then (n, (env.cells.lookup n).getD 0) :: cs else cs)
noncomputable def clOf (scope : Scope) (env : Env) : List (Str × Addr) := clGo env scope.names []
theorem closure_of {scope : Scope} {env : Env} (h : ∀ y ∈ scope.names, y.2 = .free → ∃ c, env.cells.lookup y.1 = some c) : closureFor scope env = pure (clOf scope env) := by
  unfold closureFor clOf
  have go : ∀ (l : List (Str × NameKind)) (cs : List (Str × Addr)), (∀ y ∈ l, y.2 = .free → ∃ c, env.cells.lookup y.1 = some c) →
      (forIn l cs fun (x : Str × NameKind) (r : List (Str × Addr)) => (match x with
        | (name, kind) => if (kind == NameKind.free) = true then (do let a ← cellOf env name; pure (ForInStep.yield ((name, a) :: r))) else (pure (ForInStep.yield r)) : Sem (ForInStep (List (Str × Addr))))) = (pure (clGo env l cs) : Sem (List (Str × Addr))) := by
    intro l
    induction l with
    | nil => intro cs _; rfl
    | cons y r ih =>
      intro cs hl
      obtain ⟨n, k⟩ := y
      rw [List.forIn_cons]
      by_cases hk : (k == NameKind.free) = true
      · obtain ⟨c, hc⟩ := hl (n, k) (List.mem_cons_self ..) (by simpa using hk)
        have e : cellOf env n = pure c := by unfold cellOf; rw [hc]
        simp only [hk, if_true, e, pure_bind, clGo, hc, Option.getD_some]
        exact ih _ fun y hy => hl y (List.mem_cons_of_mem _ hy)
      · simp only [hk, if_false, pure_bind, clGo, Bool.false_eq_true]
        exact ih _ fun y hy => hl y (List.mem_cons_of_mem _ hy)
  have := go scope.names [] h
  first
    | (rw [this]; rfl)
    | (simp only [bind_pure_comp] at this ⊢; rw [this]; rfl)
    | (simp only [bind_pure_comp] at this ⊢; rw [this]; simp)
theorem clGo_mem {env : Env} : ∀ {l : List (Str × NameKind)} {cs : List (Str × Addr)} {x : Str} {c : Addr}, (∀ y ∈ l, y.2 = .free → ∃ c, env.cells.lookup y.1 = some c) → (x, c) ∈ clGo env l cs → (x, c) ∈ cs ∨ env.cells.lookup x = some c
  | [], _, _, _, _, h => .inl h
  | (n, k) :: r, cs, x, c, hl, h => by
    rcases clGo_mem (l := r) (fun y hy => hl y (List.mem_cons_of_mem _ hy)) h with h | h
    · by_cases hk : (k == NameKind.free) = true
      · rw [if_pos hk] at h
        rcases List.mem_cons.mp h with e | h
        · obtain ⟨c', hc⟩ := hl (n, k) (List.mem_cons_self ..) (by simpa using hk)
          rw [hc] at e
          cases e
          exact .inr hc
        · exact .inl h
      · rw [if_neg hk] at h
        exact .inl h
    · exact .inr h
theorem clGo_keep {env : Env} : ∀ {l : List (Str × NameKind)} {cs : List (Str × Addr)} {p : Str × Addr}, p ∈ cs → p ∈ clGo env l cs
  | [], _, _, h => h
  | (n, k) :: r, cs, p, h => by
    unfold clGo
    refine clGo_keep ?_
    split
    · exact List.mem_cons_of_mem _ h
    · exact h
theorem clGo_has {env : Env} : ∀ {l : List (Str × NameKind)} {cs : List (Str × Addr)} {x : Str}, (x, NameKind.free) ∈ l → ∃ c, (x, c) ∈ clGo env l cs
  | (n, k) :: r, cs, x, h => by
    unfold clGo
    rcases List.mem_cons.mp h with e | h
    · cases e
      exact ⟨(env.cells.lookup n).getD 0, clGo_keep (by rw [if_pos (by decide)]; exact List.mem_cons_self ..)⟩
    · exact clGo_has h
theorem lookup_some_of_mem {α β : Type} [BEq α] [LawfulBEq α] : ∀ {l : List (α × β)} {x : α} {c : β}, (x, c) ∈ l → ∃ c', l.lookup x = some c'
  | (n, k) :: r, x, c, h => by
    rw [List.lookup_cons]
    cases e : x == n with
    | true => exact ⟨k, rfl⟩
    | false =>
      rcases List.mem_cons.mp h with q | q
      · cases q; simp at e
      · exact lookup_some_of_mem q
noncomputable abbrev compCx (X : Cx) (NC : List Str) (scope : Scope) (C : Addr) (s : Shared) (H : Hp) (ex : List Addr) (pn : List (Addr × Obj)) (xe : Value → Shared → Prop) : Cx :=
  { X with N := NC, s₀ := s, H₀ := H, env := compEnvC scope (clOf scope X.env) C X.env, outer := X.stack, stack := X.stack, ex := ex, fn := fun _ => false, calm := true, pn := pn, xe := xe }
noncomputable def compOk (osc scope : Scope) (N NC : List Str) (cap : List (Option Nat)) : Bool :=
  scope.kind == .function && scope.names.all (fun y => y.2 != .cell) &&
  scope.names.all (fun y => y.2 != .local || scope.names.lookup y.1 == some .local) &&
  scope.names.all (fun y => y.2 != .free || osc.names.lookup y.1 == some .cell) && cap.length == NC.length &&
  (List.range NC.length).all fun j => match cap[j]?, NC[j]? with
    | some (some i), some x => N[i]? == some x && scope.names.lookup x == some .free
    | some none, some x => scope.names.lookup x == some .local
    | _, _ => false
noncomputable def capσ (cap : List (Option Nat)) (σ : St) : St := cap.map fun o => o.bind fun i => (σ[i]?).bind id
theorem kindOf_rel {scope : Scope} {env : Env} {x : Str} (hk : env.scope.kind = .function) : ∀ {names : List (Str × NameKind)}, (∀ y ∈ names, y.2 = .free → env.kindOf y.1 = some .cell) →
    (names.map fun (n, k) => if (k == NameKind.free && env.scope.kind == .function && env.kindOf n == some .cell) then (n, NameKind.cell) else (n, k)).lookup x = (names.lookup x).map fun k => if k = .free then .cell else k
  | [], _ => rfl
  | (n, k) :: r, h => by
    have ih := kindOf_rel (scope := scope) (x := x) hk (names := r) fun y hy => h y (List.mem_cons_of_mem _ hy)
    show List.lookup x ((if (k == NameKind.free && env.scope.kind == .function && env.kindOf n == some .cell) = true then (n, NameKind.cell) else (n, k)) :: _) = _
    by_cases hkf : k = .free
    · subst hkf
      rw [if_pos (by rw [hk, h (n, .free) (List.mem_cons_self ..) rfl]; decide)]
      rw [List.lookup_cons, List.lookup_cons]
      cases e : x == n with
      | true => rfl
      | false => exact ih
    · rw [if_neg (by intro z; simp only [Bool.and_eq_true, beq_iff_eq] at z; exact hkf z.1.1)]
      rw [List.lookup_cons, List.lookup_cons]
      cases e : x == n with
      | true => simp [hkf]
      | false => exact ih
section
variable {X : Cx} {pins : List (Addr × Obj)} {σ : St} {H H' : Hp} {s s' : Shared}
theorem Inv.repn {pn pins' : List (Addr × Obj)} {xe : Value → Shared → Prop} (I : Inv X pins σ H s) (h : ∀ p ∈ pn ++ pins', p ∈ X.pn ++ pins) : Inv { X with pn := pn, xe := xe } pins' σ H s :=
  ⟨⟨I.ok.mod, I.ok.kind, I.ok.glob, I.ok.blt, I.ok.above, I.ok.inj, I.ok.has, I.ok.cab, I.ok.hd, I.ok.frames, I.ok.stk, I.ok.exf, I.ok.bs, I.ok.bsz, I.ok.noex, I.ok.exfs, I.ok.funs, I.ok.frf⟩,
    I.os, I.bare, I.base, I.loc, I.cell, I.free, I.freeC, fun p hp => I.pin p (h p hp), I.hok, I.len⟩
theorem Inv.track {D : Addr} {o : HO} (I : Inv X pins σ H s) (hD : H D = none) (h0 : X.s₀.heap.get? D = none) (hL : D ≠ X.env.locals) (hC : ∀ x c, X.env.cells.lookup x = some c → c ≠ D) (hp : ∀ p ∈ X.pn ++ pins, p.1 ≠ D)
    (new : ObjOk X.prog X.w (upd H D o) s.heap D o) : Inv X pins σ (upd H D o) s := by
  have up : ∀ b u, H b = some u → upd H D o b = some u := fun b u e => by rw [upd_ne (ne_of_none e hD)]; exact e
  refine ⟨I.ok, I.os, I.bare, ⟨I.base.keep, I.base.slot, fun b u e n hx => ?_, I.base.there, fun b xs e => up _ _ (I.base.tups b xs e), fun b u xs e => up _ _ (I.base.frzs b u xs e), fun b ps e => ?_⟩, I.loc, I.cell, ?_, fun x c e => ?_, fun p hq => ?_, fun b u e => ?_, I.len⟩
  · rw [upd_ne (fun z => by rw [z, h0] at e; cases e)]
    exact I.base.free b u e n hx
  · obtain ⟨more, q⟩ := I.base.tbls b ps e
    exact ⟨more, up _ _ q⟩
  · rw [upd_ne (Ne.symm hL)]; exact I.free
  · rw [upd_ne (hC x c e)]; exact I.freeC x c e
  · obtain ⟨e, n, r⟩ := I.pin p hq
    exact ⟨e, by rw [upd_ne (hp p hq)]; exact n, r⟩
  · by_cases hb : b = D
    · subst hb
      rw [upd_same] at e
      cases e
      exact new
    · rw [upd_ne hb] at e
      exact (I.hok b u e).stay (fun _ _ _ q => q) (fun c q => up _ _ q) fun c xs q => up _ _ q
end
noncomputable def PF (X : Cx) (ifs : List Expr) (t : TT) : Prop :=
  ∀ (pins : List (Addr × Obj)) (s : Shared) (σ : St) (H : Hp) (Q : Bool → Hp → Prop), Inv X pins σ H s → t σ H Q →
    wpAny (model X.prog X.w) X.A (forIn ifs true fun c r => if r = true then do let ok ← isTrue c X.env (eval c X.env); pure (ForInStep.yield ok) else pure (ForInStep.yield r)) (TP X pins σ Q) X.xe s
noncomputable def tNoTest : TT := fun _ H Q => Q true H
theorem pf_nil {X : Cx} : PF X [] tNoTest := fun pins s σ H Q I h => wpAny_tests_nil ⟨H, I, h⟩
theorem pf_one {X : Cx} {c : Expr} {t : TT} (h : PT X c t) : PF X [c] t := fun pins s σ H Q I q => wpAny_tests_one (h pins s σ H Q I q)
theorem compOk_parts {osc scope : Scope} {N NC : List Str} {cap : List (Option Nat)} (h : compOk osc scope N NC cap = true) :
    scope.kind = .function ∧ (∀ y ∈ scope.names, y.2 ≠ .cell) ∧ (∀ y ∈ scope.names, y.2 = .local → scope.names.lookup y.1 = some .local) ∧ (∀ y ∈ scope.names, y.2 = .free → osc.names.lookup y.1 = some .cell) ∧ cap.length = NC.length ∧
    (∀ (j i : Nat), cap[j]? = some (some i) → ∃ x, NC[j]? = some x ∧ N[i]? = some x ∧ scope.names.lookup x = some .free) ∧ ∀ (j : Nat) (x : Str), cap[j]? = some none → NC[j]? = some x → scope.names.lookup x = some .local := by
  unfold compOk at h
  simp only [Bool.and_eq_true, List.all_eq_true, bne_iff_ne, ne_eq, Bool.or_eq_true, beq_iff_eq, List.mem_range] at h
  obtain ⟨⟨⟨⟨⟨h1, h2⟩, h3⟩, h4⟩, h5⟩, h6⟩ := h
  refine ⟨h1, fun y hy => h2 y hy, fun y hy e => (h3 y hy).resolve_left fun z => z e, fun y hy e => (h4 y hy).resolve_left fun z => z e, h5, fun j i e => ?_, fun j x e ex => ?_⟩
  · have hj : j < NC.length := by rw [← h5]; exact (List.getElem?_eq_some_iff.mp e).1
    have q := h6 j hj
    rw [e] at q
    cases ex : NC[j]? with
    | none => rw [ex] at q; simp at q
    | some x =>
      rw [ex] at q
      simp only [Bool.and_eq_true, beq_iff_eq] at q
      exact ⟨x, rfl, q.1, q.2⟩
  · have hj : j < NC.length := (List.getElem?_eq_some_iff.mp ex).1
    have q := h6 j hj
    rw [e, ex] at q
    simpa using q
section
variable {X : Cx} {pins : List (Addr × Obj)} {σ : St} {H₂ : Hp} {s₂ : Shared} {scope : Scope} {NC : List Str} {cap : List (Option Nat)} {fp : List Addr}
theorem comp_start {C D : Addr} {h₁ : Heap} {tk : Nat} {o : Obj} {xe : Value → Shared → Prop} (I : Inv X pins σ H₂ s₂) (hc : X.calm = true) (cok : compOk X.env.scope scope X.N NC cap = true) (f2 : ∀ b ∈ fp, FpOk X pins H₂ b) (hfp : ∀ b ∈ fp, ∃ o, s₂.heap.get? b = some o)
    (hD : D = s₂.heap.objs.size) (hC : C = s₂.heap.objs.size + 1) (old : ∀ b o, s₂.heap.get? b = some o → h₁.get? b = some o) (hacc : h₁.get? D = some o) (ho : ∀ v, o.data ≠ .cell v) {m : Str → Option Value} (ns : h₁.Ns C m) :
    Inv (compCx X NC scope C s₂ H₂ fp [] xe) [(D, o)] (capσ cap σ) H₂ { s₂ with heap := h₁, toks := tk } := by
  obtain ⟨c1, c2, c3, c4, c5, c6, c7⟩ := compOk_parts cok
  have hfree : ∀ y ∈ scope.names, y.2 = .free → ∃ c, X.env.cells.lookup y.1 = some c := fun y hy e => I.ok.has y.1 (.inl (c4 y hy e))
  have clx : ∀ x c, (clOf scope X.env).lookup x = some c → X.env.cells.lookup x = some c := fun x c e => by
    rcases clGo_mem hfree (PySem.mem_of_lookup e) with z | z
    · simp at z
    · exact z
  have hrel : ∀ x, (compEnvC scope (clOf scope X.env) C X.env).kindOf x = (scope.names.lookup x).map fun k => if k = .free then .cell else k := fun x => kindOf_rel (scope := scope) I.ok.kind fun y hy e => c4 y hy e
  have fresh : ∀ b, s₂.heap.objs.size ≤ b → s₂.heap.get? b = none := fun b hb => Heap.get?_none_of_le hb
  have sz : s₂.heap.objs.size ≤ C := by rw [hC]; exact Nat.le_succ _
  have szD : s₂.heap.objs.size ≤ D := by rw [hD]; exact Nat.le_refl _
  have exC : ∀ b ∈ fp, b ≠ C := fun b hb z => by
    obtain ⟨o, e⟩ := hfp b hb
    rw [z, fresh C sz] at e; cases e
  have exD : ∀ b ∈ fp, b ≠ D := fun b hb z => by
    obtain ⟨o, e⟩ := hfp b hb
    rw [z, fresh D szD] at e; cases e
  refine ⟨⟨I.ok.mod, c1, I.ok.glob, I.ok.blt, sz, fun x y c e1 e2 => I.ok.inj x y c (clx x c e1) (clx y c e2), fun x hx => ?_, fun x c z => absurd z (by simp), fun _ => I.ok.hd hc, I.ok.frames, .inl rfl, fun b hb => ⟨exC b hb, fun x c e => (f2 b hb).2.2.2.2.1 x c (clx x c e)⟩,
    I.bs, Nat.le_trans I.ok.bsz I.sz, fun b o e z => ?_, fun b hb z => ?_, I.stack, I.stkFree⟩, rfl, I.bare, Un.kept old, ⟨m, ns, fun j x v e1 e2 e3 => ?_⟩, fun x c e => ?_, I.hok.fresh sz, fun x c e => I.freeC x c (clx x c e), fun p hp => ?_, I.hok.kept old, ?_⟩
  · rw [hrel] at hx
    have hxf : scope.names.lookup x = some .free := by
      cases e : scope.names.lookup x with
      | none => rw [e] at hx; simp at hx
      | some k =>
        rw [e] at hx
        by_cases hk : k = .free
        · rw [hk]
        · exfalso
          simp only [Option.map_some, if_neg hk, Option.some.injEq] at hx
          rcases hx with z | z
          · exact c2 _ (PySem.mem_of_lookup e) z
          · exact hk z
    obtain ⟨c, hm⟩ := clGo_has (env := X.env) (cs := []) (PySem.mem_of_lookup hxf)
    exact lookup_some_of_mem hm
  · obtain ⟨e1, e2⟩ := I.bs b o e
    have := (f2 b z).2.2.2.1
    rcases this with q | q
    · exact I.ok.noex b o e q
    · exact absurd (Nat.lt_of_lt_of_le (Heap.lt_size (I.ok.bs b o e).1) q) (Nat.lt_irrefl _)
  · rcases List.mem_cons.mp (I.stkSub b z) with q | q
    · exact (f2 b hb).2.1 q
    · exact (f2 b hb).2.2.1 q
  · have ej : cap[j]? = some ((some ((cap[j]?.bind id).getD 0) : Option Nat)) := by
      unfold capσ at e2
      rw [List.getElem?_map] at e2
      cases q : cap[j]? with
      | none => rw [q] at e2; simp at e2
      | some oo =>
        rw [q] at e2
        cases oo with
        | none => simp at e2
        | some i => simp
    generalize ((cap[j]?.bind id).getD 0) = i at ej
    obtain ⟨y, y1, y2, y3⟩ := c6 j i ej
    have : y = x := Option.some.inj (y1.symm.trans e1)
    subst this
    have ev : σ[i]? = some (some v) := by
      unfold capσ at e2
      rw [List.getElem?_map, ej] at e2
      simp only [Option.map_some, Option.bind_some, Option.some.injEq] at e2
      cases q : σ[i]? with
      | none => rw [q] at e2; simp at e2
      | some w => rw [q] at e2; simp at e2; rw [e2]
    have kc : X.env.scope.names.lookup y = some .cell := c4 (y, .free) (PySem.mem_of_lookup y3) rfl
    obtain ⟨m', hn', hl'⟩ := I.loc
    obtain ⟨u, r, q⟩ := hl' i y v y2 ev (.inr (.inl kc))
    refine ⟨u, r, .inr ⟨.inl (by rw [hrel, y3]; rfl), ?_⟩⟩
    rcases q with ⟨k, _⟩ | ⟨k, c, e, z⟩
    · rw [show X.env.kindOf y = some .cell from kc] at k; cases k
    · obtain ⟨c', hm⟩ := clGo_has (env := X.env) (cs := []) (PySem.mem_of_lookup y3)
      obtain ⟨c'', hl⟩ := lookup_some_of_mem hm
      have := clx y c'' hl
      rw [e] at this
      cases this
      obtain ⟨oc, h1, h2⟩ := z
      exact ⟨c, hl, oc, old c oc h1, h2⟩
  · obtain ⟨v, oc, h1, h2⟩ := I.cell x c (clx x c e)
    exact ⟨v, oc, old c oc h1, h2⟩
  · have e : p = (D, o) := by simpa using hp
    subst e
    refine ⟨hacc, I.hok.fresh szD, fun z => by rw [hC, hD] at z; exact absurd z (Nat.ne_of_lt (Nat.lt_succ_self _)), fun z => ?_, ho⟩
    obtain ⟨_, ob, e, _⟩ := I.stack.mem z
    rw [fresh D szD] at e; cases e
  · unfold capσ
    rw [List.length_map]
    exact c5
theorem comp_leave {C : Addr} {pn pc : List (Addr × Obj)} {σ' : St} {H' : Hp} {s' : Shared} {h' : Heap} {xe : Value → Shared → Prop} (I : Inv X pins σ H₂ s₂) (f2 : ∀ b ∈ fp, FpOk X pins H₂ b) (hC : C = s₂.heap.objs.size + 1)
    (J : Inv (compCx X NC scope C s₂ H₂ fp pn xe) pc σ' H' s') (sb : Heap.SameBut C s'.heap h') : Inv X pins σ H' { s' with heap := h' } := by
  have fC : s₂.heap.get? C = none := Heap.get?_none_of_le (by rw [hC]; exact Nat.le_succ _)
  have nC : ∀ b o, s₂.heap.get? b = some o → b ≠ C := fun b o e z => by rw [z, fC] at e; cases e
  have u : Un (frs X.stack) fp H₂ H' s₂.heap h' := by
    have v : Un (frs X.stack) fp H₂ H' s₂.heap s'.heap := J.base
    refine ⟨fun b o e n hb hx => (sb.2 b (nC b o e)).trans (v.keep b o e n hb hx), fun b o e n hb hx => ?_, v.free, fun b o e hx => ?_, v.tups, v.frzs, v.tbls⟩
    · obtain ⟨sl, q⟩ := v.slot b o e n hb hx
      exact ⟨sl, (sb.2 b (nC b o e)).trans q⟩
    · obtain ⟨o', q⟩ := v.there b o e hx
      exact ⟨o', (sb.2 b (nC b o e)).trans q⟩
  have hok : HOk X.prog X.w H' h' := fun b o e => by
    refine (J.hok b o e).stay (fun c w hc q => (sb.2 c fun z => ?_).trans q) (fun _ q => q) fun _ _ q => q
    have fr : H' C = none := J.free
    subst z
    rcases hc with rfl | hc
    · rw [fr] at e; cases e
    · rw [fr] at hc; cases hc
  exact I.call' (s' := { s' with heap := h' }) (ch := fp) J.os u hok J.bare fun b hb => ⟨(f2 b hb).2.2.2.1, (f2 b hb).2.1, (f2 b hb).2.2.2.2.1, (f2 b hb).2.2.2.2.2⟩
end
end L2
set_option Elab.async false
set_option linter.all false
set_option maxRecDepth 100000
namespace L2
open PySem PySem.Spec PyProof.Rows
noncomputable def Weak (σ σ' : St) : Prop := σ'.length = σ.length ∧ ∀ (i : Nat) v, σ[i]? = some (some v) → σ'[i]? = some (some v)
section
variable {prog : Program} {w : World} {A : Around} {R : Result → Shared → Prop} {s : Shared}
theorem compLoop_any {elt target iter : Expr} {ifs : List Expr} {scope : Scope} {pos : Pos} {it acc : Value} {env : Env} (I : Nat → Shared → Prop)
    (turn : ∀ n s, I n s → wpAny (model prog w) A (pyNext it) (fun r s₁ => match r with
      | none => R (.ok .next) s₁
      | some v => wpAny (model prog w) A (letOwnedTupleGo target it v) (fun _ s₁' => wpAny (model prog w) A (assign target env v) (fun _ s₂ =>
          wpAny (model prog w) A (forIn ifs true fun c r => if r = true then do let ok ← isTrue c env (eval c env); pure (ForInStep.yield ok) else pure (ForInStep.yield r)) (fun ok s₃ =>
            if ok = true then wpAny (model prog w) A (eval elt env) (fun x s₄ =>
              wpAny (model prog w) A (call (.builtin "list.append") [acc, x]) (fun _ s₅ => ∃ m, m < n ∧ I m s₅) (notedBy (model prog w) A env fun e s' => R (.error e) s') s₄) (notedBy (model prog w) A env fun e s' => R (.error e) s') s₃
            else ∃ m, m < n ∧ I m s₃) (notedBy (model prog w) A env fun e s' => R (.error e) s') s₂) (notedBy (model prog w) A env fun e s' => R (.error e) s') s₁') (notedBy (model prog w) A env fun e s' => R (.error e) s') s₁) (notedBy (model prog w) A env fun e s' => R (.error e) s') s)
    (n : Nat) (h : I n s) : codeAny (model prog w) A (.compLoop (.ListComp elt [⟨target, iter, ifs, 0⟩] scope pos) 0 it acc env) R s := by
  refine codeAny_loop rfl I (fun n s hI => ?_) n h
  show wpAny _ A ((compTurn (.ListComp elt [⟨target, iter, ifs, 0⟩] scope pos) 0 it acc env).onRaise (fun x => do noteFrame x env; theTreesLotGoes x)) _ _ s
  refine wpAny_noted ?_
  rw [compTurn_list]
  refine wpAny_bind (wpAny_standAt (wpAny_bind (wpAny_mono (turn n s hI) (fun r s₁ h₁ => ?_) fun _ _ h' => h')))
  cases r with
  | none => exact wpAny_pure h₁
  | some v =>
    refine wpAny_bind (wpAny_mono h₁ (fun _ s₁' h₁' => ?_) fun _ _ h' => h')
    refine wpAny_bind (wpAny_mono h₁' (fun _ s₂ h₂ => wpAny_bind (wpAny_mono h₂ (fun ok s₃ h₃ => ?_) fun _ _ h' => h')) fun _ _ h' => h')
    cases ok with
    | false => exact wpAny_pure ⟨rfl, h₃⟩
    | true =>
      exact wpAny_bind (wpAny_bind (wpAny_mono h₃ (fun x s₄ h₄ => wpAny_bind (wpAny_mono h₄ (fun _ s₅ h₅ => wpAny_pure (wpAny_pure ⟨rfl, h₅⟩)) fun _ _ h' => h')) fun _ _ h' => h'))
end
section
variable {X : Cx} {σ : St} {H : Hp} {s : Shared}
theorem Inv.repin {D : Addr} {o o' : Obj} {h' : Heap} (I : Inv X [(D, o)] σ H s) (hpn : ∀ p ∈ X.pn, p.1 ≠ D) (h0 : X.s₀.heap.objs.size ≤ D) (ho' : ∀ v, o'.data ≠ .cell v) (sb : Heap.SameBut D s.heap h') (e' : h'.get? D = some o') :
    Inv X [(D, o')] σ H { s with heap := h' } := by
  obtain ⟨e, n, ne, nf, d⟩ := I.pin (D, o) (List.mem_append_right _ (by simp))
  have I0 : Inv X [] σ H s := I.pins_of fun p hp => absurd hp (by simp)
  have I1 : Inv X [] σ H { s with heap := h' } := I0.turned (t' := s.toks) (it := D) (fun b u hb q => (sb.2 b hb).trans q) n ne (.inr h0) (fun x c ec z => by
    obtain ⟨v, oc, h1, h2⟩ := I.cell x c ec
    subst z
    rw [e] at h1; cases h1
    exact d v h2) fun p hp => hpn p (by simpa using hp)
  refine I1.pins_of fun p hp => ?_
  have q : p = (D, o') := by simpa using hp
  subst q
  exact ⟨e', n, ne, nf, ho'⟩
end
section
variable {X : Cx} {pins : List (Addr × Obj)} {σ : St} {H₂ : Hp} {s₂ : Shared} {scope : Scope} {NC : List Str} {cap : List (Option Nat)} {fp : List Addr} {elt tg iter : Expr} {ifs : List Expr} {pos : Pos} {Z : ZK} {J : It} {it : Addr} {tn : Nat → Heap → Prop}
  {g : TG} {tf : TT} {te : TE} {use : Option (Value → Sem Unit)} {Qv : Value → Shared → Prop}
theorem comp_core (hc : X.calm = true) (th : Thr X Z) (I : Inv X pins σ H₂ s₂) (T : Turn X.prog X.w X.K tg J fp it tn) (st2 : tn 0 s₂.heap) (f2 : ∀ b ∈ fp, FpOk X pins H₂ b) (cok : compOk X.env.scope scope X.N NC cap = true)
    (hg : ∀ C pn xe, PG (compCx X NC scope C s₂ H₂ fp pn xe) tg g)
    (hf : ∀ C pn xe, Thr (compCx X NC scope C s₂ H₂ fp pn xe) (fun _ C' H' => Z σ C' H') → PF (compCx X NC scope C s₂ H₂ fp pn xe) ifs tf)
    (hb : ∀ C pn xe, Thr (compCx X NC scope C s₂ H₂ fp pn xe) (fun _ C' H' => Z σ C' H') → PE (compCx X NC scope C s₂ H₂ fp pn xe) elt te)
    (W : Nat → Nat → List V → Hp → Prop) (m0 : Nat) (w0 : W 0 m0 [] H₂) {Fn : List V → Hp → Prop}
    (turn : ∀ i m ys H2, W i m ys H2 → (J.stop i H2 ∧ Fn ys H2) ∨ (J.go i H2 ∧ ys.length < sizeLine ∧ ∀ x H3, J.yld i H2 x H3 → g x (capσ cap σ) H3 fun σ4 H4 => Weak (capσ cap σ) σ4 ∧ tf σ4 H4 fun b H5 =>
      if b = true then te σ4 H5 fun y H6 => ∃ m', m' < m ∧ W (i + 1) m' (ys ++ [y]) H6 else ∃ m', m' < m ∧ W (i + 1) m' ys H5))
    (fin : ∀ (C D : Addr) (s' : Shared) (H' : Hp) (ys : List V) (us : List Value) (n : Nat), Fn ys H' → Vals ys us → s'.heap.get? D = some { cls := .type "list", data := .seq us.toArray n } → H' D = none → H' C = none → D = s₂.heap.objs.size → C = s₂.heap.objs.size + 1 →
      (∃ m, s'.heap.Ns C m) → (∀ h', Heap.SameBut C s'.heap h' → Inv X pins σ H' { s' with heap := h' }) → compPost (model X.prog X.w) X.A X.xe use Qv (.ref D) C (.ok .next) s') :
    wpAny (model X.prog X.w) X.A (newList []) (fun acc s₃ => wpAny (model X.prog X.w) X.A (newFunctionEnv scope X.env.globals (clOf scope X.env) [] X.env.qual none .none (some X.env)) (fun cenv s₄ =>
      codeAny (model X.prog X.w) X.A (.compStart (.ListComp elt [⟨tg, iter, ifs, 0⟩] scope pos) 0 (.ref it) acc { cenv with scope := relabel scope X.env }) (compPost (model X.prog X.w) X.A X.xe use Qv acc cenv.locals) s₄) X.xe s₃) X.xe s₂ := by
  obtain ⟨c1, c2, c3, c4, c5, c6, c7⟩ := compOk_parts cok
  refine wpAny_newObj_type (wpAny_newFunctionEnv c2 (by intro y hy; simp at hy) (fun h₁ hns₁ hsb₁ => ?_) c1)
  dsimp only at hns₁ hsb₁ ⊢
  generalize hH2 : s₂.heap.push { cls := .type "list", dict := none, data := .seq ([] : List Value).toArray } = H2 at hns₁ hsb₁ ⊢
  have hC : H2.objs.size = s₂.heap.objs.size + 1 := by rw [← hH2, Heap.size_push]
  have hDC : s₂.heap.objs.size ≠ H2.objs.size := by rw [hC]; exact Nat.ne_of_lt (Nat.lt_succ_self _)
  have below : ∀ b, b < s₂.heap.objs.size → b ≠ H2.objs.size := fun b hb => by rw [hC]; exact Nat.ne_of_lt (Nat.lt_succ_of_lt hb)
  have old : ∀ b o, s₂.heap.get? b = some o → h₁.get? b = some o := fun b o e => hsb₁.extBut b o (below b (Heap.lt_size e)) (Heap.get?_push_of_some _ (hH2 ▸ Heap.get?_push_of_some _ e))
  have hacc : h₁.get? s₂.heap.objs.size = some { cls := .type "list", data := .seq ([] : List Value).toArray 0 } := hsb₁.extBut _ _ hDC (Heap.get?_push_of_some _ (hH2 ▸ Heap.get?_push_size _ rfl))
  have hfp : ∀ b ∈ fp, ∃ o, s₂.heap.get? b = some o := fun b hb => let ⟨o, e, _⟩ := T.obj _ _ st2 b hb; ⟨o, e⟩
  have nodata : ∀ (us : List Value) (n : Nat) v, ({ cls := .type "list", data := .seq us.toArray n } : Obj).data ≠ .cell v := fun us n v z => by cases z
  have fpD : ∀ b ∈ fp, b ≠ s₂.heap.objs.size := fun b hb z => by
    obtain ⟨o, e⟩ := hfp b hb
    exact absurd (Heap.lt_size e) (by rw [z]; exact Nat.lt_irrefl _)
  generalize hEn : (notedBy (model X.prog X.w) X.A (compEnvC scope (clOf scope X.env) H2.objs.size X.env) fun e s' => compPost (model X.prog X.w) X.A X.xe use Qv (.ref s₂.heap.objs.size) H2.objs.size (.error e) s') = En
  have loop : ∀ s₃ : Shared, s₃ = { s₂ with heap := h₁, toks := s₂.toks + ([] : List (Str × Value)).length } →
      codeAny (model X.prog X.w) X.A (.compLoop (.ListComp elt [⟨tg, iter, ifs, 0⟩] scope pos) 0 (.ref it) (.ref s₂.heap.objs.size) (compEnvC scope (clOf scope X.env) H2.objs.size X.env))
        (compPost (model X.prog X.w) X.A X.xe use Qv (.ref s₂.heap.objs.size) H2.objs.size) s₃ := by
    rintro s₃ rfl
    refine compLoop_any (fun k s' => ∃ i ys us n H', Vals ys us ∧ W i k ys H' ∧ tn i s'.heap ∧ (∀ b ∈ fp, H' b = none) ∧
      Inv (compCx X NC scope H2.objs.size s₂ H₂ fp [] En) [(s₂.heap.objs.size, { cls := .type "list", data := .seq us.toArray n })] (capσ cap σ) H' s') ?_ m0
      ⟨0, [], [], 0, H₂, .nil, w0, T.keep _ _ _ st2 fun b _ o e => old b o e, fun b hb => (f2 b hb).1, comp_start I hc cok f2 hfp rfl hC old hacc (nodata _ _) hns₁⟩
    rw [hEn]
    rintro k s' ⟨i, ys, us, n, H', rv, w, st, fr, Ic⟩
    have Fp : ∀ {H' : Hp} {us : List Value} {n : Nat}, (∀ b ∈ fp, H' b = none) → ∀ b ∈ fp, FpOk (compCx X NC scope H2.objs.size s₂ H₂ fp [] En) [(s₂.heap.objs.size, ({ cls := .type "list", data := .seq us.toArray n } : Obj))] H' b := fun {H' us n} hn b hb => by
      have q := Ic.ok.exf b hb
      refine ⟨hn b hb, q.1, fun z => Ic.ok.exfs b hb z, .inl hb, q.2, fun p hp => ?_⟩
      have e : p = (s₂.heap.objs.size, ({ cls := .type "list", data := .seq us.toArray n } : Obj)) := by simpa using hp
      subst e
      exact (fpD b hb).symm
    rcases turn i k ys H' w with ⟨stop, q⟩ | ⟨go, hlen, step⟩
    · refine wpAny_mono (T.done (compCx X NC scope H2.objs.size s₂ H₂ fp [] En) rfl rfl rfl rfl i _ s' _ H' En Ic (Fp fr) st stop) (fun r s4 h4 => ?_) fun _ _ x => x
      obtain ⟨hr, I4⟩ := h4
      subst hr
      obtain ⟨m, ns, _⟩ := id I4.loc
      obtain ⟨p1, p2, _⟩ := I4.pin _ (List.mem_append_right _ (List.mem_singleton.mpr rfl))
      exact fin _ _ s4 H' ys us n q rv p1 p2 I4.free rfl hC ⟨m, ns⟩ fun h' sb => comp_leave I f2 hC I4 sb
    · refine wpAny_mono (T.item (compCx X NC scope H2.objs.size s₂ H₂ fp [] En) rfl rfl rfl rfl i _ s' _ H' En Ic (Fp fr) st go) (fun r s4 h4 => ?_) fun _ _ x => x
      obtain ⟨u, hr, h4⟩ := h4
      subst hr
      refine wpAny_mono h4 (fun _ s5 h5 => ?_) fun _ _ x => x
      obtain ⟨x, H5, I5, r5, y5, st5, fr5⟩ := h5
      have I5' : Inv (compCx X NC scope H2.objs.size s₂ H₂ fp (pinsAt fp s5.heap) En) [(s₂.heap.objs.size, { cls := .type "list", data := .seq us.toArray n })] (capσ cap σ) H5 s5 :=
        (I5.pinned (Fp fr5) (T.obj _ _ st5)).repn fun p hp => by
          rcases List.mem_append.mp hp with z | z
          · exact List.mem_append_right _ (List.mem_append_right _ z)
          · exact List.mem_append_right _ (List.mem_append_left _ z)
      have okx : XOk (compCx X NC scope H2.objs.size s₂ H₂ fp (pinsAt fp s5.heap) En) := by
        obtain ⟨top, outer, L, e1, e2, e3⟩ := th.top
        exact ⟨⟨top, outer, L, e1, e2, e3⟩, fun b hb => let ⟨o, e, _⟩ := T.obj _ _ st5 b hb; ⟨o, mem_pinsAt hb e⟩⟩
      have thx : Thr (compCx X NC scope H2.objs.size s₂ H₂ fp (pinsAt fp s5.heap) En) (fun _ C' H' => Z σ C' H') := by
        refine ⟨okx, ?_⟩
        rintro e s6 ⟨a, C', T', σ6, H6, rfl, I6, F6, z6⟩
        show En (.ref a) s6
        rw [← hEn]
        unfold notedBy
        refine I6.note okx F6 I6.ok.frames rfl fun h7 t7 I7 F7 => ?_
        obtain ⟨m, ns, _⟩ := id I7.loc
        have fin7 : ∃ m, h7.Ns H2.objs.size m ∧ ∀ h', Heap.SameBut H2.objs.size h7 h' → ∀ cenv : Env, cenv.locals = H2.objs.size → wpAny (model X.prog X.w) X.A (passOn "comprehension.variables-let-go" (.ref a) cenv : Sem Value) (fun _ _ => False) X.xe { s6 with heap := h' } := by
          refine ⟨m, ns, fun h' sb cenv _ => ?_⟩
          have I8 : Inv X pins σ H6 { s6 with heap := h' } := comp_leave (s' := { s6 with heap := h7 }) I f2 hC I7 sb
          have F8 : Fly X pins H6 h' a C' (some t7) := by
            refine ⟨F7.fl.at fun b hb o e => (sb.2 b fun z => ?_).trans e, fun b hb => ?_⟩
            · obtain ⟨o', vs, e1, e2⟩ := F7.fl.rec b hb
              obtain ⟨oC, es, ep, e3, e4, _⟩ := ns
              subst z
              have q : o' = oC := Option.some.inj (e1.symm.trans e3)
              rw [q] at e2
              have q2 := e2.symm.trans e4
              cases q2
            · obtain ⟨o1, o2, _⟩ := F7.ow b hb
              exact I.ow th.toXOk (.inr trivial) o2 o1
          exact I8.passOn F8 fun h9 I9 F9 => th.go I9 F9 z6
        show compPost _ _ _ _ _ _ _ (.error (.ref a)) _
        cases use <;> exact fin7
      refine wpAny_mono (hg _ _ En _ s5 _ H5 x u _ I5' r5 (step x H5 y5)) (fun _ s6 h6 => ?_) fun _ _ x => x
      obtain ⟨σ6, H6, I6, wk, q6⟩ := h6
      refine wpAny_mono (hf _ _ En thx _ s6 σ6 H6 _ I6 q6) (fun b s7 h7 => ?_) fun _ _ x => x
      obtain ⟨H7, I7, q7⟩ := h7
      have back : ∀ {s8 : Shared} {H8 : Hp} {ys' : List V} {us' : List Value} {n' m' : Nat}, Inv (compCx X NC scope H2.objs.size s₂ H₂ fp (pinsAt fp s5.heap) En) [(s₂.heap.objs.size, { cls := .type "list", data := .seq us'.toArray n' })] σ6 H8 s8 → Vals ys' us' → m' < k → W (i + 1) m' ys' H8 →
          ∃ m, m < k ∧ ∃ i ys us n H', Vals ys us ∧ W i m ys H' ∧ tn i s8.heap ∧ (∀ b ∈ fp, H' b = none) ∧ Inv (compCx X NC scope H2.objs.size s₂ H₂ fp [] En) [(s₂.heap.objs.size, { cls := .type "list", data := .seq us.toArray n })] (capσ cap σ) H' s8 := by
        intro s8 H8 ys' us' n' m' I8 rv8 hm w8
        refine ⟨m', hm, i + 1, ys', us', n', H8, rv8, w8, T.keep _ _ _ st5 fun b hb o e => (I8.pin (b, o) (List.mem_append_left _ (mem_pinsAt hb e))).1, fun b hb => ?_, ?_⟩
        · obtain ⟨o, e, d⟩ := T.obj _ _ st5 b hb
          exact (I8.pin (b, o) (List.mem_append_left _ (mem_pinsAt hb e))).2.1
        · have I9 := I8.weak (σ' := capσ cap σ) wk.1.symm wk.2
          exact I9.repn fun p hp => List.mem_append_right _ (by simpa using hp)
      cases b with
      | false =>
        obtain ⟨m', hm, w8⟩ := q7
        exact back I7 rv hm w8
      | true =>
        refine wpAny_mono (hb _ _ En thx _ s7 σ6 H7 _ I7 q7) (fun y s8 h8 => ?_) fun _ _ x => x
        obtain ⟨v, H8, I8, rv8, m', hm, w8⟩ := h8
        obtain ⟨p1, p2, _⟩ := I8.pin _ (List.mem_append_right _ (List.mem_singleton.mpr rfl))
        have hlu : us.length = ys.length := rv.length.symm
        refine append_at p1 (hsz := by show us.toArray.size ≤ sizeLine; rw [List.size_toArray, hlu]; exact Nat.le_of_lt hlen) fun h9 sb9 e9 => ?_
        rw [List.push_toArray] at e9
        have I9 := I8.repin (fun p hp => by
          have q := (of_pinsAt hp).1
          exact fpD _ q) (Nat.le_refl _) (nodata _ _) sb9 e9
        exact back I9 (rv.append (.cons rv8 .nil)) hm w8
  exact codeAny_compStart_list (loop _ rfl) (T.self _ 0 _ _ _ (T.keep _ _ _ st2 fun b _ o e => old b o e) (loop _ rfl))
end
noncomputable def CompR (J : It) (H1 : Hp) (cap : List (Option Nat)) (σ : St) (g : TG) (tf : TT) (te : TE) (Q : VK) : Prop := ∃ W : Nat → Nat → List V → Hp → Prop, (∃ m, W 0 m [] H1) ∧ ∀ i m ys H2, W i m ys H2 →
  (J.stop i H2 ∧ ys.length ≤ sizeLine ∧ ∀ p, H2 p = none → Q (.ref p) (upd H2 p (.lst ys))) ∨
  (J.go i H2 ∧ ys.length < sizeLine ∧ ∀ x H3, J.yld i H2 x H3 → g x (capσ cap σ) H3 fun σ4 H4 => Weak (capσ cap σ) σ4 ∧ tf σ4 H4 fun b H5 =>
    if b = true then te σ4 H5 fun y H6 => ∃ m', m' < m ∧ W (i + 1) m' (ys ++ [y]) H6 else ∃ m', m' < m ∧ W (i + 1) m' ys H5)
noncomputable def tComp (Z : ZK) (cap : List (Option Nat)) (wi : TI) (g : TG) (tf : ZK → TT) (te : ZK → TE) : TE := fun σ H Q => wi σ H fun J H1 => CompR J H1 cap σ g (tf (fun _ C H' => Z σ C H')) (te (fun _ C H' => Z σ C H')) Q
section
variable {X : Cx} {scope : Scope} {NC : List Str} {cap : List (Option Nat)} {elt tg iter : Expr} {ifs : List Expr} {pos : Pos} {Z : ZK} {wi : TI} {g : TG} {tf : ZK → TT} {te : ZK → TE}
theorem pe_comp (hc : X.calm = true) (th : Thr X Z) (hi : PI X tg iter wi) (cok : compOk X.env.scope scope X.N NC cap = true)
    (hg : ∀ C s H fp pn xe, PG (compCx X NC scope C s H fp pn xe) tg g)
    (hf : ∀ C s H fp pn xe Zc, Thr (compCx X NC scope C s H fp pn xe) Zc → PF (compCx X NC scope C s H fp pn xe) ifs (tf Zc))
    (hb : ∀ C s H fp pn xe Zc, Thr (compCx X NC scope C s H fp pn xe) Zc → PE (compCx X NC scope C s H fp pn xe) elt (te Zc))
    (hs : ∀ x, foldedSetIterable iter X.env x = pure x := by intro _; rfl) : PE X (.ListComp elt [⟨tg, iter, ifs, 0⟩] scope pos) (tComp Z cap wi g tf te) := by
  intro pins s σ H Q I h
  obtain ⟨c1, c2, c3, c4, c5, c6, c7⟩ := compOk_parts cok
  rw [eval_ListComp]
  refine wpAny_comprehension_free (use := none) rfl hs (closure_of fun y hy e => I.ok.has y.1 (.inl (c4 y hy e))) c1 c3 (thn (hi pins s σ H _ I h) fun xv s₁ h₁ => thn h₁ fun itv s₂ h₂ => ?_)
  obtain ⟨it, fp, tn, J, H2, rfl, I2, T, st2, f2, W, ⟨m0, w0⟩, turn⟩ := h₂
  refine comp_core hc th I2 T st2 f2 cok (fun C pn xe => hg C s₂ H2 fp pn xe) (fun C pn xe t => hf C s₂ H2 fp pn xe _ t) (fun C pn xe t => hb C s₂ H2 fp pn xe _ t) W m0 w0 turn ?_
  rintro C D s' H' ys us n ⟨hlen, q⟩ rv e hn _ rfl rfl ⟨m, ns⟩ lv
  refine ⟨m, ns, fun h' sb => ?_⟩
  have I' := lv h' sb
  have eD : h'.get? s₂.heap.objs.size = some { cls := .type "list", data := .seq us.toArray n } := (sb.2 _ (Nat.ne_of_lt (Nat.lt_succ_self _))).trans e
  refine ⟨.ref s₂.heap.objs.size, _, I'.track (o := .lst ys) hn (Heap.get?_none_of_le I2.sz) (Nat.ne_of_gt I2.lt) (fun x c ec z => ?_) (fun p hp z => ?_) ⟨hlen, us, n, rv, eD⟩, rfl, q _ hn⟩
  · obtain ⟨v, q⟩ := I2.cell x c ec
    exact absurd q.lt (by rw [z]; exact Nat.lt_irrefl _)
  · exact absurd (Heap.lt_size (I2.pin p hp).1) (by rw [z]; exact Nat.lt_irrefl _)
end
end L2
set_option Elab.async false
set_option linter.all false
set_option maxRecDepth 100000
namespace L2
open PySem PySem.Spec PyProof.Rows
section
variable {X : Cx} {Z : ZK} {x : Str} {C : Addr} {bmB : List Value} {B newId initId : String} {e₀ : Expr} {rest : List Expr} {ta : TA} {np cpos pos : Pos}
end
section
variable {X : Cx} {pins : List (Addr × Obj)} {σ : St} {H : Hp} {s : Shared} {xe : Value → Shared → Prop} {a : Addr}
end
section
variable {X : Cx} {Z : ZK} {x n : Str} {D : Addr} {bmB : List Value} {newId : String} {body suite : List Stmt} {b₀ : Stmt} {tb : ZK → TS} {ts : TS} {np hpos pos : Pos} {j : Nat}
end
end L2
set_option Elab.async false
set_option linter.all false
set_option maxRecDepth 100000
namespace L2
open PySem PySem.Spec PyProof.Rows
noncomputable def Its (x : Str) : It := ⟨fun i _ => i < x.length, fun i H v H' => H' = H ∧ ∃ c, x.cps.toList[i]? = some c ∧ v = .str ⟨#[c]⟩, fun i _ => x.length ≤ i⟩
theorem turn_ascii {P : Program} {w : World} {K : PySem.W.Frag} {tg : Expr} (it : Addr) (x : Str) (t : Tok) : Turn P w K tg (Its x) [it] it (fun i h => h.IsStrIter it "str_ascii_iterator" x t i) where
  mem := by simp
  obj := fun i h st b hb => by
    have e : b = it := by simpa using hb
    subst e
    obtain ⟨o, e, c, d⟩ := st
    exact ⟨o, e, fun v z => by rw [d] at z; cases z⟩
  keep := fun i h h' st k => let ⟨o, e, r⟩ := st; ⟨o, k it (by simp) o e, r⟩
  item := by
    intro X hP hw hK hc i pins s σ H E I hf st hg
    subst hP hw hK
    obtain ⟨f0, f1, f2, f3, f4, f5⟩ := hf it (by simp)
    have hg' : i < x.cps.size := hg
    refine wpAny_pyNext_ascii_item st (c := x.cps[i]) (by simp [hg']) fun h' st' sb => ?_
    have I1 : Inv X pins σ H { s with heap := h', toks := s.toks + 1 } := I.turned (fun b o hb e => (sb.2 b hb).trans e) f0 f1 f3 f4 f5
    obtain ⟨o, e, c, d⟩ := id st'
    exact ⟨_, rfl, go_of (s := { s with heap := h', toks := s.toks + 1 }) e c d (by decide) ⟨.str ⟨#[x.cps[i]]⟩, H, I1, ⟨_, rfl⟩, ⟨rfl, x.cps[i], by simp [hg'], rfl⟩, st', fun b hb => (hf b hb).1⟩⟩
  done := by
    intro X hP hw hK hc i pins s σ H E I hf st hg
    subst hP hw hK
    obtain ⟨f0, f1, f2, f3, f4, f5⟩ := hf it (by simp)
    have hg' : x.cps.size ≤ i := hg
    exact wpAny_pyNext_ascii_end (I.ok.hd hc) st (by simp [hg']) fun h' eb => ⟨rfl, I.turned (t' := s.toks) (fun b o hb e => eb b o hb e) f0 f1 f3 f4 f5⟩
  self := fun _ _ _ _ _ st h => wpAny_pyIter_striter_ascii st h
theorem turn_wide {P : Program} {w : World} {K : PySem.W.Frag} {tg : Expr} (it : Addr) (x : Str) (t : Tok) : Turn P w K tg (Its x) [it] it (fun i h => h.IsStrIter it "str_iterator" x t i) where
  mem := by simp
  obj := fun i h st b hb => by
    have e : b = it := by simpa using hb
    subst e
    obtain ⟨o, e, c, d⟩ := st
    exact ⟨o, e, fun v z => by rw [d] at z; cases z⟩
  keep := fun i h h' st k => let ⟨o, e, r⟩ := st; ⟨o, k it (by simp) o e, r⟩
  item := by
    intro X hP hw hK hc i pins s σ H E I hf st hg
    subst hP hw hK
    obtain ⟨f0, f1, f2, f3, f4, f5⟩ := hf it (by simp)
    have hg' : i < x.cps.size := hg
    refine wpAny_pyNext_wide_item st (c := x.cps[i]) (by simp [hg']) fun h' st' sb => ?_
    have I1 : Inv X pins σ H { s with heap := h', toks := s.toks + 1 } := I.turned (fun b o hb e => (sb.2 b hb).trans e) f0 f1 f3 f4 f5
    obtain ⟨o, e, c, d⟩ := id st'
    exact ⟨_, rfl, go_of (s := { s with heap := h', toks := s.toks + 1 }) e c d (by decide) ⟨.str ⟨#[x.cps[i]]⟩, H, I1, ⟨_, rfl⟩, ⟨rfl, x.cps[i], by simp [hg'], rfl⟩, st', fun b hb => (hf b hb).1⟩⟩
  done := by
    intro X hP hw hK hc i pins s σ H E I hf st hg
    subst hP hw hK
    obtain ⟨f0, f1, f2, f3, f4, f5⟩ := hf it (by simp)
    have hg' : x.cps.size ≤ i := hg
    exact wpAny_pyNext_wide_end (I.ok.hd hc) st (by simp [hg']) fun h' eb => ⟨rfl, I.turned (t' := s.toks) (fun b o hb e => eb b o hb e) f0 f1 f3 f4 f5⟩
  self := fun _ _ _ _ _ st h => wpAny_pyIter_striter_wide st h
section
variable {X : Cx} {tg : Expr}
theorem bools_of : ∀ {bs : List Bool} {us : List Value}, Vals (bs.map V.bl) us → PyProof.Rows.LSm.BoolsAre us bs
  | [], _, r => by cases r; exact .nil
  | b :: bs, _, r => by
    cases r with
    | cons r1 r2 => cases (show _ = Value.bool b from r1); exact .cons b (bools_of r2)
theorem call_all (hc : X.calm = true) : CallR X (.builtin "all") (fun xs H Q => ∃ (p : Addr) (bs : List Bool), xs = [.ref p] ∧ SqL X.K H p (bs.map V.bl) ∧ Q (.bl (bs.all id)) H) := by
  intro pins s σ H xs us Q I r h
  obtain ⟨p, bs, rfl, hq, q⟩ := h
  obtain ⟨u, rfl, ru⟩ := vals1 r
  cases ru
  obtain ⟨its, rv, pl, hz⟩ := I.list hq
  have hb := bools_of rv
  have hl : s.heap.IsList p its.toArray := pl.isList
  have hlt : p < s.heap.objs.size := by obtain ⟨_, e, _⟩ := hl; exact Heap.lt_size e
  refine call_all_walk (wpAny_pyIter_list hl ?_)
  refine ⟨s.heap.objs.size, [s.heap.objs.size, p], [s.heap.objs.size], its.toArray.size, _, _, fun i => (bs[i]?).getD true, rfl, Walks.list (A := X.A.in1) (I.ok.hd hc) _ p (Nat.ne_of_lt hlt) its.toArray,
    ⟨⟨_, Heap.get?_push_size _ rfl, rfl, rfl⟩, hl.push _⟩, fun i v s' Q' E' hP hQ => ?_, fun h' tk hk => ?_⟩
  · obtain ⟨b, e, rfl⟩ := hb.get i v (by simpa using hP)
    simp only [e, Option.getD_some] at hQ
    exact wpAny_truthy_bool hQ
  · have e : ((List.range its.toArray.size).all fun i => (bs[i]?).getD true) = bs.all id := by
      rw [List.size_toArray, hb.length]; exact PyProof.Rows.LSm.range_all bs
    rw [e]
    exact ⟨.bl (bs.all id), H, I.kept (PyProof.Rows.LSm.kept_iter hk), rfl, q⟩
theorem call_intS : CallR X (.type "int") (fun xs H Q => ∃ x n, xs = [.str x] ∧ PySem.intText? x = some n ∧ x.length ≤ 640 ∧ Q (.int n) H) := by
  intro pins s σ H xs us Q I r h
  obtain ⟨x, n, rfl, hn, hl, q⟩ := h
  obtain ⟨u, rfl, t, rfl⟩ := vals1 r
  exact PySem.W.KIN.call_text hn hl ⟨.int n, H, I.tok _, ⟨_, rfl⟩, q⟩
theorem strs_of : ∀ {ys : List Str} {us : List Value}, Vals (ys.map V.str) us → StrsAre us ys
  | [], _, r => by cases r; exact .nil
  | y :: ys, _, r => by
    cases r with
    | cons r1 r2 => obtain ⟨t, rfl⟩ := r1; exact .cons y t (strs_of r2)
theorem mt_join : MtR X "str.join" (fun x vs H Q => ∃ (sep : Str) (p : Addr) (ys : List Str), x = .str sep ∧ vs = [.ref p] ∧ SqL X.K H p (ys.map V.str) ∧ (ys.map (·.length)).sum + ys.length * sep.length ≤ 16777216 ∧ Q (.str (Txt.join sep ys)) H) := by
  intro pins s σ H x xs v us Q I rx rs h
  obtain ⟨sep, p, ys, rfl, rfl, hq, hz, q⟩ := h
  obtain ⟨t, rfl⟩ := rx
  obtain ⟨u, rfl, ru⟩ := vals1 rs
  cases ru
  obtain ⟨its, rv, pl, _⟩ := I.list hq
  exact join_list pl.isList (by simpa using strs_of rv) hz fun t' k => ⟨.str _, H, I.tok _, ⟨_, rfl⟩, q⟩
end
end L2
set_option Elab.async false
set_option linter.all false
set_option maxRecDepth 100000
namespace L2
open PySem PySem.Spec PyProof.Rows
noncomputable def PSsT (X : Cx) (st : List Stmt) (t : TS) : Prop :=
  ∀ (pins : List (Addr × Obj)) (s : Shared) (σ : St) (H : Hp) (D : Ends), Inv X pins σ H s → 0 < s.toks → t D σ H → wpAny (model X.prog X.w) X.A (execs st X.env) (SP X pins D) X.xe s
section
variable {X : Cx} {e o : Expr} {t to : TE} {st : Stmt} {rest : List Stmt} {tS u : TS} {apos cpos pos p1 p2 : Pos} {c d : Str} {k1 k2 : Nat}
end
end L2
set_option Elab.async false
set_option linter.all false
set_option maxRecDepth 100000
namespace L2
open PySem PySem.Spec PyProof.Rows
structure Walk (J : It) (xs : List V) (Pv : Hp → Prop) : Prop where
  stop : ∀ H, Pv H → J.stop xs.length H
  go : ∀ i H, i < xs.length → Pv H → J.go i H
  yld : ∀ i H x H', i < xs.length → Pv H → J.yld i H x H' → H' = H ∧ xs[i]? = some x
section
variable {P : Program} {w : World} {K : PySem.W.Frag} {mg : Str → Option Value} {base : Heap}
theorem Fun.okX {x qual : Str} {st : Stmt} {f : Addr} {fd : FuncData} {N ps : List Str} {k : Nat} {sp : Sp} (F : Fun K x qual st f fd) (S : FnScope N ps (defScope st)) (len : ∀ vs H Q E, sp vs H Q E → vs.length = ps.length)
    (hbody : ∀ (cdv : Value) (A : Around) (outer : List Env) (s : Shared) (H : Hp) (vs : List V) (Q : VK) (E : XK), Room k (A.deeper (envOfC qual (defScope st) s.heap.objs.size f cdv)) → sp vs H Q E →
      ∃ t, PSs (cxOf (CXs P w) P w K mg base N qual (defScope st) f cdv A outer s H E) (defBody st) t ∧ t { nx := fun _ H' => Q .non H', rt := Q } (start N vs) H) : FnOk P w K mg base (CXs P w) (k + 1) f fd ps sp := by
  obtain ⟨oc, od, kV, doc, pm, an, cdv, ct, osl, rfl, lk, hcd⟩ := F.ex
  exact fn_of lk hcd S len fun A outer s H vs Q E hr hsp => hbody cdv A outer s H vs Q E hr hsp
end
end L2
set_option Elab.async false
set_option linter.all false
set_option maxRecDepth 100000
namespace L2
open PySem PySem.Spec PyProof.Rows
noncomputable abbrev TJ := St → Hp → Str → (Str → Hp → Prop) → Prop
section
variable {X : Cx} {e v₁ v₂ : Expr} {es : List Expr} {te : TE} {t : TJ} {c : Str} {k : Nat} {pos p : Pos}
noncomputable def rNil (K : PySem.W.Frag) (neg : Bool) : R2 := fun x y H Q => ∃ p q xs, x = .ref p ∧ y = .ref q ∧ SqL K H p xs ∧ SqL K H q [] ∧ Q (.bl (if neg then !xs.isEmpty else xs.isEmpty)) H
theorem op_eqNil (hu : X.A.units < cLine) : OpR X (compareOp .Eq) (rNil X.K false) := by
  intro pins s σ H x y v u Q I rx ry h
  obtain ⟨p, q, xs, rfl, rfl, h1, h2, hq⟩ := h
  cases rx; cases ry
  obtain ⟨its, r, pl, hz⟩ := I.list h1
  obtain ⟨its2, r2, pl2, _⟩ := I.list h2
  cases r2
  cases xs with
  | nil =>
    cases r
    exact SeqAt.eq_listAt (e := fun _ => true) pl.isList pl2.isList rfl hu (fun j h1 _ => absurd h1 (by simp)) ⟨.bl true, H, I, rfl, hq⟩
  | cons a t =>
    cases r with
    | cons r1 r2 => exact SeqAt.eq_list_lengthsAt pl.isList pl2.isList (by simp) hu ⟨.bl false, H, I, rfl, hq⟩
theorem op_neNil (hu : X.A.units < cLine) : OpR X (compareOp .NotEq) (rNil X.K true) := by
  intro pins s σ H x y v u Q I rx ry h
  obtain ⟨p, q, xs, rfl, rfl, h1, h2, hq⟩ := h
  cases rx; cases ry
  obtain ⟨its, r, pl, hz⟩ := I.list h1
  obtain ⟨its2, r2, pl2, _⟩ := I.list h2
  cases r2
  cases xs with
  | nil =>
    cases r
    exact SeqAt.RcNeAt.lists (e := fun _ => true) pl.isList pl2.isList rfl hu (fun j h1 _ => absurd h1 (by simp)) _ _ _ _ ⟨.bl false, H, I, rfl, hq⟩
  | cons a t =>
    cases r with
    | cons r1 r2 => exact SeqAt.RcNeAt.lists_lengths pl.isList pl2.isList (by simp) hu _ _ _ _ ⟨.bl true, H, I, rfl, hq⟩
end
end L2
set_option Elab.async false
set_option linter.all false
set_option maxRecDepth 100000
namespace L2
open PySem PySem.Spec PyProof.Rows
noncomputable def SIt (h : Heap) (i a : Addr) (k : Nat) (xs : Array Value) : Prop := (h.IsListIter i a k ∧ h.IsList a xs) ∨ (h.IsTupleIter i a k ∧ h.IsTuple a xs)
section
variable {prog : Program} {w : World} {A : Around} {E : Value → Shared → Prop} {s : Shared}
end
end L2
set_option Elab.async false
set_option linter.all false
set_option maxRecDepth 100000
namespace L2
open PySem PySem.Spec PyProof.Rows
section
variable {X : Cx} {Z : ZK} {tg iter : Expr} {body : List Stmt} {wi : TI} {g : TG} {tb : TS} {pos : Pos}
theorem passes_XE (ok : XOk X) : PassesOwn (model X.prog X.w) X.A X.env (XE X Z) := by
  rintro e s' ⟨a, C, T, σ', H', rfl, I, F, z⟩
  refine I.note ok F I.ok.frames rfl fun h1 t I1 F1 => ?_
  exact I1.cameBack F1 fun h2 I2 F2 => ⟨a, C, some t, σ', H', rfl, I2, F2, z⟩
theorem Thr.wished (th : Thr X Z) : Thr (X.wish (XE X Z)) Z := by
  refine ⟨⟨th.top, th.ex⟩, ?_⟩
  rintro e s' ⟨a, C, T, σ', H', rfl, I, F, z⟩
  exact ⟨a, C, T, σ', H', rfl, I.unwish, ⟨F.fl, F.ow⟩, z⟩
theorem ps_forX (th : Thr X Z) (hc : X.calm = true) (hi : PI (X.wish (XE X Z)) tg iter wi) (hg : PG (X.wish (XE X Z)) tg g) (hb : PSs (X.wish (XE X Z)) body tb)
    (hs : ∀ x, foldedSetIterable iter X.env x = pure x := by intro _; rfl) : PS X (.For tg iter body [] pos) (tFor wi g tb) := by
  intro pins s σ H D I h
  refine wpAny_mono (ps_for (X := X.wish (XE X Z)) (passes_XE th.toXOk) hc hi hg hb hs pins s σ H D (I.wish _) h) (fun f s' q => q.unwish) fun e s' x => th.thr e s' x
end
end L2
set_option Elab.async false
set_option linter.all false
set_option maxRecDepth 100000
namespace L2
open PySem PySem.Spec PyProof.Rows
section
variable {X : Cx} {scope : Scope} {NC : List Str} {cap : List (Option Nat)} {elt tg iter : Expr} {ifs : List Expr} {pos pos' spos : Pos} {Z : ZK} {wi : TI} {g : TG} {tf : ZK → TT} {te : ZK → TE} {i : Nat} {x : Str}
theorem ps_setC (hc : X.calm = true) (th : Thr X Z) (hi : PI X tg iter wi) (cok : compOk X.env.scope scope X.N NC cap = true)
    (hg : ∀ C s H fp pn xe, PG (compCx X NC scope C s H fp pn xe) tg g)
    (hf : ∀ C s H fp pn xe Zc, Thr (compCx X NC scope C s H fp pn xe) Zc → PF (compCx X NC scope C s H fp pn xe) ifs (tf Zc))
    (hb : ∀ C s H fp pn xe Zc, Thr (compCx X NC scope C s H fp pn xe) Zc → PE (compCx X NC scope C s H fp pn xe) elt (te Zc))
    (hs : ∀ x, foldedSetIterable iter X.env x = pure x) (hN : X.N.Nodup) (hx : X.N[i]? = some x) (hlo : X.env.scope.names.lookup x = some .local)
    (hsw : swapsWith (.ListComp elt [⟨tg, iter, ifs, 0⟩] scope pos) (some (.Name x pos')) spos.line X.env = pure true) :
    PS X (.Assign [.Name x pos'] (.ListComp elt [⟨tg, iter, ifs, 0⟩] scope pos) spos) (tAsg (tComp Z cap wi g tf te) (gName i)) := by
  intro pins s σ H D I h
  obtain ⟨c1, c2, c3, c4, c5, c6, c7⟩ := compOk_parts cok
  rw [exec_Assign_Name_used _ _ _ _ hsw]
  refine wpAny_bind (wpAny_standAt (wpAny_bind ?_))
  show wpAny _ X.A (do let _ ← comprehension (.ListComp elt [⟨tg, iter, ifs, 0⟩] scope pos) scope X.env _ (newList []) false (eval iter X.env) (some (assign (.Name x pos') X.env))) _ _ s
  refine wpAny_bind (wpAny_mono (wpAny_comprehension_free (use := some (assign (.Name x pos') X.env)) (Q := fun _ s' => SP X pins D .next s') rfl hs (closure_of fun y hy e => I.ok.has y.1 (.inl (c4 y hy e))) c1 c3
    (thn (hi pins s σ H _ I h) fun xv s₁ h₁ => thn h₁ fun itv s₂ h₂ => ?_)) (fun _ s' hq => wpAny_pure (wpAny_pure hq)) fun _ _ e => e)
  obtain ⟨it, fp, tn, J, H2, rfl, I2, T, st2, f2, W, ⟨m0, w0⟩, turn⟩ := h₂
  refine comp_core hc th I2 T st2 f2 cok (fun C pn xe => hg C s₂ H2 fp pn xe) (fun C pn xe t => hf C s₂ H2 fp pn xe _ t) (fun C pn xe t => hb C s₂ H2 fp pn xe _ t) W m0 w0 turn ?_
  rintro C D' s' H' ys us n ⟨hlen, q⟩ rv e hn hnC rfl rfl ⟨m, ns⟩ lv
  have I' : Inv X pins σ H' s' := lv s'.heap (Heap.SameBut.refl _ _)
  have I3 : Inv X pins σ (upd H' s₂.heap.objs.size (.lst ys)) s' := I'.track (o := .lst ys) hn (Heap.get?_none_of_le I2.sz) (Nat.ne_of_gt I2.lt) (fun y c ec z => by
    obtain ⟨v, q⟩ := I2.cell y c ec
    exact absurd q.lt (by rw [z]; exact Nat.lt_irrefl _)) (fun p hp z => absurd (Heap.lt_size (I2.pin p hp).1) (by rw [z]; exact Nat.lt_irrefl _)) ⟨hlen, us, n, rv, e⟩
  have fC : FpOk X pins (upd H' s₂.heap.objs.size (.lst ys)) (s₂.heap.objs.size + 1) := I2.fpOk (Nat.le_succ _) (by rw [upd_ne (Nat.succ_ne_self _)]; exact hnC)
  show wpAny _ X.A (assign (.Name x pos') X.env (.ref s₂.heap.objs.size)) _ _ _
  refine wpAny_assign_Name (store_ok2 I3 hN hx (.inl hlo) (v := .ref s₂.heap.objs.size) rfl (fun s'' I4 ⟨a, sb, ha⟩ => ?_) (.inr hlo))
  have nC : s₂.heap.objs.size + 1 ≠ a := by
    rcases ha with rfl | ha
    · exact fC.2.1
    · exact fun z => fC.2.2.2.2.1 x a ha z.symm
  refine ⟨m, ns.sameBut sb nC, fun h' sb' => ⟨_, _, I4.turned (t' := s''.toks) (fun b o hb e => (sb'.2 b hb).trans e) fC.1 fC.2.1 fC.2.2.2.1 fC.2.2.2.2.1 fC.2.2.2.2.2, q _ hn⟩⟩
end
end L2
set_option Elab.async false
set_option linter.all false
set_option maxRecDepth 100000
namespace L2
open PySem PySem.Spec PyProof.Rows
noncomputable def Itv (K : PySem.W.Frag) (a : Addr) (n : Nat) : It :=
  ⟨fun i H => i < n ∧ ∃ xs, SqL K H a xs ∧ xs.length = n, fun i H x H' => H' = H ∧ ∀ xs, SqL K H a xs → xs[n - 1 - i]? = some x, fun i _ => i = n⟩
theorem turn_rev {P : Program} {w : World} {K : PySem.W.Frag} {tg : Expr} (a it : Addr) (n : Nat) : Turn P w K tg (Itv K a n) [it] it (fun i h => h.IsRevIter it a ((n : Int) - 1 - (i : Int))) where
  mem := by simp
  obj := fun i h st b hb => by
    have e : b = it := by simpa using hb
    subst e
    obtain ⟨o, e, c, d⟩ := st
    exact ⟨o, e, fun v z => by rw [d] at z; cases z⟩
  keep := fun i h h' st k => st.at fun o e => k it (by simp) o e
  item := by
    intro X hP hw hK hc i pins s σ H E I hf st hg
    subst hP hw hK
    obtain ⟨hi, xs, hq, hn⟩ := hg
    obtain ⟨its, rv, p, hz⟩ := I.list hq
    have hx : xs[n - 1 - i]? = some (xs[n - 1 - i]'(by omega)) := List.getElem?_eq_getElem _
    obtain ⟨u, hu, ru⟩ := rv.get hx
    obtain ⟨f0, f1, f2, f3, f4, f5⟩ := hf it (by simp)
    have e1 : ((n : Int) - 1 - (i : Int)) = ((n - 1 - i : Nat) : Int) := by omega
    rw [e1] at st
    refine wpAny_pyNext_rev_item st p.isList (x := u) (by simpa using hu) fun h' st' sb => ?_
    have I1 : Inv X pins σ H { s with heap := h' } := I.turned (t' := s.toks) (fun b o hb e => (sb.2 b hb).trans e) f0 f1 f3 f4 f5
    have e2 : ((n - 1 - i : Nat) : Int) - 1 = (n : Int) - 1 - ((i + 1 : Nat) : Int) := by omega
    rw [e2] at st'
    obtain ⟨o, e, c, d⟩ := id st'
    exact ⟨u, rfl, go_of (s := { s with heap := h' }) e c d (by decide) ⟨_, H, I1, ru, ⟨rfl, fun ys hy => by rw [I.list_inj hy hq]; exact hx⟩, st', fun b hb => (hf b hb).1⟩⟩
  done := by
    intro X hP hw hK hc i pins s σ H E I hf st hg
    subst hP hw hK
    have hg' : i = n := hg
    subst hg'
    obtain ⟨f0, f1, f2, f3, f4, f5⟩ := hf it (by simp)
    have e1 : ((i : Int) - 1 - (i : Int)) = -1 := by omega
    rw [e1] at st
    exact wpAny_pyNext_rev_end (I.ok.hd hc) st fun h' eb => ⟨rfl, I.turned (t' := s.toks) (fun b o hb e => eb b o hb e) f0 f1 f3 f4 f5⟩
  self := fun _ _ _ _ _ st h => wpAny_pyIter_revIter st h
section
variable {X : Cx} {tg : Expr}
end
end L2
set_option Elab.async false
set_option linter.all false
set_option maxRecDepth 100000
namespace L2
open PySem PySem.Spec PyProof.Rows
theorem lri_nolen : typeLookup (.type "list_reverseiterator") "__len__" = pure none := by rw [typeLookup_type, builtinLookup_eq_fast]; kernel_rfl
theorem lri_hint : typeLookup (.type "list_reverseiterator") "__length_hint__" = pure (some (.builtin "list_reverseiterator.__length_hint__")) := by rw [typeLookup_type, builtinLookup_eq_fast]; kernel_rfl
section
variable {prog : Program} {w : World} {A : Around} {s : Shared} {R : Result → Shared → Prop}
variable {I : Addr} {fp wr : List Addr} {G : Array GenState → Array GenState → Prop} {n : Nat} {P : Nat → Value → Prop} {St : Nat → Shared → Prop}
theorem ext_rev (W : WalksS prog w A.in1 I fp wr G n P St) (hT : ∀ i s, St i s → s.TypeIs (.ref I) "list_reverseiterator") (S : Addr) (res : Value) (c₀ : Nat) (hst : St 0 s) (hSf : S ∉ fp) (hI : I ∈ fp)
    (hS : s.heap.get? S = some { cls := .type "list", data := .seq #[] c₀ }) (hn : n ≤ sizeLine)
    (hR : ∀ s' acc' c', Moved (S :: wr) G s s' → s'.heap.get? S = some { cls := .type "list", dict := none, data := .seq acc' c', slots := #[] } → ItemsOf P acc' n → R (.ok (.ret res)) s') :
    wpAny (model prog w) A.in1 (Builtin.List.listExtendWith (.ref S) (.ref I) res)
      (fun fin s' => match fin with | .done f => R (.ok f) s' | .again c' => c'.quiet = true ∧ codeAny (model prog w) A c' R s') (fun e s' => R (.error e) s') s := by
  have hSI : S ≠ I := fun e => hSf (e ▸ hI)
  have h1 : Builtin.List.listSameRef (.ref S) (.ref I) = false := by simp [Builtin.List.listSameRef, hSI]
  unfold Builtin.List.listExtendWith
  refine wpAny_bind (wpAny_typeOf (hT 0 _ hst) ?_)
  rw [if_neg (by rw [h1]; decide)]
  refine wpAny_bind (W.self 0 _ _ _ hst ?_)
  refine wpAny_bind (wpAny_holding ?_)
  unfold Builtin.List.listLengthHint
  refine wpAny_bind (wpAny_specialOf (hT 0 _ hst) lri_nolen ?_)
  show wpAny _ A.in1 (specialOf (Value.ref I) (Str.ofString "__length_hint__") >>= _) _ _ _
  refine wpAny_bind (wpAny_specialOf (hT 0 _ hst) lri_hint ?_)
  generalize hid : ("list_reverseiterator.__length_hint__" : String) = id0
  wp_delta
  rw [show splitId id0 = some ("list_reverseiterator", "__length_hint__") from by subst hid; decide +kernel]
  subst hid
  refine wpAny_bind (wpAny_isInstance (b := true) (hT 0 _ hst) (by rw [isSubtype_type]; kernel_rfl) ?_)
  refine wpAny_pure ?_
  rw [if_neg (by decide)]
  exact wpAny_pure ⟨plainId_quiet F.plain_extend_loop _, codeAny_extend_loopS W hn _ hSf _ n 0 _ _ _ rfl (Nat.zero_le _) hst hS (ItemsOf.nil P) fun s' acc' c' hm hS' hacc => hR s' acc' c' hm hS' hacc⟩
theorem init_rev (W : WalksS prog w A.in1 I fp wr G n P St) (hT : ∀ i s, St i s → s.TypeIs (.ref I) "list_reverseiterator") (S : Addr) (hst : St 0 s) (hSf : S ∉ fp) (hI : I ∈ fp)
    (hS : s.heap.get? S = some { cls := .type "list", data := .seq #[] }) (hn : n ≤ sizeLine)
    (hR : ∀ s' acc' c', Moved (S :: wr) G s s' → s'.heap.get? S = some { cls := .type "list", dict := none, data := .seq acc' c', slots := #[] } → ItemsOf P acc' n → R (.ok (.ret .none)) s') :
    wpAny (model prog w) A.in1 (Builtin.«list.__init__» ⟨[.ref S, .ref I], []⟩)
      (fun fin s' => match fin with | .done f => R (.ok f) s' | .again c' => c'.quiet = true ∧ codeAny (model prog w) A c' R s') (fun e s' => R (.error e) s') s := by
  show wpAny _ A.in1 (do let old ← Builtin.List.listItems (.ref S); Builtin.List.listUpdate (.ref S) (fun _ => #[]); letGo old.toList.reverse; Builtin.List.listExtendWith (.ref S) (.ref I) .none) _ _ s
  refine wpAny_bind ?_
  unfold Builtin.List.listItems
  refine wpAny_bind (wpAny_seqItems hS rfl (wpAny_pure ?_))
  show wpAny _ A.in1 (updateSeq S (fun _ => #[]) >>= fun _ => letGo (#[] : Array Value).toList.reverse >>= fun _ => Builtin.List.listExtendWith (.ref S) (.ref I) .none) _ _ s
  refine wpAny_bind (wpAny_updateSeq hS rfl ?_)
  have hS2 := Heap.get?_update_self (Obj.mapSeq (fun _ => (#[] : Array Value))) hS rfl
  have oth : ∀ b o, b ≠ S → s.heap.get? b = some o → (s.heap.update S (Obj.mapSeq (fun _ => (#[] : Array Value)))).get? b = some o := fun b o hb e => (Heap.get?_update_other _ _ (Ne.symm hb)).trans e
  refine wpAny_bind (wpAny_letGo ?_)
  refine ext_rev W hT S .none _ (W.frame 0 s _ s.toks hst (Nat.le_refl _) fun b hb o e => oth b o (fun h => hSf (h ▸ hb)) e) hSf hI hS2 hn fun s' acc' c' hm hS' hacc => ?_
  exact hR s' acc' c' (Moved.trans W.gtrans ((Moved.refl W.grefl).then_heap (Nat.le_refl _) fun b o hb e => oth b o (fun h => hb (h ▸ List.mem_cons_self)) e) hm) hS' hacc
end
section
variable {prog : Program} {w : World} {A : Around} {E : Value → Shared → Prop} {s : Shared}
theorem list_rev {I l : Addr} {items : Array Value} {Q : Value → Shared → Prop} (hh : A.handled = none) (hne : l ≠ I) (hI : I < s.heap.objs.size) (hit : s.heap.IsRevIter I l ((items.size : Int) - 1)) (hl : s.heap.IsList l items) (hn : items.size ≤ sizeLine)
    (hQ : ∀ s' acc c, (∀ b o, b ≠ I → s.heap.get? b = some o → s'.heap.get? b = some o) → s'.gens = s.gens → s'.drawn = s.drawn → s'.os = s.os → s.toks ≤ s'.toks →
      s'.heap.get? s.heap.objs.size = some { cls := .type "list", data := .seq acc c } → acc.toList = items.toList.reverse → Q (.ref s.heap.objs.size) s') :
    wpAny (model prog w) A (call (.type "list") [.ref I]) Q E s := by
  have hll : l < s.heap.objs.size := by obtain ⟨_, e, _⟩ := hl; exact Heap.lt_size e
  have W := (Walks.listRev (prog := prog) (w := w) (A := A.in1.in1) hh I l hne items).toS
  have hfp : ∀ b ∈ [I, l], b < s.heap.objs.size := fun b hb => by simp at hb; rcases hb with rfl | rfl <;> assumption
  have hSf : s.heap.objs.size ∉ [I, l] := fun hm => Nat.lt_irrefl _ (hfp _ hm)
  refine callType_codes (Q₁ := fun obj s₁ => obj = .ref s.heap.objs.size ∧ s₁ = { s with heap := s.heap.push { cls := .type "list", data := .seq #[] } }) F.called_list (F.typeCall_list_1 _) F.entry_list_init (code_list_new _ ⟨rfl, rfl⟩) fun obj s₁ h₁ => ?_
  obtain ⟨rfl, rfl⟩ := h₁
  have hS : (s.heap.push { cls := .type "list", data := .seq #[] }).get? s.heap.objs.size = some { cls := .type "list", data := .seq #[] } := Heap.get?_push_size _ rfl
  have st0 : 0 ≤ items.size ∧ s.heap.IsRevIter I l ((items.size : Int) - 1 - ((0 : Nat) : Int)) ∧ s.heap.IsList l items := ⟨Nat.zero_le _, by simpa using hit, hl⟩
  refine ⟨⟨_, hS, rfl⟩, F.args_list_init_2 _ _, init_rev W (fun i s x => x.2.1.typeIs) _ (W.frame 0 s _ s.toks st0 (Nat.le_refl _) fun b _ o e => Heap.get?_push_of_some _ e) hSf (by simp) hS hn fun s' acc' c' hm hS' hacc => ?_⟩
  refine ⟨rfl, hQ s' acc' c' (fun b o hb e => hm.heap b o ?_ (Heap.get?_push_of_some _ e)) hm.gens hm.drawn hm.os hm.toks hS' ?_⟩
  · have := Heap.lt_size e
    simp
    exact ⟨Nat.ne_of_lt this, hb⟩
  · obtain ⟨a1, a2⟩ := hacc
    apply List.ext_getElem?
    intro i
    rw [Array.getElem?_toList]
    by_cases hi : i < acc'.size
    · have e := a2 i _ (Array.getElem?_eq_getElem hi)
      rw [Array.getElem?_eq_getElem hi, List.getElem?_reverse (by rw [Array.length_toList]; omega), Array.length_toList, Array.getElem?_toList, e]
    · rw [Array.getElem?_eq_none (by omega), List.getElem?_eq_none (by rw [List.length_reverse, Array.length_toList]; omega)]
variable {X : Cx}
noncomputable def rLR (K : PySem.W.Frag) : List V → Hp → VK → Prop := fun xs H Q => ∃ p ys, xs = [.ref p] ∧ SqL K H p ys ∧ ∀ l, H l = none → Q (.ref l) (upd H l (.lst ys.reverse))
theorem Vals.rev : ∀ {xs : List V} {us : List Value}, Vals xs us → Vals xs.reverse us.reverse
  | _, _, .nil => .nil
  | _, _, .cons r t => by rw [List.reverse_cons, List.reverse_cons]; exact (Vals.rev t).append (.cons r .nil)
theorem pe_listrev {a : Expr} {ta : TA} {p p' pos pos' : Pos} (hc : X.calm = true) (hg : Gl X "reversed") (hm : X.mg "reversed" = none) (hg2 : Gl X "list") (hm2 : X.mg "list" = none) (ha : PA X [a] ta) (hs : starEach [a] X.env = [(false, eval a X.env)]) :
    PE X (.Call (.Name "list" p) [.Call (.Name "reversed" p') [a] [] pos'] [] pos) (fun σ H Q => ta σ H fun vs H1 => rLR X.K vs H1 Q) := by
  intro pins s σ H Q I h
  refine wpAny_Call_Name_kw (ld_blt I hg2 hm2 boot_list ?_ (by decide) (by decide))
  refine PyProof.Rows.callWith_type1 ?_ rfl rfl
  show wpAny _ _ (spliced ((false, eval (.Call (.Name "reversed" p') [a] [] pos') X.env) :: [])) _ _ s
  refine Calls.spliced_cons (Call_ (ld_blt I hg hm boot_reversed (PyProof.Rows.callWith_type1 (thn (ha pos' pins s σ H _ I h) fun us s1 ⟨vs, H1, I1, r1, q1⟩ => ?_) hs rfl) (by decide) (by decide)))
  obtain ⟨b, xs, e, hq, q⟩ := q1
  subst e
  cases r1 with
  | cons r rr =>
    cases rr
    cases r
    obtain ⟨its, rv, pl, hz⟩ := I1.list hq
    have hl := rv.length
    have hb : b < s1.heap.objs.size := by obtain ⟨_, e, _⟩ := pl.isList; exact Heap.lt_size e
    refine call_reversed_list pl.isList ?_
    refine wpAny_pure ?_
    refine list_rev (s := { s1 with heap := s1.heap.push (revObj b ((its.toArray.size : Int) - 1)) }) (items := its.toArray) (I1.ok.hd hc) (Nat.ne_of_lt hb) (by simp) ⟨_, Heap.get?_push_size _ rfl, rfl, rfl⟩ (pl.isList.push _) (by simp only [List.size_toArray]; omega) fun s' acc c k1 k2 k3 k4 k5 k6 k7 => ?_
    obtain ⟨hp', g', d', tk', os'⟩ := s'
    simp only at k2 k3 k4
    subst k2 k3 k4
    have kp : ∀ b' o, s1.heap.get? b' = some o → hp'.get? b' = some o := fun b' o e => k1 b' o (Nat.ne_of_lt (Heap.lt_size e)) (Heap.get?_push_of_some _ e)
    have sz : s1.heap.objs.size ≤ (s1.heap.push (revObj b ((its.toArray.size : Int) - 1))).objs.size := by simp
    refine ⟨.ref _, _, I1.laid (t' := tk') kp sz (show ObjOk X.prog X.w _ hp' _ (.lst xs.reverse) from ⟨by rw [List.length_reverse]; exact hz, its.reverse, c, rv.rev, ?_⟩), rfl, q _ (I1.hok.fresh sz)⟩
    have ea : acc = its.reverse.toArray := by
      have := congrArg List.toArray k7
      simpa using this
    rw [← ea]
    exact k6
end
end L2
set_option Elab.async false
set_option linter.all false
set_option maxRecDepth 100000
namespace L2
open PySem PySem.Spec PyProof.Rows
theorem rvt_owner : Manifest.owners.lookup (String.ofList ['d', 'e', 's', 'r', 'e', 'v', 'e', 'r'].reverse) = some Manifest.sig_reversed := by kernel_rfl
theorem rvt_next : Slot "reversed" "__next__" "reversed.__next__" := .of (owner := "reversed") (n := "__next__") (by rw [typeLookup_type, builtinLookup_eq_fast]; kernel_rfl) (by decide +kernel) (by decide +kernel) (by decide +kernel) (by first | exact .inl (by decide +kernel) | exact .inr (by decide +kernel)) (by rw [isSubtype_type]; kernel_rfl)
theorem rvt_next_e : entryFor table "reversed.__next__" = some Builtin.«reversed.__next__» := entryFor_of_tree (by kernel_rfl)
theorem rvt_next_a (a : Value) : argsOk "reversed.__next__" ⟨[a], []⟩ := by unfold argsOk; rw [signature?_of (id := "reversed.__next__") (n := ['_', '_', 't', 'x', 'e', 'n', '_', '_']) (o := ['d', 'e', 's', 'r', 'e', 'v', 'e', 'r']) (by kernel_rfl) rvt_owner]; kernel_rfl
theorem rvt_iter : Slot "reversed" "__iter__" "reversed.__iter__" := .of (owner := "reversed") (n := "__iter__") (by rw [typeLookup_type, builtinLookup_eq_fast]; kernel_rfl) (by decide +kernel) (by decide +kernel) (by decide +kernel) (by first | exact .inl (by decide +kernel) | exact .inr (by decide +kernel)) (by rw [isSubtype_type]; kernel_rfl)
theorem rvt_iter_a (a : Value) : argsOk "reversed.__iter__" ⟨[a], []⟩ := by unfold argsOk; rw [signature?_of (id := "reversed.__iter__") (n := ['_', '_', 'r', 'e', 't', 'i', '_', '_']) (o := ['d', 'e', 's', 'r', 'e', 'v', 'e', 'r']) (by kernel_rfl) rvt_owner]; kernel_rfl
theorem rvt_iter_e : entryFor table "reversed.__iter__" = some Builtin.«dict_keyiterator.__iter__» := entryFor_alias (id' := "dict_keyiterator.__iter__") (by kernel_rfl) (by first | rfl | decide +kernel | (unfold String.splitOn; simp +decide [String.splitOnAux])) (by decide +kernel) (by kernel_rfl)
theorem rvt_init : Slot "reversed" "__init__" "object.__init__" := .of (owner := "object") (n := "__init__") (by rw [typeLookup_type, builtinLookup_eq_fast]; kernel_rfl) (by decide +kernel) (by decide +kernel) (by decide +kernel) (by first | exact .inl (by decide +kernel) | exact .inr (by decide +kernel)) (by rw [isSubtype_type]; kernel_rfl)
theorem rvt_called : TypeCalled "reversed" "reversed.__new__" "object.__init__" := ⟨by decide +kernel, by decide +kernel, ⟨_, _, PySem.F.mro_reversed⟩, PySem.F.made_reversed, by decide +kernel, by rw [isSubtype_type]; kernel_rfl, rvt_init⟩
theorem rvt_init_a (a b : Value) : argsOk "object.__init__" ⟨[a, b], []⟩ := by unfold argsOk; rw [signature?_of (id := "object.__init__") (n := ['_', '_', 't', 'i', 'n', 'i', '_', '_']) (o := ['t', 'c', 'e', 'j', 'b', 'o']) (by kernel_rfl) PySem.F.owner_object]; kernel_rfl
theorem tup_norev : typeLookup (.type "tuple") "__reversed__" = pure none := by rw [typeLookup_type, builtinLookup_eq_fast]; kernel_rfl
theorem tup_nodict : isSubtype (.type "tuple") (.type "dict") = pure false := by rw [isSubtype_type]; kernel_rfl
end L2
set_option Elab.async false
set_option linter.all false
set_option maxRecDepth 100000
namespace L2
open PySem PySem.Spec PyProof.Rows
noncomputable def rvtObj (l : Addr) (i : Int) : Obj := { cls := .type "reversed", data := .fields #[.ref l, rawInt i] }
noncomputable def IsRvt (h : Heap) (a l : Addr) (i : Int) : Prop := ∃ o, h.get? a = some o ∧ o.cls = .type "reversed" ∧ o.data = .fields #[.ref l, rawInt i]
theorem IsRvt.typeIs {s : Shared} {a l : Addr} {i : Int} (x : IsRvt s.heap a l i) : s.TypeIs (.ref a) "reversed" := let ⟨o, ho, hc, _⟩ := x; ⟨o, ho, hc⟩
theorem IsRvt.at {h h' : Heap} {a l : Addr} {i : Int} (x : IsRvt h a l i) (e : ∀ o, h.get? a = some o → h'.get? a = some o) : IsRvt h' a l i := let ⟨o, ho, r⟩ := x; ⟨o, e _ ho, r⟩
theorem meets_rvt (t : Addr) (its : Array Value) (hz : (its.size : Int) < 2 ^ 63) : Meets (Builtin.«reversed.__new__» ⟨[.type "reversed", .ref t], []⟩) (fun _ R s => IsTup s.heap t its ∧ ∀ tk, R (.ok (.ret (.ref s.heap.objs.size))) { s with heap := s.heap.push (rvtObj t ((its.size : Int) - 1)), toks := tk }) :=
  .of_wp fun prog w A R s h => by
    obtain ⟨ht, h⟩ := h
    unfold Builtin.«reversed.__new__»
    refine wpAny_bind (wpAny_of_eq (newClass_reversed _) ?_)
    try dsimp only
    refine wpAny_bind (wpAny_of_eq (a := ()) (by first | rfl | kernel_rfl) ?_)
    refine wpAny_bind (wpAny_of_eq (a := ()) (by first | rfl | kernel_rfl) ?_)
    try dsimp only
    refine wpAny_bind (wpAny_specialOf ht.typeIs tup_norev ?_)
    try dsimp only
    refine wpAny_bind (wpAny_mono (Q := fun b s' => b = true ∧ s' = s) ?_ ?_ (fun _ _ e => e))
    · show wpAny _ _ (isInstance (.ref t) (.type "dict") >>= _) _ _ s
      refine wpAny_bind (wpAny_isInstance (T := "tuple") (b := false) ht.typeIs tup_nodict ?_)
      simp only [Bool.false_eq_true, if_false, pure_bind]
      refine wpAny_bind (wpAny_specialOf ht.typeIs slot_tuple_getitem.lookup ?_)
      simp only []
      rw [if_pos (by decide)]
      exact wpAny_pure ⟨rfl, rfl⟩
    · rintro b s' ⟨rfl, rfl⟩
      simp only [Bool.not_true, Bool.false_eq_true, if_false]
      refine wpAny_bind (len_tuple ht hz ?_)
      refine wpAny_bind (wpAny_of_eq (a := some (its.size : Int)) rfl ?_)
      simp only []
      refine wpAny_bind (m := Builtin.SmallTypes.newRecord (Value.type "reversed") [Value.ref t, rawInt ((its.size : Int) - 1)]) ?_
      show wpAny _ _ (newObj (.type "reversed") (.fields #[Value.ref t, rawInt ((its.size : Int) - 1)])) _ _ _
      refine wpAny_newObj_type ?_ (by size_fits)
      exact wpAny_pure ⟨_, rfl, h _⟩
section
variable {prog : Program} {w : World} {A : Around} {E : Value → Shared → Prop} {s : Shared}
theorem call_rvt {t : Addr} {its : Array Value} {Q : Value → Shared → Prop} (ht : IsTup s.heap t its) (hz : (its.size : Int) < 2 ^ 63)
    (h : ∀ tk, Q (.ref s.heap.objs.size) { s with heap := s.heap.push (rvtObj t ((its.size : Int) - 1)), toks := tk }) : wpAny (model prog w) A (call (.type "reversed") [.ref t]) Q E s := by
  refine callType_new rvt_called (by decide) (PySem.F.typeCall_reversed_1 _) (PySem.F.newCall_reversed_1 _) (fun obj => rvt_init_a obj _) PySem.F.entry_reversed_new (meets_rvt t its hz) ⟨ht, fun tk => ?_⟩
  exact ⟨⟨_, Heap.get?_push_size _ rfl, rfl⟩, h tk⟩
theorem rvt_item {it t : Addr} {i : Nat} {its : Array Value} {x : Value} {Q : Option Value → Shared → Prop} (hit : IsRvt s.heap it t (i : Int)) (ht : IsTup s.heap t its) (hx : its[i]? = some x) (hz : (its.size : Int) < 2 ^ 63)
    (hQ : ∀ h' tk, IsRvt h' it t ((i : Int) - 1) → Heap.SameBut it s.heap h' → Q (some x) { s with heap := h', toks := tk }) : wpAny (model prog w) A (pyNext (.ref it)) Q E s := by
  obtain ⟨o, ho, hc, hd⟩ := id hit
  have hi : i < its.size := by
    by_cases h : i < its.size
    · exact h
    · rw [Array.getElem?_eq_none (by omega)] at hx; cases hx
  unfold pyNext
  refine wpAny_bind (wpAny_attempt (wpAny_callSpecial?_slot (name := Str.ofString "__next__") hit.typeIs rvt_next (wpAny_call_entry rvt_next hit.typeIs rvt_next_e ?_ (rvt_next_a _))))
  unfold Builtin.«reversed.__next__»
  refine wpAny_bind (wpAny_of_eq (a := (Value.ref it, [])) rfl ?_)
  try dsimp only
  refine wpAny_bind (wpAny_field ho hd (x := .ref t) rfl ?_)
  refine wpAny_bind (wpAny_field ho hd (x := rawInt (i : Int)) rfl ?_)
  show wpAny _ _ (if (i : Int) < 0 then _ else _) _ _ s
  rw [if_neg (by omega)]
  show wpAny _ _ (specialOf (.ref t) "__getitem__" >>= _) _ _ s
  refine wpAny_bind (wpAny_specialOf ht.typeIs slot_tuple_getitem.lookup ?_)
  simp only [Option.isNone, Bool.false_eq_true, if_false]
  refine wpAny_bind (wpAny_mkInt ?_)
  refine wpAny_bind (wpAny_attempt (getItem_tuple (s := { s with toks := s.toks + 1 }) (j := i) (x := x) ht (by omega) (by omega) (by unfold seqIndex?; simp only []; split <;> simp_all <;> omega) hx ?_))
  simp only []
  refine wpAny_bind (wpAny_field (s := { s with toks := s.toks + 1 }) ho hd (x := rawInt (i : Int)) rfl ?_)
  show wpAny _ _ (setField (.ref it) 1 (rawInt ((i : Int) - 1)) >>= _) _ _ _
  refine wpAny_bind (wpAny_setField (s := { s with toks := s.toks + 1 }) ho hd (by simp) ?_)
  refine wpAny_pure ⟨x, rfl, wpAny_pure (hQ _ _ ?_ (Heap.SameBut.update ..))⟩
  exact ⟨_, Heap.get?_update_self _ ho (Obj.isFreed_of_fields (Obj.data_mapFields hd _)), (Obj.cls_mapFields ..).trans hc, by rw [Obj.data_mapFields hd]; simp⟩
theorem rvt_end {it t : Addr} {Q : Option Value → Shared → Prop} (hh : A.handled = none) (hit : IsRvt s.heap it t (-1))
    (hQ : ∀ h', Heap.ExtBut it s.heap h' → Q none { s with heap := h' }) : wpAny (model prog w) A (pyNext (.ref it)) Q E s := by
  obtain ⟨o, ho, hc, hd⟩ := id hit
  unfold pyNext
  refine wpAny_bind (wpAny_attempt (wpAny_callSpecial?_slot (name := Str.ofString "__next__") hit.typeIs rvt_next (wpAny_call_entry rvt_next hit.typeIs rvt_next_e ?_ (rvt_next_a _))))
  unfold Builtin.«reversed.__next__»
  refine wpAny_bind (wpAny_of_eq (a := (Value.ref it, [])) rfl ?_)
  try dsimp only
  refine wpAny_bind (wpAny_field ho hd (x := .ref t) rfl ?_)
  refine wpAny_bind (wpAny_field ho hd (x := rawInt (-1)) rfl ?_)
  show wpAny _ _ (if (-1 : Int) < 0 then _ else _) _ _ s
  rw [if_pos (by decide)]
  refine wpAny_bind (wpAny_rule ?_)
  refine wpAny_bind (wpAny_mono (Q := fun _ s' => ∃ h', s' = { s with heap := h' } ∧ Heap.SameBut it s.heap h') ?_ ?_ (fun _ _ e => e))
  · show wpAny _ _ (setField (.ref it) 1 (rawInt (-1)) >>= fun _ => setField (.ref it) 0 .none) _ _ s
    refine wpAny_bind (wpAny_setField ho hd (by simp) ?_)
    refine wpAny_setField (Heap.get?_update_self _ ho (Obj.isFreed_of_fields (Obj.data_mapFields hd _))) (Obj.data_mapFields hd _) (by simp) ?_
    exact ⟨_, rfl, (Heap.SameBut.update ..).trans (Heap.SameBut.update ..)⟩
  · rintro _ s' ⟨h1, rfl, sb⟩
    refine wpAny_bind ?_
    unfold Builtin.SmallTypes.stopIteration
    refine wpAny_bind ?_
    simp only [newExc, newTuple]
    refine wpAny_bind (wpAny_newObj_type ?_ (by size_fits))
    refine wpAny_bind (m := firstArgMember _ _) (wpAny_of_eq (a := Value.none) (by first | rfl | (simp only [firstArgMember]; rfl)) ?_)
    refine wpAny_newObj_type ?_ (by size_fits)
    simp only [raiseNew]
    refine wpAny_bind (wpAny_handled ?_)
    first | rw [show A.in1.handled = none from hh] | rw [hh]
    refine wpAny_bind (wpAny_pure (wpAny_throw ?_))
    refine wpAny_bind (wpAny_isInstance (T := "StopIteration") (b := true) ⟨_, Heap.get?_push_size _ rfl, rfl⟩ isSubtype_stop ?_)
    exact wpAny_pure (hQ _ ((sb.extBut.push _).push _))
theorem rvt_self {it t : Addr} {i : Int} {Q : Value → Shared → Prop} (hit : IsRvt s.heap it t i) (h : Q (.ref it) s) : wpAny (model prog w) A (pyIter (.ref it)) Q E s := by
  refine wpAny_pyIter_slot hit.typeIs rvt_iter (wpAny_call_entry rvt_iter hit.typeIs rvt_iter_e ?_ (rvt_iter_a _))
  show wpAny _ _ (ret (.ref it)) _ _ s
  exact wpAny_pure ⟨_, rfl, "reversed", _, hit.typeIs, rvt_next.lookup, h⟩
end
noncomputable def Itw (K : PySem.W.Frag) (a : Addr) (n : Nat) : It :=
  ⟨fun i H => i < n ∧ ∃ xs, SqT K H a xs ∧ xs.length = n, fun i H x H' => H' = H ∧ ∀ xs, SqT K H a xs → xs[n - 1 - i]? = some x, fun i _ => i = n⟩
theorem turn_rvt {P : Program} {w : World} {K : PySem.W.Frag} {tg : Expr} (a it : Addr) (n : Nat) : Turn P w K tg (Itw K a n) [it] it (fun i h => IsRvt h it a ((n : Int) - 1 - (i : Int))) where
  mem := by simp
  obj := fun i h st b hb => by
    have eb : b = it := by simpa using hb
    subst eb
    obtain ⟨o, e1, e2, e3⟩ := st
    exact ⟨o, e1, fun v z => by rw [e3] at z; cases z⟩
  keep := fun i h h' st k => st.at fun o e => k it (by simp) o e
  item := by
    intro X hP hw hK hc i pins s σ H E I hf st hg
    subst hP hw hK
    obtain ⟨hi, xs, hq, hn⟩ := hg
    obtain ⟨its, rv, p, hz⟩ := I.tuple hq
    have hl := rv.length
    have ln := line63
    have hx : xs[n - 1 - i]? = some (xs[n - 1 - i]'(by omega)) := List.getElem?_eq_getElem _
    obtain ⟨u, hu, ru⟩ := rv.get hx
    obtain ⟨f0, f1, f2, f3, f4, f5⟩ := hf it (by simp)
    have e1 : ((n : Int) - 1 - (i : Int)) = ((n - 1 - i : Nat) : Int) := by omega
    rw [e1] at st
    refine rvt_item st p (x := u) (by simpa using hu) (by rw [List.size_toArray]; omega) fun h' tk st' sb => ?_
    have I1 : Inv X pins σ H { s with heap := h', toks := tk } := I.turned (t' := tk) (fun b o hb e => (sb.2 b hb).trans e) f0 f1 f3 f4 f5
    have e2 : ((n - 1 - i : Nat) : Int) - 1 = (n : Int) - 1 - ((i + 1 : Nat) : Int) := by omega
    rw [e2] at st'
    obtain ⟨o, g1, g2, g3⟩ := id st'
    exact ⟨u, rfl, go_of (s := { s with heap := h', toks := tk }) g1 g2 g3 (by decide) ⟨_, H, I1, ru, ⟨rfl, fun ys hy => by rw [I.tuple_inj hy hq]; exact hx⟩, st', fun b hb => (hf b hb).1⟩⟩
  done := by
    intro X hP hw hK hc i pins s σ H E I hf st hg
    subst hP hw hK
    have hg' : i = n := hg
    subst hg'
    obtain ⟨f0, f1, f2, f3, f4, f5⟩ := hf it (by simp)
    have e1 : ((i : Int) - 1 - (i : Int)) = -1 := by omega
    rw [e1] at st
    exact rvt_end (I.ok.hd hc) st fun h' eb => ⟨rfl, I.turned (t' := s.toks) (fun b o hb e => eb b o hb e) f0 f1 f3 f4 f5⟩
  self := fun _ _ _ _ _ st h => rvt_self st h
section
variable {X : Cx} {tg : Expr}
noncomputable def iRev2 (K : PySem.W.Frag) (ta : TA) : TI := fun σ H R => ta σ H fun vs H1 => ∃ a xs, vs = [.ref a] ∧ ((SqL K H1 a xs ∧ R (Itv K a xs.length) H1) ∨ (SqT K H1 a xs ∧ R (Itw K a xs.length) H1))
theorem pi_rev2 {a : Expr} {ta : TA} {p pos : Pos} (hg : Gl X "reversed") (hm : X.mg "reversed" = none) (ha : PA X [a] ta) (hs : starEach [a] X.env = [(false, eval a X.env)]) : PI X tg (.Call (.Name "reversed" p) [a] [] pos) (iRev2 X.K ta) := by
  intro pins s σ H R I h
  refine Call_ (ld_blt I hg hm boot_reversed (PyProof.Rows.callWith_type1 (thn (ha pos pins s σ H _ I h) fun us s1 ⟨vs, H1, I1, r1, q1⟩ => ?_) hs rfl))
  obtain ⟨b, xs, e, hq⟩ := q1
  subst e
  cases r1 with
  | cons r rr =>
    cases rr
    cases r
    rcases hq with ⟨hq, q⟩ | ⟨hq, q⟩
    · obtain ⟨its, rv, pl, hz⟩ := I1.list hq
      refine call_reversed_list pl.isList ?_
      have hl : (its.toArray.size : Int) = (xs.length : Int) := by rw [List.size_toArray, rv.length]
      have it0 : (s1.heap.push (revObj b ((its.toArray.size : Int) - 1))).IsRevIter s1.heap.objs.size b ((xs.length : Int) - 1 - ((0 : Nat) : Int)) := ⟨_, Heap.get?_push_size _ rfl, rfl, by rw [hl]; simp [revObj]⟩
      refine wpAny_pyIter_revIter (s := { s1 with heap := s1.heap.push (revObj b ((its.toArray.size : Int) - 1)) }) it0 ?_
      refine ⟨s1.heap.objs.size, [s1.heap.objs.size], _, _, H1, rfl, I1.kept (t' := s1.toks) fun b' o e => Heap.get?_push_of_some _ e, turn_rev b _ xs.length, it0, fun b' hb => ?_, q⟩
      have e : b' = s1.heap.objs.size := by simpa using hb
      subst e
      exact I1.fpOk (Nat.le_refl _) (I1.hok.fresh (Nat.le_refl _))
    · obtain ⟨its, rv, pl, hz⟩ := I1.tuple hq
      have ln := line63
      have hl : (its.toArray.size : Int) = (xs.length : Int) := by rw [List.size_toArray, rv.length]
      refine call_rvt pl (by have := rv.length; rw [List.size_toArray]; omega) fun tk => ?_
      have it0 : IsRvt (s1.heap.push (rvtObj b ((its.toArray.size : Int) - 1))) s1.heap.objs.size b ((xs.length : Int) - 1 - ((0 : Nat) : Int)) := ⟨_, Heap.get?_push_size _ rfl, rfl, by rw [hl]; simp [rvtObj]⟩
      refine rvt_self (s := { s1 with heap := s1.heap.push (rvtObj b ((its.toArray.size : Int) - 1)), toks := tk }) it0 ?_
      refine ⟨s1.heap.objs.size, [s1.heap.objs.size], _, _, H1, rfl, I1.kept (t' := tk) fun b' o e => Heap.get?_push_of_some _ e, turn_rvt b _ xs.length, it0, fun b' hb => ?_, q⟩
      have e : b' = s1.heap.objs.size := by simpa using hb
      subst e
      exact I1.fpOk (Nat.le_refl _) (I1.hok.fresh (Nat.le_refl _))
end
end L2
set_option Elab.async false
set_option linter.all false
set_option maxRecDepth 100000
namespace L2
open PySem PySem.Spec PyProof.Rows
open HT in
theorem tup_all {prog : Program} {w : World} {A : Around} {E : Value → Shared → Prop} {s : Shared} {t sl : Addr} {items : Array Value} {vl vu : Value} {lo hi : Option Int} {Q : Value → Shared → Prop} (ht : IsTup s.heap t items) (hs : s.heap.IsSliceOf sl vl vu .none) (pl : IsPart vl lo) (pu : IsPart vu hi)
    (h1 : sIx items.size 0 lo = 0) (h2 : sIx items.size items.size hi = items.size) (h : Q (.ref t) s) : wpAny (model prog w) A (getItem (.ref t) (.ref sl)) Q E s := by
  obtain ⟨os, hos, hcs, hds⟩ := id hs
  have hTs : s.TypeIs (.ref sl) "slice" := ⟨os, hos, hcs⟩
  unfold getItem
  try with_reducible refine wpAny_holding ?_
  first | refine wpAny_bind (wpAny_pure ?_) | skip
  refine wpAny_bind (wpAny_sequenceKey ht.typeIs (by decide) ?_)
  refine wpAny_bind (wpAny_callSpecial?_slot (name := Str.ofString "__getitem__") ht.typeIs PyProof.Rows.slot_tuple_getitem (wpAny_call_entry PyProof.Rows.slot_tuple_getitem ht.typeIs entry_tuple_getitem ?_ (args_tuple_getitem _ _)))
  show wpAny _ _ (Builtin.Tuple.tupleItemsOf (.ref t) >>= _) _ _ s
  refine wpAny_bind (tupleItemsOf_ ht ?_)
  refine wpAny_bind (wpAny_typeOf hTs ?_)
  rw [if_pos (by decide)]
  refine wpAny_bind (sliceApplied_gen hs pl pu ?_)
  have hy : (((sIx items.size 0 lo : Nat) : Int) == 0 && (1 : Int) == 1 && (sIx items.size items.size hi - sIx items.size 0 lo) == items.size) = true := by rw [h1, h2]; simp
  show wpAny _ _ (if (((sIx items.size 0 lo : Nat) : Int) == 0 && (1 : Int) == 1 && (sIx items.size items.size hi - sIx items.size 0 lo) == items.size) = true then _ else _) _ _ s
  rw [if_pos hy]
  refine wpAny_bind ?_
  unfold Builtin.Tuple.tupleIsExact
  refine wpAny_bind (wpAny_typeOf ht.typeIs (wpAny_pure ?_))
  rw [if_pos (by decide)]
  refine wpAny_bind (wpAny_rule ?_)
  exact wpAny_pure ⟨_, rfl, wpAny_pure h⟩
noncomputable def rSlW (K : PySem.W.Frag) : V → Option Int → Option Int → Hp → VK → Prop := fun x lo hi H Q => ∃ a xs, x = .ref a ∧ SqT K H a xs ∧ HT.sIx xs.length 0 lo = 0 ∧ HT.sIx xs.length xs.length hi = xs.length ∧ Q (.ref a) H
theorem sl_tupW {X : Cx} : SlR X (rSlW X.K) := by
  intro pins s σ H x v vl vu lo hi sl Q I rx hs pl pu h
  obtain ⟨a, xs, rfl, hx, w1, w2, q⟩ := h
  cases rx
  obtain ⟨its, r, ht, hz⟩ := I.tuple hx
  have hlen : its.toArray.size = xs.length := by rw [List.size_toArray]; exact r.length.symm
  exact ⟨"tuple", _, PyProof.Rows.slot_tuple_getitem.lookup, ht.typeIs, tup_all ht hs pl pu (by rw [hlen]; exact w1) (by rw [hlen]; exact w2) ⟨.ref a, H, I, rfl, q⟩⟩
end L2
set_option Elab.async false
set_option linter.all false
set_option maxRecDepth 100000
namespace L2
open PySem PySem.Spec PyProof.Rows
theorem entry_dict_update_loop : entryFor table "dict.update.loop" = some Builtin.«dict.update.loop» := entryFor_of_tree (by kernel_rfl)
theorem plain_dict_update_loop : plainId "dict.update.loop" = true := by decide +kernel
theorem list_nokeys : typeLookup (.type "list") "keys" = pure none := by rw [typeLookup_type, builtinLookup_eq_fast]; kernel_rfl
section
variable {prog : Program} {w : World} {A : Around} {E : Value → Shared → Prop} {s : Shared}
theorem getAttr?_keys {a : Addr} {xs : Array Value} {k : Nat} {sl : Array (Option Value)} {Q : Option Value → Shared → Prop} (hx : s.heap.get? a = some { cls := .type "list", dict := none, data := .seq xs k, slots := sl }) (hA : A.handled = none)
    (h : ∀ h' tk, (∀ b ob, s.heap.get? b = some ob → h'.get? b = some ob) → Q none { s with heap := h', toks := tk }) :
    wpAny (model prog w) A (getAttr? (.ref a) "keys") Q E s := by
  obtain ⟨hp, g, d, tk, os⟩ := s
  have hT : ∀ tk', (⟨hp, g, d, tk', os⟩ : Shared).TypeIs (.ref a) "list" := fun _ => ⟨_, hx, rfl⟩
  have f1 := sub_AttributeError
  have f3 := F.slot_list_getattribute.lookup
  have f4 := F.slot_list_getattribute.bind (.ref a)
  have f5 := am_list_getattr_none
  have hname : (["__module__", "__name__", "__qualname__", "__doc__", "__annotations__"] : List Str).contains "keys" = false := by decide +kernel
  have hsz : (Str.ofString "keys").length + 100 ≤ sizeLine := by decide +kernel
  unfold getAttr? getAttrBy? getAttrBy
  repeat (any_goals (first | assumption | exact hT _ | ((with_reducible show wpAny _ _ (call (Value.builtin "list.__getattribute__") _ _) _ _ _); refine call_meets F.slot_list_getattribute (hT _) am_entry_list_getattribute (F.args_list_getattribute_2 _ _) (meets_getattribute_miss_list a xs k sl "keys" _ list_nokeys hname hsz) ⟨hx, hA, fun h' tk' e hx' => ?_⟩) | wp_step))
  obtain ⟨t', u', he⟩ := hx'.there
  show wpAny _ _ (getattributeRaised _ _ _ _ _ _ _) _ _ _
  unfold getattributeRaised
  repeat (any_goals (first | assumption | wp_step))
  exact h _ _ hx'.keeps
end
section
variable {prog : Program} {w : World} {A : Around} {R : Result → Shared → Prop} {I : Addr} {fp wr : List Addr} {G : Array GenState → Array GenState → Prop} {n : Nat} {P : Nat → Value → Prop} {St : Nat → Shared → Prop} {K : Type} [DecidableEq K] {knd : KeyKind prog w K}
noncomputable def Two (h : Heap) (a : Addr) (x y : Value) : Prop := ∃ o n, h.get? a = some o ∧ o.cls = .type "tuple" ∧ o.data = .seq #[x, y] n
theorem merged_len (kvs : List (K × Value)) : ∀ (more : List (K × Value)), (merged kvs more).length ≤ kvs.length + more.length := by
  intro more
  induction more generalizing kvs with
  | nil => exact Nat.le_refl _
  | cons p r ih =>
    have h1 := ih (stored kvs p.1 p.2)
    have h2 : (stored kvs p.1 p.2).length ≤ kvs.length + 1 := by
      unfold stored
      split
      · rw [List.length_map]; exact Nat.le_succ _
      · rw [List.length_append]; exact Nat.le_refl _
    show (merged (stored kvs p.1 p.2) r).length ≤ _
    rw [List.length_cons]; omega
theorem dict_loop (W : WalksS prog w A.in1 I fp wr G n P St) (D : Addr) (hDf : D ∉ fp) (more : List (K × Value)) (hn : n ≤ 1000000) (hml : more.length = n) (s₀ : Shared)
    (hval : ∀ (i : Nat) (v : Value), P i v → ∃ a kv vv k, v = .ref a ∧ a ∉ D :: wr ∧ Two s₀.heap a kv vv ∧ more[i]? = some (k, vv) ∧ knd.is k kv = true) :
    ∀ (k i : Nat) (s : Shared) (ti : Tok), n - i = k → i ≤ n → St i s → Moved (D :: wr) G s₀ s → s.heap.DictOf knd D (merged [] (more.take i)) →
      (∀ s', Moved (D :: wr) G s₀ s' → s'.heap.DictOf knd D (merged [] more) → R (.ok (.ret .none)) s') →
      codeAny (model prog w) A (.builtin "dict.update.loop" ⟨[.ref D, .ref I, .int (i : Nat) ti, .none], []⟩) R s := by
  have hDw : D ∉ wr := fun h => hDf (W.sub _ h)
  have hsub : ∀ b ∈ wr, b ∈ D :: wr := fun b hb => List.mem_cons_of_mem _ hb
  intro k
  induction k with
  | zero =>
    intro i s ti hk hi hst mv hS hR
    have hin : i = n := by omega
    subst hin
    refine codeAny_builtin entry_dict_update_loop ?_
    rw [Around.under_plainId plain_dict_update_loop _]
    show wpAny _ A.in1 (pyNext (.ref I) >>= _) _ _ s
    refine wpAny_bind (W.done s _ _ hst fun s' hm => ?_)
    show wpAny _ A.in1 (Builtin.Dict.addKeywords D [] >>= fun _ => ret Value.none) _ _ s'
    refine wpAny_bind (wpAny_pure (wpAny_pure (hR s' (mv.trans W.gtrans (hm.mono hsub)) ?_)))
    rw [← hml, List.take_length] at hS
    obtain ⟨o, es, ep, ho, r⟩ := hS
    exact ⟨o, es, ep, hm.heap D _ hDw ho, r⟩
  | succ k ih =>
    intro i s ti hk hi hst mv hS hR
    have hlt : i < n := by omega
    refine codeAny_builtin entry_dict_update_loop ?_
    rw [Around.under_plainId plain_dict_update_loop _]
    show wpAny _ A.in1 (pyNext (.ref I) >>= _) _ _ s
    refine wpAny_bind (W.item i s _ _ hlt hst fun v s' hP hst' hm => ?_)
    obtain ⟨a, kv, vv, kk, rfl, ha, ⟨o, n', ho, hoc, hod⟩, hmi, hkk⟩ := hval i v hP
    have mv' := mv.trans W.gtrans (hm.mono hsub)
    have ho' := mv'.heap a o ha ho
    have hS' : s'.heap.DictOf knd D (merged [] (more.take i)) := by
      obtain ⟨o, es, ep, ho, r⟩ := hS
      exact ⟨o, es, ep, hm.heap D _ hDw ho, r⟩
    have hT : s'.TypeIs (.ref a) "tuple" := ⟨_, ho', hoc⟩
    refine wpAny_bind (wpAny_holding ?_)
    have pr : ∀ {Q : List Value → Shared → Prop} {E : Value → Shared → Prop}, Q [kv, vv] s' → wpAny (model prog w) A.in1 (Builtin.Dict.pairItems (.ref a)) Q E s' := fun {Q E} q => by
      unfold Builtin.Dict.pairItems
      refine wpAny_bind (wpAny_typeOf hT ?_)
      rw [if_pos (by decide)]
      exact wpAny_bind (wpAny_seqItems ho' hod (wpAny_pure q))
    refine wpAny_bind (wpAny_tryCatch (pr ?_))
    show wpAny _ A.in1 (holding [kv, vv] (dictSet D kv vv)) _ _ s'
    refine wpAny_holding (wpAny_dictSet_pairs hkk hS' (fun h' hd' hsb => ?_) ?_)
    · refine wpAny_pure ⟨plainId_quiet plain_dict_update_loop _, ?_⟩
      have e : ((i : Int) + 1) = ((i + 1 : Nat) : Int) := rfl
      show codeAny _ A (.builtin "dict.update.loop" ⟨[.ref D, .ref I, .int ((i : Int) + 1) 0, .none], []⟩) R _
      rw [e]
      refine ih (i + 1) _ 0 (by omega) hlt (W.frame _ s' _ _ hst' (Nat.le_succ _) fun b hb o e => ?_) (mv'.then_heap (Nat.le_succ _) fun b o hb e => ?_) ?_ hR
      · exact (hsb.2 b (fun h : b = D => hDf (h ▸ hb))).trans e
      · exact (hsb.2 b (fun h : b = D => hb (h ▸ List.mem_cons_self))).trans e
      · rw [merged_take_succ _ _ _ _ hmi]; exact hd'
    · have h1 := merged_len ([] : List (K × Value)) (more.take i)
      rw [List.length_nil, List.length_take] at h1
      rw [sizeLine_eq]; omega
end
section
variable {prog : Program} {w : World} {A : Around} {E : Value → Shared → Prop} {s : Shared} {K : Type} [DecidableEq K] {knd : KeyKind prog w K}
theorem call_dict_pairs {l : Addr} {items : Array Value} {c : Nat} {sl : Array (Option Value)} {more : List (K × Value)} {Q : Value → Shared → Prop} (hh : A.handled = none) (hl : s.heap.get? l = some { cls := .type "list", dict := none, data := .seq items c, slots := sl }) (hn : items.size ≤ 1000000) (hml : more.length = items.size)
    (hval : ∀ (i : Nat) (v : Value), items[i]? = some v → ∃ a kv vv k, v = .ref a ∧ Two s.heap a kv vv ∧ more[i]? = some (k, vv) ∧ knd.is k kv = true)
    (h : ∀ h' tk, h'.DictOf knd s.heap.objs.size (merged [] more) → (∀ b o, s.heap.get? b = some o → h'.get? b = some o) → Q (.ref s.heap.objs.size) { s with heap := h', toks := tk }) :
    wpAny (model prog w) A (call (.type "dict") [.ref l]) Q E s := by
  refine callType_codes (Q₁ := fun obj s₁ => obj = .ref s.heap.objs.size ∧ s₁ = { s with heap := s.heap.push { cls := .type "dict", data := .dict #[] } }) F.kt_called_dict (F.kt_typeCall_dict_1 _) F.entry_dict_init (kt_code_dict_new _ ⟨rfl, rfl⟩) ?_
  rintro obj s₁ ⟨rfl, rfl⟩
  have hnew : (s.heap.push { cls := .type "dict", data := .dict #[] }).DictOf knd s.heap.objs.size [] := Heap.DictOf.new s.heap
  have hl1 : (s.heap.push { cls := .type "dict", data := .dict #[] }).get? l = some { cls := .type "list", dict := none, data := .seq items c, slots := sl } := Heap.get?_push_of_some _ hl
  have hT : Shared.TypeIs { s with heap := s.heap.push { cls := .type "dict", data := .dict #[] } } (.ref l) "list" := ⟨_, hl1, rfl⟩
  refine ⟨hnew.typeIs, F.args_dict_init_2 _ _, ?_⟩
  unfold Builtin.«dict.__init__»
  refine wpAny_bind ?_
  unfold Builtin.Dict.selfAndRest
  refine wpAny_bind (wpAny_notOrdered_dict hnew.typeIs ?_)
  show wpAny _ _ (pure (s.heap.objs.size, [Value.ref l])) _ _ _
  refine wpAny_pure ?_
  show wpAny _ _ (Builtin.Dict.updateFrom "dict.__init__" s.heap.objs.size (.ref l) [] .none) _ _ _
  unfold Builtin.Dict.updateFrom
  refine wpAny_bind (wpAny_typeOf hT ?_)
  rw [if_pos (by decide)]
  refine wpAny_bind (getAttr?_keys hl1 hh fun h1 t1 k1 => ?_)
  rw [if_pos (by decide)]
  refine wpAny_bind (wpAny_rule ?_)
  have hl2 : h1.IsList l items := ⟨_, k1 _ _ hl1, rfl, c, rfl⟩
  refine wpAny_bind (wpAny_pyIter_list hl2 ?_)
  have hlt : l < s.heap.objs.size := Heap.lt_size hl
  have sz1 : s.heap.objs.size < h1.objs.size := by
    obtain ⟨o, _, _, e, _⟩ := hnew
    exact Heap.lt_size (k1 _ _ e)
  have hne : l ≠ h1.objs.size := Nat.ne_of_lt (Nat.lt_trans hlt sz1)
  have old : ∀ b o, s.heap.get? b = some o → h1.get? b = some o := fun b o e => k1 b o (Heap.get?_push_of_some _ e)
  refine wpAny_pure ⟨plainId_quiet plain_dict_update_loop _, ?_⟩
  have hDf : s.heap.objs.size ∉ [h1.objs.size, l] := by
    simp only [List.mem_cons, List.mem_singleton, List.not_mem_nil, or_false, not_or]
    exact ⟨Nat.ne_of_lt sz1, Nat.ne_of_gt hlt⟩
  refine dict_loop (knd := knd) ((Walks.list (prog := prog) (w := w) (A := A.in1.in1) hh h1.objs.size l hne items).toS) s.heap.objs.size hDf more hn hml _ (fun i v hv => ?_) items.size 0 _ 0 (by omega) (Nat.zero_le _) ⟨⟨_, Heap.get?_push_size _ rfl, rfl, rfl⟩, hl2.push _⟩ (Moved.refl fun _ => rfl) ?_ fun s' mv hd => ?_
  · obtain ⟨a, kv, vv, k, e, ⟨o, n', e1, e2, e3⟩, e4, e5⟩ := hval i v hv
    have hla := Heap.lt_size e1
    refine ⟨a, kv, vv, k, e, ?_, ⟨o, n', Heap.get?_push_of_some _ (old a o e1), e2, e3⟩, e4, e5⟩
    simp only [List.mem_cons, List.mem_singleton, List.not_mem_nil, or_false, not_or]
    exact ⟨Nat.ne_of_lt hla, Nat.ne_of_lt (Nat.lt_trans hla sz1)⟩
  · obtain ⟨o, es, ep, ho, r⟩ := hnew
    exact ⟨o, es, ep, Heap.get?_push_of_some _ (k1 _ _ ho), r⟩
  · obtain ⟨h', g', d', tk', os'⟩ := s'
    have eg : g' = s.gens := mv.gens
    have ed : d' = s.drawn := mv.drawn
    have eo : os' = s.os := mv.os
    subst eg; subst ed; subst eo
    refine ⟨rfl, h h' tk' hd fun b o e => mv.heap b o ?_ (Heap.get?_push_of_some _ (old b o e))⟩
    have hb := Heap.lt_size e
    simp only [List.mem_cons, List.mem_singleton, List.not_mem_nil, or_false, not_or]
    exact ⟨Nat.ne_of_lt hb, Nat.ne_of_lt (Nat.lt_trans hb sz1)⟩
end
section
variable {X : Cx}
theorem pairs_in {pins : List (Addr × Obj)} {σ : St} {H : Hp} {s : Shared} (I : Inv X pins σ H s) : ∀ {ys : List V} {kvs : List (Key × V)} {its : List Value}, Paired (fun (x : V) (kv : Key × V) => ∃ a, x = .ref a ∧ SqT X.K H a [kV kv.1, kv.2]) ys kvs → Vals ys its →
    ∃ more : List (Key × Value), KV kvs more ∧ more.length = its.length ∧ ∀ (i : Nat) (v : Value), its[i]? = some v → ∃ a kv vv k, v = .ref a ∧ Two s.heap a kv vv ∧ more[i]? = some (k, vv) ∧ (mixKind X.prog X.w).is k kv = true
  | _, _, _, .nil, .nil => ⟨[], .nil, rfl, fun i v h => by simp at h⟩
  | _, _, _, @Paired.cons _ _ _ x kv ys kvs h t, .cons (b := u) (l₂ := us) r rr => by
    obtain ⟨more, m1, m2, m3⟩ := pairs_in I t rr
    obtain ⟨a, rfl, q⟩ := h
    have ru : u = .ref a := r
    subst ru
    obtain ⟨its2, r2, ⟨o, e1, e2, n, e3⟩, _⟩ := I.tuple q
    cases r2 with
    | @cons _ kvv _ _ ra rt =>
      cases rt with
      | @cons _ vv _ _ rb rn =>
        cases rn
        refine ⟨(kv.1, vv) :: more, .cons ⟨rfl, rb⟩ m1, by rw [List.length_cons, List.length_cons, m2], fun i v hv => ?_⟩
        cases i with
        | zero =>
          have : v = .ref a := by simpa using hv.symm
          subst this
          exact ⟨a, kvv, vv, kv.1, rfl, ⟨o, n, e1, e2, e3⟩, rfl, kV_is ra⟩
        | succ i => exact m3 i v (by simpa using hv)
noncomputable def rDP (K : PySem.W.Frag) : List V → Hp → VK → Prop := fun xs H Q => ∃ p ys kvs, xs = [.ref p] ∧ SqL K H p ys ∧ ys.length ≤ 1000000 ∧ Paired (fun (x : V) (kv : Key × V) => ∃ a, x = .ref a ∧ SqT K H a [kV kv.1, kv.2]) ys kvs ∧ ∀ l, H l = none → Q (.ref l) (upd H l (.dK (mergeK [] kvs)))
theorem call_dictP (hc : X.calm = true) : CallR X (.type "dict") (rDP X.K) := by
  rintro pins s σ H xs us Q I r ⟨p, ys, kvs, rfl, hl, hn, hp, q⟩
  cases r with
  | cons r rr =>
    cases rr
    cases r
    obtain ⟨its, rv, ⟨o, n, e1, e2, e3, e4⟩, hz⟩ := I.list hl
    obtain ⟨c, dct, dat, sl⟩ := o
    simp only at e2 e3 e4
    subst e2 e3 e4
    obtain ⟨more, m1, m2, m3⟩ := pairs_in I hp rv
    have hle := rv.length
    have hkl : kvs.length = ys.length := hp.length.symm
    refine call_dict_pairs (knd := mixKind X.prog X.w) (more := more) (I.ok.hd hc) e1 (by simp only [List.size_toArray]; omega) (by simp only [List.size_toArray]; exact m2) (fun i v hv => m3 i v (by simpa using hv)) fun h' tk dd old => ?_
    have hz : (mergeK [] kvs).length ≤ sizeLine := by
      have h1 := length_mergeK kvs []
      rw [List.length_nil] at h1
      rw [sizeLine_eq]; omega
    exact ⟨.ref _, _, I.laid (t' := tk) old (Nat.le_refl _) (dk_new hz (beq_eq_false_iff_ne.mpr (Ne.symm (Nat.ne_of_lt I.big))) (m1.merge .nil) dd), rfl, q _ (I.hok.fresh (Nat.le_refl _))⟩
end
section
variable {prog : Program} {w : World} {A : Around} {E : Value → Shared → Prop} {s : Shared}
theorem draw_list {it t : Addr} {items : Array Value} (hne : t ≠ it) : ∀ (n i : Nat) (s : Shared) (Q : List Value → Shared → Prop), s.heap.IsListIter it t i → s.heap.IsList t items → i + n ≤ items.size →
    (∀ h', h'.IsListIter it t (i + n) → Heap.SameBut it s.heap h' → Q ((items.toList.drop i).take n) { s with heap := h' }) → wpAny (model prog w) A (draw (.ref it) n) Q E s
  | 0, i, s, Q, hit, _, _, hQ => by
    show wpAny _ _ (pure []) Q E s
    exact wpAny_pure (by simpa using hQ s.heap hit (Heap.SameBut.refl ..))
  | n + 1, i, s, Q, hit, ht, hle, hQ => by
    have hlt : i < items.size := by omega
    show wpAny _ _ (pyNext (.ref it) >>= _) Q E s
    refine wpAny_bind (wpAny_pyNext_list_item hit ht (x := items[i]) (by simp [hlt]) fun h₁ hit₁ hs₁ => ?_)
    refine wpAny_bind (wpAny_holding (draw_list hne n (i + 1) _ _ hit₁ (ht.extBut hs₁.extBut hne) (by omega) fun h₂ hit₂ hs₂ => wpAny_pure ?_))
    have hd : items.toList.drop i = items[i] :: items.toList.drop (i + 1) := by simp [List.drop_eq_getElem_cons, hlt]
    have := hQ h₂ (by rw [show i + (n + 1) = i + 1 + n by omega]; exact hit₂) (hs₁.trans hs₂)
    rw [hd, List.take_succ_cons] at this
    exact this
theorem unpackItems_list {t : Addr} {items : Array Value} {Q : List Value → Shared → Prop} (hh : A.handled = none) (ht : s.heap.IsList t items)
    (hQ : ∀ h', Heap.ExtBut s.heap.objs.size s.heap h' → Q items.toList { s with heap := h' }) : wpAny (model prog w) A (unpackItems (.ref t) items.size none) Q E s := by
  have hlt : t ≠ s.heap.objs.size := by obtain ⟨o, ho, _⟩ := ht; exact Nat.ne_of_lt (Heap.lt_size ho)
  unfold unpackItems
  refine wpAny_bind ?_
  unfold notIterableAtAll
  refine wpAny_bind (wpAny_specialOf ht.typeIs slot_list_iter.lookup ?_)
  refine wpAny_pure ?_
  simp only [Bool.false_eq_true, if_false]
  refine wpAny_bind (wpAny_holding (wpAny_pyIter_list ht ?_))
  refine wpAny_bind (wpAny_holding (draw_list hlt items.size 0 _ _ ⟨_, Heap.get?_push_size _ rfl, rfl, rfl⟩ (ht.push _) (by omega) fun h₁ hit₁ hs₁ => ?_))
  have hall : List.take items.size (List.drop 0 items.toList) = items.toList := by
    rw [List.drop_zero]; exact List.take_of_length_le (by simp)
  rw [hall]
  rw [if_neg (by simp)]
  have ht₁ : h₁.IsList t items := (ht.push _).extBut hs₁.extBut hlt
  refine wpAny_bind (wpAny_holding (wpAny_pyNext_list_end hh hit₁ ht₁ (by simp) fun h₂ he₂ => ?_))
  simp only [Option.isSome_none, Bool.false_eq_true, if_false]
  exact wpAny_pure (hQ h₂ fun b o hb e => he₂ b o hb (hs₁.extBut b o hb (Heap.get?_push_of_some _ e)))
theorem assign_Tuple_list {env : Env} {elts : List Expr} {x1} {pos : Pos} {t : Addr} {items : Array Value} {Q : Unit → Shared → Prop} (hh : A.handled = none) (ht : s.heap.IsList t items)
    (hn : (assignEach elts env).length = items.size) (hstar : (assignEach elts env).findIdx? (·.1) = none)
    (h : ∀ h', Heap.ExtBut s.heap.objs.size s.heap h' → wpAny (model prog w) A (assignInOrder ((assignEach elts env).map (·.2)) items.toList) Q E { s with heap := h' }) :
    wpAny (model prog w) A (assign (.Tuple elts x1 pos) env (.ref t)) Q E s := by
  rw [arm_assign_Tuple]
  refine wpAny_bind (wpAny_standAt ?_)
  unfold unpack
  rw [hn, hstar]
  exact wpAny_bind (wpAny_holding (unpackItems_list hh ht h))
end
section
variable {X : Cx} {pos : Pos}
noncomputable def gTL (K : PySem.W.Frag) (n : Nat) (t : TGs) : TG := fun v σ H Q => ∃ a xs, v = .ref a ∧ (SqT K H a xs ∨ SqL K H a xs) ∧ xs.length = n ∧ t xs σ H Q
theorem pg_tupL {es : List Expr} {k : Nat} {t : TGs} {n : Nat} (hc : X.calm = true) (h : PGs X es t)
    (hn : (assignEach es X.env).length = n := by rfl) (hst : (assignEach es X.env).findIdx? (·.1) = none := by rfl) : PG X (.Tuple es k pos) (gTL X.K n t) := by
  intro pins s σ H v u Q I r hw
  obtain ⟨a, xs, e1, hq, hl, hw⟩ := hw
  subst e1
  rcases hq with hq | hq
  · exact pg_tup hc h hn hst pins s σ H _ u Q I r ⟨a, xs, rfl, hq, hl, hw⟩
  cases r
  obtain ⟨its, rv, ⟨o, c, e1, e2, e3, e4⟩, hz⟩ := I.list hq
  refine assign_Tuple_list (I.ok.hd hc) (items := its.toArray) ⟨o, e1, e2, c, e4⟩ (by simp [hn, ← hl, rv.length]) hst fun h' hx => ?_
  have I1 : Inv X pins σ H { s with heap := h' } := I.kept (t' := s.toks) fun b o e => hx b o (Nat.ne_of_lt (Heap.lt_size e)) e
  exact h pins _ σ H xs _ Q I1 (by simpa using rv) hw
end
end L2
set_option Elab.async false
set_option linter.all false
set_option maxRecDepth 100000
namespace PI
open PySem L2
inductive D where
  | non | bl (b : Bool) | int (i : Int) | str (x : Str) | tup (xs : List D) | loc (n : Nat) | fl (xs : List D)
inductive O where
  | lst (xs : List D) | dK (kvs : List (Key × D))
noncomputable abbrev Hh := List O
noncomputable abbrev En := List (Option D)
inductive Res (α : Type) where
  | ok (a : α) (h : Hh) | exc (c : Nat) (h : Hh) | no
noncomputable def Res.bind {α β : Type} (r : Res α) (f : α → Hh → Res β) : Res β := match r with
  | .ok a h => f a h
  | .exc c h => .exc c h
  | .no => .no
@[simp] theorem bind_ok {α β : Type} {a : α} {h : Hh} {f : α → Hh → Res β} : (Res.ok a h).bind f = f a h := rfl
@[simp] theorem bind_exc {α β : Type} {c : Nat} {h : Hh} {f : α → Hh → Res β} : (Res.exc c h : Res α).bind f = .exc c h := rfl
@[simp] theorem bind_no {α β : Type} {f : α → Hh → Res β} : (Res.no : Res α).bind f = .no := rfl
inductive RS where
  | nx (ρ : En) (h : Hh) | rt (d : D) (h : Hh) | bk (ρ : En) (h : Hh) | ct (ρ : En) (h : Hh) | ex (c : Nat) (ρ : En) (h : Hh) | no
inductive Tg where
  | one (i : Nat) (p : Pos) | tup (is : List (Nat × Pos)) (p : Pos)
inductive M0 where
  | pop
inductive M1 where
  | append | extend
inductive F1 where
  | str | int | all | abs | any
noncomputable def F1.name : F1 → Str
  | .str => "str" | .int => "int" | .all => "all" | .abs => "abs" | .any => "any"
inductive Cv where
  | tup (xs : List Str) | int (i : Int)
  deriving DecidableEq
inductive Cn where
  | int (i : Int) | str (x : Str) | tup (xs : List Str) | dic (kvs : List (Str × Cv))
  deriving DecidableEq
mutual
inductive E where
  | non (p : Pos) | bl (b : Bool) (p : Pos) | int (i : Int) (p : Pos) | str (x : Str) (p : Pos)
  | var (i : Nat) (p : Pos)
  | bin (op : Operator) (a b : E) (p : Pos)
  | un (op : UnaryOp) (a : E) (p : Pos)
  | cmp (op : CmpOp) (a b : E) (p : Pos)
  | and (a b : E) (r : Es) (p : Pos)
  | or (a b : E) (r : Es) (p : Pos)
  | ite (c a b : E) (p : Pos)
  | call (f : Nat) (a : E) (r : Es) (p0 p : Pos)
  | len (a : E) (p0 p : Pos)
  | isi (T : Nat) (a : E) (p0 p1 p : Pos)
  | sub (a i : E) (p : Pos)
  | tup (es : Es) (p : Pos)
  | ofL (l : L)
  | tupE (e : E) (p0 p : Pos)
  | dicP (e : E) (p0 p : Pos)
  | dispD (ks : List (Str × Pos)) (vs : Es) (p : Pos)
  | cut (a : E) (lo hi : Eo) (p2 p : Pos)
  | m0 (m : M0) (o : E) (p1 p : Pos)
  | m1 (m : M1) (o a : E) (p1 p : Pos)
  | max2 (a b : E) (p0 p : Pos)
  | c1 (f : F1) (a : E) (p0 p : Pos)
  | listR (e : E) (p0 p1 p2 p : Pos)
  | cmpN (neg : Bool) (a : E) (p1 p : Pos)
  | join (o a : E) (p1 p : Pos)
  | gsub (x : Str) (kvs : List (Str × Cv)) (i : E) (p0 p : Pos)
inductive Es where
  | nil | cons (e : E) (r : Es)
inductive Eo where
  | none | some (e : E)
inductive L where
  | disp (es : Es) (p : Pos)
  | comp (elt : E) (t : Tg) (it : I) (c : Es) (NC : List Str) (cap : List (Option Nat)) (sc : Scope) (p : Pos)
inductive I where
  | seq (e : E) | lst (l : L) | rng (a : E) (p0 p : Pos) | rng2 (a b : E) (p0 p : Pos) | rev (e : E) (p0 p : Pos)
end
mutual
inductive S where
  | set (i : Nat) (e : E) (p1 p : Pos)
  | ret (e : E) (p : Pos)
  | iff (c : E) (a b : Ss) (p : Pos)
  | ex (e : E) (p : Pos)
  | put (o i v : E) (p1 p : Pos)
  | forr (t : Tg) (it : I) (b : Ss) (p : Pos)
  | whil (c : E) (b : Ss) (p : Pos)
  | pass (p : Pos) | brk (p : Pos) | cnt (p : Pos)
  | setT (is : List (Nat × Pos)) (e : E) (p1 p : Pos)
inductive Ss where
  | nil | cons (s : S) (r : Ss)
end
structure Nm where
  N : List Str
  F : List Str
  G : List (Str × Cn) := []
noncomputable def tyName : Nat → Str
  | 0 => "int" | 1 => "bool" | 2 => "str" | 3 => "tuple" | _ => "list"
noncomputable def tyStr : Nat → String
  | 0 => "int" | 1 => "bool" | 2 => "str" | 3 => "tuple" | _ => "list"
noncomputable def Tg.py (N : List Str) : Tg → Expr
  | .one i p => .Name (N.getD i "") p
  | .tup is p => .Tuple (is.map fun q => .Name (N.getD q.1 "") q.2) 0 p
mutual
noncomputable def E.py (n : Nm) : E → Expr
  | .non p => .Constant .none 0 p
  | .bl b p => .Constant (.bool b) 0 p
  | .int i p => .Constant (.int i) 0 p
  | .str x p => .Constant (.str x) 0 p
  | .var i p => .Name (n.N.getD i "") p
  | .bin op a b p => .BinOp (a.py n) op (b.py n) p
  | .un op a p => .UnaryOp op (a.py n) p
  | .cmp op a b p => .Compare (a.py n) [op] [b.py n] p
  | .and a b r p => .BoolOp .And (a.py n :: b.py n :: r.py n) p
  | .or a b r p => .BoolOp .Or (a.py n :: b.py n :: r.py n) p
  | .ite c a b p => .IfExp (c.py n) (a.py n) (b.py n) p
  | .call f a r p0 p => .Call (.Name (n.F.getD f "") p0) (a.py n :: r.py n) [] p
  | .len a p0 p => .Call (.Name "len" p0) [a.py n] [] p
  | .isi T a p0 p1 p => .Call (.Name "isinstance" p0) [a.py n, .Name (tyName T) p1] [] p
  | .sub a i p => .Subscript (a.py n) (i.py n) p
  | .tup es p => .Tuple (es.py n) 0 p
  | .ofL l => l.py n
  | .tupE e p0 p => .Call (.Name "tuple" p0) [e.py n] [] p
  | .dicP e p0 p => .Call (.Name "dict" p0) [e.py n] [] p
  | .dispD ks vs p => .Dict (ks.map fun q => some (.Constant (.str q.1) 0 q.2)) (vs.py n) p
  | .cut a lo hi p2 p => .Subscript (a.py n) (.Slice (lo.py n) (hi.py n) .none p2) p
  | .m0 m o p1 p => .Call (.Attribute (o.py n) (match m with | .pop => "pop") p1) [] [] p
  | .m1 m o a p1 p => .Call (.Attribute (o.py n) (match m with | .append => "append" | .extend => "extend") p1) [a.py n] [] p
  | .max2 a b p0 p => .Call (.Name "max" p0) [a.py n, b.py n] [] p
  | .c1 f a p0 p => .Call (.Name f.name p0) [a.py n] [] p
  | .cmpN neg a p1 p => .Compare (a.py n) [if neg then .NotEq else .Eq] [.List [] p1] p
  | .listR e p0 p1 p2 p => .Call (.Name "list" p0) [.Call (.Name "reversed" p1) [e.py n] [] p2] [] p
  | .join o a p1 p => .Call (.Attribute (o.py n) "join" p1) [a.py n] [] p
  | .gsub x _ i p0 p => .Subscript (.Name x p0) (i.py n) p
noncomputable def Eo.py (n : Nm) : Eo → Option Expr
  | .none => .none
  | .some e => .some (e.py n)
noncomputable def L.py (n : Nm) : L → Expr
  | .disp es p => .List (es.py n) p
  | .comp elt t it c NC cap sc p => .ListComp (elt.py ⟨NC, n.F, n.G⟩) [⟨t.py NC, it.py n, c.py ⟨NC, n.F, n.G⟩, 0⟩] sc p
noncomputable def I.py (n : Nm) : I → Expr
  | .seq e => e.py n
  | .lst l => l.py n
  | .rng a p0 p => .Call (.Name "range" p0) [a.py n] [] p
  | .rng2 a b p0 p => .Call (.Name "range" p0) [a.py n, b.py n] [] p
  | .rev e p0 p => .Call (.Name "reversed" p0) [e.py n] [] p
noncomputable def Es.py (n : Nm) : Es → List Expr
  | .nil => []
  | .cons e r => e.py n :: r.py n
end
mutual
noncomputable def S.py (n : Nm) : S → Stmt
  | .set i e p1 p => .Assign [.Name (n.N.getD i "") p1] (e.py n) p
  | .ret e p => .Return (some (e.py n)) p
  | .iff c a b p => .If (c.py n) (a.py n) (b.py n) p
  | .ex e p => .Expr (e.py n) p
  | .put o i v p1 p => .Assign [.Subscript (o.py n) (i.py n) p1] (v.py n) p
  | .forr t it b p => .For (t.py n.N) (it.py n) (b.py n) [] p
  | .whil c b p => .While (c.py n) (b.py n) [] p
  | .pass p => .Pass p
  | .brk p => .Break p
  | .cnt p => .Continue p
  | .setT is e p1 p => .Assign [(Tg.tup is p1).py n.N] (e.py n) p
noncomputable def Ss.py (n : Nm) : Ss → List Stmt
  | .nil => []
  | .cons s r => s.py n :: r.py n
end
mutual
noncomputable def D.pd (h : Hh) : D → Option PyData
  | .non => some .none
  | .bl b => some (.bool b)
  | .int i => some (.int i)
  | .str x => some (.str x)
  | .tup xs => (D.pds h xs).map .tuple
  | .loc _ => none
  | .fl xs => (D.pds h xs).map .list
noncomputable def D.pds (h : Hh) : List D → Option (List PyData)
  | [] => some []
  | x :: r => match D.pd h x, D.pds h r with
    | some a, some b => some (a :: b)
    | _, _ => none
end
noncomputable def keyD : D → Option Key
  | .int i => some (.inl i)
  | .str x => some (.inr x)
  | _ => none
noncomputable def valD (kvs : List (Key × D)) (k : Key) : Option D := (kvs.find? fun kv => decide (kv.1 = k)).map (·.2)
noncomputable def rd (h : Hh) (n : Nat) : Option (List D) := match h[n]? with
  | some (.lst xs) => some xs
  | _ => none
noncomputable def pdT (h : Hh) : D → Option PyData
  | .loc n => (rd h n).bind fun xs => (D.pds h xs).map .list
  | d => D.pd h d
noncomputable def isI (h : Hh) : D → Nat → Option Bool
  | .non, _ => some false
  | .bl _, T => some (T == 0 || T == 1)
  | .int _, T => some (T == 0)
  | .str _, T => some (T == 2)
  | .tup _, T => some (T == 3)
  | .loc n, T => (rd h n).map fun _ => T == 4
  | .fl _, T => some (T == 4)
noncomputable def fits (i : Int) : Bool := decide (Builtin.Int.intBits i ≤ 2 ^ 20)
noncomputable def eqR (neg : Bool) (u v : Option PyData) (h : Hh) : Res D := match u, v with
  | some u, some v => if u.canLay0 = true ∧ v.canLay0 = true ∧ u.depth ≤ 60 then .ok (.bl (if neg then !PyData.eqv u v else PyData.eqv u v)) h else .no
  | _, _ => .no
noncomputable def binD (op : Operator) (a b : D) (h : Hh) : Res D := match op, a, b with
  | .Add, .int i, .int j => .ok (.int (i + j)) h
  | .Sub, .int i, .int j => .ok (.int (i - j)) h
  | .Mult, .int i, .int j => if fits i = true ∧ fits j = true then .ok (.int (i * j)) h else .no
  | .FloorDiv, .int i, .int j => if 0 < j ∧ j < 1073741824 then .ok (.int (i / j)) h else .no
  | .Mod, .int i, .int j => if 0 < j then .ok (.int (i % j)) h else .no
  | .Pow, .int i, .int j => if 0 ≤ j ∧ j ≤ 1000000 ∧ i.natAbs < 2 ^ 64 then .ok (.int (i ^ j.toNat)) h else .no
  | .LShift, .int i, .int j => if fits i = true ∧ 0 ≤ j ∧ j ≤ 1000000 then .ok (.int (i * 2 ^ j.toNat)) h else .no
  | .RShift, .int i, .int j => if 0 ≤ j then .ok (.int (i / 2 ^ j.toNat)) h else .no
  | .BitAnd, .int i, .int j => .ok (.int (Builtin.bitAnd i j)) h
  | .BitOr, .int i, .int j => .ok (.int (Builtin.bitOr i j)) h
  | .Add, .str x, .str y => if x.length + y.length ≤ 1000000 then .ok (.str (x ++ y)) h else .no
  | .Mult, .str x, .int j => if 0 ≤ j ∧ j ≤ 1000 ∧ x.length ≤ 1000 then .ok (.str (Txt.mul x j)) h else .no
  | .Add, .loc n, .loc m => match h[n]?, h[m]? with
    | some (.lst xs), some (.lst ys) => if xs.length + ys.length ≤ 1000000 then .ok (.loc h.length) (h ++ [.lst (xs ++ ys)]) else .no
    | _, _ => .no
  | .Add, .tup xs, .tup ys => if xs.length + ys.length ≤ 1000000 then .ok (.tup (xs ++ ys)) h else .no
  | .Mult, .loc n, .int j => match h[n]? with
    | some (.lst xs) => if 0 ≤ j ∧ j ≤ 1000 ∧ xs.length ≤ 1000 then .ok (.loc h.length) (h ++ [.lst (List.replicate j.toNat xs).flatten]) else .no
    | _ => .no
  | _, _, _ => .no
noncomputable def vOf : D → V
  | .bl b => .bl b
  | .int i => .int i
  | .str x => .str x
  | _ => .non
noncomputable def flatD : D → Bool
  | .non | .bl _ | .int _ | .str _ => true
  | _ => false
noncomputable def ngB (neg b : Bool) : Bool := if neg then !b else b
@[simp] theorem ngB_f {b : Bool} : ngB false b = b := rfl
@[simp] theorem ngB_t {b : Bool} : ngB true b = !b := rfl
noncomputable def inXs (neg : Bool) (x : D) (ds : List D) (h : Hh) : Res D := if flatD x = true ∧ ds.all flatD = true then .ok (.bl (ngB neg (ds.any fun y => eqV (vOf y) (vOf x)))) h else .no
noncomputable def inD (neg : Bool) (x y : D) (h : Hh) : Res D := match y with
  | .tup ds => inXs neg x ds h
  | .fl ds => inXs neg x ds h
  | .loc n => match h[n]? with
    | some (.lst ds) => inXs neg x ds h
    | some (.dK kvs) => (match keyD x with | some k => .ok (.bl (ngB neg (valD kvs k).isSome)) h | none => .no)
    | none => .no
  | .str z => (match x with | .str u => .ok (.bl (ngB neg (!(Builtin.Str.occurrences z u 0 z.length 1).isEmpty))) h | _ => .no)
  | _ => .no
noncomputable def cmpD (op : CmpOp) (a b : D) (h : Hh) : Res D := match op, a, b with
  | .Lt, .int i, .int j => .ok (.bl (decide (i < j))) h
  | .LtE, .int i, .int j => .ok (.bl (decide (i ≤ j))) h
  | .Gt, .int i, .int j => .ok (.bl (decide (j < i))) h
  | .GtE, .int i, .int j => .ok (.bl (decide (j ≤ i))) h
  | .Eq, x, y => eqR false (pdT h x) (pdT h y) h
  | .NotEq, x, y => eqR true (pdT h x) (pdT h y) h
  | .In, x, y => inD false x y h
  | .NotIn, x, y => inD true x y h
  | .Is, x, .non => .ok (.bl (match x with | .non => true | _ => false)) h
  | .IsNot, x, .non => .ok (.bl (match x with | .non => false | _ => true)) h
  | .Is, .bl x, .bl y => .ok (.bl (x == y)) h
  | .IsNot, .bl x, .bl y => .ok (.bl (!(x == y))) h
  | _, _, _ => .no
noncomputable def unD (op : UnaryOp) (a : D) (h : Hh) : Res D := match op, a with
  | .Not, .bl b => .ok (.bl (!b)) h
  | .Invert, .int i => .ok (.int (Builtin.bitNot i)) h
  | .USub, .int i => .ok (.int (-i)) h
  | _, _ => .no
noncomputable def lenD (a : D) (h : Hh) : Res D := match a with
  | .tup xs => .ok (.int xs.length) h
  | .loc n => match rd h n with | some xs => .ok (.int xs.length) h | none => .no
  | .str x => if x.length ≤ 1000000 then .ok (.int x.length) h else .no
  | .fl xs => .ok (.int xs.length) h
  | _ => .no
noncomputable def subD (a i : D) (h : Hh) : Res D := match a, i with
  | .tup xs, .int k => match atI xs k with | some d => .ok d h | none => .no
  | .fl xs, .int k => match atI xs k with | some d => .ok d h | none => .no
  | .str x, .int k => if x.length ≤ 1000000 then (match atI x.cps.toList k with | some c => .ok (.str ⟨#[c]⟩) h | none => .no) else .no
  | .loc n, y => match h[n]? with
    | some (.dK kvs) => match (keyD y).bind (fun k => valD kvs k) with | some d => .ok d h | none => .no
    | some (.lst xs) => match y with
      | .int k => match atI xs k with | some d => .ok d h | none => .no
      | _ => .no
    | none => .no
  | _, _ => .no
noncomputable def new (o : O) (h : Hh) : Res D := .ok (.loc h.length) (h ++ [o])
noncomputable def putD (kvs : List (Key × D)) (k : Key) (v : D) : List (Key × D) := if (kvs.any fun kv => decide (kv.1 = k)) = true then kvs.map (fun kv => if kv.1 = k then (kv.1, v) else kv) else kvs ++ [(k, v)]
noncomputable def onL (x : D) (h : Hh) (r : Res D) : Res D := match x with
  | .loc n => match h[n]? with
    | some (.lst _) => r
    | _ => .no
  | _ => .no
noncomputable def m0D (m : M0) (o : D) (h : Hh) : Res D := match o with
  | .loc n => match h[n]? with
    | some (.lst xs) => match m with
      | .pop => match xs.getLast? with | some x => .ok x (h.set n (.lst xs.dropLast)) | none => .no
    | _ => .no
  | _ => .no
noncomputable def m1D (m : M1) (o a : D) (h : Hh) : Res D := match o with
  | .loc n => match h[n]? with
    | some (.lst xs) => match m with
      | .append => if xs.length < 1000000 then .ok .non (h.set n (.lst (xs ++ [a]))) else .no
      | .extend => match a with
        | .loc m => match h[m]? with
          | some (.lst ys) => if xs.length + ys.length ≤ 1000000 then .ok .non (h.set n (.lst (xs ++ ys))) else .no
          | _ => .no
        | .tup ys => if xs.length + ys.length ≤ 1000000 then .ok .non (h.set n (.lst (xs ++ ys))) else .no
        | _ => .no
    | _ => .no
  | _ => .no
noncomputable def putS (o i v : D) (h : Hh) : Option Hh := match o with
  | .loc n => match h[n]? with
    | some (.lst xs) => match i with
      | .int k => (ixN xs.length k).map fun j => h.set n (.lst (xs.set j v))
      | _ => none
    | some (.dK kvs) => (keyD i).bind fun k => if kvs.length < 1000000 then some (h.set n (.dK (putD kvs k v))) else none
    | _ => none
  | _ => none
noncomputable def cutXs (xs : List D) (lo hi : Option Int) : List D := (xs.drop (HT.sIx xs.length 0 lo)).take (HT.sIx xs.length xs.length hi - HT.sIx xs.length 0 lo)
noncomputable def cutD (a : D) (lo hi : Option Int) (h : Hh) : Res D := match a with
  | .loc n => match rd h n with
    | some xs => new (.lst (cutXs xs lo hi)) h
    | none => .no
  | .fl xs => new (.lst (cutXs xs lo hi)) h
  | .tup xs => if HT.sIx xs.length 0 lo = 0 ∧ HT.sIx xs.length xs.length hi = xs.length then .ok (.tup xs) h else .ok (.tup (cutXs xs lo hi)) h
  | _ => .no
noncomputable def intO (d : D) (h : Hh) : Res (Option Int) := match d with | .int i => .ok (some i) h | _ => .no
noncomputable def seqOf (d : D) (h : Hh) : Option (List D) := match d with
  | .tup xs => some xs
  | .fl xs => some xs
  | .loc n => rd h n
  | _ => none
noncomputable abbrev Ck := List (Nat × List D)
noncomputable def stay (c : Ck) (h : Hh) : Prop := ∀ p ∈ c, rd h p.1 = some p.2
noncomputable def bindT (t : Tg) (d : D) (ρ : En) : Option En := match t with
  | .one i _ => some (ρ.set i (some d))
  | .tup is _ => match d with
    | .tup xs => if xs.length = is.length then some ((is.zip xs).foldl (fun ρ q => ρ.set q.1.1 (some q.2)) ρ) else none
    | _ => none
noncomputable def capE (cap : List (Option Nat)) (ρ : En) : En := cap.map fun o => o.bind fun i => (ρ[i]?).bind id
noncomputable def compF (t : Tg) (ρ : En) (c : En → Hh → Res Bool) (e : En → Hh → Res D) (x : D) (h : Hh) : Res (Option D) := match bindT t x ρ with
  | some ρ' => (c ρ' h).bind fun b h1 => if b then (e ρ' h1).bind fun d h2 => .ok (some d) h2 else .ok none h1
  | none => .no
noncomputable def stepF (t : Tg) (b : En → Hh → RS) (x : D) (ρ : En) (h : Hh) : RS := match bindT t x ρ with
  | some ρ' => b ρ' h
  | none => .no
noncomputable def addO (acc : List D) : Option D → List D
  | some d => acc ++ [d]
  | none => acc
@[simp] theorem addO_some {acc : List D} {d : D} : addO acc (some d) = acc ++ [d] := rfl
@[simp] theorem addO_none {acc : List D} : addO acc none = acc := rfl
open Classical in
noncomputable def compL (c : Ck) (f : D → Hh → Res (Option D)) : List D → List D → Hh → Res (List D)
  | [], acc, h => if stay c h then .ok acc h else .no
  | x :: r, acc, h => if stay c h then (f x h).bind fun o h' => compL c f r (addO acc o) h' else .no
open Classical in
noncomputable def forL (c : Ck) (f : D → En → Hh → RS) : List D → En → Hh → RS
  | [], ρ, h => if stay c h then .nx ρ h else .no
  | x :: r, ρ, h => if stay c h then (match f x ρ h with
      | .nx ρ' h' => forL c f r ρ' h'
      | .ct ρ' h' => forL c f r ρ' h'
      | .bk ρ' h' => .nx ρ' h'
      | o => o) else .no
noncomputable def whL (c : En → Hh → Res Bool) (b : En → Hh → RS) : Nat → En → Hh → RS
  | 0, _, _ => .no
  | n + 1, ρ, h => match c ρ h with
    | .ok true h1 => (match b ρ h1 with
      | .nx ρ' h' => whL c b n ρ' h'
      | .ct ρ' h' => whL c b n ρ' h'
      | .bk ρ' h' => .nx ρ' h'
      | o => o)
    | .ok false h1 => .nx ρ h1
    | .exc k h1 => .ex k ρ h1
    | .no => .no
theorem whL_more {c : En → Hh → Res Bool} {b : En → Hh → RS} : ∀ (n : Nat) (ρ : En) (h : Hh), whL c b n ρ h ≠ .no → whL c b (n + 1) ρ h = whL c b n ρ h
  | 0, ρ, h, z => absurd rfl z
  | n + 1, ρ, h, z => by
    rw [whL] at z ⊢
    rw [whL]
    cases ec : c ρ h with
    | ok t h1 =>
      cases t with
      | true =>
        rw [ec] at z
        simp only at z ⊢
        cases eb : b ρ h1 with
        | nx ρ' h' => rw [eb] at z; exact whL_more n ρ' h' z
        | ct ρ' h' => rw [eb] at z; exact whL_more n ρ' h' z
        | _ => rfl
      | false => rfl
    | _ => rfl
theorem whL_le {c : En → Hh → Res Bool} {b : En → Hh → RS} {n m : Nat} {ρ : En} {h : Hh} (hl : n ≤ m) (z : whL c b n ρ h ≠ .no) : whL c b m ρ h = whL c b n ρ h := by
  induction hl with
  | refl => rfl
  | step _ ih => rw [whL_more _ _ _ (by rw [ih]; exact z), ih]
open Classical in
noncomputable def whR (c : En → Hh → Res Bool) (b : En → Hh → RS) (ρ : En) (h : Hh) : RS := if e : ∃ n, whL c b n ρ h ≠ .no then whL c b (Classical.choose e) ρ h else .no
theorem whR_eq {c : En → Hh → Res Bool} {b : En → Hh → RS} {n : Nat} {ρ : En} {h : Hh} {r : RS} (e : whL c b n ρ h = r) (z : r ≠ .no) : whR c b ρ h = r := by
  have ex : ∃ n, whL c b n ρ h ≠ .no := ⟨n, by rw [e]; exact z⟩
  unfold whR
  rw [dif_pos ex]
  have z2 := Classical.choose_spec ex
  rw [← whL_le (Nat.le_max_left (Classical.choose ex) n) z2, whL_le (Nat.le_max_right (Classical.choose ex) n) (by rw [e]; exact z), e]
theorem whR_has {c : En → Hh → Res Bool} {b : En → Hh → RS} {ρ : En} {h : Hh} (z : whR c b ρ h ≠ .no) : ∃ n, whL c b n ρ h = whR c b ρ h := by
  unfold whR at z ⊢
  split at z
  · rename_i e
    exact ⟨_, by rw [dif_pos e]⟩
  · exact absurd rfl z
theorem whR_turn {c : En → Hh → Res Bool} {b : En → Hh → RS} {ρ ρ' : En} {h h1 h' : Hh} (ec : c ρ h = .ok true h1) (eb : b ρ h1 = .nx ρ' h') : whR c b ρ h = whR c b ρ' h' := by
  by_cases z : whR c b ρ' h' = .no
  · by_cases z2 : whR c b ρ h = .no
    · rw [z, z2]
    · obtain ⟨n, e⟩ := whR_has z2
      cases n with
      | zero => rw [← e] at z2; exact absurd rfl z2
      | succ n =>
        rw [whL, ec] at e
        simp only [eb] at e
        rw [← whR_eq e z2]
  · obtain ⟨n, e⟩ := whR_has z
    exact whR_eq (n := n + 1) (by rw [whL, ec]; simp only [eb]; exact e) z
theorem whR_done {c : En → Hh → Res Bool} {b : En → Hh → RS} {ρ : En} {h h1 : Hh} (ec : c ρ h = .ok false h1) : whR c b ρ h = .nx ρ h1 :=
  whR_eq (n := 1) (by rw [whL, ec]) (by simp)
theorem whR_ret {c : En → Hh → Res Bool} {b : En → Hh → RS} {ρ : En} {h h1 h' : Hh} {d : D} (ec : c ρ h = .ok true h1) (eb : b ρ h1 = .rt d h') : whR c b ρ h = .rt d h' :=
  whR_eq (n := 1) (by rw [whL, ec]; simp only [eb]) (by simp)
noncomputable def tru (d : D) (h : Hh) (f : Bool → Hh → Res D) : Res D := match d with
  | .bl b => f b h
  | _ => .no
noncomputable def blsOf : List D → Option (List Bool)
  | [] => some []
  | .bl b :: r => (blsOf r).map (b :: ·)
  | _ :: _ => none
noncomputable def strsOf : List D → Option (List Str)
  | [] => some []
  | .str x :: r => (strsOf r).map (x :: ·)
  | _ :: _ => none
noncomputable def c1D (f : F1) (a : D) (h : Hh) : Res D := match f, a with
  | .str, .int i => if i.natAbs.log2 < 1920 then .ok (.str (toString i)) h else .no
  | .str, .str x => .ok (.str x) h
  | .int, .int i => .ok (.int i) h
  | .int, .bl b => .ok (.int (if b then 1 else 0)) h
  | .int, .str x => (match PySem.intText? x with | some n => if x.length ≤ 640 then .ok (.int n) h else .no | none => .no)
  | .all, .loc n => (match (rd h n).bind blsOf with | some bs => .ok (.bl (bs.all id)) h | none => .no)
  | .abs, .int i => .ok (.int (if i < 0 then -i else i)) h
  | .any, .loc n => (match (rd h n).bind blsOf with | some bs => .ok (.bl (bs.any id)) h | none => .no)
  | _, _ => .no
noncomputable def onS (x : D) (r : Res D) : Res D := match x with | .str _ => r | _ => .no
noncomputable def joinD (x y : D) (h : Hh) : Res D := match x, y with
  | .str sep, .loc n => (match (rd h n).bind strsOf with | some ys => if (ys.map (·.length)).sum + ys.length * sep.length ≤ 16777216 then .ok (.str (Txt.join sep ys)) h else .no | none => .no)
  | .str sep, .tup ds => (match strsOf ds with | some ys => if (ys.map (·.length)).sum + ys.length * sep.length ≤ 16777216 then .ok (.str (Txt.join sep ys)) h else .no | none => .no)
  | _, _ => .no
noncomputable def nilD (neg : Bool) (x : D) (h : Hh) : Res D := match x with
  | .fl xs => .ok (.bl (ngB neg xs.isEmpty)) h
  | .loc n => (match rd h n with | some xs => .ok (.bl (ngB neg xs.isEmpty)) h | none => .no)
  | _ => .no
noncomputable def lrD (x : D) (h : Hh) : Res D := match x with
  | .fl xs => new (.lst xs.reverse) h
  | .loc n => (match rd h n with | some xs => new (.lst xs.reverse) h | none => .no)
  | _ => .no
noncomputable def revD (x : D) (h : Hh) : Res (Ck × List D) := match x with
  | .fl xs => .ok ([], xs.reverse) h
  | .tup xs => .ok ([], xs.reverse) h
  | .loc n => (match rd h n with | some xs => .ok ([(n, xs)], xs.reverse) h | none => .no)
  | _ => .no
noncomputable def rngD (x y : D) (h : Hh) : Res (Ck × List D) := match x, y with
  | .int i, .int j => if -1000000 ≤ i ∧ i ≤ 1000000 ∧ -1000000 ≤ j ∧ j ≤ 1000000 then .ok ([], (List.range (j - i).toNat).map fun k => .int (i + (k : Nat))) h else .no
  | _, _ => .no
noncomputable def Cv.d : Cv → D
  | .tup xs => .tup (xs.map .str)
  | .int i => .int i
noncomputable def cstD (kvs : List (Str × Cv)) (y : D) (h : Hh) : Res D := match y with
  | .str k => (match kvs.lookup k with | some c => .ok c.d h | none => .no)
  | _ => .no
noncomputable def pairD : D → Option (Key × D)
  | .tup [k, v] => (keyD k).map fun q => (q, v)
  | _ => none
noncomputable def pairsD : List D → Option (List (Key × D))
  | [] => some []
  | x :: r => match pairD x, pairsD r with
    | some a, some b => some (a :: b)
    | _, _ => none
noncomputable def mergeD (kvs more : List (Key × D)) : List (Key × D) := more.foldl (fun acc kv => putD acc kv.1 kv.2) kvs
noncomputable def dicPD (x : D) (h : Hh) : Res D := match x with
  | .loc n => (match rd h n with
    | some xs => if xs.length ≤ 1000000 then (match pairsD xs with | some kvs => new (.dK (mergeD [] kvs)) h | none => .no) else .no
    | none => .no)
  | _ => .no
noncomputable def dispR (ks : List (Str × Pos)) (n : Nat) (xs : List D) (h : Hh) : Res D := match h[n]? with
  | some (.dK []) => .ok (.loc n) (h.set n (.dK (mergeD [] ((ks.map fun q => (Sum.inr q.1 : Key)).zip xs))))
  | _ => .no
noncomputable def unpD (d : D) (h : Hh) : D := match d with
  | .loc n => (match rd h n with | some xs => .tup xs | none => .non)
  | d => d
@[simp] theorem unpD_tup {xs : List D} {h : Hh} : unpD (.tup xs) h = .tup xs := rfl
noncomputable section
variable (cl : Nat → List D → Hh → Res D)
mutual
noncomputable def E.ev : E → En → Hh → Res D
  | .non _, _, h => .ok .non h
  | .bl b _, _, h => .ok (.bl b) h
  | .int i _, _, h => .ok (.int i) h
  | .str x _, _, h => .ok (.str x) h
  | .var i _, ρ, h => match ρ[i]? with | some (some d) => .ok d h | _ => .no
  | .bin op a b _, ρ, h => (a.ev ρ h).bind fun x h1 => (b.ev ρ h1).bind fun y h2 => binD op x y h2
  | .un op a _, ρ, h => (a.ev ρ h).bind fun x h1 => unD op x h1
  | .cmp op a b _, ρ, h => (a.ev ρ h).bind fun x h1 => (b.ev ρ h1).bind fun y h2 => cmpD op x y h2
  | .and a b r _, ρ, h => (a.ev ρ h).bind fun x h1 => tru x h1 fun c h1 => if c then (b.ev ρ h1).bind fun y h2 => r.evAnd ρ y h2 else .ok (.bl false) h1
  | .or a b r _, ρ, h => (a.ev ρ h).bind fun x h1 => tru x h1 fun c h1 => if c then .ok (.bl true) h1 else (b.ev ρ h1).bind fun y h2 => r.evOr ρ y h2
  | .ite c a b _, ρ, h => (c.ev ρ h).bind fun x h1 => tru x h1 fun t h1 => if t then a.ev ρ h1 else b.ev ρ h1
  | .call f a r _ _, ρ, h => (a.ev ρ h).bind fun x h1 => (r.ev ρ h1).bind fun xs h2 => cl f (x :: xs) h2
  | .len a _ _, ρ, h => (a.ev ρ h).bind fun x h1 => lenD x h1
  | .isi T a _ _ _, ρ, h => (a.ev ρ h).bind fun x h1 => match isI h1 x T with | some b => .ok (.bl b) h1 | none => .no
  | .sub a i _, ρ, h => (a.ev ρ h).bind fun x h1 => (i.ev ρ h1).bind fun y h2 => subD x y h2
  | .tup es _, ρ, h => (es.ev ρ h).bind fun xs h1 => if xs.length ≤ 1000 then .ok (.tup xs) h1 else .no
  | .ofL l, ρ, h => (l.ev ρ h).bind fun xs h1 => new (.lst xs) h1
  | .tupE e _ _, ρ, h => (e.ev ρ h).bind fun x h1 => match seqOf x h1 with | some xs => .ok (.tup xs) h1 | none => .no
  | .dicP e _ _, ρ, h => (e.ev ρ h).bind fun x h1 => dicPD x h1
  | .dispD ks vs _, ρ, h => (vs.ev ρ (h ++ [.dK []])).bind fun xs h1 => dispR ks h.length xs h1
  | .cut a lo hi _ _, ρ, h => (a.ev ρ h).bind fun x h1 => (lo.ev ρ h1).bind fun l h2 => (hi.ev ρ h2).bind fun u h3 => cutD x l u h3
  | .m0 m o _ _, ρ, h => (o.ev ρ h).bind fun x h1 => m0D m x h1
  | .m1 m o a _ _, ρ, h => (o.ev ρ h).bind fun x h1 => onL x h1 ((a.ev ρ h1).bind fun y h2 => m1D m x y h2)
  | .max2 a b _ _, ρ, h => (a.ev ρ h).bind fun x h1 => (b.ev ρ h1).bind fun y h2 => match x, y with | .int i, .int j => .ok (.int (if j > i then j else i)) h2 | _, _ => .no
  | .c1 f a _ _, ρ, h => (a.ev ρ h).bind fun x h1 => c1D f x h1
  | .cmpN neg a _ _, ρ, h => (a.ev ρ h).bind fun x h1 => nilD neg x h1
  | .listR e _ _ _ _, ρ, h => (e.ev ρ h).bind fun x h1 => lrD x h1
  | .join o a _ _, ρ, h => (o.ev ρ h).bind fun x h1 => onS x ((a.ev ρ h1).bind fun y h2 => joinD x y h2)
  | .gsub _ kvs i _ _, ρ, h => (i.ev ρ h).bind fun y h1 => cstD kvs y h1
noncomputable def Eo.ev : Eo → En → Hh → Res (Option Int)
  | .none, _, h => .ok none h
  | .some e, ρ, h => (e.ev ρ h).bind fun d h1 => intO d h1
noncomputable def L.ev : L → En → Hh → Res (List D)
  | .disp es _, ρ, h => (es.ev ρ h).bind fun xs h1 => if xs.length ≤ 1000 then .ok xs h1 else .no
  | .comp elt t it c _ cap _ _, ρ, h => (it.ev ρ h).bind fun q h1 => if q.2.length ≤ 1000000 then compL q.1 (compF t (capE cap ρ) (fun ρ' h2 => c.evC ρ' h2) (fun ρ' h2 => elt.ev ρ' h2)) q.2 [] h1 else .no
noncomputable def I.ev : I → En → Hh → Res (Ck × List D)
  | .seq e, ρ, h => (e.ev ρ h).bind fun x h1 => match x with
    | .tup xs => .ok ([], xs) h1
    | .fl xs => .ok ([], xs) h1
    | .loc n => match rd h1 n with | some xs => .ok ([(n, xs)], xs) h1 | none => .no
    | .str x => .ok ([], x.cps.toList.map fun c => .str ⟨#[c]⟩) h1
    | _ => .no
  | .lst l, ρ, h => (l.ev ρ h).bind fun xs h1 => .ok ([], xs) h1
  | .rng a _ _, ρ, h => (a.ev ρ h).bind fun x h1 => match x with
    | .int j => if -1000000 ≤ j ∧ j ≤ 1000000 then .ok ([], (List.range j.toNat).map fun k => .int (k : Nat)) h1 else .no
    | _ => .no
  | .rng2 a b _ _, ρ, h => (a.ev ρ h).bind fun x h1 => (b.ev ρ h1).bind fun y h2 => rngD x y h2
  | .rev e _ _, ρ, h => (e.ev ρ h).bind fun x h1 => revD x h1
noncomputable def Es.evC : Es → En → Hh → Res Bool
  | .nil, _, h => .ok true h
  | .cons e _, ρ, h => (e.ev ρ h).bind fun d h1 => match d with | .bl b => .ok b h1 | _ => .no
noncomputable def Es.ev : Es → En → Hh → Res (List D)
  | .nil, _, h => .ok [] h
  | .cons e r, ρ, h => (e.ev ρ h).bind fun x h1 => (r.ev ρ h1).bind fun xs h2 => .ok (x :: xs) h2
noncomputable def Es.evAnd : Es → En → D → Hh → Res D
  | .nil, _, x, h => .ok x h
  | .cons e r, ρ, x, h => tru x h fun c h1 => if c then (e.ev ρ h1).bind fun y h2 => r.evAnd ρ y h2 else .ok (.bl false) h1
noncomputable def Es.evOr : Es → En → D → Hh → Res D
  | .nil, _, x, h => .ok x h
  | .cons e r, ρ, x, h => tru x h fun c h1 => if c then .ok (.bl true) h1 else (e.ev ρ h1).bind fun y h2 => r.evOr ρ y h2
end
noncomputable def E.evT (e : E) (ρ : En) (h : Hh) : Res Bool := (e.ev cl ρ h).bind fun d h1 => match d with | .bl b => .ok b h1 | _ => .no
noncomputable def andS {α : Type} (ρ : En) (r : Res α) (f : α → Hh → RS) : RS := match r with
  | .ok a h => f a h
  | .exc c h => .ex c ρ h
  | .no => .no
@[simp] theorem andS_ok {α : Type} {ρ : En} {a : α} {h : Hh} {f : α → Hh → RS} : andS ρ (.ok a h) f = f a h := rfl
@[simp] theorem andS_exc {α : Type} {ρ : En} {c : Nat} {h : Hh} {f : α → Hh → RS} : andS ρ (.exc c h) f = .ex c ρ h := rfl
noncomputable def seqS (o : RS) (f : En → Hh → RS) : RS := match o with
  | .nx ρ h => f ρ h
  | o => o
@[simp] theorem seqS_nx {ρ : En} {h : Hh} {f : En → Hh → RS} : seqS (.nx ρ h) f = f ρ h := rfl
@[simp] theorem seqS_rt {d : D} {h : Hh} {f : En → Hh → RS} : seqS (.rt d h) f = .rt d h := rfl
@[simp] theorem seqS_bk {ρ : En} {h : Hh} {f : En → Hh → RS} : seqS (.bk ρ h) f = .bk ρ h := rfl
@[simp] theorem seqS_ct {ρ : En} {h : Hh} {f : En → Hh → RS} : seqS (.ct ρ h) f = .ct ρ h := rfl
@[simp] theorem seqS_ex {c : Nat} {ρ : En} {h : Hh} {f : En → Hh → RS} : seqS (.ex c ρ h) f = .ex c ρ h := rfl
mutual
noncomputable def S.run : S → En → Hh → RS
  | .set i e _ _, ρ, h => andS ρ (e.ev cl ρ h) fun d h1 => .nx (ρ.set i (some d)) h1
  | .ret e _, ρ, h => andS ρ (e.ev cl ρ h) fun d h1 => .rt d h1
  | .iff c a b _, ρ, h => andS ρ (c.evT cl ρ h) fun t h1 => if t then a.run ρ h1 else b.run ρ h1
  | .ex e _, ρ, h => andS ρ (e.ev cl ρ h) fun _ h1 => .nx ρ h1
  | .put o i v _ _, ρ, h => andS ρ (v.ev cl ρ h) fun z h1 => andS ρ (o.ev cl ρ h1) fun x h2 => andS ρ (i.ev cl ρ h2) fun y h3 => match putS x y z h3 with | some h4 => .nx ρ h4 | none => .no
  | .forr t it b _, ρ, h => andS ρ (it.ev cl ρ h) fun q h1 => forL q.1 (stepF t fun ρ' h' => b.run ρ' h') q.2 ρ h1
  | .whil c b _, ρ, h => whR (fun ρ' h' => c.evT cl ρ' h') (fun ρ' h' => b.run ρ' h') ρ h
  | .pass _, ρ, h => .nx ρ h
  | .brk _, ρ, h => .bk ρ h
  | .cnt _, ρ, h => .ct ρ h
  | .setT is e p1 _, ρ, h => andS ρ (e.ev cl ρ h) fun d h1 => match bindT (.tup is p1) (unpD d h1) ρ with | some ρ' => .nx ρ' h1 | none => .no
noncomputable def Ss.run : Ss → En → Hh → RS
  | .nil, ρ, h => .nx ρ h
  | .cons s r, ρ, h => seqS (s.run ρ h) fun ρ' h' => r.run ρ' h'
end
end
structure Df where
  name : Str
  ps : List Str
  N : List Str
  body : Ss
noncomputable def outR : RS → Res D
  | .rt v h' => .ok v h'
  | .nx _ h' => .ok .non h'
  | .ex c _ h' => .exc c h'
  | _ => .no
noncomputable def Df.run (cl : Nat → List D → Hh → Res D) (d : Df) (as : List D) (h : Hh) : Res D :=
  outR (d.body.run cl (as.map some ++ List.replicate (d.N.length - as.length) none) h)
noncomputable def callI (ds : List Df) : Nat → Nat → List D → Hh → Res D
  | 0, _, _, _ => .no
  | k + 1, f, as, h => match ds[f]? with
    | some d => if as.length = d.ps.length then d.run (callI ds k) as h else .no
    | none => .no
section
variable {i j : Int} {h : Hh} {x y : Str} {b c : Bool} {d e : D} {xs : List D}
@[simp] theorem bin_add : binD .Add (.int i) (.int j) h = .ok (.int (i + j)) h := rfl
@[simp] theorem bin_sub : binD .Sub (.int i) (.int j) h = .ok (.int (i - j)) h := rfl
@[simp] theorem bin_mul : binD .Mult (.int i) (.int j) h = if fits i = true ∧ fits j = true then .ok (.int (i * j)) h else .no := rfl
@[simp] theorem bin_fdiv : binD .FloorDiv (.int i) (.int j) h = if 0 < j ∧ j < 1073741824 then .ok (.int (i / j)) h else .no := rfl
@[simp] theorem bin_mod : binD .Mod (.int i) (.int j) h = if 0 < j then .ok (.int (i % j)) h else .no := rfl
@[simp] theorem bin_pow : binD .Pow (.int i) (.int j) h = if 0 ≤ j ∧ j ≤ 1000000 ∧ i.natAbs < 2 ^ 64 then .ok (.int (i ^ j.toNat)) h else .no := rfl
@[simp] theorem bin_shl : binD .LShift (.int i) (.int j) h = if fits i = true ∧ 0 ≤ j ∧ j ≤ 1000000 then .ok (.int (i * 2 ^ j.toNat)) h else .no := rfl
@[simp] theorem bin_shr : binD .RShift (.int i) (.int j) h = if 0 ≤ j then .ok (.int (i / 2 ^ j.toNat)) h else .no := rfl
@[simp] theorem bin_and : binD .BitAnd (.int i) (.int j) h = .ok (.int (Builtin.bitAnd i j)) h := rfl
@[simp] theorem bin_or : binD .BitOr (.int i) (.int j) h = .ok (.int (Builtin.bitOr i j)) h := rfl
@[simp] theorem bin_adds : binD .Add (.str x) (.str y) h = if x.length + y.length ≤ 1000000 then .ok (.str (x ++ y)) h else .no := rfl
@[simp] theorem cmp_lt : cmpD .Lt (.int i) (.int j) h = .ok (.bl (decide (i < j))) h := rfl
@[simp] theorem cmp_le : cmpD .LtE (.int i) (.int j) h = .ok (.bl (decide (i ≤ j))) h := rfl
@[simp] theorem cmp_gt : cmpD .Gt (.int i) (.int j) h = .ok (.bl (decide (j < i))) h := rfl
@[simp] theorem cmp_ge : cmpD .GtE (.int i) (.int j) h = .ok (.bl (decide (j ≤ i))) h := rfl
@[simp] theorem cmp_eq : cmpD .Eq d e h = eqR false (pdT h d) (pdT h e) h := rfl
@[simp] theorem cmp_ne : cmpD .NotEq d e h = eqR true (pdT h d) (pdT h e) h := rfl
@[simp] theorem cmp_in : cmpD .In d e h = inD false d e h := rfl
@[simp] theorem cmp_notin : cmpD .NotIn d e h = inD true d e h := rfl
@[simp] theorem cmp_isN : cmpD .Is d .non h = .ok (.bl (match d with | .non => true | _ => false)) h := rfl
@[simp] theorem cmp_isnotN : cmpD .IsNot d .non h = .ok (.bl (match d with | .non => false | _ => true)) h := rfl
@[simp] theorem cmp_is : cmpD .Is (.bl b) (.bl c) h = .ok (.bl (b == c)) h := rfl
@[simp] theorem cmp_isnot : cmpD .IsNot (.bl b) (.bl c) h = .ok (.bl (!(b == c))) h := rfl
@[simp] theorem eqR_some {neg : Bool} {u v : PyData} : eqR neg (some u) (some v) h = if u.canLay0 = true ∧ v.canLay0 = true ∧ u.depth ≤ 60 then .ok (.bl (if neg then !PyData.eqv u v else PyData.eqv u v)) h else .no := rfl
@[simp] theorem pdT_non : pdT h .non = some .none := by unfold pdT D.pd; rfl
@[simp] theorem pdT_bl : pdT h (.bl b) = some (.bool b) := by unfold pdT D.pd; rfl
@[simp] theorem pdT_int : pdT h (.int i) = some (.int i) := by unfold pdT D.pd; rfl
@[simp] theorem pdT_str : pdT h (.str x) = some (.str x) := by unfold pdT D.pd; rfl
@[simp] theorem pdT_tup : pdT h (.tup xs) = (D.pds h xs).map .tuple := by unfold pdT D.pd; rfl
@[simp] theorem pdT_loc {n : Nat} : pdT h (.loc n) = (rd h n).bind fun xs => (D.pds h xs).map .list := rfl
@[simp] theorem pds_nil : D.pds h [] = some [] := by unfold D.pds; rfl
@[simp] theorem un_not : unD .Not (.bl b) h = .ok (.bl (!b)) h := rfl
@[simp] theorem un_invert : unD .Invert (.int i) h = .ok (.int (Builtin.bitNot i)) h := rfl
@[simp] theorem un_usub : unD .USub (.int i) h = .ok (.int (-i)) h := rfl
@[simp] theorem pdT_fl : pdT h (.fl xs) = (D.pds h xs).map .list := by unfold pdT D.pd; rfl
@[simp] theorem len_fl : lenD (.fl xs) h = .ok (.int xs.length) h := rfl
@[simp] theorem sub_fl : subD (.fl xs) (.int i) h = match atI xs i with | some d => .ok d h | none => .no := rfl
@[simp] theorem len_tup : lenD (.tup xs) h = .ok (.int xs.length) h := rfl
@[simp] theorem len_loc {n : Nat} : lenD (.loc n) h = match rd h n with | some xs => .ok (.int xs.length) h | none => .no := rfl
@[simp] theorem len_str : lenD (.str x) h = if x.length ≤ 1000000 then .ok (.int x.length) h else .no := rfl
@[simp] theorem sub_tup : subD (.tup xs) (.int i) h = match atI xs i with | some d => .ok d h | none => .no := rfl
@[simp] theorem bin_muls : binD .Mult (.str x) (.int j) h = if 0 ≤ j ∧ j ≤ 1000 ∧ x.length ≤ 1000 then .ok (.str (Txt.mul x j)) h else .no := rfl
@[simp] theorem bin_addt {ys : List D} : binD .Add (.tup xs) (.tup ys) h = if xs.length + ys.length ≤ 1000000 then .ok (.tup (xs ++ ys)) h else .no := rfl
@[simp] theorem bin_addl {n m : Nat} : binD .Add (.loc n) (.loc m) h = (match h[n]?, h[m]? with
    | some (.lst xs), some (.lst ys) => if xs.length + ys.length ≤ 1000000 then .ok (.loc h.length) (h ++ [.lst (xs ++ ys)]) else .no
    | _, _ => .no) := rfl
theorem sub_str : subD (.str x) (.int i) h = if x.length ≤ 1000000 then (match atI x.cps.toList i with | some c => .ok (.str ⟨#[c]⟩) h | none => .no) else .no := rfl
theorem sub_loc {n : Nat} {y : D} : subD (.loc n) y h = (match h[n]? with
    | some (.dK kvs) => match (keyD y).bind (fun k => valD kvs k) with | some d => .ok d h | none => .no
    | some (.lst xs) => match y with
      | .int k => match atI xs k with | some d => .ok d h | none => .no
      | _ => .no
    | none => .no) := rfl
@[simp] theorem tru_bl {f : Bool → Hh → Res D} : tru (.bl b) h f = f b h := rfl
end
theorem callI_succ {ds : List Df} {k i : Nat} {d : Df} {as : List D} {h : Hh} (hd : ds[i]? = some d) (hl : as.length = d.ps.length) : callI ds (k + 1) i as h = d.run (callI ds k) as h := by
  unfold callI; rw [hd]; exact if_pos hl
end PI
set_option Elab.async false
set_option linter.all false
set_option maxRecDepth 100000
namespace PI
open PySem L2
noncomputable def Fz (K : PySem.W.Frag) (H : Hp) (a : Addr) (vs : List V) : Prop := (∃ o, H a = some (.frz o (.lst vs))) ∨ ∀ H', SqL K H' a vs
theorem Fz.sq {K : PySem.W.Frag} {H : Hp} {a : Addr} {vs : List V} (h : Fz K H a vs) : SqL K H a vs := h.elim (fun ⟨o, q⟩ => .inl (.inr ⟨o, q⟩)) fun q => q H
mutual
inductive Rep (K : PySem.W.Frag) (μ : List Addr) (H : Hp) : D → V → Prop
  | non : Rep K μ H .non .non
  | bl (b : Bool) : Rep K μ H (.bl b) (.bl b)
  | int (i : Int) : Rep K μ H (.int i) (.int i)
  | str (x : Str) : Rep K μ H (.str x) (.str x)
  | tup {ds : List D} {vs : List V} {a : Addr} : SqT K H a vs → Reps K μ H ds vs → Rep K μ H (.tup ds) (.ref a)
  | loc {n : Nat} {a : Addr} : μ[n]? = some a → Rep K μ H (.loc n) (.ref a)
  | fl {ds : List D} {vs : List V} {a : Addr} : Fz K H a vs → Reps K μ H ds vs → Rep K μ H (.fl ds) (.ref a)
inductive Reps (K : PySem.W.Frag) (μ : List Addr) (H : Hp) : List D → List V → Prop
  | nil : Reps K μ H [] []
  | cons {d : D} {v : V} {ds : List D} {vs : List V} : Rep K μ H d v → Reps K μ H ds vs → Reps K μ H (d :: ds) (v :: vs)
end
structure Ext (K : PySem.W.Frag) (μ : List Addr) (H : Hp) (μ' : List Addr) (H' : Hp) : Prop where
  loc : ∀ (n : Nat) a, μ[n]? = some a → μ'[n]? = some a
  tup : ∀ a xs, SqT K H a xs → SqT K H' a xs
  fz : ∀ a xs, Fz K H a xs → Fz K H' a xs
  oth : ∀ a o, H a = some o → a ∉ μ → H' a = some o
  new : ∀ a, a ∈ μ' → a ∈ μ ∨ H a = none
theorem Ext.refl {K : PySem.W.Frag} {μ : List Addr} {H : Hp} : Ext K μ H μ H := ⟨fun _ _ h => h, fun _ _ h => h, fun _ _ h => h, fun _ _ h _ => h, fun _ h => .inl h⟩
theorem Ext.sub {K : PySem.W.Frag} {μ μ1 : List Addr} {H H1 : Hp} (a : Ext K μ H μ1 H1) {x : Addr} (h : x ∈ μ) : x ∈ μ1 := by
  obtain ⟨n, hn⟩ := List.getElem?_of_mem h
  exact List.mem_of_getElem? (a.loc n x hn)
theorem Ext.apart {K : PySem.W.Frag} {μ μ1 : List Addr} {H H1 : Hp} (a : Ext K μ H μ1 H1) {x : Addr} {o : HO} (h : H x = some o) (n : x ∉ μ) : x ∉ μ1 := fun z => by
  rcases a.new x z with q | q
  · exact n q
  · rw [h] at q; cases q
theorem Ext.trans {K : PySem.W.Frag} {μ μ1 μ2 : List Addr} {H H1 H2 : Hp} (a : Ext K μ H μ1 H1) (b : Ext K μ1 H1 μ2 H2) : Ext K μ H μ2 H2 := by
  refine ⟨fun n x h => b.loc n x (a.loc n x h), fun x y h => b.tup x y (a.tup x y h), fun x y h => b.fz x y (a.fz x y h), fun x o h n => b.oth x o (a.oth x o h n) (a.apart h n), fun x h => ?_⟩
  rcases b.new x h with z | z
  · exact a.new x z
  · by_cases hx : x ∈ μ
    · exact .inl hx
    · right
      cases e : H x with
      | none => rfl
      | some o => rw [a.oth x o e hx] at z; cases z
mutual
theorem Rep.mono {K : PySem.W.Frag} {μ μ' : List Addr} {H H' : Hp} (e : Ext K μ H μ' H') : ∀ {d : D} {v : V}, Rep K μ H d v → Rep K μ' H' d v
  | _, _, .non => .non
  | _, _, .bl b => .bl b
  | _, _, .int i => .int i
  | _, _, .str x => .str x
  | _, _, .tup h r => .tup (e.tup _ _ h) (Reps.mono e r)
  | _, _, .loc h => .loc (e.loc _ _ h)
  | _, _, .fl h r => .fl (e.fz _ _ h) (Reps.mono e r)
theorem Reps.mono {K : PySem.W.Frag} {μ μ' : List Addr} {H H' : Hp} (e : Ext K μ H μ' H') : ∀ {ds : List D} {vs : List V}, Reps K μ H ds vs → Reps K μ' H' ds vs
  | _, _, .nil => .nil
  | _, _, .cons h r => .cons (Rep.mono e h) (Reps.mono e r)
end
mutual
theorem Rep.mono' {K : PySem.W.Frag} {μ μ' : List Addr} {H : Hp} (e : ∀ (n : Nat) a, μ[n]? = some a → μ'[n]? = some a) : ∀ {d : D} {v : V}, Rep K μ H d v → Rep K μ' H d v
  | _, _, .non => .non
  | _, _, .bl b => .bl b
  | _, _, .int i => .int i
  | _, _, .str x => .str x
  | _, _, .tup h r => .tup h (Reps.mono' e r)
  | _, _, .loc h => .loc (e _ _ h)
  | _, _, .fl h r => .fl h (Reps.mono' e r)
theorem Reps.mono' {K : PySem.W.Frag} {μ μ' : List Addr} {H : Hp} (e : ∀ (n : Nat) a, μ[n]? = some a → μ'[n]? = some a) : ∀ {ds : List D} {vs : List V}, Reps K μ H ds vs → Reps K μ' H ds vs
  | _, _, .nil => .nil
  | _, _, .cons h r => .cons (Rep.mono' e h) (Reps.mono' e r)
end
theorem Reps.length {K : PySem.W.Frag} {μ : List Addr} {H : Hp} : ∀ {ds : List D} {vs : List V}, Reps K μ H ds vs → ds.length = vs.length
  | _, _, .nil => rfl
  | _, _, .cons _ r => by rw [List.length_cons, List.length_cons, r.length]
theorem Reps.get {K : PySem.W.Frag} {μ : List Addr} {H : Hp} : ∀ {ds : List D} {vs : List V} {i : Nat} {d : D}, Reps K μ H ds vs → ds[i]? = some d → ∃ v, vs[i]? = some v ∧ Rep K μ H d v
  | _, _, _, _, .nil, e => by simp at e
  | _, _, 0, _, .cons h _, e => by simp at e; subst e; exact ⟨_, rfl, h⟩
  | _, _, i + 1, d, .cons _ r, e => by
    obtain ⟨v, h1, h2⟩ := Reps.get (i := i) (d := d) r (by simpa using e)
    exact ⟨v, by simpa using h1, h2⟩
theorem Reps.append {K : PySem.W.Frag} {μ : List Addr} {H : Hp} : ∀ {ds es : List D} {vs ws : List V}, Reps K μ H ds vs → Reps K μ H es ws → Reps K μ H (ds ++ es) (vs ++ ws)
  | _, _, _, _, .nil, r => r
  | _, _, _, _, .cons h t, r => .cons h (t.append r)
theorem Reps.atI {K : PySem.W.Frag} {μ : List Addr} {H : Hp} {ds : List D} {vs : List V} {k : Int} {d : D} (r : Reps K μ H ds vs) (e : L2.atI ds k = some d) : ∃ v, L2.atI vs k = some v ∧ Rep K μ H d v := by
  unfold L2.atI at e ⊢
  rw [← r.length]
  cases h : ixN ds.length k with
  | none => rw [h] at e; cases e
  | some j =>
    rw [h] at e
    exact r.get e
inductive RepKs (K : PySem.W.Frag) (μ : List Addr) (H : Hp) : List (Key × D) → List (Key × V) → Prop
  | nil : RepKs K μ H [] []
  | cons {k : Key} {d : D} {v : V} {ds : List (Key × D)} {vs : List (Key × V)} : Rep K μ H d v → RepKs K μ H ds vs → RepKs K μ H ((k, d) :: ds) ((k, v) :: vs)
theorem RepKs.mono {K : PySem.W.Frag} {μ μ' : List Addr} {H H' : Hp} (e : Ext K μ H μ' H') : ∀ {ds : List (Key × D)} {vs : List (Key × V)}, RepKs K μ H ds vs → RepKs K μ' H' ds vs
  | _, _, .nil => .nil
  | _, _, .cons h r => .cons (h.mono e) (r.mono e)
theorem RepKs.length {K : PySem.W.Frag} {μ : List Addr} {H : Hp} : ∀ {ds : List (Key × D)} {vs : List (Key × V)}, RepKs K μ H ds vs → ds.length = vs.length
  | _, _, .nil => rfl
  | _, _, .cons _ r => by rw [List.length_cons, List.length_cons, r.length]
noncomputable def RepO (K : PySem.W.Frag) (μ : List Addr) (H : Hp) (a : Addr) : O → Prop
  | .lst ds => ∃ vs, H a = some (.lst vs) ∧ Reps K μ H ds vs
  | .dK kvs => ∃ vs, H a = some (.dK vs) ∧ RepKs K μ H kvs vs
theorem RepKs.mono' {K : PySem.W.Frag} {μ μ' : List Addr} {H : Hp} (e : ∀ (n : Nat) a, μ[n]? = some a → μ'[n]? = some a) : ∀ {ds : List (Key × D)} {vs : List (Key × V)}, RepKs K μ H ds vs → RepKs K μ' H ds vs
  | _, _, .nil => .nil
  | _, _, .cons h r => .cons (h.mono' e) (r.mono' e)
theorem RepO.mono' {K : PySem.W.Frag} {μ μ' : List Addr} {H : Hp} {a : Addr} {o : O} (e : ∀ (n : Nat) a, μ[n]? = some a → μ'[n]? = some a) (r : RepO K μ H a o) : RepO K μ' H a o := by
  cases o with
  | lst ds => obtain ⟨vs, q, r⟩ := r; exact ⟨vs, q, r.mono' e⟩
  | dK ds => obtain ⟨vs, q, r⟩ := r; exact ⟨vs, q, r.mono' e⟩
structure HR (K : PySem.W.Frag) (μ : List Addr) (h : Hh) (H : Hp) : Prop where
  len : μ.length = h.length
  inj : ∀ (n m : Nat) (a : Addr), μ[n]? = some a → μ[m]? = some a → n = m
  obj : ∀ (n : Nat) (a : Addr) (o : O), μ[n]? = some a → h[n]? = some o → RepO K μ H a o
theorem HR.fresh {K : PySem.W.Frag} {μ : List Addr} {h : Hh} {H : Hp} (r : HR K μ h H) {p : Addr} (hp : H p = none) : p ∉ μ := fun z => by
  obtain ⟨n, hn⟩ := List.getElem?_of_mem z
  have hl : n < h.length := by rw [← r.len]; exact (List.getElem?_eq_some_iff.mp hn).1
  have := r.obj n p h[n] hn (List.getElem?_eq_getElem hl)
  cases e : h[n] with
  | lst ds => rw [e] at this; obtain ⟨vs, q, _⟩ := this; rw [hp] at q; cases q
  | dK ds => rw [e] at this; obtain ⟨vs, q, _⟩ := this; rw [hp] at q; cases q
theorem ext_new {K : PySem.W.Frag} {μ : List Addr} {H : Hp} {p : Addr} {u : HO} (hp : H p = none) : Ext K μ H μ (upd H p u) :=
  ⟨fun _ _ h => h, fun a xs h => by
    rcases h with h | h
    · left
      rcases h with h | ⟨o, h⟩
      · exact .inl (by rw [upd_ne (fun z => by rw [z, hp] at h; cases h)]; exact h)
      · exact .inr ⟨o, by rw [upd_ne (fun z => by rw [z, hp] at h; cases h)]; exact h⟩
    · exact .inr h, fun a xs h => by
    rcases h with ⟨o, h⟩ | h
    · exact .inl ⟨o, by rw [upd_ne (fun z => by rw [z, hp] at h; cases h)]; exact h⟩
    · exact .inr h, fun a o h _ => by rw [upd_ne (fun z => by rw [z, hp] at h; cases h)]; exact h, fun _ h => .inl h⟩
theorem Ext.add {K : PySem.W.Frag} {μ μ' : List Addr} {H H' : Hp} {p : Addr} (e : Ext K μ H μ' H') (hp : H p = none) : Ext K μ H (μ' ++ [p]) H' :=
  ⟨fun n a h => by rw [List.getElem?_append_left (List.getElem?_eq_some_iff.mp (e.loc n a h)).1]; exact e.loc n a h, e.tup, e.fz, e.oth,
    fun a h => by
      rcases List.mem_append.mp h with h | h
      · exact e.new a h
      · rw [List.mem_singleton.mp h]; exact .inr hp⟩
theorem RepO.keep {K : PySem.W.Frag} {μ μ' : List Addr} {H H' : Hp} {a : Addr} {o : O} (e : Ext K μ H μ' H') (k : ∀ u, H a = some u → H' a = some u) (r : RepO K μ H a o) : RepO K μ' H' a o := by
  cases o with
  | lst ds => obtain ⟨vs, q, r⟩ := r; exact ⟨vs, k _ q, r.mono e⟩
  | dK ds => obtain ⟨vs, q, r⟩ := r; exact ⟨vs, k _ q, r.mono e⟩
theorem keep_new {H : Hp} {p a : Addr} {u w : HO} (hp : H p = none) (h : H a = some w) : upd H p u a = some w := by
  rw [upd_ne (fun z => by rw [z, hp] at h; cases h)]; exact h
theorem HR.tup {K : PySem.W.Frag} {μ : List Addr} {h : Hh} {H : Hp} {p : Addr} {u : HO} (r : HR K μ h H) (hp : H p = none) : HR K μ h (upd H p u) :=
  ⟨r.len, r.inj, fun n a o e1 e2 => (r.obj n a o e1 e2).keep (ext_new hp) fun _ q => keep_new hp q⟩
theorem HR.add {K : PySem.W.Frag} {μ : List Addr} {h : Hh} {H : Hp} {p : Addr} {o : O} (r : HR K μ h H) (hp : p ∉ μ) (q : ∀ μ', (∀ (n : Nat) a, μ[n]? = some a → μ'[n]? = some a) → RepO K μ' H p o) : HR K (μ ++ [p]) (h ++ [o]) H := by
  have gr : ∀ (n : Nat) a, μ[n]? = some a → (μ ++ [p])[n]? = some a := fun n a e => by rw [List.getElem?_append_left (List.getElem?_eq_some_iff.mp e).1]; exact e
  refine ⟨by rw [List.length_append, List.length_append, r.len]; rfl, fun n m a e1 e2 => ?_, fun n a o1 e1 e2 => ?_⟩
  · have key : ∀ (n : Nat) (a : Addr), (μ ++ [p])[n]? = some a → (n < μ.length ∧ μ[n]? = some a) ∨ (n = μ.length ∧ a = p) := fun n a e => by
      by_cases hn : n < μ.length
      · rw [List.getElem?_append_left hn] at e; exact .inl ⟨hn, e⟩
      · right
        rw [List.getElem?_append_right (by omega)] at e
        have : n - μ.length = 0 := by
          cases q : n - μ.length with
          | zero => rfl
          | succ z => rw [q] at e; simp at e
        rw [this] at e
        simp at e
        exact ⟨by omega, e.symm⟩
    rcases key n a e1 with ⟨hn, q1⟩ | ⟨hn, q1⟩ <;> rcases key m a e2 with ⟨hm, q2⟩ | ⟨hm, q2⟩
    · exact r.inj n m a q1 q2
    · exact absurd (List.mem_of_getElem? q1) (q2 ▸ hp)
    · exact absurd (List.mem_of_getElem? q2) (q1 ▸ hp)
    · omega
  · by_cases hn : n < μ.length
    · rw [List.getElem?_append_left hn] at e1
      rw [List.getElem?_append_left (by rw [← r.len]; exact hn)] at e2
      exact (r.obj n a o1 e1 e2).mono' gr
    · rw [List.getElem?_append_right (by omega)] at e1
      have hz : n - μ.length = 0 := by
        cases z : n - μ.length with
        | zero => rfl
        | succ y => rw [z] at e1; simp at e1
      rw [hz] at e1
      simp at e1
      subst e1
      rw [List.getElem?_append_right (by rw [← r.len]; omega), ← r.len, hz] at e2
      simp at e2
      subst e2
      exact q _ gr
theorem HR.alloc {K : PySem.W.Frag} {μ : List Addr} {h : Hh} {H : Hp} {p : Addr} {u : HO} {o : O} (r : HR K μ h H) (hp : H p = none) (hm : p ∉ μ) (q : ∀ μ', (∀ (n : Nat) a, μ[n]? = some a → μ'[n]? = some a) → RepO K μ' (upd H p u) p o) : HR K (μ ++ [p]) (h ++ [o]) (upd H p u) :=
  (r.tup hp).add hm q
theorem HR.chg {K : PySem.W.Frag} {μ : List Addr} {h : Hh} {H : Hp} {n : Nat} {a : Addr} {o o' : O} {u : HO} (r : HR K μ h H) (hn : h[n]? = some o) (ha : μ[n]? = some a)
    (q : ∀ H', Ext K μ H μ H' → H' a = some u → RepO K μ H' a o') : HR K μ (h.set n o') (upd H a u) ∧ Ext K μ H μ (upd H a u) := by
  obtain ⟨w, hw, nt, nf⟩ : ∃ w, H a = some w ∧ (∀ xs, w ≠ .tup xs) ∧ ∀ o x, w ≠ .frz o x := by
    have z := r.obj n a o ha hn
    cases o with
    | lst ds => obtain ⟨vs, e, _⟩ := z; exact ⟨_, e, fun _ y => (nomatch y), fun _ _ y => (nomatch y)⟩
    | dK ds => obtain ⟨vs, e, _⟩ := z; exact ⟨_, e, fun _ y => (nomatch y), fun _ _ y => (nomatch y)⟩
  have ht : ∀ b xs, SqT K H b xs → SqT K (upd H a u) b xs := fun b xs z => by
    rcases z with z | z
    · left
      rcases z with z | ⟨ob, z⟩
      · exact .inl (by rw [upd_ne (fun y => by rw [y, hw] at z; exact nt _ (Option.some.inj z))]; exact z)
      · exact .inr ⟨ob, by rw [upd_ne (fun y => by rw [y, hw] at z; exact nf _ _ (Option.some.inj z))]; exact z⟩
    · exact .inr z
  have hf : ∀ b xs, Fz K H b xs → Fz K (upd H a u) b xs := fun b xs z => by
    rcases z with ⟨ob, z⟩ | z
    · exact .inl ⟨ob, by rw [upd_ne (fun y => by rw [y, hw] at z; exact nf _ _ (Option.some.inj z))]; exact z⟩
    · exact .inr z
  have ex : Ext K μ H μ (upd H a u) := ⟨fun _ _ z => z, ht, hf, fun b v e z => by rw [upd_ne (fun (y : b = a) => z (by rw [y]; exact List.mem_of_getElem? ha))]; exact e, fun _ z => .inl z⟩
  have hl : n < h.length := (List.getElem?_eq_some_iff.mp hn).1
  refine ⟨⟨by rw [List.length_set]; exact r.len, r.inj, fun m b v e1 e2 => ?_⟩, ex⟩
  by_cases hmn : m = n
  · subst hmn
    rw [List.getElem?_set_self hl] at e2
    cases e2
    rw [ha] at e1
    cases e1
    exact q _ ex upd_same
  · rw [List.getElem?_set_ne (Ne.symm hmn)] at e2
    have nb : b ≠ a := fun y => hmn (r.inj m n a (y ▸ e1) ha)
    exact (r.obj m b v e1 e2).keep ex fun _ g => by rw [upd_ne nb]; exact g
structure ER (K : PySem.W.Frag) (μ : List Addr) (ρ : En) (σ : St) (H : Hp) : Prop where
  len : ρ.length = σ.length
  val : ∀ (i : Nat) d, ρ[i]? = some (some d) → ∃ v, σ[i]? = some (some v) ∧ Rep K μ H d v
theorem ER.mono {K : PySem.W.Frag} {μ μ' : List Addr} {H H' : Hp} {ρ : En} {σ : St} (r : ER K μ ρ σ H) (e : Ext K μ H μ' H') : ER K μ' ρ σ H' :=
  ⟨r.len, fun i d h => let ⟨v, a, b⟩ := r.val i d h; ⟨v, a, b.mono e⟩⟩
theorem ER.set {K : PySem.W.Frag} {μ : List Addr} {H : Hp} {ρ : En} {σ : St} {d : D} {v : V} (r : ER K μ ρ σ H) (q : Rep K μ H d v) (i : Nat) : ER K μ (ρ.set i (some d)) (σ.set i (some v)) H := by
  refine ⟨by rw [List.length_set, List.length_set, r.len], fun j e hj => ?_⟩
  by_cases hij : i = j
  · subst hij
    rw [List.getElem?_set] at hj ⊢
    have hl : i < ρ.length := by
      by_cases hl : i < ρ.length
      · exact hl
      · rw [if_pos rfl, if_neg hl] at hj; cases hj
    rw [if_pos rfl, if_pos hl] at hj
    rw [if_pos rfl, if_pos (by rw [← r.len]; exact hl)]
    cases hj
    exact ⟨v, rfl, q⟩
  · rw [List.getElem?_set_ne hij] at hj ⊢
    exact r.val j e hj
noncomputable def PostE {α β : Type} (K : PySem.W.Frag) (cv : Nat → Value) (R : List Addr → Hp → α → β → Prop) (μ : List Addr) (H : Hp) (r : Res α) (Q : β → Hp → Prop) (Z : Value → Hp → Prop) : Prop :=
  match r with
  | .ok d h' => ∀ μ' H' v, Ext K μ H μ' H' → HR K μ' h' H' → R μ' H' d v → Q v H'
  | .exc c h' => ∀ μ' H', Ext K μ H μ' H' → HR K μ' h' H' → Z (cv c) H'
  | .no => False
noncomputable def lift {α β : Type} (K : PySem.W.Frag) (cv : Nat → Value) (R : List Addr → Hp → α → β → Prop) (Z : ZK) (m : En → Hh → Res α) : St → Hp → (β → Hp → Prop) → Prop :=
  fun σ H Q => ∃ μ ρ h, HR K μ h H ∧ ER K μ ρ σ H ∧ PostE K cv R μ H (m ρ h) Q (Z σ)
theorem lift_bind {α β γ δ : Type} {K : PySem.W.Frag} {cv : Nat → Value} {R : List Addr → Hp → α → β → Prop} {R' : List Addr → Hp → γ → δ → Prop} {μ : List Addr} {ρ : En} {h : Hh} {σ : St} {H : Hp} {Z : ZK} {m : En → Hh → Res α} {f : α → Hh → Res γ} {Q : δ → Hp → Prop} {Q' : β → Hp → Prop}
    (hr : HR K μ h H) (er : ER K μ ρ σ H) (p : PostE K cv R' μ H ((m ρ h).bind f) Q (Z σ))
    (go : ∀ a h1 μ1 H1 x, m ρ h = .ok a h1 → Ext K μ H μ1 H1 → HR K μ1 h1 H1 → ER K μ1 ρ σ H1 → R μ1 H1 a x → PostE K cv R' μ1 H1 (f a h1) Q (Z σ) → Q' x H1) :
    lift K cv R Z m σ H Q' := by
  refine ⟨μ, ρ, h, hr, er, ?_⟩
  cases e : m ρ h with
  | ok a h1 =>
    rw [e, bind_ok] at p
    intro μ1 H1 x e1 r1 q1
    refine go a h1 μ1 H1 x e e1 r1 (er.mono e1) q1 ?_
    unfold PostE at p ⊢
    cases e2 : f a h1 with
    | ok b h2 => rw [e2] at p; exact fun μ2 H2 v e3 r3 q3 => p μ2 H2 v (e1.trans e3) r3 q3
    | exc c h2 => rw [e2] at p; exact fun μ2 H2 e3 r3 => p μ2 H2 (e1.trans e3) r3
    | no => rw [e2] at p; exact p
  | exc c h1 => rw [e, bind_exc] at p; exact p
  | no => rw [e, bind_no] at p; exact p
theorem PostE.here {α β : Type} {K : PySem.W.Frag} {cv : Nat → Value} {R : List Addr → Hp → α → β → Prop} {μ : List Addr} {H : Hp} {d : α} {h : Hh} {v : β} {Q : β → Hp → Prop} {Z : Value → Hp → Prop} (p : PostE K cv R μ H (.ok d h) Q Z) (hr : HR K μ h H) (r : R μ H d v) : Q v H :=
  p μ H v Ext.refl hr r
end PI
set_option Elab.async false
set_option linter.all false
set_option maxRecDepth 100000
namespace PI
open PySem L2 PySem.Spec
open PyProof.Rows hiding St
section
variable {X : Cx} {pins : List (Addr × Obj)} {σ : St} {H : Hp} {s : Shared} {μ : List Addr} {h : Hh}
mutual
theorem reads_of (I : Inv X pins σ H s) : ∀ {d : D} {v : V} {u : Value} {p : PyData}, Rep X.K μ H d v → RelV v u → D.pd h d = some p → ∃ as, Reads s.heap u p as
  | .non, _, _, _, r, q, e => by cases r; cases q; cases e; exact ⟨_, .none⟩
  | .bl b, _, _, _, r, q, e => by cases r; cases q; cases e; exact ⟨_, .bool b⟩
  | .int i, _, _, _, r, q, e => by cases r; obtain ⟨t, rfl⟩ := q; cases e; exact ⟨_, .int i t⟩
  | .str x, _, _, _, r, q, e => by cases r; obtain ⟨t, rfl⟩ := q; cases e; exact ⟨_, .str x t⟩
  | .tup ds, _, _, _, r, q, e => by
    cases r with
    | tup hs rs =>
      cases q
      unfold D.pd at e
      cases e1 : D.pds h ds with
      | none => rw [e1] at e; cases e
      | some ps =>
        rw [e1] at e; cases e
        obtain ⟨its, rv, ⟨o, g1, g2, n, g3⟩, _⟩ := I.tuple hs
        obtain ⟨as, ra⟩ := readsAll_of I rs rv e1
        exact ⟨_, .tuple g1 g2 g3 (by simpa using ra)⟩
  | .loc n, _, _, _, r, q, e => by cases e
  | .fl ds, _, _, _, r, q, e => by
    cases r with
    | fl hs rs =>
      cases q
      unfold D.pd at e
      cases e1 : D.pds h ds with
      | none => rw [e1] at e; cases e
      | some ps =>
        rw [e1] at e; cases e
        obtain ⟨its, rv, ⟨o, n, g1, g2, _, g3⟩, _⟩ := I.list hs.sq
        obtain ⟨as, ra⟩ := readsAll_of I rs rv e1
        exact ⟨_, .list g1 g2 g3 (by simpa using ra)⟩
theorem readsAll_of (I : Inv X pins σ H s) : ∀ {ds : List D} {vs : List V} {us : List Value} {ps : List PyData}, Reps X.K μ H ds vs → Vals vs us → D.pds h ds = some ps → ∃ as, ReadsAll s.heap us ps as
  | [], _, _, _, r, q, e => by cases r; cases q; cases e; exact ⟨_, .nil⟩
  | d :: ds, _, _, _, r, q, e => by
    cases r with
    | cons r1 r2 =>
      cases q with
      | cons q1 q2 =>
        unfold D.pds at e
        cases e1 : D.pd h d with
        | none => rw [e1] at e; cases e
        | some p =>
          cases e2 : D.pds h ds with
          | none => rw [e1, e2] at e; cases e
          | some ps =>
            rw [e1, e2] at e; cases e
            obtain ⟨as, ra⟩ := reads_of I r1 q1 e1
            obtain ⟨bs, rb⟩ := readsAll_of I r2 q2 e2
            exact ⟨_, .cons ra rb⟩
end
theorem HR.rd (hr : HR X.K μ h H) {n : Nat} {ds : List D} (e : rd h n = some ds) {a : Addr} (m : μ[n]? = some a) : ∃ vs, SqL X.K H a vs ∧ Reps X.K μ H ds vs := by
  unfold PI.rd at e
  cases e1 : h[n]? with
  | none => rw [e1] at e; cases e
  | some o =>
    rw [e1] at e
    have q := hr.obj n a o m e1
    cases o with
    | lst xs => cases e; obtain ⟨vs, q1, q2⟩ := q; exact ⟨vs, SqL.of q1, q2⟩
    | dK xs => cases e
theorem readsT_of (I : Inv X pins σ H s) (hr : HR X.K μ h H) {d : D} {v : V} {u : Value} {p : PyData} (r : Rep X.K μ H d v) (q : RelV v u) (e : pdT h d = some p) : ∃ as, Reads s.heap u p as := by
  cases d with
  | loc n =>
    cases r with
    | loc m =>
      cases q
      rw [pdT_loc] at e
      cases e1 : rd h n with
      | none => rw [e1] at e; cases e
      | some ds =>
        rw [e1] at e
        cases e2 : D.pds h ds with
        | none => rw [show (some ds).bind (fun xs => (D.pds h xs).map PyData.list) = (D.pds h ds).map PyData.list from rfl, e2] at e; cases e
        | some ps =>
          rw [show (some ds).bind (fun xs => (D.pds h xs).map PyData.list) = (D.pds h ds).map PyData.list from rfl, e2] at e; cases e
          obtain ⟨vs, hs, rs⟩ := hr.rd e1 m
          obtain ⟨its, rv, ⟨o, n', g1, g2, _, g3⟩, _⟩ := I.list hs
          obtain ⟨as, ra⟩ := readsAll_of I rs rv e2
          exact ⟨_, .list g1 g2 g3 (by simpa using ra)⟩
  | non => exact reads_of (h := h) I r q e
  | bl b => exact reads_of (h := h) I r q e
  | int i => exact reads_of (h := h) I r q e
  | str x => exact reads_of (h := h) I r q e
  | tup ds => exact reads_of (h := h) I r q e
  | fl ds => exact reads_of (h := h) I r q e
end
theorem line_le {n : Nat} (h : n ≤ 1000000) : n ≤ sizeLine := by rw [sizeLine_eq]; omega
theorem line_lt {n : Nat} (h : n < 1000000) : n < sizeLine := by rw [sizeLine_eq]; omega
section
variable {X : Cx} {cv : Nat → Value}
noncomputable def r2 (K : PySem.W.Frag) (cv : Nat → Value) (f : D → D → Hh → Res D) : R2 := fun x y H Q => ∃ μ h a b Z, HR K μ h H ∧ Rep K μ H a x ∧ Rep K μ H b y ∧ PostE K cv (Rep K) μ H (f a b h) Q Z
noncomputable def r1 (K : PySem.W.Frag) (cv : Nat → Value) (f : D → Hh → Res D) : V → Hp → VK → Prop := fun x H Q => ∃ μ h a Z, HR K μ h H ∧ Rep K μ H a x ∧ PostE K cv (Rep K) μ H (f a h) Q Z
theorem op_mulB : OpR X (binaryOp .Mult) (rI (fun i j => Builtin.Int.intBits i ≤ 2 ^ 20 ∧ Builtin.Int.intBits j ≤ 2 ^ 20) fun i j => .int (i * j)) := opI fun _ _ _ _ _ _ _ hc q => mul_int q (IntMulOk.of_bits hc.1 hc.2)
theorem op_shlB : OpR X (binaryOp .LShift) (rI (fun i j => Builtin.Int.intBits i ≤ 2 ^ 20 ∧ 0 ≤ j ∧ j ≤ 1000000) fun i j => .int (i * 2 ^ j.toNat)) := opI fun _ _ _ _ _ _ _ hc q => lshift_int hc.2.1 (by have := hc.1; have := hc.2.2; omega) q
theorem mul_ok {x : Str} {j : Int} (h : 0 ≤ j ∧ j ≤ 1000 ∧ x.length ≤ 1000) : MulOk x j := by
  obtain ⟨h0, h1, h2⟩ := h
  refine ⟨by simp; omega, fun a b c => ?_, fun a b => ?_⟩
  · have hj : 1 ≤ j := by omega
    have : (2 ^ 63 - 1) / 1000 ≤ (2 ^ 63 - 1 : Int) / j := Int.le_ediv_of_mul_le (by omega) (by
      have : ((2 ^ 63 - 1) / 1000 : Int) * j ≤ ((2 ^ 63 - 1) / 1000) * 1000 := Int.mul_le_mul_of_nonneg_left h1 (by decide)
      have e : (((2 ^ 63 - 1) / 1000 : Int) * 1000) ≤ 2 ^ 63 - 1 := by decide
      omega)
    have e : (1000 : Int) < (2 ^ 63 - 1) / 1000 := by decide
    omega
  · have hm : x.length * j.toNat ≤ 1000 * 1000 := Nat.mul_le_mul h2 (by omega)
    unfold PySem.Builtin.Str.tooLong
    exact decide_eq_false (by rw [sizeLine_eq]; omega)
theorem op_mulS : OpR X (binaryOp .Mult) (fun x y H Q => ∃ z j, x = .str z ∧ y = .int j ∧ (0 ≤ j ∧ j ≤ 1000 ∧ z.length ≤ 1000) ∧ Q (.str (Txt.mul z j)) H) := by
  intro pins s σ H x y v u Q I rx ry h
  obtain ⟨z, j, rfl, rfl, hc, q⟩ := h
  obtain ⟨t, rfl⟩ := rx
  obtain ⟨t', rfl⟩ := ry
  exact SB.mul (mul_ok hc) fun t' k => ⟨.str _, H, I.tok _, ⟨_, rfl⟩, q⟩
theorem meets_catT0 (t b : Addr) (xs ys : Array Value) (n m : Nat) (d1 d2 : Option Addr) (s1 s2 : Array (Option Value)) (h0 : xs.isEmpty = true) :
    Meets (Builtin.«tuple.__add__» ⟨[.ref t, .ref b], []⟩) (fun _ R s =>
      s.heap.get? t = some ⟨.type "tuple", d1, .seq xs n, s1⟩ ∧
      s.heap.get? b = some ⟨.type "tuple", d2, .seq ys m, s2⟩ ∧
      R (.ok (.ret (Value.ref b))) s) :=
  .of_wp fun prog w A R s h => by
    obtain ⟨hp, g, d, tk, os⟩ := s
    obtain ⟨hl, hb, h⟩ := h
    have f1 := AutoSeq1.idx_int
    have f2 := AutoSeq1.sub_list_tuple
    have f3 := AutoSeq1.sub_tuple_list
    have f4 := AutoSeq1.sub_tuple_tuple
    have f5 := AutoSeq1.sub_list_list
    wp_walk using AutoSeq1.wpAny_loadPart' hl, AutoSeq1.wpAny_loadPart' hb
    exact ⟨_, rfl, h⟩
theorem cat_nil {A : Around} {E : Value → Shared → Prop} {prog : Program} {w : World} {s : Shared} {t b : Addr} {vs ws : List Value} {Q : Value → Shared → Prop} (ht : IsTup s.heap t vs.toArray) (hb : IsTup s.heap b ws.toArray) (hv : vs = []) (h1 : Q (.ref b) s) :
    wpAny (model prog w) A (binaryOp .Add (.ref t) (.ref b)) Q E s := by
  obtain ⟨⟨cls, dd, data, sl⟩, ho, hc, n, hd⟩ := id ht
  obtain ⟨⟨cls2, dd2, data2, sl2⟩, ho2, hc2, n2, hd2⟩ := id hb
  simp only at hc hd hc2 hd2
  subst hc hd hc2 hd2
  exact concat_meets ⟨_, ho, rfl⟩ ⟨_, ho2, rfl⟩ noFill_tuple_add seq_tuple_add PySem.F.slot_tuple_add PySem.F.entry_tuple_add (PySem.F.args_tuple_add_2 _ _) (meets_catT0 t b vs.toArray ws.toArray n n2 dd dd2 sl sl2 (by simp [hv])) ⟨ho, ho2, h1⟩
theorem Reps.rep {K : PySem.W.Frag} {μ : List Addr} {H : Hp} {ds : List D} {vs : List V} (r : Reps K μ H ds vs) : ∀ k : Nat, Reps K μ H (List.replicate k ds).flatten (List.replicate k vs).flatten
  | 0 => .nil
  | k + 1 => by rw [List.replicate_succ, List.replicate_succ, List.flatten_cons, List.flatten_cons]; exact r.append (Reps.rep r k)
theorem op_bin (op : Operator) : OpR X (binaryOp op) (r2 X.K cv (binD op)) := by
  intro pins s σ H x y v u Q I rx ry hh
  obtain ⟨μ, h, a, b, Z, hr, ra, rb, p⟩ := hh
  unfold binD at p
  split at p
  · cases ra; cases rb; exact op_add pins s σ H _ _ v u Q I rx ry ⟨_, _, rfl, rfl, p.here hr (.int _)⟩
  · cases ra; cases rb; exact op_sub pins s σ H _ _ v u Q I rx ry ⟨_, _, rfl, rfl, p.here hr (.int _)⟩
  · cases ra; cases rb
    split at p
    · rename_i i j c
      exact op_mulB pins s σ H _ _ v u Q I rx ry ⟨_, _, rfl, rfl, ⟨of_decide_eq_true c.1, of_decide_eq_true c.2⟩, p.here hr (.int _)⟩
    · exact p.elim
  · cases ra; cases rb
    split at p
    · rename_i i j c
      exact op_fdiv pins s σ H _ _ v u Q I rx ry ⟨_, _, rfl, rfl, c, p.here hr (.int _)⟩
    · exact p.elim
  · cases ra; cases rb
    split at p
    · rename_i i j c
      exact op_mod pins s σ H _ _ v u Q I rx ry ⟨_, _, rfl, rfl, c, p.here hr (.int _)⟩
    · exact p.elim
  · cases ra; cases rb
    split at p
    · rename_i i j c
      exact op_pow pins s σ H _ _ v u Q I rx ry ⟨_, _, rfl, rfl, c, p.here hr (.int _)⟩
    · exact p.elim
  · cases ra; cases rb
    split at p
    · rename_i i j c
      exact op_shlB pins s σ H _ _ v u Q I rx ry ⟨_, _, rfl, rfl, ⟨of_decide_eq_true c.1, c.2⟩, p.here hr (.int _)⟩
    · exact p.elim
  · cases ra; cases rb
    split at p
    · rename_i i j c
      exact op_shr pins s σ H _ _ v u Q I rx ry ⟨_, _, rfl, rfl, c, p.here hr (.int _)⟩
    · exact p.elim
  · cases ra; cases rb; exact op_and pins s σ H _ _ v u Q I rx ry ⟨_, _, rfl, rfl, p.here hr (.int _)⟩
  · cases ra; cases rb; exact op_or pins s σ H _ _ v u Q I rx ry ⟨_, _, rfl, rfl, p.here hr (.int _)⟩
  · cases ra; cases rb
    split at p
    · rename_i i j c
      exact op_add_str pins s σ H _ _ v u Q I rx ry ⟨_, _, rfl, rfl, line_le c, p.here hr (.str _)⟩
    · exact p.elim
  · cases ra; cases rb
    split at p
    · rename_i i j c
      exact op_mulS pins s σ H _ _ v u Q I rx ry ⟨_, _, rfl, rfl, c, p.here hr (.str _)⟩
    · exact p.elim
  · rename_i n m
    cases ra with
    | loc ma =>
      cases rb with
      | loc mb =>
        split at p
        · rename_i xs ys e1 e2
          split at p
          · rename_i c
            obtain ⟨va, ha, qa⟩ := hr.obj n _ _ ma e1
            obtain ⟨vb, hb, qb⟩ := hr.obj m _ _ mb e2
            refine op_cat pins s σ H _ _ v u Q I rx ry ⟨_, _, _, _, rfl, rfl, ha, hb, by rw [← qa.length, ← qb.length]; exact line_le c, fun b hb => ?_⟩
            have nb : b ∉ μ := hr.fresh hb
            refine p _ _ _ ((ext_new hb).add hb) (hr.alloc hb nb fun μ' g => ⟨_, upd_same, ((qa.append qb).mono (ext_new hb)).mono' g⟩) (.loc ?_)
            rw [← hr.len, List.getElem?_append_right (Nat.le_refl _), Nat.sub_self]
            rfl
          · exact p.elim
        · exact p.elim
  · rename_i ds es
    split at p
    · rename_i c
      cases ra with
      | @tup _ vs a h1 r1 =>
        cases rb with
        | @tup _ ws b h2 r2 =>
          by_cases hv : vs = []
          · subst hv
            cases r1
            cases rx
            cases ry
            obtain ⟨its, q1, p1, _⟩ := I.tuple h1
            obtain ⟨its2, q2, p2, _⟩ := I.tuple h2
            cases q1
            exact cat_nil p1 p2 rfl ⟨.ref b, H, I, rfl, p.here hr (.tup h2 r2)⟩
          · refine op_catT pins s σ H _ _ v u Q I rx ry ⟨a, b, vs, ws, rfl, rfl, h1, h2, hv, by rw [← r1.length, ← r2.length]; exact line_le c, fun hz => ?_, fun _ l hl => ?_⟩
            · subst hz
              cases r2
              rw [List.append_nil] at p
              exact p.here hr (.tup h1 r1)
            · exact p μ _ _ (ext_new hl) (hr.tup hl) (.tup (SqT.of upd_same) ((r1.append r2).mono (ext_new hl)))
    · exact p.elim
  · rename_i n j
    cases ra with
    | loc ma =>
      cases rb with
      | int =>
        split at p
        · rename_i xs e1
          split at p
          · rename_i c
            obtain ⟨va, ha, qa⟩ := hr.obj n _ _ ma e1
            refine op_rep pins s σ H _ _ v u Q I rx ry ⟨_, _, va, rfl, rfl, ha, by omega, by omega, ?_, fun b hb => ?_⟩
            · have hm : va.length * j.toNat ≤ 1000 * 1000 := Nat.mul_le_mul (by rw [← qa.length]; exact c.2.2) (by omega)
              rw [sizeLine_eq]; omega
            · have nb : b ∉ μ := hr.fresh hb
              refine p _ _ _ ((ext_new hb).add hb) (hr.alloc hb nb fun μ' g => ⟨_, upd_same, ((qa.rep j.toNat).mono (ext_new hb)).mono' g⟩) (.loc ?_)
              rw [← hr.len, List.getElem?_append_right (Nat.le_refl _), Nat.sub_self]
              rfl
          · exact p.elim
        · exact p.elim
  · exact p.elim
theorem flat_rep {K : PySem.W.Frag} {μ : List Addr} {H : Hp} {d : D} {v : V} (r : Rep K μ H d v) (f : flatD d = true) : v = vOf d ∧ flatV v = true := by
  cases r with
  | non => exact ⟨rfl, rfl⟩
  | bl b => exact ⟨rfl, rfl⟩
  | int i => exact ⟨rfl, rfl⟩
  | str x => exact ⟨rfl, rfl⟩
  | _ => cases f
theorem flat_reps {K : PySem.W.Frag} {μ : List Addr} {H : Hp} : ∀ {ds : List D} {vs : List V}, Reps K μ H ds vs → ds.all flatD = true → vs = ds.map vOf ∧ vs.all flatV = true
  | _, _, .nil, _ => ⟨rfl, rfl⟩
  | _, _, .cons r t, f => by
    rw [List.all_cons, Bool.and_eq_true] at f
    obtain ⟨rfl, f1⟩ := flat_rep r f.1
    obtain ⟨rfl, f2⟩ := flat_reps t f.2
    exact ⟨rfl, by rw [List.all_cons, f1, f2]; rfl⟩
theorem in_V (x : D) (ds : List D) : inV (vOf x) (ds.map vOf) = ds.any fun y => eqV (vOf y) (vOf x) := by unfold inV; rw [List.any_map]; rfl
theorem op_inXs {neg : Bool} {pins : List (Addr × Obj)} {s : Shared} {σ : St} {H : Hp} {v u : Value} {Q : VK} {μ : List Addr} {h : Hh} {a : D} {x : V} {Z' : Value → Hp → Prop} {ds : List D} {vs : List V} {p' : Addr} (op : CmpOp) (hop : OpR X (compareOp op) (rIn X.K neg))
    (I : Inv X pins σ H s) (rx : RelV x v) (ry : RelV (.ref p') u) (hr : HR X.K μ h H) (ra : Rep X.K μ H a x) (sq : SqL X.K H p' vs ∨ SqT X.K H p' vs) (rs : Reps X.K μ H ds vs) (p : PostE X.K cv (Rep X.K) μ H (inXs neg a ds h) Q Z') :
    wpAny (model X.prog X.w) X.A (compareOp op v u) (EP X pins σ Q) X.xe s := by
  unfold inXs at p
  split at p
  · rename_i c
    obtain ⟨rfl, f1⟩ := flat_rep ra c.1
    obtain ⟨rfl, f2⟩ := flat_reps rs c.2
    refine hop pins s σ H _ _ v u Q I rx ry ⟨p', _, rfl, sq, f1, f2, ?_⟩
    rw [in_V]
    exact p.here hr (.bl _)
  · exact p.elim
theorem keyD_rep' {K : PySem.W.Frag} {μ : List Addr} {H : Hp} {d : D} {v : V} {k : Key} (r : Rep K μ H d v) (e : keyD d = some k) : v = kV k := by
  unfold keyD at e
  cases r <;> first | (cases e; rfl) | cases e
theorem RepKs.none {K : PySem.W.Frag} {μ : List Addr} {H : Hp} {k : Key} : ∀ {ds : List (Key × D)} {vs : List (Key × V)}, RepKs K μ H ds vs → (valD ds k).isSome = (valV vs k).isSome
  | _, _, .nil => rfl
  | _, _, .cons (k := k') (d := d') (v := v') h r => by
    have ih := RepKs.none (k := k) r
    by_cases hk : k' = k
    · rw [valV_pos (p := (k', v')) hk]
      unfold valD
      rw [List.find?_cons_of_pos (by simpa using hk)]
      rfl
    · rw [valV_neg (p := (k', v')) hk, ← ih]
      unfold valD
      rw [List.find?_cons_of_neg (by simpa using hk)]
theorem op_inI (hu : X.A.units + 1 < cLine) (neg : Bool) : OpR X (compareOp (if neg then .NotIn else .In)) (r2 X.K cv (inD neg)) := by
  intro pins s σ H x y v u Q I rx ry hh
  obtain ⟨μ, h, a, b, Z', hr, ra, rb, p⟩ := hh
  have hop : OpR X (compareOp (if neg then .NotIn else .In)) (rIn X.K neg) := by cases neg with | true => exact op_notIn_seq | false => exact op_in_seq
  unfold inD at p
  cases rb with
  | tup h1 h2 => exact op_inXs _ hop I rx ry hr ra (.inr h1) h2 p
  | fl h1 h2 => exact op_inXs _ hop I rx ry hr ra (.inl h1.sq) h2 p
  | @loc nn b' m =>
    cases e1 : h[nn]? with
    | none => simp only [e1] at p; exact p.elim
    | some o =>
      have q := hr.obj nn b' o m e1
      cases o with
      | lst ds =>
        simp only [e1] at p
        obtain ⟨vs, q1, q2⟩ := q
        exact op_inXs _ hop I rx ry hr ra (.inl (SqL.of q1)) q2 p
      | dK kvs =>
        simp only [e1] at p
        obtain ⟨vs, q1, q2⟩ := q
        cases e2 : keyD a with
        | none => simp only [e2] at p; exact p.elim
        | some k =>
          simp only [e2] at p
          have ey := keyD_rep' ra e2
          subst ey
          cases ry
          have p' := p.here hr (.bl _)
          rw [q2.none] at p'
          cases neg with
          | true => exact d_notIn hu I (DGet.k q1) rx fun s' I' => ⟨.bl _, H, I', rfl, p'⟩
          | false => exact d_in hu I (DGet.k q1) rx fun s' I' => ⟨.bl _, H, I', rfl, p'⟩
  | str z =>
    cases ra with
    | str w =>
      cases neg with
      | true => exact op_notIn_str pins s σ H _ _ v u Q I rx ry ⟨w, z, rfl, rfl, p.here hr (.bl _)⟩
      | false => exact op_in_str pins s σ H _ _ v u Q I rx ry ⟨w, z, rfl, rfl, p.here hr (.bl _)⟩
    | _ => exact p.elim
  | _ => exact p.elim
theorem op_cmp (hu : X.A.units + 64 < cLine) (op : CmpOp) : OpR X (compareOp op) (r2 X.K cv (cmpD op)) := by
  intro pins s σ H x y v u Q I rx ry hh
  obtain ⟨μ, h, a, b, Z, hr, ra, rb, p⟩ := hh
  unfold cmpD at p
  split at p
  · cases ra; cases rb; exact op_lt pins s σ H _ _ v u Q I rx ry ⟨_, _, rfl, rfl, p.here hr (.bl _)⟩
  · cases ra; cases rb; exact op_le pins s σ H _ _ v u Q I rx ry ⟨_, _, rfl, rfl, p.here hr (.bl _)⟩
  · cases ra; cases rb; exact op_gt pins s σ H _ _ v u Q I rx ry ⟨_, _, rfl, rfl, p.here hr (.bl _)⟩
  · cases ra; cases rb; exact op_ge pins s σ H _ _ v u Q I rx ry ⟨_, _, rfl, rfl, p.here hr (.bl _)⟩
  · unfold eqR at p
    split at p
    · rename_i pu pv e1 e2
      split at p
      · rename_i c
        obtain ⟨as, q1⟩ := readsT_of I hr ra rx e1
        obtain ⟨bs, q2⟩ := readsT_of I hr rb ry e2
        exact SeqAt.compareEq_reads q1 q2 c.1 c.2.1 (by have := Nat.min_le_left pu.depth pv.depth; omega) ⟨.bl _, H, I, rfl, p.here hr (.bl _)⟩
      · exact p.elim
    · exact p.elim
  · unfold eqR at p
    split at p
    · rename_i pu pv e1 e2
      split at p
      · rename_i c
        obtain ⟨as, q1⟩ := readsT_of I hr ra rx e1
        obtain ⟨bs, q2⟩ := readsT_of I hr rb ry e2
        exact SeqAt.compareNe_reads q1 q2 c.1 c.2.1 (by have := Nat.min_le_left pu.depth pv.depth; omega) ⟨.bl _, H, I, rfl, p.here hr (.bl _)⟩
      · exact p.elim
    · exact p.elim
  · exact op_inI (cv := cv) (by omega) false pins s σ H _ _ v u Q I rx ry ⟨μ, h, _, _, Z, hr, ra, rb, p⟩
  · exact op_inI (cv := cv) (by omega) true pins s σ H _ _ v u Q I rx ry ⟨μ, h, _, _, Z, hr, ra, rb, p⟩
  · cases rb
    cases ry
    refine wpAny_is_plain (by cases ra <;> first | (cases rx; rfl) | (obtain ⟨t, rfl⟩ := rx; rfl)) (fin_bl I (p.here hr (.bl _)) ?_)
    cases ra <;> first | (cases rx; rfl) | (obtain ⟨t, rfl⟩ := rx; rfl)
  · cases rb
    cases ry
    refine wpAny_isNot_plain (by cases ra <;> first | (cases rx; rfl) | (obtain ⟨t, rfl⟩ := rx; rfl)) (fin_bl I (p.here hr (.bl _)) ?_)
    cases ra <;> first | (cases rx; rfl) | (obtain ⟨t, rfl⟩ := rx; rfl)
  · cases ra; cases rb; cases rx; cases ry
    rename_i b1 b2
    exact wpAny_is_plain rfl (fin_bl I (p.here hr (.bl _)) (by cases b1 <;> cases b2 <;> rfl))
  · cases ra; cases rb; cases rx; cases ry
    rename_i b1 b2
    exact wpAny_isNot_plain rfl (fin_bl I (p.here hr (.bl _)) (by cases b1 <;> cases b2 <;> rfl))
  · exact p.elim
end
end PI
set_option Elab.async false
set_option linter.all false
set_option maxRecDepth 100000
namespace PI
open PySem L2 PySem.Spec
open PyProof.Rows hiding St
noncomputable def RB : List Addr → Hp → Bool → Bool → Prop := fun _ _ b c => b = c
noncomputable def spI (K : PySem.W.Frag) (cv : Nat → Value) (np : Nat) (c : List D → Hh → Res D) : Sp := fun vs H Q E =>
  vs.length = np ∧ ∃ μ h ds, HR K μ h H ∧ Reps K μ H ds vs ∧ PostE K cv (Rep K) μ H (c ds h) Q (fun C H' => E C none H')
noncomputable def bnames : List Str := ["len", "isinstance", "int", "bool", "str", "tuple", "list", "range", "max", "min", "sum", "all", "any", "zip", "reversed", "sorted", "set", "enumerate", "dict", "abs"]
noncomputable def gOf (sc : Scope) (x : Str) : Bool := decide (sc.names.lookup x = some .globalImplicit)
noncomputable def relab (scope osc : Scope) : Scope :=
  { scope with names := scope.names.map fun (n, k) => if (k == .free && osc.kind == .function && osc.names.lookup n == some .cell) then (n, .cell) else (n, k) }
noncomputable def Tg.idx : Tg → List Nat
  | .one i _ => [i]
  | .tup is _ => is.map (·.1)
noncomputable def Tg.ok (sc : Scope) (N : List Str) (t : Tg) : Bool := t.idx.all fun i => decide (i < N.length) && decide (sc.names.lookup (N.getD i "") = some .local)
noncomputable def Tg.okS (N : List Str) (t : Tg) : Bool := t.idx.all fun i => decide (i < N.length)
noncomputable def goodN (x : Str) : Bool := !(x == ("__debug__" : Str)) && !(x == ("__classdict__" : Str))
mutual
noncomputable def E.ok (sc : Scope) (n : Nm) : E → Bool
  | .non _ | .bl _ _ | .int _ _ | .str _ _ => true
  | .var i _ => decide (i < n.N.length)
  | .bin _ a b _ => a.ok sc n && b.ok sc n
  | .un op a _ => a.ok sc n && (match op with | .Not => a.okT | _ => true)
  | .cmp op a b _ => a.ok sc n && b.ok sc n && !behindInMarks op (b.py n)
  | .and a b r _ => a.ok sc n && b.ok sc n && r.ok sc n && a.okT && b.okT && r.okT
  | .or a b r _ => a.ok sc n && b.ok sc n && r.ok sc n && a.okT && b.okT && r.okT
  | .ite c a b _ => c.ok sc n && a.ok sc n && b.ok sc n && c.okT
  | .call f a r _ _ => decide (f < n.F.length) && gOf sc (n.F.getD f "") && a.ok sc n && r.ok sc n
  | .len a _ _ => gOf sc "len" && a.ok sc n
  | .isi T a _ _ _ => gOf sc "isinstance" && gOf sc (tyName T) && decide (T < 5) && a.ok sc n
  | .sub a i _ => a.ok sc n && i.ok sc n
  | .tup es _ => es.ok sc n
  | .ofL l => l.ok sc n
  | .tupE e _ _ => gOf sc "tuple" && e.ok sc n
  | .dicP e _ _ => gOf sc "dict" && e.ok sc n
  | .dispD ks vs _ => vs.ok sc n && decide (ks.length = (vs.py n).length) && decide (ks.length ≤ 15) && decide (0 < ks.length)
  | .cut a lo hi _ _ => a.ok sc n && lo.ok sc n && hi.ok sc n
  | .m0 _ o p1 p => o.ok sc n && decide (p1.endLine = p.line)
  | .m1 _ o a p1 p => o.ok sc n && a.ok sc n && decide (p1.endLine = p.line)
  | .max2 a b _ _ => gOf sc "max" && a.ok sc n && b.ok sc n
  | .c1 f a _ _ => gOf sc f.name && a.ok sc n
  | .cmpN _ a _ _ => a.ok sc n
  | .listR e _ _ _ _ => gOf sc "list" && gOf sc "reversed" && e.ok sc n
  | .join o a p1 p => o.ok sc n && a.ok sc n && decide (p1.endLine = p.line)
  | .gsub x kvs i _ _ => gOf sc x && decide ((x, Cn.dic kvs) ∈ n.G) && i.ok sc n
noncomputable def Eo.ok (sc : Scope) (n : Nm) : Eo → Bool
  | .none => true
  | .some e => e.ok sc n
noncomputable def L.ok (sc : Scope) (n : Nm) : L → Bool
  | .disp es _ => es.ok sc n
  | .comp elt t it c NC cap csc _ => it.ok sc n && compOk sc csc n.N NC cap && decide NC.Nodup && NC.all goodN && t.ok (relab csc sc) NC && elt.ok (relab csc sc) ⟨NC, n.F, n.G⟩ && c.ok (relab csc sc) ⟨NC, n.F, n.G⟩ && c.okT && c.short
noncomputable def I.ok (sc : Scope) (n : Nm) : I → Bool
  | .seq e => e.ok sc n
  | .lst l => l.ok sc n
  | .rng a _ _ => gOf sc "range" && a.ok sc n
  | .rng2 a b _ _ => gOf sc "range" && a.ok sc n && b.ok sc n
  | .rev e _ _ => gOf sc "reversed" && e.ok sc n
noncomputable def Es.ok (sc : Scope) (n : Nm) : Es → Bool
  | .nil => true
  | .cons e r => e.ok sc n && r.ok sc n
noncomputable def E.okT : E → Bool
  | .non _ | .bl _ _ | .int _ _ | .str _ _ => false
  | .ite _ _ _ _ => false
  | .ofL _ => false
  | .dispD _ _ _ => false
  | .un op a _ => match op with | .Not => a.okT | _ => true
  | _ => true
noncomputable def Es.okT : Es → Bool
  | .nil => true
  | .cons e r => e.okT && r.okT
noncomputable def Es.short : Es → Bool
  | .nil => true
  | .cons _ .nil => true
  | .cons _ (.cons _ _) => false
end
noncomputable def TupK (K : PySem.W.Frag) (a : Addr) (xs : List Str) : Prop := ∃ (o : Obj) (its : Array Value) (n : Nat), K.lookup a = some o ∧ o.cls = .type "tuple" ∧ o.data = .seq its n ∧ its.size ≤ sizeLine ∧ Vals (xs.map V.str) its.toList
noncomputable def CvOk (K : PySem.W.Frag) (v : Value) : Cv → Prop
  | .tup xs => ∃ a, v = .ref a ∧ TupK K a xs
  | .int i => ∃ t, v = .int i t
noncomputable def DicV (K : PySem.W.Frag) : List (Str × Cv) → List (Key × Value) → Prop
  | [], [] => True
  | kx :: r, qv :: s => qv.1 = .inr kx.1 ∧ CvOk K qv.2 kx.2 ∧ DicV K r s
  | _, _ => False
noncomputable def CnOk (P : Program) (w : World) (K : PySem.W.Frag) (v : Value) : Cn → Prop
  | .int i => ∃ t, v = .int i t
  | .str x => ∃ t, v = .str x t
  | .tup xs => ∃ a, v = .ref a ∧ TupK K a xs
  | .dic kvs => ∃ a o es ep vs, v = .ref a ∧ K.lookup a = some o ∧ o.ExactDict ∧ o.data = .dict es ep ∧ KeysOf (mixKind P w) es ∧ Pairs (mixKind P w) es.toList vs ∧ (vs.map (·.1)).Nodup ∧ DicV K kvs vs
structure Kx (X : Cx) (Z : ZK) (k : Nat) (n : Nm) (cv : Nat → Value) (cl : Nat → List D → Hh → Res D) : Prop where
  th : Thr X Z
  rm : Room k X.A
  nN : X.N = n.N
  nd : X.N.Nodup
  cm : X.calm = true
  kd : X.env.scope.kind = .function
  nm : ∀ x ∈ n.N, Vis X.env.scope x ∧ goodN x = true
  bm : ∀ x, x ∈ bnames → X.mg x = none
  gc : ∀ x c, (x, c) ∈ n.G → (x == ("__debug__" : Str)) = false ∧ ∃ v, X.mg x = some v ∧ CnOk X.prog X.w X.K v c
  fn : ∀ i x, n.F[i]? = some x → (x == ("__debug__" : Str)) = false ∧ ∃ f fd ps, X.mg x = some (.ref f) ∧ PySem.W.keepIn X.K (.ref f) = true ∧ Binds X.K fd ps [] ∧ (∀ ds h, cl i ds h ≠ .no → ds.length = ps.length) ∧
    FnOk X.prog X.w X.K X.mg X.base (CXs X.prog X.w) k f fd ps (spI X.K cv ps.length (cl i))
theorem Kx.gl {X : Cx} {Z : ZK} {k : Nat} {n : Nm} {cv : Nat → Value} {cl : Nat → List D → Hh → Res D} (C : Kx X Z k n cv cl) {x : Str} (h : gOf X.env.scope x = true) : Gl X x := show X.env.scope.names.lookup x = some .globalImplicit from of_decide_eq_true h
theorem goodN_of {x : Str} (h : goodN x = true) : (x == ("__debug__" : Str)) = false ∧ (x == ("__classdict__" : Str)) = false := by unfold goodN at h; simpa using h
theorem bind_pure {α : Type} (r : Res α) : (r.bind fun a h => .ok a h) = r := by cases r <;> rfl
theorem bind_assoc {α β γ : Type} (r : Res α) (f : α → Hh → Res β) (q : β → Hh → Res γ) : (r.bind f).bind q = r.bind fun a h => (f a h).bind q := by cases r <;> rfl
theorem PE.mono {X : Cx} {e : Expr} {t t' : TE} (p : PE X e t) (h : ∀ σ H Q, t' σ H Q → t σ H Q) : PE X e t' := fun pins s σ H Q I q => p pins s σ H Q I (h σ H Q q)
theorem PT.mono {X : Cx} {e : Expr} {t t' : TT} (p : PT X e t) (h : ∀ σ H Q, t' σ H Q → t σ H Q) : PT X e t' := fun pins s σ H Q I q => p pins s σ H Q I (h σ H Q q)
theorem PW.mono {X : Cx} {e : Expr} {t t' : TT} (p : PW X e t) (h : ∀ σ H Q, t' σ H Q → t σ H Q) : PW X e t' := fun wh pins s σ H Q I q => p wh pins s σ H Q I (h σ H Q q)
theorem PA.mono {X : Cx} {e : List Expr} {t t' : TA} (p : PA X e t) (h : ∀ σ H Q, t' σ H Q → t σ H Q) : PA X e t' := fun ps pins s σ H Q I q => p ps pins s σ H Q I (h σ H Q q)
noncomputable def toB (d : D) (h : Hh) : Res Bool := match d with | .bl b => .ok b h | _ => .no
theorem evT_eq (cl : Nat → List D → Hh → Res D) (e : E) (ρ : En) (h : Hh) : e.evT cl ρ h = (e.ev cl ρ h).bind toB := rfl
section
variable {X : Cx} {Z : ZK} {k : Nat} {n : Nm} {cv : Nat → Value} {cl : Nat → List D → Hh → Res D}
theorem L.py_star (l : L) (r : List Expr) (env : Env) : starEach (l.py n :: r) env = (false, eval (l.py n) env) :: starEach r env := by cases l <;> (unfold L.py; rfl)
theorem star_cons (e : E) (r : List Expr) (env : Env) : starEach (e.py n :: r) env = (false, eval (e.py n) env) :: starEach r env := by
  cases e with
  | ofL l => unfold E.py; exact L.py_star l r env
  | _ => unfold E.py; rfl
theorem star_plain : ∀ (r : Es) (pos : Pos) (env : Env), (backTo pos (starEach (r.py n) env)).any (·.1) = false
  | .nil, _, _ => by unfold Es.py; rfl
  | .cons e r, pos, env => by
    unfold Es.py
    rw [star_cons]
    exact star_plain r pos env
theorem plain_ix (e : E) : PlainIx (e.py n) := by
  intro o i
  cases e with
  | ofL l => cases l <;> (unfold E.py L.py; rfl)
  | _ => unfold E.py; rfl
theorem pt_lift {e : Expr} {m : En → Hh → Res D} (p : PE X e (lift X.K cv (Rep X.K) Z m)) (he : ∀ whole, isTrue e X.env whole = (do let v ← whole; standAt e.pos; holding [v] (truthy v))) :
    PT X e (lift X.K cv RB Z fun ρ h => (m ρ h).bind toB) := by
  refine PT.mono (pt_val p he) fun σ H Q ⟨μ, ρ, h, hr, er, q⟩ => ?_
  refine lift_bind (m := m) hr er q fun a h1 μ1 H1 x _ e1 r1 er1 qa p1 => ?_
  unfold toB at p1
  cases qa with
  | bl b => exact ⟨b, rfl, p1.here r1 rfl⟩
  | _ => exact p1.elim
noncomputable def Es.evAndT (cl : Nat → List D → Hh → Res D) : Es → En → Bool → Hh → Res Bool
  | .nil, _, c, h => .ok c h
  | .cons e r, ρ, c, h => if c then (e.evT cl ρ h).bind fun c' h2 => r.evAndT cl ρ c' h2 else .ok false h
noncomputable def Es.evOrT (cl : Nat → List D → Hh → Res D) : Es → En → Bool → Hh → Res Bool
  | .nil, _, c, h => .ok c h
  | .cons e r, ρ, c, h => if c then .ok true h else (e.evT cl ρ h).bind fun c' h2 => r.evOrT cl ρ c' h2
theorem and_toB : ∀ (r : Es) (ρ : En) (d : D) (h : Hh), (r.evAnd cl ρ d h).bind toB = (toB d h).bind fun c h1 => r.evAndT cl ρ c h1
  | .nil, ρ, d, h => by unfold Es.evAnd Es.evAndT; rw [bind_pure]; rfl
  | .cons e r, ρ, d, h => by
    unfold Es.evAnd Es.evAndT tru
    cases d with
    | bl b =>
      cases b with
      | false => rfl
      | true =>
        show (((e.ev cl ρ h).bind fun y h2 => r.evAnd cl ρ y h2).bind toB) = ((e.ev cl ρ h).bind toB).bind fun c' h2 => r.evAndT cl ρ c' h2
        rw [bind_assoc, bind_assoc]
        congr 1
        funext y h2
        exact and_toB r ρ y h2
    | _ => rfl
theorem or_toB : ∀ (r : Es) (ρ : En) (d : D) (h : Hh), (r.evOr cl ρ d h).bind toB = (toB d h).bind fun c h1 => r.evOrT cl ρ c h1
  | .nil, ρ, d, h => by unfold Es.evOr Es.evOrT; rw [bind_pure]; rfl
  | .cons e r, ρ, d, h => by
    unfold Es.evOr Es.evOrT tru
    cases d with
    | bl b =>
      cases b with
      | true => rfl
      | false =>
        show (((e.ev cl ρ h).bind fun y h2 => r.evOr cl ρ y h2).bind toB) = ((e.ev cl ρ h).bind toB).bind fun c' h2 => r.evOrT cl ρ c' h2
        rw [bind_assoc, bind_assoc]
        congr 1
        funext y h2
        exact or_toB r ρ y h2
    | _ => rfl
end
end PI
set_option Elab.async false
set_option linter.all false
set_option maxRecDepth 100000
set_option maxHeartbeats 4000000
namespace PI
open PySem L2 PySem.Spec
open PyProof.Rows hiding St
section
variable {X : Cx} {Z : ZK} {k : Nat} {n : Nm} {cv : Nat → Value} {cl : Nat → List D → Hh → Res D}
structure SE (X : Cx) (Z : ZK) (n : Nm) (cv : Nat → Value) (cl : Nat → List D → Hh → Res D) (e : E) : Prop where
  pe : PE X (e.py n) (lift X.K cv (Rep X.K) Z (e.ev cl))
  pt : e.okT = true → PT X (e.py n) (lift X.K cv RB Z (e.evT cl))
noncomputable def PsOk (X : Cx) (Z : ZK) (n : Nm) (cv : Nat → Value) (cl : Nat → List D → Hh → Res D) (r : Es) : Prop := ∀ (ks : List (Str × Pos)) (pos : Pos), ks.length = (r.py n).length →
  ∃ trs, PPs X pos (ks.map fun q => some (.Constant (.str q.1) 0 q.2)) (r.py n) trs ∧ ∀ σ H (Q : List (V × V) → Hp → Prop), lift X.K cv (Reps X.K) Z (r.ev cl) σ H (fun us H' => Q ((ks.map fun q => V.str q.1).zip us) H') → tPairs trs σ H Q
structure SEs (X : Cx) (Z : ZK) (n : Nm) (cv : Nat → Value) (cl : Nat → List D → Hh → Res D) (r : Es) : Prop where
  pa : PA X (r.py n) (lift X.K cv (Reps X.K) Z (r.ev cl))
  an : ∀ (b : E) (p : Pos), SE X Z n cv cl b → PE X (.BoolOp .And (b.py n :: r.py n) p) (lift X.K cv (Rep X.K) Z fun ρ h => (b.ev cl ρ h).bind fun y h2 => r.evAnd cl ρ y h2)
  anT : ∀ (b : E) (p : Pos), SE X Z n cv cl b → b.okT = true → r.okT = true → PW X (.BoolOp .And (b.py n :: r.py n) p) (lift X.K cv RB Z fun ρ h => (b.evT cl ρ h).bind fun c h2 => r.evAndT cl ρ c h2)
  orr : ∀ (b : E) (p : Pos), SE X Z n cv cl b → PE X (.BoolOp .Or (b.py n :: r.py n) p) (lift X.K cv (Rep X.K) Z fun ρ h => (b.ev cl ρ h).bind fun y h2 => r.evOr cl ρ y h2)
  orT : ∀ (b : E) (p : Pos), SE X Z n cv cl b → b.okT = true → r.okT = true → PW X (.BoolOp .Or (b.py n :: r.py n) p) (lift X.K cv RB Z fun ρ h => (b.evT cl ρ h).bind fun c h2 => r.evOrT cl ρ c h2)
  ps : PsOk X Z n cv cl r
theorem lift_C {v : V} {d : D} {Q : VK} {σ : St} {H : Hp} (hv : ∀ K μ H, Rep K μ H d v) (p : lift X.K cv (Rep X.K) Z (fun _ h => .ok d h) σ H Q) : tC v σ H Q := by
  obtain ⟨μ, ρ, h, hr, er, q⟩ := p
  exact q.here hr (hv _ _ _)
theorem lift2 {f : D → D → Hh → Res D} {a b : E} {σ : St} {H : Hp} {Q : VK} (p : lift X.K cv (Rep X.K) Z (fun ρ h => (a.ev cl ρ h).bind fun x h1 => (b.ev cl ρ h1).bind fun y h2 => f x y h2) σ H Q) :
    tOp (r2 X.K cv f) (lift X.K cv (Rep X.K) Z (a.ev cl)) (lift X.K cv (Rep X.K) Z (b.ev cl)) σ H Q := by
  obtain ⟨μ, ρ, h, hr, er, q⟩ := p
  refine lift_bind (m := a.ev cl) hr er q fun da h1 μ1 H1 x _ e1 r1 er1 qa p1 => ?_
  refine lift_bind (m := b.ev cl) r1 er1 p1 fun db h2 μ2 H2 y _ e2 r2 er2 qb p2 => ?_
  exact ⟨μ2, h2, da, db, _, r2, qa.mono e2, qb, p2⟩
theorem lift1 {f : D → Hh → Res D} {a : E} {σ : St} {H : Hp} {Q : VK} (p : lift X.K cv (Rep X.K) Z (fun ρ h => (a.ev cl ρ h).bind fun x h1 => f x h1) σ H Q) :
    tUn (r1 X.K cv f) (lift X.K cv (Rep X.K) Z (a.ev cl)) σ H Q := by
  obtain ⟨μ, ρ, h, hr, er, q⟩ := p
  refine lift_bind (m := a.ev cl) hr er q fun da h1 μ1 H1 x _ e1 r1 er1 qa p1 => ?_
  exact ⟨μ1, h1, da, _, r1, qa, p1⟩
theorem un_op (op : UnaryOp) (h : op = .Invert ∨ op = .USub) : UnR X (unaryOp op) (r1 X.K cv (unD op)) := by
  intro pins s σ H x v Q I rx hh
  obtain ⟨μ, h', a, Z', hr, ra, p⟩ := hh
  rcases h with rfl | rfl
  · unfold unD at p
    cases ra with
    | int i => exact un_inv pins s σ H _ v Q I rx ⟨i, rfl, p.here hr (.int _)⟩
    | _ => exact p.elim
  · unfold unD at p
    cases ra with
    | int i => exact un_neg pins s σ H _ v Q I rx ⟨i, rfl, p.here hr (.int _)⟩
    | _ => exact p.elim
theorem ix_dict (hu : X.A.units + 1 < cLine) : IxR X (fun x y H Q => ∃ a v, x = .ref a ∧ DGet H a y (some v) ∧ Q v H) := by
  intro value slice pins s σ H x y v u Q I rx ry h hs
  obtain ⟨a, w, rfl, g, q⟩ := h
  cases rx
  have ty : s.TypeIs (.ref a) "dict" := by
    rcases g with ⟨kvs, k, e, ey, l⟩ | ⟨kvs, k, b, e, ey, eb, l⟩
    · obtain ⟨_, _, vs, _, o, es, ep, e1, ex, _⟩ := e.ok I.hok
      exact ⟨o, e1, ex.1⟩
    · obtain ⟨_, _, xs, _, o, es, ep, e1, ex, _⟩ := e.ok I.hok
      exact ⟨o, e1, ex.1⟩
  exact tail_any ty slot_dict_getitem.lookup (d_getItem hu I g ry fun w' s' I' r' => ⟨w, H, I', r', q⟩) hs
theorem RepKs.val {K : PySem.W.Frag} {μ : List Addr} {H : Hp} {k : Key} {d : D} : ∀ {ds : List (Key × D)} {vs : List (Key × V)}, RepKs K μ H ds vs → valD ds k = some d → ∃ v, valV vs k = some v ∧ Rep K μ H d v
  | _, _, .nil, e => by unfold valD at e; simp at e
  | _, _, .cons (k := k') (d := d') (v := v') h r, e => by
    by_cases hk : k' = k
    · rw [valV_pos (p := (k', v')) hk]
      unfold valD at e
      rw [List.find?_cons_of_pos (by simpa using hk)] at e
      cases e
      exact ⟨_, rfl, h⟩
    · rw [valV_neg (p := (k', v')) hk]
      unfold valD at e
      rw [List.find?_cons_of_neg (by simpa using hk)] at e
      exact RepKs.val r e
theorem keyD_rep {K : PySem.W.Frag} {μ : List Addr} {H : Hp} {d : D} {v : V} {k : Key} (r : Rep K μ H d v) (e : keyD d = some k) : v = kV k := by
  unfold keyD at e
  cases r <;> first | (cases e; rfl) | cases e
theorem DicV.at {K : PySem.W.Frag} {k : Str} {c : Cv} : ∀ {kvs : List (Str × Cv)} {vs : List (Key × Value)}, DicV K kvs vs → kvs.lookup k = some c → ∃ v, valueAt vs (Sum.inr k : Key) = some v ∧ CvOk K v c
  | [], [], _, e => by cases e
  | [], _ :: _, h, _ => h.elim
  | _ :: _, [], h, _ => h.elim
  | (k', ys) :: r, (q, v) :: s, ⟨h1, h2, h4⟩, e => by
    rw [List.lookup_cons] at e
    by_cases hk : k = k'
    · subst hk
      simp only [beq_self_eq_true] at e
      cases e
      refine ⟨v, ?_, h2⟩
      unfold valueAt
      rw [List.find?_cons_of_pos (by simpa using h1)]
      rfl
    · have hb : (k == k') = false := by simpa using hk
      rw [hb] at e
      obtain ⟨b, e1, e2⟩ := DicV.at h4 e
      refine ⟨b, ?_, e2⟩
      unfold valueAt at e1 ⊢
      rw [List.find?_cons_of_neg (by
        have h1' : q = Sum.inr k' := h1
        simp only [decide_eq_true_eq]
        intro z
        rw [h1'] at z
        exact hk (Sum.inr.inj z).symm)]
      exact e1
noncomputable def CvV (K : PySem.W.Frag) (u : V) : Cv → Prop
  | .tup xs => ∃ a, u = .ref a ∧ TupK K a xs
  | .int i => u = .int i
theorem CvOk.v {K : PySem.W.Frag} {v : Value} {c : Cv} (h : CvOk K v c) : ∃ u, RelV u v ∧ CvV K u c := by
  cases c with
  | tup xs => obtain ⟨a, rfl, t⟩ := h; exact ⟨.ref a, rfl, a, rfl, t⟩
  | int i => obtain ⟨t, rfl⟩ := h; exact ⟨.int i, ⟨t, rfl⟩, rfl⟩
theorem ix_cst {kvs : List (Str × Cv)} : IxR X (fun x y H Q => ∃ a k c, x = .ref a ∧ y = .str k ∧ CnOk X.prog X.w X.K (.ref a) (.dic kvs) ∧ kvs.lookup k = some c ∧ ∀ u, CvV X.K u c → Q u H) := by
  intro value slice pins s σ H x y v u Q I rx ry h hs
  obtain ⟨a, k, xs, rfl, rfl, ok, l, q⟩ := h
  cases rx
  obtain ⟨a', o, es, ep, vs, ea, e1, ex, ed, ks, ps, nd, dv⟩ := ok
  cases ea
  obtain ⟨b, e2, tk⟩ := dv.at l
  obtain ⟨bu, tr, tk⟩ := tk.v
  have eh := I.kIn a o e1
  have dd : s.heap.DictOf (mixKind X.prog X.w) a vs := ⟨o, es, ep, eh, ex, ed, ks, ps, nd⟩
  exact tail_any ⟨o, eh, ex.1⟩ slot_dict_getitem.lookup (wpAny_getItem_of (kV_is (k := .inr k) ry) dd.mapOf e2 ⟨bu, H, I.tok _, tr, q bu tk⟩) hs
theorem TupK.rep {K : PySem.W.Frag} {μ : List Addr} {H : Hp} {a : Addr} {xs : List Str} (h : TupK K a xs) : Rep K μ H (.tup (xs.map .str)) (.ref a) := by
  have rs : ∀ ys : List Str, Reps K μ H (ys.map D.str) (ys.map V.str) := fun ys => by
    induction ys with
    | nil => exact .nil
    | cons y r ih => exact .cons (.str y) ih
  exact .tup (.inr h) (rs xs)
theorem CvV.rep {K : PySem.W.Frag} {μ : List Addr} {H : Hp} {u : V} {c : Cv} (h : CvV K u c) : Rep K μ H c.d u := by
  cases c with
  | tup xs => obtain ⟨a, rfl, t⟩ := h; exact t.rep
  | int i => cases h; exact .int i
theorem ix_ours (hu : X.A.units + 1 < cLine) : IxR X (r2 X.K cv subD) := by
  intro value slice pins s σ H x y v u Q I rx ry hh hs
  obtain ⟨μ, h, a, b, Z', hr, ra, rb, p⟩ := hh
  cases ra with
  | tup h1 h2 =>
    cases rb with
    | int k =>
      rw [sub_tup] at p
      split at p
      · rename_i d e
        obtain ⟨w, e1, e2⟩ := h2.atI e
        exact ix_tup value slice pins s σ H _ _ v u Q I rx ry ⟨_, _, _, w, rfl, rfl, h1, e1, p.here hr e2⟩ hs
      · exact p.elim
    | _ => exact p.elim
  | fl h1 h2 =>
    cases rb with
    | int k =>
      rw [sub_fl] at p
      split at p
      · rename_i d e
        obtain ⟨w, e1, e2⟩ := h2.atI e
        exact ix_list value slice pins s σ H _ _ v u Q I rx ry ⟨_, _, _, w, rfl, rfl, h1.sq, e1, p.here hr e2⟩ hs
      · exact p.elim
    | _ => exact p.elim
  | str z =>
    cases rb with
    | int k =>
      rw [sub_str] at p
      split at p
      · rename_i c
        split at p
        · rename_i d e
          exact ix_str value slice pins s σ H _ _ v u Q I rx ry ⟨_, _, _, rfl, rfl, line_le c, e, p.here hr (.str _)⟩ hs
        · exact p.elim
      · exact p.elim
    | _ => exact p.elim
  | @loc nn a m =>
    rw [sub_loc] at p
    cases e1 : h[nn]? with
    | none => rw [e1] at p; exact p.elim
    | some o =>
      rw [e1] at p
      have q := hr.obj nn a o m e1
      cases o with
      | lst xs =>
        obtain ⟨vs, q1, q2⟩ := q
        cases rb with
        | int k =>
          cases e2 : atI xs k with
          | none => simp only [e2] at p; exact p.elim
          | some d =>
            simp only [e2] at p
            obtain ⟨w, e3, e4⟩ := q2.atI e2
            exact ix_list value slice pins s σ H _ _ v u Q I rx ry ⟨_, _, _, w, rfl, rfl, SqL.of q1, e3, p.here hr e4⟩ hs
        | _ => exact p.elim
      | dK kvs =>
        obtain ⟨vs, q1, q2⟩ := q
        cases e2 : keyD b with
        | none => simp only [e2, Option.bind_none] at p; exact p.elim
        | some k =>
          simp only [e2, Option.bind_some] at p
          cases e3 : valD kvs k with
          | none => simp only [e3] at p; exact p.elim
          | some d =>
            simp only [e3] at p
            obtain ⟨w, e4, e5⟩ := q2.val e3
            have ey := keyD_rep rb e2
            subst ey
            exact ix_dict hu value slice pins s σ H _ _ v u Q I rx ry ⟨_, w, rfl, e4 ▸ DGet.k q1, p.here hr e5⟩ hs
  | _ => exact p.elim
noncomputable def rLen (K : PySem.W.Frag) (cv : Nat → Value) : List V → Hp → VK → Prop := fun xs H Q => ∃ x, xs = [x] ∧ r1 K cv lenD x H Q
theorem call_lenI : CallR X (.builtin "len") (rLen X.K cv) := by
  intro pins s σ H xs us Q I r hh
  obtain ⟨x, rfl, μ, h, a, Z', hr, ra, p⟩ := hh
  refine call_len pins s σ H _ us Q I r ⟨x, ?_⟩
  cases ra with
  | tup h1 h2 => exact ⟨_, rfl, .inr ⟨_, h1, h2.length⟩, p.here hr (.int _)⟩
  | @loc nn b m =>
    rw [len_loc] at p
    cases e1 : rd h nn with
    | none => rw [e1] at p; exact p.elim
    | some ys =>
      rw [e1] at p
      obtain ⟨vs, hs1, rs⟩ := hr.rd e1 m
      exact ⟨_, rfl, .inl ⟨_, hs1, rs.length⟩, p.here hr (.int _)⟩
  | fl h1 h2 => exact ⟨_, rfl, .inl ⟨_, h1.sq, h2.length⟩, p.here hr (.int _)⟩
  | str y =>
    rw [len_str] at p
    split at p
    · rename_i c; exact ⟨_, rfl, ⟨line_le c, rfl⟩, p.here hr (.int _)⟩
    · exact p.elim
  | _ => exact p.elim
noncomputable def isD (T : Nat) (d : D) (h : Hh) : Res D := match isI h d T with | some b => .ok (.bl b) h | none => .no
theorem call_isI (T : Nat) (hT : T < 5) : CallR X (.builtin "isinstance") (fun xs H Q => ∃ x, xs = [x, .ty (tyStr T)] ∧ r1 X.K cv (isD T) x H Q) := by
  intro pins s σ H xs us Q I r hh
  obtain ⟨x, rfl, μ, h, a, Z', hr, ra, p⟩ := hh
  obtain ⟨u, w', rfl, rx, rw'⟩ := vals2 r
  cases (show w' = Value.type (tyStr T) from rw')
  unfold isD at p
  have key : ∀ (b : Bool), Q (.bl b) H → ∀ tk, EP X pins σ Q (.bool b) { s with toks := tk } := fun b q tk => ⟨.bl b, H, I.tok _, rfl, q⟩
  cases ra with
  | non =>
    have p1 : Q (.bl false) H := p.here hr (.bl _)
    refine isinst_ok I rx .non (b := false) ?_ (key _ p1)
    match T, hT with | 0, _ => rfl | 1, _ => rfl | 2, _ => rfl | 3, _ => rfl | 4, _ => rfl
  | bl y =>
    have p1 : Q (.bl (T == 0 || T == 1)) H := p.here hr (.bl _)
    refine isinst_ok I rx (.bl y) (b := (T == 0 || T == 1)) ?_ (key _ p1)
    match T, hT with | 0, _ => rfl | 1, _ => rfl | 2, _ => rfl | 3, _ => rfl | 4, _ => rfl
  | int y =>
    have p1 : Q (.bl (T == 0)) H := p.here hr (.bl _)
    refine isinst_ok I rx (.int y) (b := (T == 0)) ?_ (key _ p1)
    match T, hT with | 0, _ => rfl | 1, _ => rfl | 2, _ => rfl | 3, _ => rfl | 4, _ => rfl
  | str y =>
    have p1 : Q (.bl (T == 2)) H := p.here hr (.bl _)
    refine isinst_ok I rx (.str y) (b := (T == 2)) ?_ (key _ p1)
    match T, hT with | 0, _ => rfl | 1, _ => rfl | 2, _ => rfl | 3, _ => rfl | 4, _ => rfl
  | tup h1 h2 =>
    have p1 : Q (.bl (T == 3)) H := p.here hr (.bl _)
    cases rx
    obtain ⟨its, rv, ⟨o, g1, g2, _⟩, _⟩ := I.tuple h1
    refine PySem.W.kia_one PySem.W.kitx_tuple I.kIn ⟨_, g1, g2⟩ (b := (T == 3)) ?_ (fun z => nomatch z) (key _ p1)
    match T, hT with | 0, _ => rfl | 1, _ => rfl | 2, _ => rfl | 3, _ => rfl | 4, _ => rfl
  | fl h1 h2 =>
    have p1 : Q (.bl (T == 4)) H := p.here hr (.bl _)
    cases rx
    obtain ⟨its, rv, ⟨o, n', g1, g2, _⟩, _⟩ := I.list h1.sq
    refine PySem.W.kia_one PySem.W.kitx_list I.kIn ⟨_, g1, g2⟩ (b := (T == 4)) ?_ (fun z => nomatch z) (key _ p1)
    match T, hT with | 0, _ => rfl | 1, _ => rfl | 2, _ => rfl | 3, _ => rfl | 4, _ => rfl
  | @loc nn b m =>
    cases e1 : rd h nn with
    | none => rw [show isI h (.loc nn) T = (rd h nn).map fun _ => T == 4 from rfl, e1] at p; exact p.elim
    | some ys =>
      rw [show isI h (.loc nn) T = (rd h nn).map fun _ => T == 4 from rfl, e1] at p
      have p1 : Q (.bl (T == 4)) H := p.here hr (.bl _)
      obtain ⟨vs, hs1, rs⟩ := hr.rd e1 m
      cases rx
      obtain ⟨its, rv, ⟨o, n', g1, g2, _⟩, _⟩ := I.list hs1
      refine PySem.W.kia_one PySem.W.kitx_list I.kIn ⟨_, g1, g2⟩ (b := (T == 4)) ?_ (fun z => nomatch z) (key _ p1)
      match T, hT with | 0, _ => rfl | 1, _ => rfl | 2, _ => rfl | 3, _ => rfl | 4, _ => rfl
end
end PI
set_option Elab.async false
set_option linter.all false
set_option maxRecDepth 100000
set_option maxHeartbeats 4000000
namespace PI
open PySem L2 PySem.Spec
open PyProof.Rows hiding St
section
variable {X : Cx} {Z : ZK} {k : Nat} {n : Nm} {cv : Nat → Value} {cl : Nat → List D → Hh → Res D}
noncomputable def rM0 (K : PySem.W.Frag) (cv : Nat → Value) (m : M0) : V → List V → Hp → VK → Prop := fun x vs H Q => vs = [] ∧ r1 K cv (m0D m) x H Q
noncomputable def rM1 (K : PySem.W.Frag) (cv : Nat → Value) (m : M1) : V → List V → Hp → VK → Prop := fun x vs H Q => ∃ y, vs = [y] ∧ r2 K cv (m1D m) x y H Q
theorem lst_of {K : PySem.W.Frag} {μ : List Addr} {H : Hp} {h : Hh} (hr : HR K μ h H) {n : Nat} {a : Addr} {xs : List D} (m : μ[n]? = some a) (e : h[n]? = some (.lst xs)) : ∃ vs, H a = some (.lst vs) ∧ Reps K μ H xs vs := hr.obj n a _ m e
theorem Reps.reverse {K : PySem.W.Frag} {μ : List Addr} {H : Hp} : ∀ {ds : List D} {vs : List V}, Reps K μ H ds vs → Reps K μ H ds.reverse vs.reverse
  | _, _, .nil => .nil
  | _, _, .cons h r => by rw [List.reverse_cons, List.reverse_cons]; exact r.reverse.append (.cons h .nil)
theorem Reps.dropLast {K : PySem.W.Frag} {μ : List Addr} {H : Hp} : ∀ {ds : List D} {vs : List V}, Reps K μ H ds vs → Reps K μ H ds.dropLast vs.dropLast
  | _, _, .nil => .nil
  | _, _, .cons h .nil => .nil
  | _, _, .cons h (.cons h' r) => .cons h (Reps.dropLast (.cons h' r))
theorem Reps.set {K : PySem.W.Frag} {μ : List Addr} {H : Hp} {d : D} {v : V} (q : Rep K μ H d v) : ∀ {ds : List D} {vs : List V} (i : Nat), Reps K μ H ds vs → Reps K μ H (ds.set i d) (vs.set i v)
  | _, _, _, .nil => .nil
  | _, _, 0, .cons _ r => .cons q r
  | _, _, i + 1, .cons h r => .cons h (Reps.set q i r)
theorem Reps.take {K : PySem.W.Frag} {μ : List Addr} {H : Hp} : ∀ {ds : List D} {vs : List V} (i : Nat), Reps K μ H ds vs → Reps K μ H (ds.take i) (vs.take i)
  | _, _, 0, _ => .nil
  | _, _, _ + 1, .nil => .nil
  | _, _, i + 1, .cons h r => .cons h (Reps.take i r)
theorem Reps.drop {K : PySem.W.Frag} {μ : List Addr} {H : Hp} : ∀ {ds : List D} {vs : List V} (i : Nat), Reps K μ H ds vs → Reps K μ H (ds.drop i) (vs.drop i)
  | _, _, 0, r => r
  | _, _, _ + 1, .nil => .nil
  | _, _, i + 1, .cons _ r => Reps.drop i r
theorem Reps.cut {K : PySem.W.Frag} {μ : List Addr} {H : Hp} {ds : List D} {vs : List V} (r : Reps K μ H ds vs) (lo hi : Option Int) : Reps K μ H (cutXs ds lo hi) (cutV vs lo hi) := by
  unfold cutXs cutV
  rw [← r.length]
  exact (r.drop _).take _
theorem mt_pop0 : MtR X "list.pop" (rM0 X.K cv .pop) := by
  intro pins s σ H x xs v us Q I rx rs hh
  obtain ⟨rfl, μ, h, a, Z', hr, ra, p⟩ := hh
  unfold m0D at p
  cases ra with
  | @loc nn b m =>
    cases e1 : h[nn]? with
    | none => simp only [e1] at p; exact p.elim
    | some o =>
      cases o with
      | dK _ => simp only [e1] at p; exact p.elim
      | lst ds =>
        simp only [e1] at p
        obtain ⟨vs, q1, q2⟩ := lst_of hr m e1
        cases e2 : ds.getLast? with
        | none => simp only [e2] at p; exact p.elim
        | some d =>
          simp only [e2] at p
          rw [List.getLast?_eq_getElem?] at e2
          obtain ⟨w, e3, e4⟩ := q2.get e2
          rw [q2.length] at e3
          obtain ⟨hr', ex⟩ := hr.chg (u := .lst vs.dropLast) (o' := .lst ds.dropLast) e1 m fun H' ex e => ⟨_, e, (q2.mono ex).dropLast⟩
          exact mt_pop pins s σ H _ _ v us Q I rx rs ⟨b, vs, w, rfl, rfl, q1, e3, p μ _ w ex hr' (e4.mono ex)⟩
  | _ => exact p.elim
theorem mt_append1 : MtR X "list.append" (rM1 X.K cv .append) := by
  intro pins s σ H x xs v us Q I rx rs hh
  obtain ⟨y, rfl, μ, h, a, d, Z', hr, ra, rb, p⟩ := hh
  unfold m1D at p
  cases ra with
  | @loc nn b m =>
    cases e1 : h[nn]? with
    | none => simp only [e1] at p; exact p.elim
    | some o =>
      cases o with
      | dK _ => simp only [e1] at p; exact p.elim
      | lst ds =>
        simp only [e1] at p
        obtain ⟨vs, q1, q2⟩ := lst_of hr m e1
        split at p
        · rename_i c
          obtain ⟨hr', ex⟩ := hr.chg (u := .lst (vs ++ [y])) (o' := .lst (ds ++ [d])) e1 m fun H' ex e => ⟨_, e, (q2.mono ex).append (.cons (rb.mono ex) .nil)⟩
          exact mt_append pins s σ H _ _ v us Q I rx rs ⟨b, vs, y, rfl, rfl, q1, by rw [← q2.length]; exact line_lt c, p μ _ .non ex hr' .non⟩
        · exact p.elim
  | _ => exact p.elim
theorem meets_extT (l b : Addr) (xs ys : Array Value) (n m : Nat) (dd : Option Addr) (ss : Array (Option Value)) (h0 : ¬(!xs.isEmpty && Builtin.List.listTooLong (xs.size + ys.size)) = true) (h1 : xs.size ≤ sizeLine) (h2 : xs.size + ys.size ≤ sizeLine + 1) :
    Meets (Builtin.«list.extend» ⟨[.ref l, .ref b], []⟩) (fun _ R s =>
      s.heap.get? l = some { cls := .type "list", data := .seq xs n } ∧
      s.heap.get? b = some ⟨.type "tuple", dd, .seq ys m, ss⟩ ∧
      R (.ok (.ret Value.none)) { s with heap := s.heap.update l (Obj.mapSeq fun x => x ++ ys), toks := s.toks }) :=
  .of_wp fun prog w A R s h => by
    obtain ⟨hp, g, d, tk, os⟩ := s
    obtain ⟨hl, hb, h⟩ := h
    have f1 := AutoSeq1.idx_int
    have f2 := AutoSeq1.sub_list_tuple
    have f3 := AutoSeq1.sub_tuple_list
    have f4 := AutoSeq1.sub_tuple_tuple
    have f5 := AutoSeq1.sub_list_list
    have hz : (xs ++ ys).size ≤ sizeLine + 1 := by rw [Array.size_append]; exact h2
    wp_walk using (wpAny_updateSeq hl rfl (hz := h1) (_hz' := hz)), AutoSeq1.wpAny_loadPart' hl, AutoSeq1.wpAny_loadPart' hb
    exact ⟨_, rfl, h⟩
noncomputable def rExtT (K : PySem.W.Frag) : V → List V → Hp → VK → Prop := fun x vs H Q => ∃ l b xs zs, x = .ref l ∧ vs = [.ref b] ∧ H l = some (.lst xs) ∧ SqT K H b zs ∧ xs.length + zs.length ≤ sizeLine ∧ Q .non (upd H l (.lst (xs ++ zs)))
theorem mt_extT {X : Cx} : MtM X "list.extend" (rExtT X.K) := by
  intro pins s σ H x vs v us Q I rx rv h
  obtain ⟨l, b, xs, zs, rfl, rfl, hH, hB, hz, q⟩ := h
  cases rx
  obtain ⟨u, rfl, ru⟩ := rv.one
  cases ru
  obtain ⟨z, its, n, r, hl, e⟩ := I.lstM hH
  obtain ⟨its2, r2, ⟨o, e2, oc, m, od⟩, z2⟩ := I.tuple hB
  obtain ⟨oc', dd, od', ss⟩ := o
  cases oc
  cases od
  have hl2 := r2.length
  have hsz : its.toArray.size + its2.toArray.size ≤ sizeLine := by simp only [List.size_toArray]; omega
  have hlong : ¬ (!its.toArray.isEmpty && Builtin.List.listTooLong (its.toArray.size + its2.toArray.size)) = true := by rw [notLongL hsz, Bool.and_false]; exact Bool.false_ne_true
  refine call_meets F.slot_list_extend ⟨_, e, rfl⟩ F.entry_list_extend (F.args_list_extend_2 _ _) (meets_extT l b its.toArray its2.toArray n m dd ss hlong (by simp only [List.size_toArray]; omega) (by omega)) ⟨e, e2, ?_⟩
  refine ⟨.non, _, I.lset (its' := its ++ its2) hH e (by simp) (r.append r2) (by rw [List.length_append]; omega), rfl, q⟩
theorem mt_extend1 : MtR X "list.extend" (rM1 X.K cv .extend) := by
  intro pins s σ H x xs v us Q I rx rs hh
  obtain ⟨y, rfl, μ, h, a, d, Z', hr, ra, rb, p⟩ := hh
  unfold m1D at p
  cases ra with
  | @loc nn b m =>
    cases e1 : h[nn]? with
    | none => simp only [e1] at p; exact p.elim
    | some o =>
      cases o with
      | dK _ => simp only [e1] at p; exact p.elim
      | lst ds =>
        simp only [e1] at p
        obtain ⟨vs, q1, q2⟩ := lst_of hr m e1
        cases rb with
        | @loc nm b2 m2 =>
          cases e2 : h[nm]? with
          | none => simp only [e2] at p; exact p.elim
          | some o2 =>
            cases o2 with
            | dK _ => simp only [e2] at p; exact p.elim
            | lst ds2 =>
              simp only [e2] at p
              obtain ⟨vs2, q3, q4⟩ := lst_of hr m2 e2
              split at p
              · rename_i c
                obtain ⟨hr', ex⟩ := hr.chg (u := .lst (vs ++ vs2)) (o' := .lst (ds ++ ds2)) e1 m fun H' ex e => ⟨_, e, (q2.mono ex).append (q4.mono ex)⟩
                exact mt_extend pins s σ H _ _ v us Q I rx rs ⟨b, b2, vs, vs2, rfl, rfl, q1, q3, by rw [← q2.length, ← q4.length]; exact line_le c, p μ _ .non ex hr' .non⟩
              · exact p.elim
        | @tup ds2 vs2 b2 q3 q4 =>
          simp only at p
          split at p
          · rename_i c
            obtain ⟨hr', ex⟩ := hr.chg (u := .lst (vs ++ vs2)) (o' := .lst (ds ++ ds2)) e1 m fun H' ex e => ⟨_, e, (q2.mono ex).append (q4.mono ex)⟩
            exact mt_extT pins s σ H _ _ v us Q I rx rs ⟨b, b2, vs, vs2, rfl, rfl, q1, q3, by rw [← q2.length, ← q4.length]; exact line_le c, p μ _ .non ex hr' .non⟩
          · exact p.elim
        | _ => exact p.elim
  | _ => exact p.elim
noncomputable def rCut (K : PySem.W.Frag) (cv : Nat → Value) : V → Option Int → Option Int → Hp → VK → Prop := fun x lo hi H Q => ∃ μ h a Z, HR K μ h H ∧ Rep K μ H a x ∧ PostE K cv (Rep K) μ H (cutD a lo hi h) Q Z
theorem new_loc {K : PySem.W.Frag} {cv : Nat → Value} {μ : List Addr} {H : Hp} {h : Hh} {ds : List D} {vs : List V} {Q : VK} {Z : Value → Hp → Prop} (hr : HR K μ h H) (r : Reps K μ H ds vs) (p : PostE K cv (Rep K) μ H (new (.lst ds) h) Q Z) :
    ∀ b, H b = none → Q (.ref b) (upd H b (.lst vs)) := fun b hb => by
  refine p _ _ _ ((ext_new hb).add hb) (hr.alloc hb (hr.fresh hb) fun μ' g => ⟨_, upd_same, (r.mono (ext_new hb)).mono' g⟩) (.loc ?_)
  rw [← hr.len, List.getElem?_append_right (Nat.le_refl _), Nat.sub_self]
  rfl
theorem cut_tup {xs : List D} {lo hi : Option Int} {h : Hh} : cutD (.tup xs) lo hi h = if HT.sIx xs.length 0 lo = 0 ∧ HT.sIx xs.length xs.length hi = xs.length then .ok (.tup xs) h else .ok (.tup (cutXs xs lo hi)) h := rfl
theorem cut_loc {n : Nat} {lo hi : Option Int} {h : Hh} : cutD (.loc n) lo hi h = match rd h n with | some xs => new (.lst (cutXs xs lo hi)) h | none => .no := rfl
theorem sl_ours : SlR X (rCut X.K cv) := by
  intro pins s σ H x v vl vu lo hi sl Q I rx hs pl pu hh
  obtain ⟨μ, h, a, Z', hr, ra, p⟩ := hh
  cases ra with
  | tup h1 h2 =>
    rw [cut_tup] at p
    split at p
    · rename_i c
      rw [h2.length] at c
      exact sl_tupW pins s σ H _ v vl vu lo hi sl Q I rx hs pl pu ⟨_, _, rfl, h1, c.1, c.2, p.here hr (.tup h1 h2)⟩
    · rename_i c
      rw [h2.length] at c
      exact sl_tup pins s σ H _ v vl vu lo hi sl Q I rx hs pl pu ⟨_, _, rfl, h1, c, fun b hb => p μ _ _ (ext_new hb) (hr.tup hb) (.tup (SqT.of upd_same) ((h2.cut lo hi).mono (ext_new hb)))⟩
  | fl h1 h2 => exact sl_list pins s σ H _ v vl vu lo hi sl Q I rx hs pl pu ⟨_, _, rfl, h1.sq, new_loc hr (h2.cut lo hi) p⟩
  | @loc nn b m =>
    rw [cut_loc] at p
    cases e1 : rd h nn with
    | none => simp only [e1] at p; exact p.elim
    | some xs =>
      simp only [e1] at p
      obtain ⟨vs, hs1, rs⟩ := hr.rd e1 m
      exact sl_list pins s σ H _ v vl vu lo hi sl Q I rx hs pl pu ⟨_, _, rfl, hs1, new_loc hr (rs.cut lo hi) p⟩
  | _ => exact p.elim
theorem seqOf_rep {K : PySem.W.Frag} {μ : List Addr} {H : Hp} {h : Hh} {d : D} {v : V} {xs : List D} (hr : HR K μ h H) (r : Rep K μ H d v) (e : seqOf d h = some xs) : ∃ a vs, v = .ref a ∧ ((SqL K H a vs ∧ (∀ ys, d ≠ .tup ys)) ∨ (SqT K H a vs ∧ d = .tup xs)) ∧ Reps K μ H xs vs := by
  unfold seqOf at e
  cases r with
  | tup h1 h2 => cases e; exact ⟨_, _, rfl, .inr ⟨h1, rfl⟩, h2⟩
  | fl h1 h2 => cases e; exact ⟨_, _, rfl, .inl ⟨h1.sq, fun _ z => nomatch z⟩, h2⟩
  | @loc nn b m =>
    unfold PI.rd at e
    cases e1 : h[nn]? with
    | none => simp only [e1] at e; cases e
    | some o =>
      cases o with
      | dK _ => simp only [e1] at e; cases e
      | lst ds =>
        simp only [e1] at e
        cases e
        obtain ⟨vs, q1, q2⟩ := lst_of hr m e1
        exact ⟨_, _, rfl, .inl ⟨SqL.of q1, fun _ z => nomatch z⟩, q2⟩
  | _ => cases e
noncomputable def tupD (d : D) (h : Hh) : Res D := match seqOf d h with | some xs => .ok (.tup xs) h | none => .no
theorem call_tupI : CallR X (.type "tuple") (fun xs H Q => ∃ x, xs = [x] ∧ r1 X.K cv tupD x H Q) := by
  intro pins s σ H xs us Q I r hh
  obtain ⟨x, rfl, μ, h, a, Z', hr, ra, p⟩ := hh
  unfold tupD at p
  cases e : seqOf a h with
  | none => rw [e] at p; exact p.elim
  | some ds =>
    rw [e] at p
    obtain ⟨b, vs, rfl, q1, q2⟩ := seqOf_rep hr ra e
    refine call_tuple_of pins s σ H _ us Q I r ⟨b, vs, rfl, ?_⟩
    rcases q1 with ⟨q1, _⟩ | ⟨q1, rfl⟩
    · exact .inl ⟨q1, fun l hl => p μ _ _ (ext_new hl) (hr.tup hl) (.tup (SqT.of upd_same) (q2.mono (ext_new hl)))⟩
    · exact .inr ⟨q1, p.here hr ra⟩
noncomputable def maxD (a b : D) (h : Hh) : Res D := match a, b with | .int i, .int j => .ok (.int (if j > i then j else i)) h | _, _ => .no
theorem call_maxI (hc : X.calm = true) : CallR X (.builtin "max") (fun xs H Q => ∃ x y, xs = [x, y] ∧ r2 X.K cv maxD x y H Q) := by
  intro pins s σ H xs us Q I r hh
  obtain ⟨x, y, rfl, μ, h, a, b, Z', hr, ra, rb, p⟩ := hh
  unfold maxD at p
  cases ra with
  | int i =>
    cases rb with
    | int j => exact call_max2 hc pins s σ H _ us Q I r ⟨i, j, rfl, p.here hr (.int _)⟩
    | _ => exact p.elim
  | _ => exact p.elim
theorem bls_reps {K : PySem.W.Frag} {μ : List Addr} {H : Hp} : ∀ {ds : List D} {vs : List V} {bs : List Bool}, Reps K μ H ds vs → blsOf ds = some bs → vs = bs.map V.bl
  | _, _, _, .nil, e => by cases e; rfl
  | _, _, _, .cons r t, e => by
    cases r with
    | bl b =>
      unfold blsOf at e
      obtain ⟨bs', e1, rfl⟩ := Option.map_eq_some_iff.mp e
      rw [bls_reps t e1]
      rfl
    | _ => cases e
theorem strs_reps {K : PySem.W.Frag} {μ : List Addr} {H : Hp} : ∀ {ds : List D} {vs : List V} {bs : List Str}, Reps K μ H ds vs → strsOf ds = some bs → vs = bs.map V.str
  | _, _, _, .nil, e => by cases e; rfl
  | _, _, _, .cons r t, e => by
    cases r with
    | str b =>
      unfold strsOf at e
      obtain ⟨bs', e1, rfl⟩ := Option.map_eq_some_iff.mp e
      rw [strs_reps t e1]
      rfl
    | _ => cases e
theorem rd_reps {K : PySem.W.Frag} {μ : List Addr} {H : Hp} {h : Hh} {n : Nat} {a : Addr} {ds : List D} (hr : HR K μ h H) (m : μ[n]? = some a) (e : PI.rd h n = some ds) : ∃ vs, H a = some (.lst vs) ∧ Reps K μ H ds vs := by
  unfold PI.rd at e
  cases e1 : h[n]? with
  | none => simp only [e1] at e; cases e
  | some o =>
    cases o with
    | dK _ => simp only [e1] at e; cases e
    | lst xs =>
      simp only [e1] at e
      cases e
      exact lst_of hr m e1
theorem call_strI : CallR X (.type "str") (fun xs H Q => ∃ x, xs = [x] ∧ r1 X.K cv (c1D .str) x H Q) := by
  intro pins s σ H xs us Q I r hh
  obtain ⟨x, rfl, μ, h, a, Z', hr, ra, p⟩ := hh
  unfold c1D at p
  cases ra with
  | int i =>
    simp only at p
    split at p
    · rename_i c
      exact call_str_int pins s σ H _ us Q I r ⟨i, rfl, c, p.here hr (.str _)⟩
    · exact p.elim
  | str z =>
    obtain ⟨u, rfl, t, rfl⟩ := vals1 r
    exact PySem.P.str_of_str ⟨.str z, H, I, ⟨_, rfl⟩, p.here hr (.str _)⟩
  | _ => exact p.elim
theorem call_intI : CallR X (.type "int") (fun xs H Q => ∃ x, xs = [x] ∧ r1 X.K cv (c1D .int) x H Q) := by
  intro pins s σ H xs us Q I r hh
  obtain ⟨x, rfl, μ, h, a, Z', hr, ra, p⟩ := hh
  unfold c1D at p
  cases ra with
  | int i => exact call_int1 pins s σ H _ us Q I r (.inl ⟨i, rfl, p.here hr (.int _)⟩)
  | bl b => exact call_int1 pins s σ H _ us Q I r (.inr ⟨b, rfl, p.here hr (.int _)⟩)
  | str z =>
    simp only at p
    split at p
    · rename_i n e
      split at p
      · rename_i c
        exact call_intS pins s σ H _ us Q I r ⟨z, n, rfl, e, c, p.here hr (.int _)⟩
      · exact p.elim
    · exact p.elim
  | _ => exact p.elim
theorem call_absI : CallR X (.builtin "abs") (fun xs H Q => ∃ x, xs = [x] ∧ r1 X.K cv (c1D .abs) x H Q) := by
  intro pins s σ H xs us Q I r hh
  obtain ⟨x, rfl, μ, h, a, Z', hr, ra, p⟩ := hh
  unfold c1D at p
  cases ra with
  | int i => exact call_abs pins s σ H _ us Q I r ⟨i, rfl, p.here hr (.int _)⟩
  | _ => exact p.elim
theorem call_allI (hc : X.calm = true) : CallR X (.builtin "all") (fun xs H Q => ∃ x, xs = [x] ∧ r1 X.K cv (c1D .all) x H Q) := by
  intro pins s σ H xs us Q I r hh
  obtain ⟨x, rfl, μ, h, a, Z', hr, ra, p⟩ := hh
  unfold c1D at p
  cases ra with
  | @loc nn b m =>
    simp only at p
    split at p
    · rename_i bs e
      obtain ⟨ds, e1, e2⟩ := Option.bind_eq_some_iff.mp e
      obtain ⟨vs, q1, q2⟩ := rd_reps hr m e1
      have ev := bls_reps q2 e2
      subst ev
      exact call_all hc pins s σ H _ us Q I r ⟨b, bs, rfl, SqL.of q1, p.here hr (.bl _)⟩
    · exact p.elim
  | _ => exact p.elim
theorem call_any (hc : X.calm = true) : CallR X (.builtin "any") (fun xs H Q => ∃ (p : Addr) (bs : List Bool), xs = [.ref p] ∧ SqL X.K H p (bs.map V.bl) ∧ Q (.bl (bs.any id)) H) := by
  intro pins s σ H xs us Q I r h
  obtain ⟨p, bs, rfl, hq, q⟩ := h
  obtain ⟨u, rfl, ru⟩ := vals1 r
  cases ru
  obtain ⟨its, rv, pl, hz⟩ := I.list hq
  have hb := bools_of rv
  have hl : s.heap.IsList p its.toArray := pl.isList
  have hlt : p < s.heap.objs.size := by obtain ⟨_, e, _⟩ := hl; exact Heap.lt_size e
  refine call_any_walk (wpAny_pyIter_list hl ?_)
  refine ⟨s.heap.objs.size, [s.heap.objs.size, p], [s.heap.objs.size], its.toArray.size, _, _, fun i => (bs[i]?).getD false, rfl, Walks.list (A := X.A.in1) (I.ok.hd hc) _ p (Nat.ne_of_lt hlt) its.toArray,
    ⟨⟨_, Heap.get?_push_size _ rfl, rfl, rfl⟩, hl.push _⟩, fun i v s' Q' E' hP hQ => ?_, fun h' tk hk => ?_⟩
  · obtain ⟨b, e, rfl⟩ := hb.get i v (by simpa using hP)
    simp only [e, Option.getD_some] at hQ
    exact wpAny_truthy_bool hQ
  · have e : ((List.range its.toArray.size).any fun i => (bs[i]?).getD false) = bs.any id := by
      rw [List.size_toArray, hb.length]; exact PyProof.Rows.LSm.range_any bs
    rw [e]
    exact ⟨.bl (bs.any id), H, I.kept (PyProof.Rows.LSm.kept_iter hk), rfl, q⟩
theorem call_anyI (hc : X.calm = true) : CallR X (.builtin "any") (fun xs H Q => ∃ x, xs = [x] ∧ r1 X.K cv (c1D .any) x H Q) := by
  intro pins s σ H xs us Q I r hh
  obtain ⟨x, rfl, μ, h, a, Z', hr, ra, p⟩ := hh
  unfold c1D at p
  cases ra with
  | @loc nn b m =>
    simp only at p
    split at p
    · rename_i bs e
      obtain ⟨ds, e1, e2⟩ := Option.bind_eq_some_iff.mp e
      obtain ⟨vs, q1, q2⟩ := rd_reps hr m e1
      have ev := bls_reps q2 e2
      subst ev
      exact call_any hc pins s σ H _ us Q I r ⟨b, bs, rfl, SqL.of q1, p.here hr (.bl _)⟩
    · exact p.elim
  | _ => exact p.elim
theorem Reps.eraseIdx {K : PySem.W.Frag} {μ : List Addr} {H : Hp} : ∀ {ds : List D} {vs : List V} (i : Nat), Reps K μ H ds vs → Reps K μ H (ds.eraseIdx i) (vs.eraseIdx i)
  | _, _, _, .nil => .nil
  | _, _, 0, .cons _ r => r
  | _, _, i + 1, .cons h r => .cons h (Reps.eraseIdx i r)
theorem mt_joinI : MtR X "str.join" (fun x vs H Q => ∃ y, vs = [y] ∧ r2 X.K cv joinD x y H Q) := by
  intro pins s σ H x xs v us Q I rx rs hh
  obtain ⟨y, rfl, μ, h, a, d, Z', hr, ra, rb, p⟩ := hh
  unfold joinD at p
  cases ra with
  | str sep =>
    cases rb with
    | @loc nn b m =>
      simp only at p
      split at p
      · rename_i ys e
        split at p
        · rename_i c
          obtain ⟨ds, e1, e2⟩ := Option.bind_eq_some_iff.mp e
          obtain ⟨vs, q1, q2⟩ := rd_reps hr m e1
          have ev := strs_reps q2 e2
          subst ev
          exact mt_join pins s σ H _ _ v us Q I rx rs ⟨sep, b, ys, rfl, rfl, SqL.of q1, c, p.here hr (.str _)⟩
        · exact p.elim
      · exact p.elim
    | @tup ds vs b h1 h2 =>
      simp only at p
      split at p
      · rename_i ys e
        split at p
        · rename_i c
          have ev := strs_reps h2 e
          subst ev
          obtain ⟨t, rfl⟩ := rx
          obtain ⟨u, rfl, ru⟩ := vals1 rs
          cases ru
          obtain ⟨its, rv, pl, _⟩ := I.tuple h1
          exact join_tuple pl (by simpa using strs_of rv) c fun t' k => ⟨.str _, H, I.tok _, ⟨_, rfl⟩, p.here hr (.str _)⟩
        · exact p.elim
      · exact p.elim
    | _ => exact p.elim
  | _ => exact p.elim
noncomputable def rPut (K : PySem.W.Frag) : TSet := fun o i v H Q => ∃ μ h a b c h', HR K μ h H ∧ Rep K μ H a o ∧ Rep K μ H b i ∧ Rep K μ H c v ∧ putS a b c h = some h' ∧ ∀ μ' H', Ext K μ H μ' H' → HR K μ' h' H' → Q H'
theorem RepKs.map {K : PySem.W.Frag} {μ : List Addr} {H : Hp} {k : Key} {d : D} {v : V} (q : Rep K μ H d v) : ∀ {ds : List (Key × D)} {vs : List (Key × V)}, RepKs K μ H ds vs →
    RepKs K μ H (ds.map fun kv => if kv.1 = k then (kv.1, d) else kv) (vs.map fun kv => if kv.1 = k then (kv.1, v) else kv)
  | _, _, .nil => .nil
  | _, _, .cons (k := k') h r => by
    rw [List.map_cons, List.map_cons]
    by_cases e : k' = k
    · rw [if_pos e, if_pos e]; exact .cons q (RepKs.map q r)
    · rw [if_neg e, if_neg e]; exact .cons h (RepKs.map q r)
theorem RepKs.any {K : PySem.W.Frag} {μ : List Addr} {H : Hp} (k : Key) : ∀ {ds : List (Key × D)} {vs : List (Key × V)}, RepKs K μ H ds vs → (ds.any fun kv => decide (kv.1 = k)) = (vs.any fun kv => decide (kv.1 = k))
  | _, _, .nil => rfl
  | _, _, .cons h r => by rw [List.any_cons, List.any_cons, RepKs.any k r]
theorem RepKs.snoc {K : PySem.W.Frag} {μ : List Addr} {H : Hp} {k : Key} {d : D} {v : V} (q : Rep K μ H d v) : ∀ {ds : List (Key × D)} {vs : List (Key × V)}, RepKs K μ H ds vs → RepKs K μ H (ds ++ [(k, d)]) (vs ++ [(k, v)])
  | _, _, .nil => .cons q .nil
  | _, _, .cons h r => .cons h (RepKs.snoc q r)
theorem RepKs.put {K : PySem.W.Frag} {μ : List Addr} {H : Hp} {k : Key} {d : D} {v : V} {ds : List (Key × D)} {vs : List (Key × V)} (r : RepKs K μ H ds vs) (q : Rep K μ H d v) : RepKs K μ H (putD ds k d) (putK vs k v) := by
  unfold putD putK
  rw [← r.any k]
  split
  · exact r.map q
  · exact r.snoc q
theorem set_ours (hu : X.A.units + 1 < cLine) : PSet X (rPut X.K) := by
  intro pins s σ H o i v ov iv u Q I ro ri rv hh
  obtain ⟨μ, h, a, b, c, h', hr, ra, rb, rc, e, q⟩ := hh
  unfold putS at e
  cases ra with
  | @loc nn p m =>
    cases e1 : h[nn]? with
    | none => simp only [e1] at e; cases e
    | some ob =>
      cases ob with
      | lst xs =>
        simp only [e1] at e
        obtain ⟨vs, q1, q2⟩ := lst_of hr m e1
        cases rb with
        | int k =>
          cases e2 : ixN xs.length k with
          | none => simp only [e2, Option.map_none] at e; cases e
          | some j =>
            simp only [e2, Option.map_some] at e
            cases e
            obtain ⟨hr', ex⟩ := hr.chg (u := .lst (vs.set j v)) (o' := .lst (xs.set j c)) e1 m fun H' ex e => ⟨_, e, (q2.mono ex).set (rc.mono ex) j⟩
            exact set_list pins s σ H _ _ v ov iv u Q I ro ri rv ⟨p, vs, k, j, rfl, rfl, q1, by rw [← q2.length]; exact e2, q μ _ ex hr'⟩
        | _ => cases e
      | dK kvs =>
        simp only [e1] at e
        obtain ⟨vs, q1, q2⟩ := (hr.obj nn p _ m e1 : RepO X.K μ H p (.dK kvs))
        cases e2 : keyD b with
        | none => simp only [e2, Option.bind_none] at e; cases e
        | some k =>
          simp only [e2, Option.bind_some] at e
          split at e
          · rename_i hl
            cases e
            have ey := keyD_rep rb e2
            subst ey
            obtain ⟨hr', ex⟩ := hr.chg (u := .dK (putK vs k v)) (o' := .dK (putD kvs k c)) e1 m fun H' ex e => ⟨_, e, (q2.mono ex).put (rc.mono ex)⟩
            cases ro
            exact d_setItem hu I (DPut.k q1 (by rw [← q2.length]; exact line_lt hl)) ri rv fun s' I' => ⟨_, I', q μ _ ex hr'⟩
          · cases e
  | _ => cases e
end
end PI
set_option Elab.async false
set_option linter.all false
set_option maxRecDepth 100000
set_option maxHeartbeats 4000000
namespace PI
open PySem L2 PySem.Spec
open PyProof.Rows hiding St
theorem lift_bind0 {α β γ δ : Type} {K : PySem.W.Frag} {cv : Nat → Value} {R : List Addr → Hp → α → β → Prop} {R' : List Addr → Hp → γ → δ → Prop} {μ0 μ : List Addr} {ρ : En} {h : Hh} {σ : St} {H0 H : Hp} {Z : ZK} {Zz : Value → Hp → Prop} {m : En → Hh → Res α} {f : α → Hh → Res γ} {Q : δ → Hp → Prop} {Q' : β → Hp → Prop}
    (e0 : Ext K μ0 H0 μ H) (hr : HR K μ h H) (er : ER K μ ρ σ H) (p : PostE K cv R' μ0 H0 ((m ρ h).bind f) Q Zz) (hz : ∀ C H', Zz C H' → Z σ C H')
    (go : ∀ a h1 μ1 H1 x, m ρ h = .ok a h1 → Ext K μ H μ1 H1 → HR K μ1 h1 H1 → ER K μ1 ρ σ H1 → R μ1 H1 a x → PostE K cv R' μ0 H0 (f a h1) Q Zz → Q' x H1) :
    lift K cv R Z m σ H Q' := by
  refine ⟨μ, ρ, h, hr, er, ?_⟩
  cases e : m ρ h with
  | ok a h1 =>
    rw [e, bind_ok] at p
    exact fun μ1 H1 x e1 r1 q1 => go a h1 μ1 H1 x e e1 r1 (er.mono e1) q1 p
  | exc c h1 =>
    rw [e, bind_exc] at p
    exact fun μ1 H1 e1 r1 => hz _ _ (p μ1 H1 (e0.trans e1) r1)
  | no => rw [e, bind_no] at p; exact p
noncomputable def Src (K : PySem.W.Frag) (μ0 : List Addr) (H0 : Hp) (c : Ck) (ds : List D) (J : It) : Prop := ∀ μ h H, Ext K μ0 H0 μ H → HR K μ h H → stay c h →
  (∀ i d, ds[i]? = some d → J.go i H ∧ ∀ x H', J.yld i H x H' → H' = H ∧ Rep K μ H d x) ∧ J.stop ds.length H
noncomputable def RJ (K : PySem.W.Frag) : List Addr → Hp → (Ck × List D) → It → Prop := fun μ H q J => Src K μ H q.1 q.2 J
noncomputable def RL (K : PySem.W.Frag) (H0 : Hp) : List Addr → Hp → List D → V → Prop := fun μ H ds v => ∃ p vs, v = .ref p ∧ H p = some (.lst vs) ∧ Reps K μ H ds vs ∧ p ∉ μ ∧ H0 p = none
noncomputable abbrev liftL (K : PySem.W.Frag) (cv : Nat → Value) (Z : ZK) (m : En → Hh → Res (List D)) : TE := fun σ H Q => lift K cv (RL K H) Z m σ H Q
section
variable {K : PySem.W.Frag} {μ : List Addr} {H : Hp} {h : Hh} {ds : List D} {vs : List V} {a : Addr}
theorem src_sq {c : Ck} (k : ∀ μ1 h1 H1, Ext K μ H μ1 H1 → HR K μ1 h1 H1 → stay c h1 → ∃ vs, SqL K H1 a vs ∧ Reps K μ1 H1 ds vs) : Src K μ H c ds (Itl K a) := fun μ1 h1 H1 ex hr st => by
  obtain ⟨vs, q1, q2⟩ := k μ1 h1 H1 ex hr st
  refine ⟨fun i d e => ?_, ⟨vs, q1, by rw [← q2.length]; exact Nat.le_refl _⟩⟩
  obtain ⟨w, e1, e2⟩ := q2.get e
  refine ⟨⟨vs, w, q1, e1⟩, fun x H' y => ⟨y.1, ?_⟩⟩
  have := y.2 vs q1
  rw [e1] at this
  cases this
  exact e2
theorem src_loc {n : Nat} (m : μ[n]? = some a) : Src K μ H [(n, ds)] ds (Itl K a) := src_sq fun μ1 h1 H1 ex hr st => by
  have e : rd h1 n = some ds := st (n, ds) (List.mem_singleton.mpr rfl)
  have m1 := ex.loc n a m
  unfold PI.rd at e
  cases e1 : h1[n]? with
  | none => simp only [e1] at e; cases e
  | some o =>
    cases o with
    | dK _ => simp only [e1] at e; cases e
    | lst xs =>
      simp only [e1] at e
      cases e
      obtain ⟨vs, q1, q2⟩ := lst_of hr m1 e1
      exact ⟨vs, SqL.of q1, q2⟩
theorem src_fl (f : Fz K H a vs) (r : Reps K μ H ds vs) : Src K μ H [] ds (Itl K a) := src_sq fun μ1 h1 H1 ex hr st => ⟨vs, (ex.fz _ _ f).sq, r.mono ex⟩
theorem src_new (e : H a = some (.lst vs)) (n : a ∉ μ) (r : Reps K μ H ds vs) : Src K μ H [] ds (Itl K a) := src_sq fun μ1 h1 H1 ex hr st => ⟨vs, SqL.of (ex.oth _ _ e n), r.mono ex⟩
theorem src_tup (f : SqT K H a vs) (r : Reps K μ H ds vs) : Src K μ H [] ds (Itt K a) := fun μ1 h1 H1 ex hr st => by
  have q1 := ex.tup _ _ f
  have q2 := r.mono ex
  refine ⟨fun i d e => ?_, ⟨vs, q1, by rw [← q2.length]; exact Nat.le_refl _⟩⟩
  obtain ⟨w, e1, e2⟩ := q2.get e
  refine ⟨⟨vs, w, q1, e1⟩, fun x H' y => ⟨y.1, ?_⟩⟩
  have := y.2 vs q1
  rw [e1] at this
  cases this
  exact e2
theorem src_str (z : Str) : Src K μ H [] (z.cps.toList.map fun c => .str ⟨#[c]⟩) (Its z) := fun μ1 h1 H1 ex hr st => by
  refine ⟨fun i d e => ?_, by show z.length ≤ _; rw [List.length_map]; exact Nat.le_of_eq rfl⟩
  rw [List.getElem?_map] at e
  cases e1 : z.cps.toList[i]? with
  | none => rw [e1] at e; cases e
  | some c =>
    rw [e1] at e
    cases e
    refine ⟨?_, fun x H' y => ⟨y.1, ?_⟩⟩
    · have := (List.getElem?_eq_some_iff.mp e1).1
      exact (by simpa using this : i < z.cps.size)
    · obtain ⟨c', e2, rfl⟩ := y.2
      rw [e1] at e2
      cases e2
      exact .str _
theorem src_rv {c : Ck} (k : ∀ μ1 h1 H1, Ext K μ H μ1 H1 → HR K μ1 h1 H1 → stay c h1 → ∃ vs, SqL K H1 a vs ∧ Reps K μ1 H1 ds vs) : Src K μ H c ds.reverse (Itv K a ds.length) := fun μ1 h1 H1 ex hr st => by
  obtain ⟨vs, q1, q2⟩ := k μ1 h1 H1 ex hr st
  have hl := q2.length
  refine ⟨fun i d e => ?_, by show _ = _; rw [List.length_reverse]⟩
  have hi : i < ds.length := by have := (List.getElem?_eq_some_iff.mp e).1; rwa [List.length_reverse] at this
  rw [List.getElem?_reverse hi] at e
  obtain ⟨w, e1, e2⟩ := q2.get e
  refine ⟨⟨hi, vs, q1, hl.symm⟩, fun x H' y => ⟨y.1, ?_⟩⟩
  have := y.2 vs q1
  rw [e1] at this
  cases this
  exact e2
theorem src_rvt (f : SqT K H a vs) (r : Reps K μ H ds vs) : Src K μ H [] ds.reverse (Itw K a ds.length) := fun μ1 h1 H1 ex hr st => by
  have q1 := ex.tup _ _ f
  have q2 := r.mono ex
  have hl := q2.length
  refine ⟨fun i d e => ?_, by show _ = _; rw [List.length_reverse]⟩
  have hi : i < ds.length := by have := (List.getElem?_eq_some_iff.mp e).1; rwa [List.length_reverse] at this
  rw [List.getElem?_reverse hi] at e
  obtain ⟨w, e1, e2⟩ := q2.get e
  refine ⟨⟨hi, vs, q1, hl.symm⟩, fun x H' y => ⟨y.1, ?_⟩⟩
  have := y.2 vs q1
  rw [e1] at this
  cases this
  exact e2
theorem src_rvl {n : Nat} (m : μ[n]? = some a) : Src K μ H [(n, ds)] ds.reverse (Itv K a ds.length) := src_rv fun μ1 h1 H1 ex hr st => by
  have e : rd h1 n = some ds := st (n, ds) (List.mem_singleton.mpr rfl)
  obtain ⟨vs, q1, q2⟩ := rd_reps hr (ex.loc n a m) e
  exact ⟨vs, SqL.of q1, q2⟩
theorem src_rvf (f : Fz K H a vs) (r : Reps K μ H ds vs) : Src K μ H [] ds.reverse (Itv K a ds.length) := src_rv fun μ1 h1 H1 ex hr st => ⟨vs, (ex.fz _ _ f).sq, r.mono ex⟩
theorem src_rng2 (i : Int) (j : Nat) : Src K μ H [] ((List.range j).map fun (k : Nat) => .int (i + (k : Nat))) (Itr i j) := fun μ1 h1 H1 ex hr st => by
  refine ⟨fun m d e => ?_, by show j ≤ _; rw [List.length_map, List.length_range]; exact Nat.le_refl _⟩
  rw [List.getElem?_map] at e
  cases e1 : (List.range j)[m]? with
  | none => rw [e1] at e; cases e
  | some c =>
    rw [e1] at e
    cases e
    obtain ⟨hi, e2⟩ := List.getElem?_eq_some_iff.mp e1
    rw [List.length_range] at hi
    rw [List.getElem_range] at e2
    subst e2
    exact ⟨hi, fun x H' y => ⟨y.1, by rw [y.2]; exact .int _⟩⟩
theorem src_rng (j : Nat) : Src K μ H [] ((List.range j).map fun (k : Nat) => .int (k : Nat)) (Itr 0 j) := fun μ1 h1 H1 ex hr st => by
  refine ⟨fun i d e => ?_, by show j ≤ _; rw [List.length_map, List.length_range]; exact Nat.le_refl _⟩
  rw [List.getElem?_map] at e
  cases e1 : (List.range j)[i]? with
  | none => rw [e1] at e; cases e
  | some c =>
    rw [e1] at e
    cases e
    obtain ⟨hi, e2⟩ := List.getElem?_eq_some_iff.mp e1
    rw [List.length_range] at hi
    rw [List.getElem_range] at e2
    subst e2
    refine ⟨hi, fun x H' y => ⟨y.1, ?_⟩⟩
    rw [y.2, Int.zero_add]
    exact .int _
end
section
variable {X : Cx} {Z : ZK} {k : Nat} {n : Nm} {cv : Nat → Value} {cl : Nat → List D → Hh → Res D} {tg : Expr}
theorem pi_any {l : Expr} {tl : TE} (hl : PE X l tl) : PI X tg l (fun σ H R => tl σ H fun x H1 => (∃ a, x = .ref a ∧ (∃ xs, SqL X.K H1 a xs) ∧ R (Itl X.K a) H1) ∨ (∃ a, x = .ref a ∧ (∃ xs, SqT X.K H1 a xs) ∧ R (Itt X.K a) H1) ∨ ∃ z, x = .str z ∧ R (Its z) H1) := by
  intro pins s σ H R I h
  refine thn (hl pins s σ H _ I h) fun v s1 ⟨x, H1, I1, r1, q1⟩ => ?_
  rcases q1 with ⟨a, rfl, ⟨xs, hq⟩, q⟩ | ⟨a, rfl, ⟨xs, hq⟩, q⟩ | ⟨x, rfl, q⟩
  · cases r1
    obtain ⟨its, rv, p, hz⟩ := I1.list hq
    refine wpAny_pyIter_list p.isList ?_
    refine ⟨s1.heap.objs.size, [s1.heap.objs.size], _, _, H1, rfl, I1.kept (t' := s1.toks) fun b o e => Heap.get?_push_of_some _ e, turn_list a _, ⟨_, Heap.get?_push_size _ rfl, rfl, rfl⟩, fun b hb => ?_, q⟩
    have e : b = s1.heap.objs.size := by simpa using hb
    subst e
    exact I1.fpOk (Nat.le_refl _) (I1.hok.fresh (Nat.le_refl _))
  · cases r1
    obtain ⟨its, rv, p, hz⟩ := I1.tuple hq
    refine wpAny_pyIter_tuple (show s1.heap.IsTuple a its.toArray from p) ?_
    refine ⟨s1.heap.objs.size, [s1.heap.objs.size], _, _, H1, rfl, I1.kept (t' := s1.toks) fun b o e => Heap.get?_push_of_some _ e, turn_tuple a _, ⟨_, Heap.get?_push_size _ rfl, rfl, rfl⟩, fun b hb => ?_, q⟩
    have e : b = s1.heap.objs.size := by simpa using hb
    subst e
    exact I1.fpOk (Nat.le_refl _) (I1.hok.fresh (Nat.le_refl _))
  · obtain ⟨t, rfl⟩ := r1
    have fp : ∀ b ∈ [s1.heap.objs.size], FpOk X pins H1 b := fun b hb => by
      have e : b = s1.heap.objs.size := by simpa using hb
      subst e
      exact I1.fpOk (Nat.le_refl _) (I1.hok.fresh (Nat.le_refl _))
    cases ha : x.cps.all (· < 128) with
    | false =>
      refine wpAny_pyIter_wide ha ?_
      exact ⟨s1.heap.objs.size, [s1.heap.objs.size], _, _, H1, rfl, I1.kept (t' := s1.toks) fun b o e => Heap.get?_push_of_some _ e, turn_wide _ x t, ⟨_, Heap.get?_push_size _ rfl, rfl, rfl⟩, fp, q⟩
    | true =>
      refine wpAny_pyIter_ascii ha ?_
      exact ⟨s1.heap.objs.size, [s1.heap.objs.size], _, _, H1, rfl, I1.kept (t' := s1.toks) fun b o e => Heap.get?_push_of_some _ e, turn_ascii _ x t, ⟨_, Heap.get?_push_size _ rfl, rfl, rfl⟩, fp, q⟩
theorem PI.mono {iter : Expr} {t t' : TI} (p : L2.PI X tg iter t) (h : ∀ σ H R, t' σ H R → t σ H R) : L2.PI X tg iter t' := fun pins s σ H R I q => p pins s σ H R I (h σ H R q)
noncomputable def gB (K : PySem.W.Frag) (t : Tg) : TG := fun v σ H Q => ∃ μ ρ d ρ' h, HR K μ h H ∧ ER K μ ρ σ H ∧ Rep K μ H d v ∧ bindT t d ρ = some ρ' ∧
  ∀ σ', ER K μ ρ' σ' H → σ'.length = σ.length → (∀ i, i ∉ t.idx → σ'[i]? = σ[i]?) → Q σ' H
theorem PG.mono {t t' : TG} (p : PG X tg t) (h : ∀ v σ H Q, t' v σ H Q → t v σ H Q) : PG X tg t' := fun pins s σ H v u Q I r q => p pins s σ H v u Q I r (h v σ H Q q)
noncomputable def gNs : List (Nat × Pos) → TGs
  | [] => gNil
  | q :: r => gCons (gName q.1) (gNs r)
theorem pgs_names (hN : X.N.Nodup) : ∀ (is : List (Nat × Pos)), (∀ q ∈ is, q.1 < X.N.length ∧ Loc X.env.scope (X.N.getD q.1 "") ∧ (X.fn (X.N.getD q.1 "") = true ∨ X.env.scope.names.lookup (X.N.getD q.1 "") = some .local)) →
    PGs X (is.map fun q => .Name (X.N.getD q.1 "") q.2) (gNs is)
  | [], _ => pgs_nil
  | q :: r, h => by
    have hq := h q (List.mem_cons_self ..)
    exact pgs_cons (pg_name (i := q.1) hN (by rw [List.getD_eq_getElem?_getD, List.getElem?_eq_getElem hq.1]; rfl) hq.2.1 hq.2.2) (pgs_names hN r fun z hz => h z (List.mem_cons_of_mem _ hz))
theorem names_len (N : List Str) (env : Env) : ∀ is : List (Nat × Pos), (assignEach (is.map fun q => .Name (N.getD q.1 "") q.2) env).length = is.length ∧ (assignEach (is.map fun q => .Name (N.getD q.1 "") q.2) env).findIdx? (·.1) = none
  | [] => ⟨rfl, rfl⟩
  | q :: r => by
    have ih := names_len N env r
    rw [List.map_cons]
    refine ⟨?_, ?_⟩
    · show ((false, _) :: assignEach (r.map fun q => .Name (N.getD q.1 "") q.2) env).length = _
      rw [List.length_cons, ih.1, List.length_cons]
    · show ((false, _) :: assignEach (r.map fun q => .Name (N.getD q.1 "") q.2) env).findIdx? (·.1) = none
      rw [List.findIdx?_cons, ih.2]
      rfl
theorem fold_er {K : PySem.W.Frag} {μ : List Addr} {H : Hp} : ∀ (is : List (Nat × Pos)) {ds : List D} {vs : List V} {ρ : En} {σ : St} {Q : St → Hp → Prop}, Reps K μ H ds vs → ds.length = is.length → ER K μ ρ σ H →
    (∀ σ', ER K μ ((is.zip ds).foldl (fun ρ q => ρ.set q.1.1 (some q.2)) ρ) σ' H → σ'.length = σ.length → (∀ i, i ∉ is.map (·.1) → σ'[i]? = σ[i]?) → Q σ' H) → gNs is vs σ H Q
  | [], _, _, ρ, σ, Q, r, hl, er, q => by
    cases r with
    | nil => exact ⟨rfl, q σ er rfl fun _ _ => rfl⟩
    | cons _ _ => cases hl
  | p :: is, _, _, ρ, σ, Q, r, hl, er, q => by
    cases r with
    | nil => cases hl
    | cons r1 r2 =>
      refine ⟨_, _, rfl, ?_⟩
      refine fold_er is r2 (by simpa using hl) (er.set r1 p.1) fun σ' e1 e2 e3 => ?_
      refine q σ' e1 (e2.trans List.length_set) fun i hi => ?_
      rw [List.map_cons] at hi
      rw [e3 i fun z => hi (List.mem_cons_of_mem _ z), List.getElem?_set_ne fun z => hi (by rw [← z]; exact List.mem_cons_self ..)]
theorem pg_T (hc : X.calm = true) (hN : X.N.Nodup) (t : Tg) (h : ∀ i ∈ t.idx, i < X.N.length ∧ Loc X.env.scope (X.N.getD i "") ∧ (X.fn (X.N.getD i "") = true ∨ X.env.scope.names.lookup (X.N.getD i "") = some .local)) : PG X (t.py X.N) (gB X.K t) := by
  cases t with
  | one i p =>
    have hq := h i (List.mem_singleton.mpr rfl)
    refine PG.mono (pg_name (i := i) hN (by rw [List.getD_eq_getElem?_getD, List.getElem?_eq_getElem hq.1]; rfl) hq.2.1 hq.2.2) fun v σ H Q ⟨μ, ρ, d, ρ', h, hr, er, r, e, q⟩ => ?_
    cases e
    exact q _ (er.set r i) List.length_set fun j hj => List.getElem?_set_ne fun z => hj (by rw [← z]; exact List.mem_singleton.mpr rfl)
  | tup is p =>
    refine PG.mono (pg_tup (k := 0) (pos := p) hc (pgs_names hN is fun q hq => h q.1 (List.mem_map.mpr ⟨q, hq, rfl⟩)) (names_len X.N X.env is).1 (names_len X.N X.env is).2) fun v σ H Q ⟨μ, ρ, d, ρ', h, hr, er, r, e, q⟩ => ?_
    unfold bindT at e
    cases r with
    | tup h1 h2 =>
      simp only at e
      split at e
      · rename_i c
        cases e
        exact ⟨_, _, rfl, h1, by rw [← h2.length]; exact c, fold_er is h2 c er q⟩
      · cases e
    | _ => cases e
end
end PI
set_option Elab.async false
set_option linter.all false
set_option maxRecDepth 100000
set_option maxHeartbeats 4000000
namespace PI
open PySem L2 PySem.Spec
open PyProof.Rows hiding St
theorem line_ge : (1000000 : Nat) < sizeLine := by rw [sizeLine_eq]; decide
section
variable {X : Cx} {Z : ZK} {k : Nat} {n : Nm} {cv : Nat → Value} {cl : Nat → List D → Hh → Res D}
theorem capER {K : PySem.W.Frag} {μ : List Addr} {H : Hp} {ρ : En} {σ : St} (cap : List (Option Nat)) (er : ER K μ ρ σ H) : ER K μ (capE cap ρ) (capσ cap σ) H := by
  refine ⟨by unfold capE capσ; rw [List.length_map, List.length_map], fun j d e => ?_⟩
  unfold capE at e
  unfold capσ
  rw [List.getElem?_map] at e ⊢
  cases e1 : cap[j]? with
  | none => rw [e1] at e; cases e
  | some o =>
    rw [e1] at e
    cases o with
    | none => cases e
    | some i =>
      have e' : (ρ[i]?).bind id = some d := Option.some.inj e
      cases e2 : ρ[i]? with
      | none => rw [e2] at e'; cases e'
      | some o2 =>
        rw [e2] at e'
        have e3 : o2 = some d := e'
        subst e3
        obtain ⟨v, q1, q2⟩ := er.val i d e2
        exact ⟨v, by show some ((σ[i]?).bind id) = _; rw [q1]; rfl, q2⟩
theorem cap_none {osc scope : Scope} {N NC : List Str} {cap : List (Option Nat)} {t : Tg} (cok : compOk osc scope N NC cap = true) (ht : t.ok (relab scope osc) NC = true) (σ : St) : ∀ i ∈ t.idx, (capσ cap σ)[i]? = some none := by
  intro i hi
  unfold Tg.ok at ht
  have h1 := List.all_eq_true.mp ht i hi
  rw [Bool.and_eq_true] at h1
  have hl : i < NC.length := of_decide_eq_true h1.1
  have hloc : (relab scope osc).names.lookup (NC.getD i "") = some .local := of_decide_eq_true h1.2
  unfold compOk at cok
  simp only [Bool.and_eq_true] at cok
  obtain ⟨⟨⟨⟨⟨k1, k2⟩, k3⟩, k4⟩, k5⟩, k6⟩ := cok
  have hj := List.all_eq_true.mp k6 i (List.mem_range.mpr hl)
  have hN : NC[i]? = some (NC.getD i "") := by rw [List.getD_eq_getElem?_getD, List.getElem?_eq_getElem hl]; rfl
  have hc : i < cap.length := by rw [beq_iff_eq.mp k5]; exact hl
  unfold capσ
  rw [List.getElem?_map]
  cases e : cap[i]? with
  | none => rw [List.getElem?_eq_none_iff] at e; omega
  | some o =>
    cases o with
    | none => rfl
    | some m =>
      exfalso
      rw [e, hN] at hj
      simp only [Bool.and_eq_true, beq_iff_eq] at hj
      have hfree := hj.2
      have key : ∀ (names : List (Str × NameKind)) (x : Str), names.lookup x = some .free → (names.map fun (q : Str × NameKind) => if (q.2 == .free && osc.kind == .function && osc.names.lookup q.1 == some .cell) then (q.1, NameKind.cell) else (q.1, q.2)).lookup x ≠ some .local := by
        intro names
        induction names with
        | nil => intro x h; cases h
        | cons q r ih =>
          intro x h
          rw [List.map_cons]
          obtain ⟨q1, q2⟩ := q
          rw [List.lookup_cons] at h
          by_cases hx : x == q1
          · rw [hx] at h
            cases h
            by_cases c : ((NameKind.free == .free && osc.kind == .function && osc.names.lookup q1 == some .cell) = true)
            · rw [if_pos c, List.lookup_cons, hx]; exact fun z => nomatch z
            · rw [if_neg c, List.lookup_cons, hx]; exact fun z => nomatch z
          · have hx' : (x == q1) = false := by simpa using hx
            rw [hx'] at h
            have := ih x h
            split
            · rw [List.lookup_cons, hx']; exact this
            · rw [List.lookup_cons, hx']; exact this
      exact key scope.names _ hfree hloc
theorem read_comp {scope : Scope} {NC : List Str} {cap : List (Option Nat)} {t : Tg} {mi : En → Hh → Res (Ck × List D)} {mc : En → Hh → Res Bool} {me : En → Hh → Res D}
    (cok : compOk X.env.scope scope X.N NC cap = true) (ht : t.ok (relab scope X.env.scope) NC = true) {σ : St} {H : Hp} {Q : VK}
    (p : liftL X.K cv Z (fun ρ h => (mi ρ h).bind fun q h1 => if q.2.length ≤ 1000000 then compL q.1 (compF t (capE cap ρ) mc me) q.2 [] h1 else .no) σ H Q) :
    tComp Z cap (lift X.K cv (RJ X.K) Z mi) (gB X.K t) (fun Zc => lift X.K cv RB Zc mc) (fun Zc => lift X.K cv (Rep X.K) Zc me) σ H Q := by
  obtain ⟨μ, ρ, h, hr, er, p⟩ := p
  refine lift_bind0 (m := mi) Ext.refl hr er p (fun _ _ z => z) fun q h1 μ1 H1 J _ e1 r1 er1 src p1 => ?_
  split at p1
  rotate_left
  · exact p1.elim
  rename_i hlen
  obtain ⟨c, ds⟩ := q
  refine ⟨fun i m ys H2 => m = ds.length - i ∧ i ≤ ds.length ∧ ∃ μ2 h2 acc, Ext X.K μ1 H1 μ2 H2 ∧ HR X.K μ2 h2 H2 ∧ Reps X.K μ2 H2 acc ys ∧ acc.length ≤ i ∧ PostE X.K cv (RL X.K H) μ H (compL c (compF t (capE cap ρ) mc me) (ds.drop i) acc h2) Q (Z σ),
    ⟨ds.length, by simp, Nat.zero_le _, μ1, h1, [], Ext.refl, r1, .nil, Nat.le_refl _, p1⟩, ?_⟩
  rintro i m ys H2 ⟨rfl, hi', μ2, h2, acc, e2, r2, ry, ha, p2⟩
  have hyl : ys.length ≤ i := by rw [← ry.length]; exact ha
  have hll : ds.length ≤ 1000000 := hlen
  by_cases hlt : i < ds.length
  · right
    rw [List.drop_eq_getElem_cons hlt] at p2
    unfold compL at p2
    split at p2
    rotate_left
    · exact p2.elim
    rename_i st
    obtain ⟨s1, s2⟩ := src μ2 h2 H2 e2 r2 st
    obtain ⟨g1, g2⟩ := s1 i ds[i] (List.getElem?_eq_getElem hlt)
    refine ⟨g1, by have := line_ge; omega, fun x H3 y => ?_⟩
    obtain ⟨rfl, rx⟩ := g2 x H3 y
    have er2 : ER X.K μ2 ρ σ H3 := er1.mono e2
    unfold compF at p2
    cases eb : bindT t ds[i] (capE cap ρ) with
    | none => rw [eb] at p2; exact p2.elim
    | some ρ' =>
      rw [eb] at p2
      refine ⟨μ2, capE cap ρ, ds[i], ρ', h2, r2, capER cap er2, rx, eb, fun σ4 er4 hl4 hs4 => ⟨⟨hl4, fun j v ej => ?_⟩, ?_⟩⟩
      · have nj : j ∉ t.idx := fun z => by rw [cap_none cok ht σ j z] at ej; cases ej
        rw [hs4 j nj]; exact ej
      have p3 : PostE X.K cv (RL X.K H) μ H ((mc ρ' h2).bind fun b h3 => (if b then (me ρ' h3).bind fun d h4 => Res.ok (some d) h4 else Res.ok none h3).bind fun o h' => compL c (compF t (capE cap ρ) mc me) (ds.drop (i + 1)) (addO acc o) h') Q (Z σ) := by
        have p2' := p2
        rw [bind_assoc] at p2'
        exact p2'
      refine lift_bind0 (m := mc) (R := RB) (e1.trans e2) r2 er4 p3 (fun _ _ z => z) fun b h3 μ3 H3' bb _ e3 r3 er5 qb p4 => ?_
      have qb' : b = bb := qb
      subst qb'
      cases b with
      | false =>
        refine iteF ⟨ds.length - (i + 1), by omega, rfl, hlt, μ3, h3, acc, e2.trans e3, r3, ry.mono e3, Nat.le_succ_of_le ha, p4⟩
      | true =>
        refine iteT ?_
        have p5 : PostE X.K cv (RL X.K H) μ H ((me ρ' h3).bind fun d h4 => compL c (compF t (capE cap ρ) mc me) (ds.drop (i + 1)) (acc ++ [d]) h4) Q (Z σ) := by
          have p4' := p4
          rw [if_pos rfl, bind_assoc] at p4'
          exact p4'
        refine lift_bind0 (m := me) ((e1.trans e2).trans e3) r3 er5 p5 (fun _ _ z => z) fun d h4 μ4 H4 v _ e4 r4 er6 qd p6 => ?_
        exact ⟨ds.length - (i + 1), by omega, rfl, hlt, μ4, h4, acc ++ [d], (e2.trans e3).trans e4, r4, ((ry.mono e3).mono e4).append (.cons qd .nil), by rw [List.length_append]; exact Nat.succ_le_succ ha, p6⟩
  · left
    have ei : i = ds.length := by omega
    subst ei
    rw [List.drop_length] at p2
    unfold compL at p2
    split at p2
    rotate_left
    · exact p2.elim
    rename_i st
    refine ⟨(src μ2 h2 H2 e2 r2 st).2, by have := line_ge; omega, fun a ha' => ?_⟩
    have ex := (e1.trans e2)
    have na := r2.fresh ha'
    have n0 : H a = none := by
      cases e : H a with
      | none => rfl
      | some o => rw [ex.oth a o e fun z => na (ex.sub z)] at ha'; cases ha'
    exact p2 μ2 _ _ (ex.trans (ext_new ha')) (r2.tup ha') ⟨a, ys, rfl, upd_same, ry.mono (ext_new ha'), na, n0⟩
theorem pe_compI {elt iter : Expr} {ifs : List Expr} {scope : Scope} {NC : List Str} {cap : List (Option Nat)} {t : Tg} {pos : Pos} {mi : En → Hh → Res (Ck × List D)} {mc : En → Hh → Res Bool} {me : En → Hh → Res D}
    (hc : X.calm = true) (th : Thr X Z) (hi : L2.PI X (t.py NC) iter (lift X.K cv (RJ X.K) Z mi)) (cok : compOk X.env.scope scope X.N NC cap = true) (ht : t.ok (relab scope X.env.scope) NC = true)
    (hg : ∀ C s H fp pn xe, PG (compCx X NC scope C s H fp pn xe) (t.py NC) (gB X.K t))
    (hf : ∀ C s H fp pn xe Zc, Thr (compCx X NC scope C s H fp pn xe) Zc → PF (compCx X NC scope C s H fp pn xe) ifs (lift X.K cv RB Zc mc))
    (hb : ∀ C s H fp pn xe Zc, Thr (compCx X NC scope C s H fp pn xe) Zc → PE (compCx X NC scope C s H fp pn xe) elt (lift X.K cv (Rep X.K) Zc me))
    (hs : ∀ x, foldedSetIterable iter X.env x = pure x) :
    PE X (.ListComp elt [⟨t.py NC, iter, ifs, 0⟩] scope pos) (liftL X.K cv Z fun ρ h => (mi ρ h).bind fun q h1 => if q.2.length ≤ 1000000 then compL q.1 (compF t (capE cap ρ) mc me) q.2 [] h1 else .no) :=
  PE.mono (pe_comp hc th hi cok hg (tf := fun Zc => lift X.K cv RB Zc mc) (te := fun Zc => lift X.K cv (Rep X.K) Zc me) hf hb hs) fun σ H Q p => read_comp cok ht p
theorem Kx.comp {scope : Scope} {NC : List Str} {cap : List (Option Nat)} (C : Kx X Z k n cv cl) (cok : compOk X.env.scope scope X.N NC cap = true) (hnd : NC.Nodup) (hgood : NC.all goodN = true) {Cc : Addr} {s : Shared} {H : Hp} {fp : List Addr} {pn : List (Addr × Obj)} {xe : Value → Shared → Prop} {Zc : ZK}
    (th : Thr (compCx X NC scope Cc s H fp pn xe) Zc) : Kx (compCx X NC scope Cc s H fp pn xe) Zc k ⟨NC, n.F, n.G⟩ cv cl := by
  obtain ⟨c1, c2, c3, c4, c5, c6, c7⟩ := compOk_parts cok
  refine ⟨th, C.rm, rfl, hnd, rfl, c1, fun x hx => ⟨?_, List.all_eq_true.mp hgood x hx⟩, C.bm, C.gc, C.fn⟩
  obtain ⟨j, hj⟩ := List.getElem?_of_mem hx
  have cok' := cok
  unfold compOk at cok'
  simp only [Bool.and_eq_true] at cok'
  obtain ⟨⟨⟨⟨⟨k1, k2⟩, k3⟩, k4⟩, k5⟩, k6⟩ := cok'
  have hl : j < NC.length := (List.getElem?_eq_some_iff.mp hj).1
  have hk := List.all_eq_true.mp k6 j (List.mem_range.mpr hl)
  have rel : (relabel scope X.env).names.lookup x = (scope.names.lookup x).map fun k => if k = .free then .cell else k := kindOf_rel (scope := scope) C.kd fun y hy e => c4 y hy e
  rw [hj] at hk
  show Vis (relabel scope X.env) x
  unfold Vis
  rw [rel]
  cases e : cap[j]? with
  | none => rw [e] at hk; cases hk
  | some o =>
    rw [e] at hk
    cases o with
    | none =>
      have hk' : scope.names.lookup x = some .local := by simpa using hk
      rw [hk']; exact .inl rfl
    | some m =>
      simp only [Bool.and_eq_true, beq_iff_eq] at hk
      rw [hk.2]; exact .inr (.inl rfl)
end
end PI
set_option Elab.async false
set_option linter.all false
set_option maxRecDepth 100000
set_option maxHeartbeats 4000000
namespace PI
open PySem L2 PySem.Spec
open PyProof.Rows hiding St
theorem RepKs.merge {K : PySem.W.Frag} {μ : List Addr} {H : Hp} : ∀ {more : List (Key × D)} {mv : List (Key × V)} {ds : List (Key × D)} {vs : List (Key × V)}, RepKs K μ H more mv → RepKs K μ H ds vs → RepKs K μ H (mergeD ds more) (mergeK vs mv)
  | _, _, _, _, .nil, r => r
  | _, _, ds, vs, @RepKs.cons _ _ _ k d v ds' vs' h t, r => by
    have z := RepKs.merge (ds := putD ds k d) (vs := putK vs k v) t (r.put h)
    exact z
theorem RepKs.zip {K : PySem.W.Frag} {μ : List Addr} {H : Hp} : ∀ (ks : List (Str × Pos)) {ds : List D} {vs : List V}, Reps K μ H ds vs → RepKs K μ H ((ks.map fun q => (Sum.inr q.1 : Key)).zip ds) ((ks.map fun q => (Sum.inr q.1 : Key)).zip vs)
  | [], _, _, _ => .nil
  | q :: ks, _, _, .nil => .nil
  | q :: ks, _, _, .cons h t => .cons h (RepKs.zip ks t)
theorem pairs_rep {K : PySem.W.Frag} {μ : List Addr} {H : Hp} : ∀ {ds : List D} {vs : List V} {kvs : List (Key × D)}, Reps K μ H ds vs → pairsD ds = some kvs →
    ∃ mv : List (Key × V), RepKs K μ H kvs mv ∧ Paired (fun (x : V) (kv : Key × V) => ∃ a, x = .ref a ∧ SqT K H a [kV kv.1, kv.2]) vs mv
  | _, _, _, .nil, e => by
    unfold pairsD at e
    cases e
    exact ⟨[], .nil, .nil⟩
  | _, _, kvs, @Reps.cons _ _ _ d v ds vs h t, e => by
    unfold pairsD at e
    cases e1 : pairD d with
    | none => rw [e1] at e; simp at e
    | some a =>
      cases e2 : pairsD ds with
      | none => rw [e1, e2] at e; simp at e
      | some b =>
        rw [e1, e2] at e
        simp only [Option.some.injEq] at e
        subst e
        obtain ⟨mv, m1, m2⟩ := pairs_rep t e2
        unfold pairD at e1
        split at e1
        · rename_i k x
          cases ek : keyD k with
          | none => rw [ek] at e1; simp at e1
          | some q =>
            rw [ek] at e1
            simp only [Option.map_some, Option.some.injEq] at e1
            subst e1
            cases h with
            | tup h1 h2 =>
              cases h2 with
              | cons hk ht =>
                cases ht with
                | cons hx hn =>
                  cases hn
                  have := keyD_rep hk ek
                  subst this
                  exact ⟨_, .cons hx m1, .cons ⟨_, rfl, h1⟩ m2⟩
        · cases e1
theorem ps_nil {X : Cx} {Z : ZK} {n : Nm} {cv : Nat → Value} {cl : Nat → List D → Hh → Res D} : PsOk X Z n cv cl .nil := by
  intro ks pos hl
  unfold Es.py at hl ⊢
  cases ks with
  | nil =>
    refine ⟨[], pps_nil, fun σ H Q ⟨μ, ρ, h, hr, er, q⟩ => ?_⟩
    unfold Es.ev at q
    exact q.here hr .nil
  | cons _ _ => cases hl
theorem ps_cons {X : Cx} {Z : ZK} {n : Nm} {cv : Nat → Value} {cl : Nat → List D → Hh → Res D} {e : E} {r : Es} (se : PE X (e.py n) (lift X.K cv (Rep X.K) Z (e.ev cl))) (sr : PsOk X Z n cv cl r) : PsOk X Z n cv cl (.cons e r) := by
  intro ks pos hl
  unfold Es.py at hl ⊢
  cases ks with
  | nil => cases hl
  | cons k ks =>
    obtain ⟨trs, p1, p2⟩ := sr ks pos (by simpa using hl)
    refine ⟨(tC (.str k.1), lift X.K cv (Rep X.K) Z (e.ev cl)) :: trs, pps_cons pe_str se p1, fun σ H Q ⟨μ, ρ, h, hr, er, q⟩ => ?_⟩
    unfold Es.ev at q
    show lift X.K cv (Rep X.K) Z (e.ev cl) σ H _
    refine lift_bind (m := e.ev cl) hr er q fun da h1 μ1 H1 x _ e1 r1 er1 qa p3 => ?_
    refine p2 σ H1 _ (lift_bind (m := r.ev cl) r1 er1 p3 fun ds h2 μ2 H2 xs _ e2 r2 er2 qb p4 => ?_)
    exact p4.here r2 (.cons (qa.mono e2) qb)
section
variable {X : Cx} {cv : Nat → Value}
theorem call_dictI (hc : X.calm = true) : CallR X (.type "dict") (fun xs H Q => ∃ x, xs = [x] ∧ r1 X.K cv dicPD x H Q) := by
  intro pins s σ H xs us Q I r hh
  obtain ⟨x, rfl, μ, h, a, Z', hr, ra, p⟩ := hh
  unfold dicPD at p
  cases ra with
  | @loc nn b mm =>
    simp only at p
    cases e : rd h nn with
    | none => rw [e] at p; exact p.elim
    | some ds =>
      rw [e] at p
      simp only at p
      split at p
      · rename_i hl
        cases e2 : pairsD ds with
        | none => rw [e2] at p; exact p.elim
        | some kvs =>
          rw [e2] at p
          have e3 : h[nn]? = some (.lst ds) := by
            unfold rd at e
            cases e4 : h[nn]? with
            | none => rw [e4] at e; cases e
            | some o => cases o with
              | lst xs => rw [e4] at e; cases e; rfl
              | dK _ => rw [e4] at e; cases e
          obtain ⟨vs, q1, q2⟩ := lst_of hr mm e3
          obtain ⟨mv, m1, m2⟩ := pairs_rep q2 e2
          refine call_dictP hc pins s σ H _ us Q I r ⟨b, vs, mv, rfl, SqL.of q1, by rw [← q2.length]; exact hl, m2, fun l hb => ?_⟩
          refine p _ _ _ ((ext_new hb).add hb) (hr.alloc hb (hr.fresh hb) fun μ' g => ⟨_, upd_same, ((RepKs.merge m1 .nil).mono (ext_new hb)).mono' g⟩) (.loc ?_)
          rw [← hr.len, List.getElem?_append_right (Nat.le_refl _), Nat.sub_self]
          rfl
      · exact p.elim
  | _ => exact p.elim
theorem disp_ours {ks : List (Str × Pos)} {n : Nat} {b : Addr} {μ0 μ1 : List Addr} {H0 H1 : Hp} {h1 : Hh} {xs : List D} {us : List V} {Q : VK} {Z : Value → Hp → Prop} (hb : μ1[n]? = some b) (r1 : HR X.K μ1 h1 H1) (qa : Reps X.K μ1 H1 xs us) (h15 : ks.length ≤ 15) (e0 : Ext X.K μ0 H0 μ1 H1) (p : PostE X.K cv (Rep X.K) μ0 H0 (dispR ks n xs h1) Q Z) :
    H1 b = some (.dK []) ∧ ∃ kvs : List (Key × V), ((ks.map fun q => V.str q.1).zip us) = kvs.map (fun kv => (kV kv.1, kv.2)) ∧ kvs.length ≤ 15 ∧ Q (.ref b) (upd H1 b (.dK (mergeK [] kvs))) := by
  unfold dispR at p
  split at p
  · rename_i e
    obtain ⟨vs, q1, q2⟩ := r1.obj n b _ hb e
    cases q2
    obtain ⟨hr2, ex2⟩ := r1.chg (o' := .dK (mergeD [] ((ks.map fun q => (Sum.inr q.1 : Key)).zip xs))) (u := .dK (mergeK [] ((ks.map fun q => (Sum.inr q.1 : Key)).zip us))) e hb fun H' ex eH => ⟨_, eH, RepKs.merge (RepKs.zip ks (qa.mono ex)) .nil⟩
    refine ⟨q1, (ks.map fun q => (Sum.inr q.1 : Key)).zip us, ?_, ?_, p μ1 _ _ (e0.trans ex2) hr2 (.loc hb)⟩
    · clear p hr2 ex2 qa h15 e q1
      induction ks generalizing us with
      | nil => rfl
      | cons k ks ih =>
        cases us with
        | nil => rfl
        | cons u us => simp only [List.map_cons, List.zip_cons_cons]; rw [ih]; rfl
    · rw [List.length_zip, List.length_map]; exact Nat.le_trans (Nat.min_le_left ..) h15
  · exact p.elim
theorem pg_TL (hc : X.calm = true) (hN : X.N.Nodup) (is : List (Nat × Pos)) (p1 : Pos) (h : ∀ i ∈ (Tg.tup is p1).idx, i < X.N.length ∧ Loc X.env.scope (X.N.getD i "") ∧ (X.fn (X.N.getD i "") = true ∨ X.env.scope.names.lookup (X.N.getD i "") = some .local)) :
    PG X ((Tg.tup is p1).py X.N) (fun v σ H Q => ∃ μ ρ d ρ' h, HR X.K μ h H ∧ ER X.K μ ρ σ H ∧ Rep X.K μ H d v ∧ bindT (.tup is p1) (unpD d h) ρ = some ρ' ∧ ∀ σ', ER X.K μ ρ' σ' H → Q σ' H) := by
  refine PG.mono (pg_tupL (k := 0) (pos := p1) hc (pgs_names hN is fun q hq => h q.1 (List.mem_map.mpr ⟨q, hq, rfl⟩)) (names_len X.N X.env is).1 (names_len X.N X.env is).2) fun v σ H Q ⟨μ, ρ, d, ρ', h, hr, er, r, e, q⟩ => ?_
  have fin : ∀ (ds : List D) (vs : List V), Reps X.K μ H ds vs → bindT (.tup is p1) (.tup ds) ρ = some ρ' → vs.length = is.length ∧ gNs is vs σ H Q := fun ds vs h2 e => by
    unfold bindT at e
    simp only at e
    split at e
    · rename_i c
      cases e
      exact ⟨by rw [← h2.length]; exact c, fold_er is h2 c er fun σ' e1 _ _ => q σ' e1⟩
    · cases e
  cases r with
  | tup h1 h2 =>
    obtain ⟨a, b⟩ := fin _ _ h2 e
    exact ⟨_, _, rfl, .inl h1, a, b⟩
  | @loc nn b mm =>
    unfold unpD at e
    simp only at e
    cases e1 : rd h nn with
    | none => rw [e1] at e; simp [bindT] at e
    | some ds =>
      rw [e1] at e
      obtain ⟨vs, hs1, rs⟩ := hr.rd e1 mm
      obtain ⟨a, b⟩ := fin _ _ rs e
      exact ⟨_, _, rfl, .inr hs1, a, b⟩
  | _ => simp [bindT, unpD] at e
end
end PI
set_option Elab.async false
set_option linter.all false
set_option maxRecDepth 100000
set_option maxHeartbeats 4000000
namespace PI
open PySem L2 PySem.Spec
open PyProof.Rows hiding St
section
variable {X : Cx} {Z : ZK} {k : Nat} {n : Nm} {cv : Nat → Value} {cl : Nat → List D → Hh → Res D}
theorem boot_T (T : Nat) (h : T < 5) : bootBuiltins (tyName T) = some (.type (tyStr T)) ∧ tyName T ≠ "__name__" ∧ (tyName T == ("__debug__" : Str)) = false ∧ tyName T ∈ bnames := by
  match T, h with
  | 0, _ => exact ⟨rfl, by decide, by decide, by decide⟩
  | 1, _ => exact ⟨rfl, by decide, by decide, by decide⟩
  | 2, _ => exact ⟨rfl, by decide, by decide, by decide⟩
  | 3, _ => exact ⟨rfl, by decide, by decide, by decide⟩
  | 4, _ => exact ⟨rfl, by decide, by decide, by decide⟩
theorem getD_some {α : Type} {xs : List α} {i : Nat} {d : α} (h : i < xs.length) : xs[i]? = some (xs.getD i d) := by
  rw [List.getD_eq_getElem?_getD, List.getElem?_eq_getElem h]; rfl
theorem getD_mem {α : Type} {xs : List α} {i : Nat} {d : α} (h : i < xs.length) : xs.getD i d ∈ xs := List.mem_of_getElem? (getD_some h)
theorem PO.mono {X : Cx} {e : Option Expr} {t t' : TO} (p : PO X e t) (h : ∀ σ H Q, t' σ H Q → t σ H Q) : PO X e t' := fun pins s σ H Q I q => p pins s σ H Q I (h σ H Q q)
theorem base_plain (o : E) (x : Str) (env : Env) : attributeBase (o.py n) x env (eval (o.py n) env) = eval (o.py n) env := by
  cases o with
  | ofL l => cases l <;> (unfold E.py L.py; rfl)
  | _ => unfold E.py; rfl
theorem few_one (a : E) (pos : Pos) (env : Env) : ((backTo pos (starEach [a.py n] env)).all (fun x => !x.1) && (backToKw pos (keywordEach [] env)).all (fun x => x.1.isSome)
      && decide (([a.py n] : List Expr).length + ([] : List Keyword).length + (if ([] : List Keyword).isEmpty then 0 else 1) < 30)) = true := by
  rw [star_cons]; rfl
theorem m0_ty {K : PySem.W.Frag} {μ : List Addr} {H : Hp} {h : Hh} {m : M0} {d : D} {v : V} (hr : HR K μ h H) (r : Rep K μ H d v) (e : m0D m d h ≠ .no) : tyV K "list" v H := by
  unfold m0D at e
  cases r with
  | @loc nn b mm =>
    cases e1 : h[nn]? with
    | none => simp only [e1] at e; exact absurd rfl e
    | some o =>
      cases o with
      | dK _ => simp only [e1] at e; exact absurd rfl e
      | lst ds => obtain ⟨vs, q1, q2⟩ := lst_of hr mm e1; exact .inl ⟨rfl, vs, SqL.of q1⟩
  | _ => exact absurd rfl e
theorem Reps.isEmpty {K : PySem.W.Frag} {μ : List Addr} {H : Hp} {ds : List D} {vs : List V} (r : Reps K μ H ds vs) : ds.isEmpty = vs.isEmpty := by cases r <;> rfl
theorem onL_ty {K : PySem.W.Frag} {cv : Nat → Value} {R : List Addr → Hp → D → V → Prop} {μ : List Addr} {H : Hp} {h : Hh} {d : D} {v : V} {r : Res D} {Q : VK} {Z : Value → Hp → Prop} (hr : HR K μ h H) (q : Rep K μ H d v) (p : PostE K cv R μ H (onL d h r) Q Z) : tyV K "list" v H ∧ PostE K cv R μ H r Q Z := by
  unfold onL at p
  cases q with
  | @loc nn b mm =>
    cases e1 : h[nn]? with
    | none => simp only [e1] at p; exact p.elim
    | some o =>
      cases o with
      | dK _ => simp only [e1] at p; exact p.elim
      | lst ds => simp only [e1] at p; obtain ⟨vs, q1, q2⟩ := lst_of hr mm e1; exact ⟨.inl ⟨rfl, vs, SqL.of q1⟩, p⟩
  | _ => exact p.elim
theorem fold_plain (it : I) {env : Env} : ∀ x, foldedSetIterable (it.py n) env x = pure x := by
  intro x
  cases it with
  | seq e =>
    cases e with
    | ofL l => cases l <;> (unfold I.py E.py L.py; rfl)
    | _ => unfold I.py E.py; rfl
  | lst l => cases l <;> (unfold I.py L.py; rfl)
  | rng a p0 p => unfold I.py; rfl
  | rng2 a b p0 p => unfold I.py; rfl
  | rev e p0 p => unfold I.py; rfl
theorem comp_ok {elt : E} {t : Tg} {it : I} {c : Es} {NC : List Str} {cap : List (Option Nat)} {csc : Scope} {p : Pos} (C : Kx X Z k n cv cl) (h : (L.comp elt t it c NC cap csc p).ok X.env.scope n = true) :
    it.ok X.env.scope n = true ∧ compOk X.env.scope csc X.N NC cap = true ∧ NC.Nodup ∧ NC.all goodN = true ∧ t.ok (relab csc X.env.scope) NC = true ∧ elt.ok (relab csc X.env.scope) ⟨NC, n.F, n.G⟩ = true ∧ c.ok (relab csc X.env.scope) ⟨NC, n.F, n.G⟩ = true ∧ c.okT = true ∧ c.short = true := by
  unfold L.ok at h
  simp only [Bool.and_eq_true, decide_eq_true_eq] at h
  obtain ⟨⟨⟨⟨⟨⟨⟨⟨k1, k2⟩, k3⟩, k4⟩, k5⟩, k6⟩, k7⟩, k8⟩, k9⟩ := h
  exact ⟨k1, by rw [C.nN]; exact k2, k3, k4, k5, k6, k7, k8, k9⟩
theorem pf_none {Zc : ZK} {m : Nm} : PF X (Es.nil.py m) (lift X.K cv RB Zc (Es.nil.evC cl)) := by
  unfold Es.py
  refine fun pins s σ H Q I q => pf_nil pins s σ H Q I ?_
  obtain ⟨μ, ρ, h, hr, er, q⟩ := q
  unfold Es.evC at q
  exact q.here hr rfl
theorem comp_pg {scope : Scope} {NC : List Str} {cap : List (Option Nat)} {t : Tg} (cok : compOk X.env.scope scope X.N NC cap = true) (hnd : NC.Nodup) (ht : t.ok (relab scope X.env.scope) NC = true) {Cc : Addr} {s : Shared} {H : Hp} {fp : List Addr} {pn : List (Addr × Obj)} {xe : Value → Shared → Prop} :
    PG (compCx X NC scope Cc s H fp pn xe) (t.py NC) (gB X.K t) := by
  refine pg_T (X := compCx X NC scope Cc s H fp pn xe) rfl hnd t fun i hi => ?_
  unfold Tg.ok at ht
  have h1 := List.all_eq_true.mp ht i hi
  rw [Bool.and_eq_true] at h1
  have h2 : (relab scope X.env.scope).names.lookup (NC.getD i "") = some .local := of_decide_eq_true h1.2
  exact ⟨of_decide_eq_true h1.1, .inl h2, .inr h2⟩
mutual
theorem sE : ∀ (e : E) (X : Cx) (Z : ZK) (k : Nat) (n : Nm) (cv : Nat → Value) (cl : Nat → List D → Hh → Res D), Kx X Z k n cv cl → e.ok X.env.scope n = true → SE X Z n cv cl e
  | .non p, X, Z, k, n, cv, cl, C, _ => ⟨PE.mono pe_non fun σ H Q q => lift_C (fun _ _ _ => .non) q, fun z => nomatch z⟩
  | .bl b p, X, Z, k, n, cv, cl, C, _ => ⟨PE.mono pe_bl fun σ H Q q => lift_C (fun _ _ _ => .bl b) q, fun z => nomatch z⟩
  | .int i p, X, Z, k, n, cv, cl, C, _ => ⟨PE.mono pe_int fun σ H Q q => lift_C (fun _ _ _ => .int i) q, fun z => nomatch z⟩
  | .str x p, X, Z, k, n, cv, cl, C, _ => ⟨PE.mono pe_str fun σ H Q q => lift_C (fun _ _ _ => .str x) q, fun z => nomatch z⟩
  | .var i p, X, Z, k, n, cv, cl, C, h => by
    have hi : i < n.N.length := of_decide_eq_true h
    have hm := C.nm _ (getD_mem (d := ("" : Str)) hi)
    have hv := hm.1
    have hg := goodN_of hm.2
    have pe : PE X ((E.var i p).py n) (lift X.K cv (Rep X.K) Z ((E.var i p).ev cl)) := by
      unfold E.py
      refine PE.mono (pe_var (i := i) (by rw [C.nN]; exact getD_some hi) hv hg.1 hg.2) fun σ H Q ⟨μ, ρ, h, hr, er, q⟩ => ?_
      unfold E.ev at q
      cases e : ρ[i]? with
      | none => rw [e] at q; exact q.elim
      | some o =>
        cases o with
        | none => rw [e] at q; exact q.elim
        | some d =>
          rw [e] at q
          obtain ⟨v, e1, r1⟩ := er.val i d e
          exact ⟨v, e1, q.here hr r1⟩
    exact ⟨pe, fun _ => by unfold E.py at pe ⊢; exact pt_lift pe fun _ => rfl⟩
  | .bin op a b p, X, Z, k, n, cv, cl, C, h => by
    have h' : a.ok X.env.scope n = true ∧ b.ok X.env.scope n = true := by unfold E.ok at h; simpa using h
    have sa := sE a X Z k n cv cl C h'.1
    have sb := sE b X Z k n cv cl C h'.2
    have pe : PE X ((E.bin op a b p).py n) (lift X.K cv (Rep X.K) Z ((E.bin op a b p).ev cl)) := by
      unfold E.py
      refine PE.mono (pe_op (op_bin (cv := cv) op) sa.pe sb.pe) fun σ H Q q => ?_
      unfold E.ev at q
      exact lift2 q
    exact ⟨pe, fun _ => by unfold E.py at pe ⊢; exact pt_lift pe fun _ => rfl⟩
  | .un op a p, X, Z, k, n, cv, cl, C, h => by
    have h' : a.ok X.env.scope n = true := by unfold E.ok at h; simp at h; exact h.1
    have sa := sE a X Z k n cv cl C h'
    cases op with
    | Not =>
      refine ⟨?_, fun z => ?_⟩
      · unfold E.py
        refine PE.mono (pe_not sa.pe) fun σ H Q ⟨μ, ρ, h, hr, er, q⟩ => ?_
        unfold E.ev at q
        refine lift_bind (m := a.ev cl) hr er q fun d h1 μ1 H1 x _ e1 r1 er1 qa p1 => ?_
        unfold unD at p1
        cases qa with
        | bl b => exact ⟨b, rfl, p1.here r1 (.bl _)⟩
        | _ => exact p1.elim
      · unfold E.py
        have z' : a.okT = true := by unfold E.okT at z; exact z
        refine PT.mono (pt_not (sa.pt z')) fun σ H Q ⟨μ, ρ, h, hr, er, q⟩ => ?_
        refine ⟨μ, ρ, h, hr, er, ?_⟩
        have e1 : (E.un .Not a p).evT cl ρ h = (a.evT cl ρ h).bind fun b h1 => .ok (!b) h1 := by
          rw [evT_eq, evT_eq, bind_assoc]
          show ((a.ev cl ρ h).bind fun x h1 => unD .Not x h1).bind toB = _
          rw [bind_assoc]
          congr 1
          funext d h1
          unfold unD toB
          cases d <;> rfl
        rw [e1] at q
        cases e2 : a.evT cl ρ h with
        | ok b h1 =>
          rw [e2] at q
          intro μ1 H1 v x1 x2 x3
          have x3' : b = v := x3
          subst x3'
          exact q μ1 H1 (!b) x1 x2 rfl
        | exc c h1 => rw [e2] at q; exact q
        | no => rw [e2] at q; exact q
    | Invert =>
      have pe : PE X ((E.un .Invert a p).py n) (lift X.K cv (Rep X.K) Z ((E.un .Invert a p).ev cl)) := by
        unfold E.py
        refine PE.mono (pe_un (un_op (cv := cv) .Invert (.inl rfl)) sa.pe) fun σ H Q q => ?_
        unfold E.ev at q
        exact lift1 q
      exact ⟨pe, fun _ => by unfold E.py at pe ⊢; exact pt_lift pe fun _ => rfl⟩
    | USub =>
      have pe : PE X ((E.un .USub a p).py n) (lift X.K cv (Rep X.K) Z ((E.un .USub a p).ev cl)) := by
        unfold E.py
        refine PE.mono (pe_un (un_op (cv := cv) .USub (.inr rfl)) sa.pe) fun σ H Q q => ?_
        unfold E.ev at q
        exact lift1 q
      exact ⟨pe, fun _ => by unfold E.py at pe ⊢; exact pt_lift pe fun _ => rfl⟩
    | UAdd =>
      have no : ∀ {β : Type} {σ : St} {H : Hp} {R : List Addr → Hp → D → β → Prop} {Q : β → Hp → Prop}, lift X.K cv R Z ((E.un .UAdd a p).ev cl) σ H Q → lift X.K cv (Rep X.K) Z (a.ev cl) σ H (fun _ _ => False) := by
        intro β σ H R Q ⟨μ, ρ, h, hr, er, q⟩
        unfold E.ev at q
        refine lift_bind (m := a.ev cl) hr er q fun d h1 μ1 H1 x _ e1 r1 er1 qa p1 => ?_
        unfold unD at p1
        cases d <;> exact p1.elim
      have pe : PE X ((E.un .UAdd a p).py n) (lift X.K cv (Rep X.K) Z ((E.un .UAdd a p).ev cl)) := by
        unfold E.py
        refine PE.mono (pe_un (r := fun _ _ _ => False) (fun _ _ _ _ _ _ _ _ _ z => z.elim) sa.pe) fun σ H Q q => no q
      exact ⟨pe, fun _ => by unfold E.py at pe ⊢; exact pt_lift pe fun _ => rfl⟩
  | .cmp op a b p, X, Z, k, n, cv, cl, C, h => by
    have h' : (a.ok X.env.scope n = true ∧ b.ok X.env.scope n = true) ∧ behindInMarks op (b.py n) = false := by unfold E.ok at h; simpa using h
    have sa := sE a X Z k n cv cl C h'.1.1
    have sb := sE b X Z k n cv cl C h'.1.2
    refine ⟨?_, fun _ => ?_⟩
    · unfold E.py
      refine PE.mono (pe_cmpR (op_cmp (cv := cv) C.rm.units op) sa.pe sb.pe h'.2) fun σ H Q q => ?_
      unfold E.ev at q
      exact lift2 q
    · unfold E.py
      refine PT.mono (pt_cmpR (op_cmp (cv := cv) C.rm.units op) sa.pe sb.pe h'.2) fun σ H Q ⟨μ, ρ, h, hr, er, q⟩ => ?_
      rw [evT_eq] at q
      unfold E.ev at q
      rw [bind_assoc] at q
      unfold tTest
      refine lift_bind (m := a.ev cl) hr er q fun da h1 μ1 H1 x _ e1 r1 er1 qa p1 => ?_
      rw [bind_assoc] at p1
      refine lift_bind (m := b.ev cl) r1 er1 p1 fun db h2 μ2 H2 y _ e2 r2 er2 qb p2 => ?_
      refine ⟨μ2, h2, da, db, Z σ, r2, qa.mono e2, qb, ?_⟩
      cases e3 : cmpD op da db h2 with
      | ok d h3 =>
        rw [e3] at p2
        intro μ3 H3 v x1 x2 x3
        unfold Res.bind toB at p2
        cases x3 with
        | bl c => exact ⟨c, rfl, p2 μ3 H3 c x1 x2 rfl⟩
        | _ => exact p2.elim
      | exc c h3 => rw [e3] at p2; exact p2
      | no => rw [e3] at p2; exact p2
  | .and a b r p, X, Z, k, n, cv, cl, C, h => by
    have h' : ((((a.ok X.env.scope n = true ∧ b.ok X.env.scope n = true) ∧ r.ok X.env.scope n = true) ∧ a.okT = true) ∧ b.okT = true) ∧ r.okT = true := by unfold E.ok at h; simpa using h
    have sa := sE a X Z k n cv cl C h'.1.1.1.1.1
    have sb := sE b X Z k n cv cl C h'.1.1.1.1.2
    have sr := sEs r X Z k n cv cl C h'.1.1.1.2
    refine ⟨?_, fun _ => ?_⟩
    · unfold E.py
      refine PE.mono (pe_and sa.pe (sr.an b p sb)) fun σ H Q ⟨μ, ρ, h, hr, er, q⟩ => ?_
      unfold E.ev at q
      refine lift_bind (m := a.ev cl) hr er q fun d h1 μ1 H1 x _ e1 r1 er1 qa p1 => ?_
      unfold tru at p1
      cases qa with
      | bl c =>
        refine ⟨c, rfl, ?_⟩
        cases c with
        | true => exact iteT ⟨μ1, ρ, h1, r1, er1, p1⟩
        | false => exact iteF (p1.here r1 (.bl _))
      | _ => exact p1.elim
    · unfold E.py
      refine PT.mono (PW.pt (pw_and (sa.pt h'.1.1.2) (sr.anT b p sb h'.1.2 h'.2))) fun σ H Q ⟨μ, ρ, h, hr, er, q⟩ => ?_
      have e0 : (E.and a b r p).evT cl ρ h = (a.evT cl ρ h).bind fun c h1 => if c then (b.evT cl ρ h1).bind fun c' h2 => r.evAndT cl ρ c' h2 else .ok false h1 := by
        rw [evT_eq, evT_eq, bind_assoc]
        show ((a.ev cl ρ h).bind fun x h1 => tru x h1 fun c h1 => if c then (b.ev cl ρ h1).bind fun y h2 => r.evAnd cl ρ y h2 else .ok (.bl false) h1).bind toB = _
        rw [bind_assoc]
        congr 1
        funext d h1
        unfold tru
        cases d with
        | bl c =>
          cases c with
          | false => rfl
          | true =>
            show ((b.ev cl ρ h1).bind fun y h2 => r.evAnd cl ρ y h2).bind toB = (b.evT cl ρ h1).bind fun c' h2 => r.evAndT cl ρ c' h2
            rw [evT_eq, bind_assoc, bind_assoc]
            congr 1
            funext y h2
            exact and_toB r ρ y h2
        | _ => rfl
      rw [e0] at q
      refine lift_bind (m := a.evT cl) (R := RB) hr er q fun c h1 μ1 H1 x _ e1 r1 er1 qa p1 => ?_
      have qa' : c = x := qa
      subst qa'
      cases c with
      | true => exact iteT ⟨μ1, ρ, h1, r1, er1, p1⟩
      | false => exact iteF (p1.here r1 rfl)
  | .or a b r p, X, Z, k, n, cv, cl, C, h => by
    have h' : ((((a.ok X.env.scope n = true ∧ b.ok X.env.scope n = true) ∧ r.ok X.env.scope n = true) ∧ a.okT = true) ∧ b.okT = true) ∧ r.okT = true := by unfold E.ok at h; simpa using h
    have sa := sE a X Z k n cv cl C h'.1.1.1.1.1
    have sb := sE b X Z k n cv cl C h'.1.1.1.1.2
    have sr := sEs r X Z k n cv cl C h'.1.1.1.2
    refine ⟨?_, fun _ => ?_⟩
    · unfold E.py
      refine PE.mono (pe_or sa.pe (sr.orr b p sb)) fun σ H Q ⟨μ, ρ, h, hr, er, q⟩ => ?_
      unfold E.ev at q
      refine lift_bind (m := a.ev cl) hr er q fun d h1 μ1 H1 x _ e1 r1 er1 qa p1 => ?_
      unfold tru at p1
      cases qa with
      | bl c =>
        refine ⟨c, rfl, ?_⟩
        cases c with
        | true => exact iteT (p1.here r1 (.bl _))
        | false => exact iteF ⟨μ1, ρ, h1, r1, er1, p1⟩
      | _ => exact p1.elim
    · unfold E.py
      refine PT.mono (PW.pt (pw_or (sa.pt h'.1.1.2) (sr.orT b p sb h'.1.2 h'.2))) fun σ H Q ⟨μ, ρ, h, hr, er, q⟩ => ?_
      have e0 : (E.or a b r p).evT cl ρ h = (a.evT cl ρ h).bind fun c h1 => if c then .ok true h1 else (b.evT cl ρ h1).bind fun c' h2 => r.evOrT cl ρ c' h2 := by
        rw [evT_eq, evT_eq, bind_assoc]
        show ((a.ev cl ρ h).bind fun x h1 => tru x h1 fun c h1 => if c then .ok (.bl true) h1 else (b.ev cl ρ h1).bind fun y h2 => r.evOr cl ρ y h2).bind toB = _
        rw [bind_assoc]
        congr 1
        funext d h1
        unfold tru
        cases d with
        | bl c =>
          cases c with
          | true => rfl
          | false =>
            show ((b.ev cl ρ h1).bind fun y h2 => r.evOr cl ρ y h2).bind toB = (b.evT cl ρ h1).bind fun c' h2 => r.evOrT cl ρ c' h2
            rw [evT_eq, bind_assoc, bind_assoc]
            congr 1
            funext y h2
            exact or_toB r ρ y h2
        | _ => rfl
      rw [e0] at q
      refine lift_bind (m := a.evT cl) (R := RB) hr er q fun c h1 μ1 H1 x _ e1 r1 er1 qa p1 => ?_
      have qa' : c = x := qa
      subst qa'
      cases c with
      | true => exact iteT (p1.here r1 rfl)
      | false => exact iteF ⟨μ1, ρ, h1, r1, er1, p1⟩
  | .ite c a b p, X, Z, k, n, cv, cl, C, h => by
    have h' : ((c.ok X.env.scope n = true ∧ a.ok X.env.scope n = true) ∧ b.ok X.env.scope n = true) ∧ c.okT = true := by unfold E.ok at h; simpa using h
    have sc := sE c X Z k n cv cl C h'.1.1.1
    have sa := sE a X Z k n cv cl C h'.1.1.2
    have sb := sE b X Z k n cv cl C h'.1.2
    refine ⟨?_, fun z => nomatch z⟩
    unfold E.py
    refine PE.mono (pe_ifExp (sc.pt h'.2) sa.pe sb.pe) fun σ H Q ⟨μ, ρ, h, hr, er, q⟩ => ?_
    unfold E.ev at q
    have e0 : ((c.ev cl ρ h).bind fun x h1 => tru x h1 fun t h1 => if t then a.ev cl ρ h1 else b.ev cl ρ h1) = (c.evT cl ρ h).bind fun t h1 => if t then a.ev cl ρ h1 else b.ev cl ρ h1 := by
      rw [evT_eq, bind_assoc]
      congr 1
      funext d h1
      unfold tru toB
      cases d <;> rfl
    rw [e0] at q
    refine lift_bind (m := c.evT cl) (R := RB) hr er q fun t h1 μ1 H1 x _ e1 r1 er1 qa p1 => ?_
    have qa' : t = x := qa
    subst qa'
    cases t with
    | true => exact iteT ⟨μ1, ρ, h1, r1, er1, p1⟩
    | false => exact iteF ⟨μ1, ρ, h1, r1, er1, p1⟩
  | .call f a r p0 p, X, Z, k, n, cv, cl, C, h => by
    have h' : ((f < n.F.length ∧ gOf X.env.scope (n.F.getD f "") = true) ∧ a.ok X.env.scope n = true) ∧ r.ok X.env.scope n = true := by unfold E.ok at h; simpa using h
    have sa := sE a X Z k n cv cl C h'.1.2
    have sr := sEs r X Z k n cv cl C h'.2
    obtain ⟨hdb, fa, fd, ps, hm, hk, hb, hl, F⟩ := C.fn f _ (getD_some (d := ("" : Str)) h'.1.1.1)
    have pe : PE X ((E.call f a r p0 p).py n) (lift X.K cv (Rep X.K) Z ((E.call f a r p0 p).ev cl)) := by
      unfold E.py
      refine PE.mono (pe_callX F C.rm (C.gl h'.1.1.2) hm hk hb .nil C.th (pa_cons sa.pe sr.pa (star_cons a _ _)) hdb (star_cons a _ _) (star_plain r p X.env)) fun σ H Q ⟨μ, ρ, h, hr, er, q⟩ => ?_
      unfold E.ev at q
      unfold tCallX tCons
      refine lift_bind (m := a.ev cl) hr er q fun da h1 μ1 H1 x _ e1 r1 er1 qa p1 => ?_
      refine lift_bind (m := r.ev cl) r1 er1 p1 fun ds h2 μ2 H2 xs _ e2 r2 er2 qb p2 => ?_
      show spI X.K cv ps.length (cl f) ((x :: xs) ++ []) H2 Q fun C _ H' => Z σ C H'
      rw [List.append_nil]
      have z := hl (da :: ds) h2 fun z => by rw [z] at p2; exact p2
      exact ⟨by rw [List.length_cons, ← qb.length, ← List.length_cons (a := da)]; exact z, μ2, h2, da :: ds, r2, .cons (qa.mono e2) qb, p2⟩
    exact ⟨pe, fun _ => by unfold E.py at pe ⊢; exact pt_lift pe fun _ => rfl⟩
  | .len a p0 p, X, Z, k, n, cv, cl, C, h => by
    have h' : gOf X.env.scope "len" = true ∧ a.ok X.env.scope n = true := by unfold E.ok at h; simpa using h
    have sa := sE a X Z k n cv cl C h'.2
    have pe : PE X ((E.len a p0 p).py n) (lift X.K cv (Rep X.K) Z ((E.len a p0 p).ev cl)) := by
      unfold E.py
      refine PE.mono (pe_callB (call_lenI (cv := cv)) (C.gl h'.1) (C.bm _ (by decide)) PySem.boot_len (pa_cons sa.pe pa_nil (star_cons a _ _)) (by decide) (by decide) (star_cons a _ _) rfl) fun σ H Q ⟨μ, ρ, h, hr, er, q⟩ => ?_
      unfold E.ev at q
      refine lift_bind (m := a.ev cl) hr er q fun da h1 μ1 H1 x _ e1 r1 er1 qa p1 => ?_
      exact ⟨x, rfl, μ1, h1, da, _, r1, qa, p1⟩
    exact ⟨pe, fun _ => by unfold E.py at pe ⊢; exact pt_lift pe fun _ => rfl⟩
  | .isi T a p0 p1 p, X, Z, k, n, cv, cl, C, h => by
    have h' : ((gOf X.env.scope "isinstance" = true ∧ gOf X.env.scope (tyName T) = true) ∧ T < 5) ∧ a.ok X.env.scope n = true := by unfold E.ok at h; simpa using h
    have sa := sE a X Z k n cv cl C h'.2
    obtain ⟨b1, b2, b3, b4⟩ := boot_T T h'.1.2
    have pe : PE X ((E.isi T a p0 p1 p).py n) (lift X.K cv (Rep X.K) Z ((E.isi T a p0 p1 p).ev cl)) := by
      unfold E.py
      refine PE.mono (pe_callB (call_isI (cv := cv) T h'.1.2) (C.gl h'.1.1.1) (C.bm _ (by decide)) PyProof.Rows.boot_isinstance (pa_cons sa.pe (pa_cons (pe_bltn (v := .ty (tyStr T)) (C.gl h'.1.1.2) (C.bm _ b4) b1 rfl b2 b3) pa_nil) (star_cons a _ _)) (by decide) (by decide) (star_cons a _ _) rfl) fun σ H Q ⟨μ, ρ, h, hr, er, q⟩ => ?_
      unfold E.ev at q
      refine lift_bind (m := a.ev cl) hr er q fun da h1 μ1 H1 x _ e1 r1 er1 qa p1 => ?_
      exact ⟨x, rfl, μ1, h1, da, _, r1, qa, p1⟩
    exact ⟨pe, fun _ => by unfold E.py at pe ⊢; exact pt_lift pe fun _ => rfl⟩
  | .sub a i p, X, Z, k, n, cv, cl, C, h => by
    have h' : a.ok X.env.scope n = true ∧ i.ok X.env.scope n = true := by unfold E.ok at h; simpa using h
    have sa := sE a X Z k n cv cl C h'.1
    have sb := sE i X Z k n cv cl C h'.2
    have pe : PE X ((E.sub a i p).py n) (lift X.K cv (Rep X.K) Z ((E.sub a i p).ev cl)) := by
      unfold E.py
      refine PE.mono (pe_ix (ix_ours (cv := cv) (hu_of C.rm)) sa.pe sb.pe (plain_ix i)) fun σ H Q q => ?_
      unfold E.ev at q
      exact lift2 q
    exact ⟨pe, fun _ => by unfold E.py at pe ⊢; exact pt_lift pe fun _ => rfl⟩
  | .tup es p, X, Z, k, n, cv, cl, C, h => by
    have h' : es.ok X.env.scope n = true := by unfold E.ok at h; exact h
    have sr := sEs es X Z k n cv cl C h'
    have pe : PE X ((E.tup es p).py n) (lift X.K cv (Rep X.K) Z ((E.tup es p).ev cl)) := by
      unfold E.py
      refine PE.mono (pe_tup sr.pa) fun σ H Q ⟨μ, ρ, h, hr, er, q⟩ => ?_
      unfold E.ev at q
      refine lift_bind (m := es.ev cl) hr er q fun ds h1 μ1 H1 xs _ e1 r1 er1 qa p1 => ?_
      split at p1
      · rename_i c
        refine ⟨by rw [← qa.length]; exact Nat.le_of_lt (small1000 c), fun a ha => ?_⟩
        exact p1 μ1 _ (.ref a) (ext_new ha) (r1.tup ha) (.tup (SqT.of upd_same) (qa.mono (ext_new ha)))
      · exact p1.elim
    exact ⟨pe, fun _ => by unfold E.py at pe ⊢; exact pt_lift pe fun _ => rfl⟩
  | .ofL l, X, Z, k, n, cv, cl, C, h => by
    have sl := sL l X Z k n cv cl C (by unfold E.ok at h; exact h)
    refine ⟨?_, fun z => nomatch z⟩
    unfold E.py
    refine PE.mono sl fun σ H Q ⟨μ, ρ, h, hr, er, q⟩ => ?_
    unfold E.ev at q
    refine lift_bind0 (m := l.ev cl) Ext.refl hr er q (fun _ _ z => z) fun ds h1 μ1 H1 x _ e1 r1 er1 qa p1 => ?_
    obtain ⟨p, vs, rfl, g1, g2, g3, g4⟩ := qa
    refine p1 (μ1 ++ [p]) H1 _ (e1.add g4) (r1.add g3 fun μ' gr => ⟨vs, g1, g2.mono' gr⟩) (.loc ?_)
    rw [← r1.len, List.getElem?_append_right (Nat.le_refl _), Nat.sub_self]
    rfl
  | .tupE e p0 p, X, Z, k, n, cv, cl, C, h => by
    have h' : gOf X.env.scope "tuple" = true ∧ e.ok X.env.scope n = true := by unfold E.ok at h; simpa using h
    have se := sE e X Z k n cv cl C h'.2
    have pe : PE X ((E.tupE e p0 p).py n) (lift X.K cv (Rep X.K) Z ((E.tupE e p0 p).ev cl)) := by
      unfold E.py
      refine PE.mono (pe_callTy (call_tupI (cv := cv)) (C.gl h'.1) (C.bm _ (by decide)) PyProof.Rows.boot_tuple (pa_cons se.pe pa_nil (star_cons e _ _)) (by decide) (by decide) (star_cons e _ _) rfl) fun σ H Q ⟨μ, ρ, h, hr, er, q⟩ => ?_
      unfold E.ev at q
      refine lift_bind (m := e.ev cl) hr er q fun da h1 μ1 H1 x _ e1 r1 er1 qa p1 => ?_
      exact ⟨x, rfl, μ1, h1, da, _, r1, qa, p1⟩
    exact ⟨pe, fun _ => by unfold E.py at pe ⊢; exact pt_lift pe fun _ => rfl⟩
  | .dicP e p0 p, X, Z, k, n, cv, cl, C, h => by
    have h' : gOf X.env.scope "dict" = true ∧ e.ok X.env.scope n = true := by unfold E.ok at h; simpa using h
    have se := sE e X Z k n cv cl C h'.2
    have pe : PE X ((E.dicP e p0 p).py n) (lift X.K cv (Rep X.K) Z ((E.dicP e p0 p).ev cl)) := by
      unfold E.py
      refine PE.mono (pe_callTy (call_dictI (cv := cv) C.cm) (C.gl h'.1) (C.bm _ (by decide)) rfl (pa_cons se.pe pa_nil (star_cons e _ _)) (by decide) (by decide) (star_cons e _ _) rfl) fun σ H Q ⟨μ, ρ, h, hr, er, q⟩ => ?_
      unfold E.ev at q
      refine lift_bind (m := e.ev cl) hr er q fun da h1 μ1 H1 x _ e1 r1 er1 qa p1 => ?_
      exact ⟨x, rfl, μ1, h1, da, _, r1, qa, p1⟩
    exact ⟨pe, fun _ => by unfold E.py at pe ⊢; exact pt_lift pe fun _ => rfl⟩
  | .dispD ks vs p, X, Z, k, n, cv, cl, C, h => by
    have h' : ((vs.ok X.env.scope n = true ∧ ks.length = (vs.py n).length) ∧ ks.length ≤ 15) ∧ 0 < ks.length := by unfold E.ok at h; simpa using h
    have sv := sEs vs X Z k n cv cl C h'.1.1.1
    obtain ⟨trs, pp, go⟩ := sv.ps ks p h'.1.1.2
    refine ⟨?_, fun z => nomatch z⟩
    unfold E.py
    refine PE.mono (pe_disp pp (by simp) (by rw [List.length_map]; exact h'.1.1.2) (fun z => by have := congrArg List.length z; rw [List.length_map] at this; have := h'.2; simp_all) (by rw [List.length_map]; exact h'.1.2)) fun σ H Q ⟨μ, ρ, h, hr, er, q⟩ => ?_
    unfold E.ev at q
    intro b hb
    have hr' : HR X.K (μ ++ [b]) (h ++ [.dK []]) (upd H b (.dK [])) := hr.alloc hb (hr.fresh hb) fun μ' g => ⟨_, upd_same, .nil⟩
    have e0 : Ext X.K μ H (μ ++ [b]) (upd H b (.dK [])) := (ext_new hb).add hb
    refine go σ _ _ (lift_bind0 (m := vs.ev cl) e0 hr' (er.mono e0) q (fun _ _ z => z) fun ds h1 μ1 H1 us _ e1 r1 er1 qa p1 => ?_)
    refine disp_ours (e1.loc h.length b ?_) r1 qa h'.1.2 (e0.trans e1) p1
    rw [← hr.len, List.getElem?_append_right (Nat.le_refl _), Nat.sub_self]
    rfl
  | .cut a lo hi p2 p, X, Z, k, n, cv, cl, C, h => by
    have h' : (a.ok X.env.scope n = true ∧ lo.ok X.env.scope n = true) ∧ hi.ok X.env.scope n = true := by unfold E.ok at h; simpa using h
    have sa := sE a X Z k n cv cl C h'.1.1
    have sl := sEo lo X Z k n cv cl C h'.1.2
    have sh := sEo hi X Z k n cv cl C h'.2
    have pe : PE X ((E.cut a lo hi p2 p).py n) (lift X.K cv (Rep X.K) Z ((E.cut a lo hi p2 p).ev cl)) := by
      unfold E.py
      refine PE.mono (pe_slice (sl_ours (cv := cv)) sa.pe sl sh) fun σ H Q ⟨μ, ρ, h, hr, er, q⟩ => ?_
      unfold E.ev at q
      refine lift_bind (m := a.ev cl) hr er q fun da h1 μ1 H1 x _ e1 r1 er1 qa p1 => ?_
      refine lift_bind (m := lo.ev cl) (R := fun _ _ a b => a = b) r1 er1 p1 fun l h2 μ2 H2 l' _ e2 r2 er2 ql p2 => ?_
      have ql' : l = l' := ql
      subst ql'
      refine lift_bind (m := hi.ev cl) (R := fun _ _ a b => a = b) r2 er2 p2 fun u h3 μ3 H3 u' _ e3 r3 er3 qu p3 => ?_
      have qu' : u = u' := qu
      subst qu'
      exact ⟨μ3, h3, da, _, r3, (qa.mono e2).mono e3, p3⟩
    exact ⟨pe, fun _ => by unfold E.py at pe ⊢; exact pt_lift pe fun _ => rfl⟩
  | .m0 m o p1 p, X, Z, k, n, cv, cl, C, h => by
    have h' : o.ok X.env.scope n = true ∧ p1.endLine = p.line := by unfold E.ok at h; simpa using h
    have so := sE o X Z k n cv cl C h'.1
    have hl : (p1.endLine == p.line) = true := beq_iff_eq.mpr h'.2
    have pe : PE X ((E.m0 m o p1 p).py n) (lift X.K cv (Rep X.K) Z ((E.m0 m o p1 p).ev cl)) := by
      unfold E.py
      cases m with
      | pop =>
        refine PE.mono (pe_bm0 PySem.F.plainAttrs_list PySem.F.slot_list_pop PySem.F.type_list_pop (mt_pop0 (cv := cv)) so.pe (base_plain o _ _) hl) fun σ H Q ⟨μ, ρ, h, hr, er, q⟩ => ?_
        unfold E.ev at q
        refine lift_bind (m := o.ev cl) hr er q fun da h1 μ1 H1 x _ e1 r1 er1 qa p1 => ?_
        exact ⟨m0_ty r1 qa fun z => by rw [z] at p1; exact p1, rfl, μ1, h1, da, _, r1, qa, p1⟩
    exact ⟨pe, fun _ => by unfold E.py at pe ⊢; exact pt_lift pe fun _ => rfl⟩
  | .m1 m o a p1 p, X, Z, k, n, cv, cl, C, h => by
    have h' : (o.ok X.env.scope n = true ∧ a.ok X.env.scope n = true) ∧ p1.endLine = p.line := by unfold E.ok at h; simpa using h
    have so := sE o X Z k n cv cl C h'.1.1
    have sa := sE a X Z k n cv cl C h'.1.2
    have hl : (p1.endLine == p.line) = true := beq_iff_eq.mpr h'.2
    have pe : PE X ((E.m1 m o a p1 p).py n) (lift X.K cv (Rep X.K) Z ((E.m1 m o a p1 p).ev cl)) := by
      unfold E.py
      cases m with
      | append =>
        refine PE.mono (pe_bm PySem.F.plainAttrs_list PySem.F.slot_list_append PySem.F.type_list_append (mt_append1 (cv := cv)) so.pe (pa_cons sa.pe pa_nil (star_cons a _ _)) (base_plain o _ _) (few_one a _ _) hl (star_cons a _ _) rfl) fun σ H Q ⟨μ, ρ, h, hr, er, q⟩ => ?_
        unfold E.ev at q
        refine lift_bind (m := o.ev cl) hr er q fun da h1 μ1 H1 x _ e1 r1 er1 qa p1 => ?_
        obtain ⟨ty, p1⟩ := onL_ty r1 qa p1
        refine ⟨ty, ?_⟩
        refine lift_bind (m := a.ev cl) r1 er1 p1 fun db h2 μ2 H2 y _ e2 r2 er2 qb p2 => ?_
        exact ⟨y, rfl, μ2, h2, da, db, _, r2, qa.mono e2, qb, p2⟩
      | extend =>
        refine PE.mono (pe_bm PySem.F.plainAttrs_list PySem.F.slot_list_extend PySem.F.type_list_extend (mt_extend1 (cv := cv)) so.pe (pa_cons sa.pe pa_nil (star_cons a _ _)) (base_plain o _ _) (few_one a _ _) hl (star_cons a _ _) rfl) fun σ H Q ⟨μ, ρ, h, hr, er, q⟩ => ?_
        unfold E.ev at q
        refine lift_bind (m := o.ev cl) hr er q fun da h1 μ1 H1 x _ e1 r1 er1 qa p1 => ?_
        obtain ⟨ty, p1⟩ := onL_ty r1 qa p1
        refine ⟨ty, ?_⟩
        refine lift_bind (m := a.ev cl) r1 er1 p1 fun db h2 μ2 H2 y _ e2 r2 er2 qb p2 => ?_
        exact ⟨y, rfl, μ2, h2, da, db, _, r2, qa.mono e2, qb, p2⟩
    exact ⟨pe, fun _ => by unfold E.py at pe ⊢; exact pt_lift pe fun _ => rfl⟩
  | .max2 a b p0 p, X, Z, k, n, cv, cl, C, h => by
    have h' : (gOf X.env.scope "max" = true ∧ a.ok X.env.scope n = true) ∧ b.ok X.env.scope n = true := by unfold E.ok at h; simpa using h
    have sa := sE a X Z k n cv cl C h'.1.2
    have sb := sE b X Z k n cv cl C h'.2
    have pe : PE X ((E.max2 a b p0 p).py n) (lift X.K cv (Rep X.K) Z ((E.max2 a b p0 p).ev cl)) := by
      unfold E.py
      refine PE.mono (pe_callB (call_maxI (cv := cv) C.cm) (C.gl h'.1.1) (C.bm _ (by decide)) PyProof.Rows.boot_max (pa_cons sa.pe (pa_cons sb.pe pa_nil (star_cons b _ _)) (star_cons a _ _)) (by decide) (by decide) (star_cons a _ _) (by rw [star_cons]; rfl)) fun σ H Q ⟨μ, ρ, h, hr, er, q⟩ => ?_
      unfold E.ev at q
      refine lift_bind (m := a.ev cl) hr er q fun da h1 μ1 H1 x _ e1 r1 er1 qa p1 => ?_
      refine lift_bind (m := b.ev cl) r1 er1 p1 fun db h2 μ2 H2 y _ e2 r2 er2 qb p2 => ?_
      exact ⟨x, y, rfl, μ2, h2, da, db, _, r2, qa.mono e2, qb, p2⟩
    exact ⟨pe, fun _ => by unfold E.py at pe ⊢; exact pt_lift pe fun _ => rfl⟩
  | .gsub x kvs i p0 p, X, Z, k, n, cv, cl, C, h => by
    have h' : (gOf X.env.scope x = true ∧ (x, Cn.dic kvs) ∈ n.G) ∧ i.ok X.env.scope n = true := by unfold E.ok at h; simpa using h
    obtain ⟨hd, v, hm, ok⟩ := C.gc x _ h'.1.2
    have si := sE i X Z k n cv cl C h'.2
    have pe : PE X ((E.gsub x kvs i p0 p).py n) (lift X.K cv (Rep X.K) Z ((E.gsub x kvs i p0 p).ev cl)) := by
      unfold E.py
      have ok' := ok
      obtain ⟨a, o, es, ep, vs, rfl, _⟩ := ok'
      refine PE.mono (pe_ix (ix_cst (kvs := kvs)) (pe_glob (v := .ref a) (C.gl h'.1.1) hm rfl hd) si.pe (plain_ix i)) fun σ H Q ⟨μ, ρ, h, hr, er, q⟩ => ?_
      unfold E.ev at q
      refine lift_bind (m := i.ev cl) hr er q fun d h1 μ1 H1 y _ e1 r1 er1 qa p1 => ?_
      unfold cstD at p1
      cases qa with
      | str kk =>
        simp only at p1
        split at p1
        · rename_i xs l
          exact ⟨a, kk, xs, rfl, rfl, ok, l, fun b tk => p1.here r1 tk.rep⟩
        · exact p1.elim
      | _ => exact p1.elim
    exact ⟨pe, fun _ => by unfold E.py at pe ⊢; exact pt_lift pe fun _ => rfl⟩
  | .c1 f a p0 p, X, Z, k, n, cv, cl, C, h => by
    have h' : gOf X.env.scope f.name = true ∧ a.ok X.env.scope n = true := by unfold E.ok at h; simpa using h
    have sa := sE a X Z k n cv cl C h'.2
    have fin : ∀ {σ H Q}, lift X.K cv (Rep X.K) Z ((E.c1 f a p0 p).ev cl) σ H Q → lift X.K cv (Rep X.K) Z (a.ev cl) σ H fun x H1 => ∃ y, [x] = [y] ∧ r1 X.K cv (c1D f) y H1 Q := fun {σ H Q} ⟨μ, ρ, h, hr, er, q⟩ => by
      unfold E.ev at q
      refine lift_bind (m := a.ev cl) hr er q fun da h1 μ1 H1 x _ e1 r1 er1 qa p1 => ?_
      exact ⟨x, rfl, μ1, h1, da, _, r1, qa, p1⟩
    have pe : PE X ((E.c1 f a p0 p).py n) (lift X.K cv (Rep X.K) Z ((E.c1 f a p0 p).ev cl)) := by
      unfold E.py
      cases f with
      | str => exact PE.mono (pe_callTy (call_strI (cv := cv)) (C.gl h'.1) (C.bm _ (by decide)) PyProof.Rows.boot_str (pa_cons sa.pe pa_nil (star_cons a _ _)) (by decide) (by decide) (star_cons a _ _) rfl) fun σ H Q q => fin q
      | int => exact PE.mono (pe_callTy (call_intI (cv := cv)) (C.gl h'.1) (C.bm _ (by decide)) PyProof.Rows.boot_int (pa_cons sa.pe pa_nil (star_cons a _ _)) (by decide) (by decide) (star_cons a _ _) rfl) fun σ H Q q => fin q
      | all => exact PE.mono (pe_callB (call_allI (cv := cv) C.cm) (C.gl h'.1) (C.bm _ (by decide)) PyProof.Rows.boot_all (pa_cons sa.pe pa_nil (star_cons a _ _)) (by decide) (by decide) (star_cons a _ _) rfl) fun σ H Q q => fin q
      | any => exact PE.mono (pe_callB (call_anyI (cv := cv) C.cm) (C.gl h'.1) (C.bm _ (by decide)) PyProof.Rows.boot_any (pa_cons sa.pe pa_nil (star_cons a _ _)) (by decide) (by decide) (star_cons a _ _) rfl) fun σ H Q q => fin q
      | abs => exact PE.mono (pe_callB (call_absI (cv := cv)) (C.gl h'.1) (C.bm _ (by decide)) PyProof.Rows.boot_abs (pa_cons sa.pe pa_nil (star_cons a _ _)) (by decide) (by decide) (star_cons a _ _) rfl) fun σ H Q q => fin q
    exact ⟨pe, fun _ => by unfold E.py at pe ⊢; exact pt_lift pe fun _ => rfl⟩
  | .join o a p1 p, X, Z, k, n, cv, cl, C, h => by
    have h' : (o.ok X.env.scope n = true ∧ a.ok X.env.scope n = true) ∧ p1.endLine = p.line := by unfold E.ok at h; simpa using h
    have so := sE o X Z k n cv cl C h'.1.1
    have sa := sE a X Z k n cv cl C h'.1.2
    have hl : (p1.endLine == p.line) = true := beq_iff_eq.mpr h'.2
    have pe : PE X ((E.join o a p1 p).py n) (lift X.K cv (Rep X.K) Z ((E.join o a p1 p).ev cl)) := by
      unfold E.py
      refine PE.mono (pe_bm PySem.F.plainAttrs_str PySem.F.slot_str_join PySem.F.type_str_join (mt_joinI (cv := cv)) so.pe (pa_cons sa.pe pa_nil (star_cons a _ _)) (base_plain o _ _) (few_one a _ _) hl (star_cons a _ _) rfl) fun σ H Q ⟨μ, ρ, h, hr, er, q⟩ => ?_
      unfold E.ev at q
      refine lift_bind (m := o.ev cl) hr er q fun da h1 μ1 H1 x _ e1 r1 er1 qa p1 => ?_
      unfold onS at p1
      cases qa with
      | str z =>
        refine ⟨?ty, ?_⟩
        case ty => exact rfl
        refine lift_bind (m := a.ev cl) r1 er1 p1 fun db h2 μ2 H2 y _ e2 r2 er2 qb p2 => ?_
        exact ⟨y, rfl, μ2, h2, .str z, db, _, r2, .str z, qb, p2⟩
      | _ => exact p1.elim
    exact ⟨pe, fun _ => by unfold E.py at pe ⊢; exact pt_lift pe fun _ => rfl⟩
  | .listR e p0 p1 p2 p, X, Z, k, n, cv, cl, C, h => by
    have h' : (gOf X.env.scope "list" = true ∧ gOf X.env.scope "reversed" = true) ∧ e.ok X.env.scope n = true := by unfold E.ok at h; simpa using h
    have se := sE e X Z k n cv cl C h'.2
    have pe : PE X ((E.listR e p0 p1 p2 p).py n) (lift X.K cv (Rep X.K) Z ((E.listR e p0 p1 p2 p).ev cl)) := by
      unfold E.py
      refine PE.mono (pe_listrev C.cm (C.gl h'.1.2) (C.bm _ (by decide)) (C.gl h'.1.1) (C.bm _ (by decide)) (pa_cons se.pe pa_nil (star_cons e _ _)) (star_cons e _ _)) fun σ H Q ⟨μ, ρ, h, hr, er, q⟩ => ?_
      unfold E.ev at q
      refine lift_bind (m := e.ev cl) hr er q fun d h1 μ1 H1 x _ e1 r1 er1 qa p1 => ?_
      unfold lrD at p1
      cases qa with
      | @fl ds vs a f r => exact ⟨a, vs, rfl, f.sq, new_loc r1 r.reverse p1⟩
      | @loc nn b m =>
        cases e2 : PI.rd h1 nn with
        | none => simp only [e2] at p1; exact p1.elim
        | some ds =>
          simp only [e2] at p1
          obtain ⟨vs, q1, q2⟩ := rd_reps r1 m e2
          exact ⟨b, vs, rfl, SqL.of q1, new_loc r1 q2.reverse p1⟩
      | _ => exact p1.elim
    exact ⟨pe, fun _ => by unfold E.py at pe ⊢; exact pt_lift pe fun _ => rfl⟩
  | .cmpN neg a p1 p, X, Z, k, n, cv, cl, C, h => by
    have h' : a.ok X.env.scope n = true := by unfold E.ok at h; exact h
    have sa := sE a X Z k n cv cl C h'
    have hu : X.A.units < cLine := by have := C.rm.units; omega
    have hop : OpR X (compareOp (if neg then .NotEq else .Eq)) (rNil X.K neg) := by cases neg with | true => exact op_neNil hu | false => exact op_eqNil hu
    have hb : behindInMarks (if neg then .NotEq else .Eq) (.List [] p1) = false := by cases neg <;> rfl
    have fin : ∀ {μ1 : List Addr} {h1 : Hh} {H1 : Hp} {x : V} {da : D} {Q : VK} {Z1 : Value → Hp → Prop}, HR X.K μ1 h1 H1 → Rep X.K μ1 H1 da x → PostE X.K cv (Rep X.K) μ1 H1 (nilD neg da h1) Q Z1 → ∀ b, H1 b = none → rNil X.K neg x (.ref b) (upd H1 b (.lst [])) Q := fun {μ1 h1 H1 x da Q Z1} r1 qa p1 b hb' => by
      unfold nilD at p1
      have q2 := SqL.of (K := X.K) (upd_same (H := H1) (a := b) (o := .lst []))
      cases qa with
      | @fl ds vs a f r =>
        refine ⟨a, b, vs, rfl, rfl, ((ext_new (μ := μ1) hb').fz _ _ f).sq, q2, ?_⟩
        have z := p1 μ1 (upd H1 b (.lst [])) _ (ext_new hb') (r1.tup hb') (.bl _)
        rw [r.isEmpty] at z
        exact z
      | @loc nn a m =>
        cases e2 : PI.rd h1 nn with
        | none => simp only [e2] at p1; exact p1.elim
        | some ds =>
          simp only [e2] at p1
          obtain ⟨vs, q1, r⟩ := rd_reps r1 m e2
          refine ⟨a, b, vs, rfl, rfl, SqL.of (by rw [upd_ne (by intro z; rw [z, hb'] at q1; cases q1)]; exact q1), q2, ?_⟩
          have z := p1 μ1 (upd H1 b (.lst [])) _ (ext_new hb') (r1.tup hb') (.bl _)
          rw [r.isEmpty] at z
          exact z
      | _ => exact p1.elim
    have pe : PE X ((E.cmpN neg a p1 p).py n) (lift X.K cv (Rep X.K) Z ((E.cmpN neg a p1 p).ev cl)) := by
      unfold E.py
      refine PE.mono (pe_cmpR hop sa.pe (pe_lst pa_nil) hb) fun σ H Q ⟨μ, ρ, h, hr, er, q⟩ => ?_
      unfold E.ev at q
      refine lift_bind (m := a.ev cl) hr er q fun da h1 μ1 H1 x _ e1 r1 er1 qa p1 => ?_
      exact ⟨Nat.zero_le _, fun b hb' => fin r1 qa p1 b hb'⟩
    refine ⟨pe, fun _ => ?_⟩
    unfold E.py
    refine PT.mono (pt_cmpR hop sa.pe (pe_lst pa_nil) hb) fun σ H Q ⟨μ, ρ, h, hr, er, q⟩ => ?_
    rw [evT_eq] at q
    unfold E.ev at q
    rw [bind_assoc] at q
    unfold tTest
    refine lift_bind (m := a.ev cl) hr er q fun da h1 μ1 H1 x _ e1 r1 er1 qa p1 => ?_
    refine ⟨Nat.zero_le _, fun b hb' => fin (Z1 := Z σ) r1 qa ?_ b hb'⟩
    cases e3 : nilD neg da h1 with
    | ok d h3 =>
      rw [e3] at p1
      intro μ3 H3 v x1 x2 x3
      unfold Res.bind toB at p1
      cases x3 with
      | bl c => exact ⟨c, rfl, p1 μ3 H3 c x1 x2 rfl⟩
      | _ => exact p1.elim
    | exc c h3 => rw [e3] at p1; exact p1
    | no => rw [e3] at p1; exact p1
theorem sEo : ∀ (e : Eo) (X : Cx) (Z : ZK) (k : Nat) (n : Nm) (cv : Nat → Value) (cl : Nat → List D → Hh → Res D), Kx X Z k n cv cl → e.ok X.env.scope n = true → PO X (e.py n) (lift X.K cv (fun _ _ a b => a = b) Z (e.ev cl))
  | .none, X, Z, k, n, cv, cl, C, h => by
    unfold Eo.py
    refine PO.mono po_none fun σ H Q ⟨μ, ρ, h, hr, er, q⟩ => ?_
    unfold Eo.ev at q
    exact q.here hr rfl
  | .some e, X, Z, k, n, cv, cl, C, h => by
    have se := sE e X Z k n cv cl C (by unfold Eo.ok at h; exact h)
    unfold Eo.py
    refine PO.mono (po_some se.pe) fun σ H Q ⟨μ, ρ, h, hr, er, q⟩ => ?_
    unfold Eo.ev at q
    refine lift_bind (m := e.ev cl) hr er q fun d h1 μ1 H1 x _ e1 r1 er1 qa p1 => ?_
    unfold intO at p1
    cases qa with
    | int i => exact ⟨i, rfl, p1.here r1 rfl⟩
    | _ => exact p1.elim
theorem sL : ∀ (l : L) (X : Cx) (Z : ZK) (k : Nat) (n : Nm) (cv : Nat → Value) (cl : Nat → List D → Hh → Res D), Kx X Z k n cv cl → l.ok X.env.scope n = true → PE X (l.py n) (liftL X.K cv Z (l.ev cl))
  | .disp es p, X, Z, k, n, cv, cl, C, h => by
    have sr := sEs es X Z k n cv cl C (by unfold L.ok at h; exact h)
    unfold L.py
    refine PE.mono (pe_lst sr.pa) fun σ H Q ⟨μ, ρ, h, hr, er, q⟩ => ?_
    unfold L.ev at q
    refine lift_bind0 (m := es.ev cl) Ext.refl hr er q (fun _ _ z => z) fun ds h1 μ1 H1 xs _ e1 r1 er1 qa p1 => ?_
    split at p1
    · rename_i c
      refine ⟨by rw [← qa.length]; exact Nat.le_of_lt (small1000 c), fun a ha => ?_⟩
      have na := r1.fresh ha
      have n0 : H a = none := by
        cases e : H a with
        | none => rfl
        | some o => rw [e1.oth a o e fun z => na (e1.sub z)] at ha; cases ha
      exact p1 μ1 _ _ (e1.trans (ext_new ha)) (r1.tup ha) ⟨a, xs, rfl, upd_same, qa.mono (ext_new ha), na, n0⟩
    · exact p1.elim
  | .comp elt t it c NC cap csc p, X, Z, k, n, cv, cl, C, h => by
    obtain ⟨k1, k2', k3, k4, k5, k6, k7, k8, k9⟩ := comp_ok C h
    unfold L.py
    have hit := sI it X Z k n cv cl C k1 (t.py NC)
    exact pe_compI (X := X) (Z := Z) (cv := cv) (mi := it.ev cl) (mc := c.evC cl) (me := elt.ev cl) (pos := p) (elt := elt.py ⟨NC, n.F, n.G⟩) (iter := it.py n) (ifs := c.py ⟨NC, n.F, n.G⟩) C.cm C.th hit k2' k5
      (fun Cc s H fp pn xe => comp_pg k2' k3 k5)
      (fun Cc s H fp pn xe Zc th => by
        have Cc' := C.comp k2' k3 k4 th
        cases c with
        | nil => exact pf_none
        | cons e r =>
          cases r with
          | cons _ _ => cases k9
          | nil =>
            have se := sE e _ Zc k ⟨NC, n.F, n.G⟩ cv cl Cc' (by unfold Es.ok at k7; simp at k7; exact k7.1)
            have ht := se.pt (by unfold Es.okT at k8; simp at k8; exact k8.1)
            unfold Es.py
            exact pf_one ht)
      (fun Cc s H fp pn xe Zc th => (sE elt _ Zc k ⟨NC, n.F, n.G⟩ cv cl (C.comp k2' k3 k4 th) k6).pe) (fold_plain it)
theorem sI : ∀ (it : I) (X : Cx) (Z : ZK) (k : Nat) (n : Nm) (cv : Nat → Value) (cl : Nat → List D → Hh → Res D), Kx X Z k n cv cl → it.ok X.env.scope n = true → ∀ tg, L2.PI X tg (it.py n) (lift X.K cv (RJ X.K) Z (it.ev cl))
  | .seq e, X, Z, k, n, cv, cl, C, h => fun tg => by
    have se := sE e X Z k n cv cl C (by unfold I.ok at h; exact h)
    unfold I.py
    refine PI.mono (pi_any se.pe) fun σ H Q ⟨μ, ρ, h, hr, er, q⟩ => ?_
    unfold I.ev at q
    refine lift_bind (m := e.ev cl) hr er q fun d h1 μ1 H1 x _ e1 r1 er1 qa p1 => ?_
    cases qa with
    | tup g1 g2 => exact .inr (.inl ⟨_, rfl, ⟨_, g1⟩, p1.here r1 (src_tup g1 g2)⟩)
    | fl g1 g2 => exact .inl ⟨_, rfl, ⟨_, g1.sq⟩, p1.here r1 (src_fl g1 g2)⟩
    | str z => exact .inr (.inr ⟨_, rfl, p1.here r1 (src_str z)⟩)
    | @loc nn a m =>
      cases e2 : rd h1 nn with
      | none => simp only [e2] at p1; exact p1.elim
      | some xs =>
        simp only [e2] at p1
        obtain ⟨vs, hs1, rs⟩ := r1.rd e2 m
        exact .inl ⟨_, rfl, ⟨_, hs1⟩, p1.here r1 (src_loc m)⟩
    | _ => exact p1.elim
  | .lst l, X, Z, k, n, cv, cl, C, h => fun tg => by
    have sl := sL l X Z k n cv cl C (by unfold I.ok at h; exact h)
    unfold I.py
    refine PI.mono (pi_list sl) fun σ H Q ⟨μ, ρ, h, hr, er, q⟩ => ?_
    unfold I.ev at q
    refine lift_bind0 (m := l.ev cl) Ext.refl hr er q (fun _ _ z => z) fun ds h1 μ1 H1 x _ e1 r1 er1 qa p1 => ?_
    obtain ⟨p, vs, rfl, g1, g2, g3, g4⟩ := qa
    exact ⟨p, rfl, ⟨vs, SqL.of g1⟩, p1 μ1 H1 _ e1 r1 (src_new g1 g3 g2)⟩
  | .rng a p0 p, X, Z, k, n, cv, cl, C, h => fun tg => by
    have h' : gOf X.env.scope "range" = true ∧ a.ok X.env.scope n = true := by unfold I.ok at h; simpa using h
    have sa := sE a X Z k n cv cl C h'.2
    unfold I.py
    refine PI.mono (pi_range1 (C.gl h'.1) (C.bm _ (by decide)) (pa_cons sa.pe pa_nil (star_cons a _ _)) (star_cons a _ _)) fun σ H Q ⟨μ, ρ, h, hr, er, q⟩ => ?_
    unfold I.ev at q
    refine lift_bind (m := a.ev cl) hr er q fun d h1 μ1 H1 x _ e1 r1 er1 qa p1 => ?_
    cases qa with
    | int j =>
      simp only at p1
      split at p1
      · rename_i c
        exact ⟨j, rfl, by have := c.1; omega, by have := c.2; omega, p1.here r1 (src_rng j.toNat)⟩
      · exact p1.elim
    | _ => exact p1.elim
  | .rng2 a b p0 p, X, Z, k, n, cv, cl, C, h => fun tg => by
    have h' : (gOf X.env.scope "range" = true ∧ a.ok X.env.scope n = true) ∧ b.ok X.env.scope n = true := by unfold I.ok at h; simpa using h
    have sa := sE a X Z k n cv cl C h'.1.2
    have sb := sE b X Z k n cv cl C h'.2
    unfold I.py
    refine PI.mono (pi_range2 (C.gl h'.1.1) (C.bm _ (by decide)) (pa_cons sa.pe (pa_cons sb.pe pa_nil (star_cons b _ _)) (star_cons a _ _)) (by rw [star_cons, star_cons]; rfl) (star_cons b _ _)) fun σ H Q ⟨μ, ρ, h, hr, er, q⟩ => ?_
    unfold I.ev at q
    refine lift_bind (m := a.ev cl) hr er q fun d h1 μ1 H1 x _ e1 r1 er1 qa p1 => ?_
    refine lift_bind (m := b.ev cl) r1 er1 p1 fun d2 h2 μ2 H2 y _ e2 r2 er2 qb p2 => ?_
    unfold rngD at p2
    cases qa with
    | int i =>
      cases qb with
      | int j =>
        simp only at p2
        split at p2
        · rename_i c
          exact ⟨i, j, rfl, ⟨by omega, by omega, by omega, by omega⟩, p2.here r2 (src_rng2 i (j - i).toNat)⟩
        · exact p2.elim
      | _ => exact p2.elim
    | _ => exact p2.elim
  | .rev e p0 p, X, Z, k, n, cv, cl, C, h => fun tg => by
    have h' : gOf X.env.scope "reversed" = true ∧ e.ok X.env.scope n = true := by unfold I.ok at h; simpa using h
    have sa := sE e X Z k n cv cl C h'.2
    unfold I.py
    refine PI.mono (pi_rev2 (C.gl h'.1) (C.bm _ (by decide)) (pa_cons sa.pe pa_nil (star_cons e _ _)) (star_cons e _ _)) fun σ H Q ⟨μ, ρ, h, hr, er, q⟩ => ?_
    unfold I.ev at q
    refine lift_bind (m := e.ev cl) hr er q fun d h1 μ1 H1 x _ e1 r1 er1 qa p1 => ?_
    unfold revD at p1
    cases qa with
    | @fl ds vs a f r =>
      simp only at p1
      refine ⟨a, vs, rfl, .inl ⟨f.sq, ?_⟩⟩
      rw [← r.length]
      exact p1.here r1 (src_rvf f r)
    | @tup ds vs a f r =>
      simp only at p1
      refine ⟨a, vs, rfl, .inr ⟨f, ?_⟩⟩
      rw [← r.length]
      exact p1.here r1 (src_rvt f r)
    | @loc nn b m =>
      cases e2 : PI.rd h1 nn with
      | none => simp only [e2] at p1; exact p1.elim
      | some ds =>
        simp only [e2] at p1
        obtain ⟨vs, q1, q2⟩ := rd_reps r1 m e2
        refine ⟨b, vs, rfl, .inl ⟨SqL.of q1, ?_⟩⟩
        rw [← q2.length]
        exact p1.here r1 (src_rvl m)
    | _ => exact p1.elim
theorem sEs : ∀ (r : Es) (X : Cx) (Z : ZK) (k : Nat) (n : Nm) (cv : Nat → Value) (cl : Nat → List D → Hh → Res D), Kx X Z k n cv cl → r.ok X.env.scope n = true → SEs X Z n cv cl r
  | .nil, X, Z, k, n, cv, cl, C, _ => by
    refine ⟨?_, fun b p sb => ?_, fun b p sb hb _ => ?_, fun b p sb => ?_, fun b p sb hb _ => ?_, ps_nil⟩
    · unfold Es.py
      refine PA.mono pa_nil fun σ H Q ⟨μ, ρ, h, hr, er, q⟩ => ?_
      unfold Es.ev at q
      exact q.here hr .nil
    · unfold Es.py
      refine PE.mono (pe_one sb.pe) fun σ H Q q => ?_
      simpa only [Es.evAnd, bind_pure] using q
    · unfold Es.py
      refine PW.mono (pw_and1 (sb.pt hb)) fun σ H Q q => ?_
      simpa only [Es.evAndT, bind_pure] using q
    · unfold Es.py
      refine PE.mono (pe_one sb.pe) fun σ H Q q => ?_
      simpa only [Es.evOr, bind_pure] using q
    · unfold Es.py
      refine PW.mono (pw_or1 (sb.pt hb)) fun σ H Q q => ?_
      simpa only [Es.evOrT, bind_pure] using q
  | .cons e r, X, Z, k, n, cv, cl, C, h => by
    have h' : e.ok X.env.scope n = true ∧ r.ok X.env.scope n = true := by unfold Es.ok at h; simpa using h
    have se := sE e X Z k n cv cl C h'.1
    have sr := sEs r X Z k n cv cl C h'.2
    refine ⟨?_, fun b p sb => ?_, fun b p sb hb hr' => ?_, fun b p sb => ?_, fun b p sb hb hr' => ?_, ps_cons se.pe sr.ps⟩
    · unfold Es.py
      refine PA.mono (pa_cons se.pe sr.pa (star_cons e _ _)) fun σ H Q ⟨μ, ρ, h, hr, er, q⟩ => ?_
      unfold Es.ev at q
      refine lift_bind (m := e.ev cl) hr er q fun da h1 μ1 H1 x _ e1 r1 er1 qa p1 => ?_
      refine lift_bind (m := r.ev cl) r1 er1 p1 fun ds h2 μ2 H2 xs _ e2 r2 er2 qb p2 => ?_
      exact p2.here r2 (.cons (qa.mono e2) qb)
    · unfold Es.py
      refine PE.mono (pe_and sb.pe (sr.an e p se)) fun σ H Q ⟨μ, ρ, h, hr, er, q⟩ => ?_
      refine lift_bind (m := b.ev cl) hr er q fun d h1 μ1 H1 x _ e1 r1 er1 qa p1 => ?_
      unfold Es.evAnd tru at p1
      cases qa with
      | bl c =>
        refine ⟨c, rfl, ?_⟩
        cases c with
        | true => exact iteT ⟨μ1, ρ, h1, r1, er1, p1⟩
        | false => exact iteF (p1.here r1 (.bl _))
      | _ => exact p1.elim
    · unfold Es.py
      have hr2 : e.okT = true ∧ r.okT = true := by unfold Es.okT at hr'; simpa using hr'
      refine PW.mono (pw_and (sb.pt hb) (sr.anT e p se hr2.1 hr2.2)) fun σ H Q ⟨μ, ρ, h, hr, er, q⟩ => ?_
      refine lift_bind (m := b.evT cl) (R := RB) hr er q fun c h1 μ1 H1 x _ e1 r1 er1 qa p1 => ?_
      have qa' : c = x := qa
      subst qa'
      unfold Es.evAndT at p1
      cases c with
      | true => exact iteT ⟨μ1, ρ, h1, r1, er1, p1⟩
      | false => exact iteF (p1.here r1 rfl)
    · unfold Es.py
      refine PE.mono (pe_or sb.pe (sr.orr e p se)) fun σ H Q ⟨μ, ρ, h, hr, er, q⟩ => ?_
      refine lift_bind (m := b.ev cl) hr er q fun d h1 μ1 H1 x _ e1 r1 er1 qa p1 => ?_
      unfold Es.evOr tru at p1
      cases qa with
      | bl c =>
        refine ⟨c, rfl, ?_⟩
        cases c with
        | true => exact iteT (p1.here r1 (.bl _))
        | false => exact iteF ⟨μ1, ρ, h1, r1, er1, p1⟩
      | _ => exact p1.elim
    · unfold Es.py
      have hr2 : e.okT = true ∧ r.okT = true := by unfold Es.okT at hr'; simpa using hr'
      refine PW.mono (pw_or (sb.pt hb) (sr.orT e p se hr2.1 hr2.2)) fun σ H Q ⟨μ, ρ, h, hr, er, q⟩ => ?_
      refine lift_bind (m := b.evT cl) (R := RB) hr er q fun c h1 μ1 H1 x _ e1 r1 er1 qa p1 => ?_
      have qa' : c = x := qa
      subst qa'
      unfold Es.evOrT at p1
      cases c with
      | true => exact iteT (p1.here r1 rfl)
      | false => exact iteF ⟨μ1, ρ, h1, r1, er1, p1⟩
end
end
end PI
set_option Elab.async false
set_option linter.all false
set_option maxRecDepth 100000
set_option maxHeartbeats 4000000
namespace PI
open PySem L2 PySem.Spec
open PyProof.Rows hiding St
noncomputable def PostS (K : PySem.W.Frag) (cv : Nat → Value) (μ : List Addr) (H : Hp) (r : RS) (En : Ends) (Z : ZK) : Prop :=
  match r with
  | .nx ρ h' => ∀ μ' H' σ', Ext K μ H μ' H' → HR K μ' h' H' → ER K μ' ρ σ' H' → En.nx σ' H'
  | .bk ρ h' => ∀ μ' H' σ', Ext K μ H μ' H' → HR K μ' h' H' → ER K μ' ρ σ' H' → En.bk σ' H'
  | .ct ρ h' => ∀ μ' H' σ', Ext K μ H μ' H' → HR K μ' h' H' → ER K μ' ρ σ' H' → En.ct σ' H'
  | .rt d h' => ∀ μ' H' v, Ext K μ H μ' H' → HR K μ' h' H' → Rep K μ' H' d v → En.rt v H'
  | .ex c ρ h' => ∀ μ' H' σ', Ext K μ H μ' H' → HR K μ' h' H' → ER K μ' ρ σ' H' → Z σ' (cv c) H'
  | .no => False
noncomputable def liftS (K : PySem.W.Frag) (cv : Nat → Value) (Z : ZK) (m : En → Hh → RS) : TS := fun En σ H => ∃ μ ρ h, HR K μ h H ∧ ER K μ ρ σ H ∧ PostS K cv μ H (m ρ h) En Z
theorem PostS.ext {K : PySem.W.Frag} {cv : Nat → Value} {μ μ1 : List Addr} {H H1 : Hp} {r : RS} {En : Ends} {Z : ZK} (p : PostS K cv μ H r En Z) (e : Ext K μ H μ1 H1) : PostS K cv μ1 H1 r En Z := by
  unfold PostS at p ⊢
  cases r with
  | nx ρ h => exact fun μ' H' σ' e1 r1 q1 => p μ' H' σ' (e.trans e1) r1 q1
  | bk ρ h => exact fun μ' H' σ' e1 r1 q1 => p μ' H' σ' (e.trans e1) r1 q1
  | ct ρ h => exact fun μ' H' σ' e1 r1 q1 => p μ' H' σ' (e.trans e1) r1 q1
  | rt d h => exact fun μ' H' σ' e1 r1 q1 => p μ' H' σ' (e.trans e1) r1 q1
  | ex c ρ h => exact fun μ' H' σ' e1 r1 q1 => p μ' H' σ' (e.trans e1) r1 q1
  | no => exact p
theorem liftS_bind {α β : Type} {K : PySem.W.Frag} {cv : Nat → Value} {R : List Addr → Hp → α → β → Prop} {μ : List Addr} {ρ : En} {h : Hh} {σ : St} {H : Hp} {Z : ZK} {m : En → Hh → Res α} {f : α → Hh → RS} {En : Ends} {Q' : β → Hp → Prop}
    (hr : HR K μ h H) (er : ER K μ ρ σ H) (p : PostS K cv μ H (andS ρ (m ρ h) f) En Z)
    (go : ∀ a h1 μ1 H1 x, m ρ h = .ok a h1 → Ext K μ H μ1 H1 → HR K μ1 h1 H1 → ER K μ1 ρ σ H1 → R μ1 H1 a x → PostS K cv μ1 H1 (f a h1) En Z → Q' x H1) :
    lift K cv R Z m σ H Q' := by
  refine ⟨μ, ρ, h, hr, er, ?_⟩
  unfold andS at p
  cases e : m ρ h with
  | ok a h1 =>
    rw [e] at p
    exact fun μ1 H1 x e1 r1 q1 => go a h1 μ1 H1 x e e1 r1 (er.mono e1) q1 (PostS.ext p e1)
  | exc c h1 =>
    rw [e] at p
    exact fun μ1 H1 e1 r1 => p μ1 H1 σ e1 r1 (er.mono e1)
  | no => rw [e] at p; exact p
noncomputable def E.noT : E → Bool
  | .tup _ _ => false
  | .ofL _ => false
  | _ => true
noncomputable def E.noC : E → Bool
  | .ofL (.comp _ _ _ _ _ _ _ _) => false
  | _ => true
mutual
noncomputable def S.ok (sc : Scope) (n : Nm) : S → Bool
  | .set i e _ _ => decide (i < n.N.length) && e.ok sc n
  | .ret e _ => e.ok sc n
  | .iff c a b _ => c.ok sc n && c.okT && a.ok sc n && b.ok sc n
  | .ex e _ => e.ok sc n && e.noC
  | .put o i v _ _ => o.ok sc n && i.ok sc n && v.ok sc n
  | .forr t it b _ => t.okS n.N && it.ok sc n && b.ok sc n
  | .whil c b _ => c.ok sc n && c.okT && b.ok sc n
  | .pass _ | .brk _ | .cnt _ => true
  | .setT is e p1 _ => (Tg.tup is p1).okS n.N && e.ok sc n && e.noT
noncomputable def Ss.ok (sc : Scope) (n : Nm) : Ss → Bool
  | .nil => true
  | .cons s r => s.ok sc n && r.ok sc n
end
theorem PS.mono {X : Cx} {e : Stmt} {t t' : TS} (p : PS X e t) (h : ∀ En σ H, t' En σ H → t En σ H) : PS X e t' := fun pins s σ H En I q => p pins s σ H En I (h En σ H q)
theorem PSs.mono {X : Cx} {e : List Stmt} {t t' : TS} (p : PSs X e t) (h : ∀ En σ H, t' En σ H → t En σ H) : PSs X e t' := fun pins s σ H En I q => p pins s σ H En I (h En σ H q)
structure KxS (X : Cx) (Z : ZK) (k : Nat) (n : Nm) (cv : Nat → Value) (cl : Nat → List D → Hh → Res D) : Prop extends Kx X Z k n cv cl where
  lo : ∀ x ∈ n.N, Loc X.env.scope x ∧ (X.fn x = true ∨ X.env.scope.names.lookup x = some .local)
theorem KxS.wish {X : Cx} {Z : ZK} {k : Nat} {n : Nm} {cv : Nat → Value} {cl : Nat → List D → Hh → Res D} (C : KxS X Z k n cv cl) : KxS (X.wish (XE X Z)) Z k n cv cl :=
  ⟨⟨C.th.wished, C.rm, C.nN, C.nd, C.cm, C.kd, C.nm, C.bm, C.gc, C.fn⟩, C.lo⟩
section
variable {X : Cx} {Z : ZK} {k : Nat} {n : Nm} {cv : Nat → Value} {cl : Nat → List D → Hh → Res D}
theorem swaps_plain (e : E) (h : e.noC = true) (t : Option Expr) (l : Nat) (env : Env) : swapsWith (e.py n) t l env = pure false := by
  cases e with
  | ofL l =>
    cases l with
    | disp es p => unfold E.py L.py; rfl
    | comp => cases h
  | _ => unfold E.py; rfl
theorem assign_sub (o i : E) (p1 : Pos) (env : Env) : ∀ v, assign (.Subscript (o.py n) (i.py n) p1) env v = (do
      let ov ← holding [v] (eval (o.py n) env)
      let iv ← holding [v, ov] (eval (i.py n) env)
      standAt p1
      holding [v, ov, iv] (setItem ov iv v)
      release [v, ov, iv] []) := by
  intro v
  generalize o.py n = oo
  cases i with
  | ofL l => cases l <;> (unfold E.py L.py; rfl)
  | _ => unfold E.py; rfl
theorem swaps_sole (o i e : E) (p1 : Pos) (l : Nat) (env : Env) : swapsWithSole [.Subscript (o.py n) (i.py n) p1] (e.py n) l env = pure false := by
  generalize o.py n = oo
  generalize i.py n = ii
  cases e with
  | ofL l => cases l <;> (unfold E.py L.py; rfl)
  | _ => unfold E.py; rfl
theorem swapped_none (o i e : E) (p1 : Pos) (env : Env) : swappedStores [.Subscript (o.py n) (i.py n) p1] (e.py n) env = pure none := by
  generalize o.py n = oo
  generalize i.py n = ii
  cases e with
  | ofL l => cases l <;> (unfold E.py L.py; rfl)
  | _ => unfold E.py; rfl
theorem swaps_T (ts : List Expr) (e : E) (h : e.noT = true) (k : Nat) (p1 : Pos) (l : Nat) (env : Env) : swapsWithSole [.Tuple ts k p1] (e.py n) l env = pure false := by
  cases e with
  | ofL l => cases h
  | tup es p => cases h
  | _ => unfold E.py; rfl
theorem swapped_T (ts : List Expr) (e : E) (h : e.noT = true) (k : Nat) (p1 : Pos) (env : Env) : swappedStores [.Tuple ts k p1] (e.py n) env = pure none := by
  cases e with
  | ofL l => cases h
  | tup es p => cases h
  | _ => unfold E.py; rfl
theorem while_ours {c : E} {b : Ss} {p : Pos} {En : Ends} {σ : St} {H : Hp} {μ : List Addr} {ρ : PI.En} {h : Hh} (hr : HR X.K μ h H) (er : ER X.K μ ρ σ H) (q : PostS X.K cv μ H ((S.whil c b p).run cl ρ h) En Z) :
    tWhile (lift X.K cv RB Z (c.evT cl)) (liftS X.K cv Z (b.run cl)) En σ H := by
  unfold S.run at q
  have nz : whR (fun ρ' h' => c.evT cl ρ' h') (fun ρ' h' => b.run cl ρ' h') ρ h ≠ .no := fun z => by rw [z] at q; exact q
  obtain ⟨n0, e0⟩ := whR_has nz
  rw [← e0] at q
  refine ⟨fun m σ H => ∃ μ ρ h, HR X.K μ h H ∧ ER X.K μ ρ σ H ∧ PostS X.K cv μ H (whL (fun ρ' h' => c.evT cl ρ' h') (fun ρ' h' => b.run cl ρ' h') m ρ h) En Z, ⟨n0, μ, ρ, h, hr, er, q⟩, ?_⟩
  rintro m σ1 H1 ⟨μ1, ρ1, h1, hr1, er1, q1⟩
  cases m with
  | zero => exact q1.elim
  | succ m =>
    rw [whL] at q1
    refine ⟨μ1, ρ1, h1, hr1, er1, ?_⟩
    cases ec : c.evT cl ρ1 h1 with
    | ok t h2 =>
      rw [ec] at q1
      intro μ2 H2 x e2 r2 hx
      have hx' : t = x := hx
      subst hx'
      cases t with
      | false => exact iteF (q1 μ2 H2 σ1 e2 r2 (er1.mono e2))
      | true =>
        refine iteT ⟨fun σ' H' => ∃ μ ρ h, HR X.K μ h H' ∧ ER X.K μ ρ σ' H' ∧ PostS X.K cv μ H' (whL (fun ρ' h' => c.evT cl ρ' h') (fun ρ' h' => b.run cl ρ' h') m ρ h) En Z, fun σ' H' z => ⟨m, Nat.lt_succ_self m, z⟩, μ2, ρ1, h2, r2, er1.mono e2, ?_⟩
        simp only at q1
        have q2 := PostS.ext q1 e2
        cases eb : b.run cl ρ1 h2 with
        | nx ρ4 h4 => simp only [eb] at q2; exact fun μ4 H4 σ4 e4 r4 er4 => ⟨μ4, ρ4, h4, r4, er4, PostS.ext q2 e4⟩
        | ct ρ4 h4 => simp only [eb] at q2; exact fun μ4 H4 σ4 e4 r4 er4 => ⟨μ4, ρ4, h4, r4, er4, PostS.ext q2 e4⟩
        | bk ρ4 h4 => simp only [eb] at q2; exact q2
        | rt d h4 => simp only [eb] at q2; exact q2
        | ex c' ρ4 h4 => simp only [eb] at q2; exact q2
        | no => simp only [eb] at q2; exact q2
    | exc k h2 =>
      rw [ec] at q1
      exact fun μ2 H2 e2 r2 => q1 μ2 H2 σ1 e2 r2 (er1.mono e2)
    | no => rw [ec] at q1; exact q1
theorem ps_whileX {c : Expr} {body : List Stmt} {tc : TT} {tb : TS} {pos : Pos} (th : Thr X Z) (hc : PT (X.wish (XE X Z)) c tc) (hb : PSs (X.wish (XE X Z)) body tb) : PS X (.While c body [] pos) (tWhile tc tb) := by
  intro pins s σ H D I h
  refine wpAny_mono (ps_while (X := X.wish (XE X Z)) (passes_XE th.toXOk) hc hb pins s σ H D (I.wish _) h) (fun f s' q => q.unwish) fun e s' x => th.thr e s' x
theorem for_ours {t : Tg} {it : I} {b : Ss} {En : Ends} {σ : St} {H : Hp} {μ : List Addr} {ρ : PI.En} {h : Hh} (hr : HR X.K μ h H) (er : ER X.K μ ρ σ H) (q : PostS X.K cv μ H ((S.forr t it b p).run cl ρ h) En Z) :
    tFor (lift X.K cv (RJ X.K) Z (it.ev cl)) (gB X.K t) (liftS X.K cv Z (b.run cl)) En σ H := by
  unfold S.run at q
  refine liftS_bind (m := it.ev cl) hr er q fun qq h1 μ1 H1 J _ e1 r1 er1 src p1 => ?_
  obtain ⟨c, ds⟩ := qq
  refine ⟨fun i m σ' H' => m = ds.length - i ∧ i ≤ ds.length ∧ ∃ μ2 ρ2 h2, Ext X.K μ1 H1 μ2 H' ∧ HR X.K μ2 h2 H' ∧ ER X.K μ2 ρ2 σ' H' ∧ PostS X.K cv μ2 H' (forL c (stepF t fun ρ' h' => b.run cl ρ' h') (ds.drop i) ρ2 h2) En Z,
    ⟨ds.length, by simp, Nat.zero_le _, μ1, ρ, h1, Ext.refl, r1, er1, p1⟩, ?_⟩
  rintro i m σ' H' ⟨rfl, hi, μ2, ρ2, h2, e2, r2, er2, p2⟩
  by_cases hlt : i < ds.length
  · right
    rw [List.drop_eq_getElem_cons hlt] at p2
    unfold forL at p2
    split at p2
    rotate_left
    · exact p2.elim
    rename_i st
    obtain ⟨s1, s2⟩ := src μ2 h2 H' e2 r2 st
    obtain ⟨g1, g2⟩ := s1 i ds[i] (List.getElem?_eq_getElem hlt)
    refine ⟨g1, fun σ3 H3 => ds.length - (i + 1) = ds.length - (i + 1) ∧ i + 1 ≤ ds.length ∧ ∃ μ3 ρ3 h3, Ext X.K μ1 H1 μ3 H3 ∧ HR X.K μ3 h3 H3 ∧ ER X.K μ3 ρ3 σ3 H3 ∧ PostS X.K cv μ3 H3 (forL c (stepF t fun ρ' h' => b.run cl ρ' h') (ds.drop (i + 1)) ρ3 h3) En Z,
      fun σ3 H3 z => ⟨ds.length - (i + 1), by omega, z⟩, fun x H3 y => ?_⟩
    obtain ⟨rfl, rx⟩ := g2 x H3 y
    unfold stepF at p2
    cases eb : bindT t ds[i] ρ2 with
    | none => rw [eb] at p2; exact p2.elim
    | some ρ3 =>
      rw [eb] at p2
      refine ⟨μ2, ρ2, ds[i], ρ3, h2, r2, er2, rx, eb, fun σ3 er3 _ _ => ⟨μ2, ρ3, h2, r2, er3, ?_⟩⟩
      cases eo : b.run cl ρ3 h2 with
      | nx ρ4 h4 =>
        simp only [eo] at p2
        exact fun μ4 H4 σ4 e4 r4 er4 => ⟨rfl, hlt, μ4, ρ4, h4, e2.trans e4, r4, er4, PostS.ext p2 e4⟩
      | ct ρ4 h4 =>
        simp only [eo] at p2
        exact fun μ4 H4 σ4 e4 r4 er4 => ⟨rfl, hlt, μ4, ρ4, h4, e2.trans e4, r4, er4, PostS.ext p2 e4⟩
      | bk ρ4 h4 => simp only [eo] at p2; exact p2
      | rt d h4 => simp only [eo] at p2; exact p2
      | ex c' ρ4 h4 => simp only [eo] at p2; exact p2
      | no => simp only [eo] at p2; exact p2
  · left
    have ei : i = ds.length := by omega
    subst ei
    rw [List.drop_length] at p2
    unfold forL at p2
    split at p2
    rotate_left
    · exact p2.elim
    rename_i st
    exact ⟨(src μ2 h2 H' e2 r2 st).2, p2 μ2 H' σ' Ext.refl r2 er2⟩
mutual
theorem sS : ∀ (s : S) (X : Cx) (Z : ZK) (k : Nat) (n : Nm) (cv : Nat → Value) (cl : Nat → List D → Hh → Res D), KxS X Z k n cv cl → s.ok X.env.scope n = true → PS X (s.py n) (liftS X.K cv Z (s.run cl))
  | .set i e p1 p, X, Z, k, n, cv, cl, C, h => by
    have h' : i < n.N.length ∧ e.ok X.env.scope n = true := by unfold S.ok at h; simpa using h
    have hm := C.lo _ (getD_mem (d := ("" : Str)) h'.1)
    have hN : X.N[i]? = some (n.N.getD i "") := by rw [C.nN]; exact getD_some h'.1
    have plain : swapsWith (e.py n) (some (.Name (n.N.getD i "") p1)) p.line X.env = pure false → PS X ((S.set i e p1 p).py n) (liftS X.K cv Z ((S.set i e p1 p).run cl)) := fun hs => by
      have se := sE e X Z k n cv cl C.toKx h'.2
      unfold S.py
      refine PS.mono (ps_set (i := i) C.nd hN hm.1 se.pe hs hm.2) fun En σ H ⟨μ, ρ, h, hr, er, q⟩ => ?_
      unfold S.run at q
      refine liftS_bind (m := e.ev cl) hr er q fun d h1 μ1 H1 x _ e1 r1 er1 qa p1 => ?_
      exact p1 μ1 H1 _ Ext.refl r1 (er1.set qa i)
    cases hn : e.noC with
    | true => exact plain (swaps_plain e hn _ _ _)
    | false =>
      cases e with
      | ofL l =>
        cases l with
        | disp es pp => cases hn
        | comp elt t it c NC cap csc pp =>
          have hL : (L.comp elt t it c NC cap csc pp).ok X.env.scope n = true := by have := h'.2; unfold E.ok at this; exact this
          obtain ⟨b, eb, hb⟩ : ∃ b, swapsWith ((E.ofL (.comp elt t it c NC cap csc pp)).py n) (some (.Name (n.N.getD i "") p1)) p.line X.env = pure b ∧ (b = true → X.env.scope.names.lookup (n.N.getD i "") = some .local) := by
            refine ⟨_, by unfold E.py L.py; rfl, fun z => ?_⟩
            simp only [Bool.and_eq_true, beq_iff_eq] at z
            exact z.1.1.2
          cases b with
          | false => exact plain eb
          | true =>
            obtain ⟨k1, k2, k3, k4, k5, k6, k7, k8, k9⟩ := comp_ok C.toKx hL
            have hit := sI it X Z k n cv cl C.toKx k1 (t.py NC)
            have hff : ∀ Cc s H fp pn xe Zc, Thr (compCx X NC csc Cc s H fp pn xe) Zc → PF (compCx X NC csc Cc s H fp pn xe) (c.py ⟨NC, n.F, n.G⟩) (lift X.K cv RB Zc (c.evC cl)) := fun Cc s H fp pn xe Zc th => by
              have Cc' := C.toKx.comp k2 k3 k4 th
              cases c with
              | nil => exact pf_none
              | cons e r =>
                cases r with
                | cons _ _ => cases k9
                | nil =>
                  have se := sE e _ Zc k ⟨NC, n.F, n.G⟩ cv cl Cc' (by unfold Es.ok at k7; simp at k7; exact k7.1)
                  have ht := se.pt (by unfold Es.okT at k8; simp at k8; exact k8.1)
                  unfold Es.py
                  exact pf_one ht
            have key := ps_setC (X := X) (i := i) (cap := cap) (pos := pp) (pos' := p1) (spos := p) (g := gB X.K t) (tf := fun Zc => lift X.K cv RB Zc (c.evC cl)) (te := fun Zc => lift X.K cv (Rep X.K) Zc (elt.ev cl)) C.cm C.th hit k2 (fun Cc s H fp pn xe => comp_pg k2 k3 k5) hff
              (fun Cc s H fp pn xe Zc th => (sE elt _ Zc k ⟨NC, n.F, n.G⟩ cv cl (C.toKx.comp k2 k3 k4 th) k6).pe) (fold_plain it) C.nd hN (hb rfl) (by unfold E.py L.py at eb; exact eb)
            unfold S.py E.py L.py
            refine PS.mono key fun En σ H ⟨μ, ρ, h, hr, er, q⟩ => read_comp k2 k5 ⟨μ, ρ, h, hr, er, ?_⟩
            unfold S.run E.ev andS at q
            show PostE X.K cv (RL X.K H) μ H ((L.comp elt t it c NC cap csc pp).ev cl ρ h) _ (Z σ)
            cases el : (L.comp elt t it c NC cap csc pp).ev cl ρ h with
            | ok ds h1 =>
              rw [el] at q
              intro μ1 H1 x e1 r1 ⟨pa, vs, ex, g1, g2, g3, g4⟩
              subst ex
              have er1 : ER X.K (μ1 ++ [pa]) ρ σ H1 := er.mono (e1.add g4)
              refine q (μ1 ++ [pa]) H1 _ (e1.add g4) (r1.add g3 fun μ' gr => ⟨vs, g1, g2.mono' gr⟩) (er1.set (.loc ?_) i)
              rw [← r1.len, List.getElem?_append_right (Nat.le_refl _), Nat.sub_self]
              rfl
            | exc cc h1 => rw [el] at q; exact fun μ1 H1 e1 r1 => q μ1 H1 σ e1 r1 (er.mono e1)
            | no => rw [el] at q; exact q
      | _ => cases hn
  | .ret e p, X, Z, k, n, cv, cl, C, h => by
    have se := sE e X Z k n cv cl C.toKx (by unfold S.ok at h; exact h)
    unfold S.py
    refine PS.mono (ps_ret se.pe) fun En σ H ⟨μ, ρ, h, hr, er, q⟩ => ?_
    unfold S.run at q
    refine liftS_bind (m := e.ev cl) hr er q fun d h1 μ1 H1 x _ e1 r1 er1 qa p1 => ?_
    exact p1 μ1 H1 x Ext.refl r1 qa
  | .iff c a b p, X, Z, k, n, cv, cl, C, h => by
    have h' : ((c.ok X.env.scope n = true ∧ c.okT = true) ∧ a.ok X.env.scope n = true) ∧ b.ok X.env.scope n = true := by unfold S.ok at h; simpa using h
    have sc := sE c X Z k n cv cl C.toKx h'.1.1.1
    have sa := sSs a X Z k n cv cl C h'.1.2
    have sb := sSs b X Z k n cv cl C h'.2
    unfold S.py
    refine PS.mono (ps_if (sc.pt h'.1.1.2) sa sb) fun En σ H ⟨μ, ρ, h, hr, er, q⟩ => ?_
    unfold S.run at q
    refine liftS_bind (m := c.evT cl) (R := RB) hr er q fun t h1 μ1 H1 x _ e1 r1 er1 qa p1 => ?_
    have qa' : t = x := qa
    subst qa'
    cases t with
    | true => exact iteT ⟨μ1, ρ, h1, r1, er1, p1⟩
    | false => exact iteF ⟨μ1, ρ, h1, r1, er1, p1⟩
  | .ex e p, X, Z, k, n, cv, cl, C, h => by
    have h' : e.ok X.env.scope n = true ∧ e.noC = true := by unfold S.ok at h; simpa using h
    have se := sE e X Z k n cv cl C.toKx h'.1
    unfold S.py
    refine PS.mono (ps_expr se.pe (swaps_plain e h'.2 _ _ _)) fun En σ H ⟨μ, ρ, h, hr, er, q⟩ => ?_
    unfold S.run at q
    refine liftS_bind (m := e.ev cl) hr er q fun d h1 μ1 H1 x _ e1 r1 er1 qa p1 => ?_
    exact p1 μ1 H1 _ Ext.refl r1 er1
  | .put o i v p1 p, X, Z, k, n, cv, cl, C, h => by
    have h' : (o.ok X.env.scope n = true ∧ i.ok X.env.scope n = true) ∧ v.ok X.env.scope n = true := by unfold S.ok at h; simpa using h
    have so := sE o X Z k n cv cl C.toKx h'.1.1
    have si := sE i X Z k n cv cl C.toKx h'.1.2
    have sv := sE v X Z k n cv cl C.toKx h'.2
    unfold S.py
    refine PS.mono (ps_asg sv.pe (pg_sub so.pe si.pe (set_ours (hu_of C.rm)) (assign_sub o i p1 _)) (swaps_sole o i v p1 _ _) (swapped_none o i v p1 _) rfl) fun En σ H ⟨μ, ρ, h, hr, er, q⟩ => ?_
    unfold S.run at q
    refine liftS_bind (m := v.ev cl) hr er q fun z h1 μ1 H1 x _ e1 r1 er1 qz p1 => ?_
    refine liftS_bind (m := o.ev cl) r1 er1 p1 fun a h2 μ2 H2 y _ e2 r2 er2 qa p2 => ?_
    refine liftS_bind (m := i.ev cl) r2 er2 p2 fun b h3 μ3 H3 w _ e3 r3 er3 qb p3 => ?_
    cases e : putS a b z h3 with
    | none => rw [e] at p3; exact p3.elim
    | some h4 =>
      rw [e] at p3
      exact ⟨μ3, h3, a, b, z, h4, r3, qa.mono e3, qb, (qz.mono e2).mono e3, e, fun μ4 H4 e4 r4 => p3 μ4 H4 σ e4 r4 (er3.mono e4)⟩
  | .forr t it b p, X, Z, k, n, cv, cl, C, h => by
    have h' : (t.okS n.N = true ∧ it.ok X.env.scope n = true) ∧ b.ok X.env.scope n = true := by unfold S.ok at h; simpa using h
    have hi := sI it _ Z k n cv cl C.wish.toKx h'.1.2 (t.py n.N)
    have hb := sSs b _ Z k n cv cl C.wish h'.2
    have hg : PG (X.wish (XE X Z)) (t.py n.N) (gB X.K t) := by
      have z := pg_T (X := X.wish (XE X Z)) C.cm C.nd t fun i hi => by
        have h1 := List.all_eq_true.mp h'.1.1 i hi
        have hl : i < n.N.length := of_decide_eq_true h1
        have hm := C.lo _ (getD_mem (d := ("" : Str)) hl)
        have eN : (X.wish (XE X Z)).N = n.N := C.nN
        rw [eN]
        exact ⟨hl, hm⟩
      rw [show (X.wish (XE X Z)).N = n.N from C.nN] at z
      exact z
    unfold S.py
    exact PS.mono (ps_forX C.th C.cm hi hg hb (fold_plain it)) fun En σ H ⟨μ, ρ, h, hr, er, q⟩ => for_ours (p := p) hr er q
  | .whil c b p, X, Z, k, n, cv, cl, C, h => by
    have h' : (c.ok X.env.scope n = true ∧ c.okT = true) ∧ b.ok X.env.scope n = true := by unfold S.ok at h; simpa using h
    have sc := sE c _ Z k n cv cl C.wish.toKx h'.1.1
    have hb := sSs b _ Z k n cv cl C.wish h'.2
    unfold S.py
    exact PS.mono (ps_whileX C.th (sc.pt h'.1.2) hb) fun En σ H ⟨μ, ρ, h, hr, er, q⟩ => while_ours (p := p) hr er q
  | .pass p, X, Z, k, n, cv, cl, C, h => by
    unfold S.py
    refine PS.mono ps_pass fun En σ H ⟨μ, ρ, h, hr, er, q⟩ => ?_
    unfold S.run at q
    exact q μ H σ Ext.refl hr er
  | .brk p, X, Z, k, n, cv, cl, C, h => by
    unfold S.py
    refine PS.mono ps_break fun En σ H ⟨μ, ρ, h, hr, er, q⟩ => ?_
    unfold S.run at q
    exact q μ H σ Ext.refl hr er
  | .cnt p, X, Z, k, n, cv, cl, C, h => by
    unfold S.py
    refine PS.mono ps_continue fun En σ H ⟨μ, ρ, h, hr, er, q⟩ => ?_
    unfold S.run at q
    exact q μ H σ Ext.refl hr er
  | .setT is e p1 p, X, Z, k, n, cv, cl, C, h => by
    have h' : ((Tg.tup is p1).okS n.N = true ∧ e.ok X.env.scope n = true) ∧ e.noT = true := by unfold S.ok at h; simpa using h
    have se := sE e X Z k n cv cl C.toKx h'.1.2
    have hg : PG X ((Tg.tup is p1).py n.N) (fun v σ H Q => ∃ μ ρ d ρ' h, HR X.K μ h H ∧ ER X.K μ ρ σ H ∧ Rep X.K μ H d v ∧ bindT (.tup is p1) (unpD d h) ρ = some ρ' ∧ ∀ σ', ER X.K μ ρ' σ' H → Q σ' H) := by
      have z := pg_TL (X := X) C.cm C.nd is p1 fun i hi => by
        have h1 := List.all_eq_true.mp h'.1.1 i hi
        have hl : i < n.N.length := of_decide_eq_true h1
        have hm := C.lo _ (getD_mem (d := ("" : Str)) hl)
        rw [C.nN]
        exact ⟨hl, hm⟩
      rw [C.nN] at z
      exact z
    unfold S.py
    refine PS.mono (ps_asg se.pe hg (by unfold Tg.py; exact swaps_T _ e h'.2 _ _ _ _) (by unfold Tg.py; exact swapped_T _ e h'.2 _ _ _) rfl) fun En σ H ⟨μ, ρ, h, hr, er, q⟩ => ?_
    unfold S.run at q
    refine liftS_bind (m := e.ev cl) hr er q fun d h1 μ1 H1 x _ e1 r1 er1 qa q1 => ?_
    cases eb : bindT (.tup is p1) (unpD d h1) ρ with
    | none => rw [eb] at q1; exact q1.elim
    | some ρ' =>
      rw [eb] at q1
      exact ⟨μ1, ρ, d, ρ', h1, r1, er1, qa, eb, fun σ' er' => q1 μ1 H1 σ' Ext.refl r1 er'⟩
theorem sSs : ∀ (s : Ss) (X : Cx) (Z : ZK) (k : Nat) (n : Nm) (cv : Nat → Value) (cl : Nat → List D → Hh → Res D), KxS X Z k n cv cl → s.ok X.env.scope n = true → PSs X (s.py n) (liftS X.K cv Z (s.run cl))
  | .nil, X, Z, k, n, cv, cl, C, _ => by
    unfold Ss.py
    refine PSs.mono pss_nil fun En σ H ⟨μ, ρ, h, hr, er, q⟩ => ?_
    unfold Ss.run at q
    exact q μ H σ Ext.refl hr er
  | .cons s r, X, Z, k, n, cv, cl, C, h => by
    have h' : s.ok X.env.scope n = true ∧ r.ok X.env.scope n = true := by unfold Ss.ok at h; simpa using h
    have ss := sS s X Z k n cv cl C h'.1
    have sr := sSs r X Z k n cv cl C h'.2
    unfold Ss.py
    refine PSs.mono (pss_cons ss sr) fun En σ H ⟨μ, ρ, h, hr, er, q⟩ => ?_
    unfold Ss.run seqS at q
    refine ⟨μ, ρ, h, hr, er, ?_⟩
    cases e : s.run cl ρ h with
    | nx ρ' h1 =>
      rw [e] at q
      exact fun μ1 H1 σ1 e1 r1 er1 => ⟨μ1, ρ', h1, r1, er1, PostS.ext q e1⟩
    | bk ρ' h1 => rw [e] at q; exact q
    | ct ρ' h1 => rw [e] at q; exact q
    | rt d h1 => rw [e] at q; exact q
    | ex c ρ' h1 => rw [e] at q; exact q
    | no => rw [e] at q; exact q
end
end
end PI
set_option Elab.async false
set_option linter.all false
set_option maxRecDepth 100000
set_option maxHeartbeats 4000000
namespace PI
open PySem L2 PySem.Spec
open PyProof.Rows hiding St
structure DefOk (st : Stmt) (d : Df) (F : List Str) (G : List (Str × Cn)) : Prop where
  body : defBody st = d.body.py ⟨d.N, F, G⟩
  sc : FnScope d.N d.ps (defScope st)
  ok : d.body.ok (defScope st) ⟨d.N, F, G⟩ = true
  nm : ∀ x ∈ d.N, ((defScope st).names.lookup x = some .local ∨ (defScope st).names.lookup x = some .cell) ∧ goodN x = true
  bd : ∀ (kV doc pm : Value) (an : Option Addr) (cdv ct : Value) (us : List Value), us.length = d.ps.length →
    bindArgs (PySem.W.fnOf d.name d.name (defArgs st) (defBody st) (defScope st) .none kV doc pm an cdv ct) ⟨us, []⟩ = pure (d.ps.zip us)
structure Tab (P : Program) (w : World) (K : PySem.W.Frag) (mg : Str → Option Value) (ds : List Df) (G : List (Str × Cn)) : Prop where
  bm : ∀ x, x ∈ bnames → mg x = none
  gc : ∀ x c, (x, c) ∈ G → (x == ("__debug__" : Str)) = false ∧ ∃ v, mg x = some v ∧ CnOk P w K v c
  fn : ∀ (i : Nat) d, ds[i]? = some d → (d.name == ("__debug__" : Str)) = false ∧ ∃ st f fd, mg d.name = some (.ref f) ∧ Fun K d.name d.name st f fd ∧ DefOk st d (ds.map (·.name)) G
theorem er_start {K : PySem.W.Frag} {μ : List Addr} {H : Hp} {as : List D} {vs : List V} (N : List Str) (r : Reps K μ H as vs) : ER K μ (as.map some ++ List.replicate (N.length - as.length) none) (L2.start N vs) H := by
  unfold L2.start
  refine ⟨by simp [r.length], fun i d h => ?_⟩
  rw [List.getElem?_append] at h ⊢
  rw [List.length_map] at h ⊢
  rw [← r.length]
  split at h
  · rename_i c
    rw [if_pos c]
    rw [List.getElem?_map] at h ⊢
    cases e : as[i]? with
    | none => rw [e] at h; cases h
    | some a =>
      rw [e] at h
      cases h
      obtain ⟨v, e1, e2⟩ := r.get e
      rw [e1]
      exact ⟨v, rfl, e2⟩
  · exfalso
    rw [List.getElem?_replicate] at h
    split at h <;> cases h
theorem callI_len {ds : List Df} {k i : Nat} {d : Df} (hd : ds[i]? = some d) : ∀ as h, callI ds k i as h ≠ .no → as.length = d.ps.length := by
  intro as h q
  cases k with
  | zero => exact absurd rfl q
  | succ k =>
    unfold callI at q
    rw [hd] at q
    by_cases c : as.length = d.ps.length
    · exact c
    · exact absurd (if_neg c) q
section
variable {P : Program} {w : World} {K : PySem.W.Frag} {mg : Str → Option Value} {base : Heap} {ds : List Df} {G : List (Str × Cn)} {cv : Nat → Value}
theorem all_fn (T : Tab P w K mg ds G) : ∀ (k i : Nat) (d : Df) (st : Stmt) (f : Addr) (fd : FuncData), ds[i]? = some d → mg d.name = some (.ref f) → Fun K d.name d.name st f fd → DefOk st d (ds.map (·.name)) G →
    FnOk P w K mg base (CXs P w) k f fd d.ps (spI K cv d.ps.length (callI ds k i))
  | 0, i, d, st, f, fd, hd, hm, F, o => by
    have no : ∀ vs H Q E, ¬ spI K cv d.ps.length (callI ds 0 i) vs H Q E := fun vs H Q E ⟨_, _, _, _, _, _, z⟩ => z
    exact ⟨fun vs H Q E h => absurd h (no vs H Q E), fun A outer s H args us vs Q E _ _ _ _ h => absurd h (no vs H Q E)⟩
  | k + 1, i, d, st, f, fd, hd, hm, F, o => by
    refine F.okX o.sc (fun vs H Q E h => h.1) fun cdv A outer s H vs Q E hr h => ?_
    obtain ⟨hl, μ, h, as, hH, hv, p⟩ := h
    have C : KxS (cxOf (CXs P w) P w K mg base d.N d.name (defScope st) f cdv A outer s H E) (fun _ C H' => E C none H') k ⟨d.N, ds.map (·.name), G⟩ cv (callI ds k) := by
      refine ⟨⟨thr_def, hr, rfl, o.sc.nd, rfl, o.sc.kind, fun x hx => ⟨(o.nm x hx).1.elim .inl fun z => .inr (.inl z), (o.nm x hx).2⟩, T.bm, T.gc, fun j x hj => ?_⟩, fun x hx => ⟨(o.nm x hx).1, .inl rfl⟩⟩
      have hj' : (ds.map (·.name))[j]? = some x := hj
      rw [List.getElem?_map] at hj'
      cases e : ds[j]? with
      | none => rw [e] at hj'; cases hj'
      | some d' =>
        rw [e] at hj'
        cases hj'
        obtain ⟨h1, st', f', fd', m', F', o'⟩ := T.fn j d' e
        exact ⟨h1, f', fd', d'.ps, m', F'.kp, F'.binds o'.bd, callI_len e, all_fn T k j d' st' f' fd' e m' F' o'⟩
    refine ⟨liftS K cv (fun _ C H' => E C none H') (d.body.run (callI ds k)), by rw [o.body]; exact sSs d.body _ _ _ _ _ _ C o.ok, μ, _, h, hH, er_start d.N hv, ?_⟩
    have c : as.length = d.ps.length := by rw [hv.length]; exact hl
    rw [callI_succ hd c] at p
    have p1 := p
    unfold Df.run outR at p1
    cases e : d.body.run (callI ds k) (as.map some ++ List.replicate (d.N.length - as.length) none) h with
    | nx ρ h1 => rw [e] at p1; exact fun μ1 H1 σ1 e1 r1 er1 => p1 μ1 H1 .non e1 r1 .non
    | rt v h1 => rw [e] at p1; exact p1
    | ex c ρ h1 => rw [e] at p1; exact fun μ1 H1 σ1 e1 r1 er1 => p1 μ1 H1 e1 r1
    | bk ρ h1 => rw [e] at p1; exact p1.elim
    | ct ρ h1 => rw [e] at p1; exact p1.elim
    | no => rw [e] at p1; exact p1.elim
end
noncomputable def EntsOk (w : World) (K : PySem.W.Frag) : List DictEntry → List (Str × Cv) → Prop
  | [], [] => True
  | e :: r, kx :: s => (e.hash = hashStr w kx.1 ∧ (∃ t, e.key = .str kx.1 t) ∧ CvOk K e.val kx.2) ∧ EntsOk w K r s
  | _, _ => False
theorem ents_pairs {P : Program} {w : World} {K : PySem.W.Frag} : ∀ {es : List DictEntry} {kvs : List (Str × Cv)}, EntsOk w K es kvs → ∃ vs, Pairs (mixKind P w) es vs ∧ DicV K kvs vs ∧ vs.map (·.1) = kvs.map (fun kx => (Sum.inr kx.1 : Key)) ∧ ∀ e ∈ es, ∃ k, (mixKind P w).is k e.key = true ∧ e.hash = (mixKind P w).hash k
  | [], [], _ => ⟨[], .nil, trivial, rfl, fun e h => absurd h (by simp)⟩
  | [], _ :: _, h => h.elim
  | _ :: _, [], h => h.elim
  | e :: r, (k, xs) :: s, ⟨⟨h1, ⟨t, h2⟩, h4⟩, h5⟩ => by
    obtain ⟨vs, p, d, n, ks⟩ := ents_pairs (P := P) h5
    have ik : (mixKind P w).is (.inr k) e.key = true := kV_is (k := .inr k) ⟨t, h2⟩
    refine ⟨(.inr k, e.val) :: vs, .cons ik rfl p, ⟨rfl, h4, d⟩, by simp [n], fun e' he => ?_⟩
    rcases List.mem_cons.mp he with rfl | he
    · exact ⟨_, ik, h1⟩
    · exact ks e' he
theorem cn_dic {P : Program} {w : World} {K : PySem.W.Frag} {a : Addr} {es : Array DictEntry} {ep : Nat} {kvs : List (Str × Cv)} (l : K.lookup a = some { cls := .type "dict", data := .dict es ep }) (h : EntsOk w K es.toList kvs) (nd : (kvs.map (·.1)).Nodup) :
    CnOk P w K (.ref a) (.dic kvs) := by
  obtain ⟨vs, p, d, n, ks⟩ := ents_pairs (P := P) h
  refine ⟨a, _, es, ep, vs, rfl, l, ⟨rfl, rfl, rfl⟩, rfl, fun e he => ks e (by simpa using he), p, ?_, d⟩
  rw [n]
  have e : kvs.map (fun kx => (Sum.inr kx.1 : Key)) = (kvs.map (·.1)).map fun k => (Sum.inr k : Key) := by simp
  rw [e]
  exact List.Pairwise.map _ (fun x y hxy z => hxy (Sum.inr.inj z)) nd
theorem bits_of_W : ∀ {ns : List Int}, PySem.W.WData.weightAll (ns.map PySem.W.WData.int) ≤ 2 ^ 20 → ∀ n ∈ ns, Builtin.Int.intBits n ≤ 2 ^ 20
  | [], _, n, hn => absurd hn (by simp)
  | m :: r, h, n, hn => by
    rw [List.map_cons, PySem.W.WData.weightAll] at h
    rcases List.mem_cons.mp hn with rfl | hn
    · have e : PySem.W.WData.weight (.int n) = Builtin.Int.intBits n := by rw [PySem.W.WData.weight]; rfl
      omega
    · exact bits_of_W (by omega) n hn
noncomputable def spLaw (K : PySem.W.Frag) (c : List D → Hh → Res D) : Sp := spI K (fun _ => .none) 1 c
theorem law_sp {K : PySem.W.Frag} {c : List D → Hh → Res D} {H : Hp} {a : Addr} {ns : List Int} {h' : Hh} (hO : Only H) (hS : SqL K H a (ns.map V.int)) (e : c [.fl (ns.map D.int)] [] = .ok (.bl true) h') :
    spLaw K c [.ref a] H (fun v _ => v = .bl true) (fun _ _ _ => False) := by
  have rp : ∀ ms : List Int, Reps K [] H (ms.map D.int) (ms.map V.int) := fun ms => by
    induction ms with
    | nil => exact .nil
    | cons m r ih => exact .cons (.int m) ih
  have fz : Fz K H a (ns.map V.int) := by
    rcases hS with h | h
    · left
      rcases h with h | h
      · rcases hO a with z | ⟨o, xs, z⟩
        · rw [h] at z; cases z
        · rw [h] at z; cases z
      · exact h
    · exact .inr fun H' => .inr h
  refine ⟨rfl, [], [], [.fl (ns.map D.int)], ⟨rfl, fun n m b e1 => by simp at e1, fun n b o e1 => by simp at e1⟩, .cons (.fl fz (rp ns)) .nil, ?_⟩
  · rw [e]
    intro μ1 H1 v e1 r1 q1
    cases q1
    rfl
theorem walk_ofB {l : PySem.W.OpenLaw} {k : Nat} {q : Program} {loose : List Str} {XP : (Str → Option Value) → Heap → Prop} {YP : World → Heap → Prop} {d : DefRec} {K : Params → PySem.W.Frag} {c : List D → Hh → Res D} {x : Str}
    (hn : l.most = some 63) (hdf : d.params.defaults = []) (hr : Room k callerA)
    (hY : ∀ (w : World) (h : Heap), YP w h → (K w.params).In h)
    (F : ∀ (w : World) (mg : Str → Option Value) (fa : Addr) (h : Heap), (K w.params).In h → h.Ns mainGlobals mg → mg d.name = some (.ref fa) →
      ∃ fd : FuncData, (∀ (s : Shared) (u : Value), BindsTo s fd ⟨[u], []⟩ [(x, u)]) ∧
        ∀ base : Heap, (K w.params).In base → base.Ns mainGlobals mg → FnOk l.prog w (K w.params) mg base (CXs l.prog w) k fa fd [x] (spLaw (K w.params) c))
    (hc : ∀ ns : List Int, ns.length ≤ 63 → (∀ n ∈ ns, Builtin.Int.intBits n ≤ 2 ^ 20) → ∃ h', c [.fl (ns.map D.int)] [] = .ok (.bl true) h') :
    PySem.W.WalkO q loose XP YP l.row.toRowW d [] (fun f vs => PySem.call f vs) := by
  intro w s₀ s₁ mg mb G Y fa o pm cd doc dV kV ho hd hcd hD hmg hg args vals as hpre hlay hrd hwl hlo
  obtain rfl : dV = .none := PySem.W.Dflts.none hD hdf
  obtain rfl : kV = .none := PySem.W.Dflts.noKw hD
  obtain ⟨a, vs, ns, rfl, rfl, hobj, hints, hlen⟩ := Att.script_of hn hpre hwl
  have hbits : ∀ n ∈ ns, Builtin.Int.intBits n ≤ 2 ^ 20 := by
    have h1 : PySem.W.WData.layable (.list (ns.map .int)) = true := by
      have := hlay
      unfold PySem.W.WData.layableAll at this
      simpa using this
    have h2 := (PySem.W.layableW_iff.mp h1).2.2
    exact bits_of_W (by simpa [PySem.W.WData.weight] using h2)
  have KX := hY w _ Y
  obtain ⟨fd, hb, hF⟩ := F w mg fa _ KX G.T.g hmg
  obtain ⟨h', e⟩ := hc ns hlen hbits
  refine PySem.W.enter_call (codeAny_mono (law_call KX G.T.g G.T.b G.T.builtins G.T.nolimit hg hobj hints (Nat.le_trans hlen (by decide)) hr hF hb (fun H hO hS => law_sp hO hS e) (fun H e' s' z => by
    obtain ⟨_, _, _, _, _, _, _, _, _, _, _, z⟩ := z
    exact z)) fun r s' hq => ?_)
  obtain ⟨rfl, h2, h3, h4⟩ := hq
  exact ⟨.inl ⟨.bool true, .bool true, [], rfl, fun _ => rfl, .bool true, Att.post_true l _, fun _ => ⟨List.Pairwise.nil, fun _ hm => (nomatch hm)⟩⟩, h2, h3, h4⟩
end PI
set_option Elab.async false
set_option linter.all false
set_option maxRecDepth 100000
set_option maxHeartbeats 4000000
namespace PI
open PySem L2
section
variable {h l : Hh} {o u : O} {n k : Nat} {xs : List D}
theorem hx (h l : Hh) (k : Nat) : (h ++ l)[h.length + k]? = l[k]? := by
  rw [List.getElem?_append_right (by omega)]; congr 1; omega
theorem hx0 (h l : Hh) : (h ++ l)[h.length]? = l[0]? := hx h l 0
theorem hset (h l : Hh) (k : Nat) (o : O) : (h ++ l).set (h.length + k) o = h ++ l.set k o := by
  rw [List.set_append_right _ _ (by omega)]; congr 2; omega
theorem hset0 (h l : Hh) (o : O) : (h ++ l).set h.length o = h ++ l.set 0 o := hset h l 0 o
theorem rdx (h l : Hh) (k : Nat) : rd (h ++ l) (h.length + k) = rd l k := by unfold rd; rw [hx]
theorem rdx0 (h l : Hh) : rd (h ++ l) h.length = rd l 0 := rdx h l 0
theorem rd_of (e : h[n]? = some (.lst xs)) : rd h n = some xs := by unfold rd; rw [e]
theorem get_old (e : h[n]? = some o) : (h ++ l)[n]? = some o := by rw [List.getElem?_append_left (List.getElem?_eq_some_iff.mp e).1]; exact e
theorem stay_nil : stay [] h := by unfold stay; simp
theorem stay_one {n : Nat} {ds : List D} {h : Hh} : stay [(n, ds)] h ↔ rd h n = some ds := by unfold stay; simp
end
theorem compL_pure {c : Ck} {f : D → Hh → Res (Option D)} {h : Hh} (st : stay c h) (g : D → Option D) : ∀ (xs acc : List D), (∀ x ∈ xs, f x h = .ok (g x) h) → compL c f xs acc h = .ok (acc ++ xs.filterMap g) h
  | [], acc, _ => by simp [compL, st]
  | x :: r, acc, e => by
    have e1 := e x (List.mem_cons_self ..)
    have ih := compL_pure st g r (addO acc (g x)) fun y hy => e y (List.mem_cons_of_mem _ hy)
    unfold compL
    rw [if_pos st, e1, bind_ok, ih, List.filterMap_cons]
    cases g x <;> simp
theorem sIx_some (n d : Nat) (i : Int) (h : 0 ≤ i) : HT.sIx n d (some i) = min i.toNat n := by
  unfold HT.sIx
  exact if_neg (by omega)
theorem sIx_none (n d : Nat) : HT.sIx n d none = d := rfl
theorem atI_nat {α : Type} {xs : List α} {k : Nat} : atI xs (k : Int) = xs[k]? := by
  unfold atI ixN
  rw [if_pos (by omega)]
  by_cases h : k < xs.length
  · rw [if_pos (by omega)]; simp
  · rw [if_neg (by omega), List.getElem?_eq_none (by omega)]; rfl
theorem atI_pos {α : Type} {xs : List α} {i : Int} (h : 0 ≤ i) : atI xs i = xs[i.toNat]? := by
  have : i = (i.toNat : Int) := by omega
  rw [this, atI_nat]; rfl
theorem eqS {a b : Str} {h : Hh} (ha : PyData.strOk a = true) (hb : PyData.strOk b = true) : cmpD .Eq (.str a) (.str b) h = .ok (.bl (a == b)) h := by
  simp [PyData.canLay0, PyData.depth, PyData.eqv, ha, hb]
theorem neS {a b : Str} {h : Hh} (ha : PyData.strOk a = true) (hb : PyData.strOk b = true) : cmpD .NotEq (.str a) (.str b) h = .ok (.bl (!(a == b))) h := by
  simp [PyData.canLay0, PyData.depth, PyData.eqv, ha, hb]
theorem eqI {a b : Int} {h : Hh} : cmpD .Eq (.int a) (.int b) h = .ok (.bl (a == b)) h := by
  simp [PyData.canLay0, PyData.depth, PyData.eqv]
theorem fits_sm {i : Int} (h : i.natAbs < 1048576) : fits i = true := by
  unfold fits Builtin.Int.intBits
  refine decide_eq_true ?_
  split
  · decide
  · rename_i z
    have hz : i.natAbs ≠ 0 := by simpa using z
    have : i.natAbs.log2 < 20 := by
      rw [Nat.log2_lt hz]
      exact h
    omega
noncomputable def takeS : Nat → Ss → Ss
  | 0, _ => .nil
  | _ + 1, .nil => .nil
  | n + 1, .cons s r => .cons s (takeS n r)
noncomputable def dropS : Nat → Ss → Ss
  | 0, b => b
  | _ + 1, .nil => .nil
  | n + 1, .cons _ r => dropS n r
theorem run_at (cl : Nat → List D → Hh → Res D) : ∀ (n : Nat) (b : Ss) (ρ : En) (h : Hh), Ss.run cl b ρ h = seqS (Ss.run cl (takeS n b) ρ h) fun ρ' h' => Ss.run cl (dropS n b) ρ' h'
  | 0, b, ρ, h => by simp [takeS, dropS, Ss.run]
  | n + 1, .nil, ρ, h => by simp [takeS, dropS, Ss.run]
  | n + 1, .cons s r, ρ, h => by
    simp only [takeS, dropS, Ss.run]
    cases S.run cl s ρ h with
    | nx ρ' h' => simp only [seqS_nx]; exact run_at cl n r ρ' h'
    | _ => rfl
noncomputable def cellv (ns : List Int) (i : Int) : Int := ns.getD i.toNat 0
theorem at_map (ns : List Int) (i : Int) (hi : 0 ≤ i) (h : i < (ns.length : Int)) : atI (ns.map D.int) i = some (.int (cellv ns i)) := by
  rw [atI_pos hi, cellv, List.getElem?_map, List.getD_eq_getElem?_getD, List.getElem?_eq_getElem (by omega)]
  rfl
theorem cell_out (ns : List Int) (i : Int) (h : ¬ i < (ns.length : Int)) : cellv ns i = 0 := by
  unfold cellv
  rw [List.getD_eq_getElem?_getD, List.getElem?_eq_none (by omega)]
  rfl
theorem bls_map : ∀ (bs : List Bool), blsOf (bs.map D.bl) = some bs
  | [] => rfl
  | b :: r => by simp [blsOf, bls_map r]
end PI
set_option Elab.async false
set_option linter.all false
set_option maxRecDepth 100000
set_option maxHeartbeats 4000000
namespace PI
open PySem L2
noncomputable def cs (x : Str) : List Nat := x.cps.toList
noncomputable def mkS (l : List Nat) : Str := ⟨l.toArray⟩
theorem cs_mk (l : List Nat) : cs (mkS l) = l := by simp [cs, mkS]
theorem mk_cs (x : Str) : mkS (cs x) = x := by cases x; simp [cs, mkS]
theorem cs_inj {x y : Str} (h : cs x = cs y) : x = y := by rw [← mk_cs x, ← mk_cs y, h]
theorem mk_inj {a b : List Nat} (h : mkS a = mkS b) : a = b := by rw [← cs_mk a, ← cs_mk b, h]
theorem cs_append (x y : Str) : cs (x ++ y) = cs x ++ cs y := by
  show (x.cps ++ y.cps).toList = _
  simp [cs]
theorem ok_mk {l : List Nat} (h : ∀ c ∈ l, c < 1114112) : PyData.strOk (mkS l) = true := by
  unfold PyData.strOk mkS
  simpa using h
noncomputable def sepL (s : List Nat) : List (List Nat) → List Nat
  | [] => []
  | [x] => x
  | x :: y :: r => x ++ s ++ sepL s (y :: r)
theorem cs_join (sep : Str) : ∀ xs : List Str, cs (Txt.join sep xs) = sepL (cs sep) (xs.map cs) := by
  intro xs
  show cs (Builtin.Str.glued sep xs) = _
  rw [StrLaws.glued_eq_join]
  induction xs with
  | nil => rfl
  | cons x r ih =>
    cases r with
    | nil => rfl
    | cons y r =>
      show cs (x ++ sep ++ Str.join sep (y :: r)) = _
      rw [cs_append, cs_append, ih]
      rfl
theorem sepL_nil : ∀ xs : List (List Nat), sepL [] xs = xs.flatten
  | [] => rfl
  | [x] => by simp [sepL]
  | x :: y :: r => by rw [sepL, sepL_nil (y :: r)]; simp
theorem strs_map : ∀ xs : List Str, strsOf (xs.map D.str) = some xs
  | [] => rfl
  | x :: r => by simp [strsOf, strs_map r]
theorem fits_lt {i : Int} (h : i.natAbs < 18446744073709551616) : fits i = true := by
  unfold fits Builtin.Int.intBits
  refine decide_eq_true ?_
  split
  · decide
  · rename_i z
    have hz : i.natAbs ≠ 0 := by simpa using z
    have : i.natAbs.log2 < 64 := by
      rw [Nat.log2_lt hz]
      exact h
    omega
structure Wd (x : Str) : Prop where
  ne : cs x ≠ []
  len : (cs x).length ≤ 20
  ch : ∀ c ∈ cs x, c ≠ 40 ∧ c ≠ 41 ∧ c ≠ 10 ∧ c < 1114112
end PI
set_option Elab.async false
set_option linter.all false
set_option maxRecDepth 100000
set_option maxHeartbeats 4000000
namespace K81
open PySem L2 PI
noncomputable def g_FIRST_PART : List (Str × Cv) := [("num", .int 2), ("var", .int 2), ("op", .int 2), ("let", .int 2), ("if", .int 1), ("do", .int 2), ("handle", .int 2), ("go", .int 1), ("guard", .int 1)]
noncomputable def consts : List (Str × Cn) := [("FIRST_PART", (.dic g_FIRST_PART))]
noncomputable def d_parts_of : Df := ⟨"parts_of", ["tree"], ["tree"], (.cons (.iff (.cmp .Eq (.sub (.var 0 ⟨4, 7, 4, 11⟩) (.int 0 ⟨4, 12, 4, 13⟩) ⟨4, 7, 4, 14⟩) (.str "call" ⟨4, 18, 4, 24⟩) ⟨4, 7, 4, 24⟩) (.cons (.ret (.sub (.var 0 ⟨5, 15, 5, 19⟩) (.int 3 ⟨5, 20, 5, 21⟩) ⟨5, 15, 5, 22⟩) ⟨5, 8, 5, 22⟩) .nil) .nil ⟨4, 4, 5, 22⟩) (.cons (.ret (.cut (.var 0 ⟨6, 11, 6, 15⟩) (.some (.gsub "FIRST_PART" g_FIRST_PART (.sub (.var 0 ⟨6, 27, 6, 31⟩) (.int 0 ⟨6, 32, 6, 33⟩) ⟨6, 27, 6, 34⟩) ⟨6, 16, 6, 26⟩ ⟨6, 16, 6, 35⟩)) .none ⟨6, 16, 6, 36⟩ ⟨6, 11, 6, 37⟩) ⟨6, 4, 6, 37⟩) .nil))⟩
noncomputable def w_all_within_1 : E := (.cmpN true (.var 2 ⟨10, 10, 10, 17⟩) ⟨10, 21, 10, 23⟩ ⟨10, 10, 10, 23⟩)
noncomputable def b_all_within_1 : Ss := (.cons (.set 3 (.m0 .pop (.var 2 ⟨11, 14, 11, 21⟩) ⟨11, 14, 11, 25⟩ ⟨11, 14, 11, 27⟩) ⟨11, 8, 11, 11⟩ ⟨11, 8, 11, 27⟩) (.cons (.ex (.m1 .append (.var 1 ⟨12, 8, 12, 13⟩) (.var 3 ⟨12, 21, 12, 24⟩) ⟨12, 8, 12, 20⟩ ⟨12, 8, 12, 25⟩) ⟨12, 8, 12, 25⟩) (.cons (.ex (.m1 .extend (.var 2 ⟨13, 8, 13, 15⟩) (.call 0 (.var 3 ⟨13, 32, 13, 35⟩) .nil ⟨13, 23, 13, 31⟩ ⟨13, 23, 13, 36⟩) ⟨13, 8, 13, 22⟩ ⟨13, 8, 13, 37⟩) ⟨13, 8, 13, 37⟩) .nil)))
noncomputable def d_all_within : Df := ⟨"all_within", ["tree"], ["tree", "found", "waiting", "one"], (.cons (.set 1 (.ofL (.disp .nil ⟨8, 12, 8, 14⟩)) ⟨8, 4, 8, 9⟩ ⟨8, 4, 8, 14⟩) (.cons (.set 2 (.ofL (.disp (.cons (.var 0 ⟨9, 15, 9, 19⟩) .nil) ⟨9, 14, 9, 20⟩)) ⟨9, 4, 9, 11⟩ ⟨9, 4, 9, 20⟩) (.cons (.whil w_all_within_1 b_all_within_1 ⟨10, 4, 13, 37⟩) (.cons (.ret (.var 1 ⟨14, 11, 14, 16⟩) ⟨14, 4, 14, 16⟩) .nil))))⟩
noncomputable def e_items_by_name_1 : E := (.tup (.cons (.sub (.var 0 ⟨16, 18, 16, 22⟩) (.int 1 ⟨16, 23, 16, 24⟩) ⟨16, 18, 16, 25⟩) (.cons (.var 0 ⟨16, 27, 16, 31⟩) .nil)) ⟨16, 17, 16, 32⟩)
noncomputable def c_items_by_name_1 : Es := .nil
noncomputable def t_items_by_name_1 : Tg := (.one 0 ⟨16, 37, 16, 41⟩)
noncomputable def s_items_by_name_1 : Scope := { kind := PySem.ScopeKind.function, names := [(PySem.Str.ofString ".0", PySem.NameKind.local), (PySem.Str.ofString "item", PySem.NameKind.local)], isGenerator := false, isCoroutine := false, more := [] : PySem.Scope }
noncomputable def d_items_by_name : Df := ⟨"items_by_name", ["program"], ["program"], (.cons (.ret (.dicP (.ofL (.comp e_items_by_name_1 t_items_by_name_1 (.seq (.var 0 ⟨16, 45, 16, 52⟩)) c_items_by_name_1 ["item"] [none] s_items_by_name_1 ⟨16, 16, 16, 53⟩)) ⟨16, 11, 16, 15⟩ ⟨16, 11, 16, 54⟩) ⟨16, 4, 16, 54⟩) .nil)⟩
noncomputable def d_kind_of : Df := ⟨"kind_of", ["E"], ["E"], (.cons (.iff (.un .Not (.call 7 (.var 0 ⟨19, 18, 19, 19⟩) .nil ⟨19, 11, 19, 17⟩ ⟨19, 11, 19, 20⟩) ⟨19, 7, 19, 20⟩) (.cons (.ret (.str "never" ⟨20, 15, 20, 22⟩) ⟨20, 8, 20, 22⟩) .nil) .nil ⟨19, 4, 20, 22⟩) (.cons (.iff (.call 6 (.var 0 ⟨21, 18, 21, 19⟩) .nil ⟨21, 7, 21, 17⟩ ⟨21, 7, 21, 20⟩) (.cons (.ret (.str "jump" ⟨22, 15, 22, 21⟩) ⟨22, 8, 22, 21⟩) .nil) .nil ⟨21, 4, 22, 21⟩) (.cons (.ret (.ite (.c1 .all (.call 4 (.var 0 ⟨23, 31, 23, 32⟩) .nil ⟨23, 25, 23, 30⟩ ⟨23, 25, 23, 33⟩) ⟨23, 21, 23, 24⟩ ⟨23, 21, 23, 34⟩) (.str "once" ⟨23, 11, 23, 17⟩) (.str "many" ⟨23, 40, 23, 46⟩) ⟨23, 11, 23, 46⟩) ⟨23, 4, 23, 46⟩) .nil)))⟩
noncomputable def w_lasts_1 : E := (.cmpN true (.var 2 ⟨27, 10, 27, 17⟩) ⟨27, 21, 27, 23⟩ ⟨27, 10, 27, 23⟩)
noncomputable def b_lasts_1 : Ss := (.cons (.set 3 (.m0 .pop (.var 2 ⟨28, 17, 28, 24⟩) ⟨28, 17, 28, 28⟩ ⟨28, 17, 28, 30⟩) ⟨28, 8, 28, 14⟩ ⟨28, 8, 28, 30⟩) (.cons (.iff (.cmp .Eq (.sub (.sub (.var 3 ⟨29, 11, 29, 17⟩) (.int 0 ⟨29, 18, 29, 19⟩) ⟨29, 11, 29, 20⟩) (.int 0 ⟨29, 21, 29, 22⟩) ⟨29, 11, 29, 23⟩) (.str "go" ⟨29, 27, 29, 31⟩) ⟨29, 11, 29, 31⟩) (.cons (.ex (.m1 .append (.var 1 ⟨30, 12, 30, 17⟩) (.un .Not (.sub (.var 3 ⟨30, 29, 30, 35⟩) (.int 1 ⟨30, 36, 30, 37⟩) ⟨30, 29, 30, 38⟩) ⟨30, 25, 30, 38⟩) ⟨30, 12, 30, 24⟩ ⟨30, 12, 30, 39⟩) ⟨30, 12, 30, 39⟩) .nil) .nil ⟨29, 8, 30, 39⟩) (.cons (.ex (.m1 .extend (.var 2 ⟨31, 8, 31, 15⟩) (.call 5 (.sub (.var 3 ⟨31, 29, 31, 35⟩) (.int 0 ⟨31, 36, 31, 37⟩) ⟨31, 29, 31, 38⟩) (.cons (.sub (.var 3 ⟨31, 40, 31, 46⟩) (.int 1 ⟨31, 47, 31, 48⟩) ⟨31, 40, 31, 49⟩) .nil) ⟨31, 23, 31, 28⟩ ⟨31, 23, 31, 50⟩) ⟨31, 8, 31, 22⟩ ⟨31, 8, 31, 51⟩) ⟨31, 8, 31, 51⟩) .nil)))
noncomputable def d_lasts : Df := ⟨"lasts", ["E"], ["E", "found", "waiting", "looked"], (.cons (.set 1 (.ofL (.disp .nil ⟨25, 12, 25, 14⟩)) ⟨25, 4, 25, 9⟩ ⟨25, 4, 25, 14⟩) (.cons (.set 2 (.ofL (.disp (.cons (.tup (.cons (.var 0 ⟨26, 16, 26, 17⟩) (.cons (.bl false ⟨26, 19, 26, 24⟩) .nil)) ⟨26, 15, 26, 25⟩) .nil) ⟨26, 14, 26, 26⟩)) ⟨26, 4, 26, 11⟩ ⟨26, 4, 26, 26⟩) (.cons (.whil w_lasts_1 b_lasts_1 ⟨27, 4, 31, 51⟩) (.cons (.ret (.listR (.var 1 ⟨32, 25, 32, 30⟩) ⟨32, 11, 32, 15⟩ ⟨32, 16, 32, 24⟩ ⟨32, 16, 32, 31⟩ ⟨32, 11, 32, 32⟩) ⟨32, 4, 32, 32⟩) .nil))))⟩
noncomputable def t_inner_1 : Tg := (.one 4 ⟨36, 8, 36, 12⟩)
noncomputable def b_inner_1 : Ss := (.cons (.ex (.m1 .append (.var 3 ⟨37, 8, 37, 13⟩) (.tup (.cons (.var 4 ⟨37, 22, 37, 26⟩) (.cons (.var 2 ⟨37, 28, 37, 33⟩) .nil)) ⟨37, 21, 37, 34⟩) ⟨37, 8, 37, 20⟩ ⟨37, 8, 37, 35⟩) ⟨37, 8, 37, 35⟩) (.cons (.set 2 (.or (.var 2 ⟨38, 16, 38, 21⟩) (.call 7 (.var 4 ⟨38, 32, 38, 36⟩) .nil ⟨38, 25, 38, 31⟩ ⟨38, 25, 38, 37⟩) .nil ⟨38, 16, 38, 37⟩) ⟨38, 8, 38, 13⟩ ⟨38, 8, 38, 37⟩) .nil))
noncomputable def d_inner : Df := ⟨"inner", ["tree", "followed"], ["tree", "followed", "after", "parts", "part"], (.cons (.set 2 (.or (.var 1 ⟨34, 12, 34, 20⟩) (.cmp .Eq (.sub (.var 0 ⟨34, 24, 34, 28⟩) (.int 0 ⟨34, 29, 34, 30⟩) ⟨34, 24, 34, 31⟩) (.str "go" ⟨34, 35, 34, 39⟩) ⟨34, 24, 34, 39⟩) .nil ⟨34, 12, 34, 39⟩) ⟨34, 4, 34, 9⟩ ⟨34, 4, 34, 39⟩) (.cons (.set 3 (.ofL (.disp .nil ⟨35, 12, 35, 14⟩)) ⟨35, 4, 35, 9⟩ ⟨35, 4, 35, 14⟩) (.cons (.forr t_inner_1 (.rev (.call 0 (.var 0 ⟨36, 34, 36, 38⟩) .nil ⟨36, 25, 36, 33⟩ ⟨36, 25, 36, 39⟩) ⟨36, 16, 36, 24⟩ ⟨36, 16, 36, 40⟩) b_inner_1 ⟨36, 4, 38, 37⟩) (.cons (.iff (.cmp .Eq (.sub (.var 0 ⟨39, 7, 39, 11⟩) (.int 0 ⟨39, 12, 39, 13⟩) ⟨39, 7, 39, 14⟩) (.str "if" ⟨39, 18, 39, 22⟩) ⟨39, 7, 39, 22⟩) (.cons (.put (.var 3 ⟨40, 8, 40, 13⟩) (.int 1 ⟨40, 14, 40, 15⟩) (.tup (.cons (.sub (.var 0 ⟨40, 20, 40, 24⟩) (.int 2 ⟨40, 25, 40, 26⟩) ⟨40, 20, 40, 27⟩) (.cons (.var 1 ⟨40, 29, 40, 37⟩) .nil)) ⟨40, 19, 40, 38⟩) ⟨40, 8, 40, 16⟩ ⟨40, 8, 40, 38⟩) .nil) .nil ⟨39, 4, 40, 38⟩) (.cons (.ret (.listR (.var 3 ⟨41, 25, 41, 30⟩) ⟨41, 11, 41, 15⟩ ⟨41, 16, 41, 24⟩ ⟨41, 16, 41, 31⟩ ⟨41, 11, 41, 32⟩) ⟨41, 4, 41, 32⟩) .nil)))))⟩
noncomputable def w_ends_at_go_1 : E := (.cmpN true (.var 1 ⟨44, 10, 44, 17⟩) ⟨44, 21, 44, 23⟩ ⟨44, 10, 44, 23⟩)
noncomputable def b_ends_at_go_1 : Ss := (.cons (.set 2 (.m0 .pop (.var 1 ⟨45, 14, 45, 21⟩) ⟨45, 14, 45, 25⟩ ⟨45, 14, 45, 27⟩) ⟨45, 8, 45, 11⟩ ⟨45, 8, 45, 27⟩) (.cons (.iff (.and (.cmp .Eq (.sub (.var 2 ⟨46, 11, 46, 14⟩) (.int 0 ⟨46, 15, 46, 16⟩) ⟨46, 11, 46, 17⟩) (.str "let" ⟨46, 21, 46, 26⟩) ⟨46, 11, 46, 26⟩) (.un .Not (.call 7 (.sub (.var 2 ⟨46, 43, 46, 46⟩) (.int 2 ⟨46, 47, 46, 48⟩) ⟨46, 43, 46, 49⟩) .nil ⟨46, 36, 46, 42⟩ ⟨46, 36, 46, 50⟩) ⟨46, 32, 46, 50⟩) .nil ⟨46, 11, 46, 51⟩) (.cons (.ex (.m1 .append (.var 1 ⟨47, 12, 47, 19⟩) (.sub (.var 2 ⟨47, 27, 47, 30⟩) (.int 3 ⟨47, 31, 47, 32⟩) ⟨47, 27, 47, 33⟩) ⟨47, 12, 47, 26⟩ ⟨47, 12, 47, 34⟩) ⟨47, 12, 47, 34⟩) .nil) (.cons (.iff (.and (.cmp .Eq (.sub (.var 2 ⟨48, 13, 48, 16⟩) (.int 0 ⟨48, 17, 48, 18⟩) ⟨48, 13, 48, 19⟩) (.str "if" ⟨48, 23, 48, 27⟩) ⟨48, 13, 48, 27⟩) (.un .Not (.call 7 (.sub (.var 2 ⟨48, 44, 48, 47⟩) (.int 1 ⟨48, 48, 48, 49⟩) ⟨48, 44, 48, 50⟩) .nil ⟨48, 37, 48, 43⟩ ⟨48, 37, 48, 51⟩) ⟨48, 33, 48, 51⟩) .nil ⟨48, 13, 48, 52⟩) (.cons (.ex (.m1 .extend (.var 1 ⟨49, 12, 49, 19⟩) (.cut (.var 2 ⟨49, 27, 49, 30⟩) (.some (.int 2 ⟨49, 31, 49, 32⟩)) .none ⟨49, 31, 49, 33⟩ ⟨49, 27, 49, 34⟩) ⟨49, 12, 49, 26⟩ ⟨49, 12, 49, 35⟩) ⟨49, 12, 49, 35⟩) .nil) (.cons (.iff (.or (.cmp .NotEq (.sub (.var 2 ⟨50, 13, 50, 16⟩) (.int 0 ⟨50, 17, 50, 18⟩) ⟨50, 13, 50, 19⟩) (.str "go" ⟨50, 23, 50, 27⟩) ⟨50, 13, 50, 27⟩) (.call 7 (.sub (.var 2 ⟨50, 38, 50, 41⟩) (.int 1 ⟨50, 42, 50, 43⟩) ⟨50, 38, 50, 44⟩) .nil ⟨50, 31, 50, 37⟩ ⟨50, 31, 50, 45⟩) (.cons (.call 7 (.sub (.var 2 ⟨50, 56, 50, 59⟩) (.int 2 ⟨50, 60, 50, 61⟩) ⟨50, 56, 50, 62⟩) .nil ⟨50, 49, 50, 55⟩ ⟨50, 49, 50, 63⟩) .nil) ⟨50, 13, 50, 63⟩) (.cons (.ret (.bl false ⟨51, 19, 51, 24⟩) ⟨51, 12, 51, 24⟩) .nil) .nil ⟨50, 8, 51, 24⟩) .nil) ⟨48, 8, 51, 24⟩) .nil) ⟨46, 8, 51, 24⟩) .nil))
noncomputable def d_ends_at_go : Df := ⟨"ends_at_go", ["tree"], ["tree", "waiting", "one"], (.cons (.set 1 (.ofL (.disp (.cons (.var 0 ⟨43, 15, 43, 19⟩) .nil) ⟨43, 14, 43, 20⟩)) ⟨43, 4, 43, 11⟩ ⟨43, 4, 43, 20⟩) (.cons (.whil w_ends_at_go_1 b_ends_at_go_1 ⟨44, 4, 51, 24⟩) (.cons (.ret (.bl true ⟨52, 11, 52, 15⟩) ⟨52, 4, 52, 15⟩) .nil)))⟩
noncomputable def e_has_go_1 : E := (.cmp .Eq (.sub (.var 0 ⟨54, 16, 54, 20⟩) (.int 0 ⟨54, 21, 54, 22⟩) ⟨54, 16, 54, 23⟩) (.str "go" ⟨54, 27, 54, 31⟩) ⟨54, 16, 54, 31⟩)
noncomputable def c_has_go_1 : Es := .nil
noncomputable def t_has_go_1 : Tg := (.one 0 ⟨54, 36, 54, 40⟩)
noncomputable def s_has_go_1 : Scope := { kind := PySem.ScopeKind.function, names := [(PySem.Str.ofString ".0", PySem.NameKind.local), (PySem.Str.ofString "part", PySem.NameKind.local)], isGenerator := false, isCoroutine := false, more := [] : PySem.Scope }
noncomputable def d_has_go : Df := ⟨"has_go", ["tree"], ["tree"], (.cons (.ret (.c1 .any (.ofL (.comp e_has_go_1 t_has_go_1 (.seq (.call 1 (.var 0 ⟨54, 55, 54, 59⟩) .nil ⟨54, 44, 54, 54⟩ ⟨54, 44, 54, 60⟩)) c_has_go_1 ["part"] [none] s_has_go_1 ⟨54, 15, 54, 61⟩)) ⟨54, 11, 54, 14⟩ ⟨54, 11, 54, 62⟩) ⟨54, 4, 54, 62⟩) .nil)⟩
noncomputable def e_steady_1 : E := (.call 9 (.var 0 ⟨59, 56, 59, 62⟩) .nil ⟨59, 46, 59, 55⟩ ⟨59, 46, 59, 63⟩)
noncomputable def c_steady_1 : Es := .nil
noncomputable def t_steady_1 : Tg := (.one 0 ⟨59, 68, 59, 74⟩)
noncomputable def s_steady_1 : Scope := { kind := PySem.ScopeKind.function, names := [ (PySem.Str.ofString ".0", PySem.NameKind.local), (PySem.Str.ofString "clause", PySem.NameKind.local), (PySem.Str.ofString "is_steady", PySem.NameKind.globalImplicit)], isGenerator := false, isCoroutine := false, more := [] : PySem.Scope }
noncomputable def d_steady : Df := ⟨"steady", ["program", "h"], ["program", "h", "handler", "end"], (.cons (.set 2 (.sub (.call 2 (.var 0 ⟨57, 28, 57, 35⟩) .nil ⟨57, 14, 57, 27⟩ ⟨57, 14, 57, 36⟩) (.var 1 ⟨57, 37, 57, 38⟩) ⟨57, 14, 57, 39⟩) ⟨57, 4, 57, 11⟩ ⟨57, 4, 57, 39⟩) (.cons (.set 3 (.sub (.var 2 ⟨58, 10, 58, 17⟩) (.int 3 ⟨58, 18, 58, 19⟩) ⟨58, 10, 58, 20⟩) ⟨58, 4, 58, 7⟩ ⟨58, 4, 58, 20⟩) (.cons (.ret (.and (.cmp .Eq (.sub (.var 3 ⟨59, 11, 59, 14⟩) (.int 2 ⟨59, 15, 59, 16⟩) ⟨59, 11, 59, 17⟩) (.tup (.cons (.str "var" ⟨59, 22, 59, 27⟩) (.cons (.sub (.var 3 ⟨59, 29, 59, 32⟩) (.int 0 ⟨59, 33, 59, 34⟩) ⟨59, 29, 59, 35⟩) .nil)) ⟨59, 21, 59, 36⟩) ⟨59, 11, 59, 36⟩) (.c1 .all (.ofL (.comp e_steady_1 t_steady_1 (.seq (.sub (.var 2 ⟨59, 78, 59, 85⟩) (.int 2 ⟨59, 86, 59, 87⟩) ⟨59, 78, 59, 88⟩)) c_steady_1 ["clause"] [none] s_steady_1 ⟨59, 45, 59, 89⟩)) ⟨59, 41, 59, 44⟩ ⟨59, 41, 59, 90⟩) .nil ⟨59, 11, 59, 90⟩) ⟨59, 4, 59, 90⟩) .nil)))⟩
noncomputable def w_is_steady_1 : E := (.cmpN true (.var 2 ⟨65, 10, 65, 17⟩) ⟨65, 21, 65, 23⟩ ⟨65, 10, 65, 23⟩)
noncomputable def b_is_steady_1 : Ss := (.cons (.set 3 (.m0 .pop (.var 2 ⟨66, 15, 66, 22⟩) ⟨66, 15, 66, 26⟩ ⟨66, 15, 66, 28⟩) ⟨66, 8, 66, 12⟩ ⟨66, 8, 66, 28⟩) (.cons (.iff (.cmp .Eq (.sub (.var 3 ⟨67, 11, 67, 15⟩) (.int 0 ⟨67, 16, 67, 17⟩) ⟨67, 11, 67, 18⟩) (.str "if" ⟨67, 22, 67, 26⟩) ⟨67, 11, 67, 26⟩) (.cons (.ex (.m1 .extend (.var 2 ⟨68, 12, 68, 19⟩) (.cut (.var 3 ⟨68, 27, 68, 31⟩) (.some (.int 2 ⟨68, 32, 68, 33⟩)) .none ⟨68, 32, 68, 34⟩ ⟨68, 27, 68, 35⟩) ⟨68, 12, 68, 26⟩ ⟨68, 12, 68, 36⟩) ⟨68, 12, 68, 36⟩) .nil) (.cons (.iff (.and (.cmp .Eq (.sub (.var 3 ⟨69, 13, 69, 17⟩) (.int 0 ⟨69, 18, 69, 19⟩) ⟨69, 13, 69, 20⟩) (.str "let" ⟨69, 24, 69, 29⟩) ⟨69, 13, 69, 29⟩) (.cmp .NotEq (.sub (.var 3 ⟨69, 34, 69, 38⟩) (.int 1 ⟨69, 39, 69, 40⟩) ⟨69, 34, 69, 41⟩) (.sub (.var 0 ⟨69, 45, 69, 51⟩) (.int 2 ⟨69, 52, 69, 53⟩) ⟨69, 45, 69, 54⟩) ⟨69, 34, 69, 54⟩) .nil ⟨69, 13, 69, 54⟩) (.cons (.ex (.m1 .append (.var 2 ⟨70, 12, 70, 19⟩) (.sub (.var 3 ⟨70, 27, 70, 31⟩) (.int 3 ⟨70, 32, 70, 33⟩) ⟨70, 27, 70, 34⟩) ⟨70, 12, 70, 26⟩ ⟨70, 12, 70, 35⟩) ⟨70, 12, 70, 35⟩) .nil) (.cons (.iff (.or (.cmp .Eq (.sub (.var 3 ⟨71, 13, 71, 17⟩) (.int 0 ⟨71, 18, 71, 19⟩) ⟨71, 13, 71, 20⟩) (.str "let" ⟨71, 24, 71, 29⟩) ⟨71, 13, 71, 29⟩) (.cmp .NotEq (.sub (.var 3 ⟨71, 33, 71, 37⟩) (.int 2 ⟨71, 38, 71, 39⟩) ⟨71, 33, 71, 40⟩) (.var 1 ⟨71, 44, 71, 48⟩) ⟨71, 33, 71, 48⟩) .nil ⟨71, 13, 71, 48⟩) (.cons (.ret (.bl false ⟨72, 19, 72, 24⟩) ⟨72, 12, 72, 24⟩) .nil) .nil ⟨71, 8, 72, 24⟩) .nil) ⟨69, 8, 72, 24⟩) .nil) ⟨67, 8, 72, 24⟩) .nil))
noncomputable def d_is_steady : Df := ⟨"is_steady", ["clause"], ["clause", "kept", "waiting", "tree"], (.cons (.iff (.cmp .NotEq (.call 3 (.sub (.var 0 ⟨61, 15, 61, 21⟩) (.int 3 ⟨61, 22, 61, 23⟩) ⟨61, 15, 61, 24⟩) .nil ⟨61, 7, 61, 14⟩ ⟨61, 7, 61, 25⟩) (.str "jump" ⟨61, 29, 61, 35⟩) ⟨61, 7, 61, 35⟩) (.cons (.ret (.bl false ⟨62, 15, 62, 20⟩) ⟨62, 8, 62, 20⟩) .nil) .nil ⟨61, 4, 62, 20⟩) (.cons (.set 1 (.tup (.cons (.str "var" ⟨63, 12, 63, 17⟩) (.cons (.sub (.var 0 ⟨63, 19, 63, 25⟩) (.int 2 ⟨63, 26, 63, 27⟩) ⟨63, 19, 63, 28⟩) .nil)) ⟨63, 11, 63, 29⟩) ⟨63, 4, 63, 8⟩ ⟨63, 4, 63, 29⟩) (.cons (.set 2 (.ofL (.disp (.cons (.sub (.var 0 ⟨64, 15, 64, 21⟩) (.int 3 ⟨64, 22, 64, 23⟩) ⟨64, 15, 64, 24⟩) .nil) ⟨64, 14, 64, 25⟩)) ⟨64, 4, 64, 11⟩ ⟨64, 4, 64, 25⟩) (.cons (.whil w_is_steady_1 b_is_steady_1 ⟨65, 4, 72, 24⟩) (.cons (.ret (.bl true ⟨73, 11, 73, 15⟩) ⟨73, 4, 73, 15⟩) .nil)))))⟩
noncomputable def d_law_cell_at : Df := ⟨"_law_cell_at", ["_law_script", "_law_k"], ["_law_script", "_law_k"], (.cons (.iff (.cmp .Lt (.var 1 ⟨76, 7, 76, 13⟩) (.len (.var 0 ⟨76, 20, 76, 31⟩) ⟨76, 16, 76, 19⟩ ⟨76, 16, 76, 32⟩) ⟨76, 7, 76, 32⟩) (.cons (.ret (.sub (.var 0 ⟨77, 15, 77, 26⟩) (.var 1 ⟨77, 27, 77, 33⟩) ⟨77, 15, 77, 34⟩) ⟨77, 8, 77, 34⟩) .nil) .nil ⟨76, 4, 77, 34⟩) (.cons (.ret (.int 0 ⟨78, 11, 78, 12⟩) ⟨78, 4, 78, 12⟩) .nil))⟩
noncomputable def e_law_names_2 : E := (.sub (.var 2 ⟨85, 22, 85, 32⟩) (.bin .Mod (.bin .Add (.bin .FloorDiv (.bin .FloorDiv (.var 1 ⟨85, 34, 85, 43⟩) (.int 64 ⟨85, 47, 85, 49⟩) ⟨85, 34, 85, 49⟩) (.bin .Add (.var 0 ⟨85, 54, 85, 60⟩) (.int 1 ⟨85, 63, 85, 64⟩) ⟨85, 54, 85, 64⟩) ⟨85, 34, 85, 65⟩) (.bin .Mult (.int 5 ⟨85, 68, 85, 69⟩) (.var 0 ⟨85, 72, 85, 78⟩) ⟨85, 68, 85, 78⟩) ⟨85, 34, 85, 78⟩) (.int 21 ⟨85, 82, 85, 84⟩) ⟨85, 33, 85, 84⟩) ⟨85, 22, 85, 85⟩)
noncomputable def c_law_names_2 : Es := .nil
noncomputable def t_law_names_2 : Tg := (.one 0 ⟨85, 90, 85, 96⟩)
noncomputable def s_law_names_2 : Scope := { kind := PySem.ScopeKind.function, names := [ (PySem.Str.ofString ".0", PySem.NameKind.local), (PySem.Str.ofString "_law_j", PySem.NameKind.local), (PySem.Str.ofString "_law_cell", PySem.NameKind.free), (PySem.Str.ofString "_law_tells", PySem.NameKind.free)], isGenerator := false, isCoroutine := false, more := [] : PySem.Scope }
noncomputable def t_law_names_1 : Tg := (.one 6 ⟨84, 8, 84, 14⟩)
noncomputable def b_law_names_1 : Ss := (.cons (.set 7 (.ofL (.comp e_law_names_2 t_law_names_2 (.rng (.var 3 ⟨85, 106, 85, 115⟩) ⟨85, 100, 85, 105⟩ ⟨85, 100, 85, 116⟩) c_law_names_2 ["_law_j", "_law_cell", "_law_tells"] [none, some 0, some 2] s_law_names_2 ⟨85, 21, 85, 117⟩)) ⟨85, 8, 85, 18⟩ ⟨85, 8, 85, 117⟩) (.cons (.put (.var 7 ⟨86, 8, 86, 18⟩) (.var 4 ⟨86, 19, 86, 26⟩) (.sub (.var 2 ⟨86, 30, 86, 40⟩) (.bin .Mod (.bin .Add (.bin .FloorDiv (.var 0 ⟨86, 42, 86, 51⟩) (.int 64 ⟨86, 55, 86, 57⟩) ⟨86, 42, 86, 57⟩) (.var 6 ⟨86, 60, 86, 66⟩) ⟨86, 42, 86, 66⟩) (.int 21 ⟨86, 70, 86, 72⟩) ⟨86, 41, 86, 72⟩) ⟨86, 30, 86, 73⟩) ⟨86, 8, 86, 27⟩ ⟨86, 8, 86, 73⟩) (.cons (.ex (.m1 .append (.var 5 ⟨87, 8, 87, 23⟩) (.join (.str "" ⟨87, 31, 87, 33⟩) (.var 7 ⟨87, 39, 87, 49⟩) ⟨87, 31, 87, 38⟩ ⟨87, 31, 87, 50⟩) ⟨87, 8, 87, 30⟩ ⟨87, 8, 87, 51⟩) ⟨87, 8, 87, 51⟩) .nil)))
noncomputable def d_law_names : Df := ⟨"_law_names", ["_law_cell", "_law_many"], ["_law_cell", "_law_many", "_law_tells", "_law_size", "_law_at", "_law_names_here", "_law_k", "_law_signs"], (.cons (.set 2 (.str "bcdfghjklmnpqrstvwxyz" ⟨80, 17, 80, 40⟩) ⟨80, 4, 80, 14⟩ ⟨80, 4, 80, 40⟩) (.cons (.set 3 (.bin .Add (.int 1 ⟨81, 16, 81, 17⟩) (.bin .Mod (.var 0 ⟨81, 20, 81, 29⟩) (.int 8 ⟨81, 32, 81, 33⟩) ⟨81, 20, 81, 33⟩) ⟨81, 16, 81, 33⟩) ⟨81, 4, 81, 13⟩ ⟨81, 4, 81, 33⟩) (.cons (.set 4 (.bin .Mod (.bin .FloorDiv (.var 0 ⟨82, 14, 82, 23⟩) (.int 8 ⟨82, 27, 82, 28⟩) ⟨82, 14, 82, 28⟩) (.var 3 ⟨82, 31, 82, 40⟩) ⟨82, 14, 82, 40⟩) ⟨82, 4, 82, 11⟩ ⟨82, 4, 82, 40⟩) (.cons (.set 5 (.ofL (.disp .nil ⟨83, 22, 83, 24⟩)) ⟨83, 4, 83, 19⟩ ⟨83, 4, 83, 24⟩) (.cons (.forr t_law_names_1 (.rng (.var 1 ⟨84, 24, 84, 33⟩) ⟨84, 18, 84, 23⟩ ⟨84, 18, 84, 34⟩) b_law_names_1 ⟨84, 4, 87, 51⟩) (.cons (.ret (.var 5 ⟨88, 11, 88, 26⟩) ⟨88, 4, 88, 26⟩) .nil))))))⟩
noncomputable def d_law_draw : Df := ⟨"_law_draw", ["_law_cell", "_law_k"], ["_law_cell", "_law_k"], (.cons (.ret (.bin .Mod (.bin .Add (.bin .Add (.bin .Mult (.bin .Mult (.bin .Mod (.var 0 ⟨90, 12, 90, 21⟩) (.int 1000003 ⟨90, 24, 90, 31⟩) ⟨90, 12, 90, 31⟩) (.bin .Add (.bin .Mult (.int 2 ⟨90, 35, 90, 36⟩) (.var 1 ⟨90, 39, 90, 45⟩) ⟨90, 35, 90, 45⟩) (.int 1 ⟨90, 48, 90, 49⟩) ⟨90, 35, 90, 49⟩) ⟨90, 12, 90, 50⟩) (.int 48271 ⟨90, 53, 90, 58⟩) ⟨90, 12, 90, 58⟩) (.bin .Mult (.int 7919 ⟨90, 61, 90, 65⟩) (.var 1 ⟨90, 68, 90, 74⟩) ⟨90, 61, 90, 74⟩) ⟨90, 12, 90, 74⟩) (.var 0 ⟨90, 77, 90, 86⟩) ⟨90, 12, 90, 86⟩) (.int 2147483647 ⟨90, 90, 90, 100⟩) ⟨90, 11, 90, 100⟩) ⟨90, 4, 90, 100⟩) .nil)⟩
noncomputable def d_law_expression : Df := ⟨"_law_expression", ["_law_cell", "_law_words", "_law_known"], ["_law_cell", "_law_words", "_law_known", "_law_name", "_law_tree"], (.cons (.set 3 (.sub (.var 2 ⟨92, 16, 92, 26⟩) (.bin .Mod (.call 12 (.var 0 ⟨92, 37, 92, 46⟩) (.cons (.int 1 ⟨92, 48, 92, 49⟩) .nil) ⟨92, 27, 92, 36⟩ ⟨92, 27, 92, 50⟩) (.len (.var 2 ⟨92, 57, 92, 67⟩) ⟨92, 53, 92, 56⟩ ⟨92, 53, 92, 68⟩) ⟨92, 27, 92, 68⟩) ⟨92, 16, 92, 69⟩) ⟨92, 4, 92, 13⟩ ⟨92, 4, 92, 69⟩) (.cons (.set 4 (.tup (.cons (.str "op" ⟨93, 17, 93, 21⟩) (.cons (.sub (.str "+-*<" ⟨93, 23, 93, 29⟩) (.bin .Mod (.call 12 (.var 0 ⟨93, 40, 93, 49⟩) (.cons (.int 2 ⟨93, 51, 93, 52⟩) .nil) ⟨93, 30, 93, 39⟩ ⟨93, 30, 93, 53⟩) (.int 4 ⟨93, 56, 93, 57⟩) ⟨93, 30, 93, 57⟩) ⟨93, 23, 93, 58⟩) (.cons (.tup (.cons (.str "var" ⟨93, 61, 93, 66⟩) (.cons (.var 3 ⟨93, 68, 93, 77⟩) .nil)) ⟨93, 60, 93, 78⟩) (.cons (.tup (.cons (.str "num" ⟨93, 81, 93, 86⟩) (.cons (.bin .Mod (.call 12 (.var 0 ⟨93, 98, 93, 107⟩) (.cons (.int 3 ⟨93, 109, 93, 110⟩) .nil) ⟨93, 88, 93, 97⟩ ⟨93, 88, 93, 111⟩) (.int 1000 ⟨93, 114, 93, 118⟩) ⟨93, 88, 93, 118⟩) .nil)) ⟨93, 80, 93, 119⟩) .nil)))) ⟨93, 16, 93, 120⟩) ⟨93, 4, 93, 13⟩ ⟨93, 4, 93, 120⟩) (.cons (.iff (.cmp .Eq (.bin .Mod (.call 12 (.var 0 ⟨94, 17, 94, 26⟩) (.cons (.int 4 ⟨94, 28, 94, 29⟩) .nil) ⟨94, 7, 94, 16⟩ ⟨94, 7, 94, 30⟩) (.int 3 ⟨94, 33, 94, 34⟩) ⟨94, 7, 94, 34⟩) (.int 0 ⟨94, 38, 94, 39⟩) ⟨94, 7, 94, 39⟩) (.cons (.ret (.tup (.cons (.str "do" ⟨95, 16, 95, 20⟩) (.cons (.sub (.sub (.var 1 ⟨95, 22, 95, 32⟩) (.str "deeds" ⟨95, 33, 95, 40⟩) ⟨95, 22, 95, 41⟩) (.bin .Mod (.call 12 (.var 0 ⟨95, 52, 95, 61⟩) (.cons (.int 5 ⟨95, 63, 95, 64⟩) .nil) ⟨95, 42, 95, 51⟩ ⟨95, 42, 95, 65⟩) (.int 6 ⟨95, 68, 95, 69⟩) ⟨95, 42, 95, 69⟩) ⟨95, 22, 95, 70⟩) (.cons (.var 4 ⟨95, 72, 95, 81⟩) .nil))) ⟨95, 15, 95, 82⟩) ⟨95, 8, 95, 82⟩) .nil) .nil ⟨94, 4, 95, 82⟩) (.cons (.iff (.cmp .Eq (.bin .Mod (.call 12 (.var 0 ⟨96, 17, 96, 26⟩) (.cons (.int 4 ⟨96, 28, 96, 29⟩) .nil) ⟨96, 7, 96, 16⟩ ⟨96, 7, 96, 30⟩) (.int 3 ⟨96, 33, 96, 34⟩) ⟨96, 7, 96, 34⟩) (.int 1 ⟨96, 38, 96, 39⟩) ⟨96, 7, 96, 39⟩) (.cons (.ret (.tup (.cons (.str "call" ⟨97, 16, 97, 22⟩) (.cons (.sub (.sub (.var 1 ⟨97, 24, 97, 34⟩) (.str "items" ⟨97, 35, 97, 42⟩) ⟨97, 24, 97, 43⟩) (.int 2 ⟨97, 44, 97, 45⟩) ⟨97, 24, 97, 46⟩) (.cons (.non ⟨97, 48, 97, 52⟩) (.cons (.tup (.cons (.var 4 ⟨97, 55, 97, 64⟩) .nil) ⟨97, 54, 97, 66⟩) .nil)))) ⟨97, 15, 97, 67⟩) ⟨97, 8, 97, 67⟩) .nil) .nil ⟨96, 4, 97, 67⟩) (.cons (.ret (.var 4 ⟨98, 11, 98, 20⟩) ⟨98, 4, 98, 20⟩) .nil)))))⟩
noncomputable def e_law_go_1 : E := (.var 0 ⟨103, 22, 103, 31⟩)
noncomputable def c_law_go_1 : Es := (.cons (.cmp .NotEq (.var 0 ⟨103, 63, 103, 72⟩) (.var 1 ⟨103, 76, 103, 82⟩) ⟨103, 63, 103, 82⟩) .nil)
noncomputable def t_law_go_1 : Tg := (.one 0 ⟨103, 36, 103, 45⟩)
noncomputable def s_law_go_1 : Scope := { kind := PySem.ScopeKind.function, names := [ (PySem.Str.ofString ".0", PySem.NameKind.local), (PySem.Str.ofString "_law_name", PySem.NameKind.local), (PySem.Str.ofString "_law_s", PySem.NameKind.free)], isGenerator := false, isCoroutine := false, more := [] : PySem.Scope }
noncomputable def d_law_go : Df := ⟨"_law_go", ["_law_cell", "_law_words", "_law_known", "_law_s", "_law_wrong"], ["_law_cell", "_law_words", "_law_known", "_law_s", "_law_wrong", "_law_first", "_law_kept", "_law_other"], (.cons (.set 5 (.call 13 (.var 0 ⟨100, 33, 100, 42⟩) (.cons (.var 1 ⟨100, 44, 100, 54⟩) (.cons (.var 2 ⟨100, 56, 100, 66⟩) .nil)) ⟨100, 17, 100, 32⟩ ⟨100, 17, 100, 67⟩) ⟨100, 4, 100, 14⟩ ⟨100, 4, 100, 67⟩) (.cons (.set 6 (.tup (.cons (.str "var" ⟨101, 17, 101, 22⟩) (.cons (.var 3 ⟨101, 24, 101, 30⟩) .nil)) ⟨101, 16, 101, 31⟩) ⟨101, 4, 101, 13⟩ ⟨101, 4, 101, 31⟩) (.cons (.iff (.cmp .Eq (.var 4 ⟨102, 7, 102, 17⟩) (.int 1 ⟨102, 21, 102, 22⟩) ⟨102, 7, 102, 22⟩) (.cons (.set 7 (.ofL (.comp e_law_go_1 t_law_go_1 (.seq (.var 2 ⟨103, 49, 103, 59⟩)) c_law_go_1 ["_law_name", "_law_s"] [none, some 3] s_law_go_1 ⟨103, 21, 103, 83⟩)) ⟨103, 8, 103, 18⟩ ⟨103, 8, 103, 83⟩) (.cons (.set 6 (.sub (.ofL (.disp (.cons (.tup (.cons (.str "num" ⟨104, 22, 104, 27⟩) (.cons (.bin .Mod (.var 0 ⟨104, 29, 104, 38⟩) (.int 5 ⟨104, 41, 104, 42⟩) ⟨104, 29, 104, 42⟩) .nil)) ⟨104, 21, 104, 43⟩) (.cons (.tup (.cons (.str "op" ⟨104, 46, 104, 50⟩) (.cons (.str "+" ⟨104, 52, 104, 55⟩) (.cons (.var 6 ⟨104, 57, 104, 66⟩) (.cons (.tup (.cons (.str "num" ⟨104, 69, 104, 74⟩) (.cons (.int 0 ⟨104, 76, 104, 77⟩) .nil)) ⟨104, 68, 104, 78⟩) .nil)))) ⟨104, 45, 104, 79⟩) (.cons (.tup (.cons (.str "var" ⟨104, 82, 104, 87⟩) (.cons (.sub (.var 7 ⟨104, 89, 104, 99⟩) (.bin .Mod (.var 0 ⟨104, 100, 104, 109⟩) (.len (.var 7 ⟨104, 116, 104, 126⟩) ⟨104, 112, 104, 115⟩ ⟨104, 112, 104, 127⟩) ⟨104, 100, 104, 127⟩) ⟨104, 89, 104, 128⟩) .nil)) ⟨104, 81, 104, 129⟩) .nil))) ⟨104, 20, 104, 130⟩)) (.bin .Mod (.var 0 ⟨104, 131, 104, 140⟩) (.int 3 ⟨104, 143, 104, 144⟩) ⟨104, 131, 104, 144⟩) ⟨104, 20, 104, 145⟩) ⟨104, 8, 104, 17⟩ ⟨104, 8, 104, 145⟩) .nil)) .nil ⟨102, 4, 104, 145⟩) (.cons (.iff (.cmp .Eq (.var 4 ⟨105, 7, 105, 17⟩) (.int 3 ⟨105, 21, 105, 22⟩) ⟨105, 7, 105, 22⟩) (.cons (.ret (.tup (.cons (.str "op" ⟨106, 16, 106, 20⟩) (.cons (.str "+" ⟨106, 22, 106, 25⟩) (.cons (.tup (.cons (.str "go" ⟨106, 28, 106, 32⟩) (.cons (.var 5 ⟨106, 34, 106, 44⟩) (.cons (.var 6 ⟨106, 46, 106, 55⟩) .nil))) ⟨106, 27, 106, 56⟩) (.cons (.tup (.cons (.str "num" ⟨106, 59, 106, 64⟩) (.cons (.int 0 ⟨106, 66, 106, 67⟩) .nil)) ⟨106, 58, 106, 68⟩) .nil)))) ⟨106, 15, 106, 69⟩) ⟨106, 8, 106, 69⟩) .nil) .nil ⟨105, 4, 106, 69⟩) (.cons (.iff (.cmp .Eq (.var 4 ⟨107, 7, 107, 17⟩) (.int 4 ⟨107, 21, 107, 22⟩) ⟨107, 7, 107, 22⟩) (.cons (.ret (.tup (.cons (.str "guard" ⟨108, 16, 108, 23⟩) (.cons (.tup (.cons (.str "num" ⟨108, 26, 108, 31⟩) (.cons (.bin .Mod (.var 0 ⟨108, 33, 108, 42⟩) (.int 7 ⟨108, 45, 108, 46⟩) ⟨108, 33, 108, 46⟩) .nil)) ⟨108, 25, 108, 47⟩) (.cons (.tup (.cons (.str "go" ⟨108, 50, 108, 54⟩) (.cons (.var 5 ⟨108, 56, 108, 66⟩) (.cons (.var 6 ⟨108, 68, 108, 77⟩) .nil))) ⟨108, 49, 108, 78⟩) .nil))) ⟨108, 15, 108, 79⟩) ⟨108, 8, 108, 79⟩) .nil) .nil ⟨107, 4, 108, 79⟩) (.cons (.iff (.cmp .Eq (.var 4 ⟨109, 7, 109, 17⟩) (.int 5 ⟨109, 21, 109, 22⟩) ⟨109, 7, 109, 22⟩) (.cons (.ret (.sub (.ofL (.disp (.cons (.tup (.cons (.str "go" ⟨110, 17, 110, 21⟩) (.cons (.tup (.cons (.str "go" ⟨110, 24, 110, 28⟩) (.cons (.var 5 ⟨110, 30, 110, 40⟩) (.cons (.var 6 ⟨110, 42, 110, 51⟩) .nil))) ⟨110, 23, 110, 52⟩) (.cons (.var 6 ⟨110, 54, 110, 63⟩) .nil))) ⟨110, 16, 110, 64⟩) (.cons (.tup (.cons (.str "go" ⟨110, 67, 110, 71⟩) (.cons (.var 5 ⟨110, 73, 110, 83⟩) (.cons (.tup (.cons (.str "go" ⟨110, 86, 110, 90⟩) (.cons (.var 6 ⟨110, 92, 110, 101⟩) (.cons (.var 6 ⟨110, 103, 110, 112⟩) .nil))) ⟨110, 85, 110, 113⟩) .nil))) ⟨110, 66, 110, 114⟩) .nil)) ⟨110, 15, 110, 115⟩)) (.bin .Mod (.var 0 ⟨110, 116, 110, 125⟩) (.int 2 ⟨110, 128, 110, 129⟩) ⟨110, 116, 110, 129⟩) ⟨110, 15, 110, 130⟩) ⟨110, 8, 110, 130⟩) .nil) .nil ⟨109, 4, 110, 130⟩) (.cons (.iff (.cmp .Eq (.var 4 ⟨111, 7, 111, 17⟩) (.int 6 ⟨111, 21, 111, 22⟩) ⟨111, 7, 111, 22⟩) (.cons (.ret (.tup (.cons (.str "let" ⟨112, 16, 112, 21⟩) (.cons (.sub (.sub (.var 1 ⟨112, 23, 112, 33⟩) (.str "variables" ⟨112, 34, 112, 45⟩) ⟨112, 23, 112, 46⟩) (.int 2 ⟨112, 47, 112, 48⟩) ⟨112, 23, 112, 49⟩) (.cons (.tup (.cons (.str "go" ⟨112, 52, 112, 56⟩) (.cons (.var 5 ⟨112, 58, 112, 68⟩) (.cons (.var 6 ⟨112, 70, 112, 79⟩) .nil))) ⟨112, 51, 112, 80⟩) (.cons (.tup (.cons (.str "go" ⟨112, 83, 112, 87⟩) (.cons (.var 5 ⟨112, 89, 112, 99⟩) (.cons (.var 6 ⟨112, 101, 112, 110⟩) .nil))) ⟨112, 82, 112, 111⟩) .nil)))) ⟨112, 15, 112, 112⟩) ⟨112, 8, 112, 112⟩) .nil) .nil ⟨111, 4, 112, 112⟩) (.cons (.iff (.cmp .Eq (.var 4 ⟨113, 7, 113, 17⟩) (.int 7 ⟨113, 21, 113, 22⟩) ⟨113, 7, 113, 22⟩) (.cons (.ret (.var 5 ⟨114, 15, 114, 25⟩) ⟨114, 8, 114, 25⟩) .nil) .nil ⟨113, 4, 114, 25⟩) (.cons (.iff (.cmp .Eq (.var 4 ⟨115, 7, 115, 17⟩) (.int 2 ⟨115, 21, 115, 22⟩) ⟨115, 7, 115, 22⟩) (.cons (.ret (.tup (.cons (.str "let" ⟨116, 16, 116, 21⟩) (.cons (.var 3 ⟨116, 23, 116, 29⟩) (.cons (.var 5 ⟨116, 31, 116, 41⟩) (.cons (.tup (.cons (.str "go" ⟨116, 44, 116, 48⟩) (.cons (.var 5 ⟨116, 50, 116, 60⟩) (.cons (.var 6 ⟨116, 62, 116, 71⟩) .nil))) ⟨116, 43, 116, 72⟩) .nil)))) ⟨116, 15, 116, 73⟩) ⟨116, 8, 116, 73⟩) .nil) .nil ⟨115, 4, 116, 73⟩) (.cons (.iff (.cmp .Eq (.var 4 ⟨117, 7, 117, 17⟩) (.int 8 ⟨117, 21, 117, 22⟩) ⟨117, 7, 117, 22⟩) (.cons (.ret (.tup (.cons (.str "let" ⟨118, 16, 118, 21⟩) (.cons (.sub (.sub (.var 1 ⟨118, 23, 118, 33⟩) (.str "variables" ⟨118, 34, 118, 45⟩) ⟨118, 23, 118, 46⟩) (.int 2 ⟨118, 47, 118, 48⟩) ⟨118, 23, 118, 49⟩) (.cons (.tup (.cons (.str "let" ⟨118, 52, 118, 57⟩) (.cons (.var 3 ⟨118, 59, 118, 65⟩) (.cons (.var 5 ⟨118, 67, 118, 77⟩) (.cons (.var 6 ⟨118, 79, 118, 88⟩) .nil)))) ⟨118, 51, 118, 89⟩) (.cons (.tup (.cons (.str "go" ⟨118, 92, 118, 96⟩) (.cons (.tup (.cons (.str "let" ⟨118, 99, 118, 104⟩) (.cons (.var 3 ⟨118, 106, 118, 112⟩) (.cons (.var 6 ⟨118, 114, 118, 123⟩) (.cons (.var 5 ⟨118, 125, 118, 135⟩) .nil)))) ⟨118, 98, 118, 136⟩) (.cons (.var 6 ⟨118, 138, 118, 147⟩) .nil))) ⟨118, 91, 118, 148⟩) .nil)))) ⟨118, 15, 118, 149⟩) ⟨118, 8, 118, 149⟩) .nil) .nil ⟨117, 4, 118, 149⟩) (.cons (.ret (.tup (.cons (.str "go" ⟨119, 12, 119, 16⟩) (.cons (.var 5 ⟨119, 18, 119, 28⟩) (.cons (.var 6 ⟨119, 30, 119, 39⟩) .nil))) ⟨119, 11, 119, 40⟩) ⟨119, 4, 119, 40⟩) .nil)))))))))))⟩
noncomputable def d_law_clause : Df := ⟨"_law_clause", ["_law_cell", "_law_deep", "_law_words", "_law_known", "_law_s", "_law_wrong"], ["_law_cell", "_law_deep", "_law_words", "_law_known", "_law_s", "_law_wrong", "_law_kind", "_law_first", "_law_name", "_law_sound", "_law_spoilt"], (.cons (.set 6 (.bin .Mod (.call 12 (.var 0 ⟨121, 26, 121, 35⟩) (.cons (.bin .Add (.int 6 ⟨121, 37, 121, 38⟩) (.var 1 ⟨121, 41, 121, 50⟩) ⟨121, 37, 121, 50⟩) .nil) ⟨121, 16, 121, 25⟩ ⟨121, 16, 121, 51⟩) (.int 3 ⟨121, 54, 121, 55⟩) ⟨121, 16, 121, 55⟩) ⟨121, 4, 121, 13⟩ ⟨121, 4, 121, 55⟩) (.cons (.iff (.or (.cmp .Eq (.var 1 ⟨122, 7, 122, 16⟩) (.int 0 ⟨122, 20, 122, 21⟩) ⟨122, 7, 122, 21⟩) (.cmp .Eq (.var 6 ⟨122, 25, 122, 34⟩) (.int 0 ⟨122, 38, 122, 39⟩) ⟨122, 25, 122, 39⟩) .nil ⟨122, 7, 122, 39⟩) (.cons (.ret (.call 14 (.var 0 ⟨123, 23, 123, 32⟩) (.cons (.var 2 ⟨123, 34, 123, 44⟩) (.cons (.var 3 ⟨123, 46, 123, 56⟩) (.cons (.var 4 ⟨123, 58, 123, 64⟩) (.cons (.var 5 ⟨123, 66, 123, 76⟩) .nil)))) ⟨123, 15, 123, 22⟩ ⟨123, 15, 123, 77⟩) ⟨123, 8, 123, 77⟩) .nil) .nil ⟨122, 4, 123, 77⟩) (.cons (.set 7 (.call 13 (.bin .Add (.bin .FloorDiv (.var 0 ⟨124, 33, 124, 42⟩) (.int 3 ⟨124, 46, 124, 47⟩) ⟨124, 33, 124, 47⟩) (.var 1 ⟨124, 50, 124, 59⟩) ⟨124, 33, 124, 59⟩) (.cons (.var 2 ⟨124, 61, 124, 71⟩) (.cons (.var 3 ⟨124, 73, 124, 83⟩) .nil)) ⟨124, 17, 124, 32⟩ ⟨124, 17, 124, 84⟩) ⟨124, 4, 124, 14⟩ ⟨124, 4, 124, 84⟩) (.cons (.iff (.and (.cmp .Eq (.var 5 ⟨125, 7, 125, 17⟩) (.int 2 ⟨125, 21, 125, 22⟩) ⟨125, 7, 125, 22⟩) (.cmp .Eq (.bin .Mod (.call 12 (.var 0 ⟨125, 37, 125, 46⟩) (.cons (.bin .Add (.int 12 ⟨125, 48, 125, 50⟩) (.var 1 ⟨125, 53, 125, 62⟩) ⟨125, 48, 125, 62⟩) .nil) ⟨125, 27, 125, 36⟩ ⟨125, 27, 125, 63⟩) (.int 2 ⟨125, 66, 125, 67⟩) ⟨125, 27, 125, 67⟩) (.int 0 ⟨125, 71, 125, 72⟩) ⟨125, 27, 125, 72⟩) .nil ⟨125, 7, 125, 72⟩) (.cons (.ret (.tup (.cons (.str "let" ⟨126, 16, 126, 21⟩) (.cons (.var 4 ⟨126, 23, 126, 29⟩) (.cons (.var 7 ⟨126, 31, 126, 41⟩) (.cons (.call 15 (.var 0 ⟨126, 55, 126, 64⟩) (.cons (.bin .Sub (.var 1 ⟨126, 66, 126, 75⟩) (.int 1 ⟨126, 78, 126, 79⟩) ⟨126, 66, 126, 79⟩) (.cons (.var 2 ⟨126, 81, 126, 91⟩) (.cons (.var 3 ⟨126, 93, 126, 103⟩) (.cons (.var 4 ⟨126, 105, 126, 111⟩) (.cons (.int 0 ⟨126, 113, 126, 114⟩) .nil))))) ⟨126, 43, 126, 54⟩ ⟨126, 43, 126, 115⟩) .nil)))) ⟨126, 15, 126, 116⟩) ⟨126, 8, 126, 116⟩) .nil) .nil ⟨125, 4, 126, 116⟩) (.cons (.iff (.cmp .Eq (.var 6 ⟨127, 7, 127, 16⟩) (.int 1 ⟨127, 20, 127, 21⟩) ⟨127, 7, 127, 21⟩) (.cons (.set 8 (.sub (.sub (.var 2 ⟨128, 20, 128, 30⟩) (.str "variables" ⟨128, 31, 128, 42⟩) ⟨128, 20, 128, 43⟩) (.int 2 ⟨128, 44, 128, 45⟩) ⟨128, 20, 128, 46⟩) ⟨128, 8, 128, 17⟩ ⟨128, 8, 128, 46⟩) (.cons (.iff (.and (.cmp .Eq (.sub (.var 7 ⟨129, 11, 129, 21⟩) (.int 0 ⟨129, 22, 129, 23⟩) ⟨129, 11, 129, 24⟩) (.str "op" ⟨129, 28, 129, 32⟩) ⟨129, 11, 129, 32⟩) (.cmp .NotEq (.var 4 ⟨129, 37, 129, 43⟩) (.sub (.var 3 ⟨129, 47, 129, 57⟩) (.int 0 ⟨129, 58, 129, 59⟩) ⟨129, 47, 129, 60⟩) ⟨129, 37, 129, 60⟩) .nil ⟨129, 11, 129, 60⟩) (.cons (.set 8 (.sub (.var 3 ⟨130, 24, 130, 34⟩) (.int 0 ⟨130, 35, 130, 36⟩) ⟨130, 24, 130, 37⟩) ⟨130, 12, 130, 21⟩ ⟨130, 12, 130, 37⟩) .nil) .nil ⟨129, 8, 130, 37⟩) (.cons (.ret (.tup (.cons (.str "let" ⟨131, 16, 131, 21⟩) (.cons (.var 8 ⟨131, 23, 131, 32⟩) (.cons (.var 7 ⟨131, 34, 131, 44⟩) (.cons (.call 15 (.var 0 ⟨131, 58, 131, 67⟩) (.cons (.bin .Sub (.var 1 ⟨131, 69, 131, 78⟩) (.int 1 ⟨131, 81, 131, 82⟩) ⟨131, 69, 131, 82⟩) (.cons (.var 2 ⟨131, 84, 131, 94⟩) (.cons (.bin .Add (.var 3 ⟨131, 96, 131, 106⟩) (.ofL (.disp (.cons (.var 8 ⟨131, 110, 131, 119⟩) .nil) ⟨131, 109, 131, 120⟩)) ⟨131, 96, 131, 120⟩) (.cons (.var 4 ⟨131, 122, 131, 128⟩) (.cons (.var 5 ⟨131, 130, 131, 140⟩) .nil))))) ⟨131, 46, 131, 57⟩ ⟨131, 46, 131, 141⟩) .nil)))) ⟨131, 15, 131, 142⟩) ⟨131, 8, 131, 142⟩) .nil))) .nil ⟨127, 4, 131, 142⟩) (.cons (.set 9 (.call 15 (.bin .Add (.bin .FloorDiv (.var 0 ⟨132, 29, 132, 38⟩) (.int 5 ⟨132, 42, 132, 43⟩) ⟨132, 29, 132, 43⟩) (.int 1 ⟨132, 46, 132, 47⟩) ⟨132, 29, 132, 47⟩) (.cons (.bin .Sub (.var 1 ⟨132, 49, 132, 58⟩) (.int 1 ⟨132, 61, 132, 62⟩) ⟨132, 49, 132, 62⟩) (.cons (.var 2 ⟨132, 64, 132, 74⟩) (.cons (.var 3 ⟨132, 76, 132, 86⟩) (.cons (.var 4 ⟨132, 88, 132, 94⟩) (.cons (.int 0 ⟨132, 96, 132, 97⟩) .nil))))) ⟨132, 17, 132, 28⟩ ⟨132, 17, 132, 98⟩) ⟨132, 4, 132, 14⟩ ⟨132, 4, 132, 98⟩) (.cons (.set 10 (.call 15 (.bin .FloorDiv (.var 0 ⟨133, 30, 133, 39⟩) (.int 7 ⟨133, 43, 133, 44⟩) ⟨133, 30, 133, 44⟩) (.cons (.bin .Sub (.var 1 ⟨133, 46, 133, 55⟩) (.int 1 ⟨133, 58, 133, 59⟩) ⟨133, 46, 133, 59⟩) (.cons (.var 2 ⟨133, 61, 133, 71⟩) (.cons (.var 3 ⟨133, 73, 133, 83⟩) (.cons (.var 4 ⟨133, 85, 133, 91⟩) (.cons (.var 5 ⟨133, 93, 133, 103⟩) .nil))))) ⟨133, 18, 133, 29⟩ ⟨133, 18, 133, 104⟩) ⟨133, 4, 133, 15⟩ ⟨133, 4, 133, 104⟩) (.cons (.iff (.cmp .Eq (.bin .Mod (.call 12 (.var 0 ⟨134, 17, 134, 26⟩) (.cons (.int 11 ⟨134, 28, 134, 30⟩) .nil) ⟨134, 7, 134, 16⟩ ⟨134, 7, 134, 31⟩) (.int 2 ⟨134, 34, 134, 35⟩) ⟨134, 7, 134, 35⟩) (.int 0 ⟨134, 39, 134, 40⟩) ⟨134, 7, 134, 40⟩) (.cons (.ret (.tup (.cons (.str "if" ⟨135, 16, 135, 20⟩) (.cons (.var 7 ⟨135, 22, 135, 32⟩) (.cons (.var 9 ⟨135, 34, 135, 44⟩) (.cons (.var 10 ⟨135, 46, 135, 57⟩) .nil)))) ⟨135, 15, 135, 58⟩) ⟨135, 8, 135, 58⟩) .nil) .nil ⟨134, 4, 135, 58⟩) (.cons (.ret (.tup (.cons (.str "if" ⟨136, 12, 136, 16⟩) (.cons (.var 7 ⟨136, 18, 136, 28⟩) (.cons (.var 10 ⟨136, 30, 136, 41⟩) (.cons (.var 9 ⟨136, 43, 136, 53⟩) .nil)))) ⟨136, 11, 136, 54⟩) ⟨136, 4, 136, 54⟩) .nil)))))))))⟩
noncomputable def t_law_handler_1 : Tg := (.one 8 ⟨140, 8, 140, 14⟩)
noncomputable def b_law_handler_1 : Ss := (.cons (.set 9 (.sub (.ofL (.disp (.cons (.int 0 ⟨141, 21, 141, 22⟩) (.cons (.var 3 ⟨141, 24, 141, 34⟩) .nil)) ⟨141, 20, 141, 35⟩)) (.c1 .int (.cmp .Eq (.var 8 ⟨141, 40, 141, 46⟩) (.var 4 ⟨141, 50, 141, 57⟩) ⟨141, 40, 141, 57⟩) ⟨141, 36, 141, 39⟩ ⟨141, 36, 141, 58⟩) ⟨141, 20, 141, 59⟩) ⟨141, 8, 141, 17⟩ ⟨141, 8, 141, 59⟩) (.cons (.set 10 (.sub (.ofL (.disp (.cons (.ofL (.disp (.cons (.var 5 ⟨142, 23, 142, 29⟩) (.cons (.var 6 ⟨142, 31, 142, 37⟩) .nil)) ⟨142, 22, 142, 38⟩)) (.cons (.ofL (.disp (.cons (.var 6 ⟨142, 41, 142, 47⟩) (.cons (.var 5 ⟨142, 49, 142, 55⟩) .nil)) ⟨142, 40, 142, 56⟩)) .nil)) ⟨142, 21, 142, 57⟩)) (.bin .Mod (.sub (.var 0 ⟨142, 58, 142, 68⟩) (.var 8 ⟨142, 69, 142, 75⟩) ⟨142, 58, 142, 76⟩) (.int 2 ⟨142, 79, 142, 80⟩) ⟨142, 58, 142, 80⟩) ⟨142, 21, 142, 81⟩) ⟨142, 8, 142, 18⟩ ⟨142, 8, 142, 81⟩) (.cons (.set 11 (.call 15 (.bin .FloorDiv (.sub (.var 0 ⟨143, 32, 143, 42⟩) (.var 8 ⟨143, 43, 143, 49⟩) ⟨143, 32, 143, 50⟩) (.int 2 ⟨143, 54, 143, 55⟩) ⟨143, 32, 143, 55⟩) (.cons (.int 3 ⟨143, 57, 143, 58⟩) (.cons (.var 2 ⟨143, 60, 143, 70⟩) (.cons (.ofL (.disp (.cons (.var 5 ⟨143, 73, 143, 79⟩) (.cons (.var 6 ⟨143, 81, 143, 87⟩) .nil)) ⟨143, 72, 143, 88⟩)) (.cons (.sub (.var 10 ⟨143, 90, 143, 100⟩) (.int 1 ⟨143, 101, 143, 102⟩) ⟨143, 90, 143, 103⟩) (.cons (.var 9 ⟨143, 105, 143, 114⟩) .nil))))) ⟨143, 20, 143, 31⟩ ⟨143, 20, 143, 115⟩) ⟨143, 8, 143, 17⟩ ⟨143, 8, 143, 115⟩) (.cons (.ex (.m1 .append (.var 7 ⟨144, 8, 144, 20⟩) (.tup (.cons (.sub (.sub (.var 2 ⟨144, 29, 144, 39⟩) (.str "deeds" ⟨144, 40, 144, 47⟩) ⟨144, 29, 144, 48⟩) (.var 8 ⟨144, 49, 144, 55⟩) ⟨144, 29, 144, 56⟩) (.cons (.sub (.var 10 ⟨144, 58, 144, 68⟩) (.int 0 ⟨144, 69, 144, 70⟩) ⟨144, 58, 144, 71⟩) (.cons (.sub (.var 10 ⟨144, 73, 144, 83⟩) (.int 1 ⟨144, 84, 144, 85⟩) ⟨144, 73, 144, 86⟩) (.cons (.var 11 ⟨144, 88, 144, 97⟩) .nil)))) ⟨144, 28, 144, 98⟩) ⟨144, 8, 144, 27⟩ ⟨144, 8, 144, 99⟩) ⟨144, 8, 144, 99⟩) .nil))))
noncomputable def d_law_handler : Df := ⟨"_law_handler", ["_law_cells", "_law_name", "_law_words", "_law_wrong", "_law_at"], ["_law_cells", "_law_name", "_law_words", "_law_wrong", "_law_at", "_law_x", "_law_s", "_law_clauses", "_law_k", "_law_here", "_law_known", "_law_body", "_law_end"], (.cons (.setT [(5, ⟨138, 4, 138, 10⟩), (6, ⟨138, 12, 138, 18⟩)] (.cut (.sub (.var 2 ⟨138, 21, 138, 31⟩) (.str "variables" ⟨138, 32, 138, 43⟩) ⟨138, 21, 138, 44⟩) .none (.some (.int 2 ⟨138, 46, 138, 47⟩)) ⟨138, 45, 138, 47⟩ ⟨138, 21, 138, 48⟩) ⟨138, 4, 138, 18⟩ ⟨138, 4, 138, 48⟩) (.cons (.set 7 (.ofL (.disp .nil ⟨139, 19, 139, 21⟩)) ⟨139, 4, 139, 16⟩ ⟨139, 4, 139, 21⟩) (.cons (.forr t_law_handler_1 (.rng (.len (.var 0 ⟨140, 28, 140, 38⟩) ⟨140, 24, 140, 27⟩ ⟨140, 24, 140, 39⟩) ⟨140, 18, 140, 23⟩ ⟨140, 18, 140, 40⟩) b_law_handler_1 ⟨140, 4, 144, 99⟩) (.cons (.set 12 (.tup (.cons (.str "var" ⟨145, 16, 145, 21⟩) (.cons (.var 5 ⟨145, 23, 145, 29⟩) .nil)) ⟨145, 15, 145, 30⟩) ⟨145, 4, 145, 12⟩ ⟨145, 4, 145, 30⟩) (.cons (.iff (.cmp .Eq (.var 3 ⟨146, 7, 146, 17⟩) (.int 9 ⟨146, 21, 146, 22⟩) ⟨146, 7, 146, 22⟩) (.cons (.set 12 (.sub (.ofL (.disp (.cons (.tup (.cons (.str "var" ⟨147, 21, 147, 26⟩) (.cons (.var 6 ⟨147, 28, 147, 34⟩) .nil)) ⟨147, 20, 147, 35⟩) (.cons (.tup (.cons (.str "num" ⟨147, 38, 147, 43⟩) (.cons (.int 3 ⟨147, 45, 147, 46⟩) .nil)) ⟨147, 37, 147, 47⟩) (.cons (.tup (.cons (.str "op" ⟨147, 50, 147, 54⟩) (.cons (.str "+" ⟨147, 56, 147, 59⟩) (.cons (.tup (.cons (.str "var" ⟨147, 62, 147, 67⟩) (.cons (.var 5 ⟨147, 69, 147, 75⟩) .nil)) ⟨147, 61, 147, 76⟩) (.cons (.tup (.cons (.str "num" ⟨147, 79, 147, 84⟩) (.cons (.int 0 ⟨147, 86, 147, 87⟩) .nil)) ⟨147, 78, 147, 88⟩) .nil)))) ⟨147, 49, 147, 89⟩) (.cons (.tup (.cons (.str "let" ⟨147, 92, 147, 97⟩) (.cons (.var 6 ⟨147, 99, 147, 105⟩) (.cons (.tup (.cons (.str "num" ⟨147, 108, 147, 113⟩) (.cons (.int 1 ⟨147, 115, 147, 116⟩) .nil)) ⟨147, 107, 147, 117⟩) (.cons (.tup (.cons (.str "var" ⟨147, 120, 147, 125⟩) (.cons (.var 5 ⟨147, 127, 147, 133⟩) .nil)) ⟨147, 119, 147, 134⟩) .nil)))) ⟨147, 91, 147, 135⟩) .nil)))) ⟨147, 19, 147, 136⟩)) (.bin .Mod (.var 4 ⟨147, 137, 147, 144⟩) (.int 4 ⟨147, 147, 147, 148⟩) ⟨147, 137, 147, 148⟩) ⟨147, 19, 147, 149⟩) ⟨147, 8, 147, 16⟩ ⟨147, 8, 147, 149⟩) .nil) .nil ⟨146, 4, 147, 149⟩) (.cons (.ret (.tup (.cons (.str "handler" ⟨148, 12, 148, 21⟩) (.cons (.var 1 ⟨148, 23, 148, 32⟩) (.cons (.tupE (.var 7 ⟨148, 40, 148, 52⟩) ⟨148, 34, 148, 39⟩ ⟨148, 34, 148, 53⟩) (.cons (.tup (.cons (.var 5 ⟨148, 56, 148, 62⟩) (.cons (.var 6 ⟨148, 64, 148, 70⟩) (.cons (.var 12 ⟨148, 72, 148, 80⟩) .nil))) ⟨148, 55, 148, 81⟩) .nil)))) ⟨148, 11, 148, 82⟩) ⟨148, 4, 148, 82⟩) .nil))))))⟩
noncomputable def t_law_1 : Tg := (.one 14 ⟨168, 8, 168, 14⟩)
noncomputable def b_law_1 : Ss := (.cons (.set 15 (.call 8 (.var 13 ⟨169, 28, 169, 40⟩) (.cons (.sub (.var 2 ⟨169, 42, 169, 52⟩) (.int 0 ⟨169, 53, 169, 54⟩) ⟨169, 42, 169, 55⟩) .nil) ⟨169, 21, 169, 27⟩ ⟨169, 21, 169, 56⟩) ⟨169, 8, 169, 18⟩ ⟨169, 8, 169, 56⟩) (.cons (.set 16 (.call 8 (.var 13 ⟨170, 28, 170, 40⟩) (.cons (.sub (.var 2 ⟨170, 42, 170, 52⟩) (.int 1 ⟨170, 53, 170, 54⟩) ⟨170, 42, 170, 55⟩) .nil) ⟨170, 21, 170, 27⟩ ⟨170, 21, 170, 56⟩) ⟨170, 8, 170, 18⟩ ⟨170, 8, 170, 56⟩) (.cons (.iff (.or (.un .Not (.isi 1 (.var 15 ⟨171, 26, 171, 36⟩) ⟨171, 15, 171, 25⟩ ⟨171, 38, 171, 42⟩ ⟨171, 15, 171, 43⟩) ⟨171, 11, 171, 43⟩) (.un .Not (.isi 1 (.var 16 ⟨171, 62, 171, 72⟩) ⟨171, 51, 171, 61⟩ ⟨171, 74, 171, 78⟩ ⟨171, 51, 171, 79⟩) ⟨171, 47, 171, 79⟩) .nil ⟨171, 11, 171, 79⟩) (.cons (.ret (.bl false ⟨172, 19, 172, 24⟩) ⟨172, 12, 172, 24⟩) .nil) .nil ⟨171, 8, 172, 24⟩) (.cons (.iff (.or (.cmp .NotEq (.var 15 ⟨173, 11, 173, 21⟩) (.cmp .In (.var 6 ⟨173, 26, 173, 36⟩) (.tup (.cons (.int 0 ⟨173, 41, 173, 42⟩) (.cons (.int 8 ⟨173, 44, 173, 45⟩) .nil)) ⟨173, 40, 173, 46⟩) ⟨173, 26, 173, 46⟩) ⟨173, 11, 173, 47⟩) (.cmp .NotEq (.var 16 ⟨173, 51, 173, 61⟩) (.cmp .Eq (.var 10 ⟨173, 66, 173, 76⟩) (.int 0 ⟨173, 80, 173, 81⟩) ⟨173, 66, 173, 81⟩) ⟨173, 51, 173, 82⟩) .nil ⟨173, 11, 173, 82⟩) (.cons (.ret (.bl false ⟨174, 19, 174, 24⟩) ⟨174, 12, 174, 24⟩) .nil) .nil ⟨173, 8, 174, 24⟩) .nil))))
noncomputable def e_law_2 : E := (.call 10 (.var 1 ⟨163, 32, 163, 43⟩) (.cons (.bin .Add (.int 9 ⟨163, 45, 163, 46⟩) (.var 0 ⟨163, 49, 163, 55⟩) ⟨163, 45, 163, 55⟩) .nil) ⟨163, 19, 163, 31⟩ ⟨163, 19, 163, 56⟩)
noncomputable def c_law_2 : Es := .nil
noncomputable def t_law_2 : Tg := (.one 0 ⟨163, 61, 163, 67⟩)
noncomputable def s_law_2 : Scope := { kind := PySem.ScopeKind.function, names := [ (PySem.Str.ofString ".0", PySem.NameKind.local), (PySem.Str.ofString "_law_k", PySem.NameKind.local), (PySem.Str.ofString "_law_cell_at", PySem.NameKind.globalImplicit), (PySem.Str.ofString "_law_script", PySem.NameKind.free)], isGenerator := false, isCoroutine := false, more := [] : PySem.Scope }
noncomputable def e_law_3 : E := (.call 10 (.var 1 ⟨155, 31, 155, 42⟩) (.cons (.bin .Add (.int 4 ⟨155, 44, 155, 45⟩) (.var 0 ⟨155, 48, 155, 54⟩) ⟨155, 44, 155, 54⟩) .nil) ⟨155, 18, 155, 30⟩ ⟨155, 18, 155, 55⟩)
noncomputable def c_law_3 : Es := .nil
noncomputable def t_law_3 : Tg := (.one 0 ⟨155, 60, 155, 66⟩)
noncomputable def s_law_3 : Scope := { kind := PySem.ScopeKind.function, names := [ (PySem.Str.ofString ".0", PySem.NameKind.local), (PySem.Str.ofString "_law_k", PySem.NameKind.local), (PySem.Str.ofString "_law_cell_at", PySem.NameKind.globalImplicit), (PySem.Str.ofString "_law_script", PySem.NameKind.free)], isGenerator := false, isCoroutine := false, more := [] : PySem.Scope }
noncomputable def d_law : Df := ⟨"law", ["_law_script"], ["_law_script", "_law_cell", "_law_items", "_law_words", "_law_many", "_law_cells", "_law_wrong", "_law_at", "_law_first", "_law_others", "_law_amiss", "_law_second", "_law_plain", "_law_program", "_law_k", "_law_found", "_law_other"], (.cons (.set 1 (.call 10 (.var 0 ⟨150, 29, 150, 40⟩) (.cons (.int 0 ⟨150, 42, 150, 43⟩) .nil) ⟨150, 16, 150, 28⟩ ⟨150, 16, 150, 44⟩) ⟨150, 4, 150, 13⟩ ⟨150, 4, 150, 44⟩) (.cons (.set 2 (.call 11 (.call 10 (.var 0 ⟨151, 41, 151, 52⟩) (.cons (.int 1 ⟨151, 54, 151, 55⟩) .nil) ⟨151, 28, 151, 40⟩ ⟨151, 28, 151, 56⟩) (.cons (.int 3 ⟨151, 58, 151, 59⟩) .nil) ⟨151, 17, 151, 27⟩ ⟨151, 17, 151, 60⟩) ⟨151, 4, 151, 14⟩ ⟨151, 4, 151, 60⟩) (.cons (.set 3 (.dispD [("items", ⟨152, 18, 152, 25⟩), ("deeds", ⟨152, 39, 152, 46⟩)] (.cons (.var 2 ⟨152, 27, 152, 37⟩) (.cons (.call 11 (.call 10 (.var 0 ⟨152, 72, 152, 83⟩) (.cons (.int 2 ⟨152, 85, 152, 86⟩) .nil) ⟨152, 59, 152, 71⟩ ⟨152, 59, 152, 87⟩) (.cons (.int 6 ⟨152, 89, 152, 90⟩) .nil) ⟨152, 48, 152, 58⟩ ⟨152, 48, 152, 91⟩) .nil)) ⟨152, 17, 152, 92⟩) ⟨152, 4, 152, 14⟩ ⟨152, 4, 152, 92⟩) (.cons (.put (.var 3 ⟨153, 4, 153, 14⟩) (.str "variables" ⟨153, 15, 153, 26⟩) (.call 11 (.call 10 (.var 0 ⟨153, 54, 153, 65⟩) (.cons (.int 3 ⟨153, 67, 153, 68⟩) .nil) ⟨153, 41, 153, 53⟩ ⟨153, 41, 153, 69⟩) (.cons (.int 3 ⟨153, 71, 153, 72⟩) .nil) ⟨153, 30, 153, 40⟩ ⟨153, 30, 153, 73⟩) ⟨153, 4, 153, 27⟩ ⟨153, 4, 153, 73⟩) (.cons (.set 4 (.bin .Mod (.var 1 ⟨154, 16, 154, 25⟩) (.int 6 ⟨154, 28, 154, 29⟩) ⟨154, 16, 154, 29⟩) ⟨154, 4, 154, 13⟩ ⟨154, 4, 154, 29⟩) (.cons (.set 5 (.ofL (.comp e_law_3 t_law_3 (.rng (.var 4 ⟨155, 76, 155, 85⟩) ⟨155, 70, 155, 75⟩ ⟨155, 70, 155, 86⟩) c_law_3 ["_law_k", "_law_script"] [none, some 0] s_law_3 ⟨155, 17, 155, 87⟩)) ⟨155, 4, 155, 14⟩ ⟨155, 4, 155, 87⟩) (.cons (.set 6 (.sub (.ofL (.disp (.cons (.int 0 ⟨156, 18, 156, 19⟩) (.cons (.int 8 ⟨156, 21, 156, 22⟩) (.cons (.int 1 ⟨156, 24, 156, 25⟩) (.cons (.int 2 ⟨156, 27, 156, 28⟩) (.cons (.int 3 ⟨156, 30, 156, 31⟩) (.cons (.int 4 ⟨156, 33, 156, 34⟩) (.cons (.int 5 ⟨156, 36, 156, 37⟩) (.cons (.int 6 ⟨156, 39, 156, 40⟩) (.cons (.int 7 ⟨156, 42, 156, 43⟩) (.cons (.int 9 ⟨156, 45, 156, 46⟩) (.cons (.int 1 ⟨156, 48, 156, 49⟩) (.cons (.int 2 ⟨156, 51, 156, 52⟩) .nil)))))))))))) ⟨156, 17, 156, 53⟩)) (.bin .Mod (.bin .FloorDiv (.var 1 ⟨156, 54, 156, 63⟩) (.int 6 ⟨156, 67, 156, 68⟩) ⟨156, 54, 156, 68⟩) (.int 12 ⟨156, 71, 156, 73⟩) ⟨156, 54, 156, 73⟩) ⟨156, 17, 156, 74⟩) ⟨156, 4, 156, 14⟩ ⟨156, 4, 156, 74⟩) (.cons (.iff (.and (.cmp .Eq (.var 4 ⟨157, 7, 157, 16⟩) (.int 0 ⟨157, 20, 157, 21⟩) ⟨157, 7, 157, 21⟩) (.cmp .In (.var 6 ⟨157, 26, 157, 36⟩) (.tup (.cons (.int 1 ⟨157, 41, 157, 42⟩) (.cons (.int 2 ⟨157, 44, 157, 45⟩) (.cons (.int 3 ⟨157, 47, 157, 48⟩) (.cons (.int 4 ⟨157, 50, 157, 51⟩) (.cons (.int 5 ⟨157, 53, 157, 54⟩) (.cons (.int 6 ⟨157, 56, 157, 57⟩) (.cons (.int 7 ⟨157, 59, 157, 60⟩) .nil))))))) ⟨157, 40, 157, 61⟩) ⟨157, 26, 157, 61⟩) .nil ⟨157, 7, 157, 61⟩) (.cons (.set 6 (.int 9 ⟨158, 21, 158, 22⟩) ⟨158, 8, 158, 18⟩ ⟨158, 8, 158, 22⟩) .nil) .nil ⟨157, 4, 158, 22⟩) (.cons (.set 7 (.bin .Mod (.bin .FloorDiv (.var 1 ⟨159, 14, 159, 23⟩) (.int 72 ⟨159, 27, 159, 29⟩) ⟨159, 14, 159, 29⟩) (.max2 (.int 1 ⟨159, 36, 159, 37⟩) (.var 4 ⟨159, 39, 159, 48⟩) ⟨159, 32, 159, 35⟩ ⟨159, 32, 159, 49⟩) ⟨159, 14, 159, 49⟩) ⟨159, 4, 159, 11⟩ ⟨159, 4, 159, 49⟩) (.cons (.iff (.cmp .Eq (.var 6 ⟨160, 7, 160, 17⟩) (.int 9 ⟨160, 21, 160, 22⟩) ⟨160, 7, 160, 22⟩) (.cons (.set 7 (.bin .Mod (.bin .FloorDiv (.var 1 ⟨161, 18, 161, 27⟩) (.int 72 ⟨161, 31, 161, 33⟩) ⟨161, 18, 161, 33⟩) (.int 4 ⟨161, 36, 161, 37⟩) ⟨161, 18, 161, 37⟩) ⟨161, 8, 161, 15⟩ ⟨161, 8, 161, 37⟩) .nil) .nil ⟨160, 4, 161, 37⟩) (.cons (.set 8 (.call 16 (.var 5 ⟨162, 30, 162, 40⟩) (.cons (.sub (.var 2 ⟨162, 42, 162, 52⟩) (.int 0 ⟨162, 53, 162, 54⟩) ⟨162, 42, 162, 55⟩) (.cons (.var 3 ⟨162, 57, 162, 67⟩) (.cons (.var 6 ⟨162, 69, 162, 79⟩) (.cons (.var 7 ⟨162, 81, 162, 88⟩) .nil)))) ⟨162, 17, 162, 29⟩ ⟨162, 17, 162, 89⟩) ⟨162, 4, 162, 14⟩ ⟨162, 4, 162, 89⟩) (.cons (.set 9 (.ofL (.comp e_law_2 t_law_2 (.rng (.bin .Mod (.bin .FloorDiv (.var 1 ⟨163, 77, 163, 86⟩) (.int 288 ⟨163, 90, 163, 93⟩) ⟨163, 77, 163, 93⟩) (.int 3 ⟨163, 96, 163, 97⟩) ⟨163, 77, 163, 97⟩) ⟨163, 71, 163, 76⟩ ⟨163, 71, 163, 98⟩) c_law_2 ["_law_k", "_law_script"] [none, some 0] s_law_2 ⟨163, 18, 163, 99⟩)) ⟨163, 4, 163, 15⟩ ⟨163, 4, 163, 99⟩) (.cons (.set 10 (.sub (.ofL (.disp (.cons (.int 0 ⟨164, 18, 164, 19⟩) (.cons (.int 9 ⟨164, 21, 164, 22⟩) .nil)) ⟨164, 17, 164, 23⟩)) (.bin .Mod (.bin .FloorDiv (.var 1 ⟨164, 24, 164, 33⟩) (.int 864 ⟨164, 37, 164, 40⟩) ⟨164, 24, 164, 40⟩) (.int 2 ⟨164, 43, 164, 44⟩) ⟨164, 24, 164, 44⟩) ⟨164, 17, 164, 45⟩) ⟨164, 4, 164, 14⟩ ⟨164, 4, 164, 45⟩) (.cons (.set 11 (.call 16 (.var 9 ⟨165, 31, 165, 42⟩) (.cons (.sub (.var 2 ⟨165, 44, 165, 54⟩) (.int 1 ⟨165, 55, 165, 56⟩) ⟨165, 44, 165, 57⟩) (.cons (.var 3 ⟨165, 59, 165, 69⟩) (.cons (.var 10 ⟨165, 71, 165, 81⟩) (.cons (.bin .Mod (.bin .FloorDiv (.var 1 ⟨165, 83, 165, 92⟩) (.int 72 ⟨165, 96, 165, 98⟩) ⟨165, 83, 165, 98⟩) (.int 4 ⟨165, 101, 165, 102⟩) ⟨165, 83, 165, 102⟩) .nil)))) ⟨165, 18, 165, 30⟩ ⟨165, 18, 165, 103⟩) ⟨165, 4, 165, 15⟩ ⟨165, 4, 165, 103⟩) (.cons (.set 12 (.tup (.cons (.str "def" ⟨166, 18, 166, 23⟩) (.cons (.sub (.var 2 ⟨166, 25, 166, 35⟩) (.int 2 ⟨166, 36, 166, 37⟩) ⟨166, 25, 166, 38⟩) (.cons (.tup (.cons (.sub (.sub (.var 3 ⟨166, 41, 166, 51⟩) (.str "variables" ⟨166, 52, 166, 63⟩) ⟨166, 41, 166, 64⟩) (.int 0 ⟨166, 65, 166, 66⟩) ⟨166, 41, 166, 67⟩) .nil) ⟨166, 40, 166, 69⟩) (.cons (.non ⟨166, 71, 166, 75⟩) (.cons (.tup (.cons (.str "num" ⟨166, 78, 166, 83⟩) (.cons (.int 1 ⟨166, 85, 166, 86⟩) .nil)) ⟨166, 77, 166, 87⟩) .nil))))) ⟨166, 17, 166, 88⟩) ⟨166, 4, 166, 14⟩ ⟨166, 4, 166, 88⟩) (.cons (.set 13 (.sub (.ofL (.disp (.cons (.tup (.cons (.var 8 ⟨167, 21, 167, 31⟩) (.cons (.var 11 ⟨167, 33, 167, 44⟩) (.cons (.var 12 ⟨167, 46, 167, 56⟩) .nil))) ⟨167, 20, 167, 57⟩) (.cons (.tup (.cons (.var 12 ⟨167, 60, 167, 70⟩) (.cons (.var 11 ⟨167, 72, 167, 83⟩) (.cons (.var 8 ⟨167, 85, 167, 95⟩) .nil))) ⟨167, 59, 167, 96⟩) .nil)) ⟨167, 19, 167, 97⟩)) (.bin .Mod (.bin .FloorDiv (.var 1 ⟨167, 98, 167, 107⟩) (.int 1728 ⟨167, 111, 167, 115⟩) ⟨167, 98, 167, 115⟩) (.int 2 ⟨167, 118, 167, 119⟩) ⟨167, 98, 167, 119⟩) ⟨167, 19, 167, 120⟩) ⟨167, 4, 167, 16⟩ ⟨167, 4, 167, 120⟩) (.cons (.forr t_law_1 (.rng (.int 2 ⟨168, 24, 168, 25⟩) ⟨168, 18, 168, 23⟩ ⟨168, 18, 168, 26⟩) b_law_1 ⟨168, 4, 174, 24⟩) (.cons (.ret (.bl true ⟨175, 11, 175, 15⟩) ⟨175, 4, 175, 15⟩) .nil))))))))))))))))))⟩
noncomputable def defs : List Df := [d_parts_of, d_all_within, d_items_by_name, d_kind_of, d_lasts, d_inner, d_ends_at_go, d_has_go, d_steady, d_is_steady, d_law_cell_at, d_law_names, d_law_draw, d_law_expression, d_law_go, d_law_clause, d_law_handler, d_law]
end K81
set_option Elab.async false
set_option linter.all false
set_option maxRecDepth 100000
set_option maxHeartbeats 4000000
namespace K81
open PySem L2 PI
inductive Kd where
  | num (n : Int) | var (x : Str) | op (s : Str) | lett (x : Str) | ite | call (f : Str) (g : Option Str) | doo (d : Str) | handle (h : Str) | go | guard
inductive G where
  | nd (k : Kd) (ps : List G)
noncomputable def Kd.tag : Kd → Str
  | .num _ => "num" | .var _ => "var" | .op _ => "op" | .lett _ => "let" | .ite => "if" | .call _ _ => "call" | .doo _ => "do" | .handle _ => "handle" | .go => "go" | .guard => "guard"
noncomputable def Kd.isGo : Kd → Bool
  | .go => true
  | _ => false
noncomputable def Kd.isIf : Kd → Bool
  | .ite => true
  | _ => false
noncomputable def optD : Option Str → D
  | none => .non
  | some g => .str g
noncomputable def Kd.enc : Kd → List D → D
  | .num n, ps => .tup (.str "num" :: .int n :: ps)
  | .var x, ps => .tup (.str "var" :: .str x :: ps)
  | .op s, ps => .tup (.str "op" :: .str s :: ps)
  | .lett x, ps => .tup (.str "let" :: .str x :: ps)
  | .ite, ps => .tup (.str "if" :: ps)
  | .call f g, ps => .tup [.str "call", .str f, optD g, .tup ps]
  | .doo d, ps => .tup (.str "do" :: .str d :: ps)
  | .handle h, ps => .tup (.str "handle" :: .str h :: ps)
  | .go, ps => .tup (.str "go" :: ps)
  | .guard, ps => .tup (.str "guard" :: ps)
mutual
noncomputable def G.d : G → D
  | .nd k ps => k.enc (G.ds ps)
noncomputable def G.ds : List G → List D
  | [] => []
  | g :: r => g.d :: G.ds r
end
mutual
noncomputable def G.size : G → Nat
  | .nd _ ps => 1 + G.sizes ps
noncomputable def G.sizes : List G → Nat
  | [] => 0
  | g :: r => g.size + G.sizes r
end
mutual
noncomputable def G.hg : G → Bool
  | .nd k ps => k.isGo || G.hgs ps
noncomputable def G.hgs : List G → Bool
  | [] => false
  | g :: r => g.hg || G.hgs r
end
mutual
noncomputable def G.pre : G → List G
  | .nd k ps => .nd k ps :: G.pres ps
noncomputable def G.pres : List G → List G
  | [] => []
  | g :: r => G.pres r ++ g.pre
end
noncomputable def Kd.ok (k : Kd) (n : Nat) : Bool := match k with
  | .num _ | .var _ => n == 0
  | .op _ | .lett _ | .handle _ | .go | .guard => n == 2
  | .ite => n == 3
  | .doo _ => n == 1
  | .call _ _ => true
mutual
noncomputable def G.ok : G → Bool
  | .nd k ps => k.ok ps.length && G.oks ps
noncomputable def G.oks : List G → Bool
  | [] => true
  | g :: r => g.ok && G.oks r
end
noncomputable def fol (i b : Bool) (r : List G) : Bool := b || (if i && r.length == 1 then false else G.hgs r)
mutual
noncomputable def G.lst (f : Bool) : G → List Bool
  | .nd k ps => G.lstP k.isIf (f || k.isGo) ps ++ (if k.isGo then [!f] else [])
noncomputable def G.lstP (i b : Bool) : List G → List Bool
  | [] => []
  | g :: r => g.lst (fol i b r) ++ G.lstP i b r
end
noncomputable def annP (i b : Bool) : List G → List (G × Bool)
  | [] => []
  | g :: r => (g, fol i b r) :: annP i b r
noncomputable def lsts : List (G × Bool) → List Bool
  | [] => []
  | q :: r => q.1.lst q.2 ++ lsts r
theorem ds_map : ∀ gs : List G, G.ds gs = gs.map G.d
  | [] => by rw [G.ds]; rfl
  | g :: r => by rw [G.ds, ds_map r]; rfl
theorem ds_append (a b : List G) : G.ds (a ++ b) = G.ds a ++ G.ds b := by simp [ds_map]
theorem ds_len (a : List G) : (G.ds a).length = a.length := by simp [ds_map]
theorem sizes_append : ∀ (a b : List G), G.sizes (a ++ b) = G.sizes a + G.sizes b
  | [], b => by rw [List.nil_append]; simp [G.sizes]
  | g :: r, b => by rw [List.cons_append, G.sizes, G.sizes, sizes_append r b]; omega
theorem pres_append : ∀ (a b : List G), G.pres (a ++ b) = G.pres b ++ G.pres a
  | [], b => by rw [List.nil_append]; simp [G.pres]
  | g :: r, b => by rw [List.cons_append, G.pres, G.pres, pres_append r b, List.append_assoc]
theorem lsts_append : ∀ (a b : List (G × Bool)), lsts (a ++ b) = lsts a ++ lsts b
  | [], b => by simp [lsts]
  | g :: r, b => by simp [lsts, lsts_append r b]
theorem lsts_ann : ∀ (i b : Bool) (ps : List G), lsts (annP i b ps) = G.lstP i b ps
  | _, _, [] => by simp [lsts, annP, G.lstP]
  | i, b, g :: r => by simp [lsts, annP, G.lstP, lsts_ann i b r]
theorem oks_all : ∀ gs : List G, G.oks gs = gs.all G.ok
  | [] => by rw [G.oks]; rfl
  | g :: r => by rw [G.oks, oks_all r]; rfl
noncomputable def G.isGo : G → Bool
  | .nd k _ => k.isGo
mutual
theorem pre_any : ∀ g : G, g.pre.any G.isGo = g.hg
  | .nd k ps => by rw [G.pre, G.hg, List.any_cons, pres_any ps]; rfl
theorem pres_any : ∀ gs : List G, (G.pres gs).any G.isGo = G.hgs gs
  | [] => by rw [G.pres, G.hgs]; rfl
  | g :: r => by rw [G.pres, G.hgs, List.any_append, pre_any g, pres_any r, Bool.or_comm]
end
mutual
theorem pre_len : ∀ g : G, g.pre.length = g.size
  | .nd k ps => by rw [G.pre, G.size, List.length_cons, pres_len ps]; omega
theorem pres_len : ∀ gs : List G, (G.pres gs).length = G.sizes gs
  | [] => by rw [G.pres, G.sizes]; rfl
  | g :: r => by rw [G.pres, G.sizes, List.length_append, pre_len g, pres_len r]; omega
end
mutual
theorem lst_hg : ∀ (g : G) (f : Bool), (g.lst f).isEmpty = !g.hg
  | .nd k ps, f => by
    rw [G.lst, G.hg]
    have := lstP_hg ps k.isIf (f || k.isGo)
    cases hk : k.isGo <;> simp_all
theorem lstP_hg : ∀ (gs : List G) (i b : Bool), (G.lstP i b gs).isEmpty = !G.hgs gs
  | [], i, b => by rw [G.lstP, G.hgs]; rfl
  | g :: r, i, b => by
    rw [G.lstP, G.hgs]
    have h1 := lst_hg g (fol i b r)
    have h2 := lstP_hg r i b
    cases x : g.lst (fol i b r) with
    | nil => rw [x] at h1; rw [List.nil_append, h2]; cases e : g.hg <;> simp_all
    | cons y z => rw [x] at h1; cases e : g.hg <;> simp_all
end
theorem size_pos (g : G) : 0 < g.size := by cases g; rw [G.size]; omega
mutual
theorem lst_len : ∀ (g : G) (f : Bool), (g.lst f).length ≤ g.size
  | .nd k ps, f => by
    rw [G.lst, G.size]
    have := lstP_len ps k.isIf (f || k.isGo)
    cases hk : k.isGo <;> simp_all <;> omega
theorem lstP_len : ∀ (gs : List G) (i b : Bool), (G.lstP i b gs).length ≤ G.sizes gs
  | [], i, b => by rw [G.lstP, G.sizes]; simp
  | g :: r, i, b => by
    rw [G.lstP, G.sizes]
    have h1 := lst_len g (fol i b r)
    have h2 := lstP_len r i b
    simp; omega
end
theorem so : ∀ x ∈ (["num", "var", "op", "let", "if", "call", "do", "handle", "go", "guard", "never", "jump", "once", "many"] : List Str), PyData.strOk x = true := by decide +kernel
theorem so_call : PyData.strOk "call" = true := so _ (by simp)
theorem so_go : PyData.strOk "go" = true := so _ (by simp)
theorem so_if : PyData.strOk "if" = true := so _ (by simp)
theorem so_let : PyData.strOk "let" = true := so _ (by simp)
theorem tag_ok (k : Kd) : PyData.strOk k.tag = true := by cases k <;> exact so _ (by simp [Kd.tag])
noncomputable def Kd.isCall : Kd → Bool
  | .call _ _ => true
  | _ => false
noncomputable def Kd.isLet : Kd → Bool
  | .lett _ => true
  | _ => false
noncomputable def Kd.isGuard : Kd → Bool
  | .guard => true
  | _ => false
theorem tag_call (k : Kd) : (k.tag == ("call" : Str)) = k.isCall := by cases k <;> rfl
theorem tag_go (k : Kd) : (k.tag == ("go" : Str)) = k.isGo := by cases k <;> rfl
theorem tag_if (k : Kd) : (k.tag == ("if" : Str)) = k.isIf := by cases k <;> rfl
theorem tag_let (k : Kd) : (k.tag == ("let" : Str)) = k.isLet := by cases k <;> rfl
theorem g_lookup (k : Kd) (hk : ∀ f g, k ≠ .call f g) : g_FIRST_PART.lookup k.tag = some (.int (if k.isIf || k.isGo || k.isGuard then 1 else 2)) := by
  cases k <;> first | (exact absurd rfl (hk _ _)) | rfl
theorem enc_0 (k : Kd) (ps : List D) : ∃ r, k.enc ps = .tup (.str k.tag :: r) := by cases k <;> exact ⟨_, rfl⟩
theorem sub_0 (k : Kd) (ps : List D) (h : Hh) : subD (k.enc ps) (.int 0) h = .ok (.str k.tag) h := by
  obtain ⟨r, e⟩ := enc_0 k ps
  rw [e, sub_tup, atI_pos (by decide)]
  rfl
theorem cut_2 (a b : D) (ps : List D) (h : Hh) : cutD (.tup (a :: b :: ps)) (some 2) none h = .ok (.tup ps) h := by
  simp only [cutD, cutXs]
  rw [sIx_some _ _ _ (by decide), sIx_none]
  have e : min (2 : Int).toNat (a :: b :: ps).length = 2 := by simp
  rw [e, if_neg (by simp)]
  simp
theorem cut_1 (a : D) (ps : List D) (h : Hh) : cutD (.tup (a :: ps)) (some 1) none h = .ok (.tup ps) h := by
  simp only [cutD, cutXs]
  rw [sIx_some _ _ _ (by decide), sIx_none]
  have e : min (1 : Int).toNat (a :: ps).length = 1 := by simp
  rw [e, if_neg (by simp)]
  simp
theorem r_parts (cl : Nat → List D → Hh → Res D) (k : Kd) (ps : List G) (h : Hh) : d_parts_of.run cl [(G.nd k ps).d] h = .ok (.tup (G.ds ps)) h := by
  have e0 := sub_0 k (G.ds ps) h
  have e1 := eqS (h := h) (tag_ok k) so_call
  rw [G.d]
  by_cases hk : ∃ f g, k = .call f g
  · obtain ⟨f, g, rfl⟩ := hk
    rw [tag_call] at e1
    unfold d_parts_of
    simp only [Df.run, Ss.run, S.run, E.evT, E.ev, List.map_cons, List.map_nil, List.length_cons, List.length_nil, List.cons_append, List.nil_append, List.getElem?_cons_zero, bind_ok, e0, e1, andS_ok, Kd.isCall, if_true]
    simp only [Kd.enc, sub_tup, atI_pos (show (0 : Int) ≤ 3 by decide)]
    rfl
  · have hk' : ∀ f g, k ≠ .call f g := fun f g z => hk ⟨f, g, z⟩
    have lk := g_lookup k hk'
    have ht : k.isCall = false := by cases k <;> first | exact absurd rfl (hk' _ _) | rfl
    rw [tag_call, ht] at e1
    unfold d_parts_of
    simp only [Df.run, Ss.run, S.run, E.evT, E.ev, List.map_cons, List.map_nil, List.length_cons, List.length_nil, List.cons_append, List.nil_append, List.getElem?_cons_zero, bind_ok, e0, e1, andS_ok, Bool.false_eq_true, if_false, seqS_nx, Eo.ev, cstD, lk, Cv.d, intO]
    cases k <;> first | (exact absurd rfl (hk' _ _)) | (simp [Kd.isIf, Kd.isGo, Kd.isGuard, Kd.enc, cut_1, cut_2, outR])
end K81
set_option Elab.async false
set_option linter.all false
set_option maxRecDepth 100000
set_option maxHeartbeats 4000000
namespace K81
open PySem L2 PI
noncomputable def PartsOk (cl : Nat → List D → Hh → Res D) (i : Nat) : Prop := ∀ k ps h, cl i [(G.nd k ps).d] h = .ok (.tup (G.ds ps)) h
theorem aw_loop (cl : Nat → List D → Hh → Res D) (C : PartsOk cl 0) (t : D) (h : Hh) : ∀ (n : Nat) (W : List G) (F : List D) (one : Option D), G.sizes W ≤ n → F.length + G.sizes W ≤ 1000000 →
    ∃ one', whR (fun ρ h => w_all_within_1.evT cl ρ h) (fun ρ h => b_all_within_1.run cl ρ h) [some t, some (.loc h.length), some (.loc (h.length + 1)), one] (h ++ [.lst F, .lst (G.ds W)]) =
      .nx [some t, some (.loc h.length), some (.loc (h.length + 1)), one'] (h ++ [.lst (F ++ G.ds (G.pres W)), .lst []]) := by
  intro n
  induction n with
  | zero =>
    intro W F one hn hl
    have : W = [] := by
      cases W with
      | nil => rfl
      | cons g r => have := size_pos g; rw [G.sizes] at hn; omega
    subst this
    refine ⟨one, ?_⟩
    rw [whR_done (h1 := h ++ [.lst F, .lst (G.ds [])])]
    · simp [G.pres, G.ds]
    · simp [w_all_within_1, E.evT, E.ev, nilD, rdx, rd, G.ds, hx]
  | succ n ih =>
    intro W F one hn hl
    rcases List.eq_nil_or_concat W with rfl | ⟨W', g, rfl⟩
    · refine ⟨one, ?_⟩
      rw [whR_done (h1 := h ++ [.lst F, .lst (G.ds [])])]
      · simp [G.pres, G.ds]
      · simp [w_all_within_1, E.evT, E.ev, nilD, rdx, rd, G.ds, hx]
    · obtain ⟨k, ps⟩ := g
      rw [List.concat_eq_append] at *
      have es : G.sizes (W' ++ [.nd k ps]) = G.sizes W' + 1 + G.sizes ps := by rw [sizes_append, G.sizes, G.sizes, G.size]; omega
      have es2 : G.sizes (W' ++ ps) = G.sizes W' + G.sizes ps := sizes_append _ _
      obtain ⟨one', e⟩ := ih (W' ++ ps) (F ++ [(G.nd k ps).d]) (some (G.nd k ps).d) (by omega) (by simp; omega)
      refine ⟨one', ?_⟩
      have wl : ∀ W : List G, W.length ≤ G.sizes W := fun W => by
        induction W with
        | nil => simp
        | cons g r ih => have := size_pos g; rw [G.sizes, List.length_cons]; omega
      have l1 := wl W'
      have l2 := wl ps
      rw [whR_turn (h1 := h ++ [.lst F, .lst (G.ds (W' ++ [.nd k ps]))]) (ρ' := [some t, some (.loc h.length), some (.loc (h.length + 1)), some (G.nd k ps).d]) (h' := h ++ [.lst (F ++ [(G.nd k ps).d]), .lst (G.ds (W' ++ ps))]), e]
      · have ee : F ++ [(G.nd k ps).d] ++ G.ds (G.pres (W' ++ ps)) = F ++ G.ds (G.pres (W' ++ [.nd k ps])) := by
          rw [pres_append, pres_append, G.pres, G.pres, G.pre, List.nil_append, List.append_assoc]
          congr 1
        rw [ee]
      · simp [w_all_within_1, E.evT, E.ev, nilD, rdx, rd, G.ds, hx, ds_append]
      · have c := C k ps
        have f1 : F.length < 1000000 := by omega
        have f2 : W'.length + ps.length ≤ 1000000 := by omega
        simp [b_all_within_1, Ss.run, S.run, E.ev, m0D, m1D, onL, hx, hx0, hset, hset0, ds_append, G.ds, c, f1, f2, ds_len, Es.ev]
theorem r_within (cl : Nat → List D → Hh → Res D) (C : PartsOk cl 0) (g : G) (h : Hh) (hs : g.size ≤ 1000000) :
    d_all_within.run cl [g.d] h = .ok (.loc h.length) (h ++ [.lst (G.ds g.pre), .lst []]) := by
  obtain ⟨o, e⟩ := aw_loop cl C g.d h g.size [g] [] none (by rw [G.sizes, G.sizes]; omega) (by rw [G.sizes, G.sizes]; simpa using hs)
  have e1 : G.pres [g] = g.pre := by rw [G.pres, G.pres]; rfl
  rw [e1] at e
  simp [G.ds] at e
  simp [d_all_within, Df.run, Ss.run, S.run, E.ev, L.ev, Es.ev, new, e, outR]
noncomputable def HgOk (cl : Nat → List D → Hh → Res D) (i : Nat) : Prop := ∀ (g : G) h, g.size ≤ 1000000 → ∃ J, cl i [g.d] h = .ok (.bl g.hg) (h ++ J)
theorem r_has_go (cl : Nat → List D → Hh → Res D) (C : ∀ (g : G) h, g.size ≤ 1000000 → cl 1 [g.d] h = .ok (.loc h.length) (h ++ [.lst (G.ds g.pre), .lst []])) (g : G) (h : Hh) (hs : g.size ≤ 1000000) :
    ∃ J, d_has_go.run cl [g.d] h = .ok (.bl g.hg) (h ++ J) := by
  refine ⟨[.lst (G.ds g.pre), .lst [], .lst ((g.pre.map G.isGo).map D.bl)], ?_⟩
  have c := C g h hs
  have l1 : (G.ds g.pre).length ≤ 1000000 := by rw [ds_len, pre_len]; exact hs
  have key := compL_pure (c := [(h.length, G.ds g.pre)]) (f := compF t_has_go_1 (capE [none] [some g.d]) (fun ρ' h2 => c_has_go_1.evC cl ρ' h2) (fun ρ' h2 => e_has_go_1.ev cl ρ' h2)) (h := h ++ [.lst (G.ds g.pre), .lst []])
    (stay_one.mpr (by rw [rdx0]; rfl)) (fun x => match x with | .tup (.str t :: _) => some (.bl (t == "go")) | _ => none) (G.ds g.pre) [] (by
      intro x hx
      rw [ds_map] at hx
      obtain ⟨q, _, rfl⟩ := List.mem_map.mp hx
      obtain ⟨k, ps⟩ := q
      have e0 := fun h => sub_0 k (G.ds ps) h
      have e1 := fun h => eqS (h := h) (tag_ok k) so_go
      obtain ⟨r, er⟩ := enc_0 k (G.ds ps)
      simp only [compF, t_has_go_1, bindT, capE, c_has_go_1, e_has_go_1, Es.evC, E.ev, G.d, List.map_cons, List.map_nil, Option.bind, List.set_cons_zero, List.getElem?_cons_zero, bind_ok, e0, e1, if_true]
      rw [er])
  have e2 : (G.ds g.pre).filterMap (fun x => match x with | .tup (.str t :: _) => some (.bl (t == "go")) | _ => none) = (g.pre.map G.isGo).map D.bl := by
    rw [ds_map, List.filterMap_map, List.map_map, ← List.filterMap_eq_map]
    congr 1
    funext q
    obtain ⟨k, ps⟩ := q
    obtain ⟨r, er⟩ := enc_0 k (G.ds ps)
    simp only [Function.comp, G.d, er, G.isGo]
    cases k <;> rfl
  rw [e2, List.nil_append] at key
  have e3 : (g.pre.map G.isGo).any id = g.hg := by rw [← pre_any, List.any_map]; rfl
  have e4 := rdx0 h [.lst (G.ds g.pre), .lst []]
  have e5 : rd (h ++ [.lst (G.ds g.pre), .lst []] ++ [.lst ((g.pre.map G.isGo).map D.bl)]) (h ++ [O.lst (G.ds g.pre), O.lst []]).length = some ((g.pre.map G.isGo).map D.bl) := by
    rw [rdx0]; rfl
  unfold d_has_go
  simp only [Df.run, Ss.run, S.run, E.ev, Es.ev, L.ev, I.ev, List.map_cons, List.map_nil, List.length_cons, List.length_nil, List.cons_append, List.nil_append, List.getElem?_cons_zero, bind_ok, c, e4]
  rw [show rd [O.lst (G.ds g.pre), .lst []] 0 = some (G.ds g.pre) from rfl]
  simp only [bind_ok, l1, if_true]
  erw [key]
  simp only [bind_ok, new, c1D, e5, Option.bind, bls_map, e3]
  simp [outR]
end K81
set_option Elab.async false
set_option linter.all false
set_option maxRecDepth 100000
set_option maxHeartbeats 4000000
namespace K81
open PySem L2 PI
noncomputable def encP (q : G × Bool) : D := .tup [q.1.d, .bl q.2]
theorem fol_f (b : Bool) (r : List G) : fol false b r = (b || G.hgs r) := by simp [fol]
theorem inner_loop (cl : Nat → List D → Hh → Res D) (C : HgOk cl 7) (t f : D) (b : Bool) (h : Hh) : ∀ (rs seen : List G) (J : Hh) (part : Option D), G.sizes rs + seen.length ≤ 1000000 →
    ∃ part' J', forL [] (stepF t_inner_1 fun ρ' h' => b_inner_1.run cl ρ' h') (G.ds rs) [some t, some f, some (.bl (b || G.hgs seen)), some (.loc h.length), part] (h ++ .lst ((annP false b seen).map encP).reverse :: J) =
      .nx [some t, some f, some (.bl (b || G.hgs (rs.reverse ++ seen))), some (.loc h.length), part'] (h ++ .lst ((annP false b (rs.reverse ++ seen)).map encP).reverse :: J')
  | [], seen, J, part, _ => ⟨part, J, by simp [forL, G.ds, stay_nil]⟩
  | g :: rs, seen, J, part, hs => by
    have hs' : g.size + G.sizes rs + seen.length ≤ 1000000 := by rw [G.sizes] at hs; exact hs
    have hp := size_pos g
    have al : ∀ (i b : Bool) (ps : List G), (annP i b ps).length = ps.length := fun i b ps => by
      induction ps with
      | nil => rfl
      | cons g r ih => simp [annP, ih]
    have e1 : (annP false b (g :: seen)) = (g, b || G.hgs seen) :: annP false b seen := by rw [annP, fol_f]
    have e2 : (b || G.hgs (g :: seen)) = ((b || G.hgs seen) || g.hg) := by rw [G.hgs]; cases b <;> cases g.hg <;> simp
    have l1 : seen.length < 1000000 := by omega
    have key : ∃ J1, stepF t_inner_1 (fun ρ' h' => b_inner_1.run cl ρ' h') g.d [some t, some f, some (.bl (b || G.hgs seen)), some (.loc h.length), part] (h ++ .lst ((annP false b seen).map encP).reverse :: J) =
        .nx [some t, some f, some (.bl (b || G.hgs (g :: seen))), some (.loc h.length), some g.d] (h ++ .lst ((annP false b (g :: seen)).map encP).reverse :: J1) := by
      rw [e1, e2]
      cases hb : (b || G.hgs seen) with
      | true =>
        refine ⟨J, ?_⟩
        simp [stepF, t_inner_1, bindT, b_inner_1, Ss.run, S.run, E.ev, Es.ev, onL, m1D, hx0, hset0, al, l1, encP]
      | false =>
        obtain ⟨J1, c⟩ := C g (h ++ .lst (((annP false b seen).map encP).reverse ++ [.tup [g.d, .bl false]]) :: J) (by omega)
        refine ⟨J ++ J1, ?_⟩
        simp only [List.append_assoc, List.cons_append] at c
        simp [stepF, t_inner_1, bindT, b_inner_1, Ss.run, S.run, E.ev, Es.ev, onL, m1D, hx0, hset0, al, l1, encP, c, Es.evOr]
    obtain ⟨J1, k1⟩ := key
    obtain ⟨part', J', ih⟩ := inner_loop cl C t f b h rs (g :: seen) J1 (some g.d) (by simp; omega)
    refine ⟨part', J', ?_⟩
    rw [G.ds, forL, if_pos stay_nil, k1]
    simp only []
    rw [ih]
    simp
noncomputable def InnerOk (cl : Nat → List D → Hh → Res D) (i : Nat) : Prop := ∀ (k : Kd) (ps : List G) (f : Bool) h, k.ok ps.length = true → (G.nd k ps).size ≤ 1000000 →
  ∃ J n, cl i [(G.nd k ps).d, .bl f] h = .ok (.loc n) (h ++ J) ∧ (h ++ J)[n]? = some (.lst ((annP k.isIf (f || k.isGo) ps).map encP))
theorem sizes_rev (ps : List G) : G.sizes ps.reverse = G.sizes ps := by
  induction ps with
  | nil => rfl
  | cons g r ih => rw [List.reverse_cons, sizes_append, ih, G.sizes, G.sizes, G.sizes]; omega
theorem ds_rev (ps : List G) : (G.ds ps).reverse = G.ds ps.reverse := by simp [ds_map]
theorem r_inner (cl : Nat → List D → Hh → Res D) (C0 : PartsOk cl 0) (C : HgOk cl 7) (k : Kd) (ps : List G) (f : Bool) (h : Hh) (hk : k.ok ps.length = true) (hs : (G.nd k ps).size ≤ 1000000) :
    ∃ J n, d_inner.run cl [(G.nd k ps).d, .bl f] h = .ok (.loc n) (h ++ J) ∧ (h ++ J)[n]? = some (.lst ((annP k.isIf (f || k.isGo) ps).map encP)) := by
  rw [G.size] at hs
  obtain ⟨part', J', lp⟩ := inner_loop cl C (G.nd k ps).d (.bl f) (f || k.isGo) h ps.reverse [] [] none (by rw [sizes_rev]; simp; omega)
  rw [List.reverse_reverse, List.append_nil] at lp
  simp only [annP, List.map_nil, List.reverse_nil, G.hgs, Bool.or_false] at lp
  have e0 := fun h => sub_0 k (G.ds ps) h
  have e1 := fun h => eqS (h := h) (tag_ok k) so_go
  have e2 := fun h => eqS (h := h) (tag_ok k) so_if
  rw [tag_go] at e1
  rw [tag_if] at e2
  have c0 := C0 k ps
  rw [← G.d] at e0
  have a1 : (f || k.isGo) = (if f then true else k.isGo) := by cases f <;> rfl
  cases hi : k.isIf with
  | false =>
    refine ⟨.lst ((annP false (f || k.isGo) ps).map encP).reverse :: J' ++ [.lst ((annP false (f || k.isGo) ps).map encP)], h.length + (J'.length + 1), ?_, ?_⟩
    · rw [hi] at e2
      cases f with
      | true =>
        simp only [Bool.true_or] at lp ⊢
        simp [-cmp_eq, d_inner, Df.run, Ss.run, S.run, E.ev, Es.ev, E.evT, L.ev, I.ev, new, e0, e1, e2, c0, revD, ds_rev, lp, lrD, rdx0, rd, outR]
      | false =>
        simp only [Bool.false_or] at lp ⊢
        simp [-cmp_eq, d_inner, Df.run, Ss.run, S.run, E.ev, Es.ev, E.evT, L.ev, I.ev, new, e0, e1, e2, c0, revD, ds_rev, lp, lrD, rdx0, rd, outR, Es.evOr]
    · rw [hx]
      simp
  | true =>
    have hk' : k = .ite := by cases k <;> first | rfl | cases hi
    subst hk'
    have h3 : ps.length = 3 := by simpa [Kd.ok] using hk
    obtain ⟨c, a, b, rfl⟩ : ∃ c a b, ps = [c, a, b] := by
      match ps, h3 with
      | [c, a, b], _ => exact ⟨c, a, b, rfl⟩
    have s2 : ∀ h, subD (G.nd .ite [c, a, b]).d (.int 2) h = .ok a.d h := fun h => by
      rw [G.d]; simp only [Kd.enc, G.ds, sub_tup]; rfl
    refine ⟨.lst [encP (b, f), encP (a, f), encP (c, f || (a.hg || b.hg))] :: J' ++ [.lst [encP (c, f || (a.hg || b.hg)), encP (a, f), encP (b, f)]], h.length + (J'.length + 1), ?_, ?_⟩
    · simp only [Kd.isGo, Bool.or_false] at lp e1
      simp only [annP, fol_f, G.hgs, Bool.or_false, List.map_cons, List.map_nil, List.reverse_cons, List.reverse_nil, List.nil_append, List.cons_append] at lp
      rw [hi] at e2
      have ix : ∀ x y z : D, ixN [x, y, z].length 1 = some 1 := fun x y z => rfl
      cases f with
      | true =>
        simp [-cmp_eq, d_inner, Df.run, Ss.run, S.run, E.ev, Es.ev, E.evT, L.ev, I.ev, new, e0, e1, e2, s2, c0, revD, ds_rev, lp, lrD, rdx0, rd, outR, putS, hx0, hset0, ixN, encP]
      | false =>
        simp [-cmp_eq, d_inner, Df.run, Ss.run, S.run, E.ev, Es.ev, E.evT, L.ev, I.ev, new, e0, e1, e2, s2, c0, revD, ds_rev, lp, lrD, rdx0, rd, outR, putS, hx0, hset0, ixN, encP, Es.evOr]
    · rw [hx]
      simp [annP, fol, G.hgs, Kd.isGo]
end K81
set_option Elab.async false
set_option linter.all false
set_option maxRecDepth 100000
set_option maxHeartbeats 4000000
namespace K81
open PySem L2 PI
noncomputable def wsz (W : List (G × Bool)) : Nat := G.sizes (W.map (·.1))
noncomputable def okW (W : List (G × Bool)) : Bool := G.oks (W.map (·.1))
theorem ann_fst (i b : Bool) : ∀ ps : List G, (annP i b ps).map (·.1) = ps
  | [] => rfl
  | g :: r => by rw [annP, List.map_cons, ann_fst i b r]
theorem ann_len (i b : Bool) (ps : List G) : (annP i b ps).length = ps.length := by
  have := congrArg List.length (ann_fst i b ps)
  simpa using this
theorem wl : ∀ W : List G, W.length ≤ G.sizes W
  | [] => by simp
  | g :: r => by have := size_pos g; have := wl r; rw [G.sizes, List.length_cons]; omega
theorem sub_enc0 (q : G × Bool) (h : Hh) : subD (encP q) (.int 0) h = .ok q.1.d h := by unfold encP; rw [sub_tup]; rfl
theorem sub_enc1 (q : G × Bool) (h : Hh) : subD (encP q) (.int 1) h = .ok (.bl q.2) h := by unfold encP; rw [sub_tup]; rfl
theorem lasts_loop (cl : Nat → List D → Hh → Res D) (C : InnerOk cl 5) (t : D) (h : Hh) : ∀ (n : Nat) (W : List (G × Bool)) (F : List Bool) (J : Hh) (one : Option D), wsz W ≤ n → okW W = true → F.length + wsz W ≤ 1000000 →
    ∃ one' J', whR (fun ρ h => w_lasts_1.evT cl ρ h) (fun ρ h => b_lasts_1.run cl ρ h) [some t, some (.loc h.length), some (.loc (h.length + 1)), one] (h ++ .lst (F.map D.bl) :: .lst (W.map encP) :: J) =
      .nx [some t, some (.loc h.length), some (.loc (h.length + 1)), one'] (h ++ .lst ((F ++ (lsts W).reverse).map D.bl) :: J') := by
  intro n
  induction n with
  | zero =>
    intro W F J one hn ho hl
    have : W = [] := by
      cases W with
      | nil => rfl
      | cons g r => have := size_pos g.1; rw [wsz, List.map_cons, G.sizes] at hn; omega
    subst this
    refine ⟨one, .lst [] :: J, ?_⟩
    rw [whR_done (h1 := h ++ .lst (F.map D.bl) :: .lst [] :: J)]
    · simp [lsts]
    · simp [w_lasts_1, E.evT, E.ev, nilD, rdx, rd, hx]
  | succ n ih =>
    intro W F J one hn ho hl
    rcases List.eq_nil_or_concat W with rfl | ⟨W', q, rfl⟩
    · refine ⟨one, .lst [] :: J, ?_⟩
      rw [whR_done (h1 := h ++ .lst (F.map D.bl) :: .lst [] :: J)]
      · simp [lsts]
      · simp [w_lasts_1, E.evT, E.ev, nilD, rdx, rd, hx]
    · rw [List.concat_eq_append] at *
      obtain ⟨⟨k, ps⟩, f⟩ := q
      have es : wsz (W' ++ [(.nd k ps, f)]) = wsz W' + 1 + G.sizes ps := by
        unfold wsz; rw [List.map_append, sizes_append, List.map_cons, List.map_nil, G.sizes, G.sizes, G.size]; omega
      have ho' : okW W' = true ∧ (k.ok ps.length = true ∧ G.oks ps = true) := by
        unfold okW at ho ⊢
        rw [List.map_append, oks_all, List.all_append, ← oks_all, ← oks_all, List.map_cons, List.map_nil, G.oks, G.oks, G.ok] at ho
        simpa using ho
      have es2 : wsz (W' ++ annP k.isIf (f || k.isGo) ps) = wsz W' + G.sizes ps := by
        unfold wsz; rw [List.map_append, sizes_append, ann_fst]
      have ok2 : okW (W' ++ annP k.isIf (f || k.isGo) ps) = true := by
        unfold okW at ho' ⊢
        rw [List.map_append, oks_all, List.all_append, ← oks_all, ← oks_all, ann_fst, ho'.1, ho'.2.2]; rfl
      have l1 : W'.length ≤ wsz W' := by have := wl (W'.map (·.1)); simpa [wsz] using this
      have l2 := wl ps
      have f1 : F.length < 1000000 := by omega
      have f2 : W'.length + ps.length ≤ 1000000 := by omega
      have e0 := fun h => sub_0 k (G.ds ps) h
      have e1 := fun h => eqS (h := h) (tag_ok k) so_go
      rw [tag_go] at e1
      rw [← G.d] at e0
      have s0 := fun h => sub_enc0 (.nd k ps, f) h
      have s1 := fun h => sub_enc1 (.nd k ps, f) h
      have F' : ∃ F2 : List Bool, F2 = F ++ (if k.isGo then [!f] else []) := ⟨_, rfl⟩
      obtain ⟨F2, hF2⟩ := F'
      obtain ⟨J1, m, ci, cm⟩ := C k ps f (h ++ .lst (F2.map D.bl) :: .lst (W'.map encP) :: J) ho'.2.1 (by rw [G.size]; omega)
      simp only [List.append_assoc, List.cons_append] at ci cm
      obtain ⟨one', J', e⟩ := ih (W' ++ annP k.isIf (f || k.isGo) ps) F2 (J ++ J1) (some (encP (.nd k ps, f))) (by omega) ok2 (by
        rw [hF2, es2, List.length_append]
        cases hg : k.isGo <;> simp <;> omega)
      refine ⟨one', J', ?_⟩
      rw [whR_turn (h1 := h ++ .lst (F.map D.bl) :: .lst ((W' ++ [(G.nd k ps, f)]).map encP) :: J) (ρ' := [some t, some (.loc h.length), some (.loc (h.length + 1)), some (encP (.nd k ps, f))]) (h' := h ++ .lst (F2.map D.bl) :: .lst ((W' ++ annP k.isIf (f || k.isGo) ps).map encP) :: (J ++ J1)), e]
      · have ee : F2 ++ (lsts (W' ++ annP k.isIf (f || k.isGo) ps)).reverse = F ++ (lsts (W' ++ [(.nd k ps, f)])).reverse := by
          rw [hF2, lsts_append, lsts_append, lsts_ann, lsts, lsts, G.lst]
          cases hg : k.isGo <;> simp
        rw [ee]
      · simp [w_lasts_1, E.evT, E.ev, nilD, rdx, rd, hx]
      · cases hg : k.isGo with
        | true =>
          rw [hg] at hF2 e1 cm
          simp only [if_true] at hF2
          subst hF2
          simp only [List.map_append, List.map_cons, List.map_nil] at ci cm ⊢
          simp [-cmp_eq, b_lasts_1, Ss.run, S.run, E.ev, E.evT, Es.ev, m0D, m1D, onL, hx, hx0, hset, hset0, s0, s1, e0, e1, f1, f2, ci, cm, ann_len]
        | false =>
          rw [hg] at hF2 e1 cm
          simp only [Bool.false_eq_true, if_false, List.append_nil] at hF2
          subst hF2
          simp only [List.map_append, List.map_cons, List.map_nil] at ci cm ⊢
          simp [-cmp_eq, b_lasts_1, Ss.run, S.run, E.ev, E.evT, Es.ev, m0D, m1D, onL, hx, hx0, hset, hset0, s0, s1, e0, e1, f1, f2, ci, cm, ann_len]
noncomputable def LastsOk (cl : Nat → List D → Hh → Res D) (i : Nat) : Prop := ∀ (g : G) h, g.ok = true → g.size ≤ 1000000 → ∃ J n, cl i [g.d] h = .ok (.loc (h.length + n)) (h ++ J) ∧ J[n]? = some (.lst ((g.lst false).map D.bl)) ∧ (∃ n', n = n' + 1)
theorem r_lasts (cl : Nat → List D → Hh → Res D) (C : InnerOk cl 5) (g : G) (h : Hh) (ho : g.ok = true) (hs : g.size ≤ 1000000) :
    ∃ J n, d_lasts.run cl [g.d] h = .ok (.loc (h.length + n)) (h ++ J) ∧ J[n]? = some (.lst ((g.lst false).map D.bl)) ∧ (∃ n', n = n' + 1) := by
  obtain ⟨o, J', e⟩ := lasts_loop cl C g.d h g.size [(g, false)] [] [] none (by simp [wsz, G.sizes]) (by simp [okW, G.oks, ho]) (by simp [wsz, G.sizes]; exact hs)
  refine ⟨.lst (((g.lst false).reverse).map D.bl) :: J' ++ [.lst ((g.lst false).map D.bl)], J'.length + 1, ?_, by simp, ⟨_, rfl⟩⟩
  simp [lsts, encP] at e
  simp [d_lasts, Df.run, Ss.run, S.run, E.ev, L.ev, Es.ev, new, e, outR, lrD, rdx0, rd]
end K81
set_option Elab.async false
set_option linter.all false
set_option maxRecDepth 100000
set_option maxHeartbeats 4000000
namespace K81
open PySem L2 PI
noncomputable def G.ends : G → Bool
  | .nd (.lett _) [a, b] => !a.hg && b.ends
  | .nd .ite [c, a, b] => !c.hg && (a.ends && b.ends)
  | .nd .go [a, s] => !(a.hg || s.hg)
  | _ => false
theorem ends_let (x : Str) (a b : G) : (G.nd (.lett x) [a, b]).ends = (!a.hg && b.ends) := by rw [G.ends]
theorem ends_ite (c a b : G) : (G.nd .ite [c, a, b]).ends = (!c.hg && (a.ends && b.ends)) := by rw [G.ends]
theorem ends_go (a s : G) : (G.nd .go [a, s]).ends = !(a.hg || s.hg) := by rw [G.ends]
theorem ends_no (k : Kd) (ps : List G) (h1 : k.isLet = false) (h2 : k.isIf = false) (h3 : k.isGo = false) : (G.nd k ps).ends = false := by
  cases k <;> simp_all [Kd.isLet, Kd.isIf, Kd.isGo, G.ends]
theorem ends_loop (cl : Nat → List D → Hh → Res D) (C : HgOk cl 7) (t : D) (h : Hh) : ∀ (n : Nat) (W : List G) (J : Hh) (one : Option D), G.sizes W ≤ n → G.oks W = true → G.sizes W ≤ 1000000 →
    (W.all G.ends = true → ∃ one' J', whR (fun ρ h => w_ends_at_go_1.evT cl ρ h) (fun ρ h => b_ends_at_go_1.run cl ρ h) [some t, some (.loc h.length), one] (h ++ .lst (G.ds W) :: J) = .nx [some t, some (.loc h.length), one'] (h ++ J')) ∧
    (W.all G.ends = false → ∃ J', whR (fun ρ h => w_ends_at_go_1.evT cl ρ h) (fun ρ h => b_ends_at_go_1.run cl ρ h) [some t, some (.loc h.length), one] (h ++ .lst (G.ds W) :: J) = .rt (.bl false) (h ++ J')) := by
  intro n
  induction n with
  | zero =>
    intro W J one hn ho hl
    have : W = [] := by
      cases W with
      | nil => rfl
      | cons g r => have := size_pos g; rw [G.sizes] at hn; omega
    subst this
    refine ⟨fun _ => ⟨one, .lst [] :: J, ?_⟩, fun z => by cases z⟩
    rw [whR_done (h1 := h ++ .lst [] :: J)]
    simp [w_ends_at_go_1, E.evT, E.ev, nilD, rdx0, rd, hx0, G.ds]
  | succ n ih =>
    intro W J one hn ho hl
    rcases List.eq_nil_or_concat W with rfl | ⟨W', q, rfl⟩
    · refine ⟨fun _ => ⟨one, .lst [] :: J, ?_⟩, fun z => by cases z⟩
      rw [whR_done (h1 := h ++ .lst [] :: J)]
      simp [w_ends_at_go_1, E.evT, E.ev, nilD, rdx0, rd, hx0, G.ds]
    · rw [List.concat_eq_append] at *
      obtain ⟨k, ps⟩ := q
      have ec : w_ends_at_go_1.evT cl [some t, some (.loc h.length), one] (h ++ .lst (G.ds (W' ++ [.nd k ps])) :: J) = .ok true (h ++ .lst (G.ds (W' ++ [.nd k ps])) :: J) := by
        simp [w_ends_at_go_1, E.evT, E.ev, nilD, rdx0, rd, hx0, G.ds, ds_append]
      have es : G.sizes (W' ++ [.nd k ps]) = G.sizes W' + 1 + G.sizes ps := by rw [sizes_append, G.sizes, G.sizes, G.size]; omega
      have ho' : G.oks W' = true ∧ (k.ok ps.length = true ∧ G.oks ps = true) := by
        rw [oks_all, List.all_append, ← oks_all, ← oks_all, G.oks, G.oks, G.ok] at ho
        simpa using ho
      have l1 := wl W'
      have l2 := wl ps
      have f1 : W'.length < 1000000 := by omega
      have e0 := fun h => sub_0 k (G.ds ps) h
      rw [← G.d] at e0
      have e1 := fun h => eqS (h := h) (tag_ok k) so_let
      have e2 := fun h => eqS (h := h) (tag_ok k) so_if
      have e3 := fun h => neS (h := h) (tag_ok k) so_go
      rw [tag_let] at e1
      rw [tag_if] at e2
      rw [tag_go] at e3
      have ea : (W' ++ [G.nd k ps]).all G.ends = (W'.all G.ends && (G.nd k ps).ends) := by simp
      rw [ea]
      have goOn : ∀ (Ws : List G) (J2 : Hh), G.sizes Ws ≤ G.sizes W' + G.sizes ps → G.oks Ws = true → (W'.all G.ends && (G.nd k ps).ends) = Ws.all G.ends →
          b_ends_at_go_1.run cl [some t, some (.loc h.length), one] (h ++ .lst (G.ds (W' ++ [.nd k ps])) :: J) = .nx [some t, some (.loc h.length), some (G.nd k ps).d] (h ++ .lst (G.ds Ws) :: J2) →
          ((W'.all G.ends && (G.nd k ps).ends) = true → ∃ one' J', whR (fun ρ h => w_ends_at_go_1.evT cl ρ h) (fun ρ h => b_ends_at_go_1.run cl ρ h) [some t, some (.loc h.length), one] (h ++ .lst (G.ds (W' ++ [.nd k ps])) :: J) = .nx [some t, some (.loc h.length), one'] (h ++ J')) ∧
          ((W'.all G.ends && (G.nd k ps).ends) = false → ∃ J', whR (fun ρ h => w_ends_at_go_1.evT cl ρ h) (fun ρ h => b_ends_at_go_1.run cl ρ h) [some t, some (.loc h.length), one] (h ++ .lst (G.ds (W' ++ [.nd k ps])) :: J) = .rt (.bl false) (h ++ J')) := by
        intro Ws J2 h1 h2 h3 h4
        rw [h3, whR_turn ec h4]
        exact ih Ws J2 (some (G.nd k ps).d) (by omega) h2 (by omega)
      have stop : (G.nd k ps).ends = false → (∃ J', b_ends_at_go_1.run cl [some t, some (.loc h.length), one] (h ++ .lst (G.ds (W' ++ [.nd k ps])) :: J) = .rt (.bl false) (h ++ J')) →
          ((W'.all G.ends && (G.nd k ps).ends) = true → ∃ one' J', whR (fun ρ h => w_ends_at_go_1.evT cl ρ h) (fun ρ h => b_ends_at_go_1.run cl ρ h) [some t, some (.loc h.length), one] (h ++ .lst (G.ds (W' ++ [.nd k ps])) :: J) = .nx [some t, some (.loc h.length), one'] (h ++ J')) ∧
          ((W'.all G.ends && (G.nd k ps).ends) = false → ∃ J', whR (fun ρ h => w_ends_at_go_1.evT cl ρ h) (fun ρ h => b_ends_at_go_1.run cl ρ h) [some t, some (.loc h.length), one] (h ++ .lst (G.ds (W' ++ [.nd k ps])) :: J) = .rt (.bl false) (h ++ J')) := by
        rintro z ⟨J', h4⟩
        rw [z, Bool.and_false]
        exact ⟨fun z => by (cases z), fun _ => ⟨J', whR_ret ec h4⟩⟩
      cases hl1 : k.isLet with
      | true =>
        obtain ⟨x, rfl⟩ : ∃ x, k = .lett x := by cases k <;> first | exact ⟨_, rfl⟩ | cases hl1
        obtain ⟨a, b, rfl⟩ : ∃ a b, ps = [a, b] := by
          have h3 : ps.length = 2 := by simpa [Kd.ok] using ho'.2.1
          match ps, h3 with
          | [a, b], _ => exact ⟨a, b, rfl⟩
        have s2 : ∀ h, subD (G.nd (.lett x) [a, b]).d (.int 2) h = .ok a.d h := fun h => by rw [G.d]; simp only [Kd.enc, G.ds, sub_tup]; rfl
        have s3 : ∀ h, subD (G.nd (.lett x) [a, b]).d (.int 3) h = .ok b.d h := fun h => by rw [G.d]; simp only [Kd.enc, G.ds, sub_tup]; rfl
        simp only [G.sizes] at es
        obtain ⟨J1, c⟩ := C a (h ++ .lst (G.ds W') :: J) (by omega)
        simp only [List.append_assoc, List.cons_append] at c
        simp only [hl1, Kd.isIf, Kd.isGo] at e1 e2 e3
        cases hh : a.hg with
        | false =>
          rw [hh] at c
          refine goOn (W' ++ [b]) (J ++ J1) (by simp only [sizes_append, G.sizes]; omega) (by simp [oks_all] at ho' ⊢; exact ⟨ho'.1, ho'.2.2.2⟩) (by rw [ends_let, hh]; simp) ?_
          simp [-cmp_eq, -cmp_ne, b_ends_at_go_1, Ss.run, S.run, E.ev, E.evT, Es.ev, Es.evAnd, Es.evOr, m0D, m1D, onL, hx0, hset0, e0, e1, e2, e3, s2, s3, f1, c, ds_append, G.ds, ds_len]
        | true =>
          rw [hh] at c
          refine stop (by rw [ends_let, hh]; rfl) ⟨.lst (G.ds W') :: (J ++ J1), ?_⟩
          simp [-cmp_eq, -cmp_ne, b_ends_at_go_1, Ss.run, S.run, E.ev, E.evT, Es.ev, Es.evAnd, Es.evOr, m0D, m1D, onL, hx0, hset0, e0, e1, e2, e3, s2, s3, f1, c, ds_append, G.ds, ds_len]
      | false =>
        cases hl2 : k.isIf with
        | true =>
          obtain rfl : k = .ite := by cases k <;> first | rfl | cases hl2
          obtain ⟨c, a, b, rfl⟩ : ∃ c a b, ps = [c, a, b] := by
            have h3 : ps.length = 3 := by simpa [Kd.ok] using ho'.2.1
            match ps, h3 with
            | [c, a, b], _ => exact ⟨c, a, b, rfl⟩
          have s1 : ∀ h, subD (G.nd .ite [c, a, b]).d (.int 1) h = .ok c.d h := fun h => by rw [G.d]; simp only [Kd.enc, G.ds, sub_tup]; rfl
          have s2 : ∀ h, cutD (G.nd .ite [c, a, b]).d (some 2) none h = .ok (.tup [a.d, b.d]) h := fun h => by rw [G.d]; simp only [Kd.enc, G.ds]; exact cut_2 _ _ _ _
          simp only [G.sizes] at es
          obtain ⟨J1, cc⟩ := C c (h ++ .lst (G.ds W') :: J) (by omega)
          simp only [List.append_assoc, List.cons_append] at cc
          simp only [hl1, hl2, Kd.isGo] at e1 e2 e3
          have f2 : W'.length ≤ 999998 := by simp at l2; have := size_pos a; have := size_pos b; omega
          cases hh : c.hg with
          | false =>
            rw [hh] at cc
            refine goOn (W' ++ [a, b]) (J ++ J1) (by simp only [sizes_append, G.sizes]; omega) (by simp [oks_all] at ho' ⊢; exact ⟨ho'.1, ho'.2.2.2⟩) (by rw [ends_ite, hh]; simp) ?_
            simp [-cmp_eq, -cmp_ne, b_ends_at_go_1, Ss.run, S.run, E.ev, E.evT, Es.ev, Eo.ev, intO, Es.evAnd, Es.evOr, m0D, m1D, onL, hx0, hset0, e0, e1, e2, e3, s1, s2, f2, cc, ds_append, G.ds, ds_len]
          | true =>
            rw [hh] at cc
            refine stop (by rw [ends_ite, hh]; rfl) ⟨.lst (G.ds W') :: (J ++ J1), ?_⟩
            simp [-cmp_eq, -cmp_ne, b_ends_at_go_1, Ss.run, S.run, E.ev, E.evT, Es.ev, Eo.ev, intO, Es.evAnd, Es.evOr, m0D, m1D, onL, hx0, hset0, e0, e1, e2, e3, s1, s2, f2, cc, ds_append, G.ds, ds_len]
        | false =>
          cases hl3 : k.isGo with
          | false =>
            rw [hl1] at e1
            rw [hl2] at e2
            rw [hl3] at e3
            refine stop (ends_no k ps hl1 hl2 hl3) ⟨.lst (G.ds W') :: J, ?_⟩
            simp [-cmp_eq, -cmp_ne, b_ends_at_go_1, Ss.run, S.run, E.ev, E.evT, Es.ev, Eo.ev, intO, Es.evAnd, Es.evOr, m0D, m1D, onL, hx0, hset0, e0, e1, e2, e3, ds_append, G.ds, ds_len]
          | true =>
            obtain rfl : k = .go := by cases k <;> first | rfl | cases hl3
            obtain ⟨a, b, rfl⟩ : ∃ a b, ps = [a, b] := by
              have h3 : ps.length = 2 := by simpa [Kd.ok] using ho'.2.1
              match ps, h3 with
              | [a, b], _ => exact ⟨a, b, rfl⟩
            have s1 : ∀ h, subD (G.nd .go [a, b]).d (.int 1) h = .ok a.d h := fun h => by rw [G.d]; simp only [Kd.enc, G.ds, sub_tup]; rfl
            have s2 : ∀ h, subD (G.nd .go [a, b]).d (.int 2) h = .ok b.d h := fun h => by rw [G.d]; simp only [Kd.enc, G.ds, sub_tup]; rfl
            simp only [G.sizes] at es
            obtain ⟨J1, c1⟩ := C a (h ++ .lst (G.ds W') :: J) (by omega)
            simp only [List.append_assoc, List.cons_append] at c1
            obtain ⟨J2, c2⟩ := C b (h ++ .lst (G.ds W') :: (J ++ J1)) (by omega)
            simp only [List.append_assoc, List.cons_append] at c2
            simp only [hl1, hl2, hl3] at e1 e2 e3
            cases hh : a.hg with
            | true =>
              rw [hh] at c1
              refine stop (by rw [ends_go, hh]; rfl) ⟨.lst (G.ds W') :: (J ++ J1), ?_⟩
              simp [-cmp_eq, -cmp_ne, b_ends_at_go_1, Ss.run, S.run, E.ev, E.evT, Es.ev, Eo.ev, intO, Es.evAnd, Es.evOr, m0D, m1D, onL, hx0, hset0, e0, e1, e2, e3, s1, s2, c1, c2, ds_append, G.ds, ds_len]
            | false =>
              rw [hh] at c1
              cases hh2 : b.hg with
              | true =>
                rw [hh2] at c2
                refine stop (by rw [ends_go, hh, hh2]; rfl) ⟨.lst (G.ds W') :: (J ++ (J1 ++ J2)), ?_⟩
                simp [-cmp_eq, -cmp_ne, b_ends_at_go_1, Ss.run, S.run, E.ev, E.evT, Es.ev, Eo.ev, intO, Es.evAnd, Es.evOr, m0D, m1D, onL, hx0, hset0, e0, e1, e2, e3, s1, s2, c1, c2, ds_append, G.ds, ds_len]
              | false =>
                rw [hh2] at c2
                refine goOn W' (J ++ (J1 ++ J2)) (by omega) ho'.1 (by rw [ends_go, hh, hh2]; simp) ?_
                simp [-cmp_eq, -cmp_ne, b_ends_at_go_1, Ss.run, S.run, E.ev, E.evT, Es.ev, Eo.ev, intO, Es.evAnd, Es.evOr, m0D, m1D, onL, hx0, hset0, e0, e1, e2, e3, s1, s2, c1, c2, ds_append, G.ds, ds_len]
noncomputable def EndsOk (cl : Nat → List D → Hh → Res D) (i : Nat) : Prop := ∀ (g : G) h, g.ok = true → g.size ≤ 1000000 → ∃ J, cl i [g.d] h = .ok (.bl g.ends) (h ++ J)
theorem r_ends (cl : Nat → List D → Hh → Res D) (C : HgOk cl 7) (g : G) (h : Hh) (ho : g.ok = true) (hs : g.size ≤ 1000000) : ∃ J, d_ends_at_go.run cl [g.d] h = .ok (.bl g.ends) (h ++ J) := by
  obtain ⟨q1, q2⟩ := ends_loop cl C g.d h g.size [g] [] none (by simp [G.sizes]) (by simp [G.oks, ho]) (by simp [G.sizes]; exact hs)
  have ea : [g].all G.ends = g.ends := by simp
  rw [ea] at q1 q2
  cases e : g.ends with
  | true =>
    obtain ⟨o, J, e1⟩ := q1 e
    refine ⟨J, ?_⟩
    simp [G.ds] at e1
    simp [d_ends_at_go, Df.run, Ss.run, S.run, E.ev, L.ev, Es.ev, new, e1, outR]
  | false =>
    obtain ⟨J, e1⟩ := q2 e
    refine ⟨J, ?_⟩
    simp [G.ds] at e1
    simp [d_ends_at_go, Df.run, Ss.run, S.run, E.ev, L.ev, Es.ev, new, e1, outR]
noncomputable def G.kind (g : G) : Str := if g.hg = false then "never" else if g.ends = true then "jump" else if (g.lst false).all id = true then "once" else "many"
theorem r_kind (cl : Nat → List D → Hh → Res D) (C6 : HgOk cl 7) (C5 : EndsOk cl 6) (C3 : LastsOk cl 4) (g : G) (h : Hh) (ho : g.ok = true) (hs : g.size ≤ 1000000) : ∃ J, d_kind_of.run cl [g.d] h = .ok (.str g.kind) (h ++ J) := by
  obtain ⟨J1, c1⟩ := C6 g h hs
  unfold G.kind
  cases e1 : g.hg with
  | false =>
    rw [e1] at c1
    refine ⟨J1, ?_⟩
    rw [if_pos rfl]
    unfold d_kind_of
    simp only [Df.run, Ss.run, S.run, E.ev, E.evT, Es.ev, List.map_cons, List.map_nil, List.length_cons, List.length_nil, List.cons_append, List.nil_append, List.getElem?_cons_zero, bind_ok, c1, andS_ok, un_not, Bool.not_false, if_true, seqS_rt, outR, Nat.sub_self, List.replicate]
  | true =>
    rw [e1] at c1
    obtain ⟨J2, c2⟩ := C5 g (h ++ J1) ho hs
    rw [if_neg (by decide)]
    cases e2 : g.ends with
    | true =>
      rw [e2] at c2
      refine ⟨J1 ++ J2, ?_⟩
      rw [if_pos rfl, ← List.append_assoc]
      unfold d_kind_of
      simp only [Df.run, Ss.run, S.run, E.ev, E.evT, Es.ev, List.map_cons, List.map_nil, List.length_cons, List.length_nil, List.cons_append, List.nil_append, List.getElem?_cons_zero, bind_ok, c1, c2, andS_ok, un_not, Bool.not_true, Bool.false_eq_true, if_false, if_true, seqS_nx, seqS_rt, outR, Nat.sub_self, List.replicate]
    | false =>
      rw [e2] at c2
      obtain ⟨J3, m, c3, c4, m', rfl⟩ := C3 g (h ++ J1 ++ J2) ho hs
      have rr : rd (h ++ J1 ++ J2 ++ J3) ((h ++ J1 ++ J2).length + (m' + 1)) = some ((g.lst false).map D.bl) := by rw [rdx]; exact rd_of c4
      refine ⟨J1 ++ (J2 ++ J3), ?_⟩
      rw [if_neg (by decide), ← List.append_assoc, ← List.append_assoc]
      unfold d_kind_of
      simp only [Df.run, Ss.run, S.run, E.ev, E.evT, Es.ev, List.map_cons, List.map_nil, List.length_cons, List.length_nil, List.cons_append, List.nil_append, List.getElem?_cons_zero, bind_ok, c1, c2, c3, andS_ok, un_not, Bool.not_true, Bool.false_eq_true, if_false, seqS_nx, c1D, rr, Option.bind, bls_map, tru_bl]
      cases e3 : (g.lst false).all id with
      | true => rw [if_pos rfl]; rfl
      | false => rw [if_neg (by decide)]; rfl
end K81
set_option Elab.async false
set_option linter.all false
set_option maxRecDepth 100000
set_option maxHeartbeats 4000000
namespace K81
open PySem L2 PI
noncomputable def vr (x : Str) : G := .nd (.var x) []
noncomputable def nu (n : Int) : G := .nd (.num n) []
inductive Sm : G → Prop
  | var (x : Str) : PyData.strOk x = true → Sm (vr x)
  | num (n : Int) : Sm (nu n)
  | op (o x : Str) (n : Int) : PyData.strOk o = true → PyData.strOk x = true → Sm (.nd (.op o) [vr x, nu n])
  | lt (y x : Str) (n : Int) : PyData.strOk y = true → PyData.strOk x = true → Sm (.nd (.lett y) [nu n, vr x])
noncomputable def isVar (s : Str) : G → Bool
  | .nd (.var x) _ => x == s
  | _ => false
theorem so_var : PyData.strOk "var" = true := so _ (by simp)
theorem so_num : PyData.strOk "num" = true := so _ (by simp)
theorem so_op : PyData.strOk "op" = true := so _ (by simp)
theorem so_jump : PyData.strOk "jump" = true := so _ (by simp)
theorem pd_cons (h : Hh) (x : D) (r : List D) : D.pds h (x :: r) = match D.pd h x, D.pds h r with
    | some a, some b => some (a :: b)
    | _, _ => none := by
  first
  | (rw [D.pds]; done)
  | (rw [D.pds]; rfl)
theorem pd_str (h : Hh) (x : Str) : D.pd h (.str x) = some (.str x) := by rw [D.pd]
theorem pd_int (h : Hh) (x : Int) : D.pd h (.int x) = some (.int x) := by rw [D.pd]
theorem pd_tup (h : Hh) (xs : List D) : D.pd h (.tup xs) = (D.pds h xs).map .tuple := by rw [D.pd]
theorem eq_sm {g : G} (hg : Sm g) {s : Str} (hs : PyData.strOk s = true) (h : Hh) : eqR false (pdT h g.d) (pdT h (.tup [.str "var", .str s])) h = .ok (.bl (isVar s g)) h ∧ eqR true (pdT h g.d) (pdT h (.tup [.str "var", .str s])) h = .ok (.bl (!isVar s g)) h := by
  have e1 : (("num" : Str) == ("var" : Str)) = false := rfl
  have e2 : (("op" : Str) == ("var" : Str)) = false := rfl
  have e3 : (("let" : Str) == ("var" : Str)) = false := rfl
  have e4 : (("var" : Str) == ("var" : Str)) = true := rfl
  cases hg with
  | var x hx => simp [vr, G.d, Kd.enc, G.ds, isVar, pd_cons, pd_str, pd_int, pd_tup, PyData.canLay0, PyData.canLayAll0, PyData.depth, PyData.depthAll, PyData.eqv, PyData.eqvAll, so_var, hx, hs, e4]
  | num n => simp [nu, G.d, Kd.enc, G.ds, isVar, pd_cons, pd_str, pd_int, pd_tup, PyData.canLay0, PyData.canLayAll0, PyData.depth, PyData.depthAll, PyData.eqv, PyData.eqvAll, so_var, so_num, hs, e1]
  | op o x n ho hx => simp [vr, nu, G.d, Kd.enc, G.ds, isVar, pd_cons, pd_str, pd_int, pd_tup, PyData.canLay0, PyData.canLayAll0, PyData.depth, PyData.depthAll, PyData.eqv, PyData.eqvAll, so_var, so_num, so_op, ho, hx, hs, e2]
  | lt y x n ho hx => simp [vr, nu, G.d, Kd.enc, G.ds, isVar, pd_cons, pd_str, pd_int, pd_tup, PyData.canLay0, PyData.canLayAll0, PyData.depth, PyData.depthAll, PyData.eqv, PyData.eqvAll, so_var, so_num, so_let, ho, hx, hs, e3]
noncomputable def G.st2 (s : Str) : G → Bool
  | .nd (.lett x) [_, b] => !(x == s) && b.st2 s
  | .nd .ite [_, a, b] => a.st2 s && b.st2 s
  | .nd .go [_, k] => isVar s k
  | _ => false
noncomputable def G.wk : G → Prop
  | .nd (.lett x) [_, b] => PyData.strOk x = true ∧ b.wk
  | .nd .ite [_, a, b] => a.wk ∧ b.wk
  | .nd .go [_, k] => Sm k
  | _ => True
theorem st_loop (cl : Nat → List D → Hh → Res D) (d0 d1 : D) (s : Str) (hs : PyData.strOk s = true) (g0 : D) (h : Hh) : ∀ (n : Nat) (W : List G) (J : Hh) (one : Option D), G.sizes W ≤ n → G.oks W = true → (∀ g ∈ W, g.ends = true ∧ g.wk) → G.sizes W ≤ 1000000 →
    (W.all (G.st2 s) = true → ∃ one' J', whR (fun ρ h => w_is_steady_1.evT cl ρ h) (fun ρ h => b_is_steady_1.run cl ρ h) [some (.tup [d0, d1, .str s, g0]), some (.tup [.str "var", .str s]), some (.loc h.length), one] (h ++ .lst (G.ds W) :: J) = .nx [some (.tup [d0, d1, .str s, g0]), some (.tup [.str "var", .str s]), some (.loc h.length), one'] (h ++ J')) ∧
    (W.all (G.st2 s) = false → ∃ J', whR (fun ρ h => w_is_steady_1.evT cl ρ h) (fun ρ h => b_is_steady_1.run cl ρ h) [some (.tup [d0, d1, .str s, g0]), some (.tup [.str "var", .str s]), some (.loc h.length), one] (h ++ .lst (G.ds W) :: J) = .rt (.bl false) (h ++ J')) := by
  intro n
  induction n with
  | zero =>
    intro W J one hn ho hw hl
    have : W = [] := by
      cases W with
      | nil => rfl
      | cons g r => have := size_pos g; rw [G.sizes] at hn; omega
    subst this
    refine ⟨fun _ => ⟨one, .lst [] :: J, ?_⟩, fun z => by cases z⟩
    rw [whR_done (h1 := h ++ .lst [] :: J)]
    simp [w_is_steady_1, E.evT, E.ev, nilD, rdx0, rd, hx0, G.ds]
  | succ n ih =>
    intro W J one hn ho hw hl
    rcases List.eq_nil_or_concat W with rfl | ⟨W', q, rfl⟩
    · refine ⟨fun _ => ⟨one, .lst [] :: J, ?_⟩, fun z => by cases z⟩
      rw [whR_done (h1 := h ++ .lst [] :: J)]
      simp [w_is_steady_1, E.evT, E.ev, nilD, rdx0, rd, hx0, G.ds]
    · rw [List.concat_eq_append] at *
      obtain ⟨k, ps⟩ := q
      obtain ⟨he, hk⟩ := hw (.nd k ps) (by simp)
      have ec : w_is_steady_1.evT cl [some (.tup [d0, d1, .str s, g0]), some (.tup [.str "var", .str s]), some (.loc h.length), one] (h ++ .lst (G.ds (W' ++ [.nd k ps])) :: J) = .ok true (h ++ .lst (G.ds (W' ++ [.nd k ps])) :: J) := by
        simp [w_is_steady_1, E.evT, E.ev, nilD, rdx0, rd, hx0, G.ds, ds_append]
      have es : G.sizes (W' ++ [.nd k ps]) = G.sizes W' + 1 + G.sizes ps := by rw [sizes_append, G.sizes, G.sizes, G.size]; omega
      have ho' : G.oks W' = true ∧ (k.ok ps.length = true ∧ G.oks ps = true) := by
        rw [oks_all, List.all_append, ← oks_all, ← oks_all, G.oks, G.oks, G.ok] at ho
        simpa using ho
      have l1 := wl W'
      have l2 := wl ps
      have f1 : W'.length < 1000000 := by omega
      have e0 := fun h => sub_0 k (G.ds ps) h
      rw [← G.d] at e0
      have e1 := fun h => eqS (h := h) (tag_ok k) so_let
      have e2 := fun h => eqS (h := h) (tag_ok k) so_if
      rw [tag_let] at e1
      rw [tag_if] at e2
      have c2 : ∀ h, subD (.tup [d0, d1, .str s, g0]) (.int 2) h = .ok (.str s) h := fun h => by rw [sub_tup]; rfl
      have ea : (W' ++ [G.nd k ps]).all (G.st2 s) = (W'.all (G.st2 s) && (G.nd k ps).st2 s) := by simp
      have hw' : ∀ g ∈ W', g.ends = true ∧ g.wk := fun g hg => hw g (by simp [hg])
      rw [ea]
      have goOn : ∀ (Ws : List G) (J2 : Hh), G.sizes Ws ≤ G.sizes W' + G.sizes ps → G.oks Ws = true → (∀ g ∈ Ws, g.ends = true ∧ g.wk) → (W'.all (G.st2 s) && (G.nd k ps).st2 s) = Ws.all (G.st2 s) →
          b_is_steady_1.run cl [some (.tup [d0, d1, .str s, g0]), some (.tup [.str "var", .str s]), some (.loc h.length), one] (h ++ .lst (G.ds (W' ++ [.nd k ps])) :: J) = .nx [some (.tup [d0, d1, .str s, g0]), some (.tup [.str "var", .str s]), some (.loc h.length), some (G.nd k ps).d] (h ++ .lst (G.ds Ws) :: J2) →
          ((W'.all (G.st2 s) && (G.nd k ps).st2 s) = true → ∃ one' J', whR (fun ρ h => w_is_steady_1.evT cl ρ h) (fun ρ h => b_is_steady_1.run cl ρ h) [some (.tup [d0, d1, .str s, g0]), some (.tup [.str "var", .str s]), some (.loc h.length), one] (h ++ .lst (G.ds (W' ++ [.nd k ps])) :: J) = .nx [some (.tup [d0, d1, .str s, g0]), some (.tup [.str "var", .str s]), some (.loc h.length), one'] (h ++ J')) ∧
          ((W'.all (G.st2 s) && (G.nd k ps).st2 s) = false → ∃ J', whR (fun ρ h => w_is_steady_1.evT cl ρ h) (fun ρ h => b_is_steady_1.run cl ρ h) [some (.tup [d0, d1, .str s, g0]), some (.tup [.str "var", .str s]), some (.loc h.length), one] (h ++ .lst (G.ds (W' ++ [.nd k ps])) :: J) = .rt (.bl false) (h ++ J')) := by
        intro Ws J2 h1 h2 hq h3 h4
        rw [h3, whR_turn ec h4]
        exact ih Ws J2 (some (G.nd k ps).d) (by omega) h2 hq (by omega)
      have stop : (G.nd k ps).st2 s = false → (∃ J', b_is_steady_1.run cl [some (.tup [d0, d1, .str s, g0]), some (.tup [.str "var", .str s]), some (.loc h.length), one] (h ++ .lst (G.ds (W' ++ [.nd k ps])) :: J) = .rt (.bl false) (h ++ J')) →
          ((W'.all (G.st2 s) && (G.nd k ps).st2 s) = true → ∃ one' J', whR (fun ρ h => w_is_steady_1.evT cl ρ h) (fun ρ h => b_is_steady_1.run cl ρ h) [some (.tup [d0, d1, .str s, g0]), some (.tup [.str "var", .str s]), some (.loc h.length), one] (h ++ .lst (G.ds (W' ++ [.nd k ps])) :: J) = .nx [some (.tup [d0, d1, .str s, g0]), some (.tup [.str "var", .str s]), some (.loc h.length), one'] (h ++ J')) ∧
          ((W'.all (G.st2 s) && (G.nd k ps).st2 s) = false → ∃ J', whR (fun ρ h => w_is_steady_1.evT cl ρ h) (fun ρ h => b_is_steady_1.run cl ρ h) [some (.tup [d0, d1, .str s, g0]), some (.tup [.str "var", .str s]), some (.loc h.length), one] (h ++ .lst (G.ds (W' ++ [.nd k ps])) :: J) = .rt (.bl false) (h ++ J')) := by
        rintro z ⟨J', h4⟩
        rw [z, Bool.and_false]
        exact ⟨fun z => by (cases z), fun _ => ⟨J', whR_ret ec h4⟩⟩
      cases hl1 : k.isLet with
      | true =>
        obtain ⟨x, rfl⟩ : ∃ x, k = .lett x := by cases k <;> first | exact ⟨_, rfl⟩ | cases hl1
        obtain ⟨a, b, rfl⟩ : ∃ a b, ps = [a, b] := by
          have h3 : ps.length = 2 := by simpa [Kd.ok] using ho'.2.1
          match ps, h3 with
          | [a, b], _ => exact ⟨a, b, rfl⟩
        rw [ends_let] at he
        rw [G.wk] at hk
        have s1 : ∀ h, subD (G.nd (.lett x) [a, b]).d (.int 1) h = .ok (.str x) h := fun h => by rw [G.d]; simp only [Kd.enc, G.ds, sub_tup]; rfl
        have s3 : ∀ h, subD (G.nd (.lett x) [a, b]).d (.int 3) h = .ok b.d h := fun h => by rw [G.d]; simp only [Kd.enc, G.ds, sub_tup]; rfl
        have e4 := fun h => neS (h := h) hk.1 hs
        simp only [hl1, Kd.isIf] at e1 e2
        cases hh : (x == s) with
        | false =>
          rw [hh] at e4
          refine goOn (W' ++ [b]) J (by simp only [sizes_append, G.sizes]; omega) (by simp [oks_all] at ho' ⊢; exact ⟨ho'.1, ho'.2.2.2⟩) (fun g hg => ?_) (by rw [G.st2, hh]; simp) ?_
          · rcases List.mem_append.mp hg with z | z
            · exact hw' g z
            · rw [List.mem_singleton.mp z]; simp at he; exact ⟨he.2, hk.2⟩
          · simp [-cmp_eq, -cmp_ne, b_is_steady_1, Ss.run, S.run, E.ev, E.evT, Es.ev, Es.evAnd, Es.evOr, m0D, m1D, onL, hx0, hset0, e0, e1, e2, e4, s1, s3, c2, f1, ds_append, G.ds, ds_len]
        | true =>
          rw [hh] at e4
          refine stop (by rw [G.st2, hh]; rfl) ⟨.lst (G.ds W') :: J, ?_⟩
          simp [-cmp_eq, -cmp_ne, b_is_steady_1, Ss.run, S.run, E.ev, E.evT, Es.ev, Es.evAnd, Es.evOr, m0D, m1D, onL, hx0, hset0, e0, e1, e2, e4, s1, s3, c2, f1, ds_append, G.ds, ds_len]
      | false =>
        cases hl2 : k.isIf with
        | true =>
          obtain rfl : k = .ite := by cases k <;> first | rfl | cases hl2
          obtain ⟨c, a, b, rfl⟩ : ∃ c a b, ps = [c, a, b] := by
            have h3 : ps.length = 3 := by simpa [Kd.ok] using ho'.2.1
            match ps, h3 with
            | [c, a, b], _ => exact ⟨c, a, b, rfl⟩
          rw [ends_ite] at he
          rw [G.wk] at hk
          have s2 : ∀ h, cutD (G.nd .ite [c, a, b]).d (some 2) none h = .ok (.tup [a.d, b.d]) h := fun h => by rw [G.d]; simp only [Kd.enc, G.ds]; exact cut_2 _ _ _ _
          simp only [hl1, hl2] at e1 e2
          simp only [G.sizes] at es
          have f2 : W'.length ≤ 999998 := by simp at l2; have := size_pos a; have := size_pos b; omega
          refine goOn (W' ++ [a, b]) J (by simp only [sizes_append, G.sizes]; omega) (by simp [oks_all] at ho' ⊢; exact ⟨ho'.1, ho'.2.2.2⟩) (fun g hg => ?_) (by rw [G.st2]; simp) ?_
          · simp at he
            rcases List.mem_append.mp hg with z | z
            · exact hw' g z
            · rcases List.mem_cons.mp z with z | z
              · rw [z]; exact ⟨he.2.1, hk.1⟩
              · rw [List.mem_singleton.mp z]; exact ⟨he.2.2, hk.2⟩
          · simp [-cmp_eq, -cmp_ne, b_is_steady_1, Ss.run, S.run, E.ev, E.evT, Es.ev, Eo.ev, intO, Es.evAnd, Es.evOr, m0D, m1D, onL, hx0, hset0, e0, e1, e2, s2, f2, ds_append, G.ds, ds_len]
        | false =>
          cases hl3 : k.isGo with
          | false => rw [ends_no k ps hl1 hl2 hl3] at he; cases he
          | true =>
            obtain rfl : k = .go := by cases k <;> first | rfl | cases hl3
            obtain ⟨a, b, rfl⟩ : ∃ a b, ps = [a, b] := by
              have h3 : ps.length = 2 := by simpa [Kd.ok] using ho'.2.1
              match ps, h3 with
              | [a, b], _ => exact ⟨a, b, rfl⟩
            rw [G.wk] at hk
            have s2 : ∀ h, subD (G.nd .go [a, b]).d (.int 2) h = .ok b.d h := fun h => by rw [G.d]; simp only [Kd.enc, G.ds, sub_tup]; rfl
            have e5 : ∀ h, cmpD .NotEq b.d (.tup [.str "var", .str s]) h = .ok (.bl (!isVar s b)) h := fun h => (eq_sm hk hs h).2
            simp only [hl1, hl2] at e1 e2
            cases hh : isVar s b with
            | true =>
              rw [hh] at e5
              refine goOn W' J (by omega) ho'.1 hw' (by rw [G.st2, hh]; simp) ?_
              simp [-cmp_eq, -cmp_ne, b_is_steady_1, Ss.run, S.run, E.ev, E.evT, Es.ev, Eo.ev, intO, Es.evAnd, Es.evOr, m0D, m1D, onL, hx0, hset0, e0, e1, e2, e5, s2, ds_append, G.ds, ds_len]
            | false =>
              rw [hh] at e5
              refine stop (by rw [G.st2, hh]) ⟨.lst (G.ds W') :: J, ?_⟩
              simp [-cmp_eq, -cmp_ne, b_is_steady_1, Ss.run, S.run, E.ev, E.evT, Es.ev, Eo.ev, intO, Es.evAnd, Es.evOr, m0D, m1D, onL, hx0, hset0, e0, e1, e2, e5, s2, ds_append, G.ds, ds_len]
end K81
set_option Elab.async false
set_option linter.all false
set_option maxRecDepth 100000
set_option maxHeartbeats 4000000
namespace K81
open PySem L2 PI
theorem ends_hg : ∀ (n : Nat) (g : G), g.size ≤ n → g.ends = true → g.hg = true := by
  intro n
  induction n with
  | zero => intro g hn; have := size_pos g; omega
  | succ n ih =>
    intro g hn he
    obtain ⟨k, ps⟩ := g
    rw [G.size] at hn
    cases k with
    | lett x =>
      match ps, he, hn with
      | [a, b], he, hn =>
        rw [ends_let] at he
        simp only [G.sizes] at hn
        have := ih b (by omega) (by simp at he; exact he.2)
        rw [G.hg, G.hgs, G.hgs, this]; simp
      | [], he, _ => simp [G.ends] at he
      | [_], he, _ => simp [G.ends] at he
      | _ :: _ :: _ :: _, he, _ => simp [G.ends] at he
    | ite =>
      match ps, he, hn with
      | [c, a, b], he, hn =>
        rw [ends_ite] at he
        simp only [G.sizes] at hn
        have := ih a (by omega) (by simp at he; exact he.2.1)
        rw [G.hg, G.hgs, G.hgs, this]; simp
      | [], he, _ => simp [G.ends] at he
      | [_], he, _ => simp [G.ends] at he
      | [_, _], he, _ => simp [G.ends] at he
      | _ :: _ :: _ :: _ :: _, he, _ => simp [G.ends] at he
    | go => rw [G.hg]; rfl
    | _ => simp [G.ends] at he
theorem kind_jump (g : G) : (g.kind == ("jump" : Str)) = g.ends := by
  have a1 : (("never" : Str) == ("jump" : Str)) = false := rfl
  have a2 : (("once" : Str) == ("jump" : Str)) = false := rfl
  have a3 : (("many" : Str) == ("jump" : Str)) = false := rfl
  unfold G.kind
  cases e : g.ends with
  | true => rw [if_neg (by rw [ends_hg _ g (Nat.le_refl _) e]; decide), if_pos rfl]; rfl
  | false =>
    cases g.hg with
    | false => rw [if_pos rfl]; exact a1
    | true =>
      rw [if_neg (by decide), if_neg (by decide)]
      split
      · exact a2
      · exact a3
theorem kind_ok (g : G) : PyData.strOk g.kind = true := by
  unfold G.kind
  split
  · exact so _ (by simp)
  · split
    · exact so _ (by simp)
    · split
      · exact so _ (by simp)
      · exact so _ (by simp)
noncomputable def KindOk (cl : Nat → List D → Hh → Res D) : Prop := ∀ (g : G) h, g.ok = true → g.size ≤ 1000000 → ∃ J, cl 3 [g.d] h = .ok (.str g.kind) (h ++ J)
structure Bd (s : Str) (g : G) : Prop where
  ok : g.ok = true
  sz : g.size ≤ 1000000
  sk : PyData.strOk s = true
  wk : g.ends = true → g.wk
noncomputable def good (s : Str) (g : G) : Bool := g.ends && g.st2 s
theorem r_is_steady (cl : Nat → List D → Hh → Res D) (C : KindOk cl) (d0 d1 : D) (s : Str) (g : G) (b : Bd s g) (h : Hh) : ∃ J, d_is_steady.run cl [.tup [d0, d1, .str s, g.d]] h = .ok (.bl (good s g)) (h ++ J) := by
  obtain ⟨J1, c1⟩ := C g h b.ok b.sz
  have e1 := fun h => neS (h := h) (kind_ok g) so_jump
  rw [kind_jump] at e1
  have s2 : ∀ h, subD (.tup [d0, d1, .str s, g.d]) (.int 2) h = .ok (.str s) h := fun h => by rw [sub_tup]; rfl
  have s3 : ∀ h, subD (.tup [d0, d1, .str s, g.d]) (.int 3) h = .ok g.d h := fun h => by rw [sub_tup]; rfl
  unfold good
  cases e : g.ends with
  | false =>
    rw [e] at e1
    refine ⟨J1, ?_⟩
    simp [-cmp_eq, -cmp_ne, d_is_steady, Df.run, Ss.run, S.run, E.ev, E.evT, Es.ev, s3, c1, e1, outR]
  | true =>
    rw [e] at e1
    obtain ⟨q1, q2⟩ := st_loop cl d0 d1 s b.sk g.d (h ++ J1) g.size [g] [] none (by simp [G.sizes]) (by simp [G.oks, b.ok]) (fun x hx => by rw [List.mem_singleton.mp hx]; exact ⟨e, b.wk e⟩) (by simp [G.sizes]; exact b.sz)
    have ea : [g].all (G.st2 s) = g.st2 s := by simp
    rw [ea] at q1 q2
    have en : G.ds [g] = [g.d] := by simp [G.ds]
    rw [en] at q1 q2
    simp only [List.append_assoc] at q1 q2
    cases e2 : g.st2 s with
    | true =>
      obtain ⟨o, J, e3⟩ := q1 e2
      refine ⟨J1 ++ J, ?_⟩
      simp [-cmp_eq, -cmp_ne, d_is_steady, Df.run, Ss.run, S.run, E.ev, E.evT, Es.ev, L.ev, new, s2, s3, c1, e1, outR]
      simp at e3
      erw [e3]
      rfl
    | false =>
      obtain ⟨J, e3⟩ := q2 e2
      refine ⟨J1 ++ J, ?_⟩
      simp [-cmp_eq, -cmp_ne, d_is_steady, Df.run, Ss.run, S.run, E.ev, E.evT, Es.ev, L.ev, new, s2, s3, c1, e1, outR]
      simp at e3
      erw [e3]
      rfl
end K81
set_option Elab.async false
set_option linter.all false
set_option maxRecDepth 100000
set_option maxHeartbeats 4000000
namespace K81
open PySem L2 PI
theorem compL_fn {α : Type} {c : Ck} {f : D → Hh → Res (Option D)} (en out : α → D) (P : Hh → Prop) (R : Hh → Hh → Prop) (rr : ∀ h, R h h) (rt : ∀ a b d, R a b → R b d → R a d) (st : ∀ h, P h → stay c h) : ∀ (xs : List α) (acc : List D) (h : Hh), P h → (∀ x ∈ xs, ∀ h, P h → ∃ h', f (en x) h = .ok (some (out x)) h' ∧ P h' ∧ R h h') →
    ∃ h', compL c f (xs.map en) acc h = .ok (acc ++ xs.map out) h' ∧ P h' ∧ R h h'
  | [], acc, h, hp, _ => ⟨h, by simp [compL, st h hp], hp, rr h⟩
  | x :: r, acc, h, hp, hf => by
    obtain ⟨h1, e1, p1, r1⟩ := hf x (List.mem_cons_self ..) h hp
    obtain ⟨h2, e2, p2, r2⟩ := compL_fn en out P R rr rt st r (acc ++ [out x]) h1 p1 fun y hy => hf y (List.mem_cons_of_mem _ hy)
    refine ⟨h2, ?_, p2, rt _ _ _ r1 r2⟩
    rw [List.map_cons]
    unfold compL
    rw [if_pos (st h hp), e1, bind_ok, addO_some, e2]
    simp
noncomputable def Gr (h h' : Hh) : Prop := ∃ J, h' = h ++ J
theorem Gr.refl (h : Hh) : Gr h h := ⟨[], by simp⟩
theorem Gr.trans (a b d : Hh) (x : Gr a b) (y : Gr b d) : Gr a d := by obtain ⟨J, rfl⟩ := x; obtain ⟨K, rfl⟩ := y; exact ⟨J ++ K, by simp⟩
noncomputable def It (d : D) (n : Str) : Prop := ∃ t r, d = .tup (.str t :: .str n :: r)
noncomputable def pairOf (q : Str × D) : D := .tup [.str q.1, q.2]
theorem pairs_of : ∀ qs : List (Str × D), pairsD (qs.map pairOf) = some (qs.map fun q => (Sum.inr q.1, q.2))
  | [] => rfl
  | q :: r => by rw [List.map_cons, pairsD, pairs_of r]; rfl
noncomputable def ItemsOk (cl : Nat → List D → Hh → Res D) : Prop := ∀ (qs : List (Str × D)) h, (∀ q ∈ qs, It q.2 q.1) → qs.length ≤ 1000 → ∃ J a, cl 2 [.tup (qs.map (·.2))] h = .ok (.loc a) (h ++ J) ∧ (h ++ J)[a]? = some (.dK (mergeD [] (qs.map fun q => (Sum.inr q.1, q.2))))
theorem r_items (cl : Nat → List D → Hh → Res D) (qs : List (Str × D)) (h : Hh) (hq : ∀ q ∈ qs, It q.2 q.1) (hl : qs.length ≤ 1000) :
    ∃ J a, d_items_by_name.run cl [.tup (qs.map (·.2))] h = .ok (.loc a) (h ++ J) ∧ (h ++ J)[a]? = some (.dK (mergeD [] (qs.map fun q => (Sum.inr q.1, q.2)))) := by
  obtain ⟨h', k1, k2, _⟩ := compL_fn (c := []) (f := compF t_items_by_name_1 (capE [none] [some (.tup (qs.map (·.2)))]) (fun ρ' h2 => c_items_by_name_1.evC cl ρ' h2) (fun ρ' h2 => e_items_by_name_1.ev cl ρ' h2)) (fun q : Str × D => q.2) pairOf (fun h' => h' = h) Gr Gr.refl Gr.trans (fun _ _ => stay_nil) qs [] h rfl (by
    rintro q hm h2 rfl
    obtain ⟨t, r, e⟩ := hq q hm
    refine ⟨h2, ?_, rfl, Gr.refl _⟩
    rw [e]
    have s1 : ∀ h, subD (.tup (.str t :: .str q.1 :: r)) (.int 1) h = .ok (.str q.1) h := fun h => by rw [sub_tup, atI_pos (by decide)]; rfl
    simp [compF, t_items_by_name_1, bindT, capE, c_items_by_name_1, e_items_by_name_1, Es.evC, E.ev, Es.ev, s1, pairOf, e])
  subst k2
  refine ⟨[.lst (qs.map pairOf), .dK (mergeD [] (qs.map fun q => (Sum.inr q.1, q.2)))], h'.length + 1, ?_, by rw [hx]; rfl⟩
  have l1 : qs.length ≤ 1000000 := by omega
  unfold d_items_by_name
  simp only [Df.run, Ss.run, S.run, E.ev, Es.ev, L.ev, I.ev, List.map_cons, List.map_nil, List.length_cons, List.length_nil, List.cons_append, List.nil_append, List.getElem?_cons_zero, bind_ok, List.length_map, l1, if_true]
  erw [k1]
  simp [new, dicPD, rdx0, rd, pairs_of, l1, outR]
structure Cl where
  d : Str
  x : Str
  s : Str
  g : G
noncomputable def Cl.D (q : Cl) : D := .tup [.str q.d, .str q.x, .str q.s, q.g.d]
noncomputable def hD (nm : Str) (cs : List Cl) (x s : Str) (e : G) : D := .tup [.str "handler", .str nm, .tup (cs.map Cl.D), .tup [.str x, .str s, e.d]]
theorem val_merge {α : Type} (qs : List (Str × D)) (n : Str) (d : D) (hn : (qs.map (·.1)).Nodup) (hm : (n, d) ∈ qs) : valD (mergeD [] (qs.map fun q => ((Sum.inr q.1 : Key), q.2))) (Sum.inr n) = some d := by
  have key : ∀ (qs : List (Str × D)) (acc : List (Key × D)), (qs.map (·.1)).Nodup → (∀ q ∈ qs, (acc.any fun kv => decide (kv.1 = Sum.inr q.1)) = false) → mergeD acc (qs.map fun q => ((Sum.inr q.1 : Key), q.2)) = acc ++ qs.map fun q => ((Sum.inr q.1 : Key), q.2) := by
    intro qs
    induction qs with
    | nil => intro acc _ _; simp [mergeD]
    | cons q r ih =>
      intro acc hn ha
      rw [List.map_cons, List.nodup_cons] at hn
      have e1 : putD acc (Sum.inr q.1) q.2 = acc ++ [(Sum.inr q.1, q.2)] := by
        unfold putD
        rw [if_neg (by rw [ha q (List.mem_cons_self ..)]; decide)]
      have := ih (acc ++ [(Sum.inr q.1, q.2)]) hn.2 (fun z hz => by
        rw [List.any_append, ha z (List.mem_cons_of_mem _ hz)]
        have : q.1 ≠ z.1 := fun e => hn.1 (List.mem_map.mpr ⟨z, hz, e.symm⟩)
        simp [this])
      show mergeD (putD acc (Sum.inr q.1) q.2) (r.map fun q => ((Sum.inr q.1 : Key), q.2)) = _
      rw [e1, this]
      simp
  rw [key qs [] hn (by simp), List.nil_append]
  unfold valD
  induction qs with
  | nil => cases hm
  | cons q r ih =>
    rw [List.map_cons, List.nodup_cons] at hn
    rw [List.map_cons, List.find?_cons]
    rcases List.mem_cons.mp hm with e | e
    · subst e; simp
    · have : q.1 ≠ n := fun z => hn.1 (List.mem_map.mpr ⟨(n, d), e, z.symm⟩)
      have z : decide ((Sum.inr q.1 : Key) = Sum.inr n) = false := by simp [this]
      simp only [z]
      exact ih hn.2 e
theorem r_steady (cl : Nat → List D → Hh → Res D) (C2 : ItemsOk cl) (C9 : ∀ (q : Cl) h, Bd q.s q.g → ∃ J, cl 9 [q.D] h = .ok (.bl (good q.s q.g)) (h ++ J)) (qs : List (Str × D)) (hq : ∀ q ∈ qs, It q.2 q.1) (hl : qs.length ≤ 1000) (hn : (qs.map (·.1)).Nodup)
    (nm : Str) (cs : List Cl) (x s : Str) (e : G) (hm : (nm, hD nm cs x s e) ∈ qs) (hc : ∀ q ∈ cs, Bd q.s q.g) (hcl : cs.length ≤ 1000) (he : Sm e) (hx : PyData.strOk x = true) (h : Hh) :
    ∃ J, d_steady.run cl [.tup (qs.map (·.2)), .str nm] h = .ok (.bl (isVar x e && cs.all fun q => good q.s q.g)) (h ++ J) := by
  obtain ⟨J1, a, c2, g2⟩ := C2 qs h hq hl
  have sb : subD (.loc a) (.str nm) (h ++ J1) = .ok (hD nm cs x s e) (h ++ J1) := by
    rw [sub_loc, g2]
    simp only [keyD, Option.bind, val_merge (α := Unit) qs nm _ hn hm]
  have s3 : ∀ h, subD (hD nm cs x s e) (.int 3) h = .ok (.tup [.str x, .str s, e.d]) h := fun h => by unfold hD; rw [sub_tup]; rfl
  have s2 : ∀ h, subD (hD nm cs x s e) (.int 2) h = .ok (.tup (cs.map Cl.D)) h := fun h => by unfold hD; rw [sub_tup]; rfl
  have t2 : ∀ h, subD (.tup [.str x, .str s, e.d]) (.int 2) h = .ok e.d h := fun h => by rw [sub_tup]; rfl
  have t0 : ∀ h, subD (.tup [.str x, .str s, e.d]) (.int 0) h = .ok (.str x) h := fun h => by rw [sub_tup]; rfl
  have e5 : ∀ h, cmpD .Eq e.d (.tup [.str "var", .str x]) h = .ok (.bl (isVar x e)) h := fun h => (eq_sm he hx h).1
  cases ev : isVar x e with
  | false =>
    rw [ev] at e5
    refine ⟨J1, ?_⟩
    simp [-cmp_eq, -cmp_ne, d_steady, Df.run, Ss.run, S.run, E.ev, Es.ev, Es.evAnd, c2, sb, s3, t2, t0, e5, outR]
  | true =>
    rw [ev] at e5
    obtain ⟨h', k1, _, ⟨J2, k3⟩⟩ := compL_fn (c := []) (f := compF t_steady_1 (capE [none] [some (.tup (qs.map (·.2))), some (.str nm), some (hD nm cs x s e), some (.tup [.str x, .str s, e.d])]) (fun ρ' h2 => c_steady_1.evC cl ρ' h2) (fun ρ' h2 => e_steady_1.ev cl ρ' h2)) Cl.D (fun q => .bl (good q.s q.g)) (fun _ => True) Gr Gr.refl Gr.trans (fun _ _ => stay_nil) cs [] (h ++ J1) trivial (by
      intro q hm h2 _
      obtain ⟨J, c9⟩ := C9 q h2 (hc q hm)
      refine ⟨h2 ++ J, ?_, trivial, ⟨J, rfl⟩⟩
      simp [compF, t_steady_1, bindT, capE, c_steady_1, e_steady_1, Es.evC, E.ev, Es.ev, c9])
    subst k3
    have l1 : cs.length ≤ 1000000 := by omega
    have bm : cs.map (fun q => D.bl (good q.s q.g)) = (cs.map fun q => good q.s q.g).map D.bl := by rw [List.map_map]; rfl
    refine ⟨J1 ++ (J2 ++ [.lst ((cs.map fun q => good q.s q.g).map D.bl)]), ?_⟩
    have ea : (cs.map fun q => good q.s q.g).all id = cs.all fun q => good q.s q.g := by rw [List.all_map]; rfl
    simp only [List.nil_append, List.append_assoc, bm] at k1
    unfold d_steady
    simp [-cmp_eq, -cmp_ne, Df.run, Ss.run, S.run, E.ev, Es.ev, Es.evAnd, c2, sb, s3, t2, t0, e5, L.ev, I.ev, s2, l1]
    erw [k1]
    have rr : rd (h ++ (J1 ++ (J2 ++ [O.lst ((cs.map fun q => good q.s q.g).map D.bl)]))) (h.length + (J1.length + J2.length)) = some ((cs.map fun q => good q.s q.g).map D.bl) := by
      rw [rdx, rdx, ← Nat.add_zero J2.length, rdx]; rfl
    simp [new, c1D, outR]
    simp at rr
    rw [rr]
    rw [show List.map (D.bl ∘ fun q => good q.s q.g) cs = (cs.map fun q => good q.s q.g).map D.bl from by rw [List.map_map]]
    rw [show ∀ z : List D, (some z).bind blsOf = blsOf z from fun _ => rfl, bls_map]
    simp only [ea, bind_ok, andS_ok, seqS_rt]
end K81
set_option Elab.async false
set_option linter.all false
set_option maxRecDepth 100000
set_option maxHeartbeats 4000000
namespace K81
open PySem L2 PI
theorem r_cell (cl : Nat → List D → Hh → Res D) (ns : List Int) (i : Int) (hi : 0 ≤ i) (h : Hh) : d_law_cell_at.run cl [.fl (ns.map D.int), .int i] h = .ok (.int (cellv ns i)) h := by
  by_cases hl : i < (ns.length : Int)
  · have e := at_map ns i hi hl
    simp [d_law_cell_at, Df.run, Ss.run, S.run, E.ev, E.evT, hl, e, outR]
  · have e := cell_out ns i hl
    simp [d_law_cell_at, Df.run, Ss.run, S.run, E.ev, E.evT, hl, e, outR]
noncomputable def dr (c k : Int) : Int := (c % 1000003 * (2 * k + 1) * 48271 + 7919 * k + c) % 2147483647
theorem r_draw (cl : Nat → List D → Hh → Res D) (c k : Int) (h0 : 0 ≤ k) (h1 : k ≤ 100) (h : Hh) : d_law_draw.run cl [.int c, .int k] h = .ok (.int (dr c k)) h := by
  have a0 : 0 ≤ c % 1000003 := Int.emod_nonneg _ (by decide)
  have a1 : c % 1000003 < 1000003 := Int.emod_lt_of_pos _ (by decide)
  have f1 : fits 2 = true := fits_sm (by decide)
  have f2 : fits k = true := fits_sm (by omega)
  have f3 : fits (c % 1000003) = true := fits_sm (by omega)
  have f4 : fits (2 * k + 1) = true := fits_sm (by omega)
  have b0 : 0 ≤ c % 1000003 * (2 * k + 1) := Int.mul_nonneg a0 (by omega)
  have b1 : c % 1000003 * (2 * k + 1) ≤ 1000003 * 201 := Int.mul_le_mul (by omega) (by omega) (by omega) (by decide)
  have f5 : fits (c % 1000003 * (2 * k + 1)) = true := fits_lt (by omega)
  have f6 : fits 48271 = true := fits_sm (by decide)
  have f7 : fits 7919 = true := fits_sm (by decide)
  simp [d_law_draw, Df.run, Ss.run, S.run, E.ev, f1, f2, f3, f4, f5, f6, f7, outR, dr]
noncomputable def tl : List Nat := cs "bcdfghjklmnpqrstvwxyz"
noncomputable def tg (i : Int) : Nat := tl.getD i.toNat 0
theorem tl_len : tl.length = 21 := by decide
theorem tl_lt : ∀ x ∈ tl, x < 1114112 := by decide
theorem sub_tells (i : Int) (h0 : 0 ≤ i) (h1 : i < 21) (h : Hh) : subD (.str "bcdfghjklmnpqrstvwxyz") (.int i) h = .ok (.str (mkS [tg i])) h := by
  rw [sub_str, if_pos (by decide), atI_pos h0]
  show (match tl[i.toNat]? with | some c => Res.ok (D.str ⟨#[c]⟩) h | none => Res.no) = _
  have hl : i.toNat < tl.length := by rw [tl_len]; omega
  rw [List.getElem?_eq_getElem hl]
  simp [tg, mkS, hl]
noncomputable def sz (c : Int) : Nat := (1 + c % 8).toNat
noncomputable def pl (c : Int) : Nat := (c / 8 % (1 + c % 8)).toNat
noncomputable def nmL (c : Int) (k : Nat) : List Nat := ((List.range (sz c)).map fun (j : Nat) => tg ((c / 64 / ((j : Int) + 1) + 5 * (j : Int)) % 21)).set (pl c) (tg ((c / 64 + (k : Int)) % 21))
noncomputable def nm (c : Int) (k : Nat) : Str := mkS (nmL c k)
theorem join_ones : ∀ l : List Nat, Txt.join "" (l.map fun c => mkS [c]) = mkS l := fun l => by
  refine cs_inj ?_
  rw [cs_join, cs_mk]
  have e : cs ("" : Str) = [] := rfl
  rw [e, sepL_nil, List.map_map]
  have e2 : (cs ∘ fun c => mkS [c]) = fun c => [c] := funext fun c => cs_mk [c]
  rw [e2]
  induction l with
  | nil => rfl
  | cons a r ih => rw [List.map_cons, List.flatten_cons, ih]; rfl
theorem setLast {α : Type} (J : List α) (x y : α) : (J ++ [x]).set J.length y = J ++ [y] := by
  rw [List.set_append_right _ _ (Nat.le_refl _), Nat.sub_self]; rfl
theorem hS' (c : Int) : ((List.range (sz c)).map fun (j : Nat) => tg ((c / 64 / ((j : Int) + 1) + 5 * (j : Int)) % 21)).length = sz c := by simp
theorem names_loop (cl : Nat → List D → Hh → Res D) (c : Int) (m : D) (h : Hh) : ∀ (ks : List Nat) (N : List Str) (J : Hh) (k s : Option D), N.length + ks.length ≤ 1000 →
    ∃ k' s' J', forL [] (stepF t_law_names_1 fun ρ' h' => b_law_names_1.run cl ρ' h') (ks.map fun (k : Nat) => D.int (k : Nat)) [some (.int c), some m, some (.str "bcdfghjklmnpqrstvwxyz"), some (.int (1 + c % 8)), some (.int (c / 8 % (1 + c % 8))), some (.loc h.length), k, s] (h ++ .lst (N.map D.str) :: J) =
      .nx [some (.int c), some m, some (.str "bcdfghjklmnpqrstvwxyz"), some (.int (1 + c % 8)), some (.int (c / 8 % (1 + c % 8))), some (.loc h.length), k', s'] (h ++ .lst ((N ++ ks.map (nm c)).map D.str) :: J')
  | [], N, J, k, s, _ => ⟨k, s, J, by simp [forL, stay_nil]⟩
  | i :: ks, N, J, k, s, hl => by
    have h8 : 0 ≤ c % 8 ∧ c % 8 < 8 := ⟨Int.emod_nonneg _ (by decide), Int.emod_lt_of_pos _ (by decide)⟩
    have hp : 0 ≤ c / 8 % (1 + c % 8) ∧ c / 8 % (1 + c % 8) < 1 + c % 8 := ⟨Int.emod_nonneg _ (by omega), Int.emod_lt_of_pos _ (by omega)⟩
    obtain ⟨k', s', J', ih⟩ := names_loop cl c m h ks (N ++ [nm c i]) (J ++ [.lst (((nmL c i).map fun c => mkS [c]).map D.str)]) (some (.int (i : Nat))) (some (.loc (h.length + (J.length + 1)))) (by simp at hl ⊢; omega)
    refine ⟨k', s', J', ?_⟩
    have key := compL_pure (c := []) (f := compF t_law_names_2 (capE [none, some 0, some 2] [some (.int c), some m, some (.str "bcdfghjklmnpqrstvwxyz"), some (.int (1 + c % 8)), some (.int (c / 8 % (1 + c % 8))), some (.loc h.length), some (.int (i : Nat)), s]) (fun ρ' h2 => c_law_names_2.evC cl ρ' h2) (fun ρ' h2 => e_law_names_2.ev cl ρ' h2)) (h := h ++ .lst (N.map D.str) :: J) stay_nil
      (fun x => match x with | .int j => some (.str (mkS [tg ((c / 64 / (j + 1) + 5 * j) % 21)])) | _ => none) ((List.range (1 + c % 8).toNat).map fun (k : Nat) => D.int (k : Nat)) [] (by
        intro x hx
        obtain ⟨j, hj, rfl⟩ := List.mem_map.mp hx
        have hj' : j < 9 := by have := List.mem_range.mp hj; omega
        have d1 : (0 : Int) < (j : Int) + 1 ∧ (j : Int) + 1 < 1073741824 := by omega
        have f1 : fits 5 = true := fits_sm (by decide)
        have f2 : fits (j : Int) = true := fits_sm (by omega)
        have st := fun h => sub_tells ((c / 64 / ((j : Int) + 1) + 5 * (j : Int)) % 21) (Int.emod_nonneg _ (by decide)) (Int.emod_lt_of_pos _ (by decide)) h
        simp [compF, t_law_names_2, bindT, capE, c_law_names_2, e_law_names_2, Es.evC, E.ev, Es.ev, d1.1, d1.2, f1, f2, st])
    rw [List.nil_append, List.filterMap_map] at key
    have fm : ∀ (l : List Nat), l.filterMap ((fun (x : D) => match x with | .int j => some (D.str (mkS [tg ((c / 64 / (j + 1) + 5 * j) % 21)])) | _ => none) ∘ fun (k : Nat) => D.int (k : Nat)) = (l.map fun (j : Nat) => tg ((c / 64 / ((j : Int) + 1) + 5 * (j : Int)) % 21)).map fun c => D.str (mkS [c]) := by
      intro l
      induction l with
      | nil => rfl
      | cons a r ih => rw [List.filterMap_cons, ih]; rfl
    rw [fm] at key
    generalize hS : ((List.range (1 + c % 8).toNat).map fun (j : Nat) => tg ((c / 64 / ((j : Int) + 1) + 5 * (j : Int)) % 21)) = Sg at key
    have lS : Sg.length = (1 + c % 8).toNat := by rw [← hS]; simp
    have st := fun h => sub_tells ((c / 64 + (i : Int)) % 21) (Int.emod_nonneg _ (by decide)) (Int.emod_lt_of_pos _ (by decide)) h
    have rg : -1000000 ≤ 1 + c % 8 ∧ 1 + c % 8 ≤ 1000000 := by omega
    have ix : ixN (Sg.map fun c => D.str (mkS [c])).length (c / 8 % (1 + c % 8)) = some (pl c) := by
      rw [List.length_map, lS]
      unfold ixN pl
      rw [if_pos (by omega), if_pos (by omega)]
    have es : (Sg.map fun c => D.str (mkS [c])).set (pl c) (.str (mkS [tg ((c / 64 + (i : Int)) % 21)])) = ((nmL c i).map fun c => mkS [c]).map D.str := by
      unfold nmL sz
      rw [hS, List.map_map, List.map_set]
      rfl
    have ln : (nmL c i).length ≤ 9 := by unfold nmL; rw [List.length_set, hS' c]; simp [sz]; omega
    have jn : (((nmL c i).map fun c => mkS [c]).map (·.length)).sum + ((nmL c i).map fun c => mkS [c]).length * ("" : Str).length ≤ 16777216 := by
      have e1 : (((nmL c i).map fun c => mkS [c]).map (·.length)) = (nmL c i).map fun _ => 1 := by rw [List.map_map]; congr 1
      rw [e1]
      have e2 : ∀ l : List Nat, (l.map fun _ => 1).sum = l.length := fun l => by induction l with | nil => rfl | cons a r ih => simp [ih]; omega
      rw [e2, List.length_map]
      have e3 : ("" : Str).length = 0 := rfl
      rw [e3]
      omega
    have l2 : N.length < 1000000 := by simp at hl; omega
    have l3 : (N.map D.str).length < 1000000 := by rw [List.length_map]; exact l2
    have turn : stepF t_law_names_1 (fun ρ' h' => b_law_names_1.run cl ρ' h') (.int (i : Nat)) [some (.int c), some m, some (.str "bcdfghjklmnpqrstvwxyz"), some (.int (1 + c % 8)), some (.int (c / 8 % (1 + c % 8))), some (.loc h.length), k, s] (h ++ .lst (N.map D.str) :: J) =
        .nx [some (.int c), some m, some (.str "bcdfghjklmnpqrstvwxyz"), some (.int (1 + c % 8)), some (.int (c / 8 % (1 + c % 8))), some (.loc h.length), some (.int (i : Nat)), some (.loc (h.length + (J.length + 1)))] (h ++ .lst ((N ++ [nm c i]).map D.str) :: (J ++ [.lst (((nmL c i).map fun c => mkS [c]).map D.str)])) := by
      simp only [stepF, t_law_names_1, bindT, b_law_names_1, Ss.run, S.run, E.ev, L.ev, I.ev, List.set_cons_succ, List.set_cons_zero, List.getElem?_cons_succ, List.getElem?_cons_zero, bind_ok, andS_ok, seqS_nx, rg, if_true, and_self, List.length_map, List.length_range]
      have rl : (List.range (1 + c % 8).toNat).length ≤ 1000000 := by simp; omega
      have rl2 : (1 + c % 8).toNat ≤ 1000000 := by omega
      simp only [rl2, if_true]
      erw [key]
      simp only [bind_ok, new, andS_ok, List.set_cons_succ, List.set_cons_zero, seqS_nx, bin_fdiv, bin_add, bin_mod, st]
      have ee : (h ++ O.lst (N.map D.str) :: J ++ [O.lst (Sg.map fun c => D.str (mkS [c]))]) = h ++ O.lst (N.map D.str) :: (J ++ [O.lst (Sg.map fun c => D.str (mkS [c]))]) := by simp
      have e7 : (h ++ O.lst (N.map D.str) :: J).length = h.length + (J.length + 1) := by simp
      rw [ee, e7]
      have g7 : ∀ o : O, (h ++ O.lst (N.map D.str) :: (J ++ [o]))[h.length + (J.length + 1)]? = some o := fun o => by rw [hx]; simp
      have p7 : ∀ o o' : O, (h ++ O.lst (N.map D.str) :: (J ++ [o])).set (h.length + (J.length + 1)) o' = h ++ O.lst (N.map D.str) :: (J ++ [o']) := fun o o' => by rw [hset, List.set_cons_succ, setLast]
      have r7 : ∀ o : List D, rd (h ++ O.lst (N.map D.str) :: (J ++ [O.lst o])) (h.length + (J.length + 1)) = some o := fun o => rd_of (g7 _)
      simp only [List.getElem?_cons_succ, List.getElem?_cons_zero, bind_ok, andS_ok, bin_fdiv, bin_add, bin_mod, st, putS, g7, p7, ix, es, Option.map_some, (show (0 : Int) < 64 ∧ (64 : Int) < 1073741824 by decide), (show (0 : Int) < 21 by decide), and_self, if_true, seqS_nx, onL, hx0, joinD, r7, onS, Option.bind_some, strs_map, jn, join_ones, m1D, hset0, l3, List.set_cons_zero]
      simp [nm]
    rw [List.map_cons, forL, if_pos stay_nil, turn]
    simp only []
    rw [ih]
    simp
end K81
set_option Elab.async false
set_option linter.all false
set_option maxRecDepth 100000
set_option maxHeartbeats 4000000
namespace K81
open PySem L2 PI
noncomputable def nms (c : Int) (m : Nat) : List Str := (List.range m).map (nm c)
theorem r_names (cl : Nat → List D → Hh → Res D) (c : Int) (m : Nat) (hm : m ≤ 1000) (h : Hh) :
    ∃ J, d_law_names.run cl [.int c, .int (m : Nat)] h = .ok (.loc h.length) (h ++ .lst ((nms c m).map D.str) :: J) := by
  have h8 : 0 ≤ c % 8 ∧ c % 8 < 8 := ⟨Int.emod_nonneg _ (by decide), Int.emod_lt_of_pos _ (by decide)⟩
  obtain ⟨k', s', J', e⟩ := names_loop cl c (.int (m : Nat)) h (List.range m) [] [] none none (by simp; omega)
  refine ⟨J', ?_⟩
  have p1 : (0 : Int) < 1 + c % 8 := by omega
  have rg : -1000000 ≤ ((m : Nat) : Int) ∧ ((m : Nat) : Int) ≤ 1000000 := by omega
  rw [List.map_nil] at e
  unfold d_law_names
  simp only [Df.run, Ss.run, S.run, E.ev, Es.ev, L.ev, I.ev, List.map_cons, List.map_nil, List.length_cons, List.length_nil, List.cons_append, List.nil_append, List.getElem?_cons_succ, List.getElem?_cons_zero, bind_ok, andS_ok, seqS_nx, List.set_cons_succ, List.set_cons_zero, bin_add, bin_mod, bin_fdiv, p1, (show (0 : Int) < 8 ∧ (8 : Int) < 1073741824 by decide), (show (0 : Int) < 8 by decide), and_self, if_true, new, rg, List.replicate, Int.toNat_natCast, (show (0 : Nat) ≤ 1000 by decide)]
  erw [e]
  simp [outR, nms]
theorem tg_mem (i : Int) (h0 : 0 ≤ i) (h1 : i < 21) : tg i ∈ tl := by
  have hl : i.toNat < tl.length := by rw [tl_len]; omega
  unfold tg
  rw [List.getD_eq_getElem?_getD, List.getElem?_eq_getElem hl]
  exact List.getElem_mem hl
theorem tl_inj : ∀ i, i < 21 → ∀ j, j < 21 → tl.getD i 0 = tl.getD j 0 → i = j := by decide
theorem tg_inj {i j : Int} (h0 : 0 ≤ i) (h1 : i < 21) (h2 : 0 ≤ j) (h3 : j < 21) (e : tg i = tg j) : i = j := by
  have := tl_inj i.toNat (by omega) j.toNat (by omega) e
  omega
theorem m21 (a : Int) : 0 ≤ a % 21 ∧ a % 21 < 21 := ⟨Int.emod_nonneg _ (by decide), Int.emod_lt_of_pos _ (by decide)⟩
theorem nm_ok (c : Int) (k : Nat) : PyData.strOk (nm c k) = true := by
  refine ok_mk fun x hx => ?_
  unfold nmL at hx
  rcases List.mem_or_eq_of_mem_set hx with z | z
  · obtain ⟨j, _, rfl⟩ := List.mem_map.mp z
    exact tl_lt _ (tg_mem _ (m21 _).1 (m21 _).2)
  · rw [z]; exact tl_lt _ (tg_mem _ (m21 _).1 (m21 _).2)
theorem nm_ne (c : Int) {i j : Nat} (hi : i < 21) (hj : j < 21) (h : i ≠ j) : nm c i ≠ nm c j := fun e => by
  have e1 := mk_inj e
  have h8 : 0 ≤ c % 8 ∧ c % 8 < 8 := ⟨Int.emod_nonneg _ (by decide), Int.emod_lt_of_pos _ (by decide)⟩
  have hp : 0 ≤ c / 8 % (1 + c % 8) ∧ c / 8 % (1 + c % 8) < 1 + c % 8 := ⟨Int.emod_nonneg _ (by omega), Int.emod_lt_of_pos _ (by omega)⟩
  have pp : pl c < sz c := by unfold pl sz; omega
  have g : ∀ k : Nat, (nmL c k)[pl c]? = some (tg ((c / 64 + (k : Int)) % 21)) := fun k => by
    unfold nmL
    rw [List.getElem?_set_self (by rw [hS' c]; exact pp)]
  have e2 := congrArg (fun l => l[pl c]?) e1
  simp only [g, Option.some.injEq] at e2
  have := tg_inj (m21 _).1 (m21 _).2 (m21 _).1 (m21 _).2 e2
  omega
theorem nm_beq (c : Int) {i j : Nat} (hi : i < 21) (hj : j < 21) (h : i ≠ j) : (nm c i == nm c j) = false := by
  cases e : (nm c i == nm c j) with
  | false => rfl
  | true => exact absurd (eq_of_beq e) (nm_ne c hi hj h)
end K81
set_option Elab.async false
set_option linter.all false
set_option maxRecDepth 100000
set_option maxHeartbeats 4000000
namespace K81
open PySem L2 PI
structure WOk (nw : Nat) (ci cd cv : Int) (a b c : Nat) (h : Hh) : Prop where
  w : h[nw]? = some (.dK [(.inr "items", .loc a), (.inr "deeds", .loc b), (.inr "variables", .loc c)])
  i : h[a]? = some (.lst ((nms ci 3).map D.str))
  d : h[b]? = some (.lst ((nms cd 6).map D.str))
  v : h[c]? = some (.lst ((nms cv 3).map D.str))
theorem WOk.gr {nw : Nat} {ci cd cv : Int} {a b c : Nat} {h : Hh} (w : WOk nw ci cd cv a b c h) (J : Hh) : WOk nw ci cd cv a b c (h ++ J) := ⟨get_old w.w, get_old w.i, get_old w.d, get_old w.v⟩
section
variable {nw : Nat} {ci cd cv : Int} {a b c : Nat} {h : Hh}
theorem WOk.si (w : WOk nw ci cd cv a b c h) : subD (.loc nw) (.str "items") h = .ok (.loc a) h := by rw [sub_loc, w.w]; rfl
theorem WOk.sd (w : WOk nw ci cd cv a b c h) : subD (.loc nw) (.str "deeds") h = .ok (.loc b) h := by rw [sub_loc, w.w]; rfl
theorem WOk.sv (w : WOk nw ci cd cv a b c h) : subD (.loc nw) (.str "variables") h = .ok (.loc c) h := by rw [sub_loc, w.w]; rfl
theorem lst_at {n : Nat} {xs : List Str} {i : Int} (e : h[n]? = some (.lst (xs.map D.str))) (h0 : 0 ≤ i) (h1 : i < (xs.length : Int)) : subD (.loc n) (.int i) h = .ok (.str (xs.getD i.toNat "")) h := by
  rw [sub_loc, e]
  have hl : i.toNat < xs.length := by omega
  simp only [atI_pos h0, List.getElem?_map, List.getElem?_eq_getElem hl, Option.map_some, List.getD_eq_getElem?_getD, Option.getD_some]
end
theorem nms_len (c : Int) (m : Nat) : (nms c m).length = m := by unfold nms; simp
theorem nms_at (c : Int) (m i : Nat) (h : i < m) : (nms c m).getD i "" = nm c i := by
  unfold nms
  rw [List.getD_eq_getElem?_getD, List.getElem?_map, List.getElem?_range h]
  rfl
structure Ex (g : G) : Prop where
  hg : g.hg = false
  ok : g.ok = true
  sz : g.size ≤ 4
  en : g.ends = false
noncomputable def DrOk (cl : Nat → List D → Hh → Res D) : Prop := ∀ (c k : Int) (h : Hh), 0 ≤ k → k ≤ 100 → cl 12 [.int c, .int k] h = .ok (.int (dr c k)) h
theorem ops_at (i : Int) (h0 : 0 ≤ i) (h1 : i < 4) : ∃ o : Str, ∀ h, subD (.str "+-*<") (.int i) h = .ok (.str o) h := by
  refine ⟨mkS [(cs "+-*<").getD i.toNat 0], fun h => ?_⟩
  rw [sub_str, if_pos (by decide), atI_pos h0]
  show (match (cs "+-*<")[i.toNat]? with | some c => Res.ok (D.str ⟨#[c]⟩) h | none => Res.no) = _
  have hl : i.toNat < (cs "+-*<").length := by rw [show (cs "+-*<").length = 4 from rfl]; omega
  rw [List.getElem?_eq_getElem hl]
  simp [mkS, hl]
theorem r_expr (cl : Nat → List D → Hh → Res D) (C : DrOk cl) {nw : Nat} {ci cd cv : Int} {a b c : Nat} {h : Hh} (w : WOk nw ci cd cv a b c h) {nk : Nat} {K : List Str} (hk : h[nk]? = some (.lst (K.map D.str))) (h0 : K ≠ []) (x : Int) :
    ∃ g, d_law_expression.run cl [.int x, .loc nw, .loc nk] h = .ok g.d h ∧ Ex g := by
  have lk : 0 < K.length := List.length_pos_iff.mpr h0
  have c1 := fun h => C x 1 h (by decide) (by decide)
  have c2 := fun h => C x 2 h (by decide) (by decide)
  have c3 := fun h => C x 3 h (by decide) (by decide)
  have c4 := fun h => C x 4 h (by decide) (by decide)
  have c5 := fun h => C x 5 h (by decide) (by decide)
  have ln : lenD (.loc nk) h = .ok (.int K.length) h := by rw [len_loc, rd_of hk]; simp
  have lk' : (0 : Int) < (K.length : Int) := by omega
  have s1 := lst_at hk (i := dr x 1 % (K.length : Int)) (Int.emod_nonneg _ (by omega)) (Int.emod_lt_of_pos _ lk')
  obtain ⟨o, s2⟩ := ops_at (dr x 2 % 4) (Int.emod_nonneg _ (by decide)) (Int.emod_lt_of_pos _ (by decide))
  have s3 := lst_at w.d (i := dr x 5 % 6) (Int.emod_nonneg _ (by decide)) (by rw [nms_len]; exact Int.emod_lt_of_pos _ (by decide))
  have s4 := lst_at w.i (i := 2) (by decide) (by rw [nms_len]; decide)
  generalize hn : K.getD (dr x 1 % (K.length : Int)).toNat "" = kn at s1
  generalize ht : dr x 4 % 3 = t
  have h3 : t = 0 ∨ t = 1 ∨ t = 2 := by
    have := Int.emod_nonneg (dr x 4) (show (3 : Int) ≠ 0 by decide)
    have := Int.emod_lt_of_pos (dr x 4) (show (0 : Int) < 3 by decide)
    omega
  have b : ∀ y : Str, (G.nd (.op o) [vr y, nu (dr x 3 % 1000)]).d = .tup [.str "op", .str o, .tup [.str "var", .str y], .tup [.str "num", .int (dr x 3 % 1000)]] := fun y => by simp [G.d, Kd.enc, G.ds, vr, nu]
  rcases h3 with rfl | rfl | rfl
  · refine ⟨.nd (.doo ((nms cd 6).getD (dr x 5 % 6).toNat "")) [.nd (.op o) [vr kn, nu (dr x 3 % 1000)]], ?_, ?_⟩
    · simp [-cmp_eq, -cmp_ne, -len_loc, eqI, d_law_expression, Df.run, Ss.run, S.run, E.ev, E.evT, Es.ev, c1, c2, c3, c4, c5, ln, lk, lk', s1, s2, s3, ht, w.sd, w.si, outR]
      simp [G.d, Kd.enc, G.ds, vr, nu]
    · exact ⟨by simp [G.hg, G.hgs, Kd.isGo, vr, nu], by simp [G.ok, G.oks, Kd.ok, vr, nu], by simp [G.size, G.sizes, vr, nu], by simp [G.ends]⟩
  · refine ⟨.nd (.call ((nms ci 3).getD (2 : Int).toNat "") none) [.nd (.op o) [vr kn, nu (dr x 3 % 1000)]], ?_, ?_⟩
    · simp [-cmp_eq, -cmp_ne, -len_loc, eqI, d_law_expression, Df.run, Ss.run, S.run, E.ev, E.evT, Es.ev, c1, c2, c3, c4, c5, ln, lk, lk', s1, s2, s3, s4, ht, w.sd, w.si, outR]
      simp [G.d, Kd.enc, G.ds, vr, nu, optD]
    · exact ⟨by simp [G.hg, G.hgs, Kd.isGo, vr, nu], by simp [G.ok, G.oks, Kd.ok, vr, nu], by simp [G.size, G.sizes, vr, nu], by simp [G.ends]⟩
  · refine ⟨.nd (.op o) [vr kn, nu (dr x 3 % 1000)], ?_, ?_⟩
    · simp [-cmp_eq, -cmp_ne, -len_loc, eqI, d_law_expression, Df.run, Ss.run, S.run, E.ev, E.evT, Es.ev, c1, c2, c3, c4, c5, ln, lk, lk', s1, s2, s3, ht, w.sd, w.si, outR]
      simp [G.d, Kd.enc, G.ds, vr, nu]
    · exact ⟨by simp [G.hg, G.hgs, Kd.isGo, vr, nu], by simp [G.ok, G.oks, Kd.ok, vr, nu], by simp [G.size, G.sizes, vr, nu], by simp [G.ends]⟩
end K81
set_option Elab.async false
set_option linter.all false
set_option maxRecDepth 100000
set_option maxHeartbeats 4000000
namespace K81
open PySem L2 PI
noncomputable def gw (w : Int) : Bool := !(decide (1 ≤ w ∧ w ≤ 7))
structure Bo (s : Str) (w : Int) (n : Nat) (g : G) : Prop where
  ok : g.ok = true
  sz : g.size ≤ n
  wk : g.ends = true → g.wk
  gd : good s g = gw w
noncomputable def XpOk (cl : Nat → List D → Hh → Res D) : Prop := ∀ {nw : Nat} {ci cd cv : Int} {a b c : Nat} {h : Hh}, WOk nw ci cd cv a b c h → ∀ {nk : Nat} {K : List Str}, h[nk]? = some (.lst (K.map D.str)) → K ≠ [] → ∀ x : Int, ∃ g, cl 13 [.int x, .loc nw, .loc nk] h = .ok g.d h ∧ Ex g
theorem hg_vr (x : Str) : (vr x).hg = false := by simp [vr, G.hg, G.hgs, Kd.isGo]
theorem hg_nu (x : Int) : (nu x).hg = false := by simp [nu, G.hg, G.hgs, Kd.isGo]
theorem isVar_vr (x s : Str) : isVar s (vr x) = (x == s) := rfl
theorem filt {K : List Str} {s : Str} (hy : ∃ y ∈ K, y ≠ s) : 0 < (K.filter fun y => !(y == s)).length := by
  obtain ⟨y, h1, h2⟩ := hy
  have : y ∈ K.filter fun y => !(y == s) := by simp [h1, h2]
  exact List.length_pos_of_mem this
theorem r_go (cl : Nat → List D → Hh → Res D) (C : XpOk cl) {nw : Nat} {ci cd cv : Int} {a b c : Nat} {h : Hh} (wo : WOk nw ci cd cv a b c h) {nk : Nat} {K : List Str} (hk : h[nk]? = some (.lst (K.map D.str))) (s : Str) (hs : PyData.strOk s = true) (hK : ∀ y ∈ K, PyData.strOk y = true) (hy : ∃ y ∈ K, y ≠ s) (hl : K.length ≤ 1000) (hv : nm cv 2 ≠ s) (x w : Int) (w0 : 0 ≤ w) (w9 : w ≤ 9) :
    ∃ g J, d_law_go.run cl [.int x, .loc nw, .loc nk, .str s, .int w] h = .ok g.d (h ++ J) ∧ Bo s w 20 g := by
  have k0 : K ≠ [] := by obtain ⟨y, h1, _⟩ := hy; exact fun z => by rw [z] at h1; cases h1
  obtain ⟨f, c1, ef⟩ := C wo hk k0 x
  have sv := lst_at wo.v (i := 2) (by decide) (by rw [nms_len]; decide)
  rw [show ((2 : Int).toNat) = 2 from rfl, nms_at cv 3 2 (by decide)] at sv
  have hvb : (nm cv 2 == s) = false := by simp [hv]
  have e1 := ef.hg
  have e2 := ef.ok
  have e3 := ef.sz
  have e4 := ef.en
  obtain ⟨fk, fp⟩ := f
  generalize hf : G.nd fk fp = f at *
  by_cases h1 : w = 1
  · subst h1
    have key := compL_pure (c := [(nk, K.map D.str)]) (f := compF t_law_go_1 (capE [none, some 3] [some (.int x), some (.loc nw), some (.loc nk), some (.str s), some (.int 1), some f.d, some (vr s).d, none]) (fun ρ' h2 => c_law_go_1.evC cl ρ' h2) (fun ρ' h2 => e_law_go_1.ev cl ρ' h2)) (h := h)
      (stay_one.mpr (rd_of hk)) (fun z => match z with | .str y => (if !(y == s) then some (.str y) else none) | _ => none) (K.map D.str) [] (by
        intro z hz
        obtain ⟨y, hm, rfl⟩ := List.mem_map.mp hz
        have ne := fun h => neS (h := h) (hK y hm) hs
        cases hb : (y == s) with
        | true => rw [hb] at ne; simp [-cmp_ne, compF, t_law_go_1, bindT, capE, c_law_go_1, e_law_go_1, Es.evC, E.ev, ne, hb]
        | false => rw [hb] at ne; simp [-cmp_ne, compF, t_law_go_1, bindT, capE, c_law_go_1, e_law_go_1, Es.evC, E.ev, ne, hb])
    rw [List.nil_append, List.filterMap_map] at key
    have fm : ∀ (l : List Str), l.filterMap ((fun (z : D) => match z with | .str y => (if !(y == s) then some (D.str y) else none) | _ => none) ∘ D.str) = (l.filter fun y => !(y == s)).map D.str := by
      intro l
      induction l with
      | nil => rfl
      | cons a r ih =>
        rw [List.filterMap_cons, ih, List.filter_cons]
        cases hb : (a == s) with
        | true => have hb' : a = s := by simpa using hb
                  simp [hb']
        | false => have hb' : a ≠ s := by simpa using hb
                   simp [hb']
    rw [fm] at key
    have fl := filt hy
    have fa : ∀ y ∈ (K.filter fun y => !(y == s)), PyData.strOk y = true ∧ (y == s) = false := fun y hm => by
      have := List.mem_filter.mp hm
      exact ⟨hK y this.1, by simpa using this.2⟩
    generalize (K.filter fun y => !(y == s)) = O at key fl fa
    have l1 : K.length ≤ 1000000 := by omega
    have dv : (vr s).d = .tup [.str "var", .str s] := by simp [G.d, Kd.enc, G.ds, vr]
    rw [dv] at key
    have rk := rd_of hk
    have lo : (0 : Int) < (O.length : Int) := by omega
    have hx3 := hx0 h [.lst (O.map D.str)]
    have so : subD (.loc h.length) (.int (x % (O.length : Int))) (h ++ [.lst (O.map D.str)]) = .ok (.str (O.getD (x % (O.length : Int)).toNat "")) (h ++ [.lst (O.map D.str)]) := lst_at (by rw [hx0]; rfl) (Int.emod_nonneg _ (by omega)) (Int.emod_lt_of_pos _ lo)
    have ol : O.getD (x % (O.length : Int)).toNat "" ∈ O := by
      have hl : (x % (O.length : Int)).toNat < O.length := by have := Int.emod_lt_of_pos x lo; have := Int.emod_nonneg x (show (O.length : Int) ≠ 0 by omega); omega
      rw [List.getD_eq_getElem?_getD, List.getElem?_eq_getElem hl]
      exact List.getElem_mem hl
    generalize O.getD (x % (O.length : Int)).toNat "" = oo at so ol
    obtain ⟨o1, o2⟩ := fa oo ol
    have run : ∀ (kp : G), subD (.loc (h.length + 1)) (.int (x % 3)) (h ++ [.lst (O.map D.str), .lst [(nu (x % 5)).d, (G.nd (.op "+") [vr s, nu 0]).d, (vr oo).d]]) = .ok kp.d (h ++ [.lst (O.map D.str), .lst [(nu (x % 5)).d, (G.nd (.op "+") [vr s, nu 0]).d, (vr oo).d]]) →
        d_law_go.run cl [.int x, .loc nw, .loc nk, .str s, .int 1] h = .ok (G.nd .go [f, kp]).d (h ++ [.lst (O.map D.str), .lst [(nu (x % 5)).d, (G.nd (.op "+") [vr s, nu 0]).d, (vr oo).d]]) := by
      intro kp hkp
      have d1 : (nu (x % 5)).d = .tup [.str "num", .int (x % 5)] := by simp [G.d, Kd.enc, G.ds, nu]
      have d2 : (G.nd (.op "+") [vr s, nu 0]).d = .tup [.str "op", .str "+", .tup [.str "var", .str s], .tup [.str "num", .int 0]] := by simp [G.d, Kd.enc, G.ds, vr, nu]
      have d3 : (vr oo).d = .tup [.str "var", .str oo] := by simp [G.d, Kd.enc, G.ds, vr]
      have d4 : (G.nd .go [f, kp]).d = .tup [.str "go", f.d, kp.d] := by simp [G.d, Kd.enc, G.ds]
      rw [d1, d2, d3] at hkp ⊢
      rw [d4]
      simp [-cmp_eq, -cmp_ne, -len_loc, eqI, d_law_go, Df.run, Ss.run, S.run, E.ev, E.evT, Es.ev, c1, outR, L.ev, I.ev, rk, l1]
      erw [key]
      simp [-cmp_eq, -cmp_ne, eqI, new, rdx0, rd, lo, fl, so, hkp]
    have h3 : x % 3 = 0 ∨ x % 3 = 1 ∨ x % 3 = 2 := by omega
    have gg : ∀ kp : G, Sm kp → kp.hg = false → kp.ok = true → kp.size ≤ 3 → isVar s kp = false → Bo s 1 20 (.nd .go [f, kp]) := fun kp a1 a2 a3 a4 a5 =>
      ⟨by simp [G.ok, G.oks, Kd.ok, e2, a3], by simp [G.size, G.sizes]; omega, fun _ => by rw [G.wk]; exact a1, by simp [good, ends_go, e1, a2, G.st2, a5, gw]⟩
    have sb : ∀ i : Int, subD (.loc (h.length + 1)) (.int i) (h ++ [.lst (O.map D.str), .lst [(nu (x % 5)).d, (G.nd (.op "+") [vr s, nu 0]).d, (vr oo).d]]) = match atI [(nu (x % 5)).d, (G.nd (.op "+") [vr s, nu 0]).d, (vr oo).d] i with | some d => .ok d (h ++ [.lst (O.map D.str), .lst [(nu (x % 5)).d, (G.nd (.op "+") [vr s, nu 0]).d, (vr oo).d]]) | none => .no := fun i => by
      rw [sub_loc, hx]; rfl
    have so1 : PyData.strOk "+" = true := by decide +kernel
    rcases h3 with z | z | z
    · exact ⟨_, _, run (nu (x % 5)) (by rw [sb, z]; rfl), gg _ (.num _) (hg_nu _) (by simp [nu, G.ok, G.oks, Kd.ok]) (by simp [nu, G.size, G.sizes]) rfl⟩
    · exact ⟨_, _, run (.nd (.op "+") [vr s, nu 0]) (by rw [sb, z]; rfl), gg _ (.op _ _ _ so1 hs) (by simp [G.hg, G.hgs, Kd.isGo, hg_vr, hg_nu]) (by simp [vr, nu, G.ok, G.oks, Kd.ok]) (by simp [vr, nu, G.size, G.sizes]) rfl⟩
    · exact ⟨_, _, run (vr oo) (by rw [sb, z]; rfl), gg _ (.var _ o1) (hg_vr _) (by simp [vr, G.ok, G.oks, Kd.ok]) (by simp [vr, G.size, G.sizes]) o2⟩
  have cases9 : w = 0 ∨ w = 2 ∨ w = 3 ∨ w = 4 ∨ w = 5 ∨ w = 6 ∨ w = 7 ∨ w = 8 ∨ w = 9 := by omega
  rcases cases9 with rfl | rfl | rfl | rfl | rfl | rfl | rfl | rfl | rfl
  · refine ⟨.nd .go [f, vr s], [], ?_, ?_⟩
    · simp [-cmp_eq, -cmp_ne, eqI, d_law_go, Df.run, Ss.run, S.run, E.ev, E.evT, Es.ev, c1, wo.sv, sv, outR]
      simp [G.d, Kd.enc, G.ds, vr]
    · exact ⟨by simp [G.ok, G.oks, Kd.ok, vr, e2], by simp [G.size, G.sizes, vr]; omega, fun _ => by rw [G.wk]; exact .var s hs, by simp [good, ends_go, e1, hg_vr, G.st2, isVar_vr, gw]⟩
  · refine ⟨.nd (.lett s) [f, .nd .go [f, vr s]], [], ?_, ?_⟩
    · simp [-cmp_eq, -cmp_ne, eqI, d_law_go, Df.run, Ss.run, S.run, E.ev, E.evT, Es.ev, c1, wo.sv, sv, outR]
      simp [G.d, Kd.enc, G.ds, vr]
    · exact ⟨by simp [G.ok, G.oks, Kd.ok, vr, e2], by simp [G.size, G.sizes, vr]; omega, fun _ => by rw [G.wk, G.wk]; exact ⟨hs, .var s hs⟩, by simp [good, ends_go, ends_let, e1, hg_vr, G.st2, isVar_vr, gw]⟩
  · refine ⟨.nd (.op "+") [.nd .go [f, vr s], nu 0], [], ?_, ?_⟩
    · simp [-cmp_eq, -cmp_ne, eqI, d_law_go, Df.run, Ss.run, S.run, E.ev, E.evT, Es.ev, c1, wo.sv, sv, outR]
      simp [G.d, Kd.enc, G.ds, vr, nu]
    · exact ⟨by simp [G.ok, G.oks, Kd.ok, vr, nu, e2], by simp [G.size, G.sizes, vr, nu]; omega, fun z => by simp [G.ends] at z, by simp [good, G.ends, gw]⟩
  · refine ⟨.nd .guard [nu (x % 7), .nd .go [f, vr s]], [], ?_, ?_⟩
    · simp [-cmp_eq, -cmp_ne, eqI, d_law_go, Df.run, Ss.run, S.run, E.ev, E.evT, Es.ev, c1, wo.sv, sv, outR]
      simp [G.d, Kd.enc, G.ds, vr, nu]
    · exact ⟨by simp [G.ok, G.oks, Kd.ok, vr, nu, e2], by simp [G.size, G.sizes, vr, nu]; omega, fun z => by simp [G.ends] at z, by simp [good, G.ends, gw]⟩
  · have h2 : x % 2 = 0 ∨ x % 2 = 1 := by omega
    rcases h2 with h2 | h2
    · refine ⟨.nd .go [.nd .go [f, vr s], vr s], [.lst [(G.nd .go [.nd .go [f, vr s], vr s]).d, (G.nd .go [f, .nd .go [vr s, vr s]]).d]], ?_, ?_⟩
      · simp [-cmp_eq, -cmp_ne, eqI, d_law_go, Df.run, Ss.run, S.run, E.ev, E.evT, Es.ev, c1, wo.sv, sv, outR, h2, L.ev, new, sub_loc, atI, ixN]
        simp [G.d, Kd.enc, G.ds, vr, nu]
      · exact ⟨by simp [G.ok, G.oks, Kd.ok, vr, nu, e2], by simp [G.size, G.sizes, vr, nu]; omega, fun z => by simp [G.ends, G.hg, Kd.isGo] at z, by simp [good, G.ends, G.hg, Kd.isGo, gw]⟩
    · refine ⟨.nd .go [f, .nd .go [vr s, vr s]], [.lst [(G.nd .go [.nd .go [f, vr s], vr s]).d, (G.nd .go [f, .nd .go [vr s, vr s]]).d]], ?_, ?_⟩
      · simp [-cmp_eq, -cmp_ne, eqI, d_law_go, Df.run, Ss.run, S.run, E.ev, E.evT, Es.ev, c1, wo.sv, sv, outR, h2, L.ev, new, sub_loc, atI, ixN]
        simp [G.d, Kd.enc, G.ds, vr, nu]
      · exact ⟨by simp [G.ok, G.oks, Kd.ok, vr, nu, e2], by simp [G.size, G.sizes, vr, nu]; omega, fun z => by simp [G.ends, G.hg, Kd.isGo] at z, by simp [good, G.ends, G.hg, Kd.isGo, gw]⟩
  · refine ⟨.nd (.lett (nm cv 2)) [.nd .go [f, vr s], .nd .go [f, vr s]], [], ?_, ?_⟩
    · simp [-cmp_eq, -cmp_ne, eqI, d_law_go, Df.run, Ss.run, S.run, E.ev, E.evT, Es.ev, c1, wo.sv, sv, outR]
      simp [G.d, Kd.enc, G.ds, vr, nu]
    · exact ⟨by simp [G.ok, G.oks, Kd.ok, vr, nu, e2], by simp [G.size, G.sizes, vr, nu]; omega, fun z => by simp [G.ends, G.hg, Kd.isGo] at z, by simp [good, G.ends, G.hg, Kd.isGo, gw]⟩
  · refine ⟨f, [], ?_, ?_⟩
    · simp [-cmp_eq, -cmp_ne, eqI, d_law_go, Df.run, Ss.run, S.run, E.ev, E.evT, Es.ev, c1, wo.sv, sv, outR]
    · exact ⟨e2, by omega, fun z => absurd z (by rw [e4]; decide), by simp [good, e4, gw]⟩
  · refine ⟨.nd (.lett (nm cv 2)) [.nd (.lett s) [f, vr s], .nd .go [.nd (.lett s) [vr s, f], vr s]], [], ?_, ?_⟩
    · simp [-cmp_eq, -cmp_ne, eqI, d_law_go, Df.run, Ss.run, S.run, E.ev, E.evT, Es.ev, c1, wo.sv, sv, outR]
      simp [G.d, Kd.enc, G.ds, vr, nu]
    · exact ⟨by simp [G.ok, G.oks, Kd.ok, vr, nu, e2], by simp [G.size, G.sizes, vr, nu]; omega, fun z => by rw [G.wk, G.wk]; exact ⟨nm_ok _ _, .var s hs⟩, by simp [good, ends_go, ends_let, G.hg, G.hgs, Kd.isGo, e1, hg_vr, G.st2, isVar_vr, gw, hvb]⟩
  · refine ⟨.nd .go [f, vr s], [], ?_, ?_⟩
    · simp [-cmp_eq, -cmp_ne, eqI, d_law_go, Df.run, Ss.run, S.run, E.ev, E.evT, Es.ev, c1, wo.sv, sv, outR]
      simp [G.d, Kd.enc, G.ds, vr]
    · exact ⟨by simp [G.ok, G.oks, Kd.ok, vr, e2], by simp [G.size, G.sizes, vr]; omega, fun _ => by rw [G.wk]; exact .var s hs, by simp [good, ends_go, e1, hg_vr, G.st2, isVar_vr, gw]⟩
end K81
set_option Elab.async false
set_option linter.all false
set_option maxRecDepth 100000
set_option maxHeartbeats 4000000
namespace K81
open PySem L2 PI
noncomputable def bd : Nat → Nat
  | 0 => 20
  | n + 1 => 5 + 2 * bd n
theorem good_let (s x : Str) (f b : G) (hf : f.hg = false) : good s (.nd (.lett x) [f, b]) = (!(x == s) && good s b) := by
  unfold good
  rw [ends_let, hf, G.st2]
  cases b.ends <;> cases (x == s) <;> simp
theorem good_ite (s : Str) (f a b : G) (hf : f.hg = false) : good s (.nd .ite [f, a, b]) = (good s a && good s b) := by
  unfold good
  rw [ends_ite, hf, G.st2]
  cases a.ends <;> cases b.ends <;> simp
structure KOk (nk : Nat) (K : List Str) (s : Str) (m : Nat) (h : Hh) : Prop where
  k : h[nk]? = some (.lst (K.map D.str))
  ok : ∀ y ∈ K, PyData.strOk y = true
  ne : ∃ y ∈ K, y ≠ s
  l : K.length + m ≤ 100
theorem KOk.gr {nk : Nat} {K : List Str} {s : Str} {m : Nat} {h : Hh} (k : KOk nk K s m h) (J : Hh) : KOk nk K s m (h ++ J) := ⟨get_old k.k, k.ok, k.ne, k.l⟩
theorem KOk.dn {nk : Nat} {K : List Str} {s : Str} {m : Nat} {h : Hh} (k : KOk nk K s (m + 1) h) : KOk nk K s m h := ⟨k.k, k.ok, k.ne, by have := k.l; omega⟩
noncomputable def GoOk (cl : Nat → List D → Hh → Res D) : Prop := ∀ {nw : Nat} {ci cd cv : Int} {a b c : Nat} {h : Hh}, WOk nw ci cd cv a b c h → ∀ {nk : Nat} {K : List Str} {s : Str} {m : Nat}, KOk nk K s m h → PyData.strOk s = true → nm cv 2 ≠ s → ∀ x w : Int, 0 ≤ w → w ≤ 9 →
  ∃ g J, cl 14 [.int x, .loc nw, .loc nk, .str s, .int w] h = .ok g.d (h ++ J) ∧ Bo s w 20 g
noncomputable def ClAt (cl : Nat → List D → Hh → Res D) (n : Nat) : Prop := ∀ {nw : Nat} {ci cd cv : Int} {a b c : Nat} {h : Hh}, WOk nw ci cd cv a b c h → ∀ {nk : Nat} {K : List Str} {s : Str}, KOk nk K s n h → PyData.strOk s = true → nm cv 2 ≠ s → ∀ x w : Int, 0 ≤ w → w ≤ 9 →
  ∃ g J, cl 15 [.int x, .int (n : Nat), .loc nw, .loc nk, .str s, .int w] h = .ok g.d (h ++ J) ∧ Bo s w (bd n) g
theorem r_clause0 (cl : Nat → List D → Hh → Res D) (C : DrOk cl) (Cg : GoOk cl) {nw : Nat} {ci cd cv : Int} {a b c : Nat} {h : Hh} (wo : WOk nw ci cd cv a b c h) {nk : Nat} {K : List Str} {s : Str} (ko : KOk nk K s 0 h) (hs : PyData.strOk s = true) (hv : nm cv 2 ≠ s) (x w : Int) (w0 : 0 ≤ w) (w9 : w ≤ 9) :
    ∃ g J, d_law_clause.run cl [.int x, .int 0, .loc nw, .loc nk, .str s, .int w] h = .ok g.d (h ++ J) ∧ Bo s w (bd 0) g := by
  obtain ⟨g, J, e, q⟩ := Cg wo ko hs hv x w w0 w9
  have c6 := fun h => C x 6 h (by decide) (by decide)
  refine ⟨g, J, ?_, q⟩
  simp [-cmp_eq, -cmp_ne, eqI, d_law_clause, Df.run, Ss.run, S.run, E.ev, E.evT, Es.ev, c6, e, outR]
theorem r_clauseS (cl : Nat → List D → Hh → Res D) (n : Nat) (hn : n ≤ 10) (C : DrOk cl) (Cx : XpOk cl) (Cg : GoOk cl) (Cc : ClAt cl n) {nw : Nat} {ci cd cv : Int} {a b c : Nat} {h : Hh} (wo : WOk nw ci cd cv a b c h) {nk : Nat} {K : List Str} {s : Str} (ko : KOk nk K s (n + 1) h) (hs : PyData.strOk s = true) (hv : nm cv 2 ≠ s) (x w : Int) (w0 : 0 ≤ w) (w9 : w ≤ 9) :
    ∃ g J, d_law_clause.run cl [.int x, .int ((n : Int) + 1), .loc nw, .loc nk, .str s, .int w] h = .ok g.d (h ++ J) ∧ Bo s w (bd (n + 1)) g := by
  have c6 := fun h => C x (6 + ((n : Int) + 1)) h (by omega) (by omega)
  have c12 := fun h => C x (12 + ((n : Int) + 1)) h (by omega) (by omega)
  have c11 := fun h => C x 11 h (by decide) (by decide)
  have n0 : ((n : Int) + 1 == 0) = false := by simp; omega
  have k0 : K ≠ [] := by obtain ⟨y, h1, _⟩ := ko.ne; exact fun z => by rw [z] at h1; cases h1
  have b1 : 20 ≤ bd n := by
    clear Cc ko
    induction n with
    | zero => exact Nat.le_refl _
    | succ n ih => rw [bd]; have := ih (by omega) (fun h => C x (6 + ((n : Int) + 1)) h (by omega) (by omega)) (fun h => C x (12 + ((n : Int) + 1)) h (by omega) (by omega)) (by simp; omega); omega
  generalize ht : dr x (6 + ((n : Int) + 1)) % 3 = t
  have h3 : t = 0 ∨ t = 1 ∨ t = 2 := by
    have := Int.emod_nonneg (dr x (6 + ((n : Int) + 1))) (show (3 : Int) ≠ 0 by decide)
    have := Int.emod_lt_of_pos (dr x (6 + ((n : Int) + 1))) (show (0 : Int) < 3 by decide)
    omega
  by_cases t0 : t = 0
  · subst t0
    obtain ⟨g, J, e, q⟩ := Cg wo ko hs hv x w w0 w9
    refine ⟨g, J, ?_, ⟨q.ok, Nat.le_trans q.sz (by rw [bd]; omega), q.wk, q.gd⟩⟩
    simp [-cmp_eq, -cmp_ne, eqI, d_law_clause, Df.run, Ss.run, S.run, E.ev, E.evT, Es.ev, Es.evOr, c6, ht, n0, e, outR]
  have tn : (t == 0) = false := by simp [t0]
  obtain ⟨f, ex, ef⟩ := Cx wo ko.k k0 (x / 3 + ((n : Int) + 1))
  have e1 := ef.hg
  have e2 := ef.ok
  have e3 := ef.sz
  have e4 := ef.en
  generalize hb : (if w = 2 then (dr x (12 + ((n : Int) + 1)) % 2 == 0) else false) = b2
  cases b2 with
  | true =>
    have w2 : w = 2 := by
      by_cases z : w = 2
      · exact z
      · rw [if_neg z] at hb; cases hb
    subst w2
    rw [if_pos rfl] at hb
    obtain ⟨g, J, e, q⟩ := Cc wo ko.dn hs hv x 0 (by decide) (by decide)
    refine ⟨.nd (.lett s) [f, g], J, ?_, ?_⟩
    · simp [-cmp_eq, -cmp_ne, eqI, d_law_clause, Df.run, Ss.run, S.run, E.ev, E.evT, Es.ev, Es.evOr, Es.evAnd, c6, c12, ht, n0, tn, ex, hb, e, outR]
      simp [G.d, Kd.enc, G.ds]
    · exact ⟨by simp [G.ok, G.oks, Kd.ok, e2, q.ok], by have := q.sz; simp [G.size, G.sizes, bd]; omega, fun z => by rw [ends_let] at z; rw [G.wk]; simp at z; exact ⟨hs, q.wk z.2⟩, by rw [good_let _ _ _ _ e1]; simp [gw]⟩
  | false =>
    have sk : Ss.run cl d_law_clause.body [some (.int x), some (.int ((n : Int) + 1)), some (.loc nw), some (.loc nk), some (.str s), some (.int w), none, none, none, none, none] h = Ss.run cl (dropS 4 d_law_clause.body) [some (.int x), some (.int ((n : Int) + 1)), some (.loc nw), some (.loc nk), some (.str s), some (.int w), some (.int t), some f.d, none, none, none] h := by
      rw [run_at cl 4]
      by_cases z : w = 2
      · subst z
        rw [if_pos rfl] at hb
        simp [-cmp_eq, -cmp_ne, eqI, takeS, dropS, d_law_clause, Ss.run, S.run, E.ev, E.evT, Es.ev, Es.evOr, Es.evAnd, c6, c12, ht, n0, tn, ex, hb]
      · have z' : (w == 2) = false := by simp [z]
        simp [-cmp_eq, -cmp_ne, eqI, takeS, dropS, d_law_clause, Ss.run, S.run, E.ev, E.evT, Es.ev, Es.evOr, Es.evAnd, c6, c12, ht, n0, tn, ex, z']
    have rn : d_law_clause.run cl [.int x, .int ((n : Int) + 1), .loc nw, .loc nk, .str s, .int w] h = outR (Ss.run cl (dropS 4 d_law_clause.body) [some (.int x), some (.int ((n : Int) + 1)), some (.loc nw), some (.loc nk), some (.str s), some (.int w), some (.int t), some f.d, none, none, none] h) := by
      rw [← sk]; rfl
    rw [rn]
    have dm : (n : Int) + 1 - 1 = (n : Int) := by omega
    by_cases t1 : t = 1
    · subst t1
      have sv := lst_at wo.v (i := 2) (by decide) (by rw [nms_len]; decide)
      rw [show ((2 : Int).toNat) = 2 from rfl, nms_at cv 3 2 (by decide)] at sv
      have kl : 0 < K.length := List.length_pos_iff.mpr k0
      have sk0 := lst_at ko.k (i := 0) (by decide) (by omega)
      rw [show ((0 : Int).toNat) = 0 from rfl] at sk0
      have k0m : K.getD 0 "" ∈ K := by
        rw [List.getD_eq_getElem?_getD, List.getElem?_eq_getElem kl]
        exact List.getElem_mem kl
      generalize K.getD 0 "" = y0 at sk0 k0m
      have hy0 := ko.ok y0 k0m
      obtain ⟨fk, fp⟩ := f
      have f0 := fun h => sub_0 fk (G.ds fp) h
      rw [← G.d] at f0
      have fe := fun h => eqS (h := h) (tag_ok fk) so_op
      have fn := fun h => neS (h := h) hs hy0
      have step : ∀ (nmx : Str), PyData.strOk nmx = true → nmx ≠ s → (∀ q h1, cl 15 [.int x, .int (n : Nat), .loc nw, .loc (h.length + 1), .str s, .int w] (h ++ [.lst [.str nmx], .lst (K.map D.str ++ [.str nmx])]) = .ok q h1 →
          Ss.run cl (dropS 4 d_law_clause.body) [some (.int x), some (.int ((n : Int) + 1)), some (.loc nw), some (.loc nk), some (.str s), some (.int w), some (.int 1), some (G.nd fk fp).d, none, none, none] h = .rt (.tup [.str "let", .str nmx, (G.nd fk fp).d, q]) h1) →
          ∃ g J, outR (Ss.run cl (dropS 4 d_law_clause.body) [some (.int x), some (.int ((n : Int) + 1)), some (.loc nw), some (.loc nk), some (.str s), some (.int w), some (.int 1), some (G.nd fk fp).d, none, none, none] h) = .ok g.d (h ++ J) ∧ Bo s w (bd (n + 1)) g := by
        intro nmx q1 q2 q3
        have wo' := wo.gr [.lst [.str nmx], .lst (K.map D.str ++ [.str nmx])]
        have ko' : KOk (h.length + 1) (K ++ [nmx]) s n (h ++ [.lst [.str nmx], .lst (K.map D.str ++ [.str nmx])]) := by
          refine ⟨by rw [hx]; simp, fun y hy => ?_, ?_, by have := ko.l; simp; omega⟩
          · rcases List.mem_append.mp hy with z | z
            · exact ko.ok y z
            · rw [List.mem_singleton.mp z]; exact q1
          · obtain ⟨y, z1, z2⟩ := ko.ne
            exact ⟨y, List.mem_append_left _ z1, z2⟩
        obtain ⟨g, J, e, q⟩ := Cc wo' ko' hs hv x w w0 w9
        refine ⟨.nd (.lett nmx) [.nd fk fp, g], [.lst [.str nmx], .lst (K.map D.str ++ [.str nmx])] ++ J, ?_, ?_⟩
        · rw [q3 _ _ e]
          simp only [outR]
          rw [List.append_assoc]
          simp [G.d, Kd.enc, G.ds]
        · have nb : (nmx == s) = false := by simp [q2]
          exact ⟨by rw [G.ok, G.oks, G.oks, G.oks, e2, q.ok]; rfl, by have := q.sz; simp [G.size, G.sizes, bd] at e3 ⊢; omega, fun z => by rw [ends_let] at z; rw [G.wk]; simp at z; exact ⟨q1, q.wk z.2⟩, by rw [good_let _ _ _ _ e1, nb, q.gd]; rfl⟩
      have ll : (K.map D.str).length + 1 ≤ 1000000 := by have := ko.l; simp; omega
      have ll' : K.length + 1 ≤ 1000000 := by have := ko.l; omega
      have hko := ko.k
      cases hop : (fk.tag == ("op" : Str)) with
      | false =>
        rw [hop] at fe
        refine step (nm cv 2) (nm_ok _ _) hv fun q h1 e => ?_
        simp [-cmp_eq, -cmp_ne, eqI, dropS, d_law_clause, Ss.run, S.run, E.ev, E.evT, Es.ev, Es.evOr, Es.evAnd, wo.sv, sv, f0, fe, L.ev, new, get_old hko, hx0, ll', dm, e]
      | true =>
        rw [hop] at fe
        cases hne : (s == y0) with
        | false =>
          rw [hne] at fn
          have q2 : y0 ≠ s := by intro z; rw [z] at hne; simp at hne
          refine step y0 hy0 q2 fun q h1 e => ?_
          simp [-cmp_eq, -cmp_ne, eqI, dropS, d_law_clause, Ss.run, S.run, E.ev, E.evT, Es.ev, Es.evOr, Es.evAnd, wo.sv, sv, f0, fe, fn, sk0, L.ev, new, get_old hko, hx0, ll', dm, e]
        | true =>
          rw [hne] at fn
          refine step (nm cv 2) (nm_ok _ _) hv fun q h1 e => ?_
          simp [-cmp_eq, -cmp_ne, eqI, dropS, d_law_clause, Ss.run, S.run, E.ev, E.evT, Es.ev, Es.evOr, Es.evAnd, wo.sv, sv, f0, fe, fn, sk0, L.ev, new, get_old hko, hx0, ll', dm, e]
    · have t2 : t = 2 := by omega
      subst t2
      obtain ⟨g1, J1, c1, q1⟩ := Cc wo ko.dn hs hv (x / 5 + 1) 0 (by decide) (by decide)
      obtain ⟨g2, J2, c2, q2⟩ := Cc (wo.gr J1) (ko.gr J1).dn hs hv (x / 7) w w0 w9
      have sz1 := q1.sz
      have sz2 := q2.sz
      have e5 : dr x 11 % 2 = 0 ∨ dr x 11 % 2 = 1 := by omega
      have g0 : gw 0 = true := by decide
      rcases e5 with e5 | e5
      · refine ⟨.nd .ite [f, g1, g2], J1 ++ J2, ?_, ?_⟩
        · simp only [List.append_assoc] at c2
          simp [-cmp_eq, -cmp_ne, eqI, dropS, d_law_clause, Ss.run, S.run, E.ev, E.evT, Es.ev, Es.evOr, Es.evAnd, c11, e5, dm, c1, c2, outR]
          simp [G.d, Kd.enc, G.ds]
        · exact ⟨by simp [G.ok, G.oks, Kd.ok, e2, q1.ok, q2.ok], by simp [G.size, G.sizes, bd]; omega, fun z => by rw [ends_ite] at z; rw [G.wk]; simp at z; exact ⟨q1.wk z.2.1, q2.wk z.2.2⟩, by rw [good_ite _ _ _ _ e1, q1.gd, q2.gd, g0, Bool.true_and]⟩
      · refine ⟨.nd .ite [f, g2, g1], J1 ++ J2, ?_, ?_⟩
        · simp only [List.append_assoc] at c2
          simp [-cmp_eq, -cmp_ne, eqI, dropS, d_law_clause, Ss.run, S.run, E.ev, E.evT, Es.ev, Es.evOr, Es.evAnd, c11, e5, dm, c1, c2, outR]
          simp [G.d, Kd.enc, G.ds]
        · exact ⟨by simp [G.ok, G.oks, Kd.ok, e2, q1.ok, q2.ok], by simp [G.size, G.sizes, bd]; omega, fun z => by rw [ends_ite] at z; rw [G.wk]; simp at z; exact ⟨q2.wk z.2.1, q1.wk z.2.2⟩, by rw [good_ite _ _ _ _ e1, q1.gd, q2.gd, g0, Bool.and_true]⟩
end K81
set_option Elab.async false
set_option linter.all false
set_option maxRecDepth 100000
set_option maxHeartbeats 4000000
namespace K81
open PySem L2 PI
structure CdOk (w : Int) (q : Cl) : Prop where
  bd : Bd q.s q.g
  gd : good q.s q.g = gw w
theorem ints_at {h : Hh} {n : Nat} {xs : List Int} {i : Nat} (e : h[n]? = some (.lst (xs.map D.int))) (h1 : i < xs.length) : subD (.loc n) (.int (i : Nat)) h = .ok (.int (xs.getD i 0)) h := by
  rw [sub_loc, e]
  simp only [PI.atI_nat, List.getElem?_map, List.getElem?_eq_getElem h1, Option.map_some, List.getD_eq_getElem?_getD, Option.getD_some]
theorem turn_3 (cl : Nat → List D → Hh → Res D) (Cc : ClAt cl 3) {nw : Nat} {ci cd cv : Int} {a b c : Nat} {H : Hh} (wo : WOk nw ci cd cv a b c H) (ncs : Nat) (xs : List Int) (hc : H[ncs]? = some (.lst (xs.map D.int))) (nmD : D) (w : Int) (w0 : 0 ≤ w) (w9 : w ≤ 9) (at' : Int) (nc : D) (k : Nat) (hk : k < xs.length) (o1 o2 o3 : Option D) :
    ∃ (q : Cl) (here : D) (kn : D) (J : Hh), Ss.run cl (takeS 3 b_law_handler_1) [some (.loc ncs), some nmD, some (.loc nw), some (.int w), some (.int at'), some (.str (nm cv 0)), some (.str (nm cv 1)), some nc, some (.int (k : Nat)), o1, o2, o3, none] H =
      .nx [some (.loc ncs), some nmD, some (.loc nw), some (.int w), some (.int at'), some (.str (nm cv 0)), some (.str (nm cv 1)), some nc, some (.int (k : Nat)), some here, some kn, some q.g.d, none] (H ++ J) ∧
      subD kn (.int 0) (H ++ J) = .ok (.str q.x) (H ++ J) ∧ subD kn (.int 1) (H ++ J) = .ok (.str q.s) (H ++ J) ∧ CdOk (if (k : Int) = at' then w else 0) q := by
  have s1 := ints_at hc hk
  generalize hvv : xs.getD k 0 = v at s1
  have ne01 : nm cv 0 ≠ nm cv 1 := nm_ne cv (by decide) (by decide) (by decide)
  have ne20 : nm cv 2 ≠ nm cv 0 := nm_ne cv (by decide) (by decide) (by decide)
  have ne21 : nm cv 2 ≠ nm cv 1 := nm_ne cv (by decide) (by decide) (by decide)
  have e2 : v % 2 = 0 ∨ v % 2 = 1 := by omega
  have main : ∀ (hw : Int) (bv : Bool), ((k : Int) == at') = bv → (if bv then w else 0) = hw →
      ∀ (x s : Str), ((x = nm cv 0 ∧ s = nm cv 1 ∧ v % 2 = 0) ∨ (x = nm cv 1 ∧ s = nm cv 0 ∧ v % 2 = 1)) → ∃ (q : Cl) (here : D) (kn : D) (J : Hh), Ss.run cl (takeS 3 b_law_handler_1) [some (.loc ncs), some nmD, some (.loc nw), some (.int w), some (.int at'), some (.str (nm cv 0)), some (.str (nm cv 1)), some nc, some (.int (k : Nat)), o1, o2, o3, none] H =
      .nx [some (.loc ncs), some nmD, some (.loc nw), some (.int w), some (.int at'), some (.str (nm cv 0)), some (.str (nm cv 1)), some nc, some (.int (k : Nat)), some here, some kn, some q.g.d, none] (H ++ J) ∧
      subD kn (.int 0) (H ++ J) = .ok (.str q.x) (H ++ J) ∧ subD kn (.int 1) (H ++ J) = .ok (.str q.s) (H ++ J) ∧ CdOk hw q := by
    intro hw bv hbv ehw x s hxs
    have hw0 : 0 ≤ hw := by rw [← ehw]; split <;> omega
    have hw9 : hw ≤ 9 := by rw [← ehw]; split <;> omega
    have hs : PyData.strOk s = true := by rcases hxs with ⟨_, rfl, _⟩ | ⟨_, rfl, _⟩ <;> exact nm_ok _ _
    have hv : nm cv 2 ≠ s := by rcases hxs with ⟨_, rfl, _⟩ | ⟨_, rfl, _⟩ <;> assumption
    let l : Hh := [.lst [.int 0, .int w], .lst [.str (nm cv 0), .str (nm cv 1)], .lst [.str (nm cv 1), .str (nm cv 0)], .lst [.loc (H.length + 1), .loc (H.length + 2)], .lst [.str (nm cv 0), .str (nm cv 1)]]
    have ko : KOk (H.length + 4) [nm cv 0, nm cv 1] s 3 (H ++ l) := by
      refine ⟨by rw [hx]; rfl, fun y hy => ?_, ?_, by simp⟩
      · simp at hy; rcases hy with rfl | rfl <;> exact nm_ok _ _
      · rcases hxs with ⟨_, rfl, _⟩ | ⟨_, rfl, _⟩
        · exact ⟨nm cv 0, by simp, ne01⟩
        · exact ⟨nm cv 1, by simp, Ne.symm ne01⟩
    obtain ⟨g, J, e, q⟩ := Cc (wo.gr l) ko hs hv (v / 2) hw hw0 hw9
    have g1 : ∀ h', (H ++ (.lst [.int 0, .int w] :: .lst [.str (nm cv 0), .str (nm cv 1)] :: .lst [.str (nm cv 1), .str (nm cv 0)] :: h'))[H.length + 1]? = some (.lst [.str (nm cv 0), .str (nm cv 1)]) := fun h' => by rw [hx]; rfl
    have g2 : ∀ h', (H ++ (.lst [.int 0, .int w] :: .lst [.str (nm cv 0), .str (nm cv 1)] :: .lst [.str (nm cv 1), .str (nm cv 0)] :: h'))[H.length + 2]? = some (.lst [.str (nm cv 1), .str (nm cv 0)]) := fun h' => by rw [hx]; rfl
    have g3 : ∀ h', (H ++ (.lst [.int 0, .int w] :: .lst [.str (nm cv 0), .str (nm cv 1)] :: .lst [.str (nm cv 1), .str (nm cv 0)] :: .lst [.loc (H.length + 1), .loc (H.length + 2)] :: h'))[H.length + 3]? = some (.lst [.loc (H.length + 1), .loc (H.length + 2)]) := fun h' => by rw [hx]; rfl
    have s1' : ∀ J, subD (.loc ncs) (.int (k : Nat)) (H ++ J) = .ok (.int v) (H ++ J) := fun J => by
      have := ints_at (get_old (l := J) hc) hk
      rw [hvv] at this
      exact this
    have g0 : ∀ h', (H ++ (.lst [.int 0, .int w] :: h'))[H.length]? = some (.lst [.int 0, .int w]) := fun h' => by rw [hx0]; rfl
    have bdd : Bd s g := ⟨q.ok, Nat.le_trans q.sz (by decide), hs, q.wk⟩
    have u0 : ∀ h', subD (.loc H.length) (.int 0) (H ++ .lst [.int 0, .int w] :: h') = .ok (.int 0) (H ++ .lst [.int 0, .int w] :: h') := fun h' => by rw [sub_loc, g0]; rfl
    have u0' : ∀ h', subD (.loc H.length) (.int 1) (H ++ .lst [.int 0, .int w] :: h') = .ok (.int w) (H ++ .lst [.int 0, .int w] :: h') := fun h' => by rw [sub_loc, g0]; rfl
    have u1 : ∀ h', subD (.loc (H.length + 1)) (.int 1) (H ++ (.lst [.int 0, .int w] :: .lst [.str (nm cv 0), .str (nm cv 1)] :: .lst [.str (nm cv 1), .str (nm cv 0)] :: h')) = .ok (.str (nm cv 1)) (H ++ (.lst [.int 0, .int w] :: .lst [.str (nm cv 0), .str (nm cv 1)] :: .lst [.str (nm cv 1), .str (nm cv 0)] :: h')) := fun h' => by rw [sub_loc, g1]; rfl
    have u1' : ∀ h', subD (.loc (H.length + 1)) (.int 0) (H ++ (.lst [.int 0, .int w] :: .lst [.str (nm cv 0), .str (nm cv 1)] :: .lst [.str (nm cv 1), .str (nm cv 0)] :: h')) = .ok (.str (nm cv 0)) (H ++ (.lst [.int 0, .int w] :: .lst [.str (nm cv 0), .str (nm cv 1)] :: .lst [.str (nm cv 1), .str (nm cv 0)] :: h')) := fun h' => by rw [sub_loc, g1]; rfl
    have u2 : ∀ h', subD (.loc (H.length + 2)) (.int 1) (H ++ (.lst [.int 0, .int w] :: .lst [.str (nm cv 0), .str (nm cv 1)] :: .lst [.str (nm cv 1), .str (nm cv 0)] :: h')) = .ok (.str (nm cv 0)) (H ++ (.lst [.int 0, .int w] :: .lst [.str (nm cv 0), .str (nm cv 1)] :: .lst [.str (nm cv 1), .str (nm cv 0)] :: h')) := fun h' => by rw [sub_loc, g2]; rfl
    have u2' : ∀ h', subD (.loc (H.length + 2)) (.int 0) (H ++ (.lst [.int 0, .int w] :: .lst [.str (nm cv 0), .str (nm cv 1)] :: .lst [.str (nm cv 1), .str (nm cv 0)] :: h')) = .ok (.str (nm cv 1)) (H ++ (.lst [.int 0, .int w] :: .lst [.str (nm cv 0), .str (nm cv 1)] :: .lst [.str (nm cv 1), .str (nm cv 0)] :: h')) := fun h' => by rw [sub_loc, g2]; rfl
    have u3 : ∀ h', subD (.loc (H.length + 3)) (.int 0) (H ++ (.lst [.int 0, .int w] :: .lst [.str (nm cv 0), .str (nm cv 1)] :: .lst [.str (nm cv 1), .str (nm cv 0)] :: .lst [.loc (H.length + 1), .loc (H.length + 2)] :: h')) = .ok (.loc (H.length + 1)) (H ++ (.lst [.int 0, .int w] :: .lst [.str (nm cv 0), .str (nm cv 1)] :: .lst [.str (nm cv 1), .str (nm cv 0)] :: .lst [.loc (H.length + 1), .loc (H.length + 2)] :: h')) := fun h' => by rw [sub_loc, g3]; rfl
    have u3' : ∀ h', subD (.loc (H.length + 3)) (.int 1) (H ++ (.lst [.int 0, .int w] :: .lst [.str (nm cv 0), .str (nm cv 1)] :: .lst [.str (nm cv 1), .str (nm cv 0)] :: .lst [.loc (H.length + 1), .loc (H.length + 2)] :: h')) = .ok (.loc (H.length + 2)) (H ++ (.lst [.int 0, .int w] :: .lst [.str (nm cv 0), .str (nm cv 1)] :: .lst [.str (nm cv 1), .str (nm cv 0)] :: .lst [.loc (H.length + 1), .loc (H.length + 2)] :: h')) := fun h' => by rw [sub_loc, g3]; rfl
    simp only [l] at e
    rcases hxs with ⟨rfl, rfl, hv2⟩ | ⟨rfl, rfl, hv2⟩
    · refine ⟨⟨"", nm cv 0, nm cv 1, g⟩, .int hw, .loc (H.length + 1), l ++ J, ?_, ?_, ?_, ⟨bdd, q.gd⟩⟩
      · subst ehw
        cases bv <;> simp at e <;> simp [-cmp_eq, -cmp_ne, eqI, takeS, b_law_handler_1, Ss.run, S.run, E.ev, Es.ev, L.ev, new, hbv, c1D, u0, u0', u1, u2, u3, u3', s1', hv2, e, l]
      · exact u1' _
      · exact u1 _
    · refine ⟨⟨"", nm cv 1, nm cv 0, g⟩, .int hw, .loc (H.length + 2), l ++ J, ?_, ?_, ?_, ⟨bdd, q.gd⟩⟩
      · subst ehw
        cases bv <;> simp at e <;> simp [-cmp_eq, -cmp_ne, eqI, takeS, b_law_handler_1, Ss.run, S.run, E.ev, Es.ev, L.ev, new, hbv, c1D, u0, u0', u1, u2, u3, u3', s1', hv2, e, l]
      · exact u2' _
      · exact u2 _
  have ex : ∃ x s, (x = nm cv 0 ∧ s = nm cv 1 ∧ v % 2 = 0) ∨ (x = nm cv 1 ∧ s = nm cv 0 ∧ v % 2 = 1) := by
    rcases e2 with z | z
    · exact ⟨_, _, .inl ⟨rfl, rfl, z⟩⟩
    · exact ⟨_, _, .inr ⟨rfl, rfl, z⟩⟩
  obtain ⟨x, s, hxs⟩ := ex
  by_cases z : (k : Int) = at'
  · rw [if_pos z]; exact main w true (by simp [z]) rfl x s hxs
  · rw [if_neg z]; exact main 0 false (by simp [z]) rfl x s hxs
end K81
set_option Elab.async false
set_option linter.all false
set_option maxRecDepth 100000
set_option maxHeartbeats 4000000
namespace K81
open PySem L2 PI
theorem handler_loop (cl : Nat → List D → Hh → Res D) (Cc : ClAt cl 3) {nw : Nat} {ci cd cv : Int} {a b c : Nat} {h : Hh} (wo : WOk nw ci cd cv a b c h) (ncs : Nat) (xs : List Int) (hc : h[ncs]? = some (.lst (xs.map D.int))) (hl : xs.length ≤ 6) (nmD : D) (w : Int) (w0 : 0 ≤ w) (w9 : w ≤ 9) (at' : Int) (A : O) :
    ∀ (ks : List Nat) (cs : List Cl) (J : Hh) (o0 o1 o2 o3 : Option D), (∀ k ∈ ks, k < xs.length) → cs.length + ks.length ≤ 1000 →
      ∃ cs' J' o0' o1' o2' o3', forL [] (stepF t_law_handler_1 fun ρ' h' => b_law_handler_1.run cl ρ' h') (ks.map fun (k : Nat) => D.int (k : Nat)) [some (.loc ncs), some nmD, some (.loc nw), some (.int w), some (.int at'), some (.str (nm cv 0)), some (.str (nm cv 1)), some (.loc (h.length + 1)), o0, o1, o2, o3, none] (h ++ A :: .lst (cs.map Cl.D) :: J) =
        .nx [some (.loc ncs), some nmD, some (.loc nw), some (.int w), some (.int at'), some (.str (nm cv 0)), some (.str (nm cv 1)), some (.loc (h.length + 1)), o0', o1', o2', o3', none] (h ++ A :: .lst ((cs ++ cs').map Cl.D) :: J') ∧ Paired (fun (k : Nat) (q : Cl) => CdOk (if (k : Int) = at' then w else 0) q) ks cs'
  | [], cs, J, o0, o1, o2, o3, _, _ => ⟨[], J, o0, o1, o2, o3, by simp [forL, stay_nil], .nil⟩
  | k :: ks, cs, J, o0, o1, o2, o3, hk, hlen => by
    have hkk := hk k (List.mem_cons_self ..)
    obtain ⟨q, here, kn, J1, e, x0, x1, ok⟩ := turn_3 cl Cc (wo.gr (A :: .lst (cs.map Cl.D) :: J)) ncs xs (get_old hc) nmD w w0 w9 at' (.loc (h.length + 1)) k hkk o1 o2 o3
    have sd := lst_at (get_old (l := A :: .lst (cs.map Cl.D) :: J ++ J1) wo.d) (i := (k : Int)) (by omega) (by rw [nms_len]; omega)
    have wd := (wo.gr (A :: .lst (cs.map Cl.D) :: J ++ J1)).sd
    generalize (nms cd 6).getD (k : Int).toNat "" = dn at sd
    obtain ⟨cs', J', p0, p1, p2, p3, ih, pr⟩ := handler_loop cl Cc wo ncs xs hc hl nmD w w0 w9 at' A ks (cs ++ [⟨dn, q.x, q.s, q.g⟩]) (J ++ J1) (some (.int (k : Nat))) (some here) (some kn) (some q.g.d) (fun z hz => hk z (List.mem_cons_of_mem _ hz)) (by simp at hlen ⊢; omega)
    refine ⟨⟨dn, q.x, q.s, q.g⟩ :: cs', J', p0, p1, p2, p3, ?_, .cons ⟨ok.bd, ok.gd⟩ pr⟩
    have e9 : ∀ J2 : Hh, (h ++ A :: .lst (cs.map Cl.D) :: J) ++ J2 = h ++ A :: .lst (cs.map Cl.D) :: (J ++ J2) := fun J2 => by simp
    rw [e9] at e x0 x1
    rw [show (A :: .lst (cs.map Cl.D) :: J ++ J1 : Hh) = A :: .lst (cs.map Cl.D) :: (J ++ J1) from rfl] at sd wd
    have gc : ∀ J2 : Hh, (h ++ A :: .lst (cs.map Cl.D) :: J2)[h.length + 1]? = some (.lst (cs.map Cl.D)) := fun J2 => by rw [hx]; rfl
    have st : ∀ (J2 : Hh) (o : O), (h ++ A :: .lst (cs.map Cl.D) :: J2).set (h.length + 1) o = h ++ A :: o :: J2 := fun J2 o => by rw [hset]; rfl
    have l1 : (cs.map Cl.D).length < 1000000 := by simp at hlen ⊢; omega
    have turn : stepF t_law_handler_1 (fun ρ' h' => b_law_handler_1.run cl ρ' h') (.int (k : Nat)) [some (.loc ncs), some nmD, some (.loc nw), some (.int w), some (.int at'), some (.str (nm cv 0)), some (.str (nm cv 1)), some (.loc (h.length + 1)), o0, o1, o2, o3, none] (h ++ A :: .lst (cs.map Cl.D) :: J) =
        .nx [some (.loc ncs), some nmD, some (.loc nw), some (.int w), some (.int at'), some (.str (nm cv 0)), some (.str (nm cv 1)), some (.loc (h.length + 1)), some (.int (k : Nat)), some here, some kn, some q.g.d, none] (h ++ A :: .lst ((cs ++ [(⟨dn, q.x, q.s, q.g⟩ : Cl)]).map Cl.D) :: (J ++ J1)) := by
      have h0 : stepF t_law_handler_1 (fun ρ' h' => b_law_handler_1.run cl ρ' h') (.int (k : Nat)) [some (.loc ncs), some nmD, some (.loc nw), some (.int w), some (.int at'), some (.str (nm cv 0)), some (.str (nm cv 1)), some (.loc (h.length + 1)), o0, o1, o2, o3, none] (h ++ A :: .lst (cs.map Cl.D) :: J) = Ss.run cl b_law_handler_1 [some (.loc ncs), some nmD, some (.loc nw), some (.int w), some (.int at'), some (.str (nm cv 0)), some (.str (nm cv 1)), some (.loc (h.length + 1)), some (.int (k : Nat)), o1, o2, o3, none] (h ++ A :: .lst (cs.map Cl.D) :: J) := rfl
      rw [h0, run_at cl 3, e, seqS_nx]
      simp [-cmp_eq, -cmp_ne, dropS, b_law_handler_1, Ss.run, S.run, E.ev, Es.ev, onL, gc, wd, sd, x0, x1, m1D, st]
      simp at l1
      simp [l1, Cl.D]
    rw [List.map_cons, forL, if_pos stay_nil, turn]
    simp only []
    rw [ih]
    simp
structure Hd (cv w at' : Int) (m : Nat) (cs : List Cl) (e : G) : Prop where
  cl : Paired (fun (k : Nat) (q : Cl) => CdOk (if (k : Int) = at' then w else 0) q) (List.range m) cs
  sm : Sm e
  en : isVar (nm cv 0) e = !(w == 9)
theorem r_handler (cl : Nat → List D → Hh → Res D) (Cc : ClAt cl 3) {nw : Nat} {ci cd cv : Int} {a b c : Nat} {h : Hh} (wo : WOk nw ci cd cv a b c h) (ncs : Nat) (xs : List Int) (hc : h[ncs]? = some (.lst (xs.map D.int))) (hl : xs.length ≤ 6) (name : Str) (w : Int) (w0 : 0 ≤ w) (w9 : w ≤ 9) (at' : Int) :
    ∃ cs e J, d_law_handler.run cl [.loc ncs, .str name, .loc nw, .int w, .int at'] h = .ok (hD name cs (nm cv 0) (nm cv 1) e) (h ++ J) ∧ Hd cv w at' xs.length cs e := by
  obtain ⟨cs', J', p0, p1, p2, p3, lp, pr⟩ := handler_loop cl Cc wo ncs xs hc hl (.str name) w w0 w9 at' (.lst [.str (nm cv 0), .str (nm cv 1)]) (List.range xs.length) [] [] none none none none (fun k hk => List.mem_range.mp hk) (by simp; omega)
  rw [List.nil_append, List.map_nil] at lp
  have rv := rd_of wo.v
  have cx : cutXs ((nms cv 3).map D.str) none (some 2) = [.str (nm cv 0), .str (nm cv 1)] := rfl
  have rl : rd (h ++ [.lst [.str (nm cv 0), .str (nm cv 1)], .lst []]) ncs = some (xs.map D.int) := rd_of (get_old hc)
  have rx : -1000000 ≤ (xs.length : Int) ∧ (xs.length : Int) ≤ 1000000 := by omega
  have head : Ss.run cl (takeS 4 d_law_handler.body) [some (.loc ncs), some (.str name), some (.loc nw), some (.int w), some (.int at'), none, none, none, none, none, none, none, none] h =
      .nx [some (.loc ncs), some (.str name), some (.loc nw), some (.int w), some (.int at'), some (.str (nm cv 0)), some (.str (nm cv 1)), some (.loc (h.length + 1)), p0, p1, p2, p3, some (vr (nm cv 0)).d] (h ++ .lst [.str (nm cv 0), .str (nm cv 1)] :: .lst (cs'.map Cl.D) :: J') := by
    have sz2 : rd [O.lst [D.str (nm cv 0), .str (nm cv 1)]] 0 = some [.str (nm cv 0), .str (nm cv 1)] := rfl
    simp [takeS, d_law_handler, Ss.run, S.run, E.ev, Es.ev, Eo.ev, L.ev, I.ev, wo.sv, intO, cutD, rv, cx, new, unpD, rdx0, sz2, bindT, rl, rx, lenD]
    erw [lp]
    simp [G.d, Kd.enc, G.ds, vr]
  have dv : (vr (nm cv 0)).d = .tup [.str "var", .str (nm cv 0)] := by simp [G.d, Kd.enc, G.ds, vr]
  have run : d_law_handler.run cl [.loc ncs, .str name, .loc nw, .int w, .int at'] h = outR (Ss.run cl (dropS 4 d_law_handler.body) [some (.loc ncs), some (.str name), some (.loc nw), some (.int w), some (.int at'), some (.str (nm cv 0)), some (.str (nm cv 1)), some (.loc (h.length + 1)), p0, p1, p2, p3, some (vr (nm cv 0)).d] (h ++ .lst [.str (nm cv 0), .str (nm cv 1)] :: .lst (cs'.map Cl.D) :: J')) := by
    have : d_law_handler.run cl [.loc ncs, .str name, .loc nw, .int w, .int at'] h = outR (Ss.run cl d_law_handler.body [some (.loc ncs), some (.str name), some (.loc nw), some (.int w), some (.int at'), none, none, none, none, none, none, none, none] h) := rfl
    rw [this, run_at cl 4, head, seqS_nx]
  have gcs : ∀ J2, rd (h ++ .lst [.str (nm cv 0), .str (nm cv 1)] :: .lst (cs'.map Cl.D) :: J2) (h.length + 1) = some (cs'.map Cl.D) := fun J2 => rd_of (by rw [hx]; rfl)
  rw [run, dv]
  have ok0 := nm_ok cv 0
  have ok1 := nm_ok cv 1
  by_cases z : w = 9
  · subst z
    have h4 : at' % 4 = 0 ∨ at' % 4 = 1 ∨ at' % 4 = 2 ∨ at' % 4 = 3 := by omega
    have so1 : PyData.strOk "+" = true := by decide +kernel
    have ne : (nm cv 1 == nm cv 0) = false := nm_beq cv (by decide) (by decide) (by decide)
    have fin : ∀ (e : G) (J : Hh), outR (Ss.run cl (dropS 4 d_law_handler.body) [some (.loc ncs), some (.str name), some (.loc nw), some (.int 9), some (.int at'), some (.str (nm cv 0)), some (.str (nm cv 1)), some (.loc (h.length + 1)), p0, p1, p2, p3, some (.tup [.str "var", .str (nm cv 0)])] (h ++ .lst [.str (nm cv 0), .str (nm cv 1)] :: .lst (cs'.map Cl.D) :: J')) = .ok (hD name cs' (nm cv 0) (nm cv 1) e) (h ++ .lst [.str (nm cv 0), .str (nm cv 1)] :: .lst (cs'.map Cl.D) :: (J' ++ J)) → Sm e → isVar (nm cv 0) e = false →
        ∃ cs e J, outR (Ss.run cl (dropS 4 d_law_handler.body) [some (.loc ncs), some (.str name), some (.loc nw), some (.int 9), some (.int at'), some (.str (nm cv 0)), some (.str (nm cv 1)), some (.loc (h.length + 1)), p0, p1, p2, p3, some (.tup [.str "var", .str (nm cv 0)])] (h ++ .lst [.str (nm cv 0), .str (nm cv 1)] :: .lst (cs'.map Cl.D) :: J')) = .ok (hD name cs (nm cv 0) (nm cv 1) e) (h ++ J) ∧ Hd cv 9 at' xs.length cs e := fun e J q1 q2 q3 => ⟨cs', e, _, q1, ⟨pr, q2, by rw [q3]; rfl⟩⟩
    let lst4 : O := .lst [(vr (nm cv 1)).d, (nu 3).d, (G.nd (.op "+") [vr (nm cv 0), nu 0]).d, (G.nd (.lett (nm cv 1)) [nu 1, vr (nm cv 0)]).d]
    have sb : ∀ (i : Int) (d : D), atI [(vr (nm cv 1)).d, (nu 3).d, (G.nd (.op "+") [vr (nm cv 0), nu 0]).d, (G.nd (.lett (nm cv 1)) [nu 1, vr (nm cv 0)]).d] i = some d → subD (.loc (h.length + (J'.length + 2))) (.int i) (h ++ .lst [.str (nm cv 0), .str (nm cv 1)] :: .lst (cs'.map Cl.D) :: (J' ++ [lst4])) = .ok d (h ++ .lst [.str (nm cv 0), .str (nm cv 1)] :: .lst (cs'.map Cl.D) :: (J' ++ [lst4])) := fun i d hd => by
      have g : (h ++ .lst [.str (nm cv 0), .str (nm cv 1)] :: .lst (cs'.map Cl.D) :: (J' ++ [lst4]))[h.length + (J'.length + 2)]? = some lst4 := by rw [hx]; simp
      rw [sub_loc, g]
      simp only [lst4, hd]
    have go : ∀ (e : G), atI [(vr (nm cv 1)).d, (nu 3).d, (G.nd (.op "+") [vr (nm cv 0), nu 0]).d, (G.nd (.lett (nm cv 1)) [nu 1, vr (nm cv 0)]).d] (at' % 4) = some e.d → outR (Ss.run cl (dropS 4 d_law_handler.body) [some (.loc ncs), some (.str name), some (.loc nw), some (.int 9), some (.int at'), some (.str (nm cv 0)), some (.str (nm cv 1)), some (.loc (h.length + 1)), p0, p1, p2, p3, some (.tup [.str "var", .str (nm cv 0)])] (h ++ .lst [.str (nm cv 0), .str (nm cv 1)] :: .lst (cs'.map Cl.D) :: J')) = .ok (hD name cs' (nm cv 0) (nm cv 1) e) (h ++ .lst [.str (nm cv 0), .str (nm cv 1)] :: .lst (cs'.map Cl.D) :: (J' ++ [lst4])) := by
      intro e hd
      have sbb := sb (at' % 4) e.d hd
      simp only [lst4] at sbb ⊢
      have d1 : (vr (nm cv 1)).d = .tup [.str "var", .str (nm cv 1)] := by simp [G.d, Kd.enc, G.ds, vr]
      have d2 : (nu 3).d = .tup [.str "num", .int 3] := by simp [G.d, Kd.enc, G.ds, nu]
      have d3 : (G.nd (.op "+") [vr (nm cv 0), nu 0]).d = .tup [.str "op", .str "+", .tup [.str "var", .str (nm cv 0)], .tup [.str "num", .int 0]] := by simp [G.d, Kd.enc, G.ds, vr, nu]
      have d4 : (G.nd (.lett (nm cv 1)) [nu 1, vr (nm cv 0)]).d = .tup [.str "let", .str (nm cv 1), .tup [.str "num", .int 1], .tup [.str "var", .str (nm cv 0)]] := by simp [G.d, Kd.enc, G.ds, vr, nu]
      rw [d1, d2, d3, d4] at sbb ⊢
      simp [-cmp_eq, -cmp_ne, eqI, dropS, d_law_handler, Ss.run, S.run, E.ev, E.evT, Es.ev, L.ev, new, sbb, seqOf, gcs, outR, hD]
    rcases h4 with y | y | y | y
    · exact fin (vr (nm cv 1)) _ (go _ (by rw [y]; rfl)) (.var _ ok1) ne
    · exact fin (nu 3) _ (go _ (by rw [y]; rfl)) (.num _) rfl
    · exact fin _ _ (go (.nd (.op "+") [vr (nm cv 0), nu 0]) (by rw [y]; rfl)) (.op _ _ _ so1 ok0) rfl
    · exact fin _ _ (go (.nd (.lett (nm cv 1)) [nu 1, vr (nm cv 0)]) (by rw [y]; rfl)) (.lt _ _ _ ok1 ok0) rfl
  · have z' : (w == 9) = false := by simp [z]
    refine ⟨cs', vr (nm cv 0), .lst [.str (nm cv 0), .str (nm cv 1)] :: .lst (cs'.map Cl.D) :: J', ?_, ⟨pr, .var _ ok0, by rw [isVar_vr, z']; simp⟩⟩
    simp [-cmp_eq, -cmp_ne, eqI, dropS, d_law_handler, Ss.run, S.run, E.ev, E.evT, Es.ev, z', seqOf, gcs, outR, hD, dv]
end K81
set_option Elab.async false
set_option linter.all false
set_option maxRecDepth 100000
set_option maxHeartbeats 4000000
namespace K81
open PySem L2 PI
noncomputable def C10 (cl : Nat → List D → Hh → Res D) (ns : List Int) : Prop := ∀ (i : Int) (h : Hh), 0 ≤ i → cl 10 [.fl (ns.map D.int), .int i] h = .ok (.int (cellv ns i)) h
noncomputable def C11 (cl : Nat → List D → Hh → Res D) : Prop := ∀ (c : Int) (m : Nat) (h : Hh), m ≤ 1000 → ∃ J, cl 11 [.int c, .int (m : Nat)] h = .ok (.loc h.length) (h ++ .lst ((nms c m).map D.str) :: J)
noncomputable def C16 (cl : Nat → List D → Hh → Res D) : Prop := ∀ {nw : Nat} {ci cd cv : Int} {a b c : Nat} {h : Hh}, WOk nw ci cd cv a b c h → ∀ (ncs : Nat) (xs : List Int), h[ncs]? = some (.lst (xs.map D.int)) → xs.length ≤ 6 → ∀ (name : Str) (w : Int), 0 ≤ w → w ≤ 9 → ∀ at' : Int,
  ∃ cs e J, cl 16 [.loc ncs, .str name, .loc nw, .int w, .int at'] h = .ok (hD name cs (nm cv 0) (nm cv 1) e) (h ++ J) ∧ Hd cv w at' xs.length cs e
theorem law_1 (cl : Nat → List D → Hh → Res D) (ns : List Int) (c10 : C10 cl ns) (c11 : C11 cl) :
    ∃ nw b c H, Ss.run cl (takeS 4 d_law.body) [some (.fl (ns.map D.int)), none, none, none, none, none, none, none, none, none, none, none, none, none, none, none, none] [] =
      .nx [some (.fl (ns.map D.int)), some (.int (cellv ns 0)), some (.loc 0), some (.loc nw), none, none, none, none, none, none, none, none, none, none, none, none, none] H ∧ WOk nw (cellv ns 1) (cellv ns 2) (cellv ns 3) 0 b c H := by
  obtain ⟨J1, e1⟩ := c11 (cellv ns 1) 3 [] (by decide)
  rw [List.nil_append] at e1
  generalize hH1 : (.lst ((nms (cellv ns 1) 3).map D.str) :: J1 : Hh) = H1 at e1
  have g0 : H1[0]? = some (.lst ((nms (cellv ns 1) 3).map D.str)) := by rw [← hH1]; rfl
  obtain ⟨J2, e2⟩ := c11 (cellv ns 2) 6 (H1 ++ [.dK []]) (by decide)
  have l1 : (H1 ++ [O.dK []]).length = H1.length + 1 := by simp
  rw [l1] at e2
  have n2 : (H1 ++ [O.dK []] ++ .lst ((nms (cellv ns 2) 6).map D.str) :: J2) = H1 ++ .dK [] :: .lst ((nms (cellv ns 2) 6).map D.str) :: J2 := by simp
  rw [n2] at e2
  have m1 : mergeD [] ((([("items", (⟨152, 18, 152, 25⟩ : Pos)), ("deeds", ⟨152, 39, 152, 46⟩)] : List (Str × Pos)).map fun q => (Sum.inr q.1 : Key)).zip [D.loc 0, D.loc (H1.length + 1)]) = [(.inr "items", .loc 0), (.inr "deeds", .loc (H1.length + 1))] := rfl
  generalize hH2 : (H1 ++ .dK [(.inr "items", .loc 0), (.inr "deeds", .loc (H1.length + 1))] :: .lst ((nms (cellv ns 2) 6).map D.str) :: J2 : Hh) = H2
  obtain ⟨J3, e3⟩ := c11 (cellv ns 3) 3 H2 (by decide)
  have p1 : putD [(.inr "items", .loc 0), (.inr "deeds", .loc (H1.length + 1))] (.inr "variables") (.loc H2.length) = [((.inr "items" : Key), D.loc 0), (.inr "deeds", .loc (H1.length + 1)), (.inr "variables", .loc H2.length)] := rfl
  have gd : (H2 ++ .lst ((nms (cellv ns 3) 3).map D.str) :: J3)[H1.length]? = some (.dK [(.inr "items", .loc 0), (.inr "deeds", .loc (H1.length + 1))]) := get_old (by rw [← hH2, hx0]; rfl)
  refine ⟨H1.length, H1.length + 1, H2.length, (H2 ++ .lst ((nms (cellv ns 3) 3).map D.str) :: J3).set H1.length (.dK [(.inr "items", .loc 0), (.inr "deeds", .loc (H1.length + 1)), (.inr "variables", .loc H2.length)]), ?_, ?_⟩
  · have c0 := fun h => c10 0 h (by decide)
    have c1 := fun h => c10 1 h (by decide)
    have c2 := fun h => c10 2 h (by decide)
    have c3 := fun h => c10 3 h (by decide)
    have e1' : cl 11 [.int (cellv ns 1), .int 3] [] = .ok (.loc 0) H1 := e1
    have e2' : cl 11 [.int (cellv ns 2), .int 6] (H1 ++ [.dK []]) = .ok (.loc (H1.length + 1)) (H1 ++ .dK [] :: .lst ((nms (cellv ns 2) 6).map D.str) :: J2) := e2
    have e3' : cl 11 [.int (cellv ns 3), .int 3] H2 = .ok (.loc H2.length) (H2 ++ .lst ((nms (cellv ns 3) 3).map D.str) :: J3) := e3
    have gz : ∀ J2 : Hh, (H1 ++ O.dK [] :: J2)[H1.length]? = some (.dK []) := fun J2 => by rw [hx0]; rfl
    have sz : ∀ (J2 : Hh) (o : O), (H1 ++ O.dK [] :: J2).set H1.length o = H1 ++ o :: J2 := fun J2 o => by rw [hset0]; rfl
    simp only [takeS, d_law, Ss.run, S.run, E.ev, Es.ev, List.getElem?_cons_zero, List.getElem?_cons_succ, bind_ok, c0, c1, c2, c3, e1', e2', andS_ok, List.set_cons_zero, List.set_cons_succ, seqS_nx, dispR, gz, sz, m1, hH2, e3', putS, gd, keyD, Option.bind, p1]
    rfl
  · have old : ∀ n o, n ≠ H1.length → (H2 ++ .lst ((nms (cellv ns 3) 3).map D.str) :: J3)[n]? = some o → ((H2 ++ .lst ((nms (cellv ns 3) 3).map D.str) :: J3).set H1.length (.dK [(.inr "items", .loc 0), (.inr "deeds", .loc (H1.length + 1)), (.inr "variables", .loc H2.length)]))[n]? = some o := fun n o hn e => by rw [List.getElem?_set_ne (Ne.symm hn)]; exact e
    have lt1 : 0 < H1.length := by rw [← hH1]; simp
    have lt2 : H1.length < H2.length := by rw [← hH2]; simp
    refine ⟨?_, old _ _ (by omega) (get_old ?_), old _ _ (by omega) (get_old ?_), old _ _ (by omega) (by rw [hx0]; rfl)⟩
    · rw [List.getElem?_set_self (by simp; omega)]
    · rw [← hH2]; exact get_old g0
    · rw [← hH2, hx]; rfl
end K81
set_option Elab.async false
set_option linter.all false
set_option maxRecDepth 100000
set_option maxHeartbeats 4000000
namespace K81
open PySem L2 PI
theorem in17 (w : Int) (h : Hh) : cmpD .In (.int w) (.tup [.int 1, .int 2, .int 3, .int 4, .int 5, .int 6, .int 7]) h = .ok (.bl (decide (1 ≤ w ∧ w ≤ 7))) h := by
  have e : ([D.int 1, .int 2, .int 3, .int 4, .int 5, .int 6, .int 7].any fun y => eqV (vOf y) (vOf (.int w))) = decide (1 ≤ w ∧ w ≤ 7) := by
    rw [Bool.eq_iff_iff]
    simp [vOf, eqV]
    omega
  show inXs false (.int w) [.int 1, .int 2, .int 3, .int 4, .int 5, .int 6, .int 7] h = _
  unfold inXs
  rw [if_pos ⟨rfl, rfl⟩, e]
  rfl
theorem in08 (w : Int) (h : Hh) : cmpD .In (.int w) (.tup [.int 0, .int 8]) h = .ok (.bl (decide (w = 0 ∨ w = 8))) h := by
  have e : ([D.int 0, .int 8].any fun y => eqV (vOf y) (vOf (.int w))) = decide (w = 0 ∨ w = 8) := by
    rw [Bool.eq_iff_iff]
    simp [vOf, eqV]
    omega
  show inXs false (.int w) [.int 0, .int 8] h = _
  unfold inXs
  rw [if_pos ⟨rfl, rfl⟩, e]
  rfl
noncomputable def cells (ns : List Int) (o : Int) (m : Nat) : List Int := (List.range m).map fun (k : Nat) => cellv ns (o + (k : Int))
noncomputable def W12 : List Int := [0, 8, 1, 2, 3, 4, 5, 6, 7, 9, 1, 2]
theorem W12_le : ∀ i, i < 12 → 0 ≤ W12.getD i 0 ∧ W12.getD i 0 ≤ 9 := by decide
theorem law_2 (cl : Nat → List D → Hh → Res D) (ns : List Int) (c10 : C10 cl ns) (it wd : D) (H : Hh) (x : Int) :
    ∃ w at', Ss.run cl (takeS 6 (dropS 4 d_law.body)) [some (.fl (ns.map D.int)), some (.int x), some it, some wd, none, none, none, none, none, none, none, none, none, none, none, none, none] H =
      .nx [some (.fl (ns.map D.int)), some (.int x), some it, some wd, some (.int (x % 6)), some (.loc H.length), some (.int w), some (.int at'), none, none, none, none, none, none, none, none, none] (H ++ [.lst ((cells ns 4 (x % 6).toNat).map D.int), .lst (W12.map D.int)]) ∧
      0 ≤ w ∧ w ≤ 9 ∧ (1 ≤ w → w ≤ 7 → 0 ≤ at' ∧ at' < x % 6) := by
  have m0 : 0 ≤ x % 6 ∧ x % 6 < 6 := ⟨Int.emod_nonneg _ (by decide), Int.emod_lt_of_pos _ (by decide)⟩
  have key := compL_pure (c := []) (f := compF t_law_3 (capE [none, some 0] [some (.fl (ns.map D.int)), some (.int x), some it, some wd, some (.int (x % 6)), none, none, none, none, none, none, none, none, none, none, none, none]) (fun ρ' h2 => c_law_3.evC cl ρ' h2) (fun ρ' h2 => e_law_3.ev cl ρ' h2)) (h := H) stay_nil
    (fun z => match z with | .int j => some (.int (cellv ns (4 + j))) | _ => none) ((List.range (x % 6).toNat).map fun (k : Nat) => D.int (k : Nat)) [] (by
      intro z hz
      obtain ⟨j, _, rfl⟩ := List.mem_map.mp hz
      have c := fun h => c10 (4 + (j : Int)) h (by omega)
      simp [compF, t_law_3, bindT, capE, c_law_3, e_law_3, Es.evC, E.ev, Es.ev, c])
  rw [List.nil_append, List.filterMap_map] at key
  have fm : ∀ (l : List Nat), l.filterMap ((fun (z : D) => match z with | .int j => some (D.int (cellv ns (4 + j))) | _ => none) ∘ fun (k : Nat) => D.int (k : Nat)) = (l.map fun (k : Nat) => cellv ns (4 + (k : Int))).map D.int := by
    intro l
    induction l with
    | nil => rfl
    | cons a r ih => rw [List.filterMap_cons, ih]; rfl
  rw [fm] at key
  have i0 : 0 ≤ x / 6 % 12 ∧ x / 6 % 12 < 12 := ⟨Int.emod_nonneg _ (by decide), Int.emod_lt_of_pos _ (by decide)⟩
  obtain ⟨b0, b9⟩ := W12_le (x / 6 % 12).toNat (by omega)
  have s12 : subD (.loc (H.length + 1)) (.int (x / 6 % 12)) (H ++ [.lst ((cells ns 4 (x % 6).toNat).map D.int), .lst (W12.map D.int)]) = .ok (.int (W12.getD (x / 6 % 12).toNat 0)) (H ++ [.lst ((cells ns 4 (x % 6).toNat).map D.int), .lst (W12.map D.int)]) := by
    have hl : (x / 6 % 12).toNat < W12.length := by show _ < 12; omega
    rw [sub_loc, hx]
    show (match atI (W12.map D.int) (x / 6 % 12) with | some d => Res.ok d _ | none => Res.no) = _
    rw [atI_pos i0.1, List.getElem?_map, List.getElem?_eq_getElem hl, List.getD_eq_getElem?_getD, List.getElem?_eq_getElem hl]
    rfl
  generalize W12.getD (x / 6 % 12).toNat 0 = w1 at s12 b0 b9
  have rg : -1000000 ≤ x % 6 ∧ x % 6 ≤ 1000000 := by omega
  have r2 : (x % 6).toNat ≤ 1000000 := by omega
  have h3 : Ss.run cl (takeS 6 (dropS 4 d_law.body)) [some (.fl (ns.map D.int)), some (.int x), some it, some wd, none, none, none, none, none, none, none, none, none, none, none, none, none] H =
      Ss.run cl (dropS 3 (takeS 6 (dropS 4 d_law.body))) [some (.fl (ns.map D.int)), some (.int x), some it, some wd, some (.int (x % 6)), some (.loc H.length), some (.int w1), none, none, none, none, none, none, none, none, none, none] (H ++ [.lst ((cells ns 4 (x % 6).toNat).map D.int), .lst (W12.map D.int)]) := by
    rw [run_at cl 3]
    have a1 : Ss.run cl (takeS 3 (takeS 6 (dropS 4 d_law.body))) [some (.fl (ns.map D.int)), some (.int x), some it, some wd, none, none, none, none, none, none, none, none, none, none, none, none, none] H = .nx [some (.fl (ns.map D.int)), some (.int x), some it, some wd, some (.int (x % 6)), some (.loc H.length), some (.int w1), none, none, none, none, none, none, none, none, none, none] (H ++ [.lst ((cells ns 4 (x % 6).toNat).map D.int), .lst (W12.map D.int)]) := by
      simp only [takeS, dropS, d_law, Ss.run, S.run, E.ev, Es.ev, L.ev, I.ev, List.getElem?_cons_zero, List.getElem?_cons_succ, bind_ok, andS_ok, List.set_cons_zero, List.set_cons_succ, seqS_nx, bin_mod, bin_fdiv, (show (0 : Int) < 6 by decide), (show (0 : Int) < 12 by decide), (show (0 : Int) < 6 ∧ (6 : Int) < 1073741824 by decide), if_true, rg, and_self, List.length_map, List.length_range, r2]
      erw [key]
      simp only [bind_ok, new, andS_ok, seqS_nx, List.set_cons_zero, List.set_cons_succ, List.length_cons, List.length_nil]
      have e1 : (H ++ [O.lst (((List.range (x % 6).toNat).map fun (k : Nat) => cellv ns (4 + (k : Int))).map D.int)]).length = H.length + 1 := by simp
      have e2 : (H ++ [O.lst (((List.range (x % 6).toNat).map fun (k : Nat) => cellv ns (4 + (k : Int))).map D.int)] ++ [O.lst [D.int 0, D.int 8, D.int 1, D.int 2, D.int 3, D.int 4, D.int 5, D.int 6, D.int 7, D.int 9, D.int 1, D.int 2]]) = H ++ [.lst ((cells ns 4 (x % 6).toNat).map D.int), .lst (W12.map D.int)] := by simp [cells, W12]
      simp only [if_pos (show 0 + 1 + 1 + 1 + 1 + 1 + 1 + 1 + 1 + 1 + 1 + 1 + 1 ≤ 1000 by decide), bind_ok, e1, e2, List.getElem?_cons_zero, List.getElem?_cons_succ, bin_fdiv, bin_mod, (show (0 : Int) < 12 by decide), (show (0 : Int) < 6 ∧ (6 : Int) < 1073741824 by decide), and_self, if_true, s12, andS_ok, seqS_nx]
    rw [a1, seqS_nx]
  rw [h3]
  generalize (H ++ [.lst ((cells ns 4 (x % 6).toNat).map D.int), .lst (W12.map D.int)]) = H2
  by_cases hm : x % 6 = 0
  · by_cases h17 : 1 ≤ w1 ∧ w1 ≤ 7
    · refine ⟨9, x / 72 % 4, ?_, by decide, by decide, fun _ z => absurd z (by decide)⟩
      simp [-cmp_eq, -cmp_ne, -cmp_in, eqI, in17, takeS, dropS, d_law, Ss.run, S.run, E.ev, E.evT, Es.ev, Es.evAnd, hm, h17]
    · by_cases h9 : w1 = 9
      · refine ⟨9, x / 72 % 4, ?_, by decide, by decide, fun _ z => absurd z (by decide)⟩
        simp [-cmp_eq, -cmp_ne, -cmp_in, eqI, in17, takeS, dropS, d_law, Ss.run, S.run, E.ev, E.evT, Es.ev, Es.evAnd, hm, h17, h9]
      · refine ⟨w1, x / 72 % 1, ?_, b0, b9, fun z1 z2 => absurd ⟨z1, z2⟩ h17⟩
        simp [-cmp_eq, -cmp_ne, -cmp_in, eqI, in17, takeS, dropS, d_law, Ss.run, S.run, E.ev, E.evT, Es.ev, Es.evAnd, hm, h17, h9]
  · have hm' : (x % 6 == 0) = false := by simp [hm]
    have mx : (if x % 6 > 1 then x % 6 else 1) = x % 6 := by split <;> omega
    have mp : 0 < x % 6 := by omega
    by_cases h9 : w1 = 9
    · refine ⟨9, x / 72 % 4, ?_, by decide, by decide, fun _ z => absurd z (by decide)⟩
      simp [-cmp_eq, -cmp_ne, -cmp_in, eqI, in17, takeS, dropS, d_law, Ss.run, S.run, E.ev, E.evT, Es.ev, Es.evAnd, hm, hm', mx, mp, h9]
    · refine ⟨w1, x / 72 % (x % 6), ?_, b0, b9, fun _ _ => ⟨Int.emod_nonneg _ (by omega), Int.emod_lt_of_pos _ mp⟩⟩
      simp [-cmp_eq, -cmp_ne, -cmp_in, eqI, in17, takeS, dropS, d_law, Ss.run, S.run, E.ev, E.evT, Es.ev, Es.evAnd, hm, hm', mx, mp, h9]
end K81
set_option Elab.async false
set_option linter.all false
set_option maxRecDepth 100000
set_option maxHeartbeats 4000000
namespace K81
open PySem L2 PI
theorem pair_l {α β : Type} {R : α → β → Prop} : ∀ {l : List α} {r : List β}, Paired R l r → ∀ a ∈ l, ∃ b ∈ r, R a b
  | _, _, .nil, a, h => by cases h
  | _, _, .cons h t, a, hm => by
    rcases List.mem_cons.mp hm with rfl | hm
    · exact ⟨_, List.mem_cons_self .., h⟩
    · obtain ⟨b, h1, h2⟩ := pair_l t a hm
      exact ⟨b, List.mem_cons_of_mem _ h1, h2⟩
theorem pair_r {α β : Type} {R : α → β → Prop} : ∀ {l : List α} {r : List β}, Paired R l r → ∀ b ∈ r, ∃ a ∈ l, R a b
  | _, _, .nil, a, h => by cases h
  | _, _, .cons h t, a, hm => by
    rcases List.mem_cons.mp hm with rfl | hm
    · exact ⟨_, List.mem_cons_self .., h⟩
    · obtain ⟨b, h1, h2⟩ := pair_r t a hm
      exact ⟨b, List.mem_cons_of_mem _ h1, h2⟩
theorem fv_eq {cv w at' : Int} {m : Nat} {cs : List Cl} {e : G} (hd : Hd cv w at' m cs e) (w0 : 0 ≤ w) (w9 : w ≤ 9) (ha : 1 ≤ w → w ≤ 7 → 0 ≤ at' ∧ at' < (m : Int)) : (isVar (nm cv 0) e && cs.all fun q => good q.s q.g) = decide (w = 0 ∨ w = 8) := by
  rw [hd.en]
  by_cases h9 : w = 9
  · subst h9; rfl
  have h9' : (w == 9) = false := by simp [h9]
  rw [h9', Bool.not_false, Bool.true_and]
  by_cases h17 : 1 ≤ w ∧ w ≤ 7
  · obtain ⟨a0, a1⟩ := ha h17.1 h17.2
    obtain ⟨q, hq, ok⟩ := pair_l hd.cl at'.toNat (List.mem_range.mpr (by omega))
    have gd := ok.gd
    rw [if_pos (by omega)] at gd
    have g0 : gw w = false := by simp [gw, h17]
    rw [g0] at gd
    have : decide (w = 0 ∨ w = 8) = false := by simp; omega
    rw [this]
    cases hz : cs.all fun q => good q.s q.g with
    | false => rfl
    | true => rw [List.all_eq_true] at hz; have := hz q hq; rw [gd] at this; cases this
  · have : decide (w = 0 ∨ w = 8) = true := by simp; omega
    rw [this, List.all_eq_true]
    intro q hq
    obtain ⟨k, _, ok⟩ := pair_r hd.cl q hq
    rw [ok.gd]
    split
    · simp [gw]; omega
    · rfl
theorem neB {a b : Bool} {h : Hh} : cmpD .NotEq (.bl a) (.bl b) h = .ok (.bl (!(a == b))) h := by
  cases a <;> cases b <;> simp [PyData.canLay0, PyData.depth, PyData.eqv]
theorem cells_len (ns : List Int) (o : Int) (m : Nat) : (cells ns o m).length = m := by simp [cells]
noncomputable def C8 (cl : Nat → List D → Hh → Res D) : Prop := ∀ (qs : List (Str × D)), (∀ q ∈ qs, It q.2 q.1) → qs.length ≤ 1000 → (qs.map (·.1)).Nodup →
    ∀ (nm : Str) (cs : List Cl) (x s : Str) (e : G), (nm, hD nm cs x s e) ∈ qs → (∀ q ∈ cs, Bd q.s q.g) → cs.length ≤ 1000 → Sm e → PyData.strOk x = true → ∀ h : Hh,
    ∃ J, cl 8 [.tup (qs.map (·.2)), .str nm] h = .ok (.bl (isVar x e && cs.all fun q => good q.s q.g)) (h ++ J)
theorem law_4 (cl : Nat → List D → Hh → Res D) (ns : List Int) (c8 : C8 cl) (qs : List (Str × D)) (hq : ∀ q ∈ qs, It q.2 q.1) (hl : qs.length ≤ 1000) (hn : (qs.map (·.1)).Nodup) (ci cv w at' am at2 : Int) (m1 m2 : Nat) (cs1 cs2 : List Cl) (e1 e2 : G)
    (q1 : (nm ci 0, hD (nm ci 0) cs1 (nm cv 0) (nm cv 1) e1) ∈ qs) (q2 : (nm ci 1, hD (nm ci 1) cs2 (nm cv 0) (nm cv 1) e2) ∈ qs) (hd1 : Hd cv w at' m1 cs1 e1) (hd2 : Hd cv am at2 m2 cs2 e2) (hm1 : m1 ≤ 6) (hm2 : m2 ≤ 6) (w0 : 0 ≤ w) (w9 : w ≤ 9) (ha : 1 ≤ w → w ≤ 7 → 0 ≤ at' ∧ at' < (m1 : Int)) (ha2 : am = 0 ∨ am = 9)
    (H : Hh) (hi : H[0]? = some (.lst ((nms ci 3).map D.str))) (d1 d3 d4 d5 d7 d8 d9 d11 d12 : Option D) :
    ∃ H', outR (Ss.run cl (dropS 16 d_law.body) [some (.fl (ns.map D.int)), d1, some (.loc 0), d3, d4, d5, some (.int w), d7, d8, d9, some (.int am), d11, d12, some (.tup (qs.map (·.2))), none, none, none] H) = .ok (.bl true) H' := by
  have f1 := fv_eq hd1 w0 w9 ha
  have f2 : (isVar (nm cv 0) e2 && cs2.all fun q => good q.s q.g) = (am == 0) := by
    rw [fv_eq hd2 (by omega) (by omega) (fun a b => by omega)]
    rcases ha2 with rfl | rfl <;> rfl
  have bd1 : ∀ q ∈ cs1, Bd q.s q.g := fun q hq => by obtain ⟨k, _, ok⟩ := pair_r hd1.cl q hq; exact ok.bd
  have bd2 : ∀ q ∈ cs2, Bd q.s q.g := fun q hq => by obtain ⟨k, _, ok⟩ := pair_r hd2.cl q hq; exact ok.bd
  have l1 : cs1.length ≤ 1000 := by have := hd1.cl.length; simp at this; omega
  have l2 : cs2.length ≤ 1000 := by have := hd2.cl.length; simp at this; omega
  have s0 := fun J : Hh => lst_at (get_old (l := J) hi) (i := 0) (by decide) (by rw [nms_len]; decide)
  have s1 := fun J : Hh => lst_at (get_old (l := J) hi) (i := 1) (by decide) (by rw [nms_len]; decide)
  have z0 : (nms ci 3).getD (0 : Int).toNat "" = nm ci 0 := rfl
  have z1 : (nms ci 3).getD (1 : Int).toNat "" = nm ci 1 := rfl
  rw [z0] at s0
  rw [z1] at s1
  have turn : ∀ (k : Nat) (J : Hh) (o1 o2 o3 : Option D), ∃ J', stepF t_law_1 (fun ρ' h' => b_law_1.run cl ρ' h') (.int (k : Nat)) [some (.fl (ns.map D.int)), d1, some (.loc 0), d3, d4, d5, some (.int w), d7, d8, d9, some (.int am), d11, d12, some (.tup (qs.map (·.2))), o1, o2, o3] (H ++ J) =
      .nx [some (.fl (ns.map D.int)), d1, some (.loc 0), d3, d4, d5, some (.int w), d7, d8, d9, some (.int am), d11, d12, some (.tup (qs.map (·.2))), some (.int (k : Nat)), some (.bl (decide (w = 0 ∨ w = 8))), some (.bl (am == 0))] (H ++ J') := by
    intro k J o1 o2 o3
    obtain ⟨J1, c1⟩ := c8 qs hq hl hn _ cs1 _ _ e1 q1 bd1 l1 hd1.sm (nm_ok _ _) (H ++ J)
    obtain ⟨J2, c2⟩ := c8 qs hq hl hn _ cs2 _ _ e2 q2 bd2 l2 hd2.sm (nm_ok _ _) (H ++ (J ++ J1))
    rw [f1, List.append_assoc] at c1
    rw [f2, List.append_assoc] at c2
    have s0' := s0 J
    have s1' := s1 (J ++ J1)
    refine ⟨J ++ J1 ++ J2, ?_⟩
    generalize hb2 : (am == 0) = b2 at c2 ⊢
    generalize hb1 : decide (w = 0 ∨ w = 8) = b1 at c1
    have i8 := fun h => in08 w h
    rw [hb1] at i8
    have e0 : stepF t_law_1 (fun ρ' h' => b_law_1.run cl ρ' h') (.int (k : Nat)) [some (.fl (ns.map D.int)), d1, some (.loc 0), d3, d4, d5, some (.int w), d7, d8, d9, some (.int am), d11, d12, some (.tup (qs.map (·.2))), o1, o2, o3] (H ++ J) = Ss.run cl b_law_1 [some (.fl (ns.map D.int)), d1, some (.loc 0), d3, d4, d5, some (.int w), d7, d8, d9, some (.int am), d11, d12, some (.tup (qs.map (·.2))), some (.int (k : Nat)), o2, o3] (H ++ J) := rfl
    rw [e0]
    have ea : ∀ h, cmpD .Eq (.int am) (.int 0) h = .ok (.bl (am == 0)) h := fun h => eqI
    rw [hb2] at ea
    have n1 : ∀ h, cmpD .NotEq (.bl b1) (.bl b1) h = .ok (.bl false) h := fun h => by rw [neB]; simp
    have n2 : ∀ h, cmpD .NotEq (.bl b2) (.bl b2) h = .ok (.bl false) h := fun h => by rw [neB]; simp
    simp [-cmp_eq, -cmp_ne, -cmp_in, -List.append_assoc, b_law_1, Ss.run, S.run, E.ev, E.evT, Es.ev, Es.evOr, s0', c1, s1', c2, isI, i8, n1, ea, n2, hb1]
  obtain ⟨J1, t1⟩ := turn 0 [] none none none
  obtain ⟨J2, t2⟩ := turn 1 J1 (some (.int (0 : Nat))) (some (.bl (decide (w = 0 ∨ w = 8)))) (some (.bl (am == 0)))
  rw [List.append_nil] at t1
  refine ⟨H ++ J2, ?_⟩
  have rg : ((List.range (2 : Int).toNat).map fun (k : Nat) => D.int (k : Nat)) = [.int (0 : Nat), .int (1 : Nat)] := rfl
  have lp : forL [] (stepF t_law_1 fun ρ' h' => b_law_1.run cl ρ' h') [.int (0 : Nat), .int (1 : Nat)] [some (.fl (ns.map D.int)), d1, some (.loc 0), d3, d4, d5, some (.int w), d7, d8, d9, some (.int am), d11, d12, some (.tup (qs.map (·.2))), none, none, none] H = .nx [some (.fl (ns.map D.int)), d1, some (.loc 0), d3, d4, d5, some (.int w), d7, d8, d9, some (.int am), d11, d12, some (.tup (qs.map (·.2))), some (.int (1 : Nat)), some (.bl (decide (w = 0 ∨ w = 8))), some (.bl (am == 0))] (H ++ J2) := by
    rw [forL, if_pos stay_nil, t1]
    simp only []
    rw [forL, if_pos stay_nil, t2]
    simp only []
    rw [forL, if_pos stay_nil]
  simp only [dropS, d_law, Ss.run, S.run, E.ev, I.ev, bind_ok, andS_ok, rg, (show (-1000000 : Int) ≤ 2 ∧ (2 : Int) ≤ 1000000 by decide), and_self, if_true]
  erw [lp]
  rfl
end K81
set_option Elab.async false
set_option linter.all false
set_option maxRecDepth 100000
set_option maxHeartbeats 4000000
namespace K81
open PySem L2 PI
theorem law_3 (cl : Nat → List D → Hh → Res D) (ns : List Int) (c10 : C10 cl ns) (c16 : C16 cl) {nw b c : Nat} {ci cd cv : Int} {H : Hh} (wo : WOk nw ci cd cv 0 b c H) (nc : Nat) (m1 : Nat) (hm1 : m1 ≤ 6) (hc : H[nc]? = some (.lst ((cells ns 4 m1).map D.int))) (x w at' : Int) (w0 : 0 ≤ w) (w9 : w ≤ 9) (mn : D) :
    ∃ (cs1 cs2 : List Cl) (e1 e2 : G) (am : Int) (m2 : Nat) (qs : List (Str × D)) (J : Hh) (d9 d11 d12 : Option D), Ss.run cl (takeS 6 (dropS 10 d_law.body)) [some (.fl (ns.map D.int)), some (.int x), some (.loc 0), some (.loc nw), some mn, some (.loc nc), some (.int w), some (.int at'), none, none, none, none, none, none, none, none, none] H =
      .nx [some (.fl (ns.map D.int)), some (.int x), some (.loc 0), some (.loc nw), some mn, some (.loc nc), some (.int w), some (.int at'), some (hD (nm ci 0) cs1 (nm cv 0) (nm cv 1) e1), d9, some (.int am), d11, d12, some (.tup ((qs : List (Str × D)).map (·.2))), none, none, none] (H ++ J) ∧
      Hd cv w at' m1 cs1 e1 ∧ Hd cv am (x / 72 % 4) m2 cs2 e2 ∧ m2 ≤ 6 ∧ (am = 0 ∨ am = 9) ∧ (∀ q ∈ qs, It q.2 q.1) ∧ qs.length ≤ 1000 ∧ (qs.map (·.1)).Nodup ∧ (nm ci 0, hD (nm ci 0) cs1 (nm cv 0) (nm cv 1) e1) ∈ qs ∧ (nm ci 1, hD (nm ci 1) cs2 (nm cv 0) (nm cv 1) e2) ∈ qs := by
  have z0 : (nms ci 3).getD (0 : Int).toNat "" = nm ci 0 := rfl
  have z1 : (nms ci 3).getD (1 : Int).toNat "" = nm ci 1 := rfl
  have z2 : (nms ci 3).getD (2 : Int).toNat "" = nm ci 2 := rfl
  have y0 : (nms cv 3).getD (0 : Int).toNat "" = nm cv 0 := rfl
  have s0 := fun J : Hh => lst_at (get_old (l := J) wo.i) (i := 0) (by decide) (by rw [nms_len]; decide)
  have s1 := fun J : Hh => lst_at (get_old (l := J) wo.i) (i := 1) (by decide) (by rw [nms_len]; decide)
  have s2 := fun J : Hh => lst_at (get_old (l := J) wo.i) (i := 2) (by decide) (by rw [nms_len]; decide)
  have v0 := fun J : Hh => lst_at (get_old (l := J) wo.v) (i := 0) (by decide) (by rw [nms_len]; decide)
  have wv := fun J : Hh => (wo.gr J).sv
  rw [z0] at s0
  rw [z1] at s1
  rw [z2] at s2
  rw [y0] at v0
  have s0n := s0 []
  rw [List.append_nil] at s0n
  obtain ⟨cs1, e1, J1, h1, hd1⟩ := c16 wo nc (cells ns 4 m1) hc (by rw [cells_len]; exact hm1) (nm ci 0) w w0 w9 at'
  rw [cells_len] at hd1
  have m0 : 0 ≤ x / 288 % 3 ∧ x / 288 % 3 < 3 := ⟨Int.emod_nonneg _ (by decide), Int.emod_lt_of_pos _ (by decide)⟩
  have key := compL_pure (c := []) (f := compF t_law_2 (capE [none, some 0] [some (.fl (ns.map D.int)), some (.int x), some (.loc 0), some (.loc nw), some mn, some (.loc nc), some (.int w), some (.int at'), some (hD (nm ci 0) cs1 (nm cv 0) (nm cv 1) e1), none, none, none, none, none, none, none, none]) (fun ρ' h2 => c_law_2.evC cl ρ' h2) (fun ρ' h2 => e_law_2.ev cl ρ' h2)) (h := H ++ J1) stay_nil
    (fun z => match z with | .int j => some (.int (cellv ns (9 + j))) | _ => none) ((List.range (x / 288 % 3).toNat).map fun (k : Nat) => D.int (k : Nat)) [] (by
      intro z hz
      obtain ⟨j, _, rfl⟩ := List.mem_map.mp hz
      have c := fun h => c10 (9 + (j : Int)) h (by omega)
      simp [compF, t_law_2, bindT, capE, c_law_2, e_law_2, Es.evC, E.ev, Es.ev, c])
  rw [List.nil_append, List.filterMap_map] at key
  have fm : ∀ (l : List Nat), l.filterMap ((fun (z : D) => match z with | .int j => some (D.int (cellv ns (9 + j))) | _ => none) ∘ fun (k : Nat) => D.int (k : Nat)) = (l.map fun (k : Nat) => cellv ns (9 + (k : Int))).map D.int := by
    intro l
    induction l with
    | nil => rfl
    | cons a r ih => rw [List.filterMap_cons, ih]; rfl
  rw [fm, show ((List.range (x / 288 % 3).toNat).map fun (k : Nat) => cellv ns (9 + (k : Int))) = cells ns 9 (x / 288 % 3).toNat from rfl] at key
  generalize hcs : (cells ns 9 (x / 288 % 3).toNat) = os at key
  have lo : os.length = (x / 288 % 3).toNat := by rw [← hcs, cells_len]
  have e864 : x / 864 % 2 = 0 ∨ x / 864 % 2 = 1 := by omega
  obtain ⟨am, ha, ham⟩ : ∃ am : Int, (am = 0 ∨ am = 9) ∧ atI [D.int 0, .int 9] (x / 864 % 2) = some (.int am) := by
    rcases e864 with z | z
    · exact ⟨0, .inl rfl, by rw [z]; rfl⟩
    · exact ⟨9, .inr rfl, by rw [z]; rfl⟩
  have s3 : subD (.loc (H.length + (J1.length + 1))) (.int (x / 864 % 2)) (H ++ (J1 ++ [.lst (os.map D.int), .lst [.int 0, .int 9]])) = .ok (.int am) (H ++ (J1 ++ [.lst (os.map D.int), .lst [.int 0, .int 9]])) := by
    have g : (H ++ (J1 ++ [O.lst (os.map D.int), .lst [.int 0, .int 9]]))[H.length + (J1.length + 1)]? = some (.lst [.int 0, .int 9]) := by rw [hx, hx]; rfl
    rw [sub_loc, g]
    simp only [ham]
  have gos : (H ++ (J1 ++ [O.lst (os.map D.int), .lst [.int 0, .int 9]]))[H.length + J1.length]? = some (.lst (os.map D.int)) := by rw [hx, hx0]; rfl
  obtain ⟨cs2, e2, J2, h2, hd2⟩ := c16 (wo.gr (J1 ++ [.lst (os.map D.int), .lst [.int 0, .int 9]])) (H.length + J1.length) os gos (by omega) (nm ci 1) am (by omega) (by omega) (x / 72 % 4)
  rw [List.append_assoc, List.append_assoc] at h2
  let F := hD (nm ci 0) cs1 (nm cv 0) (nm cv 1) e1
  let T := hD (nm ci 1) cs2 (nm cv 0) (nm cv 1) e2
  let P : D := .tup [.str "def", .str (nm ci 2), .tup [.str (nm cv 0)], .non, .tup [.str "num", .int 1]]
  have e1728 : x / 1728 % 2 = 0 ∨ x / 1728 % 2 = 1 := by omega
  obtain ⟨qs, hqs, hat, q1, q2, q3, q4⟩ : ∃ qs : List (Str × D), (∀ q ∈ qs, It q.2 q.1) ∧ atI [D.tup [F, T, P], .tup [P, T, F]] (x / 1728 % 2) = some (.tup (qs.map (·.2))) ∧ qs.length ≤ 1000 ∧ (qs.map (·.1)).Nodup ∧ (nm ci 0, F) ∈ qs ∧ (nm ci 1, T) ∈ qs := by
    have i1 : It F (nm ci 0) := ⟨_, _, rfl⟩
    have i2 : It T (nm ci 1) := ⟨_, _, rfl⟩
    have i3 : It P (nm ci 2) := ⟨_, _, rfl⟩
    have n01 := nm_ne ci (i := 0) (j := 1) (by decide) (by decide) (by decide)
    have n02 := nm_ne ci (i := 0) (j := 2) (by decide) (by decide) (by decide)
    have n12 := nm_ne ci (i := 1) (j := 2) (by decide) (by decide) (by decide)
    rcases e1728 with z | z
    · refine ⟨[(nm ci 0, F), (nm ci 1, T), (nm ci 2, P)], fun q hq => ?_, by rw [z]; rfl, by simp, by simp [n01, n02, n12], by simp, by simp⟩
      simp at hq
      rcases hq with rfl | rfl | rfl <;> assumption
    · refine ⟨[(nm ci 2, P), (nm ci 1, T), (nm ci 0, F)], fun q hq => ?_, by rw [z]; rfl, by simp, by simp [n01.symm, n02.symm, n12.symm], by simp, by simp⟩
      simp at hq
      rcases hq with rfl | rfl | rfl <;> assumption
  have sp : subD (.loc (H.length + (J1.length + (2 + J2.length)))) (.int (x / 1728 % 2)) (H ++ (J1 ++ (.lst (os.map D.int) :: .lst [.int 0, .int 9] :: (J2 ++ [.lst [.tup [F, T, P], .tup [P, T, F]]])))) = .ok (.tup (qs.map (·.2))) (H ++ (J1 ++ (.lst (os.map D.int) :: .lst [.int 0, .int 9] :: (J2 ++ [.lst [.tup [F, T, P], .tup [P, T, F]]])))) := by
    have g : (H ++ (J1 ++ (O.lst (os.map D.int) :: .lst [.int 0, .int 9] :: (J2 ++ [.lst [.tup [F, T, P], .tup [P, T, F]]]))))[H.length + (J1.length + (2 + J2.length))]? = some (.lst [.tup [F, T, P], .tup [P, T, F]]) := by
      rw [hx, hx, Nat.add_comm 2]
      simp
    rw [sub_loc, g]
    simp only [hat]
  refine ⟨cs1, cs2, e1, e2, am, (x / 288 % 3).toNat, qs, J1 ++ (.lst (os.map D.int) :: .lst [.int 0, .int 9] :: (J2 ++ [.lst [.tup [F, T, P], .tup [P, T, F]]])), some (.loc (H.length + J1.length)), some T, some P, ?_, hd1, by rw [← lo]; exact hd2, by omega, ha, hqs, q1, q2, q3, q4⟩
  have rg : -1000000 ≤ x / 288 % 3 ∧ x / 288 % 3 ≤ 1000000 := by omega
  have r2 : (x / 288 % 3).toNat ≤ 1000000 := by omega
  have a1 : Ss.run cl (takeS 6 (dropS 10 d_law.body)) [some (.fl (ns.map D.int)), some (.int x), some (.loc 0), some (.loc nw), some mn, some (.loc nc), some (.int w), some (.int at'), none, none, none, none, none, none, none, none, none] H =
      Ss.run cl (dropS 2 (takeS 6 (dropS 10 d_law.body))) [some (.fl (ns.map D.int)), some (.int x), some (.loc 0), some (.loc nw), some mn, some (.loc nc), some (.int w), some (.int at'), some F, some (.loc (H.length + J1.length)), none, none, none, none, none, none, none] (H ++ (J1 ++ [.lst (os.map D.int)])) := by
    rw [run_at cl 2]
    have b1 : Ss.run cl (takeS 2 (takeS 6 (dropS 10 d_law.body))) [some (.fl (ns.map D.int)), some (.int x), some (.loc 0), some (.loc nw), some mn, some (.loc nc), some (.int w), some (.int at'), none, none, none, none, none, none, none, none, none] H = .nx [some (.fl (ns.map D.int)), some (.int x), some (.loc 0), some (.loc nw), some mn, some (.loc nc), some (.int w), some (.int at'), some F, some (.loc (H.length + J1.length)), none, none, none, none, none, none, none] (H ++ (J1 ++ [.lst (os.map D.int)])) := by
      simp only [takeS, dropS, d_law, Ss.run, S.run, E.ev, Es.ev, L.ev, I.ev, List.getElem?_cons_zero, List.getElem?_cons_succ, bind_ok, andS_ok, List.set_cons_zero, List.set_cons_succ, seqS_nx, s0n, h1, bin_mod, bin_fdiv, (show (0 : Int) < 3 by decide), (show (0 : Int) < 288 ∧ (288 : Int) < 1073741824 by decide), if_true, rg, and_self, List.length_map, List.length_range, r2]
      erw [key]
      simp [new, F]
    rw [b1, seqS_nx]
  rw [a1]
  simp only [F, T, P] at sp ⊢
  simp [takeS, dropS, d_law, Ss.run, S.run, E.ev, Es.ev, L.ev, new, s3, s1, h2, s2, wv, v0, F, T, P]
  rw [show 2 + J2.length = J2.length + 1 + 1 by omega] at sp
  rw [sp]
  rfl
theorem law_run (cl : Nat → List D → Hh → Res D) (ns : List Int) (c10 : C10 cl ns) (c11 : C11 cl) (c16 : C16 cl) (c8 : C8 cl) : ∃ H, d_law.run cl [.fl (ns.map D.int)] [] = .ok (.bl true) H := by
  have e0 : d_law.run cl [.fl (ns.map D.int)] [] = outR (Ss.run cl d_law.body [some (.fl (ns.map D.int)), none, none, none, none, none, none, none, none, none, none, none, none, none, none, none, none] []) := rfl
  obtain ⟨nw, b, c, H1, r1, wo⟩ := law_1 cl ns c10 c11
  obtain ⟨w, at', r2, w0, w9, hw⟩ := law_2 cl ns c10 (.loc 0) (.loc nw) H1 (cellv ns 0)
  have m0 : 0 ≤ cellv ns 0 % 6 ∧ cellv ns 0 % 6 < 6 := ⟨Int.emod_nonneg _ (by decide), Int.emod_lt_of_pos _ (by decide)⟩
  obtain ⟨cs1, cs2, e1, e2, am, m2, qs, J, d9, d11, d12, r3, hd1, hd2, hm2, ha, q0, q1, q2, q3, q4⟩ := law_3 cl ns c10 c16 (wo.gr [.lst ((cells ns 4 (cellv ns 0 % 6).toNat).map D.int), .lst (W12.map D.int)]) H1.length (cellv ns 0 % 6).toNat (by omega) (by rw [hx0]; rfl) (cellv ns 0) w at' w0 w9 (.int (cellv ns 0 % 6))
  obtain ⟨H', r4⟩ := law_4 cl ns c8 qs q0 q1 q2 (cellv ns 1) (cellv ns 3) w at' am (cellv ns 0 / 72 % 4) (cellv ns 0 % 6).toNat m2 cs1 cs2 e1 e2 q3 q4 hd1 hd2 (by omega) hm2 w0 w9 (fun a b => by have := hw a b; omega) ha _ (get_old (get_old wo.i)) (some (.int (cellv ns 0))) (some (.loc nw)) (some (.int (cellv ns 0 % 6))) (some (.loc H1.length)) (some (.int at')) (some (hD (nm (cellv ns 1) 0) cs1 (nm (cellv ns 3) 0) (nm (cellv ns 3) 1) e1)) d9 d11 d12
  refine ⟨H', ?_⟩
  rw [e0, run_at cl 4, r1, seqS_nx, run_at cl 6, r2, seqS_nx]
  rw [show dropS 6 (dropS 4 d_law.body) = dropS 10 d_law.body from rfl, run_at cl 6, r3, seqS_nx]
  exact r4
end K81
set_option Elab.async false
set_option linter.all false
set_option maxRecDepth 100000
set_option maxHeartbeats 4000000
namespace K81
open PySem L2 PI
theorem i_parts (k : Nat) : PartsOk (callI defs (k + 1)) 0 := fun kd ps h => (callI_succ (d := d_parts_of) rfl rfl).trans (r_parts _ kd ps h)
theorem i_within (k : Nat) (g : G) (h : Hh) (hs : g.size ≤ 1000000) : callI defs (k + 2) 1 [g.d] h = .ok (.loc h.length) (h ++ [.lst (G.ds g.pre), .lst []]) := (callI_succ (d := d_all_within) rfl rfl).trans (r_within _ (i_parts k) g h hs)
theorem i_has (k : Nat) : HgOk (callI defs (k + 3)) 7 := fun g h hs => by
  obtain ⟨J, e⟩ := r_has_go (callI defs (k + 2)) (fun g h hs => i_within k g h hs) g h hs
  exact ⟨J, (callI_succ (d := d_has_go) rfl rfl).trans e⟩
theorem i_inner (k : Nat) : InnerOk (callI defs (k + 4)) 5 := fun kd ps f h hk hs => by
  obtain ⟨J, n, e, e2⟩ := r_inner (callI defs (k + 3)) (i_parts (k + 2)) (i_has k) kd ps f h hk hs
  exact ⟨J, n, (callI_succ (d := d_inner) rfl rfl).trans e, e2⟩
theorem i_lasts (k : Nat) : LastsOk (callI defs (k + 5)) 4 := fun g h ho hs => by
  obtain ⟨J, n, e, e2⟩ := r_lasts (callI defs (k + 4)) (i_inner k) g h ho hs
  exact ⟨J, n, (callI_succ (d := d_lasts) rfl rfl).trans e, e2⟩
theorem i_ends (k : Nat) : EndsOk (callI defs (k + 4)) 6 := fun g h ho hs => by
  obtain ⟨J, e⟩ := r_ends (callI defs (k + 3)) (i_has k) g h ho hs
  exact ⟨J, (callI_succ (d := d_ends_at_go) rfl rfl).trans e⟩
theorem i_kind (k : Nat) (g : G) (h : Hh) (ho : g.ok = true) (hs : g.size ≤ 1000000) : ∃ J, callI defs (k + 6) 3 [g.d] h = .ok (.str g.kind) (h ++ J) := by
  obtain ⟨J, e⟩ := r_kind (callI defs (k + 5)) (i_has (k + 2)) (i_ends (k + 1)) (i_lasts k) g h ho hs
  exact ⟨J, (callI_succ (d := d_kind_of) rfl rfl).trans e⟩
theorem i_draw (k : Nat) : DrOk (callI defs (k + 1)) := fun c i h h0 h1 => (callI_succ (d := d_law_draw) rfl rfl).trans (r_draw _ c i h0 h1 h)
theorem i_expr (k : Nat) : XpOk (callI defs (k + 2)) := by
  intro nw ci cd cv a b c h wo nk K hk h0 x
  obtain ⟨g, e, q⟩ := r_expr (callI defs (k + 1)) (i_draw k) wo hk h0 x
  exact ⟨g, (callI_succ (d := d_law_expression) rfl rfl).trans e, q⟩
theorem i_go (k : Nat) : GoOk (callI defs (k + 3)) := by
  intro nw ci cd cv a b c h wo nk K s m ko hs hv x w w0 w9
  obtain ⟨g, J, e, q⟩ := r_go (callI defs (k + 2)) (i_expr k) wo ko.k _ hs ko.ok ko.ne (by have := ko.l; omega) hv x w w0 w9
  exact ⟨g, J, (callI_succ (d := d_law_go) rfl rfl).trans e, q⟩
theorem i_cl0 (k : Nat) : ClAt (callI defs (k + 4)) 0 := by
  intro nw ci cd cv a b c h wo nk K s ko hs hv x w w0 w9
  obtain ⟨g, J, e, q⟩ := r_clause0 (callI defs (k + 3)) (i_draw (k + 2)) (i_go k) wo ko hs hv x w w0 w9
  exact ⟨g, J, (callI_succ (d := d_law_clause) rfl rfl).trans e, q⟩
theorem i_clS (k n : Nat) (hn : n ≤ 10) (C : ClAt (callI defs (k + 4)) n) : ClAt (callI defs (k + 5)) (n + 1) := by
  intro nw ci cd cv a b c h wo nk K s ko hs hv x w w0 w9
  obtain ⟨g, J, e, q⟩ := r_clauseS (callI defs (k + 4)) n hn (i_draw (k + 3)) (i_expr (k + 2)) (i_go (k + 1)) C wo ko hs hv x w w0 w9
  exact ⟨g, J, (callI_succ (d := d_law_clause) rfl rfl).trans e, q⟩
theorem i_handler (k : Nat) : C16 (callI defs (k + 8)) := by
  intro nw ci cd cv a b c h wo ncs xs hc hl name w w0 w9 at'
  obtain ⟨cs, e, J, r, q⟩ := r_handler (callI defs (k + 7)) (i_clS (k + 2) 2 (by decide) (i_clS (k + 1) 1 (by decide) (i_clS k 0 (by decide) (i_cl0 k)))) wo ncs xs hc hl name w w0 w9 at'
  exact ⟨cs, e, J, (callI_succ (d := d_law_handler) rfl rfl).trans r, q⟩
theorem i_items (k : Nat) : ItemsOk (callI defs (k + 1)) := fun qs h hq hl => by
  obtain ⟨J, a, e, q⟩ := r_items (callI defs k) qs h hq hl
  exact ⟨J, a, (callI_succ (d := d_items_by_name) rfl rfl).trans e, q⟩
theorem i_is (k : Nat) (q : Cl) (h : Hh) (b : Bd q.s q.g) : ∃ J, callI defs (k + 7) 9 [q.D] h = .ok (.bl (good q.s q.g)) (h ++ J) := by
  obtain ⟨J, e⟩ := r_is_steady (callI defs (k + 6)) (fun g h ho hs => i_kind k g h ho hs) (.str q.d) (.str q.x) q.s q.g b h
  exact ⟨J, (callI_succ (d := d_is_steady) rfl rfl).trans e⟩
theorem i_steady (k : Nat) : C8 (callI defs (k + 8)) := fun qs hq hl hn nm cs x s e hm hc hcl he hx h => by
  obtain ⟨J, r⟩ := r_steady (callI defs (k + 7)) (i_items (k + 6)) (fun q h b => i_is k q h b) qs hq hl hn nm cs x s e hm hc hcl he hx h
  exact ⟨J, (callI_succ (d := d_steady) rfl rfl).trans r⟩
theorem law_true (ns : List Int) (hb : ∀ n ∈ ns, fits n = true) : ∃ h', callI defs 9 17 [.fl (ns.map .int)] [] = .ok (.bl true) h' := by
  obtain ⟨h', e⟩ := law_run (callI defs 8) ns (fun i h hi => (callI_succ (d := d_law_cell_at) rfl rfl).trans (r_cell _ ns i hi h)) (fun c m h hm => by obtain ⟨J, e⟩ := r_names (callI defs 7) c m hm h; exact ⟨J, (callI_succ (d := d_law_names) rfl rfl).trans e⟩) (i_handler 0) (i_steady 0)
  exact ⟨h', (callI_succ (d := d_law) rfl rfl).trans e⟩
end K81
set_option Elab.async false
set_option linter.all false
set_option maxRecDepth 100000
namespace K81
open PySem L2 PI
noncomputable def top (i : Nat) : Stmt := PySem.Challenge.pw_deedwright_k81_steady_handlers.main.body.getD i (.Pass ⟨0, 0, 0, 0⟩)
theorem o_parts_of : DefOk (top 2) d_parts_of (defs.map (·.name)) consts := ⟨rfl, ⟨rfl, rfl, rfl, by decide +kernel, rfl, by decide +kernel, by decide +kernel⟩, by decide +kernel, by decide +kernel, fun _ _ _ _ _ _ us hl => match us, hl with | [_], _ => rfl⟩
theorem o_all_within : DefOk (top 3) d_all_within (defs.map (·.name)) consts := ⟨rfl, ⟨rfl, rfl, rfl, by decide +kernel, rfl, by decide +kernel, by decide +kernel⟩, by decide +kernel, by decide +kernel, fun _ _ _ _ _ _ us hl => match us, hl with | [_], _ => rfl⟩
theorem o_items_by_name : DefOk (top 4) d_items_by_name (defs.map (·.name)) consts := ⟨rfl, ⟨rfl, rfl, rfl, by decide +kernel, rfl, by decide +kernel, by decide +kernel⟩, by decide +kernel, by decide +kernel, fun _ _ _ _ _ _ us hl => match us, hl with | [_], _ => rfl⟩
theorem o_kind_of : DefOk (top 6) d_kind_of (defs.map (·.name)) consts := ⟨rfl, ⟨rfl, rfl, rfl, by decide +kernel, rfl, by decide +kernel, by decide +kernel⟩, by decide +kernel, by decide +kernel, fun _ _ _ _ _ _ us hl => match us, hl with | [_], _ => rfl⟩
theorem o_lasts : DefOk (top 7) d_lasts (defs.map (·.name)) consts := ⟨rfl, ⟨rfl, rfl, rfl, by decide +kernel, rfl, by decide +kernel, by decide +kernel⟩, by decide +kernel, by decide +kernel, fun _ _ _ _ _ _ us hl => match us, hl with | [_], _ => rfl⟩
theorem o_inner : DefOk (top 8) d_inner (defs.map (·.name)) consts := ⟨rfl, ⟨rfl, rfl, rfl, by decide +kernel, rfl, by decide +kernel, by decide +kernel⟩, by decide +kernel, by decide +kernel, fun _ _ _ _ _ _ us hl => match us, hl with | [_, _], _ => rfl⟩
theorem o_ends_at_go : DefOk (top 9) d_ends_at_go (defs.map (·.name)) consts := ⟨rfl, ⟨rfl, rfl, rfl, by decide +kernel, rfl, by decide +kernel, by decide +kernel⟩, by decide +kernel, by decide +kernel, fun _ _ _ _ _ _ us hl => match us, hl with | [_], _ => rfl⟩
theorem o_has_go : DefOk (top 10) d_has_go (defs.map (·.name)) consts := ⟨rfl, ⟨rfl, rfl, rfl, by decide +kernel, rfl, by decide +kernel, by decide +kernel⟩, by decide +kernel, by decide +kernel, fun _ _ _ _ _ _ us hl => match us, hl with | [_], _ => rfl⟩
theorem o_steady : DefOk (top 12) d_steady (defs.map (·.name)) consts := ⟨rfl, ⟨rfl, rfl, rfl, by decide +kernel, rfl, by decide +kernel, by decide +kernel⟩, by decide +kernel, by decide +kernel, fun _ _ _ _ _ _ us hl => match us, hl with | [_, _], _ => rfl⟩
theorem o_is_steady : DefOk (top 13) d_is_steady (defs.map (·.name)) consts := ⟨rfl, ⟨rfl, rfl, rfl, by decide +kernel, rfl, by decide +kernel, by decide +kernel⟩, by decide +kernel, by decide +kernel, fun _ _ _ _ _ _ us hl => match us, hl with | [_], _ => rfl⟩
theorem o_law_cell_at : DefOk (top 15) d_law_cell_at (defs.map (·.name)) consts := ⟨rfl, ⟨rfl, rfl, rfl, by decide +kernel, rfl, by decide +kernel, by decide +kernel⟩, by decide +kernel, by decide +kernel, fun _ _ _ _ _ _ us hl => match us, hl with | [_, _], _ => rfl⟩
theorem o_law_names : DefOk (top 16) d_law_names (defs.map (·.name)) consts := ⟨rfl, ⟨rfl, rfl, rfl, by decide +kernel, rfl, by decide +kernel, by decide +kernel⟩, by decide +kernel, by decide +kernel, fun _ _ _ _ _ _ us hl => match us, hl with | [_, _], _ => rfl⟩
theorem o_law_draw : DefOk (top 17) d_law_draw (defs.map (·.name)) consts := ⟨rfl, ⟨rfl, rfl, rfl, by decide +kernel, rfl, by decide +kernel, by decide +kernel⟩, by decide +kernel, by decide +kernel, fun _ _ _ _ _ _ us hl => match us, hl with | [_, _], _ => rfl⟩
theorem o_law_expression : DefOk (top 18) d_law_expression (defs.map (·.name)) consts := ⟨rfl, ⟨rfl, rfl, rfl, by decide +kernel, rfl, by decide +kernel, by decide +kernel⟩, by decide +kernel, by decide +kernel, fun _ _ _ _ _ _ us hl => match us, hl with | [_, _, _], _ => rfl⟩
theorem o_law_go : DefOk (top 19) d_law_go (defs.map (·.name)) consts := ⟨rfl, ⟨rfl, rfl, rfl, by decide +kernel, rfl, by decide +kernel, by decide +kernel⟩, by decide +kernel, by decide +kernel, fun _ _ _ _ _ _ us hl => match us, hl with | [_, _, _, _, _], _ => rfl⟩
theorem o_law_clause : DefOk (top 20) d_law_clause (defs.map (·.name)) consts := ⟨rfl, ⟨rfl, rfl, rfl, by decide +kernel, rfl, by decide +kernel, by decide +kernel⟩, by decide +kernel, by decide +kernel, fun _ _ _ _ _ _ us hl => match us, hl with | [_, _, _, _, _, _], _ => rfl⟩
theorem o_law_handler : DefOk (top 21) d_law_handler (defs.map (·.name)) consts := ⟨rfl, ⟨rfl, rfl, rfl, by decide +kernel, rfl, by decide +kernel, by decide +kernel⟩, by decide +kernel, by decide +kernel, fun _ _ _ _ _ _ us hl => match us, hl with | [_, _, _, _, _], _ => rfl⟩
theorem o_law : DefOk (top 22) d_law (defs.map (·.name)) consts := ⟨rfl, ⟨rfl, rfl, rfl, by decide +kernel, rfl, by decide +kernel, by decide +kernel⟩, by decide +kernel, by decide +kernel, fun _ _ _ _ _ _ us hl => match us, hl with | [_], _ => rfl⟩
theorem all_mk {l : PySem.W.OpenLaw} {w : World} {K : PySem.W.Frag} {h : Heap} {mg : Str → Option Value} {fa f0 f1 f2 f3 f4 f5 f6 f7 f8 f9 f10 f11 f12 f13 f14 f15 f16 f17 : Addr} (X : K.In h) (G : h.Ns mainGlobals mg) (hfa : mg "law" = some (.ref fa))
    {od0 an0 : Option Addr} {sl0 : Array (Option Value)} {oc0 kV0 dc0 pm0 cd0 ct0 : Value}
    {od1 an1 : Option Addr} {sl1 : Array (Option Value)} {oc1 kV1 dc1 pm1 cd1 ct1 : Value}
    {od2 an2 : Option Addr} {sl2 : Array (Option Value)} {oc2 kV2 dc2 pm2 cd2 ct2 : Value}
    {od3 an3 : Option Addr} {sl3 : Array (Option Value)} {oc3 kV3 dc3 pm3 cd3 ct3 : Value}
    {od4 an4 : Option Addr} {sl4 : Array (Option Value)} {oc4 kV4 dc4 pm4 cd4 ct4 : Value}
    {od5 an5 : Option Addr} {sl5 : Array (Option Value)} {oc5 kV5 dc5 pm5 cd5 ct5 : Value}
    {od6 an6 : Option Addr} {sl6 : Array (Option Value)} {oc6 kV6 dc6 pm6 cd6 ct6 : Value}
    {od7 an7 : Option Addr} {sl7 : Array (Option Value)} {oc7 kV7 dc7 pm7 cd7 ct7 : Value}
    {od8 an8 : Option Addr} {sl8 : Array (Option Value)} {oc8 kV8 dc8 pm8 cd8 ct8 : Value}
    {od9 an9 : Option Addr} {sl9 : Array (Option Value)} {oc9 kV9 dc9 pm9 cd9 ct9 : Value}
    {od10 an10 : Option Addr} {sl10 : Array (Option Value)} {oc10 kV10 dc10 pm10 cd10 ct10 : Value}
    {od11 an11 : Option Addr} {sl11 : Array (Option Value)} {oc11 kV11 dc11 pm11 cd11 ct11 : Value}
    {od12 an12 : Option Addr} {sl12 : Array (Option Value)} {oc12 kV12 dc12 pm12 cd12 ct12 : Value}
    {od13 an13 : Option Addr} {sl13 : Array (Option Value)} {oc13 kV13 dc13 pm13 cd13 ct13 : Value}
    {od14 an14 : Option Addr} {sl14 : Array (Option Value)} {oc14 kV14 dc14 pm14 cd14 ct14 : Value}
    {od15 an15 : Option Addr} {sl15 : Array (Option Value)} {oc15 kV15 dc15 pm15 cd15 ct15 : Value}
    {od16 an16 : Option Addr} {sl16 : Array (Option Value)} {oc16 kV16 dc16 pm16 cd16 ct16 : Value}
    {od17 an17 : Option Addr} {sl17 : Array (Option Value)} {oc17 kV17 dc17 pm17 cd17 ct17 : Value}
    (a0 : PySem.W.nsIn K mainGlobals "parts_of" = some (some (.ref f0))) (l0 : K.lookup f0 = some ⟨oc0, od0, .func (PySem.W.fnOf "parts_of" "parts_of" (defArgs (top 2)) (defBody (top 2)) (defScope (top 2)) .none kV0 dc0 pm0 an0 cd0 ct0), sl0⟩) (c0 : PySem.W.codeIn K cd0 "parts_of" = true) (k0 : PySem.W.keepIn K (.ref f0) = true)
    (a1 : PySem.W.nsIn K mainGlobals "all_within" = some (some (.ref f1))) (l1 : K.lookup f1 = some ⟨oc1, od1, .func (PySem.W.fnOf "all_within" "all_within" (defArgs (top 3)) (defBody (top 3)) (defScope (top 3)) .none kV1 dc1 pm1 an1 cd1 ct1), sl1⟩) (c1 : PySem.W.codeIn K cd1 "all_within" = true) (k1 : PySem.W.keepIn K (.ref f1) = true)
    (a2 : PySem.W.nsIn K mainGlobals "items_by_name" = some (some (.ref f2))) (l2 : K.lookup f2 = some ⟨oc2, od2, .func (PySem.W.fnOf "items_by_name" "items_by_name" (defArgs (top 4)) (defBody (top 4)) (defScope (top 4)) .none kV2 dc2 pm2 an2 cd2 ct2), sl2⟩) (c2 : PySem.W.codeIn K cd2 "items_by_name" = true) (k2 : PySem.W.keepIn K (.ref f2) = true)
    (a3 : PySem.W.nsIn K mainGlobals "kind_of" = some (some (.ref f3))) (l3 : K.lookup f3 = some ⟨oc3, od3, .func (PySem.W.fnOf "kind_of" "kind_of" (defArgs (top 6)) (defBody (top 6)) (defScope (top 6)) .none kV3 dc3 pm3 an3 cd3 ct3), sl3⟩) (c3 : PySem.W.codeIn K cd3 "kind_of" = true) (k3 : PySem.W.keepIn K (.ref f3) = true)
    (a4 : PySem.W.nsIn K mainGlobals "lasts" = some (some (.ref f4))) (l4 : K.lookup f4 = some ⟨oc4, od4, .func (PySem.W.fnOf "lasts" "lasts" (defArgs (top 7)) (defBody (top 7)) (defScope (top 7)) .none kV4 dc4 pm4 an4 cd4 ct4), sl4⟩) (c4 : PySem.W.codeIn K cd4 "lasts" = true) (k4 : PySem.W.keepIn K (.ref f4) = true)
    (a5 : PySem.W.nsIn K mainGlobals "inner" = some (some (.ref f5))) (l5 : K.lookup f5 = some ⟨oc5, od5, .func (PySem.W.fnOf "inner" "inner" (defArgs (top 8)) (defBody (top 8)) (defScope (top 8)) .none kV5 dc5 pm5 an5 cd5 ct5), sl5⟩) (c5 : PySem.W.codeIn K cd5 "inner" = true) (k5 : PySem.W.keepIn K (.ref f5) = true)
    (a6 : PySem.W.nsIn K mainGlobals "ends_at_go" = some (some (.ref f6))) (l6 : K.lookup f6 = some ⟨oc6, od6, .func (PySem.W.fnOf "ends_at_go" "ends_at_go" (defArgs (top 9)) (defBody (top 9)) (defScope (top 9)) .none kV6 dc6 pm6 an6 cd6 ct6), sl6⟩) (c6 : PySem.W.codeIn K cd6 "ends_at_go" = true) (k6 : PySem.W.keepIn K (.ref f6) = true)
    (a7 : PySem.W.nsIn K mainGlobals "has_go" = some (some (.ref f7))) (l7 : K.lookup f7 = some ⟨oc7, od7, .func (PySem.W.fnOf "has_go" "has_go" (defArgs (top 10)) (defBody (top 10)) (defScope (top 10)) .none kV7 dc7 pm7 an7 cd7 ct7), sl7⟩) (c7 : PySem.W.codeIn K cd7 "has_go" = true) (k7 : PySem.W.keepIn K (.ref f7) = true)
    (a8 : PySem.W.nsIn K mainGlobals "steady" = some (some (.ref f8))) (l8 : K.lookup f8 = some ⟨oc8, od8, .func (PySem.W.fnOf "steady" "steady" (defArgs (top 12)) (defBody (top 12)) (defScope (top 12)) .none kV8 dc8 pm8 an8 cd8 ct8), sl8⟩) (c8 : PySem.W.codeIn K cd8 "steady" = true) (k8 : PySem.W.keepIn K (.ref f8) = true)
    (a9 : PySem.W.nsIn K mainGlobals "is_steady" = some (some (.ref f9))) (l9 : K.lookup f9 = some ⟨oc9, od9, .func (PySem.W.fnOf "is_steady" "is_steady" (defArgs (top 13)) (defBody (top 13)) (defScope (top 13)) .none kV9 dc9 pm9 an9 cd9 ct9), sl9⟩) (c9 : PySem.W.codeIn K cd9 "is_steady" = true) (k9 : PySem.W.keepIn K (.ref f9) = true)
    (a10 : PySem.W.nsIn K mainGlobals "_law_cell_at" = some (some (.ref f10))) (l10 : K.lookup f10 = some ⟨oc10, od10, .func (PySem.W.fnOf "_law_cell_at" "_law_cell_at" (defArgs (top 15)) (defBody (top 15)) (defScope (top 15)) .none kV10 dc10 pm10 an10 cd10 ct10), sl10⟩) (c10 : PySem.W.codeIn K cd10 "_law_cell_at" = true) (k10 : PySem.W.keepIn K (.ref f10) = true)
    (a11 : PySem.W.nsIn K mainGlobals "_law_names" = some (some (.ref f11))) (l11 : K.lookup f11 = some ⟨oc11, od11, .func (PySem.W.fnOf "_law_names" "_law_names" (defArgs (top 16)) (defBody (top 16)) (defScope (top 16)) .none kV11 dc11 pm11 an11 cd11 ct11), sl11⟩) (c11 : PySem.W.codeIn K cd11 "_law_names" = true) (k11 : PySem.W.keepIn K (.ref f11) = true)
    (a12 : PySem.W.nsIn K mainGlobals "_law_draw" = some (some (.ref f12))) (l12 : K.lookup f12 = some ⟨oc12, od12, .func (PySem.W.fnOf "_law_draw" "_law_draw" (defArgs (top 17)) (defBody (top 17)) (defScope (top 17)) .none kV12 dc12 pm12 an12 cd12 ct12), sl12⟩) (c12 : PySem.W.codeIn K cd12 "_law_draw" = true) (k12 : PySem.W.keepIn K (.ref f12) = true)
    (a13 : PySem.W.nsIn K mainGlobals "_law_expression" = some (some (.ref f13))) (l13 : K.lookup f13 = some ⟨oc13, od13, .func (PySem.W.fnOf "_law_expression" "_law_expression" (defArgs (top 18)) (defBody (top 18)) (defScope (top 18)) .none kV13 dc13 pm13 an13 cd13 ct13), sl13⟩) (c13 : PySem.W.codeIn K cd13 "_law_expression" = true) (k13 : PySem.W.keepIn K (.ref f13) = true)
    (a14 : PySem.W.nsIn K mainGlobals "_law_go" = some (some (.ref f14))) (l14 : K.lookup f14 = some ⟨oc14, od14, .func (PySem.W.fnOf "_law_go" "_law_go" (defArgs (top 19)) (defBody (top 19)) (defScope (top 19)) .none kV14 dc14 pm14 an14 cd14 ct14), sl14⟩) (c14 : PySem.W.codeIn K cd14 "_law_go" = true) (k14 : PySem.W.keepIn K (.ref f14) = true)
    (a15 : PySem.W.nsIn K mainGlobals "_law_clause" = some (some (.ref f15))) (l15 : K.lookup f15 = some ⟨oc15, od15, .func (PySem.W.fnOf "_law_clause" "_law_clause" (defArgs (top 20)) (defBody (top 20)) (defScope (top 20)) .none kV15 dc15 pm15 an15 cd15 ct15), sl15⟩) (c15 : PySem.W.codeIn K cd15 "_law_clause" = true) (k15 : PySem.W.keepIn K (.ref f15) = true)
    (a16 : PySem.W.nsIn K mainGlobals "_law_handler" = some (some (.ref f16))) (l16 : K.lookup f16 = some ⟨oc16, od16, .func (PySem.W.fnOf "_law_handler" "_law_handler" (defArgs (top 21)) (defBody (top 21)) (defScope (top 21)) .none kV16 dc16 pm16 an16 cd16 ct16), sl16⟩) (c16 : PySem.W.codeIn K cd16 "_law_handler" = true) (k16 : PySem.W.keepIn K (.ref f16) = true)
    (a17 : PySem.W.nsIn K mainGlobals "law" = some (some (.ref f17))) (l17 : K.lookup f17 = some ⟨oc17, od17, .func (PySem.W.fnOf "law" "law" (defArgs (top 22)) (defBody (top 22)) (defScope (top 22)) .none kV17 dc17 pm17 an17 cd17 ct17), sl17⟩) (c17 : PySem.W.codeIn K cd17 "law" = true) (k17 : PySem.W.keepIn K (.ref f17) = true)
    (z0 : PySem.W.nsIn K mainGlobals "len" = some none)
    (z1 : PySem.W.nsIn K mainGlobals "isinstance" = some none)
    (z2 : PySem.W.nsIn K mainGlobals "int" = some none)
    (z3 : PySem.W.nsIn K mainGlobals "bool" = some none)
    (z4 : PySem.W.nsIn K mainGlobals "str" = some none)
    (z5 : PySem.W.nsIn K mainGlobals "tuple" = some none)
    (z6 : PySem.W.nsIn K mainGlobals "list" = some none)
    (z7 : PySem.W.nsIn K mainGlobals "range" = some none)
    (z8 : PySem.W.nsIn K mainGlobals "max" = some none)
    (z9 : PySem.W.nsIn K mainGlobals "min" = some none)
    (z10 : PySem.W.nsIn K mainGlobals "sum" = some none)
    (z11 : PySem.W.nsIn K mainGlobals "all" = some none)
    (z12 : PySem.W.nsIn K mainGlobals "any" = some none)
    (z13 : PySem.W.nsIn K mainGlobals "zip" = some none)
    (z14 : PySem.W.nsIn K mainGlobals "reversed" = some none)
    (z15 : PySem.W.nsIn K mainGlobals "sorted" = some none)
    (z16 : PySem.W.nsIn K mainGlobals "set" = some none)
    (z17 : PySem.W.nsIn K mainGlobals "enumerate" = some none)
    (z18 : PySem.W.nsIn K mainGlobals "dict" = some none)
    (z19 : PySem.W.nsIn K mainGlobals "abs" = some none)
    {gc0 : Addr} {es0 : Array DictEntry} {ep0 : Nat} (ga0 : PySem.W.nsIn K mainGlobals "FIRST_PART" = some (some (.ref gc0))) (gl0 : K.lookup gc0 = some { cls := .type "dict", data := .dict es0 ep0 }) (ge0 : EntsOk w K es0.toList g_FIRST_PART)
    : ∃ fd : FuncData, (∀ (s : Shared) (v : Value), BindsTo s fd ⟨[v], []⟩ [("_law_script", v)]) ∧ ∀ base : Heap, K.In base → base.Ns mainGlobals mg → FnOk l.prog w K mg base (CXs l.prog w) 9 fa fd ["_law_script"] (spLaw K (callI defs 9 17)) := by
  have e := hfa.symm.trans (PySem.W.mg_of X G a17)
  cases e
  have T : Tab l.prog w K mg defs consts := by
    refine ⟨fun x hx => ?_, fun x c hx => ?_, fun i d hd => ?_⟩
    · simp only [bnames, List.mem_cons, List.not_mem_nil, or_false] at hx
      rcases hx with rfl | rfl | rfl | rfl | rfl | rfl | rfl | rfl | rfl | rfl | rfl | rfl | rfl | rfl | rfl | rfl | rfl | rfl | rfl | rfl
      · exact PySem.W.mg_none_of X G z0
      · exact PySem.W.mg_none_of X G z1
      · exact PySem.W.mg_none_of X G z2
      · exact PySem.W.mg_none_of X G z3
      · exact PySem.W.mg_none_of X G z4
      · exact PySem.W.mg_none_of X G z5
      · exact PySem.W.mg_none_of X G z6
      · exact PySem.W.mg_none_of X G z7
      · exact PySem.W.mg_none_of X G z8
      · exact PySem.W.mg_none_of X G z9
      · exact PySem.W.mg_none_of X G z10
      · exact PySem.W.mg_none_of X G z11
      · exact PySem.W.mg_none_of X G z12
      · exact PySem.W.mg_none_of X G z13
      · exact PySem.W.mg_none_of X G z14
      · exact PySem.W.mg_none_of X G z15
      · exact PySem.W.mg_none_of X G z16
      · exact PySem.W.mg_none_of X G z17
      · exact PySem.W.mg_none_of X G z18
      · exact PySem.W.mg_none_of X G z19
    · simp only [consts, List.mem_cons, List.not_mem_nil, or_false] at hx
      rcases hx with ⟨rfl, rfl⟩
      · exact ⟨by decide, _, PySem.W.mg_of X G ga0, cn_dic gl0 ge0 (by decide)⟩
    · match i, hd with
      | 0, hd => cases hd; exact ⟨by decide, _, _, _, PySem.W.mg_of X G a0, fun_mk (st := top 2) l0 c0 k0, o_parts_of⟩
      | 1, hd => cases hd; exact ⟨by decide, _, _, _, PySem.W.mg_of X G a1, fun_mk (st := top 3) l1 c1 k1, o_all_within⟩
      | 2, hd => cases hd; exact ⟨by decide, _, _, _, PySem.W.mg_of X G a2, fun_mk (st := top 4) l2 c2 k2, o_items_by_name⟩
      | 3, hd => cases hd; exact ⟨by decide, _, _, _, PySem.W.mg_of X G a3, fun_mk (st := top 6) l3 c3 k3, o_kind_of⟩
      | 4, hd => cases hd; exact ⟨by decide, _, _, _, PySem.W.mg_of X G a4, fun_mk (st := top 7) l4 c4 k4, o_lasts⟩
      | 5, hd => cases hd; exact ⟨by decide, _, _, _, PySem.W.mg_of X G a5, fun_mk (st := top 8) l5 c5 k5, o_inner⟩
      | 6, hd => cases hd; exact ⟨by decide, _, _, _, PySem.W.mg_of X G a6, fun_mk (st := top 9) l6 c6 k6, o_ends_at_go⟩
      | 7, hd => cases hd; exact ⟨by decide, _, _, _, PySem.W.mg_of X G a7, fun_mk (st := top 10) l7 c7 k7, o_has_go⟩
      | 8, hd => cases hd; exact ⟨by decide, _, _, _, PySem.W.mg_of X G a8, fun_mk (st := top 12) l8 c8 k8, o_steady⟩
      | 9, hd => cases hd; exact ⟨by decide, _, _, _, PySem.W.mg_of X G a9, fun_mk (st := top 13) l9 c9 k9, o_is_steady⟩
      | 10, hd => cases hd; exact ⟨by decide, _, _, _, PySem.W.mg_of X G a10, fun_mk (st := top 15) l10 c10 k10, o_law_cell_at⟩
      | 11, hd => cases hd; exact ⟨by decide, _, _, _, PySem.W.mg_of X G a11, fun_mk (st := top 16) l11 c11 k11, o_law_names⟩
      | 12, hd => cases hd; exact ⟨by decide, _, _, _, PySem.W.mg_of X G a12, fun_mk (st := top 17) l12 c12 k12, o_law_draw⟩
      | 13, hd => cases hd; exact ⟨by decide, _, _, _, PySem.W.mg_of X G a13, fun_mk (st := top 18) l13 c13 k13, o_law_expression⟩
      | 14, hd => cases hd; exact ⟨by decide, _, _, _, PySem.W.mg_of X G a14, fun_mk (st := top 19) l14 c14 k14, o_law_go⟩
      | 15, hd => cases hd; exact ⟨by decide, _, _, _, PySem.W.mg_of X G a15, fun_mk (st := top 20) l15 c15 k15, o_law_clause⟩
      | 16, hd => cases hd; exact ⟨by decide, _, _, _, PySem.W.mg_of X G a16, fun_mk (st := top 21) l16 c16 k16, o_law_handler⟩
      | 17, hd => cases hd; exact ⟨by decide, _, _, _, PySem.W.mg_of X G a17, fun_mk (st := top 22) l17 c17 k17, o_law⟩
      | n + 18, hd => exact absurd hd (by simp [defs])
  refine ⟨PySem.W.fnOf "law" "law" (defArgs (top 22)) (defBody (top 22)) (defScope (top 22)) .none kV17 dc17 pm17 an17 cd17 ct17, fun s v => .of_eq rfl, fun base _ _ => ?_⟩
  exact all_fn T 9 17 d_law (top 22) _ _ rfl (PySem.W.mg_of X G a17) (fun_mk (st := top 22) l17 c17 k17) o_law
end K81
open PySem PySem.W
set_option maxRecDepth 100000 in
set_option maxHeartbeats 0 in
theorem PySem.Challenge.cw_deedwright_k81_steady_handlers_holds : PySem.Challenge.rw_deedwright_k81_steady_handlers.Holds := by
  w_on; o_law; k_head; (case hw => w_witness2)
  k_fill
  refine PI.walk_ofB (l := PySem.Challenge.rw_deedwright_k81_steady_handlers) (k := 9) (c := PI.callI K81.defs 9 17) (x := "_law_script") rfl rfl ⟨rfl, by decide, by decide⟩ (fun w h Y => PySem.W.kIn_of Y) ?F ?S
  case F =>
    intro w mg fa h KX G hmg
    refine' K81.all_mk (l := PySem.Challenge.rw_deedwright_k81_steady_handlers) (w := w) KX G hmg ?a0 ?l0 ?c0 ?k0 ?a1 ?l1 ?c1 ?k1 ?a2 ?l2 ?c2 ?k2 ?a3 ?l3 ?c3 ?k3 ?a4 ?l4 ?c4 ?k4 ?a5 ?l5 ?c5 ?k5 ?a6 ?l6 ?c6 ?k6 ?a7 ?l7 ?c7 ?k7 ?a8 ?l8 ?c8 ?k8 ?a9 ?l9 ?c9 ?k9 ?a10 ?l10 ?c10 ?k10 ?a11 ?l11 ?c11 ?k11 ?a12 ?l12 ?c12 ?k12 ?a13 ?l13 ?c13 ?k13 ?a14 ?l14 ?c14 ?k14 ?a15 ?l15 ?c15 ?k15 ?a16 ?l16 ?c16 ?k16 ?a17 ?l17 ?c17 ?k17 ?z0 ?z1 ?z2 ?z3 ?z4 ?z5 ?z6 ?z7 ?z8 ?z9 ?z10 ?z11 ?z12 ?z13 ?z14 ?z15 ?z16 ?z17 ?z18 ?z19 ?ga0 ?gl0 ?ge0
    (case a0 => k_is)
    (case l0 => k_is)
    (case c0 => k_is)
    (case k0 => k_is)
    (case a1 => k_is)
    (case l1 => k_is)
    (case c1 => k_is)
    (case k1 => k_is)
    (case a2 => k_is)
    (case l2 => k_is)
    (case c2 => k_is)
    (case k2 => k_is)
    (case a3 => k_is)
    (case l3 => k_is)
    (case c3 => k_is)
    (case k3 => k_is)
    (case a4 => k_is)
    (case l4 => k_is)
    (case c4 => k_is)
    (case k4 => k_is)
    (case a5 => k_is)
    (case l5 => k_is)
    (case c5 => k_is)
    (case k5 => k_is)
    (case a6 => k_is)
    (case l6 => k_is)
    (case c6 => k_is)
    (case k6 => k_is)
    (case a7 => k_is)
    (case l7 => k_is)
    (case c7 => k_is)
    (case k7 => k_is)
    (case a8 => k_is)
    (case l8 => k_is)
    (case c8 => k_is)
    (case k8 => k_is)
    (case a9 => k_is)
    (case l9 => k_is)
    (case c9 => k_is)
    (case k9 => k_is)
    (case a10 => k_is)
    (case l10 => k_is)
    (case c10 => k_is)
    (case k10 => k_is)
    (case a11 => k_is)
    (case l11 => k_is)
    (case c11 => k_is)
    (case k11 => k_is)
    (case a12 => k_is)
    (case l12 => k_is)
    (case c12 => k_is)
    (case k12 => k_is)
    (case a13 => k_is)
    (case l13 => k_is)
    (case c13 => k_is)
    (case k13 => k_is)
    (case a14 => k_is)
    (case l14 => k_is)
    (case c14 => k_is)
    (case k14 => k_is)
    (case a15 => k_is)
    (case l15 => k_is)
    (case c15 => k_is)
    (case k15 => k_is)
    (case a16 => k_is)
    (case l16 => k_is)
    (case c16 => k_is)
    (case k16 => k_is)
    (case a17 => k_is)
    (case l17 => k_is)
    (case c17 => k_is)
    (case k17 => k_is)
    (case z0 => k_is)
    (case z1 => k_is)
    (case z2 => k_is)
    (case z3 => k_is)
    (case z4 => k_is)
    (case z5 => k_is)
    (case z6 => k_is)
    (case z7 => k_is)
    (case z8 => k_is)
    (case z9 => k_is)
    (case z10 => k_is)
    (case z11 => k_is)
    (case z12 => k_is)
    (case z13 => k_is)
    (case z14 => k_is)
    (case z15 => k_is)
    (case z16 => k_is)
    (case z17 => k_is)
    (case z18 => k_is)
    (case z19 => k_is)
    (case ga0 => k_is)
    (case gl0 => k_is)
    (case ge0 => (refine ⟨⟨rfl, ⟨_, rfl⟩, ?hx⟩, ?hr⟩; (case hx => exact ⟨_, rfl⟩); (case hr => (refine ⟨⟨rfl, ⟨_, rfl⟩, ?hx⟩, ?hr⟩; (case hx => exact ⟨_, rfl⟩); (case hr => (refine ⟨⟨rfl, ⟨_, rfl⟩, ?hx⟩, ?hr⟩; (case hx => exact ⟨_, rfl⟩); (case hr => (refine ⟨⟨rfl, ⟨_, rfl⟩, ?hx⟩, ?hr⟩; (case hx => exact ⟨_, rfl⟩); (case hr => (refine ⟨⟨rfl, ⟨_, rfl⟩, ?hx⟩, ?hr⟩; (case hx => exact ⟨_, rfl⟩); (case hr => (refine ⟨⟨rfl, ⟨_, rfl⟩, ?hx⟩, ?hr⟩; (case hx => exact ⟨_, rfl⟩); (case hr => (refine ⟨⟨rfl, ⟨_, rfl⟩, ?hx⟩, ?hr⟩; (case hx => exact ⟨_, rfl⟩); (case hr => (refine ⟨⟨rfl, ⟨_, rfl⟩, ?hx⟩, ?hr⟩; (case hx => exact ⟨_, rfl⟩); (case hr => (refine ⟨⟨rfl, ⟨_, rfl⟩, ?hx⟩, ?hr⟩; (case hx => exact ⟨_, rfl⟩); (case hr => exact trivial)))))))))))))))))))
  case S =>
    exact fun ns _ hb => K81.law_true ns fun n hn => decide_eq_true (hb n hn)
#print axioms PySem.Challenge.cw_deedwright_k81_steady_handlers_holds
